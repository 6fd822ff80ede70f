/- The laws as the rows take them (Parse, Inverse). -/
import Derived.Test.YteofkofgdhmpjaaDoorNwe
import Derived.Test.YteofkofgdhmpjaaDoorNve
import Derived.Test.YteofkofgdhmpjaaDoorNuk
namespace Go.Proofs.YteofkofgdhmpjaaDoor
open Go.RowKit
theorem len_of {s : ByteArray} (h : s.size ≤ maxLen) : s.data.toList.length ≤ 9223372036854775807 := by rw [len_data]; exact h
theorem numberParse_in (x : SyN) (n : ByteArray) (w : World) (b : BndY x) (h1 : n.size ≤ maxLen) (E : MaxL w) : Calls Tryd.prog 3 #[.agg #[.string (ofL x.de), .string (ofL x.gr), .string (ofL x.mi), .string (ofL x.pe), .int .i64 x.pr, .int .i64 x.se], .string n] w fun e w' => e = .returned (.bool true) ∧ Below w.heap.size w w' := by
  have := numberParse_walk nuC x b.p1 b.p2 b.s1 b.s2 n.data.toList (len_of h1) w E
  rw [of_data] at this
  exact this
theorem numberInverse_in (x : SyN) (n : ByteArray) (w : World) (b : BndY x) (h1 : n.size ≤ maxLen) (E : MaxL w) : Calls Tryd.prog 4 #[.agg #[.string (ofL x.de), .string (ofL x.gr), .string (ofL x.mi), .string (ofL x.pe), .int .i64 x.pr, .int .i64 x.se], .string n] w fun e w' => e = .returned (.bool true) ∧ Below w.heap.size w w' := by
  have := numberInverse_walk nuC x b.p1 b.p2 b.s1 b.s2 n.data.toList (len_of h1) w E
  rw [of_data] at this
  exact this
end Go.Proofs.YteofkofgdhmpjaaDoor
