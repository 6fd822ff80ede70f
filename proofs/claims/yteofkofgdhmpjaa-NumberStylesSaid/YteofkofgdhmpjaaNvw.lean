/- The laws as the rows take them (Format, Group). -/
import Derived.Test.YteofkofgdhmpjaaNvd
import Derived.Test.YteofkofgdhmpjaaNve
import Derived.Test.YteofkofgdhmpjaaNuj
import Derived.Test.YteofkofgdhmpjaaNul
namespace Go.Proofs.Yteofkofgdhmpjaa
open Go.RowKit
theorem len_of {s : ByteArray} (h : s.size ≤ maxLen) : s.data.toList.length ≤ 9223372036854775807 := by rw [len_data]; exact h
theorem numberFormat_in (x : SyN) (n sty : ByteArray) (w : World) (b : BndY x) (h1 : n.size ≤ maxLen) (h2 : sty.size ≤ maxLen) (E : MaxL w) : Calls Try.prog 3 #[.agg #[.string (ofL x.de), .string (ofL x.gr), .string (ofL x.mi), .string (ofL x.pe), .int .i64 x.pr, .int .i64 x.se], .string n, .string sty] w fun e w' => e = .returned (.bool true) ∧ Below w.heap.size w w' := by
  have := numberFormat_walk nuC x b.p1 b.p2 b.s1 b.s2 n.data.toList sty.data.toList (len_of h1) (len_of h2) w E
  rw [of_data, of_data] at this
  exact this
theorem numberGroup_in (x : SyN) (n : ByteArray) (w : World) (b : BndY x) (h1 : n.size ≤ maxLen) (E : MaxL w) : Calls Try.prog 4 #[.agg #[.string (ofL x.de), .string (ofL x.gr), .string (ofL x.mi), .string (ofL x.pe), .int .i64 x.pr, .int .i64 x.se], .string n] w fun e w' => e = .returned (.bool true) ∧ Below w.heap.size w w' := by
  have := numberGroup_walk nuC x b.p1 b.p2 b.s1 b.s2 n.data.toList (len_of h1) w E
  rw [of_data] at this
  exact this
end Go.Proofs.Yteofkofgdhmpjaa
