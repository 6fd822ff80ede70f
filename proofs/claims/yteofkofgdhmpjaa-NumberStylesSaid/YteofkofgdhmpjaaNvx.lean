/- The law as the row takes it (Styles). -/
import Derived.Test.YteofkofgdhmpjaaNvw
import Derived.Test.YteofkofgdhmpjaaNum
namespace Go.Proofs.Yteofkofgdhmpjaa
open Go.RowKit
theorem numberStyles_in (x : SyN) (n : ByteArray) (w : World) (b : BndY x) (h1 : n.size ≤ maxLen) (E : MaxL w) : Calls Try.prog 5 #[.agg #[.string (ofL x.de), .string (ofL x.gr), .string (ofL x.mi), .string (ofL x.pe), .int .i64 x.pr, .int .i64 x.se], .string n] w fun e w' => e = .returned (.bool true) ∧ Below w.heap.size w w' := by
  have := numberStyles_walk nuC x b.p1 b.p2 b.s1 b.s2 n.data.toList (len_of h1) w E
  rw [of_data] at this
  exact this
end Go.Proofs.Yteofkofgdhmpjaa
