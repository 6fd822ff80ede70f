/- Of the program: aligned, compareStrings, Compare, Same. -/
import Derived.Test.YteofkofgdhmpjaaDoorKj
namespace Go.Proofs.YteofkofgdhmpjaaDoor
open Go.RowKit
set_option linter.unusedVariables false

theorem wrap_fit {x : Int} (h0 : -9223372036854775808 ≤ x) (h1 : x ≤ 9223372036854775807) : IntKind.i64.wrap x = x := by
  rw [IntKind.wrap_i64]; omega
/-- The digits of a number, all numbers with their points at the same place. -/
def al (x : Num) : Str := zs (15 - x.wh.length) ++ (x.wh ++ (x.fr ++ zs (6 - x.fr.length)))
theorem rdv4 (w : World) (v1 v2 v3 v4 : Value) : Rd 1 encV (w.alloc (.cells #[v1, v2, v3, v4] 52)) (.slice (some ⟨w.heap.size, 0, none⟩) 4 4) [v1, v2, v3, v4] := by
  have k := Blk.new w 52 #[v1, v2, v3, v4]
  refine ⟨⟨_, 4, rfl, Nat.le_refl _, by omega, fun _ => ⟨w.heap.size, 0, rfl, k.lt, fun i u hi j v hv => ?_⟩⟩, fun n c hc => by cases hc⟩
  have hj : j = 0 := by have := (List.getElem?_eq_some_iff.1 hv).1; simp [encV] at this; exact this
  subst hj
  simp [encV] at hv
  subst hv
  rw [k.cell]
  have hi3 := (List.getElem?_eq_some_iff.1 hi).1
  simp at hi3
  obtain rfl | rfl | rfl | rfl : i = 0 ∨ i = 1 ∨ i = 2 ∨ i = 3 := by omega
  all_goals (simp at hi; subst hi; rfl)
theorem rdl4 {w : World} {v1 v2 v3 v4 : Value} {l1 l2 l3 l4 : Str} (h1 : RdB w v1 l1) (h2 : RdB w v2 l2) (h3 : RdB w v3 l3) (h4 : RdB w v4 l4) : RdL w [v1, v2, v3, v4] [l1, l2, l3, l4] := by
  refine ⟨rfl, fun i v l hv hl => ?_⟩
  have hi3 := (List.getElem?_eq_some_iff.1 hv).1
  simp at hi3
  obtain rfl | rfl | rfl | rfl : i = 0 ∨ i = 1 ∨ i = 2 ∨ i = 3 := by omega
  all_goals (simp at hv hl; subst hv hl; assumption)
end Go.Proofs.YteofkofgdhmpjaaDoor
