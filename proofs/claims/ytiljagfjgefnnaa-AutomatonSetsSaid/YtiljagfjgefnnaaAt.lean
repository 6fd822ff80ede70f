/- A region law more: any of the operations that are ready, by a list. -/
import Derived.Test.YtiljagfjgefnnaaAr
namespace Go.Proofs.Ytiljagfjgefnnaa
set_option linter.unusedVariables false
section
variable {P : Program} {ops : Array Oper} {Q : Exit → Act → World → Prop} {S : World → Prop}
theorem hd_listA {n : Nat} {t : List Oper} {f : Nat} {listed : Array Bool} {a : Act} {w : World} (is : List Nat) (hr : Region.ready .any ops listed = is) (hne : is ≠ []) (hin : is.all (fun i => decide (i < n)) = true)
    (h : ∀ i ∈ is, ∃ oi, ops[i]? = some oi ∧ ∀ K' : Act → World → Prop, Shut (∀ a w, S w → HdG P ops Q S n t f (listed.setIfInBounds i true) a w → K' a w) → if Region.wanted oi (yielded ops a.tmps) = true then Oper.wp P oi a w K' Q else K' (a.put oi.dst undef) w) : HdG P ops Q S n t (f + 1) listed a w := fun inv => by
  refine ⟨by rw [hr]; exact hne, fun j hj => ?_⟩
  have hj0 := hj
  rw [hr] at hj
  obtain ⟨oi, h1, h2⟩ := h j hj
  have hjn : j < n := by have := List.all_eq_true.1 hin j hj; simpa using this
  exact ⟨hjn, hd_step h1 h2 (inv.set hj0 hjn)⟩
end
end Go.Proofs.Ytiljagfjgefnnaa
