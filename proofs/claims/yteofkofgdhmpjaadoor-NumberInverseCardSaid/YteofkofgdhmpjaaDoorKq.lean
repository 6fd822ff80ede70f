/- Of the reference: Trim, lead, zeros. -/
import Derived.Test.YteofkofgdhmpjaaDoorKp
namespace Go.Proofs.YteofkofgdhmpjaaDoor
open Go.RowKit
set_option linter.unusedVariables false

theorem trim_step {l : Str} {k : Nat} (h : k < l.length) (h0 : l[k] = 48) : trim (l.take (k + 1)) = trim (l.take k) := by
  rw [List.take_succ_eq_append_getElem h, h0]
  exact trim_app_zs _ 1
theorem trim_stop {l : Str} {k : Nat} (h : k < l.length) (h0 : l[k] ≠ 48) : trim (l.take (k + 1)) = l.take (k + 1) := by
  have hl : (l.take (k + 1)).length = k + 1 := by rw [List.length_take]; omega
  unfold trim
  rw [hl, tl_no (by omega) (by rw [List.getElem_take]; exact h0)]
  rw [List.take_take, Nat.min_self]
theorem lead_two {l : Str} (h : 1 < l.length) (h0 : l[0] = 48) : lead l = lead (l.drop 1) := by
  cases l with
  | nil => simp at h
  | cons c l =>
    cases l with
    | nil => simp at h
    | cons d l =>
      simp at h0
      subst h0
      rw [lead, if_pos (by rfl)]
      rfl
theorem lead_done {l : Str} (h : l.length ≤ 1 ∨ ∃ h : 0 < l.length, l[0] ≠ 48) : lead l = l := by
  apply lead_of_slim
  intro h1
  rcases h with h | ⟨h, h0⟩
  · omega
  · rw [List.head?_eq_getElem?, List.getElem?_eq_getElem h]
    simpa using h0
end Go.Proofs.YteofkofgdhmpjaaDoor
