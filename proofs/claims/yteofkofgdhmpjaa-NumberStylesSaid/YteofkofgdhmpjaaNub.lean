/- Of the reference of layer 15: begins, common, Few. -/
import Derived.Test.YteofkofgdhmpjaaKx
import Derived.Test.YteofkofgdhmpjaaNua
namespace Go.Proofs.Yteofkofgdhmpjaa
open Go.RowKit
set_option linter.unusedVariables false

theorem beq_of (a b : Str) : ((ofL a).toList == (ofL b).toList) = decide (a = b) := by
  rw [ByteArray.toList_eq, ByteArray.toList_eq]
  by_cases h : a = b
  · rw [h, decide_eq_true rfl, beq_iff_eq]
  · rw [decide_eq_false h, beq_eq_false_iff_ne]; exact h
theorem beg_short {s t : Str} (h : ¬ t.length ≤ s.length) : begB s t = false := by
  unfold begB
  rw [decide_eq_false_iff_not]
  intro e
  have := congrArg List.length e
  rw [List.length_take] at this
  omega
def comI (a : UInt8) (b : Str) : Bool := b.any fun d => decide (a = d)
theorem com_yes {a b : Str} (i k : Nat) (hi : i < a.length) (hk : k < b.length) (h : a[i] = b[k]) : comB a b = true := by
  unfold comB
  rw [List.any_eq_true]
  refine ⟨a[i], List.getElem_mem hi, ?_⟩
  rw [List.any_eq_true]
  exact ⟨b[k], List.getElem_mem hk, decide_eq_true h⟩
theorem com_no {a b : Str} (h : ∀ i (hi : i < a.length) k (hk : k < b.length), a[i] ≠ b[k]) : comB a b = false := by
  rw [comB_iff]
  intro c hc hb
  obtain ⟨i, hi, rfl⟩ := List.mem_iff_getElem.1 hc
  obtain ⟨k, hk, e⟩ := List.mem_iff_getElem.1 hb
  exact h i hi k hk e.symm
theorem u8_beq {c d : UInt8} (b : Bool) (h : decide (c = d) = b) : (((c.toNat : Nat) : Int) == ((d.toNat : Nat) : Int)) = b := by
  rw [← h]
  by_cases e : c = d
  · rw [e]; simp
  · rw [decide_eq_false e, beq_eq_false_iff_ne]
    intro k
    exact e (UInt8.toNat_inj.1 (by omega))
end Go.Proofs.Yteofkofgdhmpjaa
