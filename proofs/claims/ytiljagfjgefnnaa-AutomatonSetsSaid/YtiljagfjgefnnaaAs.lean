/- Small facts: a row of one number, what the search adds, slices out of appends. -/
import Derived.Test.YtiljagfjgefnnaaAi
namespace Go.Proofs.Ytiljagfjgefnnaa
open Go.RowKit
set_option linter.unusedVariables false

theorem own_num (w : World) (base : Nat) (hb : base ≤ w.heap.size) (x : Nat) : Own1 1 encN (w.alloc (.cells #[.int .i64 (x : Int)] 3)) base 3 (.slice (some ⟨w.heap.size, 0, none⟩) 1 1) [x] :=
  ⟨by rfl, .inr ⟨w.heap.size, 1, #[.int .i64 (x : Int)], rfl, hb, heap_alloc_new w _, Nat.le_refl _, by decide, rfl, rfl⟩⟩
theorem idxV_pos {l : List Nat} {x : Nat} (h : idx l x < l.length) : idxV l x = (idx l x : Int) := if_pos h
theorem idxV_neg {l : List Nat} {x : Nat} (h : ¬ idx l x < l.length) : idxV l x = -1 := if_neg h
theorem add_old {cl : Nat → Nat} {F : List Nat} {t : Nat} (h : idx (F.map cl) (cl t) < F.length) : add cl F t = F := if_pos h
theorem add_new {cl : Nat → Nat} {F : List Nat} {t : Nat} (h : ¬ idx (F.map cl) (cl t) < F.length) : add cl F t = F ++ [t] := if_neg h
theorem lie_slice {α : Type} {k : Nat} {enc : α → List Value} {base : Nat} {e : TypeId} {w w' : World} {v v' : Value} {l : List α} (h : Lie k enc base e w v l v' w') : ∃ p n c, v' = .slice p n c := by
  obtain ⟨a, c, e⟩ := h.1.slice
  exact ⟨a, _, c, e⟩
theorem lie_at {α : Type} {k : Nat} {enc : α → List Value} {base : Nat} {e : TypeId} {w w' : World} {v v' : Value} {l : List α} (h : Lie k enc base e w v l v' w') : ∃ p c, v' = .slice p l.length c := by
  obtain ⟨a, c, e⟩ := h.1.slice
  exact ⟨a, c, e⟩
end Go.Proofs.Ytiljagfjgefnnaa
