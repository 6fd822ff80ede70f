/- Of the reference: increased. -/
import Derived.Test.YteofkofgdhmpjaaDoorKv
namespace Go.Proofs.YteofkofgdhmpjaaDoor
open Go.RowKit
set_option linter.unusedVariables false

theorem rd_one (w : World) (c : UInt8) : Rd 1 encB (w.alloc (.cells #[.int .u8 (c.toNat : Int)] 5)) (.slice (some ⟨w.heap.size, 0, none⟩) 1 1) [c] := by
  have k := Blk.new w 5 #[.int .u8 (c.toNat : Int)]
  refine ⟨⟨_, 1, rfl, Nat.le_refl _, by omega, fun _ => ⟨w.heap.size, 0, rfl, k.lt, fun i u hi j v hv => ?_⟩⟩, fun n c hc => by cases hc⟩
  have hj : j = 0 := by have := (List.getElem?_eq_some_iff.1 hv).1; simp [encB] at this; exact this
  subst hj
  simp [encB] at hv
  subst hv
  rw [k.cell]
  have hi3 := (List.getElem?_eq_some_iff.1 hi).1
  simp at hi3
  subst hi3
  simp at hi
  subst hi
  rfl
theorem conv_lit (w : World) (x : Nat) (hx : x ≤ 255) : (convert 52 9 (.slice (some ⟨w.heap.size, 0, none⟩) 1 1)).run Tryd.prog (w.alloc (.cells #[.int .u8 (x : Int)] 5)).drew = .ok (.string (ofL [UInt8.ofNat x])) (w.alloc (.cells #[.int .u8 (x : Int)] 5)).drew := by
  have hc : (UInt8.ofNat x).toNat = x := by simp; omega
  have h := rd_one w (UInt8.ofNat x)
  rw [hc] at h
  exact conv_rd (P := Tryd.prog) (S := 52) (D := 9) (e := 5) Tryd.underlying52 Tryd.underlying5 Tryd.underlying9 (h.below (Below.refl _ _).drew)
def RIncPost (l : Str) (w : World) (e : Ending) (w' : World) : Prop := ∃ m, e = .returned (.string (ofL m)) ∧ allD m ∧ val m = val l + 1 ∧ l.length ≤ m.length ∧ 1 ≤ m.length ∧ m.length ≤ l.length + 1 ∧ Below w.heap.size w w'
end Go.Proofs.YteofkofgdhmpjaaDoor
