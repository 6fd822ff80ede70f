/- Of the program: compareStrings, Compare, Same. -/
import Derived.Test.YteofkofgdhmpjaaDoorKk
namespace Go.Proofs.YteofkofgdhmpjaaDoor
open Go.RowKit
set_option linter.unusedVariables false

theorem less_val : ∀ {a b : Str}, allD a → allD b → a.length = b.length → Op.bytesLess a b = decide (val a < val b)
  | [], [], _, _, _ => by simp [Op.bytesLess]
  | [], _ :: _, _, _, h => by simp at h
  | _ :: _, [], _, _, h => by simp at h
  | c :: a, d :: b, ha, hb, hl => by
    rw [allD_cons] at ha hb
    have hl' : a.length = b.length := by simpa using hl
    have ih := less_val ha.2 hb.2 hl'
    have h1 := val_lt ha.2
    have h2 := val_lt hb.2
    have e1 := isD_iff.1 ha.1
    have e2 := isD_iff.1 hb.1
    rw [hl'] at h1
    have hu : Op.bytesLess (c :: a) (d :: b) = (decide (c < d) || (c == d && Op.bytesLess a b)) := by rw [Op.bytesLess]
    rw [hu, ih, val_cons, val_cons, hl']
    have hd1 : dg c + 48 = c.toNat := by unfold dg; omega
    have hd2 : dg d + 48 = d.toNat := by unfold dg; omega
    rcases Nat.lt_trichotomy c.toNat d.toNat with h | h | h
    · have hc : c < d := UInt8.lt_iff_toNat_lt.2 h
      have hm := Nat.mul_le_mul_right (10 ^ b.length) (show dg c + 1 ≤ dg d by omega)
      rw [Nat.add_mul] at hm
      rw [decide_eq_true hc, Bool.true_or]
      exact (decide_eq_true (by omega)).symm
    · have hc : c = d := u8_ext h
      subst hc
      have hn : ¬ c < c := by rw [UInt8.lt_iff_toNat_lt]; omega
      rw [decide_eq_false hn, Bool.false_or, beq_self_eq_true, Bool.true_and, decide_eq_decide]
      omega
    · have hn : ¬ c < d := by rw [UInt8.lt_iff_toNat_lt]; omega
      have hne : (c == d) = false := by rw [beq_eq_false_iff_ne]; rintro rfl; omega
      have hm := Nat.mul_le_mul_right (10 ^ b.length) (show dg d + 1 ≤ dg c by omega)
      rw [Nat.add_mul] at hm
      rw [decide_eq_false hn, hne, Bool.false_or, Bool.false_and]
      exact (decide_eq_false (by omega)).symm
theorem al_facts {x : Num} (g : Good x) : allD (al x) ∧ (al x).length = 21 ∧ val (al x) = mag x := by
  have h1 := g.high
  have h2 := g.few
  refine ⟨?_, ?_, ?_⟩
  · unfold al
    exact allD_app.2 ⟨allD_zs _, allD_app.2 ⟨g.dw, allD_app.2 ⟨g.df, allD_zs _⟩⟩⟩
  · unfold al
    simp only [List.length_append, zs_len]
    omega
  · unfold al
    rw [val_app, val_zs, Nat.zero_mul, Nat.zero_add, ← List.append_assoc, val_app, val_zs, zs_len]
    rfl
def cmpR (a b : Str) : Int × Int := match spl a, spl b with
  | some x, some y => (cmpI (V x) (V y), 0)
  | _, _ => (0, 1)
theorem cmpR_some {a b : Str} {x y : Num} (hx : spl a = some x) (hy : spl b = some y) : cmpR a b = (cmpI (V x) (V y), 0) := by unfold cmpR; rw [hx, hy]
theorem cmpR_none {a b : Str} (h : spl a = none ∨ spl b = none) : cmpR a b = (0, 1) := by
  unfold cmpR
  rcases h with h | h
  · rw [h]
  · rw [h]; cases spl a <;> rfl
theorem cmpR_neg {x y : Num} (hx : x.neg = true) (hy : y.neg = true) : cmpI (V x) (V y) = cmpI (mag y) (mag x) := by unfold V; rw [hx, hy, if_pos rfl, if_pos rfl, cmpI_neg]
theorem cmpR_pos {x y : Num} (hx : x.neg = false) (hy : y.neg = false) : cmpI (V x) (V y) = cmpI (mag x) (mag y) := by unfold V; rw [hx, hy]; rfl
theorem cmpR_less {x y : Num} (g : Good x) (hx : x.neg = true) (hy : y.neg = false) : cmpI (V x) (V y) = -1 := by
  have := mag_pos g hx
  unfold V
  rw [hx, hy]
  simp only [if_true, Bool.false_eq_true, if_false]
  unfold cmpI
  rw [if_pos (by omega)]
theorem cmpR_more {x y : Num} (g : Good y) (hx : x.neg = false) (hy : y.neg = true) : cmpI (V x) (V y) = 1 := by
  have := mag_pos g hy
  unfold V
  rw [hx, hy]
  simp only [if_true, Bool.false_eq_true, if_false]
  unfold cmpI
  rw [if_neg (by omega), if_pos (by omega)]
def CmpPost (a b : Str) (w : World) (e : Ending) (w' : World) : Prop := e = .returned (.tuple #[.int .i64 (cmpR a b).1, .int .i64 (cmpR a b).2]) ∧ Below w.heap.size w w'
end Go.Proofs.YteofkofgdhmpjaaDoor
