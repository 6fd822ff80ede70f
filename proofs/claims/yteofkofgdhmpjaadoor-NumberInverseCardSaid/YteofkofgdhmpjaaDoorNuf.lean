/- Of the reference of layer 15: Sound, Format. -/
import Derived.Test.YteofkofgdhmpjaaDoorNue
namespace Go.Proofs.YteofkofgdhmpjaaDoor
open Go.RowKit
set_option linter.unusedVariables false

theorem souR_eq (x : SyN) : souR x = !(decide (x.mi = []) || decide (x.de = []) || comB (x.mi ++ (x.de ++ x.gr)) digT || comB x.de x.gr || begB x.de x.mi || begB x.mi x.de || !(decide (x.gr = []) || (!begB x.gr x.mi && !begB x.mi x.gr))) := rfl
set_option maxRecDepth 1000000 in
set_option maxHeartbeats 4000000 in
theorem sound_any (x : SyN) (hx : SmY x) (w : World) : Calls Tryd.prog 12 #[.agg #[.string (ofL x.de), .string (ofL x.gr), .string (ofL x.mi), .string (ofL x.pe), .int .i64 x.pr, .int .i64 x.se]] w fun e w' => e = .returned (.bool (souR x)) ∧ Below w.heap.size w w' := by
  have hde := hx.de
  have hgr := hx.gr
  have hmi := hx.mi
  have HS := Lib.hid (souR_eq x)
  obtain ⟨R, hR⟩ : ∃ R, souR x = R := ⟨_, rfl⟩
  rw [hR] at HS ⊢
  clear hR
  obtain ⟨de, e1⟩ : ∃ de, x.de = de := ⟨_, rfl⟩
  obtain ⟨gr, e2⟩ : ∃ gr, x.gr = gr := ⟨_, rfl⟩
  obtain ⟨mi, e3⟩ : ∃ mi, x.mi = mi := ⟨_, rfl⟩
  obtain ⟨pe, e4⟩ : ∃ pe, x.pe = pe := ⟨_, rfl⟩
  obtain ⟨p, e5⟩ : ∃ p, x.pr = p := ⟨_, rfl⟩
  obtain ⟨q, e6⟩ : ∃ q, x.se = q := ⟨_, rfl⟩
  rw [e1, e2, e3] at HS
  rw [e1] at hde
  rw [e2] at hgr
  rw [e3] at hmi
  rw [e1, e2, e3, e4, e5, e6]
  clear hx e1 e2 e3 e4 e5 e6
  obtain ⟨y1, hy1⟩ : ∃ y1, mi ++ de = y1 := ⟨_, rfl⟩
  have hy1n : y1.length ≤ 2000 := by rw [← hy1, List.length_append]; omega
  obtain ⟨y2, hy2⟩ : ∃ y2, y1 ++ gr = y2 := ⟨_, rfl⟩
  have hy2n : y2.length ≤ 3000 := by rw [← hy2, List.length_append]; omega
  rw [show mi ++ (de ++ gr) = y2 by rw [← hy2, ← hy1, List.append_assoc]] at HS
  have s1 : ∀ wx, (Op.stringOp .add (ofL mi) (ofL de)).run Tryd.prog wx = .ok (.string (ofL y1)) wx := fun wx => str_add (by omega) hy1 wx
  have s2 : ∀ wx, (Op.stringOp .add (ofL y1) (ofL gr)).run Tryd.prog wx = .ok (.string (ofL y2)) wx := fun wx => str_add (by omega) hy2 wx
  have HC1 := Lib.hid (fun w => common_any y2 digT (by omega) (by decide) w)
  rw [show ofL digT = ⟨#[48, 49, 50, 51, 52, 53, 54, 55, 56, 57]⟩ from rfl] at HC1
  have HC2 := Lib.hid (fun w => common_any de gr (by omega) (by omega) w)
  have HB1 := Lib.hid (fun w => begins_any de mi (by omega) (by omega) w)
  have HB2 := Lib.hid (fun w => begins_any mi de (by omega) (by omega) w)
  have HB3 := Lib.hid (fun w => begins_any gr mi (by omega) (by omega) w)
  have HB4 := Lib.hid (fun w => begins_any mi gr (by omega) (by omega) w)
  obtain ⟨t1, h1⟩ : ∃ b, comB y2 digT = b := ⟨_, rfl⟩
  obtain ⟨t2, h2⟩ : ∃ b, comB de gr = b := ⟨_, rfl⟩
  obtain ⟨t3, h3⟩ : ∃ b, begB de mi = b := ⟨_, rfl⟩
  obtain ⟨t4, h4⟩ : ∃ b, begB mi de = b := ⟨_, rfl⟩
  obtain ⟨t5, h5⟩ : ∃ b, begB gr mi = b := ⟨_, rfl⟩
  obtain ⟨t6, h6⟩ : ∃ b, begB mi gr = b := ⟨_, rfl⟩
  rw [h1] at HC1
  rw [h2] at HC2
  rw [h3] at HB1
  rw [h4] at HB2
  rw [h5] at HB3
  rw [h6] at HB4
  rw [h1, h2, h3, h4, h5, h6] at HS
  clear h1 h2 h3 h4 h5 h6 hy1 hy2 hy1n hy2n hde hgr hmi
  have B0 := Lib.hid ((Below.refl w.heap.size w).alloc (Nat.le_refl _) (.cells #[.string (ofL de), .string (ofL gr), .string (ofL mi), .string (ofL pe), .int .i64 p, .int .i64 q] 23))
  have K0 := Lib.hid (Blk.new w 23 #[.string (ofL de), .string (ofL gr), .string (ofL mi), .string (ofL pe), .int .i64 p, .int .i64 q])
  by_cases m0 : mi = []
  · obtain ⟨q1, q1'⟩ := empY m0
    have HR : Hid (R = false) := Lib.hid (by rw [HS.out, decide_eq_true m0]; rfl)
    clear m0 HS K0
    go_enter Tryd.func12, Tryd.ntmps12
    go_wp2
    go_ret
    exact ⟨by rw [HR.out]; rfl, B0.out⟩
  obtain ⟨q1, q1'⟩ := empN m0
  rw [decide_eq_false m0, Bool.false_or] at HS
  clear m0
  by_cases m1 : de = []
  · obtain ⟨q2, q2'⟩ := empY m1
    have HR : Hid (R = false) := Lib.hid (by rw [HS.out, decide_eq_true m1]; rfl)
    clear m1 HS K0
    go_enter Tryd.func12, Tryd.ntmps12
    go_wp2
    go_ret
    exact ⟨by rw [HR.out]; rfl, B0.out⟩
  obtain ⟨q2, q2'⟩ := empN m1
  rw [decide_eq_false m1, Bool.false_or] at HS
  clear m1
  obtain ⟨bg, hbg⟩ : ∃ b, decide (gr = []) = b := ⟨_, rfl⟩
  have q3 : ((ofL gr).toList == ([] : List UInt8)) = bg := by
    rw [← hbg, ByteArray.toList_eq]
    by_cases h : gr = []
    · rw [h]; rfl
    · rw [decide_eq_false h, beq_eq_false_iff_ne]; exact h
  rw [hbg] at HS
  clear hbg
  go_enter Tryd.func12, Tryd.ntmps12
  go_wp2_with fail
  refine (HC1.out _).mono ?_
  rintro e w1 ⟨rfl, b1⟩
  have B1 := Lib.hid (st B0.out b1 B0.out.size)
  have K1 := Lib.hid (K0.out.below b1)
  clear b1
  have c0 : w1.cell? ⟨w.heap.size, 0, none⟩ = some (.string (ofL de)) := K1.out.cell 0
  have c1 : w1.cell? ⟨w.heap.size, 1, none⟩ = some (.string (ofL gr)) := K1.out.cell 1
  cases t1 with
  | true =>
    have HR : Hid (R = false) := Lib.hid (by rw [HS.out]; rfl)
    clear HS
    go_wp2
    go_ret
    exact ⟨by rw [HR.out]; rfl, B1.out⟩
  | false =>
  go_wp2_with fail
  refine (HC2.out _).mono ?_
  rintro e w2 ⟨rfl, b2⟩
  have B2 := Lib.hid (st B1.out b2 B1.out.size)
  have K2 := Lib.hid (K1.out.below b2)
  clear b2 c0 c1
  have c0 : w2.cell? ⟨w.heap.size, 0, none⟩ = some (.string (ofL de)) := K2.out.cell 0
  have c1 : w2.cell? ⟨w.heap.size, 1, none⟩ = some (.string (ofL gr)) := K2.out.cell 1
  have c2 : w2.cell? ⟨w.heap.size, 2, none⟩ = some (.string (ofL mi)) := K2.out.cell 2
  cases t2 with
  | true =>
    have HR : Hid (R = false) := Lib.hid (by rw [HS.out]; rfl)
    clear HS
    go_wp2
    go_ret
    exact ⟨by rw [HR.out]; rfl, B2.out⟩
  | false =>
  go_wp2_with fail
  refine (HB1.out _).mono ?_
  rintro e w3 ⟨rfl, hw6⟩
  obtain rfl := hw6.symm
  clear hw6
  cases t3 with
  | true =>
    have HR : Hid (R = false) := Lib.hid (by rw [HS.out]; rfl)
    clear HS
    go_wp2
    go_ret
    exact ⟨by rw [HR.out]; rfl, B2.out⟩
  | false =>
  go_wp2_with fail
  refine (HB2.out _).mono ?_
  rintro e w4 ⟨rfl, hw6⟩
  obtain rfl := hw6.symm
  clear hw6
  cases t4 with
  | true =>
    have HR : Hid (R = false) := Lib.hid (by rw [HS.out]; rfl)
    clear HS
    go_wp2
    go_ret
    exact ⟨by rw [HR.out]; rfl, B2.out⟩
  | false =>
  cases bg with
  | true =>
    have HR : Hid (R = true) := Lib.hid (by rw [HS.out]; rfl)
    clear HS
    go_wp2
    go_ret
    exact ⟨by rw [HR.out]; rfl, B2.out⟩
  | false =>
  go_wp2_with fail
  refine (HB3.out _).mono ?_
  rintro e w5 ⟨rfl, hw6⟩
  obtain rfl := hw6.symm
  clear hw6
  cases t5 with
  | true =>
    have HR : Hid (R = false) := Lib.hid (by rw [HS.out]; rfl)
    clear HS
    go_wp2
    go_ret
    exact ⟨by rw [HR.out]; rfl, B2.out⟩
  | false =>
  go_wp2_with fail
  refine (HB4.out _).mono ?_
  rintro e w6 ⟨rfl, hw6⟩
  obtain rfl := hw6.symm
  clear hw6
  cases t6 with
  | true =>
    have HR : Hid (R = false) := Lib.hid (by rw [HS.out]; rfl)
    clear HS
    go_wp2
    go_ret
    exact ⟨by rw [HR.out]; rfl, B2.out⟩
  | false =>
    have HR : Hid (R = true) := Lib.hid (by rw [HS.out]; rfl)
    clear HS
    go_wp2
    go_ret
    exact ⟨by rw [HR.out]; rfl, B2.out⟩
end Go.Proofs.YteofkofgdhmpjaaDoor
