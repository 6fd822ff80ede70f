/- Of the program: isZero, text, withDigits. -/
import Derived.Test.YteofkofgdhmpjaaDoorKe
namespace Go.Proofs.YteofkofgdhmpjaaDoor
open Go.RowKit
set_option linter.unusedVariables false

theorem trim_zero (l : Str) : (((trim l).length : Int) == 0) = zero l := by
  rw [Bool.eq_iff_iff, beq_iff_eq]
  rw [← trim_nil_iff]
  constructor
  · intro h; exact List.eq_nil_of_length_eq_zero (by omega)
  · intro h; rw [h]; rfl
set_option maxRecDepth 1000000 in
set_option maxHeartbeats 2000000 in
theorem isZero_any (b : Bool) (a1 : Option Addr) (n1 c1 : Nat) (wh : Str) (a2 : Option Addr) (n2 c2 : Nat) (fr : Str) (w : World) (h1 : RdB w (.slice a1 n1 c1) wh) (h2 : RdB w (.slice a2 n2 c2) fr) (l1 : wh.length ≤ 1000) (l2 : fr.length ≤ 1000) :
    Calls Tryd.prog 42 #[.agg #[.bool b, .slice a1 n1 c1, .slice a2 n2 c2]] w fun e w' => e = .returned (.bool (zero (wh ++ fr))) ∧ Below w.heap.size w w' := by
  have R1 := Lib.hid (h1.alloc (.cells #[.bool b, .slice a1 n1 c1, .slice a2 n2 c2] 54))
  have R2 := Lib.hid (h2.alloc (.cells #[.bool b, .slice a1 n1 c1, .slice a2 n2 c2] 54))
  have HB := Lib.hid ((Below.refl w.heap.size w).alloc (Nat.le_refl _) (.cells #[.bool b, .slice a1 n1 c1, .slice a2 n2 c2] 54))
  clear h1 h2
  have z1 := trim_zero wh
  have z2 := trim_zero fr
  have HZ := Lib.hid (zero_app wh fr)
  go_enter Tryd.func42, Tryd.ntmps42
  go_wp2_with fail
  refine (trimEnd_any a1 n1 c1 wh _ R1.out l1).mono ?_
  rintro e w' ⟨rfl, hw'⟩
  obtain rfl := hw'.symm
  cases hz : zero wh with
  | false =>
    rw [hz] at z1 HZ
    clear z2 hz
    go_wp2
    go_ret
    exact ⟨by rw [HZ.out]; rfl, HB.out⟩
  | true =>
    rw [hz] at z1 HZ
    clear hz
    go_wp2_with fail
    refine (trimEnd_any a2 n2 c2 fr _ R2.out l2).mono ?_
    rintro e w' ⟨rfl, hw'⟩
    obtain rfl := hw'.symm
    obtain ⟨zb, hzb⟩ : ∃ zb, zero fr = zb := ⟨_, rfl⟩
    rw [hzb] at z2 HZ
    clear hzb
    go_wp2
    go_ret
    exact ⟨by rw [HZ.out, Bool.true_and]; rfl, HB.out⟩
/-- What a number's text is, or that it has too many digits. -/
def txR (x : Num) : Value := if 15 < x.wh.length ∨ 6 < x.fr.length then .tuple #[.string (ofL []), .int .i64 2] else .tuple #[.string (ofL (txt x)), .int .i64 0]
theorem text_tail (P Q R : Str) (h : P ++ Q ++ R = P ++ (Q ++ R)) : P ++ Q ++ R = P ++ (Q ++ R) := h
set_option maxRecDepth 1000000 in
set_option maxHeartbeats 4000000 in
theorem text_any (b : Bool) (a1 : Option Addr) (n1 c1 : Nat) (wh : Str) (a2 : Option Addr) (n2 c2 : Nat) (fr : Str) (w : World) (h1 : RdB w (.slice a1 n1 c1) wh) (h2 : RdB w (.slice a2 n2 c2) fr) (l1 : wh.length ≤ 1000) (l2 : fr.length ≤ 1000) :
    Calls Tryd.prog 49 #[.agg #[.bool b, .slice a1 n1 c1, .slice a2 n2 c2]] w fun e w' => e = .returned (txR ⟨b, wh, fr⟩) ∧ Below w.heap.size w w' := by
  obtain ⟨iB, hiB, hzB, hkB, hbB⟩ := info_parts Tryd.infoB
  have e1 := h1.len
  have e2 := h2.len
  subst e1 e2
  have R1 := Lib.hid (h1.alloc (.cells #[.bool b, .slice a1 wh.length c1, .slice a2 fr.length c2] 54))
  have R2 := Lib.hid (h2.alloc (.cells #[.bool b, .slice a1 wh.length c1, .slice a2 fr.length c2] 54))
  have HB := Lib.hid ((Below.refl w.heap.size w).alloc (Nat.le_refl _) (.cells #[.bool b, .slice a1 wh.length c1, .slice a2 fr.length c2] 54))
  have HK := Lib.hid (Blk.new w 54 #[.bool b, .slice a1 wh.length c1, .slice a2 fr.length c2])
  clear h1 h2
  obtain ⟨N1, hN1⟩ : ∃ N, wh.length = N := ⟨_, rfl⟩
  obtain ⟨N2, hN2⟩ : ∃ N, fr.length = N := ⟨_, rfl⟩
  have HN1 := Lib.hid hN1
  have HN2 := Lib.hid hN2
  rw [hN1, hN2] at R1 R2 HB HK ⊢
  rw [hN1] at l1
  rw [hN2] at l2
  clear hN1 hN2
  by_cases p1 : 15 < N1
  · have q1 : (15 : Int) < (N1 : Int) := by omega
    have HR : Hid (txR ⟨b, wh, fr⟩ = .tuple #[.string (ofL []), .int .i64 2]) := Lib.hid (by unfold txR; rw [if_pos (.inl (by have := HN1.out; dsimp only; omega))])
    go_enter Tryd.func49, Tryd.ntmps49
    go_wp2
    go_ret2
    exact ⟨by rw [HR.out]; rfl, HB.out⟩
  have q1 : ¬ (15 : Int) < (N1 : Int) := by omega
  by_cases p2 : 6 < N2
  · have q2 : (6 : Int) < (N2 : Int) := by omega
    have HR : Hid (txR ⟨b, wh, fr⟩ = .tuple #[.string (ofL []), .int .i64 2]) := Lib.hid (by unfold txR; rw [if_pos (.inr (by have := HN2.out; dsimp only; omega))])
    go_enter Tryd.func49, Tryd.ntmps49
    go_wp2
    go_ret2
    exact ⟨by rw [HR.out]; rfl, HB.out⟩
  have q2 : ¬ (6 : Int) < (N2 : Int) := by omega
  have HR : Hid (txR ⟨b, wh, fr⟩ = .tuple #[.string (ofL (txt ⟨b, wh, fr⟩)), .int .i64 0]) := Lib.hid (by unfold txR; rw [if_neg (by have := HN1.out; have := HN2.out; dsimp only; omega)])
  obtain ⟨sg, hsg⟩ : ∃ sg : Str, (if b = true then [45] else []) = sg := ⟨_, rfl⟩
  have HT : Hid (txt ⟨b, wh, fr⟩ = sg ++ (wh ++ (if fr = [] then [] else 46 :: fr))) := Lib.hid (by rw [← hsg]; rfl)
  have lsg : sg.length ≤ 1 := by rw [← hsg]; split <;> simp
  have HSG := Lib.hid hsg
  go_enter Tryd.func49, Tryd.ntmps49
  go_upto_if 16 with fail
  obtain ⟨W0, hW0⟩ : ∃ W0, w.alloc (.cells #[.bool b, .slice a1 N1 c1, .slice a2 N2 c2] 54) = W0 := ⟨_, rfl⟩
  rw [hW0] at HK R1 R2 HB ⊢
  have zw := HB.out.size
  have k0 : W0.cell? ⟨w.heap.size, 0, none⟩ = some (.bool b) := HK.out.cell 0
  have k1 : W0.cell? ⟨w.heap.size, 1, none⟩ = some (.slice a1 N1 c1) := HK.out.cell 1
  have k2 : W0.cell? ⟨w.heap.size, 2, none⟩ = some (.slice a2 N2 c2) := HK.out.cell 2
  obtain ⟨B0, hB0⟩ : ∃ B0, w.heap.size = B0 := ⟨_, rfl⟩
  have HK2 := Lib.hid HK.out.lt
  rw [hB0] at HK HK2 zw k0 k1 k2 ⊢
  have HB0 := Lib.hid hB0
  have HW0 := Lib.hid hW0
  clear hW0 hB0 HK
  have hb0 : Below B0 W0 W0 := Below.refl _ _
  go_cut [4] from 17 (fun v4 wx => OwnB wx W0.heap.size v4 sg ∧ Below W0.heap.size W0 wx)
  case first =>
    cases b with
    | false =>
      go_wp2_with fail
      go_meet
      exact ⟨by rw [← HSG.out]; exact own1_nil _ _ _, Below.refl _ _⟩
    | true =>
      go_wp2_with (at_builtin; refine wpList_append_at (w0 := W0) (x := (45 : UInt8)) (N := W0.heap.size) rfl rfl _ _ 52 rfl W0.heap.size iB _ 1 Tryd.underlying52 hiB hzB hkB hbB (by omega) rfl (by omega) encB_len encB_one _ [] rfl rfl (own1_nil _ _ _) rfl (by simp) (Nat.le_refl _) ?_; intro v9 w9 y1 y2 y3)
      have HY1 := Lib.hid y1
      have HY2 := Lib.hid y2
      clear y1 y2 y3
      go_wp2_with fail
      go_meet
      exact ⟨by rw [← HSG.out]; exact HY1.out, HY2.out⟩
  case rest =>
    obtain ⟨hown, hbel⟩ := hcut
    have m1 := (hbel.cell (p := ⟨B0, 1, none⟩) HK2.out).trans k1
    have m2 := (hbel.cell (p := ⟨B0, 2, none⟩) HK2.out).trans k2
    have S1 := Lib.hid (R1.out.below hbel)
    have S2 := Lib.hid (R2.out.below hbel)
    have zc := hbel.size
    have HO := Lib.hid hown
    have HBC := Lib.hid hbel
    clear hown hbel k0 k1 k2 R1 S2
    have HL2 : Hid ((sg ++ wh).length ≤ 1000000000) := Lib.hid (by have := HN1.out; rw [List.length_append]; omega)
    have HL3 : Hid (((sg ++ wh) ++ [46]).length + fr.length ≤ 1000000000) := Lib.hid (by have := HN1.out; have := HN2.out; rw [List.length_append, List.length_append, List.length_singleton]; omega)
    have HL1 : Hid (sg.length + wh.length ≤ 1000000000) := Lib.hid (by have := HN1.out; omega)
    by_cases hf : fr = []
    · have hn2 : N2 = 0 := by rw [← HN2.out, hf]; rfl
      have HT2 : Hid (txt ⟨b, wh, fr⟩ = sg ++ wh) := Lib.hid (by rw [HT.out, if_pos hf, List.append_nil])
      subst hn2
      clear hf
      go_wp2_with (at_builtin; refine wpList_append_rd rfl (.tmp 20) (.tmp 22) 52 rfl W0.heap.size iB _ 1 Tryd.underlying52 hiB hzB hkB hbB (by omega) rfl (by omega) encB_len encB_one _ sg wh _ rfl HO.out rfl S1.out HL1.out zc ?_; intro v9 w9 y1 y2; have n2 := (y2.cell (p := ⟨B0, 2, none⟩) HK2.out).trans m2; have cv := conv_rd (P := Tryd.prog) (S := 52) (D := 9) (e := 5) Tryd.underlying52 Tryd.underlying5 Tryd.underlying9 (y1.rd encB_len); have HY := Lib.hid (HBC.out.trans y2); clear y1 y2)
      go_ret2
      exact ⟨by rw [HR.out, HT2.out]; rfl, by have := HB0.out; exact HB.out.trans (HY.out.mono (by omega))⟩
    · have hn2 : 0 < N2 := by rw [← HN2.out]; exact List.length_pos_iff.2 hf
      have hn3 : (0 : Int) < (N2 : Int) := by omega
      have HT2 : Hid (txt ⟨b, wh, fr⟩ = ((sg ++ wh) ++ [46]) ++ fr) := Lib.hid (by rw [HT.out, if_neg hf]; simp)
      clear hf hn2
      go_wp2_with (first
        | (at_builtin; refine wpList_append_rd rfl (.tmp 20) (.tmp 22) 52 rfl W0.heap.size iB _ 1 Tryd.underlying52 hiB hzB hkB hbB (by omega) rfl (by omega) encB_len encB_one _ sg wh _ rfl HO.out rfl S1.out HL1.out zc ?_; intro v9 w9 y1 y2; have n2 := (y2.cell (p := ⟨B0, 2, none⟩) HK2.out).trans m2; have O9 := Lib.hid y1; have HY := Lib.hid (HBC.out.trans y2); have z9 := HY.out.size; have F9 := Lib.hid (R2.out.below HY.out); clear y1 y2)
        | (at_builtin; refine wpList_append_at (w0 := w9) (x := (46 : UInt8)) (N := w9.heap.size) rfl rfl (.tmp 28) (.tmp 29) 52 rfl W0.heap.size iB _ 1 Tryd.underlying52 hiB hzB hkB hbB (by omega) rfl (by omega) encB_len encB_one _ (sg ++ wh) rfl rfl O9.out rfl HL2.out z9 ?_; intro v8 w8 y1 y2 y3; have n3 := (y2.cell (p := ⟨B0, 2, none⟩) HK2.out).trans n2; have O8 := Lib.hid y1; have HY8 := Lib.hid (HY.out.trans y2); have z8 := HY8.out.size; have F8 := Lib.hid (R2.out.below HY8.out); clear y1 y2 y3)
        | (at_builtin; refine wpList_append_rd rfl (.tmp 31) (.tmp 33) 52 rfl W0.heap.size iB _ 1 Tryd.underlying52 hiB hzB hkB hbB (by omega) rfl (by omega) encB_len encB_one _ ((sg ++ wh) ++ [46]) fr _ rfl O8.out rfl F8.out HL3.out z8 ?_; intro v7 w7 y1 y2; have cv := conv_rd (P := Tryd.prog) (S := 52) (D := 9) (e := 5) Tryd.underlying52 Tryd.underlying5 Tryd.underlying9 (y1.rd encB_len); have HY7 := Lib.hid (HY8.out.trans y2); clear y1 y2))
      go_ret2
      exact ⟨by rw [HR.out, HT2.out, show ((sg ++ wh) ++ [46]) ++ fr = sg ++ (wh ++ 46 :: fr) by simp]; rfl, by have := HB0.out; exact HB.out.trans (HY7.out.mono (by omega))⟩
end Go.Proofs.YteofkofgdhmpjaaDoor
