/- Of the reference: scaled, Compare. -/
import Derived.Test.YtkgjadblfldjnaaKt
namespace Go.Proofs.Ytkgjadblfldjnaa
open Go.RowKit
set_option linter.unusedVariables false

def sg (b : Bool) (n : Nat) : Int := if b = true then -(n : Int) else (n : Int)
theorem pad_val (fr : Str) : val (fr ++ zs (6 - fr.length)) = val fr * 10 ^ (6 - fr.length) := by rw [val_app, val_zs, zs_len]; rfl
set_option maxRecDepth 1000000 in
set_option maxHeartbeats 4000000 in
theorem scaled_any (b : Bool) (wh fr : Str) (hw : allD wh) (hf : allD fr) (l1 : wh.length ≤ 15) (l2 : fr.length ≤ 6) (w : World) :
    Calls Try.prog 40 #[.agg #[.bool b, .string (ofL wh), .string (ofL fr)]] w fun e w' => e = .returned (.tuple #[.int .i64 (sg b (val wh)), .int .i64 (sg b (val fr * 10 ^ (6 - fr.length)))]) ∧ Below w.heap.size w w' := by
  have HB := Lib.hid ((Below.refl w.heap.size w).alloc (Nat.le_refl _) (.cells #[.bool b, .string (ofL wh), .string (ofL fr)] 49))
  obtain ⟨pd, hpd⟩ : ∃ pd, fr ++ zs (6 - fr.length) = pd := ⟨_, rfl⟩
  have hpl : pd.length = 6 := by rw [← hpd, List.length_append, zs_len]; omega
  have hpD : allD pd := by rw [← hpd]; exact allD_app.2 ⟨hf, allD_zs _⟩
  have hV := value_any (ofL wh) hw (by rw [ofL_size]; exact l1)
  rw [ofL_list] at hV
  have HVW := Lib.hid hV
  have hV2 := value_any (ofL pd) hpD (by rw [ofL_size, hpl]; omega)
  rw [ofL_list] at hV2
  have HVP := Lib.hid hV2
  have b1 : val wh < 1000000000000000 := Nat.lt_of_lt_of_le (val_lt hw) (Nat.pow_le_pow_right (by omega) l1 : 10 ^ wh.length ≤ 10 ^ 15)
  have b2 : val pd < 1000000 := by have := val_lt hpD; rw [hpl] at this; exact this
  have HPV : Hid (val fr * 10 ^ (6 - fr.length) = val pd) := Lib.hid (by rw [← pad_val, hpd])
  have HPD := Lib.hid hpd
  obtain ⟨N, hN⟩ : ∃ N, val wh = N := ⟨_, rfl⟩
  obtain ⟨F, hF⟩ : ∃ F, val pd = F := ⟨_, rfl⟩
  rw [hN] at HVW b1 ⊢
  rw [hF] at HVP b2 HPV
  rw [HPV.out]
  clear hpd hpl hpD hV hV2 hw hf hN hF
  go_enter Try.func40, Try.ntmps40
  go_wp2
  go_loop [4] (fun v4 => ∃ j : Nat, fr.length + j ≤ 6 ∧ v4 = .string (ofL (fr ++ zs j))) (fun v4 => 6 - (match v4 with | .string t => t.size | _ => 0))
  case atStart => exact ⟨0, by omega, by rw [zs_zero, List.append_nil]⟩
  case round =>
    obtain ⟨j, hj, rfl⟩ := hrel
    obtain ⟨M, hM⟩ : ∃ M, (ofL (fr ++ zs j)).size = M := ⟨_, rfl⟩
    have hM2 : M = fr.length + j := by rw [← hM, ofL_size, List.length_append, zs_len]
    have HM := Lib.hid hM
    by_cases hlt : M < 6
    · have q1 : (M : Int) < 6 := by omega
      have HJ : Hid (ofL (fr ++ zs j) ++ ⟨#[48]⟩ = ofL (fr ++ zs (j + 1))) := Lib.hid (by rw [zs_succ, ← List.append_assoc, ← add_two]; rfl)
      have HS : Hid ((ofL (fr ++ zs (j + 1))).size = M + 1) := Lib.hid (by rw [ofL_size, List.length_append, zs_len]; omega)
      clear hM2
      go_wp2
      go_round
      case rel => exact ⟨j + 1, by have := HM.out; rw [ofL_size, List.length_append, zs_len] at this; omega, by rw [HJ.out]⟩
      case measure =>
        rw [HJ.out]
        dsimp only
        rw [HS.out, HM.out]
        omega
    · have q1 : ¬ (M : Int) < 6 := by omega
      have HE : Hid (fr ++ zs j = pd) := Lib.hid (by rw [← HPD.out, show j = 6 - fr.length by omega])
      have sP : (ofL pd).size = 6 := by rw [← HE.out, hM]; omega
      clear hM hM2 q1
      rw [HE.out]
      cases b with
      | false =>
        go_wp2_with fail
        refine (HVW.out _).mono ?_
        rintro e w6 ⟨rfl, hw6⟩
        obtain rfl := hw6.symm
        go_wp2_with fail
        refine (HVP.out _).mono ?_
        rintro e w6 ⟨rfl, hw6⟩
        obtain rfl := hw6.symm
        go_wp2
        go_ret2
        exact ⟨rfl, HB.out⟩
      | true =>
        go_wp2_with fail
        refine (HVW.out _).mono ?_
        rintro e w6 ⟨rfl, hw6⟩
        obtain rfl := hw6.symm
        go_wp2_with fail
        refine (HVP.out _).mono ?_
        rintro e w6 ⟨rfl, hw6⟩
        obtain rfl := hw6.symm
        go_wp2
        go_ret2
        exact ⟨rfl, HB.out⟩
theorem V_scaled {x : Num} (g : Good x) : ∃ F : Nat, val x.fr * 10 ^ (6 - x.fr.length) = F ∧ F < 1000000 ∧ V x = sg x.neg (val x.wh) * 1000000 + sg x.neg F := by
  obtain ⟨h1, h2⟩ := mag_eq g
  refine ⟨_, rfl, h2, ?_⟩
  unfold V sg
  rw [h1]
  cases x.neg <;> simp only [if_true, if_false, Bool.false_eq_true] <;> omega
set_option maxRecDepth 1000000 in
set_option maxHeartbeats 8000000 in
theorem refCompare_any (s t : ByteArray) (hs : s.size ≤ 9223372036854775807) (ht : t.size ≤ 9223372036854775807) (w : World) : Calls Try.prog 22 #[.string s, .string t] w (CmpPost s.data.toList t.data.toList w) := by
  go_enter Try.func22, Try.ntmps22
  go_wp2_with fail
  refine (refSplit_any s hs _).mono ?_
  rintro e w1 ⟨ok, x, rfl, hxy, hxn, b1⟩
  unfold refN
  have HXY := Lib.hid hxy
  have HXN := Lib.hid hxn
  have HB1 := Lib.hid (b1.alloc b1.size (.cells #[.bool x.neg, .string (ofL x.wh), .string (ofL x.fr)] 49))
  have KX := Lib.hid (Blk.new w1 49 #[.bool x.neg, .string (ofL x.wh), .string (ofL x.fr)])
  clear hxy hxn b1
  go_wp2_with fail
  obtain ⟨W1, hW1⟩ : ∃ W1, w1.alloc (.cells #[.bool x.neg, .string (ofL x.wh), .string (ofL x.fr)] 49) = W1 := ⟨_, rfl⟩
  rw [hW1] at HB1 KX ⊢
  obtain ⟨C6, hC6⟩ : ∃ C6, w1.heap.size = C6 := ⟨_, rfl⟩
  rw [hC6] at KX ⊢
  clear hW1 hC6
  refine (refSplit_any t ht _).mono ?_
  rintro e w2 ⟨okb, y, rfl, hyy, hyn, b2⟩
  unfold refN
  have HYY := Lib.hid hyy
  have HYN := Lib.hid hyn
  have HB2 := Lib.hid ((st HB1.out b2 HB1.out.size).alloc (st HB1.out b2 HB1.out.size).size (.cells #[.bool y.neg, .string (ofL y.wh), .string (ofL y.fr)] 49))
  have KY := Lib.hid (Blk.new w2 49 #[.bool y.neg, .string (ofL y.wh), .string (ofL y.fr)])
  have KX2 := Lib.hid ((KX.out.below b2).alloc (.cells #[.bool y.neg, .string (ofL y.wh), .string (ofL y.fr)] 49))
  clear hyy hyn b2 HB1 KX
  cases ok with
  | false =>
    have HV : Hid (cmpR s.data.toList t.data.toList = (0, 1)) := Lib.hid (cmpR_none (.inl (HXN.out rfl)))
    go_wp2
    go_ret2
    exact ⟨by rw [HV.out]; rfl, HB2.out⟩
  | true =>
    cases okb with
    | false =>
      have HV : Hid (cmpR s.data.toList t.data.toList = (0, 1)) := Lib.hid (cmpR_none (.inr (HYN.out rfl)))
      go_wp2
      go_ret2
      exact ⟨by rw [HV.out]; rfl, HB2.out⟩
    | true =>
      have GX := Lib.hid (spl_some (HXY.out rfl)).1
      have GY := Lib.hid (spl_some (HYY.out rfl)).1
      have HV : Hid (cmpR s.data.toList t.data.toList = (cmpI (V x) (V y), 0)) := Lib.hid (cmpR_some (HXY.out rfl) (HYY.out rfl))
      clear HXY HXN HYY HYN
      go_upto_region 5 with fail
      obtain ⟨W2, hW2⟩ : ∃ W2, w2.alloc (.cells #[.bool y.neg, .string (ofL y.wh), .string (ofL y.fr)] 49) = W2 := ⟨_, rfl⟩
      obtain ⟨C8, hC8⟩ : ∃ C8, w2.heap.size = C8 := ⟨_, rfl⟩
      rw [hW2] at HB2 KX2 KY ⊢
      rw [hC8] at KY ⊢
      clear hW2 hC8
      have m0 : W2.cell? ⟨C6, 0, none⟩ = some (.bool x.neg) := KX2.out.cell 0
      have m1 : W2.cell? ⟨C6, 1, none⟩ = some (.string (ofL x.wh)) := KX2.out.cell 1
      have m2 : W2.cell? ⟨C6, 2, none⟩ = some (.string (ofL x.fr)) := KX2.out.cell 2
      obtain ⟨F, hF, hF2, hVX⟩ := V_scaled GX.out
      obtain ⟨G, hG, hG2, hVY⟩ := V_scaled GY.out
      have HSX := Lib.hid (scaled_any x.neg x.wh x.fr GX.out.dw GX.out.df GX.out.high GX.out.few)
      have HSY := Lib.hid (scaled_any y.neg y.wh y.fr GY.out.dw GY.out.df GY.out.high GY.out.few)
      rw [hF] at HSX
      rw [hG] at HSY
      obtain ⟨i, hi⟩ : ∃ i, sg x.neg (val x.wh) = i := ⟨_, rfl⟩
      obtain ⟨f, hf⟩ : ∃ f, sg x.neg F = f := ⟨_, rfl⟩
      obtain ⟨k, hk⟩ : ∃ k, sg y.neg (val y.wh) = k := ⟨_, rfl⟩
      obtain ⟨g, hg⟩ : ∃ g, sg y.neg G = g := ⟨_, rfl⟩
      rw [hi, hf] at HSX hVX
      rw [hk, hg] at HSY hVY
      have hsx : (0 ≤ i ∧ 0 ≤ f) ∨ (i ≤ 0 ∧ f ≤ 0) := by rw [← hi, ← hf]; unfold sg; cases x.neg <;> simp <;> omega
      have hsy : (0 ≤ k ∧ 0 ≤ g) ∨ (k ≤ 0 ∧ g ≤ 0) := by rw [← hk, ← hg]; unfold sg; cases y.neg <;> simp <;> omega
      have hfb : -1000000 < f ∧ f < 1000000 := by rw [← hf]; unfold sg; cases x.neg <;> simp <;> omega
      have hgb : -1000000 < g ∧ g < 1000000 := by rw [← hg]; unfold sg; cases y.neg <;> simp <;> omega
      have HCM : Hid (cmpI (V x) (V y) = if i < k ∨ (i = k ∧ f < g) then -1 else if k < i ∨ g < f then 1 else 0) := Lib.hid (by
        rw [hVX, hVY]
        unfold cmpI
        split <;> split <;> (try split) <;> (try split) <;> omega)
      clear hF hG hF2 hG2 hVX hVY hi hf hk hg hsx hsy hfb hgb
      go_wp2_with fail
      refine (HSX.out _).mono ?_
      rintro e w5 ⟨rfl, b5⟩
      have n0 : w5.cell? ⟨C8, 0, none⟩ = some (.bool y.neg) := (KY.out.below b5).cell 0
      have n1 : w5.cell? ⟨C8, 1, none⟩ = some (.string (ofL y.wh)) := (KY.out.below b5).cell 1
      have n2 : w5.cell? ⟨C8, 2, none⟩ = some (.string (ofL y.fr)) := (KY.out.below b5).cell 2
      have HB5 := Lib.hid (st HB2.out b5 HB2.out.size)
      clear b5 m0 m1 m2
      go_wp2_with fail
      refine (HSY.out _).mono ?_
      rintro e w6 ⟨rfl, b6⟩
      have HB6 := Lib.hid (st HB5.out b6 HB5.out.size)
      clear b6 n0 n1 n2
      rcases Int.lt_trichotomy i k with h | h | h
      · have q1 : decide (i < k) = true := decide_eq_true h
        have HE : Hid (cmpI (V x) (V y) = -1) := Lib.hid (by rw [HCM.out, if_pos (.inl h)])
        clear h
        go_wp2
        go_ret2
        exact ⟨by rw [HV.out, HE.out]; rfl, HB6.out⟩
      · subst h
        have q1 : decide (i < i) = false := decide_eq_false (by omega)
        have q2 : (i == i) = true := by rw [beq_iff_eq]
        rcases Int.lt_trichotomy f g with h | h | h
        · have q3 : decide (f < g) = true := decide_eq_true h
          have HE : Hid (cmpI (V x) (V y) = -1) := Lib.hid (by rw [HCM.out, if_pos (.inr ⟨rfl, h⟩)])
          clear h
          go_wp2
          go_ret2
          exact ⟨by rw [HV.out, HE.out]; rfl, HB6.out⟩
        · subst h
          have q3 : decide (f < f) = false := decide_eq_false (by omega)
          have HE : Hid (cmpI (V x) (V y) = 0) := Lib.hid (by rw [HCM.out, if_neg (by omega), if_neg (by omega)])
          go_wp2
          go_ret2
          exact ⟨by rw [HV.out, HE.out]; rfl, HB6.out⟩
        · have q3 : decide (f < g) = false := decide_eq_false (by omega)
          have q4 : decide (g < f) = true := decide_eq_true h
          have HE : Hid (cmpI (V x) (V y) = 1) := Lib.hid (by rw [HCM.out, if_neg (by omega), if_pos (.inr h)])
          clear h
          go_wp2
          go_ret2
          exact ⟨by rw [HV.out, HE.out]; rfl, HB6.out⟩
      · have q1 : decide (i < k) = false := decide_eq_false (by omega)
        have q2 : (i == k) = false := by rw [beq_eq_false_iff_ne]; omega
        have q3 : decide (k < i) = true := decide_eq_true h
        have HE : Hid (cmpI (V x) (V y) = 1) := Lib.hid (by rw [HCM.out, if_neg (by omega), if_pos (.inl h)])
        clear h
        go_wp2
        go_ret2
        exact ⟨by rw [HV.out, HE.out]; rfl, HB6.out⟩
end Go.Proofs.Ytkgjadblfldjnaa
