/- The law DecimalNearest. -/
import Derived.Test.YtkgjadblfldjnaaKzc
namespace Go.Proofs.Ytkgjadblfldjnaa
open Go.RowKit
set_option linter.unusedVariables false

theorem V_bound {x : Num} (g : Good x) (h : x.wh.length ≤ 9) : -1000000000000000 < V x ∧ V x < 1000000000000000 := by
  obtain ⟨h1, h2⟩ := mag_eq g
  have h3 : val x.wh < 1000000000 := Nat.lt_of_lt_of_le (val_lt g.dw) (Nat.pow_le_pow_right (by omega) h : 10 ^ x.wh.length ≤ 10 ^ 9)
  unfold V
  rw [h1]
  split <;> omega
theorem mil_some {s : Str} {x : Num} (h : spl s = some x) (h9 : x.wh.length ≤ 9) : mil s = (V x, true) := by unfold mil; rw [h]; dsimp only; rw [if_neg (by omega)]
theorem mil_big {s : Str} {x : Num} (h : spl s = some x) (h9 : 9 < x.wh.length) : mil s = (0, false) := by unfold mil; rw [h]; dsimp only; rw [if_pos h9]
theorem mil_none {s : Str} (h : spl s = none) : mil s = (0, false) := by unfold mil; rw [h]
theorem pow_step {i : Nat} (h : i < 6) : 10 ^ (6 - i) / 10 = 10 ^ (6 - (i + 1)) := by
  rw [show 6 - i = (6 - (i + 1)) + 1 by omega, Nat.pow_succ, Nat.mul_div_cancel _ (by omega)]
theorem near_V {x : Num} (g : Good x) {n : Nat} (hn : n ≤ 6) {y : Num} (hy : Good y) (h : Ro x n (some (txt y))) : 2 * (V y - V x) ≤ ((10 ^ (6 - n) : Nat) : Int) ∧ -(2 * (V y - V x)) ≤ ((10 ^ (6 - n) : Nat) : Int) := by
  obtain ⟨y', gy, h1, _, _, hv⟩ := ro_some g hn h
  have e := (txt_inj gy hy).1 h1
  subst e
  obtain ⟨a1, a2⟩ := ro_near g hn
  obtain ⟨A, hA⟩ : ∃ A, roD x n * 10 ^ (6 - n) = A := ⟨_, rfl⟩
  obtain ⟨U, hU⟩ : ∃ U, 10 ^ (6 - n) = U := ⟨_, rfl⟩
  rw [hA, hU] at a1 a2
  rw [hv, hA, hU]
  unfold V
  split <;> omega
set_option maxRecDepth 1000000 in
set_option maxHeartbeats 8000000 in
theorem decimalNearest_walk (s : ByteArray) (d : Int) (hs : s.size ≤ maxLen) (hd : (Lit.int .u8 d).wf = true) (w : World) : Calls Try.prog 10 #[.string s, .int .u8 d] w fun e w' => e = .returned (.bool true) ∧ Below w.heap.size w w' := by
  obtain ⟨d1, d2⟩ := bounds_u8 hd
  have hm : maxLen = 9223372036854775807 := by decide
  rw [hm] at hs
  clear hd hm
  obtain ⟨D, rfl⟩ : ∃ D : Nat, d = D := ⟨d.toNat, by omega⟩
  obtain ⟨n, hn⟩ : ∃ n, D % 7 = n := ⟨_, rfl⟩
  have hn6 : n ≤ 6 := by omega
  have r1 : (D : Int) % 7 = (n : Int) := by omega
  have r2 : (D : Int).tmod 7 = (n : Int) := by rw [Int.tmod_eq_emod_of_nonneg (by omega)]; exact r1
  clear hn
  go_enter Try.func10, Try.ntmps10
  go_wp2_with fail
  refine (awake_any _).mono ?_
  rintro e w1 ⟨rfl, b1⟩
  have HB1 := Lib.hid b1
  clear b1
  go_wp2_with fail
  refine (refValid_any s hs _).mono ?_
  cases hsp : spl s.data.toList with
  | none =>
    rintro e w2 ⟨rfl, b2⟩
    have HB2 := Lib.hid (st HB1.out b2 HB1.out.size)
    clear b2 hsp
    go_wp2_with fail
    refine (awake_any _).mono ?_
    rintro e w3 ⟨rfl, b3⟩
    have HB3 := Lib.hid (st HB2.out b3 HB2.out.size)
    clear b3
    go_wp2
    go_ret
    exact ⟨rfl, HB3.out⟩
  | some x =>
    have gx := (spl_some hsp).1
    have GX := Lib.hid gx
    obtain rfl := s_of hsp
    rintro e w2 ⟨rfl, b2⟩
    have HB2 := Lib.hid (st HB1.out b2 HB1.out.size)
    have hMX := millionths_any (ofL (txt x)) hs
    have hlx := txt_len gx
    clear b2 hsp gx
    go_wp2_with fail
    refine (round_good GX.out (n : Int) _).mono ?_
    rintro e w3 ⟨h | ⟨d', o, hd', _, ho, rfl⟩, b3⟩
    · exfalso; omega
    obtain rfl : d' = n := by omega
    have HO := Lib.hid ho
    have HB3 := Lib.hid (st HB2.out b3 HB2.out.size)
    clear b3 ho hd'
    obtain ⟨P, E, hf⟩ := resV_form o
    have HF := Lib.hid hf
    rw [hf]
    clear hf
    obtain ⟨m1, h1⟩ : ∃ r, (mil (ofL (txt x)).data.toList).1 = r := ⟨_, rfl⟩
    obtain ⟨m2, h2⟩ : ∃ r, (mil (ofL (txt x)).data.toList).2 = r := ⟨_, rfl⟩
    simp only [h1, h2] at hMX
    have H1 := Lib.hid h1
    have H2 := Lib.hid h2
    have HMX := Lib.hid hMX
    have HPS : Hid (P.size ≤ 9223372036854775807) := Lib.hid (by
      have hf := HF.out
      cases o with
      | none => unfold resV at hf; simp at hf; rw [← hf.1, ofL_size]; simp
      | some t =>
        unfold resV at hf; simp at hf
        obtain ⟨y, gy, ht⟩ := ro_txt GX.out hn6 HO.out
        rw [← hf.1, ofL_size, ← ht]
        have := txt_len gy
        omega)
    have hMY := millionths_any P HPS.out
    obtain ⟨k1, g1⟩ : ∃ r, (mil P.data.toList).1 = r := ⟨_, rfl⟩
    obtain ⟨k2, g2⟩ : ∃ r, (mil P.data.toList).2 = r := ⟨_, rfl⟩
    simp only [g1, g2] at hMY
    have G1 := Lib.hid g1
    have G2 := Lib.hid g2
    have HMY := Lib.hid hMY
    have HE : Hid (E = 0 ∨ E = 2) := Lib.hid (by
      have hf := HF.out
      cases o with
      | none => unfold resV at hf; simp at hf; exact .inr hf.2.symm
      | some t => unfold resV at hf; simp at hf; exact .inl hf.2.symm)
    clear hMX h1 h2 hMY g1 g2 hs
    go_wp2_with fail
    refine (HMX.out _).mono ?_
    rintro e w4 ⟨rfl, b4⟩
    have HB4 := Lib.hid (st HB3.out b4 HB3.out.size)
    clear b4
    go_wp2_with fail
    refine (HMY.out _).mono ?_
    rintro e w5 ⟨rfl, b5⟩
    have HB5 := Lib.hid (st HB4.out b5 HB4.out.size)
    clear b5
    by_cases hb : m2 = true ∧ k2 = true
    · obtain ⟨rfl, rfl⟩ := hb
      have hx9 : x.wh.length ≤ 9 := by
        rcases Nat.lt_or_ge 9 x.wh.length with h | h
        · have := H2.out; rw [mil_big (spl_ofL GX.out) h] at this; cases this
        · exact h
      have hex : ∃ y, Good y ∧ o = some (txt y) ∧ P = ofL (txt y) ∧ E = 0 ∧ y.wh.length ≤ 9 ∧ y.fr.length = d' := by
        have hf := HF.out
        cases o with
        | none =>
          unfold resV at hf; simp at hf
          have := G2.out
          rw [← hf.1, mil_none (by rw [ofL_list]; decide +kernel)] at this
          cases this
        | some t =>
          unfold resV at hf; simp at hf
          obtain ⟨y, gy, ht, hfl, _, _⟩ := ro_some GX.out hn6 HO.out
          subst ht
          refine ⟨y, gy, rfl, hf.1.symm, hf.2.symm, ?_, hfl⟩
          rcases Nat.lt_or_ge 9 y.wh.length with h | h
          · have := G2.out; rw [← hf.1, mil_big (spl_ofL gy) h] at this; cases this
          · exact h
      obtain ⟨y, gy, rfl, rfl, rfl, hy9, hyf⟩ := hex
      have GY := Lib.hid gy
      have hk : k1 = V y := by have := G1.out; rw [mil_some (spl_ofL gy) hy9] at this; exact this.symm
      have hm' : m1 = V x := by have := H1.out; rw [mil_some (spl_ofL GX.out) hx9] at this; exact this.symm
      have hnv := near_V GX.out hn6 gy HO.out
      have bx := V_bound GX.out hx9
      have by_ := V_bound gy hy9
      rw [← hk, ← hm'] at hnv
      rw [← hm'] at bx
      rw [← hk] at by_
      have HYF := Lib.hid hyf
      clear gy hk hm' hyf hy9 hx9 HF H1 H2 G1 G2 HMX HMY HPS HE
      go_wp2_with fail
      refine (round_good GY.out (d' : Int) _).mono ?_
      rintro e w6 ⟨h | ⟨d2, o2, hd2, _, ho2, rfl⟩, b6⟩
      · exfalso; omega
      obtain rfl : d2 = d' := by omega
      have ho3 := ro_again GY.out HYF.out ho2
      subst ho3
      have HB6 := Lib.hid (st HB5.out b6 HB5.out.size)
      clear b6 ho2 hd2
      have hop : opnd y 3 = ((d2 : Int), 0) := by
        have e : opnd y 3 = ((y.fr.length : Int), 0) := rfl
        rw [e, HYF.out]
      have hOP := operand_good GY.out 3
      simp only [hop] at hOP
      have HOP := Lib.hid hOP
      obtain ⟨U, hU⟩ : ∃ U, 10 ^ (6 - d2) = U := ⟨_, rfl⟩
      rw [hU] at hnv
      have HU := Lib.hid hU
      have HNV := Lib.hid hnv
      obtain ⟨bx1, bx2⟩ := bx
      obtain ⟨by1, by2⟩ := by_
      have hU1 : U ≤ 1000000 := by rw [← hU]; exact (Nat.pow_le_pow_right (by omega) (by omega) : 10 ^ (6 - d2) ≤ 10 ^ 6)
      clear hop hOP hU hnv
      unfold resV
      go_wp2_with fail
      refine (HOP.out _).mono ?_
      rintro e w7 ⟨rfl, b7⟩
      have HB7 := Lib.hid (st HB6.out b7 HB6.out.size)
      clear b7
      go_wp2
      go_loop [16, 17] (fun v16 v17 => ∃ i : Nat, i ≤ d2 ∧ v17 = .int .i64 i ∧ v16 = .int .i64 ((10 ^ (6 - i) : Nat) : Int)) (fun _ v17 => d2 - (intOf v17).toNat)
      case atStart => exact ⟨0, Nat.zero_le _, rfl, rfl⟩
      case round =>
        obtain ⟨i, hi, rfl, rfl⟩ := hrel
        by_cases hlt : i < d2
        · have q1 : (i : Int) < (d2 : Int) := by omega
          have hst := pow_step (show i < 6 by omega)
          obtain ⟨A, hA⟩ : ∃ A, 10 ^ (6 - i) = A := ⟨_, rfl⟩
          rw [hA] at hst ⊢
          have hAb : A ≤ 1000000 := by rw [← hA]; exact (Nat.pow_le_pow_right (by omega) (by omega) : 10 ^ (6 - i) ≤ 10 ^ 6)
          have HST := Lib.hid hst
          clear hst hA
          go_wp2
          go_round
          case rel => exact ⟨i + 1, by omega, by go_num, by rw [← HST.out]; exact val_int (by omega)⟩
          case measure => simp [intOf]; omega
        · obtain rfl : i = d2 := by omega
          have q1 : ¬ (i : Int) < (i : Int) := by omega
          rw [HU.out]
          obtain ⟨z, hz⟩ : ∃ z, 2 * (k1 - m1) = z := ⟨_, rfl⟩
          have hnv := HNV.out
          rw [hz] at hnv
          obtain ⟨nv1, nv2⟩ := hnv
          have HZ := Lib.hid hz
          have t1 : decide (z ≤ (U : Int)) = true := decide_eq_true nv1
          have t2 : decide (-z ≤ (U : Int)) = true := decide_eq_true nv2
          have w1 : IntKind.i64.wrap (k1 - m1) = k1 - m1 := wrap_fit (by omega) (by omega)
          have w2 : IntKind.i64.wrap (2 * (k1 - m1)) = z := by rw [hz]; exact wrap_fit (by omega) (by omega)
          have w3 : IntKind.i64.wrap (-z) = -z := wrap_fit (by omega) (by omega)
          go_wp2
          go_ret
          exact ⟨by first | rfl | simp, HB7.out⟩
    · have hbb : m2 = false ∨ (m2 = true ∧ k2 = false) := by cases m2 <;> cases k2 <;> simp_all
      have HE2 := HE.out
      clear hb
      rcases hbb with rfl | ⟨rfl, rfl⟩
      all_goals
        rcases HE2 with rfl | rfl
        all_goals
          go_wp2
          go_ret
          exact ⟨rfl, HB5.out⟩
end Go.Proofs.Ytkgjadblfldjnaa
