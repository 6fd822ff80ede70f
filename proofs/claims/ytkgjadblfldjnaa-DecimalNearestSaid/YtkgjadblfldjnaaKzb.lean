/- The law DecimalNormal. -/
import Derived.Test.YtkgjadblfldjnaaKza
namespace Go.Proofs.Ytkgjadblfldjnaa
open Go.RowKit
set_option linter.unusedVariables false

theorem normal_good {x : Num} (g : Good x) (w : World) :
    Calls Try.prog 15 #[.string (ofL (txt x))] w fun e w' => e = .returned (.tuple #[.string (ofL (txt (nrm x))), .int .i64 0]) ∧ Below w.heap.size w w' := by
  refine (normal_any (ofL (txt x)) (by rw [ofL_size]; have := txt_len g; omega) w).mono ?_
  rintro e w' ⟨h, b⟩
  unfold nrmR at h
  rw [spl_ofL g] at h
  exact ⟨h, b⟩
theorem operand_good {x : Num} (g : Good x) (k : Int) (w : World) :
    Calls Try.prog 19 #[.string (ofL (txt x)), .int .i64 k] w fun e w' => e = .returned (.tuple #[.int .i64 (opnd x k).1, .int .i64 (opnd x k).2]) ∧ Below w.heap.size w w' := by
  refine (operand_any (ofL (txt x)) k (by rw [ofL_size]; have := txt_len g; omega) w).mono ?_
  rintro e w' ⟨h, b⟩
  rw [opR_some (spl_ofL g)] at h
  exact ⟨h, b⟩
set_option maxRecDepth 1000000 in
set_option maxHeartbeats 8000000 in
theorem decimalNormal_walk (s t : ByteArray) (hs : s.size ≤ maxLen) (ht : t.size ≤ maxLen) (w : World) : Calls Try.prog 11 #[.string s, .string t] w fun e w' => e = .returned (.bool true) ∧ Below w.heap.size w w' := by
  have hm : maxLen = 9223372036854775807 := by decide
  rw [hm] at hs ht
  clear hm
  go_enter Try.func11, Try.ntmps11
  go_wp2_with fail
  refine (awake_any _).mono ?_
  rintro e w1 ⟨rfl, b1⟩
  have HB1 := Lib.hid b1
  clear b1
  go_wp2_with fail
  refine (refValid_any s hs _).mono ?_
  cases hsp : spl s.data.toList with
  | none =>
    rintro e w2 ⟨rfl, b2⟩
    have HB2 := Lib.hid (st HB1.out b2 HB1.out.size)
    clear b2 hsp
    go_wp2_with fail
    refine (awake_any _).mono ?_
    rintro e w3 ⟨rfl, b3⟩
    have HB3 := Lib.hid (st HB2.out b3 HB2.out.size)
    clear b3
    go_wp2
    go_ret
    exact ⟨rfl, HB3.out⟩
  | some x =>
    have gx := (spl_some hsp).1
    have GX := Lib.hid gx
    obtain rfl := s_of hsp
    rintro e w2 ⟨rfl, b2⟩
    have HB2 := Lib.hid (st HB1.out b2 HB1.out.size)
    clear b2 hsp gx
    go_wp2_with fail
    refine (refValid_any t ht _).mono ?_
    cases htp : spl t.data.toList with
    | none =>
      rintro e w3 ⟨rfl, b3⟩
      have HB3 := Lib.hid (st HB2.out b3 HB2.out.size)
      clear b3 htp
      go_wp2_with fail
      refine (awake_any _).mono ?_
      rintro e w4 ⟨rfl, b4⟩
      have HB4 := Lib.hid (st HB3.out b4 HB3.out.size)
      clear b4
      go_wp2
      go_ret
      exact ⟨rfl, HB4.out⟩
    | some y =>
      have gy := (spl_some htp).1
      have GY := Lib.hid gy
      obtain rfl := s_of htp
      rintro e w3 ⟨rfl, b3⟩
      have HB3 := Lib.hid (st HB2.out b3 HB2.out.size)
      clear b3 htp gy
      have GNX := Lib.hid (nrm_good GX.out)
      have GNY := Lib.hid (nrm_good GY.out)
      have hN1 := fun w => normal_good GX.out w
      have hN2 := fun w => normal_good GY.out w
      have hN3 := fun w => normal_good GNX.out w
      have hS1 := fun w => same_good GX.out GNX.out w
      have hO1 := fun w => operand_good GNX.out 3 w
      have hO2 := fun w => operand_good GX.out 4 w
      have hO3 := fun w => operand_good GNX.out 5 w
      have hO4 := fun w => operand_good GX.out 6 w
      have hS2 := fun w => same_good GX.out GY.out w
      have h1 : (cmpI (V x) (V (nrm x)) == 0) = true := by rw [beq_iff_eq, cmpI_zero, nrm_V GX.out]
      obtain ⟨eq, heq⟩ : ∃ eq, (cmpI (V x) (V y) == 0) = eq := ⟨_, rfl⟩
      have HEQ : Hid (((ofL (txt (nrm x))).toList == (ofL (txt (nrm y))).toList) = eq) := Lib.hid (by
        rw [← heq, ByteArray.toList_eq, ByteArray.toList_eq, Bool.eq_iff_iff, beq_iff_eq, beq_iff_eq, cmpI_zero, nrm_iff GX.out GY.out]
        exact txt_inj GNX.out GNY.out)
      have e3 : opnd (nrm x) 3 = (((trim x.fr).length : Int), 0) := rfl
      have e4 : opnd x 4 = (((trim x.fr).length : Int), 0) := rfl
      have e5 : opnd (nrm x) 5 = ((val (trim x.fr) : Int), 0) := rfl
      have e6 : opnd x 6 = ((val (trim x.fr) : Int), 0) := rfl
      simp only [nrm_nrm] at hN3
      simp only [h1] at hS1
      simp only [e3] at hO1
      simp only [e4] at hO2
      simp only [e5] at hO3
      simp only [e6] at hO4
      simp only [heq] at hS2
      obtain ⟨X1, hX1⟩ : ∃ X1, txt (nrm x) = X1 := ⟨_, rfl⟩
      obtain ⟨Y1, hY1⟩ : ∃ Y1, txt (nrm y) = Y1 := ⟨_, rfl⟩
      obtain ⟨tl1, ht1⟩ : ∃ tl1, ((trim x.fr).length : Int) = tl1 := ⟨_, rfl⟩
      obtain ⟨tv1, hv1⟩ : ∃ tv1, (val (trim x.fr) : Int) = tv1 := ⟨_, rfl⟩
      simp only [hX1, hY1] at HEQ
      simp only [hX1] at hN1 hN3 hS1 hO1 hO3
      simp only [hY1] at hN2
      simp only [ht1] at hO1 hO2
      simp only [hv1] at hO3 hO4
      have HN1 := Lib.hid hN1
      have HN2 := Lib.hid hN2
      have HN3 := Lib.hid hN3
      have HS1 := Lib.hid hS1
      have HO1 := Lib.hid hO1
      have HO2 := Lib.hid hO2
      have HO3 := Lib.hid hO3
      have HO4 := Lib.hid hO4
      have HS2 := Lib.hid hS2
      clear hN1 hN2 hN3 hS1 hO1 hO2 hO3 hO4 hS2 h1 heq e3 e4 e5 e6 hX1 hY1 ht1 hv1
      go_wp2_with fail
      refine (HN1.out _).mono ?_
      rintro e w4 ⟨rfl, b4⟩
      have HB4 := Lib.hid (st HB3.out b4 HB3.out.size)
      clear b4
      go_wp2_with fail
      refine (HN2.out _).mono ?_
      rintro e w5 ⟨rfl, b5⟩
      have HB5 := Lib.hid (st HB4.out b5 HB4.out.size)
      clear b5
      go_wp2_with fail
      refine (HN3.out _).mono ?_
      rintro e w6 ⟨rfl, b6⟩
      have HB6 := Lib.hid (st HB5.out b6 HB5.out.size)
      clear b6
      go_wp2_with fail
      refine (HS1.out _).mono ?_
      rintro e w7 ⟨rfl, b7⟩
      have HB7 := Lib.hid (st HB6.out b7 HB6.out.size)
      clear b7
      go_wp2_with fail
      refine (HO1.out _).mono ?_
      rintro e w8 ⟨rfl, b8⟩
      have HB8 := Lib.hid (st HB7.out b8 HB7.out.size)
      clear b8
      go_wp2_with fail
      refine (HO2.out _).mono ?_
      rintro e w9 ⟨rfl, b9⟩
      have HB9 := Lib.hid (st HB8.out b9 HB8.out.size)
      clear b9
      go_wp2_with fail
      refine (HO3.out _).mono ?_
      rintro e w10 ⟨rfl, b10⟩
      have HB10 := Lib.hid (st HB9.out b10 HB9.out.size)
      clear b10
      go_wp2_with fail
      refine (HO4.out _).mono ?_
      rintro e w11 ⟨rfl, b11⟩
      have HB11 := Lib.hid (st HB10.out b11 HB10.out.size)
      clear b11
      go_wp2_with fail
      refine (HS2.out _).mono ?_
      rintro e w12 ⟨rfl, b12⟩
      have HB12 := Lib.hid (st HB11.out b12 HB11.out.size)
      clear b12
      have q1 : ((ofL X1).toList == (ofL Y1).toList) = eq := HEQ.out
      cases eq with
      | true =>
        go_wp2
        go_ret
        exact ⟨rfl, HB12.out⟩
      | false =>
        go_wp2
        go_ret
        exact ⟨rfl, HB12.out⟩
end Go.Proofs.Ytkgjadblfldjnaa
