/- awake; the laws DecimalValid, DecimalOperands, DecimalCompare, DecimalShift, DecimalRound. -/
import Derived.Test.YtkgjadblfldjnaaKx
import Derived.OpenShut
namespace Go.Proofs.Ytkgjadblfldjnaa
open Go.RowKit
set_option linter.unusedVariables false

theorem resV_form (o : Option Str) : ∃ A E, resV o = .tuple #[.string A, .int .i64 E] := by cases o <;> exact ⟨_, _, rfl⟩
theorem nrm_form (s : Str) : ∃ A E, nrmR s = .tuple #[.string A, .int .i64 E] := by unfold nrmR; split <;> exact ⟨_, _, rfl⟩
theorem sh_form {s : Str} {n : Int} {w w' : World} {e : Ending} (h : ShPost s n w e w') : ∃ A E, e = .returned (.tuple #[.string A, .int .i64 E]) := by
  obtain ⟨h | ⟨x, o, _, _, h⟩, _⟩ := h
  · exact ⟨_, _, h.2⟩
  · obtain ⟨A, E, h2⟩ := resV_form o
    exact ⟨A, E, by rw [h, h2]⟩
theorem sh_eq {s : Str} {n : Int} {w w' w2 w2' : World} {e e2 : Ending} (h : ShPost s n w e w') (h2 : ShPost s n w2 e2 w2') : e2 = e := by
  obtain ⟨h | ⟨x, o, hx, ho, h⟩, _⟩ := h
  · obtain ⟨k | ⟨x, o, hx, ho, k⟩, _⟩ := h2
    · rw [h.2, k.2]
    · rw [h.1] at hx; cases hx
  · obtain ⟨k | ⟨x', o', hx', ho', k⟩, _⟩ := h2
    · rw [k.1] at hx; cases hx
    · rw [hx] at hx'
      have hxx := Option.some.inj hx'
      subst hxx
      rw [h, k, sh_one ho ho']
theorem ro_form {s : Str} {n : Int} {w w' : World} {e : Ending} (h : RoPost s n w e w') : ∃ A E, e = .returned (.tuple #[.string A, .int .i64 E]) := by
  obtain ⟨h | ⟨x, _, _, h⟩ | ⟨x, d, o, _, _, _, _, h⟩, _⟩ := h
  · exact ⟨_, _, h.2⟩
  · exact ⟨_, _, h⟩
  · obtain ⟨A, E, h2⟩ := resV_form o
    exact ⟨A, E, by rw [h, h2]⟩
theorem ro_eq {s : Str} {n : Int} {w w' w2 w2' : World} {e e2 : Ending} (h : RoPost s n w e w') (h2 : RoPost s n w2 e2 w2') : e2 = e := by
  obtain ⟨h | ⟨x, hx, hb, h⟩ | ⟨x, d, o, hx, hn, hd, ho, h⟩, _⟩ := h
  · obtain ⟨k | ⟨x, hx, _, k⟩ | ⟨x, d, o, hx, _, _, _, k⟩, _⟩ := h2
    · rw [h.2, k.2]
    · rw [h.1] at hx; cases hx
    · rw [h.1] at hx; cases hx
  · obtain ⟨k | ⟨x', hx', _, k⟩ | ⟨x', d, o, hx', hn, hd, _, k⟩, _⟩ := h2
    · rw [k.1] at hx; cases hx
    · rw [h, k]
    · exfalso; omega
  · obtain ⟨k | ⟨x', hx', hb, k⟩ | ⟨x', d', o', hx', hn', hd', ho', k⟩, _⟩ := h2
    · rw [k.1] at hx; cases hx
    · exfalso; omega
    · rw [hx] at hx'
      have hxx := Option.some.inj hx'
      subst hxx
      have hdd : d' = d := by omega
      subst hdd
      rw [h, k, res_one ho ho']
def exS : ByteArray := { data := #[49, 46, 53, 48] }
def exO : ByteArray := { data := #[49, 46, 51, 48] }
def exX : Num := ⟨false, [49], [53, 48]⟩
theorem ex_good : Good exX := ⟨fun c h => by simp [exX] at h; subst h; rfl, fun c h => by simp [exX] at h; rcases h with rfl | rfl <;> rfl, by decide, by decide, fun h => by simp [exX] at h, by decide, fun h => by cases h⟩
theorem ex_spl : spl exS.data.toList = some exX := by
  have h := spl_of ex_good
  exact h
theorem ex_sh : Sh exX 1 (some [49, 53, 46, 48]) := by
  unfold Sh
  rw [if_neg (by omega)]
  refine ⟨[49, 53], [48], rfl, ?_, ?_, by simp, rfl, ?_⟩
  · exact allD_cons.2 ⟨rfl, allD_cons.2 ⟨rfl, allD_nil⟩⟩
  · exact allD_cons.2 ⟨rfl, allD_nil⟩
  · unfold shD
    have e1 : W exX = val ([49, 53] ++ [48]) := rfl
    rw [e1]
    show val ([49, 53] ++ [48]) = val ([49, 53] ++ [48]) * 10 ^ 0
    rw [Nat.pow_zero, Nat.mul_one]
theorem ex_op : opR exO.data.toList 6 = (3, 0) := by decide +kernel
def AwPost (w : World) (e : Ending) (w' : World) : Prop := e = .returned (.bool true) ∧ Below w.heap.size w w'
set_option maxRecDepth 1000000 in
set_option maxHeartbeats 2000000 in
theorem awake_any (w : World) : Calls Try.prog 12 #[] w (AwPost w) := by
  go_enter Try.func12, Try.ntmps12
  go_wp2_with fail
  refine (shift_any exS 1 (by decide) (by omega) (by omega) _).mono ?_
  rintro e w1 ⟨h, b1⟩
  have he : e = .returned (.tuple #[.string (ofL [49, 53, 46, 48]), .int .i64 0]) := by
    rcases h with h | ⟨x, o, hx, ho, h⟩
    · rw [ex_spl] at h; cases h.1
    · rw [ex_spl] at hx
      have hxx := Option.some.inj hx
      subst hxx
      rw [h, sh_one ho ex_sh]
      rfl
  subst he
  have HB1 := Lib.hid b1
  clear h b1
  go_wp2_with fail
  refine (operand_any exO 6 (by decide) _).mono ?_
  rintro e w2 ⟨rfl, b2⟩
  rw [ex_op]
  have HB2 := Lib.hid (st HB1.out b2 HB1.out.size)
  have e1 : ((ofL [49, 53, 46, 48]).toList == [49, 53, 46, 48]) = true := by rw [ByteArray.toList_eq]; rfl
  clear b2
  go_wp2
  go_ret
  exact ⟨rfl, HB2.out⟩
set_option maxRecDepth 1000000 in
set_option maxHeartbeats 4000000 in
theorem decimalShift_walk (s : ByteArray) (n : Int) (hs : s.size ≤ maxLen) (hn : (Lit.int .i64 n).wf = true) (w : World) : Calls Try.prog 7 #[.string s, .int .i64 n] w fun e w' => e = .returned (.bool true) ∧ Below w.heap.size w w' := by
  have hn2 : -9223372036854775808 ≤ n ∧ n ≤ 9223372036854775807 := bounds_i64 hn
  clear hn
  have hm : maxLen = 9223372036854775807 := by decide
  rw [hm] at hs
  go_enter Try.func7, Try.ntmps7
  go_wp2_with fail
  refine (awake_any _).mono ?_
  rintro e w1 ⟨rfl, b1⟩
  have HB1 := Lib.hid b1
  clear b1
  by_cases h60 : 60 < s.size
  · have q1 : (60 : Int) < (s.size : Int) := by omega
    go_wp2_with fail
    refine (awake_any _).mono ?_
    rintro e w2 ⟨rfl, b2⟩
    have HB2 := Lib.hid (st HB1.out b2 HB1.out.size)
    clear b2
    go_wp2
    go_ret
    exact ⟨rfl, HB2.out⟩
  · have q1 : ¬ (60 : Int) < (s.size : Int) := by omega
    go_wp2_with fail
    refine (shift_any s n (by omega) hn2.1 hn2.2 _).mono ?_
    rintro e w2 h2
    obtain ⟨A, E, rfl⟩ := sh_form h2
    have H2 := Lib.hid h2
    have HB2 := Lib.hid (st HB1.out h2.2 HB1.out.size)
    clear h2
    go_wp2_with fail
    refine (refShift_any s n hs hn2.1 hn2.2 _).mono ?_
    rintro e w3 h3
    have he := sh_eq H2.out h3
    subst he
    have HB3 := Lib.hid (st HB2.out h3.2 HB2.out.size)
    clear h3 H2
    go_wp2
    go_ret
    exact ⟨rfl, HB3.out⟩
set_option maxRecDepth 1000000 in
set_option maxHeartbeats 4000000 in
theorem decimalRound_walk (s : ByteArray) (n : Int) (hs : s.size ≤ maxLen) (hn : (Lit.int .i64 n).wf = true) (w : World) : Calls Try.prog 9 #[.string s, .int .i64 n] w fun e w' => e = .returned (.bool true) ∧ Below w.heap.size w w' := by
  clear hn
  have hm : maxLen = 9223372036854775807 := by decide
  rw [hm] at hs
  go_enter Try.func9, Try.ntmps9
  go_wp2_with fail
  refine (awake_any _).mono ?_
  rintro e w1 ⟨rfl, b1⟩
  have HB1 := Lib.hid b1
  clear b1
  by_cases h60 : 60 < s.size
  · have q1 : (60 : Int) < (s.size : Int) := by omega
    go_wp2_with fail
    refine (awake_any _).mono ?_
    rintro e w2 ⟨rfl, b2⟩
    have HB2 := Lib.hid (st HB1.out b2 HB1.out.size)
    clear b2
    go_wp2
    go_ret
    exact ⟨rfl, HB2.out⟩
  · have q1 : ¬ (60 : Int) < (s.size : Int) := by omega
    go_wp2_with fail
    refine (round_any s n (by omega) _).mono ?_
    rintro e w2 h2
    obtain ⟨A, E, rfl⟩ := ro_form h2
    have H2 := Lib.hid h2
    have HB2 := Lib.hid (st HB1.out h2.2 HB1.out.size)
    clear h2
    go_wp2_with fail
    refine (refRound_any s n hs _).mono ?_
    rintro e w3 h3
    have he := ro_eq H2.out h3
    subst he
    have HB3 := Lib.hid (st HB2.out h3.2 HB2.out.size)
    clear h3 H2
    go_wp2
    go_ret
    exact ⟨rfl, HB3.out⟩
set_option maxRecDepth 1000000 in
set_option maxHeartbeats 4000000 in
theorem decimalOperands_walk (s : ByteArray) (n : Int) (hs : s.size ≤ maxLen) (hn : (Lit.int .i64 n).wf = true) (w : World) : Calls Try.prog 4 #[.string s, .int .i64 n] w fun e w' => e = .returned (.bool true) ∧ Below w.heap.size w w' := by
  clear hn
  have hm : maxLen = 9223372036854775807 := by decide
  rw [hm] at hs
  go_enter Try.func4, Try.ntmps4
  go_wp2_with fail
  refine (awake_any _).mono ?_
  rintro e w1 ⟨rfl, b1⟩
  have HB1 := Lib.hid b1
  clear b1
  by_cases h60 : 60 < s.size
  · have q1 : (60 : Int) < (s.size : Int) := by omega
    go_wp2_with fail
    refine (awake_any _).mono ?_
    rintro e w2 ⟨rfl, b2⟩
    have HB2 := Lib.hid (st HB1.out b2 HB1.out.size)
    clear b2
    go_wp2
    go_ret
    exact ⟨rfl, HB2.out⟩
  · have q1 : ¬ (60 : Int) < (s.size : Int) := by omega
    go_wp2_with fail
    refine (operand_any s n (by omega) _).mono ?_
    rintro e w2 ⟨rfl, b2⟩
    have HB2 := Lib.hid (st HB1.out b2 HB1.out.size)
    clear b2
    have hR := refOperand_any s n hs w2
    unfold OpPost at hR
    obtain ⟨r1, h1⟩ : ∃ r, (opR s.data.toList n).1 = r := ⟨_, rfl⟩
    obtain ⟨r2, h2⟩ : ∃ r, (opR s.data.toList n).2 = r := ⟨_, rfl⟩
    rw [h1, h2] at hR ⊢
    have HR := Lib.hid hR
    clear hR h1 h2
    go_wp2_with fail
    refine HR.out.mono ?_
    rintro e w3 ⟨rfl, b3⟩
    have HB3 := Lib.hid (st HB2.out b3 HB2.out.size)
    clear b3
    go_wp2
    go_ret
    exact ⟨rfl, HB3.out⟩
set_option maxRecDepth 1000000 in
set_option maxHeartbeats 4000000 in
theorem decimalValid_walk (s : ByteArray) (hs : s.size ≤ maxLen) (w : World) : Calls Try.prog 3 #[.string s] w fun e w' => e = .returned (.bool true) ∧ Below w.heap.size w w' := by
  have hm : maxLen = 9223372036854775807 := by decide
  rw [hm] at hs
  go_enter Try.func3, Try.ntmps3
  go_wp2_with fail
  refine (awake_any _).mono ?_
  rintro e w1 ⟨rfl, b1⟩
  have HB1 := Lib.hid b1
  clear b1
  by_cases h60 : 60 < s.size
  · have q1 : (60 : Int) < (s.size : Int) := by omega
    go_wp2_with fail
    refine (awake_any _).mono ?_
    rintro e w2 ⟨rfl, b2⟩
    have HB2 := Lib.hid (st HB1.out b2 HB1.out.size)
    clear b2
    go_wp2
    go_ret
    exact ⟨rfl, HB2.out⟩
  · have q1 : ¬ (60 : Int) < (s.size : Int) := by omega
    have hI := integer_text_any s (by omega)
    have hJ := refInteger_any s hs
    have hN := normal_any s (by omega)
    have hM := refNormal_any s hs
    have hV := valid_any s (by omega)
    have hW := refValid_any s hs
    obtain ⟨r1, h1⟩ : ∃ r, (intR s.data.toList).1 = r := ⟨_, rfl⟩
    obtain ⟨r2, h2⟩ : ∃ r, (intR s.data.toList).2 = r := ⟨_, rfl⟩
    obtain ⟨r3, h3⟩ : ∃ r, (spl s.data.toList).isSome = r := ⟨_, rfl⟩
    obtain ⟨A, E, h4⟩ := nrm_form s.data.toList
    simp only [h1, h2] at hI hJ
    simp only [h3] at hV hW
    simp only [h4] at hN hM
    have HI := Lib.hid hI
    have HJ := Lib.hid hJ
    have HN := Lib.hid hN
    have HM := Lib.hid hM
    have HV := Lib.hid hV
    have HW := Lib.hid hW
    clear hI hJ hN hM hV hW h1 h2 h3 h4
    go_wp2_with fail
    refine (HI.out _).mono ?_
    rintro e w2 ⟨rfl, b2⟩
    have HB2 := Lib.hid (st HB1.out b2 HB1.out.size)
    clear b2
    go_wp2_with fail
    refine (HJ.out _).mono ?_
    rintro e w3 ⟨rfl, b3⟩
    have HB3 := Lib.hid (st HB2.out b3 HB2.out.size)
    clear b3
    go_wp2_with fail
    refine (HN.out _).mono ?_
    rintro e w4 ⟨rfl, b4⟩
    have HB4 := Lib.hid (st HB3.out b4 HB3.out.size)
    clear b4
    go_wp2_with fail
    refine (HM.out _).mono ?_
    rintro e w5 ⟨rfl, b5⟩
    have HB5 := Lib.hid (st HB4.out b5 HB4.out.size)
    clear b5
    go_wp2_with fail
    refine (HV.out _).mono ?_
    rintro e w6 ⟨rfl, b6⟩
    have HB6 := Lib.hid (st HB5.out b6 HB5.out.size)
    clear b6
    go_wp2_with fail
    refine (HW.out _).mono ?_
    rintro e w7 ⟨rfl, b7⟩
    have HB7 := Lib.hid (st HB6.out b7 HB6.out.size)
    clear b7
    go_wp2
    go_ret
    exact ⟨rfl, HB7.out⟩
set_option maxRecDepth 1000000 in
set_option maxHeartbeats 4000000 in
theorem decimalCompare_walk (s t : ByteArray) (hs : s.size ≤ maxLen) (ht : t.size ≤ maxLen) (w : World) : Calls Try.prog 5 #[.string s, .string t] w fun e w' => e = .returned (.bool true) ∧ Below w.heap.size w w' := by
  have hm : maxLen = 9223372036854775807 := by decide
  rw [hm] at hs ht
  go_enter Try.func5, Try.ntmps5
  go_wp2_with fail
  refine (awake_any _).mono ?_
  rintro e w1 ⟨rfl, b1⟩
  have HB1 := Lib.hid b1
  clear b1
  by_cases h60 : 60 < s.size
  · have q1 : (60 : Int) < (s.size : Int) := by omega
    go_wp2_with fail
    refine (awake_any _).mono ?_
    rintro e w2 ⟨rfl, b2⟩
    have HB2 := Lib.hid (st HB1.out b2 HB1.out.size)
    clear b2
    go_wp2
    go_ret
    exact ⟨rfl, HB2.out⟩
  have q1 : ¬ (60 : Int) < (s.size : Int) := by omega
  by_cases t60 : 60 < t.size
  · have q2 : (60 : Int) < (t.size : Int) := by omega
    go_wp2_with fail
    refine (awake_any _).mono ?_
    rintro e w2 ⟨rfl, b2⟩
    have HB2 := Lib.hid (st HB1.out b2 HB1.out.size)
    clear b2
    go_wp2
    go_ret
    exact ⟨rfl, HB2.out⟩
  have q2 : ¬ (60 : Int) < (t.size : Int) := by omega
  have hC := compare_any s t (by omega) (by omega)
  have hR := refCompare_any s t hs ht
  have hD := compare_any t s (by omega) (by omega)
  have hS := same_any s t (by omega) (by omega)
  unfold CmpPost at hC hR hD
  have hsw : cmpR t.data.toList s.data.toList = (-(cmpR s.data.toList t.data.toList).1, (cmpR s.data.toList t.data.toList).2) := by
    cases h1 : spl s.data.toList with
    | none => rw [cmpR_none (.inr h1), cmpR_none (.inl h1)]; rfl
    | some x =>
      cases h2 : spl t.data.toList with
      | none => rw [cmpR_none (.inl h2), cmpR_none (.inr h2)]; rfl
      | some y => rw [cmpR_some h1 h2, cmpR_some h2 h1, cmpI_swap (V x) (V y)]
  have hrg : -1 ≤ (cmpR s.data.toList t.data.toList).1 ∧ (cmpR s.data.toList t.data.toList).1 ≤ 1 := by
    unfold cmpR
    split
    · exact cmpI_range _ _
    · exact ⟨by decide, by decide⟩
  simp only [hsw] at hD
  obtain ⟨r1, h1⟩ : ∃ r, (cmpR s.data.toList t.data.toList).1 = r := ⟨_, rfl⟩
  obtain ⟨r2, h2⟩ : ∃ r, (cmpR s.data.toList t.data.toList).2 = r := ⟨_, rfl⟩
  simp only [h1, h2] at hC hR hD hS hrg
  have HC := Lib.hid hC
  have HR := Lib.hid hR
  have HD := Lib.hid hD
  have HS := Lib.hid hS
  obtain ⟨g1, g2⟩ := hrg
  clear hC hR hD hS h1 h2 hsw
  go_wp2_with fail
  refine (HC.out _).mono ?_
  rintro e w2 ⟨rfl, b2⟩
  have HB2 := Lib.hid (st HB1.out b2 HB1.out.size)
  clear b2
  go_wp2_with fail
  refine (HR.out _).mono ?_
  rintro e w3 ⟨rfl, b3⟩
  have HB3 := Lib.hid (st HB2.out b3 HB2.out.size)
  clear b3
  go_wp2_with fail
  refine (HD.out _).mono ?_
  rintro e w4 ⟨rfl, b4⟩
  have HB4 := Lib.hid (st HB3.out b4 HB3.out.size)
  clear b4
  go_wp2_with fail
  refine (HS.out _).mono ?_
  rintro e w5 ⟨rfl, b5⟩
  have HB5 := Lib.hid (st HB4.out b5 HB4.out.size)
  clear b5
  by_cases hr2 : r2 = 0
  · subst hr2
    go_wp2
    go_ret
    exact ⟨rfl, HB5.out⟩
  · have q3 : (r2 == 0) = false := by rw [beq_eq_false_iff_ne]; exact hr2
    go_wp2
    go_ret
    exact ⟨rfl, HB5.out⟩
end Go.Proofs.Ytkgjadblfldjnaa
