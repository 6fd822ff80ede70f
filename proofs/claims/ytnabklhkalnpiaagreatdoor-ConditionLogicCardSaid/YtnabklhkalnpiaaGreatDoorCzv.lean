/- The law ConditionInverse. -/
import Derived.Test.YtnabklhkalnpiaaGreatDoorCzu
namespace Go.Proofs.YtnabklhkalnpiaaGreatDoor
open Go.RowKit
set_option linter.unusedVariables false

theorem cndT_le {c : Cnd} (h : okC c = true) : (ofL (cndT c)).size ≤ 1000000 := by
  rw [ofL_size]
  have h0 := len_le c h
  have h1 := jn_len [32, 111, 114, 32] 100000 (c.map lstT) (fun x hx => by
    obtain ⟨y, hy, rfl⟩ := List.mem_map.1 hx
    exact lstT_le y ((okC_iff.1 h).2.1 y hy) (by have := h0.2 y hy; omega))
  rw [List.length_map] at h1
  have h2 : c.length * (100000 + ([32, 111, 114, 32] : Str).length) ≤ 6 * 100004 := Nat.mul_le_mul h0.1 (Nat.le_refl _)
  unfold cndT
  omega
set_option maxRecDepth 1000000 in
set_option maxHeartbeats 8000000 in
theorem conditionInverse_walk (c : Cnd) (v : Value) (s : ByteArray) (hs : s.size ≤ maxLen) (w : World) (hv : RdC w v c) (hl : ∀ l ∈ c, l.length ≤ 140737488355328) (E : Env w) :
    Calls Tryz.prog 4 #[v, .string s] w fun e w' => e = .returned (.bool true) ∧ Below w.heap.size w w' := by
  have hm : maxLen = 9223372036854775807 := by decide
  rw [hm] at hs
  have HE := Lib.hid E
  have HV := Lib.hid hv
  have HL := Lib.hid hl
  obtain ⟨a, n, hva, _⟩ := hv.slice
  subst hva
  clear E hv hl
  go_enter Tryz.func4, Tryz.ntmps4
  go_wp2_with fail
  refine (awake_any _ HE.out).mono ?_
  rintro e w1 ⟨rfl, b1⟩
  have B1 := Lib.hid b1
  have E1 := Lib.hid (HE.out.later b1)
  have V1 := Lib.hid (HV.out.below b1)
  clear b1
  go_wp2_with fail
  refine (few_any _ c _ V1.out).mono ?_
  rintro e w2 ⟨⟨bf, rfl, hf⟩, hw2⟩
  obtain rfl := hw2.symm
  clear hf hw2
  by_cases h60 : 400 < s.size
  · have q1 : (400 : Int) < (s.size : Int) := by omega
    cases bf with
    | false =>
      go_wp2_with fail
      refine (awake_any _ E1.out).mono ?_
      rintro e w3 ⟨rfl, b3⟩
      have B3 := Lib.hid (st B1.out b3 B1.out.size)
      clear b3
      go_wp2
      go_ret
      exact ⟨rfl, B3.out⟩
    | true =>
      go_wp2_with fail
      refine (awake_any _ E1.out).mono ?_
      rintro e w3 ⟨rfl, b3⟩
      have B3 := Lib.hid (st B1.out b3 B1.out.size)
      clear b3
      go_wp2
      go_ret
      exact ⟨rfl, B3.out⟩
  · have q1 : ¬ (400 : Int) < (s.size : Int) := by omega
    have hs2 : s.size ≤ 1000000 := by omega
    cases bf with
    | false =>
      go_wp2_with fail
      refine (awake_any _ E1.out).mono ?_
      rintro e w3 ⟨rfl, b3⟩
      have B3 := Lib.hid (st B1.out b3 B1.out.size)
      clear b3
      go_wp2
      go_ret
      exact ⟨rfl, B3.out⟩
    | true =>
      have P0 := Lib.hid (print_any c _ w1 E1.out V1.out (fun l hx => Nat.le_trans (HL.out l hx) (by decide)))
      obtain ⟨b, hb⟩ : ∃ b, okC c = b := ⟨_, rfl⟩
      cases b with
      | false =>
        have HP0 : Hid (prtR c = ([], 1)) := Lib.hid (by unfold prtR; rw [hb, if_neg (by simp)])
        rw [HP0.out] at P0
        clear hb
        go_wp2_with fail
        refine P0.out.mono ?_
        rintro e w3 ⟨rfl, b3⟩
        have B3 := Lib.hid (st B1.out b3 B1.out.size)
        have E3 := Lib.hid (E1.out.later b3)
        clear b3
        go_wp2_with fail
        refine (parse_any _ E3.out s hs2).mono ?_
        rintro e x1 ⟨⟨pa, pn, pc, pat, per, rfl, h1⟩, c1⟩
        have X1 := Lib.hid (st B3.out c1 B3.out.size)
        have F1 := Lib.hid (E3.out.later c1)
        clear c1
        cases hp : prsM s.data.toList with
        | none =>
          rw [hp] at h1
          obtain ⟨rfl, rfl, rfl, hne⟩ := h1
          have t1 : (per != 0) = true := by rw [bne_iff_ne]; exact hne
          clear hne hp
          go_wp2
          go_ret
          exact ⟨rfl, X1.out⟩
        | some d =>
          rw [hp] at h1
          obtain ⟨hv1, rfl, rfl⟩ := h1
          have hok := prs_ok hp
          have VD := Lib.hid hv1
          have HO := Lib.hid hok
          have HP : Hid (prtR d = (cndT d, 0)) := Lib.hid (by unfold prtR; rw [if_pos hok])
          have P1 := Lib.hid (print_any d _ x1 F1.out VD.out (fun l hl => by have := (len_le d HO.out).2 l hl; omega))
          rw [HP.out] at P1
          clear hv1 hok hp
          go_wp2_with fail
          refine P1.out.mono ?_
          rintro e x2 ⟨rfl, c2⟩
          have X2 := Lib.hid (st X1.out c2 X1.out.size)
          have F2 := Lib.hid (F1.out.later c2)
          have V2 := Lib.hid (VD.out.below c2)
          clear c2
          go_wp2_with fail
          refine (parse_any _ F2.out (ofL (cndT d)) (cndT_le HO.out)).mono ?_
          rintro e x3 ⟨⟨qa, qn, qc, qat, qer, rfl, h3⟩, c3⟩
          rw [ofL_data, prs_back d HO.out] at h3
          obtain ⟨hv3, rfl, rfl⟩ := h3
          have V3 := Lib.hid hv3
          have V2' := Lib.hid (V2.out.below c3)
          have X3 := Lib.hid (st X2.out c3 X2.out.size)
          clear c3 hv3
          go_wp2_with fail
          refine (refEqual_any _ _ d d _ V3.out V2'.out).mono ?_
          rw [cdq_self]
          rintro e x4 ⟨rfl, c4⟩
          have X4 := Lib.hid (st X3.out c4 X3.out.size)
          clear c4
          go_wp2
          go_ret
          exact ⟨rfl, X4.out⟩
      | true =>
        have HP0 : Hid (prtR c = (cndT c, 0)) := Lib.hid (by unfold prtR; rw [hb, if_pos rfl])
        have HB0 := Lib.hid hb
        rw [HP0.out] at P0
        clear hb
        go_wp2_with fail
        refine P0.out.mono ?_
        rintro e w3 ⟨rfl, b3⟩
        have B3 := Lib.hid (st B1.out b3 B1.out.size)
        have E3 := Lib.hid (E1.out.later b3)
        have V3c := Lib.hid (V1.out.below b3)
        clear b3
        go_wp2_with fail
        refine (parse_any _ E3.out (ofL (cndT c)) (cndT_le HB0.out)).mono ?_
        rintro e w4 ⟨⟨ra, rn, rc, rat, rer, rfl, h4⟩, b4⟩
        rw [ofL_data, prs_back c HB0.out] at h4
        obtain ⟨hv4, rfl, rfl⟩ := h4
        have V4 := Lib.hid hv4
        have V4c := Lib.hid (V3c.out.below b4)
        have B4 := Lib.hid (st B3.out b4 B3.out.size)
        have E4 := Lib.hid (E3.out.later b4)
        clear b4 hv4
        go_wp2_with fail
        refine (refEqual_any _ _ c c _ V4.out V4c.out).mono ?_
        rw [cdq_self]
        rintro e w5 ⟨rfl, b5⟩
        have B5 := Lib.hid (st B4.out b5 B4.out.size)
        have E5 := Lib.hid (E4.out.later b5)
        clear b5
        go_wp2_with fail
        refine (parse_any _ E5.out s hs2).mono ?_
        rintro e x1 ⟨⟨pa, pn, pc, pat, per, rfl, h1⟩, c1⟩
        have X1 := Lib.hid (st B5.out c1 B5.out.size)
        have F1 := Lib.hid (E5.out.later c1)
        clear c1
        cases hp : prsM s.data.toList with
        | none =>
          rw [hp] at h1
          obtain ⟨rfl, rfl, rfl, hne⟩ := h1
          have t1 : (per != 0) = true := by rw [bne_iff_ne]; exact hne
          clear hne hp
          go_wp2
          go_ret
          exact ⟨rfl, X1.out⟩
        | some d =>
          rw [hp] at h1
          obtain ⟨hv1, rfl, rfl⟩ := h1
          have hok := prs_ok hp
          have VD := Lib.hid hv1
          have HO := Lib.hid hok
          have HP : Hid (prtR d = (cndT d, 0)) := Lib.hid (by unfold prtR; rw [if_pos hok])
          have P1 := Lib.hid (print_any d _ x1 F1.out VD.out (fun l hl => by have := (len_le d HO.out).2 l hl; omega))
          rw [HP.out] at P1
          clear hv1 hok hp
          go_wp2_with fail
          refine P1.out.mono ?_
          rintro e x2 ⟨rfl, c2⟩
          have X2 := Lib.hid (st X1.out c2 X1.out.size)
          have F2 := Lib.hid (F1.out.later c2)
          have V2 := Lib.hid (VD.out.below c2)
          clear c2
          go_wp2_with fail
          refine (parse_any _ F2.out (ofL (cndT d)) (cndT_le HO.out)).mono ?_
          rintro e x3 ⟨⟨qa, qn, qc, qat, qer, rfl, h3⟩, c3⟩
          rw [ofL_data, prs_back d HO.out] at h3
          obtain ⟨hv3, rfl, rfl⟩ := h3
          have V3 := Lib.hid hv3
          have V2' := Lib.hid (V2.out.below c3)
          have X3 := Lib.hid (st X2.out c3 X2.out.size)
          clear c3 hv3
          go_wp2_with fail
          refine (refEqual_any _ _ d d _ V3.out V2'.out).mono ?_
          rw [cdq_self]
          rintro e x4 ⟨rfl, c4⟩
          have X4 := Lib.hid (st X3.out c4 X3.out.size)
          clear c4
          go_wp2
          go_ret
          exact ⟨rfl, X4.out⟩
end Go.Proofs.YtnabklhkalnpiaaGreatDoor
