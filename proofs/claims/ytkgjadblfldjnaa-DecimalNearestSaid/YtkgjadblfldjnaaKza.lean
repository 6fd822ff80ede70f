/- The laws DecimalOrder, DecimalNormal. -/
import Derived.Test.YtkgjadblfldjnaaKz
namespace Go.Proofs.Ytkgjadblfldjnaa
open Go.RowKit
set_option linter.unusedVariables false

theorem ro_txt {x : Num} (g : Good x) {n : Nat} (hn : n ≤ 6) {t : Str} (h : Ro x n (some t)) : ∃ y, Good y ∧ txt y = t := by
  obtain ⟨y, gy, h1, _⟩ := ro_some g hn h
  exact ⟨y, gy, h1⟩
set_option maxRecDepth 1000000 in
set_option maxHeartbeats 8000000 in
theorem decimalOrder_walk (s t : ByteArray) (n : Int) (hs : s.size ≤ maxLen) (ht : t.size ≤ maxLen) (hn : (Lit.int .i8 n).wf = true) (w : World) : Calls Try.prog 6 #[.string s, .string t, .int .i8 n] w fun e w' => e = .returned (.bool true) ∧ Below w.heap.size w w' := by
  obtain ⟨n1, n2⟩ := bounds_i8 hn
  have hm : maxLen = 9223372036854775807 := by decide
  rw [hm] at hs ht
  clear hn hm
  go_enter Try.func6, Try.ntmps6
  go_wp2_with fail
  refine (awake_any _).mono ?_
  rintro e w1 ⟨rfl, b1⟩
  have HB1 := Lib.hid b1
  clear b1
  go_wp2_with fail
  refine (refValid_any s hs _).mono ?_
  cases hsp : spl s.data.toList with
  | none =>
    rintro e w2 ⟨rfl, b2⟩
    have HB2 := Lib.hid (st HB1.out b2 HB1.out.size)
    clear b2 hsp
    go_wp2_with fail
    refine (awake_any _).mono ?_
    rintro e w3 ⟨rfl, b3⟩
    have HB3 := Lib.hid (st HB2.out b3 HB2.out.size)
    clear b3
    go_wp2
    go_ret
    exact ⟨rfl, HB3.out⟩
  | some x =>
    have gx := (spl_some hsp).1
    have GX := Lib.hid gx
    obtain rfl := s_of hsp
    rintro e w2 ⟨rfl, b2⟩
    have HB2 := Lib.hid (st HB1.out b2 HB1.out.size)
    clear b2 hsp gx
    go_wp2_with fail
    refine (refValid_any t ht _).mono ?_
    cases htp : spl t.data.toList with
    | none =>
      rintro e w3 ⟨rfl, b3⟩
      have HB3 := Lib.hid (st HB2.out b3 HB2.out.size)
      clear b3 htp
      go_wp2_with fail
      refine (awake_any _).mono ?_
      rintro e w4 ⟨rfl, b4⟩
      have HB4 := Lib.hid (st HB3.out b4 HB3.out.size)
      clear b4
      go_wp2
      go_ret
      exact ⟨rfl, HB4.out⟩
    | some y =>
      have gy := (spl_some htp).1
      have GY := Lib.hid gy
      obtain rfl := s_of htp
      rintro e w3 ⟨rfl, b3⟩
      have HB3 := Lib.hid (st HB2.out b3 HB2.out.size)
      clear b3 htp gy
      go_wp2_with fail
      refine (compare_good GX.out GY.out _).mono ?_
      rintro e w4 ⟨rfl, b4⟩
      have HB4 := Lib.hid (st HB3.out b4 HB3.out.size)
      have hcr := cmpI_range (V x) (V y)
      obtain ⟨c, hc⟩ : ∃ c, cmpI (V x) (V y) = c := ⟨_, rfl⟩
      have HC := Lib.hid hc
      rw [hc] at hcr ⊢
      obtain ⟨cr1, cr2⟩ := hcr
      clear b4 hc
      go_wp2_with fail
      refine (shift_good GX.out n (by omega) (by omega) _).mono ?_
      rintro e w5 ⟨⟨o1, ho1, rfl⟩, b5⟩
      have HO1 := Lib.hid ho1
      have HB5 := Lib.hid (st HB4.out b5 HB4.out.size)
      obtain ⟨A1, E1, hf1⟩ := resV_form o1
      have HF1 := Lib.hid hf1
      rw [hf1]
      clear b5 ho1 hf1
      go_wp2_with fail
      refine (shift_good GY.out n (by omega) (by omega) _).mono ?_
      rintro e w6 ⟨⟨o2, ho2, rfl⟩, b6⟩
      have HO2 := Lib.hid ho2
      have HB6 := Lib.hid (st HB5.out b6 HB5.out.size)
      obtain ⟨A2, E2, hf2⟩ := resV_form o2
      have HF2 := Lib.hid hf2
      rw [hf2]
      clear b6 ho2 hf2
      go_upto_region 6 with fail
      obtain ⟨bb, hbb⟩ : ∃ bb, (E1 == 0 && E2 == 0) = bb := ⟨_, rfl⟩
      have HBB := Lib.hid hbb
      clear hbb
      go_cut [55] from 50 to 55 (fun v55 wx => v55 = .bool bb ∧ wx = w6)
      case first =>
        by_cases h1 : E1 = 0
        · subst h1
          go_wp2_with fail
          go_meet
          exact ⟨by rw [← HBB.out]; rfl, rfl⟩
        · have q1 : (E1 == 0) = false := by rw [beq_eq_false_iff_ne]; exact h1
          clear h1
          go_wp2_with fail
          go_meet
          exact ⟨by rw [← HBB.out, q1]; rfl, rfl⟩
      case rest =>
        obtain ⟨rfl, hwc⟩ := hcut
        obtain rfl := hwc.symm
        go_upto_if 55 with fail
        go_cut [13, 14] from 56 to 68 (fun v13 v14 wx => Below w.heap.size w wx)
        case first =>
          cases o1 with
          | none =>
            have he := HF1.out
            unfold resV at he
            injection he with he
            simp at he
            obtain ⟨hA, hE⟩ := he
            have hbf : bb = false := by rw [← HBB.out, ← hE]; rfl
            subst hbf
            clear hA hE HF1
            go_wp2_with fail
            go_meet
            exact HB6.out
          | some t1 =>
            have he := HF1.out
            unfold resV at he
            injection he with he
            simp at he
            obtain ⟨hA, hE⟩ := he
            subst hE hA
            clear HF1
            cases o2 with
            | none =>
              have he := HF2.out
              unfold resV at he
              injection he with he
              simp at he
              obtain ⟨hA, hE⟩ := he
              have hbf : bb = false := by rw [← HBB.out, ← hE, Bool.and_eq_false_iff]; exact .inr rfl
              subst hbf
              clear hA hE HF2
              go_wp2_with fail
              go_meet
              exact HB6.out
            | some t2 =>
              have he := HF2.out
              unfold resV at he
              injection he with he
              simp at he
              obtain ⟨hA, hE⟩ := he
              subst hE hA
              have hbf : bb = true := by rw [← HBB.out]; rfl
              subst hbf
              clear HF2
              obtain ⟨x', gx', rfl⟩ := sh_txt GX.out HO1.out
              obtain ⟨y', gy', rfl⟩ := sh_txt GY.out HO2.out
              have HD : Hid (cmpI (V x') (V y') = c) := Lib.hid (by rw [sh_order GX.out GY.out HO1.out HO2.out (spl_of gx') (spl_of gy'), HC.out])
              have GX' := Lib.hid gx'
              have GY' := Lib.hid gy'
              clear gx' gy'
              go_wp2_with fail
              refine (compare_good GX'.out GY'.out _).mono ?_
              rw [HD.out]
              rintro e w7 ⟨rfl, b7⟩
              have HB7 := Lib.hid (st HB6.out b7 HB6.out.size)
              clear b7
              go_wp2_with fail
              go_meet
              exact HB7.out
        case rest =>
          have HB7 := Lib.hid hcut
          rename World => w7
          clear hcut
          go_wp2_with fail
          refine (round_good GX.out n _).mono ?_
          rintro e w8 ⟨h1, b8⟩
          have HB8 := Lib.hid (st HB7.out b8 HB7.out.size)
          clear b8
          have hform1 : ∃ A E, e = .returned (.tuple #[.string A, .int .i64 E]) := by
            rcases h1 with ⟨_, h⟩ | ⟨d, o, _, _, _, h⟩
            · exact ⟨_, _, h⟩
            · obtain ⟨A, E, h2⟩ := resV_form o
              exact ⟨A, E, by rw [h, h2]⟩
          obtain ⟨P1, F1, rfl⟩ := hform1
          have H1 := Lib.hid h1
          clear h1
          go_wp2_with fail
          refine (round_good GY.out n _).mono ?_
          rintro e w9 ⟨h2, b9⟩
          have HB9 := Lib.hid (st HB8.out b9 HB8.out.size)
          clear b9
          have hform2 : ∃ A E, e = .returned (.tuple #[.string A, .int .i64 E]) := by
            rcases h2 with ⟨_, h⟩ | ⟨d, o, _, _, _, h⟩
            · exact ⟨_, _, h⟩
            · obtain ⟨A, E, h2⟩ := resV_form o
              exact ⟨A, E, by rw [h, h2]⟩
          obtain ⟨P2, F2, rfl⟩ := hform2
          have H2 := Lib.hid h2
          clear h2
          by_cases hF1 : F1 = 0
          · by_cases hF2 : F2 = 0
            · subst hF1 hF2
              have hall : ∃ x' y', Good x' ∧ Good y' ∧ P1 = ofL (txt x') ∧ P2 = ofL (txt y') ∧ 0 ≤ cmpI (V x') (V y') * c := by
                rcases H1.out with ⟨_, h⟩ | ⟨d, o, hd, hd6, ho, h⟩
                · unfold resV at h; simp at h
                · cases o with
                  | none => unfold resV at h; simp at h
                  | some t1 =>
                    rcases H2.out with ⟨_, k⟩ | ⟨d', o', hd', hd6', ho', k⟩
                    · unfold resV at k; simp at k
                    · cases o' with
                      | none => unfold resV at k; simp at k
                      | some t2 =>
                        have hdd : d' = d := by omega
                        subst hdd
                        unfold resV at h k
                        simp at h k
                        obtain ⟨x', gx', rfl⟩ := ro_txt GX.out hd6 ho
                        obtain ⟨y', gy', rfl⟩ := ro_txt GY.out hd6' ho'
                        refine ⟨x', y', gx', gy', h, k, ?_⟩
                        rw [← HC.out]
                        exact ro_order GX.out GY.out hd6 ho ho' (spl_of gx') (spl_of gy')
              obtain ⟨x', y', gx', gy', rfl, rfl, hdc⟩ := hall
              have GX' := Lib.hid gx'
              have GY' := Lib.hid gy'
              have hdr := cmpI_range (V x') (V y')
              obtain ⟨dd, hd⟩ : ∃ dd, cmpI (V x') (V y') = dd := ⟨_, rfl⟩
              have HD := Lib.hid hd
              rw [hd] at hdr hdc
              obtain ⟨dr1, dr2⟩ := hdr
              have hprod : dd * c ≤ 1 := by
                rcases (by omega : dd = -1 ∨ dd = 0 ∨ dd = 1) with h | h | h <;> rw [h] <;> omega
              have wr : IntKind.i64.wrap (dd * c) = dd * c := wrap_fit (by omega) (by omega)
              have tlt : decide (dd * c < 0) = false := decide_eq_false (by omega)
              have tl2 : ¬ dd * c < 0 := by omega
              have HW := Lib.hid (And.intro hdc hprod)
              clear gx' gy' hd
              go_wp2_with fail
              refine (compare_good GX'.out GY'.out _).mono ?_
              rw [HD.out]
              rintro e w10 ⟨rfl, b10⟩
              have HB10 := Lib.hid (st HB9.out b10 HB9.out.size)
              clear b10
              go_wp2
              go_ret
              exact ⟨rfl, HB10.out⟩
            · subst hF1
              have q2 : (F2 == 0) = false := by rw [beq_eq_false_iff_ne]; exact hF2
              clear hF2
              go_wp2
              go_ret
              exact ⟨rfl, HB9.out⟩
          · have q1 : (F1 == 0) = false := by rw [beq_eq_false_iff_ne]; exact hF1
            clear hF1
            go_wp2
            go_ret
            exact ⟨rfl, HB9.out⟩
end Go.Proofs.Ytkgjadblfldjnaa
