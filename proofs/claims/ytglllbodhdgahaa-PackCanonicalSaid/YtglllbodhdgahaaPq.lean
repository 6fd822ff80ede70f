/- The walk of PackCanonical. -/
import Derived.Test.YtglllbodhdgahaaPp
namespace Go.Proofs.Ytglllbodhdgahaa
open Go.RowKit
set_option linter.unusedVariables false

theorem restOf_all (l : List UInt8) : restOf l 0 false = l := rfl
theorem end_yes {l : List UInt8} {k : Nat} (h0 : k ≠ 0) (h : k = l.length) : endV l (0 + k) (false || decide (k = 0)) = 0 := by
  rw [bad_pos h0, Nat.zero_add, h]
  exact endV_ok
theorem end_no {l : List UInt8} {k : Nat} (h : ¬ (k ≠ 0 ∧ k = l.length)) : endV l (0 + k) (false || decide (k = 0)) = 4 := by
  by_cases h0 : k = 0
  · subst h0; simp [endV]
  · rw [bad_pos h0, Nat.zero_add]
    exact endV_short (fun e => h ⟨h0, e⟩)
theorem enc_whole {l : List UInt8} {n : Int} {k : Nat} (h : rdI l = (n, k)) (h0 : k ≠ 0) (hk : k = l.length) : enc n = l := by
  have := (rdI_ok h h0).1
  rw [← this, hk, List.take_length]
theorem encL_whole {l : List UInt8} {most : Int} {ls : List (List UInt8)} {k : Nat} (h : rdL l most = (ls, k)) (h0 : k ≠ 0) (hk : k = l.length) : encL ls = l := by
  have := (rdL_ok h h0).1
  rw [← this, hk, List.take_length]

set_option maxRecDepth 100000 in
set_option maxHeartbeats 2000000 in
theorem packCanonical_walk (a : Option Addr) (len cap : Nat) (zs : List Int) (w : World) (hr : IsRow .u8 w a len cap zs) :
    Calls Try.prog 6 #[.slice a len cap] w fun e w' => e = .returned (.bool true) ∧ Below w.heap.size w w' := by
  show Calls _ _ _ _ (AwPost w)
  by_cases hl : 300 < len
  · clear hr
    go_enter Try.func6, Try.ntmps6
    go_wp2_with fail
    refine (awake_any _).mono ?_
    rintro e w1 ⟨rfl, b1⟩
    go_wp2_with fail
    refine (awake_any _).mono ?_
    rintro e w2 ⟨rfl, b2⟩
    have B := Lib.hid (st b1 b2 b1.size)
    clear b1 b2
    go_wp2
    go_ret
    exact ⟨rfl, B.out⟩
  · obtain ⟨l, rfl, hv⟩ := rdB_of_row hr (by omega)
    have HV := Lib.hid hv
    clear hr hv
    obtain ⟨⟨ls, k⟩, hp⟩ : ∃ p, rdL l 300 = p := ⟨_, rfl⟩
    obtain ⟨⟨n, q⟩, hi⟩ : ∃ p, rdI l = p := ⟨_, rfl⟩
    have HL := Lib.hid hp
    have HI := Lib.hid hi
    by_cases hk : k ≠ 0 ∧ k = l.length
    · have HE := Lib.hid (end_yes hk.1 hk.2)
      have HLA := Lib.hid (And.intro (encL_whole hp hk.1 hk.2) trivial)
      by_cases hq : q ≠ 0 ∧ q = l.length
      · have HF := Lib.hid (end_yes hq.1 hq.2)
        have HIA := Lib.hid (And.intro (enc_whole hi hq.1 hq.2) (rdI_ok hi hq.1).2.2.2)
        clear hp hi hk hq
        go_enter Try.func6, Try.ntmps6
        go_wp2_with fail
        refine (awake_any _).mono ?_
        rintro e w1 ⟨rfl, b1⟩
        have z1 := b1.size
        have V1 := Lib.hid (HV.out.below b1)
        go_wp2_with fail
        refine (read_any _ l _ V1.out (by omega)).mono ?_
        rintro e w2 ⟨g1, u1, rfl, p2, b2, hg1⟩
        have hg1' : w.heap.size ≤ g1 := Nat.le_trans z1 hg1
        have B2 := st b1 b2 z1
        have z2 := B2.size
        have V2 := Lib.hid (HV.out.below B2)
        have P2 := Lib.hid p2
        clear p2 b1 b2 hg1 V1
        go_wp2_with fail
        refine (read_any _ l _ V2.out (by omega)).mono ?_
        rintro e w3 ⟨g2, u2, rfl, p3, b3, hg2⟩
        have hlt := P2.out.lt
        have hne : g2 ≠ g1 := by omega
        have hg2' : w.heap.size ≤ g2 := Nat.le_trans z2 hg2
        have B3 := st B2 b3 z2
        have z3 := B3.size
        have P3 := Lib.hid (P2.out.below b3)
        have S3 := Lib.hid p3
        clear p3 b3 B2 hg2 V2 P2
        go_wp2_with fail
        refine (rstrings_any _ g1 u1 l 0 false 300 P3.out (by omega)).mono ?_
        rw [restOf_all, HL.out]
        rintro e w4 ⟨x, rfl, ht, p4, b4⟩
        have B4 := B3.trans (b4.below hg1' z3)
        have z4 := B4.size
        have P4 := Lib.hid p4
        have S4 := Lib.hid (S3.out.but hne P3.out.2.1 (noByte3 P3.out.2.2) b4)
        have T4 := Lib.hid ht
        have V4 := Lib.hid (HV.out.below B4)
        clear b4 B3 p4 ht S3 P3
        go_wp2_with fail
        refine (end_any _ g1 u1 l _ _ P4.out).mono ?_
        rw [HE.out]
        rintro e w' ⟨rfl, m5, rfl⟩
        have B5 := below_drewN B4 m5
        have z5 := B5.size
        have S5 := Lib.hid (S4.out.drewN m5)
        clear B4 S4
        have T5 := Lib.hid (T4.out.below (below_drewN (Below.refl _ _) m5))
        go_wp2_with fail
        refine (strings_any _ _ [] ls _ (rdB_nil _) T5.out (by rw [HLA.out.1]; simp; omega)).mono ?_
        rintro e w6 ⟨v6, rfl, o6, b6⟩
        rw [List.nil_append, HLA.out.1] at o6
        have R6 := Lib.hid (o6.rd (by omega))
        have B6 := st B5 b6 z5
        have z6 := B6.size
        have S6 := Lib.hid (S5.out.below b6)
        have V6 := Lib.hid (HV.out.below B6)
        clear o6 b6 B5
        go_wp2_with fail
        refine (same_any _ _ l l _ R6.out V6.out).mono ?_
        rw [decide_eq_true rfl]
        rintro e w' ⟨rfl, m7, rfl⟩
        have B7 := below_drewN B6 m7
        have z7 := B7.size
        have S7 := Lib.hid (S6.out.drewN m7)
        clear B6
        go_wp2_with fail
        refine (rint_any _ g2 u2 l 0 false S7.out).mono ?_
        rw [restOf_all, HI.out]
        rintro e w8 ⟨rfl, p8, b8⟩
        have B8 := B7.trans (b8.below hg2' z7)
        have z8 := B8.size
        have S8 := Lib.hid p8
        clear p8 b8 B7
        go_wp2_with fail
        refine (end_any _ g2 u2 l _ _ S8.out).mono ?_
        rw [HF.out]
        rintro e w' ⟨rfl, m9, rfl⟩
        have B9 := below_drewN B8 m9
        have z9 := B9.size
        clear B8
        go_wp2_with fail
        refine (int_any _ [] n _ (rdB_nil _) HIA.out.2 (by decide)).mono ?_
        rintro e w10 ⟨v10, rfl, o10, b10⟩
        rw [List.nil_append, HIA.out.1] at o10
        have R10 := Lib.hid (o10.rd (by omega))
        have B10 := st B9 b10 z9
        have V10 := Lib.hid (HV.out.below B10)
        clear o10 b10 B9
        go_wp2_with fail
        refine (same_any _ _ l l _ R10.out V10.out).mono ?_
        rw [decide_eq_true rfl]
        rintro e w' ⟨rfl, m11, rfl⟩
        have B11 := Lib.hid (below_drewN B10 m11)
        clear B10
        go_wp2
        go_ret
        exact ⟨rfl, by simpa using B11.out⟩
      · have HF := Lib.hid (end_no hq)
        clear hp hi hk hq
        go_enter Try.func6, Try.ntmps6
        go_wp2_with fail
        refine (awake_any _).mono ?_
        rintro e w1 ⟨rfl, b1⟩
        have z1 := b1.size
        have V1 := Lib.hid (HV.out.below b1)
        go_wp2_with fail
        refine (read_any _ l _ V1.out (by omega)).mono ?_
        rintro e w2 ⟨g1, u1, rfl, p2, b2, hg1⟩
        have hg1' : w.heap.size ≤ g1 := Nat.le_trans z1 hg1
        have B2 := st b1 b2 z1
        have z2 := B2.size
        have V2 := Lib.hid (HV.out.below B2)
        have P2 := Lib.hid p2
        clear p2 b1 b2 hg1 V1
        go_wp2_with fail
        refine (read_any _ l _ V2.out (by omega)).mono ?_
        rintro e w3 ⟨g2, u2, rfl, p3, b3, hg2⟩
        have hlt := P2.out.lt
        have hne : g2 ≠ g1 := by omega
        have hg2' : w.heap.size ≤ g2 := Nat.le_trans z2 hg2
        have B3 := st B2 b3 z2
        have z3 := B3.size
        have P3 := Lib.hid (P2.out.below b3)
        have S3 := Lib.hid p3
        clear p3 b3 B2 hg2 V2 P2
        go_wp2_with fail
        refine (rstrings_any _ g1 u1 l 0 false 300 P3.out (by omega)).mono ?_
        rw [restOf_all, HL.out]
        rintro e w4 ⟨x, rfl, ht, p4, b4⟩
        have B4 := B3.trans (b4.below hg1' z3)
        have z4 := B4.size
        have P4 := Lib.hid p4
        have S4 := Lib.hid (S3.out.but hne P3.out.2.1 (noByte3 P3.out.2.2) b4)
        have T4 := Lib.hid ht
        have V4 := Lib.hid (HV.out.below B4)
        clear b4 B3 p4 ht S3 P3
        go_wp2_with fail
        refine (end_any _ g1 u1 l _ _ P4.out).mono ?_
        rw [HE.out]
        rintro e w' ⟨rfl, m5, rfl⟩
        have B5 := below_drewN B4 m5
        have z5 := B5.size
        have S5 := Lib.hid (S4.out.drewN m5)
        clear B4 S4
        have T5 := Lib.hid (T4.out.below (below_drewN (Below.refl _ _) m5))
        go_wp2_with fail
        refine (strings_any _ _ [] ls _ (rdB_nil _) T5.out (by rw [HLA.out.1]; simp; omega)).mono ?_
        rintro e w6 ⟨v6, rfl, o6, b6⟩
        rw [List.nil_append, HLA.out.1] at o6
        have R6 := Lib.hid (o6.rd (by omega))
        have B6 := st B5 b6 z5
        have z6 := B6.size
        have S6 := Lib.hid (S5.out.below b6)
        have V6 := Lib.hid (HV.out.below B6)
        clear o6 b6 B5
        go_wp2_with fail
        refine (same_any _ _ l l _ R6.out V6.out).mono ?_
        rw [decide_eq_true rfl]
        rintro e w' ⟨rfl, m7, rfl⟩
        have B7 := below_drewN B6 m7
        have z7 := B7.size
        have S7 := Lib.hid (S6.out.drewN m7)
        clear B6
        go_wp2_with fail
        refine (rint_any _ g2 u2 l 0 false S7.out).mono ?_
        rw [restOf_all, HI.out]
        rintro e w8 ⟨rfl, p8, b8⟩
        have B8 := B7.trans (b8.below hg2' z7)
        have z8 := B8.size
        have S8 := Lib.hid p8
        clear p8 b8 B7
        go_wp2_with fail
        refine (end_any _ g2 u2 l _ _ S8.out).mono ?_
        rw [HF.out]
        rintro e w' ⟨rfl, m9, rfl⟩
        have B9 := below_drewN B8 m9
        have z9 := B9.size
        clear B8
        have B11 := Lib.hid B9
        clear B9
        go_wp2
        go_ret
        exact ⟨rfl, by simpa using B11.out⟩
    · have HE := Lib.hid (end_no hk)
      by_cases hq : q ≠ 0 ∧ q = l.length
      · have HF := Lib.hid (end_yes hq.1 hq.2)
        have HIA := Lib.hid (And.intro (enc_whole hi hq.1 hq.2) (rdI_ok hi hq.1).2.2.2)
        clear hp hi hk hq
        go_enter Try.func6, Try.ntmps6
        go_wp2_with fail
        refine (awake_any _).mono ?_
        rintro e w1 ⟨rfl, b1⟩
        have z1 := b1.size
        have V1 := Lib.hid (HV.out.below b1)
        go_wp2_with fail
        refine (read_any _ l _ V1.out (by omega)).mono ?_
        rintro e w2 ⟨g1, u1, rfl, p2, b2, hg1⟩
        have hg1' : w.heap.size ≤ g1 := Nat.le_trans z1 hg1
        have B2 := st b1 b2 z1
        have z2 := B2.size
        have V2 := Lib.hid (HV.out.below B2)
        have P2 := Lib.hid p2
        clear p2 b1 b2 hg1 V1
        go_wp2_with fail
        refine (read_any _ l _ V2.out (by omega)).mono ?_
        rintro e w3 ⟨g2, u2, rfl, p3, b3, hg2⟩
        have hlt := P2.out.lt
        have hne : g2 ≠ g1 := by omega
        have hg2' : w.heap.size ≤ g2 := Nat.le_trans z2 hg2
        have B3 := st B2 b3 z2
        have z3 := B3.size
        have P3 := Lib.hid (P2.out.below b3)
        have S3 := Lib.hid p3
        clear p3 b3 B2 hg2 V2 P2
        go_wp2_with fail
        refine (rstrings_any _ g1 u1 l 0 false 300 P3.out (by omega)).mono ?_
        rw [restOf_all, HL.out]
        rintro e w4 ⟨x, rfl, ht, p4, b4⟩
        have B4 := B3.trans (b4.below hg1' z3)
        have z4 := B4.size
        have P4 := Lib.hid p4
        have S4 := Lib.hid (S3.out.but hne P3.out.2.1 (noByte3 P3.out.2.2) b4)
        have T4 := Lib.hid ht
        have V4 := Lib.hid (HV.out.below B4)
        clear b4 B3 p4 ht S3 P3
        go_wp2_with fail
        refine (end_any _ g1 u1 l _ _ P4.out).mono ?_
        rw [HE.out]
        rintro e w' ⟨rfl, m5, rfl⟩
        have B5 := below_drewN B4 m5
        have z5 := B5.size
        have S5 := Lib.hid (S4.out.drewN m5)
        clear B4 S4
        have B7 := B5
        have z7 := z5
        have S7 := S5
        clear B5
        go_wp2_with fail
        refine (rint_any _ g2 u2 l 0 false S7.out).mono ?_
        rw [restOf_all, HI.out]
        rintro e w8 ⟨rfl, p8, b8⟩
        have B8 := B7.trans (b8.below hg2' z7)
        have z8 := B8.size
        have S8 := Lib.hid p8
        clear p8 b8 B7
        go_wp2_with fail
        refine (end_any _ g2 u2 l _ _ S8.out).mono ?_
        rw [HF.out]
        rintro e w' ⟨rfl, m9, rfl⟩
        have B9 := below_drewN B8 m9
        have z9 := B9.size
        clear B8
        go_wp2_with fail
        refine (int_any _ [] n _ (rdB_nil _) HIA.out.2 (by decide)).mono ?_
        rintro e w10 ⟨v10, rfl, o10, b10⟩
        rw [List.nil_append, HIA.out.1] at o10
        have R10 := Lib.hid (o10.rd (by omega))
        have B10 := st B9 b10 z9
        have V10 := Lib.hid (HV.out.below B10)
        clear o10 b10 B9
        go_wp2_with fail
        refine (same_any _ _ l l _ R10.out V10.out).mono ?_
        rw [decide_eq_true rfl]
        rintro e w' ⟨rfl, m11, rfl⟩
        have B11 := Lib.hid (below_drewN B10 m11)
        clear B10
        go_wp2
        go_ret
        exact ⟨rfl, by simpa using B11.out⟩
      · have HF := Lib.hid (end_no hq)
        clear hp hi hk hq
        go_enter Try.func6, Try.ntmps6
        go_wp2_with fail
        refine (awake_any _).mono ?_
        rintro e w1 ⟨rfl, b1⟩
        have z1 := b1.size
        have V1 := Lib.hid (HV.out.below b1)
        go_wp2_with fail
        refine (read_any _ l _ V1.out (by omega)).mono ?_
        rintro e w2 ⟨g1, u1, rfl, p2, b2, hg1⟩
        have hg1' : w.heap.size ≤ g1 := Nat.le_trans z1 hg1
        have B2 := st b1 b2 z1
        have z2 := B2.size
        have V2 := Lib.hid (HV.out.below B2)
        have P2 := Lib.hid p2
        clear p2 b1 b2 hg1 V1
        go_wp2_with fail
        refine (read_any _ l _ V2.out (by omega)).mono ?_
        rintro e w3 ⟨g2, u2, rfl, p3, b3, hg2⟩
        have hlt := P2.out.lt
        have hne : g2 ≠ g1 := by omega
        have hg2' : w.heap.size ≤ g2 := Nat.le_trans z2 hg2
        have B3 := st B2 b3 z2
        have z3 := B3.size
        have P3 := Lib.hid (P2.out.below b3)
        have S3 := Lib.hid p3
        clear p3 b3 B2 hg2 V2 P2
        go_wp2_with fail
        refine (rstrings_any _ g1 u1 l 0 false 300 P3.out (by omega)).mono ?_
        rw [restOf_all, HL.out]
        rintro e w4 ⟨x, rfl, ht, p4, b4⟩
        have B4 := B3.trans (b4.below hg1' z3)
        have z4 := B4.size
        have P4 := Lib.hid p4
        have S4 := Lib.hid (S3.out.but hne P3.out.2.1 (noByte3 P3.out.2.2) b4)
        have T4 := Lib.hid ht
        have V4 := Lib.hid (HV.out.below B4)
        clear b4 B3 p4 ht S3 P3
        go_wp2_with fail
        refine (end_any _ g1 u1 l _ _ P4.out).mono ?_
        rw [HE.out]
        rintro e w' ⟨rfl, m5, rfl⟩
        have B5 := below_drewN B4 m5
        have z5 := B5.size
        have S5 := Lib.hid (S4.out.drewN m5)
        clear B4 S4
        have B7 := B5
        have z7 := z5
        have S7 := S5
        clear B5
        go_wp2_with fail
        refine (rint_any _ g2 u2 l 0 false S7.out).mono ?_
        rw [restOf_all, HI.out]
        rintro e w8 ⟨rfl, p8, b8⟩
        have B8 := B7.trans (b8.below hg2' z7)
        have z8 := B8.size
        have S8 := Lib.hid p8
        clear p8 b8 B7
        go_wp2_with fail
        refine (end_any _ g2 u2 l _ _ S8.out).mono ?_
        rw [HF.out]
        rintro e w' ⟨rfl, m9, rfl⟩
        have B9 := below_drewN B8 m9
        have z9 := B9.size
        clear B8
        have B11 := Lib.hid B9
        clear B9
        go_wp2
        go_ret
        exact ⟨rfl, by simpa using B11.out⟩
end Go.Proofs.Ytglllbodhdgahaa
