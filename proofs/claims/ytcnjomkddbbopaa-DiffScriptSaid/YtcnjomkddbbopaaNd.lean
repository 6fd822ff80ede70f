/- The law DiffLeads. -/
import Derived.Test.YtcnjomkddbbopaaNc
namespace Go.Proofs.Ytcnjomkddbbopaa
open Go.RowKit
set_option linter.unusedVariables false

theorem ap_leads (a b : List Str) : apR a (scr a b) = (0, b) ∧ apR b ((scr a b).map revE) = (0, a) := by
  obtain ⟨h1, h2, h3⟩ := scr_leads a b
  exact ⟨apR_some ((kindsB_iff _).2 h3) h1, apR_some ((kindsB_iff _).2 (revE_kinds h3)) h2⟩
theorem ap_back {a : List Str} {s : List Ed} (h : (apR a s).1 = 0) : apR (apR a s).2 (s.map revE) = (0, a) := by
  unfold apR at h ⊢
  cases hk : kindsB s with
  | false => rw [hk] at h; simp at h
  | true =>
    rw [hk] at h
    simp only [if_true] at h ⊢
    have hkk := (kindsB_iff s).1 hk
    cases hr : runE a s [] with
    | none => rw [hr] at h; simp at h
    | some z =>
      have hb := runE_back hkk hr
      have hk2 := (kindsB_iff (s.map revE)).2 (revE_kinds hkk)
      simp only [hk2, if_true]
      rw [hb]
theorem ap_len {a : List Str} {s : List Ed} (h : (apR a s).1 ≠ 0) : (apR a s).2 = [] := by
  unfold apR at h ⊢
  cases hk : kindsB s with
  | false => rfl
  | true =>
    rw [hk] at h
    simp only [if_true] at h ⊢
    cases hr : runE a s [] with
    | none => rfl
    | some z => rw [hr] at h; simp at h
theorem dst_le : ∀ s : List Ed, (dstOf s).length ≤ s.length
  | [] => by simp [dstOf]
  | e :: s => by
    have := dst_le s
    rw [dstOf, List.length_cons]
    split <;> (try rw [List.length_cons]) <;> omega
theorem ap_le (a : List Str) (s : List Ed) : (apR a s).2.length ≤ s.length := by
  unfold apR
  split
  · split
    · rename_i z hz
      have := ((runE_iff s a [] z).1 hz).2
      rw [this, List.nil_append]
      exact dst_le s
    · simp
  · simp
theorem both_le : ∀ s : List Ed, s.length ≤ (srcOf s).length + (dstOf s).length
  | [] => by simp
  | e :: s => by
    have := both_le s
    rw [srcOf, dstOf, List.length_cons]
    by_cases h3 : e.1 = 3
    · rw [if_pos h3, if_neg (by omega), List.length_cons]; omega
    · rw [if_neg h3, List.length_cons]
      split
      · omega
      · rw [List.length_cons]; omega
theorem scr_le (a b : List Str) : (scr a b).length ≤ a.length + b.length := by
  obtain ⟨h1, _, _⟩ := scr_leads a b
  obtain ⟨e1, e2⟩ := (runE_iff (scr a b) a [] b).1 h1
  have := both_le (scr a b)
  rw [← e1] at this
  rw [List.nil_append] at e2
  rw [← e2] at this
  exact this

set_option maxRecDepth 1000000 in
set_option maxHeartbeats 2000000 in
theorem diffLeads_walk (a1 : Option Addr) (n1 c1 : Nat) (a : List Str) (a2 : Option Addr) (n2 c2 : Nat) (b : List Str) (a3 : Option Addr) (n3 c3 : Nat) (s : List Ed) (w : World)
    (hs1 : IsStrs w a1 n1 c1 a) (hs2 : IsStrs w a2 n2 c2 b) (hs3 : IsEds w a3 n3 c3 s) :
    Calls Try.prog 6 #[.slice a1 n1 c1, .slice a2 n2 c2, .slice a3 n3 c3] w fun e w' => e = .returned (.bool true) ∧ Below w.heap.size w w' := by
  obtain ⟨rfl, hr1⟩ := hs1
  obtain ⟨rfl, hr2⟩ := hs2
  obtain ⟨rfl, hr3⟩ := hs3
  have H1 := Lib.hid hr1; clear hr1
  have H2 := Lib.hid hr2; clear hr2
  have H3 := Lib.hid hr3; clear hr3
  go_enter Try.func6, Try.ntmps6
  go_wp2_with fail
  refine (awake_any _).mono ?_
  rintro e w1 ⟨rfl, B1⟩
  have R1 := Lib.hid (H1.out.below B1)
  have R2 := Lib.hid (H2.out.below B1)
  have R3 := Lib.hid (H3.out.below B1)
  have HB := Lib.hid B1
  have z1 := B1.size
  clear B1 H1 H2 H3
  by_cases f1 : Few a
  case neg =>
    go_wp2_with fail
    refine (few_no _ _ _ R1.out f1).mono ?_
    rintro e w' ⟨rfl, h⟩
    obtain rfl := h.symm
    go_wp2
    go_ret
    exact ⟨rfl, HB.out⟩
  go_wp2_with fail
  refine (few_yes _ _ _ R1.out f1).mono ?_
  rintro e w' ⟨rfl, h⟩
  obtain rfl := h.symm
  by_cases f2 : Few b
  case neg =>
    go_wp2_with fail
    refine (few_no _ _ _ R2.out f2).mono ?_
    rintro e w' ⟨rfl, h⟩
    obtain rfl := h.symm
    go_wp2
    go_ret
    exact ⟨rfl, HB.out⟩
  go_wp2_with fail
  refine (few_yes _ _ _ R2.out f2).mono ?_
  rintro e w' ⟨rfl, h⟩
  obtain rfl := h.symm
  by_cases f3 : Short s
  case neg =>
    go_wp2_with fail
    refine (short_no _ _ _ R3.out f3).mono ?_
    rintro e w' ⟨rfl, h⟩
    obtain rfl := h.symm
    go_wp2
    go_ret
    exact ⟨rfl, HB.out⟩
  go_wp2_with fail
  refine (short_yes _ _ _ R3.out f3).mono ?_
  rintro e w' ⟨rfl, h⟩
  obtain rfl := h.symm
  have l1 := f1.1
  have l2 := f2.1
  have l3 := f3.1
  have F1 := Lib.hid f1.sizes.2
  have F2 := Lib.hid f2.sizes.2
  clear f1 f2 f3
  have hsl := scr_le a b
  obtain ⟨q1, q2⟩ := ap_leads a b
  have Q1 := Lib.hid q1
  have Q2 := Lib.hid q2
  clear q1 q2
  obtain ⟨S, hS⟩ : ∃ S, scr a b = S := ⟨_, rfl⟩
  have SC := script_any (.slice a1 a.length c1) (.slice a2 b.length c2) a b w1 R1.out R2.out (by omega) (by omega) F1.out F2.out
  rw [hS] at hsl Q1 Q2 SC
  have SCH := Lib.hid SC
  clear hS SC
  go_wp2_with fail
  refine SCH.out.mono ?_
  rintro e w2 ⟨v, rfl, rs, b2⟩
  have S2 := Lib.hid rs
  have A2 := Lib.hid (R1.out.below b2)
  have B2 := Lib.hid (R2.out.below b2)
  have E2 := Lib.hid (R3.out.below b2)
  have HB2 := Lib.hid (st HB.out b2 z1)
  have z2 := HB2.out.size
  clear rs b2 R1 R2 R3 HB z1 SCH
  go_wp2_with fail
  refine (apply_any _ _ a S _ A2.out S2.out (by omega) (by omega)).mono ?_
  rw [Q1.out]
  rintro e w3 ⟨v3, rfl, o3, b3⟩
  have X3 := Lib.hid (o3.rd encT_len)
  have S3 := Lib.hid (S2.out.below b3)
  have A3 := Lib.hid (A2.out.below b3)
  have B3 := Lib.hid (B2.out.below b3)
  have E3 := Lib.hid (E2.out.below b3)
  have HB3 := Lib.hid (st HB2.out b3 z2)
  have z3 := HB3.out.size
  clear o3 b3 A2 B2 E2 S2 HB2 z2
  go_wp2_with fail
  refine (reverse_any _ S _ S3.out (by omega)).mono ?_
  rintro e w4 ⟨v4, rfl, r4, b4⟩
  have S4 := Lib.hid r4
  have X4 := Lib.hid (X3.out.below b4)
  have A4 := Lib.hid (A3.out.below b4)
  have B4 := Lib.hid (B3.out.below b4)
  have E4 := Lib.hid (E3.out.below b4)
  have HB4 := Lib.hid (st HB3.out b4 z3)
  have z4 := HB4.out.size
  clear r4 b4 A3 B3 E3 S3 X3 HB3 z3
  go_wp2_with fail
  refine (apply_any _ _ b (S.map revE) _ B4.out S4.out (by omega) (by rw [List.length_map]; omega)).mono ?_
  rw [Q2.out]
  rintro e w5 ⟨v5, rfl, o5, b5⟩
  have Y5 := Lib.hid (o5.rd encT_len)
  have X5 := Lib.hid (X4.out.below b5)
  have A5 := Lib.hid (A4.out.below b5)
  have B5 := Lib.hid (B4.out.below b5)
  have E5 := Lib.hid (E4.out.below b5)
  have HB5 := Lib.hid (st HB4.out b5 z4)
  have z5 := HB5.out.size
  clear o5 b5 A4 B4 E4 S4 X4 HB4 z4
  go_wp2_with fail
  refine (same_yes _ _ b _ X5.out B5.out).mono ?_
  rintro e w' ⟨rfl, m, rfl⟩
  go_wp2_with fail
  refine (same_yes _ _ a _ (Y5.out.drewN m) (A5.out.drewN m)).mono ?_
  rintro e w' ⟨rfl, m2, rfl⟩
  have A6 := Lib.hid ((A5.out.drewN m).drewN m2)
  have E6 := Lib.hid ((E5.out.drewN m).drewN m2)
  have HB6 := Lib.hid (below_drewN (below_drewN HB5.out m) m2)
  have z6 := HB6.out.size
  obtain ⟨w6, hw6⟩ : ∃ w6, (w5.drewN m).drewN m2 = w6 := ⟨_, rfl⟩
  have hw7 : w5.drewN (m + m2) = w6 := by rw [← hw6, World.drewN_drewN]
  rw [hw6] at A6 E6 HB6 z6
  try rw [hw6]
  clear A5 B5 E5 X5 Y5 HB5 z5 hw6
  go_wp2_with fail
  try rw [hw7]
  clear hw7
  refine (own_any _ s _ E6.out (by omega)).mono ?_
  rintro e w7 ⟨v7, rfl, o7, b7⟩
  have OW := Lib.hid (o7.rd encE_len)
  have A7 := Lib.hid (A6.out.below b7)
  have E7 := Lib.hid (E6.out.below b7)
  have HB7 := Lib.hid (st HB6.out b7 z6)
  have z7 := HB7.out.size
  clear o7 b7 A6 E6 HB6 z6
  go_wp2_with fail
  refine (apply_any _ _ a s _ A7.out OW.out (by omega) (by omega)).mono ?_
  rintro e w8 ⟨v8, rfl, o8, b8⟩
  have Z8 := Lib.hid (o8.rd encT_len)
  have hz := o8.slice
  have A8 := Lib.hid (A7.out.below b8)
  have E8 := Lib.hid (E7.out.below b8)
  have HB8 := Lib.hid (st HB7.out b8 z7)
  have z8 := HB8.out.size
  clear o8 b8 A7 E7 HB7 z7 OW
  have BK := Lib.hid (@ap_back a s)
  have LN := Lib.hid (@ap_len a s)
  have hle := ap_le a s
  obtain ⟨n, hn⟩ : ∃ n, (apR a s).1 = n := ⟨_, rfl⟩
  obtain ⟨Z, hZ⟩ : ∃ Z, (apR a s).2 = Z := ⟨_, rfl⟩
  rw [hn] at BK LN ⊢
  rw [hZ] at BK LN Z8 hz hle
  clear hn hZ
  by_cases h0 : n = 0
  · subst h0
    have BK2 := Lib.hid (BK.out rfl)
    clear LN BK hz
    go_wp2_with fail
    refine (own_any _ s _ E8.out (by omega)).mono ?_
    rintro e w9 ⟨v9, rfl, o9, b9⟩
    have OW := Lib.hid (o9.rd encE_len)
    have Z9 := Lib.hid (Z8.out.below b9)
    have A9 := Lib.hid (A8.out.below b9)
    have HB9 := Lib.hid (st HB8.out b9 z8)
    have z9 := HB9.out.size
    clear o9 b9 Z8 A8 E8 HB8 z8
    go_wp2_with fail
    refine (reverse_any _ s _ OW.out (by omega)).mono ?_
    rintro e wa ⟨va, rfl, ra, ba⟩
    have SA := Lib.hid ra
    have ZA := Lib.hid (Z9.out.below ba)
    have AA := Lib.hid (A9.out.below ba)
    have HBA := Lib.hid (st HB9.out ba z9)
    have za := HBA.out.size
    clear ra ba OW Z9 A9 HB9 z9
    go_wp2_with fail
    refine (apply_any _ _ Z (s.map revE) _ ZA.out SA.out (by omega) (by rw [List.length_map]; omega)).mono ?_
    rw [BK2.out]
    rintro e wb ⟨vb, rfl, ob, bb⟩
    have YB := Lib.hid (ob.rd encT_len)
    have AB := Lib.hid (AA.out.below bb)
    have HBB := Lib.hid (st HBA.out bb za)
    clear ob bb ZA SA AA HBA za
    go_wp2_with fail
    refine (same_yes _ _ a _ YB.out AB.out).mono ?_
    rintro e w' ⟨rfl, mm, rfl⟩
    have HBC := Lib.hid (below_drewN HBB.out mm)
    go_wp2
    go_ret
    exact ⟨rfl, HBC.out⟩
  · have hZ0 := LN.out h0
    subst hZ0
    have t1 : (n == 0) = false := by rw [beq_eq_false_iff_ne]; exact h0
    obtain ⟨az, cz, hv⟩ := hz
    rw [List.length_nil] at hv
    subst hv
    clear BK LN
    go_wp2
    go_ret
    exact ⟨rfl, HB8.out⟩
end Go.Proofs.Ytcnjomkddbbopaa
