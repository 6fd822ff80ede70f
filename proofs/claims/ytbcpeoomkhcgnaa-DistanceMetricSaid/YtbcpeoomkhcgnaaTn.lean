/- The law DistanceMetric. -/
import Derived.Test.YtbcpeoomkhcgnaaTm
namespace Go.Proofs.Ytbcpeoomkhcgnaa
open Go.RowKit
set_option linter.unusedVariables false

set_option maxRecDepth 1000000 in
set_option maxHeartbeats 2000000 in
theorem distanceMetric_walk (a1 : Option Addr) (n1 c1 : Nat) (a : List Str) (a2 : Option Addr) (n2 c2 : Nat) (b : List Str) (a3 : Option Addr) (n3 c3 : Nat) (c : List Str) (w : World)
    (hs1 : IsStrs w a1 n1 c1 a) (hs2 : IsStrs w a2 n2 c2 b) (hs3 : IsStrs w a3 n3 c3 c) :
    Calls Try.prog 8 #[.slice a1 n1 c1, .slice a2 n2 c2, .slice a3 n3 c3] w fun e w' => e = .returned (.bool true) ∧ Below w.heap.size w w' := by
  obtain ⟨rfl, hr1⟩ := hs1
  obtain ⟨rfl, hr2⟩ := hs2
  obtain ⟨rfl, hr3⟩ := hs3
  have H1 := Lib.hid hr1; clear hr1
  have H2 := Lib.hid hr2; clear hr2
  have H3 := Lib.hid hr3; clear hr3
  go_enter Try.func8, Try.ntmps8
  go_wp2_with fail
  refine (awake_any _).mono ?_
  rintro e w1 ⟨rfl, B1⟩
  have z1 := B1.size
  have B2 : Below w.heap.size w (w1.alloc (.cells #[.slice a1 a.length c1, .slice a2 b.length c2, .slice a3 c.length c3] 23)) := B1.alloc z1 _
  have R1 := Lib.hid (H1.out.below B2)
  have R2 := Lib.hid (H2.out.below B2)
  have R3 := Lib.hid (H3.out.below B2)
  have HB := Lib.hid B2
  clear B1 B2 H1 H2 H3
  go_wp2_with fail
  by_cases hf : a.length ≤ 40 ∧ b.length ≤ 40 ∧ c.length ≤ 40
  case neg =>
    refine (few3_any 40 (by omega) (a1, a.length, c1) (a2, b.length, c2) (a3, c.length, c3) w1 false ⟨(fun h => by cases h), (fun h => absurd h hf)⟩).mono ?_
    rintro e w' ⟨rfl, rfl⟩
    go_wp2
    go_ret
    exact ⟨rfl, HB.out⟩
  refine (few3_any 40 (by omega) (a1, a.length, c1) (a2, b.length, c2) (a3, c.length, c3) w1 true ⟨(fun _ => hf), (fun _ => rfl)⟩).mono ?_
  rintro e w' ⟨rfl, rfl⟩
  obtain ⟨W, hW⟩ : ∃ W, w1.alloc (.cells #[.slice a1 a.length c1, .slice a2 b.length c2, .slice a3 c.length c3] 23) = W := ⟨_, rfl⟩
  dsimp only
  rw [hW] at R1 R2 R3 HB ⊢
  have z2 := HB.out.size
  clear hW z1
  obtain ⟨l1, l2, l3⟩ := hf
  go_wp2_with fail
  refine (distance_any _ _ a b _ R1.out R2.out (by omega) (by omega)).mono ?_
  rintro e w2 ⟨rfl, B2⟩
  have S1 := Lib.hid (R1.out.below B2)
  have S2 := Lib.hid (R2.out.below B2)
  have S3 := Lib.hid (R3.out.below B2)
  have HB2 := Lib.hid (st HB.out B2 z2)
  have z3 := HB2.out.size
  clear B2 R1 R2 R3 HB z2
  have HC := Lib.hid (lev_comm b a)
  have k1 := lev_high a b
  have k2 := lev_high a c
  have k3 := lev_high c b
  have k4 := lev_third a c b
  have HZ := Lib.hid (lev_zero a b)
  have HS := Lib.hid (sim_comm b a)
  obtain ⟨d1, hd1⟩ : ∃ d, lev a b = d := ⟨_, rfl⟩
  obtain ⟨d2, hd2⟩ : ∃ d, lev a c = d := ⟨_, rfl⟩
  obtain ⟨d3, hd3⟩ : ∃ d, lev c b = d := ⟨_, rfl⟩
  obtain ⟨sm, hsm⟩ : ∃ d, sim a b = d := ⟨_, rfl⟩
  rw [hd1] at k1 k4 HC HZ ⊢
  rw [hd2] at k2 k4
  rw [hd3] at k3 k4
  rw [hsm] at HS
  have g1 : d1 ≤ 40 := by omega
  have g2 : d2 ≤ 40 := by omega
  have g3 : d3 ≤ 40 := by omega
  have g4 : (d1 : Int) ≤ (d2 : Int) + (d3 : Int) := by omega
  have HD2 := Lib.hid hd2
  have HD3 := Lib.hid hd3
  have HSM := Lib.hid hsm
  clear k1 k2 k3 k4 hd1 hd2 hd3 hsm
  by_cases hab : a = b
  · have h0 := HZ.out.2 hab
    subst hab
    subst h0
    clear HZ
    go_wp2_with fail
    refine (same_yes _ _ a _ S1.out S2.out).mono ?_
    rintro e w' ⟨rfl, m, rfl⟩
    have HB5 := Lib.hid (below_drewN HB2.out m)
    have T1 := Lib.hid (S1.out.drewN m)
    have T2 := Lib.hid (S2.out.drewN m)
    have T3 := Lib.hid (S3.out.drewN m)
    have z5 := HB5.out.size
    obtain ⟨W2, hW2⟩ : ∃ W2, w2.drewN m = W2 := ⟨_, rfl⟩
    rw [hW2] at HB5 T1 T2 T3 z5 ⊢
    clear S1 S2 S3 HB2 z3 hW2
    go_wp2_with fail
    refine (distance_any _ _ a a _ T2.out T1.out (by omega) (by omega)).mono ?_
    rw [HC.out]
    rintro e w5 ⟨rfl, B5⟩
    have U1 := Lib.hid (T1.out.below B5)
    have U2 := Lib.hid (T2.out.below B5)
    have U3 := Lib.hid (T3.out.below B5)
    have HB6 := Lib.hid (st HB5.out B5 z5)
    have z6 := HB6.out.size
    clear B5 HB5 T1 T2 T3 z5
    go_wp2_with fail
    refine (distance_any _ _ a c _ U1.out U3.out (by omega) (by omega)).mono ?_
    rw [HD2.out]
    rintro e w6 ⟨rfl, B6⟩
    have T1 := Lib.hid (U1.out.below B6)
    have T2 := Lib.hid (U2.out.below B6)
    have T3 := Lib.hid (U3.out.below B6)
    have HB7 := Lib.hid (st HB6.out B6 z6)
    have z7 := HB7.out.size
    clear B6 HB6 U1 U2 U3 z6
    go_wp2_with fail
    refine (distance_any _ _ c a _ T3.out T2.out (by omega) (by omega)).mono ?_
    rw [HD3.out]
    rintro e w7 ⟨rfl, B7⟩
    have U1 := Lib.hid (T1.out.below B7)
    have U2 := Lib.hid (T2.out.below B7)
    have HB8 := Lib.hid (st HB7.out B7 z7)
    have z8 := HB8.out.size
    clear B7 HB7 T1 T2 T3 z7
    go_wp2_with fail
    refine (similar_any _ _ a a _ U1.out U2.out (by omega) (by omega)).mono ?_
    rw [HSM.out]
    rintro e w8 ⟨rfl, B8⟩
    have T1 := Lib.hid (U1.out.below B8)
    have T2 := Lib.hid (U2.out.below B8)
    have HB9 := Lib.hid (st HB8.out B8 z8)
    have z9 := HB9.out.size
    clear B8 HB8 U1 U2 z8
    go_wp2_with fail
    refine (similar_any _ _ a a _ T2.out T1.out (by omega) (by omega)).mono ?_
    rw [HSM.out]
    rintro e w9 ⟨rfl, B9⟩
    have HBA := Lib.hid (st HB9.out B9 z9)
    clear B9 HB9
    go_wp2
    go_ret
    exact ⟨rfl, HBA.out⟩
  · have h0 : d1 ≠ 0 := fun h => hab (HZ.out.1 h)
    have q1 : ((d1 : Int) == 0) = false := by rw [beq_eq_false_iff_ne]; omega
    clear HZ
    go_wp2_with fail
    refine (same_no _ _ a b _ S1.out S2.out hab).mono ?_
    rintro e w' ⟨rfl, m, rfl⟩
    have HB5 := Lib.hid (below_drewN HB2.out m)
    have T1 := Lib.hid (S1.out.drewN m)
    have T2 := Lib.hid (S2.out.drewN m)
    have T3 := Lib.hid (S3.out.drewN m)
    have z5 := HB5.out.size
    obtain ⟨W2, hW2⟩ : ∃ W2, w2.drewN m = W2 := ⟨_, rfl⟩
    rw [hW2] at HB5 T1 T2 T3 z5 ⊢
    clear S1 S2 S3 HB2 z3 hW2
    go_wp2_with fail
    refine (distance_any _ _ b a _ T2.out T1.out (by omega) (by omega)).mono ?_
    rw [HC.out]
    rintro e w5 ⟨rfl, B5⟩
    have U1 := Lib.hid (T1.out.below B5)
    have U2 := Lib.hid (T2.out.below B5)
    have U3 := Lib.hid (T3.out.below B5)
    have HB6 := Lib.hid (st HB5.out B5 z5)
    have z6 := HB6.out.size
    clear B5 HB5 T1 T2 T3 z5
    go_wp2_with fail
    refine (distance_any _ _ a c _ U1.out U3.out (by omega) (by omega)).mono ?_
    rw [HD2.out]
    rintro e w6 ⟨rfl, B6⟩
    have T1 := Lib.hid (U1.out.below B6)
    have T2 := Lib.hid (U2.out.below B6)
    have T3 := Lib.hid (U3.out.below B6)
    have HB7 := Lib.hid (st HB6.out B6 z6)
    have z7 := HB7.out.size
    clear B6 HB6 U1 U2 U3 z6
    go_wp2_with fail
    refine (distance_any _ _ c b _ T3.out T2.out (by omega) (by omega)).mono ?_
    rw [HD3.out]
    rintro e w7 ⟨rfl, B7⟩
    have U1 := Lib.hid (T1.out.below B7)
    have U2 := Lib.hid (T2.out.below B7)
    have HB8 := Lib.hid (st HB7.out B7 z7)
    have z8 := HB8.out.size
    clear B7 HB7 T1 T2 T3 z7
    go_wp2_with fail
    refine (similar_any _ _ a b _ U1.out U2.out (by omega) (by omega)).mono ?_
    rw [HSM.out]
    rintro e w8 ⟨rfl, B8⟩
    have T1 := Lib.hid (U1.out.below B8)
    have T2 := Lib.hid (U2.out.below B8)
    have HB9 := Lib.hid (st HB8.out B8 z8)
    have z9 := HB9.out.size
    clear B8 HB8 U1 U2 z8
    go_wp2_with fail
    refine (similar_any _ _ b a _ T2.out T1.out (by omega) (by omega)).mono ?_
    rw [HS.out]
    rintro e w9 ⟨rfl, B9⟩
    have HBA := Lib.hid (st HB9.out B9 z9)
    clear B9 HB9
    go_wp2
    go_ret
    exact ⟨rfl, HBA.out⟩
end Go.Proofs.Ytbcpeoomkhcgnaa
