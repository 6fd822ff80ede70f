/- The reference's Distance and Similar; the law DistanceLists. -/
import Derived.Test.YtbcpeoomkhcgnaaTv
namespace Go.Proofs.Ytbcpeoomkhcgnaa
open Go.RowKit
set_option linter.unusedVariables false

set_option maxRecDepth 1000000 in
set_option maxHeartbeats 1000000 in
theorem refDistance_any (va vb : Value) (a b : List Str) (w : World) (ha : Rd 1 encT w va a) (hb : Rd 1 encT w vb b) (hla : a.length ≤ 400) (hlb : b.length ≤ 400) :
    Calls Try.prog 19 #[va, vb] w fun e w' => e = .returned (.int .i64 (lev a b : Int)) ∧ Below w.heap.size w w' := by
  obtain ⟨aa, ca, rfl, hca, hca2⟩ := ha.slice
  obtain ⟨ab, cb, rfl, hcb, hcb2⟩ := hb.slice
  have HA := Lib.hid ha
  have HB := Lib.hid hb
  clear ha hb hca hca2 hcb hcb2
  go_enter Try.func19, Try.ntmps19
  go_wp2_with fail
  refine (long_no aa a.length ca ab b.length cb hla hlb _).mono ?_
  rintro e w' ⟨rfl, hw'⟩
  obtain rfl := hw'.symm
  go_wp2_with fail
  refine (table_any _ _ a b _ HA.out HB.out hla hlb).mono ?_
  rintro e w1 ⟨T, rfl, hr, hbw⟩
  obtain ⟨r, c0, c1⟩ := hr.at_ a.length (by omega)
  have c2 := c1 b.length (Nat.le_refl _)
  rw [D_end] at c2
  have HBW := Lib.hid hbw
  have q1 : (a.length : Int) < (a.length : Int) + 1 := by omega
  have q2 : (b.length : Int) < (b.length : Int) + 1 := by omega
  clear hr hbw c1
  go_wp2
  go_ret
  exact ⟨rfl, HBW.out⟩
set_option maxRecDepth 1000000 in
set_option maxHeartbeats 1000000 in
theorem refSimilar_any (va vb : Value) (a b : List Str) (w : World) (ha : Rd 1 encT w va a) (hb : Rd 1 encT w vb b) (hla : a.length ≤ 400) (hlb : b.length ≤ 400) :
    Calls Try.prog 20 #[va, vb] w fun e w' => e = .returned (.int .i64 (sim a b)) ∧ Below w.heap.size w w' := by
  obtain ⟨aa, ca, rfl, hca, hca2⟩ := ha.slice
  obtain ⟨ab, cb, rfl, hcb, hcb2⟩ := hb.slice
  have HA := Lib.hid ha
  have HB := Lib.hid hb
  clear ha hb hca hca2 hcb hcb2
  obtain ⟨m, hm⟩ : ∃ m, max a.length b.length = m := ⟨_, rfl⟩
  obtain ⟨d, hd⟩ : ∃ d, lev a b = d := ⟨_, rfl⟩
  have hdm : d ≤ m := by rw [← hd, ← hm]; exact lev_high a b
  have hif : (if a.length < b.length then (b.length : Int) else (a.length : Int)) = (m : Int) := by rw [← hm]; split <;> omega
  have hm4 : m ≤ 400 := by omega
  have DA := refDistance_any _ _ a b w HA.out HB.out hla hlb
  rw [hd] at DA
  have HDA := Lib.hid DA
  have HM := Lib.hid hm
  have HD := Lib.hid hd
  clear DA hm hd
  rcases Nat.eq_zero_or_pos m with h0 | h0
  · have h00 : (m : Int) = 0 := by omega
    have HS := Lib.hid (sim_zero (HM.out.trans h0))
    subst h0
    go_enter Try.func20, Try.ntmps20
    go_wp2_with fail
    refine (long_no aa a.length ca ab b.length cb hla hlb _).mono ?_
    rintro e w' ⟨rfl, hw'⟩
    obtain rfl := hw'.symm
    go_wp2
    go_ret
    exact ⟨ret_int HS.out.symm, Below.refl _ _⟩
  · have h00 : ¬ (m : Int) = 0 := by omega
    have h01 : ¬ m = 0 := by omega
    have HS := Lib.hid (sim_pos HM.out h01 HD.out)
    obtain ⟨r, hr⟩ : ∃ r, (m - d) * 1000 / m = r := ⟨_, rfl⟩
    have hq : (1000 * ((m : Int) - (d : Int))).tdiv (m : Int) = (r : Int) := by
      have e : 1000 * ((m : Int) - (d : Int)) = (((m - d) * 1000 : Nat) : Int) := by omega
      rw [e, ← hr]
      exact (Int.ofNat_tdiv _ _).symm
    have hrl : r ≤ 400000 := by
      rw [← hr]
      exact Nat.le_trans (Nat.div_le_self _ _) (by omega)
    rw [hr] at HS
    have HW := Lib.hid (wrap_nat hrl)
    clear hr hrl
    go_enter Try.func20, Try.ntmps20
    go_wp2_with fail
    refine (long_no aa a.length ca ab b.length cb hla hlb _).mono ?_
    rintro e w' ⟨rfl, hw'⟩
    obtain rfl := hw'.symm
    go_wp2_with fail
    refine HDA.out.mono ?_
    rintro e w1 ⟨rfl, b1⟩
    have HB1 := Lib.hid b1
    clear b1
    go_wp2
    go_ret
    exact ⟨ret_int (HW.out.trans HS.out.symm), HB1.out⟩

set_option maxRecDepth 1000000 in
set_option maxHeartbeats 2000000 in
theorem distanceLists_walk (a1 : Option Addr) (n1 c1 : Nat) (a : List Str) (a2 : Option Addr) (n2 c2 : Nat) (b : List Str) (w : World)
    (hs1 : IsStrs w a1 n1 c1 a) (hs2 : IsStrs w a2 n2 c2 b) :
    Calls Try.prog 5 #[.slice a1 n1 c1, .slice a2 n2 c2] w fun e w' => e = .returned (.bool true) ∧ Below w.heap.size w w' := by
  obtain ⟨rfl, hr1⟩ := hs1
  obtain ⟨rfl, hr2⟩ := hs2
  have H1 := Lib.hid hr1; clear hr1
  have H2 := Lib.hid hr2; clear hr2
  go_enter Try.func5, Try.ntmps5
  go_wp2_with fail
  refine (awake_any _).mono ?_
  rintro e w1 ⟨rfl, B1⟩
  have z1 := B1.size
  have HB := Lib.hid (B1.alloc z1 (.cells #[.slice a1 a.length c1, .slice a2 b.length c2] 23))
  clear B1
  go_wp2_with fail
  by_cases hf : a.length ≤ 410 ∧ b.length ≤ 410
  case neg =>
    refine (few2_any 410 (by omega) (a1, a.length, c1) (a2, b.length, c2) w1 false ⟨(fun h => by cases h), (fun h => absurd h hf)⟩).mono ?_
    rintro e w' ⟨rfl, rfl⟩
    go_wp2
    go_ret
    exact ⟨rfl, HB.out⟩
  refine (few2_any 410 (by omega) (a1, a.length, c1) (a2, b.length, c2) w1 true ⟨(fun _ => hf), (fun _ => rfl)⟩).mono ?_
  rintro e w' ⟨rfl, rfl⟩
  dsimp only
  obtain ⟨W, hW⟩ : ∃ W, w1.alloc (.cells #[.slice a1 a.length c1, .slice a2 b.length c2] 23) = W := ⟨_, rfl⟩
  rw [hW] at HB ⊢
  have z2 := HB.out.size
  clear hW z1
  have HB2 := Lib.hid (HB.out.alloc z2 (.cells #[.slice a1 a.length c1, .slice a2 b.length c2] 23))
  clear HB
  go_wp2_with fail
  obtain ⟨f1, f2⟩ := hf
  by_cases hg : a.length ≤ 400 ∧ b.length ≤ 400
  case neg =>
    refine (few2_any 400 (by omega) (a1, a.length, c1) (a2, b.length, c2) W false ⟨(fun h => by cases h), (fun h => absurd h hg)⟩).mono ?_
    rintro e w' ⟨rfl, rfl⟩
    dsimp only
    obtain ⟨W3, hW3⟩ : ∃ W3, W.alloc (.cells #[.slice a1 a.length c1, .slice a2 b.length c2] 23) = W3 := ⟨_, rfl⟩
    rw [hW3] at HB2 ⊢
    have z3 := HB2.out.size
    have hlong : 400 < a.length ∨ 400 < b.length := by omega
    have HLG := Lib.hid hlong
    clear hW3 z2 hg hlong
    go_wp2_with fail
    refine (distance_long a1 a.length c1 a2 b.length c2 _ HLG.out).mono ?_
    rintro e w4 ⟨rfl, b4⟩
    have HB4 := Lib.hid (st HB2.out b4 z3)
    have z4 := HB4.out.size
    clear b4 HB2 z3
    go_wp2_with fail
    refine (similar_long a1 a.length c1 a2 b.length c2 _ HLG.out f1 f2).mono ?_
    rintro e w5 ⟨rfl, b5⟩
    have HB5 := Lib.hid (st HB4.out b5 z4)
    clear b5 HB4 z4
    go_wp2_with fail
    refine (align_long a1 a.length c1 a2 b.length c2 _ HLG.out).mono ?_
    rintro e w' ⟨rfl, hw'⟩
    obtain rfl := hw'.symm
    go_wp2
    go_ret
    exact ⟨rfl, HB5.out⟩
  refine (few2_any 400 (by omega) (a1, a.length, c1) (a2, b.length, c2) W true ⟨(fun _ => hg), (fun _ => rfl)⟩).mono ?_
  rintro e w' ⟨rfl, rfl⟩
  dsimp only
  obtain ⟨W3, hW3⟩ : ∃ W3, W.alloc (.cells #[.slice a1 a.length c1, .slice a2 b.length c2] 23) = W3 := ⟨_, rfl⟩
  rw [hW3] at HB2 ⊢
  have z3 := HB2.out.size
  clear hW3 z2
  have HB3 := Lib.hid (HB2.out.alloc z3 (.cells #[.slice a1 a.length c1, .slice a2 b.length c2] 23))
  clear HB2
  go_wp2_with fail
  obtain ⟨g1, g2⟩ := hg
  by_cases hh : a.length ≤ 40 ∧ b.length ≤ 40
  case neg =>
    refine (few2_any 40 (by omega) (a1, a.length, c1) (a2, b.length, c2) W3 false ⟨(fun h => by cases h), (fun h => absurd h hh)⟩).mono ?_
    rintro e w' ⟨rfl, rfl⟩
    go_wp2
    go_ret
    exact ⟨rfl, HB3.out⟩
  refine (few2_any 40 (by omega) (a1, a.length, c1) (a2, b.length, c2) W3 true ⟨(fun _ => hh), (fun _ => rfl)⟩).mono ?_
  rintro e w' ⟨rfl, rfl⟩
  dsimp only
  obtain ⟨W4, hW4⟩ : ∃ W4, W3.alloc (.cells #[.slice a1 a.length c1, .slice a2 b.length c2] 23) = W4 := ⟨_, rfl⟩
  rw [hW4] at HB3 ⊢
  have z4 := HB3.out.size
  have R1 := Lib.hid (H1.out.below HB3.out)
  have R2 := Lib.hid (H2.out.below HB3.out)
  clear hW4 z3 H1 H2
  obtain ⟨h1, h2⟩ := hh
  go_wp2_with fail
  refine (distance_any _ _ a b _ R1.out R2.out (by omega) (by omega)).mono ?_
  rintro e w5 ⟨rfl, b5⟩
  have S1 := Lib.hid (R1.out.below b5)
  have S2 := Lib.hid (R2.out.below b5)
  have HB5 := Lib.hid (st HB3.out b5 z4)
  have z5 := HB5.out.size
  clear b5 R1 R2 HB3 z4
  go_wp2_with fail
  refine (refDistance_any _ _ a b _ S1.out S2.out (by omega) (by omega)).mono ?_
  rintro e w6 ⟨rfl, b6⟩
  have R1 := Lib.hid (S1.out.below b6)
  have R2 := Lib.hid (S2.out.below b6)
  have HB6 := Lib.hid (st HB5.out b6 z5)
  have z6 := HB6.out.size
  clear b6 S1 S2 HB5 z5
  obtain ⟨d, hd⟩ : ∃ d, lev a b = d := ⟨_, rfl⟩
  rw [hd]
  clear hd
  go_wp2_with fail
  refine (similar_any _ _ a b _ R1.out R2.out (by omega) (by omega)).mono ?_
  rintro e w7 ⟨rfl, b7⟩
  have S1 := Lib.hid (R1.out.below b7)
  have S2 := Lib.hid (R2.out.below b7)
  have HB7 := Lib.hid (st HB6.out b7 z6)
  have z7 := HB7.out.size
  clear b7 R1 R2 HB6 z6
  go_wp2_with fail
  refine (refSimilar_any _ _ a b _ S1.out S2.out (by omega) (by omega)).mono ?_
  rintro e w8 ⟨rfl, b8⟩
  have HB8 := Lib.hid (st HB7.out b8 z7)
  obtain ⟨sv, hsv⟩ : ∃ sv, sim a b = sv := ⟨_, rfl⟩
  rw [hsv]
  clear b8 hsv
  go_wp2
  go_ret
  exact ⟨rfl, HB8.out⟩
end Go.Proofs.Ytbcpeoomkhcgnaa
