/- The law DiffCommon. -/
import Derived.Test.YtcnjomkddbbopaaMt
namespace Go.Proofs.Ytcnjomkddbbopaa
open Go.RowKit
set_option linter.unusedVariables false

set_option maxRecDepth 1000000 in
set_option maxHeartbeats 1000000 in
theorem refDistance_any (va vb : Value) (a b : List Str) (w : World) (ha : Rd 1 encT w va a) (hb : Rd 1 encT w vb b) (hla : a.length ≤ 200) (hlb : b.length ≤ 200) :
    Calls Try.prog 15 #[va, vb] w fun e w' => e = .returned (.int .i64 (dist a b)) ∧ Below w.heap.size w w' := by
  obtain ⟨aa, ca, rfl, hca, hca2⟩ := ha.slice
  obtain ⟨ab, cb, rfl, hcb, hcb2⟩ := hb.slice
  have HA := Lib.hid ha
  have HB := Lib.hid hb
  clear ha hb hca hca2 hcb hcb2
  go_enter Try.func15, Try.ntmps15
  go_wp2_with fail
  refine (refCommon_any _ _ a b _ HA.out HB.out hla hlb).mono ?_
  rintro e w1 ⟨v, rfl, ov, b1⟩
  obtain ⟨ap, cp, hpv⟩ := ov.slice
  rw [comm0_length] at hpv
  subst hpv
  obtain ⟨n, hn⟩ : ∃ n, lcs a b = n := ⟨_, rfl⟩
  have hn1 := lcs_le_left a b
  rw [hn] at hn1 ⊢
  have HN := Lib.hid hn
  have HB1 := Lib.hid b1
  clear ov b1 hn
  go_wp2
  go_ret
  refine ⟨ret_int ?_, HB1.out⟩
  unfold dist
  rw [HN.out]

set_option maxRecDepth 1000000 in
set_option maxHeartbeats 2000000 in
theorem diffCommon_walk (a1 : Option Addr) (n1 c1 : Nat) (a : List Str) (a2 : Option Addr) (n2 c2 : Nat) (b : List Str) (w : World)
    (hs1 : IsStrs w a1 n1 c1 a) (hs2 : IsStrs w a2 n2 c2 b) :
    Calls Try.prog 3 #[.slice a1 n1 c1, .slice a2 n2 c2] w fun e w' => e = .returned (.bool true) ∧ Below w.heap.size w w' := by
  obtain ⟨rfl, hr1⟩ := hs1
  obtain ⟨rfl, hr2⟩ := hs2
  have H1 := Lib.hid hr1; clear hr1
  have H2 := Lib.hid hr2; clear hr2
  go_enter Try.func3, Try.ntmps3
  go_wp2_with fail
  refine (awake_any _).mono ?_
  rintro e w1 ⟨rfl, B1⟩
  have R1 := Lib.hid (H1.out.below B1)
  have R2 := Lib.hid (H2.out.below B1)
  have HB := Lib.hid B1
  have z1 := B1.size
  clear B1 H1 H2
  by_cases f1 : Few a
  case neg =>
    go_wp2_with fail
    refine (few_no _ _ _ R1.out f1).mono ?_
    rintro e w' ⟨rfl, h⟩
    obtain rfl := h.symm
    go_wp2
    go_ret
    exact ⟨rfl, HB.out⟩
  go_wp2_with fail
  refine (few_yes _ _ _ R1.out f1).mono ?_
  rintro e w' ⟨rfl, h⟩
  obtain rfl := h.symm
  by_cases f2 : Few b
  case neg =>
    go_wp2_with fail
    refine (few_no _ _ _ R2.out f2).mono ?_
    rintro e w' ⟨rfl, h⟩
    obtain rfl := h.symm
    go_wp2
    go_ret
    exact ⟨rfl, HB.out⟩
  go_wp2_with fail
  refine (few_yes _ _ _ R2.out f2).mono ?_
  rintro e w' ⟨rfl, h⟩
  obtain rfl := h.symm
  have F1 := Lib.hid f1
  have F2 := Lib.hid f2
  have l1 := f1.1
  have l2 := f2.1
  clear f1 f2
  go_wp2_with fail
  refine (common_any _ _ a b _ R1.out R2.out (by omega) (by omega) F1.out.sizes.2 F2.out.sizes.2).mono ?_
  rintro e w2 ⟨v, rfl, ov, b2⟩
  have O2 := Lib.hid (ov.rd encP_len)
  have S1 := Lib.hid (R1.out.below b2)
  have S2 := Lib.hid (R2.out.below b2)
  have HB2 := Lib.hid (st HB.out b2 z1)
  have z2 := HB2.out.size
  clear ov b2 R1 R2 HB z1
  go_wp2_with fail
  refine (refCommon_any _ _ a b _ S1.out S2.out (by omega) (by omega)).mono ?_
  rintro e w3 ⟨u, rfl, ou, b3⟩
  have P3 := Lib.hid (ou.rd encP_len)
  have O3 := Lib.hid (O2.out.below b3)
  have R1 := Lib.hid (S1.out.below b3)
  have R2 := Lib.hid (S2.out.below b3)
  have HB3 := Lib.hid (st HB2.out b3 z2)
  have z3 := HB3.out.size
  clear ou b3 S1 S2 HB2 z2 O2
  have hll := comm0_length a b
  have hlb2 := lcs_le_right a b
  obtain ⟨L, hL⟩ : ∃ L, comm a b 0 0 = L := ⟨_, rfl⟩
  rw [hL] at O3 P3 hll
  have hL30 : L.length ≤ 30 := by omega
  clear hL hll hlb2
  obtain ⟨al, cl, rfl, hcl1, hcl2⟩ := O3.out.slice
  obtain ⟨au, cu, rfl, hcu1, hcu2⟩ := P3.out.slice
  clear hcl1 hcl2 hcu1 hcu2
  go_wp2_with fail
  refine (distance_any _ _ a b _ R1.out R2.out F1.out.sizes F2.out.sizes).mono ?_
  rintro e w4 ⟨rfl, b4⟩
  have O4 := Lib.hid (O3.out.below b4)
  have P4 := Lib.hid (P3.out.below b4)
  have S1 := Lib.hid (R1.out.below b4)
  have S2 := Lib.hid (R2.out.below b4)
  have HB4 := Lib.hid (st HB3.out b4 z3)
  have z4 := HB4.out.size
  clear b4 R1 R2 HB3 z3 O3 P3
  go_wp2_with fail
  refine (refDistance_any _ _ a b _ S1.out S2.out (by omega) (by omega)).mono ?_
  rintro e w5 ⟨rfl, b5⟩
  have O5 := Lib.hid (O4.out.below b5)
  have P5 := Lib.hid (P4.out.below b5)
  have HB5 := Lib.hid (st HB4.out b5 z4)
  clear b5 S1 S2 HB4 z4 O4 P4
  obtain ⟨d, hd⟩ : ∃ d, dist a b = d := ⟨_, rfl⟩
  rw [hd]
  clear hd
  go_wp2
  go_loopw [7] (fun v7 wx => ∃ x m : Nat, x ≤ L.length ∧ v7 = .int .i64 x ∧ wx = w5.drewN m) (fun v7 _ => L.length - (intOf v7).toNat)
  case atStart => exact ⟨0, 0, Nat.zero_le _, rfl, rfl⟩
  case round =>
    obtain ⟨x, m, hx, rfl, rfl⟩ := hrel
    by_cases hxl : x < L.length
    · have g3 : (x : Int) < (L.length : Int) := by omega
      obtain ⟨bl, ol, rfl, y1, y2⟩ := O5.out.pair x hxl
      obtain ⟨bu, ou, rfl, y3, y4⟩ := P5.out.pair x hxl
      obtain ⟨p1, hp1⟩ : ∃ p1, (L[x]).1 = p1 := ⟨_, rfl⟩
      obtain ⟨p2, hp2⟩ : ∃ p2, (L[x]).2 = p2 := ⟨_, rfl⟩
      rw [hp1] at y1 y3
      rw [hp2] at y2 y4
      have eq1 : ∀ wz, (Op.equalIn 10000 28 (.agg #[.int .i64 (p1 : Int), .int .i64 (p2 : Int)]) (.agg #[.int .i64 (p1 : Int), .int .i64 (p2 : Int)])).run Try.prog wz = .ok true wz := fun wz => by
        rw [eqPr]
        simp
      clear hp1 hp2
      go_wp2_with fail
      go_big_quiet (fail)
      clear y1 y2 y3 y4
      go_wp2
      go_roundw
      case rel => exact ⟨x + 1, _, by omega, by go_num, by first | rfl | (simp only [World.drewN_drewN]; rfl)⟩
      case measure => simp [intOf]; omega
    · obtain rfl : x = L.length := by omega
      have g3 : ¬ (L.length : Int) < (L.length : Int) := by omega
      go_wp2
      go_ret
      exact ⟨rfl, below_drewN HB5.out _⟩
end Go.Proofs.Ytcnjomkddbbopaa
