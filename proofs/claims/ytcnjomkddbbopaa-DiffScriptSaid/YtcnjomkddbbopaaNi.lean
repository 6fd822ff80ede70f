/- The law DiffScript. -/
import Derived.Test.YtcnjomkddbbopaaNh
import Derived.Test.YtcnjomkddbbopaaNd
namespace Go.Proofs.Ytcnjomkddbbopaa
open Go.RowKit
set_option linter.unusedVariables false

set_option maxRecDepth 1000000 in
set_option maxHeartbeats 2000000 in
theorem diffScript_walk (a1 : Option Addr) (n1 c1 : Nat) (a : List Str) (a2 : Option Addr) (n2 c2 : Nat) (b : List Str) (a3 : Option Addr) (n3 c3 : Nat) (s : List Ed) (w : World)
    (hs1 : IsStrs w a1 n1 c1 a) (hs2 : IsStrs w a2 n2 c2 b) (hs3 : IsEds w a3 n3 c3 s) :
    Calls Try.prog 4 #[.slice a1 n1 c1, .slice a2 n2 c2, .slice a3 n3 c3] w fun e w' => e = .returned (.bool true) ∧ Below w.heap.size w w' := by
  obtain ⟨rfl, hr1⟩ := hs1
  obtain ⟨rfl, hr2⟩ := hs2
  obtain ⟨rfl, hr3⟩ := hs3
  have H1 := Lib.hid hr1; clear hr1
  have H2 := Lib.hid hr2; clear hr2
  have H3 := Lib.hid hr3; clear hr3
  go_enter Try.func4, Try.ntmps4
  go_wp2_with fail
  refine (awake_any _).mono ?_
  rintro e w1 ⟨rfl, B1⟩
  have R1 := Lib.hid (H1.out.below B1)
  have R2 := Lib.hid (H2.out.below B1)
  have R3 := Lib.hid (H3.out.below B1)
  have HB := Lib.hid B1
  have z1 := B1.size
  clear B1 H1 H2 H3
  by_cases f1 : Few a
  case neg =>
    go_wp2_with fail
    refine (few_no _ _ _ R1.out f1).mono ?_
    rintro e w' ⟨rfl, h⟩
    obtain rfl := h.symm
    go_wp2
    go_ret
    exact ⟨rfl, HB.out⟩
  go_wp2_with fail
  refine (few_yes _ _ _ R1.out f1).mono ?_
  rintro e w' ⟨rfl, h⟩
  obtain rfl := h.symm
  by_cases f2 : Few b
  case neg =>
    go_wp2_with fail
    refine (few_no _ _ _ R2.out f2).mono ?_
    rintro e w' ⟨rfl, h⟩
    obtain rfl := h.symm
    go_wp2
    go_ret
    exact ⟨rfl, HB.out⟩
  go_wp2_with fail
  refine (few_yes _ _ _ R2.out f2).mono ?_
  rintro e w' ⟨rfl, h⟩
  obtain rfl := h.symm
  by_cases f3 : Short s
  case neg =>
    go_wp2_with fail
    refine (short_no _ _ _ R3.out f3).mono ?_
    rintro e w' ⟨rfl, h⟩
    obtain rfl := h.symm
    go_wp2
    go_ret
    exact ⟨rfl, HB.out⟩
  go_wp2_with fail
  refine (short_yes _ _ _ R3.out f3).mono ?_
  rintro e w' ⟨rfl, h⟩
  obtain rfl := h.symm
  have l1 := f1.1
  have l2 := f2.1
  have l3 := f3.1
  have F1 := Lib.hid f1.sizes.2
  have F2 := Lib.hid f2.sizes.2
  clear f1 f2 f3
  go_wp2_with fail
  refine (script_any _ _ a b _ R1.out R2.out (by omega) (by omega) F1.out F2.out).mono ?_
  rintro e w2 ⟨v, rfl, rs, b2⟩
  have S2 := Lib.hid rs
  have A2 := Lib.hid (R1.out.below b2)
  have B2 := Lib.hid (R2.out.below b2)
  have E2 := Lib.hid (R3.out.below b2)
  have HB2 := Lib.hid (st HB.out b2 z1)
  have z2 := HB2.out.size
  clear rs b2 R1 R2 R3 HB z1
  go_wp2_with fail
  refine (refScript_any _ _ a b _ A2.out B2.out (by omega) (by omega)).mono ?_
  rintro e w3 ⟨v3, rfl, o3, b3⟩
  have T3 := Lib.hid (o3.rd encE_len)
  have S3 := Lib.hid (S2.out.below b3)
  have E3 := Lib.hid (E2.out.below b3)
  have HB3 := Lib.hid (st HB2.out b3 z2)
  have z3 := HB3.out.size
  clear o3 b3 A2 B2 E2 S2 HB2 z2
  go_wp2_with fail
  refine (sameE_yes _ _ (scr a b) _ S3.out T3.out).mono ?_
  rintro e w' ⟨rfl, m, rfl⟩
  have E4 := Lib.hid (E3.out.drewN m)
  have HB4 := Lib.hid (below_drewN HB3.out m)
  have z4 := HB4.out.size
  obtain ⟨w4, hw4⟩ : ∃ w4, w3.drewN m = w4 := ⟨_, rfl⟩
  rw [hw4] at E4 HB4 z4
  try rw [hw4]
  clear S3 T3 E3 HB3 z3 hw4
  go_wp2_with fail
  refine (own_any _ s _ E4.out (by omega)).mono ?_
  rintro e w5 ⟨v5, rfl, o5, b5⟩
  have OW := Lib.hid (o5.rd encE_len)
  have E5 := Lib.hid (E4.out.below b5)
  have HB5 := Lib.hid (st HB4.out b5 z4)
  have z5 := HB5.out.size
  clear o5 b5 E4 HB4 z4
  go_wp2_with fail
  refine (reverse_any _ s _ OW.out (by omega)).mono ?_
  rintro e w6 ⟨v6, rfl, r6, b6⟩
  have V6 := Lib.hid r6
  have E6 := Lib.hid (E5.out.below b6)
  have HB6 := Lib.hid (st HB5.out b6 z5)
  have z6 := HB6.out.size
  clear r6 b6 E5 HB5 z5 OW
  go_wp2_with fail
  refine (refReverse_any _ s _ E6.out (by omega)).mono ?_
  rintro e w7 ⟨v7, rfl, o7, b7⟩
  have T7 := Lib.hid (o7.rd encE_len)
  have V7 := Lib.hid (V6.out.below b7)
  have HB7 := Lib.hid (st HB6.out b7 z6)
  clear o7 b7 E6 HB6 z6 V6
  go_wp2_with fail
  refine (sameE_yes _ _ (s.map revE) _ V7.out T7.out).mono ?_
  rintro e w' ⟨rfl, m2, rfl⟩
  have HB8 := Lib.hid (below_drewN HB7.out m2)
  go_wp2
  go_ret
  exact ⟨rfl, HB8.out⟩
end Go.Proofs.Ytcnjomkddbbopaa
