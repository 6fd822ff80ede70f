/- The law DiffApply. -/
import Derived.Test.YtcnjomkddbbopaaMx
namespace Go.Proofs.Ytcnjomkddbbopaa
open Go.RowKit
set_option linter.unusedVariables false

set_option maxRecDepth 1000000 in
set_option maxHeartbeats 2000000 in
theorem diffApply_walk (a1 : Option Addr) (n1 c1 : Nat) (a : List Str) (a2 : Option Addr) (n2 c2 : Nat) (s : List Ed) (w : World)
    (hs1 : IsStrs w a1 n1 c1 a) (hs2 : IsEds w a2 n2 c2 s) :
    Calls Try.prog 5 #[.slice a1 n1 c1, .slice a2 n2 c2] w fun e w' => e = .returned (.bool true) ∧ Below w.heap.size w w' := by
  obtain ⟨rfl, hr1⟩ := hs1
  obtain ⟨rfl, hr2⟩ := hs2
  have H1 := Lib.hid hr1; clear hr1
  have H2 := Lib.hid hr2; clear hr2
  go_enter Try.func5, Try.ntmps5
  go_wp2_with fail
  refine (awake_any _).mono ?_
  rintro e w1 ⟨rfl, B1⟩
  have R1 := Lib.hid (H1.out.below B1)
  have R2 := Lib.hid (H2.out.below B1)
  have HB := Lib.hid B1
  have z1 := B1.size
  clear B1 H1 H2
  by_cases f1 : Few a
  case neg =>
    go_wp2_with fail
    refine (few_no _ _ _ R1.out f1).mono ?_
    rintro e w' ⟨rfl, h⟩
    obtain rfl := h.symm
    go_wp2
    go_ret
    exact ⟨rfl, HB.out⟩
  go_wp2_with fail
  refine (few_yes _ _ _ R1.out f1).mono ?_
  rintro e w' ⟨rfl, h⟩
  obtain rfl := h.symm
  by_cases f2 : Short s
  case neg =>
    go_wp2_with fail
    refine (short_no _ _ _ R2.out f2).mono ?_
    rintro e w' ⟨rfl, h⟩
    obtain rfl := h.symm
    go_wp2
    go_ret
    exact ⟨rfl, HB.out⟩
  go_wp2_with fail
  refine (short_yes _ _ _ R2.out f2).mono ?_
  rintro e w' ⟨rfl, h⟩
  obtain rfl := h.symm
  have l1 := f1.1
  have l2 := f2.1
  clear f1 f2
  obtain ⟨i0, hi, hz0, hz1, hz2⟩ := info_parts Try.infoT
  have E0 := Lib.hid (own_empty w1 w1.heap.size (Nat.le_refl _))
  have BE : Hid (Below w1.heap.size w1 (w1.alloc (.cells #[] 9))) := Lib.hid ((Below.refl _ w1).alloc (Nat.le_refl _) _)
  have P0 := Lib.hid (R1.out.below BE.out)
  have y0 : w1.heap.size ≤ (w1.alloc (.cells #[] 9)).heap.size := BE.out.size
  go_wp2_with (first | (at_builtin; refine wpList_append_rd (w := w1.alloc (.cells #[] 9)) rfl _ _ 22 rfl w1.heap.size i0 _ 16 Try.underlying22 hi hz0 hz1 hz2 (by omega) rfl (by omega) encT_len encT_one _ [] a _ rfl E0.out rfl P0.out (by simp; omega) y0 ?_; intro v5 w2 y1 y2) | fail)
  have B2 := BE.out.trans y2
  have I2 := Lib.hid (y1.rd encT_len)
  have S1 := Lib.hid (R1.out.below B2)
  have S2 := Lib.hid (R2.out.below B2)
  have HB2 := Lib.hid (st HB.out B2 z1)
  have z2 := HB2.out.size
  clear B2 y1 y2 R1 R2 HB z1 E0 BE P0 y0
  go_wp2_with fail
  refine (own_any _ s _ S2.out (by omega)).mono ?_
  rintro e w3 ⟨v6, rfl, o6, b3⟩
  have OW := Lib.hid (o6.rd encE_len)
  have I3 := Lib.hid (I2.out.below b3)
  have R1 := Lib.hid (S1.out.below b3)
  have R2 := Lib.hid (S2.out.below b3)
  have HB3 := Lib.hid (st HB2.out b3 z2)
  have z3 := HB3.out.size
  clear b3 o6 S1 S2 HB2 z2 I2
  go_wp2_with fail
  refine (apply_any _ _ ([] ++ a) s _ I3.out OW.out (by simp; omega) (by omega)).mono ?_
  rw [List.nil_append]
  rintro e w4 ⟨v7, rfl, o7, b4⟩
  have X4 := Lib.hid (o7.rd encT_len)
  have I4 := Lib.hid (I3.out.below b4)
  have S1 := Lib.hid (R1.out.below b4)
  have S2 := Lib.hid (R2.out.below b4)
  have HB4 := Lib.hid (st HB3.out b4 z3)
  have z4 := HB4.out.size
  clear b4 o7 R1 R2 HB3 z3 I3 OW
  go_wp2_with fail
  refine (refApply_any _ _ a s _ S1.out S2.out (by omega) (by omega)).mono ?_
  rintro e w5 ⟨v8, rfl, o8, b5⟩
  have Y5 := Lib.hid (o8.rd encT_len)
  have X5 := Lib.hid (X4.out.below b5)
  have I5 := Lib.hid (I4.out.below b5)
  have R1 := Lib.hid (S1.out.below b5)
  have HB5 := Lib.hid (st HB4.out b5 z4)
  have z5 := HB5.out.size
  clear b5 o8 S1 S2 HB4 z4 I4 X4
  obtain ⟨L, hL⟩ : ∃ L, (apR a s).2 = L := ⟨_, rfl⟩
  obtain ⟨n, hn⟩ : ∃ n, (apR a s).1 = n := ⟨_, rfl⟩
  rw [hL] at X5 Y5
  rw [hn]
  clear hL hn
  have RA : Hid (Rd 1 encT w5 v5 a) := Lib.hid (by simpa using I5.out)
  clear I5
  go_wp2_with fail
  refine (same_yes _ _ L _ X5.out Y5.out).mono ?_
  rintro e w' ⟨rfl, m, rfl⟩
  have HB6 := Lib.hid (below_drewN HB5.out m)
  go_wp2_with fail
  refine (same_yes _ _ a _ (RA.out.drewN m) (R1.out.drewN m)).mono ?_
  rintro e w' ⟨rfl, m2, rfl⟩
  have HB7 := Lib.hid (below_drewN HB6.out m2)
  go_wp2
  go_ret
  exact ⟨rfl, by have h := HB7.out; rwa [World.drewN_drewN] at h⟩
end Go.Proofs.Ytcnjomkddbbopaa
