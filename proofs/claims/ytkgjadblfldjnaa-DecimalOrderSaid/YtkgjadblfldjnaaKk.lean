/- Of the program: aligned, compareStrings, Compare, Same. -/
import Derived.Test.YtkgjadblfldjnaaKj
namespace Go.Proofs.Ytkgjadblfldjnaa
open Go.RowKit
set_option linter.unusedVariables false

theorem wrap_fit {x : Int} (h0 : -9223372036854775808 ≤ x) (h1 : x ≤ 9223372036854775807) : IntKind.i64.wrap x = x := by
  rw [IntKind.wrap_i64]; omega
/-- The digits of a number, all numbers with their points at the same place. -/
def al (x : Num) : Str := zs (15 - x.wh.length) ++ (x.wh ++ (x.fr ++ zs (6 - x.fr.length)))
theorem rdv4 (w : World) (v1 v2 v3 v4 : Value) : Rd 1 encV (w.alloc (.cells #[v1, v2, v3, v4] 41)) (.slice (some ⟨w.heap.size, 0, none⟩) 4 4) [v1, v2, v3, v4] := by
  have k := Blk.new w 41 #[v1, v2, v3, v4]
  refine ⟨⟨_, 4, rfl, Nat.le_refl _, by omega, fun _ => ⟨w.heap.size, 0, rfl, k.lt, fun i u hi j v hv => ?_⟩⟩, fun n c hc => by cases hc⟩
  have hj : j = 0 := by have := (List.getElem?_eq_some_iff.1 hv).1; simp [encV] at this; exact this
  subst hj
  simp [encV] at hv
  subst hv
  rw [k.cell]
  have hi3 := (List.getElem?_eq_some_iff.1 hi).1
  simp at hi3
  obtain rfl | rfl | rfl | rfl : i = 0 ∨ i = 1 ∨ i = 2 ∨ i = 3 := by omega
  all_goals (simp at hi; subst hi; rfl)
theorem rdl4 {w : World} {v1 v2 v3 v4 : Value} {l1 l2 l3 l4 : Str} (h1 : RdB w v1 l1) (h2 : RdB w v2 l2) (h3 : RdB w v3 l3) (h4 : RdB w v4 l4) : RdL w [v1, v2, v3, v4] [l1, l2, l3, l4] := by
  refine ⟨rfl, fun i v l hv hl => ?_⟩
  have hi3 := (List.getElem?_eq_some_iff.1 hv).1
  simp at hi3
  obtain rfl | rfl | rfl | rfl : i = 0 ∨ i = 1 ∨ i = 2 ∨ i = 3 := by omega
  all_goals (simp at hv hl; subst hv hl; assumption)
set_option maxRecDepth 1000000 in
set_option maxHeartbeats 8000000 in
theorem aligned_any (b : Bool) (a1 : Option Addr) (c1 : Nat) (wh : Str) (a2 : Option Addr) (c2 : Nat) (fr : Str) (w : World) (h1 : RdB w (.slice a1 wh.length c1) wh) (h2 : RdB w (.slice a2 fr.length c2) fr) (l1 : wh.length ≤ 15) (l2 : fr.length ≤ 6) :
    Calls Try.prog 39 #[.agg #[.bool b, .slice a1 wh.length c1, .slice a2 fr.length c2]] w fun e w' => e = .returned (.string (ofL (al ⟨b, wh, fr⟩))) ∧ Below w.heap.size w w' := by
  have R1 := Lib.hid (h1.alloc (.cells #[.bool b, .slice a1 wh.length c1, .slice a2 fr.length c2] 43))
  have R2 := Lib.hid (h2.alloc (.cells #[.bool b, .slice a1 wh.length c1, .slice a2 fr.length c2] 43))
  have HB := Lib.hid ((Below.refl w.heap.size w).alloc (Nat.le_refl _) (.cells #[.bool b, .slice a1 wh.length c1, .slice a2 fr.length c2] 43))
  have HK := Lib.hid (Blk.new w 43 #[.bool b, .slice a1 wh.length c1, .slice a2 fr.length c2])
  clear h1 h2
  obtain ⟨N1, hN1⟩ : ∃ N, wh.length = N := ⟨_, rfl⟩
  obtain ⟨N2, hN2⟩ : ∃ N, fr.length = N := ⟨_, rfl⟩
  have HN1 := Lib.hid hN1
  have HN2 := Lib.hid hN2
  rw [hN1, hN2] at R1 R2 HB HK ⊢
  rw [hN1] at l1
  rw [hN2] at l2
  clear hN1 hN2
  have g1 : (N1 : Int) ≤ 15 := by omega
  have g2 : (N2 : Int) ≤ 6 := by omega
  go_enter Try.func39, Try.ntmps39
  go_upto_region 1 with fail
  obtain ⟨W0, hW0⟩ : ∃ W0, w.alloc (.cells #[.bool b, .slice a1 N1 c1, .slice a2 N2 c2] 43) = W0 := ⟨_, rfl⟩
  rw [hW0] at HK R1 R2 HB ⊢
  have zw := HB.out.size
  obtain ⟨B0, hB0⟩ : ∃ B0, w.heap.size = B0 := ⟨_, rfl⟩
  have HB0 := Lib.hid hB0
  rw [hB0] at HK zw ⊢
  have HW0 := Lib.hid hW0
  clear hW0 hB0
  have HKX : Hid (∀ wx, Below W0.heap.size W0 wx → wx.cell? ⟨B0, 1, none⟩ = some (.slice a1 N1 c1) ∧ wx.cell? ⟨B0, 2, none⟩ = some (.slice a2 N2 c2)) := Lib.hid (fun wx hb => ⟨(HK.out.below hb).cell 1, (HK.out.below hb).cell 2⟩)
  have Z0 : Below W0.heap.size W0 W0.drew := (Below.refl _ W0).drew
  have k1 := (HKX.out _ (Below.refl _ W0)).1
  have k2 := (HKX.out _ (Below.refl _ W0)).2
  have wr1 : IntKind.i64.wrap (15 - (N1 : Int)) = 15 - (N1 : Int) := wrap_fit (by omega) (by omega)
  have wr2 : IntKind.i64.wrap (6 - (N2 : Int)) = 6 - (N2 : Int) := wrap_fit (by omega) (by omega)
  go_cut [3, 4] from 5 to 14 (fun v3 v4 wx => RdB wx v3 (zs (15 - N1)) ∧ RdB wx v4 (zs (6 - N2)) ∧ Below W0.heap.size W0 wx)
  case first =>
    go_region_held3 (fun wx => wx.cell? ⟨B0, 1, none⟩ = some (.slice a1 N1 c1) ∧ wx.cell? ⟨B0, 2, none⟩ = some (.slice a2 N2 c2)) (first | exact HKX.out _ Z2 | exact HKX.out _ Z1 | exact HKX.out _ (Below.refl _ _).drew) (first | (go_at_call 42; first | ((with_reducible refine (zeros_any (15 - (N1 : Int)) (by omega) (by omega) _).mono ?_); rintro e w5 ⟨v5, rfl, o5, b5⟩; have Z1 : Below W0.heap.size W0 w5 := (Below.refl _ W0).drew.trans b5) | ((with_reducible refine (zeros_any (6 - (N2 : Int)) (by omega) (by omega) _).mono ?_); rintro e w6 ⟨v6, rfl, o6, b6⟩; have Z2 : Below W0.heap.size W0 w6 := st Z1 b6 Z1.size)))
    go_wp2_with fail
    go_meet
    refine ⟨?_, ?_, Z2⟩
    · have := (o5.rd encB_len).below b6
      rw [show (15 - (N1 : Int)).toNat = 15 - N1 by omega] at this
      exact this
    · have := o6.rd encB_len
      rw [show (6 - (N2 : Int)).toNat = 6 - N2 by omega] at this
      exact this
  case rest =>
    obtain ⟨r3, r4, hb⟩ := hcut
    rename World => wc
    have m1 := (HKX.out _ hb).1
    have m2 := (HKX.out _ hb).2
    clear k1 k2 Z0 wr1 wr2
    obtain ⟨a3, c3, rfl, _, _⟩ := r3.slice
    obtain ⟨a4, c4, rfl, _, _⟩ := r4.slice
    obtain ⟨M3, hM3⟩ : ∃ M, (zs (15 - N1)).length = M := ⟨_, rfl⟩
    obtain ⟨M4, hM4⟩ : ∃ M, (zs (6 - N2)).length = M := ⟨_, rfl⟩
    rw [hM3] at r3 ⊢
    rw [hM4] at r4 ⊢
    clear hM3 hM4
    have H3 := Lib.hid r3
    have H4 := Lib.hid r4
    have HC := Lib.hid hb
    have HD := Lib.hid (HB.out.trans (hb.mono HB.out.size))
    clear r3 r4 hb
    have R1C := Lib.hid (R1.out.below HC.out)
    have R2C := Lib.hid (R2.out.below HC.out)
    have HAL : Hid ([zs (15 - N1), wh, fr, zs (6 - N2)].flatten = al ⟨b, wh, fr⟩) := Lib.hid (by unfold al; rw [← HN1.out, ← HN2.out]; simp)
    have HLEN : Hid ([zs (15 - N1), wh, fr, zs (6 - N2)].flatten.length ≤ 100000) := Lib.hid (by
      have := HN1.out
      have := HN2.out
      simp [zs_len]
      omega)
    go_wp2_with fail
    refine (concat_any _ [.slice a3 M3 c3, .slice a1 N1 c1, .slice a2 N2 c2, .slice a4 M4 c4] [zs (15 - N1), wh, fr, zs (6 - N2)] _ (rdv4 wc _ _ _ _) (rdl4 (H3.out.alloc _) (R1C.out.alloc _) (R2C.out.alloc _) (H4.out.alloc _)) HLEN.out (by simp)).mono ?_
    rintro e w7 ⟨v7, rfl, o7, b7⟩
    rw [HAL.out] at o7
    have cv := conv_rd (P := Try.prog) (S := 41) (D := 9) (e := 5) Try.underlying41 Try.underlying5 Try.underlying9 (o7.rd encB_len)
    have HE := Lib.hid (st (HD.out.alloc HD.out.size (.cells #[.slice a3 M3 c3, .slice a1 N1 c1, .slice a2 N2 c2, .slice a4 M4 c4] 41)) b7 (HD.out.alloc HD.out.size _).size)
    clear o7 b7 m1 m2
    go_wp2
    go_ret
    exact ⟨rfl, HE.out⟩
end Go.Proofs.Ytkgjadblfldjnaa
