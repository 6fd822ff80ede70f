/- The law DistanceAligns. -/
import Derived.Test.YtbcpeoomkhcgnaaTx
import Derived.Test.YtbcpeoomkhcgnaaTs
import Derived.Laws.StructEq
namespace Go.Proofs.Ytbcpeoomkhcgnaa
open Go.RowKit
set_option linter.unusedVariables false

theorem eqSt (p q : Int) (w : World) : (Op.equalIn 10000 36 (.agg #[.int .i64 p, .int .i64 q]) (.agg #[.int .i64 p, .int .i64 q])).run Try.prog w = .ok true w := by
  rw [show (10000 : Nat) = 9999 + 1 from rfl, run_equalIn_struct _ 9999 _ _ _ (by kernel_rfl) (by kernel_rfl)]
  have u1 := Try.underlying3
  go_simp
set_option maxRecDepth 1000000 in
set_option maxHeartbeats 2000000 in
theorem distanceAligns_walk (a1 : Option Addr) (n1 c1 : Nat) (a : List Str) (a2 : Option Addr) (n2 c2 : Nat) (b : List Str) (w : World)
    (hs1 : IsStrs w a1 n1 c1 a) (hs2 : IsStrs w a2 n2 c2 b) :
    Calls Try.prog 6 #[.slice a1 n1 c1, .slice a2 n2 c2] w fun e w' => e = .returned (.bool true) ∧ Below w.heap.size w w' := by
  obtain ⟨rfl, hr1⟩ := hs1
  obtain ⟨rfl, hr2⟩ := hs2
  have H1 := Lib.hid hr1; clear hr1
  have H2 := Lib.hid hr2; clear hr2
  go_enter Try.func6, Try.ntmps6
  go_wp2_with fail
  refine (awake_any _).mono ?_
  rintro e w1 ⟨rfl, B1⟩
  have z1 := B1.size
  have HB := Lib.hid (B1.alloc z1 (.cells #[.slice a1 a.length c1, .slice a2 b.length c2] 23))
  clear B1
  go_wp2_with fail
  by_cases hf : a.length ≤ 40 ∧ b.length ≤ 40
  case neg =>
    refine (few2_any 40 (by omega) (a1, a.length, c1) (a2, b.length, c2) w1 false ⟨(fun h => by cases h), (fun h => absurd h hf)⟩).mono ?_
    rintro e w' ⟨rfl, rfl⟩
    go_wp2
    go_ret
    exact ⟨rfl, HB.out⟩
  refine (few2_any 40 (by omega) (a1, a.length, c1) (a2, b.length, c2) w1 true ⟨(fun _ => hf), (fun _ => rfl)⟩).mono ?_
  rintro e w' ⟨rfl, rfl⟩
  dsimp only
  obtain ⟨W, hW⟩ : ∃ W, w1.alloc (.cells #[.slice a1 a.length c1, .slice a2 b.length c2] 23) = W := ⟨_, rfl⟩
  rw [hW] at HB ⊢
  have z2 := HB.out.size
  have R1 := Lib.hid (H1.out.below HB.out)
  have R2 := Lib.hid (H2.out.below HB.out)
  clear hW z1 H1 H2
  obtain ⟨f1, f2⟩ := hf
  go_wp2_with fail
  refine (align_any _ _ a b _ R1.out R2.out (by omega) (by omega)).mono ?_
  rintro e w2 ⟨⟨v, rfl, ov⟩, b2⟩
  have S1 := Lib.hid (R1.out.below b2)
  have S2 := Lib.hid (R2.out.below b2)
  have RV := Lib.hid (ov.rd encP_len)
  have HB2 := Lib.hid (st HB.out b2 z2)
  have z3 := HB2.out.size
  clear ov b2 R1 R2 HB z2
  go_wp2_with fail
  refine (refAlign_any _ _ a b _ S1.out S2.out (by omega) (by omega)).mono ?_
  rintro e w3 ⟨⟨u, rfl, ou⟩, b3⟩
  have R1 := Lib.hid (S1.out.below b3)
  have R2 := Lib.hid (S2.out.below b3)
  have RV3 := Lib.hid (RV.out.below b3)
  have RU3 := Lib.hid (ou.rd encP_len)
  have HB3 := Lib.hid (st HB2.out b3 z3)
  have z4 := HB3.out.size
  clear ou b3 S1 S2 RV HB2 z3
  have HCA := Lib.hid (cst_align a b)
  have hln := tr_length (a := a) (b := b) _ a.length b.length (Nat.le_refl _)
  obtain ⟨l, hl⟩ : ∃ l, (tr a b a.length b.length).reverse = l := ⟨_, rfl⟩
  have hll : l.length ≤ 80 := by rw [← hl, List.length_reverse]; omega
  rw [hl] at RV3 RU3 HCA
  obtain ⟨av, cv, hv, _⟩ := RV3.out.slice
  obtain ⟨au, cu, hu, _⟩ := RU3.out.slice
  subst hv
  subst hu
  clear hl hln
  go_wp2
  go_loopw [7] (fun v7 wr => ∃ k n : Nat, k ≤ l.length ∧ v7 = .int .i64 k ∧ wr = w3.drewN n) (fun v7 _ => l.length - (intOf v7).toNat)
  case atStart => exact ⟨0, 0, Nat.zero_le _, rfl, rfl⟩
  case round =>
    obtain ⟨k, n, hk, rfl, rfl⟩ := hrel
    by_cases hlt : k < l.length
    · obtain ⟨bl, ol, rfl, y1, y2⟩ := RV3.out.stp k hlt
      obtain ⟨bu, ou, rfl, y3, y4⟩ := RU3.out.stp k hlt
      have g3 : (k : Int) < (l.length : Int) := by omega
      have g4 : (0 : Int) ≤ (k : Int) := by omega
      obtain ⟨q, hq⟩ : ∃ q, l[k] = q := ⟨_, rfl⟩
      rw [hq] at y1 y2 y3 y4
      obtain ⟨q1, t⟩ := q
      dsimp only at y1 y2 y3 y4
      have eq1 := eqSt q1 t
      clear hq
      go_wp2_with fail
      go_big_quiet (fail)
      clear y1 y2 y3 y4
      go_wp2
      go_roundw
      case rel => exact ⟨k + 1, _, by omega, by go_num, by first | rfl | (simp only [World.drewN_drewN]; rfl)⟩
      case measure => simp [intOf]; omega
    · obtain rfl : k = l.length := by omega
      have g3 : ¬ (l.length : Int) < (l.length : Int) := by omega
      have S1 := Lib.hid (R1.out.drewN n)
      have S2 := Lib.hid (R2.out.drewN n)
      have RV4 := Lib.hid (RV3.out.drewN n)
      have HB4 := Lib.hid (below_drewN HB3.out n)
      have z5 := HB4.out.size
      obtain ⟨W4, hW4⟩ : ∃ W4, w3.drewN n = W4 := ⟨_, rfl⟩
      rw [hW4] at S1 S2 RV4 HB4 z5 ⊢
      clear hW4 R1 R2 RV3 RU3 HB3 z4
      go_wp2_with fail
      refine (cost_any _ _ _ a b l _ S1.out S2.out RV4.out (by omega) (by omega) (by omega)).mono ?_
      rw [HCA.out]
      rintro e w5 ⟨rfl, b5⟩
      have R1 := Lib.hid (S1.out.below b5)
      have R2 := Lib.hid (S2.out.below b5)
      have HB5 := Lib.hid (st HB4.out b5 z5)
      have z6 := HB5.out.size
      obtain ⟨d, hd⟩ : ∃ d, lev a b = d := ⟨_, rfl⟩
      have DA := distance_any _ _ a b _ R1.out R2.out (by omega) (by omega)
      rw [hd] at DA ⊢
      have HDA := Lib.hid DA
      unfold costV
      dsimp only
      clear DA hd b5 HB4 z5 S1 S2
      go_wp2_with fail
      refine HDA.out.mono ?_
      rintro e w6 ⟨rfl, b6⟩
      have HB6 := Lib.hid (st HB5.out b6 z6)
      clear b6
      go_wp2
      go_ret
      exact ⟨rfl, HB6.out⟩
end Go.Proofs.Ytbcpeoomkhcgnaa
