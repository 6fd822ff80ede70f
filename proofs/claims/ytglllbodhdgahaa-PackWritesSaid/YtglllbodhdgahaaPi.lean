/- ReadInt of the specification. -/
import Derived.Test.YtglllbodhdgahaaPh
import Derived.IntWalk
namespace Go.Proofs.Ytglllbodhdgahaa
open Go.RowKit
set_option linter.unusedVariables false

theorem sgn_pos' (V : Nat) : sgn false V = wrap64 (V : Int) := sgn_pos V
theorem sgn_neg' (V : Nat) : sgn true V = wrap64 (-(wrap64 (V : Int))) := by unfold sgn wrap64; rw [IntKind.wrap_i64]; simp only [if_true]; omega
theorem rdI_cut (c : UInt8) (t : List UInt8) (K : Nat) (ng : Bool) (N : Int) (hK : hk c = K) (hng : decide (16 ≤ c.toNat) = ng) (h8 : K ≤ 8) (hl : K ≤ t.length) (hN : sgn ng (valB (t.take K)) = N) :
    rdI (c :: t) = if enc N = (c :: t).take (1 + K) then (N, 1 + K) else (0, 0) := by
  subst hK
  subst hng
  subst hN
  rw [rdI_cons, if_neg (by omega), Nat.add_comm 1, List.take_succ_cons]
def RefRel (u : List UInt8) (v6 v7 : Value) : Prop := ∃ (k : Nat) (q : Int), k ≤ u.length ∧ v7 = .int .i64 q ∧ q = ((k + 1 : Nat) : Int) ∧ v6 = .int .u64 (valB (u.take k) : Nat)
theorem RefRel.step {u : List UInt8} {k V : Nat} {q p : Int} (hk : k < u.length) (h : valB (u.take (k + 1)) = V) (hq : (V : Int) = q) (hp : p = ((k + 1 : Nat) : Int) + 1) : RefRel u (.int .u64 q) (.int .i64 p) :=
  ⟨k + 1, p, by omega, rfl, by omega, by rw [h, hq]⟩

set_option maxRecDepth 1000000 in
set_option maxHeartbeats 1000000 in
theorem refReadInt_any (v : Value) (l : List UInt8) (w : World) (hv : RdB w v l) :
    Calls Try.prog 35 #[v] w (Ret w (.tuple #[.int .i64 (rdI l).1, .int .i64 ((rdI l).2 : Nat)])) := by
  rcases l with _ | ⟨c, t⟩
  · obtain ⟨a, c, rfl⟩ := hv.slice
    clear hv
    go_enter Try.func35, Try.ntmps35
    go_wp2
    go_ret2
    exact ⟨rfl, Below.refl _ _⟩
  · have HV := Lib.hid hv
    obtain ⟨hl, ⟨a, cap, rfl, hc1, hc2, hx0⟩, hnil⟩ := hv
    obtain ⟨b, off, rfl, hbl, hc⟩ := hx0 (by simp)
    clear hnil hx0
    have c0 : w.cell? ⟨b, off, none⟩ = some (.int .u8 (by8 c)) := hc 0 (by simp)
    have HC : Hid (∀ i, i < t.length → w.cell? ⟨b, off + (i + 1), none⟩ = some (.int .u8 (by8 (t.getD i 0)))) := Lib.hid (fun i hi => by
      have := hc (i + 1) (by simp; omega)
      rw [List.getD_cons_succ] at this
      exact this)
    have hlen : (c :: t).length = t.length + 1 := rfl
    obtain ⟨n, hn⟩ : ∃ n, t.length = n := ⟨_, rfl⟩
    rw [hlen, hn] at hl hc1 HV ⊢
    have HN := Lib.hid hn
    have hcx := c.toNat_lt
    clear hc hn hlen
    have h00 : (0 : Int) < (n : Int) + 1 := by omega
    obtain ⟨K, hK⟩ : ∃ K, hk c = K := ⟨_, rfl⟩
    by_cases h16 : 16 ≤ c.toNat
    · have hng : decide (16 ≤ c.toNat) = true := decide_eq_true h16
      have hx : by8 c - 16 = (K : Int) := by unfold by8; unfold hk at hK; rw [if_pos h16] at hK; omega
      have hx16 : 16 ≤ by8 c := by unfold by8; omega
      have hx256 : by8 c < 256 := (by8_lt c).2
      obtain ⟨x, hxx⟩ : ∃ x, by8 c = x := ⟨_, rfl⟩
      rw [hxx] at c0 hx hx16 hx256
      clear hxx
      have HH := Lib.hid (And.intro hK hng)
      by_cases hbig : 8 < K
      · have R := Lib.hid (rdI_big c t (by rw [hK]; exact hbig))
        have q : (8 : Int) < (K : Int) := by omega
        rw [R.out]
        clear hK hng h16 hcx HV HC
        go_enter Try.func35, Try.ntmps35
        go_wp2
        go_ret2
        exact ⟨rfl, Below.refl _ _⟩
      · have q : (K : Int) ≤ 8 := by omega
        by_cases hsh : n < K
        · have R := Lib.hid (rdI_short c t (by rw [HN.out, hK]; exact hsh))
          have q2 : (n : Int) + 1 < 1 + (K : Int) := by omega
          rw [R.out]
          clear hK hng h16 hcx HV HC
          go_enter Try.func35, Try.ntmps35
          go_wp2
          go_ret2
          exact ⟨rfl, Below.refl _ _⟩
        · have q2 : 1 + (K : Int) ≤ (n : Int) + 1 := by omega
          have q3 : (K : Int) ≤ (n : Int) := by omega
          have q5 : 1 + (K : Int) ≤ (cap : Int) := by omega
          have q12 : ¬ cap = 0 := by omega
          obtain ⟨u, hu⟩ : ∃ u, t.take K = u := ⟨_, rfl⟩
          have hul : u.length = K := by rw [← hu, List.length_take, HN.out]; omega
          have HU : Hid ((∀ i, i < u.length → w.cell? ⟨b, off + (i + 1), none⟩ = some (.int .u8 (by8 (u.getD i 0)))) ∧ u.length = K ∧ t.take K = u) := Lib.hid ⟨fun i hi => by
            have h := HC.out i (by rw [HN.out]; omega)
            rw [h, ← hu]
            simp only [List.getD_eq_getElem?_getD, List.getElem?_take]
            rw [if_pos (by omega)], hul, hu⟩
          have HT := Lib.hid (HV.out.take (1 + K) (by rw [List.length_cons, HN.out]; omega))
          clear HC hu hul hK hng h16 hcx
          go_enter Try.func35, Try.ntmps35
          go_wp2
          go_loop [6, 7] (fun v6 v7 => RefRel u v6 v7) (fun _ v7 => u.length + 1 - (intOf v7).toNat)
          case atStart => exact ⟨0, 1, Nat.zero_le _, rfl, rfl, rfl⟩
          case round =>
            obtain ⟨k, p, hkk, rfl, hp, rfl⟩ := hrel
            have hlenu : u.length = K := HU.out.2.1
            by_cases hlt : k < u.length
            · have h1 : w.cell? ⟨b, off + (k + 1), none⟩ = some (.int .u8 (by8 (u.getD k 0))) := HU.out.1 k hlt
              obtain ⟨j, hj⟩ : ∃ j, k + 1 = j := ⟨_, rfl⟩
              rw [hj] at h1 hp
              subst hp
              have q9 : (j : Int) ≤ (K : Int) := by omega
              have q10 : (j : Int) < (n : Int) + 1 := by omega
              have q11 : (0 : Int) ≤ (j : Int) := by omega
              have VS := Lib.hid (valB_take u k hlt)
              have hv := valB_small u k (by omega) hlt
              obtain ⟨V, hV⟩ : ∃ V, valB (u.take k) = V := ⟨_, rfl⟩
              obtain ⟨z, hz⟩ : ∃ z, u.getD k 0 = z := ⟨_, rfl⟩
              rw [hz] at h1 VS
              rw [hV] at VS ⊢
              have hzb := by8_lt z
              obtain ⟨y2, hy2⟩ : ∃ y2, by8 z = y2 := ⟨_, rfl⟩
              have hy3 : y2 = (z.toNat : Int) := hy2.symm
              rw [hy2] at h1 hzb
              obtain ⟨hz1, hz2⟩ := hzb
              have hv2 : V < 72057594037927936 := by rw [← hV]; exact hv
              have HR : Hid (RefRel u (.int .u64 (256 * (V : Int) + y2)) (.int .i64 ((j : Int) + 1))) := Lib.hid (RefRel.step hlt VS.out (by omega) (by omega))
              have HJ := Lib.hid hj
              clear hV hz hy2 hy3 hv hlenu hj
              go_wp2
              go_round
              case rel => exact HR.out
              case measure => have := HJ.out; simp [intOf]; omega
            · obtain rfl : k = u.length := by omega
              have hVb := valB_big u (by omega)
              rw [List.take_length]
              obtain ⟨V, hV⟩ : ∃ V, valB u = V := ⟨_, rfl⟩
              rw [hV] at hVb ⊢
              have HV2 := Lib.hid (show valB (t.take K) = V by rw [HU.out.2.2]; exact hV)
              have q9 : ¬ (p ≤ (K : Int)) := by omega
              obtain ⟨N1, hN1⟩ : ∃ N1, wrap64 (V : Int) = N1 := ⟨_, rfl⟩
              obtain ⟨N, hN⟩ : ∃ N, wrap64 (-N1) = N := ⟨_, rfl⟩
              have hI := sgn_i64 true V
              rw [sgn_neg', hN1, hN] at hI
              have hIa := sgn_i64 false V
              rw [sgn_pos', hN1] at hIa
              obtain ⟨hI3, hI4⟩ := hIa
              have R := Lib.hid (rdI_cut c t K true N HH.out.1 HH.out.2 (by omega) (by rw [HN.out]; omega) (by rw [HV2.out, sgn_neg', hN1, hN]))
              have HI := Lib.hid hI
              obtain ⟨hI1, hI2⟩ := hI
              have HL9 := Lib.hid (enc_len_le N)
              clear hV hlenu hlt hp hkk HU HV2
              by_cases hE : enc N = (c :: t).take (1 + K)
              · have HE := Lib.hid (decide_eq_true hE)
                rw [if_pos hE] at R
                clear hE
                go_wp2
                have B0 : Below w.heap.size w w.drew := (Below.refl _ _).drew
                have e2 : (0 : Int) ≤ 1 + (K : Int) := by omega
                have e3 : (1 + (K : Int)).toNat = 1 + K := by omega
                have e1 : IntKind.i64.wrap (1 + (K : Int)) = 1 + (K : Int) := IntWalk.i64_in _ (by omega)
                go_region_with (first | (go_at_call 14; refine (refInt_any N _ HI.out).mono ?_; rintro e w1 ⟨u1, rfl, o1, hb1⟩; have B1 : Below w.heap.size w w1 := B0.trans (hb1.mono (Nat.le_refl _)); have O1 := Lib.hid (o1.rd (by have := HL9.out; omega)); clear o1 hb1) | (go_at_call 12; refine (same_any _ _ (enc N) _ _ O1.out (HT.out.below B1)).mono ?_; rw [HE.out]; rintro e w2 ⟨rfl, m, rfl⟩; have B2 : Below w.heap.size w (w1.drewN m) := below_drewN B1 m))
                all_goals
                  clear B0 B1 e1 e2 e3
                  go_wp2
                  go_ret2
                  exact ⟨by rw [R.out]; exact ret_two rfl (val_int (by omega)), B2⟩
              · have HE := Lib.hid (decide_eq_false hE)
                rw [if_neg hE] at R
                clear hE
                go_wp2
                have B0 : Below w.heap.size w w.drew := (Below.refl _ _).drew
                have e2 : (0 : Int) ≤ 1 + (K : Int) := by omega
                have e3 : (1 + (K : Int)).toNat = 1 + K := by omega
                have e1 : IntKind.i64.wrap (1 + (K : Int)) = 1 + (K : Int) := IntWalk.i64_in _ (by omega)
                go_region_with (first | (go_at_call 14; refine (refInt_any N _ HI.out).mono ?_; rintro e w1 ⟨u1, rfl, o1, hb1⟩; have B1 : Below w.heap.size w w1 := B0.trans (hb1.mono (Nat.le_refl _)); have O1 := Lib.hid (o1.rd (by have := HL9.out; omega)); clear o1 hb1) | (go_at_call 12; refine (same_any _ _ (enc N) _ _ O1.out (HT.out.below B1)).mono ?_; rw [HE.out]; rintro e w2 ⟨rfl, m, rfl⟩; have B2 : Below w.heap.size w (w1.drewN m) := below_drewN B1 m))
                all_goals
                  clear B0 B1 e1 e2 e3
                  go_wp2
                  go_ret2
                  exact ⟨by rw [R.out]; rfl, B2⟩
    · have hng : decide (16 ≤ c.toNat) = false := decide_eq_false h16
      have hx : by8 c = (K : Int) := by unfold by8; unfold hk at hK; rw [if_neg h16] at hK; omega
      have hx16 : ¬ 16 ≤ (K : Int) := by rw [← hx]; unfold by8; omega
      rw [hx] at c0
      clear hx
      have HH := Lib.hid (And.intro hK hng)
      by_cases hbig : 8 < K
      · have R := Lib.hid (rdI_big c t (by rw [hK]; exact hbig))
        have q : (8 : Int) < (K : Int) := by omega
        rw [R.out]
        clear hK hng h16 hcx HV HC
        go_enter Try.func35, Try.ntmps35
        go_wp2
        go_ret2
        exact ⟨rfl, Below.refl _ _⟩
      · have q : (K : Int) ≤ 8 := by omega
        by_cases hsh : n < K
        · have R := Lib.hid (rdI_short c t (by rw [HN.out, hK]; exact hsh))
          have q2 : (n : Int) + 1 < 1 + (K : Int) := by omega
          rw [R.out]
          clear hK hng h16 hcx HV HC
          go_enter Try.func35, Try.ntmps35
          go_wp2
          go_ret2
          exact ⟨rfl, Below.refl _ _⟩
        · have q2 : 1 + (K : Int) ≤ (n : Int) + 1 := by omega
          have q3 : (K : Int) ≤ (n : Int) := by omega
          have q5 : 1 + (K : Int) ≤ (cap : Int) := by omega
          have q12 : ¬ cap = 0 := by omega
          obtain ⟨u, hu⟩ : ∃ u, t.take K = u := ⟨_, rfl⟩
          have hul : u.length = K := by rw [← hu, List.length_take, HN.out]; omega
          have HU : Hid ((∀ i, i < u.length → w.cell? ⟨b, off + (i + 1), none⟩ = some (.int .u8 (by8 (u.getD i 0)))) ∧ u.length = K ∧ t.take K = u) := Lib.hid ⟨fun i hi => by
            have h := HC.out i (by rw [HN.out]; omega)
            rw [h, ← hu]
            simp only [List.getD_eq_getElem?_getD, List.getElem?_take]
            rw [if_pos (by omega)], hul, hu⟩
          have HT := Lib.hid (HV.out.take (1 + K) (by rw [List.length_cons, HN.out]; omega))
          clear HC hu hul hK hng h16 hcx
          go_enter Try.func35, Try.ntmps35
          go_wp2
          go_loop [6, 7] (fun v6 v7 => RefRel u v6 v7) (fun _ v7 => u.length + 1 - (intOf v7).toNat)
          case atStart => exact ⟨0, 1, Nat.zero_le _, rfl, rfl, rfl⟩
          case round =>
            obtain ⟨k, p, hkk, rfl, hp, rfl⟩ := hrel
            have hlenu : u.length = K := HU.out.2.1
            by_cases hlt : k < u.length
            · have h1 : w.cell? ⟨b, off + (k + 1), none⟩ = some (.int .u8 (by8 (u.getD k 0))) := HU.out.1 k hlt
              obtain ⟨j, hj⟩ : ∃ j, k + 1 = j := ⟨_, rfl⟩
              rw [hj] at h1 hp
              subst hp
              have q9 : (j : Int) ≤ (K : Int) := by omega
              have q10 : (j : Int) < (n : Int) + 1 := by omega
              have q11 : (0 : Int) ≤ (j : Int) := by omega
              have VS := Lib.hid (valB_take u k hlt)
              have hv := valB_small u k (by omega) hlt
              obtain ⟨V, hV⟩ : ∃ V, valB (u.take k) = V := ⟨_, rfl⟩
              obtain ⟨z, hz⟩ : ∃ z, u.getD k 0 = z := ⟨_, rfl⟩
              rw [hz] at h1 VS
              rw [hV] at VS ⊢
              have hzb := by8_lt z
              obtain ⟨y2, hy2⟩ : ∃ y2, by8 z = y2 := ⟨_, rfl⟩
              have hy3 : y2 = (z.toNat : Int) := hy2.symm
              rw [hy2] at h1 hzb
              obtain ⟨hz1, hz2⟩ := hzb
              have hv2 : V < 72057594037927936 := by rw [← hV]; exact hv
              have HR : Hid (RefRel u (.int .u64 (256 * (V : Int) + y2)) (.int .i64 ((j : Int) + 1))) := Lib.hid (RefRel.step hlt VS.out (by omega) (by omega))
              have HJ := Lib.hid hj
              clear hV hz hy2 hy3 hv hlenu hj
              go_wp2
              go_round
              case rel => exact HR.out
              case measure => have := HJ.out; simp [intOf]; omega
            · obtain rfl : k = u.length := by omega
              have hVb := valB_big u (by omega)
              rw [List.take_length]
              obtain ⟨V, hV⟩ : ∃ V, valB u = V := ⟨_, rfl⟩
              rw [hV] at hVb ⊢
              have HV2 := Lib.hid (show valB (t.take K) = V by rw [HU.out.2.2]; exact hV)
              have q9 : ¬ (p ≤ (K : Int)) := by omega
              obtain ⟨N, hN⟩ : ∃ N, wrap64 (V : Int) = N := ⟨_, rfl⟩
              have hI := sgn_i64 false V
              rw [sgn_pos', hN] at hI
              have R := Lib.hid (rdI_cut c t K false N HH.out.1 HH.out.2 (by omega) (by rw [HN.out]; omega) (by rw [HV2.out, sgn_pos', hN]))
              have HI := Lib.hid hI
              obtain ⟨hI1, hI2⟩ := hI
              have HL9 := Lib.hid (enc_len_le N)
              clear hV hlenu hlt hp hkk HU HV2
              by_cases hE : enc N = (c :: t).take (1 + K)
              · have HE := Lib.hid (decide_eq_true hE)
                rw [if_pos hE] at R
                clear hE
                go_wp2
                have B0 : Below w.heap.size w w.drew := (Below.refl _ _).drew
                have e2 : (0 : Int) ≤ 1 + (K : Int) := by omega
                have e3 : (1 + (K : Int)).toNat = 1 + K := by omega
                have e1 : IntKind.i64.wrap (1 + (K : Int)) = 1 + (K : Int) := IntWalk.i64_in _ (by omega)
                go_region_with (first | (go_at_call 14; refine (refInt_any N _ HI.out).mono ?_; rintro e w1 ⟨u1, rfl, o1, hb1⟩; have B1 : Below w.heap.size w w1 := B0.trans (hb1.mono (Nat.le_refl _)); have O1 := Lib.hid (o1.rd (by have := HL9.out; omega)); clear o1 hb1) | (go_at_call 12; refine (same_any _ _ (enc N) _ _ O1.out (HT.out.below B1)).mono ?_; rw [HE.out]; rintro e w2 ⟨rfl, m, rfl⟩; have B2 : Below w.heap.size w (w1.drewN m) := below_drewN B1 m))
                all_goals
                  clear B0 B1 e1 e2 e3
                  go_wp2
                  go_ret2
                  exact ⟨by rw [R.out]; exact ret_two rfl (val_int (by omega)), B2⟩
              · have HE := Lib.hid (decide_eq_false hE)
                rw [if_neg hE] at R
                clear hE
                go_wp2
                have B0 : Below w.heap.size w w.drew := (Below.refl _ _).drew
                have e2 : (0 : Int) ≤ 1 + (K : Int) := by omega
                have e3 : (1 + (K : Int)).toNat = 1 + K := by omega
                have e1 : IntKind.i64.wrap (1 + (K : Int)) = 1 + (K : Int) := IntWalk.i64_in _ (by omega)
                go_region_with (first | (go_at_call 14; refine (refInt_any N _ HI.out).mono ?_; rintro e w1 ⟨u1, rfl, o1, hb1⟩; have B1 : Below w.heap.size w w1 := B0.trans (hb1.mono (Nat.le_refl _)); have O1 := Lib.hid (o1.rd (by have := HL9.out; omega)); clear o1 hb1) | (go_at_call 12; refine (same_any _ _ (enc N) _ _ O1.out (HT.out.below B1)).mono ?_; rw [HE.out]; rintro e w2 ⟨rfl, m, rfl⟩; have B2 : Below w.heap.size w (w1.drewN m) := below_drewN B1 m))
                all_goals
                  clear B0 B1 e1 e2 e3
                  go_wp2
                  go_ret2
                  exact ⟨by rw [R.out]; rfl, B2⟩
end Go.Proofs.Ytglllbodhdgahaa
