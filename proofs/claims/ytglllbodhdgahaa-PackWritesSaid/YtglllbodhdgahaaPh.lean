/- decodeInt; ReadInt. -/
import Derived.Test.YtglllbodhdgahaaPg
import Derived.WalkMore
namespace Go.Proofs.Ytglllbodhdgahaa
open Go.RowKit
set_option linter.unusedVariables false

/-! ### The head byte -/
theorem andNot16 : ∀ i : Fin 256, bits .andNot .u8 ((i.val : Nat) : Int) 16 = (((if 16 ≤ i.val % 32 then i.val - 16 else i.val) : Nat) : Int) := by decide +kernel
theorem and16 : ∀ i : Fin 256, (bits .and .u8 ((i.val : Nat) : Int) 16 != 0) = decide (16 ≤ i.val % 32) := by decide +kernel
theorem head_of (c : UInt8) : ∃ (K : Nat) (ng : Bool), bits .andNot .u8 (by8 c) 16 = (K : Int) ∧ (bits .and .u8 (by8 c) 16 != 0) = ng ∧ K ≤ 255 ∧ (8 < K ↔ 8 < hk c) ∧ (K ≤ 8 → K = hk c ∧ ng = decide (16 ≤ c.toNat)) := by
  have hc := c.toNat_lt
  refine ⟨_, _, andNot16 ⟨c.toNat, hc⟩, and16 ⟨c.toNat, hc⟩, ?_, ?_, ?_⟩
  · dsimp only; split <;> omega
  · unfold hk; dsimp only; by_cases h16 : 16 ≤ c.toNat % 32 <;> by_cases h17 : 16 ≤ c.toNat <;> simp only [h16, h17, if_true, if_false] <;> omega
  · intro h
    dsimp only at h ⊢
    refine ⟨?_, ?_⟩
    · unfold hk; by_cases h16 : 16 ≤ c.toNat % 32 <;> by_cases h17 : 16 ≤ c.toNat <;> simp only [h16, h17, if_true, if_false] at h ⊢ <;> omega
    · rw [decide_eq_decide]; split at h <;> omega
/-- What the program finds, in its own words. -/
theorem rdI_big (c : UInt8) (t : List UInt8) (h : 8 < hk c) : rdI (c :: t) = (0, 0) := by rw [rdI_cons, if_pos (.inl h)]
theorem rdI_short (c : UInt8) (t : List UInt8) (h : t.length < hk c) : rdI (c :: t) = (0, 0) := by rw [rdI_cons, if_pos (.inr h)]
theorem rdI_lead (c d : UInt8) (t : List UInt8) (h8 : hk c ≤ 8) (hl : hk c ≤ (d :: t).length) (h0 : 0 < hk c) (hd : d = 0) : rdI (c :: d :: t) = (0, 0) := by
  rw [rdI_cons, if_neg (by omega), if_neg]
  rw [enc_test c _ h8 (by rw [List.length_take]; omega)]
  rintro ⟨h1, _⟩
  rcases h1 with h1 | h1
  · omega
  · obtain ⟨j, hj⟩ : ∃ j, hk c = j + 1 := ⟨hk c - 1, by omega⟩
    rw [hj, List.take_succ_cons] at h1
    exact h1 (by simpa using hd)
theorem rdI_sign (c : UInt8) (t : List UInt8) (h8 : hk c ≤ 8) (hl : hk c ≤ t.length) (h : ¬ (sgn (decide (16 ≤ c.toNat)) (valB (t.take (hk c))) < 0 ↔ 16 ≤ c.toNat)) : rdI (c :: t) = (0, 0) := by
  rw [rdI_cons, if_neg (by omega), if_neg]
  rw [enc_test c _ h8 (by rw [List.length_take]; omega)]
  exact fun h1 => h h1.2
theorem rdI_good (c : UInt8) (t : List UInt8) (h8 : hk c ≤ 8) (hl : hk c ≤ t.length) (hd : hk c = 0 ∨ t.headD 0 ≠ 0) (h : sgn (decide (16 ≤ c.toNat)) (valB (t.take (hk c))) < 0 ↔ 16 ≤ c.toNat) : rdI (c :: t) = (sgn (decide (16 ≤ c.toNat)) (valB (t.take (hk c))), 1 + hk c) := by
  rw [rdI_cons, if_neg (by omega), if_pos]
  rw [enc_test c _ h8 (by rw [List.length_take]; omega)]
  refine ⟨?_, h⟩
  rcases hd with hd | hd
  · exact .inl hd
  · rcases Nat.eq_zero_or_pos (hk c) with h0 | h0
    · exact .inl h0
    · right
      cases t with
      | nil => exact absurd rfl hd
      | cons d t =>
        obtain ⟨j, hj⟩ : ∃ j, hk c = j + 1 := ⟨hk c - 1, by omega⟩
        rw [hj, List.take_succ_cons]
        exact hd
/-- A number shifted by a byte, with one more byte. -/
theorem or_byte (v : Nat) (y : UInt8) (hv : v < 72057594037927936) : bits .or .u64 (IntKind.u64.wrap ((v : Int) * 256)) (by8 y) = ((v * 256 + y.toNat : Nat) : Int) := by
  have hy := y.toNat_lt
  show IntKind.u64.wrap ((BitVec.ofInt 64 _ ||| BitVec.ofInt 64 _).toNat : Int) = _
  have e1 : BitVec.ofInt 64 (IntKind.u64.wrap ((v : Int) * 256)) = BitVec.ofNat 64 v <<< 8 := by
    apply BitVec.eq_of_toNat_eq
    rw [BitVec.toNat_ofInt, BitVec.toNat_shiftLeft, BitVec.toNat_ofNat, IntKind.wrap_u64, Nat.shiftLeft_eq]
    omega
  have e2 : BitVec.ofInt 64 (by8 y) = BitVec.ofNat 64 y.toNat := by
    apply BitVec.eq_of_toNat_eq
    rw [BitVec.toNat_ofInt, BitVec.toNat_ofNat]
    unfold by8
    omega
  rw [e1, e2, BitVec.toNat_or, BitVec.toNat_shiftLeft, BitVec.toNat_ofNat, BitVec.toNat_ofNat, IntKind.wrap_u64]
  rw [Nat.mod_eq_of_lt (show v < 2 ^ 64 by omega), Nat.mod_eq_of_lt (show y.toNat < 2 ^ 64 by omega), Nat.shiftLeft_eq, Nat.mod_eq_of_lt (show v * 2 ^ 8 < 2 ^ 64 by omega)]
  rw [Nat.mul_comm v (2 ^ 8), ← Nat.two_pow_add_eq_or_of_lt (i := 8) (by omega) v]
  omega
theorem or_byte' (v : Nat) (y : UInt8) (hv : v < 72057594037927936) : bits .or .u64 ((v : Int) * 256) (by8 y) = ((v * 256 + y.toNat : Nat) : Int) := by
  have h := or_byte v y hv
  rwa [show IntKind.u64.wrap ((v : Int) * 256) = (v : Int) * 256 from by rw [IntKind.wrap_u64]; omega] at h
def DecRel (u : List UInt8) (v6 v45 : Value) : Prop := ∃ k : Nat, k ≤ u.length ∧ v45 = .int .i64 k ∧ v6 = .int .u64 (valB (u.take k) : Nat)
theorem DecRel.step {u : List UInt8} {k V : Nat} {q : Int} (hk : k < u.length) (h : valB (u.take (k + 1)) = V) (hq : (V : Int) = q) : DecRel u (.int .u64 q) (.int .i64 ((k : Int) + 1)) :=
  ⟨k + 1, by omega, by go_num, by rw [h, hq]⟩
theorem sgn_pos (V : Nat) : sgn false V = wrap64 (V : Int) := by unfold sgn wrap64; rw [IntKind.wrap_i64]; rfl
theorem sgn_neg (V : Nat) : sgn true V = wrap64 (IntKind.u64.wrap (-(V : Int))) := by unfold sgn wrap64; rw [IntKind.wrap_i64, IntKind.wrap_u64]; simp only [if_true]; omega
theorem valB_big (u : List UInt8) (h : u.length ≤ 8) : valB u < 18446744073709551616 := by
  have h1 := valB_lt u
  have h3 : 256 ^ u.length ≤ 256 ^ 8 := Nat.pow_le_pow_right (by decide) h
  have h4 := p8
  omega
theorem valB_take (u : List UInt8) (k : Nat) (hk : k < u.length) : valB (u.take (k + 1)) = valB (u.take k) * 256 + (u.getD k 0).toNat := by
  rw [take_snocB u k hk, valB_snoc, List.getD_eq_getElem?_getD]
theorem valB_small (u : List UInt8) (k : Nat) (h : u.length ≤ 8) (hk : k < u.length) : valB (u.take k) < 72057594037927936 := by
  have h1 := valB_lt (u.take k)
  have h2 : (u.take k).length ≤ 7 := by rw [List.length_take]; omega
  have h3 : 256 ^ (u.take k).length ≤ 256 ^ 7 := Nat.pow_le_pow_right (by decide) h2
  have h4 : (256 : Nat) ^ 7 = 72057594037927936 := by decide
  omega

set_option maxRecDepth 1000000 in
set_option maxHeartbeats 400000 in
theorem decodeInt_any (v : Value) (l : List UInt8) (w : World) (hv : RdB w v l) :
    Calls Try.prog 38 #[v] w (Drn w (.tuple #[.int .i64 (rdI l).1, .int .i64 ((rdI l).2 : Nat)])) := by
  rcases l with _ | ⟨c, t⟩
  · obtain ⟨a, c, rfl⟩ := hv.slice
    clear hv
    go_enter Try.func38, Try.ntmps38
    go_wp2
    go_ret2
    exact ⟨rfl, 0, rfl⟩
  · obtain ⟨hl, ⟨a, cap, rfl, hc1, hc2, hx0⟩, hnil⟩ := hv
    obtain ⟨b, off, rfl, hbl, hc⟩ := hx0 (by simp)
    clear hnil hx0
    have c0 : w.cell? ⟨b, off, none⟩ = some (.int .u8 (by8 c)) := hc 0 (by simp)
    have HC : Hid (∀ i, i < t.length → w.cell? ⟨b, off + 1 + i, none⟩ = some (.int .u8 (by8 (t.getD i 0)))) := Lib.hid (fun i hi => by
      have := hc (i + 1) (by simp; omega)
      rw [List.getD_cons_succ] at this
      rw [show off + 1 + i = off + (i + 1) from by omega]
      exact this)
    obtain ⟨K, ng, hK, hng, hK255, hK8, hKs⟩ := head_of c
    obtain ⟨x, hx⟩ : ∃ x, by8 c = x := ⟨_, rfl⟩
    rw [hx] at c0 hK hng
    have hlen : (c :: t).length = t.length + 1 := rfl
    obtain ⟨n, hn⟩ : ∃ n, t.length = n := ⟨_, rfl⟩
    rw [hlen, hn] at hl hc1 ⊢
    have HN := Lib.hid hn
    have b0 := by8_lt c
    rw [hx] at b0
    obtain ⟨b0, b1⟩ := b0
    clear hc hx hn hlen
    have h00 : (0 : Int) < (n : Int) + 1 := by omega
    by_cases hbig : 8 < K
    · have R := Lib.hid (rdI_big c t (hK8.1 hbig))
      clear hKs hK8
      rw [R.out]
      have q : (8 : Int) < (K : Int) := by omega
      go_enter Try.func38, Try.ntmps38
      go_wp2
      go_quiet (fail)
      go_wp2
      go_ret2
      exact ⟨rfl, _, rfl⟩
    · obtain ⟨hKh, hngh⟩ := hKs (by omega)
      clear hKs hK8
      have q : (K : Int) ≤ 8 := by omega
      by_cases hsh : n < K
      · have R := Lib.hid (rdI_short c t (by rw [HN.out, ← hKh]; exact hsh))
        rw [R.out]
        have HH := Lib.hid (And.intro hKh hngh)
        clear hKh hngh
        have q2 : (n : Int) + 1 ≤ (K : Int) := by omega
        go_enter Try.func38, Try.ntmps38
        go_wp2
        go_quiet (fail)
        go_wp2
        go_ret2
        exact ⟨rfl, _, rfl⟩
      · have HH := Lib.hid (And.intro hKh hngh)
        clear hKh hngh
        have q2 : (K : Int) < (n : Int) + 1 := by omega
        have q3 : (K : Int) ≤ (n : Int) := by omega
        rcases Nat.eq_zero_or_pos K with hK0 | hK0
        · subst hK0
          by_cases hcap : cap = 1
          · cases ng
            · have R : Hid (rdI (c :: t) = (0, 1)) := Lib.hid (by
                obtain ⟨h1, h2⟩ := HH.out
                have h3 := decide_eq_false_iff_not.1 h2.symm
                have hs : sgn (decide (16 ≤ c.toNat)) (valB (t.take (hk c))) = 0 := by rw [← h1, ← h2]; rfl
                rw [rdI_good c t (by omega) (by omega) (.inl h1.symm) (by rw [hs]; exact ⟨fun h => by omega, fun h => absurd h h3⟩), hs, ← h1])
              rw [R.out]
              clear HC
              subst hcap
              go_enter Try.func38, Try.ntmps38
              go_wp2
              go_quiet (fail)
              go_wp2
              refine wp_loop_rounds 1 ?_
              rw [rounds_succ]
              go_wp2
              go_ret2
              exact ⟨rfl, _, rfl⟩
            · have R : Hid (rdI (c :: t) = (0, 0)) := Lib.hid (by
                obtain ⟨h1, h2⟩ := HH.out
                have h3 := of_decide_eq_true h2.symm
                have hs : sgn (decide (16 ≤ c.toNat)) (valB (t.take (hk c))) = 0 := by rw [← h1, ← h2]; rfl
                rw [rdI_sign c t (by omega) (by omega) (by rw [hs]; exact fun h => absurd (h.2 h3) (by omega))])
              rw [R.out]
              clear HC
              subst hcap
              go_enter Try.func38, Try.ntmps38
              go_wp2
              go_quiet (fail)
              go_wp2
              refine wp_loop_rounds 1 ?_
              rw [rounds_succ]
              go_wp2
              go_ret2
              exact ⟨rfl, _, rfl⟩
          · cases ng
            · have R : Hid (rdI (c :: t) = (0, 1)) := Lib.hid (by
                obtain ⟨h1, h2⟩ := HH.out
                have h3 := decide_eq_false_iff_not.1 h2.symm
                have hs : sgn (decide (16 ≤ c.toNat)) (valB (t.take (hk c))) = 0 := by rw [← h1, ← h2]; rfl
                rw [rdI_good c t (by omega) (by omega) (.inl h1.symm) (by rw [hs]; exact ⟨fun h => by omega, fun h => absurd h h3⟩), hs, ← h1])
              rw [R.out]
              clear HC
              go_enter Try.func38, Try.ntmps38
              go_wp2
              go_quiet (fail)
              go_wp2
              refine wp_loop_rounds 1 ?_
              rw [rounds_succ]
              go_wp2
              go_ret2
              exact ⟨rfl, _, rfl⟩
            · have R : Hid (rdI (c :: t) = (0, 0)) := Lib.hid (by
                obtain ⟨h1, h2⟩ := HH.out
                have h3 := of_decide_eq_true h2.symm
                have hs : sgn (decide (16 ≤ c.toNat)) (valB (t.take (hk c))) = 0 := by rw [← h1, ← h2]; rfl
                rw [rdI_sign c t (by omega) (by omega) (by rw [hs]; exact fun h => absurd (h.2 h3) (by omega))])
              rw [R.out]
              clear HC
              go_enter Try.func38, Try.ntmps38
              go_wp2
              go_quiet (fail)
              go_wp2
              refine wp_loop_rounds 1 ?_
              rw [rounds_succ]
              go_wp2
              go_ret2
              exact ⟨rfl, _, rfl⟩
        · have q4 : (0 : Int) < (K : Int) := by omega
          obtain ⟨d, t', rfl⟩ : ∃ d t', t = d :: t' := by
            cases t with
            | nil => have h := HN.out; simp at h; omega
            | cons d t' => exact ⟨d, t', rfl⟩
          have d0 : w.cell? ⟨b, off + 1, none⟩ = some (.int .u8 (by8 d)) := HC.out 0 (by simp)
          have q6 : (1 : Int) < (n : Int) + 1 := by omega
          by_cases hd : d = 0
          · have R := Lib.hid (rdI_lead c d t' (by rw [← HH.out.1]; omega) (by rw [HN.out, ← HH.out.1]; omega) (by rw [← HH.out.1]; omega) hd)
            subst hd
            rw [show by8 0 = 0 from rfl] at d0
            rw [R.out]
            clear HC
            go_enter Try.func38, Try.ntmps38
            go_wp2
            go_quiet (fail)
            go_wp2
            go_ret2
            exact ⟨rfl, _, rfl⟩
          · obtain ⟨y, hy⟩ : ∃ y, by8 d = y := ⟨_, rfl⟩
            rw [hy] at d0
            have q7 : (y == 0) = false := by
              rw [beq_eq_false_iff_ne]; intro e; exact hd (by8_inj (by rw [hy, e]; rfl))
            have HD := Lib.hid hd
            have q8 : ¬ cap = 1 := by omega
            obtain ⟨u, hu⟩ : ∃ u, (d :: t').take K = u := ⟨_, rfl⟩
            have hul : u.length = K := by rw [← hu, List.length_take, HN.out]; omega
            have HU : Hid ((∀ i, i < u.length → w.cell? ⟨b, off + 1 + i, none⟩ = some (.int .u8 (by8 (u.getD i 0)))) ∧ u.length = K ∧ (d :: t').take K = u) := Lib.hid ⟨fun i hi => by
              have h := HC.out i (by rw [HN.out]; omega)
              rw [h, ← hu]
              simp only [List.getD_eq_getElem?_getD, List.getElem?_take]
              rw [if_pos (by omega)], hul, hu⟩
            clear HC hy hu hul hd
            go_enter Try.func38, Try.ntmps38
            go_wp2
            go_quiet (fail)
            go_wp2
            go_loop [6, 45] (fun v6 v45 => DecRel u v6 v45) (fun _ v45 => u.length - (intOf v45).toNat)
            case atStart => exact ⟨0, Nat.zero_le _, rfl, rfl⟩
            case round =>
              obtain ⟨k, hkk, rfl, rfl⟩ := hrel
              have hlenu : u.length = K := HU.out.2.1
              by_cases hlt : k < u.length
              · have h1 : w.cell? ⟨b, off + 1 + k, none⟩ = some (.int .u8 (by8 (u.getD k 0))) := HU.out.1 k hlt
                have q9 : (k : Int) < (K : Int) := by omega
                have VS := Lib.hid (valB_take u k hlt)
                have hv := valB_small u k (by omega) hlt
                obtain ⟨V, hV⟩ : ∃ V, valB (u.take k) = V := ⟨_, rfl⟩
                obtain ⟨z, hz⟩ : ∃ z, u.getD k 0 = z := ⟨_, rfl⟩
                have ho := or_byte' V z (by rw [← hV]; exact hv)
                rw [hz] at h1 VS
                rw [hV] at VS ⊢
                have hzb := by8_lt z
                obtain ⟨y2, hy2⟩ : ∃ y2, by8 z = y2 := ⟨_, rfl⟩
                rw [hy2] at ho h1 hzb
                obtain ⟨hz1, hz2⟩ := hzb
                have hv2 : V < 72057594037927936 := by rw [← hV]; exact hv
                have HR := Lib.hid (DecRel.step hlt VS.out ho.symm)
                clear hV hz hy2 hv hlenu ho
                go_wp2
                go_round
                case rel => exact HR.out
                case measure => simp [intOf]; omega
              · obtain rfl : k = u.length := by omega
                have hVb := valB_big u (by omega)
                rw [List.take_length]
                obtain ⟨V, hV⟩ : ∃ V, valB u = V := ⟨_, rfl⟩
                rw [hV] at hVb ⊢
                have HV := Lib.hid (show valB ((d :: t').take (hk c)) = V by rw [← HH.out.1, HU.out.2.2]; exact hV)
                have hd' := HD.out
                cases ng
                · obtain ⟨N, hN⟩ : ∃ N, wrap64 (V : Int) = N := ⟨_, rfl⟩
                  have HS : Hid (sgn (decide (16 ≤ c.toNat)) (valB ((d :: t').take (hk c))) = N) := Lib.hid (by rw [HV.out, ← HH.out.2, sgn_pos, hN])
                  have hI := sgn_i64 false V
                  rw [sgn_pos, hN] at hI
                  obtain ⟨hI1, hI2⟩ := hI
                  have h16 := Lib.hid (decide_eq_false_iff_not.1 HH.out.2.symm)
                  by_cases h0 : N < 0
                  · have R := Lib.hid (rdI_sign c (d :: t') (by rw [← HH.out.1]; omega) (by rw [HN.out, ← HH.out.1]; omega) (by rw [HS.out]; exact fun h => h16.out (h.1 h0)))
                    have q9 : ¬ ((u.length : Int) < (K : Int)) := by omega
                    clear hV hlenu hlt hd'
                    go_wp2
                    go_ret2
                    exact ⟨by rw [R.out]; rfl, _, rfl⟩
                  · have R := Lib.hid (rdI_good c (d :: t') (by rw [← HH.out.1]; omega) (by rw [HN.out, ← HH.out.1]; omega) (.inr hd') (by rw [HS.out]; exact ⟨fun h => absurd h h0, fun h => absurd h h16.out⟩))
                    have q9 : ¬ ((u.length : Int) < (K : Int)) := by omega
                    clear hV hlenu hlt hd'
                    go_wp2
                    go_ret2
                    exact ⟨by rw [R.out, HS.out, ← HH.out.1]; exact ret_two rfl (val_int (by omega)), _, rfl⟩
                · obtain ⟨N1, hN1⟩ : ∃ N1, IntKind.u64.wrap (-(V : Int)) = N1 := ⟨_, rfl⟩
                  obtain ⟨N, hN⟩ : ∃ N, wrap64 N1 = N := ⟨_, rfl⟩
                  have HS : Hid (sgn (decide (16 ≤ c.toNat)) (valB ((d :: t').take (hk c))) = N) := Lib.hid (by rw [HV.out, ← HH.out.2, sgn_neg, hN1, hN])
                  have hI := sgn_i64 true V
                  rw [sgn_neg, hN1, hN] at hI
                  obtain ⟨hI1, hI2⟩ := hI
                  have h16 := Lib.hid (of_decide_eq_true HH.out.2.symm)
                  by_cases h0 : N < 0
                  · have R := Lib.hid (rdI_good c (d :: t') (by rw [← HH.out.1]; omega) (by rw [HN.out, ← HH.out.1]; omega) (.inr hd') (by rw [HS.out]; exact ⟨fun h => h16.out, fun h => h0⟩))
                    have q9 : ¬ ((u.length : Int) < (K : Int)) := by omega
                    clear hV hlenu hlt hd'
                    go_wp2
                    go_ret2
                    exact ⟨by rw [R.out, HS.out, ← HH.out.1]; exact ret_two rfl (val_int (by omega)), _, rfl⟩
                  · have R := Lib.hid (rdI_sign c (d :: t') (by rw [← HH.out.1]; omega) (by rw [HN.out, ← HH.out.1]; omega) (by rw [HS.out]; exact fun h => h0 (h.2 h16.out)))
                    have q9 : ¬ ((u.length : Int) < (K : Int)) := by omega
                    clear hV hlenu hlt hd'
                    go_wp2
                    go_ret2
                    exact ⟨by rw [R.out]; rfl, _, rfl⟩
end Go.Proofs.Ytglllbodhdgahaa
