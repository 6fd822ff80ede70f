/- ReadStrings of the specification. -/
import Derived.Test.YtglllbodhdgahaaPj
namespace Go.Proofs.Ytglllbodhdgahaa
open Go.RowKit
set_option linter.unusedVariables false

/-- Strings read, and how many bytes they are. -/
def RdPost (w : World) (p : List (List UInt8) × Nat) (e : Ending) (w' : World) : Prop := ∃ v, e = .returned (.tuple #[v, .int .i64 (p.2 : Nat)]) ∧ RdT w' v p.1 ∧ Below w.heap.size w w'
theorem rdL_bad {b : List UInt8} {n most : Int} {j : Nat} (h : rdI b = (n, j)) (hc : j = 0 ∨ n < 0 ∨ most < n) : rdL b most = ([], 0) := by
  unfold rdL
  rw [h, if_pos hc]
theorem rdL_go {b : List UInt8} {most : Int} {N j : Nat} (h : rdI b = ((N : Int), j)) (h0 : 0 < j) (hc : (N : Int) ≤ most) : rdL b most = (rdA N b j []).getD ([], 0) := by
  unfold rdL
  rw [h, if_neg (by show ¬ (j = 0 ∨ (N : Int) < 0 ∨ most < (N : Int)); omega)]
  rfl
structure RsRel (w : World) (l : List UInt8) (N : Nat) (R : Option (List (List UInt8) × Nat)) (v7 v8 v9 : Value) (wr : World) (i rel : Nat) (pre : List (List UInt8)) : Prop where
  at_ : v7 = .int .i64 rel
  i_ : v9 = .int .i64 i
  len : pre.length = i
  iN : i ≤ N
  le : rel ≤ l.length
  ile : i ≤ rel
  own : OwnT wr w.heap.size 9 v8 pre
  rd : rdA (N - i) l rel pre = R
  bel : Below w.heap.size w wr
theorem RsRel.step {w wr w2 : World} {l : List UInt8} {N : Nat} {R : Option (List (List UInt8) × Nat)} {v7 v8 v9 v' : Value} {i rel k : Nat} {pre : List (List UInt8)} {s : List UInt8} (h : RsRel w l N R v7 v8 v9 wr i rel pre) (hi : i < N)
    (hs : rdS (l.drop rel) = (s, k)) (hk : k ≠ 0) (ho : OwnT w2 w.heap.size 9 v' (pre ++ [s])) (hB : Below w.heap.size w w2) (p q : Int) (hp : p = ((rel + k : Nat) : Int)) (hq : q = ((i + 1 : Nat) : Int)) :
    RsRel w l N R (.int .i64 p) v' (.int .i64 q) w2 (i + 1) (rel + k) (pre ++ [s]) := by
  have h1 := rdS_le (l.drop rel)
  rw [hs, List.length_drop] at h1
  have h2 := h.rd
  rw [rdA_step (by omega) (by rw [hs]; exact hk), hs] at h2
  have := h.len
  have := h.ile
  have := h.le
  replace h1 : k ≤ l.length - rel := h1
  exact ⟨by rw [hp], by rw [hq], by simp; omega, by omega, by omega, by omega, ho, by rw [show N - (i + 1) = N - i - 1 from by omega]; exact h2, hB⟩
theorem cut_eqs {w : World} {a : Option Addr} {n c : Nat} (k : Nat) (hk : k ≤ n) :
    ∃ v, cutV a k n c = v ∧ (∀ wx, (Instr.sliceAt 22 (.slice a n c) (some (.int .i64 (k : Int))) none none).run Try.prog wx = .ok v wx) ∧ (∀ wx, (Instr.slice 22 (.slice a n c) (some (.int .i64 (k : Int))) none none).run Try.prog wx = .ok v wx) := by
  obtain ⟨i0, hi, hz0, hz1, hz2⟩ := info_parts Try.infoB
  exact ⟨_, rfl, fun wx => (cut_run Try.underlying22 hi hz1 a n c k hk wx).2, fun wx => (cut_run Try.underlying22 hi hz1 a n c k hk wx).1⟩

set_option maxRecDepth 1000000 in
set_option maxHeartbeats 1000000 in
theorem refReadStrings_any (v : Value) (l : List UInt8) (most : Int) (w : World) (hv : RdB w v l) (hl : l.length ≤ 1000000) :
    Calls Try.prog 43 #[v, .int .i64 most] w (RdPost w (rdL l most)) := by
  obtain ⟨⟨n, j⟩, hj⟩ : ∃ p, rdI l = p := ⟨_, rfl⟩
  have hI := rdI_i64 l
  have hle := rdI_le l
  rw [hj] at hI hle
  obtain ⟨hI1, hI2⟩ : -9223372036854775808 ≤ n ∧ n ≤ 9223372036854775807 := hI
  replace hle : j ≤ l.length := hle
  rcases Nat.eq_zero_or_pos j with h0 | h0
  · subst h0
    have R := Lib.hid (rdL_bad (most := most) hj (.inl rfl))
    have HJ := Lib.hid hj
    obtain ⟨a, c, rfl⟩ := hv.slice
    have HV := Lib.hid hv
    clear hv hj
    rw [R.out]
    go_enter Try.func43, Try.ntmps43
    go_wp2_with fail
    refine (refReadInt_any _ l _ HV.out).mono ?_
    rw [HJ.out]
    rintro e w1 ⟨rfl, b1⟩
    go_wp2
    go_ret2
    exact ⟨_, rfl, rdT_nil _, b1⟩
  · have q0 : ((j : Int) == 0) = false := by rw [beq_eq_false_iff_ne]; omega
    by_cases h1 : n < 0
    · have R := Lib.hid (rdL_bad (most := most) hj (.inr (.inl h1)))
      have HJ := Lib.hid hj
      obtain ⟨a, c, rfl⟩ := hv.slice
      have HV := Lib.hid hv
      clear hv hj
      rw [R.out]
      go_enter Try.func43, Try.ntmps43
      go_wp2_with fail
      refine (refReadInt_any _ l _ HV.out).mono ?_
      rw [HJ.out]
      rintro e w1 ⟨rfl, b1⟩
      go_wp2
      go_ret2
      exact ⟨_, rfl, rdT_nil _, b1⟩
    · obtain ⟨N, rfl⟩ : ∃ N : Nat, n = (N : Int) := ⟨n.toNat, by omega⟩
      have q1 : ¬ (N : Int) < 0 := by omega
      by_cases h2 : most < (N : Int)
      · have R := Lib.hid (rdL_bad (most := most) hj (.inr (.inr h2)))
        have HJ := Lib.hid hj
        obtain ⟨a, c, rfl⟩ := hv.slice
        have HV := Lib.hid hv
        clear hv hj
        rw [R.out]
        go_enter Try.func43, Try.ntmps43
        go_wp2_with fail
        refine (refReadInt_any _ l _ HV.out).mono ?_
        rw [HJ.out]
        rintro e w1 ⟨rfl, b1⟩
        go_wp2
        go_ret2
        exact ⟨_, rfl, rdT_nil _, b1⟩
      · obtain ⟨R, hR⟩ : ∃ R, rdA N l j [] = R := ⟨_, rfl⟩
        have HL := Lib.hid (show rdL l most = R.getD ([], 0) by rw [rdL_go hj h0 (by omega), hR])
        have HR := Lib.hid hR
        have HJ := Lib.hid hj
        obtain ⟨i0, hi, hz0, hz1, hz2⟩ := info_parts Try.infoS
        obtain ⟨a, c, rfl⟩ := hv.slice
        have HV := Lib.hid hv
        clear hv hj hR
        rw [HL.out]
        go_enter Try.func43, Try.ntmps43
        go_wp2_with fail
        refine (refReadInt_any _ l _ HV.out).mono ?_
        rw [HJ.out]
        rintro e w1 ⟨rfl, b1⟩
        have HB1 := Lib.hid b1; clear b1
        go_wp2
        go_loopw [7, 8, 9] (fun v7 v8 v9 wr => ∃ i rel pre, RsRel w l N R v7 v8 v9 wr i rel pre) (fun _ _ v9 _ => N - (intOf v9).toNat)
        case atStart => exact ⟨0, j, [], rfl, rfl, rfl, Nat.zero_le _, hle, Nat.zero_le _, ownT_nil _ _ _, HR.out, HB1.out⟩
        case round =>
          obtain ⟨i, rel, pre, hrel⟩ := hrel
          have HRel := Lib.hid hrel
          obtain ⟨rfl, rfl, hlen, hiN, hrl, hir, hown, hrd, hB⟩ := hrel
          have zr := hB.size
          clear hlen hrd
          by_cases hlt : i < N
          · obtain ⟨vc, hvc, hs1, hs2⟩ := cut_eqs (w := wr) (a := a) (c := c) rel hrl
            have HC := Lib.hid (show RdB wr vc (l.drop rel) by rw [← hvc]; exact (HV.out.below hB).cut rel hrl)
            obtain ⟨⟨s, k⟩, hs⟩ : ∃ p, rdS (l.drop rel) = p := ⟨_, rfl⟩
            have HS := Lib.hid hs
            clear hvc hs
            have hs1' := hs1 wr
            have hs2' := hs2 wr
            clear hs1 hs2
            go_wp2_with fail
            refine (refReadString_any _ (l.drop rel) _ HC.out).mono ?_
            rw [HS.out]
            rintro e w2 ⟨rfl, b2⟩
            have hkl := rdS_le (l.drop rel)
            rw [HS.out, List.length_drop] at hkl
            replace hkl : k ≤ l.length - rel := hkl
            have HO := Lib.hid (hown.below b2)
            have z2 := b2.size
            have HB2 := Lib.hid (st hB b2 zr)
            clear b2 hown hB hs1' hs2'
            rcases Nat.eq_zero_or_pos k with hk0 | hk0
            · have hN : R = none := by rw [← HRel.out.rd]; exact rdA_stop (by omega) (by rw [HS.out]; exact hk0)
              have HN := Lib.hid hN; clear hN
              subst hk0
              go_wp2
              go_ret2
              exact ⟨_, by rw [HN.out]; rfl, by rw [HN.out]; exact rdT_nil _, HB2.out⟩
            · have q2 : ((k : Int) == 0) = false := by rw [beq_eq_false_iff_ne]; omega
              have hpl : pre.length ≤ 1000000000000 := by rw [HRel.out.len]; omega
              have HP := Lib.hid hpl; clear hpl
              go_wp2_with (at_builtin; go_loud (refine wpList_append_str rfl _ _ 23 rfl w.heap.size i0 Try.underlying23 hi hz0 hz1 hz2 _ pre rfl HO.out rfl HP.out (by omega) HB2.out ?_))
              · intro v3 w3 o3 b3
                have R3 := Lib.hid (HRel.out.step hlt HS.out (by omega) o3 b3 ((rel : Int) + (k : Int)) ((i : Int) + 1) (by omega) (by omega))
                clear o3 b3
                go_wp2
                go_roundw
                case rel => exact ⟨_, _, _, R3.out⟩
                case measure => simp [intOf]; omega
          · obtain rfl : i = N := by omega
            have hS : R = some (pre, rel) := by rw [← HRel.out.rd, Nat.sub_self, rdA_zero]
            have HS := Lib.hid hS
            have HO := Lib.hid (And.intro hown hB)
            clear hS hown hB
            go_wp2
            go_ret2
            exact ⟨_, by rw [HS.out]; rfl, by rw [HS.out]; exact RdT.of_own HO.out.1, HO.out.2⟩
end Go.Proofs.Ytglllbodhdgahaa
