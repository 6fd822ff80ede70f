/- decodeString; ReadString, ReadStrings of the specification. -/
import Derived.Test.YtglllbodhdgahaaPi
namespace Go.Proofs.Ytglllbodhdgahaa
open Go.RowKit
set_option linter.unusedVariables false

theorem rdS_bad {b : List UInt8} {n : Int} {j : Nat} (h : rdI b = (n, j)) (hc : j = 0 ∨ n < 0 ∨ (b.length : Int) - (j : Int) < n) : rdS b = ([], 0) := by
  unfold rdS
  rw [h, if_pos hc]
theorem rdS_good {b : List UInt8} {N j : Nat} (h : rdI b = ((N : Int), j)) (h0 : 0 < j) (hc : (N : Int) ≤ (b.length : Int) - (j : Int)) : rdS b = ((b.drop j).take N, j + N) := by
  unfold rdS
  rw [h, if_neg (by show ¬ (j = 0 ∨ (N : Int) < 0 ∨ (b.length : Int) - (j : Int) < (N : Int)); omega)]
  show (List.take (N : Int).toNat _, j + (N : Int).toNat) = _
  rw [Int.toNat_natCast]
theorem ret_str {a b : List UInt8} {m n : Int} (h : a = b) (k : m = n) : Ending.returned (.tuple #[.string (ofL a), .int .i64 m]) = .returned (.tuple #[.string (ofL b), .int .i64 n]) := by rw [h, k]
theorem RdB.spare {w : World} {b off c : Nat} {l : List UInt8} (h : RdB w (.slice (some ⟨b, off, none⟩) l.length c) l) : RdB w (.slice (some ⟨b, off, none⟩) 0 0) [] :=
  ⟨by simp, ⟨_, 0, rfl, by simp, by omega, fun h => absurd rfl h⟩, fun n c hc => by injection hc with h1 _ _; cases h1⟩

set_option maxRecDepth 1000000 in
set_option maxHeartbeats 1000000 in
theorem decodeString_any (v : Value) (l : List UInt8) (w : World) (hv : RdB w v l) :
    Calls Try.prog 40 #[v] w (Drn w (.tuple #[.string (ofL (rdS l).1), .int .i64 ((rdS l).2 : Nat)])) := by
  obtain ⟨⟨n, j⟩, hj⟩ : ∃ p, rdI l = p := ⟨_, rfl⟩
  have hI := rdI_i64 l
  have hle := rdI_le l
  rw [hj] at hI hle
  obtain ⟨hI1, hI2⟩ : -9223372036854775808 ≤ n ∧ n ≤ 9223372036854775807 := hI
  replace hle : j ≤ l.length := hle
  have hl := hv.len
  rcases Nat.eq_zero_or_pos j with h0 | h0
  · subst h0
    · have hI : True := trivial
      have R := Lib.hid (rdS_bad hj (.inl rfl))
      have HJ := Lib.hid hj
      obtain ⟨a, c, rfl⟩ := hv.slice
      have HV := Lib.hid hv
      clear hv hj hI
      rw [R.out]
      go_enter Try.func40, Try.ntmps40
      go_wp2_with fail
      refine (decodeInt_any _ l _ HV.out).mono ?_
      rw [HJ.out]
      rintro e w' ⟨rfl, m, rfl⟩
      go_wp2
      go_ret2
      exact ⟨rfl, _, rfl⟩
  · by_cases h1 : n < 0
    · have hI : True := trivial
      have q0 : ((j : Int) == 0) = false := by rw [beq_eq_false_iff_ne]; omega
      have R := Lib.hid (rdS_bad hj (.inr (.inl h1)))
      have HJ := Lib.hid hj
      obtain ⟨a, c, rfl⟩ := hv.slice
      have HV := Lib.hid hv
      clear hv hj hI
      rw [R.out]
      go_enter Try.func40, Try.ntmps40
      go_wp2_with fail
      refine (decodeInt_any _ l _ HV.out).mono ?_
      rw [HJ.out]
      rintro e w' ⟨rfl, m, rfl⟩
      go_wp2
      go_ret2
      exact ⟨rfl, _, rfl⟩
    · obtain ⟨N, rfl⟩ : ∃ N : Nat, n = (N : Int) := ⟨n.toNat, by omega⟩
      have q0 : ((j : Int) == 0) = false := by rw [beq_eq_false_iff_ne]; omega
      have q1 : ¬ (N : Int) < 0 := by omega
      by_cases h2 : (l.length : Int) - (j : Int) < (N : Int)
      · have hI : True := trivial
        have R := Lib.hid (rdS_bad hj (.inr (.inr h2)))
        have HJ := Lib.hid hj
        obtain ⟨a, c, rfl⟩ := hv.slice
        have HV := Lib.hid hv
        clear hv hj hI
        rw [R.out]
        go_enter Try.func40, Try.ntmps40
        go_wp2_with fail
        refine (decodeInt_any _ l _ HV.out).mono ?_
        rw [HJ.out]
        rintro e w' ⟨rfl, m, rfl⟩
        go_wp2
        go_ret2
        exact ⟨rfl, _, rfl⟩
      · have R := Lib.hid (rdS_good hj h0 (by omega))
        have HJ := Lib.hid hj
        obtain ⟨a, c, rfl⟩ := hv.slice
        have HV := Lib.hid hv
        obtain ⟨_, ⟨a', c', hs, hc1, _, hx⟩, _⟩ := hv
        injection hs with e1 e2 e3
        subst e1
        subst e3
        obtain ⟨b, off, rfl, hbl, _⟩ := hx (List.ne_nil_of_length_pos (by omega))
        clear hx hj e2
        have q2 : (N : Int) ≤ (l.length : Int) - (j : Int) := by omega
        have q3 : (j : Int) ≤ (j : Int) + (N : Int) := by omega
        have q4 : (j : Int) + (N : Int) ≤ (c : Int) := by omega
        rw [R.out]
        by_cases hcap : c = j
        · obtain rfl : N = 0 := by omega
          subst hcap
          go_enter Try.func40, Try.ntmps40
          go_wp2_with fail
          refine (decodeInt_any _ l _ HV.out).mono ?_
          rw [HJ.out]
          rintro e w' ⟨rfl, m, rfl⟩
          have V1 := Lib.hid (HV.out.drewN m)
          have hcv : (convert 22 9 (.slice (some ⟨b, off, none⟩) 0 0)).run Try.prog (w.drewN m) = .ok (.string (ofL [])) (w.drewN m) := conv_rd Try.underlying22 Try.underlying5 Try.underlying9 V1.out.spare
          go_wp2
          go_ret2
          exact ⟨ret_str (by simp) (by omega), _, rfl⟩
        · go_enter Try.func40, Try.ntmps40
          go_wp2_with fail
          refine (decodeInt_any _ l _ HV.out).mono ?_
          rw [HJ.out]
          rintro e w' ⟨rfl, m, rfl⟩
          have V1 := Lib.hid (HV.out.drewN m)
          have V2 : Hid (RdB (w.drewN m) (.slice (some ⟨b, off + j, none⟩) N (c - j)) ((l.drop j).take N)) := Lib.hid (by
            have h := V1.out.cut j hle
            unfold cutV at h
            rw [if_neg hcap, Nat.mul_one] at h
            have h2 := h.take N (by rw [List.length_drop]; omega)
            change RdB _ (.slice (some (Addr.add _ _)) _ _) _ at h2
            rwa [add_off] at h2)
          have hcv : (convert 22 9 (.slice (some ⟨b, off + j, none⟩) N (c - j))).run Try.prog (w.drewN m) = .ok (.string (ofL ((l.drop j).take N))) (w.drewN m) := conv_rd Try.underlying22 Try.underlying5 Try.underlying9 V2.out
          obtain ⟨T, hT⟩ : ∃ T, (l.drop j).take N = T := ⟨_, rfl⟩
          rw [hT] at hcv
          have HT := Lib.hid hT
          clear hT
          go_wp2
          go_ret2
          exact ⟨ret_str HT.out.symm (by omega), _, rfl⟩

set_option maxRecDepth 1000000 in
set_option maxHeartbeats 1000000 in
theorem refReadString_any (v : Value) (l : List UInt8) (w : World) (hv : RdB w v l) :
    Calls Try.prog 41 #[v] w (Ret w (.tuple #[.string (ofL (rdS l).1), .int .i64 ((rdS l).2 : Nat)])) := by
  obtain ⟨⟨n, j⟩, hj⟩ : ∃ p, rdI l = p := ⟨_, rfl⟩
  have hI := rdI_i64 l
  have hle := rdI_le l
  rw [hj] at hI hle
  obtain ⟨hI1, hI2⟩ : -9223372036854775808 ≤ n ∧ n ≤ 9223372036854775807 := hI
  replace hle : j ≤ l.length := hle
  have hl := hv.len
  rcases Nat.eq_zero_or_pos j with h0 | h0
  · subst h0
    · have hI : True := trivial
      have R := Lib.hid (rdS_bad hj (.inl rfl))
      have HJ := Lib.hid hj
      obtain ⟨a, c, rfl⟩ := hv.slice
      have HV := Lib.hid hv
      clear hv hj hI
      rw [R.out]
      go_enter Try.func41, Try.ntmps41
      go_wp2_with fail
      refine (refReadInt_any _ l _ HV.out).mono ?_
      rw [HJ.out]
      rintro e w1 ⟨rfl, b1⟩
      go_wp2
      go_ret2
      exact ⟨rfl, b1⟩
  · by_cases h1 : n < 0
    · have hI : True := trivial
      have q0 : ((j : Int) == 0) = false := by rw [beq_eq_false_iff_ne]; omega
      have R := Lib.hid (rdS_bad hj (.inr (.inl h1)))
      have HJ := Lib.hid hj
      obtain ⟨a, c, rfl⟩ := hv.slice
      have HV := Lib.hid hv
      clear hv hj hI
      rw [R.out]
      go_enter Try.func41, Try.ntmps41
      go_wp2_with fail
      refine (refReadInt_any _ l _ HV.out).mono ?_
      rw [HJ.out]
      rintro e w1 ⟨rfl, b1⟩
      go_wp2
      go_ret2
      exact ⟨rfl, b1⟩
    · obtain ⟨N, rfl⟩ : ∃ N : Nat, n = (N : Int) := ⟨n.toNat, by omega⟩
      have q0 : ((j : Int) == 0) = false := by rw [beq_eq_false_iff_ne]; omega
      have q1 : ¬ (N : Int) < 0 := by omega
      by_cases h2 : (l.length : Int) - (j : Int) < (N : Int)
      · have hI : True := trivial
        have R := Lib.hid (rdS_bad hj (.inr (.inr h2)))
        have HJ := Lib.hid hj
        obtain ⟨a, c, rfl⟩ := hv.slice
        have HV := Lib.hid hv
        clear hv hj hI
        rw [R.out]
        go_enter Try.func41, Try.ntmps41
        go_wp2_with fail
        refine (refReadInt_any _ l _ HV.out).mono ?_
        rw [HJ.out]
        rintro e w1 ⟨rfl, b1⟩
        go_wp2
        go_ret2
        exact ⟨rfl, b1⟩
      · have R := Lib.hid (rdS_good hj h0 (by omega))
        have HJ := Lib.hid hj
        obtain ⟨a, c, rfl⟩ := hv.slice
        have HV := Lib.hid hv
        obtain ⟨_, ⟨a', c', hs, hc1, _, hx⟩, _⟩ := hv
        injection hs with e1 e2 e3
        subst e1
        subst e3
        obtain ⟨b, off, rfl, hbl, _⟩ := hx (List.ne_nil_of_length_pos (by omega))
        clear hx hj e2
        have q2 : (N : Int) ≤ (l.length : Int) - (j : Int) := by omega
        have q3 : (j : Int) ≤ (j : Int) + (N : Int) := by omega
        have q4 : (j : Int) + (N : Int) ≤ (c : Int) := by omega
        rw [R.out]
        by_cases hcap : c = j
        · obtain rfl : N = 0 := by omega
          subst hcap
          go_enter Try.func41, Try.ntmps41
          go_wp2_with fail
          refine (refReadInt_any _ l _ HV.out).mono ?_
          rw [HJ.out]
          rintro e w1 ⟨rfl, b1⟩
          have V1 := Lib.hid (HV.out.below b1)
          have hcv : (convert 22 9 (.slice (some ⟨b, off, none⟩) 0 0)).run Try.prog w1 = .ok (.string (ofL [])) w1 := conv_rd Try.underlying22 Try.underlying5 Try.underlying9 V1.out.spare
          go_wp2
          go_ret2
          exact ⟨ret_str (by simp) (by omega), b1⟩
        · go_enter Try.func41, Try.ntmps41
          go_wp2_with fail
          refine (refReadInt_any _ l _ HV.out).mono ?_
          rw [HJ.out]
          rintro e w1 ⟨rfl, b1⟩
          have V1 := Lib.hid (HV.out.below b1)
          have V2 : Hid (RdB w1 (.slice (some ⟨b, off + j, none⟩) N (c - j)) ((l.drop j).take N)) := Lib.hid (by
            have h := V1.out.cut j hle
            unfold cutV at h
            rw [if_neg hcap, Nat.mul_one] at h
            have h2 := h.take N (by rw [List.length_drop]; omega)
            change RdB _ (.slice (some (Addr.add _ _)) _ _) _ at h2
            rwa [add_off] at h2)
          have hcv : (convert 22 9 (.slice (some ⟨b, off + j, none⟩) N (c - j))).run Try.prog w1 = .ok (.string (ofL ((l.drop j).take N))) w1 := conv_rd Try.underlying22 Try.underlying5 Try.underlying9 V2.out
          obtain ⟨T, hT⟩ : ∃ T, (l.drop j).take N = T := ⟨_, rfl⟩
          rw [hT] at hcv
          have HT := Lib.hid hT
          clear hT
          go_wp2
          go_ret2
          exact ⟨ret_str HT.out.symm (by omega), b1⟩
end Go.Proofs.Ytglllbodhdgahaa
