/- rootOf, nextWith. -/
import Derived.Test.YtcnjomkddbbopaaMb
import Derived.IntWalk
namespace Go.Proofs.Ytcnjomkddbbopaa
open Go.RowKit
set_option linter.unusedVariables false

set_option maxRecDepth 1000000 in
set_option maxHeartbeats 400000 in
theorem rootOf_any (n : Nat) (hn : n ≤ 1000) (w : World) : Calls Try.prog 35 #[.int .i64 n] w fun e w' => ∃ r : Nat, 1 ≤ r ∧ r ≤ n + 1 ∧ e = .returned (.int .i64 r) ∧ w' = w := by
  go_enter Try.func35, Try.ntmps35
  go_wp2
  go_loop [3] (fun i => ∃ k : Nat, 1 ≤ k ∧ k ≤ n + 1 ∧ i = .int .i64 k) (fun i => n + 1 - (intOf i).toNat)
  case atStart => exact ⟨1, Nat.le_refl _, by omega, rfl⟩
  case round =>
    obtain ⟨k, hk, hk2, rfl⟩ := hrel
    obtain ⟨s, hs⟩ : ∃ s : Nat, k * k = s := ⟨_, rfl⟩
    have hs1 : k ≤ s := by rw [← hs]; exact Nat.le_mul_self k
    have hs2 := Nat.mul_le_mul (show k ≤ 1001 by omega) (show k ≤ 1001 by omega)
    rw [hs] at hs2
    have hm : (k : Int) * (k : Int) = (s : Int) := by rw [← hs]; simp
    have hwr : wrap64 (s : Int) = (s : Int) := by unfold wrap64; omega
    have Hs := Lib.hid hs
    clear hs
    by_cases hlt : s < n
    · have q : (s : Int) < (n : Int) := by omega
      go_wp2
      go_round
      case rel => exact ⟨k + 1, by omega, by omega, by go_num⟩
      case measure => simp [intOf]; omega
    · have q : ¬ (s : Int) < (n : Int) := by omega
      go_wp2
      go_ret
      exact ⟨k, hk, by omega, rfl, rfl⟩

/-- Pairs, cell by cell. -/
theorem Rd.pair {w : World} {a : Option Addr} {n c : Nat} {l : List (Nat × Nat)} (h : Rd 2 encP w (.slice a n c) l) (i : Nat) (hi : i < l.length) : ∃ b off, a = some ⟨b, off, none⟩ ∧ w.cell? ⟨b, off + i * 2, none⟩ = some (.int .i64 (l[i].1 : Int)) ∧ w.cell? ⟨b, off + i * 2 + 1, none⟩ = some (.int .i64 (l[i].2 : Int)) := by
  obtain ⟨b, off, ha, _, hx⟩ := h.some_ i hi
  exact ⟨b, off, ha, hx 0 _ rfl, hx 1 _ rfl⟩
set_option maxRecDepth 1000000 in
set_option maxHeartbeats 400000 in
theorem nextWith_any (v : Nat) (y : Value) (l : List (Nat × Nat)) (j : Nat) (hj : j ≤ l.length) (w : World) (hy : Rd 2 encP w y l) (hl : l.length ≤ 1000) (hv : v ≤ 1000) (hb : ∀ p ∈ l, p.2 ≤ 1000) :
    Calls Try.prog 40 #[.int .i64 v, y, .int .i64 j] w fun e w' => (∃ x : Nat, j ≤ x ∧ x ≤ l.length ∧ (∀ i (hi : i < l.length), j ≤ i → i < x → l[i].2 ≠ v) ∧ (∀ hx : x < l.length, l[x].2 = v) ∧ e = .returned (.int .i64 x)) ∧ w' = w := by
  obtain ⟨a, c, rfl, hc1, hc2⟩ := hy.slice
  have HY := Lib.hid hy; clear hy
  have HB := Lib.hid hb; clear hb
  go_enter Try.func40, Try.ntmps40
  go_wp2
  go_loop [2] (fun i => ∃ k : Nat, j ≤ k ∧ k ≤ l.length ∧ (∀ i (hi : i < l.length), j ≤ i → i < k → l[i].2 ≠ v) ∧ i = .int .i64 k) (fun i => l.length - (intOf i).toNat)
  case atStart => exact ⟨j, Nat.le_refl _, hj, fun i _ h1 h2 => by omega, rfl⟩
  case round =>
    obtain ⟨k, hk1, hk, ht, rfl⟩ := hrel
    have Ht := Lib.hid ht; clear ht
    by_cases hlt : k < l.length
    · obtain ⟨b, off, rfl, h1, h2⟩ := HY.out.pair k hlt
      have q1 : (k : Int) < (l.length : Int) := by omega
      have hb := HB.out _ (List.getElem_mem hlt)
      obtain ⟨p, hp⟩ : ∃ p, l[k] = p := ⟨_, rfl⟩
      rw [hp] at h1 h2 hb
      obtain ⟨p1, p2⟩ := p
      simp only at h1 h2 hb
      have HP := Lib.hid hp; clear hp h1
      by_cases he : p2 = v
      · have q2 : ((p2 : Int) != (v : Int)) = false := by rw [he]; simp
        have q3 : ((p2 : Int) == (v : Int)) = true := by rw [he]; simp
        have HE := Lib.hid he; clear he
        go_wp2
        go_ret
        exact ⟨⟨k, hk1, hk, Ht.out, fun hx => by rw [HP.out]; exact HE.out, rfl⟩, rfl⟩
      · have q2 : ((p2 : Int) != (v : Int)) = true := by rw [bne_iff_ne]; omega
        have q3 : ((p2 : Int) == (v : Int)) = false := by rw [beq_eq_false_iff_ne]; omega
        have HE := Lib.hid he; clear he
        go_wp2
        go_round
        case rel =>
          refine ⟨k + 1, by omega, by omega, fun i hi h3 h4 => ?_, by go_num⟩
          rcases Nat.lt_or_ge i k with h5 | h5
          · exact Ht.out i hi h3 h5
          · obtain rfl : i = k := by omega
            rw [HP.out]; exact HE.out
        case measure => simp [intOf]; omega
    · obtain rfl : k = l.length := by omega
      go_wp2
      go_ret
      exact ⟨⟨l.length, hk1, hk, Ht.out, fun hx => absurd hx (by omega), rfl⟩, rfl⟩
end Go.Proofs.Ytcnjomkddbbopaa
