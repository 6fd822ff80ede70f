/- Of the reference: digits, Zero, Value, Trim, lead, zeros. -/
import Derived.Test.YteofkofgdhmpjaaDoorKo
namespace Go.Proofs.YteofkofgdhmpjaaDoor
open Go.RowKit
set_option linter.unusedVariables false

theorem of_ext {a b : ByteArray} (h : a.data.toList = b.data.toList) : a = b := by rw [← of_data a, ← of_data b, h]
theorem add_two (x y : Str) : ofL x ++ ofL y = ofL (x ++ y) := of_ext (by simp [ofL])
theorem dig_all {l : Str} (h : ∀ i (h : i < l.length), isD l[i] = true) : adb l = true := by
  rw [adb_iff]
  intro c hc
  obtain ⟨i, hi, rfl⟩ := List.mem_iff_getElem.1 hc
  exact h i hi
theorem dig_not {l : Str} {i : Nat} (h : i < l.length) (h2 : isD l[i] = false) : adb l = false := by
  cases hb : adb l with
  | false => rfl
  | true => rw [adb_iff] at hb; rw [hb _ (List.getElem_mem h)] at h2; cases h2
theorem zero_all {l : Str} (h : ∀ i (h : i < l.length), l[i] = 48) : zero l = true := by
  unfold zero
  rw [List.all_eq_true]
  intro c hc
  obtain ⟨i, hi, rfl⟩ := List.mem_iff_getElem.1 hc
  rw [h i hi]; rfl
theorem zero_not {l : Str} {i : Nat} (h : i < l.length) (h2 : l[i] ≠ 48) : zero l = false := by
  cases hb : zero l with
  | false => rfl
  | true =>
    unfold zero at hb
    rw [List.all_eq_true] at hb
    have := hb _ (List.getElem_mem h)
    exact absurd (by simpa using this) h2
set_option maxRecDepth 1000000 in
set_option maxHeartbeats 2000000 in
theorem digits_any (s : ByteArray) (hs : s.size ≤ 9223372036854775807) (w : World) : Calls Tryd.prog 34 #[.string s] w fun e w' => e = .returned (.bool (adb s.data.toList)) ∧ w' = w := by
  have hs' : (s.size : Int) ≤ 9223372036854775807 := by omega
  go_enter Tryd.func34, Tryd.ntmps34
  go_wp2
  go_loop [3] (fun i => ∃ k : Nat, k ≤ s.size ∧ i = .int .i64 k ∧ ∀ i (h : i < s.data.toList.length), i < k → isD s.data.toList[i] = true) (fun i => s.size - (intOf i).toNat)
  case atStart => exact ⟨0, Nat.zero_le _, rfl, fun i h hi => by omega⟩
  case round =>
    obtain ⟨k, hk, rfl, hall⟩ := hrel
    have HA := Lib.hid hall
    clear hall
    by_cases hlt : k < s.size
    · have hlt' : (k : Int) < (s.size : Int) := by omega
      have hl : k < s.data.toList.length := by rw [len_data]; exact hlt
      by_cases h3 : isD (s.data.toList[k]) = true
      · have H3 := Lib.hid h3
        have h4 := isD_iff.1 h3
        have t1 : decide (((s[k]'hlt).toNat : Int) < 48) = false := by rw [decide_eq_false_iff_not]; intro h; exact absurd (Int.ofNat_lt.1 h) (Nat.not_lt.2 h4.1)
        have t2 : decide (57 < ((s[k]'hlt).toNat : Int)) = false := by rw [decide_eq_false_iff_not]; intro h; exact absurd (Int.ofNat_lt.1 h) (Nat.not_lt.2 h4.2)
        clear h3 h4
        go_wp2
        go_round
        case rel => exact ⟨k + 1, by omega, by go_num, fun i h h1 => by
          rcases Nat.lt_or_ge i k with h3 | h3
          · exact HA.out i h h3
          · obtain rfl : i = k := by omega
            exact H3.out⟩
        case measure => simp [intOf]; omega
      · have HF := Lib.hid (dig_not hl (by simpa using h3))
        have h4 : (s.data.toList[k]).toNat < 48 ∨ 57 < (s.data.toList[k]).toNat := by
          rw [isD_iff] at h3; omega
        clear h3
        rcases h4 with h4 | h4
        · have t1 : decide (((s[k]'hlt).toNat : Int) < 48) = true := by rw [decide_eq_true_eq]; exact Int.ofNat_lt.2 h4
          clear h4 hl
          go_wp2
          go_ret
          exact ⟨by rw [HF.out]; rfl, rfl⟩
        · have t1 : decide (((s[k]'hlt).toNat : Int) < 48) = false := by rw [decide_eq_false_iff_not]; intro h; exact absurd (Nat.lt_trans (Int.ofNat_lt.1 h) (by decide : 48 < 57)) (Nat.not_lt.2 (Nat.le_of_lt h4))
          have t2 : decide (57 < ((s[k]'hlt).toNat : Int)) = true := by rw [decide_eq_true_eq]; exact Int.ofNat_lt.2 h4
          clear h4 hl
          go_wp2
          go_ret
          exact ⟨by rw [HF.out]; rfl, rfl⟩
    · have hlt' : ¬ (k : Int) < (s.size : Int) := by omega
      have HF := Lib.hid (dig_all (fun i h => HA.out i h (by rw [len_data] at h; omega)))
      go_wp2
      go_ret
      exact ⟨by rw [HF.out]; rfl, rfl⟩
set_option maxRecDepth 1000000 in
set_option maxHeartbeats 2000000 in
theorem zero_any (s : ByteArray) (hs : s.size ≤ 9223372036854775807) (w : World) : Calls Tryd.prog 35 #[.string s] w fun e w' => e = .returned (.bool (zero s.data.toList)) ∧ w' = w := by
  have hs' : (s.size : Int) ≤ 9223372036854775807 := by omega
  go_enter Tryd.func35, Tryd.ntmps35
  go_wp2
  go_loop [3] (fun i => ∃ k : Nat, k ≤ s.size ∧ i = .int .i64 k ∧ ∀ i (h : i < s.data.toList.length), i < k → s.data.toList[i] = 48) (fun i => s.size - (intOf i).toNat)
  case atStart => exact ⟨0, Nat.zero_le _, rfl, fun i h hi => by omega⟩
  case round =>
    obtain ⟨k, hk, rfl, hall⟩ := hrel
    have HA := Lib.hid hall
    clear hall
    by_cases hlt : k < s.size
    · have hlt' : (k : Int) < (s.size : Int) := by omega
      have hl : k < s.data.toList.length := by rw [len_data]; exact hlt
      by_cases h3 : s.data.toList[k] = 48
      · have H3 := Lib.hid h3
        have t1 : (((s[k]'hlt).toNat : Int) == 48) = true := by rw [beq_iff_eq]; exact (u8_eq48 _).1 h3
        clear h3
        go_wp2
        go_round
        case rel => exact ⟨k + 1, by omega, by go_num, fun i h h1 => by
          rcases Nat.lt_or_ge i k with h3 | h3
          · exact HA.out i h h3
          · obtain rfl : i = k := by omega
            exact H3.out⟩
        case measure => simp [intOf]; omega
      · have HF := Lib.hid (zero_not hl h3)
        have t1 : (((s[k]'hlt).toNat : Int) == 48) = false := by rw [beq_eq_false_iff_ne]; exact fun h => h3 ((u8_eq48 _).2 h)
        clear h3
        go_wp2
        go_ret
        exact ⟨by rw [HF.out]; rfl, rfl⟩
    · have hlt' : ¬ (k : Int) < (s.size : Int) := by omega
      have HF := Lib.hid (zero_all (fun i h => HA.out i h (by rw [len_data] at h; omega)))
      go_wp2
      go_ret
      exact ⟨by rw [HF.out]; rfl, rfl⟩
end Go.Proofs.YteofkofgdhmpjaaDoor
