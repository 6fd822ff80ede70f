/- Of the reference of layer 15: begins, common, Few. -/
import Derived.Test.YteofkofgdhmpjaaDoorKx
import Derived.Test.YteofkofgdhmpjaaDoorNua
namespace Go.Proofs.YteofkofgdhmpjaaDoor
open Go.RowKit
set_option linter.unusedVariables false

theorem beq_of (a b : Str) : ((ofL a).toList == (ofL b).toList) = decide (a = b) := by
  rw [ByteArray.toList_eq, ByteArray.toList_eq]
  by_cases h : a = b
  · rw [h, decide_eq_true rfl, beq_iff_eq]
  · rw [decide_eq_false h, beq_eq_false_iff_ne]; exact h
theorem beg_short {s t : Str} (h : ¬ t.length ≤ s.length) : begB s t = false := by
  unfold begB
  rw [decide_eq_false_iff_not]
  intro e
  have := congrArg List.length e
  rw [List.length_take] at this
  omega
set_option maxRecDepth 1000000 in
set_option maxHeartbeats 4000000 in
theorem begins_any (s t : Str) (hs : s.length ≤ 9223372036854775807) (ht : t.length ≤ 9223372036854775807) (w : World) : Calls Tryd.prog 16 #[.string (ofL s), .string (ofL t)] w fun e w' => e = .returned (.bool (begB s t)) ∧ w' = w := by
  obtain ⟨S, hS⟩ : ∃ S, ofL s = S := ⟨_, rfl⟩
  obtain ⟨T, hT⟩ : ∃ T, ofL t = T := ⟨_, rfl⟩
  have hn : S.size = s.length := by rw [← hS, ofL_size]
  have hm : T.size = t.length := by rw [← hT, ofL_size]
  by_cases h : t.length ≤ s.length
  · have HB : Hid (((S.extract 0 t.length).toList == T.toList) = begB s t) := Lib.hid (by
      rw [← hS, ext_ofL, ← hT, beq_of]
      unfold begB
      rw [List.drop_zero, Nat.sub_zero])
    rw [hS, hT]
    have k1 : decide ((t.length : Int) ≤ (s.length : Int)) = true := by simp; exact h
    clear hS hT
    go_enter Tryd.func16, Tryd.ntmps16
    go_wp2
    go_ret
    exact ⟨by rw [← HB.out]; rfl, rfl⟩
  · have HB := Lib.hid (beg_short (s := s) (t := t) (by omega))
    rw [hS, hT]
    have k1 : decide ((t.length : Int) ≤ (s.length : Int)) = false := by simp; omega
    clear hS hT
    go_enter Tryd.func16, Tryd.ntmps16
    go_wp2
    go_ret
    exact ⟨by rw [HB.out]; rfl, rfl⟩
/-! ### common -/
def comI (a : UInt8) (b : Str) : Bool := b.any fun d => decide (a = d)
theorem com_yes {a b : Str} (i k : Nat) (hi : i < a.length) (hk : k < b.length) (h : a[i] = b[k]) : comB a b = true := by
  unfold comB
  rw [List.any_eq_true]
  refine ⟨a[i], List.getElem_mem hi, ?_⟩
  rw [List.any_eq_true]
  exact ⟨b[k], List.getElem_mem hk, decide_eq_true h⟩
theorem com_no {a b : Str} (h : ∀ i (hi : i < a.length) k (hk : k < b.length), a[i] ≠ b[k]) : comB a b = false := by
  rw [comB_iff]
  intro c hc hb
  obtain ⟨i, hi, rfl⟩ := List.mem_iff_getElem.1 hc
  obtain ⟨k, hk, e⟩ := List.mem_iff_getElem.1 hb
  exact h i hi k hk e.symm
theorem u8_beq {c d : UInt8} (b : Bool) (h : decide (c = d) = b) : (((c.toNat : Nat) : Int) == ((d.toNat : Nat) : Int)) = b := by
  rw [← h]
  by_cases e : c = d
  · rw [e]; simp
  · rw [decide_eq_false e, beq_eq_false_iff_ne]
    intro k
    exact e (UInt8.toNat_inj.1 (by omega))
set_option maxRecDepth 1000000 in
set_option maxHeartbeats 4000000 in
theorem common_any (a b : Str) (ha : a.length ≤ 9223372036854775806) (hb : b.length ≤ 9223372036854775806) (w : World) : Calls Tryd.prog 25 #[.string (ofL a), .string (ofL b)] w fun e w' => e = .returned (.bool (comB a b)) ∧ Below w.heap.size w w' := by
  have HY := Lib.hid (@com_yes a b)
  have HN := Lib.hid (@com_no a b)
  obtain ⟨S, hS⟩ : ∃ S, ofL a = S := ⟨_, rfl⟩
  obtain ⟨T, hT⟩ : ∃ T, ofL b = T := ⟨_, rfl⟩
  have hn : S.size = a.length := by rw [← hS, ofL_size]
  have hm : T.size = b.length := by rw [← hT, ofL_size]
  have HGS : Hid (∀ i (h : i < a.length) (h' : i < S.size), S[i]'h' = a[i]'h) := Lib.hid (fun i h h' => by subst hS; rfl)
  have HGT : Hid (∀ i (h : i < b.length) (h' : i < T.size), T[i]'h' = b[i]'h) := Lib.hid (fun i h h' => by subst hT; rfl)
  rw [hS, hT]
  clear hS hT
  obtain ⟨N, eN⟩ : ∃ N, a.length = N := ⟨_, rfl⟩
  obtain ⟨M, eM⟩ : ∃ M, b.length = M := ⟨_, rfl⟩
  obtain ⟨R, hR⟩ : ∃ R, comB a b = R := ⟨_, rfl⟩
  rw [hR] at HY HN ⊢
  have HEN := Lib.hid eN
  have HEM := Lib.hid eM
  rw [eN] at hn ha
  rw [eM] at hm hb
  clear hR eN eM
  go_enter Tryd.func25, Tryd.ntmps25
  go_wp2
  go_loopw [5] (fun v wr => ∃ i : Nat, i ≤ N ∧ v = .int .i64 i ∧ (∀ i' (h : i' < a.length) k (hk : k < b.length), i' < i → a[i'] ≠ b[k]) ∧ Below w.heap.size w wr) (fun v _ => N - (intOf v).toNat)
  case atStart => exact ⟨0, Nat.zero_le _, rfl, fun i' h k hk h0 => by omega, Below.refl _ _⟩
  case round =>
    obtain ⟨i, hi, rfl, hall, hb1⟩ := hrel
    have HA := Lib.hid hall
    have HW := Lib.hid hb1
    clear hall hb1
    by_cases hlt : i < N
    · have k1 : decide ((i : Int) < (N : Int)) = true := by simp; exact hlt
      have hSi : i < S.size := by omega
      go_wp2
      go_loopw [6] (fun v wx => ∃ k : Nat, k ≤ M ∧ v = .int .i64 k ∧ (∀ k' (hk : k' < b.length) (h : i < a.length), k' < k → a[i] ≠ b[k']) ∧ Below w.heap.size w wx) (fun v _ => M - (intOf v).toNat)
      case atStart => exact ⟨0, Nat.zero_le _, rfl, fun k' hk h h0 => by omega, HW.out⟩
      case round =>
        obtain ⟨k, hk, rfl, hall, hb2⟩ := hrel
        have HB := Lib.hid hall
        have HX := Lib.hid hb2
        clear hall hb2
        by_cases hlk : k < M
        · have k2 : decide ((k : Int) < (M : Int)) = true := by simp; exact hlk
          have hTk : k < T.size := by omega
          by_cases he : S[i]'hSi = T[k]'hTk
          · have k3 := u8_beq true (decide_eq_true he)
            have HR : Hid (R = true) := Lib.hid (HY.out i k (by rw [HEN.out]; exact hlt) (by rw [HEM.out]; exact hlk) (by rw [← HGS.out i (by rw [HEN.out]; exact hlt) hSi, ← HGT.out k (by rw [HEM.out]; exact hlk) hTk]; exact he))
            clear he
            go_wp2
            go_quiet (fail)
            go_wp2
            go_ret
            exact ⟨by rw [HR.out]; rfl, below_drewN HX.out _⟩
          · have k3 := u8_beq false (decide_eq_false he)
            have HB2 : Hid (∀ k' (hk : k' < b.length) (h : i < a.length), k' < k + 1 → a[i] ≠ b[k']) := Lib.hid (fun k' hk' h h1 => by
              rcases Nat.lt_or_ge k' k with q | q
              · exact HB.out k' hk' h q
              · obtain rfl : k' = k := by omega
                rw [← HGS.out i h hSi, ← HGT.out k' hk' hTk]
                exact he)
            clear he HB
            go_wp2
            go_quiet (fail)
            go_wp2
            go_roundw
            case rel => exact ⟨k + 1, by omega, by go_num, HB2.out, below_drewN HX.out _⟩
            case measure => simp [intOf]; omega
        · have k2 : decide ((k : Int) < (M : Int)) = false := by simp; omega
          have HA2 : Hid (∀ i' (h : i' < a.length) k (hk : k < b.length), i' < i + 1 → a[i'] ≠ b[k]) := Lib.hid (fun i' h k' hk' h1 => by
            rcases Nat.lt_or_ge i' i with q | q
            · exact HA.out i' h k' hk' q
            · obtain rfl : i' = i := by omega
              exact HB.out k' hk' h (by rw [HEM.out] at hk'; omega))
          clear HB HA
          go_wp2
          go_roundw
          case rel => exact ⟨i + 1, by omega, by go_num, HA2.out, HX.out⟩
          case measure => simp [intOf]; omega
    · have k1 : decide ((i : Int) < (N : Int)) = false := by simp; omega
      have HR : Hid (R = false) := Lib.hid (HN.out fun i' h k hk => HA.out i' h k hk (by rw [HEN.out] at h; omega))
      clear HA
      go_wp2
      go_ret
      exact ⟨by rw [HR.out]; rfl, HW.out⟩
end Go.Proofs.YteofkofgdhmpjaaDoor
