/- Of the reference: Trim, lead, zeros. -/
import Derived.Test.YteofkofgdhmpjaaKp
namespace Go.Proofs.Yteofkofgdhmpjaa
open Go.RowKit
set_option linter.unusedVariables false

theorem trim_step {l : Str} {k : Nat} (h : k < l.length) (h0 : l[k] = 48) : trim (l.take (k + 1)) = trim (l.take k) := by
  rw [List.take_succ_eq_append_getElem h, h0]
  exact trim_app_zs _ 1
theorem trim_stop {l : Str} {k : Nat} (h : k < l.length) (h0 : l[k] ≠ 48) : trim (l.take (k + 1)) = l.take (k + 1) := by
  have hl : (l.take (k + 1)).length = k + 1 := by rw [List.length_take]; omega
  unfold trim
  rw [hl, tl_no (by omega) (by rw [List.getElem_take]; exact h0)]
  rw [List.take_take, Nat.min_self]
theorem lead_two {l : Str} (h : 1 < l.length) (h0 : l[0] = 48) : lead l = lead (l.drop 1) := by
  cases l with
  | nil => simp at h
  | cons c l =>
    cases l with
    | nil => simp at h
    | cons d l =>
      simp at h0
      subst h0
      rw [lead, if_pos (by rfl)]
      rfl
theorem lead_done {l : Str} (h : l.length ≤ 1 ∨ ∃ h : 0 < l.length, l[0] ≠ 48) : lead l = l := by
  apply lead_of_slim
  intro h1
  rcases h with h | ⟨h, h0⟩
  · omega
  · rw [List.head?_eq_getElem?, List.getElem?_eq_getElem h]
    simpa using h0
set_option maxRecDepth 1000000 in
set_option maxHeartbeats 2000000 in
theorem refLead_any (l : Str) (hs : l.length ≤ 1000) (w : World) : Calls Try.prog 36 #[.string (ofL l)] w fun e w' => e = .returned (.string (ofL (lead l))) ∧ w' = w := by
  have hs2 : (ofL l).size ≤ 1000 := by rw [ofL_size]; exact hs
  go_enter Try.func36, Try.ntmps36
  go_wp2
  go_loop [0] (fun v0 => ∃ t : ByteArray, v0 = .string t ∧ t.size ≤ 1000 ∧ lead t.data.toList = lead l) (fun v0 => match v0 with | .string t => t.size | _ => 0)
  case atStart => exact ⟨_, rfl, hs2, rfl⟩
  case round =>
    obtain ⟨t, rfl, htl, htr⟩ := hrel
    have HT := Lib.hid htr
    clear htr
    have fin : (t.data.toList.length ≤ 1 ∨ ∃ h : 0 < t.data.toList.length, t.data.toList[0] ≠ 48) → Hid (t = ofL (lead l)) := fun h => Lib.hid (by rw [← HT.out, lead_done h, of_data])
    by_cases h1 : 1 < t.size
    · have q0 : (1 : Int) < (t.size : Int) := by omega
      have h0 : 0 < t.size := by omega
      have hl1 : 1 < t.data.toList.length := by rw [len_data]; exact h1
      have HX := Lib.hid (ext_of t 1 t.size)
      have q1 : (1 : Int) ≤ (t.size : Int) := by omega
      by_cases h3 : t.data.toList[0]'(Nat.lt_of_succ_lt hl1) = 48
      · have H3 : Hid (lead (t.extract 1 t.size).data.toList = lead l) := Lib.hid (by
          rw [HX.out, ofL_list, List.take_of_length_le (by rw [List.length_drop, len_data]; omega), ← lead_two hl1 h3, HT.out])
        have t1 : (((t[0]'h0).toNat : Int) == 48) = true := by rw [beq_iff_eq]; exact (u8_eq48 _).1 h3
        clear h3 fin hl1
        go_wp2
        go_round
        case rel => exact ⟨t.extract 1 t.size, rfl, by simp; omega, H3.out⟩
        case measure => simp; omega
      · have HF := fin (.inr ⟨by omega, h3⟩)
        have t1 : (((t[0]'h0).toNat : Int) == 48) = false := by rw [beq_eq_false_iff_ne]; exact fun h => h3 ((u8_eq48 _).2 h)
        clear h3 fin hl1
        go_wp2
        go_ret
        exact ⟨by rw [← HF.out]; rfl, rfl⟩
    · have HF := fin (.inl (by rw [len_data]; omega))
      have q0 : ¬ (1 : Int) < (t.size : Int) := by omega
      clear fin
      go_wp2
      go_ret
      exact ⟨by rw [← HF.out]; rfl, rfl⟩
set_option maxRecDepth 1000000 in
set_option maxHeartbeats 2000000 in
theorem refZeros_any (n : Int) (h2 : n ≤ 1000) (w : World) : Calls Try.prog 23 #[.int .i64 n] w fun e w' => e = .returned (.string (ofL (zs n.toNat))) ∧ w' = w := by
  go_enter Try.func23, Try.ntmps23
  go_wp2
  go_loop [3, 4] (fun v3 v4 => ∃ k : Nat, k ≤ n.toNat ∧ v4 = .int .i64 k ∧ v3 = .string (ofL (zs k))) (fun _ v4 => n.toNat - (intOf v4).toNat)
  case atStart => exact ⟨0, Nat.zero_le _, rfl, rfl⟩
  case round =>
    obtain ⟨k, hk, rfl, rfl⟩ := hrel
    by_cases hlt : (k : Int) < n
    · have hz : (ofL (zs k)).size ≤ 1000 := by rw [ofL_size, zs_len]; omega
      have HJ : Hid (ofL (zs k) ++ ⟨#[48]⟩ = ofL (zs (k + 1))) := Lib.hid (by rw [zs_succ, ← add_two]; rfl)
      go_wp2
      go_round
      case rel => exact ⟨k + 1, by omega, by go_num, by rw [HJ.out]⟩
      case measure => simp [intOf]; omega
    · have HE : Hid (n.toNat = k) := Lib.hid (by omega)
      go_wp2
      go_ret
      exact ⟨by rw [HE.out]; rfl, rfl⟩
end Go.Proofs.Yteofkofgdhmpjaa
