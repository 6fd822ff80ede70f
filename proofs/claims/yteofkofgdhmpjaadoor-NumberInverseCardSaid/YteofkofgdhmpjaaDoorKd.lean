/- Of the program: cutDigits, trimEnd, integer. -/
import Derived.Test.YteofkofgdhmpjaaDoorKb
namespace Go.Proofs.YteofkofgdhmpjaaDoor
open Go.RowKit
set_option linter.unusedVariables false

theorem len_data (s : ByteArray) : s.data.toList.length = s.size := Array.length_toList
theorem ext_of (s : ByteArray) (a b : Nat) : s.extract a b = ofL ((s.data.toList.drop a).take (b - a)) := by
  have h : (s.extract a b).data.toList = (s.data.toList.drop a).take (b - a) := by simp [List.extract]
  rw [← h, of_data]
theorem run_go {m n : Nat} {l : Str} (h1 : n < m) (h2 : n < l.length) (h3 : isD l[n] = true) : run (m - n) (l.drop n) = run (m - (n + 1)) (l.drop (n + 1)) + 1 := by
  rw [List.drop_eq_getElem_cons h2, show m - n = (m - (n + 1)) + 1 by omega, run, if_pos h3]
theorem run_stop {m n : Nat} {l : Str} (h : m ≤ n ∨ l.length ≤ n ∨ ∃ h2 : n < l.length, isD l[n] = false) : run (m - n) (l.drop n) = 0 := by
  rcases h with h | h | ⟨h2, h⟩
  · rw [show m - n = 0 by omega]; rfl
  · rw [List.drop_eq_nil_of_le h]; cases m - n <;> rfl
  · rw [List.drop_eq_getElem_cons h2]
    cases m - n with
    | zero => rfl
    | succ k => rw [run, if_neg (by rw [h]; simp)]
theorem u8_lt (c : UInt8) : c.toNat < 256 := c.toNat_lt
theorem mn2 {P : Program} {a b M : Int} (h : (if b < a then b else a) = M) (ts : Array TypeId) (t : TypeId) (wz : World) : (Builtin.min_ ts t #[.int .i64 a, .int .i64 b]).run P wz = .ok (.int .i64 M) wz := by rw [run_min_int2, h]
theorem mx2 {P : Program} {a b M : Int} (h : (if b > a then b else a) = M) (ts : Array TypeId) (t : TypeId) (wz : World) : (Builtin.max_ ts t #[.int .i64 a, .int .i64 b]).run P wz = .ok (.int .i64 M) wz := by rw [run_max_int2, h]
def CutPost (s : Str) (m : Nat) (w : World) (e : Ending) (w' : World) : Prop := ∃ v, e = .returned (.tuple #[v, .string (ofL (s.drop (run m s)))]) ∧ RdB w' v (s.take (run m s)) ∧ (∀ b, v.ownBlock = some b → w.heap.size ≤ b) ∧ Below w.heap.size w w'
set_option maxRecDepth 1000000 in
set_option maxHeartbeats 2000000 in
theorem cutDigits_any (s : ByteArray) (m : Nat) (hs : s.size ≤ 9223372036854775807) (hm : m ≤ 15) (w : World) :
    Calls Tryd.prog 41 #[.string s, .int .i64 (m : Int)] w (CutPost s.data.toList m w) := by
  obtain ⟨M, hM⟩ : ∃ M, min s.size m = M := ⟨_, rfl⟩
  have mn : ∀ (ts : Array TypeId) (t : TypeId) (wz : World), (Builtin.min_ ts t #[.int .i64 (s.size : Int), .int .i64 (m : Int)]).run Tryd.prog wz = .ok (.int .i64 (M : Int)) wz := mn2 (by split <;> omega)
  have HM := Lib.hid hM
  clear hM
  go_enter Tryd.func41, Tryd.ntmps41
  go_wp2
  go_loop [6] (fun v6 => ∃ n : Nat, n ≤ m ∧ n ≤ s.size ∧ v6 = .int .i64 n ∧ n + run (m - n) (s.data.toList.drop n) = run m s.data.toList) (fun v6 => m - (intOf v6).toNat)
  case atStart => exact ⟨0, Nat.zero_le _, Nat.zero_le _, rfl, by rw [Nat.zero_add]; rfl⟩
  case round =>
    obtain ⟨n, hn, hns, rfl, hrun⟩ := hrel
    have HR := Lib.hid hrun
    clear hrun
    have stop : (m ≤ n ∨ s.data.toList.length ≤ n ∨ ∃ h2 : n < s.data.toList.length, isD s.data.toList[n] = false) → Hid (n = run m s.data.toList) := fun h => Lib.hid (by
      have e := HR.out
      rw [run_stop h] at e
      exact e)
    have fin : Hid (n = run m s.data.toList) → CutPost s.data.toList m w (.returned (.tuple #[nbV w.drew 5 (s.extract 0 n), .string (s.extract n s.size)])) (nbW w.drew 5 (s.extract 0 n)) := fun h => by
      have e1 := ext_of s 0 n
      have e2 := ext_of s n s.size
      have hl := len_data s
      have e3 : (s.extract 0 n).data.toList = s.data.toList.take n := by rw [e1, ofL_list]; simp
      have hR := nb_rd w.drew 5 (s.extract 0 n) (by simp; omega)
      rw [e3] at hR
      have hn := h.out
      refine ⟨nbV w.drew 5 (s.extract 0 n), ?_, by rw [← hn]; exact hR, (fun b hb => by cases hb; exact Nat.le_refl _), (Below.refl w.heap.size w).drew.trans (nb_below w.drew _ _)⟩
      rw [e2, ← hn, List.take_of_length_le (by rw [List.length_drop]; omega)]
    have HC := fun wx => conv_nb (P := Tryd.prog) (S := 9) (D := 52) (e := 5) Tryd.underlying9 Tryd.underlying52 Tryd.underlying5 (s.extract 0 n) wx
    have g1 : (n : Int) ≤ (s.size : Int) := by omega
    have g2 : (0 : Int) ≤ (n : Int) := by omega
    have HF := Lib.hid fin
    clear fin
    by_cases h1 : n < M
    · have q1 : (n : Int) < (M : Int) := by omega
      have h2 : n < s.size := by have := HM.out; omega
      have h0 : n < m := by have := HM.out; omega
      have q2 : (n : Int) < (s.size : Int) := by omega
      have hl : n < s.data.toList.length := by rw [len_data]; exact h2
      by_cases h3 : isD (s.data.toList[n]) = true
      · have HG := Lib.hid (run_go h0 hl h3)
        have h4 := isD_iff.1 h3
        have t1 : decide ((48 : Int) ≤ ((s[n]'h2).toNat : Int)) = true := by rw [decide_eq_true_eq]; exact Int.ofNat_le.2 h4.1
        have t2 : decide (((s[n]'h2).toNat : Int) ≤ 57) = true := by rw [decide_eq_true_eq]; exact Int.ofNat_le.2 h4.2
        clear h3 h4 stop HC hl
        go_wp2
        go_round
        case rel => exact ⟨n + 1, h0, h2, by go_num, by rw [← HR.out, HG.out]; omega⟩
        case measure => simp [intOf]; omega
      · have HS := stop (.inr (.inr ⟨hl, by simpa using h3⟩))
        have h4 : (s.data.toList[n]).toNat < 48 ∨ 57 < (s.data.toList[n]).toNat := by
          rw [isD_iff] at h3; omega
        clear h3 stop
        rcases h4 with h4 | h4
        · have t1 : decide ((48 : Int) ≤ ((s[n]'h2).toNat : Int)) = false := by rw [decide_eq_false_iff_not]; intro h; exact absurd (Int.ofNat_le.1 h) (Nat.not_le.2 h4)
          clear h4 hl
          go_wp2_with (go_region)
          go_ret2
          exact HF.out HS
        · have t1 : decide ((48 : Int) ≤ ((s[n]'h2).toNat : Int)) = true := by rw [decide_eq_true_eq]; exact Int.ofNat_le.2 (Nat.le_of_lt (Nat.lt_of_le_of_lt (by decide) h4))
          have t2 : decide (((s[n]'h2).toNat : Int) ≤ 57) = false := by rw [decide_eq_false_iff_not]; intro h; exact absurd (Int.ofNat_le.1 h) (Nat.not_le.2 h4)
          clear h4 hl
          go_wp2_with (go_region)
          go_ret2
          exact HF.out HS
    · have q1 : ¬ (n : Int) < (M : Int) := by omega
      have HS := stop (by have h8 := len_data s; have := HM.out; rcases Nat.lt_or_ge n m with h9 | h9; exact .inr (.inl (by omega)); exact .inl h9)
      clear stop
      go_wp2_with (go_region)
      go_ret2
      exact HF.out HS
end Go.Proofs.YteofkofgdhmpjaaDoor
