/- What the row stands on, part 14. -/
import Derived.Test.YtgogcekeklelmaaGreatDoorQ13

/- Of the reference of layer 11: Number. -/
namespace Go.Proofs.YtgogcekeklelmaaGreatDoor
open Go.RowKit
set_option linter.unusedVariables false

def digB (c : UInt8) : Bool := decide (48 ≤ c.toNat) && decide (c.toNat ≤ 57)
def valN : Nat → List UInt8 → Nat
  | a, [] => a
  | a, c :: l => valN (10 * a + (c.toNat - 48)) l
def numE (a : Nat) (l : List UInt8) : Nat × Bool := if l.all digB = true then (valN a l, true) else (0, false)
/-- The number of a word. -/
def numR (s : List UInt8) : Nat × Bool := if s.length < 1 ∨ 6 < s.length ∨ (1 < s.length ∧ s.head? = some 48) then (0, false) else numE 0 s
theorem numE_nil (a : Nat) : numE a [] = (a, true) := rfl
theorem numE_cons {a : Nat} {c : UInt8} {l : List UInt8} (h : digB c = true) : numE a (c :: l) = numE (10 * a + (c.toNat - 48)) l := by
  unfold numE
  rw [List.all_cons, h, Bool.true_and]
  rfl
theorem numE_bad {a : Nat} {c : UInt8} {l : List UInt8} (h : digB c = false) : numE a (c :: l) = (0, false) := by
  unfold numE
  rw [List.all_cons, h, Bool.false_and, if_neg (by decide)]
def NumI (s : ByteArray) (N : Nat × Bool) (v4 v5 : Value) : Prop := ∃ k a : Nat, k ≤ s.size ∧ v5 = .int .i64 k ∧ v4 = .int .i64 a ∧ a + 1 ≤ 10 ^ k ∧ N = numE a (s.data.toList.drop k)
theorem head_data {s : ByteArray} (h : 0 < s.size) : s.data.toList.head? = some (s[0]'h) := by
  have := data_drop h
  rw [List.drop_zero] at this
  rw [this]
  rfl
theorem u8_48 {c : UInt8} : c = 48 ↔ c.toNat = 48 := ⟨fun h => by rw [h]; rfl, fun h => UInt8.toNat_inj.1 h⟩
set_option maxRecDepth 1000000 in
set_option maxHeartbeats 4000000 in
theorem number_loop (s : ByteArray) (h1 : 1 ≤ s.size) (h6 : s.size ≤ 6) (hz : 1 < s.size → ∀ h : 0 < s.size, (s[0]'h).toNat ≠ 48) (w : World) :
    Calls Tryz.prog 10 #[.string s] w fun e w' => e = .returned (.tuple #[.int .i64 ((numR s.data.toList).1 : Int), .bool (numR s.data.toList).2]) ∧ w' = w := by
  have HN : Hid (numR s.data.toList = numE 0 s.data.toList) := Lib.hid (by
    unfold numR
    rw [if_neg]
    rw [len_data]
    rintro (h | h | ⟨h, h2⟩)
    · omega
    · omega
    · rw [head_data (by omega)] at h2
      injection h2 with h2
      exact hz h (by omega) (u8_48.1 h2))
  obtain ⟨N, hN⟩ : ∃ N, numR s.data.toList = N := ⟨_, rfl⟩
  rw [hN] at HN ⊢
  have z1 : decide ((s.size : Int) < 1) = false := decide_eq_false (by omega)
  have z2 : decide ((6 : Int) < (s.size : Int)) = false := decide_eq_false (by omega)
  have H6 := Lib.hid h6
  have hb : (s.size : Int) ≤ 6 := by omega
  have hcase : (decide ((1 : Int) < (s.size : Int)) = false) ∨ (decide ((1 : Int) < (s.size : Int)) = true ∧ ∃ h : 0 < s.size, ((((s[0]'h).toNat : Nat) : Int) == 48) = false) := by
    by_cases h : 1 < s.size
    · exact .inr ⟨decide_eq_true (by omega), by omega, by rw [beq_eq_false_iff_ne]; have := hz h (by omega); omega⟩
    · exact .inl (decide_eq_false (by omega))
  clear hN hz h1
  have HCASE := hcase
  clear hcase
  have hmain : ∀ (v4 v5 : Value), True := fun _ _ => trivial
  clear hmain
  rcases HCASE with z3 | ⟨z3, z4, z5⟩
  all_goals
    go_enter Tryz.func10, Tryz.ntmps10
    go_wp2
    go_loop [4, 5] (fun v4 v5 => NumI s N v4 v5) (fun _ v5 => s.size - (intOf v5).toNat)
    case atStart => exact ⟨0, 0, Nat.zero_le _, rfl, rfl, Nat.le_refl _, by rw [HN.out, List.drop_zero]⟩
    case round =>
      obtain ⟨k, a, hk, rfl, rfl, ha, hNN⟩ := hrel
      have HNN := Lib.hid hNN
      have HA := Lib.hid ha
      clear hNN ha HN
      by_cases hlt : k < s.size
      · have h9 : (k : Int) < (s.size : Int) := by omega
        have HDC := Lib.hid (data_drop hlt)
        have HP : Hid (10 ^ k ≤ 100000) := Lib.hid (by
          have := Nat.pow_le_pow_right (n := 10) (by omega) (show k ≤ 5 by omega)
          exact this)
        have HSS : Hid (10 ^ (k + 1) = 10 * 10 ^ k) := Lib.hid (by rw [Nat.pow_succ, Nat.mul_comm])
        have hal : a < 100000 := by have := HA.out; have := HP.out; omega
        have HB := Lib.hid (byte_lt (s[k]'hlt))
        by_cases hd : digB (s[k]'hlt) = true
        · have HE := Lib.hid (numE_cons (a := a) (l := s.data.toList.drop (k + 1)) hd)
          unfold digB at hd
          simp only [Bool.and_eq_true, decide_eq_true_eq] at hd
          obtain ⟨d1, d2⟩ := hd
          have t1 : decide (((s[k]'hlt).toNat : Int) < 48) = false := decide_eq_false (by omega)
          have t2 : decide ((57 : Int) < ((s[k]'hlt).toNat : Int)) = false := decide_eq_false (by omega)
          have q1 : (48 : Int) ≤ ((s[k]'hlt).toNat : Int) := Int.ofNat_le.2 d1
          have q2 : ((s[k]'hlt).toNat : Int) ≤ 57 := Int.ofNat_le.2 d2
          have HD1 := Lib.hid d1
          have HD2 := Lib.hid d2
          clear d1 d2
          go_wp2
          go_round
          case rel => exact ⟨k + 1, 10 * a + ((s[k]'hlt).toNat - 48), by omega, by go_num, by have := HD1.out; (first | (congr 1; omega) | go_num), by rw [HSS.out]; have := HA.out; have := HD1.out; have := HD2.out; omega, by rw [HNN.out, HDC.out, HE.out]⟩
          case measure => simp [intOf]; omega
        · have HR : Hid (N = (0, false)) := Lib.hid (by rw [HNN.out, HDC.out, numE_bad (by simpa using hd)])
          have hd2 : (s[k]'hlt).toNat < 48 ∨ (48 ≤ (s[k]'hlt).toNat ∧ 57 < (s[k]'hlt).toNat) := by
            unfold digB at hd
            simp only [Bool.and_eq_true, decide_eq_true_eq] at hd
            omega
          clear hd HNN
          rcases hd2 with d | ⟨d1, d2⟩
          · have t1 : decide (((s[k]'hlt).toNat : Int) < 48) = true := decide_eq_true (by omega)
            clear d
            go_wp2
            go_ret2
            exact ⟨by rw [HR.out]; rfl, rfl⟩
          · have t1 : decide (((s[k]'hlt).toNat : Int) < 48) = false := decide_eq_false (by omega)
            have t2 : decide ((57 : Int) < ((s[k]'hlt).toNat : Int)) = true := decide_eq_true (by omega)
            clear d1 d2
            go_wp2
            go_ret2
            exact ⟨by rw [HR.out]; rfl, rfl⟩
      · have h9 : ¬ (k : Int) < (s.size : Int) := by omega
        have HR : Hid (N = (a, true)) := Lib.hid (by rw [HNN.out, data_end (by omega), numE_nil])
        clear HNN
        go_wp2
        go_ret2
        exact ⟨by rw [HR.out]; rfl, rfl⟩
set_option maxRecDepth 1000000 in
set_option maxHeartbeats 4000000 in
theorem refNumber_any (s : ByteArray) (hs : s.size ≤ 1000000) (w : World) :
    Calls Tryz.prog 10 #[.string s] w fun e w' => e = .returned (.tuple #[.int .i64 ((numR s.data.toList).1 : Int), .bool (numR s.data.toList).2]) ∧ w' = w := by
  have hb : (s.size : Int) ≤ 1000000 := by omega
  have HR : Hid ((s.size < 1 ∨ 6 < s.size ∨ (1 < s.size ∧ ∃ h : 0 < s.size, (s[0]'h).toNat = 48)) → numR s.data.toList = (0, false)) := Lib.hid (fun h => by
    unfold numR
    rw [if_pos]
    rw [len_data]
    rcases h with h | h | ⟨h, h2, h3⟩
    · exact .inl h
    · exact .inr (.inl h)
    · exact .inr (.inr ⟨h, by rw [head_data h2, u8_48.2 h3]⟩))
  by_cases c1 : s.size < 1
  · rw [HR.out (.inl c1)]
    have z1 : decide ((s.size : Int) < 1) = true := decide_eq_true (by omega)
    clear HR c1
    go_enter Tryz.func10, Tryz.ntmps10
    go_wp2
    go_ret2
    exact ⟨rfl, rfl⟩
  by_cases c2 : 6 < s.size
  · rw [HR.out (.inr (.inl c2))]
    have z1 : decide ((s.size : Int) < 1) = false := decide_eq_false (by omega)
    have z2 : decide ((6 : Int) < (s.size : Int)) = true := decide_eq_true (by omega)
    clear HR c1 c2
    go_enter Tryz.func10, Tryz.ntmps10
    go_wp2
    go_ret2
    exact ⟨rfl, rfl⟩
  by_cases c3 : 1 < s.size ∧ ∃ h : 0 < s.size, (s[0]'h).toNat = 48
  · rw [HR.out (.inr (.inr c3))]
    obtain ⟨c3, h0, c4⟩ := c3
    have z1 : decide ((s.size : Int) < 1) = false := decide_eq_false (by omega)
    have z2 : decide ((6 : Int) < (s.size : Int)) = false := decide_eq_false (by omega)
    have z3 : decide ((1 : Int) < (s.size : Int)) = true := decide_eq_true (by omega)
    have z4 : ((((s[0]'h0).toNat : Nat) : Int) == 48) = true := by rw [beq_iff_eq]; omega
    have h00 : (0 : Int) < (s.size : Int) := by omega
    clear HR c1 c2 c3 c4
    go_enter Tryz.func10, Tryz.ntmps10
    go_wp2
    go_ret2
    exact ⟨rfl, rfl⟩
  exact number_loop s (by omega) (by omega) (fun h h0 h1 => c3 ⟨h, h0, h1⟩) w
end Go.Proofs.YtgogcekeklelmaaGreatDoor


