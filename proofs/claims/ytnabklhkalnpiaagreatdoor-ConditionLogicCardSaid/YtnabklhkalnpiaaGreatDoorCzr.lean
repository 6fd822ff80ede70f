/- The law ConditionHolds. -/
import Derived.Test.YtnabklhkalnpiaaGreatDoorCzq
namespace Go.Proofs.YtnabklhkalnpiaaGreatDoor
open Go.RowKit
set_option linter.unusedVariables false

theorem cnt_le (m : Nat) : ∀ c : Cnd, (∀ l ∈ c, l.length ≤ m) → cnt c ≤ c.length * m
  | [], _ => by simp [cnt_nil]
  | l :: c, h => by
    have h1 := h l (by simp)
    have h2 := cnt_le m c (fun x hx => h x (by simp [hx]))
    rw [cnt_cons, List.length_cons, Nat.add_mul]
    omega
theorem cnt_few {c : Cnd} (h : c.length ≤ 30) (hl : ∀ l ∈ c, l.length ≤ 140737488355328) : cnt c ≤ 4611686018427387904 := by
  have h1 := cnt_le _ c hl
  have h2 : c.length * 140737488355328 ≤ 30 * 140737488355328 := Nat.mul_le_mul h (Nat.le_refl _)
  omega
set_option maxRecDepth 1000000 in
set_option maxHeartbeats 4000000 in
theorem conditionHolds_walk (c : Cnd) (v : Value) (s : ByteArray) (hs : s.size ≤ maxLen) (w : World) (hv : RdC w v c) (hl : ∀ l ∈ c, l.length ≤ 140737488355328) (E : Env w) :
    Calls Tryz.prog 5 #[v, .string s] w fun e w' => e = .returned (.bool true) ∧ Below w.heap.size w w' := by
  have hm : maxLen = 9223372036854775807 := by decide
  rw [hm] at hs
  have HE := Lib.hid E
  have HV := Lib.hid hv
  have HL := Lib.hid hl
  obtain ⟨a, n, hva, _⟩ := hv.slice
  subst hva
  clear E hv hl
  go_enter Tryz.func5, Tryz.ntmps5
  go_wp2_with fail
  refine (awake_any _ HE.out).mono ?_
  rintro e w1 ⟨rfl, b1⟩
  have B1 := Lib.hid b1
  have E1 := Lib.hid (HE.out.later b1)
  have V1 := Lib.hid (HV.out.below b1)
  clear b1
  go_wp2_with fail
  refine (few_any _ c _ V1.out).mono ?_
  rintro e w2 ⟨⟨bf, rfl, hf⟩, hw2⟩
  obtain rfl := hw2.symm
  have HF := Lib.hid hf
  clear hf hw2
  by_cases h60 : 60 < s.size
  · have q1 : (60 : Int) < (s.size : Int) := by omega
    cases bf with
    | false =>
      go_wp2_with fail
      refine (awake_any _ E1.out).mono ?_
      rintro e w3 ⟨rfl, b3⟩
      have B3 := Lib.hid (st B1.out b3 B1.out.size)
      clear b3
      go_wp2
      go_ret
      exact ⟨rfl, B3.out⟩
    | true =>
      go_wp2_with fail
      refine (awake_any _ E1.out).mono ?_
      rintro e w3 ⟨rfl, b3⟩
      have B3 := Lib.hid (st B1.out b3 B1.out.size)
      clear b3
      go_wp2
      go_ret
      exact ⟨rfl, B3.out⟩
  · have q1 : ¬ (60 : Int) < (s.size : Int) := by omega
    cases bf with
    | false =>
      go_wp2_with fail
      refine (awake_any _ E1.out).mono ?_
      rintro e w3 ⟨rfl, b3⟩
      have B3 := Lib.hid (st B1.out b3 B1.out.size)
      clear b3
      go_wp2
      go_ret
      exact ⟨rfl, B3.out⟩
    | true =>
      obtain ⟨r, hr⟩ : ∃ r, holdR c s.data.toList = r := ⟨_, rfl⟩
      obtain ⟨rb, rn⟩ := r
      have H1 := Lib.hid (holdsC_any _ c s (by omega) w1 V1.out (fun l hx => Nat.le_trans (HL.out l hx) (by decide)))
      rw [hr] at H1
      go_wp2_with fail
      refine H1.out.mono ?_
      rintro e w3 ⟨rfl, b3⟩
      have B3 := Lib.hid (st B1.out b3 B1.out.size)
      have H3 := Lib.hid (refHoldsC_any _ c s (by omega) w3 (V1.out.below b3) (cnt_few (by have := HF.out; simpa using this) HL.out))
      rw [hr] at H3
      clear b3 hr
      go_wp2_with fail
      refine H3.out.mono ?_
      rintro e w4 ⟨rfl, b4⟩
      have B4 := Lib.hid (st B3.out b4 B3.out.size)
      clear b4
      have t1 : (rb == rb) = true := by simp
      have t2 : (rn == rn) = true := by simp
      go_wp2
      go_ret
      exact ⟨rfl, B4.out⟩
end Go.Proofs.YtnabklhkalnpiaaGreatDoor
