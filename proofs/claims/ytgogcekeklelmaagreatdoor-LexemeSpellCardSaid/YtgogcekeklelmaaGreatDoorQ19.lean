/- What the row stands on, part 19. -/
import Derived.Lib.AtoiAllCases
import Derived.Lib.AtoiErrMem
import Derived.Test.YtgogcekeklelmaaGreatDoorQ18

/- Of the program of layer 11: Number. -/
namespace Go.Proofs.YtgogcekeklelmaaGreatDoor
open Go.RowKit
set_option linter.unusedVariables false

theorem runN_all (p : UInt8 → Bool) : ∀ l : List UInt8, (runN p l = l.length) = (l.all p = true)
  | [] => by simp [runN]
  | c :: l => by
    have ih := runN_all p l
    rw [runN, List.all_cons, List.length_cons]
    by_cases h : p c = true
    · rw [if_pos h, h, Bool.true_and, ← ih]
      exact propext ⟨fun e => by omega, fun e => by omega⟩
    · rw [if_neg h, Bool.eq_false_iff.2 h, Bool.false_and]
      exact propext ⟨fun e => by omega, fun e => by cases e⟩
theorem parse_ok : ∀ (l : List UInt8) (acc k : Nat), l.all digB = true → acc + 1 ≤ 10 ^ k → k + l.length ≤ 12 → Lib.parseUint10 acc l = .ok (valN acc l) ∧ valN acc l + 1 ≤ 10 ^ (k + l.length)
  | [], acc, k, _, h, _ => ⟨rfl, h⟩
  | c :: l, acc, k, ha, h, hk => by
    rw [List.all_cons, Bool.and_eq_true] at ha
    obtain ⟨hc, hl⟩ := ha
    unfold digB at hc
    simp only [Bool.and_eq_true, decide_eq_true_eq] at hc
    rw [List.length_cons] at hk
    have hp : 10 ^ k ≤ 10 ^ 12 := Nat.pow_le_pow_right (by omega) (by omega)
    have hp12 : (10 : Nat) ^ 12 = 1000000000000 := by decide
    have hs : (10 : Nat) ^ (k + 1) = 10 * 10 ^ k := by rw [Nat.pow_succ, Nat.mul_comm]
    have e1 : acc * 10 + (c.toNat - 48) = 10 * acc + (c.toNat - 48) := by omega
    have ih := parse_ok l (10 * acc + (c.toNat - 48)) (k + 1) hl (by omega) (by omega)
    rw [Lib.parseUint10, if_pos hc, if_neg (by omega), if_neg (by omega), e1, List.length_cons, show k + (l.length + 1) = k + 1 + l.length by omega]
    exact ih
theorem atoi_ok {l : List UInt8} (h : l.all digB = true) (h0 : l ≠ []) (h6 : l.length ≤ 6) : Lib.atoiAll l = .ok (valN 0 l : Int) := by
  obtain ⟨h1, h2⟩ := parse_ok l 0 0 h (by decide) (by omega)
  have hp : (10 : Nat) ^ (0 + l.length) ≤ 10 ^ 12 := Nat.pow_le_pow_right (by omega) (by omega)
  have hp12 : (10 : Nat) ^ 12 = 1000000000000 := by decide
  cases l with
  | nil => exact absurd rfl h0
  | cons c r =>
    have hc : digB c = true := by rw [List.all_cons, Bool.and_eq_true] at h; exact h.1
    unfold digB at hc
    simp only [Bool.and_eq_true, decide_eq_true_eq] at hc
    rw [Lib.atoiAll_plain c r (by omega) (by omega)]
    have hm : Lib.parseMag (c :: r) = .ok (valN 0 (c :: r)) := by
      unfold Lib.parseMag
      rw [if_neg (by simp)]
      exact h1
    rw [hm]
    unfold Lib.signless
    dsimp only
    rw [if_neg (by omega)]
theorem dig_eq : isDgt = digB := rfl
theorem atoiP_any (s : ByteArray) (h : s.data.toList.all digB = true) (h0 : s.size ≠ 0) (h6 : s.size ≤ 6) (w : World) :
    Calls Tryz.prog 22 #[.string s] w fun e w' => e = .returned (.tuple #[.int .i64 (valN 0 s.data.toList : Nat), .nilIface]) ∧ Below w.heap.size w w' := by
  refine (Tryz.strconv_Atoi_ok s (by omega) _ (atoi_ok h (fun e => h0 (by rw [← len_data, e]; rfl)) (by rw [len_data]; exact h6)) w).mono ?_
  rintro e w' ⟨h1, h2⟩
  refine ⟨h1, ?_⟩
  rcases h2 with rfl | ⟨t, rfl⟩
  · exact Below.refl _ _
  · exact Lib.bytesWorld_below _ _ _
set_option maxRecDepth 1000000 in
set_option maxHeartbeats 8000000 in
theorem numberP_any (s : ByteArray) (w : World) (hs : s.size ≤ 10000000) :
    Calls Tryz.prog 9 #[.string s] w fun e w' => e = .returned (.tuple #[.int .i64 ((numR s.data.toList).1 : Int), .bool (numR s.data.toList).2]) ∧ Below w.heap.size w w' := by
  have hsi : (s.size : Int) ≤ 10000000 := by omega
  have HN : Hid (numR s.data.toList = if s.size < 1 ∨ 6 < s.size ∨ (1 < s.size ∧ s.data.toList.head? = some 48) then (0, false) else numE 0 s.data.toList) := Lib.hid (by unfold numR; rw [len_data])
  obtain ⟨N, hN⟩ : ∃ N, numR s.data.toList = N := ⟨_, rfl⟩
  rw [hN] at HN ⊢
  clear hN
  by_cases h0 : s.size = 0
  · have e0 : s.data.toList = [] := List.eq_nil_of_length_eq_zero (by rw [len_data]; exact h0)
    have HF : Hid (N = (0, false)) := Lib.hid (by rw [HN.out, if_pos (.inl (by omega))])
    have e1 : s.toList = [] := by rw [ByteArray.toList_eq]; exact e0
    have z1 : (s.toList == ([] : List UInt8)) = true := by rw [e1]; rfl
    have z2 : s.toList.isEmpty = true := by rw [e1]; rfl
    clear h0 e0 e1 HN
    go_enter Tryz.func9, Tryz.ntmps9
    go_wp2
    go_ret2
    rw [HF.out]
    exact ⟨rfl, Below.refl _ _⟩
  have e0 : s.data.toList ≠ [] := fun e => h0 (by rw [← len_data, e]; rfl)
  have z1 : (s.toList == ([] : List UInt8)) = false := by rw [beq_eq_false_iff_ne, ByteArray.toList_eq]; exact e0
  have z2 : s.toList.isEmpty = false := by rw [ByteArray.toList_eq]; cases h : s.data.toList with | nil => exact absurd h e0 | cons _ _ => rfl
  by_cases h6 : 6 < s.size
  · have HF : Hid (N = (0, false)) := Lib.hid (by rw [HN.out, if_pos (.inr (.inl h6))])
    have z3 : decide ((6 : Int) < (s.size : Int)) = true := decide_eq_true (by omega)
    have z4 : decide (6 < s.size) = true := decide_eq_true h6
    clear h0 h6 e0 HN
    go_enter Tryz.func9, Tryz.ntmps9
    go_wp2
    go_ret2
    rw [HF.out]
    exact ⟨rfl, Below.refl _ _⟩
  have z3 : decide ((6 : Int) < (s.size : Int)) = false := decide_eq_false (by omega)
  have z4 : decide (6 < s.size) = false := decide_eq_false h6
  have hp : 0 < s.size := by omega
  have hpi : (0 : Int) < (s.size : Int) := by omega
  have hhd := head_data hp
  have HP := Lib.hid (fun w => show Calls Tryz.prog 21 #[.string s, .int .i64 0, .string ⟨#[48, 49, 50, 51, 52, 53, 54, 55, 56, 57]⟩] w _ from pass_any digitsL isDgt run_digit s 0 (Nat.zero_le _) (by omega) w)
  rw [List.drop_zero, Nat.zero_add] at HP
  have hra := runN_all isDgt s.data.toList
  rw [len_data, dig_eq] at hra
  have hrl := runN_le isDgt s.data.toList
  rw [len_data] at hrl
  by_cases hall : s.data.toList.all digB = true
  case neg =>
    have hlt : runN isDgt s.data.toList < s.size := by
      rcases Nat.lt_or_ge (runN isDgt s.data.toList) s.size with h | h
      · exact h
      · exact absurd (by rw [← hra]; rw [dig_eq] at h hrl; omega) hall
    have HF : Hid (N = (0, false)) := Lib.hid (by
      rw [HN.out]
      split
      · rfl
      · unfold numE; rw [if_neg hall])
    obtain ⟨n, hn⟩ : ∃ n, runN isDgt s.data.toList = n := ⟨_, rfl⟩
    rw [hn] at HP hlt
    have z5 : (n : Int) < (s.size : Int) := by omega
    clear h0 h6 e0 HN hra hrl hall hn hhd
    go_enter Tryz.func9, Tryz.ntmps9
    go_wp2_with fail
    refine (HP.out _).mono ?_
    rintro e w2 ⟨rfl, hw2⟩
    obtain rfl := hw2.symm
    clear hw2
    go_wp2
    go_ret2
    rw [HF.out]
    exact ⟨rfl, Below.refl _ _⟩
  have hrs : runN isDgt s.data.toList = s.size := by rw [dig_eq, hra]; exact hall
  rw [hrs] at HP
  have z5 : ¬ (s.size : Int) < (s.size : Int) := by omega
  have HAT := Lib.hid (atoiP_any s hall h0 (by omega))
  by_cases hc : (s[0]'hp).toNat = 48
  · have y1 : ((((s[0]'hp).toNat : Nat) : Int) == 48) = true := by rw [beq_iff_eq]; omega
    by_cases hs1 : s.size = 1
    · have e1 : s.data.toList = [48] := by
        have e := data_drop (s := s) (k := 0) hp
        rw [List.drop_zero, data_end (by omega)] at e
        rw [e, u8_48.2 hc]
      have z6 : (s.toList == ([48] : List UInt8)) = true := by rw [ByteArray.toList_eq, e1]; rfl
      have z7 : (s.toList != ([48] : List UInt8)) = false := by rw [bne, z6]; rfl
      have HF : Hid (N = (valN 0 s.data.toList, true)) := Lib.hid (by rw [HN.out, if_neg (by rintro (h | h | ⟨h, _⟩) <;> omega)]; unfold numE; rw [if_pos hall])
      obtain ⟨V, hV⟩ : ∃ V, valN 0 s.data.toList = V := ⟨_, rfl⟩
      rw [hV] at HF HAT
      clear h0 h6 e0 HN hra hrl hall hhd hrs hc hs1 e1 hV
      go_enter Tryz.func9, Tryz.ntmps9
      go_wp2_with fail
      refine (HP.out _).mono ?_
      rintro e w2 ⟨rfl, hw2⟩
      obtain rfl := hw2.symm
      clear hw2
      go_wp2_with fail
      refine (HAT.out _).mono ?_
      rintro e w2 ⟨rfl, b2⟩
      have HB2 := Lib.hid b2
      clear b2
      go_wp2_with fail
      go_quiet (fail)
      go_wp2
      go_ret2
      rw [HF.out]
      exact ⟨rfl, below_drewN HB2.out _⟩
    · have hne : s.data.toList ≠ [48] := fun e => hs1 (by rw [← len_data, e]; rfl)
      have z6 : (s.toList == ([48] : List UInt8)) = false := by rw [beq_eq_false_iff_ne, ByteArray.toList_eq]; exact hne
      have z7 : (s.toList != ([48] : List UInt8)) = true := by rw [bne, z6]; rfl
      have HF : Hid (N = (0, false)) := Lib.hid (by rw [HN.out, if_pos (.inr (.inr ⟨by omega, by rw [hhd, u8_48.2 hc]⟩))])
      clear h0 h6 e0 HN hra hrl hall hhd hrs hc hs1 hne
      go_enter Tryz.func9, Tryz.ntmps9
      go_wp2_with fail
      refine (HP.out _).mono ?_
      rintro e w2 ⟨rfl, hw2⟩
      obtain rfl := hw2.symm
      clear hw2
      go_wp2
      go_ret2
      rw [HF.out]
      exact ⟨rfl, Below.refl _ _⟩
  · have y1 : ((((s[0]'hp).toNat : Nat) : Int) == 48) = false := by rw [beq_eq_false_iff_ne]; omega
    have HF : Hid (N = (valN 0 s.data.toList, true)) := Lib.hid (by
      rw [HN.out, if_neg (by
        rintro (h | h | ⟨_, h⟩)
        · omega
        · omega
        · rw [hhd] at h
          injection h with h
          exact hc (u8_48.1 h))]
      unfold numE
      rw [if_pos hall])
    obtain ⟨V, hV⟩ : ∃ V, valN 0 s.data.toList = V := ⟨_, rfl⟩
    rw [hV] at HF HAT
    clear h0 h6 e0 HN hra hrl hall hhd hrs hc hV
    go_enter Tryz.func9, Tryz.ntmps9
    go_wp2_with fail
    refine (HP.out _).mono ?_
    rintro e w2 ⟨rfl, hw2⟩
    obtain rfl := hw2.symm
    clear hw2
    go_wp2_with fail
    refine (HAT.out _).mono ?_
    rintro e w2 ⟨rfl, b2⟩
    have HB2 := Lib.hid b2
    clear b2
    go_wp2_with fail
    go_quiet (fail)
    go_wp2
    go_ret2
    rw [HF.out]
    exact ⟨rfl, below_drewN HB2.out _⟩
theorem numC (EV : World → Prop) : NumC EV := fun s w hs _ => numberP_any s w hs
end Go.Proofs.YtgogcekeklelmaaGreatDoor


