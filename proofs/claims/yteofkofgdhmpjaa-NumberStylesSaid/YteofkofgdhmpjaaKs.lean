/- Of the reference: Valid, Text, checked, Normal. -/
import Derived.Test.YteofkofgdhmpjaaKr
namespace Go.Proofs.Yteofkofgdhmpjaa
open Go.RowKit
set_option linter.unusedVariables false

set_option maxRecDepth 1000000 in
set_option maxHeartbeats 2000000 in
theorem refValid_any (s : ByteArray) (hs : s.size ≤ 9223372036854775807) (w : World) : Calls Try.prog 12 #[.string s] w fun e w' => e = .returned (.bool (spl s.data.toList).isSome) ∧ Below w.heap.size w w' := by
  go_enter Try.func12, Try.ntmps12
  go_wp2_with fail
  refine (refSplit_any s hs _).mono ?_
  rintro e w1 ⟨ok, x, rfl, hy, hn, b1⟩
  have HV : Hid (ok = (spl s.data.toList).isSome) := Lib.hid (by
    cases ok with
    | true => rw [hy rfl]; rfl
    | false => rw [hn rfl]; rfl)
  have HB := Lib.hid (b1.alloc b1.size (.cells #[.bool x.neg, .string (ofL x.wh), .string (ofL x.fr)] 45))
  clear hy hn b1
  unfold refN
  go_wp2
  go_ret
  exact ⟨by rw [← HV.out]; rfl, HB.out⟩
theorem add_pre (c : UInt8) (y : Str) : (⟨#[c]⟩ : ByteArray) ++ ofL y = ofL (c :: y) := of_ext (by simp [ofL])
set_option maxRecDepth 1000000 in
set_option maxHeartbeats 4000000 in
theorem refText_any (b : Bool) (wh fr : Str) (l1 : wh.length ≤ 1000) (l2 : fr.length ≤ 1000) (w : World) :
    Calls Try.prog 37 #[.agg #[.bool b, .string (ofL wh), .string (ofL fr)]] w fun e w' => e = .returned (.string (ofL (txt ⟨b && !zero (wh ++ fr), wh, fr⟩))) ∧ Below w.heap.size w w' := by
  have HB := Lib.hid ((Below.refl w.heap.size w).alloc (Nat.le_refl _) (.cells #[.bool b, .string (ofL wh), .string (ofL fr)] 45))
  have s1 : (ofL wh).size ≤ 1000 := by rw [ofL_size]; exact l1
  have s2 : (ofL fr).size ≤ 1000 := by rw [ofL_size]; exact l2
  have e0 : ofL wh ++ ofL fr = ofL (wh ++ fr) := add_two wh fr
  have hZ := zero_any (ofL (wh ++ fr)) (by rw [ofL_size, List.length_append]; omega)
  rw [ofL_list] at hZ
  have HZ := Lib.hid hZ
  clear hZ
  obtain ⟨zb, hzb⟩ : ∃ zb, zero (wh ++ fr) = zb := ⟨_, rfl⟩
  rw [hzb] at HZ ⊢
  clear hzb
  by_cases hf : fr = []
  · have e1 : ((ofL fr).toList == ([] : List UInt8)) = true := by rw [ByteArray.toList_eq, hf]; rfl
    have HT : ∀ nb, Hid (txt ⟨nb, wh, fr⟩ = (if nb = true then [45] else []) ++ wh) := fun nb => Lib.hid (by unfold txt; rw [hf]; simp)
    clear hf
    go_enter Try.func37, Try.ntmps37
    cases b with
    | false =>
      go_wp2
      go_ret
      exact ⟨by rw [Bool.false_and, (HT _).out]; rfl, HB.out⟩
    | true =>
      have e4 : (⟨#[45]⟩ : ByteArray) ++ ofL wh = ofL (45 :: wh) := add_pre 45 wh
      go_wp2_with fail
      refine (HZ.out _).mono ?_
      rintro e w6 ⟨rfl, hw6⟩
      obtain rfl := hw6.symm
      cases zb with
      | true =>
        go_wp2
        go_ret
        exact ⟨by rw [(HT _).out]; rfl, HB.out⟩
      | false =>
        go_wp2
        go_ret
        exact ⟨by rw [(HT _).out]; rfl, HB.out⟩
  · have e1 : ((ofL fr).toList == ([] : List UInt8)) = false := by rw [ByteArray.toList_eq, beq_eq_false_iff_ne]; exact hf
    have e2 : (⟨#[46]⟩ : ByteArray) ++ ofL fr = ofL (46 :: fr) := add_pre 46 fr
    have e3 : ofL wh ++ ofL (46 :: fr) = ofL (wh ++ 46 :: fr) := add_two _ _
    have s3 : (ofL (46 :: fr)).size ≤ 1001 := by rw [ofL_size, List.length_cons]; omega
    have s4 : (ofL (wh ++ 46 :: fr)).size ≤ 2002 := by rw [ofL_size, List.length_append, List.length_cons]; omega
    have HT : ∀ nb, Hid (txt ⟨nb, wh, fr⟩ = (if nb = true then [45] else []) ++ (wh ++ 46 :: fr)) := fun nb => Lib.hid (by unfold txt; dsimp only; rw [if_neg hf])
    clear hf
    go_enter Try.func37, Try.ntmps37
    cases b with
    | false =>
      go_wp2
      go_ret
      exact ⟨by rw [Bool.false_and, (HT _).out]; rfl, HB.out⟩
    | true =>
      have e4 : (⟨#[45]⟩ : ByteArray) ++ ofL (wh ++ 46 :: fr) = ofL (45 :: (wh ++ 46 :: fr)) := add_pre 45 _
      go_wp2_with fail
      refine (HZ.out _).mono ?_
      rintro e w6 ⟨rfl, hw6⟩
      obtain rfl := hw6.symm
      cases zb with
      | true =>
        go_wp2
        go_ret
        exact ⟨by rw [(HT _).out]; rfl, HB.out⟩
      | false =>
        go_wp2
        go_ret
        exact ⟨by rw [(HT _).out]; rfl, HB.out⟩
set_option maxRecDepth 1000000 in
set_option maxHeartbeats 4000000 in
theorem checked_any (b : Bool) (wh fr : Str) (l1 : wh.length ≤ 1000) (l2 : fr.length ≤ 1000) (w : World) :
    Calls Try.prog 24 #[.agg #[.bool b, .string (ofL wh), .string (ofL fr)]] w fun e w' => e = .returned (resV (fin b wh fr)) ∧ Below w.heap.size w w' := by
  obtain ⟨ld, hld⟩ : ∃ ld, lead wh = ld := ⟨_, rfl⟩
  have l3 : ld.length ≤ 1000 := by rw [← hld]; exact Nat.le_trans (lead_len wh) l1
  have hF : fin b wh fr = if 15 < ld.length ∨ 6 < fr.length then none else some (txt ⟨b && !zero (ld ++ fr), ld, fr⟩) := by unfold fin; rw [hld]
  have HF := Lib.hid hF
  have hL := refLead_any wh l1
  rw [hld] at hL
  have HL := Lib.hid hL
  clear hF hL hld
  have HB := Lib.hid ((Below.refl w.heap.size w).alloc (Nat.le_refl _) (.cells #[.bool b, .string (ofL ld), .string (ofL fr)] 45))
  obtain ⟨N1, hN1⟩ : ∃ N, (ofL ld).size = N := ⟨_, rfl⟩
  obtain ⟨N2, hN2⟩ : ∃ N, (ofL fr).size = N := ⟨_, rfl⟩
  have HN1 : Hid (ld.length = N1) := Lib.hid (by rw [← hN1, ofL_size])
  have HN2 : Hid (fr.length = N2) := Lib.hid (by rw [← hN2, ofL_size])
  rw [HN1.out, HN2.out] at HF
  go_enter Try.func24, Try.ntmps24
  go_wp2_with fail
  refine (HL.out _).mono ?_
  rintro e w6 ⟨rfl, hw6⟩
  obtain rfl := hw6.symm
  by_cases h1 : 15 < N1 ∨ 6 < N2
  · have HV : Hid (fin b wh fr = none) := Lib.hid (by rw [HF.out, if_pos h1])
    by_cases h2 : 15 < N1
    · have q1 : decide ((15 : Int) < (N1 : Int)) = true := decide_eq_true (by omega)
      clear h1 h2
      go_wp2
      go_ret2
      exact ⟨by rw [HV.out]; rfl, HB.out⟩
    · have q1 : decide ((15 : Int) < (N1 : Int)) = false := decide_eq_false (by omega)
      have q2 : decide ((6 : Int) < (N2 : Int)) = true := decide_eq_true (by omega)
      clear h1 h2
      go_wp2
      go_ret2
      exact ⟨by rw [HV.out]; rfl, HB.out⟩
  · have HV : Hid (fin b wh fr = some (txt ⟨b && !zero (ld ++ fr), ld, fr⟩)) := Lib.hid (by rw [HF.out, if_neg h1])
    have q1 : decide ((15 : Int) < (N1 : Int)) = false := decide_eq_false (by omega)
    have q2 : decide ((6 : Int) < (N2 : Int)) = false := decide_eq_false (by omega)
    clear h1
    go_wp2_with fail
    refine (refText_any b ld fr l3 l2 _).mono ?_
    rintro e w7 ⟨rfl, b7⟩
    have HB7 := Lib.hid (st HB.out b7 HB.out.size)
    clear b7
    go_wp2
    go_ret2
    exact ⟨by rw [HV.out]; rfl, HB7.out⟩
end Go.Proofs.Yteofkofgdhmpjaa
