/- The law DistanceParts. -/
import Derived.Test.YtbcpeoomkhcgnaaTm
namespace Go.Proofs.Ytbcpeoomkhcgnaa
open Go.RowKit
set_option linter.unusedVariables false

theorem join_data (s t : ByteArray) : (s ++ ⟨#[32]⟩ ++ t).data.toList = s.data.toList ++ 32 :: t.data.toList := by simp
theorem join_size (s t : ByteArray) (f1 : s.size ≤ 1000) (f2 : t.size ≤ 1000) : (s ++ ⟨#[32]⟩ ++ t).size ≤ 100000 := by
  have h := congrArg List.length (join_data s t)
  rw [List.length_append, List.length_cons, len_data, len_data, len_data] at h
  omega
set_option maxRecDepth 1000000 in
set_option maxHeartbeats 2000000 in
theorem distanceParts_walk (s t : ByteArray) (_h1 : s.size ≤ maxLen) (_h2 : t.size ≤ maxLen) (w : World) :
    Calls Try.prog 4 #[.string s, .string t] w fun e w' => e = .returned (.bool true) ∧ Below w.heap.size w w' := by
  go_enter Try.func4, Try.ntmps4
  go_wp2_with fail
  refine (awake_any _).mono ?_
  rintro e w1 ⟨rfl, B1⟩
  have HB := Lib.hid B1
  have z1 := B1.size
  clear B1
  by_cases f1 : s.size ≤ 1000
  case neg =>
    have q1 : (1000 : Int) < (s.size : Int) := by omega
    go_wp2
    go_ret
    exact ⟨rfl, HB.out⟩
  by_cases f2 : t.size ≤ 1000
  case neg =>
    have q1 : ¬ (1000 : Int) < (s.size : Int) := by omega
    have q2 : (1000 : Int) < (t.size : Int) := by omega
    go_wp2
    go_ret
    exact ⟨rfl, HB.out⟩
  have q1 : ¬ (1000 : Int) < (s.size : Int) := by omega
  have q2 : ¬ (1000 : Int) < (t.size : Int) := by omega
  obtain ⟨i0, hi, hz0, hz1, hz2⟩ := info_parts Try.infoT
  have E0 := Lib.hid (own_empty w1 w1.heap.size (Nat.le_refl _))
  have BE : Hid (Below w1.heap.size w1 (w1.alloc (.cells #[] 9))) := Lib.hid ((Below.refl _ w1).alloc (Nat.le_refl _) _)
  go_wp2_with fail
  refine (words_any s (by omega) _).mono ?_
  rintro e w2 ⟨⟨v, rfl, ov⟩, b2⟩
  have O2 := Lib.hid (E0.out.below b2)
  have R2 := Lib.hid (ov.rd encT_len)
  have B2 := Lib.hid (st BE.out b2 BE.out.size)
  have z2 := B2.out.size
  have c1 := words_count s.data.toList
  rw [len_data] at c1
  have c2 := words_count t.data.toList
  rw [len_data] at c2
  clear ov b2 E0 BE
  go_wp2_with (at_builtin; refine wpList_append_rd rfl _ _ 23 rfl w1.heap.size i0 _ 16 Try.underlying23 hi hz0 hz1 hz2 (by omega) rfl (by omega) encT_len encT_one _ [] (words s.data.toList) _ rfl O2.out rfl R2.out (by simp; omega) z2 ?_; intro v3 w3 y1 y2)
  have O3 := Lib.hid y1
  have B3 := Lib.hid (B2.out.trans y2)
  have z3 := B3.out.size
  clear y1 y2 O2 R2 B2 z2
  refine (words_any t (by omega) _).mono ?_
  rintro e w4 ⟨⟨v, rfl, ov⟩, b4⟩
  have O4 := Lib.hid (O3.out.below b4)
  have R4 := Lib.hid (ov.rd encT_len)
  have B4 := Lib.hid (st B3.out b4 z3)
  have z4 := B4.out.size
  clear ov b4 O3 B3 z3
  go_wp2_with (at_builtin; refine wpList_append_rd rfl _ _ 23 rfl w1.heap.size i0 _ 16 Try.underlying23 hi hz0 hz1 hz2 (by omega) rfl (by omega) encT_len encT_one _ ([] ++ words s.data.toList) (words t.data.toList) _ rfl O4.out rfl R4.out (by simp; omega) z4 ?_; intro v5 w5 y1 y2)
  have R5 := Lib.hid (y1.rd encT_len)
  have B5 := Lib.hid (HB.out.trans ((B4.out.trans y2).mono z1))
  have z5 := B5.out.size
  clear y1 y2 O4 R4 B4 z4
  have hsz := join_size s t f1 f2
  have hjd := join_data s t
  obtain ⟨J, hJ⟩ : ∃ J, s ++ ⟨#[32]⟩ ++ t = J := ⟨_, rfl⟩
  rw [hJ] at hsz hjd ⊢
  clear hJ
  refine (words_any J hsz _).mono ?_
  rintro e w6 ⟨⟨v, rfl, ov⟩, b6⟩
  have R6 := Lib.hid (ov.rd encT_len)
  rw [hjd, words_join] at R6
  have R7 := Lib.hid (R5.out.below b6)
  rw [List.nil_append] at R7
  have B6 := Lib.hid (st B5.out b6 z5)
  clear ov b6 R5 B5 z5 hsz hjd
  go_wp2_with fail
  refine (same_yes _ _ _ _ R6.out R7.out).mono ?_
  rintro e w' ⟨rfl, m, rfl⟩
  go_wp2
  go_ret
  exact ⟨rfl, below_drewN B6.out m⟩
end Go.Proofs.Ytbcpeoomkhcgnaa
