/- The reference's Join; the law DistanceWords. -/
import Derived.Test.YtbcpeoomkhcgnaaTp
namespace Go.Proofs.Ytbcpeoomkhcgnaa
open Go.RowKit
set_option linter.unusedVariables false

theorem of_ext {a b : ByteArray} (h : a.data.toList = b.data.toList) : a = b := by rw [← of_data a, ← of_data b, h]
theorem add_space (x y : Str) : ofL x ++ ⟨#[32]⟩ ++ ofL y = ofL (x ++ 32 :: y) := of_ext (by rw [join_data', ofL_list, ofL_list, ofL_list])
where join_data' : (ofL x ++ ⟨#[32]⟩ ++ ofL y).data.toList = (ofL x).data.toList ++ 32 :: (ofL y).data.toList := by simp
theorem add_empty (y : Str) : (⟨#[]⟩ : ByteArray) ++ ofL y = ofL y := of_ext (by simp)
theorem take_ne {l : List Str} {k : Nat} (h0 : 0 < k) (hk : k < l.length) : l.take k ≠ [] := by
  intro e
  have h3 : (l.take k).length = k := by rw [List.length_take]; omega
  rw [e] at h3
  simp at h3
  omega
theorem len_flat : ∀ (l : List Str) (y : Str), y ∈ l → y.length ≤ l.flatten.length
  | x :: l, y, h => by
    rw [List.flatten_cons, List.length_append]
    rcases List.mem_cons.1 h with rfl | h
    · omega
    · have := len_flat l y h; omega
set_option maxRecDepth 1000000 in
set_option maxHeartbeats 2000000 in
theorem join_any (v : Value) (l : List Str) (w : World) (hv : Rd 1 encT w v l) (hl : l.flatten.length + l.length ≤ 100000) :
    Calls Try.prog 14 #[v] w fun e w' => e = .returned (.string (ofL (jnS l))) ∧ w' = w := by
  obtain ⟨a, c, rfl, hc1, hc2⟩ := hv.slice
  have HV := Lib.hid hv
  clear hv
  go_enter Try.func14, Try.ntmps14
  go_wp2
  go_loopw [3, 4] (fun v3 v4 wr => ∃ k : Nat, k ≤ l.length ∧ v4 = .int .i64 k ∧ v3 = .string (ofL (jnS (l.take k))) ∧ wr = w) (fun _ v4 _ => l.length - (intOf v4).toNat)
  case atStart => exact ⟨0, Nat.zero_le _, rfl, rfl, rfl⟩
  case round =>
    obtain ⟨k, hk, rfl, rfl, hwr⟩ := hrel
    obtain rfl := hwr.symm
    by_cases hlt : k < l.length
    · obtain ⟨b, o, rfl, s0⟩ := HV.out.str k hlt
      have h1 : (k : Int) < (l.length : Int) := by omega
      have HT := Lib.hid (take_next hlt)
      obtain ⟨y, hy⟩ : ∃ y, l[k] = y := ⟨_, rfl⟩
      rw [hy] at s0 HT
      have HY := Lib.hid hy
      obtain ⟨x, hx⟩ : ∃ x, jnS (l.take k) = x := ⟨_, rfl⟩
      have HX := Lib.hid hx
      have hsx : (ofL x).size ≤ 100000 := by rw [ofL_size, ← hx]; exact Nat.le_trans (jnS_take_le l k) hl
      have hsy : (ofL y).size ≤ 100000 := by rw [ofL_size, ← hy]; exact Nat.le_trans (len_flat l _ (List.getElem_mem hlt)) (by omega)
      rw [hx]
      clear hy hx
      rcases Nat.eq_zero_or_pos k with h0 | h0
      · subst h0
        rw [Nat.add_zero] at s0
        have HJ : Hid (ofL x ++ ofL y = ofL (jnS (l.take (0 + 1)))) := Lib.hid (by
          have hx0 : x = [] := by rw [← HX.out]; rfl
          rw [HT.out, List.take_zero, List.nil_append, show jnS [y] = y by simp [jnS], hx0]
          exact of_ext (by simp [ofL]))
        go_wp2
        go_roundw
        case rel => exact ⟨1, by omega, by go_num, by rw [HJ.out], by trivial⟩
        case measure => simp [intOf]; omega
      · have h2 : (0 : Int) < (k : Int) := by omega
        have HJ : Hid (ofL x ++ ⟨#[32]⟩ ++ ofL y = ofL (jnS (l.take (k + 1)))) := Lib.hid (by
          rw [add_space, HT.out, jnS_snoc, if_neg (take_ne h0 hlt), HX.out])
        go_wp2
        go_roundw
        case rel => exact ⟨k + 1, by omega, by go_num, by rw [HJ.out], by trivial⟩
        case measure => simp [intOf]; omega
    · obtain rfl : k = l.length := by omega
      have h1 : ¬ (l.length : Int) < (l.length : Int) := by omega
      rw [List.take_length]
      go_wp2
      go_ret
      exact ⟨rfl, rfl⟩
set_option maxRecDepth 1000000 in
set_option maxHeartbeats 2000000 in
theorem distanceWords_walk (s : ByteArray) (_h1 : s.size ≤ maxLen) (w : World) :
    Calls Try.prog 3 #[.string s] w fun e w' => e = .returned (.bool true) ∧ Below w.heap.size w w' := by
  clear _h1
  go_enter Try.func3, Try.ntmps3
  go_wp2_with fail
  refine (awake_any _).mono ?_
  rintro e w1 ⟨rfl, B1⟩
  have HB := Lib.hid B1
  have z1 := B1.size
  clear B1
  by_cases f1 : s.size ≤ 2000
  case neg =>
    have q1 : (2000 : Int) < (s.size : Int) := by omega
    go_wp2
    go_ret
    exact ⟨rfl, HB.out⟩
  have q1 : ¬ (2000 : Int) < (s.size : Int) := by omega
  go_wp2_with fail
  refine (words_any s (by omega) _).mono ?_
  rintro e w2 ⟨⟨v, rfl, ov⟩, b2⟩
  have R2 := Lib.hid (ov.rd encT_len)
  have B2 := Lib.hid (st HB.out b2 z1)
  have z2 := B2.out.size
  clear ov b2 HB z1
  go_wp2_with fail
  refine (refWords_any s (by omega) _).mono ?_
  rintro e w3 ⟨⟨u, rfl, ou⟩, b3⟩
  have U3 := Lib.hid (ou.rd encT_len)
  have R3 := Lib.hid (R2.out.below b3)
  have B3 := Lib.hid (st B2.out b3 z2)
  have z3 := B3.out.size
  clear ou b3 B2 z2 R2
  go_wp2_with fail
  refine (same_yes _ _ _ _ R3.out U3.out).mono ?_
  rintro e w' ⟨rfl, m, rfl⟩
  have R4 := Lib.hid (R3.out.drewN m)
  have B4 := Lib.hid (below_drewN B3.out m)
  have z4 := B4.out.size
  obtain ⟨W, hW⟩ : ∃ W, w3.drewN m = W := ⟨_, rfl⟩
  rw [hW] at R4 B4 z4 ⊢
  clear hW R3 U3 B3 z3
  have l1 := words_flat s.data.toList
  have l2 := words_count s.data.toList
  rw [len_data] at l1 l2
  have l3 := jnS_len (words s.data.toList)
  have HWJ := Lib.hid (words_jnS _ (words_isW s.data.toList))
  go_wp2_with fail
  refine (join_any _ _ _ R4.out (by omega)).mono ?_
  rintro e w' ⟨rfl, hw'⟩
  obtain rfl := hw'.symm
  go_wp2_with fail
  refine (words_any (ofL (jnS (words s.data.toList))) (by rw [ofL_size]; omega) _).mono ?_
  rintro e w5 ⟨⟨u, rfl, ou⟩, b5⟩
  have U5 := Lib.hid (ou.rd encT_len)
  rw [ofL_list, HWJ.out] at U5
  have R5 := Lib.hid (R4.out.below b5)
  have B5 := Lib.hid (st B4.out b5 z4)
  clear ou b5 B4 z4 R4
  go_wp2_with fail
  refine (same_yes _ _ _ _ U5.out R5.out).mono ?_
  rintro e w' ⟨rfl, m2, rfl⟩
  go_wp2
  go_ret
  exact ⟨rfl, below_drewN B5.out m2⟩
end Go.Proofs.Ytbcpeoomkhcgnaa
