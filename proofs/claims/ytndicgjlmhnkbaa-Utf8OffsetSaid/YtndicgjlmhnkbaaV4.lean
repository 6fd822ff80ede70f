/- The walks of Utf8At, Utf8Offset, Utf8First. -/
import Derived.Test.YtndicgjlmhnkbaaV1
import Derived.Test.YtndicgjlmhnkbaaUo
import Derived.OpenShut
namespace Go.Proofs.Ytndicgjlmhnkbaa
open Go.RowKit
set_option linter.unusedVariables false

theorem atV_form (r : Option Ps) : ∃ a b c d : Int, atV r = .tuple #[.agg #[.int .i64 a, .int .i64 b, .int .i64 c], .int .i64 d] := by
  cases r with
  | none => exact ⟨_, _, _, _, rfl⟩
  | some p => exact ⟨_, _, _, _, rfl⟩
theorem offV_form (r : Option Ps) : ∃ a d : Int, offV r = .tuple #[.int .i64 a, .int .i64 d] := by
  cases r with
  | none => exact ⟨_, _, rfl⟩
  | some p => exact ⟨_, _, rfl⟩

set_option maxRecDepth 100000 in
set_option maxHeartbeats 1000000 in
theorem utf8At_walk (s : ByteArray) (off : Int) (hs : s.size ≤ maxLen) (ho : (Lit.int .i64 off).wf = true) (w : World) : Calls Try.prog 7 #[.string s, .int .i64 off] w fun e w' => e = .returned (.bool true) ∧ Below w.heap.size w w' := by
  show Calls _ _ _ _ (AwPost w)
  unfold maxLen at hs
  clear ho
  by_cases hl : 300 < s.size
  · go_enter Try.func7, Try.ntmps7
    go_wp2_with fail
    refine (awake_any _).mono ?_
    rintro e w1 ⟨rfl, hb1⟩
    go_wp2_with fail
    refine (awake_any _).mono ?_
    rintro e w2 ⟨rfl, hb2⟩
    go_wp2
    go_ret
    exact ⟨rfl, bthen hb1 hb2⟩
  · obtain ⟨a, b, c, d, hv⟩ := atV_form (findP (bnds s.data.toList ⟨0, 1, 1⟩) off)
    have Hv := Lib.hid hv; clear hv
    go_enter Try.func7, Try.ntmps7
    go_wp2_with fail
    refine (awake_any _).mono ?_
    rintro e w1 ⟨rfl, hb1⟩
    go_wp2_with fail
    refine (at_any s (by omega) off _).mono ?_
    rw [Hv.out]
    rintro e w2 ⟨rfl, hb2⟩
    have k2 := Blk.new w2 33 #[.int .i64 a, .int .i64 b, .int .i64 c]
    go_wp2_with fail
    refine (refAt_any s (by omega) off _).mono ?_
    rw [Hv.out]
    rintro e w3 ⟨rfl, hb3⟩
    have k3 := k2.below hb3 k2.lt
    have c0 : w3.cell? ⟨w2.heap.size, 0, none⟩ = some (.int .i64 a) := k3.cell 0
    have c1 : w3.cell? ⟨w2.heap.size, 1, none⟩ = some (.int .i64 b) := k3.cell 1
    have c2 : w3.cell? ⟨w2.heap.size, 2, none⟩ = some (.int .i64 c) := k3.cell 2
    have hlt := k3.lt
    have B3 := Lib.hid (bthen (bthen hb1 hb2) (((Below.refl _ w2).alloc (Nat.le_refl _) _).trans (hb3.mono (by simp))))
    have hsz := B3.out.size
    clear k2 k3 hb3
    go_wp2
    go_ret
    exact ⟨rfl, by repeat (first | exact B3.out | refine Below.alloc ?_ (by first | omega | (simp; omega)) _ | refine Below.drew ?_)⟩

set_option maxRecDepth 100000 in
set_option maxHeartbeats 1000000 in
theorem utf8Offset_walk (s : ByteArray) (ln c : Int) (hs : s.size ≤ maxLen) (ho : (Lit.int .i64 ln).wf = true) (ho2 : (Lit.int .i64 c).wf = true) (w : World) : Calls Try.prog 8 #[.string s, .int .i64 ln, .int .i64 c] w fun e w' => e = .returned (.bool true) ∧ Below w.heap.size w w' := by
  show Calls _ _ _ _ (AwPost w)
  unfold maxLen at hs
  clear ho ho2
  by_cases hl : 120 < s.size
  · go_enter Try.func8, Try.ntmps8
    go_wp2_with fail
    refine (awake_any _).mono ?_
    rintro e w1 ⟨rfl, hb1⟩
    go_wp2_with fail
    refine (awake_any _).mono ?_
    rintro e w2 ⟨rfl, hb2⟩
    go_wp2
    go_ret
    exact ⟨rfl, bthen hb1 hb2⟩
  · obtain ⟨a, d, hv⟩ := offV_form (findLC (bnds s.data.toList ⟨0, 1, 1⟩) ln c)
    have Hv := Lib.hid hv; clear hv
    go_enter Try.func8, Try.ntmps8
    go_wp2_with fail
    refine (awake_any _).mono ?_
    rintro e w1 ⟨rfl, hb1⟩
    go_wp2_with fail
    refine (offset_any s (by omega) ln c _).mono ?_
    rw [Hv.out]
    rintro e w2 ⟨rfl, hb2⟩
    go_wp2_with fail
    refine (refOffset_any s ln c _ (by omega)).mono ?_
    rw [Hv.out]
    rintro e w3 ⟨rfl, hb3⟩
    go_wp2
    go_ret
    exact ⟨rfl, bthen (bthen hb1 hb2) hb3⟩

set_option maxRecDepth 100000 in
set_option maxHeartbeats 1000000 in
theorem utf8First_walk (s : ByteArray) (n : Int) (hs : s.size ≤ maxLen) (ho : (Lit.int .i64 n).wf = true) (w : World) : Calls Try.prog 10 #[.string s, .int .i64 n] w fun e w' => e = .returned (.bool true) ∧ Below w.heap.size w w' := by
  show Calls _ _ _ _ (AwPost w)
  unfold maxLen at hs
  have hb := bounds_i64 ho
  clear ho
  by_cases hl : 300 < s.size
  · go_enter Try.func10, Try.ntmps10
    go_wp2_with fail
    refine (awake_any _).mono ?_
    rintro e w1 ⟨rfl, hb1⟩
    go_wp2_with fail
    refine (awake_any _).mono ?_
    rintro e w2 ⟨rfl, hb2⟩
    go_wp2
    go_ret
    exact ⟨rfl, bthen hb1 hb2⟩
  · have hfl := fo_le n.toNat s.data.toList
    rw [len_data] at hfl
    have hct := fo_count n.toNat s.data.toList
    have hex : (s.extract 0 (fo n.toNat s.data.toList)).data.toList = s.data.toList.take (fo n.toNat s.data.toList) := by rw [← ByteArray.toList_eq, toList_ext]
    obtain ⟨t, ht⟩ : ∃ t, s.extract 0 (fo n.toNat s.data.toList) = t := ⟨_, rfl⟩
    have hts : t.size ≤ 300 := by rw [← ht, ByteArray.size_extract]; omega
    rw [← hex, ht] at hct
    have Ht := Lib.hid ht; clear ht hex
    obtain ⟨p, hp⟩ : ∃ p, (elems t.data.toList).length = p := ⟨_, rfl⟩
    obtain ⟨q, hq⟩ : ∃ q, (elems s.data.toList).length = q := ⟨_, rfl⟩
    rw [hp, hq] at hct
    have Hp := Lib.hid hp; clear hp
    have Hq := Lib.hid hq; clear hq
    have hcases : (n < 0 ∧ p = 0) ∨ (0 ≤ n ∧ n ≤ q ∧ (p : Int) = n) ∨ (0 ≤ n ∧ (q : Int) < n ∧ p = q) := by omega
    clear hct
    rcases hcases with ⟨h1, h2⟩ | ⟨h1, h2, h3⟩ | ⟨h1, h2, h3⟩
    · have e1 : ((p : Int) == 0) = true := by rw [h2]; rfl
      clear h2
      go_enter Try.func10, Try.ntmps10
      go_wp2_with fail
      refine (awake_any _).mono ?_
      rintro e w1 ⟨rfl, hb1⟩
      go_wp2_with fail
      refine (first_any s n _ (by omega) (by omega) (by omega)).mono ?_
      unfold FirstPost
      rw [Ht.out]
      rintro e w2 ⟨rfl, hb2⟩
      go_wp2_with fail
      refine (refFirst_any s n _ (by omega) (by omega) (by omega)).mono ?_
      unfold FirstPost
      rw [Ht.out]
      rintro e w3 ⟨rfl, hb3⟩
      go_wp2_with fail
      refine (count_any t _ (by omega)).mono ?_
      rw [Hp.out]
      rintro e w4 ⟨rfl, hb4⟩
      go_wp2_with fail
      refine (count_any s _ (by omega)).mono ?_
      rw [Hq.out]
      rintro e w5 ⟨rfl, hb5⟩
      go_wp2
      go_ret
      exact ⟨rfl, bthen (bthen (bthen (bthen hb1 hb2) hb3) hb4) hb5⟩
    · have e1 : ((p : Int) == n) = true := by rw [h3]; simp
      clear h3
      go_enter Try.func10, Try.ntmps10
      go_wp2_with fail
      refine (awake_any _).mono ?_
      rintro e w1 ⟨rfl, hb1⟩
      go_wp2_with fail
      refine (first_any s n _ (by omega) (by omega) (by omega)).mono ?_
      unfold FirstPost
      rw [Ht.out]
      rintro e w2 ⟨rfl, hb2⟩
      go_wp2_with fail
      refine (refFirst_any s n _ (by omega) (by omega) (by omega)).mono ?_
      unfold FirstPost
      rw [Ht.out]
      rintro e w3 ⟨rfl, hb3⟩
      go_wp2_with fail
      refine (count_any t _ (by omega)).mono ?_
      rw [Hp.out]
      rintro e w4 ⟨rfl, hb4⟩
      go_wp2_with fail
      refine (count_any s _ (by omega)).mono ?_
      rw [Hq.out]
      rintro e w5 ⟨rfl, hb5⟩
      go_wp2
      go_ret
      exact ⟨rfl, bthen (bthen (bthen (bthen hb1 hb2) hb3) hb4) hb5⟩
    · have e1 : ((p : Int) == (q : Int)) = true := by rw [h3]; simp
      have e2 : (p == q) = true := by rw [h3]; simp
      clear h3
      go_enter Try.func10, Try.ntmps10
      go_wp2_with fail
      refine (awake_any _).mono ?_
      rintro e w1 ⟨rfl, hb1⟩
      go_wp2_with fail
      refine (first_any s n _ (by omega) (by omega) (by omega)).mono ?_
      unfold FirstPost
      rw [Ht.out]
      rintro e w2 ⟨rfl, hb2⟩
      go_wp2_with fail
      refine (refFirst_any s n _ (by omega) (by omega) (by omega)).mono ?_
      unfold FirstPost
      rw [Ht.out]
      rintro e w3 ⟨rfl, hb3⟩
      go_wp2_with fail
      refine (count_any t _ (by omega)).mono ?_
      rw [Hp.out]
      rintro e w4 ⟨rfl, hb4⟩
      go_wp2_with fail
      refine (count_any s _ (by omega)).mono ?_
      rw [Hq.out]
      rintro e w5 ⟨rfl, hb5⟩
      go_wp2
      go_ret
      exact ⟨rfl, bthen (bthen (bthen (bthen hb1 hb2) hb3) hb4) hb5⟩
end Go.Proofs.Ytndicgjlmhnkbaa
