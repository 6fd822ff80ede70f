/- The walks of the laws of layer 1. -/
import Derived.Test.YtndicgjlmhnkbaaUm
namespace Go.Proofs.Ytndicgjlmhnkbaa
open Go.RowKit
set_option linter.unusedVariables false

set_option maxRecDepth 100000 in
set_option maxHeartbeats 1000000 in
theorem utf8Decode_walk (s : ByteArray) (hs : s.size ≤ maxLen) (w : World) : Calls Try.prog 3 #[.string s] w fun e w' => e = .returned (.bool true) ∧ Below w.heap.size w w' := by
  show Calls _ _ _ _ (AwPost w)
  unfold maxLen at hs
  by_cases hl : 300 < s.size
  · go_enter Try.func3, Try.ntmps3
    go_wp2_with fail
    refine (awake_any _).mono ?_
    rintro e w1 ⟨rfl, hb1⟩
    go_wp2_with fail
    refine (awake_any _).mono ?_
    rintro e w2 ⟨rfl, hb2⟩
    go_wp2
    go_ret
    exact ⟨rfl, hb1.trans (hb2.mono hb1.size)⟩
  · go_enter Try.func3, Try.ntmps3
    go_wp2_with fail
    refine (awake_any _).mono ?_
    rintro e w1 ⟨rfl, hb1⟩
    go_wp2_with fail
    refine (refDecode_any s _ (by omega)).mono ?_
    rintro e w2 ⟨v, rfl, hv, hb2⟩
    have Hv := Lib.hid hv; clear hv
    go_wp2_with fail
    refine (decode_any s _ (by omega)).mono ?_
    rintro e w3 ⟨u, rfl, hu, hb3⟩
    have Hu := Lib.hid hu; clear hu
    go_wp2_with fail
    refine (same_yes u v _ _ Hu.out (Hv.out.below hb3)).mono ?_
    rintro e w4 ⟨rfl, n, rfl⟩
    go_wp2_with fail
    refine (count_any s _ (by omega)).mono ?_
    rintro e w5 ⟨rfl, hb5⟩
    obtain ⟨_, ⟨a, c, rfl, _⟩, _⟩ := Hv.out
    have hlen : (elI s.data.toList).length = (elems s.data.toList).length := by unfold elI; rw [List.length_map]
    rw [hlen]
    go_wp2_with fail
    refine (valid_any s _ (by omega)).mono ?_
    rintro e w6 ⟨rfl, hb6⟩
    go_wp2_with fail
    refine (refValid_any s _ (by omega)).mono ?_
    rintro e w7 ⟨rfl, hb7⟩
    go_wp2
    go_ret
    exact ⟨rfl, bthen (bthen (bthen (bdrewN (bthen (bthen hb1 hb2) hb3) n) hb5) hb6) hb7⟩

set_option maxRecDepth 100000 in
set_option maxHeartbeats 1000000 in
theorem utf8Inverse_walk (s : ByteArray) (hs : s.size ≤ maxLen) (w : World) : Calls Try.prog 5 #[.string s] w fun e w' => e = .returned (.bool true) ∧ Below w.heap.size w w' := by
  show Calls _ _ _ _ (AwPost w)
  unfold maxLen at hs
  by_cases hl : 300 < s.size
  · go_enter Try.func5, Try.ntmps5
    go_wp2_with fail
    refine (awake_any _).mono ?_
    rintro e w1 ⟨rfl, hb1⟩
    go_wp2_with fail
    refine (awake_any _).mono ?_
    rintro e w2 ⟨rfl, hb2⟩
    go_wp2
    go_ret
    exact ⟨rfl, bthen hb1 hb2⟩
  · have hle := elI_length s.data.toList
    rw [len_data] at hle
    go_enter Try.func5, Try.ntmps5
    go_wp2_with fail
    refine (awake_any _).mono ?_
    rintro e w1 ⟨rfl, hb1⟩
    go_wp2_with fail
    refine (decode_any s _ (by omega)).mono ?_
    rintro e w2 ⟨v, rfl, hv, hb2⟩
    have Hv := Lib.hid hv; clear hv
    go_wp2_with fail
    refine (encode_any v _ _ Hv.out (by omega)).mono ?_
    rintro e w3 ⟨b, rfl, hb, hb3⟩
    have q := enc_beq_vld hb
    clear hb
    obtain ⟨c, hc⟩ : ∃ c, vld s.data.toList = c := ⟨_, rfl⟩
    rw [hc] at q
    have Hc := Lib.hid hc; clear hc
    go_wp2_with fail
    refine (valid_any s _ (by omega)).mono ?_
    rw [Hc.out]
    rintro e w4 ⟨rfl, hb4⟩
    go_wp2
    go_ret
    exact ⟨rfl, bthen (bthen (bthen hb1 hb2) hb3) hb4⟩
end Go.Proofs.Ytndicgjlmhnkbaa
