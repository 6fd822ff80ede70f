/- Valid of the specification. -/
import Derived.Test.YtndicgjlmhnkbaaUg
namespace Go.Proofs.Ytndicgjlmhnkbaa
open Go.RowKit
set_option linter.unusedVariables false

theorem cp_of {n : Int} (h : Utf8.valid n = true) : cp n = n := if_pos h
theorem encL_elI_cons (l : List UInt8) (h : l ≠ []) : encL (elI l) = enc (dl l).1 ++ encL (elI (l.drop (dl l).2)) := by
  rw [elI_cons l h, encL_cons, cp_of (dl_valid l)]
theorem enc_elI (l : List UInt8) : encL (elI l) = l ↔ vld l = true := by
  generalize hn : l.length = n
  induction n using Nat.strongRecOn generalizing l with
  | ind n ih =>
    by_cases h : l = []
    · subst h; rw [elI_nil, encL_nil, vld_nil]; simp
    · have h0 : 0 < l.length := List.length_pos_iff.2 h
      have hw := dl_width l
      have hl : (l.drop (dl l).2).length < n := by rw [List.length_drop]; omega
      have hi := ih _ hl (l.drop (dl l).2) rfl
      rw [encL_elI_cons l h, vld_cons l h, Bool.and_eq_true, bne_iff_ne]
      by_cases hb : dl l = (0xFFFD, 1)
      · constructor
        · intro he
          have h2 := dl_enc 65533 (by decide) (encL (elI (l.drop (dl l).2)))
          have h3 : enc ((dl l).1 : Int) = enc 65533 := by rw [hb]; rfl
          rw [h3] at he
          rw [he, hb, encFFFD] at h2
          exact absurd h2 (by decide)
        · intro hc; exact absurd hb hc.1
      · have he := enc_dl l h hb
        rw [he]
        constructor
        · intro hc
          refine ⟨hb, hi.1 ?_⟩
          have := (List.take_append_drop (dl l).2 l).symm
          rw [this] at hc
          rw [List.take_append_drop] at hc
          have h4 : l.take (dl l).2 ++ encL (elI (l.drop (dl l).2)) = l.take (dl l).2 ++ l.drop (dl l).2 := by rw [List.take_append_drop]; exact hc
          exact List.append_cancel_left h4
        · intro hc
          rw [hi.2 hc.2, List.take_append_drop]
theorem enc_beq_vld {b : ByteArray} {s : ByteArray} (h : b.data.toList = encL (elI s.data.toList)) : (b.toList == s.toList) = vld s.data.toList := by
  rw [ByteArray.toList_eq, ByteArray.toList_eq, h, Bool.eq_iff_iff, beq_iff_eq]
  exact enc_elI _

set_option maxRecDepth 1000000 in
set_option maxHeartbeats 400000 in
theorem refValid_any (s : ByteArray) (w : World) (hs : s.size ≤ 281474976710656 / 64) :
    Calls Try.prog 17 #[.string s] w fun e w' => e = .returned (.bool (vld s.data.toList)) ∧ Below w.heap.size w w' := by
  have hl : (elI s.data.toList).length ≤ s.size := by have := elI_length s.data.toList; rw [len_data] at this; exact this
  go_enter Try.func17, Try.ntmps17
  go_wp2_with fail
  refine (refDecode_any s w (by omega)).mono ?_
  rintro e w1 ⟨v, rfl, hv, hb1⟩
  have Hv := Lib.hid hv; clear hv
  go_wp2_with fail
  refine (refEncode_any v _ w1 Hv.out (by omega)).mono ?_
  rintro e w2 ⟨b, rfl, hb, hb2⟩
  have Hb := Lib.hid hb; clear hb
  go_wp2
  go_ret
  exact ⟨ret_bool (enc_beq_vld Hb.out), hb1.trans (hb2.mono hb1.size)⟩
end Go.Proofs.Ytndicgjlmhnkbaa
