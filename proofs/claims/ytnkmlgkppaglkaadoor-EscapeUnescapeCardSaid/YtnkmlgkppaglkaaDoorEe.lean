/- Escape. -/
import Derived.Test.YtnkmlgkppaglkaaDoorEd
namespace Go.Proofs.YtnkmlgkppaglkaaDoor
open Go.RowKit
set_option linter.unusedVariables false

def StrPost (w : World) (l : List UInt8) (e : Ending) (w' : World) : Prop := e = .returned (.string ⟨l.toArray⟩) ∧ Below w.heap.size w w'
theorem byt_get (s : ByteArray) (k : Nat) (h : k < s.size) : (s[k]'h).toNat = byt s.data.toList k := by
  unfold byt
  rw [List.getElem?_eq_getElem (show k < s.data.toList.length from by simpa using h)]
  rfl

def EscRel (st : Nat) (s : ByteArray) (w : World) (i c : Value) (wr : World) : Prop :=
  ∃ (k : Nat), i = .int .i64 k ∧ k ≤ s.size ∧ Bld w.heap.size (escL st (s.data.toList.take k)) wr ∧ Below w.heap.size w wr
theorem esc_step {st : Nat} {s : ByteArray} {w wr w1 : World} {k : Nat} {c : Value} (hk : k < s.size) (hB : Below w.heap.size w wr) {l : List UInt8} {f : Bool} (hl : l = escOne st (s[k]'hk).toNat f) (hf : f = decide (k = 0))
    (hb : Bld w.heap.size (escL st (s.data.toList.take k) ++ l) w1) (hD : Below w.heap.size wr w1) : EscRel st s w (.int .i64 (k + 1)) c w1 := by
  refine ⟨k + 1, by go_num, hk, ?_, hB.trans hD⟩
  rw [escL_snoc st _ k (by simpa using hk), ← byt_get s k hk, ← hf, ← hl]
  exact hb
theorem escOne4 (n : Nat) (f : Bool) : escOne 4 n f = entL n := if_pos rfl
theorem escOneT {st n : Nat} {f : Bool} (h : st ≠ 4) (h1 : tb st n f = true) : escOne st n f = [92] ++ [UInt8.ofNat (ltr n)] := by unfold escOne; rw [if_neg h, if_pos h1]
theorem escOneC {st n : Nat} {f : Bool} (h : st ≠ 4) (h1 : tb st n f = false) (h2 : ctl n = true) : escOne st n f = hexL st n := by unfold escOne; rw [if_neg h, if_neg (by simp [h1]), if_pos h2]
theorem escOneP {st n : Nat} {f : Bool} (h : st ≠ 4) (h1 : tb st n f = false) (h2 : ctl n = false) : escOne st n f = [UInt8.ofNat n] := by unfold escOne; rw [if_neg h, if_neg (by simp [h1]), if_neg (by simp [h2])]
theorem ltr_lt (n : Nat) (h : n < 256) : ltr n < 256 := by
  unfold ltr
  repeat' split
  all_goals omega

set_option maxRecDepth 1000000 in
set_option maxHeartbeats 400000 in
theorem escape_st (st : Nat) (s : ByteArray) (w : World) (E : Env w) (hs : s.size ≤ 68719476736) (hst : st = 1 ∨ st = 2 ∨ st = 3 ∨ st = 4) :
    Calls Tryd.prog 11 #[.int .i64 st, .string s] w (StrPost w (escL st s.data.toList)) := by
  have his : isSt st = true := by unfold isSt; simp; omega
  go_enter Tryd.func11, Tryd.ntmps11
  go_wp2_with fail
  refine (isStyle_any _ _).mono ?_
  rintro e w' ⟨rfl, rfl⟩
  rw [his]
  clear his
  go_wp2
  go_loopw [6, 7] (fun i c wr => EscRel st s w i c wr) (fun i _ _ => s.size - (intOf i).toNat)
  case atStart => exact ⟨0, rfl, Nat.zero_le _, by simpa [escL, escF] using Bld.fresh w, (Below.refl _ _).alloc (Nat.le_refl _) _⟩
  case round =>
    obtain ⟨k, rfl, hk, hb, hB⟩ := hrel
    have hlen : (escL st (s.data.toList.take k)).length ≤ 6 * s.size := by
      have := escL_len st (s.data.toList.take k)
      rw [List.length_take] at this
      have h2 : s.data.toList.length = s.size := by simp
      omega
    by_cases hlt : k < s.size
    · have hn : (s[k]'hlt).toNat < 256 := (s[k]'hlt).toNat_lt
      have H := Lib.hid hb; clear hb
      have hB' := Lib.hid hB
      have E' := Lib.hid (E.below hB)
      clear hB
      have hf : ((k : Int) == 0) = decide (k = 0) := by
        cases k <;> simp
        omega
      by_cases h4 : st = 4
      · have e4 : ((st : Int) == 4) = true := by simp; omega
        have H4 := Lib.hid h4
        clear h4 hst
        go_wp2_with fail
        refine (writeEntity_any _ _ _ _ H.out E'.out (by omega) hn).mono ?_
        rintro e w1 ⟨rfl, B1, D1⟩
        have K1 := Lib.hid B1; clear B1
        go_wp2
        go_roundw
        case rel => exact esc_step hlt hB'.out (by rw [H4.out]; exact (escOne4 _ (decide (k = 0))).symm) rfl K1.out D1
        case measure => simp [intOf]; omega
      · have i4 : ¬ (st : Int) = 4 := by omega
        by_cases ht : tb st (s[k]'hlt).toNat (decide (k = 0)) = true
        · have Ht := Lib.hid ht
          go_wp2_with fail
          refine (takes_any st _ _ _ (by omega)).mono ?_
          rintro e w' ⟨rfl, rfl⟩
          rw [ht]
          clear ht
          go_wp2_with fail
          refine (writeByte_any _ _ 92 _ H.out (by omega)).mono ?_
          rintro e w1 ⟨rfl, B1, D1⟩
          have K1 := Lib.hid B1; clear B1
          go_wp2_with fail
          refine (letter_any _ _).mono ?_
          rintro e w' ⟨rfl, rfl⟩
          go_wp2_with fail
          refine (writeByteN_any _ _ _ _ K1.out (by simp; omega) (ltr_lt _ hn)).mono ?_
          rintro e w2 ⟨rfl, B2, D2⟩
          have K2 := Lib.hid B2; clear B2
          go_wp2
          go_roundw
          case rel => exact esc_step hlt hB'.out (escOneT h4 Ht.out).symm rfl (by rw [← List.append_assoc]; exact K2.out) (D1.trans D2)
          case measure => simp [intOf]; omega
        · have hT : tb st (s[k]'hlt).toNat (decide (k = 0)) = false := Bool.eq_false_iff.2 ht
          have Ht := Lib.hid hT
          clear ht
          by_cases hc : ctl (s[k]'hlt).toNat = true
          · have Hc := Lib.hid hc
            go_wp2_with fail
            refine (takes_any st _ _ _ (by omega)).mono ?_
            rintro e w' ⟨rfl, rfl⟩
            rw [hT]
            clear hT
            go_wp2_with fail
            refine (isControl_any _ _).mono ?_
            rintro e w' ⟨rfl, rfl⟩
            rw [hc]
            clear hc
            go_wp2_with fail
            refine (writeHex_any _ _ st _ _ H.out (by omega) hn).mono ?_
            rintro e w1 ⟨rfl, B1, D1⟩
            have K1 := Lib.hid B1; clear B1
            go_wp2
            go_roundw
            case rel => exact esc_step hlt hB'.out (escOneC h4 Ht.out Hc.out).symm rfl K1.out D1
            case measure => simp [intOf]; omega
          · have hC : ctl (s[k]'hlt).toNat = false := Bool.eq_false_iff.2 hc
            have Hc := Lib.hid hC
            clear hc
            go_wp2_with fail
            refine (takes_any st _ _ _ (by omega)).mono ?_
            rintro e w' ⟨rfl, rfl⟩
            rw [hT]
            clear hT
            go_wp2_with fail
            refine (isControl_any _ _).mono ?_
            rintro e w' ⟨rfl, rfl⟩
            rw [hC]
            clear hC
            go_wp2_with fail
            refine (writeByteN_any _ _ _ _ H.out (by omega) hn).mono ?_
            rintro e w1 ⟨rfl, B1, D1⟩
            have K1 := Lib.hid B1; clear B1
            go_wp2
            go_roundw
            case rel => exact esc_step hlt hB'.out (escOneP h4 Ht.out Hc.out).symm rfl K1.out D1
            case measure => simp [intOf]; omega
    · have H := Lib.hid hb; clear hb
      go_wp2_with fail
      refine (string_any _ _ _ H.out).mono ?_
      rintro e w1 ⟨rfl, B1, D1⟩
      go_wp2
      go_ret
      refine ⟨?_, hB.trans D1⟩
      rw [List.take_of_length_le (by simp; omega)]
      rfl
theorem escape_no (st : Int) (s : ByteArray) (w : World) (hst : isSt st = false) :
    Calls Tryd.prog 11 #[.int .i64 st, .string s] w fun e w' => e = .returned (.string ⟨#[]⟩) ∧ w = w' := by
  go_enter Tryd.func11, Tryd.ntmps11
  go_wp2_with fail
  refine (isStyle_any _ _).mono ?_
  rintro e w' ⟨rfl, rfl⟩
  rw [hst]
  clear hst
  go_wp2
  go_ret
  exact ⟨rfl, rfl⟩
end Go.Proofs.YtnkmlgkppaglkaaDoor
