/- What the row stands on, part 8. -/
import Derived.Lib.AppendIntMem
import Derived.Lib.SmallJoins
import Derived.Test.YtpmmchppfmojhaaGreatDoorQ7

/- writeHexadecimal, writeEntity, Escape. -/
namespace Go.Proofs.YtpmmchppfmojhaaGreatDoor
open Go.RowKit
set_option linter.unusedVariables false

/-- What the library's variables hold. -/
structure Env (w : World) : Prop where
  tab : Lib.TabIs Tryz.prog w "internal/strconv.uint64pow10" .u64 Lib.pow10Tab
  syn : ∃ tp p, w.cell? ⟨4, 0, none⟩ = some (.iface tp p)
theorem gPow : Tryz.prog.globalNamed "internal/strconv.uint64pow10" = some 0 := by kernel_rfl
theorem Env.below {w w' : World} (h : Env w) (hb : Below w.heap.size w w') : Env w' := by
  refine ⟨Joins.tab_stays gPow h.tab hb (Nat.le_refl _), ?_⟩
  obtain ⟨tp, p, hc⟩ := h.syn
  exact ⟨tp, p, (hb.cell (p := ⟨4, 0, none⟩) (Lib.lt_of_cell hc)).trans hc⟩

theorem WPost.step {b : Nat} {w w1 w2 : World} {l : List UInt8} {r : Value} {e : Ending} (h1 : Below b w w1) (h : WPost b w1 l r e w2) : WPost b w l r e w2 := ⟨h.1, h.2.1, h1.trans h.2.2⟩

theorem hexAt0 : ∀ k : Fin 16, (#[48, 49, 50, 51, 52, 53, 54, 55, 56, 57, 97, 98, 99, 100, 101, 102] : Array UInt8)[k.1]? = some (hexd k.1) := by decide
theorem hexAt (k : Nat) (h : k < 16) : (⟨#[48, 49, 50, 51, 52, 53, 54, 55, 56, 57, 97, 98, 99, 100, 101, 102]⟩ : ByteArray)[k]'h = hexd k := by
  have := hexAt0 ⟨k, h⟩
  rw [Array.getElem?_eq_getElem h] at this
  exact Option.some.inj this
theorem hex_eq3 (l : List UInt8) (n : Nat) : l ++ hexL 3 n = l ++ [92, 117, 48, 48] ++ [hexd (n / 16)] ++ [hexd (n % 16)] := by simp [hexL]
theorem hex_eqn (l : List UInt8) (st n : Nat) (h : st ≠ 3) : l ++ hexL st n = l ++ [92, 120] ++ [hexd (n / 16)] ++ [hexd (n % 16)] := by simp [hexL, h]

set_option maxRecDepth 1000000 in
theorem writeHex_any (b : Nat) (l : List UInt8) (st n : Nat) (w : World) (h : Bld b l w) (hl : l.length ≤ 549755813888) (hn : n < 256) :
    Calls Tryz.prog 285 #[.pointer (some ⟨b, 0, none⟩), .int .i64 st, .int .u8 n] w (WPost b w (l ++ hexL st n) (.tuple #[])) := by
  have H := Lib.hid h; clear h
  have h1 : n / 16 < 16 := by omega
  have h2 : n % 16 < 16 := by omega
  by_cases a : st = 3
  · subst a
    rw [hex_eq3]
    go_enter Tryz.func285, Tryz.ntmps285
    go_wp2_with fail
    refine (writeString_any b l _ w H.out (by omega) (by decide)).mono ?_
    rintro e w1 ⟨rfl, B1, D1⟩
    have K1 := Lib.hid B1; clear B1
    go_wp2_with fail
    refine (writeByte_any b _ _ w1 K1.out (by simp; omega)).mono ?_
    rintro e w2 ⟨rfl, B2, D2⟩
    have K2 := Lib.hid B2; clear B2
    go_wp2_with fail
    refine (writeByte_any b _ _ w2 K2.out (by simp; omega)).mono ?_
    rintro e w3 ⟨rfl, B3, D3⟩
    have K3 := Lib.hid B3; clear B3
    have D := Lib.hid (D1.trans (D2.trans D3)); clear D1 D2 D3
    go_wp2
    go_end0
    refine ⟨rfl, ?_, D.out⟩
    have := K3.out
    rw [hexAt _ h1, hexAt _ h2] at this
    exact this
  · rw [hex_eqn _ _ _ a]
    have a' : ¬ (st : Int) = 3 := by omega
    clear a
    go_enter Tryz.func285, Tryz.ntmps285
    go_wp2_with fail
    refine (writeString_any b l _ w H.out (by omega) (by decide)).mono ?_
    rintro e w1 ⟨rfl, B1, D1⟩
    have K1 := Lib.hid B1; clear B1
    go_wp2_with fail
    refine (writeByte_any b _ _ w1 K1.out (by simp; omega)).mono ?_
    rintro e w2 ⟨rfl, B2, D2⟩
    have K2 := Lib.hid B2; clear B2
    go_wp2_with fail
    refine (writeByte_any b _ _ w2 K2.out (by simp; omega)).mono ?_
    rintro e w3 ⟨rfl, B3, D3⟩
    have K3 := Lib.hid B3; clear B3
    have D := Lib.hid (D1.trans (D2.trans D3)); clear D1 D2 D3
    go_wp2
    go_end0
    refine ⟨rfl, ?_, D.out⟩
    have := K3.out
    rw [hexAt _ h1, hexAt _ h2] at this
    exact this
theorem writeByteN_any (b : Nat) (l : List UInt8) (n : Nat) (w : World) (h : Bld b l w) (hl : l.length ≤ 1099511627776) (hn : n < 256) :
    Calls Tryz.prog 282 #[.pointer (some ⟨b, 0, none⟩), .int .u8 n] w (WPost b w (l ++ [UInt8.ofNat n]) .nilIface) := by
  have := writeByte_any b l (UInt8.ofNat n) w h hl
  rw [toNat_of n hn] at this
  exact this
theorem data_app (a b : ByteArray) : (a ++ b).data.toList = a.data.toList ++ b.data.toList := by simp
theorem size_app (a b : ByteArray) : (a ++ b).size = a.size + b.size := by simp
theorem size_mk (l : List UInt8) : (⟨l.toArray⟩ : ByteArray).size = l.length := by simp [ByteArray.size]

set_option maxRecDepth 1000000 in
theorem writeEntity_any (b : Nat) (l : List UInt8) (n : Nat) (w : World) (h : Bld b l w) (E : Env w) (hl : l.length ≤ 549755813888) (hn : n < 256) :
    Calls Tryz.prog 280 #[.pointer (some ⟨b, 0, none⟩), .int .u8 n] w (WPost b w (l ++ entL n) (.tuple #[])) := by
  have H := Lib.hid h
  have hlt := h.lt
  clear h
  by_cases a0 : n = 38
  · subst a0
    go_enter Tryz.func280, Tryz.ntmps280
    go_wp2_with fail
    refine (writeString_any b l _ w H.out (by omega) (by decide)).mono ?_
    rintro e w1 ⟨rfl, B1, D1⟩
    have K1 := Lib.hid B1; clear B1
    go_wp2
    go_end0
    exact ⟨rfl, K1.out, D1⟩
  have i0 : ¬ (n : Int) = 38 := by omega
  by_cases a1 : n = 60
  · subst a1
    go_enter Tryz.func280, Tryz.ntmps280
    go_wp2_with fail
    refine (writeString_any b l _ w H.out (by omega) (by decide)).mono ?_
    rintro e w1 ⟨rfl, B1, D1⟩
    have K1 := Lib.hid B1; clear B1
    go_wp2
    go_end0
    exact ⟨rfl, K1.out, D1⟩
  have i1 : ¬ (n : Int) = 60 := by omega
  by_cases a2 : n = 62
  · subst a2
    go_enter Tryz.func280, Tryz.ntmps280
    go_wp2_with fail
    refine (writeString_any b l _ w H.out (by omega) (by decide)).mono ?_
    rintro e w1 ⟨rfl, B1, D1⟩
    have K1 := Lib.hid B1; clear B1
    go_wp2
    go_end0
    exact ⟨rfl, K1.out, D1⟩
  have i2 : ¬ (n : Int) = 62 := by omega
  by_cases a3 : n = 34
  · subst a3
    go_enter Tryz.func280, Tryz.ntmps280
    go_wp2_with fail
    refine (writeString_any b l _ w H.out (by omega) (by decide)).mono ?_
    rintro e w1 ⟨rfl, B1, D1⟩
    have K1 := Lib.hid B1; clear B1
    go_wp2
    go_end0
    exact ⟨rfl, K1.out, D1⟩
  have i3 : ¬ (n : Int) = 34 := by omega
  by_cases hc : ctl n = true
  · have hent : entL n = numL n := by unfold entL; simp [a0, a1, a2, a3, hc]
    rw [hent]
    clear hent a0 a1 a2 a3
    go_enter Tryz.func280, Tryz.ntmps280
    go_wp2_with fail
    refine (isControl_any n _).mono ?_
    rintro e w' ⟨rfl, rfl⟩
    rw [hc]
    have hn' : n < 128 := by unfold ctl at hc; simp at hc; omega
    clear hc
    go_wp2_with fail
    refine (Tryz.strconv_Itoa n (by omega) (by omega) w E.tab).mono ?_
    rintro e w1 ⟨rfl, k, os, rfl⟩
    have D0 := Lib.below_grow w.heap.size w (Nat.le_refl _) k os
    have K0 := Lib.hid (H.out.below D0)
    have hit : Lib.itoa (n : Int) = Lib.decDigits n := by unfold Lib.itoa; rw [if_neg (by omega)]; simp
    rw [hit]
    clear hit
    generalize Go.Sort.grow (w.drewN k) os = w1 at D0 K0
    have hd := dec_len (n := n) (by omega)
    generalize hdl : Lib.decDigits n = dl at hd
    have Hd := Lib.hid hdl; clear hdl
    have hs1 := size_mk dl
    go_wp2_with fail
    refine (writeString_any b l _ w1 K0.out (by omega) (by rw [size_app, size_app, size_mk]; show 2 + dl.length + 1 ≤ _; omega)).mono ?_
    rintro e w2 ⟨rfl, B1, D1⟩
    have K1 := Lib.hid B1; clear B1
    go_wp2
    go_end0
    refine ⟨rfl, ?_, (D0.mono (Nat.le_of_lt hlt)).trans D1⟩
    have := K1.out
    rw [data_app, data_app] at this
    unfold numL
    rw [Hd.out]
    exact this
  · have hent : entL n = [UInt8.ofNat n] := by unfold entL; simp [a0, a1, a2, a3, hc]
    rw [hent]
    clear hent a0 a1 a2 a3
    go_enter Tryz.func280, Tryz.ntmps280
    go_wp2_with fail
    refine (isControl_any n _).mono ?_
    rintro e w' ⟨rfl, rfl⟩
    rw [Bool.eq_false_iff.2 hc]
    clear hc
    go_wp2_with fail
    refine (writeByteN_any b l n w H.out (by omega) hn).mono ?_
    rintro e w1 ⟨rfl, B1, D1⟩
    have K1 := Lib.hid B1; clear B1
    go_wp2
    go_end0
    exact ⟨rfl, K1.out, D1⟩
end Go.Proofs.YtpmmchppfmojhaaGreatDoor


/- Escape. -/
namespace Go.Proofs.YtpmmchppfmojhaaGreatDoor
open Go.RowKit
set_option linter.unusedVariables false

def StrPostOf2 (w : World) (l : List UInt8) (e : Ending) (w' : World) : Prop := e = .returned (.string ⟨l.toArray⟩) ∧ Below w.heap.size w w'
theorem byt_getOf2 (s : ByteArray) (k : Nat) (h : k < s.size) : (s[k]'h).toNat = byt s.data.toList k := by
  unfold byt
  rw [List.getElem?_eq_getElem (show k < s.data.toList.length from by simpa using h)]
  rfl

def EscRel (st : Nat) (s : ByteArray) (w : World) (i c : Value) (wr : World) : Prop :=
  ∃ (k : Nat), i = .int .i64 k ∧ k ≤ s.size ∧ Bld w.heap.size (escL st (s.data.toList.take k)) wr ∧ Below w.heap.size w wr
theorem esc_step {st : Nat} {s : ByteArray} {w wr w1 : World} {k : Nat} {c : Value} (hk : k < s.size) (hB : Below w.heap.size w wr) {l : List UInt8} {f : Bool} (hl : l = escOne st (s[k]'hk).toNat f) (hf : f = decide (k = 0))
    (hb : Bld w.heap.size (escL st (s.data.toList.take k) ++ l) w1) (hD : Below w.heap.size wr w1) : EscRel st s w (.int .i64 (k + 1)) c w1 := by
  refine ⟨k + 1, by go_num, hk, ?_, hB.trans hD⟩
  rw [escL_snoc st _ k (by simpa using hk), ← byt_getOf2 s k hk, ← hf, ← hl]
  exact hb
theorem escOne4 (n : Nat) (f : Bool) : escOne 4 n f = entL n := if_pos rfl
theorem escOneT {st n : Nat} {f : Bool} (h : st ≠ 4) (h1 : tb st n f = true) : escOne st n f = [92] ++ [UInt8.ofNat (ltr n)] := by unfold escOne; rw [if_neg h, if_pos h1]
theorem escOneC {st n : Nat} {f : Bool} (h : st ≠ 4) (h1 : tb st n f = false) (h2 : ctl n = true) : escOne st n f = hexL st n := by unfold escOne; rw [if_neg h, if_neg (by simp [h1]), if_pos h2]
theorem escOneP {st n : Nat} {f : Bool} (h : st ≠ 4) (h1 : tb st n f = false) (h2 : ctl n = false) : escOne st n f = [UInt8.ofNat n] := by unfold escOne; rw [if_neg h, if_neg (by simp [h1]), if_neg (by simp [h2])]
theorem ltr_lt (n : Nat) (h : n < 256) : ltr n < 256 := by
  unfold ltr
  repeat' split
  all_goals omega

set_option maxRecDepth 1000000 in
set_option maxHeartbeats 400000 in
theorem escape_st (st : Nat) (s : ByteArray) (w : World) (E : Env w) (hs : s.size ≤ 68719476736) (hst : st = 1 ∨ st = 2 ∨ st = 3 ∨ st = 4) :
    Calls Tryz.prog 234 #[.int .i64 st, .string s] w (StrPostOf2 w (escL st s.data.toList)) := by
  have his : isSt st = true := by unfold isSt; simp; omega
  go_enter Tryz.func234, Tryz.ntmps234
  go_wp2_with fail
  refine (isStyle_any _ _).mono ?_
  rintro e w' ⟨rfl, rfl⟩
  rw [his]
  clear his
  go_wp2
  go_loopw [6, 7] (fun i c wr => EscRel st s w i c wr) (fun i _ _ => s.size - (intOf i).toNat)
  case atStart => exact ⟨0, rfl, Nat.zero_le _, by simpa [escL, escF] using Bld.fresh w, (Below.refl _ _).alloc (Nat.le_refl _) _⟩
  case round =>
    obtain ⟨k, rfl, hk, hb, hB⟩ := hrel
    have hlen : (escL st (s.data.toList.take k)).length ≤ 6 * s.size := by
      have := escL_len st (s.data.toList.take k)
      rw [List.length_take] at this
      have h2 : s.data.toList.length = s.size := by simp
      omega
    by_cases hlt : k < s.size
    · have hn : (s[k]'hlt).toNat < 256 := (s[k]'hlt).toNat_lt
      have H := Lib.hid hb; clear hb
      have hB' := Lib.hid hB
      have E' := Lib.hid (E.below hB)
      clear hB
      have hf : ((k : Int) == 0) = decide (k = 0) := by
        cases k <;> simp
        omega
      by_cases h4 : st = 4
      · have e4 : ((st : Int) == 4) = true := by simp; omega
        have H4 := Lib.hid h4
        clear h4 hst
        go_wp2_with fail
        refine (writeEntity_any _ _ _ _ H.out E'.out (by omega) hn).mono ?_
        rintro e w1 ⟨rfl, B1, D1⟩
        have K1 := Lib.hid B1; clear B1
        go_wp2
        go_roundw
        case rel => exact esc_step hlt hB'.out (by rw [H4.out]; exact (escOne4 _ (decide (k = 0))).symm) rfl K1.out D1
        case measure => simp [intOf]; omega
      · have i4 : ¬ (st : Int) = 4 := by omega
        by_cases ht : tb st (s[k]'hlt).toNat (decide (k = 0)) = true
        · have Ht := Lib.hid ht
          go_wp2_with fail
          refine (takes_any st _ _ _ (by omega)).mono ?_
          rintro e w' ⟨rfl, rfl⟩
          rw [ht]
          clear ht
          go_wp2_with fail
          refine (writeByte_any _ _ 92 _ H.out (by omega)).mono ?_
          rintro e w1 ⟨rfl, B1, D1⟩
          have K1 := Lib.hid B1; clear B1
          go_wp2_with fail
          refine (letter_any _ _).mono ?_
          rintro e w' ⟨rfl, rfl⟩
          go_wp2_with fail
          refine (writeByteN_any _ _ _ _ K1.out (by simp; omega) (ltr_lt _ hn)).mono ?_
          rintro e w2 ⟨rfl, B2, D2⟩
          have K2 := Lib.hid B2; clear B2
          go_wp2
          go_roundw
          case rel => exact esc_step hlt hB'.out (escOneT h4 Ht.out).symm rfl (by rw [← List.append_assoc]; exact K2.out) (D1.trans D2)
          case measure => simp [intOf]; omega
        · have hT : tb st (s[k]'hlt).toNat (decide (k = 0)) = false := Bool.eq_false_iff.2 ht
          have Ht := Lib.hid hT
          clear ht
          by_cases hc : ctl (s[k]'hlt).toNat = true
          · have Hc := Lib.hid hc
            go_wp2_with fail
            refine (takes_any st _ _ _ (by omega)).mono ?_
            rintro e w' ⟨rfl, rfl⟩
            rw [hT]
            clear hT
            go_wp2_with fail
            refine (isControl_any _ _).mono ?_
            rintro e w' ⟨rfl, rfl⟩
            rw [hc]
            clear hc
            go_wp2_with fail
            refine (writeHex_any _ _ st _ _ H.out (by omega) hn).mono ?_
            rintro e w1 ⟨rfl, B1, D1⟩
            have K1 := Lib.hid B1; clear B1
            go_wp2
            go_roundw
            case rel => exact esc_step hlt hB'.out (escOneC h4 Ht.out Hc.out).symm rfl K1.out D1
            case measure => simp [intOf]; omega
          · have hC : ctl (s[k]'hlt).toNat = false := Bool.eq_false_iff.2 hc
            have Hc := Lib.hid hC
            clear hc
            go_wp2_with fail
            refine (takes_any st _ _ _ (by omega)).mono ?_
            rintro e w' ⟨rfl, rfl⟩
            rw [hT]
            clear hT
            go_wp2_with fail
            refine (isControl_any _ _).mono ?_
            rintro e w' ⟨rfl, rfl⟩
            rw [hC]
            clear hC
            go_wp2_with fail
            refine (writeByteN_any _ _ _ _ H.out (by omega) hn).mono ?_
            rintro e w1 ⟨rfl, B1, D1⟩
            have K1 := Lib.hid B1; clear B1
            go_wp2
            go_roundw
            case rel => exact esc_step hlt hB'.out (escOneP h4 Ht.out Hc.out).symm rfl K1.out D1
            case measure => simp [intOf]; omega
    · have H := Lib.hid hb; clear hb
      go_wp2_with fail
      refine (string_any _ _ _ H.out).mono ?_
      rintro e w1 ⟨rfl, B1, D1⟩
      go_wp2
      go_ret
      refine ⟨?_, hB.trans D1⟩
      rw [List.take_of_length_le (by simp; omega)]
      rfl
end Go.Proofs.YtpmmchppfmojhaaGreatDoor


