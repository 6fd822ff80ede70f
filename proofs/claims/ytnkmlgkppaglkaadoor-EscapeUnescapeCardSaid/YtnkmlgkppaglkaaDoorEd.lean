/- writeHexadecimal, writeEntity, Escape. -/
import Derived.Test.YtnkmlgkppaglkaaDoorEc
import Derived.Lib.AppendIntMem
import Derived.Lib.SmallJoins
namespace Go.Proofs.YtnkmlgkppaglkaaDoor
open Go.RowKit
set_option linter.unusedVariables false

/-- What the library's variables hold. -/
structure Env (w : World) : Prop where
  tab : Lib.TabIs Tryd.prog w "internal/strconv.uint64pow10" .u64 Lib.pow10Tab
  syn : ∃ tp p, w.cell? ⟨2, 0, none⟩ = some (.iface tp p)
theorem gPow : Tryd.prog.globalNamed "internal/strconv.uint64pow10" = some 0 := by kernel_rfl
theorem Env.below {w w' : World} (h : Env w) (hb : Below w.heap.size w w') : Env w' := by
  refine ⟨Joins.tab_stays gPow h.tab hb (Nat.le_refl _), ?_⟩
  obtain ⟨tp, p, hc⟩ := h.syn
  exact ⟨tp, p, (hb.cell (p := ⟨2, 0, none⟩) (Lib.lt_of_cell hc)).trans hc⟩

theorem WPost.step {b : Nat} {w w1 w2 : World} {l : List UInt8} {r : Value} {e : Ending} (h1 : Below b w w1) (h : WPost b w1 l r e w2) : WPost b w l r e w2 := ⟨h.1, h.2.1, h1.trans h.2.2⟩

theorem hexAt0 : ∀ k : Fin 16, (#[48, 49, 50, 51, 52, 53, 54, 55, 56, 57, 97, 98, 99, 100, 101, 102] : Array UInt8)[k.1]? = some (hexd k.1) := by decide
theorem hexAt (k : Nat) (h : k < 16) : (⟨#[48, 49, 50, 51, 52, 53, 54, 55, 56, 57, 97, 98, 99, 100, 101, 102]⟩ : ByteArray)[k]'h = hexd k := by
  have := hexAt0 ⟨k, h⟩
  rw [Array.getElem?_eq_getElem h] at this
  exact Option.some.inj this
theorem hex_eq3 (l : List UInt8) (n : Nat) : l ++ hexL 3 n = l ++ [92, 117, 48, 48] ++ [hexd (n / 16)] ++ [hexd (n % 16)] := by simp [hexL]
theorem hex_eqn (l : List UInt8) (st n : Nat) (h : st ≠ 3) : l ++ hexL st n = l ++ [92, 120] ++ [hexd (n / 16)] ++ [hexd (n % 16)] := by simp [hexL, h]

set_option maxRecDepth 1000000 in
theorem writeHex_any (b : Nat) (l : List UInt8) (st n : Nat) (w : World) (h : Bld b l w) (hl : l.length ≤ 549755813888) (hn : n < 256) :
    Calls Tryd.prog 25 #[.pointer (some ⟨b, 0, none⟩), .int .i64 st, .int .u8 n] w (WPost b w (l ++ hexL st n) (.tuple #[])) := by
  have H := Lib.hid h; clear h
  have h1 : n / 16 < 16 := by omega
  have h2 : n % 16 < 16 := by omega
  by_cases a : st = 3
  · subst a
    rw [hex_eq3]
    go_enter Tryd.func25, Tryd.ntmps25
    go_wp2_with fail
    refine (writeString_any b l _ w H.out (by omega) (by decide)).mono ?_
    rintro e w1 ⟨rfl, B1, D1⟩
    have K1 := Lib.hid B1; clear B1
    go_wp2_with fail
    refine (writeByte_any b _ _ w1 K1.out (by simp; omega)).mono ?_
    rintro e w2 ⟨rfl, B2, D2⟩
    have K2 := Lib.hid B2; clear B2
    go_wp2_with fail
    refine (writeByte_any b _ _ w2 K2.out (by simp; omega)).mono ?_
    rintro e w3 ⟨rfl, B3, D3⟩
    have K3 := Lib.hid B3; clear B3
    have D := Lib.hid (D1.trans (D2.trans D3)); clear D1 D2 D3
    go_wp2
    go_end0
    refine ⟨rfl, ?_, D.out⟩
    have := K3.out
    rw [hexAt _ h1, hexAt _ h2] at this
    exact this
  · rw [hex_eqn _ _ _ a]
    have a' : ¬ (st : Int) = 3 := by omega
    clear a
    go_enter Tryd.func25, Tryd.ntmps25
    go_wp2_with fail
    refine (writeString_any b l _ w H.out (by omega) (by decide)).mono ?_
    rintro e w1 ⟨rfl, B1, D1⟩
    have K1 := Lib.hid B1; clear B1
    go_wp2_with fail
    refine (writeByte_any b _ _ w1 K1.out (by simp; omega)).mono ?_
    rintro e w2 ⟨rfl, B2, D2⟩
    have K2 := Lib.hid B2; clear B2
    go_wp2_with fail
    refine (writeByte_any b _ _ w2 K2.out (by simp; omega)).mono ?_
    rintro e w3 ⟨rfl, B3, D3⟩
    have K3 := Lib.hid B3; clear B3
    have D := Lib.hid (D1.trans (D2.trans D3)); clear D1 D2 D3
    go_wp2
    go_end0
    refine ⟨rfl, ?_, D.out⟩
    have := K3.out
    rw [hexAt _ h1, hexAt _ h2] at this
    exact this
theorem writeByteN_any (b : Nat) (l : List UInt8) (n : Nat) (w : World) (h : Bld b l w) (hl : l.length ≤ 1099511627776) (hn : n < 256) :
    Calls Tryd.prog 22 #[.pointer (some ⟨b, 0, none⟩), .int .u8 n] w (WPost b w (l ++ [UInt8.ofNat n]) .nilIface) := by
  have := writeByte_any b l (UInt8.ofNat n) w h hl
  rw [toNat_of n hn] at this
  exact this
theorem data_app (a b : ByteArray) : (a ++ b).data.toList = a.data.toList ++ b.data.toList := by simp
theorem size_app (a b : ByteArray) : (a ++ b).size = a.size + b.size := by simp
theorem size_mk (l : List UInt8) : (⟨l.toArray⟩ : ByteArray).size = l.length := by simp [ByteArray.size]

set_option maxRecDepth 1000000 in
theorem writeEntity_any (b : Nat) (l : List UInt8) (n : Nat) (w : World) (h : Bld b l w) (E : Env w) (hl : l.length ≤ 549755813888) (hn : n < 256) :
    Calls Tryd.prog 20 #[.pointer (some ⟨b, 0, none⟩), .int .u8 n] w (WPost b w (l ++ entL n) (.tuple #[])) := by
  have H := Lib.hid h
  have hlt := h.lt
  clear h
  by_cases a0 : n = 38
  · subst a0
    go_enter Tryd.func20, Tryd.ntmps20
    go_wp2_with fail
    refine (writeString_any b l _ w H.out (by omega) (by decide)).mono ?_
    rintro e w1 ⟨rfl, B1, D1⟩
    have K1 := Lib.hid B1; clear B1
    go_wp2
    go_end0
    exact ⟨rfl, K1.out, D1⟩
  have i0 : ¬ (n : Int) = 38 := by omega
  by_cases a1 : n = 60
  · subst a1
    go_enter Tryd.func20, Tryd.ntmps20
    go_wp2_with fail
    refine (writeString_any b l _ w H.out (by omega) (by decide)).mono ?_
    rintro e w1 ⟨rfl, B1, D1⟩
    have K1 := Lib.hid B1; clear B1
    go_wp2
    go_end0
    exact ⟨rfl, K1.out, D1⟩
  have i1 : ¬ (n : Int) = 60 := by omega
  by_cases a2 : n = 62
  · subst a2
    go_enter Tryd.func20, Tryd.ntmps20
    go_wp2_with fail
    refine (writeString_any b l _ w H.out (by omega) (by decide)).mono ?_
    rintro e w1 ⟨rfl, B1, D1⟩
    have K1 := Lib.hid B1; clear B1
    go_wp2
    go_end0
    exact ⟨rfl, K1.out, D1⟩
  have i2 : ¬ (n : Int) = 62 := by omega
  by_cases a3 : n = 34
  · subst a3
    go_enter Tryd.func20, Tryd.ntmps20
    go_wp2_with fail
    refine (writeString_any b l _ w H.out (by omega) (by decide)).mono ?_
    rintro e w1 ⟨rfl, B1, D1⟩
    have K1 := Lib.hid B1; clear B1
    go_wp2
    go_end0
    exact ⟨rfl, K1.out, D1⟩
  have i3 : ¬ (n : Int) = 34 := by omega
  by_cases hc : ctl n = true
  · have hent : entL n = numL n := by unfold entL; simp [a0, a1, a2, a3, hc]
    rw [hent]
    clear hent a0 a1 a2 a3
    go_enter Tryd.func20, Tryd.ntmps20
    go_wp2_with fail
    refine (isControl_any n _).mono ?_
    rintro e w' ⟨rfl, rfl⟩
    rw [hc]
    have hn' : n < 128 := by unfold ctl at hc; simp at hc; omega
    clear hc
    go_wp2_with fail
    refine (Tryd.strconv_Itoa n (by omega) (by omega) w E.tab).mono ?_
    rintro e w1 ⟨rfl, k, os, rfl⟩
    have D0 := Lib.below_grow w.heap.size w (Nat.le_refl _) k os
    have K0 := Lib.hid (H.out.below D0)
    have hit : Lib.itoa (n : Int) = Lib.decDigits n := by unfold Lib.itoa; rw [if_neg (by omega)]; simp
    rw [hit]
    clear hit
    generalize Go.Sort.grow (w.drewN k) os = w1 at D0 K0
    have hd := dec_len (n := n) (by omega)
    generalize hdl : Lib.decDigits n = dl at hd
    have Hd := Lib.hid hdl; clear hdl
    have hs1 := size_mk dl
    go_wp2_with fail
    refine (writeString_any b l _ w1 K0.out (by omega) (by rw [size_app, size_app, size_mk]; show 2 + dl.length + 1 ≤ _; omega)).mono ?_
    rintro e w2 ⟨rfl, B1, D1⟩
    have K1 := Lib.hid B1; clear B1
    go_wp2
    go_end0
    refine ⟨rfl, ?_, (D0.mono (Nat.le_of_lt hlt)).trans D1⟩
    have := K1.out
    rw [data_app, data_app] at this
    unfold numL
    rw [Hd.out]
    exact this
  · have hent : entL n = [UInt8.ofNat n] := by unfold entL; simp [a0, a1, a2, a3, hc]
    rw [hent]
    clear hent a0 a1 a2 a3
    go_enter Tryd.func20, Tryd.ntmps20
    go_wp2_with fail
    refine (isControl_any n _).mono ?_
    rintro e w' ⟨rfl, rfl⟩
    rw [Bool.eq_false_iff.2 hc]
    clear hc
    go_wp2_with fail
    refine (writeByteN_any b l n w H.out (by omega) hn).mono ?_
    rintro e w1 ⟨rfl, B1, D1⟩
    have K1 := Lib.hid B1; clear B1
    go_wp2
    go_end0
    exact ⟨rfl, K1.out, D1⟩
end Go.Proofs.YtnkmlgkppaglkaaDoor
