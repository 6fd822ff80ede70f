/- What comes in; the walks of PackBounds and PackNil. -/
import Derived.Test.YtglllbodhdgahaaPo
import Derived.OpenShut
import Derived.WideShapes
namespace Go.Proofs.Ytglllbodhdgahaa
open Go.RowKit
set_option linter.unusedVariables false

/-! ### What comes in -/
/-- What is known of a list of numbers that came in. -/
def IsRow (k : IntKind) (w : World) (a : Option Addr) (len cap : Nat) (zs : List Int) : Prop :=
  (a = none ∧ len = 0 ∧ cap = 0 ∧ zs = []) ∨
  ∃ x, a = some x ∧ len ≤ cap ∧ cap ≤ maxLen ∧ zs.length = cap ∧ (∀ i, i < zs.length → w.cell? (x.add i) = some (.int k (zs.getD i 0))) ∧ ∀ n ∈ zs, (Lit.int k n).wf = true
theorem rdB_of_row {w : World} {a : Option Addr} {len cap : Nat} {zs : List Int} (h : IsRow .u8 w a len cap zs) (hl : len ≤ 140737488355328) : ∃ l : List UInt8, l.length = len ∧ RdB w (.slice a len cap) l := by
  rcases h with ⟨rfl, rfl, rfl, rfl⟩ | ⟨x, rfl, h1, h2, h3, h4, h5⟩
  · exact ⟨[], rfl, rdB_nil w⟩
  · have hm : maxLen = 9223372036854775807 := by decide
    have hlen : ((zs.take len).map fun n : Int => UInt8.ofNat n.toNat).length = len := by rw [List.length_map, List.length_take]; omega
    refine ⟨_, hlen, ⟨by omega, ⟨some x, cap, by rw [hlen], by omega, by omega, fun hne => ?_⟩, fun n c hc => by injection hc with h1 _ _; cases h1⟩⟩
    have hpos : 0 < len := by rw [← hlen]; exact List.length_pos_iff.2 hne
    obtain ⟨b, off, rfl, hc⟩ := ints_at h4 (by omega)
    refine ⟨b, off, rfl, World.block_lt_of_cell? w _ (hc 0 (by omega)), fun i hi => ?_⟩
    rw [hlen] at hi
    rw [hc i (by omega)]
    have hiz : i < zs.length := by omega
    have hb := bounds_u8 (h5 _ (List.getElem_mem hiz))
    have e : ((zs.take len).map fun n : Int => UInt8.ofNat n.toNat).getD i 0 = UInt8.ofNat (zs[i]'hiz).toNat := by
      simp only [List.getD_eq_getElem?_getD, List.getElem?_map, List.getElem?_take, if_pos hi, List.getElem?_eq_getElem hiz, Option.map_some, Option.getD_some]
    have e2 : zs.getD i 0 = zs[i]'hiz := by simp only [List.getD_eq_getElem?_getD, List.getElem?_eq_getElem hiz, Option.getD_some]
    rw [e, e2]
    unfold by8
    rw [UInt8.toNat_ofNat']
    have : (((zs[i]'hiz).toNat % 2 ^ 8 : Nat) : Int) = zs[i]'hiz := by omega
    rw [this]

/-- What is known of a list of strings that came in. -/
def IsStrs (w : World) (a : Option Addr) (len cap : Nat) (zs : List (List UInt8)) : Prop := zs.length = len ∧ len ≤ 9223372036854775807 ∧ RdT w (.slice a len cap) zs
theorem isStrs_nil (w : World) : IsStrs w none 0 0 [] := ⟨rfl, by omega, rdT_nil w⟩
theorem isStrs_of {w : World} {x : Addr} {len cap m : Nat} {Sx : Nat → ByteArray} (hl : len ≤ cap) (hm : cap ≤ maxLen) (hmm : len ≤ m) (hx : ∀ i, i < m → w.cell? (x.add i) = some (.string (Sx i)) ∧ (Sx i).size ≤ maxLen) : ∃ zs, IsStrs w (some x) len cap zs := by
  have hM : maxLen = 9223372036854775807 := by decide
  have hlen : ((List.range len).map fun i => (Sx i).data.toList).length = len := by simp
  refine ⟨(List.range len).map fun i => (Sx i).data.toList, hlen, by omega, ⟨some x, cap, by rw [hlen], fun hne => ?_⟩⟩
  have hpos : 0 < len := by rw [← hlen]; exact List.length_pos_iff.2 hne
  obtain ⟨b, off, sp⟩ := x
  have hspot : sp = none := by simpa [Addr.add] using World.cell?_spot (hx 0 (by omega)).1
  subst hspot
  have hc : ∀ i, i < len → w.cell? ⟨b, off + i, none⟩ = some (.string (Sx i)) := fun i hi => by rw [← add_off]; exact (hx i (by omega)).1
  refine ⟨b, off, rfl, World.block_lt_of_cell? w _ (hc 0 hpos), fun i hi => ?_⟩
  rw [hlen] at hi
  rw [hc i hi]
  have e : ((List.range len).map fun i => (Sx i).data.toList).getD i [] = (Sx i).data.toList := by
    simp [List.getD, List.getElem?_map, List.getElem?_range hi]
  rw [e, of_data]
theorem i64_of_wf {n : Int} (h : (Lit.int .i64 n).wf = true) : I64 n := by have := bounds_i64 h; exact ⟨by omega, by omega⟩

/-! ### PackBounds -/
theorem rdI_all {n : Int} (h : I64 n) : rdI (restOf (enc n) 0 false) = (n, (enc n).length) := by
  have := rdI_enc h []
  rw [List.append_nil] at this
  exact this
theorem endV_ok {l : List UInt8} : endV l l.length false = 0 := if_pos ⟨rfl, rfl⟩
theorem endV_bad {l : List UInt8} {k : Nat} : endV l k true = 4 := if_neg (fun h => by cases h.2)
theorem endV_short {l : List UInt8} {k : Nat} {b : Bool} (h : k ≠ l.length) : endV l k b = 4 := if_neg (fun h2 => h h2.1)
theorem bad_zero (b : Bool) : (b || decide ((0 : Nat) = 0)) = true := by simp
theorem bad_pos {k : Nat} (h : k ≠ 0) : (false || decide (k = 0)) = false := by rw [decide_eq_false h]; rfl

set_option maxRecDepth 100000 in
set_option maxHeartbeats 1000000 in
theorem packBounds_walk (n lo hi : Int) (hn : (Lit.int .i64 n).wf = true) (hlo : (Lit.int .i64 lo).wf = true) (hhi : (Lit.int .i64 hi).wf = true) (w : World) :
    Calls Try.prog 8 #[.int .i64 n, .int .i64 lo, .int .i64 hi] w fun e w' => e = .returned (.bool true) ∧ Below w.heap.size w w' := by
  show Calls _ _ _ _ (AwPost w)
  have HI := Lib.hid (i64_of_wf hn)
  obtain ⟨hI1, hI2⟩ := HI.out
  clear hn hlo hhi
  have hel := enc_len_le n
  have HEL := Lib.hid hel; clear hel
  have HA := Lib.hid (rdI_all HI.out)
  by_cases h1 : n < lo
  · have HR := Lib.hid (rdB_out (lo := lo) (hi := hi) HA.out (.inr (.inl h1)))
    go_enter Try.func8, Try.ntmps8
    go_wp2_with fail
    refine (awake_any _).mono ?_
    rintro e w1 ⟨rfl, b1⟩
    have z1 := b1.size
    go_wp2_with fail
    refine (int_any _ [] n _ (rdB_nil _) HI.out (by decide)).mono ?_
    rintro e w2 ⟨v2, rfl, o2, b2⟩
    have B2 := st b1 b2 z1
    have z2 := B2.size
    rw [List.nil_append] at o2
    have R2 := Lib.hid (o2.rd (by have := HEL.out; omega))
    clear o2 b2 b1
    go_wp2_with fail
    refine (read_any _ (enc n) _ R2.out (by have := HEL.out; omega)).mono ?_
    rintro e w3 ⟨g, u, rfl, p3, b3, hg⟩
    have hg' : w.heap.size ≤ g := Nat.le_trans z2 hg
    have B3 := st B2 b3 z2
    have z3 := B3.size
    have P3 := Lib.hid p3
    clear p3 b3 hg B2 R2
    go_wp2_with fail
    refine (awake_any _).mono ?_
    rintro e w4 ⟨rfl, b4⟩
    have B4 := st B3 b4 z3
    have z4 := B4.size
    have P4 := Lib.hid (P3.out.below b4)
    clear b4 B3
    go_wp2_with fail
    refine (bounded_any _ g u _ 0 false lo hi P4.out).mono ?_
    rw [HR.out]
    rintro e w5 ⟨rfl, p5, b5⟩
    have B5 := B4.trans (b5.below hg' z4)
    have z5 := B5.size
    have P5 : Hid (PR w5 g u (enc n) 0 true) := Lib.hid (by simpa using p5)
    clear p5 b5 B4
    go_wp2_with fail
    refine (offset_any _ g u _ 0 true P5.out).mono ?_
    rintro e w' ⟨rfl, m, rfl⟩
    have P6 := Lib.hid (P5.out.drewN m)
    have B6 := below_drewN B5 m
    clear B5
    go_wp2_with fail
    refine (end_any _ g u _ 0 true P6.out).mono ?_
    rw [endV_bad]
    rintro e w' ⟨rfl, m2, rfl⟩
    have B7 := Lib.hid (below_drewN B6 m2)
    clear B6
    go_wp2
    go_ret
    exact ⟨rfl, by simpa using B7.out⟩
  · by_cases h2 : hi < n
    · have HR := Lib.hid (rdB_out (lo := lo) (hi := hi) HA.out (.inr (.inr h2)))
      go_enter Try.func8, Try.ntmps8
      go_wp2_with fail
      refine (awake_any _).mono ?_
      rintro e w1 ⟨rfl, b1⟩
      have z1 := b1.size
      go_wp2_with fail
      refine (int_any _ [] n _ (rdB_nil _) HI.out (by decide)).mono ?_
      rintro e w2 ⟨v2, rfl, o2, b2⟩
      have B2 := st b1 b2 z1
      have z2 := B2.size
      rw [List.nil_append] at o2
      have R2 := Lib.hid (o2.rd (by have := HEL.out; omega))
      clear o2 b2 b1
      go_wp2_with fail
      refine (read_any _ (enc n) _ R2.out (by have := HEL.out; omega)).mono ?_
      rintro e w3 ⟨g, u, rfl, p3, b3, hg⟩
      have hg' : w.heap.size ≤ g := Nat.le_trans z2 hg
      have B3 := st B2 b3 z2
      have z3 := B3.size
      have P3 := Lib.hid p3
      clear p3 b3 hg B2 R2
      go_wp2_with fail
      refine (awake_any _).mono ?_
      rintro e w4 ⟨rfl, b4⟩
      have B4 := st B3 b4 z3
      have z4 := B4.size
      have P4 := Lib.hid (P3.out.below b4)
      clear b4 B3
      go_wp2_with fail
      refine (bounded_any _ g u _ 0 false lo hi P4.out).mono ?_
      rw [HR.out]
      rintro e w5 ⟨rfl, p5, b5⟩
      have B5 := B4.trans (b5.below hg' z4)
      have z5 := B5.size
      have P5 : Hid (PR w5 g u (enc n) 0 true) := Lib.hid (by simpa using p5)
      clear p5 b5 B4
      go_wp2_with fail
      refine (offset_any _ g u _ 0 true P5.out).mono ?_
      rintro e w' ⟨rfl, m, rfl⟩
      have P6 := Lib.hid (P5.out.drewN m)
      have B6 := below_drewN B5 m
      clear B5
      go_wp2_with fail
      refine (end_any _ g u _ 0 true P6.out).mono ?_
      rw [endV_bad]
      rintro e w' ⟨rfl, m2, rfl⟩
      have B7 := Lib.hid (below_drewN B6 m2)
      clear B6
      go_wp2
      go_ret
      exact ⟨rfl, by simpa using B7.out⟩
    · have HR := Lib.hid (rdB_in (lo := lo) (hi := hi) HA.out (by omega) (by omega))
      go_enter Try.func8, Try.ntmps8
      go_wp2_with fail
      refine (awake_any _).mono ?_
      rintro e w1 ⟨rfl, b1⟩
      have z1 := b1.size
      go_wp2_with fail
      refine (int_any _ [] n _ (rdB_nil _) HI.out (by decide)).mono ?_
      rintro e w2 ⟨v2, rfl, o2, b2⟩
      have B2 := st b1 b2 z1
      have z2 := B2.size
      rw [List.nil_append] at o2
      have R2 := Lib.hid (o2.rd (by have := HEL.out; omega))
      clear o2 b2 b1
      go_wp2_with fail
      refine (read_any _ (enc n) _ R2.out (by have := HEL.out; omega)).mono ?_
      rintro e w3 ⟨g, u, rfl, p3, b3, hg⟩
      have hg' : w.heap.size ≤ g := Nat.le_trans z2 hg
      have B3 := st B2 b3 z2
      have z3 := B3.size
      have P3 := Lib.hid p3
      clear p3 b3 hg B2 R2
      go_wp2_with fail
      refine (awake_any _).mono ?_
      rintro e w4 ⟨rfl, b4⟩
      have B4 := st B3 b4 z3
      have z4 := B4.size
      have P4 := Lib.hid (P3.out.below b4)
      clear b4 B3
      go_wp2_with fail
      refine (bounded_any _ g u _ 0 false lo hi P4.out).mono ?_
      rw [HR.out]
      rintro e w5 ⟨rfl, p5, b5⟩
      have B5 := B4.trans (b5.below hg' z4)
      have z5 := B5.size
      have P5 : Hid (PR w5 g u (enc n) (enc n).length false) := Lib.hid (by
        have h : (false || decide ((enc n).length = 0)) = false := bad_pos (by have := HEL.out; omega)
        rw [← h]
        simpa using p5)
      clear p5 b5 B4
      go_wp2_with fail
      refine (end_any _ g u _ _ false P5.out).mono ?_
      rw [endV_ok]
      rintro e w' ⟨rfl, m2, rfl⟩
      have B7 := Lib.hid (below_drewN B5 m2)
      clear B5
      go_wp2
      go_ret
      exact ⟨rfl, by simpa using B7.out⟩
/-! ### PackNil -/
set_option maxRecDepth 1000000 in
theorem restNil_any (w : World) : Calls Try.prog 39 #[.pointer none] w (Drn w (.slice none 0 0)) := by
  go_enter Try.func39, Try.ntmps39
  go_wp2
  go_ret
  exact ⟨rfl, 0, rfl⟩
set_option maxRecDepth 1000000 in
theorem failNil_any (w : World) : Calls Try.prog 29 #[.pointer none] w (NonePost fun w' => w = w') := by
  go_enter Try.func29, Try.ntmps29
  go_wp2
  go_end0
  exact ⟨rfl, rfl⟩
set_option maxRecDepth 1000000 in
theorem boundedNil_any (w : World) (lo hi : Int) : Calls Try.prog 22 #[.pointer none, .int .i64 lo, .int .i64 hi] w (Drn w (.int .i64 0)) := by
  go_enter Try.func22, Try.ntmps22
  go_wp2_with fail
  refine (restNil_any _).mono ?_
  rintro e w' ⟨rfl, m, rfl⟩
  go_wp2_with fail
  refine (decodeInt_any _ [] _ (rdB_nil _)).mono ?_
  rw [rdI_nil]
  rintro e w' ⟨rfl, m2, rfl⟩
  go_wp2_with fail
  refine (failNil_any _).mono ?_
  rintro e w' ⟨rfl, rfl⟩
  go_wp2
  go_ret
  exact ⟨rfl, _, rfl⟩
set_option maxRecDepth 1000000 in
theorem intNil_any (w : World) : Calls Try.prog 20 #[.pointer none] w (Drn w (.int .i64 0)) := by
  go_enter Try.func20, Try.ntmps20
  go_wp2_with fail
  refine (boundedNil_any _ _ _).mono ?_
  rintro e w' ⟨rfl, m, rfl⟩
  go_wp2
  go_ret
  exact ⟨rfl, _, rfl⟩
set_option maxRecDepth 1000000 in
theorem stringNil_any (w : World) : Calls Try.prog 24 #[.pointer none] w (Drn w (.string ⟨#[]⟩)) := by
  go_enter Try.func24, Try.ntmps24
  go_wp2_with fail
  refine (restNil_any _).mono ?_
  rintro e w' ⟨rfl, m, rfl⟩
  go_wp2_with fail
  refine (decodeString_any _ [] _ (rdB_nil _)).mono ?_
  rw [rdS_nil]
  rintro e w' ⟨rfl, m2, rfl⟩
  go_wp2_with fail
  refine (failNil_any _).mono ?_
  rintro e w' ⟨rfl, rfl⟩
  go_wp2
  go_ret
  exact ⟨rfl, _, rfl⟩
set_option maxRecDepth 1000000 in
theorem stringsNil_any (w : World) (most : Int) : Calls Try.prog 27 #[.pointer none, .int .i64 most] w (Drn w (.slice none 0 0)) := by
  go_enter Try.func27, Try.ntmps27
  go_wp2
  go_ret
  exact ⟨rfl, 0, rfl⟩
set_option maxRecDepth 1000000 in
theorem offsetNil_any (w : World) : Calls Try.prog 30 #[.pointer none] w (Drn w (.int .i64 0)) := by
  go_enter Try.func30, Try.ntmps30
  go_wp2
  go_ret
  exact ⟨rfl, 0, rfl⟩
set_option maxRecDepth 1000000 in
theorem endNil_any (w : World) : Calls Try.prog 31 #[.pointer none] w (Drn w (.int .i64 7)) := by
  go_enter Try.func31, Try.ntmps31
  go_wp2
  go_ret
  exact ⟨rfl, 0, rfl⟩

set_option maxRecDepth 100000 in
set_option maxHeartbeats 1000000 in
theorem packNil_walk (lo most : Int) (hlo : (Lit.int .i64 lo).wf = true) (hm : (Lit.int .i64 most).wf = true) (w : World) :
    Calls Try.prog 9 #[.int .i64 lo, .int .i64 most] w fun e w' => e = .returned (.bool true) ∧ Below w.heap.size w w' := by
  show Calls _ _ _ _ (AwPost w)
  clear hlo hm
  go_enter Try.func9, Try.ntmps9
  go_wp2_with fail
  refine (awake_any _).mono ?_
  rintro e w1 ⟨rfl, b1⟩
  have z1 := b1.size
  go_wp2_with fail
  refine (awake_any _).mono ?_
  rintro e w2 ⟨rfl, b2⟩
  have B2 := Lib.hid (st b1 b2 z1)
  clear b1 b2
  go_wp2_with fail
  refine (failNil_any _).mono ?_
  rintro e w' ⟨rfl, rfl⟩
  go_wp2_with fail
  refine (intNil_any _).mono ?_
  rintro e w' ⟨rfl, m1, rfl⟩
  go_wp2_with fail
  refine (boundedNil_any _ _ _).mono ?_
  rintro e w' ⟨rfl, m2, rfl⟩
  go_wp2_with fail
  refine (stringNil_any _).mono ?_
  rintro e w' ⟨rfl, m3, rfl⟩
  go_wp2_with fail
  refine (stringsNil_any _ _).mono ?_
  rintro e w' ⟨rfl, m4, rfl⟩
  go_wp2_with fail
  refine (offsetNil_any _).mono ?_
  rintro e w' ⟨rfl, m5, rfl⟩
  go_wp2_with fail
  refine (endNil_any _).mono ?_
  rintro e w' ⟨rfl, m6, rfl⟩
  go_wp2
  go_ret
  exact ⟨rfl, below_drewN B2.out _⟩
end Go.Proofs.Ytglllbodhdgahaa
