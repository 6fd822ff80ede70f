/- copied, appendInt, Int, appendString, String, Strings of the program. -/
import Derived.Test.YtglllbodhdgahaaPc
namespace Go.Proofs.Ytglllbodhdgahaa
open Go.RowKit
set_option linter.unusedVariables false

/-- Bytes of the call's own, from a block on. -/
def AppPost (w : World) (base : Nat) (l : List UInt8) (e : Ending) (w' : World) : Prop := ∃ v, e = .returned v ∧ OwnB w' base 5 v l ∧ Below base w w'

set_option maxRecDepth 1000000 in
set_option maxHeartbeats 400000 in
theorem copied_any (v : Value) (l : List UInt8) (r : Nat) (w : World) (hv : RdB w v l) (hb : l.length + r ≤ 140737488355328) :
    Calls Try.prog 33 #[v, .int .i64 (r : Int)] w (OwnPost w l) := by
  obtain ⟨i0, hi, hz0, hz1, hz2⟩ := info_parts Try.infoB
  obtain ⟨a, c, rfl⟩ := hv.slice
  have Hv := Lib.hid hv; clear hv
  go_enter Try.func33, Try.ntmps33
  go_wp2_with (refine wpList_make_own w rfl _ _ 22 rfl w.heap.size 5 i0 (.int .u8 0) 1 Try.underlying22 hi hz0 hz1 .i64 .i64 _ (l.length + r) rfl rfl ?b1 ?b2 ?b3 ?b4 ?_)
  case b1 => omega
  case b2 => rw [hz2]; omega
  case b3 => (have hm : maxLen = 9223372036854775807 := by decide); omega
  case b4 => exact Nat.le_refl _
  · intro w1 o1 g1
    have b1 : Below w.heap.size w w1 := (Below.refl _ w).grown g1 (Nat.le_refl _) (fun k e => by cases e)
    have z1 := b1.size
    have o1' : w1.ownsRow w.heap.size 5 1 (.slice (some ⟨w.heap.size, 0, none⟩) 0 (l.length + r)) 0 (byteCells []) := o1
    clear g1 o1
    go_wp2_with (at_builtin; go_loud (refine wpList_append_bytes rfl _ _ 22 rfl w.heap.size 5 i0 Try.underlying22 hi hz0 hz1 hz2 _ 0 [] l _ rfl o1' rfl (Hv.out.below b1) ?c1 ?c2 ?_))
    case c1 => omega
    case c2 => exact z1
    · intro v2 w2 o2 g2
      have b2 : Below w.heap.size w w2 := b1.grown g2 z1 (fun k e => (o1'.lt k e).1)
      have Q := Lib.hid (And.intro o2 b2)
      clear g2 o1' b1 z1 o2 b2
      go_wp2
      go_ret
      refine ⟨_, rfl, ?_, Q.out.2⟩
      have := Q.out.1
      unfold OwnB
      simpa using this

theorem shift_eq (m k : Nat) : ((m : Int) / 2 ^ (8 * k)) = ((m / 256 ^ k : Nat) : Int) := by
  rw [Int.natCast_ediv, Int.natCast_pow, Int.pow_mul]
  rfl
theorem shift_yes {m k : Nat} (hm : m < 18446744073709551616) (h : k < nb m) : (((m : Int) / 2 ^ (8 * k)) != 0) = true := by
  rw [shift_eq, bne_iff_ne]
  intro e
  have := (nb_shift hm k).1 (by omega)
  omega
theorem shift_no {m k : Nat} (hm : m < 18446744073709551616) (h : k = nb m) : (((m : Int) / 2 ^ (8 * k)) != 0) = false := by
  rw [shift_eq, (nb_shift hm k).2 (by omega)]
  rfl
/-- Bytes that are written one by one, the most significant one first. -/
def BeRel (w : World) (base : Nat) (m : Nat) (all : List UInt8) (v0 v8 : Value) (wr : World) : Prop :=
  ∃ (i : Nat) (q : Int) (pre : List UInt8), i ≤ 8 ∧ v8 = .int .i64 q ∧ q = (i : Int) - 1 ∧ pre ++ beK i m = all ∧ OwnB wr base 5 v0 pre ∧ Below base w wr
theorem be_step {w w2 : World} {base m p : Nat} {all pre : List UInt8} {v' : Value} (hp : p < 8) (he : pre ++ beK (p + 1) m = all)
    (hown' : OwnB w2 base 5 v' (pre ++ [UInt8.ofNat (m / 256 ^ p)])) (hB : Below base w w2) (q : Int) (hq : q = (p : Int) - 1) :
    BeRel w base m all v' (.int .i64 q) w2 := by
  exact ⟨p, q, pre ++ [UInt8.ofNat (m / 256 ^ p)], by omega, rfl, hq, by rw [← he]; simp [beK], hown', hB⟩
theorem pre_le {pre r all : List UInt8} {n : Nat} (h : pre ++ r = all) (hl : all.length ≤ n) : pre.length ≤ n := by
  have := congrArg List.length h
  rw [List.length_append] at this
  omega
theorem shr_byte (m p : Nat) : IntKind.u8.wrap ((m : Int) / 2 ^ (8 * p)) = ((m / 256 ^ p % 256 : Nat) : Int) := by rw [shift_eq, IntKind.wrap_u8]; omega
theorem enc_neg {n : Int} {m : Nat} (hm : n.natAbs = m) (h : n < 0) : enc n = UInt8.ofNat (nb m + 16) :: beK (nb m) m := by unfold enc encN; rw [hm, decide_eq_true h]; rfl
theorem enc_pos (m : Nat) : enc (m : Int) = UInt8.ofNat (nb m) :: beK (nb m) m := by unfold enc encN; rw [decide_eq_false (by omega)]; rfl
set_option maxRecDepth 1000000 in
set_option maxHeartbeats 1000000 in
theorem appendInt_any (v : Value) (xs : List UInt8) (n : Int) (base : Nat) (w : World) (hn : I64 n) (hbase : base ≤ w.heap.size) (ho : OwnB w base 5 v xs) (hl : xs.length ≤ 1000000000) :
    Calls Try.prog 32 #[v, .int .i64 n] w (AppPost w base (xs ++ enc n)) := by
  obtain ⟨i0, hi, hz0, hz1, hz2⟩ := info_parts Try.infoB
  obtain ⟨hn1, hn2⟩ := hn
  by_cases h0 : n < 0
  · obtain ⟨a, ha⟩ : ∃ a, IntKind.u64.wrap n = a := ⟨_, rfl⟩
    obtain ⟨m, hm⟩ : ∃ m : Nat, n.natAbs = m := ⟨_, rfl⟩
    have hma : IntKind.u64.wrap (-a) = (m : Int) := by rw [← ha, IntKind.wrap_u64, IntKind.wrap_u64]; omega
    have hm64 : m < 18446744073709551616 := by omega
    have He := Lib.hid (enc_neg hm h0)
    clear hm
    have h8 := nb_le m
    have hz := enc_len_le n
    have Hl : Hid ((xs ++ enc n).length ≤ 1000000010) := Lib.hid (by rw [List.length_append]; omega)
    clear hz
    go_enter Try.func32, Try.ntmps32
    go_wp2
    go_loop [7] (fun s7 => ∃ k : Nat, k ≤ nb m ∧ s7 = .int .i64 k) (fun s7 => 8 - (intOf s7).toNat)
    case atStart => exact ⟨0, Nat.zero_le _, rfl⟩
    case round =>
      obtain ⟨k, hk, rfl⟩ := hrel
      have hk8 : k ≤ 8 := Nat.le_trans hk h8
      by_cases hlt : k < nb m
      · have q := shift_yes hm64 hlt
        go_wp2
        go_round
        case rel => exact ⟨k + 1, by omega, by go_num⟩
        case measure => simp [intOf]; omega
      · have hkn : k = nb m := by omega
        have q := shift_no hm64 hkn
        have Hk := Lib.hid hkn
        clear hkn hlt hk h8
        have hb : Below base w w := Below.refl _ _
        obtain ⟨hd, hhd⟩ : ∃ hd, UInt8.ofNat (nb m + 16) = hd := ⟨_, rfl⟩
        have Hy : Hid (by8 hd = (16 + (k : Int))) := Lib.hid (by rw [← hhd, by8_ofNat, ← Hk.out]; omega)
        have He2 : Hid (xs ++ enc n = (xs ++ [hd]) ++ beK k m) := Lib.hid (by rw [He.out, hhd, Hk.out]; simp)
        clear hhd
        go_wp2_with (at_builtin; go_loud (refine wpList_append_one rfl _ _ 22 rfl base i0 Try.underlying22 hi hz0 hz1 hz2 _ xs hd Hy.out rfl ho rfl (by omega) hbase hb ?_))
        · intro v' w2 o2 B2
          have Q := Lib.hid (And.intro o2 B2)
          clear o2 B2 ho hb
          go_wp2
          go_loopw [0, 8] (fun s0 s8 wr => BeRel w base m (xs ++ enc n) s0 s8 wr) (fun _ s8 _ => (intOf s8 + 1).toNat)
          case atStart => exact ⟨k, _, _, hk8, rfl, rfl, He2.out.symm, Q.out.1, Q.out.2⟩
          case round =>
            obtain ⟨i, qq, pre, hi8, rfl, hq, he, hown, hB⟩ := hrel
            have hpl := pre_le he Hl.out
            have hz := hB.size
            rcases Nat.eq_zero_or_pos i with h00 | h00
            · subst h00
              obtain rfl : qq = -1 := by omega
              have HE := Lib.hid he
              have HR := Lib.hid (And.intro hown hB)
              clear he hown hB hq
              go_wp2
              go_ret
              have e := HE.out
              rw [show beK 0 m = [] from rfl, List.append_nil] at e
              subst e
              exact ⟨_, rfl, HR.out.1, HR.out.2⟩
            · obtain ⟨p, rfl⟩ : ∃ p, i = p + 1 := ⟨i - 1, by omega⟩
              obtain rfl : qq = (p : Int) := by omega
              obtain ⟨y, hy⟩ : ∃ y, by8 (UInt8.ofNat (m / 256 ^ p)) = y := ⟨_, rfl⟩
              obtain ⟨cc, hcc⟩ : ∃ cc, UInt8.ofNat (m / 256 ^ p) = cc := ⟨_, rfl⟩
              have hy2 : IntKind.u8.wrap ((m : Int) / 2 ^ (8 * p)) = y := by rw [shr_byte, ← hy, by8_ofNat]
              have HE := Lib.hid he
              rw [hcc] at hy
              have HC := Lib.hid hcc
              have HY := Lib.hid hy
              clear he hy hq h00 hcc
              go_wp2_with (at_builtin; go_loud (refine wpList_append_one rfl _ _ 22 rfl base i0 Try.underlying22 hi hz0 hz1 hz2 _ pre cc HY.out rfl hown rfl (by omega) (by omega) hB ?_))
              · intro v3 w3 hown3 B3
                have R := Lib.hid (be_step (by omega) HE.out (by rw [HC.out]; exact hown3) B3 ((p : Int) - 1) rfl)
                clear hown3 B3 hown hB
                go_wp2
                go_roundw
                case rel => exact R.out
                case measure => simp [intOf]
  · obtain ⟨m, rfl⟩ : ∃ m : Nat, n = (m : Int) := ⟨n.toNat, by omega⟩
    have hma : IntKind.u64.wrap (m : Int) = (m : Int) := by rw [IntKind.wrap_u64]; omega
    have hm64 : m < 18446744073709551616 := by omega
    have He := Lib.hid (enc_pos m)
    have h8 := nb_le m
    have hz := enc_len_le (m : Int)
    have Hl : Hid ((xs ++ enc (m : Int)).length ≤ 1000000010) := Lib.hid (by rw [List.length_append]; omega)
    clear hz
    go_enter Try.func32, Try.ntmps32
    go_wp2
    go_loop [7] (fun s7 => ∃ k : Nat, k ≤ nb m ∧ s7 = .int .i64 k) (fun s7 => 8 - (intOf s7).toNat)
    case atStart => exact ⟨0, Nat.zero_le _, rfl⟩
    case round =>
      obtain ⟨k, hk, rfl⟩ := hrel
      have hk8 : k ≤ 8 := Nat.le_trans hk h8
      by_cases hlt : k < nb m
      · have q := shift_yes hm64 hlt
        go_wp2
        go_round
        case rel => exact ⟨k + 1, by omega, by go_num⟩
        case measure => simp [intOf]; omega
      · have hkn : k = nb m := by omega
        have q := shift_no hm64 hkn
        have Hk := Lib.hid hkn
        clear hkn hlt hk h8
        have hb : Below base w w := Below.refl _ _
        obtain ⟨hd, hhd⟩ : ∃ hd, UInt8.ofNat (nb m) = hd := ⟨_, rfl⟩
        have Hy : Hid (by8 hd = (k : Int)) := Lib.hid (by rw [← hhd, by8_ofNat, ← Hk.out]; omega)
        have He2 : Hid (xs ++ enc (m : Int) = (xs ++ [hd]) ++ beK k m) := Lib.hid (by rw [He.out, hhd, Hk.out]; simp)
        clear hhd
        go_wp2_with (at_builtin; go_loud (refine wpList_append_one rfl _ _ 22 rfl base i0 Try.underlying22 hi hz0 hz1 hz2 _ xs hd Hy.out rfl ho rfl (by omega) hbase hb ?_))
        · intro v' w2 o2 B2
          have Q := Lib.hid (And.intro o2 B2)
          clear o2 B2 ho hb
          go_wp2
          go_loopw [0, 8] (fun s0 s8 wr => BeRel w base m (xs ++ enc (m : Int)) s0 s8 wr) (fun _ s8 _ => (intOf s8 + 1).toNat)
          case atStart => exact ⟨k, _, _, hk8, rfl, rfl, He2.out.symm, Q.out.1, Q.out.2⟩
          case round =>
            obtain ⟨i, qq, pre, hi8, rfl, hq, he, hown, hB⟩ := hrel
            have hpl := pre_le he Hl.out
            have hz := hB.size
            rcases Nat.eq_zero_or_pos i with h00 | h00
            · subst h00
              obtain rfl : qq = -1 := by omega
              have HE := Lib.hid he
              have HR := Lib.hid (And.intro hown hB)
              clear he hown hB hq
              go_wp2
              go_ret
              have e := HE.out
              rw [show beK 0 m = [] from rfl, List.append_nil] at e
              subst e
              exact ⟨_, rfl, HR.out.1, HR.out.2⟩
            · obtain ⟨p, rfl⟩ : ∃ p, i = p + 1 := ⟨i - 1, by omega⟩
              obtain rfl : qq = (p : Int) := by omega
              obtain ⟨y, hy⟩ : ∃ y, by8 (UInt8.ofNat (m / 256 ^ p)) = y := ⟨_, rfl⟩
              obtain ⟨cc, hcc⟩ : ∃ cc, UInt8.ofNat (m / 256 ^ p) = cc := ⟨_, rfl⟩
              have hy2 : IntKind.u8.wrap ((m : Int) / 2 ^ (8 * p)) = y := by rw [shr_byte, ← hy, by8_ofNat]
              have HE := Lib.hid he
              rw [hcc] at hy
              have HC := Lib.hid hcc
              have HY := Lib.hid hy
              clear he hy hq h00 hcc
              go_wp2_with (at_builtin; go_loud (refine wpList_append_one rfl _ _ 22 rfl base i0 Try.underlying22 hi hz0 hz1 hz2 _ pre cc HY.out rfl hown rfl (by omega) (by omega) hB ?_))
              · intro v3 w3 hown3 B3
                have R := Lib.hid (be_step (by omega) HE.out (by rw [HC.out]; exact hown3) B3 ((p : Int) - 1) rfl)
                clear hown3 B3 hown hB
                go_wp2
                go_roundw
                case rel => exact R.out
                case measure => simp [intOf]
end Go.Proofs.Ytglllbodhdgahaa
