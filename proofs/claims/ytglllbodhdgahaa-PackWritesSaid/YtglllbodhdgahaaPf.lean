/- Int, String, Strings of the specification; Same. -/
import Derived.Test.YtglllbodhdgahaaPe
namespace Go.Proofs.Ytglllbodhdgahaa
open Go.RowKit
set_option linter.unusedVariables false

/-- Bytes of a number, the least significant one first put ahead of what there is. -/
def RiRel (w : World) (m : Nat) (v4 v5 : Value) (wr : World) : Prop :=
  ∃ (x : Nat) (out : List UInt8), x < 18446744073709551616 ∧ v4 = .int .u64 (x : Int) ∧ OwnB wr w.heap.size 5 v5 out ∧ beK (nb x) x ++ out = beK (nb m) m ∧ Below w.heap.size w wr
theorem ri_len {m x : Nat} {out : List UInt8} (h : beK (nb x) x ++ out = beK (nb m) m) : nb x + out.length = nb m := by
  have := congrArg List.length h
  rwa [List.length_append, beK_length, beK_length] at this
theorem ri_step {m x : Nat} {out : List UInt8} (hx : x < 18446744073709551616) (h0 : x ≠ 0) (h : beK (nb x) x ++ out = beK (nb m) m) : beK (nb (x / 256)) (x / 256) ++ (UInt8.ofNat x :: out) = beK (nb m) m := by
  rw [← h, nb_step hx h0, beK_snoc]
  simp
theorem ownB_lit (w : World) (y : Int) (c : UInt8) (hy : by8 c = y) : OwnB (w.alloc (.cells #[.int .u8 y] 5)) w.heap.size 5 (.slice (some ⟨w.heap.size, 0, none⟩) 1 1) [c] := by
  have := World.ownsRow_lit (e := 5) (size := 1) w #[.int .u8 y] 1 (Nat.le_refl _) (by decide) rfl
  unfold OwnB
  rw [show byteCells [c] = [.int .u8 y] from by simp [byteCells, hy]]
  exact this

set_option maxRecDepth 1000000 in
set_option maxHeartbeats 1000000 in
theorem refInt_any (n : Int) (w : World) (hn : I64 n) :
    Calls Try.prog 14 #[.int .i64 n] w (OwnPost w (enc n)) := by
  obtain ⟨i0, hi, hz0, hz1, hz2⟩ := info_parts Try.infoB
  obtain ⟨hn1, hn2⟩ := hn
  by_cases h0 : n < 0
  · obtain ⟨a, ha⟩ : ∃ a, IntKind.u64.wrap n = a := ⟨_, rfl⟩
    obtain ⟨m, hm⟩ : ∃ m : Nat, n.natAbs = m := ⟨_, rfl⟩
    have hma : IntKind.u64.wrap (-a) = (m : Int) := by rw [← ha, IntKind.wrap_u64, IntKind.wrap_u64]; omega
    have hm64 : m < 18446744073709551616 := by omega
    have He := Lib.hid (enc_neg hm h0)
    clear hm
    have h8 := nb_le m
    go_enter Try.func14, Try.ntmps14
    go_wp2
    go_loopw [4, 5] (fun v4 v5 wr => RiRel w m v4 v5 wr) (fun v4 _ _ => (intOf v4).toNat)
    case atStart => exact ⟨m, [], hm64, rfl, ownB_nil _ _ _, by simp, Below.refl _ _⟩
    case round =>
      obtain ⟨x, out, hx, rfl, hown, he, hB⟩ := hrel
      have zr := hB.size
      have hlen := ri_len he
      have Ho := Lib.hid hown; clear hown
      rcases Nat.eq_zero_or_pos x with h00 | h00
      · subst h00
        have hj : out.length = nb m := by rw [nb_zero] at hlen; omega
        have hj8 : out.length ≤ 8 := by omega
        obtain ⟨hd, hhd⟩ : ∃ hd, UInt8.ofNat (nb m + 16) = hd := ⟨_, rfl⟩
        have Hy : Hid (by8 hd = 16 + (out.length : Int)) := Lib.hid (by rw [← hhd, by8_ofNat]; omega)
        have HE : Hid (enc n = hd :: out) := Lib.hid (by rw [He.out, hhd]; rw [nb_zero] at he; rw [← he]; rfl)
        obtain ⟨a5, c5, rfl⟩ := (Ho.out.rd (by omega)).slice
        have HL : Hid ([hd].length + out.length ≤ 140737488355328) := Lib.hid (by simp; omega)
        clear hj he hlen h8 hhd
        go_wp2_with (at_builtin; go_loud (refine wpList_append_many (W := wr) rfl _ _ 22 rfl wr.heap.size 5 i0 Try.underlying22 hi hz0 hz1 hz2 _ [hd] out _ rfl (ownB_lit _ _ hd Hy.out) rfl ((Ho.out.rd (by omega)).alloc _) HL.out (by simp) ((Below.refl _ wr).alloc (Nat.le_refl _) _) ?_))
        · intro v2 w2 o2 b2
          have Q := Lib.hid (show OwnB w2 w.heap.size 5 v2 (enc n) ∧ Below w.heap.size w w2 from ⟨by rw [HE.out]; exact o2.base zr, hB.trans (b2.mono zr)⟩)
          clear o2 b2 hB
          go_wp2
          go_ret
          exact ⟨_, rfl, Q.out.1, Q.out.2⟩
      · obtain ⟨cc, hcc⟩ : ∃ cc, UInt8.ofNat x = cc := ⟨_, rfl⟩
        obtain ⟨y, hy⟩ : ∃ y, by8 cc = y := ⟨_, rfl⟩
        have hy2 : IntKind.u8.wrap (x : Int) = y := by rw [← hy, ← hcc, by8_ofNat, IntKind.wrap_u8]; omega
        have HE := Lib.hid (ri_step hx (by omega) he)
        rw [hcc] at HE
        have HY := Lib.hid hy
        have hj8 : out.length ≤ 8 := by omega
        obtain ⟨a5, c5, rfl⟩ := (Ho.out.rd (by omega)).slice
        clear hlen h8 hcc hy he
        go_wp2_with (at_builtin; go_loud (refine wpList_append_many (W := wr) rfl _ _ 22 rfl wr.heap.size 5 i0 Try.underlying22 hi hz0 hz1 hz2 _ [cc] out _ rfl (ownB_lit _ _ cc HY.out) rfl ((Ho.out.rd (by omega)).alloc _) (by simp; omega) (by simp) ((Below.refl _ wr).alloc (Nat.le_refl _) _) ?_))
        · intro v2 w2 o2 b2
          have R := Lib.hid (show RiRel w m (.int .u64 ((x / 256 : Nat) : Int)) v2 w2 from ⟨x / 256, cc :: out, by omega, rfl, o2.base zr, HE.out, hB.trans (b2.mono zr)⟩)
          clear o2 b2 hB
          go_wp2
          go_roundw
          case rel => exact R.out
          case measure => simp [intOf]; omega
  · obtain ⟨m, rfl⟩ : ∃ m : Nat, n = (m : Int) := ⟨n.toNat, by omega⟩
    have hma : IntKind.u64.wrap (m : Int) = (m : Int) := by rw [IntKind.wrap_u64]; omega
    have hm64 : m < 18446744073709551616 := by omega
    have He := Lib.hid (enc_pos m)
    have h8 := nb_le m
    go_enter Try.func14, Try.ntmps14
    go_wp2
    go_loopw [4, 5] (fun v4 v5 wr => RiRel w m v4 v5 wr) (fun v4 _ _ => (intOf v4).toNat)
    case atStart => exact ⟨m, [], hm64, rfl, ownB_nil _ _ _, by simp, Below.refl _ _⟩
    case round =>
      obtain ⟨x, out, hx, rfl, hown, he, hB⟩ := hrel
      have zr := hB.size
      have hlen := ri_len he
      have Ho := Lib.hid hown; clear hown
      rcases Nat.eq_zero_or_pos x with h00 | h00
      · subst h00
        have hj : out.length = nb m := by rw [nb_zero] at hlen; omega
        have hj8 : out.length ≤ 8 := by omega
        obtain ⟨hd, hhd⟩ : ∃ hd, UInt8.ofNat (nb m) = hd := ⟨_, rfl⟩
        have Hy : Hid (by8 hd = (out.length : Int)) := Lib.hid (by rw [← hhd, by8_ofNat]; omega)
        have HE : Hid (enc (m : Int) = hd :: out) := Lib.hid (by rw [He.out, hhd]; rw [nb_zero] at he; rw [← he]; rfl)
        obtain ⟨a5, c5, rfl⟩ := (Ho.out.rd (by omega)).slice
        have HL : Hid ([hd].length + out.length ≤ 140737488355328) := Lib.hid (by simp; omega)
        clear hj he hlen h8 hhd
        go_wp2_with (at_builtin; go_loud (refine wpList_append_many (W := wr) rfl _ _ 22 rfl wr.heap.size 5 i0 Try.underlying22 hi hz0 hz1 hz2 _ [hd] out _ rfl (ownB_lit _ _ hd Hy.out) rfl ((Ho.out.rd (by omega)).alloc _) HL.out (by simp) ((Below.refl _ wr).alloc (Nat.le_refl _) _) ?_))
        · intro v2 w2 o2 b2
          have Q := Lib.hid (show OwnB w2 w.heap.size 5 v2 (enc (m : Int)) ∧ Below w.heap.size w w2 from ⟨by rw [HE.out]; exact o2.base zr, hB.trans (b2.mono zr)⟩)
          clear o2 b2 hB
          go_wp2
          go_ret
          exact ⟨_, rfl, Q.out.1, Q.out.2⟩
      · obtain ⟨cc, hcc⟩ : ∃ cc, UInt8.ofNat x = cc := ⟨_, rfl⟩
        obtain ⟨y, hy⟩ : ∃ y, by8 cc = y := ⟨_, rfl⟩
        have hy2 : IntKind.u8.wrap (x : Int) = y := by rw [← hy, ← hcc, by8_ofNat, IntKind.wrap_u8]; omega
        have HE := Lib.hid (ri_step hx (by omega) he)
        rw [hcc] at HE
        have HY := Lib.hid hy
        have hj8 : out.length ≤ 8 := by omega
        obtain ⟨a5, c5, rfl⟩ := (Ho.out.rd (by omega)).slice
        clear hlen h8 hcc hy he
        go_wp2_with (at_builtin; go_loud (refine wpList_append_many (W := wr) rfl _ _ 22 rfl wr.heap.size 5 i0 Try.underlying22 hi hz0 hz1 hz2 _ [cc] out _ rfl (ownB_lit _ _ cc HY.out) rfl ((Ho.out.rd (by omega)).alloc _) (by simp; omega) (by simp) ((Below.refl _ wr).alloc (Nat.le_refl _) _) ?_))
        · intro v2 w2 o2 b2
          have R := Lib.hid (show RiRel w m (.int .u64 ((x / 256 : Nat) : Int)) v2 w2 from ⟨x / 256, cc :: out, by omega, rfl, o2.base zr, HE.out, hB.trans (b2.mono zr)⟩)
          clear o2 b2 hB
          go_wp2
          go_roundw
          case rel => exact R.out
          case measure => simp [intOf]; omega
end Go.Proofs.Ytglllbodhdgahaa
