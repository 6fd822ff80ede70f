/- The eight bytes of a number (both); counted, seal, Sum (both). -/
import Derived.Test.YtapldfkmkdbjgaaDb
import Derived.Laws.OwnMore
namespace Go.Proofs.Ytapldfkmkdbjgaa
open Go.RowKit
set_option linter.unusedVariables false
theorem Try.infoB : (Try.prog.info? 5).map (fun i => (i.zero, i.size, i.bytes)) = some (some (.int .u8 0), 1, 1) := by kernel_rfl
theorem own_below {w w' : World} {base n : Nat} {e : TypeId} {size : Nat} {v : Value} {xs : List Value} (h : w.ownsRow base e size v n xs) (hb : Below w.heap.size w w') : w'.ownsRow base e size v n xs := by
  refine ⟨h.1, ?_⟩
  rcases h.2 with h0 | ⟨g, cap, cur, hv, hB, hg, hr⟩
  · exact .inl h0
  · exact .inr ⟨g, cap, cur, hv, hB, (hb.block g (Array.getElem?_eq_some_iff.1 hg).1).trans hg, hr⟩

/-- New bytes, the call's own. -/
def OwnPost (w : World) (l : List UInt8) (e : Ending) (w' : World) : Prop := ∃ v, e = .returned v ∧ w'.ownsRow w.heap.size 5 1 v l.length (byteCells l) ∧ Below w.heap.size w w'
theorem le8_cells (n : Int) (h : Num n) : byteCells (le8 n) = [.int .u8 (n % 256), .int .u8 (n / 256 % 256), .int .u8 (n / 65536 % 256), .int .u8 (n / 16777216 % 256), .int .u8 (n / 4294967296 % 256), .int .u8 (n / 1099511627776 % 256), .int .u8 (n / 281474976710656 % 256), .int .u8 (n / 72057594037927936)] := by
  obtain ⟨h0, h1⟩ := h
  simp only [le8, leB, byteCells, List.map_cons, List.map_nil, by8_ofNat]
  have e2 : n / 256 / 256 % 256 = n / 65536 % 256 := by omega
  have e3 : n / 256 / 256 / 256 % 256 = n / 16777216 % 256 := by omega
  have e4 : n / 256 / 256 / 256 / 256 % 256 = n / 4294967296 % 256 := by omega
  have e5 : n / 256 / 256 / 256 / 256 / 256 % 256 = n / 1099511627776 % 256 := by omega
  have e6 : n / 256 / 256 / 256 / 256 / 256 / 256 % 256 = n / 281474976710656 % 256 := by omega
  have e7 : n / 256 / 256 / 256 / 256 / 256 / 256 / 256 % 256 = n / 72057594037927936 := by omega
  rw [e2, e3, e4, e5, e6, e7]

set_option maxRecDepth 1000000 in
set_option maxHeartbeats 400000 in
theorem eight_any (n : Int) (w : World) (hn : Num n) :
    Calls Try.prog 27 #[.int .u64 n] w (OwnPost w (le8 n)) := by
  have hmk : ∀ w, (Instr.makeSlice 23 (.int .i64 8) (.int .i64 8)).run Try.prog w = .ok (.slice (some ⟨w.heap.size, 0, none⟩) 8 8) (w.alloc (.cells #[.int .u8 0, .int .u8 0, .int .u8 0, .int .u8 0, .int .u8 0, .int .u8 0, .int .u8 0, .int .u8 0] 5)) := fun _ => by kernel_rfl
  have Hc := Lib.hid (le8_cells n hn)
  obtain ⟨h0, h1⟩ := hn
  go_enter Try.func27, Try.ntmps27
  go_wp2
  refine wp_loop_rounds 9 ?_
  iterate 8 (rw [rounds_succ]; go_wp2)
  rw [rounds_succ]
  go_wp2
  go_ret
  refine ⟨_, rfl, ?_, (Below.refl _ _).alloc (Nat.le_refl _) _⟩
  rw [le8_length, Hc.out]
  exact World.ownsRow_lit w _ 8 (Nat.le_refl _) (by decide) rfl

def EightRel (n : Int) (w : World) (v0 v3 v4 : Value) (wr : World) : Prop :=
  ∃ (k : Nat) (m : Int) (pre : List UInt8), k ≤ 8 ∧ pre.length = k ∧ v4 = .int .i64 k ∧ v0 = .int .u64 m ∧ Num m ∧ le8 n = pre ++ leB (8 - k) m ∧ wr.ownsRow w.heap.size 5 1 v3 k (byteCells pre) ∧ Below w.heap.size w wr
theorem eight_step {n m : Int} {w wr w2 : World} {k : Nat} {pre : List UInt8} {v' : Value} {o : Obj} {row : Option Nat} (hk : k < 8) (hp : pre.length = k) (hm : Num m) (he : le8 n = pre ++ leB (8 - k) m) (hB : Below w.heap.size w wr)
    (hown' : w2.ownsRow w.heap.size 5 1 v' (k + 1) (byteCells pre ++ [.int .u8 (m % 256)])) (hg : (wr.alloc o).grownBy w2 row) (hr : ∀ j, row = some j → w.heap.size ≤ j) :
    EightRel n w (.int .u64 (m / 256)) v' (.int .i64 (k + 1)) w2 := by
  obtain ⟨h0, h1⟩ := hm
  obtain ⟨j, hj⟩ : ∃ j, 8 - k = j + 1 := ⟨7 - k, by omega⟩
  rw [hj] at he
  refine ⟨k + 1, m / 256, pre ++ [UInt8.ofNat (m % 256).toNat], by omega, by simp [hp], by go_num, rfl, ⟨by omega, by omega⟩, ?_, ?_, (hB.alloc hB.size o).grown hg (by have := hB.size; simp; omega) hr⟩
  · rw [he, show 8 - (k + 1) = j from by omega]; simp [leB]
  · have : byteCells (pre ++ [UInt8.ofNat (m % 256).toNat]) = byteCells pre ++ [.int .u8 (m % 256)] := by rw [byteCells_app]; simp [byteCells, by8_ofNat]
    rw [this]; exact hown'

set_option maxRecDepth 1000000 in
set_option maxHeartbeats 400000 in
theorem refEight_any (n : Int) (w : World) (hn : Num n) :
    Calls Try.prog 28 #[.int .u64 n] w (OwnPost w (le8 n)) := by
  obtain ⟨i0, hi, hz0, hz1, hz2⟩ := info_parts Try.infoB
  have Hn := Lib.hid hn; clear hn
  go_enter Try.func28, Try.ntmps28
  go_wp2
  go_loopw [0, 3, 4] (fun v0 v3 v4 wr => EightRel n w v0 v3 v4 wr) (fun _ _ i _ => 8 - (intOf i).toNat)
  case atStart => exact ⟨0, n, [], by omega, rfl, rfl, rfl, Hn.out, rfl, World.ownsRow_nil _ _ _ _, Below.refl _ _⟩
  case round =>
    obtain ⟨k, m, pre, hk, hp, rfl, rfl, hm, he, hown, hB⟩ := hrel
    have Hm := Lib.hid hm
    obtain ⟨m0, m1⟩ := hm
    have He := Lib.hid he; clear he
    have Hp := Lib.hid hp; clear hp
    by_cases hlt : k < 8
    · have hsz := hB.size
      go_wp2_with (at_builtin; refine wpList_append_own _ rfl _ _ 23 rfl w.heap.size 5 i0 (.int .u8 0) 1 1 Try.underlying23 hi hz0 hz1 hz2 rfl (by decide) _ _ _ rfl (hown.alloc _) ⟨wr.heap.size, 0, none⟩ 1 1 [.int .u8 (m % 256)] rfl rfl ?c1 ?c2 ?c3 ?c4 ?c5 ?_)
      case c1 => exact cell_one_new _ _ _
      case c2 => intro u hu; simp at hu; subst hu; rfl
      case c3 => unfold maxLen; omega
      case c4 => omega
      case c5 => simp; omega
      · intro v' w2 hown2 hgrow _
        have R := Lib.hid (eight_step hlt Hp.out Hm.out He.out hB hown2 hgrow (fun j e => (hown.lt j e).1))
        clear hown2 hgrow hown hB
        go_wp2
        go_roundw
        case rel => exact R.out
        case measure => simp [intOf]; omega
    · obtain rfl : k = 8 := by omega
      go_wp2
      go_ret
      have h8 := He.out
      rw [show leB (8 - 8) m = [] from rfl, List.append_nil] at h8
      exact ⟨_, rfl, by rw [le8_length, h8]; exact hown, hB⟩
end Go.Proofs.Ytapldfkmkdbjgaa
