/- A value that reads as bytes; the contracts of step, From (both), Same. -/
import Derived.Test.YtapldfkmkdbjgaaDa
import Derived.WalkKit
import Derived.WalkLawsBesides
import Derived.WalkSpells
import Derived.Below
import Derived.Lib.Hide
import Derived.LoopTactic
import Derived.Lib.OthersKept
import Derived.Deep.QuietTactic
import Derived.BigQuiet
import Derived.OwnWalk
import Derived.Maps.AppendAt
import Derived.WalkSmall
namespace Go.Proofs.Ytapldfkmkdbjgaa
open Go.RowKit
set_option linter.unusedVariables false

/-- A value that reads as a list of bytes, in memory that lies below block 'top'. -/
structure RdB (w : World) (v : Value) (l : List UInt8) : Prop where
  len : l.length ≤ 140737488355328
  form : ∃ a c, v = .slice a l.length c ∧ l.length ≤ c ∧ c ≤ 9223372036854775807 ∧ (l ≠ [] → ∃ b off, a = some ⟨b, off, none⟩ ∧ b < w.heap.size ∧ ∀ i, i < l.length → w.cell? ⟨b, off + i, none⟩ = some (.int .u8 (by8 (l.getD i 0))))
  nil_ : ∀ n c, v = .slice none n c → c = 0
theorem RdB.below {w w' : World} {v : Value} {l : List UInt8} (h : RdB w v l) (hb : Below w.heap.size w w') : RdB w' v l := by
  obtain ⟨hl, ⟨a, c, hv, h1, h2, hx⟩, hn⟩ := h
  refine ⟨hl, ⟨a, c, hv, h1, h2, fun hne => ?_⟩, hn⟩
  obtain ⟨b, off, ha, hlt, hc⟩ := hx hne
  exact ⟨b, off, ha, Nat.lt_of_lt_of_le hlt hb.size, fun i hi => (hb.cell (p := ⟨b, off + i, none⟩) hlt).trans (hc i hi)⟩
theorem RdB.drewN {w : World} {v : Value} {l : List UInt8} (h : RdB w v l) (n : Nat) : RdB (w.drewN n) v l := h.below (below_drewN (Below.refl _ _) n)
theorem RdB.drew {w : World} {v : Value} {l : List UInt8} (h : RdB w v l) : RdB w.drew v l := h.below (Below.refl _ _).drew
theorem RdB.alloc {w : World} {v : Value} {l : List UInt8} (h : RdB w v l) (o : Obj) : RdB (w.alloc o) v l := h.below ((Below.refl _ _).alloc (Nat.le_refl _) o)

def byteCells (l : List UInt8) : List Value := l.map fun b => Value.int .u8 (by8 b)
theorem byteCells_length (l : List UInt8) : (byteCells l).length = l.length := by simp [byteCells]
theorem byteCells_app (l r : List UInt8) : byteCells (l ++ r) = byteCells l ++ byteCells r := by simp [byteCells]
theorem add_none (g k : Nat) : (⟨g, 0, none⟩ : Addr).add k = ⟨g, 0 + k, none⟩ := by unfold Addr.add; split <;> simp_all
theorem add_off (g o k : Nat) : (⟨g, o, none⟩ : Addr).add k = ⟨g, o + k, none⟩ := by unfold Addr.add; split <;> simp_all
theorem RdB.of_own {w : World} {base n : Nat} {e : TypeId} {v : Value} {l : List UInt8} (h : w.ownsRow base e 1 v n (byteCells l)) (hl : l.length ≤ 140737488355328) : RdB w v l := by
  have hn : l.length = n := by have := h.1; simpa [byteCells] using this
  rcases h.2 with ⟨rfl, h0⟩ | ⟨g, cap, cur, rfl, hb, hg, hnc, hcap, hr⟩
  · exact ⟨hl, ⟨none, 0, by rw [hn, h0], by omega, by omega, fun hne => absurd (List.eq_nil_of_length_eq_zero (by omega)) hne⟩, fun n c hc => by injection hc with _ _ h3; exact h3.symm⟩
  · refine ⟨hl, ⟨_, cap, by rw [hn], by omega, by (have hm : maxLen = 9223372036854775807 := by decide); omega, fun hne => ⟨g, 0, rfl, (Array.getElem?_eq_some_iff.1 hg).1, fun i hi => ?_⟩⟩, fun n c hc => by injection hc with h1 _ _; cases h1⟩
    have := h.cells (g := g) rfl i (.int .u8 (by8 (l.getD i 0))) (by simp [byteCells, List.getD, List.getElem?_eq_getElem hi])
    rw [add_none] at this
    exact this

theorem ret_int {k : IntKind} {a b : Int} (h : a = b) : Ending.returned (.int k a) = .returned (.int k b) := by rw [h]
theorem ret_bool {a b : Bool} (h : a = b) : Ending.returned (.bool a) = .returned (.bool b) := by rw [h]
def Computes (w : World) (v : Value) (e : Ending) (w' : World) : Prop := e = .returned v ∧ w = w'
theorem bthen {b : Nat} {w w1 w2 : World} (h : Below b w w1) (h2 : Below w1.heap.size w1 w2) (hs : b ≤ w1.heap.size) : Below b w w2 := h.trans (h2.mono hs)

set_option maxRecDepth 1000000 in
set_option maxHeartbeats 400000 in
theorem step_any (h c : Int) (w : World) (c0 : 0 ≤ c) (c1 : c < 256) :
    Calls Try.prog 24 #[.int .u64 h, .int .u8 c] w (Computes w (.int .u64 (stp h c))) := by
  go_enter Try.func24, Try.ntmps24
  go_wp2
  go_ret
  exact ⟨rfl, rfl⟩

theorem take_snocB (l : List UInt8) (k : Nat) (h : k < l.length) : l.take (k + 1) = l.take k ++ [l[k]?.getD 0] := by
  rw [List.take_succ_eq_append_getElem h, List.getElem?_eq_getElem h]; rfl
theorem dig_take (h : Int) (l : List UInt8) (k : Nat) (hk : k < l.length) : dig h (l.take (k + 1)) = stp (dig h (l.take k)) (by8 (l[k]?.getD 0)) := by
  rw [take_snocB l k hk, dig_snoc]
def FromRel (h : Int) (l : List UInt8) (v0 i : Value) : Prop := ∃ k : Nat, k ≤ l.length ∧ i = .int .i64 k ∧ v0 = .int .u64 (dig h (l.take k))
theorem from_step {h : Int} {l : List UInt8} {k : Nat} {x d : Int} (hk : k < l.length) (hx : by8 (l[k]?.getD 0) = x) (hd : dig h (l.take k) = d) : FromRel h l (.int .u64 (stp d x)) (.int .i64 (k + 1)) :=
  ⟨k + 1, hk, by go_num, by rw [dig_take h l k hk, hx, hd]⟩

set_option maxRecDepth 1000000 in
set_option maxHeartbeats 400000 in
theorem from_any (h : Int) (v : Value) (l : List UInt8) (w : World) (hv : RdB w v l) :
    Calls Try.prog 11 #[.int .u64 h, v] w (Computes w (.int .u64 (dig h l))) := by
  obtain ⟨hl, ⟨a, c, rfl, hc1, hc2, hx⟩, _⟩ := hv
  have Hx := Lib.hid hx; clear hx
  clear hc1 hc2
  go_enter Try.func11, Try.ntmps11
  go_wp2
  go_loop [0, 9] (fun v0 i => FromRel h l v0 i) (fun _ i => l.length - (intOf i).toNat)
  case atStart => exact ⟨0, Nat.zero_le _, rfl, rfl⟩
  case round =>
    obtain ⟨k, hk, rfl, rfl⟩ := hrel
    by_cases hlt : k < l.length
    · obtain ⟨bk, off, rfl, hbl, hc⟩ := Hx.out (List.ne_nil_of_length_pos (by omega))
      have h1 : w.cell? ⟨bk, off + k, none⟩ = some (.int .u8 (by8 (l[k]?.getD 0))) := by rw [← List.getD_eq_getElem?_getD]; exact hc k hlt
      clear hc
      have hr := by8_lt (l[k]?.getD 0)
      obtain ⟨x, hxk⟩ : ∃ x, by8 (l[k]?.getD 0) = x := ⟨_, rfl⟩
      rw [hxk] at h1 hr
      obtain ⟨hr1, hr2⟩ := hr
      obtain ⟨d, hd⟩ : ∃ d, dig h (l.take k) = d := ⟨_, rfl⟩
      rw [hd]
      have R := Lib.hid (from_step hlt hxk hd)
      clear hxk hd
      go_wp2_with fail
      refine (step_any d x _ hr1 hr2).mono ?_
      rintro e w' ⟨rfl, rfl⟩
      go_wp2
      go_round
      case rel => exact R.out
      case measure => simp [intOf]; omega
    · go_wp2
      go_ret
      exact ⟨ret_int (by rw [List.take_of_length_le (by omega)]), rfl⟩

set_option maxRecDepth 1000000 in
set_option maxHeartbeats 400000 in
theorem refFrom_any (h : Int) (v : Value) (l : List UInt8) (w : World) (hv : RdB w v l) :
    Calls Try.prog 12 #[.int .u64 h, v] w (Computes w (.int .u64 (dig h l))) := by
  obtain ⟨hl, ⟨a, c, rfl, hc1, hc2, hx⟩, _⟩ := hv
  have Hx := Lib.hid hx; clear hx
  clear hc1 hc2
  go_enter Try.func12, Try.ntmps12
  go_wp2
  go_loop [0, 5] (fun v0 i => FromRel h l v0 i) (fun _ i => l.length - (intOf i).toNat)
  case atStart => exact ⟨0, Nat.zero_le _, rfl, rfl⟩
  case round =>
    obtain ⟨k, hk, rfl, rfl⟩ := hrel
    by_cases hlt : k < l.length
    · obtain ⟨bk, off, rfl, hbl, hc⟩ := Hx.out (List.ne_nil_of_length_pos (by omega))
      have h1 : w.cell? ⟨bk, off + k, none⟩ = some (.int .u8 (by8 (l[k]?.getD 0))) := by rw [← List.getD_eq_getElem?_getD]; exact hc k hlt
      clear hc
      have hr := by8_lt (l[k]?.getD 0)
      obtain ⟨x, hxk⟩ : ∃ x, by8 (l[k]?.getD 0) = x := ⟨_, rfl⟩
      rw [hxk] at h1 hr
      obtain ⟨hr1, hr2⟩ := hr
      obtain ⟨d, hd⟩ : ∃ d, dig h (l.take k) = d := ⟨_, rfl⟩
      rw [hd]
      have R := Lib.hid (from_step hlt hxk hd)
      clear hxk hd
      go_wp2
      go_round
      case rel => exact R.out
      case measure => simp [intOf]; omega
    · go_wp2
      go_ret
      exact ⟨ret_int (by rw [List.take_of_length_le (by omega)]), rfl⟩
end Go.Proofs.Ytapldfkmkdbjgaa
