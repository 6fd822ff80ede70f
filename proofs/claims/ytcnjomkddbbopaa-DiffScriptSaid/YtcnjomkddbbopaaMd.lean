/- slices.Backward: the iterator over a list of items from its end. -/
import Derived.RangeFuncNested
import Derived.RangeFuncBound
import Derived.RangeFuncCalls
import Derived.RangeFuncLeaves
import Derived.RangeFuncBox
import Derived.Shelf.Abstract
import Derived.Shelf.RegionOpen
import Derived.WalkKit
import Derived.OwnWalkIn
import Derived.TacticsInMore
import Derived.LoopNIn
import Derived.LoopIn
import Derived.Test.YtcnjomkddbbopaaMc
namespace Go.Proofs.Ytcnjomkddbbopaa
open Go.RowKit Go.Shelf
set_option linter.unusedVariables false
attribute [local go_sem] Oper.semAt_some

/-- A round of the loop: the index and the item. -/
def rndV (xs : List (Nat × Nat)) (x : Fin xs.length) : Array Value := #[.int .i64 (x.val : Int), .agg #[.int .i64 ((xs[x.val]).1 : Int), .int .i64 ((xs[x.val]).2 : Int)]]
/-- From the end. -/
def IsB {n : Nat} (pre : List (Fin n)) : Prop := ∀ i x, pre[i]? = some x → x.val + i + 1 = n
theorem isB_nil {n : Nat} : IsB ([] : List (Fin n)) := fun i x h => by simp at h
theorem isB_snoc {n : Nat} {pre : List (Fin n)} {x : Fin n} : IsB (pre ++ [x]) ↔ IsB pre ∧ x.val + pre.length + 1 = n := by
  constructor
  · intro h
    refine ⟨fun i y hy => h i y ?_, h pre.length x (by simp)⟩
    rw [List.getElem?_append_left (List.getElem?_eq_some_iff.1 hy).1]; exact hy
  · rintro ⟨h1, h2⟩ i y hy
    rcases Nat.lt_trichotomy i pre.length with h | h | h
    · rw [List.getElem?_append_left h] at hy; exact h1 i y hy
    · subst h; simp at hy; subst hy; exact h2
    · rw [List.getElem?_eq_none (by simp; omega)] at hy; cases hy
/-- But for block C, what lies below n is as it was. -/
structure Bt (n C : Nat) (w w' : World) : Prop where
  os : w'.os = w.os
  tape : w'.tape = w.tape
  output : w'.output = w.output
  size : w.heap.size ≤ w'.heap.size
  block : ∀ k, k < n → k ≠ C → w'.heap[k]? = w.heap[k]?
theorem Bt.refl (n C : Nat) (w : World) : Bt n C w w := ⟨rfl, rfl, rfl, Nat.le_refl _, fun _ _ _ => rfl⟩
theorem Bt.trans {n C : Nat} {A B D : World} (h : Bt n C A B) (k : Bt n C B D) : Bt n C A D :=
  ⟨k.os.trans h.os, k.tape.trans h.tape, k.output.trans h.output, Nat.le_trans h.size k.size, fun i hi hc => (k.block i hi hc).trans (h.block i hi hc)⟩
theorem Bt.of_below {n C : Nat} {w w' : World} (h : Below n w w') : Bt n C w w' := ⟨h.os, h.tape, h.output, h.size, fun k hk _ => h.block k hk⟩
theorem Bt.setCell (n C : Nat) (w : World) (i : Nat) (u : Value) : Bt n C w (w.setCell ⟨C, i, none⟩ u) :=
  ⟨rfl, rfl, rfl, by simp [World.setCell], fun k hk hg => Below.heap_setCell _ _ _ _ hg⟩
theorem Bt.of_but {n C : Nat} {w w' : World} (h : But C w w') (hn : n ≤ w.heap.size) : Bt n C w w' := ⟨h.os, h.tape, h.output, h.size, fun k hk hc => h.block k (by omega) hc⟩
theorem Bt.but {n C : Nat} {w w' : World} (h : Bt n C w w') (hn : w.heap.size ≤ n) : But C w w' := ⟨h.os, h.tape, h.output, h.size, fun k hk hc => h.block k (by omega) hc⟩
theorem Bt.mono {n m C : Nat} {w w' : World} (h : Bt n C w w') (hn : m ≤ n) : Bt m C w w' := ⟨h.os, h.tape, h.output, h.size, fun k hk hc => h.block k (by omega) hc⟩
theorem bt_b {n C : Nat} {w : World} (hn : n ≤ w.heap.size) (W : World) (l : Nat) (o o' : Obj) (hl : w.heap.size ≤ l) (h : W.heap[l]? = some o) (h1 : o.isCells = false) (h2 : o.isWalk = false) : Bt n C W (W.putObj l o') :=
  Bt.of_below (belowK_b hn W l o o' hl h h1 h2)
theorem Blk.bt {B n C : Nat} {t : TypeId} {cs : Array Value} {W W' : World} (h : Blk B t cs W) (hb : Bt n C W W') (hn : B < n) (hne : B ≠ C) : Blk B t cs W' := (hb.block B hn hne).trans h
theorem Rd.bt {α : Type} {k : Nat} {enc : α → List Value} {n C : Nat} {w w' : World} {v : Value} {l : List α} (h : Rd k enc w v l) (hb : Bt n C w w') (hne : ∀ b, v.ownBlock = some b → b < n ∧ b ≠ C) : Rd k enc w' v l := by
  obtain ⟨⟨a, c, rfl, h1, h2, hx⟩, hn⟩ := h
  refine ⟨⟨a, c, rfl, h1, h2, fun hl => ?_⟩, hn⟩
  obtain ⟨b, off, ha, hlt, hc⟩ := hx hl
  subst ha
  obtain ⟨h3, h4⟩ := hne b rfl
  exact ⟨b, off, rfl, Nat.lt_of_lt_of_le hlt hb.size, fun i x hi j u hu => (World.cell?_of_block (w := w) (a := ⟨b, off + i * k + j, none⟩) (hb.block b h3 h4)).trans (hc i x hi j u hu)⟩

set_option maxRecDepth 1000000 in
set_option maxHeartbeats 1000000 in
theorem backward1_in (F : Fence) (n : Nat) (h45 : F.fn 45) (hro : F.round = none) (hn : 1 ≤ n) (l n₀ Bs C b off cap : Nat) (xs : List (Nat × Nat)) (hx : xs.length ≤ 1000) (J Jx : List (Fin xs.length) → World → Prop)
    (hY : ∀ pre x W, J pre W → pre.length < xs.length → YieldAt F (n - 1) Try.prog l (rndV xs x) W fun e W' =>
      (e = .returned (.bool true) ∧ J (pre ++ [x]) W' ∧ Bt n₀ C W W') ∨ (e = .returned (.bool false) ∧ Jx (pre ++ [x]) W'))
    (W : World) (hBs : Blk Bs 50 #[.slice (some ⟨b, off, none⟩) xs.length cap] W) (hBn : Bs < n₀) (hBC : Bs ≠ C) (hbC : b < n₀ ∧ b ≠ C) (hR : Rd 2 encP W (.slice (some ⟨b, off, none⟩) xs.length cap) xs) (h0 : J [] W) :
    CallsIn F n Try.prog 45 #[.func (.yield l) #[] #[], .pointer (some ⟨Bs, 0, none⟩)] W fun e W' => (∃ v, e = .returned v) ∧
      ((∃ ys, (IsB ys ∧ ys.length = xs.length) ∧ J ys W') ∨ (∃ pre, IsB pre ∧ Jx pre W')) := by
  refine callsIn_of_wp Try.func45 rfl h45 ?_ hro
  simp only [Try.ntmps45, List.size_toArray, List.length_cons, List.length_nil, Nat.reduceAdd, Nat.reduceSub, Array.replicate_succ, Array.replicate_zero, List.push_toArray, List.append_toArray, List.nil_append, List.cons_append]
  have hb0 : W.cell? ⟨Bs, 0, none⟩ = some (.slice (some ⟨b, off, none⟩) xs.length cap) := hBs.cell 0
  gi_wp2
  gi_loopw [3] (fun i wr => ∃ (m : Nat) (pre : List (Fin xs.length)), m ≤ xs.length ∧ i = .int .i64 ((xs.length : Int) - 1 - m) ∧ (IsB pre ∧ pre.length = m) ∧ J pre wr ∧ Bt n₀ C W wr) (fun i _ => (intOf i + 1).toNat)
  case atStart => exact ⟨0, [], Nat.zero_le _, by simp, ⟨isB_nil, rfl⟩, h0, Bt.refl _ _ _⟩
  case round =>
    obtain ⟨m, pre, hm, rfl, ⟨hpre, hpl⟩, hJs, hnx⟩ := hrel
    have hB := hBs.bt hnx hBn hBC
    have hb1 : wr.cell? ⟨Bs, 0, none⟩ = some (.slice (some ⟨b, off, none⟩) xs.length cap) := hB.cell 0
    have HR := Lib.hid (hR.bt hnx (fun b' e => by cases e; exact hbC))
    by_cases hlt : m < xs.length
    · obtain ⟨k, hk⟩ : ∃ k, xs.length - 1 - m = k := ⟨_, rfl⟩
      have hkl : k < xs.length := by omega
      have ei : (xs.length : Int) - 1 - m = (k : Int) := by omega
      rw [ei]
      obtain ⟨_, _, e, c1, c2⟩ := HR.out.pair k hkl
      cases e
      obtain ⟨fn, tmps, assign, body, hy, hRr⟩ := hY _ ⟨k, hkl⟩ wr hJs (by omega)
      have hy' := hy
      unfold rndV at hy
      dsimp only at hy
      obtain ⟨p, hp⟩ : ∃ p, xs[k] = p := ⟨_, rfl⟩
      rw [hp] at hy c1 c2
      obtain ⟨p1, p2⟩ := p
      dsimp only at hy c1 c2
      clear hy'
      have h2 : (k : Int) < (xs.length : Int) := by omega
      have Hk := Lib.hid hk
      have Hei := Lib.hid ei
      have HS := Lib.hid (isB_snoc.2 ⟨hpre, show (⟨k, hkl⟩ : Fin xs.length).val + pre.length + 1 = xs.length by show k + pre.length + 1 = _; omega⟩)
      have HPL := Lib.hid hpl
      clear hk ei hp hB hJs hpre hpl
      gi_wp2
      refine hRr.mono ?_
      rintro e W3 (⟨rfl, hJ3, hk3⟩ | ⟨rfl, hJx3⟩)
      · have HJ3 := Lib.hid hJ3; clear hJ3
        gi_wp2
        go_roundw
        case rel => exact ⟨m + 1, _, by omega, by have := Hei.out; first | (go_num; done) | exact val_int (by omega), ⟨HS.out, by rw [List.length_append, HPL.out]; rfl⟩, HJ3.out, hnx.trans hk3⟩
        case measure => simp [intOf]
      · have HJ3 := Lib.hid hJx3; clear hJx3
        gi_wp2
        refine bodyPost_ret (results_none rfl _ _ _) rfl ?_
        exact ⟨⟨_, rfl⟩, .inr ⟨_, HS.out, HJ3.out⟩⟩
    · obtain rfl : m = xs.length := by omega
      have ei : (xs.length : Int) - 1 - xs.length = -1 := by omega
      rw [ei]
      have HJ := Lib.hid hJs
      have HS := Lib.hid hpre
      have HPL := Lib.hid hpl
      clear ei hJs hpre hpl
      gi_wp2
      go_end0
      exact ⟨⟨_, rfl⟩, .inl ⟨_, ⟨HS.out, HPL.out⟩, HJ.out⟩⟩

set_option maxRecDepth 1000000 in
set_option maxHeartbeats 1000000 in
/-- .. of no items: no round. -/
theorem backward1_nil_in (F : Fence) (n : Nat) (h45 : F.fn 45) (hro : F.round = none) (l Bs : Nat) (a : Option Addr) (cap : Nat) {xs : List (Nat × Nat)} (J : List (Fin xs.length) → World → Prop) (W : World)
    (hBs : Blk Bs 50 #[.slice a 0 cap] W) (h0 : J [] W) :
    CallsIn F n Try.prog 45 #[.func (.yield l) #[] #[], .pointer (some ⟨Bs, 0, none⟩)] W fun e W' => (∃ v, e = .returned v) ∧ J [] W' := by
  refine callsIn_of_wp Try.func45 rfl h45 ?_ hro
  simp only [Try.ntmps45, List.size_toArray, List.length_cons, List.length_nil, Nat.reduceAdd, Nat.reduceSub, Array.replicate_succ, Array.replicate_zero, List.push_toArray, List.append_toArray, List.nil_append, List.cons_append]
  have hb0 : W.cell? ⟨Bs, 0, none⟩ = some (.slice a 0 cap) := hBs.cell 0
  gi_wp2
  gi_loopw [3] (fun i wr => i = .int .i64 (-1) ∧ J [] wr) (fun _ _ => 0)
  case atStart => exact ⟨by go_num, h0⟩
  case round =>
    obtain ⟨rfl, hJs⟩ := hrel
    gi_wp2
    go_end0
    exact ⟨⟨_, rfl⟩, hJs⟩
/-- slices.Backward(x): the list is boxed; the function value captures the box. -/
theorem backward_in (F : Fence) (n : Nat) (h44 : F.fn 44) (hro : F.round = none) (a : Option Addr) (len cap : Nat) (w : World) :
    CallsIn F n Try.prog 44 #[.slice a len cap] w fun e w' => e = .returned (.func (.func 45) #[] #[.pointer (some ⟨w.heap.size, 0, none⟩)]) ∧ w' = w.alloc (.cells #[.slice a len cap] 50) := by
  refine callsIn_of_wp Try.func44 rfl h44 ?_ hro
  simp only [Try.ntmps44, List.size_toArray, List.length_cons, List.length_nil, Nat.reduceAdd, Nat.reduceSub, Array.replicate_succ, Array.replicate_zero, List.push_toArray, List.append_toArray, List.nil_append, List.cons_append]
  gi_wp2
  go_ret
  exact ⟨rfl, rfl⟩
theorem backward_stops (F : Fence) (n : Nat) (h45 : F.fn 45) (hro : F.round = none) (hn : 1 ≤ n) (Bs n₀ C : Nat) (a : Option Addr) (cap : Nat) (xs : List (Nat × Nat)) (hx : xs.length ≤ 1000) (w : World) (hn₀ : n₀ ≤ w.heap.size)
    (hBs : Blk Bs 50 #[.slice a xs.length cap] w) (hBn : Bs < n₀) (hBC : Bs ≠ C) (hbC : 0 < xs.length → ∀ b o s, a = some ⟨b, o, s⟩ → b < n₀ ∧ b ≠ C) (hR : Rd 2 encP w (.slice a xs.length cap) xs) :
    SeqStopsK F n Try.prog 45 #[.pointer (some ⟨Bs, 0, none⟩)] (rndV xs) (Bt n₀ C) (fun ys => IsB ys ∧ ys.length = xs.length) (fun pre => IsB pre) xs.length w := fun l J Jx W hW _ _ hY h0 => by
  have hB' := hBs.belowAt (hW.mono hn₀) hBn
  rcases Nat.eq_zero_or_pos xs.length with h | h
  · rw [h] at hB'
    exact (backward1_nil_in F n h45 hro l Bs a cap J W hB' h0).mono fun e W' ⟨he, hj⟩ => ⟨he, .inl ⟨_, ⟨isB_nil, h.symm⟩, hj⟩⟩
  · have hR' := hR.bt (n := n₀) (C := C) (Bt.of_below (hW.mono hn₀)) (fun b e => by cases a with | none => cases e | some x => obtain ⟨x1, x2, x3⟩ := x; cases e; exact hbC h _ _ _ rfl)
    obtain ⟨b, off, rfl, _, _⟩ := hR'.some_ 0 h
    exact backward1_in F n h45 hro hn l n₀ Bs C b off cap xs hx J Jx hY W hB' hBn hBC (hbC h _ _ _ rfl) hR' h0
end Go.Proofs.Ytcnjomkddbbopaa
