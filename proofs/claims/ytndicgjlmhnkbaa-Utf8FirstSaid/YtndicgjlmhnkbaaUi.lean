/- The iterator over the boundaries of a string, with their positions. -/
import Derived.RangeFuncNested
import Derived.RangeFuncBound
import Derived.RangeFuncCalls
import Derived.RangeFuncLeaves
import Derived.Shelf.Abstract
import Derived.Shelf.RegionOpen
import Derived.WalkKit
import Derived.OwnWalkIn
import Derived.TacticsInMore
import Derived.LoopNIn
import Derived.LoopIn
import Derived.Test.YtndicgjlmhnkbaaUe
namespace Go.Proofs.Ytndicgjlmhnkbaa
open Go.RowKit Go.Shelf
set_option linter.unusedVariables false
attribute [local go_sem] Oper.semAt_some

/-- A position: offset, line, column. -/
structure Ps where
  o : Nat
  l : Nat
  c : Nat
def psV (p : Ps) : Value := .agg #[.int .i64 p.o, .int .i64 p.l, .int .i64 p.c]
def bnd : Nat → List UInt8 → Ps → List Ps
  | 0, _, p => [p]
  | f + 1, l, p => if l = [] then [p] else p :: bnd f (l.drop (dl l).2) ⟨p.o + (dl l).2, if (dl l).1 = 10 then p.l + 1 else p.l, if (dl l).1 = 10 then 1 else p.c + 1⟩
theorem bnd_nil (f : Nat) (p : Ps) : bnd f [] p = [p] := by cases f <;> simp [bnd]
theorem bnd_fuel : ∀ (f g : Nat) (l : List UInt8) (p : Ps), l.length ≤ f → l.length ≤ g → bnd f l p = bnd g l p
  | 0, g, l, p, hf, _ => by
    have : l = [] := List.length_eq_zero_iff.1 (by omega)
    subst this; rw [bnd_nil, bnd_nil]
  | f + 1, 0, l, p, _, hg => by
    have : l = [] := List.length_eq_zero_iff.1 (by omega)
    subst this; rw [bnd_nil, bnd_nil]
  | f + 1, g + 1, l, p, hf, hg => by
    unfold bnd
    by_cases h : l = []
    · simp [h]
    · rw [if_neg h, if_neg h]
      have hw := dl_width l
      congr 1
      exact bnd_fuel f g _ _ (by rw [List.length_drop]; omega) (by rw [List.length_drop]; omega)
/-- The next position. -/
def nxt (l : List UInt8) (p : Ps) : Ps := ⟨p.o + (dl l).2, if (dl l).1 = 10 then p.l + 1 else p.l, if (dl l).1 = 10 then 1 else p.c + 1⟩
def bnds (l : List UInt8) (p : Ps) : List Ps := bnd l.length l p
theorem bnds_nil (p : Ps) : bnds [] p = [p] := rfl
theorem bnds_cons (l : List UInt8) (p : Ps) (h : l ≠ []) : bnds l p = p :: bnds (l.drop (dl l).2) (nxt l p) := by
  have h0 : 0 < l.length := List.length_pos_iff.2 h
  have hw := dl_width l
  unfold bnds
  obtain ⟨f, hf⟩ : ∃ f, l.length = f + 1 := ⟨l.length - 1, by omega⟩
  rw [hf]
  show (if l = [] then [p] else p :: bnd f (l.drop (dl l).2) (nxt l p)) = _
  rw [if_neg h]
  congr 1
  exact bnd_fuel _ _ _ _ (by rw [List.length_drop]; omega) (Nat.le_refl _)

theorem grownBy_iterAt (W : World) (k : Nat) (s : ByteArray) (p : Nat) : W.grownBy (W.iterAt k s p) (some k) :=
  ⟨rfl, rfl, rfl, by rw [Lib.iterAt_size]; exact Nat.le_refl _, fun j _ hne => Lib.iterAt_other W k j s p (fun e => hne (by rw [e]))⟩

/-- What the loop of the iterator keeps. -/
structure ItRel (s : ByteArray) (it Bn n₀ : Nat) (J : List Ps → World → Prop) (pre : List Ps) (p : Ps) (W : World) : Prop where
  iter : W.heap[it]? = some (.stringIter s p.o)
  box : W.cell? ⟨Bn, 0, none⟩ = some (.string s)
  split : bnds s.data.toList ⟨0, 1, 1⟩ = pre ++ bnds (s.data.toList.drop p.o) p
  le : p.o ≤ s.size
  ll : p.l ≤ p.o + 1
  cc : p.c ≤ p.o + 1
  inv : J pre W

theorem ItRel.next {s : ByteArray} {it Bn n₀ : Nat} {J : List Ps → World → Prop} {pre : List Ps} {p q : Ps} {W W3 : World} (h : ItRel s it Bn n₀ J pre p W) (hp : p.o < s.size) (hB : Bn < n₀) (hit : n₀ ≤ it)
    (hk : Below n₀ (W.iterAt it s (p.o + (dl (s.data.toList.drop p.o)).2)) W3 ∧ KeepsWalks (W.iterAt it s (p.o + (dl (s.data.toList.drop p.o)).2)) W3) (hJ : J (pre ++ [p]) W3) (hq : q = nxt (s.data.toList.drop p.o) p) : ItRel s it Bn n₀ J (pre ++ [p]) q W3 := by
  subst hq
  have hw := dl_width (s.data.toList.drop p.o)
  have h1 := h.ll
  have h2 := h.cc
  refine ⟨hk.2.same it _ (Lib.iterAt_heap _ _ _ _ _ h.iter) rfl, ?_, ?_, width_le hp, ?_, ?_, hJ⟩
  · rw [hk.1.cell (p := ⟨Bn, 0, none⟩) hB, ← h.box]
    exact World.cell?_of_block (Lib.iterAt_other _ _ _ _ _ (by show Bn ≠ it; omega))
  · rw [h.split, bnds_cons _ _ (drop_ne hp), List.drop_drop]; simp [nxt]
  · simp only [nxt]; split <;> omega
  · simp only [nxt]; split <;> omega
theorem nxt_nl {l : List UInt8} {p : Ps} (h : (dl l).1 = 10) : (⟨p.o + (dl l).2, p.l + 1, 1⟩ : Ps) = nxt l p := by simp [nxt, h]
theorem nxt_el {l : List UInt8} {p : Ps} (h : (dl l).1 ≠ 10) : (⟨p.o + (dl l).2, p.l, p.c + 1⟩ : Ps) = nxt l p := by simp [nxt, h]

set_option maxRecDepth 1000000 in
set_option maxHeartbeats 1000000 in
theorem bound1_in (F : Fence) (n : Nat) (h33 : F.fn 33) (hro : F.round = none) (hn : 1 ≤ n) (l Bn n₀ : Nat) (s : ByteArray) (hs : s.size ≤ 281474976710656 / 64) (J Jx : List Ps → World → Prop) (W : World)
    (hJ : AbidesFrom W.heap.size J) (hJx : AbidesFrom W.heap.size Jx) (hB0 : Bn < n₀) (hn0 : n₀ ≤ W.heap.size)
    (hY : ∀ pre x W1, J pre W1 → pre.length < (bnds s.data.toList ⟨0, 1, 1⟩).length → YieldAt F (n - 1) Try.prog l #[psV x] W1 fun e W' =>
      (e = .returned (.bool true) ∧ J (pre ++ [x]) W' ∧ (Below n₀ W1 W' ∧ KeepsWalks W1 W')) ∨ (e = .returned (.bool false) ∧ Jx (pre ++ [x]) W'))
    (hBn : W.cell? ⟨Bn, 0, none⟩ = some (.string s)) (h0 : J [] W) :
    CallsIn F n Try.prog 33 #[.func (.yield l) #[] #[], .pointer (some ⟨Bn, 0, none⟩)] W fun e W' => (∃ v, e = .returned v) ∧
      ((∃ ys, ys = bnds s.data.toList ⟨0, 1, 1⟩ ∧ J ys W') ∨ (∃ pre, pre <+: bnds s.data.toList ⟨0, 1, 1⟩ ∧ Jx pre W')) := by
  refine callsIn_of_wp Try.func33 rfl h33 ?_ hro
  simp only [Try.ntmps33, List.size_toArray, List.length_cons, List.length_nil, Nat.reduceAdd, Nat.reduceSub, Array.replicate_succ, Array.replicate_zero, List.push_toArray, List.append_toArray, List.nil_append, List.cons_append]
  gi_wp2
  gi_loopw [3, 4] (fun ln c wr => ∃ (pre : List Ps) (p : Ps), ln = .int .i64 p.l ∧ c = .int .i64 p.c ∧ ItRel s W.heap.size Bn n₀ J pre p wr) (fun _ _ wr => s.size - wr.iterPos W.heap.size)
  case atStart =>
    refine ⟨[], ⟨0, 1, 1⟩, rfl, rfl, heap_alloc_new W _, ?_, by simp, by simp, by simp, by simp, hJ [] W _ none h0 (World.grownBy_alloc W _ none) (fun r e => by cases e)⟩
    exact (World.cell?_alloc_past _ _ _ (by show Bn < W.heap.size; omega)).trans hBn
  case round =>
    obtain ⟨pre, p, rfl, rfl, hrel⟩ := hrel
    have Hr := Lib.hid hrel
    obtain ⟨hit, hbx, _, hle, hll, hcc, _⟩ := hrel
    have hm : Hid (wr.iterPos W.heap.size = p.o) := iterPos_of hit
    by_cases hp : p.o < s.size
    · have hnx := fun ty => next_at (P := Try.prog) wr _ s p.o ty hit hp
      have hlt : W.heap.size < wr.heap.size := (Array.getElem?_eq_some_iff.1 hit).1
      have hJ1 : J pre (wr.iterAt W.heap.size s (p.o + (dl (s.data.toList.drop p.o)).2)) := hJ pre wr _ _ Hr.out.inv (grownBy_iterAt _ _ _ _) (fun r e => by cases e; exact ⟨Nat.le_refl _, _, hit, rfl⟩)
      obtain ⟨fn, tmps, assign, body, hy, hR⟩ := hY pre p _ hJ1 (by rw [Hr.out.split, List.length_append, bnds_cons _ _ (drop_ne hp)]; simp)
      have hw := dl_width (s.data.toList.drop p.o)
      have hwl := width_le hp
      dsimp only [psV] at hy
      clear hJ1 hit hbx
      by_cases hd : (dl (s.data.toList.drop p.o)).1 = 10
      · have q1 : (((dl (s.data.toList.drop p.o)).1 : Int) == 10) = true := by rw [hd]; rfl
        have Hd := Lib.hid hd; clear hd
        gi_wp2
        refine hR.mono ?_
        rintro e W3 (⟨rfl, hJ3, hk3⟩ | ⟨rfl, hJx3⟩)
        · have R := Hr.out.next hp hB0 hn0 hk3 hJ3 (nxt_nl Hd.out)
          have hm2 := Lib.hid (iterPos_of R.iter)
          have R := Lib.hid R
          clear hk3 hJ3
          gi_wp2
          go_roundw
          case rel => exact ⟨pre ++ [p], ⟨p.o + (dl (s.data.toList.drop p.o)).2, p.l + 1, 1⟩, by go_num, rfl, R.out⟩
          case measure => rw [hm2.out, hm.out]; show s.size - (p.o + (dl (s.data.toList.drop p.o)).2) < _; omega
        · gi_wp2
          refine bodyPost_ret (results_none rfl _ _ _) rfl ?_
          exact ⟨⟨_, rfl⟩, .inr ⟨pre ++ [p], ⟨bnds ((s.data.toList.drop p.o).drop (dl (s.data.toList.drop p.o)).2) (nxt (s.data.toList.drop p.o) p), by rw [Hr.out.split, bnds_cons _ _ (drop_ne hp)]; simp⟩, hJx3⟩⟩
      · have q1 : (((dl (s.data.toList.drop p.o)).1 : Int) == 10) = false := by rw [beq_eq_false_iff_ne]; omega
        have Hd := Lib.hid hd; clear hd
        gi_wp2
        refine hR.mono ?_
        rintro e W3 (⟨rfl, hJ3, hk3⟩ | ⟨rfl, hJx3⟩)
        · have R := Hr.out.next hp hB0 hn0 hk3 hJ3 (nxt_el Hd.out)
          have hm2 := Lib.hid (iterPos_of R.iter)
          have R := Lib.hid R
          clear hk3 hJ3
          gi_wp2
          go_roundw
          case rel => exact ⟨pre ++ [p], ⟨p.o + (dl (s.data.toList.drop p.o)).2, p.l, p.c + 1⟩, rfl, by go_num, R.out⟩
          case measure => rw [hm2.out, hm.out]; show s.size - (p.o + (dl (s.data.toList.drop p.o)).2) < _; omega
        · gi_wp2
          refine bodyPost_ret (results_none rfl _ _ _) rfl ?_
          exact ⟨⟨_, rfl⟩, .inr ⟨pre ++ [p], ⟨bnds ((s.data.toList.drop p.o).drop (dl (s.data.toList.drop p.o)).2) (nxt (s.data.toList.drop p.o) p), by rw [Hr.out.split, bnds_cons _ _ (drop_ne hp)]; simp⟩, hJx3⟩⟩
    · have hnx := fun ty => Lib.run_next_end_at (P := Try.prog) wr _ s p.o ty hit hp
      have hps : (⟨s.size, p.l, p.c⟩ : Ps) = p := by obtain ⟨o, l', c'⟩ := p; simp only [Ps.mk.injEq, and_true]; simp only at hp hle; omega
      have hsp : bnds s.data.toList ⟨0, 1, 1⟩ = pre ++ [p] := by rw [Hr.out.split, drop_end hp, bnds_nil]
      obtain ⟨fn, tmps, assign, body, hy, hR⟩ := hY pre ⟨s.size, p.l, p.c⟩ wr Hr.out.inv (by rw [hsp]; simp)
      dsimp only [psV] at hy
      have Hsp := Lib.hid hsp; clear hsp
      have Hps := Lib.hid hps; clear hps
      gi_wp2
      refine hR.mono ?_
      rintro e W3 (⟨rfl, hJ3, hk3⟩ | ⟨rfl, hJx3⟩)
      · gi_wp2
        go_end0
        exact ⟨⟨_, rfl⟩, .inl ⟨_, rfl, by rw [Hsp.out]; rw [Hps.out] at hJ3; exact hJ3⟩⟩
      · gi_wp2
        go_end0
        exact ⟨⟨_, rfl⟩, .inr ⟨_, ⟨[], by rw [Hsp.out, Hps.out]; simp⟩, hJx3⟩⟩
end Go.Proofs.Ytndicgjlmhnkbaa
