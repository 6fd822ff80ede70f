/- The partition in memory. -/
import Derived.Test.YtiljagfjgefnnaaBp
import Derived.Test.YtiljagfjgefnnaaBg
import Derived.Laws.OwnMore
import Derived.OneCell
namespace Go.Proofs.Ytiljagfjgefnnaa
open Go.RowKit
set_option linter.unusedVariables false

/-- Only the blocks of X are written, of those that were there. -/
structure Fr (X : Nat → Prop) (w w' : World) : Prop where
  os : w'.os = w.os
  tape : w'.tape = w.tape
  output : w'.output = w.output
  size : w.heap.size ≤ w'.heap.size
  block : ∀ k, k < w.heap.size → ¬ X k → w'.heap[k]? = w.heap[k]?
section
variable {X Y : Nat → Prop} {w w' w2 : World}
theorem Fr.refl (X : Nat → Prop) (w : World) : Fr X w w := ⟨rfl, rfl, rfl, Nat.le_refl _, fun _ _ _ => rfl⟩
theorem Fr.of_below (h : Below w.heap.size w w') : Fr X w w' := ⟨h.os, h.tape, h.output, h.size, fun k hk _ => h.block k hk⟩
theorem Fr.grown {row : Option Nat} (h : w.grownBy w' row) (hx : ∀ k, row = some k → X k) : Fr X w w' := ⟨h.os, h.tape, h.output, h.size, fun k hk hn => h.block k hk (fun e => hn (hx k e.symm))⟩
theorem Fr.set (b i : Nat) (u : Value) (h : X b) : Fr X w (w.setCell ⟨b, i, none⟩ u) := Fr.grown (grown_set w b i u) (fun k e => by injection e with e; exact e ▸ h)
theorem Fr.trans (h : Fr X w w') (k : Fr Y w' w2) (hx : ∀ b, b < w.heap.size → Y b → X b) : Fr X w w2 :=
  ⟨k.os.trans h.os, k.tape.trans h.tape, k.output.trans h.output, Nat.le_trans h.size k.size, fun b hb hn => (k.block b (Nat.lt_of_lt_of_le hb h.size) (fun e => hn (hx b hb e))).trans (h.block b hb hn)⟩
theorem Fr.mono (h : Fr X w w') (hx : ∀ b, b < w.heap.size → X b → Y b) : Fr Y w w' := (Fr.refl Y w).trans h hx
theorem Fr.below {base : Nat} (h : Fr X w w') (hb : base ≤ w.heap.size) (hx : ∀ k, X k → base ≤ k) : Below base w w' := ⟨h.os, h.tape, h.output, h.size, fun k hk => h.block k (by omega) (fun e => by have := hx k e; omega)⟩
theorem Fr.blk {B : Nat} {t : TypeId} {cs : Array Value} (h : Fr X w w') (hb : Blk B t cs w) (hn : ¬ X B) : Blk B t cs w' := (h.block B hb.lt hn).trans hb
theorem Fr.fn {B : Nat} {t : TypeId} {n : Nat} {f : Nat → Value} (h : Fr X w w') (hb : Fn B t n f w) (hn : ¬ X B) : Fn B t n f w' := by
  obtain ⟨cs, h1, h2⟩ := hb
  exact ⟨cs, h.blk h1 hn, h2⟩
theorem Fr.own {α : Type} {k : Nat} {enc : α → List Value} {base : Nat} {e : TypeId} {v : Value} {l : List α} (h : Fr X w w') (ho : Own1 k enc w base e v l) (hn : ∀ b, v.ownBlock = some b → ¬ X b) : Own1 k enc w' base e v l := by
  refine ⟨ho.1, ?_⟩
  rcases ho.2 with h0 | ⟨g, cap, cur, hv, hB, hg', hr⟩
  · exact .inl h0
  · exact .inr ⟨g, cap, cur, hv, hB, (h.block g (Array.getElem?_eq_some_iff.1 hg').1 (hn g (by rw [hv]; rfl))).trans hg', hr⟩
end
def i32F (f : Nat → Nat) : Nat → Value := fun i => .int .i32 (f i : Nat)
def encK (b : Bk) : List Value := [.int .i32 (b.f : Nat), .int .i32 (b.t : Nat), .int .i32 (b.k : Nat)]
def encM (x : Nat) : List Value := [.int .i32 (x : Nat)]
theorem encK_len (b : Bk) : (encK b).length = 3 := rfl
theorem encM_len (x : Nat) : (encM x).length = 1 := rfl
theorem encK_one (b : Bk) : ∀ u ∈ encK b, u.oneCell' = true := by intro u hu; simp [encK] at hu; rcases hu with rfl | rfl | rfl <;> rfl
theorem encM_one (x : Nat) : ∀ u ∈ encM x, u.oneCell' = true := by intro u hu; simp [encM] at hu; subst hu; rfl
theorem Try.infoM : (Try.prog.info? 21).map (fun i => (i.zero, i.size, i.bytes)) = some (some (.int .i32 0), 1, 4) := by kernel_rfl
theorem Try.infoK : (Try.prog.info? 106).map (fun i => (i.zero, i.size, i.bytes)) = some (some (.agg #[.int .i32 0, .int .i32 0, .int .i32 0]), 3, 12) := by kernel_rfl
theorem Rd.i32 {w : World} {a : Option Addr} {n c : Nat} {l : List Nat} (h : Rd 1 encM w (.slice a n c) l) (i : Nat) (hi : i < l.length) : ∃ b off, a = some ⟨b, off, none⟩ ∧ w.cell? ⟨b, off + i, none⟩ = some (.int .i32 (l.getD i 0 : Nat)) := by
  obtain ⟨b, off, h1, h2⟩ := h.one i hi rfl
  rw [getD_get hi]
  exact ⟨b, off, h1, h2⟩
/-- The addresses of a partition. -/
structure Pa where
  p : Nat
  o : Nat
  q : Nat
  b : Nat
def PX (A : Pa) (vb vt : Value) (k : Nat) : Prop := k = A.p ∨ k = A.o ∨ k = A.q ∨ k = A.b ∨ vb.ownBlock = some k ∨ vt.ownBlock = some k
/-- The struct says vb0 and vt0; what the blocks and the touched ones are lies in vb, vt. -/
structure PM (w : World) (base : Nat) (A : Pa) (vb0 vt0 vb vt : Value) (n : Nat) (p : Ptn) : Prop where
  kp : Blk A.p 82 #[.slice (some ⟨A.o, 0, none⟩) n n, .slice (some ⟨A.q, 0, none⟩) n n, .slice (some ⟨A.b, 0, none⟩) n n, vb0, vt0] w
  fo : Fn A.o 21 n (i32F p.o) w
  fq : Fn A.q 21 n (i32F p.q) w
  fb : Fn A.b 21 n (i32F p.b) w
  ol : Own1 3 encK w base 106 vb p.l
  oc : Own1 1 encM w base 21 vt p.c
  oq : A.o ≠ A.q
  ob : A.o ≠ A.b
  qb : A.q ≠ A.b
  to_ : vt.ownBlock ≠ some A.o
  tq : vt.ownBlock ≠ some A.q
  tb : vt.ownBlock ≠ some A.b
  lp : base ≤ A.p
  lo : base ≤ A.o
  lq : base ≤ A.q
  lb : base ≤ A.b
section
variable {w w' : World} {base n : Nat} {A : Pa} {vb0 vt0 vb vt : Value} {p : Ptn}
theorem PM.px (h : PM w base A vb0 vt0 vb vt n p) : ∀ k, PX A vb vt k → base ≤ k ∧ k < w.heap.size := fun k hk => by
  rcases hk with rfl | rfl | rfl | rfl | hk | hk
  · exact ⟨h.lp, h.kp.lt⟩
  · exact ⟨h.lo, h.fo.lt⟩
  · exact ⟨h.lq, h.fq.lt⟩
  · exact ⟨h.lb, h.fb.lt⟩
  · exact own_lt h.ol k hk
  · exact own_lt h.oc k hk
/-- Whose type is another one. -/
theorem PM.ne (h : PM w base A vb0 vt0 vb vt n p) : A.p ≠ A.o ∧ A.p ≠ A.q ∧ A.p ≠ A.b ∧ vb.ownBlock ≠ some A.p ∧ vb.ownBlock ≠ some A.o ∧ vb.ownBlock ≠ some A.q ∧ vb.ownBlock ≠ some A.b ∧ vt.ownBlock ≠ some A.p ∧ (∀ k, vb.ownBlock = some k → vt.ownBlock ≠ some k) := by
  have fp : ∀ {B : Nat} {f : Nat → Value}, Fn B 21 n f w → A.p ≠ B := fun {B f} hf e => by
    obtain ⟨cs, h2, _⟩ := hf
    subst e
    have h3 := (show w.heap[A.p]? = _ from h.kp).symm.trans (show w.heap[A.p]? = _ from h2)
    injection h3 with h3
    injection h3 with _ h3
    exact absurd h3 (by decide)
  exact ⟨fp h.fo, fp h.fq, fp h.fb, own_type h.ol h.kp (by decide), h.fo.own h.ol (by decide), h.fq.own h.ol (by decide), h.fb.own h.ol (by decide), own_type h.oc h.kp (by decide), fun k hk => own_apart h.oc h.ol (by decide) |> fun a e => a k e hk⟩
/-- What is written elsewhere. -/
theorem PM.fr {X : Nat → Prop} (h : PM w base A vb0 vt0 vb vt n p) (hf : Fr X w w') (hx : ∀ k, PX A vb vt k → ¬ X k) : PM w' base A vb0 vt0 vb vt n p :=
  ⟨hf.blk h.kp (hx _ (.inl rfl)), hf.fn h.fo (hx _ (.inr (.inl rfl))), hf.fn h.fq (hx _ (.inr (.inr (.inl rfl)))), hf.fn h.fb (hx _ (.inr (.inr (.inr (.inl rfl))))), hf.own h.ol (fun b hb => hx b (.inr (.inr (.inr (.inr (.inl hb)))))), hf.own h.oc (fun b hb => hx b (.inr (.inr (.inr (.inr (.inr hb)))))), h.oq, h.ob, h.qb, h.to_, h.tq, h.tb, h.lp, h.lo, h.lq, h.lb⟩
theorem PM.below (h : PM w base A vb0 vt0 vb vt n p) (hb : Below w.heap.size w w') : PM w' base A vb0 vt0 vb vt n p := h.fr (Fr.of_below (X := fun _ => False) hb) (fun _ _ e => e)
theorem i32F_up (f : Nat → Nat) (i x j : Nat) : upd (i32F f) i (.int .i32 (x : Nat)) j = i32F (up f i x) j := by
  unfold upd i32F up
  by_cases h : j = i
  · simp [h]
  · simp [h]
theorem PM.setO (h : PM w base A vb0 vt0 vb vt n p) {i : Nat} (hi : i < n) (x : Nat) : PM (w.setCell ⟨A.o, i, none⟩ (.int .i32 (x : Nat))) base A vb0 vt0 vb vt n ⟨up p.o i x, p.q, p.b, p.l, p.c⟩ := by
  have hf : Fr (fun k => k = A.o) w (w.setCell ⟨A.o, i, none⟩ (.int .i32 (x : Nat))) := Fr.set _ _ _ rfl
  obtain ⟨e1, e2, e3, e4, e5, e6, e7, e8, e9⟩ := h.ne
  exact ⟨hf.blk h.kp e1, (h.fo.put hi _).congr (fun j _ => i32F_up _ _ _ _), hf.fn h.fq (Ne.symm h.oq), hf.fn h.fb (Ne.symm h.ob), hf.own h.ol (fun b hb e => e5 (by rw [hb, e])), hf.own h.oc (fun b hb e => h.to_ (by rw [hb, e])), h.oq, h.ob, h.qb, h.to_, h.tq, h.tb, h.lp, h.lo, h.lq, h.lb⟩
theorem PM.setQ (h : PM w base A vb0 vt0 vb vt n p) {i : Nat} (hi : i < n) (x : Nat) : PM (w.setCell ⟨A.q, i, none⟩ (.int .i32 (x : Nat))) base A vb0 vt0 vb vt n ⟨p.o, up p.q i x, p.b, p.l, p.c⟩ := by
  have hf : Fr (fun k => k = A.q) w (w.setCell ⟨A.q, i, none⟩ (.int .i32 (x : Nat))) := Fr.set _ _ _ rfl
  obtain ⟨e1, e2, e3, e4, e5, e6, e7, e8, e9⟩ := h.ne
  exact ⟨hf.blk h.kp e2, hf.fn h.fo h.oq, (h.fq.put hi _).congr (fun j _ => i32F_up _ _ _ _), hf.fn h.fb (Ne.symm h.qb), hf.own h.ol (fun b hb e => e6 (by rw [hb, e])), hf.own h.oc (fun b hb e => h.tq (by rw [hb, e])), h.oq, h.ob, h.qb, h.to_, h.tq, h.tb, h.lp, h.lo, h.lq, h.lb⟩
theorem PM.setB (h : PM w base A vb0 vt0 vb vt n p) {i : Nat} (hi : i < n) (x : Nat) : PM (w.setCell ⟨A.b, i, none⟩ (.int .i32 (x : Nat))) base A vb0 vt0 vb vt n ⟨p.o, p.q, up p.b i x, p.l, p.c⟩ := by
  have hf : Fr (fun k => k = A.b) w (w.setCell ⟨A.b, i, none⟩ (.int .i32 (x : Nat))) := Fr.set _ _ _ rfl
  obtain ⟨e1, e2, e3, e4, e5, e6, e7, e8, e9⟩ := h.ne
  exact ⟨hf.blk h.kp e3, hf.fn h.fo h.ob, hf.fn h.fq h.qb, (h.fb.put hi _).congr (fun j _ => i32F_up _ _ _ _), hf.own h.ol (fun b hb e => e7 (by rw [hb, e])), hf.own h.oc (fun b hb e => h.tb (by rw [hb, e])), h.oq, h.ob, h.qb, h.to_, h.tq, h.tb, h.lp, h.lo, h.lq, h.lb⟩
/-- A cell of a block's. -/
theorem encK_set : ∀ (l : List Bk) (i j : Nat) (b : Bk) (u : Value), j < 3 → (∀ b0, l[i]? = some b0 → (encK b0).set j u = encK b) → i < l.length → (l.flatMap encK).set (i * 3 + j) u = (l.set i b).flatMap encK
  | [], i, j, b, u, _, _, h => by simp at h
  | b0 :: l, 0, j, b, u, hj, he, _ => by
    have e := he b0 rfl
    rw [List.set_cons_zero, List.flatMap_cons, List.flatMap_cons, ← e, Nat.zero_mul, Nat.zero_add, List.set_append_left _ _ (by rw [encK_len]; exact hj)]
  | b0 :: l, i + 1, j, b, u, hj, he, hi => by
    have ih := encK_set l i j b u hj (fun b1 h1 => he b1 h1) (by simpa using hi)
    rw [List.set_cons_succ, List.flatMap_cons, List.flatMap_cons, ← ih, List.set_append_right _ _ (by rw [encK_len]; omega), encK_len, show (i + 1) * 3 + j - 3 = i * 3 + j by omega]
theorem PM.bk (h : PM w base A vb0 vt0 vb vt n p) {i : Nat} (hi : i < p.l.length) : ∃ g c, vb = .slice (some ⟨g, 0, none⟩) p.l.length c ∧ w.cell? ⟨g, i * 3, none⟩ = some (.int .i32 ((p.at_ i).f : Nat)) ∧ w.cell? ⟨g, i * 3 + 1, none⟩ = some (.int .i32 ((p.at_ i).t : Nat)) ∧ w.cell? ⟨g, i * 3 + 2, none⟩ = some (.int .i32 ((p.at_ i).k : Nat)) ∧ ∀ j, w.frozen? ⟨g, j, none⟩ = false := by
  have ho := h.ol
  rcases ho.2 with ⟨_, h0⟩ | ⟨g, cap, cur, hv, _, hg, _, _, _, htake⟩
  · omega
  · have hat : p.l[i]? = some (p.at_ i) := by
      unfold Ptn.at_
      rw [List.getD_eq_getElem?_getD, List.getElem?_eq_getElem hi]
      rfl
    have key : ∀ j u, (encK (p.at_ i))[j]? = some u → w.cell? ⟨g, i * 3 + j, none⟩ = some u := fun j u hu => by
      have h1 := flat_get encK_len p.l i (p.at_ i) hat j u hu
      have := World.ownsRow.cellAt (w := w) (base := base) (e := 106) (size := 3) (g := g) (n := p.l.length) (cap := cap) (xs := p.l.flatMap encK) (by rw [← hv]; exact ho) (i * 3 + j) (by
        have := (List.getElem?_eq_some_iff.1 h1).1
        have h2 := ho.1
        omega)
      rw [this, h1]
    refine ⟨g, cap, hv, ?_, ?_, ?_, fun j => ?_⟩
    · have := key 0 (.int .i32 ((p.at_ i).f : Nat)) rfl
      rwa [Nat.add_zero] at this
    · exact key 1 _ rfl
    · exact key 2 _ rfl
    · exact frozen_of_row w g j cur _ hg
theorem PM.setK (h : PM w base A vb0 vt0 vb vt n p) {i j : Nat} (hi : i < p.l.length) (hj : j < 3) {g c : Nat} (hv : vb = .slice (some ⟨g, 0, none⟩) p.l.length c) (b : Bk) (u : Value) (he : (encK (p.at_ i)).set j u = encK b) : PM (w.setCell ⟨g, i * 3 + j, none⟩ u) base A vb0 vt0 vb vt n ⟨p.o, p.q, p.b, p.l.set i b, p.c⟩ := by
  have hb : vb.ownBlock = some g := by rw [hv]; rfl
  have hf : Fr (fun k => k = g) w (w.setCell ⟨g, i * 3 + j, none⟩ u) := Fr.set _ _ _ rfl
  obtain ⟨e1, e2, e3, e4, e5, e6, e7, e8, e9⟩ := h.ne
  have hst := (World.ownsRow.stored (w := w) (base := base) (e := 106) (size := 3) (g := g) (n := p.l.length) (cap := c) (xs := p.l.flatMap encK) (by rw [← hv]; exact h.ol) (i * 3 + j) u).1
  rw [encK_set p.l i j b u hj (fun b0 h0 => by
    have : b0 = p.at_ i := by
      unfold Ptn.at_
      rw [List.getD_eq_getElem?_getD, h0]
      rfl
    rw [this]; exact he) hi, ← hv] at hst
  exact ⟨hf.blk h.kp (fun e => e4 (by rw [hb, ← e])), hf.fn h.fo (fun e => e5 (by rw [hb, ← e])), hf.fn h.fq (fun e => e6 (by rw [hb, ← e])), hf.fn h.fb (fun e => e7 (by rw [hb, ← e])), by unfold Own1; rw [List.length_set]; exact hst, hf.own h.oc (fun b2 hb2 e => e9 g hb (by rw [hb2, e])), h.oq, h.ob, h.qb, h.to_, h.tq, h.tb, h.lp, h.lo, h.lq, h.lb⟩
/-- The list of what is touched has grown. -/
theorem PM.lieC (h : PM w base A vb0 vt0 vb vt n p) {x : Nat} {v' : Value} (y : Lie 1 encM base 21 w vt (p.c ++ [x]) v' w') : PM w' base A vb0 vt0 vb v' n ⟨p.o, p.q, p.b, p.l, p.c ++ [x]⟩ := by
  obtain ⟨e1, e2, e3, e4, e5, e6, e7, e8, e9⟩ := h.ne
  have hf : Fr (fun k => vt.ownBlock = some k) w w' := Fr.grown y.2.2.1 (fun k e => e)
  have hn : ∀ {k}, k < w.heap.size → vt.ownBlock ≠ some k → v'.ownBlock ≠ some k := fun {k} hk h1 e => by
    rcases y.2.2.2 k e with h2 | h2
    · exact h1 h2
    · omega
  exact ⟨hf.blk h.kp e8, hf.fn h.fo h.to_, hf.fn h.fq h.tq, hf.fn h.fb h.tb, hf.own h.ol (fun b hb => e9 b hb), y.1, h.oq, h.ob, h.qb, hn h.fo.lt h.to_, hn h.fq.lt h.tq, hn h.fb.lt h.tb, h.lp, h.lo, h.lq, h.lb⟩
/-- .. the blocks. -/
theorem PM.lieL (h : PM w base A vb0 vt0 vb vt n p) {x : Bk} {v' : Value} (y : Lie 3 encK base 106 w vb (p.l ++ [x]) v' w') : PM w' base A vb0 vt0 v' vt n ⟨p.o, p.q, p.b, p.l ++ [x], p.c⟩ := by
  obtain ⟨e1, e2, e3, e4, e5, e6, e7, e8, e9⟩ := h.ne
  have hf : Fr (fun k => vb.ownBlock = some k) w w' := Fr.grown y.2.2.1 (fun k e => e)
  exact ⟨hf.blk h.kp e4, hf.fn h.fo e5, hf.fn h.fq e6, hf.fn h.fb e7, y.1, hf.own h.oc (fun b hb e => e9 b e hb), h.oq, h.ob, h.qb, h.to_, h.tq, h.tb, h.lp, h.lo, h.lq, h.lb⟩
theorem PM.put (h : PM w base A vb0 vt0 vb vt n p) (i : Nat) (u : Value) (vb1 vt1 : Value) (he : #[.slice (some ⟨A.o, 0, none⟩) n n, .slice (some ⟨A.q, 0, none⟩) n n, .slice (some ⟨A.b, 0, none⟩) n n, vb0, vt0].setIfInBounds i u = #[.slice (some ⟨A.o, 0, none⟩) n n, .slice (some ⟨A.q, 0, none⟩) n n, .slice (some ⟨A.b, 0, none⟩) n n, vb1, vt1]) : PM (w.setCell ⟨A.p, i, none⟩ u) base A vb1 vt1 vb vt n p := by
  have hf : Fr (fun k => k = A.p) w (w.setCell ⟨A.p, i, none⟩ u) := Fr.set _ _ _ rfl
  obtain ⟨e1, e2, e3, e4, e5, e6, e7, e8, e9⟩ := h.ne
  have hk := h.kp.put i u
  rw [he] at hk
  exact ⟨hk, hf.fn h.fo (Ne.symm e1), hf.fn h.fq (Ne.symm e2), hf.fn h.fb (Ne.symm e3), hf.own h.ol (fun b hb e => e4 (by rw [hb, e])), hf.own h.oc (fun b hb e => e8 (by rw [hb, e])), h.oq, h.ob, h.qb, h.to_, h.tq, h.tb, h.lp, h.lo, h.lq, h.lb⟩
end
end Go.Proofs.Ytiljagfjgefnnaa
