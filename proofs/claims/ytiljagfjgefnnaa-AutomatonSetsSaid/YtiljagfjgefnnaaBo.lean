/- Plain: a partition that is refined in place: marking, splitting; what the refinement with each block once leads to. -/
import Derived.Test.YtiljagfjgefnnaaBf
import Derived.Test.YtiljagfjgefnnaaAb
namespace Go.Proofs.Ytiljagfjgefnnaa
set_option linter.unusedVariables false

structure Bk where
  f : Nat
  t : Nat
  k : Nat
structure Ptn where
  o : Nat → Nat
  q : Nat → Nat
  b : Nat → Nat
  l : List Bk
  c : List Nat
def Ptn.at_ (p : Ptn) (i : Nat) : Bk := p.l.getD i ⟨0, 0, 0⟩
/-- But for what is touched. -/
structure PB (n : Nat) (p : Ptn) : Prop where
  q_ : ∀ s, s < n → p.q s < n ∧ p.o (p.q s) = s
  o_ : ∀ i, i < n → p.o i < n ∧ p.q (p.o i) = i
  l_ : ∀ i, i < p.l.length → (p.at_ i).f < (p.at_ i).t ∧ (p.at_ i).t ≤ n ∧ (p.at_ i).f + (p.at_ i).k ≤ (p.at_ i).t
  b_ : ∀ s, s < n → p.b s < p.l.length ∧ (p.at_ (p.b s)).f ≤ p.q s ∧ p.q s < (p.at_ (p.b s)).t
  u_ : ∀ i j, i < n → j < p.l.length → (p.at_ j).f ≤ i → i < (p.at_ j).t → p.b (p.o i) = j
structure TC (p : Ptn) : Prop where
  nd : p.c.Nodup
  lt : ∀ i ∈ p.c, i < p.l.length
  iff_ : ∀ i, i < p.l.length → (i ∈ p.c ↔ 0 < (p.at_ i).k)
def Mk (p : Ptn) (s : Nat) : Prop := p.q s < (p.at_ (p.b s)).f + (p.at_ (p.b s)).k
theorem PB.q_inj {n : Nat} {p : Ptn} (h : PB n p) {s t : Nat} (hs : s < n) (ht : t < n) (e : p.q s = p.q t) : s = t := by rw [← (h.q_ s hs).2, e, (h.q_ t ht).2]
/-- As many blocks as states, at most. -/
theorem PB.len_le {n : Nat} {p : Ptn} (h : PB n p) : p.l.length ≤ n := by
  have hf : ∀ i, i < p.l.length → (p.at_ i).f < n := fun i hi => by have := h.l_ i hi; omega
  have h1 := nodup_len (a := (List.range p.l.length).map fun i => (p.at_ i).f) (b := List.range n) (by
    refine List.pairwise_iff_getElem.2 (fun i j hi hj hij e => ?_)
    simp only [List.length_map, List.length_range] at hi hj
    simp only [List.getElem_map, List.getElem_range] at e
    have a1 := h.l_ i hi
    have a2 := h.l_ j hj
    have u1 := h.u_ _ i (hf i hi) hi (Nat.le_refl _) a1.1
    have u2 := h.u_ _ j (hf j hj) hj (Nat.le_refl _) a2.1
    rw [e] at u1
    omega) (fun x hx => by
      obtain ⟨i, hi, rfl⟩ := List.mem_map.1 hx
      exact List.mem_range.2 (hf i (List.mem_range.1 hi)))
  simpa using h1
/-- Each block has a state. -/
theorem PB.some_ {n : Nat} {p : Ptn} (h : PB n p) {j : Nat} (hj : j < p.l.length) : ∃ s, s < n ∧ p.b s = j := by
  have a := h.l_ j hj
  exact ⟨p.o (p.at_ j).f, (h.o_ _ (by omega)).1, h.u_ _ j (by omega) hj (Nat.le_refl _) a.1⟩
def up (f : Nat → Nat) (i x : Nat) : Nat → Nat := fun j => if j = i then x else f j
theorem up_same (f : Nat → Nat) (i x : Nat) : up f i x i = x := if_pos rfl
theorem up_other {f : Nat → Nat} {i x j : Nat} (h : j ≠ i) : up f i x j = f j := if_neg h
/-- A state is marked. -/
def markP (p : Ptn) (s : Nat) : Ptn :=
  let i := p.b s
  let b := p.at_ i
  let x := p.q s
  let y := b.f + b.k
  let t := p.o y
  ⟨up (up p.o x t) y s, up (up p.q t x) s y, p.b, p.l.set i ⟨b.f, b.t, b.k + 1⟩, if b.k = 0 then p.c ++ [i] else p.c⟩
theorem getD_set {α : Type} {l : List α} {i j : Nat} {x d : α} (hi : i < l.length) : (l.set i x).getD j d = if j = i then x else l.getD j d := by
  rw [List.getD_eq_getElem?_getD, List.getElem?_set]
  by_cases h : j = i
  · subst h
    rw [if_pos rfl, if_pos hi, if_pos rfl]
    rfl
  · rw [if_neg (fun e => h e.symm), if_neg h, List.getD_eq_getElem?_getD]
section
variable {n : Nat} {p : Ptn} {s : Nat}
theorem mark_at (h : PB n p) (hs : s < n) (j : Nat) : (markP p s).at_ j = if j = p.b s then ⟨(p.at_ (p.b s)).f, (p.at_ (p.b s)).t, (p.at_ (p.b s)).k + 1⟩ else p.at_ j := by
  unfold Ptn.at_ markP
  dsimp only
  exact getD_set (h.b_ s hs).1
theorem mark_ft (h : PB n p) (hs : s < n) (j : Nat) : ((markP p s).at_ j).f = (p.at_ j).f ∧ ((markP p s).at_ j).t = (p.at_ j).t := by
  rw [mark_at h hs]
  by_cases e : j = p.b s
  · subst e; rw [if_pos rfl]; exact ⟨rfl, rfl⟩
  · rw [if_neg e]; exact ⟨rfl, rfl⟩
theorem mark_q (h : PB n p) (hs : s < n) (hm : ¬ Mk p s) : ∀ t, t < n → (markP p s).q t = if t = s then (p.at_ (p.b s)).f + (p.at_ (p.b s)).k else if p.q t = (p.at_ (p.b s)).f + (p.at_ (p.b s)).k then p.q s else p.q t := by
  intro t ht
  have hb := h.b_ s hs
  unfold Mk at hm
  have hqn := (h.q_ s hs).1
  have hy : (p.at_ (p.b s)).f + (p.at_ (p.b s)).k < n := by omega
  show up (up p.q (p.o _) (p.q s)) s _ t = _
  by_cases e : t = s
  · subst e
    rw [up_same, if_pos rfl]
  · rw [up_other e, if_neg e]
    by_cases e2 : p.q t = (p.at_ (p.b s)).f + (p.at_ (p.b s)).k
    · rw [if_pos e2]
      have : t = p.o ((p.at_ (p.b s)).f + (p.at_ (p.b s)).k) := by rw [← e2, (h.q_ t ht).2]
      rw [← this, up_same]
    · rw [if_neg e2]
      refine up_other (fun e3 => e2 ?_)
      rw [e3]
      exact (h.o_ _ hy).2
theorem mark_o (h : PB n p) (hs : s < n) (hm : ¬ Mk p s) : ∀ i, i < n → (markP p s).o i = if i = (p.at_ (p.b s)).f + (p.at_ (p.b s)).k then s else if i = p.q s then p.o ((p.at_ (p.b s)).f + (p.at_ (p.b s)).k) else p.o i := fun i hi => by
  show up (up p.o (p.q s) _) _ s i = _
  by_cases e : i = (p.at_ (p.b s)).f + (p.at_ (p.b s)).k
  · rw [e, up_same, if_pos rfl]
  · rw [up_other e, if_neg e]
    by_cases e2 : i = p.q s
    · rw [e2, up_same, if_pos rfl]
    · rw [up_other e2, if_neg e2]
theorem mark_pb (h : PB n p) (hs : s < n) (hm : ¬ Mk p s) : PB n (markP p s) := by
  have hb := h.b_ s hs
  have hm' := hm
  unfold Mk at hm'
  have hl := h.l_ _ hb.1
  have hy : (p.at_ (p.b s)).f + (p.at_ (p.b s)).k < n := by omega
  have hbs : p.b (p.o ((p.at_ (p.b s)).f + (p.at_ (p.b s)).k)) = p.b s := h.u_ _ _ hy hb.1 (by omega) (by omega)
  have hll : (markP p s).l.length = p.l.length := by show (p.l.set _ _).length = _; simp
  have hbb : (markP p s).b = p.b := rfl
  refine ⟨fun t ht => ?_, fun i hi => ?_, fun i hi => ?_, fun t ht => ?_, fun i j hi hj h1 h2 => ?_⟩
  · have hq := h.q_ t ht
    have hqs := h.q_ s hs
    rw [mark_q h hs hm t ht]
    by_cases e : t = s
    · rw [if_pos e, mark_o h hs hm _ hy, if_pos rfl]
      exact ⟨hy, e.symm⟩
    · rw [if_neg e]
      by_cases e2 : p.q t = (p.at_ (p.b s)).f + (p.at_ (p.b s)).k
      · rw [if_pos e2, mark_o h hs hm _ hqs.1]
        have ne : p.q s ≠ (p.at_ (p.b s)).f + (p.at_ (p.b s)).k := fun e3 => e (h.q_inj ht hs (by rw [e2, e3]))
        rw [if_neg ne, if_pos rfl, ← e2]
        exact ⟨hqs.1, hq.2⟩
      · rw [if_neg e2, mark_o h hs hm _ hq.1, if_neg e2, if_neg (fun e3 => e (h.q_inj ht hs e3))]
        exact hq
  · have ho := h.o_ i hi
    have hoy := h.o_ _ hy
    rw [mark_o h hs hm i hi]
    by_cases e : i = (p.at_ (p.b s)).f + (p.at_ (p.b s)).k
    · rw [if_pos e, mark_q h hs hm s hs, if_pos rfl]
      exact ⟨hs, e.symm⟩
    · rw [if_neg e]
      by_cases e2 : i = p.q s
      · rw [if_pos e2, mark_q h hs hm _ hoy.1]
        have ne : p.o ((p.at_ (p.b s)).f + (p.at_ (p.b s)).k) ≠ s := fun e3 => e (e2.trans ((congrArg p.q e3).symm.trans hoy.2))
        rw [if_neg ne, if_pos hoy.2]
        exact ⟨hoy.1, e2.symm⟩
      · rw [if_neg e2, mark_q h hs hm _ ho.1, if_neg (fun e3 => e2 (by rw [← e3]; exact ho.2.symm)), if_neg (by rw [ho.2]; exact e)]
        exact ho
  · rw [hll] at hi
    have hli := h.l_ i hi
    rw [mark_at h hs]
    by_cases e : i = p.b s
    · rw [if_pos e]
      exact ⟨hl.1, hl.2.1, by dsimp only; omega⟩
    · rw [if_neg e]
      exact hli
  · have hbt := h.b_ t ht
    rw [hll, hbb, (mark_ft h hs _).1, (mark_ft h hs _).2, mark_q h hs hm t ht]
    refine ⟨hbt.1, ?_⟩
    by_cases e : t = s
    · subst e
      rw [if_pos rfl]
      omega
    · rw [if_neg e]
      by_cases e2 : p.q t = (p.at_ (p.b s)).f + (p.at_ (p.b s)).k
      · rw [if_pos e2]
        have : t = p.o ((p.at_ (p.b s)).f + (p.at_ (p.b s)).k) := by rw [← e2, (h.q_ t ht).2]
        have e3 : p.b t = p.b s := by rw [this]; exact hbs
        rw [e3]
        exact hb.2
      · rw [if_neg e2]
        exact hbt.2
  · rw [hll] at hj
    rw [(mark_ft h hs _).1] at h1
    rw [(mark_ft h hs _).2] at h2
    rw [hbb, mark_o h hs hm i hi]
    by_cases e : i = (p.at_ (p.b s)).f + (p.at_ (p.b s)).k
    · rw [if_pos e]
      rw [← hbs, ← e]
      exact h.u_ i j hi hj h1 h2
    · rw [if_neg e]
      by_cases e2 : i = p.q s
      · rw [if_pos e2, hbs]
        have := h.u_ i j hi hj h1 h2
        rw [e2, (h.q_ s hs).2] at this
        exact this
      · rw [if_neg e2]
        exact h.u_ i j hi hj h1 h2
theorem mark_mk (h : PB n p) (hs : s < n) (hm : ¬ Mk p s) {t : Nat} (ht : t < n) : Mk (markP p s) t ↔ Mk p t ∨ t = s := by
  have hb := h.b_ s hs
  have hm' := hm
  unfold Mk at hm'
  have hbb : (markP p s).b = p.b := rfl
  unfold Mk
  rw [hbb, mark_q h hs hm t ht, mark_at h hs]
  have hy : (p.at_ (p.b s)).f + (p.at_ (p.b s)).k < n := by have := h.l_ _ hb.1; omega
  by_cases e : t = s
  · subst e
    rw [if_pos rfl, if_pos rfl]
    dsimp only
    omega
  · rw [if_neg e]
    by_cases e2 : p.q t = (p.at_ (p.b s)).f + (p.at_ (p.b s)).k
    · rw [if_pos e2]
      have : t = p.o ((p.at_ (p.b s)).f + (p.at_ (p.b s)).k) := by rw [← e2, (h.q_ t ht).2]
      have e3 : p.b t = p.b s := by rw [this]; exact h.u_ _ _ hy hb.1 (by omega) (by omega)
      have ne : p.q t ≠ p.q s := fun e4 => e (h.q_inj ht hs e4)
      rw [e3, if_pos rfl]
      dsimp only
      omega
    · rw [if_neg e2]
      by_cases e3 : p.b t = p.b s
      · rw [e3, if_pos rfl]
        dsimp only
        omega
      · rw [if_neg e3]
        omega
theorem mark_tc (h : PB n p) (hc : TC p) (hs : s < n) : TC (markP p s) := by
  have hb := h.b_ s hs
  have hll : (markP p s).l.length = p.l.length := by show (p.l.set _ _).length = _; simp
  have hcc : (markP p s).c = if (p.at_ (p.b s)).k = 0 then p.c ++ [p.b s] else p.c := rfl
  by_cases h0 : (p.at_ (p.b s)).k = 0
  · rw [if_pos h0] at hcc
    have hn : p.b s ∉ p.c := fun e => by have := (hc.iff_ _ hb.1).1 e; omega
    refine ⟨by rw [hcc]; exact nodup_snoc hc.nd hn, fun i hi => ?_, fun i hi => ?_⟩
    · rw [hll]
      rw [hcc] at hi
      rcases List.mem_append.1 hi with hi | hi
      · exact hc.lt i hi
      · rw [List.mem_singleton] at hi; rw [hi]; exact hb.1
    · rw [hll] at hi
      rw [hcc, mark_at h hs, List.mem_append, List.mem_singleton]
      by_cases e : i = p.b s
      · rw [if_pos e]
        simp [e]
      · rw [if_neg e, ← hc.iff_ i hi]
        simp [e]
  · rw [if_neg h0] at hcc
    refine ⟨by rw [hcc]; exact hc.nd, fun i hi => ?_, fun i hi => ?_⟩
    · rw [hll]
      rw [hcc] at hi
      exact hc.lt i hi
    · rw [hll] at hi
      rw [hcc, mark_at h hs]
      by_cases e : i = p.b s
      · rw [if_pos e, e]
        have := hc.iff_ _ hb.1
        dsimp only
        exact ⟨fun _ => by omega, fun _ => this.2 (by omega)⟩
      · rw [if_neg e]
        exact hc.iff_ i hi
end
end Go.Proofs.Ytiljagfjgefnnaa
