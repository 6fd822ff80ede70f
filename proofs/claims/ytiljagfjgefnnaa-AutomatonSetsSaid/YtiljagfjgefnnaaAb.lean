/- Automata, plain: classes by words of bounded length; when the refinement ends. -/
import Derived.Test.YtiljagfjgefnnaaAa
namespace Go.Proofs.Ytiljagfjgefnnaa
set_option linter.unusedVariables false

/-- The same words of up to r symbols. -/
def Er (A : Aut) (r s t : Nat) : Prop := ∀ w, word w → w.length ≤ r → A.acc s w = A.acc t w
theorem Er.refl (A : Aut) (r s : Nat) : Er A r s s := fun _ _ _ => rfl
theorem Er.symm {A : Aut} {r s t : Nat} (h : Er A r s t) : Er A r t s := fun w a b => (h w a b).symm
theorem Er.trans {A : Aut} {r s t u : Nat} (h : Er A r s t) (k : Er A r t u) : Er A r s u := fun w a b => (h w a b).trans (k w a b)
theorem Er.le {A : Aut} {r q s t : Nat} (h : Er A r s t) (hq : q ≤ r) : Er A q s t := fun w a b => h w a (by omega)
theorem er_zero {A : Aut} {s t : Nat} : Er A 0 s t ↔ A.f s = A.f t := by
  constructor
  · intro h
    exact h [] word_nil (by simp)
  · intro h w _ hl
    have : w = [] := List.eq_nil_of_length_eq_zero (by omega)
    subst this
    exact h
theorem er_succ {A : Aut} {r s t : Nat} : Er A (r + 1) s t ↔ Er A r s t ∧ ∀ c, c < 11 → Er A r (A.d s c) (A.d t c) := by
  constructor
  · intro h
    refine ⟨h.le (by omega), fun c hc w hw hl => ?_⟩
    exact h (c :: w) (word_cons.2 ⟨hc, hw⟩) (by rw [List.length_cons]; omega)
  · rintro ⟨h0, h1⟩ w hw hl
    cases w with
    | nil => exact h0 [] word_nil (by simp)
    | cons c w =>
      rw [word_cons] at hw
      rw [List.length_cons] at hl
      exact h1 c hw.1 w hw.2 (by omega)
theorem Eqv.er {A : Aut} {s t : Nat} (h : Eqv A A s t) (r : Nat) : Er A r s t := fun w hw _ => h w hw
/-- Where one step more divides nothing, the classes are those of equivalent states. -/
theorem er_stable {A : Aut} (hA : A.Ok) {r : Nat} (h : ∀ s t, s < A.n → t < A.n → Er A r s t → Er A (r + 1) s t) {s t : Nat} (hs : s < A.n) (ht : t < A.n) (h0 : Er A r s t) : Eqv A A s t := by
  refine eqv_bisim (fun s t => s < A.n ∧ t < A.n ∧ Er A r s t) (fun s t k => ?_) (fun s t c k hc => ?_) s t ⟨hs, ht, h0⟩
  · exact er_zero.1 (k.2.2.le (Nat.zero_le r))
  · exact ⟨hA.go s c k.1 hc, hA.go t c k.2.1 hc, (er_succ.1 (h s t k.1 k.2.1 k.2.2)).2 c hc⟩
/-- A list of class numbers: equal ones exactly for states that agree on words of up to r symbols; the numbers are those below m, each is there. -/
structure OfOk (A : Aut) (r : Nat) (of : List Nat) : Prop where
  len : of.length = A.n
  eq : ∀ s t, s < A.n → t < A.n → (of.getD s 0 = of.getD t 0 ↔ Er A r s t)
structure OfOnto (A : Aut) (of : List Nat) (m : Nat) : Prop where
  lt : ∀ s, s < A.n → of.getD s 0 < m
  all : ∀ v, v < m → ∃ s, s < A.n ∧ of.getD s 0 = v
/-- Two states and their next states are in the same classes. -/
def alk (A : Aut) (of : List Nat) (a b : Nat) : Bool := decide (of.getD a 0 = of.getD b 0) && (List.range 11).all fun c => decide (of.getD (A.d a c) 0 = of.getD (A.d b c) 0)
theorem alk_iff {A : Aut} (hA : A.Ok) {r : Nat} {of : List Nat} (h : OfOk A r of) {a b : Nat} (ha : a < A.n) (hb : b < A.n) : alk A of a b = true ↔ Er A (r + 1) a b := by
  unfold alk
  rw [er_succ, Bool.and_eq_true, decide_eq_true_eq, List.all_eq_true, h.eq a b ha hb]
  refine and_congr Iff.rfl ⟨fun k c hc => ?_, fun k c hc => ?_⟩
  · have := k c (List.mem_range.2 hc)
    rw [decide_eq_true_eq] at this
    exact (h.eq _ _ (hA.go a c ha hc) (hA.go b c hb hc)).1 this
  · rw [decide_eq_true_eq]
    have hc' := List.mem_range.1 hc
    exact (h.eq _ _ (hA.go a c ha hc') (hA.go b c hb hc')).2 (k c hc')
/-- The first of the representatives that is alike. -/
def fst_ (A : Aut) (of : List Nat) (first : List Nat) (i : Nat) : Nat := first.findIdx fun j => alk A of i j
/-- Representatives and numbers after i states. -/
structure Ref (A : Aut) (r : Nat) (of : List Nat) (i : Nat) (next first : List Nat) : Prop where
  len : next.length = i
  lt : ∀ s ∈ first, s < i
  cls : ∀ s, s < i → next.getD s 0 < first.length ∧ Er A (r + 1) s (first.getD (next.getD s 0) 0)
  rep : ∀ j, j < first.length → next.getD (first.getD j 0) 0 = j
  apart : ∀ j k, j < first.length → k < first.length → Er A (r + 1) (first.getD j 0) (first.getD k 0) → j = k
theorem Ref.start (A : Aut) (r : Nat) (of : List Nat) : Ref A r of 0 [] [] :=
  ⟨rfl, fun s h => (by cases h), fun s h => (by omega), fun j h => (by simp at h), fun j k h _ _ => (by simp at h)⟩
theorem getD_snoc {l : List Nat} {x i : Nat} (h : i < l.length) : (l ++ [x]).getD i 0 = l.getD i 0 := by
  rw [List.getD_eq_getElem?_getD, List.getElem?_append_left h, ← List.getD_eq_getElem?_getD]
theorem getD_last {l : List Nat} {x : Nat} : (l ++ [x]).getD l.length 0 = x := by
  rw [List.getD_eq_getElem?_getD, List.getElem?_append_right (Nat.le_refl _), Nat.sub_self]
  rfl
/-- A state that is like a representative. -/
theorem Ref.old {A : Aut} {r : Nat} {of : List Nat} {i : Nat} {next first : List Nat} (h : Ref A r of i next first) {n : Nat} (hn : n < first.length) (he : Er A (r + 1) i (first.getD n 0)) : Ref A r of (i + 1) (next ++ [n]) first := by
  have hl := h.len
  refine ⟨by rw [List.length_append, hl]; rfl, fun s hs => by have := h.lt s hs; omega, fun s hs => ?_, fun j hj => ?_, h.apart⟩
  · rcases Nat.lt_or_ge s i with k | k
    · rw [getD_snoc (by omega)]
      exact h.cls s k
    · obtain rfl : s = next.length := by omega
      rw [getD_last]
      rw [← hl] at he
      exact ⟨hn, he⟩
  · have := h.lt _ (getD_mem hj)
    rw [getD_snoc (by omega)]
    exact h.rep j hj
/-- A state that is like none. -/
theorem Ref.new_ {A : Aut} {r : Nat} {of : List Nat} {i : Nat} {next first : List Nat} (h : Ref A r of i next first) (he : ∀ j, j < first.length → ¬ Er A (r + 1) i (first.getD j 0)) : Ref A r of (i + 1) (next ++ [first.length]) (first ++ [i]) := by
  have hl := h.len
  have hfl : (first ++ [i]).length = first.length + 1 := by rw [List.length_append]; rfl
  refine ⟨by rw [List.length_append, hl]; rfl, fun s hs => ?_, fun s hs => ?_, fun j hj => ?_, fun j k hj hk e => ?_⟩
  · rcases List.mem_append.1 hs with hs | hs
    · have := h.lt s hs; omega
    · simp at hs; omega
  · rcases Nat.lt_or_ge s i with k | k
    · obtain ⟨h1, h2⟩ := h.cls s k
      rw [getD_snoc (by omega), getD_snoc h1]
      exact ⟨by omega, h2⟩
    · obtain rfl : s = next.length := by omega
      rw [getD_last, getD_last]
      subst hl
      exact ⟨by omega, Er.refl _ _ _⟩
  · rcases Nat.lt_or_ge j first.length with k | k
    · have := h.lt _ (getD_mem k)
      rw [getD_snoc k, getD_snoc (by omega)]
      exact h.rep j k
    · obtain rfl : j = first.length := by omega
      rw [getD_last]
      subst hl
      rw [getD_last]
  · rcases Nat.lt_or_ge j first.length with a | a
    · rcases Nat.lt_or_ge k first.length with b | b
      · rw [getD_snoc a, getD_snoc b] at e
        exact h.apart j k a b e
      · obtain rfl : k = first.length := by omega
        rw [getD_snoc a, getD_last] at e
        exact absurd e.symm (he j a)
    · obtain rfl : j = first.length := by omega
      rcases Nat.lt_or_ge k first.length with b | b
      · rw [getD_last, getD_snoc b] at e
        exact absurd e (he k b)
      · omega
/-- All states are numbered. -/
theorem Ref.done {A : Aut} {r : Nat} {of : List Nat} {next first : List Nat} (h : Ref A r of A.n next first) : OfOk A (r + 1) next ∧ OfOnto A next first.length := by
  refine ⟨⟨h.len, fun s t hs ht => ⟨fun e => ?_, fun e => ?_⟩⟩, fun s hs => (h.cls s hs).1, fun v hv => ⟨first.getD v 0, h.lt _ (getD_mem hv), h.rep v hv⟩⟩
  · have h1 := (h.cls s hs).2
    rw [e] at h1
    exact h1.trans (h.cls t ht).2.symm
  · exact h.apart _ _ (h.cls s hs).1 (h.cls t ht).1 (((h.cls s hs).2.symm.trans e).trans (h.cls t ht).2)
theorem Ref.le {A : Aut} {r : Nat} {of : List Nat} {i : Nat} {next first : List Nat} (h : Ref A r of i next first) : first.length ≤ i := by
  have hn : first.Nodup := by
    unfold List.Nodup
    rw [List.pairwise_iff_getElem]
    intro a b ha hb hab e
    have h1 := h.rep a ha
    have h2 := h.rep b hb
    rw [getD_get ha, e, ← getD_get hb, h2] at h1
    omega
  have := nodup_len (b := List.range i) hn (fun x hx => List.mem_range.2 (h.lt x hx))
  rwa [List.length_range] at this
/-- As many classes as before: nothing has been divided. -/
theorem same_count {A : Aut} {r m : Nat} {of next : List Nat} (h : OfOk A r of) (h1 : OfOnto A of m) (k : OfOk A (r + 1) next) (k1 : OfOnto A next m) {s t : Nat} (hs : s < A.n) (ht : t < A.n) (e : Er A r s t) : Er A (r + 1) s t := by
  classical
  -- a state of each new class
  have hch : ∀ v, ∃ s, v < m → s < A.n ∧ next.getD s 0 = v := fun v => by
    by_cases hv : v < m
    · obtain ⟨s, a, b⟩ := k1.all v hv
      exact ⟨s, fun _ => ⟨a, b⟩⟩
    · exact ⟨0, fun hv' => absurd hv' hv⟩
  let g := fun v => Classical.choose (hch v)
  have hg : ∀ v, v < m → g v < A.n ∧ next.getD (g v) 0 = v := fun v hv => Classical.choose_spec (hch v) hv
  have hnd : ((List.range m).map fun v => of.getD (g v) 0).Nodup := by
    refine onto_nodup (m := m) (by simp) (fun v hv => ?_)
    obtain ⟨s, a, b⟩ := h1.all v hv
    refine List.mem_map.2 ⟨next.getD s 0, List.mem_range.2 (k1.lt s a), ?_⟩
    have c := hg _ (k1.lt s a)
    have d := (k.eq _ _ c.1 a).1 c.2
    rw [← b]
    exact (h.eq _ _ c.1 a).2 (d.le (by omega))
  have p1 := hg _ (k1.lt s hs)
  have p2 := hg _ (k1.lt t ht)
  have q1 := (k.eq _ _ p1.1 hs).1 p1.2
  have q2 := (k.eq _ _ p2.1 ht).1 p2.2
  have q3 : of.getD (g (next.getD s 0)) 0 = of.getD (g (next.getD t 0)) 0 := (h.eq _ _ p1.1 p2.1).2 (((q1.le (by omega)).trans e).trans (q2.le (by omega)).symm)
  have q4 : next.getD s 0 = next.getD t 0 := by
    have a1 := k1.lt s hs
    have a2 := k1.lt t ht
    refine nodup_get hnd (i := next.getD s 0) (j := next.getD t 0) (by simp; exact a1) (by simp; exact a2) ?_
    rw [List.getElem_map, List.getElem_map, List.getElem_range, List.getElem_range]
    exact q3
  exact (k.eq s t hs ht).1 q4
/-- The end of the refinement: as many classes as before (at the first time: one). -/
theorem ref_end {A : Aut} (hA : A.Ok) {r m : Nat} {of next : List Nat} (h : OfOk A r of) (h1 : (r = 0 ∧ m = 1) ∨ OfOnto A of m) (k : OfOk A (r + 1) next) (k1 : OfOnto A next m) : Cls A fun s => next.getD s 0 := by
  intro s t hs ht
  show next.getD s 0 = next.getD t 0 ↔ _
  rw [k.eq s t hs ht]
  refine ⟨fun e => ?_, fun e => e.er _⟩
  rcases h1 with ⟨rfl, rfl⟩ | h1
  · refine er_stable hA (r := 1) (fun s t hs ht _ => er_succ.2 ⟨?_, fun c hc => ?_⟩) hs ht e
    · exact (k.eq s t hs ht).1 (by have := k1.lt s hs; have := k1.lt t ht; omega)
    · have a := hA.go s c hs hc
      have b := hA.go t c ht hc
      exact (k.eq _ _ a b).1 (by have := k1.lt _ a; have := k1.lt _ b; omega)
  · exact er_stable hA (fun s t hs ht e => same_count h h1 k k1 hs ht e) hs ht (e.le (by omega))
/-- There are never fewer. -/
theorem more_count {A : Aut} {r m q : Nat} {of next : List Nat} (h : OfOk A r of) (h1 : (r = 0 ∧ m = 1) ∨ OfOnto A of m) (k : OfOk A (r + 1) next) (k1 : OfOnto A next q) (hn : 0 < A.n) : m ≤ q := by
  rcases h1 with ⟨_, rfl⟩ | h1
  · have := k1.lt 0 hn
    omega
  · classical
    have hch : ∀ v, ∃ s, v < q → s < A.n ∧ next.getD s 0 = v := fun v => by
      by_cases hv : v < q
      · obtain ⟨s, a, b⟩ := k1.all v hv
        exact ⟨s, fun _ => ⟨a, b⟩⟩
      · exact ⟨0, fun hv' => absurd hv' hv⟩
    let g := fun v => Classical.choose (hch v)
    have hg : ∀ v, v < q → g v < A.n ∧ next.getD (g v) 0 = v := fun v hv => Classical.choose_spec (hch v) hv
    have := nodup_len (a := List.range m) (b := (List.range q).map fun v => of.getD (g v) 0) List.nodup_range (fun v hv => by
      obtain ⟨s, a, b⟩ := h1.all v (List.mem_range.1 hv)
      refine List.mem_map.2 ⟨next.getD s 0, List.mem_range.2 (k1.lt s a), ?_⟩
      have c := hg _ (k1.lt s a)
      have d := (k.eq _ _ c.1 a).1 c.2
      rw [← b]
      exact (h.eq _ _ c.1 a).2 (d.le (by omega)))
    simpa using this
end Go.Proofs.Ytiljagfjgefnnaa
