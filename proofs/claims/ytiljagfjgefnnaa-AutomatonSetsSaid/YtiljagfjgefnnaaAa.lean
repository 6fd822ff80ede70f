/- Automata, plain: words, equivalence of states, the search that numbers classes, what it makes, that it is the same for automata that accept the same words. -/
import Derived.Test.YtiljagfjgefnnaaChecked
namespace Go.Proofs.Ytiljagfjgefnnaa
set_option linter.unusedVariables false

abbrev Str := List UInt8
/-- An automaton over the symbols 0 to 10. -/
structure Aut where
  n : Nat
  s0 : Nat
  d : Nat → Nat → Nat
  f : Nat → Bool
structure Aut.Ok (A : Aut) : Prop where
  st : A.s0 < A.n
  go : ∀ s c, s < A.n → c < 11 → A.d s c < A.n
def Aut.run (A : Aut) (s : Nat) (w : List Nat) : Nat := w.foldl A.d s
def Aut.acc (A : Aut) (s : Nat) (w : List Nat) : Bool := A.f (A.run s w)
def word (w : List Nat) : Prop := ∀ c ∈ w, c < 11
theorem word_nil : word [] := fun c h => by cases h
theorem word_cons {c : Nat} {w : List Nat} : word (c :: w) ↔ c < 11 ∧ word w := by
  unfold word
  simp
theorem Aut.run_cons (A : Aut) (s c : Nat) (w : List Nat) : A.run s (c :: w) = A.run (A.d s c) w := rfl
theorem Aut.run_app (A : Aut) (s : Nat) (v w : List Nat) : A.run s (v ++ w) = A.run (A.run s v) w := List.foldl_append ..
theorem Aut.acc_cons (A : Aut) (s c : Nat) (w : List Nat) : A.acc s (c :: w) = A.acc (A.d s c) w := rfl
theorem Aut.acc_nil (A : Aut) (s : Nat) : A.acc s [] = A.f s := rfl
theorem Aut.Ok.run_lt {A : Aut} (h : A.Ok) : ∀ (w : List Nat) (s : Nat), s < A.n → word w → A.run s w < A.n
  | [], s, hs, _ => hs
  | c :: w, s, hs, hw => by
    rw [word_cons] at hw
    exact h.run_lt w _ (h.go s c hs hw.1) hw.2

/-! ### Equivalent states -/
def Eqv (A B : Aut) (s t : Nat) : Prop := ∀ w, word w → A.acc s w = B.acc t w
theorem Eqv.refl (A : Aut) (s : Nat) : Eqv A A s s := fun _ _ => rfl
theorem Eqv.symm {A B : Aut} {s t : Nat} (h : Eqv A B s t) : Eqv B A t s := fun w hw => (h w hw).symm
theorem Eqv.trans {A B C : Aut} {s t u : Nat} (h : Eqv A B s t) (k : Eqv B C t u) : Eqv A C s u := fun w hw => (h w hw).trans (k w hw)
theorem Eqv.f {A B : Aut} {s t : Nat} (h : Eqv A B s t) : A.f s = B.f t := h [] word_nil
theorem Eqv.step {A B : Aut} {s t : Nat} (h : Eqv A B s t) {c : Nat} (hc : c < 11) : Eqv A B (A.d s c) (B.d t c) := fun w hw => h (c :: w) (word_cons.2 ⟨hc, hw⟩)
/-- A relation that is kept by steps, and in which both accept or neither. -/
theorem eqv_bisim {A B : Aut} (R : Nat → Nat → Prop) (hf : ∀ s t, R s t → A.f s = B.f t) (hd : ∀ s t c, R s t → c < 11 → R (A.d s c) (B.d t c)) : ∀ s t, R s t → Eqv A B s t := by
  intro s t h w
  induction w generalizing s t with
  | nil => intro _; exact hf s t h
  | cons c w ih =>
    intro hw
    rw [word_cons] at hw
    exact ih _ _ (hd s t c h hw.1) hw.2

/-! ### The search -/
def idx (l : List Nat) (x : Nat) : Nat := l.findIdx (· == x)
theorem idx_le (l : List Nat) (x : Nat) : idx l x ≤ l.length := List.findIdx_le_length
theorem idx_lt {l : List Nat} {x : Nat} : idx l x < l.length ↔ x ∈ l := by
  unfold idx
  rw [List.findIdx_lt_length]
  simp
theorem idx_get {l : List Nat} {x : Nat} (h : idx l x < l.length) : l[idx l x] = x := by
  have := List.findIdx_getElem (xs := l) (p := (· == x)) (w := h)
  exact beq_iff_eq.1 this
theorem idx_not {l : List Nat} {x : Nat} (h : x ∉ l) : idx l x = l.length := by
  have h1 := idx_le l x
  have h2 := mt idx_lt.1 h
  omega
theorem idx_first {l : List Nat} {x i : Nat} (h : i < l.length) (h1 : l[i] = x) (h2 : ∀ (j : Nat) (hj : j < l.length), j < i → l[j] ≠ x) : idx l x = i := by
  have hm : idx l x < l.length := idx_lt.2 (by rw [← h1]; exact List.getElem_mem h)
  rcases Nat.lt_trichotomy (idx l x) i with h3 | h3 | h3
  · exact absurd (idx_get hm) (h2 _ hm h3)
  · exact h3
  · have := List.not_of_lt_findIdx (xs := l) (p := (· == x)) (i := i) h3
    simp [h1] at this
def add (cl : Nat → Nat) (fd : List Nat) (t : Nat) : List Nat := if idx (fd.map cl) (cl t) < fd.length then fd else fd ++ [t]
/-- A row: after so many symbols, its numbers and what has been found. -/
def rowStp (A : Aut) (cl : Nat → Nat) (s c : Nat) (p : List Nat × List Nat) : List Nat × List Nat := (p.1 ++ [idx (p.2.map cl) (cl (A.d s c))], add cl p.2 (A.d s c))
def rowK (A : Aut) (cl : Nat → Nat) (fd : List Nat) (s : Nat) : Nat → List Nat × List Nat
  | 0 => ([], fd)
  | c + 1 => rowStp A cl s c (rowK A cl fd s c)
theorem rowK_succ (A : Aut) (cl : Nat → Nat) (fd : List Nat) (s c : Nat) : rowK A cl fd s (c + 1) = rowStp A cl s c (rowK A cl fd s c) := rfl
def fdK (A : Aut) (cl : Nat → Nat) : Nat → List Nat
  | 0 => [A.s0]
  | i + 1 => (rowK A cl (fdK A cl i) ((fdK A cl i).getD i 0) 11).2
theorem fdK_zero (A : Aut) (cl : Nat → Nat) : fdK A cl 0 = [A.s0] := by rw [fdK]
theorem fdK_succ (A : Aut) (cl : Nat → Nat) (i : Nat) : fdK A cl (i + 1) = (rowK A cl (fdK A cl i) ((fdK A cl i).getD i 0) 11).2 := by rw [fdK]
def rowsK (A : Aut) (cl : Nat → Nat) (i : Nat) : List Nat := (rowK A cl (fdK A cl i) ((fdK A cl i).getD i 0) 11).1
/-- Where the search ends. -/
def Stop (A : Aut) (cl : Nat → Nat) (m : Nat) : Prop := (∀ j, j < m → j < (fdK A cl j).length) ∧ (fdK A cl m).length = m
def outN (A : Aut) (cl : Nat → Nat) (m : Nat) : List (List Nat) := (List.range m).map (rowsK A cl)
def outF (A : Aut) (cl : Nat → Nat) (m : Nat) : List Bool := (List.range m).map fun i => A.f ((fdK A cl m).getD i 0)

theorem add_pre (cl : Nat → Nat) (fd : List Nat) (t : Nat) : fd <+: add cl fd t := by
  unfold add
  split
  · exact List.prefix_refl _
  · exact List.prefix_append _ _
theorem rowK_pre (A : Aut) (cl : Nat → Nat) (fd : List Nat) (s : Nat) : ∀ c, fd <+: (rowK A cl fd s c).2
  | 0 => List.prefix_refl _
  | c + 1 => (rowK_pre A cl fd s c).trans (add_pre cl _ _)
theorem fdK_pre (A : Aut) (cl : Nat → Nat) (i : Nat) : fdK A cl i <+: fdK A cl (i + 1) := by
  rw [fdK_succ]
  exact rowK_pre A cl _ _ 11
theorem fdK_pre_le (A : Aut) (cl : Nat → Nat) {i j : Nat} (h : i ≤ j) : fdK A cl i <+: fdK A cl j := by
  induction h with
  | refl => exact List.prefix_refl _
  | step _ ih => exact ih.trans (fdK_pre A cl _)
theorem rowK_len (A : Aut) (cl : Nat → Nat) (fd : List Nat) (s : Nat) : ∀ c, (rowK A cl fd s c).1.length = c
  | 0 => rfl
  | c + 1 => by
    show ((rowK A cl fd s c).1 ++ _).length = _
    rw [List.length_append, rowK_len A cl fd s c]
    rfl
theorem pre_getD {a b : List Nat} (h : a <+: b) {i : Nat} (hi : i < a.length) : b.getD i 0 = a.getD i 0 := by
  obtain ⟨c, rfl⟩ := h
  rw [List.getD_eq_getElem?_getD, List.getD_eq_getElem?_getD, List.getElem?_append_left hi]

/-- What the found states are: states, of different classes. -/
structure FdOk (A : Aut) (cl : Nat → Nat) (fd : List Nat) : Prop where
  lt : ∀ s ∈ fd, s < A.n
  nd : (fd.map cl).Nodup
theorem nodup_snoc {l : List Nat} {x : Nat} (h : l.Nodup) (hx : x ∉ l) : (l ++ [x]).Nodup := by
  rw [List.nodup_append]
  exact ⟨h, by simp, fun a ha b hb e => hx (by simp at hb; subst hb; subst e; exact ha)⟩
theorem FdOk.add {A : Aut} {cl : Nat → Nat} {fd : List Nat} (h : FdOk A cl fd) {t : Nat} (ht : t < A.n) : FdOk A cl (add cl fd t) := by
  unfold Go.Proofs.Ytiljagfjgefnnaa.add
  split
  · exact h
  · rename_i hn
    refine ⟨fun s hs => ?_, ?_⟩
    · rcases List.mem_append.1 hs with hs | hs
      · exact h.lt s hs
      · simp at hs
        subst hs
        exact ht
    · rw [List.map_append, List.map_singleton]
      refine nodup_snoc h.nd (fun hm => hn ?_)
      have := idx_lt.2 hm
      rwa [List.length_map] at this
theorem FdOk.row {A : Aut} {cl : Nat → Nat} (hA : A.Ok) {fd : List Nat} (h : FdOk A cl fd) {s : Nat} (hs : s < A.n) : ∀ c, c ≤ 11 → FdOk A cl (rowK A cl fd s c).2
  | 0, _ => h
  | c + 1, hc => (FdOk.row hA h hs c (by omega)).add (hA.go s c hs (by omega))
theorem getD_mem {l : List Nat} {i : Nat} (h : i < l.length) : l.getD i 0 ∈ l := by
  rw [List.getD_eq_getElem?_getD, List.getElem?_eq_getElem h]
  exact List.getElem_mem h
theorem getD_get {l : List Nat} {i : Nat} (h : i < l.length) : l.getD i 0 = l[i] := by
  rw [List.getD_eq_getElem?_getD, List.getElem?_eq_getElem h]
  rfl
theorem fdK_ok {A : Aut} (cl : Nat → Nat) (hA : A.Ok) : ∀ i, (∀ j, j < i → j < (fdK A cl j).length) → FdOk A cl (fdK A cl i)
  | 0, _ => ⟨fun s hs => by simp [fdK] at hs; subst hs; exact hA.st, by simp [fdK]⟩
  | i + 1, h => by
    have h1 := fdK_ok cl hA i (fun j hj => h j (by omega))
    rw [fdK_succ]
    exact FdOk.row hA h1 (h1.lt _ (getD_mem (h i (by omega)))) 11 (Nat.le_refl _)

/-! ### Lists of different elements -/
theorem nodup_len : ∀ {a b : List Nat}, a.Nodup → (∀ x ∈ a, x ∈ b) → a.length ≤ b.length
  | [], _, _, _ => Nat.zero_le _
  | x :: a, b, h, hs => by
    rw [List.nodup_cons] at h
    have hx := hs x (by simp)
    have := nodup_len (b := b.erase x) h.2 (fun y hy => (List.mem_erase_of_ne (by intro e; subst e; exact h.1 hy)).2 (hs y (by simp [hy])))
    rw [List.length_erase_of_mem hx] at this
    have h1 := List.length_pos_of_mem hx
    rw [List.length_cons]
    omega
theorem nodup_of_map {f : Nat → Nat} : ∀ {l : List Nat}, (l.map f).Nodup → l.Nodup
  | [], _ => List.nodup_nil
  | x :: l, h => by
    rw [List.map_cons, List.nodup_cons] at h
    rw [List.nodup_cons]
    exact ⟨fun hx => h.1 (List.mem_map.2 ⟨x, hx, rfl⟩), nodup_of_map h.2⟩
theorem FdOk.len {A : Aut} {cl : Nat → Nat} {fd : List Nat} (h : FdOk A cl fd) : fd.length ≤ A.n := by
  have := nodup_len (b := List.range A.n) (nodup_of_map h.nd) (fun x hx => List.mem_range.2 (h.lt x hx))
  rwa [List.length_range] at this
/-- A shorter list with the same elements, where an element stands twice. -/
theorem shorter : ∀ {l : List Nat}, ¬ l.Nodup → ∃ k : List Nat, k.length < l.length ∧ ∀ x ∈ l, x ∈ k
  | [], h => absurd List.nodup_nil h
  | x :: l, h => by
    by_cases hx : x ∈ l
    · exact ⟨l, by simp, fun y hy => by
        rcases List.mem_cons.1 hy with rfl | hy
        · exact hx
        · exact hy⟩
    · obtain ⟨k, h1, h2⟩ := shorter (l := l) (fun hn => h (List.nodup_cons.2 ⟨hx, hn⟩))
      exact ⟨x :: k, by simp; omega, fun y hy => by
        rcases List.mem_cons.1 hy with rfl | hy
        · simp
        · simp [h2 y hy]⟩
theorem nodup_get {l : List Nat} (h : l.Nodup) {i j : Nat} (hi : i < l.length) (hj : j < l.length) (e : l[i] = l[j]) : i = j := by
  have hp := List.pairwise_iff_getElem.1 h
  rcases Nat.lt_trichotomy i j with k | k | k
  · exact absurd e (hp i j hi hj k)
  · exact k
  · exact absurd e.symm (hp j i hj hi k)
/-- As many as are asked, and each is there: none twice. -/
theorem onto_nodup {l : List Nat} {m : Nat} (hl : l.length = m) (h : ∀ v, v < m → v ∈ l) : l.Nodup := by
  refine Classical.byContradiction fun hn => ?_
  obtain ⟨k, h1, h2⟩ := shorter hn
  have := nodup_len (a := List.range m) (b := k) List.nodup_range (fun x hx => h2 x (h x (List.mem_range.1 hx)))
  rw [List.length_range] at this
  omega

/-! ### What the search makes -/
/-- A number in a row is that of a found state of the right class. -/
theorem rowK_entry {A : Aut} {cl : Nat → Nat} {fd : List Nat} {s : Nat} : ∀ {c k : Nat}, k < c → (rowK A cl fd s c).1.getD k 0 < (rowK A cl fd s c).2.length ∧ cl ((rowK A cl fd s c).2.getD ((rowK A cl fd s c).1.getD k 0) 0) = cl (A.d s k)
  | 0, k, h => by omega
  | c + 1, k, h => by
    have hlen := rowK_len A cl fd s c
    have e0 : (rowK A cl fd s (c + 1)).1 = (rowK A cl fd s c).1 ++ [idx ((rowK A cl fd s c).2.map cl) (cl (A.d s c))] := rfl
    have f0 : (rowK A cl fd s (c + 1)).2 = add cl (rowK A cl fd s c).2 (A.d s c) := rfl
    rw [e0, f0]
    have hpre := add_pre cl (rowK A cl fd s c).2 (A.d s c)
    have h3 := hpre.length_le
    by_cases hk : k < c
    · obtain ⟨h1, h2⟩ := rowK_entry (A := A) (cl := cl) (fd := fd) (s := s) hk
      have e1 : ((rowK A cl fd s c).1 ++ [idx ((rowK A cl fd s c).2.map cl) (cl (A.d s c))]).getD k 0 = (rowK A cl fd s c).1.getD k 0 := by
        rw [List.getD_eq_getElem?_getD, List.getElem?_append_left (by omega), ← List.getD_eq_getElem?_getD]
      rw [e1, pre_getD hpre h1]
      exact ⟨by omega, h2⟩
    · obtain rfl : k = c := by omega
      have e1 : ((rowK A cl fd s k).1 ++ [idx ((rowK A cl fd s k).2.map cl) (cl (A.d s k))]).getD k 0 = idx ((rowK A cl fd s k).2.map cl) (cl (A.d s k)) := by
        rw [List.getD_eq_getElem?_getD, List.getElem?_append_right (by omega), hlen, Nat.sub_self]
        rfl
      rw [e1]
      generalize (rowK A cl fd s k).2 = F
      by_cases hi : idx (F.map cl) (cl (A.d s k)) < F.length
      · have e2 : add cl F (A.d s k) = F := by unfold add; rw [if_pos hi]
        rw [e2, getD_get hi]
        refine ⟨hi, ?_⟩
        have := idx_get (l := F.map cl) (x := cl (A.d s k)) (by rw [List.length_map]; exact hi)
        rwa [List.getElem_map] at this
      · have e2 : add cl F (A.d s k) = F ++ [A.d s k] := by unfold add; rw [if_neg hi]
        have e3 : idx (F.map cl) (cl (A.d s k)) = F.length := by
          have := idx_le (F.map cl) (cl (A.d s k))
          rw [List.length_map] at this
          omega
        rw [e2, e3]
        exact ⟨by simp, by simp [List.getD_eq_getElem?_getD]⟩
/-- The automaton that is made. -/
def mkA (nx : List (List Nat)) (ac : List Bool) : Aut := ⟨nx.length, 0, fun s c => (nx.getD s []).getD c 0, fun s => ac.getD s false⟩
def minA (A : Aut) (cl : Nat → Nat) (m : Nat) : Aut := mkA (outN A cl m) (outF A cl m)
theorem minA_n (A : Aut) (cl : Nat → Nat) (m : Nat) : (minA A cl m).n = m := by
  show (outN A cl m).length = m
  unfold outN
  simp
theorem outN_get (A : Aut) (cl : Nat → Nat) {m i : Nat} (h : i < m) : (outN A cl m).getD i [] = rowsK A cl i := by
  unfold outN
  rw [List.getD_eq_getElem?_getD, List.getElem?_map, List.getElem?_range h]
  rfl
theorem minA_d (A : Aut) (cl : Nat → Nat) {m i : Nat} (h : i < m) (c : Nat) : (minA A cl m).d i c = (rowsK A cl i).getD c 0 := by
  show ((outN A cl m).getD i []).getD c 0 = _
  rw [outN_get A cl h]
theorem minA_f (A : Aut) (cl : Nat → Nat) {m i : Nat} (h : i < m) : (minA A cl m).f i = A.f ((fdK A cl m).getD i 0) := by
  show (outF A cl m).getD i false = _
  unfold outF
  rw [List.getD_eq_getElem?_getD, List.getElem?_map, List.getElem?_range h]
  rfl
/-- Classes within which states are equivalent. -/
def Snd (A : Aut) (cl : Nat → Nat) : Prop := ∀ s t, s < A.n → t < A.n → cl s = cl t → Eqv A A s t
def Cls (A : Aut) (cl : Nat → Nat) : Prop := ∀ s t, s < A.n → t < A.n → (cl s = cl t ↔ Eqv A A s t)
theorem Cls.snd {A : Aut} {cl : Nat → Nat} (h : Cls A cl) : Snd A cl := fun s t hs ht e => (h s t hs ht).1 e
section
variable {A : Aut} {cl : Nat → Nat} {m : Nat}
theorem Stop.ok (h : Stop A cl m) (hA : A.Ok) : FdOk A cl (fdK A cl m) := fdK_ok cl hA m h.1
theorem Stop.le (h : Stop A cl m) (hA : A.Ok) : m ≤ A.n := by
  have := (h.ok hA).len
  rw [h.2] at this
  exact this
theorem Stop.pos (h : Stop A cl m) : 0 < m := by
  have h1 := (fdK_pre_le A cl (Nat.zero_le m)).length_le
  rw [h.2] at h1
  exact h1
/-- Steps of the automaton that is made. -/
theorem Stop.step (h : Stop A cl m) {i c : Nat} (hi : i < m) (hc : c < 11) : (minA A cl m).d i c < m ∧ cl ((fdK A cl m).getD ((minA A cl m).d i c) 0) = cl (A.d ((fdK A cl m).getD i 0) c) := by
  rw [minA_d A cl hi]
  obtain ⟨h1, h2⟩ := rowK_entry (A := A) (cl := cl) (fd := fdK A cl i) (s := (fdK A cl i).getD i 0) hc
  have hp : fdK A cl (i + 1) <+: fdK A cl m := fdK_pre_le A cl hi
  have hp0 : fdK A cl i <+: fdK A cl m := fdK_pre_le A cl (Nat.le_of_lt hi)
  rw [← fdK_succ] at h1 h2
  have er : rowsK A cl i = (rowK A cl (fdK A cl i) ((fdK A cl i).getD i 0) 11).1 := by unfold rowsK; with_reducible rfl
  rw [← er] at h1 h2
  have h3 := h1
  have h4 := hp.length_le
  rw [h.2] at h4
  refine ⟨by omega, ?_⟩
  rw [pre_getD hp h3, pre_getD hp0 (h.1 i hi)]
  exact h2
theorem Stop.minOk (h : Stop A cl m) : (minA A cl m).Ok :=
  ⟨by rw [minA_n]; exact h.pos, fun s c hs hc => by rw [minA_n] at hs ⊢; exact (h.step hs hc).1⟩
/-- Each state of the automaton that is made is equivalent to the state from which it was made. -/
theorem Stop.eqv (h : Stop A cl m) (hA : A.Ok) (hS : Snd A cl) {i : Nat} (hi : i < m) : Eqv (minA A cl m) A i ((fdK A cl m).getD i 0) := by
  have hok := h.ok hA
  have hl : ∀ j, j < m → (fdK A cl m).getD j 0 < A.n := fun j hj => hok.lt _ (getD_mem (by rw [h.2]; exact hj))
  refine eqv_bisim (fun j s => j < m ∧ s < A.n ∧ Eqv A A ((fdK A cl m).getD j 0) s) (fun j s hj => ?_) (fun j s c hj hc => ?_) i _ ⟨hi, hl i hi, Eqv.refl _ _⟩
  · rw [minA_f A cl hj.1]
    exact hj.2.2.f
  · obtain ⟨h1, h2⟩ := h.step hj.1 hc
    exact ⟨h1, hA.go s c hj.2.1 hc, (hS _ _ (hl _ h1) (hA.go _ c (hl j hj.1) hc) h2).trans (hj.2.2.step hc)⟩
theorem fdK_start (A : Aut) (cl : Nat → Nat) (m : Nat) : (fdK A cl m).getD 0 0 = A.s0 := by
  rw [pre_getD (fdK_pre_le A cl (Nat.zero_le m)) (by simp [fdK])]
  rfl
theorem Stop.start (h : Stop A cl m) (hA : A.Ok) (hS : Snd A cl) : Eqv (minA A cl m) A 0 A.s0 := by
  have := h.eqv hA hS h.pos
  rw [fdK_start] at this
  exact this
/-- No two states of it are equivalent. -/
theorem Stop.apart (h : Stop A cl m) (hA : A.Ok) (hC : Cls A cl) {i j : Nat} (hi : i < m) (hj : j < m) (he : Eqv (minA A cl m) (minA A cl m) i j) : i = j := by
  have hok := h.ok hA
  have h1 := ((h.eqv hA hC.snd hi).symm.trans he).trans (h.eqv hA hC.snd hj)
  have hi' : i < (fdK A cl m).length := by rw [h.2]; exact hi
  have hj' : j < (fdK A cl m).length := by rw [h.2]; exact hj
  have h2 := (hC _ _ (hok.lt _ (getD_mem hi')) (hok.lt _ (getD_mem hj'))).2 h1
  rw [getD_get hi', getD_get hj'] at h2
  exact nodup_get hok.nd (by rw [List.length_map]; exact hi') (by rw [List.length_map]; exact hj') (by rw [List.getElem_map, List.getElem_map]; exact h2)
end

/-! ### The same for automata that accept the same words -/
section
variable {A B : Aut} {ca cb : Nat → Nat}
def Par (A B : Aut) : List Nat → List Nat → Prop
  | [], [] => True
  | a :: l, b :: k => (Eqv A B a b ∧ a < A.n ∧ b < B.n) ∧ Par A B l k
  | _, _ => False
theorem Par.len : ∀ {a b : List Nat}, Par A B a b → a.length = b.length
  | [], [], _ => rfl
  | _ :: _, _ :: _, h => by rw [List.length_cons, List.length_cons, Par.len h.2]
  | [], _ :: _, h => by cases h
  | _ :: _, [], h => by cases h
theorem Par.snoc : ∀ {a b : List Nat}, Par A B a b → ∀ {x y : Nat}, Eqv A B x y ∧ x < A.n ∧ y < B.n → Par A B (a ++ [x]) (b ++ [y])
  | [], [], _, _, _, hx => ⟨hx, trivial⟩
  | _ :: _, _ :: _, h, _, _, hx => ⟨h.1, Par.snoc h.2 hx⟩
  | [], _ :: _, h, _, _, _ => by cases h
  | _ :: _, [], h, _, _, _ => by cases h
theorem Par.get : ∀ {a b : List Nat}, Par A B a b → ∀ {i : Nat}, i < a.length → Eqv A B (a.getD i 0) (b.getD i 0) ∧ a.getD i 0 < A.n ∧ b.getD i 0 < B.n
  | [], [], _, i, hi => by simp at hi
  | _ :: _, _ :: _, h, 0, _ => h.1
  | _ :: _, _ :: _, h, i + 1, hi => Par.get h.2 (i := i) (by simpa using hi)
  | [], _ :: _, h, _, _ => by cases h
  | _ :: _, [], h, _, _ => by cases h
theorem idx_par (ha : Cls A ca) (hb : Cls B cb) : ∀ {a b : List Nat}, Par A B a b → ∀ {s t : Nat}, Eqv A B s t → s < A.n → t < B.n → idx (a.map ca) (ca s) = idx (b.map cb) (cb t)
  | [], [], _, _, _, _, _, _ => rfl
  | x :: a, y :: b, h, s, t, he, hs, ht => by
    have ih := idx_par ha hb h.2 he hs ht
    unfold idx at ih ⊢
    rw [List.map_cons, List.map_cons, List.findIdx_cons, List.findIdx_cons, ih]
    have e : (ca x == ca s) = (cb y == cb t) := by
      rw [Bool.eq_iff_iff, beq_iff_eq, beq_iff_eq, ha x s h.1.2.1 hs, hb y t h.1.2.2 ht]
      exact ⟨fun k => (h.1.1.symm.trans k).trans he, fun k => (h.1.1.trans k).trans he.symm⟩
    rw [e]
  | [], _ :: _, h, _, _, _, _, _ => by cases h
  | _ :: _, [], h, _, _, _, _, _ => by cases h
theorem Par.add (ha : Cls A ca) (hb : Cls B cb) {a b : List Nat} (h : Par A B a b) {s t : Nat} (he : Eqv A B s t) (hs : s < A.n) (ht : t < B.n) : Par A B (add ca a s) (add cb b t) := by
  unfold Go.Proofs.Ytiljagfjgefnnaa.add
  rw [idx_par ha hb h he hs ht, h.len]
  split
  · exact h
  · exact h.snoc ⟨he, hs, ht⟩
theorem row_par (hA : A.Ok) (hB : B.Ok) (ha : Cls A ca) (hb : Cls B cb) {a b : List Nat} (h : Par A B a b) {s t : Nat} (he : Eqv A B s t) (hs : s < A.n) (ht : t < B.n) :
    ∀ c, c ≤ 11 → (rowK A ca a s c).1 = (rowK B cb b t c).1 ∧ Par A B (rowK A ca a s c).2 (rowK B cb b t c).2
  | 0, _ => ⟨rfl, h⟩
  | c + 1, hc => by
    obtain ⟨h1, h2⟩ := row_par hA hB ha hb h he hs ht c (by omega)
    rw [rowK_succ, rowK_succ]
    have k1 := hA.go s c hs (by omega)
    have k2 := hB.go t c ht (by omega)
    have k3 := he.step (c := c) (by omega)
    refine ⟨?_, (show Par A B (add ca _ _) (add cb _ _) from h2.add ha hb k3 k1 k2)⟩
    unfold rowStp
    dsimp only
    rw [h1, idx_par ha hb h2 k3 k1 k2]
theorem par_one {x y : Nat} (h : Eqv A B x y ∧ x < A.n ∧ y < B.n) : Par A B [x] [y] := ⟨h, trivial⟩
theorem fd_par (hA : A.Ok) (hB : B.Ok) (ha : Cls A ca) (hb : Cls B cb) (h0 : Eqv A B A.s0 B.s0) (i : Nat) (h : ∀ j, j < i → j < (fdK A ca j).length) : Par A B (fdK A ca i) (fdK B cb i) := by
  induction i with
  | zero =>
    rw [fdK_zero, fdK_zero]
    exact par_one ⟨h0, hA.st, hB.st⟩
  | succ i ih =>
    have hi := h i (Nat.lt_succ_self i)
    have hq := ih (fun j hj => h j (Nat.lt_succ_of_lt hj))
    clear ih h
    have g := hq.get (i := i) hi
    have r := row_par hA hB ha hb hq g.1 g.2.1 g.2.2 11 (Nat.le_refl _)
    generalize hX : rowK A ca (fdK A ca i) ((fdK A ca i).getD i 0) 11 = X at r
    generalize hY : rowK B cb (fdK B cb i) ((fdK B cb i).getD i 0) 11 = Y at r
    rw [fdK_succ, fdK_succ, hX, hY]
    exact r.2
/-- Where the first states are equivalent, the search makes the same of both. -/
theorem canon (hA : A.Ok) (hB : B.Ok) (ha : Cls A ca) (hb : Cls B cb) (h0 : Eqv A B A.s0 B.s0) {m k : Nat} (hm : Stop A ca m) (hk : Stop B cb k) : m = k ∧ outN A ca m = outN B cb k ∧ outF A ca m = outF B cb k := by
  have hp : ∀ i, i ≤ m → Par A B (fdK A ca i) (fdK B cb i) := fun i hi => fd_par hA hB ha hb h0 i (fun j hj => hm.1 j (by omega))
  have e : m = k := by
    rcases Nat.lt_trichotomy m k with h | h | h
    · have h1 := hk.1 m h
      rw [← (hp m (Nat.le_refl _)).len, hm.2] at h1
      omega
    · exact h
    · have h1 := hm.1 k h
      rw [(hp k (Nat.le_of_lt h)).len, hk.2] at h1
      omega
  subst e
  refine ⟨rfl, ?_, ?_⟩
  · unfold outN
    refine List.map_congr_left fun i hi => ?_
    have hi' := List.mem_range.1 hi
    obtain ⟨h1, h2, h3⟩ := (hp i (Nat.le_of_lt hi')).get (hm.1 i hi')
    unfold rowsK
    exact (row_par hA hB ha hb (hp i (Nat.le_of_lt hi')) h1 h2 h3 11 (Nat.le_refl _)).1
  · unfold outF
    refine List.map_congr_left fun i hi => ?_
    have hi' := List.mem_range.1 hi
    exact ((hp m (Nat.le_refl _)).get (by rw [hm.2]; exact hi')).1.f
end
end Go.Proofs.Ytiljagfjgefnnaa
