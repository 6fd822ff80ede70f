/- Plain: automata that are numbered by the search; the first states of classes. -/
import Derived.Test.YtiljagfjgefnnaaAk
import Derived.Test.YtiljagfjgefnnaaAi
namespace Go.Proofs.Ytiljagfjgefnnaa
set_option linter.unusedVariables false

def lenR (B : Aut) (i L : Nat) : Nat → Nat
  | 0 => L
  | c + 1 => max (lenR B i L c) (B.d i c + 1)
def lenB (B : Aut) : Nat → Nat
  | 0 => 1
  | i + 1 => lenR B i (lenB B i) 11
theorem lenR_zero (B : Aut) (i L : Nat) : lenR B i L 0 = L := by rw [lenR]
theorem lenR_succ (B : Aut) (i L c : Nat) : lenR B i L (c + 1) = max (lenR B i L c) (B.d i c + 1) := by rw [lenR]
theorem lenB_zero (B : Aut) : lenB B 0 = 1 := by rw [lenB]
theorem lenB_succ (B : Aut) (i : Nat) : lenB B (i + 1) = lenR B i (lenB B i) 11 := by rw [lenB]
theorem lenR_le (B : Aut) (i L : Nat) {c d : Nat} (h : c ≤ d) : lenR B i L c ≤ lenR B i L d := by
  induction h with
  | refl => exact Nat.le_refl _
  | step _ ih => rw [lenR_succ]; omega
theorem lenR_ge (B : Aut) (i L c : Nat) : L ≤ lenR B i L c := by
  have := lenR_le B i L (Nat.zero_le c)
  rwa [lenR_zero] at this
theorem lenB_le (B : Aut) {i j : Nat} (h : i ≤ j) : lenB B i ≤ lenB B j := by
  induction h with
  | refl => exact Nat.le_refl _
  | step _ ih => rw [lenB_succ]; exact Nat.le_trans ih (lenR_ge _ _ _ _)
theorem lenR_gt (B : Aut) (i L : Nat) {c e : Nat} (h : e < c) : B.d i e < lenR B i L c := by
  have h1 := lenR_le B i L (show e + 1 ≤ c from h)
  rw [lenR_succ] at h1
  omega
theorem lenB_gt (B : Aut) {i j e : Nat} (h : i < j) (he : e < 11) : B.d i e < lenB B j := by
  have h1 := lenB_le B (show i + 1 ≤ j from h)
  rw [lenB_succ] at h1
  exact Nat.lt_of_lt_of_le (lenR_gt B i _ he) h1
/-- Numbered in the order in which the search finds. -/
structure Bf (B : Aut) : Prop where
  st : B.s0 = 0
  le : ∀ i c, i < B.n → c < 11 → B.d i c ≤ lenR B i (lenB B i) c
  in_ : ∀ i, i < B.n → i < lenB B i
  all : lenB B B.n = B.n
theorem Bf.lenR_le_n {B : Aut} (h : Bf B) {i c : Nat} (hi : i < B.n) (hc : c ≤ 11) : lenR B i (lenB B i) c ≤ B.n := by
  have h1 := lenR_le B i (lenB B i) hc
  rw [← lenB_succ] at h1
  have h2 := lenB_le B (show i + 1 ≤ B.n from hi)
  rw [h.all] at h2
  omega

/-! ### What the search makes is numbered so -/
section
variable {A : Aut} {cl : Nat → Nat} {m : Nat}
theorem row_len {A : Aut} {cl : Nat → Nat} {fd : List Nat} {s c : Nat} : (rowK A cl fd s (c + 1)).2.length = max (rowK A cl fd s c).2.length (idx ((rowK A cl fd s c).2.map cl) (cl (A.d s c)) + 1) := by
  rw [rowK_succ]
  unfold rowStp add
  dsimp only
  have := idx_le ((rowK A cl fd s c).2.map cl) (cl (A.d s c))
  rw [List.length_map] at this
  split
  · omega
  · rw [List.length_append, List.length_singleton]
    omega
theorem row_get {A : Aut} {cl : Nat → Nat} {fd : List Nat} {s : Nat} : ∀ {c k : Nat}, k < c → (rowK A cl fd s c).1.getD k 0 = idx ((rowK A cl fd s k).2.map cl) (cl (A.d s k))
  | 0, k, h => by omega
  | c + 1, k, h => by
    have hlen := rowK_len A cl fd s c
    have e0 : (rowK A cl fd s (c + 1)).1 = (rowK A cl fd s c).1 ++ [idx ((rowK A cl fd s c).2.map cl) (cl (A.d s c))] := rfl
    rw [e0]
    by_cases hk : k < c
    · rw [List.getD_eq_getElem?_getD, List.getElem?_append_left (by omega), ← List.getD_eq_getElem?_getD]
      exact row_get hk
    · obtain rfl : k = c := by omega
      rw [List.getD_eq_getElem?_getD, List.getElem?_append_right (by omega), hlen, Nat.sub_self]
      rfl
theorem lenR_min {i : Nat} (hi : i < m) (L : Nat) (hL : (fdK A cl i).length = L) : ∀ c, c ≤ 11 → lenR (minA A cl m) i L c = (rowK A cl (fdK A cl i) ((fdK A cl i).getD i 0) c).2.length
  | 0, _ => by rw [lenR_zero]; exact hL.symm
  | c + 1, hc => by
    rw [lenR_succ, lenR_min hi L hL c (by omega), row_len, minA_d A cl hi]
    unfold rowsK
    rw [row_get (show c < 11 by omega)]
theorem lenB_min : ∀ i, i ≤ m → lenB (minA A cl m) i = (fdK A cl i).length
  | 0, _ => by rw [lenB_zero, fdK_zero]; rfl
  | i + 1, h => by
    rw [lenB_succ, lenB_min i (by omega), lenR_min (by omega) _ rfl 11 (Nat.le_refl _), fdK_succ]
theorem Stop.bf (h : Stop A cl m) : Bf (minA A cl m) := by
  refine ⟨rfl, fun i c hi hc => ?_, fun i hi => ?_, ?_⟩
  · rw [minA_n] at hi
    rw [lenB_min i (by omega), lenR_min hi _ rfl c (by omega), minA_d A cl hi]
    unfold rowsK
    rw [row_get hc]
    have := idx_le ((rowK A cl (fdK A cl i) ((fdK A cl i).getD i 0) c).2.map cl) (cl (A.d ((fdK A cl i).getD i 0) c))
    rwa [List.length_map] at this
  · rw [minA_n] at hi
    rw [lenB_min i (by omega)]
    exact h.1 i hi
  · rw [minA_n, lenB_min m (Nat.le_refl _)]
    exact h.2
end

/-! ### The first states of classes -/
def fr (cl : Nat → Nat) : Nat → List Nat
  | 0 => []
  | s + 1 => add cl (fr cl s) s
theorem fr_zero (cl : Nat → Nat) : fr cl 0 = [] := by rw [fr]
theorem fr_succ (cl : Nat → Nat) (s : Nat) : fr cl (s + 1) = add cl (fr cl s) s := by rw [fr]
theorem fr_pre (cl : Nat → Nat) {s t : Nat} (h : s ≤ t) : fr cl s <+: fr cl t := by
  induction h with
  | refl => exact List.prefix_refl _
  | step _ ih => rw [fr_succ]; exact ih.trans (add_pre cl _ _)
theorem add_mem {cl : Nat → Nat} {F : List Nat} {t : Nat} : cl t ∈ (add cl F t).map cl := by
  unfold add
  split
  · rename_i h
    have h1 : idx (F.map cl) (cl t) < (F.map cl).length := by rw [List.length_map]; exact h
    exact idx_lt.1 h1
  · simp
theorem fr_has (cl : Nat → Nat) {s t : Nat} (h : s < t) : cl s ∈ (fr cl t).map cl := by
  have h1 := fr_pre cl (show s + 1 ≤ t from h)
  rw [fr_succ] at h1
  obtain ⟨k, hk⟩ := h1
  rw [← hk, List.map_append]
  exact List.mem_append.2 (.inl add_mem)
theorem fr_lt (cl : Nat → Nat) : ∀ t, ∀ x ∈ fr cl t, x < t
  | 0, x, h => by rw [fr_zero] at h; cases h
  | t + 1, x, h => by
    rw [fr_succ] at h
    unfold add at h
    split at h
    · have := fr_lt cl t x h; omega
    · rcases List.mem_append.1 h with h | h
      · have := fr_lt cl t x h; omega
      · rw [List.mem_singleton] at h; omega
theorem fr_old {cl : Nat → Nat} {F : List Nat} {t : Nat} (h : cl t ∈ F.map cl) : add cl F t = F := by
  unfold add
  have h1 := idx_lt.2 h
  rw [List.length_map] at h1
  rw [if_pos h1]
theorem fr_new {cl : Nat → Nat} {F : List Nat} {t : Nat} (h : cl t ∉ F.map cl) : add cl F t = F ++ [t] := by
  unfold add
  have h1 := mt idx_lt.1 h
  rw [List.length_map] at h1
  rw [if_neg h1]
theorem fr_nd (cl : Nat → Nat) : ∀ t, ((fr cl t).map cl).Nodup
  | 0 => by rw [fr_zero]; exact List.nodup_nil
  | t + 1 => by
    rw [fr_succ]
    by_cases h : cl t ∈ (fr cl t).map cl
    · rw [fr_old h]; exact fr_nd cl t
    · rw [fr_new h, List.map_append]
      exact nodup_snoc (fr_nd cl t) h
theorem fr_len_le (cl : Nat → Nat) (t : Nat) : (fr cl t).length ≤ t := by
  have := nodup_len (b := List.range t) (nodup_of_map (fr_nd cl t)) (fun x hx => List.mem_range.2 (fr_lt cl t x hx))
  rwa [List.length_range] at this
section
variable {G : Aut} {cl : Nat → Nat}
/-- A row of the search for classes, at the first state of a class: what is found are first states. -/
theorem fr_row (hB : Bf G) {x : Nat} (hx : x < G.n) : ∀ c, c ≤ 11 → (rowK G cl (fr cl (lenB G x)) x c).2 = fr cl (lenR G x (lenB G x) c)
  | 0, _ => by rw [lenR_zero]; rfl
  | c + 1, hc => by
    have ih := fr_row hB hx c (by omega)
    rw [rowK_succ]
    unfold rowStp
    dsimp only
    rw [ih, lenR_succ]
    have hle := hB.le x c hx (by omega)
    by_cases h : G.d x c < lenR G x (lenB G x) c
    · rw [Nat.max_eq_left (by omega), fr_old (fr_has cl h)]
    · have e : G.d x c = lenR G x (lenB G x) c := by omega
      rw [Nat.max_eq_right (by omega), ← e, fr_succ]
/-- A row of another state of a class adds nothing. -/
theorem fr_row_old (hB : Bf G) (hC : ∀ s t, s < G.n → t < G.n → cl s = cl t → ∀ c, c < 11 → cl (G.d s c) = cl (G.d t c)) {x q : Nat} (hx : x < G.n) (hq : q < x) (he : cl q = cl x) : ∀ c, c ≤ 11 → fr cl (lenR G x (lenB G x) c) = fr cl (lenB G x)
  | 0, _ => by rw [lenR_zero]
  | c + 1, hc => by
    have ih := fr_row_old hB hC hx hq he c (by omega)
    rw [lenR_succ]
    have hle := hB.le x c hx (by omega)
    by_cases h : G.d x c < lenR G x (lenB G x) c
    · rw [Nat.max_eq_left (by omega), ih]
    · have e : G.d x c = lenR G x (lenB G x) c := by omega
      rw [Nat.max_eq_right (by omega), fr_succ, e, ih]
      have h1 : G.d q c < lenB G x := lenB_gt G hq (by omega)
      rw [← e]
      refine fr_old ?_
      rw [← hC q x (by omega) hx he c (by omega)]
      exact fr_has cl h1
theorem fr_found (hB : Bf G) (hC : ∀ s t, s < G.n → t < G.n → cl s = cl t → ∀ c, c < 11 → cl (G.d s c) = cl (G.d t c)) : ∀ x, x ≤ G.n → fdK G cl (fr cl x).length = fr cl (lenB G x)
  | 0, _ => by
    rw [fr_zero, lenB_zero, fr_succ, fr_zero, List.length_nil, fdK_zero, hB.st]
    rfl
  | x + 1, hx => by
    have ih := fr_found hB hC x (by omega)
    have hx' : x < G.n := by omega
    by_cases h : cl x ∈ (fr cl x).map cl
    · rw [fr_succ, fr_old h, ih, lenB_succ]
      obtain ⟨q, hq, he⟩ := List.mem_map.1 h
      exact (fr_row_old hB hC hx' (fr_lt cl x q hq) he 11 (Nat.le_refl _)).symm
    · have e1 : fr cl (x + 1) = fr cl x ++ [x] := by rw [fr_succ, fr_new h]
      have hp := fr_pre cl (show x + 1 ≤ lenB G x from hB.in_ x hx')
      rw [e1] at hp
      have hg : (fr cl (lenB G x)).getD (fr cl x).length 0 = x := by
        rw [pre_getD hp (by simp)]
        exact getD_end
      rw [e1, List.length_append, List.length_singleton, fdK_succ, ih, hg, fr_row hB hx' 11 (Nat.le_refl _), lenB_succ]
theorem fr_at : ∀ t j, j < (fr cl t).length → ∃ x, x < t ∧ (fr cl x).length = j ∧ cl x ∉ (fr cl x).map cl
  | 0, j, h => by rw [fr_zero] at h; simp at h
  | t + 1, j, h => by
    rw [fr_succ] at h
    by_cases hm : cl t ∈ (fr cl t).map cl
    · rw [fr_old hm] at h
      obtain ⟨x, h1, h2⟩ := fr_at t j h
      exact ⟨x, by omega, h2⟩
    · rw [fr_new hm, List.length_append, List.length_singleton] at h
      by_cases hj : j < (fr cl t).length
      · obtain ⟨x, h1, h2⟩ := fr_at t j hj
        exact ⟨x, by omega, h2⟩
      · exact ⟨t, by omega, by omega, hm⟩
theorem fr_stop (hB : Bf G) (hC : ∀ s t, s < G.n → t < G.n → cl s = cl t → ∀ c, c < 11 → cl (G.d s c) = cl (G.d t c)) : Stop G cl (fr cl G.n).length ∧ fdK G cl (fr cl G.n).length = fr cl G.n := by
  have e := fr_found hB hC G.n (Nat.le_refl _)
  rw [hB.all] at e
  refine ⟨⟨fun j hj => ?_, by rw [e]⟩, e⟩
  obtain ⟨x, h1, h2, h3⟩ := fr_at G.n j hj
  have e2 := fr_found hB hC x (by omega)
  rw [h2] at e2
  rw [e2]
  have hp := (fr_pre cl (show x + 1 ≤ lenB G x from hB.in_ x h1)).length_le
  rw [fr_succ, fr_new h3, List.length_append, List.length_singleton] at hp
  omega
theorem Cls.step {A : Aut} (hA : A.Ok) (h : Cls A cl) : ∀ s t, s < A.n → t < A.n → cl s = cl t → ∀ c, c < 11 → cl (A.d s c) = cl (A.d t c) := fun s t hs ht e c hc =>
  (h _ _ (hA.go s c hs hc) (hA.go t c ht hc)).2 (((h s t hs ht).1 e).step hc)
end
/-- The rows that are made, by what was found at the end. -/
theorem Stop.rows {A : Aut} {cl : Nat → Nat} {m : Nat} (h : Stop A cl m) (hA : A.Ok) {i : Nat} (hi : i < m) : rowsK A cl i = (List.range 11).map fun c => idx ((fdK A cl m).map cl) (cl (A.d ((fdK A cl m).getD i 0) c)) := by
  have hl : (rowsK A cl i).length = 11 := rowK_len _ _ _ _ 11
  refine List.ext_getElem (by simp [hl]) (fun c h1 h2 => ?_)
  have hc : c < 11 := by omega
  rw [List.getElem_map, List.getElem_range]
  have hs := h.step hi hc
  rw [minA_d A cl hi, getD_get h1] at hs
  have hok := h.ok hA
  obtain ⟨q, hq⟩ : ∃ q, (rowsK A cl i)[c]'h1 = q := ⟨_, rfl⟩
  rw [hq] at hs ⊢
  have h3 : q < (fdK A cl m).length := by rw [h.2]; exact hs.1
  have e4 := hs.2
  rw [getD_get h3] at e4
  refine (idx_first (by rw [List.length_map]; exact h3) ?_ (fun j hj hlt => ?_)).symm
  · rw [List.getElem_map]
    exact e4
  · rw [← e4]
    intro e
    have := nodup_get hok.nd hj (by rw [List.length_map]; exact h3) (by rw [e, List.getElem_map])
    omega

/-! ### The first words, over an automaton that is numbered so -/
theorem srch_range (B : Aut) (h : Bf B) : Srch B 0 0 (List.range 1) [[]] := by
  have := srch_start B
  rw [h.st] at this
  exact this
theorem Srch.oldB {B : Aut} {i c L : Nat} {W : List (List Nat)} (h : Srch B i c (List.range L) W) (hi : i < L) (hd : B.d i c < L) : Srch B i (c + 1) (List.range L) W := by
  have e : (List.range L).getD i 0 = i := by rw [getD_get (by rw [List.length_range]; exact hi), List.getElem_range]
  refine h.old (by rw [List.length_range]; exact hi) (k := B.d i c) (by rw [List.length_range]; exact hd) ?_
  rw [e, getD_get (by rw [List.length_range]; exact hd), List.getElem_range]
theorem Srch.newB {B : Aut} {i c L : Nat} {W : List (List Nat)} (h : Srch B i c (List.range L) W) (hi : i < L) (hc : c < 11) (hd : B.d i c = L) : Srch B i (c + 1) (List.range (L + 1)) (W ++ [W.getD i [] ++ [c]]) := by
  have e : (List.range L).getD i 0 = i := by rw [getD_get (by rw [List.length_range]; exact hi), List.getElem_range]
  have := h.new_ (by rw [List.length_range]; exact hi) hc (fun k hk => by
    rw [List.length_range] at hk
    rw [e, hd, getD_get (by rw [List.length_range]; exact hk), List.getElem_range]
    omega)
  rw [e, hd] at this
  rw [List.range_succ]
  exact this
end Go.Proofs.Ytiljagfjgefnnaa
