/- Plain facts on the common part, scripts, applying and reversing them (made ahead of stage 5; nothing of a program). -/
import Derived.Test.YtcnjomkddbbopaaLa
namespace Go.Proofs.Ytcnjomkddbbopaa
set_option linter.unusedVariables false

/-! ### Scripts: an edit is its kind (1 keep, 2 delete, 3 insert) and its text -/
section
variable {α : Type}
def Kinds (s : List (Int × α)) : Prop := ∀ e ∈ s, 1 ≤ e.1 ∧ e.1 ≤ 3
/-- What a script goes through, and what it makes. -/
def srcOf : List (Int × α) → List α
  | [] => []
  | e :: s => if e.1 = 3 then srcOf s else e.2 :: srcOf s
def dstOf : List (Int × α) → List α
  | [] => []
  | e :: s => if e.1 = 2 then dstOf s else e.2 :: dstOf s
theorem srcOf_append : ∀ s t : List (Int × α), srcOf (s ++ t) = srcOf s ++ srcOf t
  | [], t => rfl
  | e :: s, t => by
    rw [List.cons_append, srcOf, srcOf, srcOf_append s t]
    split <;> rfl
theorem dstOf_append : ∀ s t : List (Int × α), dstOf (s ++ t) = dstOf s ++ dstOf t
  | [], t => rfl
  | e :: s, t => by
    rw [List.cons_append, dstOf, dstOf, dstOf_append s t]
    split <;> rfl
def revE (e : Int × α) : Int × α := (if e.1 = 2 then 3 else if e.1 = 3 then 2 else e.1, e.2)
theorem revE_kinds {s : List (Int × α)} (h : Kinds s) : Kinds (s.map revE) := by
  intro e he
  obtain ⟨f, hf, rfl⟩ := List.mem_map.1 he
  have := h f hf
  unfold revE
  dsimp only
  split
  · omega
  · split <;> omega
theorem srcOf_rev : ∀ {s : List (Int × α)}, Kinds s → srcOf (s.map revE) = dstOf s
  | [], _ => rfl
  | e :: s, h => by
    have ih := srcOf_rev (s := s) (fun f hf => h f (by simp [hf]))
    have h1 := h e (by simp)
    rw [List.map_cons, srcOf, dstOf, ih]
    unfold revE
    dsimp only
    by_cases h2 : e.1 = 2
    · rw [if_pos h2, if_pos rfl, if_pos h2]
    · rw [if_neg h2, if_neg h2]
      by_cases h3 : e.1 = 3
      · rw [if_pos h3, if_neg (by omega)]
      · rw [if_neg h3, if_neg h3]
theorem dstOf_rev : ∀ {s : List (Int × α)}, Kinds s → dstOf (s.map revE) = srcOf s
  | [], _ => rfl
  | e :: s, h => by
    have ih := dstOf_rev (s := s) (fun f hf => h f (by simp [hf]))
    have h1 := h e (by simp)
    rw [List.map_cons, srcOf, dstOf, ih]
    unfold revE
    dsimp only
    by_cases h2 : e.1 = 2
    · rw [if_pos h2, if_neg (by omega), if_neg (by omega)]
    · rw [if_neg h2]
      by_cases h3 : e.1 = 3
      · rw [if_pos h3, if_pos rfl, if_pos h3]
      · rw [if_neg h3, if_neg h2, if_neg h3]
theorem src_del (l : List α) : srcOf (l.map fun u => ((2 : Int), u)) = l := by
  induction l with
  | nil => rfl
  | cons u l ih => rw [List.map_cons, srcOf, ih, if_neg (by omega)]
theorem src_ins (l : List α) : srcOf (l.map fun u => ((3 : Int), u)) = [] := by
  induction l with
  | nil => rfl
  | cons u l ih => rw [List.map_cons, srcOf, ih, if_pos rfl]
theorem src_keep (l : List α) : srcOf (l.map fun u => ((1 : Int), u)) = l := by
  induction l with
  | nil => rfl
  | cons u l ih => rw [List.map_cons, srcOf, ih, if_neg (by omega)]
theorem dst_del (l : List α) : dstOf (l.map fun u => ((2 : Int), u)) = [] := by
  induction l with
  | nil => rfl
  | cons u l ih => rw [List.map_cons, dstOf, ih, if_pos rfl]
theorem dst_ins (l : List α) : dstOf (l.map fun u => ((3 : Int), u)) = l := by
  induction l with
  | nil => rfl
  | cons u l ih => rw [List.map_cons, dstOf, ih, if_neg (by omega)]
theorem dst_keep (l : List α) : dstOf (l.map fun u => ((1 : Int), u)) = l := by
  induction l with
  | nil => rfl
  | cons u l ih => rw [List.map_cons, dstOf, ih, if_neg (by omega)]
theorem drop_mid {a : List α} {i x : Nat} (h : i ≤ x) : (a.take x).drop i ++ ((a.drop x).take 1 ++ a.drop (x + 1)) = a.drop i := by
  have e1 : (a.drop x).take 1 ++ a.drop (x + 1) = a.drop x := by
    rw [← List.drop_drop, List.take_append_drop]
  rw [e1, List.drop_take]
  obtain ⟨k, rfl⟩ : ∃ k, x = i + k := ⟨x - i, by omega⟩
  rw [Nat.add_sub_cancel_left, ← List.drop_drop, List.take_append_drop]
theorem one_at {a : List α} {x : Nat} {u : α} (h : a[x]? = some u) : (a.drop x).take 1 = [u] := by
  have hx := (List.getElem?_eq_some_iff.1 h).1
  rw [List.drop_eq_getElem_cons hx]
  simp [(List.getElem?_eq_some_iff.1 h).2]
theorem map_kinds (l : List α) (k : Int) (h : 1 ≤ k ∧ k ≤ 3) : Kinds (l.map fun u => (k, u)) := by
  intro e he
  obtain ⟨u, _, rfl⟩ := List.mem_map.1 he
  exact h
theorem kinds_append {s t : List (Int × α)} (hs : Kinds s) (ht : Kinds t) : Kinds (s ++ t) := fun e he => (List.mem_append.1 he).elim (hs e) (ht e)
/-- Pairs that are common, one behind the other. -/
inductive Goes (a b : List α) : Nat → Nat → List (Nat × Nat) → Prop
  | nil (i j : Nat) : Goes a b i j []
  | cons {i j x y : Nat} {l : List (Nat × Nat)} {u : α} (hx : i ≤ x) (hy : j ≤ y) (h1 : a[x]? = some u) (h2 : b[y]? = some u) (h : Goes a b (x + 1) (y + 1) l) : Goes a b i j ((x, y) :: l)
/-- The script along some pairs. -/
def scrF (a b : List α) : Nat → Nat → List (Nat × Nat) → List (Int × α)
  | i, j, [] => (a.drop i).map (fun u => (2, u)) ++ (b.drop j).map (fun u => (3, u))
  | i, j, (x, y) :: l => ((a.take x).drop i).map (fun u => (2, u)) ++ (((b.take y).drop j).map (fun u => (3, u)) ++ ((a.drop x).take 1).map (fun u => (1, u)) ++ scrF a b (x + 1) (y + 1) l)
theorem scrF_src {a b : List α} {i j : Nat} {l : List (Nat × Nat)} (h : Goes a b i j l) : srcOf (scrF a b i j l) = a.drop i := by
  induction h with
  | nil i j => rw [scrF, srcOf_append, src_del, src_ins, List.append_nil]
  | cons hx hy h1 h2 h ih =>
    rw [scrF, srcOf_append, srcOf_append, srcOf_append, src_del, src_ins, src_keep, ih, List.nil_append]
    exact drop_mid hx
theorem scrF_dst {a b : List α} {i j : Nat} {l : List (Nat × Nat)} (h : Goes a b i j l) : dstOf (scrF a b i j l) = b.drop j := by
  induction h with
  | nil i j => rw [scrF, dstOf_append, dst_del, dst_ins, List.nil_append]
  | cons hx hy h1 h2 h ih =>
    rw [scrF, dstOf_append, dstOf_append, dstOf_append, dst_del, dst_ins, dst_keep, ih, List.nil_append, one_at h1, ← one_at h2]
    rw [List.append_assoc]
    exact drop_mid hy
theorem scrF_kinds (a b : List α) : ∀ (l : List (Nat × Nat)) (i j : Nat), Kinds (scrF a b i j l)
  | [], i, j => by rw [scrF]; exact kinds_append (map_kinds _ 2 (by omega)) (map_kinds _ 3 (by omega))
  | (x, y) :: l, i, j => by
    rw [scrF]
    exact kinds_append (map_kinds _ 2 (by omega)) (kinds_append (kinds_append (map_kinds _ 3 (by omega)) (map_kinds _ 1 (by omega))) (scrF_kinds a b l _ _))
end
section
variable {α : Type} [DecidableEq α]
/-- A script goes through a list, from a result so far on. -/
def runE : List α → List (Int × α) → List α → Option (List α)
  | [], [], out => some out
  | _ :: _, [], _ => none
  | a, e :: s, out =>
    if e.1 = 3 then runE a s (out ++ [e.2])
    else match a with
      | [] => none
      | x :: a => if x = e.2 then runE a s (if e.1 = 2 then out else out ++ [e.2]) else none
theorem runE_iff : ∀ (s : List (Int × α)) (a out z : List α), runE a s out = some z ↔ a = srcOf s ∧ z = out ++ dstOf s
  | [], a, out, z => by
    cases a with
    | nil => simp [runE, srcOf, dstOf, eq_comm]
    | cons x a => simp [runE, srcOf]
  | e :: s, a, out, z => by
    rw [srcOf, dstOf]
    by_cases h3 : e.1 = 3
    · have : runE a (e :: s) out = runE a s (out ++ [e.2]) := by cases a <;> simp [runE, h3]
      rw [this, runE_iff s, if_pos h3, if_neg (by omega)]
      simp
    · rw [if_neg h3]
      cases a with
      | nil => simp [runE, h3]
      | cons x a =>
        by_cases hx : x = e.2
        · have : runE (x :: a) (e :: s) out = runE a s (if e.1 = 2 then out else out ++ [e.2]) := by simp [runE, h3, hx]
          rw [this, runE_iff s, hx]
          by_cases h2 : e.1 = 2
          · rw [if_pos h2, if_pos h2]; simp
          · rw [if_neg h2, if_neg h2]; simp
        · simp [runE, h3, hx]
/-- A script that fits leads back, reversed. -/
theorem runE_back {s : List (Int × α)} {a z : List α} (hk : Kinds s) (h : runE a s [] = some z) : runE z (s.map revE) [] = some a := by
  obtain ⟨h1, h2⟩ := (runE_iff s a [] z).1 h
  refine (runE_iff _ _ _ _).2 ⟨?_, ?_⟩
  · rw [srcOf_rev hk, h2, List.nil_append]
  · rw [dstOf_rev hk, h1, List.nil_append]

/-! ### The common part -/
/-- Whether a longest common subsequence of what is behind (i, j) may begin with the pair. -/
def okP (a b : List α) (i j : Nat) (p : Nat × Nat) : Bool := decide (a[p.1]? = b[p.2]? ∧ p.1 < a.length ∧ p.2 < b.length ∧ 1 + lcs (a.drop (p.1 + 1)) (b.drop (p.2 + 1)) = lcs (a.drop i) (b.drop j))
/-- The pairs from two places on, in their order. -/
def pairsFrom (m n i j : Nat) : List (Nat × Nat) := (List.range' i (m - i)).flatMap fun x => (List.range' j (n - j)).map fun y => (x, y)
def nxtP (a b : List α) (i j : Nat) : Option (Nat × Nat) := (pairsFrom a.length b.length i j).find? (okP a b i j)
theorem mem_pairsFrom {m n i j : Nat} {p : Nat × Nat} : p ∈ pairsFrom m n i j ↔ i ≤ p.1 ∧ p.1 < m ∧ j ≤ p.2 ∧ p.2 < n := by
  obtain ⟨x, y⟩ := p
  unfold pairsFrom
  simp only [List.mem_flatMap, List.mem_map, List.mem_range'_1, Prod.mk.injEq]
  constructor
  · rintro ⟨x', hx, y', hy, rfl, rfl⟩
    omega
  · intro h
    exact ⟨x, by omega, y, by omega, rfl, rfl⟩
theorem nxtP_some {a b : List α} {i j : Nat} {p : Nat × Nat} (h : nxtP a b i j = some p) : i ≤ p.1 ∧ p.1 < a.length ∧ j ≤ p.2 ∧ p.2 < b.length ∧ a[p.1]? = b[p.2]? ∧ 1 + lcs (a.drop (p.1 + 1)) (b.drop (p.2 + 1)) = lcs (a.drop i) (b.drop j) := by
  have h1 := List.mem_of_find?_eq_some h
  have h2 := List.find?_some h
  rw [mem_pairsFrom] at h1
  unfold okP at h2
  simp only [decide_eq_true_eq] at h2
  exact ⟨h1.1, h1.2.1, h1.2.2.1, h1.2.2.2, h2.1, h2.2.2.2⟩
theorem nxtP_none {a b : List α} {i j : Nat} (h : nxtP a b i j = none) : lcs (a.drop i) (b.drop j) = 0 := by
  rcases Nat.eq_zero_or_pos (lcs (a.drop i) (b.drop j)) with h0 | h0
  · exact h0
  · exfalso
    obtain ⟨x, y, u, h1, h2, h3⟩ := opens_some h0
    rw [List.getElem?_drop] at h1 h2
    rw [List.drop_drop, List.drop_drop] at h3
    have hx := (List.getElem?_eq_some_iff.1 h1).1
    have hy := (List.getElem?_eq_some_iff.1 h2).1
    have := List.find?_eq_none.1 h (i + x, j + y) (mem_pairsFrom.2 ⟨by simp, hx, by simp, hy⟩)
    apply this
    unfold okP
    simp only [decide_eq_true_eq]
    exact ⟨h1.trans h2.symm, hx, hy, h3⟩
/-- The common part behind two places: so many pairs. -/
def commF (a b : List α) : Nat → Nat → Nat → List (Nat × Nat)
  | 0, _, _ => []
  | n + 1, i, j => match nxtP a b i j with
    | none => []
    | some p => p :: commF a b n (p.1 + 1) (p.2 + 1)
def comm (a b : List α) (i j : Nat) : List (Nat × Nat) := commF a b (lcs (a.drop i) (b.drop j)) i j
theorem comm_none {a b : List α} {i j : Nat} (h : nxtP a b i j = none) : comm a b i j = [] := by
  unfold comm
  rw [nxtP_none h]
  rfl
theorem comm_some {a b : List α} {i j : Nat} {p : Nat × Nat} (h : nxtP a b i j = some p) : comm a b i j = p :: comm a b (p.1 + 1) (p.2 + 1) := by
  obtain ⟨_, _, _, _, _, h1⟩ := nxtP_some h
  unfold comm
  rw [← h1, Nat.add_comm 1, commF, h]
theorem comm_length (a b : List α) : ∀ (n i j : Nat), lcs (a.drop i) (b.drop j) = n → (comm a b i j).length = n
  | 0, i, j, h => by unfold comm; rw [h]; rfl
  | n + 1, i, j, h => by
    cases hp : nxtP a b i j with
    | none => rw [nxtP_none hp] at h; omega
    | some p =>
      obtain ⟨_, _, _, _, _, h1⟩ := nxtP_some hp
      rw [comm_some hp, List.length_cons, comm_length a b n _ _ (by omega)]
theorem goes_comm (a b : List α) : ∀ (n i j : Nat), lcs (a.drop i) (b.drop j) = n → Goes a b i j (comm a b i j)
  | 0, i, j, h => by unfold comm; rw [h]; exact .nil _ _
  | n + 1, i, j, h => by
    cases hp : nxtP a b i j with
    | none => rw [nxtP_none hp] at h; omega
    | some p =>
      obtain ⟨h1, h2, h3, h4, h5, h6⟩ := nxtP_some hp
      obtain ⟨x, y⟩ := p
      rw [comm_some hp]
      have e : a[x]? = some (a[x]'h2) := List.getElem?_eq_getElem h2
      exact .cons h1 h3 e (h5.symm.trans e) (goes_comm a b n _ _ (by simp only at h6 ⊢; omega))
def scr (a b : List α) : List (Int × α) := scrF a b 0 0 (comm a b 0 0)
/-- The script leads from the one list to the other one, and back. -/
theorem scr_leads (a b : List α) : runE a (scr a b) [] = some b ∧ runE b ((scr a b).map revE) [] = some a ∧ Kinds (scr a b) := by
  have hg := goes_comm a b _ 0 0 rfl
  have hk : Kinds (scr a b) := scrF_kinds a b _ 0 0
  have h : runE a (scr a b) [] = some b := (runE_iff _ _ _ _).2 ⟨by unfold scr; rw [scrF_src hg]; rfl, by unfold scr; rw [scrF_dst hg]; rfl⟩
  exact ⟨h, runE_back hk h, hk⟩
end
end Go.Proofs.Ytcnjomkddbbopaa
