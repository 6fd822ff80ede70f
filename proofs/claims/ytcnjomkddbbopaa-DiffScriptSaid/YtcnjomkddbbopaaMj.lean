/- Plain facts on the elements that both lists have, and their numbers; the map of these numbers as a datum. -/
import Derived.Test.YtcnjomkddbbopaaMi
import Derived.Maps.OwnSet
import Derived.Maps.OwnOps
namespace Go.Proofs.Ytcnjomkddbbopaa
open Go.RowKit Go.Maps
set_option linter.unusedVariables false

abbrev Str := List UInt8
/-- The last place of an element; 0 where it is not there. -/
def num (l : List Str) (s : Str) : Nat := (l.foldl (fun (acc : Nat × Nat) x => (acc.1 + 1, if x = s then acc.1 else acc.2)) (0, 0)).2
theorem num_fold (s : Str) : ∀ (l : List Str) (a b : Nat), (l.foldl (fun (acc : Nat × Nat) x => (acc.1 + 1, if x = s then acc.1 else acc.2)) (a, b)).1 = a + l.length
  | [], a, b => rfl
  | x :: l, a, b => by rw [List.foldl_cons, num_fold s l, List.length_cons]; omega
theorem nil_or_snoc (l : List Str) : l = [] ∨ ∃ r x, l = r ++ [x] := by
  rcases List.eq_nil_or_concat l with h | ⟨r, x, h⟩
  · exact .inl h
  · exact .inr ⟨r, x, by simpa using h⟩
theorem num_snoc (l : List Str) (x s : Str) : num (l ++ [x]) s = if x = s then l.length else num l s := by
  unfold num
  rw [List.foldl_append, List.foldl_cons, List.foldl_nil]
  show (if x = s then (List.foldl _ (0, 0) l).1 else _) = _
  rw [num_fold, Nat.zero_add]
theorem num_get (s : Str) : ∀ (n : Nat) (l : List Str), l.length = n → s ∈ l → num l s < l.length ∧ l[num l s]? = some s
  | 0, l, hn, h => by rw [List.eq_nil_of_length_eq_zero hn] at h; cases h
  | n + 1, l, hn, h => by
    rcases nil_or_snoc l with rfl | ⟨r, x, rfl⟩
    · cases h
    · rw [num_snoc]
      rw [List.length_append, List.length_singleton] at hn ⊢
      by_cases hx : x = s
      · rw [if_pos hx]
        exact ⟨by omega, by simp [hx]⟩
      · rw [if_neg hx]
        have hm : s ∈ r := by
          rcases List.mem_append.1 h with h | h
          · exact h
          · simp at h; exact absurd h.symm hx
        obtain ⟨h1, h2⟩ := num_get s n r (by omega) hm
        exact ⟨by omega, by rw [List.getElem?_append_left h1]; exact h2⟩
theorem num_inj {l : List Str} {s t : Str} (hs : s ∈ l) (ht : t ∈ l) (h : num l s = num l t) : s = t := by
  have h1 := (num_get s _ l rfl hs).2
  have h2 := (num_get t _ l rfl ht).2
  rw [h] at h1
  exact Option.some.inj (h1.symm.trans h2)

/-! ### The map -/
def kS (s : Str) : Lit := .string s
def numD (l : List Str) : DataW Unit := (l.foldl (fun (acc : Nat × DataW Unit) x => (acc.1 + 1, acc.2.put (kS x) (.lit (.int .i64 (acc.1 : Int))))) (0, .map [])).2
theorem numD_fold : ∀ (l : List Str) (a : Nat) (b : DataW Unit), (l.foldl (fun (acc : Nat × DataW Unit) x => (acc.1 + 1, acc.2.put (kS x) (.lit (.int .i64 (acc.1 : Int))))) (a, b)).1 = a + l.length
  | [], a, b => rfl
  | x :: l, a, b => by rw [List.foldl_cons, numD_fold l, List.length_cons]; omega
theorem numD_snoc (l : List Str) (x : Str) : numD (l ++ [x]) = (numD l).put (kS x) (.lit (.int .i64 (l.length : Int))) := by
  unfold numD
  rw [List.foldl_append, List.foldl_cons, List.foldl_nil]
  dsimp only
  rw [numD_fold, Nat.zero_add]
theorem kS_key (s : Str) : WideAt.IsKeyLit (kS s) := trivial
theorem kS_ne {s t : Str} (h : s ≠ t) : kS s ≠ kS t := fun e => h (by unfold kS at e; injection e)
theorem numD_isMap : ∀ (n : Nat) (l : List Str), l.length = n → IsMap (numD l)
  | 0, l, hn => by rw [List.eq_nil_of_length_eq_zero hn]; exact isMap_empty
  | n + 1, l, hn => by
    rcases nil_or_snoc l with rfl | ⟨r, x, rfl⟩
    · exact isMap_empty
    · rw [numD_snoc]
      exact (numD_isMap n r (by simp at hn; omega)).put _ _
theorem numD_has (s : Str) : ∀ (n : Nat) (l : List Str), l.length = n → Maps.has (numD l) (kS s) = decide (s ∈ l)
  | 0, l, hn => by rw [List.eq_nil_of_length_eq_zero hn]; rfl
  | n + 1, l, hn => by
    rcases nil_or_snoc l with rfl | ⟨r, x, rfl⟩
    · rfl
    · have hr : r.length = n := by simp at hn; omega
      rw [numD_snoc]
      by_cases hx : s = x
      · subst hx
        rw [has_put_same (numD_isMap n r hr) (kS_key s)]
        exact (decide_eq_true (by simp)).symm
      · rw [has_put_other (kS_ne hx), numD_has s n r hr]
        simp [hx]
theorem numD_at (s : Str) : ∀ (n : Nat) (l : List Str), l.length = n → (numD l).atKey (kS s) (.lit (.int .i64 0)) = .lit (.int .i64 (num l s : Int))
  | 0, l, hn => by rw [List.eq_nil_of_length_eq_zero hn]; rfl
  | n + 1, l, hn => by
    rcases nil_or_snoc l with rfl | ⟨r, x, rfl⟩
    · rfl
    · have hr : r.length = n := by simp at hn; omega
      rw [numD_snoc, num_snoc]
      by_cases hx : s = x
      · subst hx
        rw [atKey_put_same (numD_isMap n r hr) (kS_key s), if_pos rfl]
      · rw [atKey_put_other (kS_ne hx), numD_at s n r hr, if_neg (fun e => hx e.symm)]

/-! ### The lists of items -/
/-- The elements of a list that another one has, with their places from p on and their numbers. -/
def itemsOf (a c : List Str) (p : Nat) (l : List Str) : List (Nat × Nat) := ((en p l).filter fun q => decide (q.2 ∈ c)).map fun q => (q.1, num a q.2)
theorem itemsOf_nil (a c : List Str) (p : Nat) : itemsOf a c p [] = [] := rfl
theorem itemsOf_snoc (a c : List Str) (p : Nat) (l : List Str) (x : Str) : itemsOf a c p (l ++ [x]) = itemsOf a c p l ++ (if x ∈ c then [(p + l.length, num a x)] else []) := by
  unfold itemsOf
  rw [en_snoc, List.filter_append, List.map_append]
  by_cases h : x ∈ c
  · simp [h]
  · simp [h]
theorem en_filter (c : List Str) (p : Nat) (l : List Str) : keys ((en p l).filter fun q => decide (q.2 ∈ c)) = l.filter fun s => decide (s ∈ c) := by
  rw [keys_filter (fun s => decide (s ∈ c)), keys_en]
theorem filter_congr_mem {P Q : Nat × Str → Bool} {l : List (Nat × Str)} (h : ∀ q ∈ l, P q = Q q) : l.filter P = l.filter Q := List.filter_congr h
theorem mem_keys_en {p : Nat} {l : List Str} {q : Nat × Str} (h : q ∈ en p l) : q.2 ∈ l := by
  have : q.2 ∈ keys (en p l) := List.mem_map.2 ⟨q, h, rfl⟩
  rw [keys_en] at this
  exact this
/-- The common part of what both lists have is that of the lists. -/
theorem pk_items (a b : List Str) (p : Nat) : pk (itemsOf a b p a) (itemsOf a a p b) = pk (en p a) (en p b) := by
  have e1 : itemsOf a b p a = ren (num a) ((en p a).filter fun q => decide (q.2 ∈ a) && decide (q.2 ∈ b)) := by
    unfold itemsOf ren
    congr 1
    exact filter_congr_mem (fun q hq => by simp [mem_keys_en hq])
  have e2 : itemsOf a a p b = ren (num a) ((en p b).filter fun q => decide (q.2 ∈ a) && decide (q.2 ∈ b)) := by
    unfold itemsOf ren
    congr 1
    exact filter_congr_mem (fun q hq => by simp [mem_keys_en hq])
  rw [e1, e2, pk_ren]
  · exact pk_filter (fun s => decide (s ∈ a) && decide (s ∈ b)) (en p a) (en p b) (fun x hx hy => by rw [keys_en] at hx hy; simp [hx, hy])
  · intro x hx y hy h
    have hk := fun l => keys_filter (fun s => decide (s ∈ a) && decide (s ∈ b)) (en p l)
    rw [hk] at hx hy
    have hxa : x ∈ a := by have := (List.mem_filter.1 hx).2; simp at this; exact this.1
    have hya : y ∈ a := by have := (List.mem_filter.1 hy).2; simp at this; exact this.1
    exact num_inj hxa hya h
/-- Which numbers have been found. -/
def fnd (a l : List Str) (j : Nat) : Bool := l.any fun s => decide (s ∈ a) && decide (num a s = j)
theorem fnd_snoc (a l : List Str) (x : Str) (j : Nat) : fnd a (l ++ [x]) j = (fnd a l j || (decide (x ∈ a) && decide (num a x = j))) := by simp [fnd]
theorem fnd_all {a l : List Str} {s : Str} (hs : s ∈ a) : fnd a l (num a s) = decide (s ∈ l) := by
  unfold fnd
  rw [Bool.eq_iff_iff, List.any_eq_true, decide_eq_true_iff]
  constructor
  · rintro ⟨t, ht, h⟩
    simp at h
    rw [← num_inj h.1 hs h.2]
    exact ht
  · intro h
    exact ⟨s, h, by simp [hs]⟩
theorem itemsOf_length (a c : List Str) (p : Nat) (l : List Str) : (itemsOf a c p l).length ≤ l.length := by
  unfold itemsOf
  rw [List.length_map]
  exact Nat.le_trans (List.length_filter_le _ _) (by rw [en_length]; exact Nat.le_refl _)
theorem en_place : ∀ (p : Nat) (l : List Str) (q : Nat × Str), q ∈ en p l → p ≤ q.1 ∧ q.1 < p + l.length
  | _, [], _, h => by cases h
  | p, x :: l, q, h => by
    rw [en] at h
    rcases List.mem_cons.1 h with rfl | h
    · simp
    · have := en_place (p + 1) l q h
      simp only [List.length_cons]
      omega
theorem itemsOf_mem {a c : List Str} {p : Nat} {l : List Str} {q : Nat × Nat} (h : q ∈ itemsOf a c p l) (hc : ∀ s, s ∈ l → s ∈ c → s ∈ a) : q.1 < p + l.length ∧ q.2 < a.length := by
  unfold itemsOf at h
  obtain ⟨r, hr, rfl⟩ := List.mem_map.1 h
  obtain ⟨h1, h2⟩ := List.mem_filter.1 hr
  have h3 := en_place p l r h1
  have h4 := mem_keys_en h1
  simp at h2
  exact ⟨h3.2, (num_get r.2 _ a rfl (hc _ h4 h2)).1⟩
end Go.Proofs.Ytcnjomkddbbopaa
