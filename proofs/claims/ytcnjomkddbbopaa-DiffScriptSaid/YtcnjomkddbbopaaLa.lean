/- Plain facts on longest common subsequences (made ahead of stage 5; nothing of a program). -/
import Derived.Test.YtcnjomkddbbopaaProg
namespace Go.Proofs.Ytcnjomkddbbopaa
set_option linter.unusedVariables false
section
variable {α : Type}
theorem tail_sub {x y : α} {c a : List α} (h : (y :: c).Sublist (x :: a)) : c.Sublist a := by
  cases h with
  | cons _ h => exact (List.sublist_cons_self y c).trans h
  | cons_cons _ h => exact h
/-- Two subsequences of one list have many elements in common. -/
theorem sub_meet : ∀ (b u v : List α), u.Sublist b → v.Sublist b → ∃ w : List α, w.Sublist u ∧ w.Sublist v ∧ u.length + v.length ≤ b.length + w.length
  | [], u, v, hu, hv => by
    rw [List.sublist_nil.1 hu, List.sublist_nil.1 hv]
    exact ⟨[], List.Sublist.refl _, List.Sublist.refl _, by simp⟩
  | x :: b, u, v, hu, hv => by
    cases hu with
    | cons _ hu =>
      cases hv with
      | cons _ hv =>
        obtain ⟨w, p, q, r⟩ := sub_meet b u v hu hv
        exact ⟨w, p, q, by simp only [List.length_cons]; omega⟩
      | cons_cons _ hv =>
        obtain ⟨w, p, q, r⟩ := sub_meet b u _ hu hv
        exact ⟨w, p, q.cons _, by simp only [List.length_cons]; omega⟩
    | cons_cons _ hu =>
      cases hv with
      | cons _ hv =>
        obtain ⟨w, p, q, r⟩ := sub_meet b _ v hu hv
        exact ⟨w, p.cons _, q, by simp only [List.length_cons]; omega⟩
      | cons_cons _ hv =>
        obtain ⟨w, p, q, r⟩ := sub_meet b _ _ hu hv
        exact ⟨x :: w, p.cons_cons _, q.cons_cons _, by simp only [List.length_cons]; omega⟩
theorem drop_sub {a : List α} {x : Nat} {u : α} (h : a[x]? = some u) {c : List α} (hc : c.Sublist (a.drop (x + 1))) : (u :: c).Sublist a := by
  have hx : x < a.length := (List.getElem?_eq_some_iff.1 h).1
  have e : a.drop x = u :: a.drop (x + 1) := by
    rw [List.drop_eq_getElem_cons hx]
    congr 1
    exact (List.getElem?_eq_some_iff.1 h).2
  have h1 : (u :: c).Sublist (a.drop x) := by rw [e]; exact hc.cons_cons _
  exact h1.trans (List.drop_sublist _ _)
theorem sub_first : ∀ {a c : List α} {u : α}, (u :: c).Sublist a → ∃ x, a[x]? = some u ∧ c.Sublist (a.drop (x + 1))
  | [], c, u, h => by cases h
  | z :: a, c, u, h => by
    cases h with
    | cons _ h =>
      obtain ⟨x, h1, h2⟩ := sub_first h
      exact ⟨x + 1, h1, h2⟩
    | cons_cons _ h => exact ⟨0, rfl, h⟩
variable [DecidableEq α]

/-- The length of a longest common subsequence, by the ends of two lists. -/
def lcs : List α → List α → Nat
  | [], _ => 0
  | _ :: _, [] => 0
  | x :: a, y :: b => if x = y then max (max (lcs a (y :: b)) (lcs (x :: a) b)) (1 + lcs a b) else max (lcs a (y :: b)) (lcs (x :: a) b)
termination_by a b => a.length + b.length
theorem lcs_nil_left (b : List α) : lcs [] b = 0 := by rw [lcs]
theorem lcs_nil_right (a : List α) : lcs a [] = 0 := by cases a <;> rw [lcs]
theorem lcs_cons (x y : α) (a b : List α) : lcs (x :: a) (y :: b) = if x = y then max (max (lcs a (y :: b)) (lcs (x :: a) b)) (1 + lcs a b) else max (lcs a (y :: b)) (lcs (x :: a) b) := by rw [lcs]

/-- No common subsequence is longer. -/
theorem lcs_most : ∀ (a b c : List α), c.Sublist a → c.Sublist b → c.length ≤ lcs a b := by
  intro a b
  induction a, b using lcs.induct with
  | case1 b => intro c h _; rw [List.sublist_nil.1 h]; simp
  | case2 x a => intro c _ h; rw [List.sublist_nil.1 h]; simp
  | case3 a y b ih1 ih2 ih3 =>
    intro c h1 h2
    rw [lcs_cons, if_pos rfl]
    cases c with
    | nil => simp
    | cons z c =>
      have := ih3 c (tail_sub h1) (tail_sub h2)
      simp only [List.length_cons]
      omega
  | case4 x a y b hne ih1 ih2 =>
    intro c h1 h2
    rw [lcs_cons, if_neg hne]
    cases h1 with
    | cons _ h1 => have := ih1 c h1 h2; omega
    | cons_cons _ h1 =>
      cases h2 with
      | cons _ h2 => have := ih2 _ (h1.cons_cons _) h2; omega
      | cons_cons _ h2 => exact absurd rfl hne
/-- One is that long. -/
theorem lcs_some : ∀ (a b : List α), ∃ c : List α, c.Sublist a ∧ c.Sublist b ∧ c.length = lcs a b := by
  intro a b
  induction a, b using lcs.induct with
  | case1 b => exact ⟨[], List.nil_sublist _, List.nil_sublist _, by rw [lcs_nil_left]; rfl⟩
  | case2 x a => exact ⟨[], List.nil_sublist _, List.nil_sublist _, by rw [lcs_nil_right]; rfl⟩
  | case3 a y b ih1 ih2 ih3 =>
    obtain ⟨c1, p1, q1, r1⟩ := ih1
    obtain ⟨c2, p2, q2, r2⟩ := ih2
    obtain ⟨c3, p3, q3, r3⟩ := ih3
    rw [lcs_cons, if_pos rfl]
    rcases Nat.le_total (max (lcs a (y :: b)) (lcs (y :: a) b)) (1 + lcs a b) with h | h
    · exact ⟨y :: c3, p3.cons_cons _, q3.cons_cons _, by rw [Nat.max_eq_right h, List.length_cons, r3, Nat.add_comm]⟩
    · rw [Nat.max_eq_left h]
      rcases Nat.le_total (lcs a (y :: b)) (lcs (y :: a) b) with h2 | h2
      · exact ⟨c2, p2, q2.cons _, by rw [Nat.max_eq_right h2, r2]⟩
      · exact ⟨c1, p1.cons _, q1, by rw [Nat.max_eq_left h2, r1]⟩
  | case4 x a y b hne ih1 ih2 =>
    obtain ⟨c1, p1, q1, r1⟩ := ih1
    obtain ⟨c2, p2, q2, r2⟩ := ih2
    rw [lcs_cons, if_neg hne]
    rcases Nat.le_total (lcs a (y :: b)) (lcs (x :: a) b) with h2 | h2
    · exact ⟨c2, p2, q2.cons _, by rw [Nat.max_eq_right h2, r2]⟩
    · exact ⟨c1, p1.cons _, q1, by rw [Nat.max_eq_left h2, r1]⟩
theorem lcs_comm (a b : List α) : lcs a b = lcs b a := by
  obtain ⟨c, p, q, r⟩ := lcs_some a b
  obtain ⟨c', p', q', r'⟩ := lcs_some b a
  have h1 := lcs_most b a c q p
  have h2 := lcs_most a b c' q' p'
  omega
theorem lcs_self (a : List α) : lcs a a = a.length := by
  obtain ⟨c, p, q, r⟩ := lcs_some a a
  have h1 := lcs_most a a a (List.Sublist.refl _) (List.Sublist.refl _)
  have h2 := p.length_le
  omega
theorem lcs_le_left (a b : List α) : lcs a b ≤ a.length := by
  obtain ⟨c, p, q, r⟩ := lcs_some a b
  have := p.length_le
  omega
theorem lcs_le_right (a b : List α) : lcs a b ≤ b.length := by rw [lcs_comm]; exact lcs_le_left b a
theorem lcs_full {a b : List α} (h : a.length + b.length = 2 * lcs a b) : a = b := by
  obtain ⟨c, p, q, r⟩ := lcs_some a b
  have h1 := lcs_le_left a b
  have h2 := lcs_le_right a b
  exact (p.eq_of_length (by omega)).symm.trans (q.eq_of_length (by omega))
theorem lcs_third (a b c : List α) : lcs a b + lcs b c ≤ b.length + lcs a c := by
  obtain ⟨u, p, q, r⟩ := lcs_some a b
  obtain ⟨v, p', q', r'⟩ := lcs_some b c
  obtain ⟨w, s, t, h⟩ := sub_meet b u v q p'
  have := lcs_most a c w (s.trans p) (t.trans q')
  omega
theorem lcs_head (x : α) (a b : List α) : lcs (x :: a) (x :: b) = 1 + lcs a b := by
  obtain ⟨c, p, q, r⟩ := lcs_some (x :: a) (x :: b)
  obtain ⟨c', p', q', r'⟩ := lcs_some a b
  have h1 := lcs_most (x :: a) (x :: b) (x :: c') (p'.cons_cons _) (q'.cons_cons _)
  cases c with
  | nil => simp only [List.length_nil, List.length_cons] at r h1; omega
  | cons z c =>
    have h2 := lcs_most a b c (tail_sub p) (tail_sub q)
    simp only [List.length_cons] at r h1
    omega
theorem lcs_reverse (a b : List α) : lcs a.reverse b.reverse = lcs a b := by
  have h : ∀ a b : List α, lcs a b ≤ lcs a.reverse b.reverse := fun a b => by
    obtain ⟨c, p, q, r⟩ := lcs_some a b
    have := lcs_most _ _ c.reverse (List.reverse_sublist.2 p) (List.reverse_sublist.2 q)
    rw [List.length_reverse] at this
    omega
  have h1 := h a b
  have h2 := h a.reverse b.reverse
  rw [List.reverse_reverse, List.reverse_reverse] at h2
  omega
theorem lcs_front : ∀ (p a b : List α), lcs (p ++ a) (p ++ b) = p.length + lcs a b
  | [], a, b => by simp
  | x :: p, a, b => by
    rw [List.cons_append, List.cons_append, lcs_head, lcs_front p a b, List.length_cons]
    omega
theorem lcs_back (a b s : List α) : lcs (a ++ s) (b ++ s) = s.length + lcs a b := by
  rw [← lcs_reverse, List.reverse_append, List.reverse_append, lcs_front, List.length_reverse, lcs_reverse]

/-! ### The first pair of a longest common subsequence -/
/-- A pair that may be first, seen from the beginnings of two lists. -/
def Opens (a b : List α) (x y : Nat) : Prop := ∃ u : α, a[x]? = some u ∧ b[y]? = some u ∧ 1 + lcs (a.drop (x + 1)) (b.drop (y + 1)) = lcs a b
theorem lcs_pair {a b : List α} {x y : Nat} {u : α} (h1 : a[x]? = some u) (h2 : b[y]? = some u) : 1 + lcs (a.drop (x + 1)) (b.drop (y + 1)) ≤ lcs a b := by
  obtain ⟨c, p, q, r⟩ := lcs_some (a.drop (x + 1)) (b.drop (y + 1))
  have := lcs_most a b (u :: c) (drop_sub h1 p) (drop_sub h2 q)
  simp only [List.length_cons] at this
  omega
theorem opens_some {a b : List α} (h : 0 < lcs a b) : ∃ x y, Opens a b x y := by
  obtain ⟨c, p, q, r⟩ := lcs_some a b
  cases c with
  | nil => simp at r; omega
  | cons u c =>
    obtain ⟨x, h1, h2⟩ := sub_first p
    obtain ⟨y, h3, h4⟩ := sub_first q
    refine ⟨x, y, u, h1, h3, ?_⟩
    have h5 := lcs_pair h1 h3
    have h6 := lcs_most _ _ c h2 h4
    simp only [List.length_cons] at r
    omega
theorem opens_pos {a b : List α} {x y : Nat} (h : Opens a b x y) : 0 < lcs a b := by
  obtain ⟨u, _, _, h⟩ := h
  omega
end
end Go.Proofs.Ytcnjomkddbbopaa
