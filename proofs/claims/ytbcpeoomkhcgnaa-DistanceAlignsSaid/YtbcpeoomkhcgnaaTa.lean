/- Plain facts on the edit distance of lists: alignments, the table over beginnings, the way back through the table, the cost of steps. -/
namespace Go.Proofs.Ytbcpeoomkhcgnaa
set_option linter.unusedVariables false
abbrev Str := List UInt8
section
variable {α : Type} [DecidableEq α]
def prc (x y : α) : Nat := if x = y then 0 else 1
theorem prc_self (x : α) : prc x x = 0 := if_pos rfl
theorem prc_le (x y : α) : prc x y ≤ 1 := by unfold prc; split <;> omega
theorem prc_comm (x y : α) : prc x y = prc y x := by unfold prc; by_cases h : x = y <;> simp [h, eq_comm]
theorem prc_zero {x y : α} (h : prc x y = 0) : x = y := by unfold prc at h; split at h <;> first | assumption | omega
def levRow (x : α) (f : List α → Nat) (n : Nat) : List α → Nat
  | [] => n
  | y :: b => min (f b + prc x y) (min (f (y :: b) + 1) (levRow x f n b + 1))
def lev : List α → List α → Nat
  | [] => List.length
  | x :: a => levRow x (lev a) (a.length + 1)
theorem lev_nil (b : List α) : lev [] b = b.length := rfl
theorem lev_cons_nil (x : α) (a : List α) : lev (x :: a) [] = a.length + 1 := rfl
theorem lev_cons (x y : α) (a b : List α) : lev (x :: a) (y :: b) = min (lev a b + prc x y) (min (lev a (y :: b) + 1) (lev (x :: a) b + 1)) := rfl
theorem lev_right_nil (a : List α) : lev a [] = a.length := by cases a <;> rfl

/-! ### Alignments -/
inductive Al : List α → List α → Nat → Prop
  | nil : Al [] [] 0
  | del (x : α) {a b : List α} {n : Nat} : Al a b n → Al (x :: a) b (n + 1)
  | ins (y : α) {a b : List α} {n : Nat} : Al a b n → Al a (y :: b) (n + 1)
  | sub (x y : α) {a b : List α} {n : Nat} : Al a b n → Al (x :: a) (y :: b) (n + prc x y)
theorem al_ins : ∀ b : List α, Al [] b b.length
  | [] => .nil
  | y :: b => .ins y (al_ins b)
theorem al_del : ∀ a : List α, Al a [] a.length
  | [] => .nil
  | x :: a => .del x (al_del a)
theorem al_self : ∀ a : List α, Al a a 0
  | [] => .nil
  | x :: a => by have := Al.sub x x (al_self a); rwa [prc_self] at this
theorem lev_al : ∀ a b : List α, Al a b (lev a b)
  | [], b => al_ins b
  | x :: a, [] => al_del (x :: a)
  | x :: a, y :: b => by
    rw [lev_cons]
    have h1 := Al.sub x y (lev_al a b)
    have h2 := Al.del x (lev_al a (y :: b))
    have h3 := Al.ins y (lev_al (x :: a) b)
    rcases Nat.le_total (lev a b + prc x y) (min (lev a (y :: b) + 1) (lev (x :: a) b + 1)) with h | h
    · rw [Nat.min_eq_left h]; exact h1
    · rw [Nat.min_eq_right h]
      rcases Nat.le_total (lev a (y :: b) + 1) (lev (x :: a) b + 1) with h | h
      · rw [Nat.min_eq_left h]; exact h2
      · rw [Nat.min_eq_right h]; exact h3
theorem al_le {a b : List α} {n : Nat} (h : Al a b n) : lev a b ≤ n := by
  induction h with
  | nil => exact Nat.le_refl _
  | @del x a b n _ ih =>
    cases b with
    | nil => rw [lev_right_nil] at *; simpa using ih
    | cons y b => rw [lev_cons]; omega
  | @ins y a b n _ ih =>
    cases a with
    | nil => rw [lev_nil] at *; simpa using ih
    | cons x a => rw [lev_cons]; omega
  | @sub x y a b n _ ih => rw [lev_cons]; omega
theorem al_comm {a b : List α} {n : Nat} (h : Al a b n) : Al b a n := by
  induction h with
  | nil => exact .nil
  | del x _ ih => exact .ins x ih
  | ins y _ ih => exact .del y ih
  | sub x y _ ih => rw [prc_comm]; exact .sub y x ih
theorem al_append {a b c d : List α} {n m : Nat} (h : Al a b n) (k : Al c d m) : Al (a ++ c) (b ++ d) (n + m) := by
  induction h with
  | nil => rw [Nat.zero_add]; exact k
  | del x _ ih => rw [Nat.add_right_comm]; exact .del x ih
  | ins y _ ih => rw [Nat.add_right_comm]; exact .ins y ih
  | sub x y _ ih => rw [Nat.add_right_comm]; exact .sub x y ih
theorem al_reverse {a b : List α} {n : Nat} (h : Al a b n) : Al a.reverse b.reverse n := by
  induction h with
  | nil => exact .nil
  | del x _ ih => have := al_append ih (Al.del x Al.nil); simpa using this
  | ins y _ ih => have := al_append ih (Al.ins y Al.nil); simpa using this
  | sub x y _ ih => have := al_append ih (Al.sub x y Al.nil); simpa using this
theorem al_trans : ∀ (N : Nat) {a b c : List α} {n m : Nat}, a.length + b.length + c.length ≤ N → Al a b n → Al b c m → ∃ k, k ≤ n + m ∧ Al a c k
  | N, a, b, c, n, m, hN, h, k => by
    cases h with
    | nil => exact ⟨m, by omega, k⟩
    | @del x a b n h =>
      match N with
      | 0 => simp at hN
      | N + 1 =>
        obtain ⟨q, h1, h2⟩ := al_trans N (by simp only [List.length_cons] at hN; omega) h k
        exact ⟨q + 1, by omega, .del x h2⟩
    | @ins y _ b n h =>
      match N with
      | 0 => simp at hN
      | N + 1 =>
        cases k with
        | @del _ _ _ m k =>
          obtain ⟨q, h1, h2⟩ := al_trans N (by simp only [List.length_cons] at hN; omega) h k
          exact ⟨q, by omega, h2⟩
        | @ins z _ c m k =>
          obtain ⟨q, h1, h2⟩ := al_trans N (by simp only [List.length_cons] at hN ⊢; omega) (.ins y h) k
          exact ⟨q + 1, by omega, .ins z h2⟩
        | @sub _ z _ c m k =>
          obtain ⟨q, h1, h2⟩ := al_trans N (by simp only [List.length_cons] at hN; omega) h k
          exact ⟨q + 1, by omega, .ins z h2⟩
    | @sub x y a b n h =>
      match N with
      | 0 => simp at hN
      | N + 1 =>
        cases k with
        | @del _ _ _ m k =>
          obtain ⟨q, h1, h2⟩ := al_trans N (by simp only [List.length_cons] at hN; omega) h k
          exact ⟨q + 1, by omega, .del x h2⟩
        | @ins z _ c m k =>
          obtain ⟨q, h1, h2⟩ := al_trans N (by simp only [List.length_cons] at hN ⊢; omega) (.sub x y h) k
          exact ⟨q + 1, by omega, .ins z h2⟩
        | @sub _ z _ c m k =>
          obtain ⟨q, h1, h2⟩ := al_trans N (by simp only [List.length_cons] at hN; omega) h k
          refine ⟨q + prc x z, ?_, .sub x z h2⟩
          have : prc x z ≤ prc x y + prc y z := by
            unfold prc
            by_cases e1 : x = y
            · subst e1; rw [if_pos rfl]; omega
            · rw [if_neg e1]; split <;> omega
          omega
theorem al_zero {a b : List α} {n : Nat} (h : Al a b n) : n = 0 → a = b := by
  induction h with
  | nil => intro; rfl
  | del x _ _ => intro h; omega
  | ins y _ _ => intro h; omega
  | sub x y _ ih =>
    intro h
    rw [ih (by omega), prc_zero (x := x) (y := y) (by omega)]
theorem al_bounds {a b : List α} {n : Nat} (h : Al a b n) : a.length ≤ b.length + n ∧ b.length ≤ a.length + n := by
  induction h with
  | nil => simp
  | del x _ ih => simp only [List.length_cons]; omega
  | ins y _ ih => simp only [List.length_cons]; omega
  | sub x y _ ih => simp only [List.length_cons]; omega

/-! ### The distance -/
theorem lev_comm (a b : List α) : lev a b = lev b a := Nat.le_antisymm (al_le (al_comm (lev_al b a))) (al_le (al_comm (lev_al a b)))
theorem lev_reverse (a b : List α) : lev a.reverse b.reverse = lev a b := by
  refine Nat.le_antisymm (al_le (al_reverse (lev_al a b))) (al_le ?_)
  have := al_reverse (lev_al a.reverse b.reverse)
  rwa [List.reverse_reverse, List.reverse_reverse] at this
theorem lev_self (a : List α) : lev a a = 0 := Nat.le_zero.1 (al_le (al_self a))
theorem lev_zero (a b : List α) : lev a b = 0 ↔ a = b := ⟨fun h => al_zero (lev_al a b) h, fun h => by rw [h, lev_self]⟩
theorem lev_third (a b c : List α) : lev a c ≤ lev a b + lev b c := by
  obtain ⟨k, h1, h2⟩ := al_trans _ (Nat.le_refl _) (lev_al a b) (lev_al b c)
  exact Nat.le_trans (al_le h2) h1
theorem lev_low (a b : List α) : a.length ≤ b.length + lev a b ∧ b.length ≤ a.length + lev a b := al_bounds (lev_al a b)
theorem lev_high : ∀ a b : List α, lev a b ≤ max a.length b.length
  | [], b => by rw [lev_nil]; exact Nat.le_max_right _ _
  | x :: a, [] => by rw [lev_right_nil]; exact Nat.le_max_left _ _
  | x :: a, y :: b => by
    have := lev_high a b
    have h := prc_le x y
    rw [lev_cons]
    simp only [List.length_cons]
    omega
theorem lev_more (a b : List α) (y : α) : lev a b ≤ lev a (y :: b) + 1 := by
  have h := lev_third a (y :: b) b
  have h2 : lev (y :: b) b ≤ 1 := al_le (.del y (al_self b))
  omega
theorem lev_head (x : α) (a b : List α) : lev (x :: a) (x :: b) = lev a b := by
  have h1 := lev_more a b x
  have h2 := lev_more b a x
  rw [lev_comm b a, lev_comm b (x :: a)] at h2
  rw [lev_cons, prc_self]
  omega
theorem lev_front (m a b : List α) : lev (m ++ a) (m ++ b) = lev a b := by
  induction m with
  | nil => rfl
  | cons x m ih => rw [List.cons_append, List.cons_append, lev_head, ih]
theorem lev_back (m a b : List α) : lev (a ++ m) (b ++ m) = lev a b := by
  rw [← lev_reverse, List.reverse_append, List.reverse_append, lev_front, lev_reverse]
theorem lev_snoc (a b : List α) (x : α) : lev (a ++ [x]) b ≤ lev a b + 1 ∧ lev a b ≤ lev (a ++ [x]) b + 1 := by
  have h : lev (a ++ [x]) a ≤ 1 := by
    have := al_append (al_self a) (Al.del x Al.nil)
    rw [List.append_nil] at this
    exact al_le this
  have h1 := lev_third (a ++ [x]) a b
  have h2 := lev_third a (a ++ [x]) b
  rw [lev_comm a (a ++ [x])] at h2
  omega

/-! ### The table -/
/-- The distance of the first i elements of a and the first j of b. -/
def D (a b : List α) (i j : Nat) : Nat := lev (a.take i).reverse (b.take j).reverse
theorem take_next {β : Type} {l : List β} {k : Nat} (h : k < l.length) : l.take (k + 1) = l.take k ++ [l[k]] := List.take_succ_eq_append_getElem h
theorem D_zero {a b : List α} {j : Nat} (h : j ≤ b.length) : D a b 0 j = j := by
  unfold D
  rw [List.take_zero, List.reverse_nil, lev_nil, List.length_reverse, List.length_take]; omega
theorem D_right {a b : List α} {i : Nat} (h : i ≤ a.length) : D a b i 0 = i := by
  unfold D
  rw [List.take_zero, List.reverse_nil, lev_right_nil, List.length_reverse, List.length_take]; omega
theorem D_step {a b : List α} {i j : Nat} (hi : i < a.length) (hj : j < b.length) : D a b (i + 1) (j + 1) = min (D a b i j + prc a[i] b[j]) (min (D a b i (j + 1) + 1) (D a b (i + 1) j + 1)) := by
  unfold D
  rw [take_next hi, take_next hj, List.reverse_append, List.reverse_append]
  exact lev_cons _ _ _ _
theorem D_end (a b : List α) : D a b a.length b.length = lev a b := by unfold D; rw [List.take_length, List.take_length, lev_reverse]
theorem D_le (a b : List α) (i j : Nat) : D a b i j ≤ i + j := by
  have := lev_high (a.take i).reverse (b.take j).reverse
  unfold D
  rw [List.length_reverse, List.length_reverse, List.length_take, List.length_take] at this
  omega
theorem D_same {a b : List α} {i j : Nat} (hi : i < a.length) (hj : j < b.length) (h : a[i] = b[j]) : D a b (i + 1) (j + 1) = D a b i j := by
  unfold D
  rw [take_next hi, take_next hj, List.reverse_append, List.reverse_append, h]
  exact lev_head _ _ _
theorem D_other {a b : List α} {i j : Nat} (hi : i < a.length) (hj : j < b.length) (h : a[i] ≠ b[j]) : D a b (i + 1) (j + 1) = 1 + min (D a b i j) (min (D a b i (j + 1)) (D a b (i + 1) j)) := by
  rw [D_step hi hj]
  unfold prc
  rw [if_neg h]
  omega

/-! ### The way back -/
/-- May the last step pair the two last elements? -/
def Pair (a b : List α) (i j : Nat) : Prop := ∃ (h : 0 < i ∧ 0 < j ∧ i ≤ a.length ∧ j ≤ b.length), D a b i j = D a b (i - 1) (j - 1) + prc (a[i - 1]'(by omega)) (b[j - 1]'(by omega))
instance (a b : List α) (i j : Nat) : Decidable (Pair a b i j) := by unfold Pair; infer_instance
def tr (a b : List α) (i j : Nat) : List (Int × Int) :=
  if Pair a b i j ∧ 0 < i then ((i : Int) - 1, (j : Int) - 1) :: tr a b (i - 1) (j - 1) else
  if 0 < i ∧ D a b i j = D a b (i - 1) j + 1 then ((i : Int) - 1, -1) :: tr a b (i - 1) j else
  if 0 < j then (-1, (j : Int) - 1) :: tr a b i (j - 1) else []
termination_by i + j
theorem tr_zero (a b : List α) : tr a b 0 0 = [] := by rw [tr, if_neg (by omega), if_neg (by omega), if_neg (by omega)]
theorem tr_pair {a b : List α} {i j : Nat} (hi : i < a.length) (hj : j < b.length) (h : D a b (i + 1) (j + 1) = D a b i j + prc a[i] b[j]) : tr a b (i + 1) (j + 1) = ((i : Int), (j : Int)) :: tr a b i j := by
  rw [tr, if_pos ⟨⟨⟨by omega, by omega, by omega, by omega⟩, by simpa using h⟩, by omega⟩]
  simp
theorem tr_del {a b : List α} {i j : Nat} (h1 : ∀ q, j = q + 1 → ∀ (hi : i < a.length) (hj : q < b.length), D a b (i + 1) (q + 1) ≠ D a b i q + prc a[i] b[q]) (h : D a b (i + 1) j = D a b i j + 1) : tr a b (i + 1) j = ((i : Int), -1) :: tr a b i j := by
  rw [tr, if_neg, if_pos ⟨by omega, by simpa using h⟩]
  · simp
  · rintro ⟨⟨⟨q1, q2, q3, q4⟩, q5⟩, _⟩
    obtain ⟨q, rfl⟩ : ∃ q, j = q + 1 := ⟨j - 1, by omega⟩
    exact h1 q rfl (by omega) (by omega) (by simpa using q5)
theorem tr_ins {a b : List α} {i j : Nat} (h1 : ∀ q, i = q + 1 → ∀ (hi : q < a.length) (hj : j < b.length), D a b (q + 1) (j + 1) ≠ D a b q j + prc a[q] b[j]) (h2 : ∀ q, i = q + 1 → D a b (q + 1) (j + 1) ≠ D a b q (j + 1) + 1) : tr a b i (j + 1) = (-1, (j : Int)) :: tr a b i j := by
  rw [tr, if_neg, if_neg, if_pos (by omega)]
  · simp
  · rintro ⟨q1, q2⟩
    obtain ⟨q, rfl⟩ : ∃ q, i = q + 1 := ⟨i - 1, by omega⟩
    exact h2 q rfl (by simpa using q2)
  · rintro ⟨⟨⟨q1, q2, q3, q4⟩, q5⟩, _⟩
    obtain ⟨q, rfl⟩ : ∃ q, i = q + 1 := ⟨i - 1, by omega⟩
    exact h1 q rfl (by omega) (by omega) (by simpa using q5)
/-- The ways of one step back. -/
theorem tr_cases {a b : List α} {i j : Nat} (hi : i ≤ a.length) (hj : j ≤ b.length) (h0 : 0 < i + j) :
    (∃ p q, i = p + 1 ∧ j = q + 1 ∧ ∃ (hp : p < a.length) (hq : q < b.length), D a b (p + 1) (q + 1) = D a b p q + prc a[p] b[q]) ∨
    (∃ p, i = p + 1 ∧ p < a.length ∧ (∀ q, j = q + 1 → ∀ (hp : p < a.length) (hq : q < b.length), D a b (p + 1) (q + 1) ≠ D a b p q + prc a[p] b[q]) ∧ D a b (p + 1) j = D a b p j + 1) ∨
    (∃ q, j = q + 1 ∧ q < b.length ∧ (∀ p, i = p + 1 → ∀ (hp : p < a.length) (hq : q < b.length), D a b (p + 1) (q + 1) ≠ D a b p q + prc a[p] b[q]) ∧ (∀ p, i = p + 1 → D a b (p + 1) (q + 1) ≠ D a b p (q + 1) + 1) ∧ D a b i (q + 1) = D a b i q + 1) := by
  rcases i with _ | p
  · obtain ⟨q, rfl⟩ : ∃ q, j = q + 1 := ⟨j - 1, by omega⟩
    refine .inr (.inr ⟨q, rfl, by omega, fun p h => by omega, fun p h => by omega, ?_⟩)
    rw [D_zero hj, D_zero (by omega)]
  · rcases j with _ | q
    · refine .inr (.inl ⟨p, rfl, by omega, fun q h => by omega, ?_⟩)
      rw [D_right hi, D_right (by omega)]
    · have hs := D_step (show p < a.length by omega) (show q < b.length by omega)
      by_cases h1 : D a b (p + 1) (q + 1) = D a b p q + prc (a[p]'(by omega)) (b[q]'(by omega))
      · exact .inl ⟨p, q, rfl, rfl, by omega, by omega, h1⟩
      · by_cases h2 : D a b (p + 1) (q + 1) = D a b p (q + 1) + 1
        · exact .inr (.inl ⟨p, rfl, by omega, fun q' e _ _ => by obtain rfl : q = q' := by omega
                                                                 exact h1, h2⟩)
        · refine .inr (.inr ⟨q, rfl, by omega, fun p' e _ _ => ?_, fun p' e => ?_, ?_⟩)
          · obtain rfl : p = p' := by omega
            exact h1
          · obtain rfl : p = p' := by omega
            exact h2
          · have h3 := D_step (show p < a.length by omega) (show q < b.length by omega)
            omega
theorem tr_length {a b : List α} : ∀ (n i j : Nat), i + j ≤ n → (tr a b i j).length ≤ i + j := by
  intro n
  induction n with
  | zero =>
    intro i j h
    obtain rfl : i = 0 := by omega
    obtain rfl : j = 0 := by omega
    rw [tr_zero]; simp
  | succ n ih =>
    intro i j h
    rw [tr]
    split
    · rename_i hp
      obtain ⟨⟨hq, _⟩, h0⟩ := hp
      have := ih (i - 1) (j - 1) (by omega)
      rw [List.length_cons]; omega
    · split
      · have := ih (i - 1) j (by omega)
        rw [List.length_cons]; omega
      · split
        · have := ih i (j - 1) (by omega)
          rw [List.length_cons]; omega
        · simp

/-! ### The cost of steps -/
def cst (a b : List α) : List (Int × Int) → Nat → Nat → Nat → Option Nat
  | [], i, k, n => if i = a.length ∧ k = b.length then some n else none
  | (p, q) :: l, i, k, n =>
    if h : (p = i ∧ i < a.length) ∧ q = k ∧ k < b.length then cst a b l (i + 1) (k + 1) (n + prc (a[i]'h.1.2) (b[k]'h.2.2)) else
    if (p = i ∧ i < a.length) ∧ q = -1 then cst a b l (i + 1) k (n + 1) else
    if (q = k ∧ k < b.length) ∧ p = -1 then cst a b l i (k + 1) (n + 1) else none
theorem cst_pair {a b : List α} {l : List (Int × Int)} {i k n : Nat} (hi : i < a.length) (hk : k < b.length) : cst a b (((i : Int), (k : Int)) :: l) i k n = cst a b l (i + 1) (k + 1) (n + prc a[i] b[k]) := by
  rw [cst, dif_pos ⟨⟨rfl, hi⟩, rfl, hk⟩]
theorem cst_del {a b : List α} {l : List (Int × Int)} {i k n : Nat} (hi : i < a.length) : cst a b (((i : Int), -1) :: l) i k n = cst a b l (i + 1) k (n + 1) := by
  rw [cst, dif_neg (by omega), if_pos ⟨⟨rfl, hi⟩, rfl⟩]
theorem cst_ins {a b : List α} {l : List (Int × Int)} {i k n : Nat} (hk : k < b.length) : cst a b ((-1, (k : Int)) :: l) i k n = cst a b l i (k + 1) (n + 1) := by
  rw [cst, dif_neg (by omega), if_neg (by omega), if_pos ⟨⟨rfl, hk⟩, rfl⟩]
theorem cst_none {a b : List α} {l : List (Int × Int)} {p q : Int} {i k n : Nat} (h1 : ¬ ((p = i ∧ i < a.length) ∧ q = k ∧ k < b.length)) (h2 : ¬ ((p = i ∧ i < a.length) ∧ q = -1)) (h3 : ¬ ((q = k ∧ k < b.length) ∧ p = -1)) : cst a b ((p, q) :: l) i k n = none := by
  rw [cst, dif_neg h1, if_neg h2, if_neg h3]
theorem cst_end {a b : List α} {n : Nat} : cst a b [] a.length b.length n = some n := if_pos ⟨rfl, rfl⟩
theorem cst_short {a b : List α} {i k n : Nat} (h : ¬ (i = a.length ∧ k = b.length)) : cst a b [] i k n = none := if_neg h
theorem cst_tr {a b : List α} : ∀ (n i j : Nat) (rest : List (Int × Int)), i + j ≤ n → i ≤ a.length → j ≤ b.length → cst a b ((tr a b i j).reverse ++ rest) 0 0 0 = cst a b rest i j (D a b i j) := by
  intro n
  induction n with
  | zero =>
    intro i j rest h _ hj
    obtain rfl : i = 0 := by omega
    obtain rfl : j = 0 := by omega
    rw [tr_zero, D_zero hj]; rfl
  | succ n ih =>
    intro i j rest h hi hj
    rcases Nat.eq_zero_or_pos (i + j) with h0 | h0
    · obtain rfl : i = 0 := by omega
      obtain rfl : j = 0 := by omega
      rw [tr_zero, D_zero hj]; rfl
    · rcases tr_cases hi hj h0 with ⟨p, q, rfl, rfl, hp, hq, e⟩ | ⟨p, rfl, hp, h1, e⟩ | ⟨q, rfl, hq, h1, h2, e⟩
      · rw [tr_pair hp hq e, List.reverse_cons, List.append_assoc, List.singleton_append, ih p q _ (by omega) (by omega) (by omega), cst_pair hp hq, e]
      · rw [tr_del h1 e, List.reverse_cons, List.append_assoc, List.singleton_append, ih p j _ (by omega) (by omega) (by omega), cst_del hp, e]
      · rw [tr_ins h1 h2, List.reverse_cons, List.append_assoc, List.singleton_append, ih i q _ (by omega) (by omega) (by omega), cst_ins hq, e]
/-- The cost of the alignment is the distance. -/
theorem cst_align (a b : List α) : cst a b (tr a b a.length b.length).reverse 0 0 0 = some (lev a b) := by
  have := cst_tr (a := a) (b := b) _ a.length b.length [] (Nat.le_refl _) (Nat.le_refl _) (Nat.le_refl _)
  rw [List.append_nil] at this
  rw [this, cst_end, D_end]
/-- No alignment has a lower cost. -/
theorem cst_least {a b : List α} : ∀ (l : List (Int × Int)) (i k n m : Nat), cst a b l i k n = some m → i ≤ a.length ∧ k ≤ b.length ∧ n + lev (a.drop i) (b.drop k) ≤ m
  | [], i, k, n, m, h => by
    rw [cst] at h
    split at h
    · rename_i e
      cases h
      rw [e.1, e.2, List.drop_length, List.drop_length]
      exact ⟨Nat.le_refl _, Nat.le_refl _, Nat.le_refl _⟩
    · cases h
  | (p, q) :: l, i, k, n, m, h => by
    rw [cst] at h
    split at h
    · rename_i e
      obtain ⟨h1, h2, h3⟩ := cst_least l _ _ _ _ h
      have h4 := al_le (Al.sub (a[i]'e.1.2) (b[k]'e.2.2) (lev_al (a.drop (i + 1)) (b.drop (k + 1))))
      rw [← List.drop_eq_getElem_cons e.1.2, ← List.drop_eq_getElem_cons e.2.2] at h4
      exact ⟨by omega, by omega, by omega⟩
    · split at h
      · rename_i _ e
        obtain ⟨h1, h2, h3⟩ := cst_least l _ _ _ _ h
        have h4 := al_le (Al.del (a[i]'e.1.2) (lev_al (a.drop (i + 1)) (b.drop k)))
        rw [← List.drop_eq_getElem_cons e.1.2] at h4
        exact ⟨by omega, by omega, by omega⟩
      · split at h
        · rename_i _ _ e
          obtain ⟨h1, h2, h3⟩ := cst_least l _ _ _ _ h
          have h4 := al_le (Al.ins (b[k]'e.1.2) (lev_al (a.drop i) (b.drop (k + 1))))
          rw [← List.drop_eq_getElem_cons e.1.2] at h4
          exact ⟨by omega, by omega, by omega⟩
        · cases h
theorem cst_low {a b : List α} {l : List (Int × Int)} {m : Nat} (h : cst a b l 0 0 0 = some m) : lev a b ≤ m := by
  have := cst_least l 0 0 0 m h
  simpa using this.2.2
end
end Go.Proofs.Ytbcpeoomkhcgnaa
