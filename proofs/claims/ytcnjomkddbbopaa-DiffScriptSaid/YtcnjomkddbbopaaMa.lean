/- Plain facts on the common part, walked along the first list: pk; what may be left out, and other names for elements. -/
import Derived.Test.YtcnjomkddbbopaaLb
namespace Go.Proofs.Ytcnjomkddbbopaa
set_option linter.unusedVariables false
section
variable {α β : Type}
def keys (b : List (Nat × α)) : List α := b.map (·.2)
def en : Nat → List α → List (Nat × α)
  | _, [] => []
  | i, x :: l => (i, x) :: en (i + 1) l
theorem keys_en : ∀ (i : Nat) (l : List α), keys (en i l) = l
  | _, [] => rfl
  | i, x :: l => by
    have := keys_en (i + 1) l
    unfold keys at this ⊢
    rw [en, List.map_cons, this]
theorem en_length : ∀ (i : Nat) (l : List α), (en i l).length = l.length
  | _, [] => rfl
  | i, x :: l => by rw [en, List.length_cons, List.length_cons, en_length]
theorem en_append : ∀ (i : Nat) (l r : List α), en i (l ++ r) = en i l ++ en (i + l.length) r
  | _, [], r => rfl
  | i, x :: l, r => by
    rw [List.cons_append, en, en, List.cons_append, en_append (i + 1) l r, List.length_cons]
    rw [show i + 1 + l.length = i + (l.length + 1) by omega]
theorem en_snoc (i : Nat) (l : List α) (x : α) : en i (l ++ [x]) = en i l ++ [(i + l.length, x)] := by rw [en_append]; rfl
theorem sub_filter {c a b : List α} {P : α → Bool} (h : ∀ x, x ∈ a → x ∈ b → P x = true) (h1 : c.Sublist a) (h2 : c.Sublist b) : c.Sublist (a.filter P) := by
  have : c.filter P = c := List.filter_eq_self.2 (fun x hx => h x (h1.subset hx) (h2.subset hx))
  rw [← this]
  exact h1.filter P
theorem keys_filter (P : α → Bool) (b : List (Nat × α)) : keys (b.filter fun p => P p.2) = (keys b).filter P := by
  unfold keys
  rw [List.filter_map]
  rfl
def ren (f : α → β) (a : List (Nat × α)) : List (Nat × β) := a.map fun p => (p.1, f p.2)
theorem keys_ren (f : α → β) (a : List (Nat × α)) : keys (ren f a) = (keys a).map f := by simp [keys, ren]
theorem en_cons {a : List α} {i : Nat} (h : i < a.length) : en i (a.drop i) = (i, a[i]) :: en (i + 1) (a.drop (i + 1)) := by
  rw [List.drop_eq_getElem_cons h, en]
theorem drop_sub_drop (b : List α) {m n : Nat} (h : m ≤ n) : (b.drop n).Sublist (b.drop m) := by
  obtain ⟨k, rfl⟩ : ∃ k, n = m + k := ⟨n - m, by omega⟩
  rw [← List.drop_drop]
  exact List.drop_sublist _ _
variable [DecidableEq α] [DecidableEq β]
theorem lcs_ne {x y : α} (h : x ≠ y) (a b : List α) : lcs (x :: a) (y :: b) = max (lcs a (y :: b)) (lcs (x :: a) b) := by rw [lcs_cons, if_neg h]
/-- The first element with a key, and what is behind it. -/
def fst1 (x : α) : List (Nat × α) → Option (Nat × List (Nat × α))
  | [] => none
  | p :: b => if p.2 = x then some (p.1, b) else fst1 x b
def pk : List (Nat × α) → List (Nat × α) → List (Nat × Nat)
  | [], _ => []
  | p :: a, b => match fst1 p.2 b with
    | none => pk a b
    | some (j, r) => if lcs (keys a) (keys r) + 1 = lcs (p.2 :: keys a) (keys b) then (p.1, j) :: pk a r else pk a b
theorem pk_none {p : Nat × α} {a b : List (Nat × α)} (h : fst1 p.2 b = none) : pk (p :: a) b = pk a b := by rw [pk, h]
theorem pk_yes {p : Nat × α} {a b r : List (Nat × α)} {j : Nat} (h : fst1 p.2 b = some (j, r)) (hl : lcs (keys a) (keys r) + 1 = lcs (p.2 :: keys a) (keys b)) : pk (p :: a) b = (p.1, j) :: pk a r := by rw [pk, h]; exact if_pos hl
theorem pk_no {p : Nat × α} {a b r : List (Nat × α)} {j : Nat} (h : fst1 p.2 b = some (j, r)) (hl : ¬ lcs (keys a) (keys r) + 1 = lcs (p.2 :: keys a) (keys b)) : pk (p :: a) b = pk a b := by rw [pk, h]; exact if_neg hl
theorem pk_head (i j : Nat) (x : α) (a b : List (Nat × α)) : pk ((i, x) :: a) ((j, x) :: b) = (i, j) :: pk a b := by
  refine pk_yes (r := b) (by rw [fst1]; exact if_pos rfl) ?_
  show _ = lcs (x :: keys a) (x :: keys b)
  rw [lcs_head]; omega
theorem fst1_none {x : α} : ∀ {b : List (Nat × α)}, fst1 x b = none → x ∉ keys b
  | [], _ => by simp [keys]
  | p :: b, h => by
    rw [fst1] at h
    split at h
    · cases h
    · rename_i hne
      have := fst1_none h
      simp only [keys, List.map_cons, List.mem_cons, not_or] at this ⊢
      exact ⟨fun e => hne e.symm, this⟩
theorem fst1_some {x : α} {j : Nat} {r : List (Nat × α)} : ∀ {b : List (Nat × α)}, fst1 x b = some (j, r) → ∃ l, b = l ++ (j, x) :: r ∧ x ∉ keys l
  | [], h => by cases h
  | p :: b, h => by
    rw [fst1] at h
    split at h
    · rename_i he
      injection h with h
      injection h with h1 h2
      obtain ⟨p1, p2⟩ := p
      subst h1 h2
      simp only at he
      subst he
      exact ⟨[], rfl, by simp [keys]⟩
    · rename_i hne
      obtain ⟨l, h1, h2⟩ := fst1_some h
      refine ⟨p :: l, by rw [h1]; rfl, ?_⟩
      simp only [keys, List.map_cons, List.mem_cons, not_or] at h2 ⊢
      exact ⟨fun e => hne e.symm, h2⟩
theorem fst1_at {x : α} {j : Nat} {r : List (Nat × α)} : ∀ {l : List (Nat × α)}, x ∉ keys l → fst1 x (l ++ (j, x) :: r) = some (j, r)
  | [], _ => by rw [List.nil_append, fst1]; exact if_pos rfl
  | p :: l, h => by
    simp only [keys, List.map_cons, List.mem_cons, not_or] at h
    rw [List.cons_append, fst1, if_neg (fun e => h.1 e.symm)]
    exact fst1_at h.2
theorem fst1_miss {x : α} : ∀ {b : List (Nat × α)}, x ∉ keys b → fst1 x b = none
  | [], _ => rfl
  | p :: b, h => by
    simp only [keys, List.map_cons, List.mem_cons, not_or] at h
    rw [fst1, if_neg (fun e => h.1 e.symm)]
    exact fst1_miss h.2

/-! ### What is not common may be left out -/
theorem lcs_filter {a b : List α} {P : α → Bool} (h : ∀ x, x ∈ a → x ∈ b → P x = true) : lcs (a.filter P) (b.filter P) = lcs a b := by
  obtain ⟨c, p, q, r⟩ := lcs_some a b
  obtain ⟨c', p', q', r'⟩ := lcs_some (a.filter P) (b.filter P)
  have h1 := lcs_most a b c' (p'.trans List.filter_sublist) (q'.trans List.filter_sublist)
  have h2 := lcs_most (a.filter P) (b.filter P) c (sub_filter h p q) (sub_filter (fun x hb ha => h x ha hb) q p)
  omega
theorem pk_filter (P : α → Bool) : ∀ (a b : List (Nat × α)), (∀ x, x ∈ keys a → x ∈ keys b → P x = true) → pk (a.filter fun p => P p.2) (b.filter fun p => P p.2) = pk a b
  | [], b, _ => rfl
  | p :: a, b, h => by
    have hk : keys (p :: a) = p.2 :: keys a := rfl
    have ht : ∀ x, x ∈ keys a → x ∈ keys b → P x = true := fun x hx => h x (by rw [hk]; exact List.mem_cons_of_mem _ hx)
    have ih := pk_filter P a b ht
    rcases hf : fst1 p.2 b with _ | ⟨j, r⟩
    · rw [pk_none hf]
      by_cases hp : P p.2 = true
      · rw [List.filter_cons_of_pos (by exact hp)]
        rw [pk_none (fst1_miss (by rw [keys_filter]; exact fun hm => fst1_none hf (List.mem_filter.1 hm).1)), ih]
      · rw [List.filter_cons_of_neg (by exact hp), ih]
    · obtain ⟨l, rfl, hl⟩ := fst1_some hf
      have hp : P p.2 = true := h p.2 (by rw [hk]; exact List.mem_cons_self) (by simp [keys])
      have hkb : keys (l ++ (j, p.2) :: r) = keys l ++ p.2 :: keys r := by simp [keys]
      have hfl : (l ++ (j, p.2) :: r).filter (fun q => P q.2) = l.filter (fun q => P q.2) ++ (j, p.2) :: r.filter (fun q => P q.2) := by
        rw [List.filter_append, List.filter_cons_of_pos (by exact hp)]
      have hf2 : fst1 p.2 ((l ++ (j, p.2) :: r).filter (fun q => P q.2)) = some (j, r.filter fun q => P q.2) := by
        rw [hfl]
        exact fst1_at (by rw [keys_filter]; exact fun hm => hl (List.mem_filter.1 hm).1)
      have hr : ∀ x, x ∈ keys a → x ∈ keys r → P x = true := fun x hx hx2 => ht x hx (by rw [hkb]; exact List.mem_append_right _ (List.mem_cons_of_mem _ hx2))
      have ih2 := pk_filter P a r hr
      rw [List.filter_cons_of_pos (by exact hp)]
      have e1 : lcs (keys (a.filter fun q => P q.2)) (keys (r.filter fun q => P q.2)) = lcs (keys a) (keys r) := by rw [keys_filter, keys_filter, lcs_filter hr]
      have e2 : lcs (p.2 :: keys (a.filter fun q => P q.2)) (keys ((l ++ (j, p.2) :: r).filter fun q => P q.2)) = lcs (p.2 :: keys a) (keys (l ++ (j, p.2) :: r)) := by
        rw [keys_filter, keys_filter]
        rw [show p.2 :: (keys a).filter P = (p.2 :: keys a).filter P from (List.filter_cons_of_pos hp).symm]
        exact lcs_filter (by rw [← hk]; exact h)
      by_cases ht : lcs (keys a) (keys r) + 1 = lcs (p.2 :: keys a) (keys (l ++ (j, p.2) :: r))
      · rw [pk_yes hf ht, pk_yes hf2 (by rw [e1, e2]; exact ht), ih2]
      · rw [pk_no hf ht, pk_no hf2 (by rw [e1, e2]; exact ht), ih]
termination_by a => a.length

/-! ### Other names -/
theorem lcs_map (f : α → β) : ∀ (a b : List α), (∀ x, x ∈ a → ∀ y, y ∈ b → f x = f y → x = y) → lcs (a.map f) (b.map f) = lcs a b := by
  intro a b
  induction a, b using lcs.induct with
  | case1 b => intro _; simp [lcs_nil_left]
  | case2 x a => intro _; simp [lcs_nil_right]
  | case3 a y b ih1 ih2 ih3 =>
    intro h
    rw [List.map_cons, List.map_cons, lcs_head, lcs_head]
    rw [ih3 (fun x hx z hz => h x (by simp [hx]) z (by simp [hz]))]
  | case4 x a y b hne ih1 ih2 =>
    intro h
    have hf : f x ≠ f y := fun e => hne (h x (by simp) y (by simp) e)
    rw [List.map_cons, List.map_cons, lcs_ne hf, lcs_ne hne]
    have e1 := ih1 (fun u hu z hz => h u (by simp [hu]) z hz)
    have e2 := ih2 (fun u hu z hz => h u hu z (by simp [hz]))
    rw [List.map_cons] at e1 e2
    rw [e1, e2]
theorem pk_ren (f : α → β) : ∀ (a b : List (Nat × α)), (∀ x, x ∈ keys a → ∀ y, y ∈ keys b → f x = f y → x = y) → pk (ren f a) (ren f b) = pk a b
  | [], b, _ => rfl
  | p :: a, b, h => by
    have hk : keys (p :: a) = p.2 :: keys a := rfl
    have ht : ∀ x, x ∈ keys a → ∀ y, y ∈ keys b → f x = f y → x = y := fun x hx => h x (by rw [hk]; exact List.mem_cons_of_mem _ hx)
    have ih := pk_ren f a b ht
    have hc : ren f (p :: a) = (p.1, f p.2) :: ren f a := rfl
    rw [hc]
    rcases hf : fst1 p.2 b with _ | ⟨j, r⟩
    · rw [pk_none hf, pk_none (p := (p.1, f p.2)) (fst1_miss ?_), ih]
      rw [keys_ren]
      intro hm
      obtain ⟨z, hz, e⟩ := List.mem_map.1 hm
      have := h p.2 (by rw [hk]; exact List.mem_cons_self) z hz e.symm
      exact fst1_none hf (this ▸ hz)
    · obtain ⟨l, rfl, hl⟩ := fst1_some hf
      have hkb : keys (l ++ (j, p.2) :: r) = keys l ++ p.2 :: keys r := by simp [keys]
      have hf2 : fst1 (f p.2) (ren f (l ++ (j, p.2) :: r)) = some (j, ren f r) := by
        have : ren f (l ++ (j, p.2) :: r) = ren f l ++ (j, f p.2) :: ren f r := by simp [ren]
        rw [this]
        refine fst1_at ?_
        rw [keys_ren]
        intro hm
        obtain ⟨z, hz, e⟩ := List.mem_map.1 hm
        have := h p.2 (by rw [hk]; exact List.mem_cons_self) z (by rw [hkb]; exact List.mem_append_left _ hz) e.symm
        exact hl (this ▸ hz)
      have hr : ∀ x, x ∈ keys a → ∀ y, y ∈ keys r → f x = f y → x = y := fun x hx y hy => ht x hx y (by rw [hkb]; exact List.mem_append_right _ (List.mem_cons_of_mem _ hy))
      have ih2 := pk_ren f a r hr
      have e1 : lcs (keys (ren f a)) (keys (ren f r)) = lcs (keys a) (keys r) := by rw [keys_ren, keys_ren, lcs_map f _ _ hr]
      have e2 : lcs (f p.2 :: keys (ren f a)) (keys (ren f (l ++ (j, p.2) :: r))) = lcs (p.2 :: keys a) (keys (l ++ (j, p.2) :: r)) := by
        rw [keys_ren, keys_ren]
        exact lcs_map f (p.2 :: keys a) _ (by rw [← hk]; exact h)
      by_cases ht : lcs (keys a) (keys r) + 1 = lcs (p.2 :: keys a) (keys (l ++ (j, p.2) :: r))
      · rw [pk_yes hf ht, pk_yes (p := (p.1, f p.2)) hf2 (by rw [e1, e2]; exact ht), ih2]
      · rw [pk_no hf ht, pk_no (p := (p.1, f p.2)) hf2 (by rw [e1, e2]; exact ht), ih]
termination_by a => a.length

/-! ### The common part is so -/
theorem fst1_en {x : α} (b : List α) : ∀ (n j : Nat), b.length - j = n → (∃ y, ∃ h : y < b.length, j ≤ y ∧ b[y] = x ∧ (∀ z, j ≤ z → z < y → b[z]? ≠ some x) ∧ fst1 x (en j (b.drop j)) = some (y, en (y + 1) (b.drop (y + 1)))) ∨ (x ∉ b.drop j ∧ (∀ z, j ≤ z → b[z]? ≠ some x) ∧ fst1 x (en j (b.drop j)) = none)
  | 0, j, hn => .inr ⟨by rw [List.drop_eq_nil_iff.2 (by omega)]; simp, fun z hz => by rw [List.getElem?_eq_none (by omega)]; simp, by rw [List.drop_eq_nil_iff.2 (by omega)]; rfl⟩
  | n + 1, j, hn => by
    have hj : j < b.length := by omega
    by_cases hx : b[j] = x
    · exact .inl ⟨j, hj, Nat.le_refl _, hx, fun z h1 h2 => by omega, by rw [en_cons hj, fst1]; exact if_pos hx⟩
    · have hne : b[j]? ≠ some x := by rw [List.getElem?_eq_getElem hj]; intro e; injection e with e; exact hx e
      rcases fst1_en b n (j + 1) (by omega) with ⟨y, h, h1, h2, h3, h4⟩ | ⟨h1, h2, h3⟩
      · refine .inl ⟨y, h, by omega, h2, fun z hz hz2 => ?_, by rw [en_cons hj, fst1, if_neg hx]; exact h4⟩
        rcases Nat.eq_or_lt_of_le hz with rfl | hz
        · exact hne
        · exact h3 z hz hz2
      · refine .inr ⟨?_, fun z hz => ?_, by rw [en_cons hj, fst1, if_neg hx]; exact h3⟩
        · rw [List.drop_eq_getElem_cons hj, List.mem_cons, not_or]
          exact ⟨fun e => hx e.symm, h1⟩
        · rcases Nat.eq_or_lt_of_le hz with rfl | hz
          · exact hne
          · exact h2 z hz
theorem pairsFrom_step {m n i j : Nat} (h : i < m) : pairsFrom m n i j = (List.range' j (n - j)).map (fun y => (i, y)) ++ pairsFrom m n (i + 1) j := by
  unfold pairsFrom
  rw [show m - i = (m - (i + 1)) + 1 by omega, List.range'_succ, List.flatMap_cons]
theorem row_find {P : Nat × Nat → Bool} {i y : Nat} : ∀ (k j : Nat), j ≤ y → y < j + k → P (i, y) = true → (∀ z, j ≤ z → z < y → P (i, z) = false) → ((List.range' j k).map (fun y => (i, y))).find? P = some (i, y)
  | 0, j, h1, h2, _, _ => by omega
  | k + 1, j, h1, h2, h3, h4 => by
    rw [List.range'_succ, List.map_cons]
    rcases Nat.eq_or_lt_of_le h1 with rfl | h1
    · rw [List.find?_cons_of_pos h3]
    · rw [List.find?_cons_of_neg (by rw [h4 j (Nat.le_refl _) h1]; simp)]
      exact row_find k (j + 1) h1 (by omega) h3 (fun z hz hz2 => h4 z (by omega) hz2)
theorem comm_step {a b : List α} {i j : Nat} (h : nxtP a b i j = nxtP a b (i + 1) j) : comm a b i j = comm a b (i + 1) j := by
  cases hp : nxtP a b (i + 1) j with
  | none => rw [comm_none hp, comm_none (h.trans hp)]
  | some p => rw [comm_some hp, comm_some (h.trans hp)]
theorem okP_get {a b : List α} {i j x y : Nat} (hx : x < a.length) : okP a b i j (x, y) = true ↔ b[y]? = some a[x] ∧ 1 + lcs (a.drop (x + 1)) (b.drop (y + 1)) = lcs (a.drop i) (b.drop j) := by
  unfold okP
  simp only [decide_eq_true_eq, List.getElem?_eq_getElem hx]
  constructor
  · rintro ⟨h1, _, _, h2⟩; exact ⟨h1.symm, h2⟩
  · rintro ⟨h1, h2⟩; exact ⟨h1.symm, hx, (List.getElem?_eq_some_iff.1 h1).1, h2⟩
theorem lcs_mono_right {a b b' : List α} (h : b.Sublist b') : lcs a b ≤ lcs a b' := by
  obtain ⟨c, p, q, r⟩ := lcs_some a b
  have := lcs_most a b' c p (q.trans h)
  omega
theorem lcs_mono_left {a a' b : List α} (h : a.Sublist a') : lcs a b ≤ lcs a' b := by
  obtain ⟨c, p, q, r⟩ := lcs_some a b
  have := lcs_most a' b c (p.trans h) q
  omega
/-- Where no pair with the first element is good, it may be left out. -/
theorem lcs_skip {a b : List α} {x : α} (h : ∀ y, b[y]? = some x → ¬ lcs (x :: a) b ≤ 1 + lcs a (b.drop (y + 1))) : lcs (x :: a) b = lcs a b := by
  have h0 := lcs_mono_left (b := b) (List.sublist_cons_self x a)
  obtain ⟨c, p, q, r⟩ := lcs_some (x :: a) b
  cases p with
  | cons _ p => have := lcs_most a b c p q; omega
  | cons_cons _ p =>
    exfalso
    obtain ⟨y, h1, h2⟩ := sub_first q
    have := lcs_most a _ _ p h2
    rw [List.length_cons] at r
    exact h y h1 (by omega)
theorem comm_pk (a b : List α) : ∀ (n i j : Nat), a.length - i = n → comm a b i j = pk (en i (a.drop i)) (en j (b.drop j))
  | 0, i, j, hn => by
    have e : a.drop i = [] := List.drop_eq_nil_iff.2 (by omega)
    rw [e]
    unfold comm
    rw [e, lcs_nil_left]
    rfl
  | n + 1, i, j, hn => by
    have hi : i < a.length := by omega
    have ih := fun j => comm_pk a b n (i + 1) j (by omega)
    have ea : a.drop i = a[i] :: a.drop (i + 1) := List.drop_eq_getElem_cons hi
    have ki : keys (en (i + 1) (a.drop (i + 1))) = a.drop (i + 1) := keys_en _ _
    -- where the row has no good pair
    have skip : (∀ y, j ≤ y → okP a b i j (i, y) = false) → comm a b i j = comm a b (i + 1) j := by
      intro hno
      have hl : lcs (a.drop i) (b.drop j) = lcs (a.drop (i + 1)) (b.drop j) := by
        rw [ea]
        refine lcs_skip ?_
        intro y hy hle
        rw [List.getElem?_drop] at hy
        rw [List.drop_drop] at hle
        have h1 := hno (j + y) (by omega)
        have h2 : okP a b i j (i, j + y) = true := (okP_get hi).2 ⟨hy, by
          have h3 := lcs_pair (a := a.drop i) (b := b.drop j) (x := 0) (y := y) (u := a[i]) (by rw [ea]; rfl) (by rw [List.getElem?_drop]; exact hy)
          rw [List.drop_drop, List.drop_drop] at h3
          rw [ea] at h3 ⊢
          have e1 : i + (0 + 1) = i + 1 := by omega
          have e2 : j + (y + 1) = j + y + 1 := by omega
          rw [e1, e2] at h3
          rw [e2] at hle
          omega⟩
        rw [h2] at h1; cases h1
      refine comm_step ?_
      unfold nxtP
      rw [pairsFrom_step hi, List.find?_append, List.find?_eq_none.2 ?_, Option.none_or]
      · congr 1
        unfold okP
        rw [hl]
      · intro p hp
        obtain ⟨y, hy, rfl⟩ := List.mem_map.1 hp
        rw [List.mem_range'_1] at hy
        rw [hno y hy.1]; simp
    rw [en_cons hi]
    rcases fst1_en (x := a[i]) b _ j rfl with ⟨y, h, h1, h2, h3, h4⟩ | ⟨h1, h2, h3⟩
    · have hyb : b[y]? = some a[i] := by rw [List.getElem?_eq_getElem h, h2]
      by_cases ht : lcs (keys (en (i + 1) (a.drop (i + 1)))) (keys (en (y + 1) (b.drop (y + 1)))) + 1 = lcs (a[i] :: keys (en (i + 1) (a.drop (i + 1)))) (keys (en j (b.drop j)))
      · rw [pk_yes h4 ht, ← ih]
        refine comm_some (p := (i, y)) ?_
        rw [ki, keys_en, keys_en, ← ea] at ht
        unfold nxtP
        rw [pairsFrom_step hi, List.find?_append, row_find (y := y) _ _ h1 (by omega) ((okP_get hi).2 ⟨hyb, by omega⟩) ?_]
        · rfl
        · intro z hz hz2
          have := h3 z hz hz2
          cases ho : okP a b i j (i, z) with
          | false => rfl
          | true => exact absurd ((okP_get hi).1 ho).1 this
      · rw [pk_no h4 ht, ← ih]
        rw [ki, keys_en, keys_en, ← ea] at ht
        refine skip ?_
        intro z hz
        cases ho : okP a b i j (i, z) with
        | false => rfl
        | true =>
          exfalso
          obtain ⟨o1, o2⟩ := (okP_get hi).1 ho
          have hyz : y ≤ z := by
            rcases Nat.lt_or_ge z y with h0 | h0
            · exact absurd o1 (h3 z hz h0)
            · exact h0
          have m1 := lcs_mono_right (a := a.drop (i + 1)) (drop_sub_drop b (show y + 1 ≤ z + 1 by omega))
          have m2 := lcs_pair (a := a.drop i) (b := b.drop j) (x := 0) (y := y - j) (u := a[i]) (by rw [ea]; rfl) (by rw [List.getElem?_drop, show j + (y - j) = y by omega]; exact hyb)
          rw [List.drop_drop, List.drop_drop, show i + (0 + 1) = i + 1 by omega, show j + (y - j + 1) = y + 1 by omega] at m2
          omega
    · rw [pk_none h3, ← ih]
      refine skip ?_
      intro z hz
      cases ho : okP a b i j (i, z) with
      | false => rfl
      | true => exact absurd ((okP_get hi).1 ho).1 (h2 z hz)
/-- The pairs of equal beginnings. -/
def diag (p : Nat) : List (Nat × Nat) := (List.range p).map fun i => (i, i)
theorem diag_snoc (p : Nat) : diag (p + 1) = diag p ++ [(p, p)] := by simp [diag, List.range_succ]
theorem comm_front (a b : List α) : ∀ (p : Nat), p ≤ a.length → p ≤ b.length → a.take p = b.take p → comm a b 0 0 = diag p ++ pk (en p (a.drop p)) (en p (b.drop p))
  | 0, _, _, _ => by rw [comm_pk a b _ 0 0 rfl]; rfl
  | p + 1, ha, hb, h => by
    have hh : a.take p = b.take p := by
      have := congrArg (List.take p) h
      rw [List.take_take, List.take_take, Nat.min_eq_left (by omega)] at this
      exact this
    have hx : a[p]'(by omega) = b[p]'(by omega) := by
      have := congrArg (fun l => l[p]?) h
      simp only [List.getElem?_take] at this
      rw [if_pos (by omega), if_pos (by omega), List.getElem?_eq_getElem (by omega), List.getElem?_eq_getElem (by omega)] at this
      injection this
    rw [comm_front a b p (by omega) (by omega) hh, diag_snoc, List.append_assoc, en_cons (a := a) (i := p) (by omega), en_cons (a := b) (i := p) (by omega), hx, pk_head]
    rfl
theorem comm0_length (a b : List α) : (comm a b 0 0).length = lcs a b := comm_length a b _ 0 0 rfl
end
end Go.Proofs.Ytcnjomkddbbopaa
