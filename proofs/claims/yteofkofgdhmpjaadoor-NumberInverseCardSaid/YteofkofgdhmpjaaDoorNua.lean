/- Numbers with the symbols of a locale, plain: groups of digits, texts, styles, reading them again. -/
import Derived.Test.YteofkofgdhmpjaaDoorKc
namespace Go.Proofs.YteofkofgdhmpjaaDoor
set_option linter.unusedVariables false

/-- The symbols of a locale. -/
structure SyN where
  de : Str
  gr : Str
  mi : Str
  pe : Str
  pr : Int
  se : Int
/-- The first k digits, in groups from right to left. -/
def frG (g : Str) (size : Nat) (d : Str) (k : Nat) : Str :=
  if h : k ≤ size ∨ size = 0 then d.take k else frG g size d (k - size) ++ (g ++ (d.drop (k - size)).take size)
termination_by k
decreasing_by omega
def sizG (x : SyN) : Nat := if x.se < 1 then x.pr.toNat else x.se.toNat
def grpR (x : SyN) (d : Str) : Str := if x.pr < 1 ∨ (d.length : Int) ≤ x.pr then d else frG x.gr (sizG x) d (d.length - x.pr.toNat) ++ (x.gr ++ d.drop (d.length - x.pr.toNat))
theorem frG_small {g : Str} {size : Nat} {d : Str} {k : Nat} (h : k ≤ size) : frG g size d k = d.take k := by
  unfold frG
  rw [dif_pos (.inl h)]
theorem frG_big {g : Str} {size : Nat} {d : Str} {k : Nat} (h0 : 0 < size) (h : size < k) : frG g size d k = frG g size d (k - size) ++ (g ++ (d.drop (k - size)).take size) := by
  conv => lhs; unfold frG
  rw [dif_neg (by omega)]
theorem sizG_pos {x : SyN} (h : ¬ x.pr < 1) : 0 < sizG x := by unfold sizG; split <;> omega
/-- The text of a number. -/
def texR (x : SyN) (n : Num) : Str := (if n.neg = true then x.mi else []) ++ (grpR x n.wh ++ (if n.fr = [] then [] else x.de ++ n.fr))
def begB (s t : Str) : Bool := decide (s.take t.length = t)
theorem begB_iff {s t : Str} : begB s t = true ↔ ∃ u, s = t ++ u := by
  unfold begB
  rw [decide_eq_true_iff]
  constructor
  · intro h
    have := List.take_append_drop t.length s
    rw [h] at this
    exact ⟨_, this.symm⟩
  · rintro ⟨u, rfl⟩; simp
/-- A string without the occurrences of another one. -/
def witR (t : Str) : Nat → Str → Str
  | 0, s => []
  | f + 1, [] => []
  | f + 1, c :: s => if t ≠ [] ∧ begB (c :: s) t = true then witR t f ((c :: s).drop t.length) else c :: witR t f s
/-- The place of the first occurrence, or the length. -/
def plaR (t : Str) : Str → Nat
  | [] => 0
  | c :: s => if begB (c :: s) t = true then 0 else plaR t s + 1
def numT (x : SyN) (s : Str) : Str :=
  let neg := decide (x.mi ≠ []) && begB s x.mi
  let rest := if neg = true then s.drop x.mi.length else s
  let k := plaR x.de rest
  (if neg = true then [45] else []) ++ (witR x.gr k (rest.take k) ++ (if k < rest.length then 46 :: rest.drop (k + x.de.length) else []))
def parR (x : SyN) (s : Str) : Str × Nat := if x.de = [] then ([], 18) else match spl (numT x s) with
  | some n => if texR x n = s then (numT x s, 0) else ([], 3)
  | none => ([], 3)
def comB (a b : Str) : Bool := a.any fun c => b.any fun d => decide (c = d)
def digT : Str := [48, 49, 50, 51, 52, 53, 54, 55, 56, 57]
def souR (x : SyN) : Bool := !(decide (x.mi = []) || decide (x.de = []) || comB (x.mi ++ (x.de ++ x.gr)) digT || comB x.de x.gr || begB x.de x.mi || begB x.mi x.de || !(decide (x.gr = []) || (!begB x.gr x.mi && !begB x.mi x.gr)))

/-! ### Reading a text -/
theorem isD_digT (c : UInt8) : isD c = true ↔ c ∈ digT := by
  rw [isD_iff]
  unfold digT
  constructor
  · rintro ⟨h1, h2⟩
    have : c = UInt8.ofNat c.toNat := by simp
    rw [this]
    generalize c.toNat = n at h1 h2
    obtain rfl | rfl | rfl | rfl | rfl | rfl | rfl | rfl | rfl | rfl : n = 48 ∨ n = 49 ∨ n = 50 ∨ n = 51 ∨ n = 52 ∨ n = 53 ∨ n = 54 ∨ n = 55 ∨ n = 56 ∨ n = 57 := by omega
    all_goals decide
  · intro h
    simp only [List.mem_cons, List.not_mem_nil, or_false] at h
    rcases h with rfl | rfl | rfl | rfl | rfl | rfl | rfl | rfl | rfl | rfl <;> decide
theorem comB_iff {a b : Str} : comB a b = false ↔ ∀ c ∈ a, c ∉ b := by
  unfold comB
  rw [List.any_eq_false]
  simp only [List.any_eq_true, decide_eq_true_eq, not_exists, not_and]
  exact ⟨fun h c hc hb => h c hc c hb rfl, fun h c hc d hd e => h c hc (e ▸ hd)⟩
structure Sound (x : SyN) : Prop where
  mi : x.mi ≠ []
  de : x.de ≠ []
  dm : ∀ c ∈ x.mi, isD c = false
  dd : ∀ c ∈ x.de, isD c = false
  dg : ∀ c ∈ x.gr, isD c = false
  ap : ∀ c ∈ x.de, c ∉ x.gr
theorem sound_of {x : SyN} (h : souR x = true) : Sound x := by
  unfold souR at h
  simp only [Bool.not_eq_true', Bool.or_eq_false_iff, decide_eq_false_iff_not] at h
  obtain ⟨⟨⟨⟨⟨⟨h1, h2⟩, h3⟩, h4⟩, _⟩, _⟩, _⟩ := h
  rw [comB_iff] at h3 h4
  have hn : ∀ c ∈ x.mi ++ (x.de ++ x.gr), isD c = false := fun c hc => by
    have := h3 c hc
    rw [← isD_digT] at this
    simpa using this
  exact ⟨h1, h2, fun c hc => hn c (by simp [hc]), fun c hc => hn c (by simp [hc]), fun c hc => hn c (by simp [hc]), h4⟩
theorem beg_no {s t : Str} {c d : UInt8} (h : c ≠ d) : begB (c :: s) (d :: t) = false := by
  unfold begB
  simp [h]
theorem wit_digits {g : Str} (hg : ∀ c ∈ g, isD c = false) : ∀ (d s : Str) (f : Nat), allD d → d.length ≤ f → witR g f (d ++ s) = d ++ witR g (f - d.length) s
  | [], s, f, _, _ => by simp
  | c :: d, s, f, h, hf => by
    obtain ⟨f', rfl⟩ : ∃ f', f = f' + 1 := ⟨f - 1, by simp at hf; omega⟩
    have hc : ¬ (g ≠ [] ∧ begB (c :: (d ++ s)) g = true) := by
      rintro ⟨h1, h2⟩
      cases g with
      | nil => exact h1 rfl
      | cons e g =>
        have : c ≠ e := fun k => by
          have a := hg e (by simp)
          rw [← k, h c (by simp)] at a
          cases a
        rw [beg_no this] at h2
        cases h2
    rw [List.cons_append, witR, if_neg hc, wit_digits hg d s f' (fun c hc => h c (by simp [hc])) (by simp at hf; omega)]
    simp
theorem wit_group {g : Str} (hg : g ≠ []) (s : Str) (f : Nat) : witR g (f + 1) (g ++ s) = witR g f s := by
  cases g with
  | nil => exact absurd rfl hg
  | cons e g =>
    rw [List.cons_append, witR, if_pos ⟨by simp, begB_iff.2 ⟨s, rfl⟩⟩]
    congr 1
    simp
theorem wit_fuel (g : Str) : ∀ (f f' : Nat) (s : Str), s.length ≤ f → s.length ≤ f' → witR g f s = witR g f' s
  | 0, 0, _, _, _ => rfl
  | 0, f' + 1, [], _, _ => rfl
  | 0, _ + 1, _ :: _, h, _ => by simp at h
  | f + 1, 0, [], _, _ => rfl
  | _ + 1, 0, _ :: _, _, h => by simp at h
  | f + 1, f' + 1, [], _, _ => rfl
  | f + 1, f' + 1, c :: s, h, h' => by
    simp only [List.length_cons] at h h'
    rw [witR, witR]
    by_cases k : g ≠ [] ∧ begB (c :: s) g = true
    · rw [if_pos k, if_pos k]
      have hl : 0 < g.length := List.length_pos_iff.2 k.1
      refine wit_fuel g f f' _ ?_ ?_ <;> (rw [List.length_drop, List.length_cons]; omega)
    · rw [if_neg k, if_neg k, wit_fuel g f f' s (by omega) (by omega)]
theorem wit_nil (f : Nat) (s : Str) (h : s.length ≤ f) : witR [] f s = s := by
  induction s generalizing f with
  | nil => cases f <;> rfl
  | cons c s ih =>
    obtain ⟨f', rfl⟩ : ∃ f', f = f' + 1 := ⟨f - 1, by simp at h; omega⟩
    rw [witR, if_neg (by simp), ih f' (by simp at h; omega)]
/-- Grouped digits without the separators. -/
theorem frG_wit {g : Str} (hg : ∀ c ∈ g, isD c = false) (h0 : g ≠ []) {size : Nat} (hs : 0 < size) {d : Str} (hd : allD d) (t : Str) : ∀ (k : Nat), k ≤ d.length → ∀ f, (frG g size d k ++ t).length ≤ f → witR g f (frG g size d k ++ t) = d.take k ++ witR g t.length t := by
  intro k
  induction k using Nat.strongRecOn generalizing t with
  | _ k ih =>
    intro hk f hf
    by_cases h : k ≤ size
    · rw [frG_small h] at hf ⊢
      rw [wit_digits hg _ _ _ (allD_take hd k) (by simp at hf; simp; omega)]
      congr 1
      refine wit_fuel g _ _ _ ?_ (Nat.le_refl _)
      simp at hf ⊢
      omega
    · rw [frG_big hs (by omega)] at hf ⊢
      rw [List.append_assoc] at hf ⊢
      rw [ih (k - size) (by omega) _ (by omega) f hf]
      have e : d.take k = d.take (k - size) ++ (d.drop (k - size)).take size := by
        rw [← List.take_add]
        congr 1
        omega
      rw [e, List.append_assoc (d.take (k - size))]
      congr 1
      have hl : ((g ++ (d.drop (k - size)).take size) ++ t).length = g.length + (size + t.length) := by
        simp
        omega
      have hp : 0 < g.length := List.length_pos_iff.2 h0
      rw [hl, List.append_assoc, wit_fuel g (g.length + (size + t.length)) ((size + t.length) + 1 + (g.length - 1)) _ (by simp; omega) (by simp; omega)]
      rw [show (size + t.length) + 1 + (g.length - 1) = (size + t.length + (g.length - 1)) + 1 by omega, wit_group h0, wit_digits hg _ _ _ (allD_take (allD_drop hd _) _) (by simp; omega)]
      congr 1
      refine wit_fuel g _ _ _ ?_ (Nat.le_refl _)
      simp
      omega
theorem grp_wit {x : SyN} (hg : ∀ c ∈ x.gr, isD c = false) {d : Str} (hd : allD d) : witR x.gr (grpR x d).length (grpR x d) = d := by
  by_cases h0 : x.gr = []
  · have e : ∀ k, k ≤ d.length → frG [] (sizG x) d k = d.take k := fun k => by
      induction k using Nat.strongRecOn with
      | _ k ih =>
        intro hk
        by_cases h : k ≤ sizG x ∨ sizG x = 0
        · unfold frG; rw [dif_pos h]
        · rw [frG_big (by omega) (by omega), ih _ (by omega) (by omega), List.nil_append, ← List.take_add]
          congr 1
          omega
    rw [h0, wit_nil _ _ (Nat.le_refl _)]
    unfold grpR
    split
    · rfl
    · rw [h0, e _ (by omega), List.nil_append, List.take_append_drop]
  · unfold grpR
    split
    · have := wit_digits hg d [] d.length hd (Nat.le_refl _)
      rw [List.append_nil] at this
      rw [this, Nat.sub_self]
      simp [witR]
    · rename_i h
      rw [frG_wit hg h0 (sizG_pos (fun k => h (.inl k))) hd _ _ (by omega) _ (Nat.le_refl _)]
      have hp : 0 < x.gr.length := List.length_pos_iff.2 h0
      rw [List.length_append, show x.gr.length + (d.drop (d.length - x.pr.toNat)).length = ((d.drop (d.length - x.pr.toNat)).length + (x.gr.length - 1)) + 1 by omega, wit_group h0]
      have := wit_digits hg (d.drop (d.length - x.pr.toNat)) [] ((d.drop (d.length - x.pr.toNat)).length + (x.gr.length - 1)) (allD_drop hd _) (by omega)
      rw [List.append_nil] at this
      rw [this]
      have e : ∀ n, witR x.gr n [] = [] := fun n => by cases n <;> rfl
      rw [e, List.append_nil, List.take_append_drop]
theorem frG_mem {g : Str} {size : Nat} {d : Str} : ∀ (k : Nat), ∀ c ∈ frG g size d k, c ∈ d ∨ c ∈ g := by
  intro k
  induction k using Nat.strongRecOn with
  | _ k ih =>
    intro c hc
    by_cases h : k ≤ size ∨ size = 0
    · unfold frG at hc
      rw [dif_pos h] at hc
      exact .inl (List.mem_of_mem_take hc)
    · rw [frG_big (by omega) (by omega)] at hc
      rcases List.mem_append.1 hc with hc | hc
      · exact ih (k - size) (by omega) c hc
      · rcases List.mem_append.1 hc with hc | hc
        · exact .inr hc
        · exact .inl (List.mem_of_mem_drop (List.mem_of_mem_take hc))
theorem grp_mem {x : SyN} {d : Str} : ∀ c ∈ grpR x d, c ∈ d ∨ c ∈ x.gr := fun c hc => by
  unfold grpR at hc
  split at hc
  · exact .inl hc
  · rcases List.mem_append.1 hc with hc | hc
    · exact frG_mem _ c hc
    · rcases List.mem_append.1 hc with hc | hc
      · exact .inr hc
      · exact .inl (List.mem_of_mem_drop hc)
theorem frG_head {g : Str} {size : Nat} (hs : 0 < size) {c : UInt8} {d : Str} : ∀ (k : Nat), 0 < k → ∃ u, frG g size (c :: d) k = c :: u := by
  intro k
  induction k using Nat.strongRecOn with
  | _ k ih =>
    intro hk
    by_cases h : k ≤ size
    · obtain ⟨j, rfl⟩ : ∃ j, k = j + 1 := ⟨k - 1, by omega⟩
      rw [frG_small h]
      exact ⟨_, rfl⟩
    · obtain ⟨u, hu⟩ := ih (k - size) (by omega) (by omega)
      rw [frG_big hs (by omega), hu]
      exact ⟨_, rfl⟩
theorem grp_head {x : SyN} {c : UInt8} {d : Str} : ∃ u, grpR x (c :: d) = c :: u := by
  unfold grpR
  split
  · exact ⟨_, rfl⟩
  · rename_i h
    obtain ⟨u, hu⟩ := frG_head (g := x.gr) (sizG_pos (fun k => h (.inl k))) (c := c) (d := d) ((c :: d).length - x.pr.toNat) (by omega)
    rw [hu]
    exact ⟨_, rfl⟩
theorem pla_none {t : Str} (h0 : t ≠ []) : ∀ {a : Str}, (∀ c ∈ t, c ∉ a) → plaR t a = a.length
  | [], _ => rfl
  | c :: a, h => by
    have hb : begB (c :: a) t = false := by
      cases t with
      | nil => exact absurd rfl h0
      | cons e t => exact beg_no fun k => h e (by simp) (by simp [k])
    rw [plaR, hb, if_neg (by decide), pla_none h0 (fun x hx hc => h x hx (by simp [hc])), List.length_cons]
theorem pla_at {t : Str} (h0 : t ≠ []) (s : Str) : ∀ {a : Str}, (∀ c ∈ t, c ∉ a) → plaR t (a ++ (t ++ s)) = a.length
  | [], _ => by
    cases t with
    | nil => exact absurd rfl h0
    | cons e t =>
      have hb : begB (e :: (t ++ s)) (e :: t) = true := begB_iff.2 ⟨s, rfl⟩
      rw [List.nil_append, List.cons_append, plaR, if_pos hb]
      rfl
  | c :: a, h => by
    have hb : begB (c :: (a ++ (t ++ s))) t = false := by
      cases t with
      | nil => exact absurd rfl h0
      | cons e t => exact beg_no fun k => h e (by simp) (by simp [k])
    rw [List.cons_append, plaR, hb, if_neg (by decide), pla_at h0 s (fun x hx hc => h x hx (by simp [hc])), List.length_cons]
/-- With sound symbols, the number is found again in its text. -/
theorem num_back {x : SyN} (hx : Sound x) {n : Num} (g : Good n) : numT x (texR x n) = txt n := by
  obtain ⟨c, w, hw⟩ : ∃ c w, n.wh = c :: w := by
    have := g.low
    cases h : n.wh with
    | nil => rw [h] at this; simp at this
    | cons c w => exact ⟨c, w, rfl⟩
  have hc : isD c = true := g.dw c (by rw [hw]; simp)
  obtain ⟨u, hu⟩ := grp_head (x := x) (c := c) (d := w)
  rw [← hw] at hu
  obtain ⟨R, hR⟩ : ∃ R, grpR x n.wh ++ (if n.fr = [] then [] else x.de ++ n.fr) = R := ⟨_, rfl⟩
  have hneg : (decide (x.mi ≠ []) && begB (texR x n) x.mi) = n.neg := by
    rw [decide_eq_true hx.mi, Bool.true_and]
    unfold texR
    cases hn : n.neg with
    | true => exact begB_iff.2 ⟨_, rfl⟩
    | false =>
      obtain ⟨e, m, hm⟩ : ∃ e m, x.mi = e :: m := by
        cases h : x.mi with
        | nil => exact absurd h hx.mi
        | cons e m => exact ⟨e, m, rfl⟩
      rw [if_neg (by decide), List.nil_append, hu, hm, List.cons_append]
      refine beg_no fun k => ?_
      have := hx.dm e (by rw [hm]; simp)
      rw [← k, hc] at this
      cases this
  have hrest : (if n.neg = true then (texR x n).drop x.mi.length else texR x n) = R := by
    unfold texR
    rw [hR]
    cases n.neg with
    | true => rw [if_pos rfl, if_pos rfl, List.drop_left]
    | false => rw [if_neg (by decide), if_neg (by decide), List.nil_append]
  have hap : ∀ c ∈ x.de, c ∉ grpR x n.wh := fun c h1 h2 => by
    rcases grp_mem c h2 with k | k
    · have := hx.dd c h1
      rw [g.dw c k] at this
      cases this
    · exact hx.ap c h1 k
  unfold numT
  simp only [hneg, hrest]
  rw [txt_eq]
  congr 1
  unfold tx1
  subst hR
  by_cases hf : n.fr = []
  · rw [if_pos hf, if_pos hf, List.append_nil, List.append_nil, pla_none hx.de hap, List.take_length, grp_wit hx.dg g.dw, if_neg (Nat.lt_irrefl _), List.append_nil]
  · rw [if_neg hf, if_neg hf, pla_at hx.de _ hap, List.take_left, grp_wit hx.dg g.dw]
    have hd : 0 < x.de.length := List.length_pos_iff.2 hx.de
    rw [if_pos (by simp only [List.length_append]; omega)]
    congr 2
    rw [← List.append_assoc, ← List.length_append, List.drop_left]
/-- P15.2. -/
theorem par_back {x : SyN} (hx : Sound x) {n : Num} (g : Good n) : parR x (texR x n) = (txt n, 0) := by
  unfold parR
  rw [if_neg hx.de, num_back hx g, spl_of g]
  exact if_pos rfl
/-- P15.3. -/
theorem par_text {x : SyN} {s t : Str} (h : parR x s = (t, 0)) : x.de ≠ [] ∧ ∃ n, Good n ∧ txt n = t ∧ texR x n = s := by
  unfold parR at h
  split at h
  · injection h with _ h; cases h
  · rename_i hd
    refine ⟨hd, ?_⟩
    cases hs : spl (numT x s) with
    | none => rw [hs] at h; injection h with _ h; cases h
    | some n =>
      rw [hs] at h
      obtain ⟨g, hn⟩ := spl_some hs
      by_cases k : texR x n = s
      · simp only [k, if_true] at h
        injection h with h _
        exact ⟨n, g, hn.trans h, k⟩
      · simp only [k, if_false] at h
        injection h with _ h
        cases h

/-! ### Styles -/
def intT : Str := [105, 110, 116, 101, 103, 101, 114]
def perT : Str := [112, 101, 114, 99, 101, 110, 116]
def numO (t : Str) : Num := (spl t).getD ⟨false, [], []⟩
theorem numO_of {x : Num} (g : Good x) : numO (txt x) = x := by unfold numO; rw [spl_of g]; rfl
def texO (x : SyN) (e : Str) : Option Str → Str × Nat
  | some t => (texR x (numO t) ++ e, 0)
  | none => ([], 2)
/-- What the text of a number is. -/
def FmtP (x : SyN) (s st : Str) (r : Str × Nat) : Prop := match spl s with
  | none => r = ([], 1)
  | some n => if st ≠ [] ∧ st ≠ intT ∧ st ≠ perT then r = ([], 1) else if x.de = [] then r = ([], 18) else
    if st = [] then r = (texR x n, 0) else if st = intT then ∃ o, Ro n 0 o ∧ r = texO x [] o else ∃ o, Sh n 2 o ∧ r = texO x x.pe o
theorem FmtP.uniq {x : SyN} {s st : Str} {r q : Str × Nat} (h : FmtP x s st r) (k : FmtP x s st q) : r = q := by
  unfold FmtP at h k
  cases hs : spl s with
  | none => rw [hs] at h k; exact h.trans k.symm
  | some n =>
    rw [hs] at h k
    simp only at h k
    by_cases h1 : st ≠ [] ∧ st ≠ intT ∧ st ≠ perT
    · rw [if_pos h1] at h k; exact h.trans k.symm
    · rw [if_neg h1] at h k
      by_cases h2 : x.de = []
      · rw [if_pos h2] at h k; exact h.trans k.symm
      · rw [if_neg h2] at h k
        by_cases h3 : st = []
        · rw [if_pos h3] at h k; exact h.trans k.symm
        · rw [if_neg h3] at h k
          by_cases h4 : st = intT
          · rw [if_pos h4] at h k
            obtain ⟨o, a, rfl⟩ := h
            obtain ⟨p, b, rfl⟩ := k
            rw [res_one a b]
          · rw [if_neg h4] at h k
            obtain ⟨o, a, rfl⟩ := h
            obtain ⟨p, b, rfl⟩ := k
            rw [sh_one a b]
theorem fmt_plain {x : SyN} {n : Num} (g : Good n) (hd : x.de ≠ []) : FmtP x (txt n) [] (texR x n, 0) := by
  unfold FmtP
  rw [spl_of g]
  simp only
  rw [if_neg (by simp), if_neg hd]
  simp

/-! ### Groups -/
/-- What the law counts in a text with separators 0: what is no separator, how many separators, how much behind the last one. -/
def cntZ : Str → Str × Nat × Nat → Str × Nat × Nat
  | [], p => p
  | c :: s, (r, l, g) => if c = 0 then cntZ s (r, 0, g + 1) else cntZ s (r ++ [c], l + 1, g)
theorem cntZ_app : ∀ (a b : Str) (p : Str × Nat × Nat), cntZ (a ++ b) p = cntZ b (cntZ a p)
  | [], _, _ => rfl
  | c :: a, b, (r, l, g) => by
    rw [List.cons_append, cntZ, cntZ]
    split <;> exact cntZ_app a b _
theorem cntZ_plain : ∀ {a : Str} (r : Str) (l g : Nat), 0 ∉ a → cntZ a (r, l, g) = (r ++ a, l + a.length, g)
  | [], r, l, g, _ => by simp [cntZ]
  | c :: a, r, l, g, h => by
    rw [cntZ, if_neg (fun e => h (by simp [e])), cntZ_plain _ _ _ (fun k => h (by simp [k]))]
    simp
    omega
theorem frG_cnt {size : Nat} (hs : 0 < size) {d : Str} (hd : 0 ∉ d) : ∀ (k : Nat), k ≤ d.length → ∃ l g, cntZ (frG [0] size d k) ([], 0, 0) = (d.take k, l, g) := by
  intro k
  induction k using Nat.strongRecOn with
  | _ k ih =>
    intro hk
    by_cases h : k ≤ size
    · rw [frG_small h, cntZ_plain _ _ _ (fun e => hd (List.mem_of_mem_take e))]
      exact ⟨_, _, by rw [List.nil_append]⟩
    · obtain ⟨l, g, e⟩ := ih (k - size) (by omega) (by omega)
      rw [frG_big hs (by omega), cntZ_app, e, List.singleton_append, cntZ, if_pos rfl, cntZ_plain _ _ _ (fun e => hd (List.mem_of_mem_drop (List.mem_of_mem_take e)))]
      rw [← List.take_add, show k - size + size = k by omega]
      exact ⟨_, _, rfl⟩
/-- P15.4. -/
theorem grp_cnt {x : SyN} (hx : x.gr = [0]) {d : Str} (hd : 0 ∉ d) : ∃ l g, cntZ (grpR x d) ([], 0, 0) = (d, l, g) ∧ (g = 0 ∨ (l : Int) = x.pr) := by
  unfold grpR
  split
  · rw [cntZ_plain _ _ _ hd]
    exact ⟨_, 0, by rw [List.nil_append], .inl rfl⟩
  · rename_i h
    obtain ⟨l, g, e⟩ := frG_cnt (sizG_pos (fun k => h (.inl k))) hd (d.length - x.pr.toNat) (by omega)
    rw [hx, cntZ_app, e, List.singleton_append, cntZ, if_pos rfl, cntZ_plain _ _ _ (fun e => hd (List.mem_of_mem_drop e)), List.take_append_drop]
    refine ⟨_, _, rfl, .inr ?_⟩
    rw [List.length_drop]
    omega
end Go.Proofs.YteofkofgdhmpjaaDoor
