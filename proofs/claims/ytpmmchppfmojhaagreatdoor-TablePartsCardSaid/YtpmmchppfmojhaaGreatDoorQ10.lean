/- What the row stands on, part 10. -/
import Derived.Test.YtpmmchppfmojhaaGreatDoorQ9

/- Tokens, plain: what the reference finds; offsets, blanks, spelled lines. -/
namespace Go.Proofs.YtpmmchppfmojhaaGreatDoor
set_option linter.unusedVariables false

def isPart (c : UInt8) : Bool := (decide (97 ≤ c.toNat) && decide (c.toNat ≤ 122)) || (decide (65 ≤ c.toNat) && decide (c.toNat ≤ 90)) || (decide (48 ≤ c.toNat) && decide (c.toNat ≤ 57)) || decide (c.toNat = 45) || decide (c.toNat = 95)
def isBlk (c : UInt8) : Bool := decide (c.toNat = 32) || decide (c.toNat = 9) || decide (c.toNat = 10) || decide (c.toNat = 13)
def isMk (c : UInt8) : Bool := decide (c.toNat = 123) || decide (c.toNat = 125) || decide (c.toNat = 59)
/-- The length of the word ahead. -/
def wordN : List UInt8 → Nat
  | [] => 0
  | c :: l => if isPart c = true then wordN l + 1 else 0
/-- How many bytes are skipped; whether a comment is being read. -/
def skN : Bool → List UInt8 → Nat
  | _, [] => 0
  | false, c :: l => if isBlk c = true then skN false l + 1 else if c.toNat = 35 then skN true l + 1 else 0
  | true, c :: l => if c.toNat = 10 then skN false l + 1 else skN true l + 1
/-- A token: kind, text, offset. -/
structure Tok where
  kd : Nat
  tx : List UInt8
  at_ : Nat
/-- The token ahead of a string that is not empty: an error with its place, or a kind, a text and a width. -/
inductive TRes where
  | bad (d e : Nat)
  | tok (kd : Nat) (tx : List UInt8) (n : Nat)
def quoR (l : List UInt8) : TRes := match endF 2 34 l with
  | none => .bad 0 3
  | some k => if (un 2 (l.take k)).1 = false then .bad (1 + (un 2 (l.take k)).2.2) 3
    else if 400 < (un 2 (l.take k)).2.1.length then .bad 0 6
    else if vld (un 2 (l.take k)).2.1 = false then .bad 0 4
    else .tok 2 (un 2 (l.take k)).2.1 (k + 2)
def oneR : List UInt8 → TRes
  | [] => .bad 0 0
  | c :: l => if 40 < wordN (c :: l) then .bad 0 6
    else if 0 < wordN (c :: l) then .tok 1 ((c :: l).take (wordN (c :: l))) (wordN (c :: l))
    else if c.toNat = 34 then quoR l
    else if isMk c = true then .tok 3 [c] 1
    else .bad 0 3
def toksF : Nat → Nat → List UInt8 → (Nat × Nat) ⊕ List Tok
  | 0, _, _ => .inr []
  | f + 1, o, s => if s.drop (skN false s) = [] then .inr [] else
    match oneR (s.drop (skN false s)) with
    | .bad d e => .inl (o + skN false s + d, e)
    | .tok kd tx n => match toksF f (o + skN false s + n) (s.drop (skN false s + n)) with
      | .inl e => .inl e
      | .inr ts => .inr (⟨kd, tx, o + skN false s⟩ :: ts)
def toks (s : List UInt8) : (Nat × Nat) ⊕ List Tok := toksF (s.length + 1) 0 s
theorem oneR_cons (c : UInt8) (l : List UInt8) : oneR (c :: l) = if 40 < wordN (c :: l) then .bad 0 6
    else if 0 < wordN (c :: l) then .tok 1 ((c :: l).take (wordN (c :: l))) (wordN (c :: l))
    else if c.toNat = 34 then quoR l
    else if isMk c = true then .tok 3 [c] 1
    else .bad 0 3 := rfl
theorem wordN_le : ∀ l : List UInt8, wordN l ≤ l.length
  | [] => Nat.le_refl _
  | c :: l => by
    have := wordN_le l
    rw [wordN, List.length_cons]
    split <;> omega
theorem skN_le : ∀ (b : Bool) (l : List UInt8), skN b l ≤ l.length
  | b, [] => by cases b <;> exact Nat.le_refl _
  | false, c :: l => by
    have h1 := skN_le false l
    have h2 := skN_le true l
    rw [skN, List.length_cons]
    split
    · omega
    · split <;> omega
  | true, c :: l => by
    have h1 := skN_le false l
    have h2 := skN_le true l
    rw [skN, List.length_cons]
    split <;> omega
theorem endF_lt {st d : Nat} : ∀ (n : Nat) (l : List UInt8) (k : Nat), l.length ≤ n → endF st d l = some k → k < l.length
  | _, [], k, _, h => by simp [endF] at h
  | _, [c], k, _, h => by
    simp only [endF] at h
    split at h
    · injection h with h; subst h; simp
    · cases h
  | 0, c :: x :: r, k, hl, _ => by simp at hl
  | n + 1, c :: x :: r, k, hl, h => by
    rw [List.length_cons, List.length_cons] at hl
    simp only [endF] at h
    split at h
    · injection h with h; subst h; simp
    · split at h
      · cases he : endF st d r with
        | none => rw [he] at h; cases h
        | some j =>
          rw [he] at h
          simp at h
          have := endF_lt n r j (by omega) he
          rw [List.length_cons, List.length_cons]
          omega
      · cases he : endF st d (x :: r) with
        | none => rw [he] at h; cases h
        | some j =>
          rw [he] at h
          simp at h
          have := endF_lt n (x :: r) j (by rw [List.length_cons]; omega) he
          simp only [List.length_cons] at this ⊢
          omega
theorem endF_app {st d : Nat} : ∀ (n : Nat) (l r : List UInt8) (k : Nat), l.length ≤ n → endF st d l = some k → endF st d (l ++ r) = some k
  | _, [], r, k, _, h => by simp [endF] at h
  | _, [c], r, k, _, h => by
    simp only [endF] at h
    split at h
    · rename_i hc
      injection h with h; subst h
      cases r with
      | nil => simp [endF, hc]
      | cons x r => simp [endF, hc]
    · cases h
  | 0, c :: x :: l, r, k, hl, _ => by simp at hl
  | n + 1, c :: x :: l, r, k, hl, h => by
    rw [List.length_cons, List.length_cons] at hl
    show endF st d (c :: x :: (l ++ r)) = some k
    simp only [endF] at h ⊢
    split at h
    · rename_i hc
      rw [if_pos hc]; exact h
    · rename_i hc
      rw [if_neg hc]
      split at h
      · rename_i h2
        rw [if_pos h2]
        cases he : endF st d l with
        | none => rw [he] at h; cases h
        | some j => rw [he] at h; rw [endF_app n l r j (by omega) he]; exact h
      · rename_i h2
        rw [if_neg h2]
        cases he : endF st d (x :: l) with
        | none => rw [he] at h; cases h
        | some j =>
          rw [he] at h
          have := endF_app n (x :: l) r j (by rw [List.length_cons]; omega) he
          rw [show x :: (l ++ r) = (x :: l) ++ r from rfl, this]
          exact h
theorem un_lt {st : Nat} : ∀ (n : Nat) (l : List UInt8), l.length ≤ n → (un st l).1 = false → (un st l).2.2 < l.length
  | n, [], _, h => by rw [un_nil] at h; cases h
  | 0, c :: l, hl, _ => by simp at hl
  | n + 1, c :: l, hl, h => by
    have hne : (c :: l) ≠ [] := by simp
    by_cases h1 : (rd st (c :: l)).1 = []
    · rw [un_stop hne h1]
      simp
    · have hok := (rd_ok st (c :: l)).2.2 h1
      rw [un_go hne h1] at h ⊢
      unfold jn at h ⊢
      split at h
      · cases h
      · rename_i h3
        rw [if_neg h3]
        have h4 : (un st ((c :: l).drop (rd st (c :: l)).2)).1 = false := by simpa using h3
        have h5 : ((c :: l).drop (rd st (c :: l)).2).length = (c :: l).length - (rd st (c :: l)).2 := List.length_drop
        have := un_lt n ((c :: l).drop (rd st (c :: l)).2) (by rw [h5]; omega) h4
        rw [h5] at this
        show (rd st (c :: l)).2 + _ < _
        omega
/-! ### What one token is -/
theorem quoR_tok {l : List UInt8} {kd : Nat} {tx : List UInt8} {n : Nat} (h : quoR l = .tok kd tx n) : ∃ k, endF 2 34 l = some k ∧ un 2 (l.take k) = (true, tx, 0) ∧ kd = 2 ∧ n = k + 2 ∧ tx.length ≤ 400 ∧ vld tx = true := by
  unfold quoR at h
  cases he : endF 2 34 l with
  | none => rw [he] at h; cases h
  | some k =>
    rw [he] at h
    dsimp only at h
    split at h
    · cases h
    · rename_i h1
      split at h
      · cases h
      · rename_i h2
        split at h
        · cases h
        · rename_i h3
          injection h with e1 e2 e3
          subst e1 e2 e3
          have h1' : (un 2 (l.take k)).1 = true := by simpa using h1
          have hf := (un_form 2 (l.take k).length (l.take k)).1 h1'
          refine ⟨k, rfl, ?_, rfl, rfl, by omega, by simpa using h3⟩
          have hf : (un 2 (l.take k)).2.2 = 0 := hf
          rw [← h1', ← hf]
theorem quoR_of {l : List UInt8} {k : Nat} {tx : List UInt8} (h1 : endF 2 34 l = some k) (h2 : un 2 (l.take k) = (true, tx, 0)) (h3 : tx.length ≤ 400) (h4 : vld tx = true) : quoR l = .tok 2 tx (k + 2) := by
  unfold quoR
  rw [h1]
  dsimp only
  rw [h2]
  dsimp only
  rw [if_neg (by decide), if_neg (by omega), if_neg (by rw [h4]; decide)]
/-- A token that Spell takes. -/
def OkTok (kd : Nat) (tx : List UInt8) : Prop := (kd = 1 ∧ 0 < tx.length ∧ tx.length ≤ 40 ∧ wordN tx = tx.length) ∨ (kd = 2 ∧ tx.length ≤ 400 ∧ vld tx = true) ∨ (kd = 3 ∧ ∃ c, tx = [c] ∧ isMk c = true)
def spR (kd : Nat) (tx : List UInt8) : List UInt8 := if kd = 2 then 34 :: (escL 2 tx ++ [34]) else tx
theorem wordN_take : ∀ l : List UInt8, wordN (l.take (wordN l)) = wordN l
  | [] => rfl
  | c :: l => by
    rw [wordN]
    split
    · rename_i h
      rw [List.take_succ_cons, wordN, if_pos h, wordN_take l]
    · rfl
theorem wordN_app : ∀ (l r : List UInt8), (∀ c ∈ r.head?, isPart c = false) → wordN (l ++ r) = wordN l
  | [], [], _ => rfl
  | [], c :: r, h => by
    have := h c rfl
    show wordN (c :: r) = 0
    rw [wordN, if_neg (by rw [this]; decide)]
  | c :: l, r, h => by
    show wordN (c :: (l ++ r)) = wordN (c :: l)
    rw [wordN, wordN, wordN_app l r h]
theorem oneR_ok {s : List UInt8} {kd : Nat} {tx : List UInt8} {n : Nat} (h : oneR s = .tok kd tx n) : OkTok kd tx ∧ 0 < n ∧ n ≤ s.length := by
  cases s with
  | nil => cases h
  | cons c l =>
    rw [oneR_cons] at h
    have hw := wordN_le (c :: l)
    split at h
    · cases h
    · split at h
      · rename_i h1 h2
        injection h with e1 e2 e3
        subst e1 e2 e3
        refine ⟨.inl ⟨rfl, ?_, ?_, ?_⟩, h2, hw⟩
        · rw [List.length_take]; omega
        · rw [List.length_take]; omega
        · rw [wordN_take, List.length_take]; omega
      · split at h
        · obtain ⟨k, h1, h2, h3, h4, h5, h6⟩ := quoR_tok h
          subst h3 h4
          have := endF_lt l.length l k (Nat.le_refl _) h1
          exact ⟨.inr (.inl ⟨rfl, h5, h6⟩), by omega, by rw [List.length_cons]; omega⟩
        · split at h
          · rename_i h9
            injection h with e1 e2 e3
            subst e1 e2 e3
            exact ⟨.inr (.inr ⟨rfl, c, rfl, h9⟩), by omega, by rw [List.length_cons]; omega⟩
          · cases h
end Go.Proofs.YtpmmchppfmojhaaGreatDoor


/- Tokens, plain: joined strings, spelled lines, places. -/
namespace Go.Proofs.YtpmmchppfmojhaaGreatDoor
set_option linter.unusedVariables false

/-! ### Without offsets -/
abbrev KT := Nat × List UInt8
def gtF : Nat → List UInt8 → Nat ⊕ List KT
  | 0, _ => .inr []
  | f + 1, s => if s.drop (skN false s) = [] then .inr [] else
    match oneR (s.drop (skN false s)) with
    | .bad d e => .inl e
    | .tok kd tx n => match gtF f (s.drop (skN false s + n)) with
      | .inl e => .inl e
      | .inr ts => .inr ((kd, tx) :: ts)
def gt (s : List UInt8) : Nat ⊕ List KT := gtF (s.length + 1) s
def fgt : (Nat × Nat) ⊕ List Tok → Nat ⊕ List KT
  | .inl p => .inl p.2
  | .inr ts => .inr (ts.map fun t => (t.kd, t.tx))
theorem fgt_toksF : ∀ (f o : Nat) (s : List UInt8), fgt (toksF f o s) = gtF f s
  | 0, _, _ => rfl
  | f + 1, o, s => by
    rw [toksF, gtF]
    split
    · rfl
    · cases h : oneR (s.drop (skN false s)) with
      | bad d e => rfl
      | tok kd tx n =>
        dsimp only
        have ih := fgt_toksF f (o + skN false s + n) (s.drop (skN false s + n))
        cases h2 : toksF f (o + skN false s + n) (s.drop (skN false s + n)) with
        | inl e => rw [h2] at ih; rw [← ih]; rfl
        | inr ts => rw [h2] at ih; rw [← ih]; rfl
theorem fgt_toks (s : List UInt8) : fgt (toks s) = gt s := fgt_toksF _ _ _
theorem gtF_fuel : ∀ (f g : Nat) (s : List UInt8), s.length < f → s.length < g → gtF f s = gtF g s
  | 0, g, s, h, _ => by omega
  | f + 1, 0, s, _, h => by omega
  | f + 1, g + 1, s, hf, hg => by
    rw [gtF, gtF]
    split
    · rfl
    · rename_i hne
      cases h : oneR (s.drop (skN false s)) with
      | bad d e => rfl
      | tok kd tx n =>
        dsimp only
        have h1 := (oneR_ok h).2
        have h2 : (s.drop (skN false s)).length = s.length - skN false s := List.length_drop
        have h3 : (s.drop (skN false s + n)).length = s.length - (skN false s + n) := List.length_drop
        rw [gtF_fuel f g (s.drop (skN false s + n)) (by omega) (by omega)]
def cat (x : List KT) : Nat ⊕ List KT → Nat ⊕ List KT
  | .inl e => .inl e
  | .inr y => .inr (x ++ y)
theorem gt_nil {s : List UInt8} (h : s.drop (skN false s) = []) : gt s = .inr [] := by unfold gt; rw [gtF, if_pos h]
theorem gt_bad {s : List UInt8} (h : s.drop (skN false s) ≠ []) {d e : Nat} (h1 : oneR (s.drop (skN false s)) = .bad d e) : gt s = .inl e := by unfold gt; rw [gtF, if_neg h, h1]
theorem gt_tok {s : List UInt8} (h : s.drop (skN false s) ≠ []) {kd n : Nat} {tx : List UInt8} (h1 : oneR (s.drop (skN false s)) = .tok kd tx n) : gt s = cat [(kd, tx)] (gt (s.drop (skN false s + n))) := by
  have h2 := (oneR_ok h1).2
  have h3 : (s.drop (skN false s)).length = s.length - skN false s := List.length_drop
  have h4 : (s.drop (skN false s + n)).length = s.length - (skN false s + n) := List.length_drop
  have e : gt s = gtF (s.length + 1) s := rfl
  rw [e, gtF, if_neg h, h1]
  dsimp only
  unfold gt
  rw [gtF_fuel s.length ((s.drop (skN false s + n)).length + 1) (s.drop (skN false s + n)) (by omega) (by omega)]
  cases gtF ((s.drop (skN false s + n)).length + 1) (s.drop (skN false s + n)) <;> rfl
theorem gt_skip {s t : List UInt8} (h : s.drop (skN false s) = t.drop (skN false t)) : gt s = gt t := by
  by_cases h0 : s.drop (skN false s) = []
  · rw [gt_nil h0, gt_nil (h ▸ h0)]
  · have h0' : t.drop (skN false t) ≠ [] := h ▸ h0
    cases h1 : oneR (s.drop (skN false s)) with
    | bad d e => rw [gt_bad h0 h1, gt_bad h0' (h ▸ h1)]
    | tok kd tx n =>
      rw [gt_tok h0 h1, gt_tok h0' (h ▸ h1), ← List.drop_drop, ← List.drop_drop, h]

/-! ### Skipped bytes -/
theorem sk_all : ∀ (b : Bool) (a R : List UInt8), skN b a = a.length → skN b (a ++ 10 :: R) = a.length + 1 + skN false R
  | false, [], R, _ => by
    show skN false (10 :: R) = _
    rw [skN, if_pos (by decide)]
    simp; omega
  | true, [], R, _ => by
    show skN true (10 :: R) = _
    rw [skN, if_pos (by decide)]
    simp; omega
  | false, c :: a, R, h => by
    show skN false (c :: (a ++ 10 :: R)) = _
    rw [skN] at h ⊢
    rw [List.length_cons] at h ⊢
    split at h
    · rename_i h1
      rw [if_pos h1, sk_all false a R (by omega)]
      omega
    · rename_i h1
      rw [if_neg h1]
      split at h
      · rename_i h2
        rw [if_pos h2, sk_all true a R (by omega)]
        omega
      · omega
  | true, c :: a, R, h => by
    show skN true (c :: (a ++ 10 :: R)) = _
    rw [skN] at h ⊢
    rw [List.length_cons] at h ⊢
    split at h
    · rename_i h1
      rw [if_pos h1, sk_all false a R (by omega)]
      omega
    · rename_i h1
      rw [if_neg h1, sk_all true a R (by omega)]
      omega
theorem sk_part : ∀ (b : Bool) (a R : List UInt8), skN b a < a.length → skN b (a ++ R) = skN b a
  | b, [], R, h => by simp at h
  | false, c :: a, R, h => by
    show skN false (c :: (a ++ R)) = _
    rw [skN] at h ⊢
    rw [skN]
    rw [List.length_cons] at h
    split at h
    · rename_i h1
      rw [if_pos h1, if_pos h1, sk_part false a R (by omega)]
    · rename_i h1
      rw [if_neg h1, if_neg h1]
      split at h
      · rename_i h2
        rw [if_pos h2, if_pos h2, sk_part true a R (by omega)]
      · rename_i h2
        rw [if_neg h2, if_neg h2]
  | true, c :: a, R, h => by
    show skN true (c :: (a ++ R)) = _
    rw [skN] at h ⊢
    rw [skN]
    rw [List.length_cons] at h
    split at h
    · rename_i h1
      rw [if_pos h1, if_pos h1, sk_part false a R (by omega)]
    · rename_i h1
      rw [if_neg h1, if_neg h1, sk_part true a R (by omega)]

/-! ### Two strings with a line feed between them -/
theorem quoR_app {l : List UInt8} {kd n : Nat} {tx : List UInt8} (h : quoR l = .tok kd tx n) (R : List UInt8) : quoR (l ++ R) = .tok kd tx n := by
  obtain ⟨k, h1, h2, h3, h4, h5, h6⟩ := quoR_tok h
  have hk := endF_lt l.length l k (Nat.le_refl _) h1
  have h7 := endF_app l.length l R k (Nat.le_refl _) h1
  have h8 : (l ++ R).take k = l.take k := List.take_append_of_le_length (by omega)
  subst h3 h4
  exact quoR_of h7 (by rw [h8]; exact h2) h5 h6
theorem oneR_app {r : List UInt8} {kd n : Nat} {tx : List UInt8} (h : oneR r = .tok kd tx n) {R : List UInt8} (hR : ∀ c ∈ R.head?, isPart c = false) : oneR (r ++ R) = .tok kd tx n := by
  cases r with
  | nil => cases h
  | cons c l =>
    have hw : wordN (c :: (l ++ R)) = wordN (c :: l) := wordN_app (c :: l) R hR
    have hle := wordN_le (c :: l)
    show oneR (c :: (l ++ R)) = _
    rw [oneR_cons] at h ⊢
    rw [hw]
    split at h
    · cases h
    · rename_i h1
      rw [if_neg h1]
      split at h
      · rename_i h2
        rw [if_pos h2, show c :: (l ++ R) = (c :: l) ++ R from rfl, List.take_append_of_le_length hle]
        exact h
      · rename_i h2
        rw [if_neg h2]
        split at h
        · rename_i h3
          rw [if_pos h3]
          exact quoR_app h R
        · rename_i h3
          rw [if_neg h3]
          split at h
          · rename_i h4
            rw [if_pos h4]
            exact h
          · cases h
theorem cat_cat (x y : List KT) (r : Nat ⊕ List KT) : cat x (cat y r) = cat (x ++ y) r := by
  cases r with
  | inl e => rfl
  | inr z => show Sum.inr _ = Sum.inr _; rw [List.append_assoc]
theorem gt_app : ∀ (m : Nat) (a R : List UInt8) (x : List KT), a.length ≤ m → gt a = .inr x → gt (a ++ 10 :: R) = cat x (gt R) := fun m => by
  induction m with
  | zero =>
    intro a R x hm h
    have : a = [] := List.eq_nil_of_length_eq_zero (by omega)
    subst this
    rw [gt_nil (by simp)] at h
    injection h with h
    subst h
    have e : gt ([] ++ 10 :: R) = gt R := gt_skip (by
      have := sk_all false [] R rfl
      rw [this]
      show List.drop (0 + 1 + skN false R) (10 :: R) = _
      rw [show 0 + 1 + skN false R = skN false R + 1 by omega, List.drop_succ_cons])
    rw [e]
    cases gt R <;> rfl
  | succ m ih =>
    intro a R x hm h
    by_cases h0 : a.drop (skN false a) = []
    · rw [gt_nil h0] at h
      injection h with h
      subst h
      have hl : skN false a = a.length := by
        have h1 := skN_le false a
        have h2 : (a.drop (skN false a)).length = 0 := by rw [h0]; rfl
        rw [List.length_drop] at h2
        omega
      have e : gt (a ++ 10 :: R) = gt R := gt_skip (by
        rw [sk_all false a R hl, show a ++ 10 :: R = (a ++ [10]) ++ R by simp, Nat.add_assoc]
        rw [List.drop_append, List.drop_of_length_le (by simp), List.nil_append]
        congr 1
        simp
        omega)
      rw [e]
      cases gt R <;> rfl
    · have hlt : skN false a < a.length := by
        rcases Nat.lt_or_ge (skN false a) a.length with k | k
        · exact k
        · exact absurd (List.drop_of_length_le k) h0
      cases h1 : oneR (a.drop (skN false a)) with
      | bad d e => rw [gt_bad h0 h1] at h; cases h
      | tok kd tx n =>
        rw [gt_tok h0 h1] at h
        have h2 := (oneR_ok h1).2
        rw [List.length_drop] at h2
        have hd : (a ++ 10 :: R).drop (skN false (a ++ 10 :: R)) = a.drop (skN false a) ++ 10 :: R := by
          rw [sk_part false a _ hlt, List.drop_append_of_le_length (by omega)]
        have h3 : oneR ((a ++ 10 :: R).drop (skN false (a ++ 10 :: R))) = .tok kd tx n := by
          rw [hd]
          exact oneR_app h1 (fun c hc => by cases hc; decide)
        have hne : (a ++ 10 :: R).drop (skN false (a ++ 10 :: R)) ≠ [] := by rw [hd]; simp
        rw [gt_tok hne h3]
        have hd2 : (a ++ 10 :: R).drop (skN false (a ++ 10 :: R) + n) = a.drop (skN false a + n) ++ 10 :: R := by
          rw [sk_part false a _ hlt, List.drop_append_of_le_length (by omega)]
        rw [hd2]
        cases h4 : gt (a.drop (skN false a + n)) with
        | inl e => rw [h4] at h; cases h
        | inr y =>
          rw [h4] at h
          injection h with h
          subst h
          rw [ih _ R y (by rw [List.length_drop]; omega) h4, cat_cat]
def lineF (l : List KT) : List UInt8 := l.flatMap fun t => 32 :: spR t.1 t.2
def lineS (l : List KT) : List UInt8 := (lineF l).drop 1
theorem gt_okF : ∀ (f : Nat) (s : List UInt8) (l : List KT), gtF f s = .inr l → ∀ t ∈ l, OkTok t.1 t.2
  | 0, _, l, h => by injection h with h; subst h; intro t ht; cases ht
  | f + 1, s, l, h => by
    rw [gtF] at h
    split at h
    · injection h with h; subst h; intro t ht; cases ht
    · cases h1 : oneR (s.drop (skN false s)) with
      | bad d e => rw [h1] at h; cases h
      | tok kd tx n =>
        rw [h1] at h
        dsimp only at h
        cases h2 : gtF f (s.drop (skN false s + n)) with
        | inl e => rw [h2] at h; cases h
        | inr y =>
          rw [h2] at h
          injection h with h
          subst h
          intro t ht
          rcases List.mem_cons.1 ht with rfl | ht
          · exact (oneR_ok h1).1
          · exact gt_okF f _ y h2 t ht

/-! ### Places -/
structure PlOk (o : Nat) (s : List UInt8) (t : Tok) : Prop where
  lo : o ≤ t.at_
  hi : t.at_ < o + s.length
  ch : ∃ c, s[t.at_ - o]? = some c ∧ ((t.kd = 2 ∧ c.toNat = 34) ∨ (t.kd ≠ 2 ∧ t.tx.head? = some c))
end Go.Proofs.YtpmmchppfmojhaaGreatDoor


/- Numbers of words, plain. -/
namespace Go.Proofs.YtpmmchppfmojhaaGreatDoor
set_option linter.unusedVariables false

def digB (c : UInt8) : Bool := decide (48 ≤ c.toNat) && decide (c.toNat ≤ 57)
def valN : Nat → List UInt8 → Nat
  | a, [] => a
  | a, c :: l => valN (10 * a + (c.toNat - 48)) l
def numE (a : Nat) (l : List UInt8) : Nat × Bool := if l.all digB = true then (valN a l, true) else (0, false)
/-- The number of a word. -/
def numR (s : List UInt8) : Nat × Bool := if s.length < 1 ∨ 6 < s.length ∨ (1 < s.length ∧ s.head? = some 48) then (0, false) else numE 0 s
end Go.Proofs.YtpmmchppfmojhaaGreatDoor


/- Tables, plain: the tokens of a table, and the parser; what is written is read. -/
namespace Go.Proofs.YtpmmchppfmojhaaGreatDoor
set_option linter.unusedVariables false

/-! ### Words -/
def kLoc : Str := [108, 111, 99, 97, 108, 101]
def kPar : Str := [112, 97, 114, 101, 110, 116]
def kAli : Str := [97, 108, 105, 97, 115]
def kNea : Str := [110, 101, 97, 114]
def kDir : Str := [100, 105, 114, 101, 99, 116, 105, 111, 110]
def kCar : Str := [99, 97, 114, 100, 105, 110, 97, 108]
def kOrd : Str := [111, 114, 100, 105, 110, 97, 108]
def kSym : Str := [115, 121, 109, 98, 111, 108, 115]
def kLis : Str := [108, 105, 115, 116]
def kUni : Str := [117, 110, 105, 116]
def kDat : Str := [100, 97, 116, 101]
def kMon : Str := [109, 111, 110, 116, 104, 115]
def kDay : Str := [100, 97, 121, 115]
def clsL : List Str := [[122, 101, 114, 111], [111, 110, 101], [116, 119, 111], [102, 101, 119], [109, 97, 110, 121]]
def cls6 : List Str := clsL ++ [[111, 116, 104, 101, 114]]
def dirL : List Str := [[108, 116, 114], [114, 116, 108]]
def okW (t : Str) : Prop := OkTok 1 t
def okX (t : Str) : Prop := OkTok 2 t
/-! ### The parser: a table, or none -/
abbrev Ts := List KT
def thn {α β : Type} (o : Option (α × Ts)) (f : α → Ts → Option β) : Option β := match o with
  | none => none
  | some p => f p.1 p.2
theorem thn_some {α β : Type} (a : α) (r : Ts) (f : α → Ts → Option β) : thn (some (a, r)) f = f a r := rfl
def tk1 (kd : Nat) : Ts → Option (Str × Ts)
  | [] => none
  | t :: r => if t.1 = kd then some (t.2, r) else none
theorem tk1_cons (kd : Nat) (t : Str) (r : Ts) : tk1 kd ((kd, t) :: r) = some (t, r) := if_pos rfl
def mkP (c : UInt8) (l : Ts) : Option (Unit × Ts) := thn (tk1 3 l) fun t r => if t = [c] then some ((), r) else none
theorem mkP_cons (c : UInt8) (r : Ts) : mkP c ((3, [c]) :: r) = some ((), r) := by
  unfold mkP; rw [tk1_cons, thn_some, if_pos rfl]
def choP (L : List Str) (l : Ts) : Option (Str × Ts) := thn (tk1 1 l) fun t r => if t ∈ L then some (t, r) else none
def numP (m : Nat) (l : Ts) : Option (Nat × Ts) := thn (tk1 1 l) fun t r => if (numR t).2 = true ∧ (numR t).1 ≤ m then some ((numR t).1, r) else none
def manyP : Nat → Ts → Option (List Str × Ts)
  | 0, l => some ([], l)
  | n + 1, l => thn (tk1 2 l) fun t r => thn (manyP n r) fun ts r2 => some (t :: ts, r2)
def rulP (l : Ts) : Option (Rul × Ts) := thn (choP clsL l) fun c r => thn (tk1 2 r) fun t r2 => match prsM t with
  | none => none
  | some d => some ((c, d), r2)
def semi {α : Type} (x : α) (l : Ts) : Option (α × Ts) := thn (mkP 59 l) fun _ r => some (x, r)
theorem semi_cons {α : Type} (x : α) (r : Ts) : semi x ((3, [59]) :: r) = some (x, r) := by
  unfold semi; rw [mkP_cons]; rfl
/-- An item of a locale. -/
def itemP (x : Loc) (l : Ts) : Option (Loc × Ts) := thn (tk1 1 l) fun k r =>
  if k = kDir then thn (choP dirL r) fun d r => if x.dir = [] then semi { x with dir := d } r else none
  else if k = kCar then thn (rulP r) fun u r => if u.1 ∈ x.ca.map Prod.fst then none else semi { x with ca := x.ca ++ [u] } r
  else if k = kOrd then thn (rulP r) fun u r => if u.1 ∈ x.oc.map Prod.fst then none else semi { x with oc := x.oc ++ [u] } r
  else if k = kSym then thn (manyP 4 r) fun ts r => thn (numP 9 r) fun p r => thn (numP 9 r) fun s r =>
    if ts.getD 0 [] = [] then none else if x.sy.de = [] then semi { x with sy := ⟨ts.getD 0 [], ts.getD 1 [], ts.getD 2 [], ts.getD 3 [], p, s⟩ } r else none
  else if k = kLis then thn (tk1 1 r) fun s r => thn (manyP 4 r) fun ts r =>
    if s ∈ x.li.map Lis.st ∨ 10 ≤ x.li.length then none else semi { x with li := x.li ++ [⟨s, ts.getD 0 [], ts.getD 1 [], ts.getD 2 [], ts.getD 3 []⟩] } r
  else if k = kUni then thn (tk1 1 r) fun u r => thn (choP cls6 r) fun c r => thn (tk1 2 r) fun p r =>
    if (u, c) ∈ x.un.map (fun y => (y.un, y.cl)) ∨ 100 ≤ x.un.length then none else semi { x with un := x.un ++ [⟨u, c, p⟩] } r
  else if k = kDat then thn (tk1 1 r) fun s r => thn (tk1 2 r) fun p r =>
    if s ∈ x.da.map Prod.fst ∨ 30 ≤ x.da.length then none else semi { x with da := x.da ++ [(s, p)] } r
  else if k = kMon then thn (manyP 12 r) fun ts r => if x.mo = [] then semi { x with mo := ts } r else none
  else if k = kDay then thn (manyP 7 r) fun ts r => if x.dy = [] then semi { x with dy := ts } r else none
  else none
def itemsP : Nat → Loc → Ts → Option (Loc × Ts)
  | 0, _, _ => none
  | f + 1, x, l => if l.head?.map Prod.fst = some 1 then thn (itemP x l) (itemsP f) else some (x, l)
def sym0 : Sym := ⟨[], [], [], [], 0, 0⟩
def loc0 (tag par : Str) : Loc := ⟨tag, par, [], [], [], sym0, [], [], [], [], []⟩
def parP (l : Ts) : Option (Str × Ts) := if l.head? = some (1, kPar) then thn (tk1 1 l) fun _ r => tk1 1 r else some ([], l)
def locP (l : Ts) : Option (Loc × Ts) := thn (tk1 1 l) fun tag r => thn (parP r) fun par r => thn (mkP 123 r) fun _ r =>
  thn (itemsP (r.length + 1) (loc0 tag par) r) fun x r => thn (mkP 125 r) fun _ r => some (x, r)
/-- A locale, an alias or a near entry. -/
def entP (t : Tab) (l : Ts) : Option (Tab × Ts) := thn (tk1 1 l) fun k r =>
  if k = kLoc then thn (locP r) fun x r => if 60 ≤ t.lo.length then none else some ({ t with lo := t.lo ++ [x] }, r)
  else if k = kAli then thn (tk1 1 r) fun f r => thn (tk1 1 r) fun g r => if 200 ≤ t.al.length then none else semi { t with al := t.al ++ [(f, g)] } r
  else if k = kNea then thn (tk1 1 r) fun f r => thn (tk1 1 r) fun g r => thn (numP 1000 r) fun n r => if 200 ≤ t.ne.length then none else semi { t with ne := t.ne ++ [⟨f, g, n⟩] } r
  else none
def entsP : Nat → Tab → Ts → Option Tab
  | 0, _, _ => none
  | f + 1, t, l => if l = [] then some t else thn (entP t l) (entsP f)
def tab0 : Tab := ⟨[], [], []⟩
/-- The table with these tokens. -/
def parT (l : Ts) : Option Tab := entsP (l.length + 1) tab0 l
/-! ### Valid tables -/
def rulesOk (l : List Rul) : Prop := (∀ r ∈ l, r.1 ∈ clsL ∧ okC r.2 = true) ∧ (l.map Prod.fst).Nodup
def symOk (s : Sym) : Prop := s = sym0 ∨ (s.de ≠ [] ∧ okX s.de ∧ okX s.gr ∧ okX s.mi ∧ okX s.pe ∧ 0 ≤ s.pr ∧ s.pr ≤ 9 ∧ 0 ≤ s.se ∧ s.se ≤ 9)
structure LocV (x : Loc) : Prop where
  tag : okW x.tag
  par : x.par = [] ∨ okW x.par
  dir : x.dir = [] ∨ x.dir ∈ dirL
  ca : rulesOk x.ca
  oc : rulesOk x.oc
  sy : symOk x.sy
  li : ∀ y ∈ x.li, okW y.st ∧ okX y.two ∧ okX y.sa ∧ okX y.md ∧ okX y.en
  liN : (x.li.map Lis.st).Nodup
  liL : x.li.length ≤ 10
  un : ∀ y ∈ x.un, okW y.un ∧ y.cl ∈ cls6 ∧ okX y.pt
  unN : (x.un.map (fun y => (y.un, y.cl))).Nodup
  unL : x.un.length ≤ 100
  da : ∀ y ∈ x.da, okW y.1 ∧ okX y.2
  daN : (x.da.map Prod.fst).Nodup
  daL : x.da.length ≤ 30
  mo : ∀ y ∈ x.mo, okX y
  moL : x.mo.length = 0 ∨ x.mo.length = 12
  dy : ∀ y ∈ x.dy, okX y
  dyL : x.dy.length = 0 ∨ x.dy.length = 7
structure TabV (t : Tab) : Prop where
  lo : ∀ x ∈ t.lo, LocV x
  loL : t.lo.length ≤ 60
  al : ∀ y ∈ t.al, okW y.1 ∧ okW y.2
  alL : t.al.length ≤ 200
  ne : ∀ y ∈ t.ne, okW y.fr ∧ okW y.to_ ∧ 0 ≤ y.co ∧ y.co ≤ 1000
  neL : t.ne.length ≤ 200
/-! ### Tokens of a table -/
def SC : KT := (3, [59])
def decT (n : Nat) : Str := if n < 1000 then dtx n else [49, 48, 48, 48]
def parTk (x : Loc) : Ts := if x.par = [] then [] else [(1, kPar), (1, x.par)]
end Go.Proofs.YtpmmchppfmojhaaGreatDoor


/- Tables, plain: the text of a table, and its tokens. -/
namespace Go.Proofs.YtpmmchppfmojhaaGreatDoor
set_option linter.unusedVariables false

/-! ### Reading one text behind another -/
/-- A line of an item, and one of an entry. -/
def itX (l : Ts) : Str := 9 :: (lineS l ++ [59, 10])
def enX (l : Ts) : Str := lineS l ++ [59, 10]
def ruX (k : Str) (u : Rul) : Str := itX [(1, k), (1, u.1), (2, cndT u.2)]
def dirX (d : Str) : Str := if d = [] then [] else itX [(1, kDir), (1, d)]
def syX (s : Sym) : Str := if s.de = [] then [] else itX [(1, kSym), (2, s.de), (2, s.gr), (2, s.mi), (2, s.pe), (1, decT s.pr.toNat), (1, decT s.se.toNat)]
def liX (y : Lis) : Str := itX [(1, kLis), (1, y.st), (2, y.two), (2, y.sa), (2, y.md), (2, y.en)]
def unX (y : Uni) : Str := itX [(1, kUni), (1, y.un), (1, y.cl), (2, y.pt)]
def daX (y : Str × Str) : Str := itX [(1, kDat), (1, y.1), (2, y.2)]
def namX (k : Str) (l : List Str) : Str := if l = [] then [] else itX ((1, k) :: l.map (fun t => ((2, t) : KT)))
def itsX (x : Loc) : Str := dirX x.dir ++ (x.ca.flatMap (ruX kCar) ++ (x.oc.flatMap (ruX kOrd) ++ (syX x.sy ++ (x.li.flatMap liX ++ (x.un.flatMap unX ++ (x.da.flatMap daX ++ (namX kMon x.mo ++ namX kDay x.dy)))))))
def loX (x : Loc) : Str := lineS ((1, kLoc) :: (1, x.tag) :: parTk x) ++ ([32, 123, 10] ++ (itsX x ++ [125, 10]))
def alX (y : Str × Str) : Str := enX [(1, kAli), (1, y.1), (1, y.2)]
def neX (y : Nea) : Str := enX [(1, kNea), (1, y.fr), (1, y.to_), (1, decT y.co.toNat)]
def tabX (t : Tab) : Str := t.lo.flatMap loX ++ (t.al.flatMap alX ++ t.ne.flatMap neX)
/-! ### Its tokens are tokens -/
/-- No letter that is escaped. -/
def okB (c : UInt8) : Prop := 32 ≤ c.toNat ∧ c.toNat < 127 ∧ c.toNat ≠ 34 ∧ c.toNat ≠ 92
instance (c : UInt8) : Decidable (okB c) := by unfold okB; exact inferInstance
def asc (l : Str) : Prop := ∀ c ∈ l, okB c
theorem asc_app {a b : Str} (h : asc a) (k : asc b) : asc (a ++ b) := fun c hc => (List.mem_append.1 hc).elim (h c) (k c)
theorem asc_dtx {n : Nat} (h : n ≤ 999) : asc (dtx n) := by
  have hd : ∀ m : Nat, m ≤ 9 → okB (UInt8.ofNat (48 + m)) := fun m hm => by
    unfold okB; rw [UInt8.toNat_ofNat']; omega
  unfold dtx
  split
  · intro c hc
    simp only [List.mem_cons, List.not_mem_nil, or_false] at hc
    subst hc
    exact hd n (by omega)
  · split
    · intro c hc
      simp only [List.mem_cons, List.not_mem_nil, or_false] at hc
      rcases hc with rfl | rfl
      · exact hd _ (by omega)
      · exact hd _ (by omega)
    · intro c hc
      simp only [List.mem_cons, List.not_mem_nil, or_false] at hc
      rcases hc with rfl | rfl | rfl
      · exact hd _ (by omega)
      · exact hd _ (by omega)
      · exact hd _ (by omega)
theorem asc_jn {sep : Str} (hs : asc sep) : ∀ l : List Str, (∀ x ∈ l, asc x) → asc (jnOf8 sep l)
  | [], _ => fun c hc => by cases hc
  | [x], h => h x (by simp)
  | x :: y :: l, h => asc_app (h x (by simp)) (asc_app hs (asc_jn hs (y :: l) (fun z hz => h z (by simp at hz ⊢; exact .inr hz))))
theorem okEnd_100 {o n : Int} (h : okEnd o n = true) : n.toNat ≤ 999 := by have := okEnd_le h; omega
theorem asc_cnd {c : Cnd} (h : okC c = true) : asc (cndT c) := by
  unfold okC at h
  simp only [Bool.and_eq_true, List.all_eq_true] at h
  refine asc_jn (by unfold asc; decide) _ (fun x hx => ?_)
  obtain ⟨l, hl, rfl⟩ := List.mem_map.1 hx
  have hL := h.1.2 l hl
  unfold okL at hL
  simp only [Bool.and_eq_true, List.all_eq_true] at hL
  refine asc_jn (by unfold asc; decide) _ (fun y hy => ?_)
  obtain ⟨r, hr, rfl⟩ := List.mem_map.1 hy
  have hR := hL.2 r hr
  unfold okR at hR
  simp only [Bool.and_eq_true, List.all_eq_true] at hR
  have hmd : r.md.toNat ≤ 999 := by
    have := hR.1.1.1.2
    unfold okMod at this
    split at this
    · omega
    · split at this
      · omega
      · split at this
        · omega
        · cases this
  refine asc_app (asc_app (asc_app ?_ ?_) ?_) (asc_jn (by unfold asc; decide) _ (fun z hz => ?_))
  · intro c hc
    simp only [List.mem_cons, List.not_mem_nil, or_false] at hc
    subst hc
    unfold letr
    repeat' split
    all_goals decide
  · split
    · intro c hc; cases hc
    · exact asc_app (by unfold asc; decide) (asc_dtx hmd)
  · unfold sgnT
    split
    · unfold asc; decide
    · unfold asc; decide
  · obtain ⟨s, hs, rfl⟩ := List.mem_map.1 hz
    have hS := hR.2 s hs
    unfold okSp at hS
    simp only [Bool.and_eq_true] at hS
    refine asc_app (asc_dtx (okEnd_100 hS.1.1)) ?_
    split
    · intro c hc; cases hc
    · exact asc_app (by unfold asc; decide) (asc_dtx (okEnd_100 hS.1.2))
end Go.Proofs.YtpmmchppfmojhaaGreatDoor


/- Tables, plain: what is written is read: texts. -/
namespace Go.Proofs.YtpmmchppfmojhaaGreatDoor
set_option linter.unusedVariables false

theorem jn_sum (sep : Str) : ∀ l : List Str, (jnOf8 sep l).length ≤ (l.map (fun x => x.length + sep.length)).sum
  | [] => Nat.zero_le _
  | [x] => by simp [jnOf8]
  | x :: y :: l => by
    have ih := jn_sum sep (y :: l)
    show (x ++ (sep ++ jnOf8 sep (y :: l))).length ≤ _
    rw [List.length_append, List.length_append, List.map_cons, List.sum_cons]
    omega
theorem sum_le57 : ∀ l : List (List Rel), (∀ x ∈ l, 1 ≤ x.length ∧ ∀ r ∈ x, r.sp.length ≤ 4) → ((l.map lstT).map (fun x => x.length + 4)).sum ≤ 57 * (l.map List.length).sum
  | [], _ => Nat.le_refl _
  | x :: l, h => by
    have ih := sum_le57 l (fun y hy => h y (by simp [hy]))
    obtain ⟨h1, h2⟩ := h x (by simp)
    have h3 := lstT_len h2
    simp only [List.map_cons, List.sum_cons]
    omega
theorem cnd_len {c : Cnd} (h : okC c = true) : (cndT c).length ≤ 342 := by
  unfold okC at h
  simp only [Bool.and_eq_true, List.all_eq_true, decide_eq_true_eq] at h
  obtain ⟨⟨_, h2⟩, h3⟩ := h
  have h1 := jn_sum [32, 111, 114, 32] (c.map lstT)
  have h4 := sum_le57 c (fun x hx => by
    have hL := h2 x hx
    unfold okL at hL
    simp only [Bool.and_eq_true, List.all_eq_true, decide_eq_true_eq] at hL
    refine ⟨hL.1, fun r hr => ?_⟩
    have hR := hL.2 r hr
    unfold okR at hR
    simp only [Bool.and_eq_true, decide_eq_true_eq] at hR
    exact hR.1.2)
  unfold cntOf8 at h3
  have h5 : (jnOf8 [32, 111, 114, 32] (c.map lstT)).length ≤ ((c.map lstT).map (fun x => x.length + 4)).sum := h1
  show (jnOf8 [32, 111, 114, 32] (c.map lstT)).length ≤ 342
  omega
/-- The table with a text; none, if there is an error. -/
def prsT (s : Str) : Option Tab := if s.length ≤ 200000 then (match gt s with
  | .inl _ => none
  | .inr l => parT l) else none
end Go.Proofs.YtpmmchppfmojhaaGreatDoor


/- The example of the laws, plain. -/
namespace Go.Proofs.YtpmmchppfmojhaaGreatDoor
set_option linter.unusedVariables false
set_option maxRecDepth 1000000 in
theorem aw_tab : prsT [97, 108, 105, 97, 115, 32, 105, 119, 32, 104, 101, 59] = some ⟨[], [([105, 119], [104, 101])], []⟩ := by decide +kernel
end Go.Proofs.YtpmmchppfmojhaaGreatDoor


