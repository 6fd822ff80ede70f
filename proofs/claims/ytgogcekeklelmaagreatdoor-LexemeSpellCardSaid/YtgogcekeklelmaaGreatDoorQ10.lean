/- What the row stands on, part 10. -/
import Derived.Test.YtgogcekeklelmaaGreatDoorQ9

/- Tokens, plain: what the reference finds; offsets, blanks, spelled lines. -/
namespace Go.Proofs.YtgogcekeklelmaaGreatDoor
set_option linter.unusedVariables false

def isPart (c : UInt8) : Bool := (decide (97 ≤ c.toNat) && decide (c.toNat ≤ 122)) || (decide (65 ≤ c.toNat) && decide (c.toNat ≤ 90)) || (decide (48 ≤ c.toNat) && decide (c.toNat ≤ 57)) || decide (c.toNat = 45) || decide (c.toNat = 95)
def isBlk (c : UInt8) : Bool := decide (c.toNat = 32) || decide (c.toNat = 9) || decide (c.toNat = 10) || decide (c.toNat = 13)
def isMk (c : UInt8) : Bool := decide (c.toNat = 123) || decide (c.toNat = 125) || decide (c.toNat = 59)
/-- The length of the word ahead. -/
def wordN : List UInt8 → Nat
  | [] => 0
  | c :: l => if isPart c = true then wordN l + 1 else 0
/-- How many bytes are skipped; whether a comment is being read. -/
def skN : Bool → List UInt8 → Nat
  | _, [] => 0
  | false, c :: l => if isBlk c = true then skN false l + 1 else if c.toNat = 35 then skN true l + 1 else 0
  | true, c :: l => if c.toNat = 10 then skN false l + 1 else skN true l + 1
/-- A token: kind, text, offset. -/
structure Tok where
  kd : Nat
  tx : List UInt8
  at_ : Nat
/-- The token ahead of a string that is not empty: an error with its place, or a kind, a text and a width. -/
inductive TRes where
  | bad (d e : Nat)
  | tok (kd : Nat) (tx : List UInt8) (n : Nat)
def quoR (l : List UInt8) : TRes := match endF 2 34 l with
  | none => .bad 0 3
  | some k => if (un 2 (l.take k)).1 = false then .bad (1 + (un 2 (l.take k)).2.2) 3
    else if 400 < (un 2 (l.take k)).2.1.length then .bad 0 6
    else if vld (un 2 (l.take k)).2.1 = false then .bad 0 4
    else .tok 2 (un 2 (l.take k)).2.1 (k + 2)
def oneR : List UInt8 → TRes
  | [] => .bad 0 0
  | c :: l => if 40 < wordN (c :: l) then .bad 0 6
    else if 0 < wordN (c :: l) then .tok 1 ((c :: l).take (wordN (c :: l))) (wordN (c :: l))
    else if c.toNat = 34 then quoR l
    else if isMk c = true then .tok 3 [c] 1
    else .bad 0 3
def toksF : Nat → Nat → List UInt8 → (Nat × Nat) ⊕ List Tok
  | 0, _, _ => .inr []
  | f + 1, o, s => if s.drop (skN false s) = [] then .inr [] else
    match oneR (s.drop (skN false s)) with
    | .bad d e => .inl (o + skN false s + d, e)
    | .tok kd tx n => match toksF f (o + skN false s + n) (s.drop (skN false s + n)) with
      | .inl e => .inl e
      | .inr ts => .inr (⟨kd, tx, o + skN false s⟩ :: ts)
def toks (s : List UInt8) : (Nat × Nat) ⊕ List Tok := toksF (s.length + 1) 0 s
theorem oneR_cons (c : UInt8) (l : List UInt8) : oneR (c :: l) = if 40 < wordN (c :: l) then .bad 0 6
    else if 0 < wordN (c :: l) then .tok 1 ((c :: l).take (wordN (c :: l))) (wordN (c :: l))
    else if c.toNat = 34 then quoR l
    else if isMk c = true then .tok 3 [c] 1
    else .bad 0 3 := rfl
theorem wordN_le : ∀ l : List UInt8, wordN l ≤ l.length
  | [] => Nat.le_refl _
  | c :: l => by
    have := wordN_le l
    rw [wordN, List.length_cons]
    split <;> omega
theorem skN_le : ∀ (b : Bool) (l : List UInt8), skN b l ≤ l.length
  | b, [] => by cases b <;> exact Nat.le_refl _
  | false, c :: l => by
    have h1 := skN_le false l
    have h2 := skN_le true l
    rw [skN, List.length_cons]
    split
    · omega
    · split <;> omega
  | true, c :: l => by
    have h1 := skN_le false l
    have h2 := skN_le true l
    rw [skN, List.length_cons]
    split <;> omega
theorem endF_lt {st d : Nat} : ∀ (n : Nat) (l : List UInt8) (k : Nat), l.length ≤ n → endF st d l = some k → k < l.length
  | _, [], k, _, h => by simp [endF] at h
  | _, [c], k, _, h => by
    simp only [endF] at h
    split at h
    · injection h with h; subst h; simp
    · cases h
  | 0, c :: x :: r, k, hl, _ => by simp at hl
  | n + 1, c :: x :: r, k, hl, h => by
    rw [List.length_cons, List.length_cons] at hl
    simp only [endF] at h
    split at h
    · injection h with h; subst h; simp
    · split at h
      · cases he : endF st d r with
        | none => rw [he] at h; cases h
        | some j =>
          rw [he] at h
          simp at h
          have := endF_lt n r j (by omega) he
          rw [List.length_cons, List.length_cons]
          omega
      · cases he : endF st d (x :: r) with
        | none => rw [he] at h; cases h
        | some j =>
          rw [he] at h
          simp at h
          have := endF_lt n (x :: r) j (by rw [List.length_cons]; omega) he
          simp only [List.length_cons] at this ⊢
          omega
theorem un_lt {st : Nat} : ∀ (n : Nat) (l : List UInt8), l.length ≤ n → (un st l).1 = false → (un st l).2.2 < l.length
  | n, [], _, h => by rw [un_nil] at h; cases h
  | 0, c :: l, hl, _ => by simp at hl
  | n + 1, c :: l, hl, h => by
    have hne : (c :: l) ≠ [] := by simp
    by_cases h1 : (rd st (c :: l)).1 = []
    · rw [un_stop hne h1]
      simp
    · have hok := (rd_ok st (c :: l)).2.2 h1
      rw [un_go hne h1] at h ⊢
      unfold jn at h ⊢
      split at h
      · cases h
      · rename_i h3
        rw [if_neg h3]
        have h4 : (un st ((c :: l).drop (rd st (c :: l)).2)).1 = false := by simpa using h3
        have h5 : ((c :: l).drop (rd st (c :: l)).2).length = (c :: l).length - (rd st (c :: l)).2 := List.length_drop
        have := un_lt n ((c :: l).drop (rd st (c :: l)).2) (by rw [h5]; omega) h4
        rw [h5] at this
        show (rd st (c :: l)).2 + _ < _
        omega
/-! ### What one token is -/
theorem quoR_tok {l : List UInt8} {kd : Nat} {tx : List UInt8} {n : Nat} (h : quoR l = .tok kd tx n) : ∃ k, endF 2 34 l = some k ∧ un 2 (l.take k) = (true, tx, 0) ∧ kd = 2 ∧ n = k + 2 ∧ tx.length ≤ 400 ∧ vld tx = true := by
  unfold quoR at h
  cases he : endF 2 34 l with
  | none => rw [he] at h; cases h
  | some k =>
    rw [he] at h
    dsimp only at h
    split at h
    · cases h
    · rename_i h1
      split at h
      · cases h
      · rename_i h2
        split at h
        · cases h
        · rename_i h3
          injection h with e1 e2 e3
          subst e1 e2 e3
          have h1' : (un 2 (l.take k)).1 = true := by simpa using h1
          have hf := (un_form 2 (l.take k).length (l.take k)).1 h1'
          refine ⟨k, rfl, ?_, rfl, rfl, by omega, by simpa using h3⟩
          have hf : (un 2 (l.take k)).2.2 = 0 := hf
          rw [← h1', ← hf]
/-- A token that Spell takes. -/
def OkTok (kd : Nat) (tx : List UInt8) : Prop := (kd = 1 ∧ 0 < tx.length ∧ tx.length ≤ 40 ∧ wordN tx = tx.length) ∨ (kd = 2 ∧ tx.length ≤ 400 ∧ vld tx = true) ∨ (kd = 3 ∧ ∃ c, tx = [c] ∧ isMk c = true)
def spR (kd : Nat) (tx : List UInt8) : List UInt8 := if kd = 2 then 34 :: (escL 2 tx ++ [34]) else tx
theorem wordN_take : ∀ l : List UInt8, wordN (l.take (wordN l)) = wordN l
  | [] => rfl
  | c :: l => by
    rw [wordN]
    split
    · rename_i h
      rw [List.take_succ_cons, wordN, if_pos h, wordN_take l]
    · rfl
theorem oneR_ok {s : List UInt8} {kd : Nat} {tx : List UInt8} {n : Nat} (h : oneR s = .tok kd tx n) : OkTok kd tx ∧ 0 < n ∧ n ≤ s.length := by
  cases s with
  | nil => cases h
  | cons c l =>
    rw [oneR_cons] at h
    have hw := wordN_le (c :: l)
    split at h
    · cases h
    · split at h
      · rename_i h1 h2
        injection h with e1 e2 e3
        subst e1 e2 e3
        refine ⟨.inl ⟨rfl, ?_, ?_, ?_⟩, h2, hw⟩
        · rw [List.length_take]; omega
        · rw [List.length_take]; omega
        · rw [wordN_take, List.length_take]; omega
      · split at h
        · obtain ⟨k, h1, h2, h3, h4, h5, h6⟩ := quoR_tok h
          subst h3 h4
          have := endF_lt l.length l k (Nat.le_refl _) h1
          exact ⟨.inr (.inl ⟨rfl, h5, h6⟩), by omega, by rw [List.length_cons]; omega⟩
        · split at h
          · rename_i h9
            injection h with e1 e2 e3
            subst e1 e2 e3
            exact ⟨.inr (.inr ⟨rfl, c, rfl, h9⟩), by omega, by rw [List.length_cons]; omega⟩
          · cases h
end Go.Proofs.YtgogcekeklelmaaGreatDoor


/- Tokens, plain: joined strings, spelled lines, places. -/
namespace Go.Proofs.YtgogcekeklelmaaGreatDoor
set_option linter.unusedVariables false

/-! ### Without offsets -/
abbrev KT := Nat × List UInt8
def lineF (l : List KT) : List UInt8 := l.flatMap fun t => 32 :: spR t.1 t.2
def lineS (l : List KT) : List UInt8 := (lineF l).drop 1
theorem lineS_snoc (l : List KT) (t : KT) : lineS (l ++ [t]) = (if l = [] then [] else lineS l ++ [32]) ++ spR t.1 t.2 := by
  unfold lineS lineF
  cases l with
  | nil => simp
  | cons x l => simp
structure PlOk (o : Nat) (s : List UInt8) (t : Tok) : Prop where
  lo : o ≤ t.at_
  hi : t.at_ < o + s.length
  ch : ∃ c, s[t.at_ - o]? = some c ∧ ((t.kd = 2 ∧ c.toNat = 34) ∨ (t.kd ≠ 2 ∧ t.tx.head? = some c))
end Go.Proofs.YtgogcekeklelmaaGreatDoor


/- Tokens, plain: one token after another, with offsets. -/
namespace Go.Proofs.YtgogcekeklelmaaGreatDoor
set_option linter.unusedVariables false

theorem sk_idemB : ∀ (b : Bool) (s : List UInt8), skN false (s.drop (skN b s)) = 0
  | false, [] => rfl
  | true, [] => rfl
  | false, c :: l => by
    by_cases h1 : isBlk c = true
    · rw [show skN false (c :: l) = skN false l + 1 by rw [skN, if_pos h1], List.drop_succ_cons]
      exact sk_idemB false l
    · by_cases h2 : c.toNat = 35
      · rw [show skN false (c :: l) = skN true l + 1 by rw [skN, if_neg h1, if_pos h2], List.drop_succ_cons]
        exact sk_idemB true l
      · have e : skN false (c :: l) = 0 := by rw [skN, if_neg h1, if_neg h2]
        rw [e, List.drop_zero, e]
  | true, c :: l => by
    by_cases h1 : c.toNat = 10
    · rw [show skN true (c :: l) = skN false l + 1 by rw [skN, if_pos h1], List.drop_succ_cons]
      exact sk_idemB false l
    · rw [show skN true (c :: l) = skN true l + 1 by rw [skN, if_neg h1], List.drop_succ_cons]
      exact sk_idemB true l
theorem sk_idem (s : List UInt8) : skN false (s.drop (skN false s)) = 0 := sk_idemB false s
theorem toksF_fuel : ∀ (f g o : Nat) (s : List UInt8), s.length < f → s.length < g → toksF f o s = toksF g o s
  | 0, g, o, s, h, _ => by omega
  | f + 1, 0, o, s, _, h => by omega
  | f + 1, g + 1, o, s, hf, hg => by
    rw [toksF, toksF]
    split
    · rfl
    · cases h : oneR (s.drop (skN false s)) with
      | bad d e => rfl
      | tok kd tx n =>
        dsimp only
        have h1 := (oneR_ok h).2
        have h2 : (s.drop (skN false s)).length = s.length - skN false s := List.length_drop
        have h3 : (s.drop (skN false s + n)).length = s.length - (skN false s + n) := List.length_drop
        rw [toksF_fuel f g _ (s.drop (skN false s + n)) (by omega) (by omega)]
def toksN (o : Nat) (s : List UInt8) : (Nat × Nat) ⊕ List Tok := toksF (s.length + 1) o s
def catT (x : List Tok) : (Nat × Nat) ⊕ List Tok → (Nat × Nat) ⊕ List Tok
  | .inl e => .inl e
  | .inr y => .inr (x ++ y)
theorem catT_nil (r : (Nat × Nat) ⊕ List Tok) : catT [] r = r := by cases r <;> rfl
theorem catT_cat (x y : List Tok) (r : (Nat × Nat) ⊕ List Tok) : catT x (catT y r) = catT (x ++ y) r := by
  cases r with
  | inl e => rfl
  | inr z => show Sum.inr _ = Sum.inr _; rw [List.append_assoc]
theorem tkN_nil {o : Nat} {s : List UInt8} (h : s.drop (skN false s) = []) : toksN o s = .inr [] := by unfold toksN; rw [toksF, if_pos h]
theorem tkN_bad {o : Nat} {s : List UInt8} (h : s.drop (skN false s) ≠ []) {d e : Nat} (h1 : oneR (s.drop (skN false s)) = .bad d e) : toksN o s = .inl (o + skN false s + d, e) := by unfold toksN; rw [toksF, if_neg h, h1]
theorem tkN_tok {o : Nat} {s : List UInt8} (h : s.drop (skN false s) ≠ []) {kd n : Nat} {tx : List UInt8} (h1 : oneR (s.drop (skN false s)) = .tok kd tx n) : toksN o s = catT [⟨kd, tx, o + skN false s⟩] (toksN (o + skN false s + n) (s.drop (skN false s + n))) := by
  have h2 := (oneR_ok h1).2
  have h3 : (s.drop (skN false s)).length = s.length - skN false s := List.length_drop
  have h4 : (s.drop (skN false s + n)).length = s.length - (skN false s + n) := List.length_drop
  have e : toksN o s = toksF (s.length + 1) o s := rfl
  rw [e, toksF, if_neg h, h1]
  dsimp only
  unfold toksN
  rw [toksF_fuel s.length ((s.drop (skN false s + n)).length + 1) _ (s.drop (skN false s + n)) (by omega) (by omega)]
  cases toksF ((s.drop (skN false s + n)).length + 1) (o + skN false s + n) (s.drop (skN false s + n)) <;> rfl
theorem tkN_skip (o : Nat) (s : List UInt8) : toksN o s = toksN (o + skN false s) (s.drop (skN false s)) := by
  have hi := sk_idem s
  have hd : (s.drop (skN false s)).drop (skN false (s.drop (skN false s))) = s.drop (skN false s) := by rw [hi]; rfl
  by_cases h0 : s.drop (skN false s) = []
  · rw [tkN_nil h0, tkN_nil (by rw [hd]; exact h0)]
  · cases h1 : oneR (s.drop (skN false s)) with
    | bad d e =>
      rw [tkN_bad h0 h1, tkN_bad (by rw [hd]; exact h0) (by rw [hd]; exact h1), hi, Nat.add_zero]
    | tok kd tx n =>
      have a := tkN_tok (o := o) h0 h1
      have b := tkN_tok (o := o + skN false s) (s := s.drop (skN false s)) (by rw [hd]; exact h0) (by rw [hd]; exact h1)
      rw [a, b, hi, Nat.add_zero, Nat.zero_add, List.drop_drop]
theorem at_bad {o d e : Nat} {r : List UInt8} (hz : skN false r = 0) (h : oneR r = .bad d e) (hr : r ≠ []) : toksN o r = .inl (o + d, e) := by
  rw [tkN_bad (by rw [hz]; exact hr) (by rw [hz]; exact h), hz, Nat.add_zero]
theorem at_tok {o kd n : Nat} {tx r : List UInt8} (hz : skN false r = 0) (h : oneR r = .tok kd tx n) (hr : r ≠ []) :
    toksN o r = catT [⟨kd, tx, o⟩] (toksN (o + n + skN false (r.drop n)) ((r.drop n).drop (skN false (r.drop n)))) := by
  have a := tkN_tok (o := o) (s := r) (by rw [hz]; exact hr) (by rw [hz]; exact h)
  have b := tkN_skip (o + n) (r.drop n)
  rw [a, hz, Nat.add_zero, Nat.zero_add, b]
theorem toks_N (s : List UInt8) : toks s = toksN (skN false s) (s.drop (skN false s)) := by
  show toksN 0 s = _
  rw [tkN_skip, Nat.zero_add]
end Go.Proofs.YtgogcekeklelmaaGreatDoor


