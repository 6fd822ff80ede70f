/- What the row stands on, part 10. -/
import Derived.Test.YtgogcekeklelmaaDoorQ9

/- Plain facts on the escaped form: it is read back, joins, has no delimiter; letters stay. -/
namespace Go.Proofs.YtgogcekeklelmaaDoor
set_option linter.unusedVariables false

/-! ### joins -/
def decS (n : Nat) : List UInt8 := if n < 10 then [UInt8.ofNat (48 + n)] else if n < 100 then [UInt8.ofNat (48 + n / 10), UInt8.ofNat (48 + n % 10)] else [UInt8.ofNat (48 + n / 100), UInt8.ofNat (48 + n / 10 % 10), UInt8.ofNat (48 + n % 10)]
theorem dec_S (n : Nat) (h : n < 1000) : Lib.decDigits n = decS n := by
  unfold decS
  split
  · exact dec1 (by assumption)
  · split
    · exact dec2 (by omega) (by assumption)
    · exact dec3 (by omega) h
theorem num_read0 : ∀ n : Fin 128, charL 10 (decS n.1) = [UInt8.ofNat n.1] ∧ (decS n.1).all (fun c => c != 59 && c != 120 && c != 34 && c != 10 && c != 60) = true ∧ decS n.1 ≠ [] ∧ (decS n.1).length ≤ 3 := by decide +kernel
theorem hex_read0 : ∀ n : Fin 128, charL 16 [hexd (n.1 / 16), hexd (n.1 % 16)] = [UInt8.ofNat n.1] ∧ charL 16 [48, 48, hexd (n.1 / 16), hexd (n.1 % 16)] = [UInt8.ofNat n.1] ∧ (hexd (n.1 / 16)).toNat ≤ 55 ∧
    ([hexd (n.1 / 16), hexd (n.1 % 16)].all fun c => c != 34 && c != 61 && c != 58 && c != 35 && c != 10 && c != 92) = true := by decide +kernel
theorem indexByte_app (p r : List UInt8) (c : UInt8) (h : p.all (fun x => x != c) = true) : Lib.indexByte (p ++ c :: r) c = p.length := by
  induction p with
  | nil => simp [Lib.indexByte]
  | cons x p ih =>
    rw [List.all_cons, Bool.and_eq_true] at h
    have hx : (x == c) = false := by simpa using h.1
    rw [List.cons_append]
    unfold Lib.indexByte
    rw [hx, ih h.2]
    have : ¬ (((p.length : Nat) : Int) == -1) = true := by simp only [beq_iff_eq]; omega
    simp only [Bool.false_eq_true, if_false]
    rw [if_neg this]
    simp
theorem rdE_named (p r q : List UInt8) (hp : p.all (fun x => x != 59) = true) (hq : enL p = q) : rdE (38 :: (p ++ 59 :: r)) = (q, p.length + 2) := by
  unfold rdE
  have h1 : Lib.indexByte ((38 :: (p ++ 59 :: r)).drop 1) 59 = p.length := indexByte_app p r 59 hp
  rw [h1, if_neg (by omega)]
  simp [hq]
theorem rd4 (l : List UInt8) : rd 4 (38 :: l) = rdE (38 :: l) := by unfold rd; simp [byt]
theorem num_name (n : Nat) (h : n < 128) : enL (35 :: Lib.decDigits n) = [UInt8.ofNat n] := by
  obtain ⟨h1, h2, h3, h4⟩ := num_read0 ⟨n, h⟩
  simp only at h1 h2 h3 h4
  rw [dec_S n (by omega)]
  cases hd : decS n with
  | nil => exact absurd hd h3
  | cons x q =>
    rw [hd] at h1 h2 h4
    have hx : (x == 120) = false := by
      rw [List.all_cons, Bool.and_eq_true] at h2
      have := h2.1
      simp only [Bool.and_eq_true] at this
      simpa using this.1.1.1.2
    have hx' : ¬ (120 : UInt8) = x := fun e => by rw [← e] at hx; exact absurd hx (by decide)
    have h7 : (x :: q).length ≤ 7 := by omega
    have hpre : Lib.hasPrefix (35 :: x :: q) [35, 120] = false := by
      simp [Lib.hasPrefix, List.isPrefixOf, hx']
    unfold enL enN
    rw [if_neg (by simp), if_neg (by simp), if_neg (by simp), if_neg (by simp), if_neg (by simp), hpre]
    simp only [Bool.false_and, Bool.false_eq_true, if_false]
    have hp1 : Lib.hasPrefix (35 :: x :: q) [35] = true := by simp [Lib.hasPrefix, List.isPrefixOf]
    rw [hp1]
    simp only [List.drop_succ_cons, List.drop_zero]
    rw [if_pos (by simpa using h7), h1]
theorem ctl_lt {n : Nat} (h : ctl n = true) : n < 128 := by unfold ctl at h; simp at h; omega
theorem rd_ent (n : Nat) (hn : n < 256) (r : List UInt8) : rd 4 (entL n ++ r) = ([UInt8.ofNat n], (entL n).length) := by
  unfold entL
  by_cases a0 : n = 38
  · subst a0
    rw [if_pos rfl]
    show rd 4 (38 :: ([97, 109, 112] ++ 59 :: r)) = _
    rw [rd4, rdE_named [97, 109, 112] r [38] (by decide) (by decide)]
    rfl
  rw [if_neg a0]
  by_cases a1 : n = 60
  · subst a1
    rw [if_pos rfl]
    show rd 4 (38 :: ([108, 116] ++ 59 :: r)) = _
    rw [rd4, rdE_named [108, 116] r [60] (by decide) (by decide)]
    rfl
  rw [if_neg a1]
  by_cases a2 : n = 62
  · subst a2
    rw [if_pos rfl]
    show rd 4 (38 :: ([103, 116] ++ 59 :: r)) = _
    rw [rd4, rdE_named [103, 116] r [62] (by decide) (by decide)]
    rfl
  rw [if_neg a2]
  by_cases a3 : n = 34
  · subst a3
    rw [if_pos rfl]
    show rd 4 (38 :: ([113, 117, 111, 116] ++ 59 :: r)) = _
    rw [rd4, rdE_named [113, 117, 111, 116] r [34] (by decide) (by decide)]
    rfl
  rw [if_neg a3]
  by_cases hc : ctl n = true
  · rw [if_pos hc]
    have hlt := ctl_lt hc
    have e : numL n ++ r = 38 :: ((35 :: Lib.decDigits n) ++ 59 :: r) := by simp [numL]
    have hall : (35 :: Lib.decDigits n).all (fun x => x != 59) = true := by
      obtain ⟨_, h2, _, _⟩ := num_read0 ⟨n, hlt⟩
      rw [dec_S n (by omega), List.all_cons, Bool.and_eq_true]
      refine ⟨by decide, ?_⟩
      rw [List.all_eq_true] at h2 ⊢
      intro x hx
      have := h2 x hx
      simp only [Bool.and_eq_true] at this
      exact this.1.1.1.1
    rw [e, rd4, rdE_named _ r _ hall (num_name n hlt)]
    simp [numL]
  · rw [if_neg hc]
    unfold rd
    have hb : byt ([UInt8.ofNat n] ++ r) 0 = n := by simp [byt, toNat_of n hn]
    rw [hb]
    simp [a0, a1, a3]
theorem byt0 (a : UInt8) (l : List UInt8) : byt (a :: l) 0 = a.toNat := rfl
theorem rd_bs (st : Nat) (h : st ≠ 4) (l : List UInt8) : rd st (92 :: l) = rdB (92 :: l) := by
  unfold rd
  rw [byt0]
  rw [if_pos ⟨rfl, h⟩]
theorem tb_cases {st n : Nat} {f : Bool} (h : tb st n f = true) : n = 10 ∨ n = 13 ∨ n = 9 ∨ n = 92 ∨ n = 34 ∨ n = 61 ∨ n = 58 ∨ n = 35 ∨ n = 33 ∨ n = 123 ∨ n = 125 ∨ n = 32 := by
  unfold tb at h
  simp at h
  omega
theorem rd_tb (st n : Nat) (hs : st ≠ 4) (f : Bool) (h : tb st n f = true) (r : List UInt8) : rd st ([92, UInt8.ofNat (ltr n)] ++ r) = ([UInt8.ofNat n], 2) := by
  rw [List.cons_append, rd_bs st hs]
  rcases tb_cases h with rfl | rfl | rfl | rfl | rfl | rfl | rfl | rfl | rfl | rfl | rfl | rfl
  all_goals simp [rdB, byt, ltr, isSelf]
theorem rd_hex (st n : Nat) (hs : st ≠ 4) (hn : n < 128) (r : List UInt8) : rd st (hexL st n ++ r) = ([UInt8.ofNat n], (hexL st n).length) := by
  obtain ⟨h1, h2, h3, _⟩ := hex_read0 ⟨n, hn⟩
  simp only at h1 h2 h3
  by_cases a : st = 3
  · have e : hexL st n = [92, 117, 48, 48, hexd (n / 16), hexd (n % 16)] := by unfold hexL; rw [if_pos a]; rfl
    rw [e, List.cons_append, rd_bs st hs]
    unfold rdB
    simp [byt, isSelf, h2]
  · have e : hexL st n = [92, 120, hexd (n / 16), hexd (n % 16)] := by unfold hexL; rw [if_neg a]; rfl
    rw [e, List.cons_append, rd_bs st hs]
    unfold rdB
    simp [byt, isSelf, h1, h3]
theorem rd_one (st n : Nat) (hn : n < 256) (f : Bool) (r : List UInt8) : rd st (escOne st n f ++ r) = ([UInt8.ofNat n], (escOne st n f).length) := by
  by_cases h4 : st = 4
  · subst h4
    rw [escOne4]
    exact rd_ent n hn r
  · by_cases ht : tb st n f = true
    · rw [escOneT h4 ht]
      exact rd_tb st n h4 f ht r
    · have ht := Bool.eq_false_iff.2 ht
      by_cases hc : ctl n = true
      · rw [escOneC h4 ht hc]
        exact rd_hex st n h4 (ctl_lt hc) r
      · have hc := Bool.eq_false_iff.2 hc
        rw [escOneP h4 ht hc]
        have hb : byt ([UInt8.ofNat n] ++ r) 0 = n := by simp [byt, toNat_of n hn]
        have a : n ≠ 92 ∧ n ≠ 10 ∧ (n = 34 → st = 1) := by
          unfold tb at ht
          simp at ht
          omega
        unfold rd
        rw [hb]
        have h34 : ¬ (n = 34 ∧ st ≠ 1) := fun h => h.2 (a.2.2 h.1)
        rw [if_neg (fun h => a.1 h.1), if_neg (fun h => a.2.1 h.1), if_neg h34, if_neg (fun h => h4 h.2), if_neg (fun h => h4 h.2)]
        rfl
theorem escOne_ne (st n : Nat) (f : Bool) (hn : n < 256) : escOne st n f ≠ [] := fun h => by
  have := rd_one st n hn f []
  rw [h] at this
  simp only [List.nil_append, List.length_nil, Prod.mk.injEq] at this
  have h2 := rd_ok st []
  rw [this] at h2
  exact absurd (h2.2.2 (by simp)) (by simp)
theorem un_escF (st : Nat) (l : List UInt8) : ∀ f, un st (escF st f l) = (true, l, 0) := by
  induction l with
  | nil => intro f; rfl
  | cons c l ih =>
    intro f
    simp only [escF]
    have hr := rd_one st c.toNat c.toNat_lt f (escF st false l)
    have hne : escOne st c.toNat f ++ escF st false l ≠ [] := fun h => escOne_ne st c.toNat f c.toNat_lt (List.append_eq_nil_iff.1 h).1
    rw [un_go hne (by rw [hr]; simp), hr]
    simp only [List.drop_left', ih]
    simp [jn]
theorem un_escL (st : Nat) (l : List UInt8) : un st (escL st l) = (true, l, 0) := un_escF st l true

/-! ### no delimiter -/
def Delim (st d : Nat) : Prop := (st = 1 ∧ (d = 61 ∨ d = 58 ∨ d = 35)) ∨ (st ≠ 1 ∧ d = 34)
theorem endF_cons {st d : Nat} (c : UInt8) (r : List UInt8) (h : c.toNat ≠ d) (h92 : ¬ (c.toNat = 92 ∧ st ≠ 4)) : endF st d (c :: r) = (endF st d r).map (· + 1) := by
  cases r with
  | nil => simp [endF, h]
  | cons x r =>
    simp only [endF]
    rw [if_neg h, if_neg h92]
theorem endF_plain {st d : Nat} (p r : List UInt8) (h : ∀ c ∈ p, c.toNat ≠ d ∧ ¬ (c.toNat = 92 ∧ st ≠ 4)) : endF st d (p ++ r) = (endF st d r).map (· + p.length) := by
  induction p with
  | nil => cases h : endF st d r <;> simp [h]
  | cons c p ih =>
    rw [List.cons_append, endF_cons c _ (h c (by simp)).1 (h c (by simp)).2, ih (fun x hx => h x (by simp [hx]))]
    cases endF st d r <;> simp; omega
theorem endF_pair {st d : Nat} (x : UInt8) (r : List UInt8) (h : (92 : Nat) ≠ d) (h4 : st ≠ 4) : endF st d (92 :: x :: r) = (endF st d r).map (· + 2) := by
  show (if (92 : UInt8).toNat = d then some 0 else if (92 : UInt8).toNat = 92 ∧ st ≠ 4 then (endF st d r).map (· + 2) else (endF st d (x :: r)).map (· + 1)) = _
  have e : (92 : UInt8).toNat = 92 := rfl
  rw [e, if_neg h, if_pos ⟨rfl, h4⟩]
theorem entL_bytes : ∀ n : Fin 256, (if ctl n.1 = true then True else (entL n.1).all (fun c => c != 34 && c != 10 && c != 60) = true) := by decide +kernel
theorem entL_all (n : Nat) (h : n < 256) : ∀ c ∈ entL n, c.toNat ≠ 34 ∧ c.toNat ≠ 10 ∧ c.toNat ≠ 60 := by
  have key : (entL n).all (fun c => c != 34 && c != 10 && c != 60) = true := by
    by_cases hc : ctl n = true
    · have hlt := ctl_lt hc
      have e : entL n = numL n := by
        have : n ≠ 38 ∧ n ≠ 60 ∧ n ≠ 62 ∧ n ≠ 34 := by unfold ctl at hc; simp at hc; omega
        unfold entL
        simp [this.1, this.2.1, this.2.2.1, this.2.2.2, hc]
      obtain ⟨_, h2, _, _⟩ := num_read0 ⟨n, hlt⟩
      rw [e]
      unfold numL
      rw [dec_S n (by omega)]
      simp only [List.all_append, Bool.and_eq_true]
      refine ⟨⟨by decide, ?_⟩, by decide⟩
      rw [List.all_eq_true] at h2 ⊢
      intro x hx
      have := h2 x hx
      simp only [Bool.and_eq_true] at this ⊢
      exact ⟨⟨this.1.1.2, this.1.2⟩, this.2⟩
    · have := entL_bytes ⟨n, h⟩
      simp only at this
      rw [if_neg hc] at this
      exact this
  intro c hc
  have := List.all_eq_true.1 key c hc
  simp only [Bool.and_eq_true, bne_iff_ne] at this
  refine ⟨fun e => this.1.1 ?_, fun e => this.1.2 ?_, fun e => this.2 ?_⟩
  all_goals exact UInt8.toNat_inj.1 e
theorem escOne_skip (st n d : Nat) (hn : n < 256) (f : Bool) (hst : st = 1 ∨ st = 2 ∨ st = 3 ∨ st = 4) (hd : Delim st d) (r : List UInt8) :
    endF st d (escOne st n f ++ r) = (endF st d r).map (· + (escOne st n f).length) := by
  have hd92 : (92 : Nat) ≠ d := by unfold Delim at hd; omega
  by_cases h4 : st = 4
  · subst h4
    rw [escOne4]
    have : d = 34 := by unfold Delim at hd; omega
    subst this
    exact endF_plain _ r (fun c hc => ⟨(entL_all n hn c hc).1, fun h => h.2 rfl⟩)
  · by_cases ht : tb st n f = true
    · rw [escOneT h4 ht]
      exact endF_pair _ r hd92 h4
    · have ht := Bool.eq_false_iff.2 ht
      by_cases hc : ctl n = true
      · rw [escOneC h4 ht hc]
        obtain ⟨_, _, _, h5⟩ := hex_read0 ⟨n, ctl_lt hc⟩
        simp only at h5
        have hx : ∀ c ∈ [hexd (n / 16), hexd (n % 16)], c.toNat ≠ d ∧ ¬ (c.toNat = 92 ∧ st ≠ 4) := by
          intro c hc'
          have := List.all_eq_true.1 h5 c hc'
          simp only [Bool.and_eq_true, bne_iff_ne] at this
          obtain ⟨⟨⟨⟨⟨b1, b2⟩, b3⟩, b4⟩, b5⟩, b6⟩ := this
          refine ⟨fun e => ?_, fun e => b6 (UInt8.toNat_inj.1 e.1)⟩
          unfold Delim at hd
          rcases hd with ⟨_, rfl | rfl | rfl⟩ | ⟨_, rfl⟩
          · exact b2 (UInt8.toNat_inj.1 e)
          · exact b3 (UInt8.toNat_inj.1 e)
          · exact b4 (UInt8.toNat_inj.1 e)
          · exact b1 (UInt8.toNat_inj.1 e)
        by_cases a : st = 3
        · have e : hexL st n = 92 :: 117 :: ([48, 48] ++ [hexd (n / 16), hexd (n % 16)]) := by unfold hexL; rw [if_pos a]; rfl
          rw [e, List.cons_append, List.cons_append, endF_pair _ _ hd92 h4, endF_plain _ r ?_]
          · cases endF st d r <;> simp
          · intro c hc'
            rcases List.mem_append.1 hc' with h | h
            · have : c = 48 := by simpa using h
              subst this
              refine ⟨?_, fun e => absurd e.1 (by decide)⟩
              unfold Delim at hd
              show 48 ≠ d
              omega
            · exact hx c h
        · have e : hexL st n = 92 :: 120 :: [hexd (n / 16), hexd (n % 16)] := by unfold hexL; rw [if_neg a]; rfl
          rw [e, List.cons_append, List.cons_append, endF_pair _ _ hd92 h4, endF_plain _ r hx]
          cases endF st d r <;> simp
      · have hc := Bool.eq_false_iff.2 hc
        rw [escOneP h4 ht hc]
        refine endF_plain _ r (fun c hc' => ?_)
        have : c = UInt8.ofNat n := by simpa using hc'
        subst this
        rw [toNat_of n hn]
        unfold tb at ht
        simp at ht
        unfold Delim at hd
        omega
theorem escL_skip (st d : Nat) (hst : st = 1 ∨ st = 2 ∨ st = 3 ∨ st = 4) (hd : Delim st d) (l r : List UInt8) : ∀ f, endF st d (escF st f l ++ r) = (endF st d r).map (· + (escF st f l).length) := by
  induction l with
  | nil => intro f; cases h : endF st d r <;> simp [escF, h]
  | cons c l ih =>
    intro f
    simp only [escF]
    rw [List.append_assoc, escOne_skip st c.toNat d c.toNat_lt f hst hd, ih false]
    cases endF st d r <;> simp; omega
end Go.Proofs.YtgogcekeklelmaaDoor


/- Tokens, plain: what the reference finds; offsets, blanks, spelled lines. -/
namespace Go.Proofs.YtgogcekeklelmaaDoor
set_option linter.unusedVariables false

def isPart (c : UInt8) : Bool := (decide (97 ≤ c.toNat) && decide (c.toNat ≤ 122)) || (decide (65 ≤ c.toNat) && decide (c.toNat ≤ 90)) || (decide (48 ≤ c.toNat) && decide (c.toNat ≤ 57)) || decide (c.toNat = 45) || decide (c.toNat = 95)
def isBlk (c : UInt8) : Bool := decide (c.toNat = 32) || decide (c.toNat = 9) || decide (c.toNat = 10) || decide (c.toNat = 13)
def isMk (c : UInt8) : Bool := decide (c.toNat = 123) || decide (c.toNat = 125) || decide (c.toNat = 59)
/-- The length of the word ahead. -/
def wordN : List UInt8 → Nat
  | [] => 0
  | c :: l => if isPart c = true then wordN l + 1 else 0
/-- How many bytes are skipped; whether a comment is being read. -/
def skN : Bool → List UInt8 → Nat
  | _, [] => 0
  | false, c :: l => if isBlk c = true then skN false l + 1 else if c.toNat = 35 then skN true l + 1 else 0
  | true, c :: l => if c.toNat = 10 then skN false l + 1 else skN true l + 1
/-- A token: kind, text, offset. -/
structure Tok where
  kd : Nat
  tx : List UInt8
  at_ : Nat
/-- The token ahead of a string that is not empty: an error with its place, or a kind, a text and a width. -/
inductive TRes where
  | bad (d e : Nat)
  | tok (kd : Nat) (tx : List UInt8) (n : Nat)
def quoR (l : List UInt8) : TRes := match endF 2 34 l with
  | none => .bad 0 3
  | some k => if (un 2 (l.take k)).1 = false then .bad (1 + (un 2 (l.take k)).2.2) 3
    else if 400 < (un 2 (l.take k)).2.1.length then .bad 0 6
    else if vld (un 2 (l.take k)).2.1 = false then .bad 0 4
    else .tok 2 (un 2 (l.take k)).2.1 (k + 2)
def oneR : List UInt8 → TRes
  | [] => .bad 0 0
  | c :: l => if 40 < wordN (c :: l) then .bad 0 6
    else if 0 < wordN (c :: l) then .tok 1 ((c :: l).take (wordN (c :: l))) (wordN (c :: l))
    else if c.toNat = 34 then quoR l
    else if isMk c = true then .tok 3 [c] 1
    else .bad 0 3
def toksF : Nat → Nat → List UInt8 → (Nat × Nat) ⊕ List Tok
  | 0, _, _ => .inr []
  | f + 1, o, s => if s.drop (skN false s) = [] then .inr [] else
    match oneR (s.drop (skN false s)) with
    | .bad d e => .inl (o + skN false s + d, e)
    | .tok kd tx n => match toksF f (o + skN false s + n) (s.drop (skN false s + n)) with
      | .inl e => .inl e
      | .inr ts => .inr (⟨kd, tx, o + skN false s⟩ :: ts)
def toks (s : List UInt8) : (Nat × Nat) ⊕ List Tok := toksF (s.length + 1) 0 s
theorem oneR_cons (c : UInt8) (l : List UInt8) : oneR (c :: l) = if 40 < wordN (c :: l) then .bad 0 6
    else if 0 < wordN (c :: l) then .tok 1 ((c :: l).take (wordN (c :: l))) (wordN (c :: l))
    else if c.toNat = 34 then quoR l
    else if isMk c = true then .tok 3 [c] 1
    else .bad 0 3 := rfl
theorem wordN_le : ∀ l : List UInt8, wordN l ≤ l.length
  | [] => Nat.le_refl _
  | c :: l => by
    have := wordN_le l
    rw [wordN, List.length_cons]
    split <;> omega
theorem skN_le : ∀ (b : Bool) (l : List UInt8), skN b l ≤ l.length
  | b, [] => by cases b <;> exact Nat.le_refl _
  | false, c :: l => by
    have h1 := skN_le false l
    have h2 := skN_le true l
    rw [skN, List.length_cons]
    split
    · omega
    · split <;> omega
  | true, c :: l => by
    have h1 := skN_le false l
    have h2 := skN_le true l
    rw [skN, List.length_cons]
    split <;> omega
theorem endF_lt {st d : Nat} : ∀ (n : Nat) (l : List UInt8) (k : Nat), l.length ≤ n → endF st d l = some k → k < l.length
  | _, [], k, _, h => by simp [endF] at h
  | _, [c], k, _, h => by
    simp only [endF] at h
    split at h
    · injection h with h; subst h; simp
    · cases h
  | 0, c :: x :: r, k, hl, _ => by simp at hl
  | n + 1, c :: x :: r, k, hl, h => by
    rw [List.length_cons, List.length_cons] at hl
    simp only [endF] at h
    split at h
    · injection h with h; subst h; simp
    · split at h
      · cases he : endF st d r with
        | none => rw [he] at h; cases h
        | some j =>
          rw [he] at h
          simp at h
          have := endF_lt n r j (by omega) he
          rw [List.length_cons, List.length_cons]
          omega
      · cases he : endF st d (x :: r) with
        | none => rw [he] at h; cases h
        | some j =>
          rw [he] at h
          simp at h
          have := endF_lt n (x :: r) j (by rw [List.length_cons]; omega) he
          simp only [List.length_cons] at this ⊢
          omega
theorem endF_app {st d : Nat} : ∀ (n : Nat) (l r : List UInt8) (k : Nat), l.length ≤ n → endF st d l = some k → endF st d (l ++ r) = some k
  | _, [], r, k, _, h => by simp [endF] at h
  | _, [c], r, k, _, h => by
    simp only [endF] at h
    split at h
    · rename_i hc
      injection h with h; subst h
      cases r with
      | nil => simp [endF, hc]
      | cons x r => simp [endF, hc]
    · cases h
  | 0, c :: x :: l, r, k, hl, _ => by simp at hl
  | n + 1, c :: x :: l, r, k, hl, h => by
    rw [List.length_cons, List.length_cons] at hl
    show endF st d (c :: x :: (l ++ r)) = some k
    simp only [endF] at h ⊢
    split at h
    · rename_i hc
      rw [if_pos hc]; exact h
    · rename_i hc
      rw [if_neg hc]
      split at h
      · rename_i h2
        rw [if_pos h2]
        cases he : endF st d l with
        | none => rw [he] at h; cases h
        | some j => rw [he] at h; rw [endF_app n l r j (by omega) he]; exact h
      · rename_i h2
        rw [if_neg h2]
        cases he : endF st d (x :: l) with
        | none => rw [he] at h; cases h
        | some j =>
          rw [he] at h
          have := endF_app n (x :: l) r j (by rw [List.length_cons]; omega) he
          rw [show x :: (l ++ r) = (x :: l) ++ r from rfl, this]
          exact h
theorem un_lt {st : Nat} : ∀ (n : Nat) (l : List UInt8), l.length ≤ n → (un st l).1 = false → (un st l).2.2 < l.length
  | n, [], _, h => by rw [un_nil] at h; cases h
  | 0, c :: l, hl, _ => by simp at hl
  | n + 1, c :: l, hl, h => by
    have hne : (c :: l) ≠ [] := by simp
    by_cases h1 : (rd st (c :: l)).1 = []
    · rw [un_stop hne h1]
      simp
    · have hok := (rd_ok st (c :: l)).2.2 h1
      rw [un_go hne h1] at h ⊢
      unfold jn at h ⊢
      split at h
      · cases h
      · rename_i h3
        rw [if_neg h3]
        have h4 : (un st ((c :: l).drop (rd st (c :: l)).2)).1 = false := by simpa using h3
        have h5 : ((c :: l).drop (rd st (c :: l)).2).length = (c :: l).length - (rd st (c :: l)).2 := List.length_drop
        have := un_lt n ((c :: l).drop (rd st (c :: l)).2) (by rw [h5]; omega) h4
        rw [h5] at this
        show (rd st (c :: l)).2 + _ < _
        omega
/-! ### What one token is -/
theorem quoR_tok {l : List UInt8} {kd : Nat} {tx : List UInt8} {n : Nat} (h : quoR l = .tok kd tx n) : ∃ k, endF 2 34 l = some k ∧ un 2 (l.take k) = (true, tx, 0) ∧ kd = 2 ∧ n = k + 2 ∧ tx.length ≤ 400 ∧ vld tx = true := by
  unfold quoR at h
  cases he : endF 2 34 l with
  | none => rw [he] at h; cases h
  | some k =>
    rw [he] at h
    dsimp only at h
    split at h
    · cases h
    · rename_i h1
      split at h
      · cases h
      · rename_i h2
        split at h
        · cases h
        · rename_i h3
          injection h with e1 e2 e3
          subst e1 e2 e3
          have h1' : (un 2 (l.take k)).1 = true := by simpa using h1
          have hf := (un_form 2 (l.take k).length (l.take k)).1 h1'
          refine ⟨k, rfl, ?_, rfl, rfl, by omega, by simpa using h3⟩
          have hf : (un 2 (l.take k)).2.2 = 0 := hf
          rw [← h1', ← hf]
theorem quoR_of {l : List UInt8} {k : Nat} {tx : List UInt8} (h1 : endF 2 34 l = some k) (h2 : un 2 (l.take k) = (true, tx, 0)) (h3 : tx.length ≤ 400) (h4 : vld tx = true) : quoR l = .tok 2 tx (k + 2) := by
  unfold quoR
  rw [h1]
  dsimp only
  rw [h2]
  dsimp only
  rw [if_neg (by decide), if_neg (by omega), if_neg (by rw [h4]; decide)]
theorem quoR_bad {l : List UInt8} {d e : Nat} (h : quoR l = .bad d e) : d < l.length + 1 := by
  unfold quoR at h
  cases he : endF 2 34 l with
  | none => rw [he] at h; injection h with e1; omega
  | some k =>
    rw [he] at h
    have hk := endF_lt l.length l k (Nat.le_refl _) he
    dsimp only at h
    split at h
    · rename_i h1
      injection h with e1
      have := un_lt (l.take k).length (l.take k) (Nat.le_refl _) h1
      rw [List.length_take] at this
      omega
    · split at h
      · injection h with e1; omega
      · split at h
        · injection h with e1; omega
        · cases h
/-- A token that Spell takes. -/
def OkTok (kd : Nat) (tx : List UInt8) : Prop := (kd = 1 ∧ 0 < tx.length ∧ tx.length ≤ 40 ∧ wordN tx = tx.length) ∨ (kd = 2 ∧ tx.length ≤ 400 ∧ vld tx = true) ∨ (kd = 3 ∧ ∃ c, tx = [c] ∧ isMk c = true)
def spR (kd : Nat) (tx : List UInt8) : List UInt8 := if kd = 2 then 34 :: (escL 2 tx ++ [34]) else tx
theorem wordN_take : ∀ l : List UInt8, wordN (l.take (wordN l)) = wordN l
  | [] => rfl
  | c :: l => by
    rw [wordN]
    split
    · rename_i h
      rw [List.take_succ_cons, wordN, if_pos h, wordN_take l]
    · rfl
theorem wordN_app : ∀ (l r : List UInt8), (∀ c ∈ r.head?, isPart c = false) → wordN (l ++ r) = wordN l
  | [], [], _ => rfl
  | [], c :: r, h => by
    have := h c rfl
    show wordN (c :: r) = 0
    rw [wordN, if_neg (by rw [this]; decide)]
  | c :: l, r, h => by
    show wordN (c :: (l ++ r)) = wordN (c :: l)
    rw [wordN, wordN, wordN_app l r h]
theorem oneR_ok {s : List UInt8} {kd : Nat} {tx : List UInt8} {n : Nat} (h : oneR s = .tok kd tx n) : OkTok kd tx ∧ 0 < n ∧ n ≤ s.length := by
  cases s with
  | nil => cases h
  | cons c l =>
    rw [oneR_cons] at h
    have hw := wordN_le (c :: l)
    split at h
    · cases h
    · split at h
      · rename_i h1 h2
        injection h with e1 e2 e3
        subst e1 e2 e3
        refine ⟨.inl ⟨rfl, ?_, ?_, ?_⟩, h2, hw⟩
        · rw [List.length_take]; omega
        · rw [List.length_take]; omega
        · rw [wordN_take, List.length_take]; omega
      · split at h
        · obtain ⟨k, h1, h2, h3, h4, h5, h6⟩ := quoR_tok h
          subst h3 h4
          have := endF_lt l.length l k (Nat.le_refl _) h1
          exact ⟨.inr (.inl ⟨rfl, h5, h6⟩), by omega, by rw [List.length_cons]; omega⟩
        · split at h
          · rename_i h9
            injection h with e1 e2 e3
            subst e1 e2 e3
            exact ⟨.inr (.inr ⟨rfl, c, rfl, h9⟩), by omega, by rw [List.length_cons]; omega⟩
          · cases h
theorem oneR_bad {c : UInt8} {l : List UInt8} {d e : Nat} (h : oneR (c :: l) = .bad d e) : d < (c :: l).length := by
  rw [oneR_cons] at h
  rw [List.length_cons]
  split at h
  · injection h with e1; omega
  · split at h
    · cases h
    · split at h
      · exact quoR_bad h
      · split at h
        · cases h
        · injection h with e1; omega
/-- The first character of a token. -/
theorem oneR_first {c : UInt8} {l : List UInt8} {kd : Nat} {tx : List UInt8} {n : Nat} (h : oneR (c :: l) = .tok kd tx n) : (kd = 2 ∧ c.toNat = 34) ∨ (kd ≠ 2 ∧ tx.head? = some c) := by
  rw [oneR_cons] at h
  split at h
  · cases h
  · split at h
    · rename_i h1 h2
      injection h with e1 e2 e3
      subst e1 e2
      refine .inr ⟨by omega, ?_⟩
      obtain ⟨k, hk⟩ : ∃ k, wordN (c :: l) = k + 1 := ⟨wordN (c :: l) - 1, by omega⟩
      rw [hk, List.take_succ_cons]
      rfl
    · split at h
      · rename_i h3
        obtain ⟨k, _, _, h4, _⟩ := quoR_tok h
        exact .inl ⟨h4, h3⟩
      · split at h
        · injection h with e1 e2 e3
          subst e1 e2
          exact .inr ⟨by omega, rfl⟩
        · cases h
end Go.Proofs.YtgogcekeklelmaaDoor


/- Tokens, plain: joined strings, spelled lines, places. -/
namespace Go.Proofs.YtgogcekeklelmaaDoor
set_option linter.unusedVariables false

/-! ### Without offsets -/
abbrev KT := Nat × List UInt8
def gtF : Nat → List UInt8 → Nat ⊕ List KT
  | 0, _ => .inr []
  | f + 1, s => if s.drop (skN false s) = [] then .inr [] else
    match oneR (s.drop (skN false s)) with
    | .bad d e => .inl e
    | .tok kd tx n => match gtF f (s.drop (skN false s + n)) with
      | .inl e => .inl e
      | .inr ts => .inr ((kd, tx) :: ts)
def gt (s : List UInt8) : Nat ⊕ List KT := gtF (s.length + 1) s
def fgt : (Nat × Nat) ⊕ List Tok → Nat ⊕ List KT
  | .inl p => .inl p.2
  | .inr ts => .inr (ts.map fun t => (t.kd, t.tx))
theorem fgt_toksF : ∀ (f o : Nat) (s : List UInt8), fgt (toksF f o s) = gtF f s
  | 0, _, _ => rfl
  | f + 1, o, s => by
    rw [toksF, gtF]
    split
    · rfl
    · cases h : oneR (s.drop (skN false s)) with
      | bad d e => rfl
      | tok kd tx n =>
        dsimp only
        have ih := fgt_toksF f (o + skN false s + n) (s.drop (skN false s + n))
        cases h2 : toksF f (o + skN false s + n) (s.drop (skN false s + n)) with
        | inl e => rw [h2] at ih; rw [← ih]; rfl
        | inr ts => rw [h2] at ih; rw [← ih]; rfl
theorem fgt_toks (s : List UInt8) : fgt (toks s) = gt s := fgt_toksF _ _ _
theorem gtF_fuel : ∀ (f g : Nat) (s : List UInt8), s.length < f → s.length < g → gtF f s = gtF g s
  | 0, g, s, h, _ => by omega
  | f + 1, 0, s, _, h => by omega
  | f + 1, g + 1, s, hf, hg => by
    rw [gtF, gtF]
    split
    · rfl
    · rename_i hne
      cases h : oneR (s.drop (skN false s)) with
      | bad d e => rfl
      | tok kd tx n =>
        dsimp only
        have h1 := (oneR_ok h).2
        have h2 : (s.drop (skN false s)).length = s.length - skN false s := List.length_drop
        have h3 : (s.drop (skN false s + n)).length = s.length - (skN false s + n) := List.length_drop
        rw [gtF_fuel f g (s.drop (skN false s + n)) (by omega) (by omega)]
def cat (x : List KT) : Nat ⊕ List KT → Nat ⊕ List KT
  | .inl e => .inl e
  | .inr y => .inr (x ++ y)
theorem gt_nil {s : List UInt8} (h : s.drop (skN false s) = []) : gt s = .inr [] := by unfold gt; rw [gtF, if_pos h]
theorem gt_bad {s : List UInt8} (h : s.drop (skN false s) ≠ []) {d e : Nat} (h1 : oneR (s.drop (skN false s)) = .bad d e) : gt s = .inl e := by unfold gt; rw [gtF, if_neg h, h1]
theorem gt_tok {s : List UInt8} (h : s.drop (skN false s) ≠ []) {kd n : Nat} {tx : List UInt8} (h1 : oneR (s.drop (skN false s)) = .tok kd tx n) : gt s = cat [(kd, tx)] (gt (s.drop (skN false s + n))) := by
  have h2 := (oneR_ok h1).2
  have h3 : (s.drop (skN false s)).length = s.length - skN false s := List.length_drop
  have h4 : (s.drop (skN false s + n)).length = s.length - (skN false s + n) := List.length_drop
  have e : gt s = gtF (s.length + 1) s := rfl
  rw [e, gtF, if_neg h, h1]
  dsimp only
  unfold gt
  rw [gtF_fuel s.length ((s.drop (skN false s + n)).length + 1) (s.drop (skN false s + n)) (by omega) (by omega)]
  cases gtF ((s.drop (skN false s + n)).length + 1) (s.drop (skN false s + n)) <;> rfl
theorem gt_skip {s t : List UInt8} (h : s.drop (skN false s) = t.drop (skN false t)) : gt s = gt t := by
  by_cases h0 : s.drop (skN false s) = []
  · rw [gt_nil h0, gt_nil (h ▸ h0)]
  · have h0' : t.drop (skN false t) ≠ [] := h ▸ h0
    cases h1 : oneR (s.drop (skN false s)) with
    | bad d e => rw [gt_bad h0 h1, gt_bad h0' (h ▸ h1)]
    | tok kd tx n =>
      rw [gt_tok h0 h1, gt_tok h0' (h ▸ h1), ← List.drop_drop, ← List.drop_drop, h]

/-! ### Skipped bytes -/
theorem sk_all : ∀ (b : Bool) (a R : List UInt8), skN b a = a.length → skN b (a ++ 10 :: R) = a.length + 1 + skN false R
  | false, [], R, _ => by
    show skN false (10 :: R) = _
    rw [skN, if_pos (by decide)]
    simp; omega
  | true, [], R, _ => by
    show skN true (10 :: R) = _
    rw [skN, if_pos (by decide)]
    simp; omega
  | false, c :: a, R, h => by
    show skN false (c :: (a ++ 10 :: R)) = _
    rw [skN] at h ⊢
    rw [List.length_cons] at h ⊢
    split at h
    · rename_i h1
      rw [if_pos h1, sk_all false a R (by omega)]
      omega
    · rename_i h1
      rw [if_neg h1]
      split at h
      · rename_i h2
        rw [if_pos h2, sk_all true a R (by omega)]
        omega
      · omega
  | true, c :: a, R, h => by
    show skN true (c :: (a ++ 10 :: R)) = _
    rw [skN] at h ⊢
    rw [List.length_cons] at h ⊢
    split at h
    · rename_i h1
      rw [if_pos h1, sk_all false a R (by omega)]
      omega
    · rename_i h1
      rw [if_neg h1, sk_all true a R (by omega)]
      omega
theorem sk_part : ∀ (b : Bool) (a R : List UInt8), skN b a < a.length → skN b (a ++ R) = skN b a
  | b, [], R, h => by simp at h
  | false, c :: a, R, h => by
    show skN false (c :: (a ++ R)) = _
    rw [skN] at h ⊢
    rw [skN]
    rw [List.length_cons] at h
    split at h
    · rename_i h1
      rw [if_pos h1, if_pos h1, sk_part false a R (by omega)]
    · rename_i h1
      rw [if_neg h1, if_neg h1]
      split at h
      · rename_i h2
        rw [if_pos h2, if_pos h2, sk_part true a R (by omega)]
      · rename_i h2
        rw [if_neg h2, if_neg h2]
  | true, c :: a, R, h => by
    show skN true (c :: (a ++ R)) = _
    rw [skN] at h ⊢
    rw [skN]
    rw [List.length_cons] at h
    split at h
    · rename_i h1
      rw [if_pos h1, if_pos h1, sk_part false a R (by omega)]
    · rename_i h1
      rw [if_neg h1, if_neg h1, sk_part true a R (by omega)]

/-! ### Two strings with a line feed between them -/
theorem quoR_app {l : List UInt8} {kd n : Nat} {tx : List UInt8} (h : quoR l = .tok kd tx n) (R : List UInt8) : quoR (l ++ R) = .tok kd tx n := by
  obtain ⟨k, h1, h2, h3, h4, h5, h6⟩ := quoR_tok h
  have hk := endF_lt l.length l k (Nat.le_refl _) h1
  have h7 := endF_app l.length l R k (Nat.le_refl _) h1
  have h8 : (l ++ R).take k = l.take k := List.take_append_of_le_length (by omega)
  subst h3 h4
  exact quoR_of h7 (by rw [h8]; exact h2) h5 h6
theorem oneR_app {r : List UInt8} {kd n : Nat} {tx : List UInt8} (h : oneR r = .tok kd tx n) {R : List UInt8} (hR : ∀ c ∈ R.head?, isPart c = false) : oneR (r ++ R) = .tok kd tx n := by
  cases r with
  | nil => cases h
  | cons c l =>
    have hw : wordN (c :: (l ++ R)) = wordN (c :: l) := wordN_app (c :: l) R hR
    have hle := wordN_le (c :: l)
    show oneR (c :: (l ++ R)) = _
    rw [oneR_cons] at h ⊢
    rw [hw]
    split at h
    · cases h
    · rename_i h1
      rw [if_neg h1]
      split at h
      · rename_i h2
        rw [if_pos h2, show c :: (l ++ R) = (c :: l) ++ R from rfl, List.take_append_of_le_length hle]
        exact h
      · rename_i h2
        rw [if_neg h2]
        split at h
        · rename_i h3
          rw [if_pos h3]
          exact quoR_app h R
        · rename_i h3
          rw [if_neg h3]
          split at h
          · rename_i h4
            rw [if_pos h4]
            exact h
          · cases h
theorem cat_cat (x y : List KT) (r : Nat ⊕ List KT) : cat x (cat y r) = cat (x ++ y) r := by
  cases r with
  | inl e => rfl
  | inr z => show Sum.inr _ = Sum.inr _; rw [List.append_assoc]
theorem gt_app : ∀ (m : Nat) (a R : List UInt8) (x : List KT), a.length ≤ m → gt a = .inr x → gt (a ++ 10 :: R) = cat x (gt R) := fun m => by
  induction m with
  | zero =>
    intro a R x hm h
    have : a = [] := List.eq_nil_of_length_eq_zero (by omega)
    subst this
    rw [gt_nil (by simp)] at h
    injection h with h
    subst h
    have e : gt ([] ++ 10 :: R) = gt R := gt_skip (by
      have := sk_all false [] R rfl
      rw [this]
      show List.drop (0 + 1 + skN false R) (10 :: R) = _
      rw [show 0 + 1 + skN false R = skN false R + 1 by omega, List.drop_succ_cons])
    rw [e]
    cases gt R <;> rfl
  | succ m ih =>
    intro a R x hm h
    by_cases h0 : a.drop (skN false a) = []
    · rw [gt_nil h0] at h
      injection h with h
      subst h
      have hl : skN false a = a.length := by
        have h1 := skN_le false a
        have h2 : (a.drop (skN false a)).length = 0 := by rw [h0]; rfl
        rw [List.length_drop] at h2
        omega
      have e : gt (a ++ 10 :: R) = gt R := gt_skip (by
        rw [sk_all false a R hl, show a ++ 10 :: R = (a ++ [10]) ++ R by simp, Nat.add_assoc]
        rw [List.drop_append, List.drop_of_length_le (by simp), List.nil_append]
        congr 1
        simp
        omega)
      rw [e]
      cases gt R <;> rfl
    · have hlt : skN false a < a.length := by
        rcases Nat.lt_or_ge (skN false a) a.length with k | k
        · exact k
        · exact absurd (List.drop_of_length_le k) h0
      cases h1 : oneR (a.drop (skN false a)) with
      | bad d e => rw [gt_bad h0 h1] at h; cases h
      | tok kd tx n =>
        rw [gt_tok h0 h1] at h
        have h2 := (oneR_ok h1).2
        rw [List.length_drop] at h2
        have hd : (a ++ 10 :: R).drop (skN false (a ++ 10 :: R)) = a.drop (skN false a) ++ 10 :: R := by
          rw [sk_part false a _ hlt, List.drop_append_of_le_length (by omega)]
        have h3 : oneR ((a ++ 10 :: R).drop (skN false (a ++ 10 :: R))) = .tok kd tx n := by
          rw [hd]
          exact oneR_app h1 (fun c hc => by cases hc; decide)
        have hne : (a ++ 10 :: R).drop (skN false (a ++ 10 :: R)) ≠ [] := by rw [hd]; simp
        rw [gt_tok hne h3]
        have hd2 : (a ++ 10 :: R).drop (skN false (a ++ 10 :: R) + n) = a.drop (skN false a + n) ++ 10 :: R := by
          rw [sk_part false a _ hlt, List.drop_append_of_le_length (by omega)]
        rw [hd2]
        cases h4 : gt (a.drop (skN false a + n)) with
        | inl e => rw [h4] at h; cases h
        | inr y =>
          rw [h4] at h
          injection h with h
          subst h
          rw [ih _ R y (by rw [List.length_drop]; omega) h4, cat_cat]
/-- What may stand between. -/
def gapS (n : Nat) : List UInt8 := if n % 6 = 0 then [32] else if n % 6 = 1 then [9] else if n % 6 = 2 then [13] else if n % 6 = 3 then [10] else if n % 6 = 4 then [35, 32, 120, 32, 34, 32, 123, 10] else [35, 10]
theorem gap_sk (n : Nat) (R : List UInt8) : skN false (gapS n ++ R) = (gapS n).length + skN false R := by
  unfold gapS
  split
  · simp [skN, isBlk]; omega
  · split
    · simp [skN, isBlk]; omega
    · split
      · simp [skN, isBlk]; omega
      · split
        · simp [skN, isBlk]; omega
        · split
          · simp [skN, isBlk]; omega
          · simp [skN, isBlk]; omega
theorem gt_gap (n : Nat) (R : List UInt8) : gt (gapS n ++ R) = gt R := gt_skip (by
  rw [gap_sk, List.drop_append, List.drop_of_length_le (by omega), List.nil_append]
  congr 1
  omega)
theorem gt_gaps : ∀ (l : List Nat) (R : List UInt8), gt (l.flatMap gapS ++ R) = gt R
  | [], R => rfl
  | n :: l, R => by rw [List.flatMap_cons, List.append_assoc, gt_gap, gt_gaps l R]

/-! ### Spelled lines -/
theorem part_not {c : UInt8} (h : isPart c = true) : isBlk c = false ∧ c.toNat ≠ 35 ∧ c.toNat ≠ 34 := by
  unfold isPart at h
  unfold isBlk
  simp only [Bool.or_eq_true, Bool.and_eq_true, decide_eq_true_eq] at h
  refine ⟨?_, by omega, by omega⟩
  simp only [Bool.or_eq_false_iff, decide_eq_false_iff_not]
  omega
theorem mk_not {c : UInt8} (h : isMk c = true) : isBlk c = false ∧ c.toNat ≠ 35 ∧ c.toNat ≠ 34 ∧ isPart c = false := by
  unfold isMk at h
  unfold isBlk isPart
  simp only [Bool.or_eq_true, decide_eq_true_eq] at h
  refine ⟨?_, by omega, by omega, ?_⟩
  · simp only [Bool.or_eq_false_iff, decide_eq_false_iff_not]
    omega
  · simp only [Bool.or_eq_false_iff, Bool.and_eq_false_iff, decide_eq_false_iff_not]
    omega
theorem oneR_sp {kd : Nat} {tx : List UInt8} (h : OkTok kd tx) {R : List UInt8} (hR : ∀ c ∈ R.head?, isPart c = false) : oneR (spR kd tx ++ R) = .tok kd tx (spR kd tx).length ∧ skN false (spR kd tx ++ R) = 0 ∧ 0 < (spR kd tx).length := by
  rcases h with ⟨rfl, h1, h2, h3⟩ | ⟨rfl, h1, h2⟩ | ⟨rfl, c, rfl, h1⟩
  · have e : spR 1 tx = tx := by unfold spR; rw [if_neg (by omega)]
    rw [e]
    cases tx with
    | nil => simp at h1
    | cons c l =>
      have hp : isPart c = true := by
        cases hc : isPart c with
        | true => rfl
        | false => rw [wordN, if_neg (by rw [hc]; decide)] at h3; simp at h3
      have hw : wordN (c :: (l ++ R)) = (c :: l).length := by
        rw [show c :: (l ++ R) = (c :: l) ++ R from rfl, wordN_app _ _ hR]; exact h3
      refine ⟨?_, ?_, by simp⟩
      · show oneR (c :: (l ++ R)) = _
        rw [oneR_cons]
        rw [hw, if_neg (by omega), if_pos h1, show c :: (l ++ R) = (c :: l) ++ R from rfl, List.take_left]
      · show skN false (c :: (l ++ R)) = 0
        obtain ⟨q1, q2, _⟩ := part_not hp
        rw [skN, if_neg (by rw [q1]; decide), if_neg q2]
  · have e : spR 2 tx = 34 :: (escL 2 tx ++ [34]) := by unfold spR; rw [if_pos rfl]
    rw [e]
    have hend : endF 2 34 (escL 2 tx ++ 34 :: R) = some (escL 2 tx).length := by
      have := escL_skip 2 34 (.inr (.inl rfl)) (.inr ⟨by omega, rfl⟩) tx (34 :: R) true
      unfold escL
      rw [this]
      have h9 : endF 2 34 (34 :: R) = some 0 := by cases R <;> simp [endF]
      rw [h9]
      simp
    have hq : quoR (escL 2 tx ++ 34 :: R) = .tok 2 tx ((escL 2 tx).length + 2) := quoR_of hend (by rw [List.take_left]; exact un_escL 2 tx) h1 h2
    refine ⟨?_, ?_, by simp⟩
    · show oneR (34 :: ((escL 2 tx ++ [34]) ++ R)) = _
      have e2 : (escL 2 tx ++ [34]) ++ R = escL 2 tx ++ 34 :: R := by simp
      rw [e2]
      rw [oneR_cons]
      have hw : wordN (34 :: (escL 2 tx ++ 34 :: R)) = 0 := by rw [wordN, if_neg (by decide)]
      rw [hw, if_neg (by omega), if_neg (by omega), if_pos (by decide), hq]
      simp
    · show skN false (34 :: ((escL 2 tx ++ [34]) ++ R)) = 0
      rw [skN, if_neg (by decide), if_neg (by decide)]
  · have e : spR 3 [c] = [c] := by unfold spR; rw [if_neg (by omega)]
    rw [e]
    obtain ⟨q1, q2, q3, q4⟩ := mk_not h1
    refine ⟨?_, ?_, by simp⟩
    · show oneR (c :: R) = _
      have hw : wordN (c :: R) = 0 := by rw [wordN, if_neg (by rw [q4]; decide)]
      rw [oneR_cons]
      rw [hw, if_neg (by omega), if_neg (by omega), if_neg q3, if_pos h1]
      rfl
    · show skN false (c :: R) = 0
      rw [skN, if_neg (by rw [q1]; decide), if_neg q2]
def lineF (l : List KT) : List UInt8 := l.flatMap fun t => 32 :: spR t.1 t.2
def lineS (l : List KT) : List UInt8 := (lineF l).drop 1
theorem gt_blank (R : List UInt8) : gt (32 :: R) = gt R := gt_gap 0 R
theorem gt_lineF : ∀ l : List KT, (∀ t ∈ l, OkTok t.1 t.2) → gt (lineF l) = .inr l
  | [], _ => gt_nil rfl
  | t :: l, h => by
    have ih := gt_lineF l (fun x hx => h x (by simp [hx]))
    have hR : ∀ c ∈ (lineF l).head?, isPart c = false := fun c hc => by
      cases l with
      | nil => cases hc
      | cons x l => cases hc; decide
    obtain ⟨h1, h2, h3⟩ := oneR_sp (h t (by simp)) hR
    have e : lineF (t :: l) = 32 :: (spR t.1 t.2 ++ lineF l) := rfl
    rw [e, gt_blank]
    have hd : (spR t.1 t.2 ++ lineF l).drop (skN false (spR t.1 t.2 ++ lineF l)) = spR t.1 t.2 ++ lineF l := by rw [h2]; rfl
    rw [gt_tok (by rw [hd]; intro e; rw [List.append_eq_nil_iff] at e; rw [e.1] at h3; simp at h3) (by rw [hd]; exact h1), h2, Nat.zero_add, List.drop_left, ih]
    rfl
theorem gt_lineS {l : List KT} (h : ∀ t ∈ l, OkTok t.1 t.2) : gt (lineS l) = .inr l := by
  have h1 := gt_lineF l h
  cases l with
  | nil => exact h1
  | cons t l =>
    have e : lineF (t :: l) = 32 :: lineS (t :: l) := rfl
    rw [e, gt_blank] at h1
    exact h1
theorem gt_okF : ∀ (f : Nat) (s : List UInt8) (l : List KT), gtF f s = .inr l → ∀ t ∈ l, OkTok t.1 t.2
  | 0, _, l, h => by injection h with h; subst h; intro t ht; cases ht
  | f + 1, s, l, h => by
    rw [gtF] at h
    split at h
    · injection h with h; subst h; intro t ht; cases ht
    · cases h1 : oneR (s.drop (skN false s)) with
      | bad d e => rw [h1] at h; cases h
      | tok kd tx n =>
        rw [h1] at h
        dsimp only at h
        cases h2 : gtF f (s.drop (skN false s + n)) with
        | inl e => rw [h2] at h; cases h
        | inr y =>
          rw [h2] at h
          injection h with h
          subst h
          intro t ht
          rcases List.mem_cons.1 ht with rfl | ht
          · exact (oneR_ok h1).1
          · exact gt_okF f _ y h2 t ht

/-! ### Places -/
structure PlOk (o : Nat) (s : List UInt8) (t : Tok) : Prop where
  lo : o ≤ t.at_
  hi : t.at_ < o + s.length
  ch : ∃ c, s[t.at_ - o]? = some c ∧ ((t.kd = 2 ∧ c.toNat = 34) ∨ (t.kd ≠ 2 ∧ t.tx.head? = some c))
theorem toksF_at : ∀ (f o : Nat) (s : List UInt8), (∀ ts, toksF f o s = .inr ts → ts.Pairwise (fun a b => a.at_ < b.at_) ∧ ∀ t ∈ ts, PlOk o s t) ∧ (∀ p, toksF f o s = .inl p → o ≤ p.1 ∧ p.1 < o + s.length)
  | 0, o, s => ⟨fun ts h => by injection h with h; subst h; exact ⟨List.Pairwise.nil, fun t ht => by cases ht⟩, fun p h => (by cases h)⟩
  | f + 1, o, s => by
    rw [toksF]
    by_cases h0 : s.drop (skN false s) = []
    · rw [if_pos h0]
      exact ⟨fun ts h => by injection h with h; subst h; exact ⟨List.Pairwise.nil, fun t ht => by cases ht⟩, fun p h => (by cases h)⟩
    · rw [if_neg h0]
      have hlt : skN false s < s.length := by
        rcases Nat.lt_or_ge (skN false s) s.length with k | k
        · exact k
        · exact absurd (List.drop_of_length_le k) h0
      obtain ⟨c, l, hcl⟩ : ∃ c l, s.drop (skN false s) = c :: l := by
        cases h : s.drop (skN false s) with
        | nil => exact absurd h h0
        | cons c l => exact ⟨c, l, rfl⟩
      have hsc : s[skN false s]? = some c := by
        have := congrArg (fun r : List UInt8 => r[0]?) hcl
        simpa using this
      have hll : (c :: l).length = s.length - skN false s := by rw [← hcl, List.length_drop]
      cases h1 : oneR (s.drop (skN false s)) with
      | bad d e =>
        refine ⟨fun ts h => (by cases h), fun p h => ?_⟩
        injection h with h
        subst h
        rw [hcl] at h1
        have := oneR_bad h1
        dsimp only
        omega
      | tok kd tx n =>
        dsimp only
        have h2 := (oneR_ok h1).2
        rw [List.length_drop] at h2
        have hd : (s.drop (skN false s + n)).length = s.length - (skN false s + n) := List.length_drop
        have ih := toksF_at f (o + skN false s + n) (s.drop (skN false s + n))
        cases h3 : toksF f (o + skN false s + n) (s.drop (skN false s + n)) with
        | inl q =>
          refine ⟨fun ts h => (by cases h), fun p h => ?_⟩
          injection h with h
          subst h
          have := ih.2 _ h3
          omega
        | inr y =>
          refine ⟨fun ts h => ?_, fun p h => (by cases h)⟩
          injection h with h
          subst h
          obtain ⟨g1, g2⟩ := ih.1 y h3
          refine ⟨List.Pairwise.cons (fun t ht => ?_) g1, fun t ht => ?_⟩
          · have := (g2 t ht).lo
            show o + skN false s < t.at_
            omega
          · rcases List.mem_cons.1 ht with rfl | ht
            · rw [hcl] at h1
              exact ⟨by show o ≤ o + skN false s; omega, by show o + skN false s < _; omega, c, by show s[o + skN false s - o]? = _; rw [show o + skN false s - o = skN false s by omega]; exact hsc, oneR_first h1⟩
            · obtain ⟨k1, k2, c', k3, k4⟩ := g2 t ht
              refine ⟨by omega, by omega, c', ?_, k4⟩
              rw [List.getElem?_drop] at k3
              rw [← k3]
              congr 1
              omega
end Go.Proofs.YtgogcekeklelmaaDoor


/- Tokens, plain: one token after another, with offsets. -/
namespace Go.Proofs.YtgogcekeklelmaaDoor
set_option linter.unusedVariables false

theorem sk_idemB : ∀ (b : Bool) (s : List UInt8), skN false (s.drop (skN b s)) = 0
  | false, [] => rfl
  | true, [] => rfl
  | false, c :: l => by
    by_cases h1 : isBlk c = true
    · rw [show skN false (c :: l) = skN false l + 1 by rw [skN, if_pos h1], List.drop_succ_cons]
      exact sk_idemB false l
    · by_cases h2 : c.toNat = 35
      · rw [show skN false (c :: l) = skN true l + 1 by rw [skN, if_neg h1, if_pos h2], List.drop_succ_cons]
        exact sk_idemB true l
      · have e : skN false (c :: l) = 0 := by rw [skN, if_neg h1, if_neg h2]
        rw [e, List.drop_zero, e]
  | true, c :: l => by
    by_cases h1 : c.toNat = 10
    · rw [show skN true (c :: l) = skN false l + 1 by rw [skN, if_pos h1], List.drop_succ_cons]
      exact sk_idemB false l
    · rw [show skN true (c :: l) = skN true l + 1 by rw [skN, if_neg h1], List.drop_succ_cons]
      exact sk_idemB true l
theorem sk_idem (s : List UInt8) : skN false (s.drop (skN false s)) = 0 := sk_idemB false s
theorem toksF_fuel : ∀ (f g o : Nat) (s : List UInt8), s.length < f → s.length < g → toksF f o s = toksF g o s
  | 0, g, o, s, h, _ => by omega
  | f + 1, 0, o, s, _, h => by omega
  | f + 1, g + 1, o, s, hf, hg => by
    rw [toksF, toksF]
    split
    · rfl
    · cases h : oneR (s.drop (skN false s)) with
      | bad d e => rfl
      | tok kd tx n =>
        dsimp only
        have h1 := (oneR_ok h).2
        have h2 : (s.drop (skN false s)).length = s.length - skN false s := List.length_drop
        have h3 : (s.drop (skN false s + n)).length = s.length - (skN false s + n) := List.length_drop
        rw [toksF_fuel f g _ (s.drop (skN false s + n)) (by omega) (by omega)]
def toksN (o : Nat) (s : List UInt8) : (Nat × Nat) ⊕ List Tok := toksF (s.length + 1) o s
def catT (x : List Tok) : (Nat × Nat) ⊕ List Tok → (Nat × Nat) ⊕ List Tok
  | .inl e => .inl e
  | .inr y => .inr (x ++ y)
theorem catT_nil (r : (Nat × Nat) ⊕ List Tok) : catT [] r = r := by cases r <;> rfl
theorem catT_cat (x y : List Tok) (r : (Nat × Nat) ⊕ List Tok) : catT x (catT y r) = catT (x ++ y) r := by
  cases r with
  | inl e => rfl
  | inr z => show Sum.inr _ = Sum.inr _; rw [List.append_assoc]
theorem tkN_nil {o : Nat} {s : List UInt8} (h : s.drop (skN false s) = []) : toksN o s = .inr [] := by unfold toksN; rw [toksF, if_pos h]
theorem tkN_bad {o : Nat} {s : List UInt8} (h : s.drop (skN false s) ≠ []) {d e : Nat} (h1 : oneR (s.drop (skN false s)) = .bad d e) : toksN o s = .inl (o + skN false s + d, e) := by unfold toksN; rw [toksF, if_neg h, h1]
theorem tkN_tok {o : Nat} {s : List UInt8} (h : s.drop (skN false s) ≠ []) {kd n : Nat} {tx : List UInt8} (h1 : oneR (s.drop (skN false s)) = .tok kd tx n) : toksN o s = catT [⟨kd, tx, o + skN false s⟩] (toksN (o + skN false s + n) (s.drop (skN false s + n))) := by
  have h2 := (oneR_ok h1).2
  have h3 : (s.drop (skN false s)).length = s.length - skN false s := List.length_drop
  have h4 : (s.drop (skN false s + n)).length = s.length - (skN false s + n) := List.length_drop
  have e : toksN o s = toksF (s.length + 1) o s := rfl
  rw [e, toksF, if_neg h, h1]
  dsimp only
  unfold toksN
  rw [toksF_fuel s.length ((s.drop (skN false s + n)).length + 1) _ (s.drop (skN false s + n)) (by omega) (by omega)]
  cases toksF ((s.drop (skN false s + n)).length + 1) (o + skN false s + n) (s.drop (skN false s + n)) <;> rfl
theorem tkN_skip (o : Nat) (s : List UInt8) : toksN o s = toksN (o + skN false s) (s.drop (skN false s)) := by
  have hi := sk_idem s
  have hd : (s.drop (skN false s)).drop (skN false (s.drop (skN false s))) = s.drop (skN false s) := by rw [hi]; rfl
  by_cases h0 : s.drop (skN false s) = []
  · rw [tkN_nil h0, tkN_nil (by rw [hd]; exact h0)]
  · cases h1 : oneR (s.drop (skN false s)) with
    | bad d e =>
      rw [tkN_bad h0 h1, tkN_bad (by rw [hd]; exact h0) (by rw [hd]; exact h1), hi, Nat.add_zero]
    | tok kd tx n =>
      have a := tkN_tok (o := o) h0 h1
      have b := tkN_tok (o := o + skN false s) (s := s.drop (skN false s)) (by rw [hd]; exact h0) (by rw [hd]; exact h1)
      rw [a, b, hi, Nat.add_zero, Nat.zero_add, List.drop_drop]
/-- Where a round of the reader stands: at a token or at the end. -/
theorem at_nil {o : Nat} {r : List UInt8} (hz : skN false r = 0) (h : r = []) : toksN o r = .inr [] := tkN_nil (by rw [hz]; exact h)
theorem at_bad {o d e : Nat} {r : List UInt8} (hz : skN false r = 0) (h : oneR r = .bad d e) (hr : r ≠ []) : toksN o r = .inl (o + d, e) := by
  rw [tkN_bad (by rw [hz]; exact hr) (by rw [hz]; exact h), hz, Nat.add_zero]
theorem at_tok {o kd n : Nat} {tx r : List UInt8} (hz : skN false r = 0) (h : oneR r = .tok kd tx n) (hr : r ≠ []) :
    toksN o r = catT [⟨kd, tx, o⟩] (toksN (o + n + skN false (r.drop n)) ((r.drop n).drop (skN false (r.drop n)))) := by
  have a := tkN_tok (o := o) (s := r) (by rw [hz]; exact hr) (by rw [hz]; exact h)
  have b := tkN_skip (o + n) (r.drop n)
  rw [a, hz, Nat.add_zero, Nat.zero_add, b]
theorem toks_N (s : List UInt8) : toks s = toksN (skN false s) (s.drop (skN false s)) := by
  show toksN 0 s = _
  rw [tkN_skip, Nat.zero_add]
end Go.Proofs.YtgogcekeklelmaaDoor


