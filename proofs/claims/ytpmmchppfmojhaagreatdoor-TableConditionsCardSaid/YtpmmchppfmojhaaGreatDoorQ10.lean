/- What the row stands on, part 10. -/
import Derived.Test.YtpmmchppfmojhaaGreatDoorQ9

/- Tokens, plain: what the reference finds; offsets, blanks, spelled lines. -/
namespace Go.Proofs.YtpmmchppfmojhaaGreatDoor
set_option linter.unusedVariables false

def isPart (c : UInt8) : Bool := (decide (97 ≤ c.toNat) && decide (c.toNat ≤ 122)) || (decide (65 ≤ c.toNat) && decide (c.toNat ≤ 90)) || (decide (48 ≤ c.toNat) && decide (c.toNat ≤ 57)) || decide (c.toNat = 45) || decide (c.toNat = 95)
def isBlk (c : UInt8) : Bool := decide (c.toNat = 32) || decide (c.toNat = 9) || decide (c.toNat = 10) || decide (c.toNat = 13)
def isMk (c : UInt8) : Bool := decide (c.toNat = 123) || decide (c.toNat = 125) || decide (c.toNat = 59)
/-- The length of the word ahead. -/
def wordN : List UInt8 → Nat
  | [] => 0
  | c :: l => if isPart c = true then wordN l + 1 else 0
/-- How many bytes are skipped; whether a comment is being read. -/
def skN : Bool → List UInt8 → Nat
  | _, [] => 0
  | false, c :: l => if isBlk c = true then skN false l + 1 else if c.toNat = 35 then skN true l + 1 else 0
  | true, c :: l => if c.toNat = 10 then skN false l + 1 else skN true l + 1
/-- A token: kind, text, offset. -/
structure Tok where
  kd : Nat
  tx : List UInt8
  at_ : Nat
/-- The token ahead of a string that is not empty: an error with its place, or a kind, a text and a width. -/
inductive TRes where
  | bad (d e : Nat)
  | tok (kd : Nat) (tx : List UInt8) (n : Nat)
def quoR (l : List UInt8) : TRes := match endF 2 34 l with
  | none => .bad 0 3
  | some k => if (un 2 (l.take k)).1 = false then .bad (1 + (un 2 (l.take k)).2.2) 3
    else if 400 < (un 2 (l.take k)).2.1.length then .bad 0 6
    else if vld (un 2 (l.take k)).2.1 = false then .bad 0 4
    else .tok 2 (un 2 (l.take k)).2.1 (k + 2)
def oneR : List UInt8 → TRes
  | [] => .bad 0 0
  | c :: l => if 40 < wordN (c :: l) then .bad 0 6
    else if 0 < wordN (c :: l) then .tok 1 ((c :: l).take (wordN (c :: l))) (wordN (c :: l))
    else if c.toNat = 34 then quoR l
    else if isMk c = true then .tok 3 [c] 1
    else .bad 0 3
def toksF : Nat → Nat → List UInt8 → (Nat × Nat) ⊕ List Tok
  | 0, _, _ => .inr []
  | f + 1, o, s => if s.drop (skN false s) = [] then .inr [] else
    match oneR (s.drop (skN false s)) with
    | .bad d e => .inl (o + skN false s + d, e)
    | .tok kd tx n => match toksF f (o + skN false s + n) (s.drop (skN false s + n)) with
      | .inl e => .inl e
      | .inr ts => .inr (⟨kd, tx, o + skN false s⟩ :: ts)
def toks (s : List UInt8) : (Nat × Nat) ⊕ List Tok := toksF (s.length + 1) 0 s
theorem oneR_cons (c : UInt8) (l : List UInt8) : oneR (c :: l) = if 40 < wordN (c :: l) then .bad 0 6
    else if 0 < wordN (c :: l) then .tok 1 ((c :: l).take (wordN (c :: l))) (wordN (c :: l))
    else if c.toNat = 34 then quoR l
    else if isMk c = true then .tok 3 [c] 1
    else .bad 0 3 := rfl
theorem wordN_le : ∀ l : List UInt8, wordN l ≤ l.length
  | [] => Nat.le_refl _
  | c :: l => by
    have := wordN_le l
    rw [wordN, List.length_cons]
    split <;> omega
theorem skN_le : ∀ (b : Bool) (l : List UInt8), skN b l ≤ l.length
  | b, [] => by cases b <;> exact Nat.le_refl _
  | false, c :: l => by
    have h1 := skN_le false l
    have h2 := skN_le true l
    rw [skN, List.length_cons]
    split
    · omega
    · split <;> omega
  | true, c :: l => by
    have h1 := skN_le false l
    have h2 := skN_le true l
    rw [skN, List.length_cons]
    split <;> omega
theorem endF_lt {st d : Nat} : ∀ (n : Nat) (l : List UInt8) (k : Nat), l.length ≤ n → endF st d l = some k → k < l.length
  | _, [], k, _, h => by simp [endF] at h
  | _, [c], k, _, h => by
    simp only [endF] at h
    split at h
    · injection h with h; subst h; simp
    · cases h
  | 0, c :: x :: r, k, hl, _ => by simp at hl
  | n + 1, c :: x :: r, k, hl, h => by
    rw [List.length_cons, List.length_cons] at hl
    simp only [endF] at h
    split at h
    · injection h with h; subst h; simp
    · split at h
      · cases he : endF st d r with
        | none => rw [he] at h; cases h
        | some j =>
          rw [he] at h
          simp at h
          have := endF_lt n r j (by omega) he
          rw [List.length_cons, List.length_cons]
          omega
      · cases he : endF st d (x :: r) with
        | none => rw [he] at h; cases h
        | some j =>
          rw [he] at h
          simp at h
          have := endF_lt n (x :: r) j (by rw [List.length_cons]; omega) he
          simp only [List.length_cons] at this ⊢
          omega
theorem un_lt {st : Nat} : ∀ (n : Nat) (l : List UInt8), l.length ≤ n → (un st l).1 = false → (un st l).2.2 < l.length
  | n, [], _, h => by rw [un_nil] at h; cases h
  | 0, c :: l, hl, _ => by simp at hl
  | n + 1, c :: l, hl, h => by
    have hne : (c :: l) ≠ [] := by simp
    by_cases h1 : (rd st (c :: l)).1 = []
    · rw [un_stop hne h1]
      simp
    · have hok := (rd_ok st (c :: l)).2.2 h1
      rw [un_go hne h1] at h ⊢
      unfold jn at h ⊢
      split at h
      · cases h
      · rename_i h3
        rw [if_neg h3]
        have h4 : (un st ((c :: l).drop (rd st (c :: l)).2)).1 = false := by simpa using h3
        have h5 : ((c :: l).drop (rd st (c :: l)).2).length = (c :: l).length - (rd st (c :: l)).2 := List.length_drop
        have := un_lt n ((c :: l).drop (rd st (c :: l)).2) (by rw [h5]; omega) h4
        rw [h5] at this
        show (rd st (c :: l)).2 + _ < _
        omega
/-! ### What one token is -/
theorem quoR_tok {l : List UInt8} {kd : Nat} {tx : List UInt8} {n : Nat} (h : quoR l = .tok kd tx n) : ∃ k, endF 2 34 l = some k ∧ un 2 (l.take k) = (true, tx, 0) ∧ kd = 2 ∧ n = k + 2 ∧ tx.length ≤ 400 ∧ vld tx = true := by
  unfold quoR at h
  cases he : endF 2 34 l with
  | none => rw [he] at h; cases h
  | some k =>
    rw [he] at h
    dsimp only at h
    split at h
    · cases h
    · rename_i h1
      split at h
      · cases h
      · rename_i h2
        split at h
        · cases h
        · rename_i h3
          injection h with e1 e2 e3
          subst e1 e2 e3
          have h1' : (un 2 (l.take k)).1 = true := by simpa using h1
          have hf := (un_form 2 (l.take k).length (l.take k)).1 h1'
          refine ⟨k, rfl, ?_, rfl, rfl, by omega, by simpa using h3⟩
          have hf : (un 2 (l.take k)).2.2 = 0 := hf
          rw [← h1', ← hf]
/-- A token that Spell takes. -/
def OkTok (kd : Nat) (tx : List UInt8) : Prop := (kd = 1 ∧ 0 < tx.length ∧ tx.length ≤ 40 ∧ wordN tx = tx.length) ∨ (kd = 2 ∧ tx.length ≤ 400 ∧ vld tx = true) ∨ (kd = 3 ∧ ∃ c, tx = [c] ∧ isMk c = true)
def spR (kd : Nat) (tx : List UInt8) : List UInt8 := if kd = 2 then 34 :: (escL 2 tx ++ [34]) else tx
theorem wordN_take : ∀ l : List UInt8, wordN (l.take (wordN l)) = wordN l
  | [] => rfl
  | c :: l => by
    rw [wordN]
    split
    · rename_i h
      rw [List.take_succ_cons, wordN, if_pos h, wordN_take l]
    · rfl
theorem oneR_ok {s : List UInt8} {kd : Nat} {tx : List UInt8} {n : Nat} (h : oneR s = .tok kd tx n) : OkTok kd tx ∧ 0 < n ∧ n ≤ s.length := by
  cases s with
  | nil => cases h
  | cons c l =>
    rw [oneR_cons] at h
    have hw := wordN_le (c :: l)
    split at h
    · cases h
    · split at h
      · rename_i h1 h2
        injection h with e1 e2 e3
        subst e1 e2 e3
        refine ⟨.inl ⟨rfl, ?_, ?_, ?_⟩, h2, hw⟩
        · rw [List.length_take]; omega
        · rw [List.length_take]; omega
        · rw [wordN_take, List.length_take]; omega
      · split at h
        · obtain ⟨k, h1, h2, h3, h4, h5, h6⟩ := quoR_tok h
          subst h3 h4
          have := endF_lt l.length l k (Nat.le_refl _) h1
          exact ⟨.inr (.inl ⟨rfl, h5, h6⟩), by omega, by rw [List.length_cons]; omega⟩
        · split at h
          · rename_i h9
            injection h with e1 e2 e3
            subst e1 e2 e3
            exact ⟨.inr (.inr ⟨rfl, c, rfl, h9⟩), by omega, by rw [List.length_cons]; omega⟩
          · cases h
end Go.Proofs.YtpmmchppfmojhaaGreatDoor


/- Tokens, plain: joined strings, spelled lines, places. -/
namespace Go.Proofs.YtpmmchppfmojhaaGreatDoor
set_option linter.unusedVariables false

/-! ### Without offsets -/
abbrev KT := Nat × List UInt8
def gtF : Nat → List UInt8 → Nat ⊕ List KT
  | 0, _ => .inr []
  | f + 1, s => if s.drop (skN false s) = [] then .inr [] else
    match oneR (s.drop (skN false s)) with
    | .bad d e => .inl e
    | .tok kd tx n => match gtF f (s.drop (skN false s + n)) with
      | .inl e => .inl e
      | .inr ts => .inr ((kd, tx) :: ts)
def gt (s : List UInt8) : Nat ⊕ List KT := gtF (s.length + 1) s
def lineF (l : List KT) : List UInt8 := l.flatMap fun t => 32 :: spR t.1 t.2
def lineS (l : List KT) : List UInt8 := (lineF l).drop 1
structure PlOk (o : Nat) (s : List UInt8) (t : Tok) : Prop where
  lo : o ≤ t.at_
  hi : t.at_ < o + s.length
  ch : ∃ c, s[t.at_ - o]? = some c ∧ ((t.kd = 2 ∧ c.toNat = 34) ∨ (t.kd ≠ 2 ∧ t.tx.head? = some c))
end Go.Proofs.YtpmmchppfmojhaaGreatDoor


/- Numbers of words, plain. -/
namespace Go.Proofs.YtpmmchppfmojhaaGreatDoor
set_option linter.unusedVariables false

def digB (c : UInt8) : Bool := decide (48 ≤ c.toNat) && decide (c.toNat ≤ 57)
def valN : Nat → List UInt8 → Nat
  | a, [] => a
  | a, c :: l => valN (10 * a + (c.toNat - 48)) l
def numE (a : Nat) (l : List UInt8) : Nat × Bool := if l.all digB = true then (valN a l, true) else (0, false)
/-- The number of a word. -/
def numR (s : List UInt8) : Nat × Bool := if s.length < 1 ∨ 6 < s.length ∨ (1 < s.length ∧ s.head? = some 48) then (0, false) else numE 0 s
end Go.Proofs.YtpmmchppfmojhaaGreatDoor


/- Tables, plain: the tokens of a table, and the parser; what is written is read. -/
namespace Go.Proofs.YtpmmchppfmojhaaGreatDoor
set_option linter.unusedVariables false

/-! ### Words -/
def kLoc : Str := [108, 111, 99, 97, 108, 101]
def kPar : Str := [112, 97, 114, 101, 110, 116]
def kAli : Str := [97, 108, 105, 97, 115]
def kNea : Str := [110, 101, 97, 114]
def kDir : Str := [100, 105, 114, 101, 99, 116, 105, 111, 110]
def kCar : Str := [99, 97, 114, 100, 105, 110, 97, 108]
def kOrd : Str := [111, 114, 100, 105, 110, 97, 108]
def kSym : Str := [115, 121, 109, 98, 111, 108, 115]
def kLis : Str := [108, 105, 115, 116]
def kUni : Str := [117, 110, 105, 116]
def kDat : Str := [100, 97, 116, 101]
def kMon : Str := [109, 111, 110, 116, 104, 115]
def kDay : Str := [100, 97, 121, 115]
def clsL : List Str := [[122, 101, 114, 111], [111, 110, 101], [116, 119, 111], [102, 101, 119], [109, 97, 110, 121]]
def cls6 : List Str := clsL ++ [[111, 116, 104, 101, 114]]
def dirL : List Str := [[108, 116, 114], [114, 116, 108]]
def okW (t : Str) : Prop := OkTok 1 t
def okX (t : Str) : Prop := OkTok 2 t
/-! ### The parser: a table, or none -/
abbrev Ts := List KT
def thn {α β : Type} (o : Option (α × Ts)) (f : α → Ts → Option β) : Option β := match o with
  | none => none
  | some p => f p.1 p.2
theorem thn_some {α β : Type} (a : α) (r : Ts) (f : α → Ts → Option β) : thn (some (a, r)) f = f a r := rfl
def tk1 (kd : Nat) : Ts → Option (Str × Ts)
  | [] => none
  | t :: r => if t.1 = kd then some (t.2, r) else none
def mkP (c : UInt8) (l : Ts) : Option (Unit × Ts) := thn (tk1 3 l) fun t r => if t = [c] then some ((), r) else none
def choP (L : List Str) (l : Ts) : Option (Str × Ts) := thn (tk1 1 l) fun t r => if t ∈ L then some (t, r) else none
def numP (m : Nat) (l : Ts) : Option (Nat × Ts) := thn (tk1 1 l) fun t r => if (numR t).2 = true ∧ (numR t).1 ≤ m then some ((numR t).1, r) else none
def manyP : Nat → Ts → Option (List Str × Ts)
  | 0, l => some ([], l)
  | n + 1, l => thn (tk1 2 l) fun t r => thn (manyP n r) fun ts r2 => some (t :: ts, r2)
def rulP (l : Ts) : Option (Rul × Ts) := thn (choP clsL l) fun c r => thn (tk1 2 r) fun t r2 => match prsM t with
  | none => none
  | some d => some ((c, d), r2)
def semi {α : Type} (x : α) (l : Ts) : Option (α × Ts) := thn (mkP 59 l) fun _ r => some (x, r)
/-- An item of a locale. -/
def itemP (x : Loc) (l : Ts) : Option (Loc × Ts) := thn (tk1 1 l) fun k r =>
  if k = kDir then thn (choP dirL r) fun d r => if x.dir = [] then semi { x with dir := d } r else none
  else if k = kCar then thn (rulP r) fun u r => if u.1 ∈ x.ca.map Prod.fst then none else semi { x with ca := x.ca ++ [u] } r
  else if k = kOrd then thn (rulP r) fun u r => if u.1 ∈ x.oc.map Prod.fst then none else semi { x with oc := x.oc ++ [u] } r
  else if k = kSym then thn (manyP 4 r) fun ts r => thn (numP 9 r) fun p r => thn (numP 9 r) fun s r =>
    if ts.getD 0 [] = [] then none else if x.sy.de = [] then semi { x with sy := ⟨ts.getD 0 [], ts.getD 1 [], ts.getD 2 [], ts.getD 3 [], p, s⟩ } r else none
  else if k = kLis then thn (tk1 1 r) fun s r => thn (manyP 4 r) fun ts r =>
    if s ∈ x.li.map Lis.st ∨ 10 ≤ x.li.length then none else semi { x with li := x.li ++ [⟨s, ts.getD 0 [], ts.getD 1 [], ts.getD 2 [], ts.getD 3 []⟩] } r
  else if k = kUni then thn (tk1 1 r) fun u r => thn (choP cls6 r) fun c r => thn (tk1 2 r) fun p r =>
    if (u, c) ∈ x.un.map (fun y => (y.un, y.cl)) ∨ 100 ≤ x.un.length then none else semi { x with un := x.un ++ [⟨u, c, p⟩] } r
  else if k = kDat then thn (tk1 1 r) fun s r => thn (tk1 2 r) fun p r =>
    if s ∈ x.da.map Prod.fst ∨ 30 ≤ x.da.length then none else semi { x with da := x.da ++ [(s, p)] } r
  else if k = kMon then thn (manyP 12 r) fun ts r => if x.mo = [] then semi { x with mo := ts } r else none
  else if k = kDay then thn (manyP 7 r) fun ts r => if x.dy = [] then semi { x with dy := ts } r else none
  else none
def itemsP : Nat → Loc → Ts → Option (Loc × Ts)
  | 0, _, _ => none
  | f + 1, x, l => if l.head?.map Prod.fst = some 1 then thn (itemP x l) (itemsP f) else some (x, l)
def sym0 : Sym := ⟨[], [], [], [], 0, 0⟩
def loc0 (tag par : Str) : Loc := ⟨tag, par, [], [], [], sym0, [], [], [], [], []⟩
def parP (l : Ts) : Option (Str × Ts) := if l.head? = some (1, kPar) then thn (tk1 1 l) fun _ r => tk1 1 r else some ([], l)
def locP (l : Ts) : Option (Loc × Ts) := thn (tk1 1 l) fun tag r => thn (parP r) fun par r => thn (mkP 123 r) fun _ r =>
  thn (itemsP (r.length + 1) (loc0 tag par) r) fun x r => thn (mkP 125 r) fun _ r => some (x, r)
/-- A locale, an alias or a near entry. -/
def entP (t : Tab) (l : Ts) : Option (Tab × Ts) := thn (tk1 1 l) fun k r =>
  if k = kLoc then thn (locP r) fun x r => if 60 ≤ t.lo.length then none else some ({ t with lo := t.lo ++ [x] }, r)
  else if k = kAli then thn (tk1 1 r) fun f r => thn (tk1 1 r) fun g r => if 200 ≤ t.al.length then none else semi { t with al := t.al ++ [(f, g)] } r
  else if k = kNea then thn (tk1 1 r) fun f r => thn (tk1 1 r) fun g r => thn (numP 1000 r) fun n r => if 200 ≤ t.ne.length then none else semi { t with ne := t.ne ++ [⟨f, g, n⟩] } r
  else none
def entsP : Nat → Tab → Ts → Option Tab
  | 0, _, _ => none
  | f + 1, t, l => if l = [] then some t else thn (entP t l) (entsP f)
def tab0 : Tab := ⟨[], [], []⟩
/-- The table with these tokens. -/
def parT (l : Ts) : Option Tab := entsP (l.length + 1) tab0 l
/-! ### Valid tables -/
def rulesOk (l : List Rul) : Prop := (∀ r ∈ l, r.1 ∈ clsL ∧ okC r.2 = true) ∧ (l.map Prod.fst).Nodup
def symOk (s : Sym) : Prop := s = sym0 ∨ (s.de ≠ [] ∧ okX s.de ∧ okX s.gr ∧ okX s.mi ∧ okX s.pe ∧ 0 ≤ s.pr ∧ s.pr ≤ 9 ∧ 0 ≤ s.se ∧ s.se ≤ 9)
structure LocV (x : Loc) : Prop where
  tag : okW x.tag
  par : x.par = [] ∨ okW x.par
  dir : x.dir = [] ∨ x.dir ∈ dirL
  ca : rulesOk x.ca
  oc : rulesOk x.oc
  sy : symOk x.sy
  li : ∀ y ∈ x.li, okW y.st ∧ okX y.two ∧ okX y.sa ∧ okX y.md ∧ okX y.en
  liN : (x.li.map Lis.st).Nodup
  liL : x.li.length ≤ 10
  un : ∀ y ∈ x.un, okW y.un ∧ y.cl ∈ cls6 ∧ okX y.pt
  unN : (x.un.map (fun y => (y.un, y.cl))).Nodup
  unL : x.un.length ≤ 100
  da : ∀ y ∈ x.da, okW y.1 ∧ okX y.2
  daN : (x.da.map Prod.fst).Nodup
  daL : x.da.length ≤ 30
  mo : ∀ y ∈ x.mo, okX y
  moL : x.mo.length = 0 ∨ x.mo.length = 12
  dy : ∀ y ∈ x.dy, okX y
  dyL : x.dy.length = 0 ∨ x.dy.length = 7
structure TabV (t : Tab) : Prop where
  lo : ∀ x ∈ t.lo, LocV x
  loL : t.lo.length ≤ 60
  al : ∀ y ∈ t.al, okW y.1 ∧ okW y.2
  alL : t.al.length ≤ 200
  ne : ∀ y ∈ t.ne, okW y.fr ∧ okW y.to_ ∧ 0 ≤ y.co ∧ y.co ≤ 1000
  neL : t.ne.length ≤ 200
/-! ### Tokens of a table -/
def decT (n : Nat) : Str := if n < 1000 then dtx n else [49, 48, 48, 48]
def parTk (x : Loc) : Ts := if x.par = [] then [] else [(1, kPar), (1, x.par)]
end Go.Proofs.YtpmmchppfmojhaaGreatDoor


/- Tables, plain: the text of a table, and its tokens. -/
namespace Go.Proofs.YtpmmchppfmojhaaGreatDoor
set_option linter.unusedVariables false

/-! ### Reading one text behind another -/
/-- A line of an item, and one of an entry. -/
def itX (l : Ts) : Str := 9 :: (lineS l ++ [59, 10])
def enX (l : Ts) : Str := lineS l ++ [59, 10]
def ruX (k : Str) (u : Rul) : Str := itX [(1, k), (1, u.1), (2, cndT u.2)]
def dirX (d : Str) : Str := if d = [] then [] else itX [(1, kDir), (1, d)]
def syX (s : Sym) : Str := if s.de = [] then [] else itX [(1, kSym), (2, s.de), (2, s.gr), (2, s.mi), (2, s.pe), (1, decT s.pr.toNat), (1, decT s.se.toNat)]
def liX (y : Lis) : Str := itX [(1, kLis), (1, y.st), (2, y.two), (2, y.sa), (2, y.md), (2, y.en)]
def unX (y : Uni) : Str := itX [(1, kUni), (1, y.un), (1, y.cl), (2, y.pt)]
def daX (y : Str × Str) : Str := itX [(1, kDat), (1, y.1), (2, y.2)]
def namX (k : Str) (l : List Str) : Str := if l = [] then [] else itX ((1, k) :: l.map (fun t => ((2, t) : KT)))
def itsX (x : Loc) : Str := dirX x.dir ++ (x.ca.flatMap (ruX kCar) ++ (x.oc.flatMap (ruX kOrd) ++ (syX x.sy ++ (x.li.flatMap liX ++ (x.un.flatMap unX ++ (x.da.flatMap daX ++ (namX kMon x.mo ++ namX kDay x.dy)))))))
def loX (x : Loc) : Str := lineS ((1, kLoc) :: (1, x.tag) :: parTk x) ++ ([32, 123, 10] ++ (itsX x ++ [125, 10]))
def alX (y : Str × Str) : Str := enX [(1, kAli), (1, y.1), (1, y.2)]
def neX (y : Nea) : Str := enX [(1, kNea), (1, y.fr), (1, y.to_), (1, decT y.co.toNat)]
def tabX (t : Tab) : Str := t.lo.flatMap loX ++ (t.al.flatMap alX ++ t.ne.flatMap neX)
/-! ### Its tokens are tokens -/
theorem okW_of {t : Str} (h : 0 < t.length ∧ t.length ≤ 40 ∧ wordN t = t.length) : OkTok 1 t := .inl ⟨rfl, h⟩
theorem okX_iff {t : Str} : OkTok 2 t ↔ t.length ≤ 400 ∧ vld t = true := by
  constructor
  · rintro (⟨h, _⟩ | ⟨_, h1, h2⟩ | ⟨h, _⟩)
    · omega
    · exact ⟨h1, h2⟩
    · omega
  · rintro ⟨h1, h2⟩; exact .inr (.inl ⟨rfl, h1, h2⟩)
theorem ok_kw : (∀ k ∈ [kLoc, kPar, kAli, kNea, kDir, kCar, kOrd, kSym, kLis, kUni, kDat, kMon, kDay], 0 < k.length ∧ k.length ≤ 40 ∧ wordN k = k.length) := by decide
theorem ok_cls : (∀ k ∈ cls6 ++ dirL, 0 < k.length ∧ k.length ≤ 40 ∧ wordN k = k.length) := by decide
set_option maxRecDepth 100000 in
theorem ok_dec0 : ∀ n : Fin 1001, 0 < (decT n.val).length ∧ (decT n.val).length ≤ 40 ∧ wordN (decT n.val) = (decT n.val).length := by decide +kernel
theorem ok_dec {n : Nat} (h : n ≤ 1000) : OkTok 1 (decT n) := okW_of (ok_dec0 ⟨n, by omega⟩)
/-- No letter that is escaped. -/
def okB (c : UInt8) : Prop := 32 ≤ c.toNat ∧ c.toNat < 127 ∧ c.toNat ≠ 34 ∧ c.toNat ≠ 92
instance (c : UInt8) : Decidable (okB c) := by unfold okB; exact inferInstance
def asc (l : Str) : Prop := ∀ c ∈ l, okB c
theorem vld_asc : ∀ l : Str, asc l → vld l = true
  | [], _ => vld_nil
  | c :: l, h => by
    have hc : byt (c :: l) 0 < 128 := by have := (h c (by simp)).2.1; show c.toNat < 128; omega
    have hd := dl_low (c :: l) hc
    rw [vld_cons _ (by simp), hd]
    have h1 : ((byt (c :: l) 0, 1) != ((0xFFFD, 1) : Nat × Nat)) = true := by
      rw [bne_iff_ne]
      intro e
      injection e with e1 e2
      omega
    rw [h1, Bool.true_and]
    exact vld_asc l (fun x hx => h x (by simp [hx]))
theorem asc_app {a b : Str} (h : asc a) (k : asc b) : asc (a ++ b) := fun c hc => (List.mem_append.1 hc).elim (h c) (k c)
theorem asc_dtx {n : Nat} (h : n ≤ 999) : asc (dtx n) := by
  have hd : ∀ m : Nat, m ≤ 9 → okB (UInt8.ofNat (48 + m)) := fun m hm => by
    unfold okB; rw [UInt8.toNat_ofNat']; omega
  unfold dtx
  split
  · intro c hc
    simp only [List.mem_cons, List.not_mem_nil, or_false] at hc
    subst hc
    exact hd n (by omega)
  · split
    · intro c hc
      simp only [List.mem_cons, List.not_mem_nil, or_false] at hc
      rcases hc with rfl | rfl
      · exact hd _ (by omega)
      · exact hd _ (by omega)
    · intro c hc
      simp only [List.mem_cons, List.not_mem_nil, or_false] at hc
      rcases hc with rfl | rfl | rfl
      · exact hd _ (by omega)
      · exact hd _ (by omega)
      · exact hd _ (by omega)
theorem asc_jn {sep : Str} (hs : asc sep) : ∀ l : List Str, (∀ x ∈ l, asc x) → asc (jnOf8 sep l)
  | [], _ => fun c hc => by cases hc
  | [x], h => h x (by simp)
  | x :: y :: l, h => asc_app (h x (by simp)) (asc_app hs (asc_jn hs (y :: l) (fun z hz => h z (by simp at hz ⊢; exact .inr hz))))
theorem okEnd_100 {o n : Int} (h : okEnd o n = true) : n.toNat ≤ 999 := by have := okEnd_le h; omega
theorem asc_cnd {c : Cnd} (h : okC c = true) : asc (cndT c) := by
  unfold okC at h
  simp only [Bool.and_eq_true, List.all_eq_true] at h
  refine asc_jn (by unfold asc; decide) _ (fun x hx => ?_)
  obtain ⟨l, hl, rfl⟩ := List.mem_map.1 hx
  have hL := h.1.2 l hl
  unfold okL at hL
  simp only [Bool.and_eq_true, List.all_eq_true] at hL
  refine asc_jn (by unfold asc; decide) _ (fun y hy => ?_)
  obtain ⟨r, hr, rfl⟩ := List.mem_map.1 hy
  have hR := hL.2 r hr
  unfold okR at hR
  simp only [Bool.and_eq_true, List.all_eq_true] at hR
  have hmd : r.md.toNat ≤ 999 := by
    have := hR.1.1.1.2
    unfold okMod at this
    split at this
    · omega
    · split at this
      · omega
      · split at this
        · omega
        · cases this
  refine asc_app (asc_app (asc_app ?_ ?_) ?_) (asc_jn (by unfold asc; decide) _ (fun z hz => ?_))
  · intro c hc
    simp only [List.mem_cons, List.not_mem_nil, or_false] at hc
    subst hc
    unfold letr
    repeat' split
    all_goals decide
  · split
    · intro c hc; cases hc
    · exact asc_app (by unfold asc; decide) (asc_dtx hmd)
  · unfold sgnT
    split
    · unfold asc; decide
    · unfold asc; decide
  · obtain ⟨s, hs, rfl⟩ := List.mem_map.1 hz
    have hS := hR.2 s hs
    unfold okSp at hS
    simp only [Bool.and_eq_true] at hS
    refine asc_app (asc_dtx (okEnd_100 hS.1.1)) ?_
    split
    · intro c hc; cases hc
    · exact asc_app (by unfold asc; decide) (asc_dtx (okEnd_100 hS.1.2))
end Go.Proofs.YtpmmchppfmojhaaGreatDoor


/- Tables, plain: what is written is read: texts. -/
namespace Go.Proofs.YtpmmchppfmojhaaGreatDoor
set_option linter.unusedVariables false

theorem jn_sum (sep : Str) : ∀ l : List Str, (jnOf8 sep l).length ≤ (l.map (fun x => x.length + sep.length)).sum
  | [] => Nat.zero_le _
  | [x] => by simp [jnOf8]
  | x :: y :: l => by
    have ih := jn_sum sep (y :: l)
    show (x ++ (sep ++ jnOf8 sep (y :: l))).length ≤ _
    rw [List.length_append, List.length_append, List.map_cons, List.sum_cons]
    omega
theorem sum_le57 : ∀ l : List (List Rel), (∀ x ∈ l, 1 ≤ x.length ∧ ∀ r ∈ x, r.sp.length ≤ 4) → ((l.map lstT).map (fun x => x.length + 4)).sum ≤ 57 * (l.map List.length).sum
  | [], _ => Nat.le_refl _
  | x :: l, h => by
    have ih := sum_le57 l (fun y hy => h y (by simp [hy]))
    obtain ⟨h1, h2⟩ := h x (by simp)
    have h3 := lstT_len h2
    simp only [List.map_cons, List.sum_cons]
    omega
theorem cnd_len {c : Cnd} (h : okC c = true) : (cndT c).length ≤ 342 := by
  unfold okC at h
  simp only [Bool.and_eq_true, List.all_eq_true, decide_eq_true_eq] at h
  obtain ⟨⟨_, h2⟩, h3⟩ := h
  have h1 := jn_sum [32, 111, 114, 32] (c.map lstT)
  have h4 := sum_le57 c (fun x hx => by
    have hL := h2 x hx
    unfold okL at hL
    simp only [Bool.and_eq_true, List.all_eq_true, decide_eq_true_eq] at hL
    refine ⟨hL.1, fun r hr => ?_⟩
    have hR := hL.2 r hr
    unfold okR at hR
    simp only [Bool.and_eq_true, decide_eq_true_eq] at hR
    exact hR.1.2)
  unfold cntOf8 at h3
  have h5 : (jnOf8 [32, 111, 114, 32] (c.map lstT)).length ≤ ((c.map lstT).map (fun x => x.length + 4)).sum := h1
  show (jnOf8 [32, 111, 114, 32] (c.map lstT)).length ≤ 342
  omega
theorem ok_cnd {c : Cnd} (h : okC c = true) : OkTok 2 (cndT c) := okX_iff.2 ⟨by have := cnd_len h; omega, vld_asc _ (asc_cnd h)⟩
theorem ok_of {k : Str} (h : k ∈ [kLoc, kPar, kAli, kNea, kDir, kCar, kOrd, kSym, kLis, kUni, kDat, kMon, kDay]) : OkTok 1 k := okW_of (ok_kw k h)
theorem ok_cl {k : Str} (h : k ∈ cls6 ++ dirL) : OkTok 1 k := okW_of (ok_cls k h)
/-- The table with a text; none, if there is an error. -/
def prsT (s : Str) : Option Tab := if s.length ≤ 200000 then (match gt s with
  | .inl _ => none
  | .inr l => parT l) else none
end Go.Proofs.YtpmmchppfmojhaaGreatDoor


/- The text of a table with one rule, plain: what TableConditions writes. -/
namespace Go.Proofs.YtpmmchppfmojhaaGreatDoor
set_option linter.unusedVariables false

theorem escF_asc : ∀ (l : Str) (f : Bool), asc l → escF 2 f l = l
  | [], _, _ => rfl
  | c :: l, f, h => by
    obtain ⟨h1, h2, h3, h4⟩ := h c (List.mem_cons_self ..)
    have ih := escF_asc l false (fun x hx => h x (List.mem_cons_of_mem _ hx))
    have e : escOne 2 c.toNat f = [c] := by
      have t1 : tb 2 c.toNat f = false := by
        unfold tb
        simp only [Bool.or_eq_false_iff, Bool.and_eq_false_iff, decide_eq_false_iff_not]
        omega
      have t2 : ctl c.toNat = false := by
        unfold ctl
        simp only [Bool.or_eq_false_iff, decide_eq_false_iff_not]
        omega
      unfold escOne
      rw [if_neg (by omega), t1, t2]
      simp
    show escOne 2 c.toNat f ++ escF 2 false l = _
    rw [e, ih]
    rfl
/-- The table of the law. -/
def ruleTab (cls : Str) (c : Cnd) : Tab := ⟨[⟨[120], [], [], [(cls, c)], [], sym0, [], [], [], [], []⟩], [], []⟩
def ruleX (cls : Str) (c : Cnd) : Str := [108, 111, 99, 97, 108, 101, 32, 120, 32, 123, 10, 9, 99, 97, 114, 100, 105, 110, 97, 108, 32] ++ (cls ++ ([32, 34] ++ (cndT c ++ [34, 59, 10, 125, 10])))
theorem ruleX_tab {cls : Str} {c : Cnd} (h : okC c = true) : tabX (ruleTab cls c) = ruleX cls c := by
  have e : escL 2 (cndT c) = cndT c := escF_asc _ _ (asc_cnd h)
  have e1 : spR 2 (cndT c) = 34 :: (cndT c ++ [34]) := by unfold spR; rw [if_pos rfl, e]
  unfold tabX ruleTab ruleX
  simp only [List.flatMap_cons, List.flatMap_nil, List.append_nil]
  unfold loX itsX dirX syX namX ruX itX lineS lineF parTk
  simp [e, sym0, spR, kLoc, kCar, List.flatMap_cons]
theorem okW_x : okW [120] := okW_of (by decide +kernel)
theorem ruleX_ok {cls : Str} {c : Cnd} : TabV (ruleTab cls c) ↔ cls ∈ clsL ∧ okC c = true := by
  constructor
  · intro h
    have h1 := (h.lo _ (List.mem_cons_self ..)).ca
    exact h1.1 _ (List.mem_cons_self ..)
  · rintro ⟨h1, h2⟩
    refine ⟨fun x hx => ?_, by show (1 : Nat) ≤ 60; decide, fun y hy => (by cases hy), by show (0 : Nat) ≤ 200; decide, fun y hy => (by cases hy), by show (0 : Nat) ≤ 200; decide⟩
    have hx' : x = ⟨[120], [], [], [(cls, c)], [], sym0, [], [], [], [], []⟩ := by simpa [ruleTab] using hx
    subst hx'
    constructor
    · exact okW_x
    · exact .inl rfl
    · exact .inl rfl
    · refine ⟨fun r hr => ?_, by simp⟩
      have hr' : r = (cls, c) := by simpa using hr
      subst hr'
      exact ⟨h1, h2⟩
    · exact ⟨fun r hr => (by cases hr), by simp⟩
    · exact .inl rfl
    · intro y hy; cases hy
    · exact List.nodup_nil
    · show (0 : Nat) ≤ 10; decide
    · intro y hy; cases hy
    · exact List.nodup_nil
    · show (0 : Nat) ≤ 100; decide
    · intro y hy; cases hy
    · exact List.nodup_nil
    · show (0 : Nat) ≤ 30; decide
    · intro y hy; cases hy
    all_goals first | (intro y hy; cases hy) | decide | exact .inl rfl
end Go.Proofs.YtpmmchppfmojhaaGreatDoor


/- Tokens, plain: one token after another, with offsets. -/
namespace Go.Proofs.YtpmmchppfmojhaaGreatDoor
set_option linter.unusedVariables false

theorem sk_idemB : ∀ (b : Bool) (s : List UInt8), skN false (s.drop (skN b s)) = 0
  | false, [] => rfl
  | true, [] => rfl
  | false, c :: l => by
    by_cases h1 : isBlk c = true
    · rw [show skN false (c :: l) = skN false l + 1 by rw [skN, if_pos h1], List.drop_succ_cons]
      exact sk_idemB false l
    · by_cases h2 : c.toNat = 35
      · rw [show skN false (c :: l) = skN true l + 1 by rw [skN, if_neg h1, if_pos h2], List.drop_succ_cons]
        exact sk_idemB true l
      · have e : skN false (c :: l) = 0 := by rw [skN, if_neg h1, if_neg h2]
        rw [e, List.drop_zero, e]
  | true, c :: l => by
    by_cases h1 : c.toNat = 10
    · rw [show skN true (c :: l) = skN false l + 1 by rw [skN, if_pos h1], List.drop_succ_cons]
      exact sk_idemB false l
    · rw [show skN true (c :: l) = skN true l + 1 by rw [skN, if_neg h1], List.drop_succ_cons]
      exact sk_idemB true l
theorem sk_idem (s : List UInt8) : skN false (s.drop (skN false s)) = 0 := sk_idemB false s
theorem toksF_fuel : ∀ (f g o : Nat) (s : List UInt8), s.length < f → s.length < g → toksF f o s = toksF g o s
  | 0, g, o, s, h, _ => by omega
  | f + 1, 0, o, s, _, h => by omega
  | f + 1, g + 1, o, s, hf, hg => by
    rw [toksF, toksF]
    split
    · rfl
    · cases h : oneR (s.drop (skN false s)) with
      | bad d e => rfl
      | tok kd tx n =>
        dsimp only
        have h1 := (oneR_ok h).2
        have h2 : (s.drop (skN false s)).length = s.length - skN false s := List.length_drop
        have h3 : (s.drop (skN false s + n)).length = s.length - (skN false s + n) := List.length_drop
        rw [toksF_fuel f g _ (s.drop (skN false s + n)) (by omega) (by omega)]
def toksN (o : Nat) (s : List UInt8) : (Nat × Nat) ⊕ List Tok := toksF (s.length + 1) o s
def catT (x : List Tok) : (Nat × Nat) ⊕ List Tok → (Nat × Nat) ⊕ List Tok
  | .inl e => .inl e
  | .inr y => .inr (x ++ y)
theorem catT_nil (r : (Nat × Nat) ⊕ List Tok) : catT [] r = r := by cases r <;> rfl
theorem catT_cat (x y : List Tok) (r : (Nat × Nat) ⊕ List Tok) : catT x (catT y r) = catT (x ++ y) r := by
  cases r with
  | inl e => rfl
  | inr z => show Sum.inr _ = Sum.inr _; rw [List.append_assoc]
theorem tkN_nil {o : Nat} {s : List UInt8} (h : s.drop (skN false s) = []) : toksN o s = .inr [] := by unfold toksN; rw [toksF, if_pos h]
theorem tkN_bad {o : Nat} {s : List UInt8} (h : s.drop (skN false s) ≠ []) {d e : Nat} (h1 : oneR (s.drop (skN false s)) = .bad d e) : toksN o s = .inl (o + skN false s + d, e) := by unfold toksN; rw [toksF, if_neg h, h1]
theorem tkN_tok {o : Nat} {s : List UInt8} (h : s.drop (skN false s) ≠ []) {kd n : Nat} {tx : List UInt8} (h1 : oneR (s.drop (skN false s)) = .tok kd tx n) : toksN o s = catT [⟨kd, tx, o + skN false s⟩] (toksN (o + skN false s + n) (s.drop (skN false s + n))) := by
  have h2 := (oneR_ok h1).2
  have h3 : (s.drop (skN false s)).length = s.length - skN false s := List.length_drop
  have h4 : (s.drop (skN false s + n)).length = s.length - (skN false s + n) := List.length_drop
  have e : toksN o s = toksF (s.length + 1) o s := rfl
  rw [e, toksF, if_neg h, h1]
  dsimp only
  unfold toksN
  rw [toksF_fuel s.length ((s.drop (skN false s + n)).length + 1) _ (s.drop (skN false s + n)) (by omega) (by omega)]
  cases toksF ((s.drop (skN false s + n)).length + 1) (o + skN false s + n) (s.drop (skN false s + n)) <;> rfl
theorem tkN_skip (o : Nat) (s : List UInt8) : toksN o s = toksN (o + skN false s) (s.drop (skN false s)) := by
  have hi := sk_idem s
  have hd : (s.drop (skN false s)).drop (skN false (s.drop (skN false s))) = s.drop (skN false s) := by rw [hi]; rfl
  by_cases h0 : s.drop (skN false s) = []
  · rw [tkN_nil h0, tkN_nil (by rw [hd]; exact h0)]
  · cases h1 : oneR (s.drop (skN false s)) with
    | bad d e =>
      rw [tkN_bad h0 h1, tkN_bad (by rw [hd]; exact h0) (by rw [hd]; exact h1), hi, Nat.add_zero]
    | tok kd tx n =>
      have a := tkN_tok (o := o) h0 h1
      have b := tkN_tok (o := o + skN false s) (s := s.drop (skN false s)) (by rw [hd]; exact h0) (by rw [hd]; exact h1)
      rw [a, b, hi, Nat.add_zero, Nat.zero_add, List.drop_drop]
theorem at_bad {o d e : Nat} {r : List UInt8} (hz : skN false r = 0) (h : oneR r = .bad d e) (hr : r ≠ []) : toksN o r = .inl (o + d, e) := by
  rw [tkN_bad (by rw [hz]; exact hr) (by rw [hz]; exact h), hz, Nat.add_zero]
theorem at_tok {o kd n : Nat} {tx r : List UInt8} (hz : skN false r = 0) (h : oneR r = .tok kd tx n) (hr : r ≠ []) :
    toksN o r = catT [⟨kd, tx, o⟩] (toksN (o + n + skN false (r.drop n)) ((r.drop n).drop (skN false (r.drop n)))) := by
  have a := tkN_tok (o := o) (s := r) (by rw [hz]; exact hr) (by rw [hz]; exact h)
  have b := tkN_skip (o + n) (r.drop n)
  rw [a, hz, Nat.add_zero, Nat.zero_add, b]
theorem toks_N (s : List UInt8) : toks s = toksN (skN false s) (s.drop (skN false s)) := by
  show toksN 0 s = _
  rw [tkN_skip, Nat.zero_add]
end Go.Proofs.YtpmmchppfmojhaaGreatDoor


