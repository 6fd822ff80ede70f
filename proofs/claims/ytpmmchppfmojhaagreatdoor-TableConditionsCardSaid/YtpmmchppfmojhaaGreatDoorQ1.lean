/- What the row stands on, part 1. -/


/- Plain facts on decimal numbers: digits, values, leading and trailing zeros, numbers and their strings. -/
namespace Go.Proofs.YtpmmchppfmojhaaGreatDoor
set_option linter.unusedVariables false
abbrev Str := List UInt8
def isD (c : UInt8) : Bool := decide (48 ≤ c.toNat) && decide (c.toNat ≤ 57)
def allD (l : Str) : Prop := ∀ c ∈ l, isD c = true
def zs (n : Nat) : Str := List.replicate n 48
def dgOf8 (c : UInt8) : Nat := c.toNat - 48
def stp (n : Nat) (c : UInt8) : Nat := n * 10 + dgOf8 c
attribute [irreducible] stp
def valA (n : Nat) (l : Str) : Nat := l.foldl stp n
def val (l : Str) : Nat := valA 0 l
def zero (l : Str) : Bool := l.all (· == 48)
def lead : Str → Str
  | [] => []
  | [c] => [c]
  | c :: d :: l => if c == 48 then lead (d :: l) else c :: d :: l
/-- No needless zero in front. -/
def slim (l : Str) : Prop := 1 < l.length → l.head? ≠ some 48
structure Num where
  neg : Bool
  wh : Str
  fr : Str
structure Good (x : Num) : Prop where
  dw : allD x.wh
  df : allD x.fr
  low : 1 ≤ x.wh.length
  high : x.wh.length ≤ 15
  lead : slim x.wh
  few : x.fr.length ≤ 6
  sign : x.neg = true → zero (x.wh ++ x.fr) = false
end Go.Proofs.YtpmmchppfmojhaaGreatDoor


/- Plain facts on decimal numbers: strings and their numbers, values, shifting, rounding, comparing, normal forms. -/
namespace Go.Proofs.YtpmmchppfmojhaaGreatDoor
set_option linter.unusedVariables false
/-! ### The numbers of strings -/
def run : Nat → Str → Nat
  | 0, _ => 0
  | _ + 1, [] => 0
  | m + 1, c :: l => if isD c = true then run m l + 1 else 0
def tx1 (x : Num) : Str := x.wh ++ (if x.fr = [] then [] else 46 :: x.fr)
def W (x : Num) : Nat := val (x.wh ++ x.fr)
def mag (x : Num) : Nat := W x * 10 ^ (6 - x.fr.length)
def V (x : Num) : Int := if x.neg = true then -(mag x : Int) else (mag x : Int)
end Go.Proofs.YtpmmchppfmojhaaGreatDoor


/- Plain facts on conditions: when they are valid, their texts, when they hold, equality. -/
namespace Go.Proofs.YtpmmchppfmojhaaGreatDoor
set_option linter.unusedVariables false

structure Rel where
  op : Int
  md : Int
  nt : Bool
  sp : List (Int × Int)
deriving DecidableEq
abbrev Cnd := List (List Rel)
def digs (o : Int) : Bool := decide (o = 3) || decide (o = 4)
def okEnd (o n : Int) : Bool := decide (0 ≤ n) && decide (n ≤ if digs o = true then 6 else 100)
def okMod (o n : Int) : Bool :=
  if n = 0 then true
  else if n = 10 ∨ n = 100 then !digs o
  else if n = 2 ∨ n = 3 ∨ n = 4 ∨ n = 5 ∨ n = 6 ∨ n = 20 ∨ n = 25 ∨ n = 50 then decide (o = 1) || decide (o = 2)
  else false
def okSp (o : Int) (s : Int × Int) : Bool := okEnd o s.1 && okEnd o s.2 && decide (s.1 ≤ s.2)
def okR (r : Rel) : Bool := decide (1 ≤ r.op) && decide (r.op ≤ 6) && okMod r.op r.md && decide (0 < r.sp.length) && decide (r.sp.length ≤ 4) && r.sp.all (okSp r.op)
def okL (l : List Rel) : Bool := decide (0 < l.length) && l.all okR
def cntOf8 (c : Cnd) : Nat := (c.map List.length).sum
def okC (c : Cnd) : Bool := decide (0 < c.length) && c.all okL && decide (cntOf8 c ≤ 6)

theorem okEnd_iff {o n : Int} : okEnd o n = true ↔ 0 ≤ n ∧ n ≤ if digs o = true then 6 else 100 := by unfold okEnd; simp
theorem okEnd_le {o n : Int} (h : okEnd o n = true) : 0 ≤ n ∧ n ≤ 100 := by
  rw [okEnd_iff] at h
  refine ⟨h.1, Int.le_trans h.2 ?_⟩
  split <;> omega
theorem okSp_le {o : Int} {s : Int × Int} (h : okSp o s = true) : 0 ≤ s.1 ∧ s.1 ≤ s.2 ∧ s.2 ≤ 100 := by
  unfold okSp at h
  simp only [Bool.and_eq_true, decide_eq_true_eq] at h
  have h1 := okEnd_le h.1.1
  have h2 := okEnd_le h.1.2
  omega
structure OkR (r : Rel) : Prop where
  lo : 1 ≤ r.op
  hi : r.op ≤ 6
  md : okMod r.op r.md = true
  some_ : 0 < r.sp.length
  few : r.sp.length ≤ 4
  sp : ∀ s ∈ r.sp, okSp r.op s = true
theorem okR_iff {r : Rel} : okR r = true ↔ OkR r := by
  unfold okR
  simp only [Bool.and_eq_true, decide_eq_true_eq, List.all_eq_true]
  exact ⟨fun ⟨⟨⟨⟨⟨h1, h2⟩, h3⟩, h4⟩, h5⟩, h6⟩ => ⟨h1, h2, h3, h4, h5, h6⟩, fun h => ⟨⟨⟨⟨⟨h.lo, h.hi⟩, h.md⟩, h.some_⟩, h.few⟩, h.sp⟩⟩
theorem okMod_le {o n : Int} (h : okMod o n = true) : 0 ≤ n ∧ n ≤ 100 := by
  unfold okMod at h
  split at h
  · omega
  · split at h
    · omega
    · split at h
      · omega
      · cases h
theorem okL_iff {l : List Rel} : okL l = true ↔ 0 < l.length ∧ ∀ r ∈ l, okR r = true := by
  unfold okL
  simp only [Bool.and_eq_true, decide_eq_true_eq, List.all_eq_true]
theorem okC_iff {c : Cnd} : okC c = true ↔ 0 < c.length ∧ (∀ l ∈ c, okL l = true) ∧ cntOf8 c ≤ 6 := by
  unfold okC
  simp only [Bool.and_eq_true, decide_eq_true_eq, List.all_eq_true]
  exact ⟨fun h => ⟨h.1.1, h.1.2, h.2⟩, fun h => ⟨⟨h.1, h.2.1⟩, h.2.2⟩⟩
theorem cnt_nil : cntOf8 [] = 0 := rfl
theorem cnt_cons (l : List Rel) (c : Cnd) : cntOf8 (l :: c) = l.length + cntOf8 c := rfl
theorem cnt_app (a b : Cnd) : cntOf8 (a ++ b) = cntOf8 a + cntOf8 b := by
  induction a with
  | nil => simp [cnt_nil]
  | cons x a ih => rw [List.cons_append, cnt_cons, cnt_cons, ih]; omega
theorem cnt_take_succ {c : Cnd} {i : Nat} (h : i < c.length) : cntOf8 (c.take (i + 1)) = cntOf8 (c.take i) + c[i].length := by
  rw [List.take_succ_eq_append_getElem h, cnt_app, cnt_cons, cnt_nil]; omega
theorem cnt_take_le (c : Cnd) (i : Nat) : cntOf8 (c.take i) ≤ cntOf8 c := by
  have := cnt_app (c.take i) (c.drop i)
  rw [List.take_append_drop] at this
  omega
def dtx (n : Nat) : Str := if n < 10 then [UInt8.ofNat (48 + n)] else if n < 100 then [UInt8.ofNat (48 + n / 10), UInt8.ofNat (48 + n % 10)] else [UInt8.ofNat (48 + n / 100), UInt8.ofNat (48 + n / 10 % 10), UInt8.ofNat (48 + n % 10)]
def spT (s : Int × Int) : Str := dtx s.1.toNat ++ (if s.2 = s.1 then [] else [46, 46] ++ dtx s.2.toNat)
def jnOf8 (sep : Str) : List Str → Str
  | [] => []
  | [x] => x
  | x :: y :: l => x ++ (sep ++ jnOf8 sep (y :: l))
def letr (o : Int) : UInt8 := if o = 1 then 110 else if o = 2 then 105 else if o = 3 then 118 else if o = 4 then 119 else if o = 5 then 102 else 116
def relH (r : Rel) : Str := [letr r.op] ++ (if r.md = 0 then [] else [32, 37, 32] ++ dtx r.md.toNat)
def sgnT (b : Bool) : Str := if b = true then [32, 33, 61, 32] else [32, 61, 32]
def spsT (l : List (Int × Int)) : Str := jnOf8 [44] (l.map spT)
def relT (r : Rel) : Str := relH r ++ sgnT r.nt ++ spsT r.sp
def lstT (l : List Rel) : Str := jnOf8 [32, 97, 110, 100, 32] (l.map relT)
def cndT (c : Cnd) : Str := jnOf8 [32, 111, 114, 32] (c.map lstT)
theorem dtx_len (n : Nat) : 1 ≤ (dtx n).length ∧ (dtx n).length ≤ 3 := by
  unfold dtx
  split
  · simp
  · split <;> simp
theorem jn_one (sep x : Str) : jnOf8 sep [x] = x := rfl
theorem jn_cons (sep x : Str) {l : List Str} (h : l ≠ []) : jnOf8 sep (x :: l) = x ++ (sep ++ jnOf8 sep l) := by
  cases l with
  | nil => exact absurd rfl h
  | cons y l => rfl
theorem jn_snoc (sep : Str) : ∀ (l : List Str) (x : Str), l ≠ [] → jnOf8 sep (l ++ [x]) = jnOf8 sep l ++ (sep ++ x)
  | [], _, h => absurd rfl h
  | [y], x, _ => rfl
  | y :: z :: l, x, _ => by
    have ih := jn_snoc sep (z :: l) x (by simp)
    rw [List.cons_append, jn_cons sep y (l := z :: l ++ [x]) (by simp), ih, jn_cons sep y (l := z :: l) (by simp), List.append_assoc, List.append_assoc]
theorem jn_len (sep : Str) (m : Nat) : ∀ (l : List Str), (∀ x ∈ l, x.length ≤ m) → (jnOf8 sep l).length ≤ l.length * (m + sep.length)
  | [], _ => by simp [jnOf8]
  | [x], h => by
    have := h x (by simp)
    rw [jn_one]
    simp
    omega
  | x :: y :: l, h => by
    have ih := jn_len sep m (y :: l) (fun z hz => h z (by simp [hz]))
    have h1 := h x (by simp)
    rw [jn_cons _ _ (by simp), List.length_append, List.length_append, List.length_cons (a := x), Nat.add_mul]
    omega
theorem spT_len (s : Int × Int) : (spT s).length ≤ 8 := by
  unfold spT
  have h1 := dtx_len s.1.toNat
  have h2 := dtx_len s.2.toNat
  rw [List.length_append]
  split
  · simp; omega
  · simp; omega
theorem relT_len {r : Rel} (h : r.sp.length ≤ 4) : (relT r).length ≤ 48 := by
  have h1 := jn_len [44] 8 (r.sp.map spT) (fun x hx => by
    obtain ⟨s, _, rfl⟩ := List.mem_map.1 hx
    exact spT_len s)
  have h2 := dtx_len r.md.toNat
  have h3 : (relH r).length ≤ 7 := by
    unfold relH
    rw [List.length_append]
    split
    · simp
    · simp; omega
  have h4 : (sgnT r.nt).length ≤ 4 := by
    unfold sgnT
    split <;> simp
  unfold relT
  rw [List.length_append, List.length_append]
  unfold spsT
  rw [List.length_map] at h1
  simp at h1
  omega
theorem lstT_len {l : List Rel} (h : ∀ r ∈ l, r.sp.length ≤ 4) : (lstT l).length ≤ l.length * 53 := by
  have h1 := jn_len [32, 97, 110, 100, 32] 48 (l.map relT) (fun x hx => by
    obtain ⟨s, hs, rfl⟩ := List.mem_map.1 hx
    exact relT_len (h s hs))
  rw [List.length_map] at h1
  exact h1
end Go.Proofs.YtpmmchppfmojhaaGreatDoor


/- Tables, plain: their parts. -/
namespace Go.Proofs.YtpmmchppfmojhaaGreatDoor
set_option linter.unusedVariables false

/-- A rule: its class and its condition. -/
abbrev Rul := Str × Cnd
structure Sym where
  de : Str
  gr : Str
  mi : Str
  pe : Str
  pr : Int
  se : Int
deriving DecidableEq
structure Lis where
  st : Str
  two : Str
  sa : Str
  md : Str
  en : Str
deriving DecidableEq
structure Uni where
  un : Str
  cl : Str
  pt : Str
deriving DecidableEq
structure Nea where
  fr : Str
  to_ : Str
  co : Int
deriving DecidableEq
structure Loc where
  tag : Str
  par : Str
  dir : Str
  ca : List Rul
  oc : List Rul
  sy : Sym
  li : List Lis
  un : List Uni
  da : List (Str × Str)
  mo : List Str
  dy : List Str
deriving DecidableEq
structure Tab where
  lo : List Loc
  al : List (Str × Str)
  ne : List Nea
deriving DecidableEq
end Go.Proofs.YtpmmchppfmojhaaGreatDoor


/- Plain facts on reading conditions: tokens, and the condition with a text. -/
namespace Go.Proofs.YtpmmchppfmojhaaGreatDoor
set_option linter.unusedVariables false

def isW (c : UInt8) : Bool := c == 32 || c == 9 || c == 10
def isA (c : UInt8) : Bool := decide (97 ≤ c.toNat) && decide (c.toNat ≤ 122)
def cF (p : UInt8 → Bool) (s : Str) : Nat := (s.takeWhile p).length
def tokN (s : Str) : Nat := if s = [] then 0 else if s.take 2 = [33, 61] ∨ s.take 2 = [46, 46] then 2 else max 1 (max (cF isA s) (cF isD s))
structure Pst where
  tok : Str
  rest : Str
  n : Nat
deriving DecidableEq
def N (s : Str) (n : Nat) : Pst := ⟨(s.dropWhile isW).take (tokN (s.dropWhile isW)), (s.dropWhile isW).drop (tokN (s.dropWhile isW)), n⟩
def nxtOf8 (p : Pst) : Pst := N p.rest p.n
def isNum (t : Str) : Bool := decide (0 < t.length) && decide (t.length ≤ 3) && decide (cF isD t = t.length) && (decide (t.length = 1) || decide (t.head? ≠ some 48))
def spanM (o : Int) (k : Nat) (p : Pst) : Option ((Int × Int) × Pst) :=
  if isNum p.tok = true ∧ okEnd o (val p.tok) = true ∧ k < 4 then
    if (nxtOf8 p).tok = [46, 46] then
      if isNum (nxtOf8 (nxtOf8 p)).tok = true ∧ okEnd o (val (nxtOf8 (nxtOf8 p)).tok) = true ∧ val p.tok ≤ val (nxtOf8 (nxtOf8 p)).tok then some (((val p.tok : Int), (val (nxtOf8 (nxtOf8 p)).tok : Int)), nxtOf8 (nxtOf8 (nxtOf8 p))) else none
    else some (((val p.tok : Int), (val p.tok : Int)), nxtOf8 p)
  else none
def spansM : Nat → Int → List (Int × Int) → Pst → Option (List (Int × Int) × Pst)
  | 0, _, _, _ => none
  | f + 1, o, acc, p => if p.tok = [44] then (match spanM o acc.length (nxtOf8 p) with
      | none => none
      | some (s, q) => spansM f o (acc ++ [s]) q) else some (acc, p)
def opC (c : UInt8) : Int := if c = 110 then 1 else if c = 105 then 2 else if c = 118 then 3 else if c = 119 then 4 else if c = 102 then 5 else if c = 116 then 6 else 0
def opM (t : Str) : Int := match t with
  | [c] => opC c
  | _ => 0
def modM (o : Int) (p : Pst) : Option (Int × Pst) := if p.tok = [37] then (if isNum (nxtOf8 p).tok = true ∧ okMod o (val (nxtOf8 p).tok) = true then some ((val (nxtOf8 p).tok : Int), nxtOf8 (nxtOf8 p)) else none) else some (0, p)
def sgnM (p : Pst) : Option (Bool × Pst) := if p.tok = [33, 61] then some (true, nxtOf8 p) else if p.tok = [61] then some (false, nxtOf8 p) else none
def relB (o m : Int) (b : Bool) (p : Pst) : Option (Rel × Pst) := match spanM o 0 p with
  | none => none
  | some (s, q) => match spansM 4 o [s] q with
    | none => none
    | some (sp, z) => some (⟨o, m, b, sp⟩, z)
def relA (o m : Int) (p : Pst) : Option (Rel × Pst) := match sgnM p with
  | none => none
  | some (b, q) => relB o m b q
def relO (o : Int) (p : Pst) : Option (Rel × Pst) := match modM o p with
  | none => none
  | some (m, q) => relA o m q
def relM (p : Pst) : Option (Rel × Pst) := if 0 < opM p.tok ∧ p.n < 6 then relO (opM p.tok) (N p.rest (p.n + 1)) else none
def relsM : Nat → List Rel → Pst → Option (List Rel × Pst)
  | 0, _, _ => none
  | f + 1, acc, p => if p.tok = [97, 110, 100] then (match relM (nxtOf8 p) with
      | none => none
      | some (r, q) => relsM f (acc ++ [r]) q) else some (acc, p)
def lstM (p : Pst) : Option (List Rel × Pst) := match relM p with
  | none => none
  | some (r, q) => relsM 7 [r] q
def lstsM : Nat → Cnd → Pst → Option (Cnd × Pst)
  | 0, _, _ => none
  | f + 1, acc, p => if p.tok = [111, 114] then (match lstM (nxtOf8 p) with
      | none => none
      | some (l, q) => lstsM f (acc ++ [l]) q) else some (acc, p)
def cndM (p : Pst) : Option (Cnd × Pst) := match lstM p with
  | none => none
  | some (l, q) => match lstsM 7 [l] q with
    | none => none
    | some (c, z) => if z.tok = [] then some (c, z) else none
def prsM (s : Str) : Option Cnd := (cndM (N s 0)).map (·.1)

/-! ### What is read is valid -/
end Go.Proofs.YtpmmchppfmojhaaGreatDoor


/- Plain: every condition is parsed from its text. -/
namespace Go.Proofs.YtpmmchppfmojhaaGreatDoor
set_option linter.unusedVariables false

def noH (p : UInt8 → Bool) (R : Str) : Bool := match R with
  | [] => true
  | c :: _ => !p c
def tk (R : Str) : Str := (N R 0).tok
/-- What may follow a relation. -/
structure Fol (R : Str) : Prop where
  d : noH isD R = true
  p : tk R ≠ [46, 46]
  c : tk R ≠ [44]
theorem len_cnt : ∀ (c : Cnd), (∀ l ∈ c, okL l = true) → c.length ≤ cntOf8 c
  | [], _ => by simp
  | l :: c, h => by
    have h1 := (okL_iff.1 (h l (by simp))).1
    have h2 := len_cnt c (fun x hx => h x (by simp [hx]))
    rw [cnt_cons, List.length_cons]
    omega
end Go.Proofs.YtpmmchppfmojhaaGreatDoor


