/- Plain facts on conditions: when they are valid, their texts, when they hold, equality. -/
import Derived.Test.YtnabklhkalnpiaaGreatDoorKc
namespace Go.Proofs.YtnabklhkalnpiaaGreatDoor
set_option linter.unusedVariables false

structure Rel where
  op : Int
  md : Int
  nt : Bool
  sp : List (Int × Int)
deriving DecidableEq
abbrev Cnd := List (List Rel)
def digs (o : Int) : Bool := decide (o = 3) || decide (o = 4)
def okEnd (o n : Int) : Bool := decide (0 ≤ n) && decide (n ≤ if digs o = true then 6 else 100)
def okMod (o n : Int) : Bool :=
  if n = 0 then true
  else if n = 10 ∨ n = 100 then !digs o
  else if n = 2 ∨ n = 3 ∨ n = 4 ∨ n = 5 ∨ n = 6 ∨ n = 20 ∨ n = 25 ∨ n = 50 then decide (o = 1) || decide (o = 2)
  else false
def okSp (o : Int) (s : Int × Int) : Bool := okEnd o s.1 && okEnd o s.2 && decide (s.1 ≤ s.2)
def okR (r : Rel) : Bool := decide (1 ≤ r.op) && decide (r.op ≤ 6) && okMod r.op r.md && decide (0 < r.sp.length) && decide (r.sp.length ≤ 4) && r.sp.all (okSp r.op)
def okL (l : List Rel) : Bool := decide (0 < l.length) && l.all okR
def cnt (c : Cnd) : Nat := (c.map List.length).sum
def okC (c : Cnd) : Bool := decide (0 < c.length) && c.all okL && decide (cnt c ≤ 6)

theorem okEnd_iff {o n : Int} : okEnd o n = true ↔ 0 ≤ n ∧ n ≤ if digs o = true then 6 else 100 := by unfold okEnd; simp
theorem okEnd_le {o n : Int} (h : okEnd o n = true) : 0 ≤ n ∧ n ≤ 100 := by
  rw [okEnd_iff] at h
  refine ⟨h.1, Int.le_trans h.2 ?_⟩
  split <;> omega
theorem okSp_le {o : Int} {s : Int × Int} (h : okSp o s = true) : 0 ≤ s.1 ∧ s.1 ≤ s.2 ∧ s.2 ≤ 100 := by
  unfold okSp at h
  simp only [Bool.and_eq_true, decide_eq_true_eq] at h
  have h1 := okEnd_le h.1.1
  have h2 := okEnd_le h.1.2
  omega
structure OkR (r : Rel) : Prop where
  lo : 1 ≤ r.op
  hi : r.op ≤ 6
  md : okMod r.op r.md = true
  some_ : 0 < r.sp.length
  few : r.sp.length ≤ 4
  sp : ∀ s ∈ r.sp, okSp r.op s = true
theorem okR_iff {r : Rel} : okR r = true ↔ OkR r := by
  unfold okR
  simp only [Bool.and_eq_true, decide_eq_true_eq, List.all_eq_true]
  exact ⟨fun ⟨⟨⟨⟨⟨h1, h2⟩, h3⟩, h4⟩, h5⟩, h6⟩ => ⟨h1, h2, h3, h4, h5, h6⟩, fun h => ⟨⟨⟨⟨⟨h.lo, h.hi⟩, h.md⟩, h.some_⟩, h.few⟩, h.sp⟩⟩
theorem okMod_le {o n : Int} (h : okMod o n = true) : 0 ≤ n ∧ n ≤ 100 := by
  unfold okMod at h
  split at h
  · omega
  · split at h
    · omega
    · split at h
      · omega
      · cases h
theorem okL_iff {l : List Rel} : okL l = true ↔ 0 < l.length ∧ ∀ r ∈ l, okR r = true := by
  unfold okL
  simp only [Bool.and_eq_true, decide_eq_true_eq, List.all_eq_true]
theorem okC_iff {c : Cnd} : okC c = true ↔ 0 < c.length ∧ (∀ l ∈ c, okL l = true) ∧ cnt c ≤ 6 := by
  unfold okC
  simp only [Bool.and_eq_true, decide_eq_true_eq, List.all_eq_true]
  exact ⟨fun h => ⟨h.1.1, h.1.2, h.2⟩, fun h => ⟨⟨h.1, h.2.1⟩, h.2.2⟩⟩
theorem cnt_nil : cnt [] = 0 := rfl
theorem cnt_cons (l : List Rel) (c : Cnd) : cnt (l :: c) = l.length + cnt c := rfl
theorem cnt_app (a b : Cnd) : cnt (a ++ b) = cnt a + cnt b := by
  induction a with
  | nil => simp [cnt_nil]
  | cons x a ih => rw [List.cons_append, cnt_cons, cnt_cons, ih]; omega
theorem cnt_take_succ {c : Cnd} {i : Nat} (h : i < c.length) : cnt (c.take (i + 1)) = cnt (c.take i) + c[i].length := by
  rw [List.take_succ_eq_append_getElem h, cnt_app, cnt_cons, cnt_nil]; omega
theorem cnt_take_le (c : Cnd) (i : Nat) : cnt (c.take i) ≤ cnt c := by
  have := cnt_app (c.take i) (c.drop i)
  rw [List.take_append_drop] at this
  omega
theorem cnt_get {c : Cnd} {l : List Rel} (h : l ∈ c) : l.length ≤ cnt c := by
  induction c with
  | nil => cases h
  | cons x c ih =>
    rw [cnt_cons]
    rcases List.mem_cons.1 h with rfl | h
    · omega
    · have := ih h; omega
theorem len_le_cnt {c : Cnd} (h : ∀ l ∈ c, okL l = true) : c.length ≤ cnt c := by
  induction c with
  | nil => simp
  | cons x c ih =>
    rw [cnt_cons, List.length_cons]
    have h1 := (okL_iff.1 (h x (by simp))).1
    have h2 := ih (fun l hl => h l (by simp [hl]))
    omega

/-! ### When a condition holds -/
def inside (sp : List (Int × Int)) (n : Int) : Bool := sp.any fun s => decide (s.1 ≤ n) && decide (n ≤ s.2)
def rem (m n : Int) : Int := if m = 0 then n else n.tmod m
/-- What the operand of a number is: the operand, the error. -/
def opnd (x : Num) (k : Int) : Int × Int :=
  if k = 1 then (if zero x.fr = true then ((val x.wh : Int), 0) else (0, 8))
  else if k = 2 then ((val x.wh : Int), 0)
  else if k = 3 then ((x.fr.length : Int), 0)
  else if k = 4 then (((trim x.fr).length : Int), 0)
  else if k = 5 then ((val x.fr : Int), 0)
  else if k = 6 then ((val (trim x.fr) : Int), 0)
  else (0, 1)
def opR (s : Str) (k : Int) : Int × Int := match spl s with
  | none => (0, 1)
  | some x => opnd x k
def hldO (r : Rel) (p : Int × Int) : Bool := if p.2 = 0 then (inside r.sp (rem r.md p.1)) != r.nt else r.nt
def hldR (s : Str) (r : Rel) : Bool := hldO r (opR s r.op)
def hldL (s : Str) (l : List Rel) : Bool := l.all (hldR s)
def hldC (s : Str) (c : Cnd) : Bool := c.any (hldL s)
def holdR (c : Cnd) (s : Str) : Bool × Int := if okC c = true ∧ (spl s).isSome = true then (hldC s c, 0) else (false, 1)

/-! ### Texts -/
def dtx (n : Nat) : Str := if n < 10 then [UInt8.ofNat (48 + n)] else if n < 100 then [UInt8.ofNat (48 + n / 10), UInt8.ofNat (48 + n % 10)] else [UInt8.ofNat (48 + n / 100), UInt8.ofNat (48 + n / 10 % 10), UInt8.ofNat (48 + n % 10)]
def spT (s : Int × Int) : Str := dtx s.1.toNat ++ (if s.2 = s.1 then [] else [46, 46] ++ dtx s.2.toNat)
def jn (sep : Str) : List Str → Str
  | [] => []
  | [x] => x
  | x :: y :: l => x ++ (sep ++ jn sep (y :: l))
def letr (o : Int) : UInt8 := if o = 1 then 110 else if o = 2 then 105 else if o = 3 then 118 else if o = 4 then 119 else if o = 5 then 102 else 116
def relH (r : Rel) : Str := [letr r.op] ++ (if r.md = 0 then [] else [32, 37, 32] ++ dtx r.md.toNat)
def sgnT (b : Bool) : Str := if b = true then [32, 33, 61, 32] else [32, 61, 32]
def spsT (l : List (Int × Int)) : Str := jn [44] (l.map spT)
def relT (r : Rel) : Str := relH r ++ sgnT r.nt ++ spsT r.sp
def lstT (l : List Rel) : Str := jn [32, 97, 110, 100, 32] (l.map relT)
def cndT (c : Cnd) : Str := jn [32, 111, 114, 32] (c.map lstT)
theorem dtx_len (n : Nat) : 1 ≤ (dtx n).length ∧ (dtx n).length ≤ 3 := by
  unfold dtx
  split
  · simp
  · split <;> simp
theorem jn_one (sep x : Str) : jn sep [x] = x := rfl
theorem jn_cons (sep x : Str) {l : List Str} (h : l ≠ []) : jn sep (x :: l) = x ++ (sep ++ jn sep l) := by
  cases l with
  | nil => exact absurd rfl h
  | cons y l => rfl
theorem jn_snoc (sep : Str) : ∀ (l : List Str) (x : Str), l ≠ [] → jn sep (l ++ [x]) = jn sep l ++ (sep ++ x)
  | [], _, h => absurd rfl h
  | [y], x, _ => rfl
  | y :: z :: l, x, _ => by
    have ih := jn_snoc sep (z :: l) x (by simp)
    rw [List.cons_append, jn_cons sep y (l := z :: l ++ [x]) (by simp), ih, jn_cons sep y (l := z :: l) (by simp), List.append_assoc, List.append_assoc]
theorem jn_len (sep : Str) (m : Nat) : ∀ (l : List Str), (∀ x ∈ l, x.length ≤ m) → (jn sep l).length ≤ l.length * (m + sep.length)
  | [], _ => by simp [jn]
  | [x], h => by
    have := h x (by simp)
    rw [jn_one]
    simp
    omega
  | x :: y :: l, h => by
    have ih := jn_len sep m (y :: l) (fun z hz => h z (by simp [hz]))
    have h1 := h x (by simp)
    rw [jn_cons _ _ (by simp), List.length_append, List.length_append, List.length_cons (a := x), Nat.add_mul]
    omega
theorem spT_len (s : Int × Int) : (spT s).length ≤ 8 := by
  unfold spT
  have h1 := dtx_len s.1.toNat
  have h2 := dtx_len s.2.toNat
  rw [List.length_append]
  split
  · simp; omega
  · simp; omega
theorem relT_len {r : Rel} (h : r.sp.length ≤ 4) : (relT r).length ≤ 48 := by
  have h1 := jn_len [44] 8 (r.sp.map spT) (fun x hx => by
    obtain ⟨s, _, rfl⟩ := List.mem_map.1 hx
    exact spT_len s)
  have h2 := dtx_len r.md.toNat
  have h3 : (relH r).length ≤ 7 := by
    unfold relH
    rw [List.length_append]
    split
    · simp
    · simp; omega
  have h4 : (sgnT r.nt).length ≤ 4 := by
    unfold sgnT
    split <;> simp
  unfold relT
  rw [List.length_append, List.length_append]
  unfold spsT
  rw [List.length_map] at h1
  simp at h1
  omega
theorem lstT_len {l : List Rel} (h : ∀ r ∈ l, r.sp.length ≤ 4) : (lstT l).length ≤ l.length * 53 := by
  have h1 := jn_len [32, 97, 110, 100, 32] 48 (l.map relT) (fun x hx => by
    obtain ⟨s, hs, rfl⟩ := List.mem_map.1 hx
    exact relT_len (h s hs))
  rw [List.length_map] at h1
  exact h1
def eqC (a b : Cnd) : Bool := decide (a = b)
end Go.Proofs.YtnabklhkalnpiaaGreatDoor
