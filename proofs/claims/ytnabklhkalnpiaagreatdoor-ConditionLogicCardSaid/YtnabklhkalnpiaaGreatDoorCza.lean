/- Plain facts on reading conditions: tokens, and the condition with a text. -/
import Derived.Test.YtnabklhkalnpiaaGreatDoorCa
namespace Go.Proofs.YtnabklhkalnpiaaGreatDoor
set_option linter.unusedVariables false

def isW (c : UInt8) : Bool := c == 32 || c == 9 || c == 10
def isA (c : UInt8) : Bool := decide (97 ≤ c.toNat) && decide (c.toNat ≤ 122)
def cF (p : UInt8 → Bool) (s : Str) : Nat := (s.takeWhile p).length
def tokN (s : Str) : Nat := if s = [] then 0 else if s.take 2 = [33, 61] ∨ s.take 2 = [46, 46] then 2 else max 1 (max (cF isA s) (cF isD s))
structure Pst where
  tok : Str
  rest : Str
  n : Nat
deriving DecidableEq
def N (s : Str) (n : Nat) : Pst := ⟨(s.dropWhile isW).take (tokN (s.dropWhile isW)), (s.dropWhile isW).drop (tokN (s.dropWhile isW)), n⟩
def nxt (p : Pst) : Pst := N p.rest p.n
def isNum (t : Str) : Bool := decide (0 < t.length) && decide (t.length ≤ 3) && decide (cF isD t = t.length) && (decide (t.length = 1) || decide (t.head? ≠ some 48))
def spanM (o : Int) (k : Nat) (p : Pst) : Option ((Int × Int) × Pst) :=
  if isNum p.tok = true ∧ okEnd o (val p.tok) = true ∧ k < 4 then
    if (nxt p).tok = [46, 46] then
      if isNum (nxt (nxt p)).tok = true ∧ okEnd o (val (nxt (nxt p)).tok) = true ∧ val p.tok ≤ val (nxt (nxt p)).tok then some (((val p.tok : Int), (val (nxt (nxt p)).tok : Int)), nxt (nxt (nxt p))) else none
    else some (((val p.tok : Int), (val p.tok : Int)), nxt p)
  else none
def spansM : Nat → Int → List (Int × Int) → Pst → Option (List (Int × Int) × Pst)
  | 0, _, _, _ => none
  | f + 1, o, acc, p => if p.tok = [44] then (match spanM o acc.length (nxt p) with
      | none => none
      | some (s, q) => spansM f o (acc ++ [s]) q) else some (acc, p)
def opC (c : UInt8) : Int := if c = 110 then 1 else if c = 105 then 2 else if c = 118 then 3 else if c = 119 then 4 else if c = 102 then 5 else if c = 116 then 6 else 0
def opM (t : Str) : Int := match t with
  | [c] => opC c
  | _ => 0
def modM (o : Int) (p : Pst) : Option (Int × Pst) := if p.tok = [37] then (if isNum (nxt p).tok = true ∧ okMod o (val (nxt p).tok) = true then some ((val (nxt p).tok : Int), nxt (nxt p)) else none) else some (0, p)
def sgnM (p : Pst) : Option (Bool × Pst) := if p.tok = [33, 61] then some (true, nxt p) else if p.tok = [61] then some (false, nxt p) else none
def relB (o m : Int) (b : Bool) (p : Pst) : Option (Rel × Pst) := match spanM o 0 p with
  | none => none
  | some (s, q) => match spansM 4 o [s] q with
    | none => none
    | some (sp, z) => some (⟨o, m, b, sp⟩, z)
def relA (o m : Int) (p : Pst) : Option (Rel × Pst) := match sgnM p with
  | none => none
  | some (b, q) => relB o m b q
def relO (o : Int) (p : Pst) : Option (Rel × Pst) := match modM o p with
  | none => none
  | some (m, q) => relA o m q
def relM (p : Pst) : Option (Rel × Pst) := if 0 < opM p.tok ∧ p.n < 6 then relO (opM p.tok) (N p.rest (p.n + 1)) else none
def relsM : Nat → List Rel → Pst → Option (List Rel × Pst)
  | 0, _, _ => none
  | f + 1, acc, p => if p.tok = [97, 110, 100] then (match relM (nxt p) with
      | none => none
      | some (r, q) => relsM f (acc ++ [r]) q) else some (acc, p)
def lstM (p : Pst) : Option (List Rel × Pst) := match relM p with
  | none => none
  | some (r, q) => relsM 7 [r] q
def lstsM : Nat → Cnd → Pst → Option (Cnd × Pst)
  | 0, _, _ => none
  | f + 1, acc, p => if p.tok = [111, 114] then (match lstM (nxt p) with
      | none => none
      | some (l, q) => lstsM f (acc ++ [l]) q) else some (acc, p)
def cndM (p : Pst) : Option (Cnd × Pst) := match lstM p with
  | none => none
  | some (l, q) => match lstsM 7 [l] q with
    | none => none
    | some (c, z) => if z.tok = [] then some (c, z) else none
def prsM (s : Str) : Option Cnd := (cndM (N s 0)).map (·.1)

/-! ### What is read is valid -/
theorem spanM_ok {o : Int} {k : Nat} {p q : Pst} {s : Int × Int} (h : spanM o k p = some (s, q)) : okSp o s = true ∧ q.n = p.n ∧ k < 4 := by
  unfold spanM at h
  split at h
  · rename_i h1
    split at h
    · split at h
      · rename_i h2
        injection h with h
        injection h with e1 e2
        subst e1 e2
        refine ⟨?_, rfl, h1.2.2⟩
        unfold okSp
        rw [h1.2.1, h2.2.1, decide_eq_true (by dsimp only; omega)]
        rfl
      · cases h
    · injection h with h
      injection h with e1 e2
      subst e1 e2
      refine ⟨?_, rfl, h1.2.2⟩
      unfold okSp
      rw [h1.2.1, decide_eq_true (Int.le_refl _)]
      rfl
  · cases h
theorem spansM_ok {o : Int} : ∀ {f : Nat} {acc sp : List (Int × Int)} {p q : Pst}, spansM f o acc p = some (sp, q) → (∀ s ∈ acc, okSp o s = true) → acc.length ≤ 4 → (∀ s ∈ sp, okSp o s = true) ∧ acc.length ≤ sp.length ∧ sp.length ≤ 4 ∧ q.n = p.n
  | 0, _, _, _, _, h, _, _ => by cases h
  | f + 1, acc, sp, p, q, h, ha, h4 => by
    rw [spansM] at h
    split at h
    · split at h
      · cases h
      · rename_i s z hs
        obtain ⟨h1, h2, h3⟩ := spanM_ok hs
        obtain ⟨g1, g2, g3, g4⟩ := spansM_ok h (fun x hx => by
          rcases List.mem_append.1 hx with hx | hx
          · exact ha x hx
          · simp at hx; subst hx; exact h1) (by simp; omega)
        refine ⟨g1, by rw [List.length_append] at g2; omega, g3, by rw [g4, h2]; rfl⟩
    · injection h with h
      injection h with e1 e2
      subst e1 e2
      exact ⟨ha, Nat.le_refl _, h4, rfl⟩
theorem opC_range (c : UInt8) : 0 ≤ opC c ∧ opC c ≤ 6 := by
  unfold opC
  repeat' split
  all_goals omega
theorem opM_range (t : Str) : 0 ≤ opM t ∧ opM t ≤ 6 := by
  unfold opM
  split
  · exact opC_range _
  · omega
theorem modM_ok {o m : Int} {p q : Pst} (h : modM o p = some (m, q)) : okMod o m = true ∧ q.n = p.n := by
  unfold modM at h
  split at h
  · split at h
    · rename_i h1
      injection h with h
      injection h with e1 e2
      subst e1 e2
      exact ⟨h1.2, rfl⟩
    · cases h
  · injection h with h
    injection h with e1 e2
    subst e1 e2
    exact ⟨by unfold okMod; rw [if_pos rfl], rfl⟩
theorem sgnM_ok {b : Bool} {p q : Pst} (h : sgnM p = some (b, q)) : q.n = p.n := by
  unfold sgnM at h
  split at h
  · injection h with h
    injection h with e1 e2
    subst e2
    rfl
  · split at h
    · injection h with h
      injection h with e1 e2
      subst e2
      rfl
    · cases h
theorem relM_ok {p q : Pst} {r : Rel} (h : relM p = some (r, q)) : okR r = true ∧ q.n = p.n + 1 ∧ p.n < 6 := by
  unfold relM at h
  split at h
  · rename_i h0
    unfold relO at h
    split at h
    · cases h
    · rename_i m q1 h1
      unfold relA at h
      split at h
      · cases h
      · rename_i b q2 h2
        unfold relB at h
        split at h
        · cases h
        · rename_i s q3 h3
          split at h
          · cases h
          · rename_i sp q4 h4
            injection h with h
            injection h with e1 e2
            subst e1 e2
            have g1 := modM_ok h1
            have g2 := sgnM_ok h2
            have g3 := spanM_ok h3
            have g4 := spansM_ok h4 (fun x hx => by simp at hx; subst hx; exact g3.1) (by simp)
            have g5 := opM_range p.tok
            refine ⟨okR_iff.2 ⟨?_, ?_, g1.1, ?_, g4.2.2.1, g4.1⟩, ?_, h0.2⟩
            · show 1 ≤ opM p.tok; omega
            · show opM p.tok ≤ 6; omega
            · have := g4.2.1; simp at this; show 0 < sp.length; omega
            · rw [g4.2.2.2, g3.2.1, g2, g1.2]; rfl
  · cases h
theorem relsM_ok : ∀ {f : Nat} {acc l : List Rel} {p q : Pst}, relsM f acc p = some (l, q) → (∀ r ∈ acc, okR r = true) → p.n ≤ 6 → (∀ r ∈ l, okR r = true) ∧ l.length + p.n = acc.length + q.n ∧ acc.length ≤ l.length ∧ q.n ≤ 6
  | 0, _, _, _, _, h, _, _ => by cases h
  | f + 1, acc, l, p, q, h, ha, h4 => by
    rw [relsM] at h
    split at h
    · split at h
      · cases h
      · rename_i s z hs
        obtain ⟨h1, h2, h3⟩ := relM_ok hs
        have h5 : (nxt p).n = p.n := rfl
        obtain ⟨g1, g2, g3, g4⟩ := relsM_ok h (fun x hx => by
          rcases List.mem_append.1 hx with hx | hx
          · exact ha x hx
          · simp at hx; subst hx; exact h1) (by omega)
        rw [List.length_append, List.length_singleton] at g2 g3
        refine ⟨g1, by omega, by omega, g4⟩
    · injection h with h
      injection h with e1 e2
      subst e1 e2
      exact ⟨ha, rfl, Nat.le_refl _, h4⟩
theorem lstM_ok {p q : Pst} {l : List Rel} (h : lstM p = some (l, q)) : okL l = true ∧ q.n = p.n + l.length ∧ q.n ≤ 6 ∧ p.n < q.n := by
  unfold lstM at h
  split at h
  · cases h
  · rename_i r z hr
    obtain ⟨h1, h2, h3⟩ := relM_ok hr
    obtain ⟨g1, g2, g3, g4⟩ := relsM_ok h (fun x hx => by simp at hx; subst hx; exact h1) (by omega)
    rw [List.length_singleton] at g2 g3
    exact ⟨okL_iff.2 ⟨by omega, g1⟩, by omega, g4, by omega⟩
theorem lstsM_ok : ∀ {f : Nat} {acc c : Cnd} {p q : Pst}, lstsM f acc p = some (c, q) → (∀ l ∈ acc, okL l = true) → p.n ≤ 6 → (∀ l ∈ c, okL l = true) ∧ cnt c + p.n = cnt acc + q.n ∧ acc.length ≤ c.length ∧ q.n ≤ 6
  | 0, _, _, _, _, h, _, _ => by cases h
  | f + 1, acc, c, p, q, h, ha, h4 => by
    rw [lstsM] at h
    split at h
    · split at h
      · cases h
      · rename_i s z hs
        obtain ⟨h1, h2, h3, h6⟩ := lstM_ok hs
        have h5 : (nxt p).n = p.n := rfl
        obtain ⟨g1, g2, g3, g4⟩ := lstsM_ok h (fun x hx => by
          rcases List.mem_append.1 hx with hx | hx
          · exact ha x hx
          · simp at hx; subst hx; exact h1) h3
        rw [cnt_app, cnt_cons, cnt_nil] at g2
        rw [List.length_append, List.length_singleton] at g3
        refine ⟨g1, by omega, by omega, g4⟩
    · injection h with h
      injection h with e1 e2
      subst e1 e2
      exact ⟨ha, rfl, Nat.le_refl _, h4⟩
theorem cndM_ok {s : Str} {c : Cnd} {z : Pst} (h : cndM (N s 0) = some (c, z)) : okC c = true := by
  unfold cndM at h
  split at h
  · cases h
  · rename_i l q hl
    split at h
    · cases h
    · rename_i c' z' hc
      split at h
      · injection h with h
        injection h with e1 e2
        subst e1 e2
        obtain ⟨h1, h2, h3, h4⟩ := lstM_ok hl
        have h0 : (N s 0).n = 0 := rfl
        obtain ⟨g1, g2, g3, g4⟩ := lstsM_ok hc (fun x hx => by simp at hx; subst hx; exact h1) h3
        rw [cnt_cons, cnt_nil] at g2
        rw [List.length_singleton] at g3
        exact okC_iff.2 ⟨by omega, g1, by omega⟩
      · cases h
theorem prs_ok {s : Str} {c : Cnd} (h : prsM s = some c) : okC c = true := by
  unfold prsM at h
  cases hc : cndM (N s 0) with
  | none => rw [hc] at h; cases h
  | some x =>
    obtain ⟨c', z⟩ := x
    rw [hc] at h
    injection h with e
    dsimp only at e
    subst e
    exact cndM_ok hc
end Go.Proofs.YtnabklhkalnpiaaGreatDoor
