/- Plain facts for the laws: joining conditions, opposite relations, reversing and dividing, signs and zeros. -/
import Derived.Test.YtnabklhkalnpiaaGreatDoorCa
namespace Go.Proofs.YtnabklhkalnpiaaGreatDoor
set_option linter.unusedVariables false

theorem anyC {α : Type} {l : List α} {f g : α → Bool} (h : ∀ x ∈ l, f x = g x) : l.any f = l.any g := by
  induction l with
  | nil => rfl
  | cons x l ih => rw [List.any_cons, List.any_cons, h x (by simp), ih (fun y hy => h y (by simp [hy]))]
theorem allC {α : Type} {l : List α} {f g : α → Bool} (h : ∀ x ∈ l, f x = g x) : l.all f = l.all g := by
  induction l with
  | nil => rfl
  | cons x l ih => rw [List.all_cons, List.all_cons, h x (by simp), ih (fun y hy => h y (by simp [hy]))]
theorem holdR_ok {c : Cnd} {s : Str} (h : okC c = true) (hs : (spl s).isSome = true) : holdR c s = (hldC s c, 0) := by
  unfold holdR
  rw [if_pos ⟨h, hs⟩]

/-! ### Joined, opposite -/
theorem hldC_app (s : Str) (c d : Cnd) : hldC s (c ++ d) = (hldC s c || hldC s d) := by
  unfold hldC
  rw [List.any_append]
theorem hld_one (s : Str) (r : Rel) : hldC s [[r]] = hldR s r := by simp [hldC, hldL]
def opp (r : Rel) : Rel := ⟨r.op, r.md, !r.nt, r.sp⟩
theorem hldR_opp (s : Str) (r : Rel) : hldR s (opp r) = !hldR s r := by
  unfold hldR hldO opp
  dsimp only
  split
  · generalize inside r.sp (rem r.md (opR s r.op).1) = b
    cases b <;> cases r.nt <;> rfl
  · rfl
theorem okR_opp (r : Rel) : okR (opp r) = okR r := rfl
theorem okC_one (r : Rel) : okC [[r]] = okR r := by
  simp [okC, okL, cnt]
theorem okC_first {c : Cnd} (h : okC c = true) (h0 : 0 < c.length) (h1 : 0 < c[0].length) : okR c[0][0] = true :=
  (okL_iff.1 ((okC_iff.1 h).2.1 _ (List.getElem_mem h0))).2 _ (List.getElem_mem h1)

/-! ### Reversed, divided -/
def midS (k : Int) (s : Int × Int) : Int := s.1 + k.tmod (s.2 - s.1)
def lastS (k : Int) (n : Nat) (s : Int × Int) : List (Int × Int) := if s.1 < s.2 ∧ n < 4 then [(midS k s + 1, s.2), (s.1, midS k s)] else [s]
def backS (k : Int) : List (Int × Int) → List (Int × Int)
  | [] => []
  | s :: l => l.reverse ++ lastS k (l.length + 1) s
def bkR (k : Int) (r : Rel) : Rel := ⟨r.op, r.md, r.nt, backS k r.sp⟩
def bkL (k : Int) (l : List Rel) : List Rel := l.reverse.map (bkR k)
def bkC (k : Int) (c : Cnd) : Cnd := c.reverse.map (bkL k)
theorem midS_in {k : Int} (hk : 0 ≤ k) {s : Int × Int} (h : s.1 < s.2) : s.1 ≤ midS k s ∧ midS k s < s.2 := by
  unfold midS
  have h1 := Int.emod_nonneg k (by omega : s.2 - s.1 ≠ 0)
  have h2 := Int.emod_lt_of_pos k (by omega : 0 < s.2 - s.1)
  rw [Int.tmod_eq_emod_of_nonneg hk]
  omega
theorem inside_app (a b : List (Int × Int)) (n : Int) : inside (a ++ b) n = (inside a n || inside b n) := by
  unfold inside
  rw [List.any_append]
theorem inside_rev (a : List (Int × Int)) (n : Int) : inside a.reverse n = inside a n := by
  unfold inside
  rw [List.any_reverse]
theorem inside_cons (s : Int × Int) (l : List (Int × Int)) (n : Int) : inside (s :: l) n = ((decide (s.1 ≤ n) && decide (n ≤ s.2)) || inside l n) := rfl
theorem inside_last {k : Int} (hk : 0 ≤ k) (m : Nat) (s : Int × Int) (n : Int) : inside (lastS k m s) n = (decide (s.1 ≤ n) && decide (n ≤ s.2)) := by
  unfold lastS
  split
  case isTrue h =>
    have h1 := midS_in hk h.1
    rw [inside_cons, inside_cons, Bool.eq_iff_iff]
    simp only [inside, List.any_nil, Bool.or_false, Bool.or_eq_true, Bool.and_eq_true, decide_eq_true_eq]
    omega
  case isFalse => simp [inside]
theorem inside_back {k : Int} (hk : 0 ≤ k) (l : List (Int × Int)) (n : Int) : inside (backS k l) n = inside l n := by
  cases l with
  | nil => rfl
  | cons s l =>
    unfold backS
    rw [inside_app, inside_rev, inside_last hk, inside_cons, Bool.or_comm]
theorem hldR_back {k : Int} (hk : 0 ≤ k) (s : Str) (r : Rel) : hldR s (bkR k r) = hldR s r := by
  unfold hldR hldO bkR
  dsimp only
  rw [inside_back hk]
theorem hldL_back {k : Int} (hk : 0 ≤ k) (s : Str) (l : List Rel) : hldL s (bkL k l) = hldL s l := by
  unfold hldL bkL
  rw [List.all_map, List.all_reverse]
  exact allC fun r _ => hldR_back hk s r
theorem hldC_back {k : Int} (hk : 0 ≤ k) (s : Str) (c : Cnd) : hldC s (bkC k c) = hldC s c := by
  unfold hldC bkC
  rw [List.any_map, List.any_reverse]
  exact anyC fun l _ => hldL_back hk s l
theorem lastS_ok {k : Int} (hk : 0 ≤ k) {o : Int} {m : Nat} {s : Int × Int} (h : okSp o s = true) : ∀ x ∈ lastS k m s, okSp o x = true := by
  unfold lastS
  split
  case isTrue h1 =>
    have h2 := midS_in hk h1.1
    unfold okSp at h
    simp only [Bool.and_eq_true, decide_eq_true_eq, okEnd_iff] at h
    intro x hx
    simp only [List.mem_cons, List.not_mem_nil, or_false] at hx
    rcases hx with rfl | rfl <;>
      · unfold okSp
        simp only [Bool.and_eq_true, decide_eq_true_eq, okEnd_iff]
        omega
  case isFalse =>
    intro x hx
    simp only [List.mem_cons, List.not_mem_nil, or_false] at hx
    subst hx
    exact h
theorem lastS_len (k : Int) (n : Nat) (s : Int × Int) : 1 ≤ (lastS k n s).length ∧ (lastS k n s).length ≤ 2 ∧ (4 ≤ n → (lastS k n s).length = 1) := by
  unfold lastS
  split
  case isTrue h => exact ⟨by simp, by simp, fun h4 => by omega⟩
  case isFalse => simp
theorem backS_len (k : Int) (l : List (Int × Int)) : (backS k l).length ≤ max l.length 4 ∧ (0 < l.length → 0 < (backS k l).length) := by
  cases l with
  | nil => simp [backS]
  | cons s l =>
    have h := lastS_len k (l.length + 1) s
    have e : (backS k (s :: l)).length = l.length + (lastS k (l.length + 1) s).length := by unfold backS; rw [List.length_append, List.length_reverse]
    rw [e, List.length_cons]
    omega
theorem okR_back {k : Int} (hk : 0 ≤ k) {r : Rel} (h : okR r = true) : okR (bkR k r) = true := by
  have g := okR_iff.1 h
  have h1 := backS_len k r.sp
  refine okR_iff.2 ⟨g.lo, g.hi, g.md, h1.2 g.some_, ?_, ?_⟩
  · have h2 := h1.1
    have h3 := g.few
    show (backS k r.sp).length ≤ 4
    omega
  · show ∀ s ∈ backS k r.sp, okSp r.op s = true
    have h4 := g.sp
    cases hl : r.sp with
    | nil => intro s hs; cases hs
    | cons s0 l =>
      rw [hl] at h4
      intro s hs
      unfold backS at hs
      rcases List.mem_append.1 hs with hs | hs
      · exact h4 s (by simp [List.mem_reverse.1 hs])
      · exact lastS_ok hk (h4 s0 (by simp)) s hs
theorem cnt_map (f : List Rel → List Rel) (hf : ∀ l, (f l).length = l.length) : ∀ c : Cnd, cnt (c.map f) = cnt c
  | [] => rfl
  | l :: c => by rw [List.map_cons, cnt_cons, cnt_cons, hf, cnt_map f hf c]
theorem cnt_rev : ∀ c : Cnd, cnt c.reverse = cnt c
  | [] => rfl
  | l :: c => by rw [List.reverse_cons, cnt_app, cnt_rev c, cnt_cons, cnt_cons, cnt_nil]; omega
theorem bkL_len (k : Int) (l : List Rel) : (bkL k l).length = l.length := by unfold bkL; simp
theorem okC_back {k : Int} (hk : 0 ≤ k) {c : Cnd} (h : okC c = true) : okC (bkC k c) = true := by
  obtain ⟨h0, h1, h2⟩ := okC_iff.1 h
  refine okC_iff.2 ⟨by unfold bkC; rw [List.length_map, List.length_reverse]; exact h0, fun l hl => ?_, ?_⟩
  · unfold bkC at hl
    obtain ⟨m, hm, rfl⟩ := List.mem_map.1 hl
    obtain ⟨g0, g1⟩ := okL_iff.1 (h1 m (List.mem_reverse.1 hm))
    refine okL_iff.2 ⟨by rw [bkL_len]; exact g0, fun r hr => ?_⟩
    unfold bkL at hr
    obtain ⟨q, hq, rfl⟩ := List.mem_map.1 hr
    exact okR_back hk (g1 q (List.mem_reverse.1 hq))
  · unfold bkC
    rw [cnt_map _ (bkL_len k), cnt_rev]
    exact h2

/-! ### Signs and zeros -/
theorem opR_some {s : Str} {x : Num} (h : spl s = some x) (k : Int) : opR s k = opnd x k := by
  unfold opR
  rw [h]
theorem hldC_of {s t : Str} {c : Cnd} (h : ∀ l ∈ c, ∀ r ∈ l, opR s r.op = opR t r.op) : hldC s c = hldC t c := by
  unfold hldC
  refine anyC fun l hl => ?_
  unfold hldL
  refine allC fun r hr => ?_
  unfold hldR
  rw [h l hl r hr]
def neg_ (x : Num) : Num := ⟨!x.neg && !zero (x.wh ++ x.fr), x.wh, x.fr⟩
theorem neg_good {x : Num} (g : Good x) : Good (neg_ x) := ⟨g.dw, g.df, g.low, g.high, g.lead, g.few, fun h => by
  have h1 : (!x.neg && !zero (x.wh ++ x.fr)) = true := h
  simp at h1
  simpa [neg_] using h1.2⟩
theorem hldC_neg {s : Str} {x : Num} (h : spl s = some x) (c : Cnd) : hldC (txt (neg_ x)) c = hldC s c :=
  hldC_of fun l _ r _ => by rw [opR_some (spl_of (neg_good (spl_some h).1)), opR_some h]; rfl
theorem hldC_nrm {s : Str} {x : Num} (h : spl s = some x) (c : Cnd) (hc : ∀ l ∈ c, ∀ r ∈ l, r.op ≠ 3 ∧ r.op ≠ 5) : hldC (txt (nrm x)) c = hldC s c :=
  hldC_of fun l hl r hr => by
    rw [opR_some (spl_of (nrm_good (spl_some h).1)), opR_some h]
    obtain ⟨h3, h5⟩ := hc l hl r hr
    unfold opnd nrm
    dsimp only
    rw [zero_trim, trim_trim, if_neg h3, if_neg h3, if_neg h5, if_neg h5]
end Go.Proofs.YtnabklhkalnpiaaGreatDoor
