/- Plain facts on decimal numbers: strings and their numbers, values, shifting, rounding, comparing, normal forms. -/
import Derived.Test.YteofkofgdhmpjaaDoorKa
namespace Go.Proofs.YteofkofgdhmpjaaDoor
set_option linter.unusedVariables false
/-! ### The numbers of strings -/
def run : Nat → Str → Nat
  | 0, _ => 0
  | _ + 1, [] => 0
  | m + 1, c :: l => if isD c = true then run m l + 1 else 0
theorem run_le : ∀ (m : Nat) (l : Str), run m l ≤ m ∧ run m l ≤ l.length
  | 0, _ => ⟨Nat.le_refl _, Nat.zero_le _⟩
  | _ + 1, [] => ⟨Nat.zero_le _, Nat.zero_le _⟩
  | m + 1, c :: l => by
    rw [run]
    split
    · have := run_le m l
      simp
      omega
    · exact ⟨Nat.zero_le _, Nat.zero_le _⟩
theorem run_allD : ∀ (m : Nat) (l : Str), allD (l.take (run m l))
  | 0, _ => by simp [run, allD_nil]
  | _ + 1, [] => by simp [allD_nil]
  | m + 1, c :: l => by
    rw [run]
    split
    · rename_i h
      rw [List.take_succ_cons, allD_cons]
      exact ⟨h, run_allD m l⟩
    · simp [allD_nil]
theorem run_app : ∀ (m : Nat) (a b : Str), allD a → a.length ≤ m → (∀ c, b.head? = some c → isD c = false) → run m (a ++ b) = a.length
  | 0, a, b, _, h, _ => by
    have : a = [] := List.eq_nil_of_length_eq_zero (by omega)
    rw [this]; rfl
  | m + 1, [], [], _, _, _ => rfl
  | m + 1, [], c :: b, _, _, h => by
    rw [List.nil_append, run, if_neg (by rw [h c rfl]; simp)]
    rfl
  | m + 1, c :: a, b, ha, hl, h => by
    rw [allD_cons] at ha
    rw [List.cons_append, run, if_pos ha.1, run_app m a b ha.2 (by simpa using hl) h]
    rfl
/-- The program's way. -/
def frP (s2 : Str) : Str := if s2.head? = some 46 then s2.tail.take (run 6 s2.tail) else []
def reP (s2 : Str) : Str := if s2.head? = some 46 then s2.tail.drop (run 6 s2.tail) else s2
def okP (wh s2 : Str) : Bool := (decide (wh.length = 1) || (decide (1 < wh.length) && decide (wh.head? ≠ some 48))) && (decide (s2.head? ≠ some 46) || decide (0 < (frP s2).length))
def splU (neg : Bool) (s1 : Str) : Option Num :=
  let wh := s1.take (run 15 s1)
  let s2 := s1.drop (run 15 s1)
  if okP wh s2 = true ∧ reP s2 = [] ∧ (neg && (zero (wh ++ frP s2))) = false then some ⟨neg, wh, frP s2⟩ else none
def negP (s : Str) : Bool := decide (s.head? = some 45)
def unP (s : Str) : Str := if s.head? = some 45 then s.tail else s
def spl (s : Str) : Option Num := splU (negP s) (unP s)
def tx1 (x : Num) : Str := x.wh ++ (if x.fr = [] then [] else 46 :: x.fr)
theorem txt_eq (x : Num) : txt x = (if x.neg = true then [45] else []) ++ tx1 x := rfl
theorem head_isD {x : Num} (g : Good x) : ∀ c, (tx1 x).head? = some c → isD c = true := by
  intro c h
  have hp := g.low
  unfold tx1 at h
  cases hw : x.wh with
  | nil => rw [hw] at hp; simp at hp
  | cons d l =>
    rw [hw] at h
    simp at h
    subst h
    exact g.dw d (by rw [hw]; simp)
theorem negP_txt {x : Num} (g : Good x) : negP (txt x) = x.neg ∧ unP (txt x) = tx1 x := by
  rw [txt_eq]
  cases hn : x.neg with
  | true => exact ⟨rfl, rfl⟩
  | false =>
    have h : (tx1 x).head? ≠ some 45 := fun h => by
      have := head_isD g 45 h
      exact absurd this (by decide)
    unfold negP unP
    simp [h]
theorem spl_of {x : Num} (g : Good x) : spl (txt x) = some x := by
  obtain ⟨h1, h2⟩ := negP_txt g
  unfold spl
  rw [h1, h2]
  have hr : run 15 (tx1 x) = x.wh.length := by
    refine run_app 15 _ _ g.dw g.high (fun c hc => ?_)
    split at hc
    · cases hc
    · simp at hc; subst hc; rfl
  have ht : (tx1 x).take x.wh.length = x.wh := by unfold tx1; rw [List.take_left]
  have hd : (tx1 x).drop x.wh.length = if x.fr = [] then [] else 46 :: x.fr := by unfold tx1; rw [List.drop_left]
  unfold splU
  simp only [hr, ht, hd]
  have hf : frP (if x.fr = [] then [] else 46 :: x.fr) = x.fr ∧ reP (if x.fr = [] then [] else 46 :: x.fr) = [] := by
    by_cases h0 : x.fr = []
    · rw [if_pos h0, h0]; exact ⟨rfl, rfl⟩
    · rw [if_neg h0]
      have hr6 : run 6 x.fr = x.fr.length := by
        have := run_app 6 x.fr [] g.df g.few (fun c hc => by cases hc)
        rwa [List.append_nil] at this
      unfold frP reP
      simp [hr6]
  rw [hf.1, hf.2]
  have hok : okP x.wh (if x.fr = [] then [] else 46 :: x.fr) = true := by
    unfold okP
    rw [hf.1]
    have hl := g.low
    have a1 : (decide (x.wh.length = 1) || (decide (1 < x.wh.length) && decide (x.wh.head? ≠ some 48))) = true := by
      rcases Nat.lt_or_ge 1 x.wh.length with h | h
      · have := g.lead h
        simp [h, this]
      · have : x.wh.length = 1 := by omega
        simp [this]
    rw [a1, Bool.true_and]
    by_cases h0 : x.fr = []
    · simp [h0]
    · have := List.length_pos_iff.2 h0
      simp [this]
  rw [if_pos]
  refine ⟨hok, rfl, ?_⟩
  cases hn : x.neg with
  | true => rw [g.sign hn]; rfl
  | false => rfl
theorem tail_of {s : Str} {c : UInt8} (h : s.head? = some c) : s = c :: s.tail := by
  cases s with
  | nil => cases h
  | cons d l => simp at h; subst h; rfl
theorem unP_eq (s : Str) : s = (if negP s = true then [45] else []) ++ unP s := by
  unfold negP unP
  by_cases h : s.head? = some 45
  · simp [h]
    exact tail_of h
  · simp [h]
theorem frP_eq (s2 : Str) (h : reP s2 = []) : s2 = (if s2.head? = some 46 then 46 :: frP s2 else []) := by
  unfold reP at h
  unfold frP
  by_cases h0 : s2.head? = some 46
  · rw [if_pos h0] at h ⊢
    rw [if_pos h0]
    have h2 := List.take_append_drop (run 6 s2.tail) s2.tail
    rw [h, List.append_nil] at h2
    rw [h2]
    exact tail_of h0
  · simp [h0] at h ⊢
    exact h
theorem frP_allD (s2 : Str) : allD (frP s2) ∧ (frP s2).length ≤ 6 := by
  unfold frP
  split
  · refine ⟨run_allD _ _, ?_⟩
    have := run_le 6 s2.tail
    rw [List.length_take]; omega
  · exact ⟨allD_nil, by simp⟩
theorem spl_some {s : Str} {x : Num} (h : spl s = some x) : Good x ∧ txt x = s := by
  unfold spl splU at h
  dsimp only at h
  split at h
  case isFalse => cases h
  rename_i hc
  obtain ⟨h1, h2, h3⟩ := hc
  cases h
  have hr := run_le 15 (unP s)
  unfold okP at h1
  rw [Bool.and_eq_true] at h1
  obtain ⟨h4, h5⟩ := h1
  have hlen : ((unP s).take (run 15 (unP s))).length = run 15 (unP s) := by rw [List.length_take]; omega
  refine ⟨⟨run_allD _ _, (frP_allD _).1, ?_, by dsimp only; rw [hlen]; exact hr.1, ?_, (frP_allD _).2, ?_⟩, ?_⟩
  · dsimp only
    simp only [Bool.or_eq_true, Bool.and_eq_true, decide_eq_true_eq] at h4
    omega
  · intro hl
    dsimp only at hl ⊢
    simp only [Bool.or_eq_true, Bool.and_eq_true, decide_eq_true_eq] at h4
    rcases h4 with h4 | h4
    · omega
    · exact h4.2
  · intro hn
    dsimp only at hn ⊢
    rw [hn] at h3
    simpa using h3
  · conv => rhs; rw [unP_eq s, ← List.take_append_drop (run 15 (unP s)) (unP s), frP_eq _ h2]
    unfold txt
    dsimp only
    congr 2
    by_cases h0 : ((unP s).drop (run 15 (unP s))).head? = some 46
    · rw [if_pos h0]
      simp only [h0, ne_eq, not_true_eq_false, decide_false, Bool.false_or, decide_eq_true_eq] at h5
      rw [if_neg (List.ne_nil_of_length_pos h5)]
    · rw [if_neg h0]
      have : frP ((unP s).drop (run 15 (unP s))) = [] := by unfold frP; rw [if_neg h0]
      rw [this, if_pos rfl]
theorem spl_iff {s : Str} {x : Num} : spl s = some x ↔ Good x ∧ txt x = s := ⟨spl_some, fun ⟨g, h⟩ => by rw [← h]; exact spl_of g⟩
/-- The reference's way. -/
def adb (l : Str) : Bool := l.all isD
theorem adb_iff {l : Str} : adb l = true ↔ allD l := by unfold adb allD; rw [List.all_eq_true]
def dot (s : Str) : Nat := (s.takeWhile (· != 46)).length
def chk (neg : Bool) (wh fr : Str) : Bool := decide (1 ≤ wh.length) && decide (wh.length ≤ 15) && !(decide (1 < wh.length) && decide (wh.head? = some 48)) && decide (fr.length ≤ 6) && !(neg && zero (wh ++ fr))
def splR (neg : Bool) (s1 : Str) : Option Num :=
  let wh := s1.take (dot s1)
  let fr := s1.drop (dot s1 + 1)
  if ¬ (dot s1 < s1.length ∧ fr = []) ∧ adb (wh ++ fr) = true ∧ chk neg wh fr = true then some ⟨neg, wh, fr⟩ else none
theorem dot_le (s : Str) : dot s ≤ s.length := by
  unfold dot
  exact (List.takeWhile_sublist _).length_le
theorem dot_take (s : Str) : s.take (dot s) = s.takeWhile (· != 46) := by
  have h := List.takeWhile_append_dropWhile (p := (· != 46)) (l := s)
  unfold dot
  conv => lhs; arg 2; rw [← h]
  rw [List.take_left]
theorem dot_drop (s : Str) (h : dot s < s.length) : s.drop (dot s) = 46 :: s.drop (dot s + 1) := by
  induction s with
  | nil => simp at h
  | cons c l ih =>
    unfold dot at h ⊢
    by_cases hc : c = 46
    · subst hc; simp [List.takeWhile_cons]
    · have hc' : (c != 46) = true := by simpa using hc
      rw [List.takeWhile_cons, if_pos hc'] at h ⊢
      rw [List.length_cons, List.drop_succ_cons, List.drop_succ_cons]
      exact ih (by unfold dot; simpa using h)
theorem dot_app (a b : Str) (ha : allD a) (h : b = [] ∨ b.head? = some 46) : dot (a ++ b) = a.length := by
  induction a with
  | nil =>
    rcases h with rfl | h
    · rfl
    · rw [tail_of h]; rfl
  | cons c l ih =>
    rw [allD_cons] at ha
    have ih := ih ha.2
    unfold dot at ih ⊢
    have hc : (c != 46) = true := by
      rw [bne_iff_ne]
      rintro rfl
      exact absurd ha.1 (by decide)
    rw [List.cons_append, List.takeWhile_cons, if_pos hc, List.length_cons, ih, List.length_cons]
theorem splR_iff {neg : Bool} {s1 : Str} {x : Num} : splR neg s1 = some x ↔ Good x ∧ x.neg = neg ∧ tx1 x = s1 := by
  constructor
  · intro h
    unfold splR at h
    dsimp only at h
    split at h
    case isFalse => cases h
    rename_i hc
    obtain ⟨h1, h2, h3⟩ := hc
    cases h
    rw [adb_iff, allD_app] at h2
    unfold chk at h3
    simp only [Bool.and_eq_true, decide_eq_true_eq, Bool.not_eq_true', Bool.and_eq_false_iff, decide_eq_false_iff_not] at h3
    obtain ⟨⟨⟨⟨k1, k2⟩, k3⟩, k4⟩, k5⟩ := h3
    refine ⟨⟨h2.1, h2.2, k1, k2, ?_, k4, ?_⟩, rfl, ?_⟩
    · intro hl
      rcases k3 with k3 | k3
      · exact absurd hl k3
      · exact k3
    · intro hn
      dsimp only at hn ⊢
      rcases k5 with k5 | k5
      · rw [k5] at hn; cases hn
      · exact k5
    · unfold tx1
      dsimp only
      rcases Nat.lt_or_ge (dot s1) s1.length with h0 | h0
      · rw [if_neg (fun e => h1 ⟨h0, e⟩), ← dot_drop s1 h0, List.take_append_drop]
      · have e1 : s1.drop (dot s1 + 1) = [] := List.drop_eq_nil_of_le (by omega)
        rw [e1, if_pos rfl, List.append_nil, List.take_of_length_le h0]
  · rintro ⟨g, rfl, rfl⟩
    have hd : dot (tx1 x) = x.wh.length := dot_app _ _ g.dw (by split <;> simp)
    have ht : (tx1 x).take x.wh.length = x.wh := by unfold tx1; rw [List.take_left]
    have hf : (tx1 x).drop (x.wh.length + 1) = x.fr := by
      unfold tx1
      rw [Nat.add_comm, ← List.drop_drop]
      split
      · rename_i h0
        rw [h0, List.append_nil, List.drop_eq_nil_of_le]
        rw [List.length_drop]; have := g.low; omega
      · rename_i h0
        rw [List.drop_drop, Nat.add_comm, ← List.drop_drop, List.drop_left]
        rfl
    unfold splR
    simp only [hd, ht, hf]
    rw [if_pos]
    refine ⟨?_, adb_iff.2 (allD_app.2 ⟨g.dw, g.df⟩), ?_⟩
    · rintro ⟨h, h0⟩
      unfold tx1 at h
      rw [if_pos h0] at h
      simp at h
    · unfold chk
      have a1 := g.low
      have a2 := g.high
      have a3 := g.few
      have a4 : (decide (1 < x.wh.length) && decide (x.wh.head? = some 48)) = false := by
        rcases Nat.lt_or_ge 1 x.wh.length with h | h
        · have := g.lead h
          simp [this]
        · simp; omega
      have a5 : (x.neg && zero (x.wh ++ x.fr)) = false := by
        cases hn : x.neg with
        | true => rw [g.sign hn]; rfl
        | false => rfl
      rw [a4, a5]
      simp [a1, a2, a3]
theorem spl_splR (s : Str) : spl s = splR (negP s) (unP s) := by
  apply Option.ext
  intro x
  rw [spl_iff, splR_iff]
  constructor
  · rintro ⟨g, rfl⟩
    obtain ⟨h1, h2⟩ := negP_txt g
    exact ⟨g, h1.symm, h2.symm⟩
  · rintro ⟨g, h1, h2⟩
    refine ⟨g, ?_⟩
    rw [unP_eq s, txt_eq, h1, h2]

/-! ### Values -/
def W (x : Num) : Nat := val (x.wh ++ x.fr)
def mag (x : Num) : Nat := W x * 10 ^ (6 - x.fr.length)
def V (x : Num) : Int := if x.neg = true then -(mag x : Int) else (mag x : Int)
theorem W_zero {x : Num} (g : Good x) : zero (x.wh ++ x.fr) = true ↔ W x = 0 := zero_iff (allD_app.2 ⟨g.dw, g.df⟩)
theorem W_pos {x : Num} (g : Good x) (h : x.neg = true) : 0 < W x := by
  rcases Nat.eq_zero_or_pos (W x) with h0 | h0
  · have := (W_zero g).2 h0
    rw [g.sign h] at this
    cases this
  · exact h0
theorem p10 (n : Nat) : 0 < 10 ^ n := Nat.pow_pos (by omega)
theorem mag_pos {x : Num} (g : Good x) (h : x.neg = true) : 0 < mag x := Nat.mul_pos (W_pos g h) (p10 _)
theorem W_eq (x : Num) : W x = val x.wh * 10 ^ x.fr.length + val x.fr := val_app _ _
theorem mag_eq {x : Num} (g : Good x) : mag x = val x.wh * 1000000 + val x.fr * 10 ^ (6 - x.fr.length) ∧ val x.fr * 10 ^ (6 - x.fr.length) < 1000000 := by
  have h6 : (1000000 : Nat) = 10 ^ x.fr.length * 10 ^ (6 - x.fr.length) := by rw [← Nat.pow_add, Nat.add_sub_cancel' g.few]
  refine ⟨?_, ?_⟩
  · unfold mag
    rw [W_eq, Nat.add_mul, Nat.mul_assoc, ← h6]
  · rw [h6]
    exact Nat.mul_lt_mul_of_pos_right (val_lt g.df) (p10 _)
theorem fin_self {x : Num} (g : Good x) : fin x.neg x.wh x.fr = some (txt x) := by
  unfold fin
  rw [lead_of_slim g.lead, if_neg (by have := g.high; have := g.few; omega)]
  congr 2
  apply num_ext
  · dsimp only
    cases hn : x.neg with
    | true => rw [g.sign hn]; rfl
    | false => rfl
  · rfl
  · rfl
theorem res_self {x : Num} (g : Good x) {o : Option Str} (h : Res x.neg (W x) x.fr.length o) : o = some (txt x) :=
  res_one h ⟨x.wh, x.fr, (fin_self g).symm, g.dw, g.df, List.ne_nil_of_length_pos g.low, rfl, rfl⟩
theorem res_some {neg : Bool} {D F : Nat} {t : Str} (h : Res neg D F (some t)) : ∃ y, Good y ∧ txt y = t ∧ y.neg = (neg && decide (D ≠ 0)) ∧ y.fr.length = F ∧ W y = D := by
  obtain ⟨w, f, h0, h1, h2, h3, h4, h5⟩ := h
  unfold fin at h0
  split at h0
  · cases h0
  · rename_i hc
    have hv : val (lead w ++ f) = D := by rw [val_app, lead_val, ← val_app, h5]
    have hd : allD (lead w ++ f) := allD_app.2 ⟨lead_allD h1, h2⟩
    refine ⟨⟨neg && !zero (lead w ++ f), lead w, f⟩, ⟨lead_allD h1, h2, List.length_pos_iff.2 (lead_ne h3), by dsimp only; omega, lead_slim w, by dsimp only; omega, ?_⟩, ?_, ?_, h4, hv⟩
    · intro h
      dsimp only at h ⊢
      rw [Bool.and_eq_true] at h
      simpa using h.2
    · injection h0 with h0
      exact h0.symm
    · dsimp only
      congr 1
      have := zero_iff hd
      rw [hv] at this
      cases hz : zero (lead w ++ f) with
      | true =>
        have := this.1 hz
        simp [this]
      | false =>
        have : D ≠ 0 := fun h => by rw [this.2 h] at hz; cases hz
        simp [this]
theorem V_of {x y : Num} (g : Good x) {D : Nat} (h1 : y.neg = (x.neg && decide (D ≠ 0))) (h2 : W y = D) (m : Nat) (h3 : mag y = m) : V y = if x.neg = true then -(m : Int) else (m : Int) := by
  unfold V
  rw [h1, h3]
  cases x.neg with
  | false => rfl
  | true =>
    rcases Nat.eq_zero_or_pos D with h0 | h0
    · have : m = 0 := by rw [← h3]; unfold mag; rw [h2, h0, Nat.zero_mul]
      rw [this]; simp
    · have : D ≠ 0 := by omega
      simp [this]

/-! ### Shifting -/
def shD (x : Num) (n : Int) : Nat := W x * 10 ^ (n - x.fr.length).toNat
def shF (x : Num) (n : Int) : Nat := (x.fr.length - n : Int).toNat
theorem sh_big {x : Num} (g : Good x) {n : Int} (h : 21 ≤ n) (hw : W x ≠ 0) {o : Option Str} (hr : Res x.neg (shD x n) (shF x n) o) : o = none := by
  cases o with
  | none => rfl
  | some t =>
    exfalso
    obtain ⟨y, gy, _, _, h4, h5⟩ := res_some hr
    have hF : y.fr = [] := by
      apply List.eq_nil_of_length_eq_zero
      rw [h4]; unfold shF
      have := g.few
      omega
    have hy : W y < 10 ^ 15 := by
      unfold W
      rw [hF, List.append_nil]
      exact Nat.lt_of_lt_of_le (val_lt gy.dw) (Nat.pow_le_pow_right (by omega) gy.high)
    have h6 : 10 ^ 15 ≤ 10 ^ (n - x.fr.length).toNat := Nat.pow_le_pow_right (by omega) (by have := g.few; omega)
    have h7 : 1 * 10 ^ (n - x.fr.length).toNat ≤ W x * 10 ^ (n - x.fr.length).toNat := Nat.mul_le_mul_right _ (by omega)
    rw [h5] at hy
    unfold shD at hy
    omega
theorem sh_zero {x : Num} (g : Good x) {n m : Int} (hw : W x = 0) (h : 6 ≤ n) (h2 : 6 ≤ m) : shD x n = shD x m ∧ shF x n = shF x m := by
  unfold shD shF
  have := g.few
  rw [hw, Nat.zero_mul, Nat.zero_mul]
  exact ⟨rfl, by omega⟩
/-- The result of a shift by n. -/
def Sh (x : Num) (n : Int) (o : Option Str) : Prop := if n < -6 then o = none else Res x.neg (shD x (min n 21)) (shF x (min n 21)) o
theorem sh_one {x : Num} {n : Int} {o o' : Option Str} (h : Sh x n o) (h' : Sh x n o') : o = o' := by
  unfold Sh at h h'
  split at h
  · rename_i hn; rw [if_pos hn] at h'; rw [h, h']
  · rename_i hn; rw [if_neg hn] at h'; exact res_one h h'
/-- The reference's bounds lead to the same. -/
theorem sh_ref {x : Num} (g : Good x) {n : Int} {o : Option Str} (h : if n < -6 ∨ (21 < n ∧ W x ≠ 0) then o = none else Res x.neg (shD x (min n 30)) (shF x (min n 30)) o) : Sh x n o := by
  unfold Sh
  split
  · rename_i hn
    rw [if_pos (.inl hn)] at h
    exact h
  · rename_i hn
    by_cases h2 : 21 < n ∧ W x ≠ 0
    · rw [if_pos (.inr h2)] at h
      rw [h]
      have hr : ∃ o', Res x.neg (shD x (min n 21)) (shF x (min n 21)) o' := by
        have hm : min n 21 = 21 := by omega
        rw [hm]
        have hF : shF x 21 = 0 := by unfold shF; have := g.few; omega
        refine ⟨_, x.wh ++ x.fr ++ zs (21 - x.fr.length : Int).toNat, [], rfl, allD_app.2 ⟨allD_app.2 ⟨g.dw, g.df⟩, allD_zs _⟩, allD_nil, ?_, by rw [hF]; rfl, ?_⟩
        · have := g.low
          intro h
          have h9 := congrArg List.length h
          rw [List.length_append, List.length_append] at h9
          simp only [List.length_nil] at h9
          omega
        · rw [List.append_nil, val_app, val_zs, zs_len]
          rfl
      obtain ⟨o', ho'⟩ := hr
      have e := sh_big g (n := min n 21) (by omega) h2.2 ho'
      rw [e] at ho'
      exact ho'
    · rw [if_neg (fun h => h.elim hn h2)] at h
      by_cases h3 : 21 < n
      · have hw : W x = 0 := by
          rcases Nat.eq_zero_or_pos (W x) with h0 | h0
          · exact h0
          · exact absurd ⟨h3, by omega⟩ h2
        obtain ⟨e1, e2⟩ := sh_zero g (n := min n 21) (m := min n 30) hw (by omega) (by omega)
        rw [e1, e2]
        exact h
      · rw [show min n 21 = min n 30 by omega]
        exact h
theorem sh_self {x : Num} (g : Good x) {o : Option Str} (h : Sh x 0 o) : o = some (txt x) := by
  unfold Sh at h
  rw [if_neg (by omega)] at h
  have e1 : shD x (min 0 21) = W x := by
    unfold shD
    rw [show (min (0 : Int) 21 - x.fr.length).toNat = 0 by omega, Nat.pow_zero, Nat.mul_one]
  have e2 : shF x (min 0 21) = x.fr.length := by unfold shF; omega
  rw [e1, e2] at h
  exact res_self g h
/-- What a shift means. -/
theorem sh_mag {x : Num} (g : Good x) {n : Int} {t : Str} (h : Sh x n (some t)) : ∃ y, Good y ∧ txt y = t ∧ (∃ D, y.neg = (x.neg && decide (D ≠ 0)) ∧ W y = D) ∧ mag y * 10 ^ (-n).toNat = mag x * 10 ^ n.toNat := by
  unfold Sh at h
  split at h
  · cases h
  rename_i hn
  have hbig : 21 ≤ min n 21 → W x = 0 := fun h21 => by
    rcases Nat.eq_zero_or_pos (W x) with h0 | h0
    · exact h0
    · have := sh_big g (n := min n 21) h21 (by omega) h
      cases this
  obtain ⟨y, gy, h1, h2, h3, h4⟩ := res_some h
  refine ⟨y, gy, h1, ⟨_, h2, h4⟩, ?_⟩
  rcases Nat.eq_zero_or_pos (W x) with h0 | h0
  · have : W y = 0 := by rw [h4]; unfold shD; rw [h0, Nat.zero_mul]
    unfold mag
    rw [this, h0]
    simp
  · have hlt : n < 21 := by
      rcases Int.lt_or_le n 21 with h5 | h5
      · exact h5
      · have := hbig (by omega); omega
    rw [show min n 21 = n by omega] at h3 h4
    unfold shF at h3
    unfold mag
    rw [h4, h3]
    unfold shD
    have h6 := g.few
    have h7 : y.fr.length ≤ 6 := gy.few
    rw [h3] at h7
    rw [Nat.mul_assoc, Nat.mul_assoc, Nat.mul_assoc]
    congr 1
    rw [← Nat.pow_add, ← Nat.pow_add, ← Nat.pow_add]
    congr 1
    omega
theorem sh_V {x : Num} (g : Good x) {n : Int} {t : Str} (h : Sh x n (some t)) : ∃ y, Good y ∧ txt y = t ∧ V y * ((10 ^ (-n).toNat : Nat) : Int) = V x * ((10 ^ n.toNat : Nat) : Int) := by
  obtain ⟨y, gy, h1, ⟨D, h2, h3⟩, h4⟩ := sh_mag g h
  refine ⟨y, gy, h1, ?_⟩
  rw [V_of g h2 h3 (mag y) rfl]
  unfold V
  have h5 : (mag y : Int) * ((10 ^ (-n).toNat : Nat) : Int) = (mag x : Int) * ((10 ^ n.toNat : Nat) : Int) := by
    rw [← Int.natCast_mul, ← Int.natCast_mul, h4]
  cases x.neg with
  | false => exact h5
  | true => simp only [if_true, Int.neg_mul, h5]

/-! ### Comparing -/
def cmpI (a b : Int) : Int := if a < b then -1 else if b < a then 1 else 0
theorem cmpI_scale {a b k : Int} (hk : 0 < k) : cmpI (a * k) (b * k) = cmpI a b := by
  unfold cmpI
  have h1 : a * k < b * k ↔ a < b := Int.mul_lt_mul_right hk
  have h2 : b * k < a * k ↔ b < a := Int.mul_lt_mul_right hk
  simp only [h1, h2]
theorem cmpI_neg (a b : Int) : cmpI (-a) (-b) = cmpI b a := by unfold cmpI; split <;> split <;> (try split) <;> omega
theorem cmpI_swap (a b : Int) : cmpI b a = -cmpI a b := by unfold cmpI; split <;> split <;> (try split) <;> omega
theorem cmpI_zero {a b : Int} : cmpI a b = 0 ↔ a = b := by unfold cmpI; split <;> (try split) <;> omega
theorem cmpI_range (a b : Int) : -1 ≤ cmpI a b ∧ cmpI a b ≤ 1 := by unfold cmpI; split <;> (try split) <;> omega
/-- Shifting does not change the order. -/
theorem sh_order {a b x y : Num} (ga : Good a) (gb : Good b) {n : Int} {s t : Str} (h1 : Sh a n (some s)) (h2 : Sh b n (some t)) (hx : spl s = some x) (hy : spl t = some y) : cmpI (V x) (V y) = cmpI (V a) (V b) := by
  obtain ⟨x', gx, e1, k1⟩ := sh_V ga h1
  obtain ⟨y', gy, e2, k2⟩ := sh_V gb h2
  rw [← e1, spl_of gx] at hx
  rw [← e2, spl_of gy] at hy
  obtain hx := Option.some.inj hx
  obtain hy := Option.some.inj hy
  subst hx hy
  have p1 : (0 : Int) < ((10 ^ (-n).toNat : Nat) : Int) := Int.natCast_pos.2 (p10 _)
  have p2 : (0 : Int) < ((10 ^ n.toNat : Nat) : Int) := Int.natCast_pos.2 (p10 _)
  rw [← cmpI_scale p1, k1, k2, cmpI_scale p2]
/-- Back again. -/
theorem sh_back {x y z : Num} (g : Good x) {n : Int} {s t : Str} (h1 : Sh x n (some s)) (hy : spl s = some y) (h2 : Sh y (-n) (some t)) (hz : spl t = some z) : V z = V x := by
  obtain ⟨y', gy, e1, k1⟩ := sh_V g h1
  rw [← e1, spl_of gy] at hy
  have hy := Option.some.inj hy
  subst hy
  obtain ⟨z', gz, e2, k2⟩ := sh_V gy h2
  rw [← e2, spl_of gz] at hz
  have hz := Option.some.inj hz
  subst hz
  have p1 : (0 : Int) < ((10 ^ (-n).toNat : Nat) : Int) := Int.natCast_pos.2 (p10 _)
  have p2 : (0 : Int) < ((10 ^ n.toNat : Nat) : Int) := Int.natCast_pos.2 (p10 _)
  rw [Int.neg_neg] at k2
  have : V z' * ((10 ^ n.toNat : Nat) : Int) = V x * ((10 ^ n.toNat : Nat) : Int) := by rw [k2, k1]
  exact Int.eq_of_mul_eq_mul_right (by omega) this

/-! ### Rounding -/
def roD (x : Num) (n : Nat) : Nat := if x.fr.length ≤ n then W x * 10 ^ (n - x.fr.length) else val (x.wh ++ x.fr.take n) + (if 53 ≤ (x.fr.getD n 0).toNat then 1 else 0)
def Ro (x : Num) (n : Nat) (o : Option Str) : Prop := Res x.neg (roD x n) n o
theorem half_up {q r B t : Nat} (hr : r < B) (ht : t = if B ≤ 2 * r then 1 else 0) : (2 * (q * B + r) + B) / (2 * B) = q + t := by
  have hB : 0 < 2 * B := by omega
  have e : 2 * (q * B + r) + B = (2 * r + B) + 2 * B * q := by
    have : 2 * B * q = 2 * (q * B) := by rw [Nat.mul_assoc, Nat.mul_comm B]
    omega
  rw [e, Nat.add_mul_div_left _ _ hB, ht]
  split
  · rw [Nat.div_eq_of_lt_le (m := 2 * r + B) (n := 2 * B) (k := 1) (by omega) (by omega)]; omega
  · rw [Nat.div_eq_of_lt (by omega)]; omega
theorem ro_formula {x : Num} (g : Good x) {n : Nat} (hn : n ≤ 6) : roD x n = (2 * mag x + 10 ^ (6 - n)) / (2 * 10 ^ (6 - n)) := by
  have h6 := g.few
  unfold roD
  split
  · rename_i h
    have e : mag x = (W x * 10 ^ (n - x.fr.length)) * 10 ^ (6 - n) + 0 := by
      unfold mag
      rw [Nat.mul_assoc, ← Nat.pow_add, Nat.add_zero]
      congr 2
      omega
    rw [e, half_up (t := 0) (p10 _) (by rw [if_neg]; have := p10 (6 - n); omega), Nat.add_zero]
  · rename_i h
    obtain ⟨d, hd⟩ : ∃ d, x.fr.length = n + 1 + d := ⟨x.fr.length - n - 1, by omega⟩
    have e1 : x.fr = x.fr.take n ++ (x.fr.getD n 0 :: x.fr.drop (n + 1)) := by
      have : x.fr.drop n = x.fr.getD n 0 :: x.fr.drop (n + 1) := by
        rw [List.drop_eq_getElem_cons (by omega)]
        congr 1
        rw [List.getD_eq_getElem?_getD, List.getElem?_eq_getElem (by omega)]
        rfl
      rw [← this, List.take_append_drop]
    have hdl : (x.fr.drop (n + 1)).length = d := by rw [List.length_drop]; omega
    have hD : isD (x.fr.getD n 0) = true := by
      rw [List.getD_eq_getElem?_getD, List.getElem?_eq_getElem (by omega)]
      exact g.df _ (List.getElem_mem _)
    have hrl : val (x.fr.drop (n + 1)) < 10 ^ d := by rw [← hdl]; exact val_lt (allD_drop g.df _)
    obtain ⟨c, hc⟩ : ∃ c, x.fr.getD n 0 = c := ⟨_, rfl⟩
    obtain ⟨r, hr⟩ : ∃ r, val (x.fr.drop (n + 1)) = r := ⟨_, rfl⟩
    obtain ⟨q, hq⟩ : ∃ q, val (x.wh ++ x.fr.take n) = q := ⟨_, rfl⟩
    have eW : W x = q * 10 ^ (d + 1) + (dg c * 10 ^ d + r) := by
      unfold W
      rw [e1, ← List.append_assoc, val_app, val_cons, hq, hr, hc, List.length_cons, hdl]
    rw [hc, hq]
    rw [hc] at hD
    rw [hr] at hrl
    rw [isD_iff] at hD
    have em : mag x = q * 10 ^ (6 - n) + (dg c * 10 ^ d + r) * 10 ^ (6 - x.fr.length) := by
      unfold mag
      rw [eW, Nat.add_mul, Nat.mul_assoc, ← Nat.pow_add]
      congr 3
      omega
    have eB : 10 ^ (6 - n) = (10 * 10 ^ d) * 10 ^ (6 - x.fr.length) := by
      rw [Nat.mul_comm 10, ← Nat.pow_succ, ← Nat.pow_add]
      congr 1
      omega
    have hk := p10 (6 - x.fr.length)
    obtain ⟨K, hK⟩ : ∃ K, 10 ^ (6 - x.fr.length) = K := ⟨_, rfl⟩
    obtain ⟨T, hT⟩ : ∃ T, 10 ^ d = T := ⟨_, rfl⟩
    rw [hK] at em eB hk
    rw [hT] at em eB hrl
    have hdc : dg c ≤ 9 ∧ (53 ≤ c.toNat ↔ 5 ≤ dg c) := by unfold dg; omega
    have l1 : dg c * T + r < 10 * T := by
      have := Nat.mul_le_mul_right T hdc.1
      omega
    have l2 : (dg c * T + r) * K < 10 ^ (6 - n) := by rw [eB]; exact Nat.mul_lt_mul_of_pos_right l1 hk
    rw [em]
    rw [half_up l2 (t := if 53 ≤ c.toNat then 1 else 0)]
    have e3 : (10 ^ (6 - n) ≤ 2 * ((dg c * T + r) * K)) ↔ 53 ≤ c.toNat := by
      rw [eB, ← Nat.mul_assoc, Nat.mul_le_mul_right_iff hk, hdc.2]
      constructor
      · intro h
        rcases Nat.lt_or_ge (dg c) 5 with h5 | h5
        · exfalso
          have := Nat.mul_le_mul_right T (show dg c ≤ 4 by omega)
          omega
        · exact h5
      · intro h
        have := Nat.mul_le_mul_right T h
        omega
    simp only [e3]
theorem ro_some {x : Num} (g : Good x) {n : Nat} (hn : n ≤ 6) {t : Str} (h : Ro x n (some t)) : ∃ y, Good y ∧ txt y = t ∧ y.fr.length = n ∧ W y = roD x n ∧ V y = (if x.neg = true then -((roD x n * 10 ^ (6 - n) : Nat) : Int) else ((roD x n * 10 ^ (6 - n) : Nat) : Int)) := by
  obtain ⟨y, gy, h1, h2, h3, h4⟩ := res_some h
  refine ⟨y, gy, h1, h3, h4, V_of g h2 h4 _ ?_⟩
  unfold mag
  rw [h4, h3]
theorem ro_mono {x y : Num} (gx : Good x) (gy : Good y) {n : Nat} (hn : n ≤ 6) (h : mag x ≤ mag y) : roD x n * 10 ^ (6 - n) ≤ roD y n * 10 ^ (6 - n) := by
  apply Nat.mul_le_mul_right
  rw [ro_formula gx hn, ro_formula gy hn]
  exact Nat.div_le_div_right (by omega)
theorem ro_near {x : Num} (g : Good x) {n : Nat} (hn : n ≤ 6) : 2 * (roD x n * 10 ^ (6 - n)) ≤ 2 * mag x + 10 ^ (6 - n) ∧ 2 * mag x ≤ 2 * (roD x n * 10 ^ (6 - n)) + 10 ^ (6 - n) := by
  rw [ro_formula g hn]
  obtain ⟨U, hU⟩ : ∃ U, 10 ^ (6 - n) = U := ⟨_, rfl⟩
  have hp := p10 (6 - n)
  rw [hU] at hp ⊢
  obtain ⟨q, hq⟩ : ∃ q, (2 * mag x + U) / (2 * U) = q := ⟨_, rfl⟩
  have h1 := Nat.div_mul_le_self (2 * mag x + U) (2 * U)
  have h2 := Nat.lt_div_mul_add (show 0 < 2 * U by omega) (a := 2 * mag x + U)
  rw [hq] at h1 h2 ⊢
  have e : q * (2 * U) = 2 * (q * U) := by rw [Nat.mul_left_comm]
  rw [e] at h1 h2
  omega
/-- Rounding does not reverse the order. -/
theorem ro_order {a b x y : Num} (ga : Good a) (gb : Good b) {n : Nat} (hn : n ≤ 6) {s t : Str} (h1 : Ro a n (some s)) (h2 : Ro b n (some t)) (hx : spl s = some x) (hy : spl t = some y) : 0 ≤ cmpI (V x) (V y) * cmpI (V a) (V b) := by
  obtain ⟨x', gx, e1, _, _, k1⟩ := ro_some ga hn h1
  obtain ⟨y', gy, e2, _, _, k2⟩ := ro_some gb hn h2
  rw [← e1, spl_of gx] at hx
  rw [← e2, spl_of gy] at hy
  obtain hx := Option.some.inj hx
  obtain hy := Option.some.inj hy
  subst hx hy
  have m1 : mag a ≤ mag b → (roD a n * 10 ^ (6 - n) : Nat) ≤ roD b n * 10 ^ (6 - n) := ro_mono ga gb hn
  have m2 : mag b ≤ mag a → (roD b n * 10 ^ (6 - n) : Nat) ≤ roD a n * 10 ^ (6 - n) := ro_mono gb ga hn
  rw [k1, k2]
  obtain ⟨A, hA⟩ : ∃ A, roD a n * 10 ^ (6 - n) = A := ⟨_, rfl⟩
  obtain ⟨B, hB⟩ : ∃ B, roD b n * 10 ^ (6 - n) = B := ⟨_, rfl⟩
  rw [hA, hB] at m1 m2 ⊢
  unfold V
  unfold cmpI
  cases a.neg <;> cases b.neg <;> simp only [if_true, if_false, Bool.false_eq_true] <;> split <;> split <;> (try split) <;> (try split) <;> omega
/-- Rounding again changes nothing. -/
theorem ro_again {y : Num} (g : Good y) {n : Nat} (h : y.fr.length = n) {o : Option Str} (hr : Ro y n o) : o = some (txt y) := by
  unfold Ro roD at hr
  rw [if_pos (by omega), h, Nat.sub_self, Nat.pow_zero, Nat.mul_one] at hr
  rw [← h] at hr
  exact res_self g hr

/-! ### Normal forms -/
def nrm (x : Num) : Num := ⟨x.neg, x.wh, trim x.fr⟩
theorem zero_nrm (x : Num) : zero (x.wh ++ trim x.fr) = zero (x.wh ++ x.fr) := by rw [zero_app, zero_app, zero_trim]
theorem nrm_good {x : Num} (g : Good x) : Good (nrm x) :=
  ⟨g.dw, trim_allD g.df, g.low, g.high, g.lead, Nat.le_trans (trim_len _) g.few, fun h => by show zero (x.wh ++ trim x.fr) = false; rw [zero_nrm]; exact g.sign h⟩
theorem nrm_nrm (x : Num) : nrm (nrm x) = nrm x := num_ext rfl rfl (trim_trim _)
theorem val_trim (l : Str) : val l = val (trim l) * 10 ^ (l.length - (trim l).length) := by
  conv => lhs; rw [trim_split l, val_app, val_zs, zs_len]
  rfl
theorem nrm_V {x : Num} (g : Good x) : V (nrm x) = V x := by
  have hm : mag (nrm x) = mag x := by
    rw [(mag_eq (nrm_good g)).1, (mag_eq g).1]
    show val x.wh * 1000000 + val (trim x.fr) * 10 ^ (6 - (trim x.fr).length) = _
    rw [val_trim x.fr, Nat.mul_assoc, ← Nat.pow_add]
    congr 3
    have := trim_len x.fr
    have := g.few
    omega
  unfold V
  rw [hm]
  rfl
theorem nrm_iff {x y : Num} (gx : Good x) (gy : Good y) : V x = V y ↔ nrm x = nrm y := by
  constructor
  · intro h
    have hs : x.neg = y.neg ∧ mag x = mag y := by
      unfold V at h
      cases hx : x.neg with
      | true =>
        have := mag_pos gx hx
        cases hy : y.neg with
        | true => rw [hx, hy] at h; simp only [if_true] at h; exact ⟨rfl, by omega⟩
        | false => rw [hx, hy] at h; simp only [if_true, Bool.false_eq_true, if_false] at h; omega
      | false =>
        cases hy : y.neg with
        | true => have := mag_pos gy hy; rw [hx, hy] at h; simp only [if_true, Bool.false_eq_true, if_false] at h; omega
        | false => rw [hx, hy] at h; simp only [Bool.false_eq_true, if_false] at h; exact ⟨rfl, by omega⟩
    have h1 := mag_eq gx
    have h2 := mag_eq gy
    have e1 : val x.wh = val y.wh := by omega
    have e2 : val x.fr * 10 ^ (6 - x.fr.length) = val y.fr * 10 ^ (6 - y.fr.length) := by omega
    exact num_ext hs.1 (slim_inj gx.dw gy.dw gx.lead gy.lead (List.ne_nil_of_length_pos gx.low) (List.ne_nil_of_length_pos gy.low) e1) (trim_inj gx.df gy.df gx.few gy.few e2)
  · intro h
    rw [← nrm_V gx, h, nrm_V gy]
theorem txt_inj {x y : Num} (gx : Good x) (gy : Good y) : txt x = txt y ↔ x = y := by
  constructor
  · intro h
    have := spl_of gx
    rw [h, spl_of gy] at this
    exact (Option.some.inj this).symm
  · rintro rfl; rfl
end Go.Proofs.YteofkofgdhmpjaaDoor
