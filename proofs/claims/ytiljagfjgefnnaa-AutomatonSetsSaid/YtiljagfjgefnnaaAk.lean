/- Automata, plain: complement, product, number of words, the shortest word. -/
import Derived.Test.YtiljagfjgefnnaaAb
namespace Go.Proofs.Ytiljagfjgefnnaa
set_option linter.unusedVariables false

/-! ### Complement -/
def compl (A : Aut) : Aut := ⟨A.n, A.s0, A.d, fun s => !A.f s⟩
theorem compl_ok {A : Aut} (h : A.Ok) : (compl A).Ok := ⟨h.st, h.go⟩
theorem compl_acc (A : Aut) (s : Nat) (w : List Nat) : (compl A).acc s w = !A.acc s w := rfl
theorem compl_eqv {A B : Aut} {s t : Nat} (h : Eqv A B s t) : Eqv (compl A) (compl B) s t := fun w hw => by rw [compl_acc, compl_acc, h w hw]

/-! ### Product -/
def prodA (A B : Aut) (g : Bool → Bool → Bool) : Aut := ⟨A.n * B.n, A.s0 * B.n + B.s0, fun x c => A.d (x / B.n) c * B.n + B.d (x % B.n) c, fun x => g (A.f (x / B.n)) (B.f (x % B.n))⟩
theorem pair_lt {a b n k : Nat} (h : a < n) (hb : b < k) : a * k + b < n * k := by
  have h1 : (a + 1) * k ≤ n * k := Nat.mul_le_mul_right k h
  rw [Nat.add_mul, Nat.one_mul] at h1
  omega
theorem pair_div {a b k : Nat} (hb : b < k) : (a * k + b) / k = a := by
  rw [Nat.mul_comm, Nat.mul_add_div (by omega), Nat.div_eq_of_lt hb, Nat.add_zero]
theorem pair_mod {a b k : Nat} (hb : b < k) : (a * k + b) % k = b := by
  rw [Nat.mul_comm, Nat.mul_add_mod, Nat.mod_eq_of_lt hb]
section
variable {A B : Aut} {g : Bool → Bool → Bool}
theorem prod_ok (hA : A.Ok) (hB : B.Ok) : (prodA A B g).Ok := by
  refine ⟨pair_lt hA.st hB.st, fun x c hx hc => ?_⟩
  have hk : 0 < B.n := Nat.lt_of_le_of_lt (Nat.zero_le _) hB.st
  have hx' : x < A.n * B.n := hx
  have h1 : x / B.n < A.n := Nat.div_lt_of_lt_mul (by rw [Nat.mul_comm]; exact hx')
  exact pair_lt (hA.go _ c h1 hc) (hB.go _ c (Nat.mod_lt _ hk) hc)
theorem prod_run (hB : B.Ok) : ∀ (w : List Nat) (s t : Nat), t < B.n → word w → (prodA A B g).run (s * B.n + t) w = A.run s w * B.n + B.run t w
  | [], s, t, _, _ => rfl
  | c :: w, s, t, ht, hw => by
    rw [word_cons] at hw
    rw [Aut.run_cons, Aut.run_cons, Aut.run_cons, ← prod_run hB w _ _ (hB.go t c ht hw.1) hw.2]
    show (prodA A B g).run (A.d ((s * B.n + t) / B.n) c * B.n + B.d ((s * B.n + t) % B.n) c) w = _
    rw [pair_div ht, pair_mod ht]
theorem prod_acc (hB : B.Ok) {s t : Nat} (ht : t < B.n) {w : List Nat} (hw : word w) : (prodA A B g).acc (s * B.n + t) w = g (A.acc s w) (B.acc t w) := by
  show (fun x => g (A.f (x / B.n)) (B.f (x % B.n))) ((prodA A B g).run (s * B.n + t) w) = _
  rw [prod_run hB w s t ht hw]
  have h := hB.run_lt w t ht hw
  dsimp only
  rw [pair_div h, pair_mod h]
  rfl
theorem prod_start (hA : A.Ok) (hB : B.Ok) {w : List Nat} (hw : word w) : (prodA A B g).acc (prodA A B g).s0 w = g (A.acc A.s0 w) (B.acc B.s0 w) := prod_acc hB hB.st hw
end
theorem snd_id (A : Aut) : Snd A (fun s => s) := fun s t _ _ e => by
  dsimp only at e
  subst e
  exact Eqv.refl A s

/-! ### The number of words -/
def sumTo (g : Nat → Nat) : Nat → Nat
  | 0 => 0
  | c + 1 => sumTo g c + g c
theorem sumTo_congr {g h : Nat → Nat} : ∀ {n : Nat}, (∀ c, c < n → g c = h c) → sumTo g n = sumTo h n
  | 0, _ => rfl
  | n + 1, e => by
    show sumTo g n + g n = sumTo h n + h n
    rw [sumTo_congr (fun c hc => e c (by omega)), e n (by omega)]
theorem sumTo_add {g h : Nat → Nat} : ∀ n : Nat, sumTo g n + sumTo h n = sumTo (fun c => g c + h c) n
  | 0 => rfl
  | n + 1 => by
    show sumTo g n + g n + (sumTo h n + h n) = sumTo (fun c => g c + h c) n + (g n + h n)
    rw [← sumTo_add n]
    omega
theorem sumTo_le {g : Nat → Nat} {b : Nat} : ∀ {n : Nat}, (∀ c, c < n → g c ≤ b) → sumTo g n ≤ n * b
  | 0, _ => by simp [sumTo]
  | n + 1, h => by
    show sumTo g n + g n ≤ _
    have h1 := sumTo_le (n := n) (fun c hc => h c (by omega))
    have h2 := h n (by omega)
    rw [Nat.add_mul, Nat.one_mul]
    omega
theorem sumTo_const (b : Nat) : ∀ n : Nat, sumTo (fun _ => b) n = n * b
  | 0 => by simp [sumTo]
  | n + 1 => by
    show sumTo (fun _ => b) n + b = _
    rw [sumTo_const b n, Nat.add_mul, Nat.one_mul]
def cntA (A : Aut) : Nat → Nat → Nat
  | 0, s => if A.f s then 1 else 0
  | n + 1, s => sumTo (fun c => cntA A n (A.d s c)) 11
theorem cntA_zero (A : Aut) (s : Nat) : cntA A 0 s = if A.f s then 1 else 0 := by rw [cntA]
theorem cntA_succ (A : Aut) (n s : Nat) : cntA A (n + 1) s = sumTo (fun c => cntA A n (A.d s c)) 11 := by rw [cntA]
theorem cntA_le (A : Aut) : ∀ n s : Nat, cntA A n s ≤ 11 ^ n
  | 0, s => by
    rw [cntA_zero]
    split <;> simp
  | n + 1, s => by
    rw [cntA_succ, Nat.pow_succ, Nat.mul_comm]
    exact sumTo_le (fun c _ => cntA_le A n _)
theorem cntA_eqv {A B : Aut} : ∀ (n : Nat) {s t : Nat}, Eqv A B s t → cntA A n s = cntA B n t
  | 0, s, t, h => by rw [cntA_zero, cntA_zero, h.f]
  | n + 1, s, t, h => by
    rw [cntA_succ, cntA_succ]
    exact sumTo_congr (fun c hc => cntA_eqv n (h.step hc))
theorem cntA_compl (A : Aut) : ∀ n s : Nat, cntA A n s + cntA (compl A) n s = 11 ^ n
  | 0, s => by
    rw [cntA_zero, cntA_zero]
    show (if A.f s then 1 else 0) + (if !A.f s then 1 else 0) = _
    cases A.f s <;> rfl
  | n + 1, s => by
    rw [cntA_succ, cntA_succ, sumTo_add, Nat.pow_succ, Nat.mul_comm, ← sumTo_const]
    exact sumTo_congr (fun c _ => cntA_compl A n _)

/-! ### Words in order -/
/-- Two words of one length. -/
def lexW : List Nat → List Nat → Prop
  | a :: v, b :: w => a < b ∨ (a = b ∧ lexW v w)
  | _, _ => False
/-- A word stands before another one. -/
def bef (v w : List Nat) : Prop := v.length < w.length ∨ (v.length = w.length ∧ lexW v w)
theorem lexW_irr : ∀ w : List Nat, ¬ lexW w w
  | [], h => h
  | a :: w, h => by
    rcases h with h | ⟨_, h⟩
    · omega
    · exact lexW_irr w h
theorem lexW_trans : ∀ {u v w : List Nat}, lexW u v → lexW v w → lexW u w
  | _ :: _, _ :: _, _ :: _, h, k => by
    rcases h with h | ⟨rfl, h⟩ <;> rcases k with k | ⟨rfl, k⟩
    · exact .inl (by omega)
    · exact .inl h
    · exact .inl k
    · exact .inr ⟨rfl, lexW_trans h k⟩
  | [], _, _, h, _ => by cases h
  | _ :: _, [], _, h, _ => by cases h
  | _ :: _, _ :: _, [], _, k => by cases k
theorem lexW_total : ∀ {v w : List Nat}, v.length = w.length → lexW v w ∨ v = w ∨ lexW w v
  | [], [], _ => .inr (.inl rfl)
  | a :: v, b :: w, h => by
    rw [List.length_cons, List.length_cons] at h
    rcases Nat.lt_trichotomy a b with k | k | k
    · exact .inl (.inl k)
    · subst k
      rcases lexW_total (v := v) (w := w) (by omega) with h1 | h1 | h1
      · exact .inl (.inr ⟨rfl, h1⟩)
      · exact .inr (.inl (by rw [h1]))
      · exact .inr (.inr (.inr ⟨rfl, h1⟩))
    · exact .inr (.inr (.inl k))
  | [], _ :: _, h => by simp at h
  | _ :: _, [], h => by simp at h
theorem lexW_snoc : ∀ {v w : List Nat}, lexW v w → ∀ (c d : Nat), v.length = w.length → lexW (v ++ [c]) (w ++ [d])
  | _ :: _, _ :: _, h, c, d, e => by
    rcases h with h | ⟨rfl, h⟩
    · exact .inl h
    · exact .inr ⟨rfl, lexW_snoc h c d (by simpa using e)⟩
  | [], _, h, _, _, _ => by cases h
  | _ :: _, [], h, _, _, _ => by cases h
theorem lexW_last : ∀ (v : List Nat) {c d : Nat}, c < d → lexW (v ++ [c]) (v ++ [d])
  | [], c, d, h => .inl h
  | a :: v, c, d, h => .inr ⟨rfl, lexW_last v h⟩
theorem bef_irr (w : List Nat) : ¬ bef w w := fun h => by
  rcases h with h | ⟨_, h⟩
  · omega
  · exact lexW_irr w h
theorem bef_trans {u v w : List Nat} (h : bef u v) (k : bef v w) : bef u w := by
  rcases h with h | ⟨h, h'⟩ <;> rcases k with k | ⟨k, k'⟩
  · exact .inl (by omega)
  · exact .inl (by omega)
  · exact .inl (by omega)
  · exact .inr ⟨by omega, lexW_trans h' k'⟩
theorem bef_total (v w : List Nat) : bef v w ∨ v = w ∨ bef w v := by
  rcases Nat.lt_trichotomy v.length w.length with h | h | h
  · exact .inl (.inl h)
  · rcases lexW_total h with k | k | k
    · exact .inl (.inr ⟨h, k⟩)
    · exact .inr (.inl k)
    · exact .inr (.inr (.inr ⟨h.symm, k⟩))
  · exact .inr (.inr (.inl h))
theorem bef_snoc {v w : List Nat} (h : bef v w) (c d : Nat) : bef (v ++ [c]) (w ++ [d]) := by
  rcases h with h | ⟨h, k⟩
  · exact .inl (by simp; omega)
  · exact .inr ⟨by simp [h], lexW_snoc k c d h⟩
theorem bef_last (v : List Nat) {c d : Nat} (h : c < d) : bef (v ++ [c]) (v ++ [d]) := .inr ⟨by simp, lexW_last v h⟩
theorem bef_longer (v : List Nat) (c : Nat) : bef v (v ++ [c]) := .inl (by simp)
/-- At most. -/
def befE (v w : List Nat) : Prop := v = w ∨ bef v w
theorem befE.trans {u v w : List Nat} (h : befE u v) (k : befE v w) : befE u w := by
  rcases h with rfl | h
  · exact k
  · rcases k with rfl | k
    · exact .inr h
    · exact .inr (bef_trans h k)
theorem befE.snoc {v w : List Nat} (h : befE v w) (c : Nat) : befE (v ++ [c]) (w ++ [c]) := by
  rcases h with rfl | h
  · exact .inl rfl
  · exact .inr (bef_snoc h c c)
theorem befE_not {v w : List Nat} (h : befE v w) (k : bef w v) : False := by
  rcases h with rfl | h
  · exact bef_irr _ k
  · exact bef_irr _ (bef_trans h k)
/-- The first word that is accepted. -/
def First (A : Aut) (w : List Nat) : Prop := word w ∧ A.acc A.s0 w = true ∧ ∀ v, word v → bef v w → A.acc A.s0 v = false
def Never (A : Aut) : Prop := ∀ v, word v → A.acc A.s0 v = false
theorem First.uniq {A : Aut} {v w : List Nat} (h : First A v) (k : First A w) : v = w := by
  rcases bef_total v w with e | e | e
  · have := k.2.2 v h.1 e
    rw [h.2.1] at this
    cases this
  · exact e
  · have := h.2.2 w k.1 e
    rw [k.2.1] at this
    cases this
theorem First.never {A : Aut} {v : List Nat} (h : First A v) (k : Never A) : False := by
  have := k v h.1
  rw [h.2.1] at this
  cases this
/-- The search for it: the rows before i are done, and of row i the symbols before c. -/
structure Srch (A : Aut) (i c : Nat) (F : List Nat) (W : List (List Nat)) : Prop where
  len : W.length = F.length
  le : i ≤ F.length
  some_ : 0 < F.length
  zero : W.getD 0 [] = []
  run : ∀ j, j < F.length → word (W.getD j []) ∧ A.run A.s0 (W.getD j []) = F.getD j 0
  nd : ∀ j k, j < F.length → k < F.length → F.getD j 0 = F.getD k 0 → j = k
  inc : ∀ j k, j < k → k < F.length → bef (W.getD j []) (W.getD k [])
  from_ : ∀ k, k < F.length → W.getD k [] = [] ∨ ∃ j e, W.getD k [] = W.getD j [] ++ [e] ∧ (j < i ∨ (j = i ∧ e < c ∧ j < F.length))
  all : ∀ j e, (j < i ∧ e < 11) ∨ (j = i ∧ e < c) → j < F.length → ∃ k, k < F.length ∧ F.getD k 0 = A.d (F.getD j 0) e ∧ befE (W.getD k []) (W.getD j [] ++ [e])
theorem srch_start (A : Aut) : Srch A 0 0 [A.s0] [[]] := by
  have h0 : ∀ j, j < [A.s0].length → j = 0 := fun j hj => by simp at hj; exact hj
  refine ⟨rfl, Nat.zero_le _, by simp, rfl, fun j hj => ?_, fun j k hj hk _ => by rw [h0 j hj, h0 k hk], fun j k hjk hk => by have := h0 k hk; omega, fun k hk => ?_, fun j e h => by omega⟩
  · rw [h0 j hj]
    exact ⟨word_nil, rfl⟩
  · rw [h0 k hk]
    exact .inl rfl
theorem Srch.next {A : Aut} {i : Nat} {F : List Nat} {W : List (List Nat)} (h : Srch A i 11 F W) (hi : i < F.length) : Srch A (i + 1) 0 F W := by
  refine ⟨h.len, hi, h.some_, h.zero, h.run, h.nd, h.inc, fun k hk => ?_, fun j e he hj => ?_⟩
  · rcases h.from_ k hk with h1 | ⟨j, e, h1, h2⟩
    · exact .inl h1
    · exact .inr ⟨j, e, h1, .inl (by omega)⟩
  · exact h.all j e (by omega) hj
/-- The next state is there already. -/
theorem Srch.old {A : Aut} {i c : Nat} {F : List Nat} {W : List (List Nat)} (h : Srch A i c F W) (hi : i < F.length) {k : Nat} (hk : k < F.length) (e : F.getD k 0 = A.d (F.getD i 0) c) : Srch A i (c + 1) F W := by
  refine ⟨h.len, h.le, h.some_, h.zero, h.run, h.nd, h.inc, fun k hk => ?_, fun j x he hj => ?_⟩
  · rcases h.from_ k hk with h1 | ⟨j, e, h1, h2⟩
    · exact .inl h1
    · exact .inr ⟨j, e, h1, by omega⟩
  · by_cases hx : j = i ∧ x = c
    · obtain ⟨rfl, rfl⟩ := hx
      refine ⟨k, hk, e, .inr ?_⟩
      rcases h.from_ k hk with h1 | ⟨j', e', h1, h2⟩
      · rw [h1]
        exact .inl (by simp)
      · rw [h1]
        rcases h2 with h2 | ⟨rfl, h2, _⟩
        · exact bef_snoc (h.inc j' j h2 hi) _ _
        · exact bef_last _ h2
    · exact h.all j x (by omega) hj
theorem getD_app {α : Type} {l m : List α} {x : α} {i : Nat} (h : i < l.length) : (l ++ m).getD i x = l.getD i x := by
  rw [List.getD_eq_getElem?_getD, List.getElem?_append_left h, ← List.getD_eq_getElem?_getD]
theorem getD_end {α : Type} {l : List α} {x y : α} : (l ++ [y]).getD l.length x = y := by
  rw [List.getD_eq_getElem?_getD, List.getElem?_append_right (Nat.le_refl _), Nat.sub_self]
  rfl
/-- .. or it is new. -/
theorem Srch.new_ {A : Aut} {i c : Nat} {F : List Nat} {W : List (List Nat)} (h : Srch A i c F W) (hi : i < F.length) (hc : c < 11) (e : ∀ k, k < F.length → F.getD k 0 ≠ A.d (F.getD i 0) c) : Srch A i (c + 1) (F ++ [A.d (F.getD i 0) c]) (W ++ [W.getD i [] ++ [c]]) := by
  have hl := h.len
  have oF : ∀ {j}, j < F.length → (F ++ [A.d (F.getD i 0) c]).getD j 0 = F.getD j 0 := fun hj => getD_app hj
  have oW : ∀ {j}, j < F.length → (W ++ [W.getD i [] ++ [c]]).getD j [] = W.getD j [] := fun hj => getD_app (by omega)
  have nF : (F ++ [A.d (F.getD i 0) c]).getD F.length 0 = A.d (F.getD i 0) c := getD_end
  have nW : (W ++ [W.getD i [] ++ [c]]).getD F.length [] = W.getD i [] ++ [c] := by rw [← hl]; exact getD_end
  have sp : ∀ {j}, j < (F ++ [A.d (F.getD i 0) c]).length → j < F.length ∨ j = F.length := fun hj => by simp at hj; omega
  have lt : ∀ {j}, j < F.length → j < (F ++ [A.d (F.getD i 0) c]).length := fun hj => by simp; omega
  have hp := h.some_
  refine ⟨by simp [hl], by simp; omega, by simp, by rw [oW hp]; exact h.zero, fun j hj => ?_, fun j k hj hk he => ?_, fun j k hjk hk => ?_, fun k hk => ?_, fun j x he hj => ?_⟩
  · rcases sp hj with hj | rfl
    · rw [oF hj, oW hj]
      exact h.run j hj
    · rw [nF, nW]
      obtain ⟨h1, h2⟩ := h.run i hi
      refine ⟨fun y hy => ?_, ?_⟩
      · rcases List.mem_append.1 hy with hy | hy
        · exact h1 y hy
        · rw [List.mem_singleton] at hy
          omega
      · rw [Aut.run_app, h2]
        rfl
  · rcases sp hj with hj | rfl <;> rcases sp hk with hk | rfl
    · rw [oF hj, oF hk] at he
      exact h.nd j k hj hk he
    · rw [oF hj, nF] at he
      exact absurd he (e j hj)
    · rw [oF hk, nF] at he
      exact absurd he.symm (e k hk)
    · rfl
  · rcases sp hk with hk | rfl
    · rw [oW (by omega), oW hk]
      exact h.inc j k hjk hk
    · rw [nW, oW hjk]
      rcases h.from_ j hjk with h1 | ⟨j', e', h1, h2⟩
      · rw [h1]
        exact .inl (by simp)
      · rw [h1]
        rcases h2 with h2 | ⟨rfl, h2, _⟩
        · exact bef_snoc (h.inc j' i h2 hi) _ _
        · exact bef_last _ h2
  · rcases sp hk with hk | rfl
    · rw [oW hk]
      rcases h.from_ k hk with h1 | ⟨j', e', h1, h2⟩
      · exact .inl h1
      · have hj' : j' < F.length := by omega
        exact .inr ⟨j', e', by rw [oW hj']; exact h1, by simp; omega⟩
    · rw [nW]
      exact .inr ⟨i, c, by rw [oW hi], .inr ⟨rfl, by omega, lt hi⟩⟩
  · have hjF : j < F.length := by omega
    rw [oF hjF, oW hjF]
    by_cases hx : j = i ∧ x = c
    · obtain ⟨rfl, rfl⟩ := hx
      exact ⟨F.length, by simp, nF, by rw [nW]; exact .inl rfl⟩
    · obtain ⟨k, h1, h2, h3⟩ := h.all j x (by omega) hjF
      exact ⟨k, lt h1, by rw [oF h1]; exact h2, by rw [oW h1]; exact h3⟩
/-- Each word is at least one that was found for its state, or for a state whose row is not done. -/
theorem Srch.each {A : Aut} {i : Nat} {F : List Nat} {W : List (List Nat)} (h : Srch A i 0 F W) : ∀ v : List Nat, word v.reverse → ∃ j, j < F.length ∧ befE (W.getD j []) v.reverse ∧ (A.run A.s0 v.reverse = F.getD j 0 ∨ i ≤ j)
  | [], _ => by
    refine ⟨0, h.some_, .inl h.zero, .inl ?_⟩
    have := (h.run 0 h.some_).2
    rw [h.zero] at this
    exact this
  | c :: v, hw => by
    rw [List.reverse_cons] at hw ⊢
    have hv : word v.reverse := fun x hx => hw x (List.mem_append.2 (.inl hx))
    have hc : c < 11 := hw c (by simp)
    obtain ⟨j, h1, h2, h3⟩ := h.each v hv
    by_cases hj : i ≤ j
    · exact ⟨j, h1, h2.trans (.inr (bef_longer _ c)), .inr hj⟩
    · have h4 : A.run A.s0 v.reverse = F.getD j 0 := by
        rcases h3 with h3 | h3
        · exact h3
        · exact absurd h3 hj
      obtain ⟨k, k1, k2, k3⟩ := h.all j c (.inl ⟨by omega, hc⟩) h1
      refine ⟨k, k1, k3.trans (h2.snoc c), .inl ?_⟩
      rw [Aut.run_app, h4, k2]
      rfl
theorem Srch.first {A : Aut} {i : Nat} {F : List Nat} {W : List (List Nat)} (h : Srch A i 0 F W) (hi : i < F.length) (hf : A.f (F.getD i 0) = true) (hn : ∀ j, j < i → A.f (F.getD j 0) = false) : First A (W.getD i []) := by
  obtain ⟨h1, h2⟩ := h.run i hi
  refine ⟨h1, by show A.f (A.run A.s0 _) = true; rw [h2]; exact hf, fun v hv hb => ?_⟩
  obtain ⟨j, k1, k2, k3⟩ := h.each v.reverse (by rw [List.reverse_reverse]; exact hv)
  rw [List.reverse_reverse] at k2 k3
  by_cases hj : i ≤ j
  · exfalso
    have : befE (W.getD i []) (W.getD j []) := by
      rcases Nat.lt_or_ge i j with h3 | h3
      · exact .inr (h.inc i j h3 k1)
      · rw [show j = i by omega]
        exact .inl rfl
    exact befE_not (this.trans k2) hb
  · rcases k3 with k3 | k3
    · show A.f (A.run A.s0 v) = false
      rw [k3]
      exact hn j (by omega)
    · omega
theorem Srch.never {A : Aut} {F : List Nat} {W : List (List Nat)} (h : Srch A F.length 0 F W) (hn : ∀ j, j < F.length → A.f (F.getD j 0) = false) : Never A := fun v hv => by
  obtain ⟨j, k1, k2, k3⟩ := h.each v.reverse (by rw [List.reverse_reverse]; exact hv)
  rw [List.reverse_reverse] at k3
  rcases k3 with k3 | k3
  · show A.f (A.run A.s0 v) = false
    rw [k3]
    exact hn j k1
  · omega
theorem Srch.len_le {A : Aut} (hA : A.Ok) {i c : Nat} {F : List Nat} {W : List (List Nat)} (h : Srch A i c F W) : F.length ≤ A.n := by
  have hnd : F.Nodup := List.pairwise_iff_getElem.2 (fun a b ha hb hab e => by
    have := h.nd a b ha hb (by rw [getD_get ha, getD_get hb]; exact e)
    omega)
  have := nodup_len (b := List.range A.n) hnd (fun x hx => by
    obtain ⟨j, hj, e⟩ := List.getElem_of_mem hx
    have h2 := h.run j hj
    rw [getD_get hj, e] at h2
    rw [List.mem_range, ← h2.2]
    exact hA.run_lt _ _ hA.st h2.1)
  rwa [List.length_range] at this
theorem First.eqv {A B : Aut} (h : Eqv A B A.s0 B.s0) {w : List Nat} (k : First A w) : First B w := ⟨k.1, by rw [← h w k.1]; exact k.2.1, fun v hv hb => by rw [← h v hv]; exact k.2.2 v hv hb⟩
theorem Never.eqv {A B : Aut} (h : Eqv A B A.s0 B.s0) (k : Never A) : Never B := fun v hv => by rw [← h v hv]; exact k v hv
end Go.Proofs.Ytiljagfjgefnnaa
