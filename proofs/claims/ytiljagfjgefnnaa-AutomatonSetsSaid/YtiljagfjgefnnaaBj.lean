/- Of the program: longer, Count. -/
import Derived.Test.YtiljagfjgefnnaaBg
import Derived.Test.YtiljagfjgefnnaaAl
namespace Go.Proofs.Ytiljagfjgefnnaa
open Go.RowKit
set_option linter.unusedVariables false

/-! ### Plain: words counted by where they lead -/
theorem sumTo_succ (g : Nat → Nat) (n : Nat) : sumTo g (n + 1) = sumTo g n + g n := rfl
theorem sumTo_zero (g : Nat → Nat) : sumTo g 0 = 0 := rfl
theorem sumTo_mul (b : Nat) (g : Nat → Nat) : ∀ n, sumTo (fun i => b * g i) n = b * sumTo g n
  | 0 => by simp [sumTo]
  | n + 1 => by rw [sumTo_succ, sumTo_succ, sumTo_mul b g n, Nat.mul_add]
theorem sumTo_mulR (b : Nat) (g : Nat → Nat) (n : Nat) : sumTo (fun i => g i * b) n = sumTo g n * b := by
  rw [Nat.mul_comm, ← sumTo_mul]
  exact sumTo_congr (fun c _ => Nat.mul_comm _ _)
theorem sumTo_comm (g : Nat → Nat → Nat) (m : Nat) : ∀ n, sumTo (fun i => sumTo (fun j => g i j) m) n = sumTo (fun j => sumTo (fun i => g i j) n) m
  | 0 => by
    rw [sumTo_zero]
    have : sumTo (fun _ : Nat => 0) m = 0 := by rw [sumTo_const]; simp
    exact this.symm
  | n + 1 => by
    rw [sumTo_succ, sumTo_comm g m n, sumTo_add]
    exact sumTo_congr (fun c _ => rfl)
theorem sumTo_one (a x : Nat) (g : Nat → Nat) : ∀ n, sumTo (fun t => (if a = t then x else 0) * g t) n = if a < n then x * g a else 0
  | 0 => by simp [sumTo]
  | n + 1 => by
    rw [sumTo_succ, sumTo_one a x g n]
    by_cases h : a = n
    · subst h
      simp
    · rw [if_neg h, Nat.zero_mul, Nat.add_zero]
      by_cases h2 : a < n
      · rw [if_pos h2, if_pos (by omega)]
      · rw [if_neg h2, if_neg (by omega)]
/-- So many words lead to t, when the rows before s and of row s the symbols before c are done. -/
def accR (A : Aut) (cnt : Nat → Nat) (s c t : Nat) : Nat := sumTo (fun s' => sumTo (fun c' => if A.d s' c' = t then cnt s' else 0) 11) s + sumTo (fun c' => if A.d s c' = t then cnt s else 0) c
theorem accR_zero (A : Aut) (cnt : Nat → Nat) (t : Nat) : accR A cnt 0 0 t = 0 := rfl
theorem accR_next (A : Aut) (cnt : Nat → Nat) (s t : Nat) : accR A cnt s 11 t = accR A cnt (s + 1) 0 t := rfl
theorem accR_step (A : Aut) (cnt : Nat → Nat) (s c t : Nat) : accR A cnt s (c + 1) t = accR A cnt s c t + if A.d s c = t then cnt s else 0 := by
  unfold accR
  rw [sumTo_succ, ← Nat.add_assoc]
theorem sum_ind_le (A : Aut) (cnt : Nat → Nat) (s t c : Nat) : sumTo (fun c' => if A.d s c' = t then cnt s else 0) c ≤ c * cnt s := sumTo_le (fun c' _ => by split <;> omega)
theorem sumTo_mono {g h : Nat → Nat} : ∀ {n : Nat}, (∀ i, i < n → g i ≤ h i) → sumTo g n ≤ sumTo h n
  | 0, _ => Nat.le_refl _
  | n + 1, hh => by
    rw [sumTo_succ, sumTo_succ]
    have h1 := sumTo_mono (n := n) (fun i hi => hh i (by omega))
    have h2 := hh n (by omega)
    omega
theorem sumTo_lex {g : Nat → Nat} {n m : Nat} (h : n ≤ m) : sumTo g n ≤ sumTo g m := by
  induction h with
  | refl => exact Nat.le_refl _
  | step _ ih => rw [sumTo_succ]; omega
theorem accR_le (A : Aut) (cnt : Nat → Nat) {N s c : Nat} (hs : s < N) (hc : c ≤ 11) (t : Nat) : accR A cnt s c t ≤ 11 * sumTo cnt N := by
  unfold accR
  have h1 : sumTo (fun s' => sumTo (fun c' => if A.d s' c' = t then cnt s' else 0) 11) s ≤ sumTo (fun s' => 11 * cnt s') s := sumTo_mono (fun i _ => sum_ind_le A cnt i t 11)
  rw [sumTo_mul] at h1
  have h2 := sum_ind_le A cnt s t c
  have h3 : c * cnt s ≤ 11 * cnt s := Nat.mul_le_mul_right _ hc
  have h4 := sumTo_lex (g := cnt) (show s + 1 ≤ N from hs)
  rw [sumTo_succ] at h4
  have h5 := Nat.mul_le_mul_left 11 h4
  rw [Nat.mul_add] at h5
  omega
def fwd (A : Aut) : Nat → Nat → Nat
  | 0, s => if A.s0 = s then 1 else 0
  | n + 1, t => accR A (fwd A n) A.n 0 t
theorem fwd_zero (A : Aut) (s : Nat) : fwd A 0 s = if A.s0 = s then 1 else 0 := by rw [fwd]
theorem fwd_succ (A : Aut) (n t : Nat) : fwd A (n + 1) t = accR A (fwd A n) A.n 0 t := by rw [fwd]
theorem accR_sum {A : Aut} (hA : A.Ok) (cnt g : Nat → Nat) : sumTo (fun t => accR A cnt A.n 0 t * g t) A.n = sumTo (fun s => cnt s * sumTo (fun c => g (A.d s c)) 11) A.n := by
  have e1 : sumTo (fun t => accR A cnt A.n 0 t * g t) A.n = sumTo (fun t => sumTo (fun s => sumTo (fun c => (if A.d s c = t then cnt s else 0) * g t) 11) A.n) A.n := sumTo_congr (fun t _ => by
    show (sumTo (fun s' => sumTo (fun c' => if A.d s' c' = t then cnt s' else 0) 11) A.n + 0) * g t = _
    rw [Nat.add_zero, ← sumTo_mulR]
    exact sumTo_congr (fun s _ => (sumTo_mulR _ _ _).symm))
  rw [e1, sumTo_comm]
  refine sumTo_congr (fun s hs => ?_)
  rw [sumTo_comm, ← sumTo_mul]
  refine sumTo_congr (fun c hc => ?_)
  rw [sumTo_one, if_pos (hA.go s c hs hc)]
theorem fwd_cnt {A : Aut} (hA : A.Ok) : ∀ n k, sumTo (fun s => fwd A n s * cntA A k s) A.n = cntA A (n + k) A.s0
  | 0, k => by
    have : sumTo (fun s => fwd A 0 s * cntA A k s) A.n = sumTo (fun s => (if A.s0 = s then 1 else 0) * cntA A k s) A.n := sumTo_congr (fun s _ => by rw [fwd_zero])
    rw [this, sumTo_one, if_pos hA.st, Nat.one_mul, Nat.zero_add]
  | n + 1, k => by
    have : sumTo (fun s => fwd A (n + 1) s * cntA A k s) A.n = sumTo (fun t => accR A (fwd A n) A.n 0 t * cntA A k t) A.n := sumTo_congr (fun s _ => by rw [fwd_succ])
    rw [this, accR_sum hA]
    have h2 : sumTo (fun s => fwd A n s * sumTo (fun c => cntA A k (A.d s c)) 11) A.n = sumTo (fun s => fwd A n s * cntA A (k + 1) s) A.n := sumTo_congr (fun s _ => by rw [cntA_succ])
    rw [h2, fwd_cnt hA n (k + 1)]
    congr 1
    omega
theorem fwd_all {A : Aut} (hA : A.Ok) : ∀ n, sumTo (fwd A n) A.n = 11 ^ n
  | 0 => by
    have : sumTo (fwd A 0) A.n = sumTo (fun s => (if A.s0 = s then 1 else 0) * (fun _ => 1) s) A.n := sumTo_congr (fun s _ => by rw [fwd_zero, Nat.mul_one])
    rw [this, sumTo_one, if_pos hA.st]
  | n + 1 => by
    have : sumTo (fwd A (n + 1)) A.n = sumTo (fun t => accR A (fwd A n) A.n 0 t * (fun _ => 1) t) A.n := sumTo_congr (fun s _ => by rw [fwd_succ, Nat.mul_one])
    rw [this, accR_sum hA]
    have h2 : sumTo (fun s => fwd A n s * sumTo (fun _ => 1) 11) A.n = sumTo (fun s => fwd A n s * 11) A.n := sumTo_congr (fun s _ => by rw [sumTo_const])
    rw [h2, sumTo_mulR, fwd_all hA n, Nat.pow_succ]
theorem fwd_end {A : Aut} (hA : A.Ok) (n : Nat) : sumTo (fun s => if A.f s then fwd A n s else 0) A.n = cntA A n A.s0 := by
  have h0 := fwd_cnt hA n 0
  rw [Nat.add_zero] at h0
  rw [← h0]
  refine sumTo_congr (fun s _ => ?_)
  rw [cntA_zero]
  cases A.f s <;> simp
end Go.Proofs.Ytiljagfjgefnnaa
