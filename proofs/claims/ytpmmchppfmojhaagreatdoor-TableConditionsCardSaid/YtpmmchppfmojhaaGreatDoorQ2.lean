/- What the row stands on, part 2. -/
import Derived.Lib.ItoaNum
import Derived.Test.YtpmmchppfmojhaaGreatDoorZua
import Derived.Test.YtpmmchppfmojhaaGreatDoorQ1

/- Plain facts on the escaped form: what stands for a byte, and for a list of bytes. -/
namespace Go.Proofs.YtpmmchppfmojhaaGreatDoor
set_option linter.unusedVariables false

def hexd (k : Nat) : UInt8 := UInt8.ofNat (if k < 10 then 48 + k else 87 + k)
def ctl (n : Nat) : Bool := decide (n < 32) || decide (n = 127)
def tb (st n : Nat) (f : Bool) : Bool :=
  decide (n = 92) || decide (n = 10) || decide (n = 13) || decide (n = 9) || (decide (st = 1) && (decide (n = 61) || decide (n = 58) || decide (n = 35) || decide (n = 33))) ||
  (decide (st = 1) && f && decide (n = 32)) || (decide (st ≠ 1) && decide (n = 34)) || (decide (st = 3) && (decide (n = 123) || decide (n = 125)))
def ltr (n : Nat) : Nat := if n = 10 then 110 else if n = 13 then 114 else if n = 9 then 116 else n
def numL (n : Nat) : List UInt8 := [38, 35] ++ Lib.decDigits n ++ [59]
def entL (n : Nat) : List UInt8 :=
  if n = 38 then [38, 97, 109, 112, 59] else if n = 60 then [38, 108, 116, 59] else if n = 62 then [38, 103, 116, 59] else if n = 34 then [38, 113, 117, 111, 116, 59]
  else if ctl n = true then numL n else [UInt8.ofNat n]
def hexL (st n : Nat) : List UInt8 := (if st = 3 then [92, 117, 48, 48] else [92, 120]) ++ [hexd (n / 16)] ++ [hexd (n % 16)]
def escOne (st n : Nat) (f : Bool) : List UInt8 :=
  if st = 4 then entL n else if tb st n f = true then [92] ++ [UInt8.ofNat (ltr n)] else if ctl n = true then hexL st n else [UInt8.ofNat n]
def escF (st : Nat) : Bool → List UInt8 → List UInt8
  | _, [] => []
  | f, c :: r => escOne st c.toNat f ++ escF st false r
def escL (st : Nat) (l : List UInt8) : List UInt8 := escF st true l

theorem escF_append (st : Nat) (l r : List UInt8) : ∀ f, escF st f (l ++ r) = escF st f l ++ escF st (f && l.isEmpty) r := by
  induction l with
  | nil => intro f; simp [escF]
  | cons c l ih => intro f; simp [escF, ih, List.append_assoc]
theorem escL_snoc (st : Nat) (l : List UInt8) (k : Nat) (h : k < l.length) : escL st (l.take (k + 1)) = escL st (l.take k) ++ escOne st (byt l k) (decide (k = 0)) := by
  have e : l.take (k + 1) = l.take k ++ [l[k]?.getD 0] := by rw [List.take_succ_eq_append_getElem h, List.getElem?_eq_getElem h]; rfl
  unfold escL
  rw [e, escF_append]
  have e2 : (l.take k).isEmpty = decide (k = 0) := by
    cases k with
    | zero => simp
    | succ k =>
      have : l ≠ [] := List.ne_nil_of_length_pos (by omega)
      cases l with
      | nil => exact absurd rfl this
      | cons a l => simp
  rw [e2]
  simp [escF, byt]

theorem dec1 {n : Nat} (h : n < 10) : Lib.decDigits n = [UInt8.ofNat (48 + n)] := by rw [Lib.decDigits, dif_pos h]
theorem dec2 {n : Nat} (h0 : 10 ≤ n) (h : n < 100) : Lib.decDigits n = [UInt8.ofNat (48 + n / 10), UInt8.ofNat (48 + n % 10)] := by
  rw [Lib.decDigits, dif_neg (by omega), dec1 (by omega)]; rfl
theorem dec3 {n : Nat} (h0 : 100 ≤ n) (h : n < 1000) : Lib.decDigits n = [UInt8.ofNat (48 + n / 100), UInt8.ofNat (48 + n / 10 % 10), UInt8.ofNat (48 + n % 10)] := by
  rw [Lib.decDigits, dif_neg (by omega), dec2 (by omega) (by omega)]
  simp [Nat.div_div_eq_div_mul]
theorem dec_len {n : Nat} (h : n < 1000) : (Lib.decDigits n).length ≤ 3 := by
  by_cases a : n < 10
  · rw [dec1 a]; simp
  · by_cases b : n < 100
    · rw [dec2 (by omega) b]; simp
    · rw [dec3 (by omega) h]; simp
theorem entL_len (n : Nat) (h : n < 256) : (entL n).length ≤ 6 := by
  unfold entL
  split
  · simp
  · split
    · simp
    · split
      · simp
      · split
        · simp
        · split
          · have := dec_len (n := n) (by omega)
            simp [numL]; omega
          · simp
theorem escOne_len (st n : Nat) (f : Bool) (h : n < 256) : (escOne st n f).length ≤ 6 := by
  unfold escOne
  split
  · exact entL_len n h
  · split
    · simp
    · split
      · unfold hexL; split <;> simp
      · simp
theorem escF_len (st : Nat) (l : List UInt8) : ∀ f, (escF st f l).length ≤ 6 * l.length := by
  induction l with
  | nil => intro f; simp [escF]
  | cons c l ih =>
    intro f
    simp only [escF, List.length_append, List.length_cons]
    have := escOne_len st c.toNat f c.toNat_lt
    have := ih false
    omega
theorem escL_len (st : Nat) (l : List UInt8) : (escL st l).length ≤ 6 * l.length := escF_len st l true
end Go.Proofs.YtpmmchppfmojhaaGreatDoor


