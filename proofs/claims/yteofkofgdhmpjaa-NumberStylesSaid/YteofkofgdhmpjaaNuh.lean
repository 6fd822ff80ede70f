/- Of the reference of layer 15: Parse. -/
import Derived.Test.YteofkofgdhmpjaaNug
namespace Go.Proofs.Yteofkofgdhmpjaa
open Go.RowKit
set_option linter.unusedVariables false

theorem pla_le (t : Str) : ∀ s : Str, plaR t s ≤ s.length
  | [] => Nat.le_refl _
  | c :: s => by
    have := pla_le t s
    rw [plaR, List.length_cons]
    split <;> omega
theorem pla_hit {t s : Str} {k : Nat} (hk : k < s.length) (h : begB (s.drop k) t = true) : plaR t (s.drop k) = 0 := by
  cases hd : s.drop k with
  | nil => rfl
  | cons c r => rw [hd] at h; rw [plaR, if_pos h]
theorem pla_miss {t s : Str} {k : Nat} (hk : k < s.length) (h : begB (s.drop k) t = false) : plaR t (s.drop k) = plaR t (s.drop (k + 1)) + 1 := by
  have hd : s.drop k = s[k] :: s.drop (k + 1) := List.drop_eq_getElem_cons hk
  rw [hd] at h ⊢
  rw [plaR, h, if_neg (by decide)]
theorem parR_data {x : SyN} {s : Str} (h : x.de = []) : parR x s = ([], 18) := by unfold parR; rw [if_pos h]
theorem parR_bad {x : SyN} {s : Str} (h : ¬ x.de = []) (k : (spl (numT x s)).isSome = false) : parR x s = ([], 3) := by
  unfold parR
  rw [if_neg h]
  cases hs : spl (numT x s) with
  | none => rfl
  | some n => rw [hs] at k; cases k
theorem parR_ok {x : SyN} {s : Str} (h : ¬ x.de = []) {n : Num} (k : spl (numT x s) = some n) : parR x s = if texR x n = s then (numT x s, 0) else ([], 3) := by
  unfold parR
  rw [if_neg h, k]
theorem wit_le (t : Str) : ∀ (f : Nat) (s : Str), (witR t f s).length ≤ s.length := fun f => by
  induction f with
  | zero => intro s; exact Nat.zero_le _
  | succ f ih =>
    intro s
    cases s with
    | nil => exact Nat.zero_le _
    | cons c s =>
      rw [witR]
      split
      · exact Nat.le_trans (ih _) (by rw [List.length_drop]; omega)
      · have := ih s; simp; exact this
/-- The number's string, in the order in which it is made. -/
theorem numT_eq (x : SyN) (s : Str) (neg : Bool) (hn : neg = (decide (x.mi ≠ []) && begB s x.mi)) (rest : Str) (hr : rest = if neg = true then s.drop x.mi.length else s) (k : Nat) (hk : k = plaR x.de rest) :
    numT x s = ((if neg = true then ([45] : Str) else []) ++ witR x.gr (rest.take k).length (rest.take k)) ++ (if k < rest.length then 46 :: rest.drop (k + x.de.length) else []) := by
  subst hk hr
  subst hn
  unfold numT
  simp only
  rw [List.append_assoc]
  have e : ∀ r : Str, (r.take (plaR x.de r)).length = plaR x.de r := fun r => by rw [List.length_take]; have := pla_le x.de r; omega
  rw [e]
end Go.Proofs.Yteofkofgdhmpjaa
