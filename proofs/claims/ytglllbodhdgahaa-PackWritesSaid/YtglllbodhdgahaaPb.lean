/- Plain facts: strings and lists of strings; no beginning of an encoding is one. -/
import Derived.Test.YtglllbodhdgahaaPa
namespace Go.Proofs.Ytglllbodhdgahaa
set_option linter.unusedVariables false

def encS (s : List UInt8) : List UInt8 := enc s.length ++ s
def encL (l : List (List UInt8)) : List UInt8 := enc l.length ++ (l.map encS).flatten
theorem encS_length (s : List UInt8) : (encS s).length = (enc s.length).length + s.length := by simp [encS]
theorem len_i64 {n : Nat} (h : n ≤ 9223372036854775807) : I64 (n : Int) := ⟨by omega, by omega⟩

/-- An integer in its bounds. -/
def rdB (b : List UInt8) (lo hi : Int) : Int × Nat := if (rdI b).1 < lo ∨ hi < (rdI b).1 then (0, 0) else rdI b
theorem rdB_zero {b : List UInt8} {lo hi n : Int} (h : rdB b lo hi = (n, 0)) : n = 0 := by
  unfold rdB at h
  split at h
  · injection h with e1 e2; exact e1.symm
  · exact rdI_zero h
theorem rdB_le (b : List UInt8) (lo hi : Int) : (rdB b lo hi).2 ≤ b.length := by
  unfold rdB
  split
  · exact Nat.zero_le _
  · exact rdI_le b
theorem rdB_all (b : List UInt8) : rdB b (-9223372036854775808) 9223372036854775807 = rdI b := by
  unfold rdB
  have h := rdI_i64 b
  obtain ⟨h1, h2⟩ := h
  rw [if_neg (by omega)]

def rdS (b : List UInt8) : List UInt8 × Nat :=
  if (rdI b).2 = 0 ∨ (rdI b).1 < 0 ∨ (b.length : Int) - ((rdI b).2 : Int) < (rdI b).1 then ([], 0) else ((b.drop (rdI b).2).take (rdI b).1.toNat, (rdI b).2 + (rdI b).1.toNat)
theorem rdS_enc (s r : List UInt8) (h : s.length ≤ 9223372036854775807) : rdS (encS s ++ r) = (s, (encS s).length) := by
  unfold rdS encS
  rw [List.append_assoc, rdI_enc (len_i64 h)]
  have := enc_len_le (s.length : Int)
  rw [if_neg (by simp only [List.length_append]; omega)]
  rw [List.drop_left, Int.toNat_natCast, List.take_left, List.length_append]
theorem rdS_ok {b s : List UInt8} {k : Nat} (h : rdS b = (s, k)) (hk0 : k ≠ 0) : b.take k = encS s ∧ k = (encS s).length ∧ k ≤ b.length ∧ s.length ≤ 9223372036854775807 := by
  unfold rdS at h
  split at h
  · injection h with e1 e2; omega
  · rename_i hc
    injection h with e1 e2
    obtain ⟨h1, h2, h3, h4⟩ := rdI_ok (b := b) (n := (rdI b).1) (k := (rdI b).2) rfl (by omega)
    obtain ⟨n, hn⟩ : ∃ n, (rdI b).1 = n := ⟨_, rfl⟩
    obtain ⟨j, hj⟩ : ∃ j, (rdI b).2 = j := ⟨_, rfl⟩
    simp only [hn, hj] at hc h1 h2 h3 h4 e1 e2
    obtain ⟨h5, h6⟩ := h4
    have hl : s.length = n.toNat := by rw [← e1, List.length_take, List.length_drop]; omega
    have hn2 : n = (s.length : Int) := by omega
    refine ⟨?_, ?_, by omega, by omega⟩
    · rw [← e2, List.take_add, h1, e1, hn2]; rfl
    · rw [encS_length, ← hn2, ← h2, hl, e2]
theorem rdS_zero {b s : List UInt8} (h : rdS b = (s, 0)) : s = [] := by
  unfold rdS at h
  split at h
  · injection h with e1 e2; exact e1.symm
  · rename_i hc
    injection h with e1 e2
    omega
theorem rdS_le (b : List UInt8) : (rdS b).2 ≤ b.length := by
  rcases Nat.eq_zero_or_pos (rdS b).2 with h | h
  · omega
  · exact (rdS_ok (b := b) (s := (rdS b).1) (k := (rdS b).2) rfl (by omega)).2.2.1
theorem rdS_len (b : List UInt8) : (rdS b).1.length ≤ b.length := by
  unfold rdS
  split
  · simp
  · rw [List.length_take, List.length_drop]; omega
theorem rdS_nil : rdS [] = ([], 0) := rfl

/-- Strings one after another, from an offset on, behind some that were read. -/
def rdA : Nat → List UInt8 → Nat → List (List UInt8) → Option (List (List UInt8) × Nat)
  | 0, b, at_, pre => some (pre, at_)
  | m + 1, b, at_, pre => if (rdS (b.drop at_)).2 = 0 then none else rdA m b (at_ + (rdS (b.drop at_)).2) (pre ++ [(rdS (b.drop at_)).1])
theorem rdA_zero (b : List UInt8) (at_ : Nat) (pre : List (List UInt8)) : rdA 0 b at_ pre = some (pre, at_) := rfl
theorem rdA_succ (m : Nat) (b : List UInt8) (at_ : Nat) (pre : List (List UInt8)) : rdA (m + 1) b at_ pre = if (rdS (b.drop at_)).2 = 0 then none else rdA m b (at_ + (rdS (b.drop at_)).2) (pre ++ [(rdS (b.drop at_)).1]) := rfl
theorem rdA_stop {m : Nat} {b : List UInt8} {at_ : Nat} {pre : List (List UInt8)} (hm : 0 < m) (h : (rdS (b.drop at_)).2 = 0) : rdA m b at_ pre = none := by
  obtain ⟨j, rfl⟩ : ∃ j, m = j + 1 := ⟨m - 1, by omega⟩
  rw [rdA_succ, if_pos h]
theorem rdA_step {m : Nat} {b : List UInt8} {at_ : Nat} {pre : List (List UInt8)} (hm : 0 < m) (h : (rdS (b.drop at_)).2 ≠ 0) : rdA m b at_ pre = rdA (m - 1) b (at_ + (rdS (b.drop at_)).2) (pre ++ [(rdS (b.drop at_)).1]) := by
  obtain ⟨j, rfl⟩ : ∃ j, m = j + 1 := ⟨m - 1, by omega⟩
  rw [rdA_succ, if_neg h, Nat.add_sub_cancel]
theorem rdA_enc (r : List UInt8) : ∀ (l : List (List UInt8)) (p : List UInt8) (pre : List (List UInt8)), (∀ s ∈ l, s.length ≤ 9223372036854775807) → rdA l.length (p ++ ((l.map encS).flatten ++ r)) p.length pre = some (pre ++ l, p.length + (l.map encS).flatten.length)
  | [], p, pre, _ => by simp [rdA]
  | s :: l, p, pre, h => by
    have hs := rdS_enc s ((l.map encS).flatten ++ r) (h s (by simp))
    have e : (p ++ (((s :: l).map encS).flatten ++ r)).drop p.length = encS s ++ ((l.map encS).flatten ++ r) := by rw [List.drop_left]; simp
    have e2 : p ++ (((s :: l).map encS).flatten ++ r) = (p ++ encS s) ++ ((l.map encS).flatten ++ r) := by simp
    have h0 := enc_len_le (s.length : Int)
    rw [List.length_cons, rdA_succ, e, hs, if_neg (by rw [encS_length]; omega)]
    show rdA l.length _ (p.length + (encS s).length) (pre ++ [s]) = _
    rw [← List.length_append, e2, rdA_enc r l (p ++ encS s) (pre ++ [s]) (fun x hx => h x (by simp [hx]))]
    simp [Nat.add_assoc]
theorem rdA_ok : ∀ (m : Nat) (b : List UInt8) (at_ : Nat) (pre l' : List (List UInt8)) (k : Nat), rdA m b at_ pre = some (l', k) → at_ ≤ b.length →
    ∃ l, l' = pre ++ l ∧ l.length = m ∧ k ≤ b.length ∧ b.take k = b.take at_ ++ (l.map encS).flatten ∧ (∀ s ∈ l, s.length ≤ 9223372036854775807) ∧ at_ ≤ k
  | 0, b, at_, pre, l', k, h, ha => by
    rw [rdA_zero] at h
    injection h with h
    injection h with e1 e2
    subst e1
    subst e2
    exact ⟨[], by simp, rfl, ha, by simp, by simp, Nat.le_refl _⟩
  | m + 1, b, at_, pre, l', k, h, ha => by
    rw [rdA_succ] at h
    split at h
    · cases h
    · rename_i h0
      obtain ⟨q1, q2, q3, q4⟩ := rdS_ok (b := b.drop at_) (s := (rdS (b.drop at_)).1) (k := (rdS (b.drop at_)).2) rfl h0
      rw [List.length_drop] at q3
      obtain ⟨l, e1, e2, e3, e4, e5, e6⟩ := rdA_ok m b _ _ l' k h (by omega)
      refine ⟨(rdS (b.drop at_)).1 :: l, by rw [e1]; simp, by simp [e2], e3, ?_, ?_, by omega⟩
      · rw [e4, List.take_add, q1]; simp
      · intro s hs
        rcases List.mem_cons.1 hs with rfl | hs
        · exact q4
        · exact e5 s hs

def rdL (b : List UInt8) (most : Int) : List (List UInt8) × Nat :=
  if (rdI b).2 = 0 ∨ (rdI b).1 < 0 ∨ most < (rdI b).1 then ([], 0) else (rdA (rdI b).1.toNat b (rdI b).2 []).getD ([], 0)
theorem rdL_enc (l : List (List UInt8)) (r : List UInt8) (most : Int) (h : (l.length : Int) ≤ most) (hl : l.length ≤ 9223372036854775807) (hs : ∀ s ∈ l, s.length ≤ 9223372036854775807) : rdL (encL l ++ r) most = (l, (encL l).length) := by
  unfold rdL encL
  rw [List.append_assoc, rdI_enc (len_i64 hl)]
  have := enc_len_le (l.length : Int)
  rw [if_neg (by omega)]
  rw [Int.toNat_natCast, rdA_enc r l _ [] hs]
  simp
theorem rdL_ok {b : List UInt8} {most : Int} {l : List (List UInt8)} {k : Nat} (h : rdL b most = (l, k)) (hk0 : k ≠ 0) : b.take k = encL l ∧ k = (encL l).length ∧ k ≤ b.length ∧ (l.length : Int) ≤ most ∧ l.length ≤ 9223372036854775807 ∧ ∀ s ∈ l, s.length ≤ 9223372036854775807 := by
  unfold rdL at h
  split at h
  · injection h with e1 e2; omega
  · rename_i hc
    obtain ⟨h1, h2, h3, h4⟩ := rdI_ok (b := b) (n := (rdI b).1) (k := (rdI b).2) rfl (by omega)
    cases hA : rdA (rdI b).1.toNat b (rdI b).2 [] with
    | none =>
      rw [hA] at h
      injection h with e1 e2
      omega
    | some p =>
      rw [hA] at h
      obtain ⟨l', k'⟩ := p
      injection h with e1 e2
      subst e1
      subst e2
      obtain ⟨l2, q1, q2, q3, q4, q5, q6⟩ := rdA_ok _ _ _ _ _ _ hA h3
      rw [List.nil_append] at q1
      subst q1
      obtain ⟨h5, h6⟩ := h4
      have e : (rdI b).1 = (l'.length : Int) := by omega
      have q4' : b.take k' = encL l' := by rw [q4, h1, e]; rfl
      refine ⟨q4', ?_, q3, by omega, by omega, q5⟩
      rw [← q4', List.length_take]
      omega
theorem rdL_zero {b : List UInt8} {most : Int} {l : List (List UInt8)} (h : rdL b most = (l, 0)) : l = [] := by
  unfold rdL at h
  split at h
  · injection h with e1 e2; exact e1.symm
  · rename_i hc
    cases hA : rdA (rdI b).1.toNat b (rdI b).2 [] with
    | none =>
      rw [hA] at h
      injection h with e1 e2
      exact e1.symm
    | some p =>
      rw [hA] at h
      obtain ⟨l', k'⟩ := p
      injection h with e1 e2
      subst e2
      obtain ⟨l2, q1, q2, q3, q4, q5, q6⟩ := rdA_ok _ _ _ _ _ _ hA (rdI_le b)
      omega
theorem rdL_le (b : List UInt8) (most : Int) : (rdL b most).2 ≤ b.length := by
  rcases Nat.eq_zero_or_pos (rdL b most).2 with h | h
  · omega
  · exact (rdL_ok (b := b) (most := most) (l := (rdL b most).1) (k := (rdL b most).2) rfl (by omega)).2.2.1
theorem rdL_nil (most : Int) : rdL [] most = ([], 0) := rfl

/-- No proper beginning of an encoding is one. -/
theorem pre_int {n : Int} (h : I64 n) (j : Nat) (hj : j < (enc n).length) : rdI ((enc n).take j) = (0, 0) := by
  obtain ⟨m, hm⟩ : ∃ m, (rdI ((enc n).take j)).1 = m := ⟨_, rfl⟩
  obtain ⟨k, hk⟩ : ∃ k, (rdI ((enc n).take j)).2 = k := ⟨_, rfl⟩
  have e : rdI ((enc n).take j) = (m, k) := by rw [← hm, ← hk]
  rcases Nat.eq_zero_or_pos k with h0 | h0
  · subst h0; rw [e, rdI_zero e]
  · exfalso
    obtain ⟨h1, h2, h3, h4⟩ := rdI_ok e (by omega)
    rw [List.length_take] at h3
    rw [List.take_take, Nat.min_eq_left (by omega)] at h1
    have e1 := rdI_enc h4 ((enc n).drop k)
    rw [← h1, List.take_append_drop] at e1
    have e2 := rdI_enc h []
    rw [List.append_nil, e1] at e2
    injection e2 with e3 e4
    rw [h1, ← h2] at e4
    omega
theorem pre_list {l : List (List UInt8)} {most : Int} (hm : (l.length : Int) ≤ most) (hl : l.length ≤ 9223372036854775807) (hs : ∀ s ∈ l, s.length ≤ 9223372036854775807) (j : Nat) (hj : j < (encL l).length) : rdL ((encL l).take j) most = ([], 0) := by
  obtain ⟨m, hm'⟩ : ∃ m, (rdL ((encL l).take j) most).1 = m := ⟨_, rfl⟩
  obtain ⟨k, hk⟩ : ∃ k, (rdL ((encL l).take j) most).2 = k := ⟨_, rfl⟩
  have e : rdL ((encL l).take j) most = (m, k) := by rw [← hm', ← hk]
  rcases Nat.eq_zero_or_pos k with h0 | h0
  · subst h0; rw [e, rdL_zero e]
  · exfalso
    obtain ⟨h1, h2, h3, h4, h5, h6⟩ := rdL_ok e (by omega)
    rw [List.length_take] at h3
    rw [List.take_take, Nat.min_eq_left (by omega)] at h1
    have e1 := rdL_enc m ((encL l).drop k) most h4 h5 h6
    rw [← h1, List.take_append_drop] at e1
    have e2 := rdL_enc l [] most hm hl hs
    rw [List.append_nil, e1] at e2
    injection e2 with e3 e4
    rw [h1, ← h2] at e4
    omega
end Go.Proofs.Ytglllbodhdgahaa
