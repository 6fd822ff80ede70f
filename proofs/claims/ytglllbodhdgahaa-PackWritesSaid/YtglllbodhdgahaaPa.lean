/- Plain facts on the encodings of integers, strings and lists of strings, and on reading them. -/
import Derived.Test.YtglllbodhdgahaaProg
import Derived.Laws.Bits64
import Derived.Laws.BitsLemmas
namespace Go.Proofs.Ytglllbodhdgahaa
set_option linter.unusedVariables false

/-! ### Bytes -/
def by8 (b : UInt8) : Int := b.toNat
theorem by8_lt (b : UInt8) : 0 ≤ by8 b ∧ by8 b < 256 := by unfold by8; have := b.toNat_lt; exact ⟨by omega, by omega⟩
theorem by8_inj {a b : UInt8} (h : by8 a = by8 b) : a = b := by unfold by8 at h; exact UInt8.toNat_inj.1 (by omega)
theorem by8_ofNat (m : Nat) : by8 (UInt8.ofNat m) = ((m % 256 : Nat) : Int) := by
  unfold by8
  rw [UInt8.toNat_ofNat']

/-! ### The number of bytes, and the bytes, the most significant one first -/
def nbF : Nat → Nat → Nat
  | 0, _ => 0
  | f + 1, m => if m = 0 then 0 else nbF f (m / 256) + 1
def nb (m : Nat) : Nat := nbF 8 m
theorem nbF_le : ∀ f m, nbF f m ≤ f
  | 0, _ => Nat.le_refl _
  | f + 1, m => by
    unfold nbF
    split
    · omega
    · have := nbF_le f (m / 256); omega
theorem nb_le (m : Nat) : nb m ≤ 8 := nbF_le 8 m
theorem nbF_lt : ∀ f m, m < 256 ^ f → m < 256 ^ nbF f m
  | 0, m, h => h
  | f + 1, m, h => by
    unfold nbF
    split
    · subst m; exact Nat.pow_pos (by decide)
    · rw [Nat.pow_succ] at h ⊢
      have h2 := nbF_lt f (m / 256) ((Nat.div_lt_iff_lt_mul (by decide)).2 h)
      exact (Nat.div_lt_iff_lt_mul (by decide)).1 h2
theorem nbF_ge : ∀ f m, m < 256 ^ f → m ≠ 0 → 256 ^ (nbF f m - 1) ≤ m
  | 0, m, h, h0 => by simp at h; omega
  | f + 1, m, h, h0 => by
    unfold nbF
    rw [if_neg h0, Nat.add_sub_cancel]
    by_cases h1 : m / 256 = 0
    · have : nbF f (m / 256) = 0 := by rw [h1]; cases f <;> simp [nbF]
      rw [this]; simp; omega
    · rw [Nat.pow_succ] at h
      have h2 := nbF_ge f (m / 256) (by omega) h1
      have h3 : nbF f (m / 256) ≠ 0 := by
        cases f with
        | zero => simp at h; omega
        | succ f => simp [nbF, h1]
      obtain ⟨j, hj⟩ : ∃ j, nbF f (m / 256) = j + 1 := ⟨nbF f (m / 256) - 1, by omega⟩
      rw [hj] at h2 ⊢
      rw [Nat.add_sub_cancel] at h2
      rw [Nat.pow_succ]
      omega
theorem nbF_uniq : ∀ f m k, k ≤ f → m < 256 ^ k → (k = 0 ∨ 256 ^ (k - 1) ≤ m) → nbF f m = k
  | 0, m, k, hk, h1, h2 => by simp [nbF]; omega
  | f + 1, m, 0, hk, h1, h2 => by simp at h1; simp [nbF, h1]
  | f + 1, m, k + 1, hk, h1, h2 => by
    have h3 : 256 ^ k ≤ m := by rcases h2 with h2 | h2; · omega
                                · simpa using h2
    have hp : 0 < 256 ^ k := Nat.pow_pos (by decide)
    unfold nbF
    rw [if_neg (by omega)]
    rw [Nat.pow_succ] at h1
    rw [nbF_uniq f (m / 256) k (by omega) (by omega) ?_]
    cases k with
    | zero => exact .inl rfl
    | succ k => right; rw [Nat.pow_succ] at h3; rw [Nat.add_sub_cancel]; omega
theorem p8 : (256 : Nat) ^ 8 = 18446744073709551616 := by decide
theorem nb_lt {m : Nat} (h : m < 18446744073709551616) : m < 256 ^ nb m := nbF_lt 8 m (by rw [p8]; exact h)
theorem nb_ge {m : Nat} (h : m < 18446744073709551616) (h0 : m ≠ 0) : 256 ^ (nb m - 1) ≤ m := nbF_ge 8 m (by rw [p8]; exact h) h0
theorem nb_uniq {m k : Nat} (hk : k ≤ 8) (h1 : m < 256 ^ k) (h2 : k = 0 ∨ 256 ^ (k - 1) ≤ m) : nb m = k := nbF_uniq 8 m k hk h1 h2
theorem nb_zero : nb 0 = 0 := by decide
theorem nb_step {m : Nat} (h : m < 18446744073709551616) (h0 : m ≠ 0) : nb m = nb (m / 256) + 1 := by
  have h1 := nb_lt (m := m / 256) (by omega)
  have h2 := nb_le m
  have h3 := nb_lt h
  have h4 := nb_ge h h0
  have h5 : nb m ≠ 0 := by intro e; rw [e] at h3; simp at h3; omega
  obtain ⟨j, hj⟩ : ∃ j, nb m = j + 1 := ⟨nb m - 1, by omega⟩
  rw [hj, Nat.pow_succ] at h3
  rw [hj, Nat.add_sub_cancel] at h4
  rw [hj]
  congr 1
  symm
  refine nb_uniq (by omega) (by omega) ?_
  cases j with
  | zero => exact .inl rfl
  | succ j => right; rw [Nat.pow_succ] at h4; rw [Nat.add_sub_cancel]; omega
/-- Shifted by as many bytes or fewer, something is left exactly for fewer. -/
theorem nb_shift {m : Nat} (h : m < 18446744073709551616) (k : Nat) : m / 256 ^ k = 0 ↔ nb m ≤ k := by
  have hp : 0 < 256 ^ k := Nat.pow_pos (by decide)
  rw [Nat.div_eq_zero_iff]
  constructor
  · intro h1
    rcases h1 with h1 | h1
    · omega
    · rcases Nat.lt_or_ge k (nb m) with h2 | h2
      · have h0 : m ≠ 0 := by intro e; subst e; rw [nb_zero] at h2; omega
        have h3 := nb_ge h h0
        have h4 : 256 ^ k ≤ 256 ^ (nb m - 1) := Nat.pow_le_pow_right (by decide) (by omega)
        omega
      · exact h2
  · intro h1
    right
    have h3 := nb_lt h
    have h4 : 256 ^ nb m ≤ 256 ^ k := Nat.pow_le_pow_right (by decide) h1
    omega

def beK : Nat → Nat → List UInt8
  | 0, _ => []
  | k + 1, m => UInt8.ofNat (m / 256 ^ k) :: beK k m
theorem beK_length : ∀ k m, (beK k m).length = k
  | 0, _ => rfl
  | k + 1, m => by simp [beK, beK_length k]
theorem beK_snoc : ∀ k m, beK (k + 1) m = beK k (m / 256) ++ [UInt8.ofNat m]
  | 0, m => by simp [beK]
  | k + 1, m => by
    have ih := beK_snoc k m
    rw [beK, ih]
    show _ = (UInt8.ofNat (m / 256 / 256 ^ k) :: beK k (m / 256)) ++ _
    rw [Nat.div_div_eq_div_mul, Nat.pow_succ, Nat.mul_comm]
    rfl
def valB (l : List UInt8) : Nat := l.foldl (fun a b => a * 256 + b.toNat) 0
theorem valB_snoc (l : List UInt8) (b : UInt8) : valB (l ++ [b]) = valB l * 256 + b.toNat := by unfold valB; rw [List.foldl_append]; rfl
theorem valB_nil : valB [] = 0 := rfl
theorem snoc_ind {P : List UInt8 → Prop} (h0 : P []) (h1 : ∀ l b, P l → P (l ++ [b])) (l : List UInt8) : P l := by
  have : P l.reverse.reverse := by
    induction l.reverse with
    | nil => exact h0
    | cons b r ih => rw [List.reverse_cons]; exact h1 _ _ ih
  rwa [List.reverse_reverse] at this
theorem valB_lt (l : List UInt8) : valB l < 256 ^ l.length := by
  refine snoc_ind (P := fun l => valB l < 256 ^ l.length) (by simp [valB]) ?_ l
  intro l b ih
  show valB (l ++ [b]) < _
  rw [valB_snoc, List.length_append, List.length_singleton, Nat.pow_succ]
  have := b.toNat_lt
  omega
theorem ofNat_mod (m : Nat) : UInt8.ofNat (m % 256) = UInt8.ofNat m := by
  apply UInt8.toNat_inj.1
  rw [UInt8.toNat_ofNat', UInt8.toNat_ofNat']
  omega
theorem valB_beK : ∀ k m, m < 256 ^ k → valB (beK k m) = m
  | 0, m, h => by simp at h; subst h; rfl
  | k + 1, m, h => by
    rw [Nat.pow_succ] at h
    rw [beK_snoc, valB_snoc, valB_beK k (m / 256) (by omega), UInt8.toNat_ofNat']
    omega
theorem beK_valB (l : List UInt8) : beK l.length (valB l) = l := by
  refine snoc_ind (P := fun l => beK l.length (valB l) = l) rfl ?_ l
  intro l b ih
  show beK (l ++ [b]).length (valB (l ++ [b])) = _
  have hb := b.toNat_lt
  have e1 : (valB l * 256 + b.toNat) / 256 = valB l := by omega
  have e2 : UInt8.ofNat (valB l * 256 + b.toNat) = b := by
    apply UInt8.toNat_inj.1
    rw [UInt8.toNat_ofNat']
    omega
  rw [List.length_append, List.length_singleton, beK_snoc, valB_snoc, e1, ih, e2]
theorem valB_cons (b : UInt8) (l : List UInt8) : valB (b :: l) = b.toNat * 256 ^ l.length + valB l := by
  refine snoc_ind (P := fun l => valB (b :: l) = b.toNat * 256 ^ l.length + valB l) (by simp [valB]) ?_ l
  intro l c ih
  show valB ((b :: l) ++ [c]) = b.toNat * 256 ^ (l ++ [c]).length + valB (l ++ [c])
  rw [valB_snoc, valB_snoc, ih, List.length_append, List.length_singleton, Nat.pow_succ, Nat.add_mul, Nat.mul_assoc]
  omega
theorem valB_head {b : UInt8} {l : List UInt8} (h : b ≠ 0) : 256 ^ l.length ≤ valB (b :: l) := by
  have : b.toNat ≠ 0 := fun e => h (UInt8.toNat_inj.1 e)
  have h2 : 1 * 256 ^ l.length ≤ b.toNat * 256 ^ l.length := Nat.mul_le_mul_right _ (by omega)
  rw [valB_cons]
  omega

/-! ### The encoding of an integer -/
def I64 (n : Int) : Prop := -9223372036854775808 ≤ n ∧ n ≤ 9223372036854775807
def encN (neg : Bool) (m : Nat) : List UInt8 := UInt8.ofNat (nb m + if neg then 16 else 0) :: beK (nb m) m
def enc (n : Int) : List UInt8 := encN (decide (n < 0)) n.natAbs
theorem encN_length (neg : Bool) (m : Nat) : (encN neg m).length = nb m + 1 := by simp [encN, beK_length]
theorem enc_length (n : Int) : (enc n).length = nb n.natAbs + 1 := encN_length _ _
theorem enc_len_le (n : Int) : 1 ≤ (enc n).length ∧ (enc n).length ≤ 9 := by rw [enc_length]; have := nb_le n.natAbs; omega
theorem abs_lt {n : Int} (h : I64 n) : n.natAbs < 18446744073709551616 := by obtain ⟨h1, h2⟩ := h; omega
def hk (h : UInt8) : Nat := if 16 ≤ h.toNat then h.toNat - 16 else h.toNat
def sgn (neg : Bool) (v : Nat) : Int := IntKind.i64.wrap (if neg then -(v : Int) else v)
theorem sgn_i64 (neg : Bool) (v : Nat) : I64 (sgn neg v) := by
  unfold sgn I64
  rw [IntKind.wrap_i64]
  omega
def rdI (b : List UInt8) : Int × Nat :=
  match b with
  | [] => (0, 0)
  | h :: t =>
    if 8 < hk h ∨ t.length < hk h then (0, 0)
    else if enc (sgn (decide (16 ≤ h.toNat)) (valB (t.take (hk h)))) = h :: t.take (hk h) then (sgn (decide (16 ≤ h.toNat)) (valB (t.take (hk h))), 1 + hk h) else (0, 0)
theorem rdI_cons (h : UInt8) (t : List UInt8) : rdI (h :: t) = if 8 < hk h ∨ t.length < hk h then (0, 0)
    else if enc (sgn (decide (16 ≤ h.toNat)) (valB (t.take (hk h)))) = h :: t.take (hk h) then (sgn (decide (16 ≤ h.toNat)) (valB (t.take (hk h))), 1 + hk h) else (0, 0) := rfl

theorem head_toNat (neg : Bool) (m : Nat) : (UInt8.ofNat (nb m + if neg then 16 else 0)).toNat = nb m + if neg then 16 else 0 := by
  have := nb_le m
  rw [UInt8.toNat_ofNat']
  cases neg <;> simp <;> omega
theorem hk_head (neg : Bool) (m : Nat) : hk (UInt8.ofNat (nb m + if neg then 16 else 0)) = nb m := by
  have := nb_le m
  unfold hk
  rw [head_toNat]
  cases neg <;> simp <;> omega
theorem neg_head (neg : Bool) (m : Nat) : decide (16 ≤ (UInt8.ofNat (nb m + if neg then 16 else 0)).toNat) = neg := by
  have := nb_le m
  rw [head_toNat]
  cases neg
  · simp; omega
  · simp
theorem sgn_abs {n : Int} (h : I64 n) : sgn (decide (n < 0)) n.natAbs = n := by
  obtain ⟨h1, h2⟩ := h
  unfold sgn
  rw [IntKind.wrap_i64]
  by_cases h3 : n < 0
  · rw [decide_eq_true h3]; simp; omega
  · rw [decide_eq_false h3]; simp; omega
/-- What was encoded is read, whatever follows. -/
theorem rdI_enc {n : Int} (h : I64 n) (r : List UInt8) : rdI (enc n ++ r) = (n, (enc n).length) := by
  have h8 := nb_le n.natAbs
  unfold enc encN
  rw [List.cons_append, rdI_cons, hk_head, neg_head]
  rw [if_neg (by rw [List.length_append, beK_length]; omega)]
  rw [List.take_append_of_le_length (by rw [beK_length]; omega), List.take_of_length_le (by rw [beK_length]; omega)]
  rw [valB_beK _ _ (nb_lt (abs_lt h)), sgn_abs h]
  rw [if_pos (by rfl)]
  rw [List.length_cons, beK_length, Nat.add_comm]
/-- What is read is the encoding. -/
theorem rdI_ok {b : List UInt8} {n : Int} {k : Nat} (h : rdI b = (n, k)) (hk0 : k ≠ 0) : b.take k = enc n ∧ k = (enc n).length ∧ k ≤ b.length ∧ I64 n := by
  cases b with
  | nil => simp [rdI] at h; omega
  | cons c t =>
    rw [rdI_cons] at h
    split at h
    · simp at h; omega
    · rename_i h1
      split at h
      · rename_i h2
        injection h with e1 e2
        subst e1
        subst e2
        have e3 : (c :: t).take (1 + hk c) = c :: t.take (hk c) := by rw [Nat.add_comm, List.take_succ_cons]
        refine ⟨by rw [e3, h2], ?_, by simp; omega, sgn_i64 _ _⟩
        rw [h2, List.length_cons, List.length_take]
        omega
      · simp at h; omega
theorem rdI_zero {b : List UInt8} {n : Int} (h : rdI b = (n, 0)) : n = 0 := by
  cases b with
  | nil => simp [rdI] at h; exact h.symm
  | cons c t =>
    rw [rdI_cons] at h
    split at h
    · simp at h; exact h.symm
    · split at h
      · injection h with e1 e2; omega
      · simp at h; exact h.symm
theorem rdI_i64 (b : List UInt8) : I64 (rdI b).1 := by
  rcases Nat.eq_zero_or_pos (rdI b).2 with h | h
  · have : rdI b = ((rdI b).1, 0) := by rw [← h]
    rw [rdI_zero this]; exact ⟨by omega, by omega⟩
  · exact (rdI_ok (b := b) (n := (rdI b).1) (k := (rdI b).2) rfl (by omega)).2.2.2
theorem rdI_le (b : List UInt8) : (rdI b).2 ≤ b.length := by
  rcases Nat.eq_zero_or_pos (rdI b).2 with h | h
  · omega
  · exact (rdI_ok (b := b) (n := (rdI b).1) (k := (rdI b).2) rfl (by omega)).2.2.1
theorem rdI_nil : rdI [] = (0, 0) := rfl
/-- The same test, as one that looks at the first byte and at the sign. -/
theorem enc_test (c : UInt8) (u : List UInt8) (h8 : hk c ≤ 8) (hu : u.length = hk c) :
    enc (sgn (decide (16 ≤ c.toNat)) (valB u)) = c :: u ↔ (hk c = 0 ∨ u.headD 0 ≠ 0) ∧ (sgn (decide (16 ≤ c.toNat)) (valB u) < 0 ↔ 16 ≤ c.toNat) := by
  have hlt := valB_lt u
  have h64 : valB u < 18446744073709551616 := by
    have : 256 ^ u.length ≤ 256 ^ 8 := Nat.pow_le_pow_right (by decide) (by omega)
    rw [p8] at this
    omega
  constructor
  · intro h
    have hI := sgn_i64 (decide (16 ≤ c.toNat)) (valB u)
    obtain ⟨n, hn⟩ : ∃ n, sgn (decide (16 ≤ c.toNat)) (valB u) = n := ⟨_, rfl⟩
    rw [hn] at h hI ⊢
    unfold enc encN at h
    injection h with e1 e2
    have hneg := neg_head (decide (n < 0)) n.natAbs
    have hkk := hk_head (decide (n < 0)) n.natAbs
    rw [e1] at hneg hkk
    refine ⟨?_, ?_⟩
    · rcases Nat.eq_zero_or_pos (hk c) with h0 | h0
      · exact .inl h0
      · right
        obtain ⟨j, hj⟩ : ∃ j, nb n.natAbs = j + 1 := ⟨nb n.natAbs - 1, by omega⟩
        have hne : n.natAbs ≠ 0 := by intro e; rw [e, nb_zero] at hj; omega
        have h1 := nb_ge (abs_lt hI) hne
        have h2 := nb_lt (abs_lt hI)
        rw [hj] at e2 h1 h2
        rw [Nat.add_sub_cancel] at h1
        rw [Nat.pow_succ] at h2
        rw [← e2]
        show UInt8.ofNat (n.natAbs / 256 ^ j) ≠ 0
        intro e
        have e3 := congrArg UInt8.toNat e
        rw [UInt8.toNat_ofNat'] at e3
        have hp : 0 < 256 ^ j := Nat.pow_pos (by decide)
        have h3 : 1 ≤ n.natAbs / 256 ^ j := (Nat.le_div_iff_mul_le hp).2 (by omega)
        have h4 : n.natAbs / 256 ^ j < 256 := (Nat.div_lt_iff_lt_mul hp).2 (by rw [Nat.mul_comm]; exact h2)
        have e4 : (0 : UInt8).toNat = 0 := rfl
        omega
    · have := decide_eq_decide.1 hneg
      exact this.symm
  · rintro ⟨h1, h2⟩
    have hv : (sgn (decide (16 ≤ c.toNat)) (valB u)).natAbs = valB u := by
      unfold sgn at h2 ⊢
      rw [IntKind.wrap_i64] at h2 ⊢
      by_cases h3 : 16 ≤ c.toNat
      · have h4 := h2.2 h3
        simp only [h3, decide_true, if_true] at h4 ⊢
        omega
      · have h4 := mt h2.1 h3
        simp only [h3, decide_false, Bool.false_eq_true, if_false] at h4 ⊢
        omega
    have hnb : nb (valB u) = hk c := by
      refine nb_uniq h8 (by rw [← hu]; exact hlt) ?_
      rcases h1 with h1 | h1
      · exact .inl h1
      · cases u with
        | nil => left; simpa using hu.symm
        | cons b r =>
          right
          have e : hk c - 1 = r.length := by simp at hu; omega
          rw [e]
          exact valB_head (by simpa using h1)
    unfold enc encN
    rw [hv, hnb, show decide (sgn (decide (16 ≤ c.toNat)) (valB u) < 0) = decide (16 ≤ c.toNat) from decide_eq_decide.2 h2, ← hu, beK_valB]
    congr 1
    apply UInt8.toNat_inj.1
    have hc := c.toNat_lt
    rw [UInt8.toNat_ofNat', hu]
    unfold hk at h8 ⊢
    by_cases h3 : 16 ≤ c.toNat
    · simp only [h3, decide_true, if_true] at h8 ⊢; omega
    · simp only [h3, decide_false, Bool.false_eq_true, if_false] at h8 ⊢; omega
end Go.Proofs.Ytglllbodhdgahaa
