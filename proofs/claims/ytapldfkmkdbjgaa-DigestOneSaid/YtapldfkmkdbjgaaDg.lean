/- Plain facts on reading a text; digit, Parse (both). -/
import Derived.Test.YtapldfkmkdbjgaaDf
namespace Go.Proofs.Ytapldfkmkdbjgaa
open Go.RowKit
set_option linter.unusedVariables false

/-! ### Reading digits -/
def hexV (b : UInt8) : Option Int := if 48 ≤ b.toNat ∧ b.toNat ≤ 57 then some ((b.toNat : Int) - 48) else if 97 ≤ b.toNat ∧ b.toNat ≤ 102 then some ((b.toNat : Int) - 97 + 10) else none
def rd : Int → List UInt8 → Option Int
  | h, [] => some h
  | h, b :: l => match hexV b with
    | none => none
    | some d => rd ((16 * h + d) % 18446744073709551616) l
theorem hexV_lt {b : UInt8} {d : Int} (h : hexV b = some d) : 0 ≤ d ∧ d < 16 := by
  unfold hexV at h
  split at h
  · cases h; omega
  · split at h
    · cases h; omega
    · cases h
theorem rd_none (h : Int) (b : UInt8) (l : List UInt8) (hb : hexV b = none) : rd h (b :: l) = none := by simp only [rd, hb]
theorem rd_some (h : Int) (b : UInt8) (l : List UInt8) {d : Int} (hb : hexV b = some d) : rd h (b :: l) = rd ((16 * h + d) % 18446744073709551616) l := by simp only [rd, hb]
theorem hexV_hexD (d : Int) (h0 : 0 ≤ d) (h1 : d < 16) : hexV (hexD d) = some d := by
  obtain ⟨k, rfl⟩ := Int.eq_ofNat_of_zero_le h0
  have hk : k < 16 := by omega
  match k, hk with
  | 0, _ => decide
  | 1, _ => decide
  | 2, _ => decide
  | 3, _ => decide
  | 4, _ => decide
  | 5, _ => decide
  | 6, _ => decide
  | 7, _ => decide
  | 8, _ => decide
  | 9, _ => decide
  | 10, _ => decide
  | 11, _ => decide
  | 12, _ => decide
  | 13, _ => decide
  | 14, _ => decide
  | 15, _ => decide
  | k + 16, h => exact absurd h (by omega)
theorem hexD_hexV : ∀ b : UInt8, ∀ d, hexV b = some d → hexD d = b := by
  intro b d h
  unfold hexV at h
  split at h
  · rename_i hb
    cases h
    obtain ⟨k, hk⟩ : ∃ k : Nat, b.toNat = 48 + k := ⟨b.toNat - 48, by omega⟩
    have hb2 : b = UInt8.ofNat (48 + k) := by rw [← hk]; exact (UInt8.ofNat_toNat).symm
    have hk2 : k < 10 := by omega
    rw [hk]
    have e : (((48 + k : Nat) : Int) - 48) = (k : Int) := by omega
    rw [e, hb2]
    clear hb2 e hk hb
    match k, hk2 with
    | 0, _ => decide
    | 1, _ => decide
    | 2, _ => decide
    | 3, _ => decide
    | 4, _ => decide
    | 5, _ => decide
    | 6, _ => decide
    | 7, _ => decide
    | 8, _ => decide
    | 9, _ => decide
    | k + 10, h => exact absurd h (by omega)
  · split at h
    · rename_i hb
      cases h
      obtain ⟨k, hk⟩ : ∃ k : Nat, b.toNat = 97 + k := ⟨b.toNat - 97, by omega⟩
      have hb2 : b = UInt8.ofNat (97 + k) := by rw [← hk]; exact (UInt8.ofNat_toNat).symm
      have hk2 : k < 6 := by omega
      rw [hk]
      have e : (((97 + k : Nat) : Int) - 97 + 10) = ((k + 10 : Nat) : Int) := by omega
      rw [e, hb2]
      clear hb2 e hk hb
      match k, hk2 with
      | 0, _ => decide
      | 1, _ => decide
      | 2, _ => decide
      | 3, _ => decide
      | 4, _ => decide
      | 5, _ => decide
      | k + 6, h => exact absurd h (by omega)
    · cases h
/-- Reading, from the first digit, what the digits from the last one were written as. -/
theorem rd_app (h : Int) (l r : List UInt8) : rd h (l ++ r) = (rd h l).bind fun m => rd m r := by
  induction l generalizing h with
  | nil => rfl
  | cons b l ih =>
    cases hb : hexV b with
    | none => rw [List.cons_append, rd_none _ _ _ hb, rd_none _ _ _ hb]; rfl
    | some d => rw [List.cons_append, rd_some _ _ _ hb, rd_some _ _ _ hb, ih]
theorem pow16_le (k : Nat) (h : k ≤ 15) : (16 : Int) ^ k ≤ 16 ^ 15 := by
  have := Nat.pow_le_pow_right (n := 16) (by decide) h
  exact_mod_cast this
theorem rd_hexR : ∀ (k : Nat) (n : Int), k ≤ 16 → rd 0 (hexR k n).reverse = some (n % (16 : Int) ^ k)
  | 0, n, _ => by simp [hexR, rd]
  | k + 1, n, hk => by
    have ih := rd_hexR k (n / 16) (by omega)
    have hd := hexV_hexD (n % 16) (by omega) (by omega)
    simp only [hexR, List.reverse_cons, rd_app, ih, Option.bind_some]
    rw [rd_some _ _ _ hd]
    show some _ = some _
    rw [Int.pow_succ, Int.mul_comm ((16 : Int) ^ k) 16]
    have hp : (0 : Int) < 16 ^ k := Int.pow_pos (by decide)
    have hp2 : (16 : Int) ^ k ≤ 16 ^ 15 := pow16_le k (by omega)
    have e : ((16 : Int) ^ 15) = 1152921504606846976 := by decide
    rw [e] at hp2
    have h1 : 0 ≤ n / 16 % 16 ^ k := Int.emod_nonneg _ (by omega)
    have h2 : n / 16 % 16 ^ k < 16 ^ k := Int.emod_lt_of_pos _ hp
    rw [Int.emod_eq_of_lt (by omega) (by omega)]
    have e1 : n % 16 + 16 * (n / 16) = n := Int.emod_add_mul_ediv n 16
    have e2 : n / 16 % 16 ^ k + 16 ^ k * (n / 16 / 16 ^ k) = n / 16 := Int.emod_add_mul_ediv (n / 16) (16 ^ k)
    have e3 : n = (16 * (n / 16 % 16 ^ k) + n % 16) + (16 * 16 ^ k) * (n / 16 / 16 ^ k) := by
      rw [Int.mul_assoc, Int.add_right_comm, ← Int.mul_add, e2]
      omega
    have h3 : (16 * (n / 16 % 16 ^ k) + n % 16) % (16 * 16 ^ k) = 16 * (n / 16 % 16 ^ k) + n % 16 := Int.emod_eq_of_lt (by omega) (by omega)
    rw [← h3, ← Int.add_mul_emod_self_left (16 * (n / 16 % 16 ^ k) + n % 16) (16 * 16 ^ k) (n / 16 / 16 ^ k), ← e3]
theorem rd_tx {n : Int} (h : Num n) : rd 0 (tx n) = some n := by
  unfold tx
  rw [rd_hexR 16 n (by omega)]
  obtain ⟨h0, h1⟩ := h
  have e : ((16 : Int) ^ 16) = 18446744073709551616 := by decide
  rw [e, Int.emod_eq_of_lt h0 h1]
/-- The text of what was read from sixteen digits is what was read. -/
theorem rd_back : ∀ (l : List UInt8) (n : Int), l.length ≤ 16 → rd 0 l.reverse = some n → hexR l.length n = l ∧ 0 ≤ n ∧ n < (16 : Int) ^ l.length
  | [], n, _, h => by simp only [List.reverse_nil, rd, Option.some.injEq] at h; subst h; exact ⟨rfl, by omega, by decide⟩
  | b :: l, n, hl, h => by
    rw [List.reverse_cons, rd_app] at h
    cases hm : rd 0 l.reverse with
    | none => rw [hm] at h; cases h
    | some m =>
      rw [hm] at h
      obtain ⟨ih1, ih2, ih3⟩ := rd_back l m (by simp at hl; omega) hm
      simp only [Option.bind_some] at h
      cases hb : hexV b with
      | none => rw [rd_none _ _ _ hb] at h; cases h
      | some d =>
        rw [rd_some _ _ _ hb] at h
        simp only [rd, Option.some.injEq] at h
        have hd := hexV_lt hb
        have hp2 : (16 : Int) ^ l.length ≤ 16 ^ 15 := pow16_le _ (by simp at hl; omega)
        have e : ((16 : Int) ^ 15) = 1152921504606846976 := by decide
        rw [e] at hp2
        rw [Int.emod_eq_of_lt (by omega) (by omega)] at h
        have e1 : n % 16 = d := by omega
        have e2 : n / 16 = m := by omega
        refine ⟨?_, by omega, ?_⟩
        · simp only [List.length_cons, hexR, e1, e2, ih1, hexD_hexV b d hb]
        · rw [List.length_cons, Int.pow_succ]; omega
theorem rd_num : ∀ (l : List UInt8) (h n : Int), Num h → rd h l = some n → Num n
  | [], h, n, hh, e => by simp only [rd, Option.some.injEq] at e; subst e; exact hh
  | b :: l, h, n, hh, e => by
    cases hb : hexV b with
    | none => rw [rd_none _ _ _ hb] at e; cases e
    | some d => rw [rd_some _ _ _ hb] at e; exact rd_num l _ n ⟨by omega, by omega⟩ e
theorem tx_rd {l : List UInt8} {n : Int} (hl : l.length = 16) (h : rd 0 l = some n) : tx n = l := by
  have h2 := rd_back l.reverse n (by simp; omega) (by rw [List.reverse_reverse]; exact h)
  rw [List.length_reverse, hl] at h2
  unfold tx
  rw [h2.1, List.reverse_reverse]
/-- What Parse answers: the number, or nothing. -/
def prs (l : List UInt8) : Option Int := if l.length = 16 then rd 0 l else none
theorem or_low (m d : Int) (hd : 0 ≤ d ∧ d < 16) : bits .or .u64 (IntKind.u64.wrap (m * 16)) d = (16 * m + d) % 18446744073709551616 := by
  obtain ⟨h0, h1⟩ := hd
  obtain ⟨D, rfl⟩ := Int.eq_ofNat_of_zero_le h0
  show IntKind.u64.wrap ((BitVec.ofInt 64 (IntKind.u64.wrap (m * 16)) ||| BitVec.ofInt 64 (D : Int)).toNat : Int) = _
  rw [IntKind.wrap_u64, IntKind.wrap_u64, BitVec.toNat_or, BitVec.toNat_ofInt, BitVec.toNat_ofInt]
  obtain ⟨A, hA⟩ : ∃ A : Nat, (m * 16 % 18446744073709551616) = ((16 * A : Nat) : Int) := ⟨(m * 16 % 18446744073709551616 / 16).toNat, by omega⟩
  have eA : (m * 16 % 18446744073709551616 % ((2 ^ 64 : Nat) : Int)).toNat = 16 * A := by omega
  have eD : ((D : Int) % ((2 ^ 64 : Nat) : Int)).toNat = D := by omega
  rw [eA, eD]
  have := Nat.two_pow_add_eq_or_of_lt (b := D) (i := 4) (by omega) A
  rw [show (16 * A ||| D) = 16 * A + D from this.symm]
  omega
end Go.Proofs.Ytapldfkmkdbjgaa
