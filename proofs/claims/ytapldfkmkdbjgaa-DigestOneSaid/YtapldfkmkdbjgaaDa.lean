/- Plain facts on digests: the step, that it can be undone, the digest of a list of bytes. -/
import Derived.Test.YtapldfkmkdbjgaaProg
import Derived.Laws.Bits64
namespace Go.Proofs.Ytapldfkmkdbjgaa
set_option linter.unusedVariables false

/-! ### The step, on 64 bits -/
def stpB (h c : BitVec 64) : BitVec 64 := (h ^^^ c) * 11507291218515648293#64 ^^^ ((h ^^^ c) * 11507291218515648293#64) >>> 32
theorem fac_inv : (11507291218515648293#64) * 192419422752744621#64 = 1#64 := by decide
theorem mul_fac_inj {x y : BitVec 64} (h : x * 11507291218515648293#64 = y * 11507291218515648293#64) : x = y := by
  have h2 := congrArg (· * 192419422752744621#64) h
  simp only [BitVec.mul_assoc, fac_inv, BitVec.mul_one] at h2
  exact h2
theorem xsr_twice (x : BitVec 64) : (x ^^^ x >>> 32) ^^^ (x ^^^ x >>> 32) >>> 32 = x := by
  apply BitVec.eq_of_getLsbD_eq
  intro i hi
  simp only [BitVec.getLsbD_xor, BitVec.getLsbD_ushiftRight]
  have h0 : x.getLsbD (32 + (32 + i)) = false := BitVec.getLsbD_of_ge _ _ (by omega)
  rw [h0]
  cases x.getLsbD i <;> cases x.getLsbD (32 + i) <;> rfl
theorem xsr_inj {x y : BitVec 64} (h : x ^^^ x >>> 32 = y ^^^ y >>> 32) : x = y := by
  rw [← xsr_twice x, h, xsr_twice y]
theorem stpB_core {x y : BitVec 64} (h : x * 11507291218515648293#64 ^^^ (x * 11507291218515648293#64) >>> 32 = y * 11507291218515648293#64 ^^^ (y * 11507291218515648293#64) >>> 32) : x = y := mul_fac_inj (xsr_inj h)
theorem xor_right_inj {a b c : BitVec 64} (h : a ^^^ c = b ^^^ c) : a = b := by
  have h2 := congrArg (· ^^^ c) h
  simpa [BitVec.xor_assoc] using h2
theorem xor_left_inj {a b c : BitVec 64} (h : c ^^^ a = c ^^^ b) : a = b := by
  rw [BitVec.xor_comm c a, BitVec.xor_comm c b] at h
  exact xor_right_inj h
theorem stpB_number {h h' c : BitVec 64} (e : stpB h c = stpB h' c) : h = h' := xor_right_inj (stpB_core e)
theorem stpB_byte {h c c' : BitVec 64} (e : stpB h c = stpB h c') : c = c' := xor_left_inj (stpB_core e)

/-! ### The step, as the program reckons it -/
def stp (h c : Int) : Int := bits .xor .u64 (IntKind.u64.wrap (bits .xor .u64 h c * 11507291218515648293)) (IntKind.u64.wrap (bits .xor .u64 h c * 11507291218515648293) / 4294967296)
theorem bxor (a b : Int) : bits .xor .u64 a b = ((BitVec.ofInt 64 a ^^^ BitVec.ofInt 64 b).toNat : Int) := by
  show IntKind.u64.wrap ((BitVec.ofInt 64 a ^^^ BitVec.ofInt 64 b).toNat : Int) = _
  rw [IntKind.wrap_u64]
  have := (BitVec.ofInt 64 a ^^^ BitVec.ofInt 64 b).isLt
  omega
theorem ofInt_toNat (k : BitVec 64) : BitVec.ofInt 64 (k.toNat : Int) = k := by rw [BitVec.ofInt_natCast, BitVec.ofNat_toNat, BitVec.setWidth_eq]
theorem wrap_mul (x : BitVec 64) : IntKind.u64.wrap ((x.toNat : Int) * 11507291218515648293) = ((x * 11507291218515648293#64).toNat : Int) := by
  rw [IntKind.wrap_u64, BitVec.toNat_mul]
  rw [Int.natCast_emod, Int.natCast_mul]
  rfl
theorem shr32 (k : BitVec 64) : (k.toNat : Int) / (4294967296 : Int) = ((k >>> 32).toNat : Int) := by
  rw [BitVec.toNat_ushiftRight, Nat.shiftRight_eq_div_pow]
  rfl
theorem stp_eq (h c : Int) : stp h c = ((stpB (BitVec.ofInt 64 h) (BitVec.ofInt 64 c)).toNat : Int) := by
  unfold stp stpB
  rw [bxor h c, wrap_mul, shr32, bxor, ofInt_toNat, ofInt_toNat]
def Num (h : Int) : Prop := 0 ≤ h ∧ h < 18446744073709551616
theorem stp_num (h c : Int) : Num (stp h c) := by
  rw [stp_eq]
  have := (stpB (BitVec.ofInt 64 h) (BitVec.ofInt 64 c)).isLt
  exact ⟨by omega, by omega⟩
theorem ofInt_inj {a b : Int} (ha : Num a) (hb : Num b) (h : BitVec.ofInt 64 a = BitVec.ofInt 64 b) : a = b := by
  have h2 := congrArg BitVec.toNat h
  rw [BitVec.toNat_ofInt, BitVec.toNat_ofInt] at h2
  obtain ⟨h3, h4⟩ := ha
  obtain ⟨h5, h6⟩ := hb
  omega
theorem toNat_int_inj {x y : BitVec 64} (h : (x.toNat : Int) = (y.toNat : Int)) : x = y := BitVec.eq_of_toNat_eq (by omega)
theorem stp_number {h h' c : Int} (hh : Num h) (hh' : Num h') (e : stp h c = stp h' c) : h = h' := by
  rw [stp_eq, stp_eq] at e
  exact ofInt_inj hh hh' (stpB_number (toNat_int_inj e))
theorem stp_byte {h c c' : Int} (hc : Num c) (hc' : Num c') (e : stp h c = stp h c') : c = c' := by
  rw [stp_eq, stp_eq] at e
  exact ofInt_inj hc hc' (stpB_byte (toNat_int_inj e))

/-! ### The digest of bytes from a number -/
def by8 (b : UInt8) : Int := b.toNat
theorem by8_num (b : UInt8) : Num (by8 b) := by unfold by8; have := b.toNat_lt; exact ⟨by omega, by omega⟩
theorem by8_lt (b : UInt8) : 0 ≤ by8 b ∧ by8 b < 256 := by unfold by8; have := b.toNat_lt; exact ⟨by omega, by omega⟩
theorem by8_inj {a b : UInt8} (h : by8 a = by8 b) : a = b := by unfold by8 at h; exact UInt8.toNat_inj.1 (by omega)
def dig (h : Int) (l : List UInt8) : Int := l.foldl (fun h b => stp h (by8 b)) h
theorem dig_nil (h : Int) : dig h [] = h := rfl
theorem dig_cons (h : Int) (b : UInt8) (l : List UInt8) : dig h (b :: l) = dig (stp h (by8 b)) l := rfl
theorem dig_append (h : Int) (l r : List UInt8) : dig h (l ++ r) = dig (dig h l) r := by unfold dig; rw [List.foldl_append]
theorem dig_snoc (h : Int) (l : List UInt8) (b : UInt8) : dig h (l ++ [b]) = stp (dig h l) (by8 b) := by rw [dig_append]; rfl
theorem dig_num {h : Int} (hh : Num h) (l : List UInt8) : Num (dig h l) := by
  induction l generalizing h with
  | nil => exact hh
  | cons b l ih => exact ih (stp_num _ _)
theorem dig_inj {h h' : Int} (hh : Num h) (hh' : Num h') (l : List UInt8) (e : dig h l = dig h' l) : h = h' := by
  induction l generalizing h h' with
  | nil => exact e
  | cons b l ih => exact stp_number hh hh' (ih (stp_num _ _) (stp_num _ _) e)
theorem dig_change {h : Int} (hh : Num h) (p s : List UInt8) {b b' : UInt8} (e : dig h (p ++ b :: s) = dig h (p ++ b' :: s)) : b = b' := by
  rw [dig_append, dig_append, dig_cons, dig_cons] at e
  exact by8_inj (stp_byte (by8_num _) (by8_num _) (dig_inj (stp_num _ _) (stp_num _ _) s e))
theorem set_split (l : List UInt8) (k : Nat) (hk : k < l.length) (c : UInt8) : l = l.take k ++ l[k] :: l.drop (k + 1) ∧ l.set k c = l.take k ++ c :: l.drop (k + 1) := by
  constructor
  · rw [← List.drop_eq_getElem_cons hk, List.take_append_drop]
  · rw [List.set_eq_take_append_cons_drop, if_pos hk]
/-- One byte changed: the digest is the same exactly if the byte is. -/
theorem dig_set {h : Int} (hh : Num h) (l : List UInt8) (k : Nat) (hk : k < l.length) (c : UInt8) : dig h (l.set k c) = dig h l ↔ l[k] = c := by
  obtain ⟨h1, h2⟩ := set_split l k hk c
  constructor
  · intro e
    rw [h2] at e
    have e2 : dig h (l.take k ++ c :: l.drop (k + 1)) = dig h (l.take k ++ l[k] :: l.drop (k + 1)) := by rw [← h1]; exact e
    exact (dig_change hh _ _ e2).symm
  · intro e
    subst e
    rw [h2, ← h1]

/-! ### The eight bytes of a number -/
def leB : Nat → Int → List UInt8
  | 0, _ => []
  | k + 1, n => UInt8.ofNat (n % 256).toNat :: leB k (n / 256)
def le8 (n : Int) : List UInt8 := leB 8 n
theorem leB_length : ∀ (k : Nat) (n : Int), (leB k n).length = k
  | 0, _ => rfl
  | k + 1, n => by simp [leB, leB_length k]
theorem le8_length (n : Int) : (le8 n).length = 8 := leB_length 8 n
def vle : List UInt8 → Int
  | [] => 0
  | b :: l => by8 b + 256 * vle l
theorem by8_ofNat (n : Int) : by8 (UInt8.ofNat (n % 256).toNat) = n % 256 := by
  unfold by8
  rw [UInt8.toNat_ofNat']
  omega
theorem emod_split (n m : Int) (hm : 0 < m) : n % (256 * m) = n % 256 + 256 * (n / 256 % m) := by
  have e1 : n % 256 + 256 * (n / 256) = n := Int.emod_add_mul_ediv n 256
  have e2 : n / 256 % m + m * (n / 256 / m) = n / 256 := Int.emod_add_mul_ediv (n / 256) m
  have e3 : n = (n % 256 + 256 * (n / 256 % m)) + (256 * m) * (n / 256 / m) := by
    rw [Int.mul_assoc, Int.add_assoc, ← Int.mul_add, e2, e1]
  have h1 : 0 ≤ n / 256 % m := Int.emod_nonneg _ (by omega)
  have h2 : n / 256 % m < m := Int.emod_lt_of_pos _ hm
  have h3 : (n % 256 + 256 * (n / 256 % m)) % (256 * m) = n % 256 + 256 * (n / 256 % m) := Int.emod_eq_of_lt (by omega) (by omega)
  rw [← h3, ← Int.add_mul_emod_self_left (n % 256 + 256 * (n / 256 % m)) (256 * m) (n / 256 / m), ← e3]
theorem vle_leB : ∀ (k : Nat) (n : Int), vle (leB k n) = n % (256 : Int) ^ k
  | 0, n => by simp [leB, vle]
  | k + 1, n => by
    have ih := vle_leB k (n / 256)
    simp only [leB, vle, by8_ofNat, ih]
    rw [show ((256 : Int) ^ (k + 1)) = 256 * 256 ^ k from by rw [Int.pow_succ, Int.mul_comm]]
    exact (emod_split n _ (Int.pow_pos (by decide))).symm
theorem le8_inj {a b : Int} (ha : Num a) (hb : Num b) (h : le8 a = le8 b) : a = b := by
  have h2 := congrArg vle h
  unfold le8 at h2
  rw [vle_leB, vle_leB] at h2
  obtain ⟨h3, h4⟩ := ha
  obtain ⟨h5, h6⟩ := hb
  have e : ((256 : Int) ^ 8) = 18446744073709551616 := by decide
  rw [e] at h2
  omega
/-- The i-th of them. -/
theorem leB_getD : ∀ (k : Nat) (n : Int) (i : Nat), i < k → (leB k n).getD i 0 = UInt8.ofNat ((n / (256 : Int) ^ i) % 256).toNat
  | 0, _, _, h => absurd h (Nat.not_lt_zero _)
  | k + 1, n, 0, _ => by simp [leB]
  | k + 1, n, i + 1, h => by
    have ih := leB_getD k (n / 256) i (by omega)
    simp only [leB, List.getD_cons_succ, ih]
    rw [Int.ediv_ediv_of_nonneg (by omega), Int.pow_succ, Int.mul_comm 256]
end Go.Proofs.Ytapldfkmkdbjgaa
