/- Plain facts on the decoding of UTF-8, over lists of bytes: no program is named here. -/
import Derived.Laws.RangeAny
namespace Go.Proofs.YteofkofgdhmpjaaDoor
open Go
set_option linter.unusedVariables false

def byt (l : List UInt8) (k : Nat) : Nat := (l[k]?.getD 0).toNat
def cnt (l : List UInt8) (k : Nat) : Bool := decide (k < l.length) && (byt l k / 64 == 2)
theorem byt_lt (l : List UInt8) (k : Nat) : byt l k < 256 := (l[k]?.getD 0).toNat_lt

/-- The first element of a list of bytes, and its width. -/
def dlf (at' : Nat → Nat) (cont : Nat → Bool) : Nat × Nat :=
  if at' 0 < 0x80 then (at' 0, 1)
  else if at' 0 / 32 == 6 && cont 1 then
    (if (at' 0 % 32) * 64 + at' 1 % 64 ≥ 0x80 then ((at' 0 % 32) * 64 + at' 1 % 64, 2) else (0xFFFD, 1))
  else if at' 0 / 16 == 14 && cont 1 && cont 2 then
    (if (at' 0 % 16) * 4096 + (at' 1 % 64) * 64 + at' 2 % 64 ≥ 0x800 && Utf8.valid (((at' 0 % 16) * 4096 + (at' 1 % 64) * 64 + at' 2 % 64 : Nat) : Int)
     then ((at' 0 % 16) * 4096 + (at' 1 % 64) * 64 + at' 2 % 64, 3) else (0xFFFD, 1))
  else if at' 0 / 8 == 30 && cont 1 && cont 2 && cont 3 then
    (if (at' 0 % 8) * 262144 + (at' 1 % 64) * 4096 + (at' 2 % 64) * 64 + at' 3 % 64 ≥ 0x10000 && Utf8.valid (((at' 0 % 8) * 262144 + (at' 1 % 64) * 4096 + (at' 2 % 64) * 64 + at' 3 % 64 : Nat) : Int)
     then ((at' 0 % 8) * 262144 + (at' 1 % 64) * 4096 + (at' 2 % 64) * 64 + at' 3 % 64, 4) else (0xFFFD, 1))
  else (0xFFFD, 1)
def dl (l : List UInt8) : Nat × Nat := dlf (byt l) (cnt l)

theorem get_byt (s : ByteArray) (pos k : Nat) : (s.get! (pos + k)).toNat = byt (s.data.toList.drop pos) k := by
  unfold byt
  have : s.get! (pos + k) = ((s.data.toList.drop pos)[k]?.getD 0) := by
    rw [List.getElem?_drop]
    show s.data[pos + k]! = _
    rw [getElem!_def]
    simp only [Array.getElem?_toList]
    cases s.data[pos + k]? <;> rfl
  rw [this]

theorem decode_dl (s : ByteArray) (pos : Nat) : Utf8.decode s pos = dl (s.data.toList.drop pos) := by
  have hc : ∀ k, (decide (pos + k < s.size) && ((s.get! (pos + k)).toNat / 64 == 2)) = cnt (s.data.toList.drop pos) k := fun k => by
    unfold cnt
    rw [get_byt]
    congr 1
    rw [decide_eq_decide]
    have : s.size = s.data.toList.length := Array.length_toList.symm
    rw [this, List.length_drop]
    omega
  show dlf (fun k => (s.get! (pos + k)).toNat) (fun k => decide (pos + k < s.size) && ((s.get! (pos + k)).toNat / 64 == 2)) = _
  unfold dl
  congr 1
  · funext k; exact get_byt s pos k
  · funext k; exact hc k

theorem dl_width (l : List UInt8) : 1 ≤ (dl l).2 ∧ (dl l).2 ≤ 4 := by
  unfold dl dlf
  repeat' split
  all_goals simp

theorem dl_width_le (l : List UInt8) (h : l ≠ []) : (dl l).2 ≤ l.length := by
  have h0 : 0 < l.length := List.length_pos_iff.2 h
  unfold dl dlf cnt
  repeat' split
  all_goals (simp_all <;> omega)

/-- A width of 1 tells a single byte: below 128, or the replacement. -/
theorem dl_one (l : List UInt8) (h : (dl l).2 = 1) : (byt l 0 < 0x80 ∧ (dl l).1 = byt l 0) ∨ (128 ≤ byt l 0 ∧ (dl l).1 = 0xFFFD) := by
  revert h
  unfold dl dlf
  repeat' split
  all_goals simp_all

theorem dl_valid (l : List UInt8) : Utf8.valid ((dl l).1 : Int) = true := by
  have h0 := byt_lt l 0
  have h1 := byt_lt l 1
  unfold dl dlf
  repeat' split
  all_goals simp_all [Utf8.valid]
  all_goals omega

/-- The elements of a list of bytes. -/
def els : Nat → List UInt8 → List Nat
  | 0, _ => []
  | f + 1, l => if l = [] then [] else (dl l).1 :: els f (l.drop (dl l).2)

theorem els_nil (f : Nat) : els f [] = [] := by cases f <;> simp [els]

theorem els_fuel : ∀ (f g : Nat) (l : List UInt8), l.length ≤ f → l.length ≤ g → els f l = els g l
  | 0, g, l, hf, _ => by
    have : l = [] := List.length_eq_zero_iff.1 (by omega)
    subst this; rw [els_nil, els_nil]
  | f + 1, 0, l, _, hg => by
    have : l = [] := List.length_eq_zero_iff.1 (by omega)
    subst this; rw [els_nil, els_nil]
  | f + 1, g + 1, l, hf, hg => by
    unfold els
    by_cases h : l = []
    · simp [h]
    · rw [if_neg h, if_neg h]
      have hw := dl_width l
      congr 1
      exact els_fuel f g _ (by rw [List.length_drop]; omega) (by rw [List.length_drop]; omega)

/-- The elements, with enough steps. -/
def elems (l : List UInt8) : List Nat := els l.length l
theorem elems_nil : elems [] = [] := rfl
theorem elems_cons (l : List UInt8) (h : l ≠ []) : elems l = (dl l).1 :: elems (l.drop (dl l).2) := by
  have h0 : 0 < l.length := List.length_pos_iff.2 h
  have hw := dl_width l
  unfold elems
  obtain ⟨f, hf⟩ : ∃ f, l.length = f + 1 := ⟨l.length - 1, by omega⟩
  rw [hf]
  show (if l = [] then [] else (dl l).1 :: els f (l.drop (dl l).2)) = _
  rw [if_neg h]
  congr 1
  exact els_fuel _ _ _ (by rw [List.length_drop]; omega) (Nat.le_refl _)
theorem elems_length (l : List UInt8) : (elems l).length ≤ l.length := by
  generalize hn : l.length = n
  induction n using Nat.strongRecOn generalizing l with
  | ind n ih =>
    by_cases h : l = []
    · subst h; simp [elems_nil]
    · rw [elems_cons l h]
      have h0 : 0 < l.length := List.length_pos_iff.2 h
      have hw := dl_width l
      have hl : (l.drop (dl l).2).length < n := by rw [List.length_drop]; omega
      have := ih _ hl (l.drop (dl l).2) rfl
      simp only [List.length_cons]
      rw [List.length_drop] at this
      omega

/-! ### The encodings, by their sizes -/
theorem enc1 (n : Int) (h : Utf8.valid n = true) (h0 : 0 ≤ n) (a : n < 128) : Utf8.encode n = ⟨#[UInt8.ofNat n.toNat]⟩ := by
  unfold Utf8.encode
  simp only [h, if_true]
  rw [if_pos (by omega)]
theorem enc2 (n : Int) (h : Utf8.valid n = true) (h0 : 0 ≤ n) (a : ¬ n < 128) (b : n < 2048) : Utf8.encode n = ⟨#[UInt8.ofNat (192 + n / 64).toNat, UInt8.ofNat (128 + n % 64).toNat]⟩ := by
  unfold Utf8.encode
  simp only [h, if_true]
  rw [if_neg (by omega), if_pos (by omega), show (192 + n / 64).toNat = 192 + n.toNat / 64 from by omega, show (128 + n % 64).toNat = 128 + n.toNat % 64 from by omega]
theorem enc3 (n : Int) (h : Utf8.valid n = true) (h0 : 0 ≤ n) (a : ¬ n < 128) (b : ¬ n < 2048) (c : n < 65536) : Utf8.encode n = ⟨#[UInt8.ofNat (224 + n / 4096).toNat, UInt8.ofNat (128 + n / 64 % 64).toNat, UInt8.ofNat (128 + n % 64).toNat]⟩ := by
  unfold Utf8.encode
  simp only [h, if_true]
  rw [if_neg (by omega), if_neg (by omega), if_pos (by omega), show (224 + n / 4096).toNat = 224 + n.toNat / 4096 from by omega, show (128 + n / 64 % 64).toNat = 128 + n.toNat / 64 % 64 from by omega, show (128 + n % 64).toNat = 128 + n.toNat % 64 from by omega]
theorem enc4 (n : Int) (h : Utf8.valid n = true) (h0 : 0 ≤ n) (c : ¬ n < 65536) : Utf8.encode n = ⟨#[UInt8.ofNat (240 + n / 262144).toNat, UInt8.ofNat (128 + n / 4096 % 64).toNat, UInt8.ofNat (128 + n / 64 % 64).toNat, UInt8.ofNat (128 + n % 64).toNat]⟩ := by
  unfold Utf8.encode
  simp only [h, if_true]
  rw [if_neg (by omega), if_neg (by omega), if_neg (by omega), show (240 + n / 262144).toNat = 240 + n.toNat / 262144 from by omega, show (128 + n / 4096 % 64).toNat = 128 + n.toNat / 4096 % 64 from by omega, show (128 + n / 64 % 64).toNat = 128 + n.toNat / 64 % 64 from by omega, show (128 + n % 64).toNat = 128 + n.toNat % 64 from by omega]

/-! ### An element and its encoding -/
def accn (l : List UInt8) (n0 : Nat) : Nat → Nat
  | 0 => n0
  | 1 => n0
  | k + 2 => 64 * accn l n0 (k + 1) + byt l (k + 1) % 64
def Lead (b base sz : Nat) : Prop := (192 ≤ b ∧ b < 224 ∧ base = 192 ∧ sz = 2) ∨ (224 ≤ b ∧ b < 240 ∧ base = 224 ∧ sz = 3) ∨ (240 ≤ b ∧ b < 248 ∧ base = 240 ∧ sz = 4)

theorem accn2 (l : List UInt8) (n0 : Nat) : accn l n0 2 = 64 * n0 + byt l 1 % 64 := rfl
theorem accn3 (l : List UInt8) (n0 : Nat) : accn l n0 3 = 64 * (64 * n0 + byt l 1 % 64) + byt l 2 % 64 := rfl
theorem accn4 (l : List UInt8) (n0 : Nat) : accn l n0 4 = 64 * (64 * (64 * n0 + byt l 1 % 64) + byt l 2 % 64) + byt l 3 % 64 := rfl
theorem take2 {l : List UInt8} {x y : UInt8} (h0 : l[0]? = some x) (h1 : l[1]? = some y) : l.take 2 = [x, y] := by
  match l, h0, h1 with
  | a :: b :: r, h0, h1 => simp at h0 h1; subst h0; subst h1; rfl
theorem take3 {l : List UInt8} {x y z : UInt8} (h0 : l[0]? = some x) (h1 : l[1]? = some y) (h2 : l[2]? = some z) : l.take 3 = [x, y, z] := by
  match l, h0, h1, h2 with
  | a :: b :: c :: r, h0, h1, h2 => simp at h0 h1 h2; subst h0; subst h1; subst h2; rfl
theorem take4 {l : List UInt8} {x y z u : UInt8} (h0 : l[0]? = some x) (h1 : l[1]? = some y) (h2 : l[2]? = some z) (h3 : l[3]? = some u) : l.take 4 = [x, y, z, u] := by
  match l, h0, h1, h2, h3 with
  | a :: b :: c :: d :: r, h0, h1, h2, h3 => simp at h0 h1 h2 h3; subst h0; subst h1; subst h2; subst h3; rfl

theorem cnt_iff (l : List UInt8) (k : Nat) : cnt l k = true ↔ k < l.length ∧ 128 ≤ byt l k ∧ byt l k < 192 := by
  have := byt_lt l k
  unfold cnt
  simp only [Bool.and_eq_true, decide_eq_true_eq, beq_iff_eq]
  omega

theorem dl_low (l : List UInt8) (h : byt l 0 < 128) : dl l = (byt l 0, 1) := by
  unfold dl dlf; rw [if_pos h]

theorem dl_lead (l : List UInt8) (base sz : Nat) (hL : Lead (byt l 0) base sz) (h : dl l ≠ (0xFFFD, 1)) :
    (∀ j, 1 ≤ j → j < sz → cnt l j = true) ∧ dl l = (accn l (byt l 0 - base) sz, sz) := by
  revert h
  rcases hL with ⟨h1, h2, rfl, rfl⟩ | ⟨h1, h2, rfl, rfl⟩ | ⟨h1, h2, rfl, rfl⟩
  · have e0 : ¬ byt l 0 < 128 := by omega
    have e1 : (byt l 0 / 32 == 6) = true := by simp; omega
    have e2 : (byt l 0 / 16 == 14) = false := by simp; omega
    have e3 : (byt l 0 / 8 == 30) = false := by simp; omega
    unfold dl dlf
    rw [if_neg e0]
    simp only [e1, e2, e3, Bool.true_and, Bool.false_and]
    by_cases c1 : cnt l 1 = true
    · rw [if_pos c1]
      intro h
      by_cases c2 : byt l 0 % 32 * 64 + byt l 1 % 64 ≥ 128
      · rw [if_pos c2]
        refine ⟨fun j ha hb => ?_, ?_⟩
        · obtain rfl : j = 1 := by omega
          exact c1
        · exact Prod.ext (by show _ = accn l _ 2; rw [accn2]; omega) rfl
      · rw [if_neg c2] at h; exact absurd rfl h
    · rw [if_neg c1]
      intro h
      simp at h
  · have e0 : ¬ byt l 0 < 128 := by omega
    have e1 : (byt l 0 / 32 == 6) = false := by simp; omega
    have e2 : (byt l 0 / 16 == 14) = true := by simp; omega
    have e3 : (byt l 0 / 8 == 30) = false := by simp; omega
    unfold dl dlf
    rw [if_neg e0]
    simp only [e1, e2, e3, Bool.true_and, Bool.false_and]
    by_cases c1 : (cnt l 1 && cnt l 2) = true
    · rw [if_neg (by simp), if_pos c1]
      intro h
      split at h
      · rename_i c2
        rw [if_pos c2]
        refine ⟨fun j ha hb => ?_, ?_⟩
        · rw [Bool.and_eq_true] at c1
          obtain rfl | rfl : j = 1 ∨ j = 2 := by omega
          · exact c1.1
          · exact c1.2
        · exact Prod.ext (by show _ = accn l _ 3; rw [accn3]; omega) rfl
      · exact absurd rfl h
    · rw [if_neg (by simp), if_neg c1]
      intro h
      simp at h
  · have e0 : ¬ byt l 0 < 128 := by omega
    have e1 : (byt l 0 / 32 == 6) = false := by simp; omega
    have e2 : (byt l 0 / 16 == 14) = false := by simp; omega
    have e3 : (byt l 0 / 8 == 30) = true := by simp; omega
    unfold dl dlf
    rw [if_neg e0]
    simp only [e1, e2, e3, Bool.true_and, Bool.false_and]
    by_cases c1 : (cnt l 1 && cnt l 2 && cnt l 3) = true
    · rw [if_neg (by simp), if_neg (by simp), if_pos c1]
      intro h
      split at h
      · rename_i c2
        rw [if_pos c2]
        refine ⟨fun j ha hb => ?_, ?_⟩
        · rw [Bool.and_eq_true, Bool.and_eq_true] at c1
          obtain rfl | rfl | rfl : j = 1 ∨ j = 2 ∨ j = 3 := by omega
          · exact c1.1.1
          · exact c1.1.2
          · exact c1.2
        · exact Prod.ext (by show _ = accn l _ 4; rw [accn4]; omega) rfl
      · exact absurd rfl h
    · rw [if_neg (by simp), if_neg (by simp), if_neg c1]
      intro h
      simp at h

theorem dl_other (l : List UInt8) (h : (128 ≤ byt l 0 ∧ byt l 0 < 192) ∨ 248 ≤ byt l 0) : dl l = (0xFFFD, 1) := by
  have hb := byt_lt l 0
  have e0 : ¬ byt l 0 < 128 := by omega
  have e1 : (byt l 0 / 32 == 6) = false := by simp; omega
  have e2 : (byt l 0 / 16 == 14) = false := by simp; omega
  have e3 : (byt l 0 / 8 == 30) = false := by simp; omega
  unfold dl dlf
  rw [if_neg e0]
  simp [e1, e2, e3]

/-- The bytes of an encoding. -/
def enc (n : Int) : List UInt8 := (Utf8.encode n).data.toList
theorem byt_cons0 (a : UInt8) (l : List UInt8) : byt (a :: l) 0 = a.toNat := rfl
theorem byt_cons (a : UInt8) (l : List UInt8) (k : Nat) : byt (a :: l) (k + 1) = byt l k := by simp [byt]
theorem toNat_of (n : Nat) (h : n < 256) : (UInt8.ofNat n).toNat = n := by
  rw [UInt8.toNat_ofNat']; omega

theorem dl_enc (n : Int) (h : Utf8.valid n = true) (r : List UInt8) : dl (enc n ++ r) = (n.toNat, (enc n).length) := by
  have hr : (0 ≤ n ∧ n < 0xD800) ∨ (0xE000 ≤ n ∧ n ≤ 0x10FFFF) := by
    have h' := h
    unfold Utf8.valid at h'
    simpa using h'
  by_cases a : n < 128
  · have he : enc n = [UInt8.ofNat n.toNat] := by unfold enc; rw [enc1 n h (by omega) a]
    rw [he]
    rw [dl_low _ (by rw [List.singleton_append, byt_cons0, toNat_of _ (by omega)]; omega), List.singleton_append, byt_cons0, toNat_of _ (by omega)]
    rfl
  by_cases b : n < 2048
  · have he : enc n = [UInt8.ofNat (192 + n / 64).toNat, UInt8.ofNat (128 + n % 64).toNat] := by unfold enc; rw [enc2 n h (by omega) a b]
    have b0 : byt (enc n ++ r) 0 = (192 + n / 64).toNat := by rw [he]; show (UInt8.ofNat _).toNat = _; exact toNat_of _ (by omega)
    have b1 : byt (enc n ++ r) 1 = (128 + n % 64).toNat := by rw [he]; show (UInt8.ofNat _).toNat = _; exact toNat_of _ (by omega)
    have c1 : cnt (enc n ++ r) 1 = true := (cnt_iff _ _).2 ⟨by rw [he]; simp, by omega, by omega⟩
    unfold dl dlf
    rw [b0, b1, c1, if_neg (by omega), if_pos (by simp; omega), if_pos (by omega), he]
    simp; omega
  by_cases c : n < 65536
  · have he : enc n = [UInt8.ofNat (224 + n / 4096).toNat, UInt8.ofNat (128 + n / 64 % 64).toNat, UInt8.ofNat (128 + n % 64).toNat] := by unfold enc; rw [enc3 n h (by omega) a b c]
    have b0 : byt (enc n ++ r) 0 = (224 + n / 4096).toNat := by rw [he]; show (UInt8.ofNat _).toNat = _; exact toNat_of _ (by omega)
    have b1 : byt (enc n ++ r) 1 = (128 + n / 64 % 64).toNat := by rw [he]; show (UInt8.ofNat _).toNat = _; exact toNat_of _ (by omega)
    have b2 : byt (enc n ++ r) 2 = (128 + n % 64).toNat := by rw [he]; show (UInt8.ofNat _).toNat = _; exact toNat_of _ (by omega)
    have c1 : cnt (enc n ++ r) 1 = true := (cnt_iff _ _).2 ⟨by rw [he]; simp, by omega, by omega⟩
    have c2 : cnt (enc n ++ r) 2 = true := (cnt_iff _ _).2 ⟨by rw [he]; simp, by omega, by omega⟩
    have hn : (224 + n / 4096).toNat % 16 * 4096 + (128 + n / 64 % 64).toNat % 64 * 64 + (128 + n % 64).toNat % 64 = n.toNat := by omega
    unfold dl dlf
    rw [b0, b1, b2, c1, c2, hn, if_neg (by omega), if_neg (by simp; omega), if_pos (by simp; omega), if_pos (by rw [Int.toNat_of_nonneg (by omega), h]; simp; omega), he]
    rfl
  · have he : enc n = [UInt8.ofNat (240 + n / 262144).toNat, UInt8.ofNat (128 + n / 4096 % 64).toNat, UInt8.ofNat (128 + n / 64 % 64).toNat, UInt8.ofNat (128 + n % 64).toNat] := by unfold enc; rw [enc4 n h (by omega) c]
    have b0 : byt (enc n ++ r) 0 = (240 + n / 262144).toNat := by rw [he]; show (UInt8.ofNat _).toNat = _; exact toNat_of _ (by omega)
    have b1 : byt (enc n ++ r) 1 = (128 + n / 4096 % 64).toNat := by rw [he]; show (UInt8.ofNat _).toNat = _; exact toNat_of _ (by omega)
    have b2 : byt (enc n ++ r) 2 = (128 + n / 64 % 64).toNat := by rw [he]; show (UInt8.ofNat _).toNat = _; exact toNat_of _ (by omega)
    have b3 : byt (enc n ++ r) 3 = (128 + n % 64).toNat := by rw [he]; show (UInt8.ofNat _).toNat = _; exact toNat_of _ (by omega)
    have c1 : cnt (enc n ++ r) 1 = true := (cnt_iff _ _).2 ⟨by rw [he]; simp, by omega, by omega⟩
    have c2 : cnt (enc n ++ r) 2 = true := (cnt_iff _ _).2 ⟨by rw [he]; simp, by omega, by omega⟩
    have c3 : cnt (enc n ++ r) 3 = true := (cnt_iff _ _).2 ⟨by rw [he]; simp, by omega, by omega⟩
    have hn : (240 + n / 262144).toNat % 8 * 262144 + (128 + n / 4096 % 64).toNat % 64 * 4096 + (128 + n / 64 % 64).toNat % 64 * 64 + (128 + n % 64).toNat % 64 = n.toNat := by omega
    unfold dl dlf
    rw [b0, b1, b2, b3, c1, c2, c3, hn, if_neg (by omega), if_neg (by simp; omega), if_neg (by simp; omega), if_pos (by simp; omega), if_pos (by rw [Int.toNat_of_nonneg (by omega), h]; simp; omega), he]
    rfl

theorem enc_length (n : Int) : 1 ≤ (enc n).length ∧ (enc n).length ≤ 4 := by
  unfold enc Utf8.encode
  dsimp only
  repeat' split
  all_goals simp

/-- What is no replacement is its own encoding. -/
theorem get_ofNat {l : List UInt8} {k : Nat} (hk : k < l.length) : l[k]? = some (UInt8.ofNat (byt l k)) := by
  unfold byt
  rw [List.getElem?_eq_getElem hk]
  simp
theorem small2 (l : List UInt8) (h1 : 192 ≤ byt l 0) (h2 : byt l 0 < 224) (c1 : cnt l 1 = true) (hk : accn l (byt l 0 - 192) 2 < 128) : dl l = (0xFFFD, 1) := by
  rw [accn2] at hk
  unfold dl dlf
  rw [c1, if_neg (by omega), if_pos (by simp; omega), if_neg (by omega)]
theorem small3 (l : List UInt8) (h1 : 224 ≤ byt l 0) (h2 : byt l 0 < 240) (c1 : cnt l 1 = true) (c2 : cnt l 2 = true) (hk : accn l (byt l 0 - 224) 3 < 2048) : dl l = (0xFFFD, 1) := by
  rw [accn3] at hk
  unfold dl dlf
  rw [c1, c2, if_neg (by omega), if_neg (by simp; omega), if_pos (by simp; omega), if_neg (by simp only [Bool.and_eq_true, decide_eq_true_eq]; omega)]
theorem small4 (l : List UInt8) (h1 : 240 ≤ byt l 0) (h2 : byt l 0 < 248) (c1 : cnt l 1 = true) (c2 : cnt l 2 = true) (c3 : cnt l 3 = true) (hk : accn l (byt l 0 - 240) 4 < 65536) : dl l = (0xFFFD, 1) := by
  rw [accn4] at hk
  unfold dl dlf
  rw [c1, c2, c3, if_neg (by omega), if_neg (by simp; omega), if_neg (by simp; omega), if_pos (by simp; omega), if_neg (by simp only [Bool.and_eq_true, decide_eq_true_eq]; omega)]

theorem enc_of {n : Int} {a : Array UInt8} (h : Utf8.encode n = ⟨a⟩) : enc n = a.toList := by unfold enc; rw [h]
theorem ofs {a b : Nat} (h : a = b) : UInt8.ofNat a = UInt8.ofNat b := by rw [h]
theorem enc_dl1 (l : List UInt8) (hne : l ≠ []) (a : byt l 0 < 128) : enc (byt l 0 : Int) = l.take 1 := by
  have hv : Utf8.valid (byt l 0 : Int) = true := by unfold Utf8.valid; simp; omega
  refine (enc_of (enc1 _ hv (by omega) (by omega))).trans ?_
  rw [Int.toNat_natCast]
  have g0 := get_ofNat (List.length_pos_iff.2 hne)
  generalize byt l 0 = m at g0
  cases l with
  | nil => exact absurd rfl hne
  | cons x r => simp at g0; subst g0; rfl
theorem enc_dl2 (l : List UInt8) (m : Nat) (hv : Utf8.valid (m : Int) = true) (h0 : 0 < l.length) (c1 : 1 < l.length) (k0 : byt l 0 = 192 + m / 64) (k1 : byt l 1 = 128 + m % 64) (hk : ¬ m < 128) (hu : m < 2048) : enc (m : Int) = l.take 2 := by
  have e0 : (192 + (m : Int) / 64).toNat = byt l 0 := by omega
  have e1 : (128 + (m : Int) % 64).toNat = byt l 1 := by omega
  rw [take2 (get_ofNat h0) (get_ofNat c1), ← e0, ← e1]
  exact enc_of (enc2 _ hv (by omega) (by omega) (by omega))
theorem enc_dl3 (l : List UInt8) (m : Nat) (hv : Utf8.valid (m : Int) = true) (h0 : 0 < l.length) (c1 : 1 < l.length) (c2 : 2 < l.length) (k0 : byt l 0 = 224 + m / 4096) (k1 : byt l 1 = 128 + m / 64 % 64) (k2 : byt l 2 = 128 + m % 64) (hk : ¬ m < 2048) (hu : m < 65536) : enc (m : Int) = l.take 3 := by
  have e0 : (224 + (m : Int) / 4096).toNat = byt l 0 := by omega
  have e1 : (128 + (m : Int) / 64 % 64).toNat = byt l 1 := by omega
  have e2 : (128 + (m : Int) % 64).toNat = byt l 2 := by omega
  rw [take3 (get_ofNat h0) (get_ofNat c1) (get_ofNat c2), ← e0, ← e1, ← e2]
  exact enc_of (enc3 _ hv (by omega) (by omega) (by omega) (by omega))
theorem enc_dl4 (l : List UInt8) (m : Nat) (hv : Utf8.valid (m : Int) = true) (h0 : 0 < l.length) (c1 : 1 < l.length) (c2 : 2 < l.length) (c3 : 3 < l.length) (k0 : byt l 0 = 240 + m / 262144) (k1 : byt l 1 = 128 + m / 4096 % 64) (k2 : byt l 2 = 128 + m / 64 % 64) (k3 : byt l 3 = 128 + m % 64) (hk : ¬ m < 65536) : enc (m : Int) = l.take 4 := by
  have e0 : (240 + (m : Int) / 262144).toNat = byt l 0 := by omega
  have e1 : (128 + (m : Int) / 4096 % 64).toNat = byt l 1 := by omega
  have e2 : (128 + (m : Int) / 64 % 64).toNat = byt l 2 := by omega
  have e3 : (128 + (m : Int) % 64).toNat = byt l 3 := by omega
  rw [take4 (get_ofNat h0) (get_ofNat c1) (get_ofNat c2) (get_ofNat c3), ← e0, ← e1, ← e2, ← e3]
  exact enc_of (enc4 _ hv (by omega) (by omega))

theorem enc_dl (l : List UInt8) (hne : l ≠ []) (h : dl l ≠ (0xFFFD, 1)) : enc (dl l).1 = l.take (dl l).2 := by
  have hb := byt_lt l 0
  have h0 : 0 < l.length := List.length_pos_iff.2 hne
  by_cases a : byt l 0 < 128
  · rw [dl_low l a]
    exact enc_dl1 l hne a
  by_cases b : (128 ≤ byt l 0 ∧ byt l 0 < 192) ∨ 248 ≤ byt l 0
  · exact absurd (dl_other l b) h
  have hv := dl_valid l
  by_cases c : byt l 0 < 224
  · obtain ⟨hc, hd⟩ := dl_lead l 192 2 (.inl ⟨by omega, c, rfl, rfl⟩) h
    have c1 := (cnt_iff l 1).1 (hc 1 (by omega) (by omega))
    have hk : ¬ accn l (byt l 0 - 192) 2 < 128 := fun hk => h (small2 l (by omega) c (hc 1 (by omega) (by omega)) hk)
    rw [hd] at hv ⊢
    have hm := accn2 l (byt l 0 - 192)
    generalize accn l (byt l 0 - 192) 2 = m at *
    exact enc_dl2 l m hv h0 c1.1 (by omega) (by omega) hk (by omega)
  by_cases c' : byt l 0 < 240
  · obtain ⟨hc, hd⟩ := dl_lead l 224 3 (.inr (.inl ⟨by omega, c', rfl, rfl⟩)) h
    have c1 := (cnt_iff l 1).1 (hc 1 (by omega) (by omega))
    have c2 := (cnt_iff l 2).1 (hc 2 (by omega) (by omega))
    have hk : ¬ accn l (byt l 0 - 224) 3 < 2048 := fun hk => h (small3 l (by omega) c' (hc 1 (by omega) (by omega)) (hc 2 (by omega) (by omega)) hk)
    rw [hd] at hv ⊢
    have hm := accn3 l (byt l 0 - 224)
    generalize accn l (byt l 0 - 224) 3 = m at *
    exact enc_dl3 l m hv h0 c1.1 c2.1 (by omega) (by omega) (by omega) hk (by omega)
  · obtain ⟨hc, hd⟩ := dl_lead l 240 4 (.inr (.inr ⟨by omega, by omega, rfl, rfl⟩)) h
    have c1 := (cnt_iff l 1).1 (hc 1 (by omega) (by omega))
    have c2 := (cnt_iff l 2).1 (hc 2 (by omega) (by omega))
    have c3 := (cnt_iff l 3).1 (hc 3 (by omega) (by omega))
    have hk : ¬ accn l (byt l 0 - 240) 4 < 65536 := fun hk => h (small4 l (by omega) (by omega) (hc 1 (by omega) (by omega)) (hc 2 (by omega) (by omega)) (hc 3 (by omega) (by omega)) hk)
    rw [hd] at hv ⊢
    have hm := accn4 l (byt l 0 - 240)
    generalize accn l (byt l 0 - 240) 4 = m at *
    exact enc_dl4 l m hv h0 c1.1 c2.1 c3.1 (by omega) (by omega) (by omega) (by omega) hk
end Go.Proofs.YteofkofgdhmpjaaDoor
