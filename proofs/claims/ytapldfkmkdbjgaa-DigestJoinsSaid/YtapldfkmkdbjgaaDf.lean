/- Plain facts on texts of digests; Text (both). -/
import Derived.Test.YtapldfkmkdbjgaaDe
namespace Go.Proofs.Ytapldfkmkdbjgaa
open Go.RowKit
set_option linter.unusedVariables false

/-! ### The digits -/
def hexD (d : Int) : UInt8 := ([48, 49, 50, 51, 52, 53, 54, 55, 56, 57, 97, 98, 99, 100, 101, 102] : List UInt8).getD d.toNat 0
theorem hexAt (d : Int) (h : d.toNat < 16) : (⟨#[48, 49, 50, 51, 52, 53, 54, 55, 56, 57, 97, 98, 99, 100, 101, 102]⟩ : ByteArray)[d.toNat]'h = hexD d := by
  unfold hexD
  generalize d.toNat = k at h
  match k, h with
  | 0, _ => rfl
  | 1, _ => rfl
  | 2, _ => rfl
  | 3, _ => rfl
  | 4, _ => rfl
  | 5, _ => rfl
  | 6, _ => rfl
  | 7, _ => rfl
  | 8, _ => rfl
  | 9, _ => rfl
  | 10, _ => rfl
  | 11, _ => rfl
  | 12, _ => rfl
  | 13, _ => rfl
  | 14, _ => rfl
  | 15, _ => rfl
  | k + 16, h => exact absurd h (by omega)
/-- The digits of a number, the least significant one first. -/
def hexR : Nat → Int → List UInt8
  | 0, _ => []
  | k + 1, n => hexD (n % 16) :: hexR k (n / 16)
theorem hexR_length : ∀ (k : Nat) (n : Int), (hexR k n).length = k
  | 0, _ => rfl
  | k + 1, n => by simp [hexR, hexR_length k]
def tx (n : Int) : List UInt8 := (hexR 16 n).reverse
theorem tx_length (n : Int) : (tx n).length = 16 := by simp [tx, hexR_length]
theorem tx_list (n : Int) (h : Num n) : tx n = [hexD (n / 1152921504606846976 % 16), hexD (n / 72057594037927936 % 16), hexD (n / 4503599627370496 % 16), hexD (n / 281474976710656 % 16), hexD (n / 17592186044416 % 16), hexD (n / 1099511627776 % 16), hexD (n / 68719476736 % 16), hexD (n / 4294967296 % 16), hexD (n / 268435456 % 16), hexD (n / 16777216 % 16), hexD (n / 1048576 % 16), hexD (n / 65536 % 16), hexD (n / 4096 % 16), hexD (n / 256 % 16), hexD (n / 16 % 16), hexD (n % 16)] := by
  obtain ⟨h0, h1⟩ := h
  have s1 (a m : Int) (hm : 0 ≤ m) : n / m / 16 = n / (m * 16) := Int.ediv_ediv_of_nonneg hm
  simp only [tx, hexR]
  rw [s1 16 (16) (by omega)]
  simp only [List.reverse_cons, List.reverse_nil, List.nil_append, List.cons_append]
  repeat (rw [s1 0 _ (by omega)])
  rfl
theorem and15 (x : Int) : bits .and .u64 x 15 = x % 16 := by
  show IntKind.u64.wrap ((BitVec.ofInt 64 x &&& BitVec.ofInt 64 15).toNat : Int) = _
  rw [IntKind.wrap_u64, BitVec.toNat_and, BitVec.toNat_ofInt]
  rw [show (BitVec.ofInt 64 15).toNat = 2 ^ 4 - 1 from by decide, Nat.and_two_pow_sub_one_eq_mod]
  omega
section
variable {P : Program}
/-- New bytes, whatever their block's own type, turned into a string. -/
theorem conv_new {S D e T : TypeId} (hs : P.underlying S = some (.slice e)) (he : P.underlying e = some (.int .u8)) (hd : P.underlying D = some .string) (w : World) (xs : List Int) (c : Nat) :
    (convert S D (.slice (some ⟨w.heap.size, 0, none⟩) xs.length c)).run P (w.alloc (.cells (xs.map (Value.int .u8)).toArray T)) =
      .ok (.string ⟨(xs.map fun n => UInt8.ofNat n.toNat).toArray⟩) (w.alloc (.cells (xs.map (Value.int .u8)).toArray T)) := by
  have h := run_convert_bytes_arg (P := P) (w.alloc (.cells (xs.map (Value.int .u8)).toArray T)) S e hs he w.heap.size 0 xs.length c xs rfl (fun i hi => by
    rw [World.cell?_alloc_mark, Nat.zero_add]
    simp [List.getD, List.getElem?_eq_getElem hi]) D hd
  exact h
theorem conv_new1 {S D e T : TypeId} (hs : P.underlying S = some (.slice e)) (he : P.underlying e = some (.int .u8)) (hd : P.underlying D = some .string) (w : World) (b : UInt8) :
    (convert S D (.slice (some ⟨w.heap.size, 0, none⟩) 1 1)).run P (w.alloc (.cells #[.int .u8 (b.toNat : Int)] T)) = .ok (.string ⟨#[b]⟩) (w.alloc (.cells #[.int .u8 (b.toNat : Int)] T)) := by
  have h := conv_new (P := P) (T := T) hs he hd w [(b.toNat : Int)] 1
  simpa using h
theorem conv_new16 {S D e T : TypeId} (hs : P.underlying S = some (.slice e)) (he : P.underlying e = some (.int .u8)) (hd : P.underlying D = some .string) (w : World) (b0 b1 b2 b3 b4 b5 b6 b7 b8 b9 ba bb bc bd be bf : UInt8) :
    (convert S D (.slice (some ⟨w.heap.size, 0, none⟩) 16 16)).run P (w.alloc (.cells #[.int .u8 (b0.toNat : Int), .int .u8 (b1.toNat : Int), .int .u8 (b2.toNat : Int), .int .u8 (b3.toNat : Int), .int .u8 (b4.toNat : Int), .int .u8 (b5.toNat : Int), .int .u8 (b6.toNat : Int), .int .u8 (b7.toNat : Int), .int .u8 (b8.toNat : Int), .int .u8 (b9.toNat : Int), .int .u8 (ba.toNat : Int), .int .u8 (bb.toNat : Int), .int .u8 (bc.toNat : Int), .int .u8 (bd.toNat : Int), .int .u8 (be.toNat : Int), .int .u8 (bf.toNat : Int)] T)) = .ok (.string ⟨#[b0, b1, b2, b3, b4, b5, b6, b7, b8, b9, ba, bb, bc, bd, be, bf]⟩) (w.alloc (.cells #[.int .u8 (b0.toNat : Int), .int .u8 (b1.toNat : Int), .int .u8 (b2.toNat : Int), .int .u8 (b3.toNat : Int), .int .u8 (b4.toNat : Int), .int .u8 (b5.toNat : Int), .int .u8 (b6.toNat : Int), .int .u8 (b7.toNat : Int), .int .u8 (b8.toNat : Int), .int .u8 (b9.toNat : Int), .int .u8 (ba.toNat : Int), .int .u8 (bb.toNat : Int), .int .u8 (bc.toNat : Int), .int .u8 (bd.toNat : Int), .int .u8 (be.toNat : Int), .int .u8 (bf.toNat : Int)] T)) := by
  have h := conv_new (P := P) (T := T) hs he hd w [(b0.toNat : Int), (b1.toNat : Int), (b2.toNat : Int), (b3.toNat : Int), (b4.toNat : Int), (b5.toNat : Int), (b6.toNat : Int), (b7.toNat : Int), (b8.toNat : Int), (b9.toNat : Int), (ba.toNat : Int), (bb.toNat : Int), (bc.toNat : Int), (bd.toNat : Int), (be.toNat : Int), (bf.toNat : Int)] 16
  simpa using h
end
def StrPost (w : World) (l : List UInt8) (e : Ending) (w' : World) : Prop := ∃ b : ByteArray, e = .returned (.string b) ∧ b.data.toList = l ∧ Below w.heap.size w w'

set_option maxRecDepth 1000000 in
set_option maxHeartbeats 400000 in
theorem text_any (n : Int) (w : World) (hn : Num n) :
    Calls Try.prog 15 #[.int .u64 n] w (StrPost w (tx n)) := by
  have k16 := fun T w b0 b1 b2 b3 b4 b5 b6 b7 b8 b9 ba bb bc bd be bf => conv_new16 (P := Try.prog) (T := T) Try.underlying23 Try.underlying5 Try.underlying9 w b0 b1 b2 b3 b4 b5 b6 b7 b8 b9 ba bb bc bd be bf
  have Hn := Lib.hid hn
  obtain ⟨h0, h1⟩ := hn
  have ha := and15
  go_enter Try.func15, Try.ntmps15
  go_wp2
  refine wp_loop_rounds 17 ?_
  iterate 16 (rw [rounds_succ]; go_wp2)
  rw [rounds_succ]
  go_wp2
  go_ret
  refine ⟨_, rfl, ?_, (Below.refl _ _).alloc (Nat.le_refl _) _⟩
  rw [tx_list n Hn.out]
  simp only [hexAt]

def TextRel (n : Int) (w : World) (v0 v3 v4 : Value) (wr : World) : Prop :=
  ∃ (k : Nat) (m : Int) (pre : List UInt8) (s : ByteArray), k ≤ 16 ∧ v4 = .int .i64 k ∧ v0 = .int .u64 m ∧ Num m ∧ hexR 16 n = pre ++ hexR (16 - k) m ∧ v3 = .string s ∧ s.data.toList = pre.reverse ∧ s.size = k ∧ Below w.heap.size w wr
theorem data_app (a b : ByteArray) : (a ++ b).data.toList = a.data.toList ++ b.data.toList := by simp
theorem text_step {n m : Int} {w wr : World} {k : Nat} {pre : List UInt8} {s : ByteArray} (hk : k < 16) (hm : Num m) (he : hexR 16 n = pre ++ hexR (16 - k) m) (hs : s.data.toList = pre.reverse) (hz : s.size = k) (hB : Below w.heap.size w wr) (o : Obj) (d : UInt8) (hd : d = hexD (m % 16)) :
    TextRel n w (.int .u64 (m / 16)) (.string (⟨#[d]⟩ ++ s)) (.int .i64 (k + 1)) (wr.alloc o) := by
  obtain ⟨h0, h1⟩ := hm
  obtain ⟨j, hj⟩ : ∃ j, 16 - k = j + 1 := ⟨15 - k, by omega⟩
  rw [hj] at he
  refine ⟨k + 1, m / 16, pre ++ [hexD (m % 16)], _, by omega, by go_num, rfl, ⟨by omega, by omega⟩, ?_, rfl, ?_, ?_, hB.alloc hB.size o⟩
  · rw [he, show 16 - (k + 1) = j from by omega]; simp [hexR]
  · rw [data_app, hs, hd]; simp
  · rw [ByteArray.size_append, hz]; show 1 + k = k + 1; omega

set_option maxRecDepth 1000000 in
set_option maxHeartbeats 400000 in
theorem refText_any (n : Int) (w : World) (hn : Num n) :
    Calls Try.prog 16 #[.int .u64 n] w (StrPost w (tx n)) := by
  have k1 := fun T w b => conv_new1 (P := Try.prog) (T := T) Try.underlying23 Try.underlying5 Try.underlying9 w b
  have Hn := Lib.hid hn; clear hn
  go_enter Try.func16, Try.ntmps16
  go_wp2
  go_loopw [0, 3, 4] (fun v0 v3 v4 wr => TextRel n w v0 v3 v4 wr) (fun _ _ i _ => 16 - (intOf i).toNat)
  case atStart => exact ⟨0, n, [], _, by omega, rfl, rfl, Hn.out, rfl, rfl, rfl, rfl, Below.refl _ _⟩
  case round =>
    obtain ⟨k, m, pre, s, hk, rfl, rfl, hm, he, rfl, hs, hz, hB⟩ := hrel
    have Hm := Lib.hid hm
    obtain ⟨m0, m1⟩ := hm
    have He := Lib.hid he; clear he
    have Hs := Lib.hid hs; clear hs
    have HB := Lib.hid hB; clear hB
    have hz2 : s.size ≤ 16 := by omega
    have Hz := Lib.hid hz; clear hz
    by_cases hlt : k < 16
    · have hd1 : 0 ≤ m % 16 := by omega
      have hd2 : m % 16 < 16 := by omega
      go_wp2
      go_roundw
      case rel => exact text_step hlt Hm.out He.out Hs.out Hz.out HB.out _ _ (hexAt _ _)
      case measure => simp [intOf]; omega
    · obtain rfl : k = 16 := by omega
      go_wp2
      go_ret
      have h8 := He.out
      rw [show hexR (16 - 16) m = [] from rfl, List.append_nil] at h8
      exact ⟨_, rfl, by rw [Hs.out, tx, h8], HB.out⟩
end Go.Proofs.Ytapldfkmkdbjgaa
