/- awake. -/
import Derived.Test.YtbcpeoomkhcgnaaTi
import Derived.Test.YtbcpeoomkhcgnaaTl
namespace Go.Proofs.Ytbcpeoomkhcgnaa
open Go.RowKit
set_option linter.unusedVariables false

def exA : List Str := [[97], [98], [99]]
def exB : List Str := [[98], [99], [100]]
theorem ex_tr : (tr exA exB 3 3).reverse.length = 4 := by
  have f1 : ∀ q, 3 = q + 1 → ∀ (hi : q < exA.length) (hj : 2 < exB.length), D exA exB (q + 1) (2 + 1) ≠ D exA exB q 2 + prc exA[q] exB[2] := by
    intro q h hi hj
    obtain rfl : q = 2 := by omega
    show D exA exB 3 3 ≠ D exA exB 2 2 + prc [99] [100]
    decide +kernel
  have f2 : ∀ q, 3 = q + 1 → D exA exB (q + 1) (2 + 1) ≠ D exA exB q (2 + 1) + 1 := by
    intro q h
    obtain rfl : q = 2 := by omega
    decide +kernel
  have e1 : tr exA exB 3 3 = (-1, 2) :: tr exA exB 3 2 := tr_ins (i := 3) (j := 2) f1 f2
  have e2 : tr exA exB 3 2 = (2, 1) :: tr exA exB 2 1 := tr_pair (i := 2) (j := 1) (by decide) (by decide) (by decide +kernel)
  have e3 : tr exA exB 2 1 = (1, 0) :: tr exA exB 1 0 := tr_pair (i := 1) (j := 0) (by decide) (by decide) (by decide +kernel)
  have e4 : tr exA exB 1 0 = (0, -1) :: tr exA exB 0 0 := tr_del (i := 0) (j := 0) (fun q h => by omega) (by decide +kernel)
  rw [List.length_reverse, e1, e2, e3, e4, tr_zero]
  rfl
def txA : ByteArray := ⟨#[115, 97, 118, 101, 32, 123, 110, 125, 32, 102, 105, 108, 101, 115, 33]⟩
def txB : ByteArray := ⟨#[111, 112, 101, 110, 32, 116, 104, 101, 32, 102, 105, 108, 101]⟩
def txC : ByteArray := ⟨#[111, 112, 101, 110, 32, 97, 32, 102, 105, 108, 101]⟩
theorem ex_w : (words txA.data.toList).length = 6 := by decide +kernel
theorem ex_b : (words txB.data.toList).length = 3 := by decide +kernel
theorem ex_c : (words txC.data.toList).length = 3 := by decide +kernel
theorem ex_s : sim (words txB.data.toList) (words txC.data.toList) = 666 := by decide +kernel
theorem ex_l : lev exA exB = 2 := by decide +kernel
def AwPost (w : World) (e : Ending) (w' : World) : Prop := e = .returned (.bool true) ∧ Below w.heap.size w w'
set_option maxRecDepth 1000000 in
set_option maxHeartbeats 2000000 in
theorem awake_any (w : World) : Calls Try.prog 10 #[] w (AwPost w) := by
  go_enter Try.func10, Try.ntmps10
  go_wp2_with fail
  have R1 := (rd3 w [97] [98] [99]).alloc (.cells #[.string (ofL [98]), .string (ofL [99]), .string (ofL [100])] 9)
  have R2 := rd3 (w.alloc (.cells #[.string (ofL [97]), .string (ofL [98]), .string (ofL [99])] 9)) [98] [99] [100]
  rw [World.size_alloc] at R2
  have B0 : Below w.heap.size w ((w.alloc (.cells #[.string (ofL [97]), .string (ofL [98]), .string (ofL [99])] 9)).alloc (.cells #[.string (ofL [98]), .string (ofL [99]), .string (ofL [100])] 9)) := ((Below.refl _ w).alloc (Nat.le_refl _) _).alloc (by simp) _
  refine (distance_any _ _ exA exB _ R1 R2 (by decide) (by decide)).mono ?_
  rintro e w1 ⟨rfl, b1⟩
  rw [ex_l]
  have R3 := Lib.hid (R1.below b1)
  have R4 := Lib.hid (R2.below b1)
  have HB1 := Lib.hid (st B0 b1 B0.size)
  have z1 := HB1.out.size
  clear R1 R2 b1 B0
  go_wp2_with fail
  refine (align_any _ _ exA exB _ R3.out R4.out (by decide) (by decide)).mono ?_
  rintro e w2 ⟨⟨v, rfl, ov⟩, b2⟩
  obtain ⟨av, cv, hv⟩ := ov.slice
  rw [show (tr exA exB exA.length exB.length).reverse.length = 4 from ex_tr] at hv
  subst hv
  have HB2 := Lib.hid (st HB1.out b2 z1)
  have z2 := HB2.out.size
  clear ov b2 HB1 z1 R3 R4
  go_wp2_with fail
  refine (words_any txA (by decide) _).mono ?_
  rintro e w3 ⟨⟨v, rfl, ov⟩, b3⟩
  obtain ⟨av3, cv3, hv⟩ := ov.slice
  rw [ex_w] at hv
  subst hv
  have HB3 := Lib.hid (st HB2.out b3 z2)
  have z3 := HB3.out.size
  clear ov b3 HB2 z2
  go_wp2_with fail
  refine (words_any txB (by decide) _).mono ?_
  rintro e w4 ⟨⟨v, rfl, ov⟩, b4⟩
  obtain ⟨av4, cv4, hv⟩ := ov.slice
  rw [ex_b] at hv
  subst hv
  have HB4 := Lib.hid (st HB3.out b4 z3)
  have z4 := HB4.out.size
  have RB := Lib.hid (ov.rd encT_len)
  clear ov b4 HB3 z3
  go_wp2_with fail
  refine (words_any txC (by decide) _).mono ?_
  rintro e w5 ⟨⟨v, rfl, ov⟩, b5⟩
  obtain ⟨av5, cv5, hv⟩ := ov.slice
  rw [ex_c] at hv
  subst hv
  have HB5 := Lib.hid (st HB4.out b5 z4)
  have z5 := HB5.out.size
  have RB5 := Lib.hid (RB.out.below b5)
  have RC := Lib.hid (ov.rd encT_len)
  clear ov b5 HB4 z4 RB
  go_wp2_with fail
  refine (similar_any _ _ (words txB.data.toList) (words txC.data.toList) _ RB5.out RC.out (by rw [ex_b]; omega) (by rw [ex_c]; omega)).mono ?_
  rintro e w6 ⟨rfl, b6⟩
  rw [ex_s]
  have HB6 := Lib.hid (st HB5.out b6 z5)
  clear b6
  go_wp2
  go_ret
  exact ⟨rfl, HB6.out⟩
end Go.Proofs.Ytbcpeoomkhcgnaa
