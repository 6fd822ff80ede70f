/- awake: the examples of the document. -/
import Derived.Test.YtndicgjlmhnkbaaUj
import Derived.Test.YtndicgjlmhnkbaaUh
namespace Go.Proofs.Ytndicgjlmhnkbaa
open Go.RowKit
set_option linter.unusedVariables false

theorem at_any (s : ByteArray) (hs : s.size ≤ 281474976710656 / 64) (off : Int) (w : World) :
    Calls Try.prog 21 #[.string s, .int .i64 off] w fun e w' => e = .returned (atV (findP (bnds s.data.toList ⟨0, 1, 1⟩) off)) ∧ Below w.heap.size w w' :=
  callsIn_wide.1 (at_in Fence.wide 4 trivial trivial trivial rfl (by omega) s hs off w)

theorem Blk.below {B n : Nat} {t : TypeId} {cs : Array Value} {W W' : World} (h : Blk B t cs W) (hb : Below n W W') (hB : B < n) : Blk B t cs W' := (hb.block B hB).trans h
theorem aw1 : atV (findP (bnds (ByteArray.mk #[97, 98, 10, 99, 100]).data.toList ⟨0, 1, 1⟩) 4) = .tuple #[.agg #[.int .i64 4, .int .i64 2, .int .i64 2], .int .i64 0] := by kernel_rfl
theorem aw2 : elI (ByteArray.mk #[97, 195, 164, 255]).data.toList = [97, 228, 65533] := by kernel_rfl
theorem rdI_lit (w : World) (a b c : Int) : RdI (w.alloc (.cells #[.int .i64 a, .int .i64 b, .int .i64 c] 3)) (.slice (some ⟨w.heap.size, 0, none⟩) 3 3) [a, b, c] := by
  have k := Blk.new w 3 #[.int .i64 a, .int .i64 b, .int .i64 c]
  refine ⟨by simp, ⟨_, 3, rfl, fun _ => ⟨w.heap.size, 0, rfl, k.lt, fun i hi => ?_⟩⟩, fun n c hc => by injection hc with h1 _ _; cases h1⟩
  simp only [List.length_cons, List.length_nil] at hi
  obtain rfl | rfl | rfl : i = 0 ∨ i = 1 ∨ i = 2 := by omega
  · exact (k.cell 0).trans rfl
  · exact (k.cell 1).trans rfl
  · exact (k.cell 2).trans rfl

def AwPost (w : World) (e : Ending) (w' : World) : Prop := e = .returned (.bool true) ∧ Below w.heap.size w w'
set_option maxRecDepth 100000 in
set_option maxHeartbeats 1000000 in
theorem awake_any (w : World) : Calls Try.prog 11 #[] w (AwPost w) := by
  go_enter Try.func11, Try.ntmps11
  go_wp2_with fail
  refine (at_any _ (by decide) 4 _).mono ?_
  rintro e w1 ⟨he, hb1⟩
  rw [aw1] at he
  subst he
  go_wp2_with fail
  have k := Blk.new w1 33 #[.int .i64 4, .int .i64 2, .int .i64 2]
  have hz1 := hb1.size
  refine (decode_any _ _ (by decide)).mono ?_
  rintro e w2 ⟨v, rfl, hv, hb2⟩
  rw [aw2] at hv
  have k2 := k.below hb2 k.lt
  have hz2 := k2.lt
  have Hv := Lib.hid hv; clear hv k
  go_wp2_with fail
  refine (same_yes v _ [97, 228, 65533] _ (Hv.out.alloc _) (rdI_lit w2 97 228 65533)).mono ?_
  rintro e w3 ⟨rfl, n, rfl⟩
  have c0 : (w2.alloc (.cells #[.int .i64 97, .int .i64 228, .int .i64 65533] 3)).cell? ⟨w1.heap.size, 0, none⟩ = some (.int .i64 4) := (k2.alloc _).cell 0
  have c1 : (w2.alloc (.cells #[.int .i64 97, .int .i64 228, .int .i64 65533] 3)).cell? ⟨w1.heap.size, 1, none⟩ = some (.int .i64 2) := (k2.alloc _).cell 1
  have c2 : (w2.alloc (.cells #[.int .i64 97, .int .i64 228, .int .i64 65533] 3)).cell? ⟨w1.heap.size, 2, none⟩ = some (.int .i64 2) := (k2.alloc _).cell 2
  have K2 := Lib.hid k2; clear k2
  go_wp2
  go_ret
  exact ⟨rfl, below_drewN ((hb1.trans (((Below.refl _ w1).alloc hz1 _).trans (hb2.mono (by simp; omega)))).alloc (by omega) _) _⟩
end Go.Proofs.Ytndicgjlmhnkbaa
