/- table. -/
import Derived.Test.YtcnjomkddbbopaaMz
import Derived.IntWalk
namespace Go.Proofs.Ytcnjomkddbbopaa
open Go.RowKit
set_option linter.unusedVariables false

theorem Try.infoI32 : (Try.prog.info? 21).map (fun i => (i.zero, i.size, i.bytes)) = some (some (.int .i32 0), 1, 4) := by kernel_rfl
theorem Try.infoRow : (Try.prog.info? 79).map (fun i => (i.zero, i.size, i.bytes)) = some (some (.slice none 0 0), 1, 24) := by kernel_rfl
theorem make_at {P : Program} (t e : TypeId) (z : Value) (by_ : Nat) (ht : P.underlying t = some (.slice e)) (hi : (P.info? e).map (fun i => (i.zero, i.size, i.bytes)) = some (some z, 1, by_)) (hb : by_ ≤ 64) (n : Nat) (hn : n ≤ 10000000) (w : World) :
    (Instr.makeSlice t (.int .i64 (n : Int)) (.int .i64 (n : Int))).run P w = .ok (.slice (some ⟨w.heap.size, 0, none⟩) n n) (w.alloc (.cells (madeCells z.cells n) e)) := by
  obtain ⟨i0, h1, h2, h3, h4⟩ := info_parts hi
  have hbb : (i0.bytes : Int) * (n : Int) ≤ 281474976710656 := by
    rw [h4]
    have := Nat.mul_le_mul hb hn
    have e : ((by_ : Int) * (n : Int)) = ((by_ * n : Nat) : Int) := by simp
    rw [e]
    omega
  have := run_makeSlice (P := P) (w := w) t e i0 z ht h1 h2 .i64 .i64 (n : Int) (n : Int) (by omega) (Int.le_refl _) (by rw [h3]; simp; omega) hbb (by omega)
  rw [h3] at this
  simpa using this
theorem made_get (z : Value) (n i : Nat) (h : i < n) : (madeCells #[z] n)[i]? = some z := by
  rw [← Array.getElem?_toList, toList_madeCells_one, List.getElem?_replicate, if_pos h]
theorem wrap64_nat {n : Nat} (h : n ≤ 10000000) : wrap64 (n : Int) = (n : Int) := by unfold wrap64; omega
set_option maxRecDepth 1000000 in
set_option maxHeartbeats 1000000 in
theorem table_any (h wd : Nat) (hh : h ≤ 3000) (hw0 : 1 ≤ wd) (hw : wd ≤ 1001) (w : World) :
    Calls Try.prog 38 #[.int .i64 h, .int .i64 wd] w fun e w' => e = .returned (.slice (some ⟨w.heap.size + 1, 0, none⟩) h h) ∧ Grid w.heap.size h wd (fun _ _ => 0) w' ∧ Hd (w.heap.size + 1) h wd w.heap.size w' ∧ Below w.heap.size w w' := by
  obtain ⟨N, hN⟩ : ∃ N, h * wd = N := ⟨_, rfl⟩
  have hN1 := Nat.mul_le_mul hh hw
  rw [hN] at hN1
  have hNi : (h : Int) * (wd : Int) = (N : Int) := by rw [← hN]; simp
  have hN3 : N ≤ 10000000 := by omega
  have HN1 := Lib.hid hN1
  have HN := Lib.hid hN
  clear hN1 hN
  have m1 := fun wx => make_at (P := Try.prog) 79 21 _ _ rfl Try.infoI32 (by omega) N (by have := HN1.out; omega) wx
  have m2 := fun wx => make_at (P := Try.prog) 76 79 _ _ rfl Try.infoRow (by omega) h (by omega) wx
  go_enter Try.func38, Try.ntmps38
  go_wp2
  obtain ⟨W0, hW0⟩ : ∃ W0, (w.alloc (.cells (madeCells #[.int .i32 0] N) 21)).alloc (.cells (madeCells #[.slice none 0 0] h) 79) = W0 := ⟨_, rfl⟩
  have k1 : Blk w.heap.size 21 (madeCells #[.int .i32 0] N) W0 := by rw [← hW0]; exact (Blk.new w _ _).alloc _
  have k2 : Blk (w.heap.size + 1) 79 (madeCells #[.slice none 0 0] h) W0 := by
    rw [← hW0]
    have := Blk.new (w.alloc (.cells (madeCells #[.int .i32 0] N) 21)) 79 (madeCells #[.slice none 0 0] h)
    rw [World.size_alloc] at this
    exact this
  have kb : Below w.heap.size w W0 := by rw [← hW0]; exact ((Below.refl _ w).alloc (Nat.le_refl _) _).alloc (by simp) _
  rw [hW0]
  clear m1 m2 hW0
  go_loopw [7, 16] (fun _ i wr => ∃ k : Nat, k ≤ h ∧ i = .int .i64 k ∧ (∃ cs, Blk (w.heap.size + 1) 79 cs wr ∧ cs.size = h ∧ ∀ j, j < k → cs[j]? = some (.slice (some ⟨w.heap.size, j * wd, none⟩) wd wd)) ∧ Blk w.heap.size 21 (madeCells #[.int .i32 0] N) wr ∧ Below w.heap.size w wr) (fun _ i _ => h - (intOf i).toNat)
  case atStart => exact ⟨0, Nat.zero_le _, rfl, ⟨_, k2, by simp [size_madeCells], fun j hj => absurd hj (Nat.not_lt_zero _)⟩, k1, kb⟩
  case round =>
    obtain ⟨k, hk, rfl, ⟨cs, hcs, hsz, hrow⟩, hz, hb⟩ := hrel
    have HZ := Lib.hid hz
    have HB := Lib.hid hb
    have HRow := Lib.hid hrow
    have HCs := Lib.hid hcs
    by_cases hlt : k < h
    · have hlt' : (k : Int) < (h : Int) := by omega
      obtain ⟨a, ha⟩ : ∃ a, k * wd = a := ⟨_, rfl⟩
      have ha2 : a + wd ≤ N := by
        have := Nat.mul_le_mul_right wd (show k + 1 ≤ h by omega)
        rw [Nat.add_mul, ha, HN.out] at this
        omega
      have e1 : (k : Int) * (wd : Int) = (a : Int) := by rw [← ha]; simp
      have e2 : ((k : Int) + 1) * (wd : Int) = ((a + wd : Nat) : Int) := by rw [Int.add_mul, e1]; simp
      have hb1 : a ≤ 10000000 := by have := HN1.out; omega
      have hb2 : a + wd ≤ 10000000 := by have := HN1.out; omega
      have c0 : ∃ u, wr.cell? ⟨w.heap.size + 1, k, none⟩ = some u := by rw [hcs.cell]; exact ⟨_, Array.getElem?_eq_getElem (by omega)⟩
      obtain ⟨u, c0⟩ := c0
      have f0 := hcs.frozen k
      have g1 : ¬ a + wd = a := by omega
      have g2 : a + wd - a = wd := by omega
      have HA := Lib.hid ha
      clear hz hb hrow hcs ha k1 k2 kb
      go_wp2
      refine ⟨⟨k + 1, by omega, by simp, ⟨_, HCs.out.put _ _, by simp [hsz], fun j hj => ?_⟩, HZ.out.far (p := ⟨w.heap.size + 1, k, none⟩) (show w.heap.size ≠ w.heap.size + 1 by omega) _, HB.out.setCell (p := ⟨w.heap.size + 1, k, none⟩) (show w.heap.size ≤ w.heap.size + 1 by omega) _⟩, by simp [intOf]; omega⟩
      rw [Array.getElem?_setIfInBounds]
      by_cases e : k = j
      · subst e
        rw [if_pos rfl, if_pos (by omega), ← HA.out]
      · rw [if_neg e]
        exact HRow.out j (by omega)
    · have hlt' : ¬ (k : Int) < (h : Int) := by omega
      obtain rfl : k = h := by omega
      clear hz hb hrow hcs k1 k2 kb
      go_wp2
      go_ret
      refine ⟨rfl, ⟨_, HZ.out, fun i j hi hj => ?_⟩, ⟨_, HCs.out, fun i hi => HRow.out i hi⟩, HB.out⟩
      refine made_get _ N _ ?_
      have := Nat.mul_le_mul_right wd (show i + 1 ≤ k by omega)
      rw [Nat.add_mul, HN.out] at this
      omega
end Go.Proofs.Ytcnjomkddbbopaa
