/- The reference's table. -/
import Derived.Test.YtbcpeoomkhcgnaaTm
import Derived.StillTailTactics
import Derived.IntWalk
namespace Go.Proofs.Ytbcpeoomkhcgnaa
open Go.RowKit
set_option linter.unusedVariables false

/-- The rows up to a number, a block each. -/
def Rws (T : Nat) (a b : List Str) (q : Nat) (w : World) : Prop := ∃ cs, Blk T 50 cs w ∧ cs.size = a.length + 1 ∧ ∀ x, x < q → ∃ r, r ≠ T ∧ cs[x]? = some (.slice (some ⟨r, 0, none⟩) (b.length + 1) (b.length + 1)) ∧ ∃ ds, Blk r 3 ds w ∧ ∀ y, y ≤ b.length → ds[y]? = some (.int .i64 (D a b x y : Int))
theorem Rws.below {T q : Nat} {a b : List Str} {w w' : World} (h : Rws T a b q w) (hb : Below w.heap.size w w') : Rws T a b q w' := by
  obtain ⟨cs, h1, h2, h3⟩ := h
  refine ⟨cs, h1.below hb, h2, fun x hx => ?_⟩
  obtain ⟨r, e1, e2, ds, e3, e4⟩ := h3 x hx
  exact ⟨r, e1, e2, ds, e3.below hb, e4⟩
theorem Rws.at_ {T q : Nat} {a b : List Str} {w : World} (h : Rws T a b q w) (x : Nat) (hx : x < q) : ∃ r, w.cell? ⟨T, x, none⟩ = some (.slice (some ⟨r, 0, none⟩) (b.length + 1) (b.length + 1)) ∧ ∀ y, y ≤ b.length → w.cell? ⟨r, y, none⟩ = some (.int .i64 (D a b x y : Int)) := by
  obtain ⟨cs, h1, h2, h3⟩ := h
  obtain ⟨r, e1, e2, ds, e3, e4⟩ := h3 x hx
  exact ⟨r, by rw [h1.cell]; exact e2, fun y hy => by rw [e3.cell]; exact e4 y hy⟩
theorem Rws.mid {T i : Nat} {a b : List Str} {wr wx : World} {o : Obj} {v : Value} (h : Rws T a b i wr) (hi : i ≤ a.length) (hb : But wr.heap.size ((wr.setCell ⟨T, i, none⟩ v).alloc o) wx) :
    ∃ cs, Blk T 50 cs wx ∧ cs.size = a.length + 1 ∧ cs[i]? = some v ∧ ∀ x, x < i → ∃ r, r ≠ T ∧ r ≠ wr.heap.size ∧ cs[x]? = some (.slice (some ⟨r, 0, none⟩) (b.length + 1) (b.length + 1)) ∧ ∃ ds, Blk r 3 ds wx ∧ ∀ y, y ≤ b.length → ds[y]? = some (.int .i64 (D a b x y : Int)) := by
  obtain ⟨cs, h1, h2, h3⟩ := h
  have hlt := h1.lt
  refine ⟨_, ((h1.put i v).alloc o).but hb (by omega), by simp [h2], by rw [Array.getElem?_setIfInBounds, if_pos rfl, if_pos (by omega)], fun x hx => ?_⟩
  obtain ⟨r, e1, e2, ds, e3, e4⟩ := h3 x hx
  have := e3.lt
  refine ⟨r, e1, by omega, ?_, ds, ((e3.far (p := ⟨T, i, none⟩) e1 v).alloc o).but hb (by omega), e4⟩
  rw [Array.getElem?_setIfInBounds, if_neg (by omega)]
  exact e2

theorem rws_close {T N i : Nat} {a b : List Str} {wx : World} {ds : Array Value} (hT : N ≠ T) (hi : i ≤ a.length)
    (h : ∃ cs, Blk T 50 cs wx ∧ cs.size = a.length + 1 ∧ cs[i]? = some (.slice (some ⟨N, 0, none⟩) (b.length + 1) (b.length + 1)) ∧ ∀ x, x < i → ∃ r, r ≠ T ∧ r ≠ N ∧ cs[x]? = some (.slice (some ⟨r, 0, none⟩) (b.length + 1) (b.length + 1)) ∧ ∃ ds, Blk r 3 ds wx ∧ ∀ y, y ≤ b.length → ds[y]? = some (.int .i64 (D a b x y : Int)))
    (hd : Blk N 3 ds wx) (hy : ∀ y, y ≤ b.length → ds[y]? = some (.int .i64 (D a b i y : Int))) : Rws T a b (i + 1) wx := by
  obtain ⟨cs, h1, h2, h3, h4⟩ := h
  refine ⟨cs, h1, h2, fun x hx => ?_⟩
  rcases Nat.lt_or_ge x i with h | h
  · obtain ⟨r, r1, _, r2, es, e1, e2⟩ := h4 x h
    exact ⟨r, r1, r2, es, e1, e2⟩
  · obtain rfl : x = i := by omega
    exact ⟨N, hT, h3, ds, hd, hy⟩


theorem cell_put {a b : List Str} {i k : Nat} {ds : Array Value} (hsz : ds.size = b.length + 1) (hk : k ≤ b.length) {m : Int} (hv : (D a b i k : Int) = m) (ho : ∀ y, y < k → ds[y]? = some (.int .i64 (D a b i y : Int))) :
    ∀ y, y < k + 1 → (ds.setIfInBounds k (.int .i64 m))[y]? = some (.int .i64 (D a b i y : Int)) := by
  rw [← hv]
  exact put_upto (f := fun y => .int .i64 (D a b i y : Int)) hsz (by omega) ho
set_option maxRecDepth 1000000 in
set_option maxHeartbeats 4000000 in
theorem table_any (va vb : Value) (a b : List Str) (w : World) (ha : Rd 1 encT w va a) (hb : Rd 1 encT w vb b) (hla : a.length ≤ 400) (hlb : b.length ≤ 400) :
    Calls Try.prog 32 #[va, vb] w fun e w' => ∃ T, e = .returned (.slice (some ⟨T, 0, none⟩) (a.length + 1) (a.length + 1)) ∧ Rws T a b (a.length + 1) w' ∧ Below w.heap.size w w' := by
  obtain ⟨aa, ca, rfl, hca, hca2⟩ := ha.slice
  obtain ⟨ab, cb, rfl, hcb, hcb2⟩ := hb.slice
  have HA := Lib.hid ha
  have HB := Lib.hid hb
  clear ha hb hca hca2 hcb hcb2
  have m2 : ∀ wx, (Instr.makeSlice 51 (.int .i64 ((a.length : Int) + 1)) (.int .i64 ((a.length : Int) + 1))).run Try.prog wx = .ok (.slice (some ⟨wx.heap.size, 0, none⟩) (a.length + 1) (a.length + 1)) (wx.alloc (.cells (madeCells #[.slice none 0 0] (a.length + 1)) 50)) := fun wx => by
    have := make_at (P := Try.prog) 51 50 _ _ rfl Try.infoSl (by omega) (a.length + 1) (by omega) wx
    simpa [Value.cells] using this
  have m1 : ∀ wx, (Instr.makeSlice 50 (.int .i64 ((b.length : Int) + 1)) (.int .i64 ((b.length : Int) + 1))).run Try.prog wx = .ok (.slice (some ⟨wx.heap.size, 0, none⟩) (b.length + 1) (b.length + 1)) (wx.alloc (.cells (madeCells #[.int .i64 0] (b.length + 1)) 3)) := fun wx => by
    have := make_at (P := Try.prog) 50 3 _ _ rfl Try.infoIn (by omega) (b.length + 1) (by omega) wx
    simpa [Value.cells] using this
  go_enter Try.func32, Try.ntmps32
  go_wp2
  go_loopw [6] (fun v6 wr => ∃ i : Nat, i ≤ a.length + 1 ∧ v6 = .int .i64 i ∧ Rws w.heap.size a b i wr ∧ Below w.heap.size w wr) (fun v6 _ => a.length + 1 - (intOf v6).toNat)
  case atStart => exact ⟨0, Nat.zero_le _, rfl, ⟨_, Blk.new _ _ _, by simp [size_madeCells], fun x h1 => by omega⟩, (Below.refl _ w).alloc (Nat.le_refl _) _⟩
  case round =>
    obtain ⟨i, hi, rfl, hr, hbw⟩ := hrel
    have HR := Lib.hid hr
    have HBW := Lib.hid hbw
    have zr := hbw.size
    clear hbw
    by_cases hil : i ≤ a.length
    · have hi0 : (i : Int) ≤ (a.length : Int) := by omega
      have hi1 : (i : Int) < (a.length : Int) + 1 := by omega
      have hT : w.heap.size < wr.heap.size := by obtain ⟨cs, h1, _⟩ := hr; exact h1.lt
      obtain ⟨u, c0⟩ : ∃ u, (wr.alloc (.cells (madeCells #[.int .i64 0] (b.length + 1)) 3)).cell? ⟨w.heap.size, i, none⟩ = some u := by
        obtain ⟨cs, h1, h2, _⟩ := hr
        rw [(h1.alloc _).cell]
        exact ⟨_, Array.getElem?_eq_getElem (by omega)⟩
      have f0 : (wr.alloc (.cells (madeCells #[.int .i64 0] (b.length + 1)) 3)).frozen? ⟨w.heap.size, i, none⟩ = false := by
        obtain ⟨cs, h1, h2, _⟩ := hr
        exact (h1.alloc _).frozen i
      clear hr
      go_wp2
      obtain ⟨W2, hW2⟩ : ∃ W2, (wr.setCell ⟨w.heap.size, i, none⟩ (.slice (some ⟨wr.heap.size, 0, none⟩) (b.length + 1) (b.length + 1))).alloc (.cells (madeCells #[.int .i64 0] (b.length + 1)) 3) = W2 := ⟨_, rfl⟩
      have kN : Blk wr.heap.size 3 (madeCells #[.int .i64 0] (b.length + 1)) W2 := by
        rw [← hW2]
        have := Blk.new (wr.setCell ⟨w.heap.size, i, none⟩ (.slice (some ⟨wr.heap.size, 0, none⟩) (b.length + 1) (b.length + 1))) 3 (madeCells #[.int .i64 0] (b.length + 1))
        rwa [show (wr.setCell ⟨w.heap.size, i, none⟩ (.slice (some ⟨wr.heap.size, 0, none⟩) (b.length + 1) (b.length + 1))).heap.size = wr.heap.size by simp [World.setCell]] at this
      have M2 : ∀ wx, But wr.heap.size W2 wx → _ := fun wx hb => HR.out.mid hil (by rw [hW2]; exact hb)
      have BW2 : Below w.heap.size w W2 := by
        rw [← hW2]
        exact (HBW.out.setCell (p := ⟨w.heap.size, i, none⟩) (Nat.le_refl _) _).alloc (by simpa [World.setCell] using zr) _
      have zW : W2.heap.size = wr.heap.size + 1 := by rw [← hW2]; simp [World.setCell]
      rw [hW2]
      have HM := Lib.hid M2
      have HKN := Lib.hid kN
      have HBW2 := Lib.hid BW2
      obtain ⟨N, hN⟩ : ∃ N, wr.heap.size = N := ⟨_, rfl⟩
      rw [hN] at HM HKN hT ⊢
      have HNN := Lib.hid hN
      clear M2 kN BW2 hW2 c0 f0 hN
      go_loopw [7] (fun v7 wx => ∃ (k : Nat) (ds : Array Value), k ≤ b.length + 1 ∧ v7 = .int .i64 k ∧ Blk N 3 ds wx ∧ ds.size = b.length + 1 ∧ (∀ y, y < k → ds[y]? = some (.int .i64 (D a b i y : Int))) ∧ But N W2 wx) (fun v7 _ => b.length + 1 - (intOf v7).toNat)
      case atStart => exact ⟨0, _, Nat.zero_le _, rfl, HKN.out, by simp [size_madeCells], fun y hy => absurd hy (Nat.not_lt_zero _), But.refl _ _⟩
      case round =>
        obtain ⟨k, ds, hk, rfl, hds, hsz, hval, hbt⟩ := hrel
        rename World => wx
        have HDS := Lib.hid hds
        have HV := Lib.hid hval
        have HBT := Lib.hid hbt
        have HMX := Lib.hid (HM.out wx hbt)
        by_cases hkl : k ≤ b.length
        · have hk0 : (k : Int) ≤ (b.length : Int) := by omega
          have hk1 : (k : Int) < (b.length : Int) + 1 := by omega
          obtain ⟨c1, cp⟩ : wx.cell? ⟨w.heap.size, i, none⟩ = some (.slice (some ⟨N, 0, none⟩) (b.length + 1) (b.length + 1)) ∧ ∀ x, x < i → ∃ r, wx.cell? ⟨w.heap.size, x, none⟩ = some (.slice (some ⟨r, 0, none⟩) (b.length + 1) (b.length + 1)) ∧ ∀ y, y ≤ b.length → wx.cell? ⟨r, y, none⟩ = some (.int .i64 (D a b x y : Int)) := by
            obtain ⟨cs, h1, h2, h3, h4⟩ := HMX.out
            refine ⟨by rw [h1.cell]; exact h3, fun x hx => ?_⟩
            obtain ⟨r, r1, r2, r3, es, e1, e2⟩ := h4 x hx
            exact ⟨r, by rw [h1.cell]; exact r3, fun y hy => by rw [e1.cell]; exact e2 y hy⟩
          obtain ⟨u1, c4⟩ : ∃ u, wx.cell? ⟨N, k, none⟩ = some u := by
            rw [hds.cell]
            exact ⟨_, Array.getElem?_eq_getElem (by omega)⟩
          have f4 := hds.frozen k
          rcases i with _ | p
          · have HD := Lib.hid (show (D a b 0 k : Int) = (k : Int) by rw [D_zero hkl])
            clear hds hval hbt cp
            go_wp2
            go_roundw
            case rel => exact ⟨k + 1, _, by omega, by go_num, HDS.out.put _ _, by simp [hsz], cell_put hsz hkl HD.out HV.out, HBT.out.trans (But.setCell _ _ _ _)⟩
            case measure => simp [intOf]; omega
          · have e8 : ((p + 1 : Nat) : Int) = (p : Int) + 1 := by omega
            rw [e8] at hi0 hi1 ⊢
            have HE8 := Lib.hid e8
            have t1 : ((p : Int) + 1 == 0) = false := by rw [beq_eq_false_iff_ne]; omega
            have t9 : (p : Int) + 1 - 1 = (p : Int) := by omega
            rcases k with _ | q
            · have HD := Lib.hid (show (D a b (p + 1) 0 : Int) = (p : Int) + 1 by rw [D_right hil]; rfl)
              clear hds hval hbt cp e8
              go_wp2
              go_roundw
              case rel => exact ⟨1, _, by omega, by go_num, HDS.out.put _ _, by simp [hsz], cell_put hsz hkl HD.out HV.out, HBT.out.trans (But.setCell _ _ _ _)⟩
              case measure => simp [intOf]
            · have e9 : ((q + 1 : Nat) : Int) = (q : Int) + 1 := by omega
              rw [e9] at hk0 hk1 ⊢
              have HE9 := Lib.hid e9
              have t2 : ((q : Int) + 1 == 0) = false := by rw [beq_eq_false_iff_ne]; omega
              have t10 : (q : Int) + 1 - 1 = (q : Int) := by omega
              have hp : p < a.length := by omega
              have hq : q < b.length := by omega
              have q1 : (p : Int) < (a.length : Int) := by omega
              have q2 : (q : Int) < (b.length : Int) := by omega
              have q3 : (p : Int) < (a.length : Int) + 1 := by omega
              have q4 : (q : Int) < (b.length : Int) + 1 := by omega
              have BX := HBW2.out.trans (hbt.below (show w.heap.size ≤ N by omega) HBW2.out.size)
              obtain ⟨ba, oa, rfl, x1⟩ := (HA.out.below BX).str p hp
              obtain ⟨bb, ob, rfl, x2⟩ := (HB.out.below BX).str q hq
              obtain ⟨rp, cp1, cp2⟩ := cp p (by omega)
              have d1 := cp2 q (by omega)
              have d2 := cp2 (q + 1) hkl
              have d3 : wx.cell? ⟨N, q, none⟩ = some (.int .i64 (D a b (p + 1) q : Int)) := by rw [hds.cell]; exact hval q (by omega)
              have b1 := D_le a b p q
              have b2 := D_le a b p (q + 1)
              have b3 := D_le a b (p + 1) q
              have HSM : Hid (a[p] = b[q] → D a b (p + 1) (q + 1) = D a b p q) := Lib.hid (D_same hp hq)
              have HOT : Hid (a[p] ≠ b[q] → D a b (p + 1) (q + 1) = 1 + min (D a b p q) (min (D a b p (q + 1)) (D a b (p + 1) q))) := Lib.hid (D_other hp hq)
              obtain ⟨s, hs⟩ : ∃ s, a[p] = s := ⟨_, rfl⟩
              obtain ⟨t, ht⟩ : ∃ t, b[q] = t := ⟨_, rfl⟩
              rw [hs] at x1 HSM HOT
              rw [ht] at x2 HSM HOT
              obtain ⟨v1, hv1⟩ : ∃ m, D a b p q = m := ⟨_, rfl⟩
              obtain ⟨v2, hv2⟩ : ∃ m, D a b p (q + 1) = m := ⟨_, rfl⟩
              obtain ⟨v3, hv3⟩ : ∃ m, D a b (p + 1) q = m := ⟨_, rfl⟩
              rw [hv1] at d1 b1 HSM HOT
              rw [hv2] at d2 b2 HOT
              rw [hv3] at d3 b3 HOT
              clear hv1 hv2 hv3 hs ht hds hval hbt BX e8 e9 cp cp2
              by_cases hst : s = t
              · have HD := Lib.hid (show (D a b (p + 1) (q + 1) : Int) = (v1 : Int) by rw [HSM.out hst])
                subst hst
                clear d2 d3 b2 b3
                go_wp2_with fail
                go_quiet (fail)
                clear x1 x2
                go_wp2_with fail
                refine region_tail 15 (by kernel_rfl) (by decide +kernel) (by decide +kernel) ?_
                simp only [List.take_succ_cons, List.take_zero, List.drop_succ_cons, List.drop_zero]
                repeat (go_big_quiet_step (fail))
                refine wpQuiet_nil ?_
                go_wp2
                go_roundw
                case rel => exact ⟨q + 1 + 1, _, by omega, by go_num, (HDS.out.below (below_drewN (Below.refl _ _) _)).put _ _, by simp [hsz], cell_put hsz hkl HD.out HV.out, (HBT.out.drewN _).trans (But.setCell _ _ _ _)⟩
                case measure => have := HE9.out; simp [intOf]; omega
              · obtain ⟨q5, q6⟩ := str_ne hst
                obtain ⟨M, hM⟩ : ∃ M, min v1 (min v2 v3) = M := ⟨_, rfl⟩
                have HD := Lib.hid (show (D a b (p + 1) (q + 1) : Int) = 1 + (M : Int) by rw [HOT.out hst, hM]; simp)
                have mn : ∀ (ts : Array TypeId) (t : TypeId) (wz : World), (Builtin.min_ ts t #[.int .i64 (v1 : Int), .int .i64 (v2 : Int), .int .i64 (v3 : Int)]).run Try.prog wz = .ok (.int .i64 (M : Int)) wz := fun ts t wz => by
                  simp [Builtin.min_, Builtin.min2]
                  rw [← hM]
                  omega
                have g5 : M ≤ 800 := by omega
                clear hst hM
                go_wp2_with fail
                go_quiet (fail)
                clear x1 x2 q5 q6
                go_wp2_with fail
                refine region_tail 33 (by kernel_rfl) (by decide +kernel) (by decide +kernel) ?_
                simp only [List.take_succ_cons, List.take_zero, List.drop_succ_cons, List.drop_zero]
                repeat (go_big_quiet_step (fail))
                refine wpQuiet_nil ?_
                go_wp2
                go_roundw
                case rel => exact ⟨q + 1 + 1, _, by omega, by go_num, (HDS.out.below (below_drewN (Below.refl _ _) _)).put _ _, by simp [hsz], cell_put hsz hkl HD.out HV.out, (HBT.out.drewN _).trans (But.setCell _ _ _ _)⟩
                case measure => have := HE9.out; simp [intOf]; omega
        · obtain rfl : k = b.length + 1 := by omega
          have hk0 : ¬ (b.length : Int) + 1 ≤ (b.length : Int) := by omega
          clear hds hval hbt
          go_wp2
          go_roundw
          case rel => exact ⟨i + 1, by omega, by go_num, rws_close (by omega) hil HMX.out HDS.out (fun y hy => HV.out y (by omega)), HBW2.out.trans (HBT.out.below (by omega) (by omega))⟩
          case measure => simp [intOf]; omega
    · obtain rfl : i = a.length + 1 := by omega
      have hi0 : ¬ (a.length : Int) + 1 ≤ (a.length : Int) := by omega
      clear hr
      go_wp2
      go_ret
      exact ⟨_, rfl, HR.out, HBW.out⟩
end Go.Proofs.Ytbcpeoomkhcgnaa
