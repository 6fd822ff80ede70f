/- The reference's table of lengths. -/
import Derived.Test.YtcnjomkddbbopaaMp
import Derived.StillTailTactics
import Derived.IntWalk
namespace Go.Proofs.Ytcnjomkddbbopaa
open Go.RowKit
set_option linter.unusedVariables false

theorem Try.infoIn : (Try.prog.info? 3).map (fun i => (i.zero, i.size, i.bytes)) = some (some (.int .i64 0), 1, 8) := by kernel_rfl
theorem Try.infoRI : (Try.prog.info? 81).map (fun i => (i.zero, i.size, i.bytes)) = some (some (.slice none 0 0), 1, 24) := by kernel_rfl
def Lb (a b : List Str) (x y : Nat) : Int := (lcs (a.drop x) (b.drop y) : Int)
theorem Lb_end (a b : List Str) (x : Nat) : Lb a b x b.length = 0 := by unfold Lb; rw [List.drop_length, lcs_nil_right]; rfl
theorem Lb_last (a b : List Str) (y : Nat) : Lb a b a.length y = 0 := by unfold Lb; rw [List.drop_length, lcs_nil_left]; rfl
theorem Lb_le (a b : List Str) (x y : Nat) : 0 ≤ Lb a b x y ∧ Lb a b x y ≤ a.length := by
  have := lcs_le_left (a.drop x) (b.drop y)
  rw [List.length_drop] at this
  unfold Lb
  omega
theorem Lb_step {a b : List Str} {x y : Nat} (hx : x < a.length) (hy : y < b.length) : Lb a b x y = if a[x] = b[y] then max (max (Lb a b (x + 1) y) (Lb a b x (y + 1))) (1 + Lb a b (x + 1) (y + 1)) else max (Lb a b (x + 1) y) (Lb a b x (y + 1)) := by
  unfold Lb
  rw [List.drop_eq_getElem_cons hx, List.drop_eq_getElem_cons hy, lcs_cons]
  split <;> omega

/-- The rows from a number on, a block each. -/
def Rws (T : Nat) (a b : List Str) (q : Nat) (w : World) : Prop := ∃ cs, Blk T 81 cs w ∧ cs.size = a.length + 1 ∧ ∀ x, q ≤ x → x ≤ a.length → ∃ r, r ≠ T ∧ cs[x]? = some (.slice (some ⟨r, 0, none⟩) (b.length + 1) (b.length + 1)) ∧ ∃ ds, Blk r 3 ds w ∧ ∀ y, y ≤ b.length → ds[y]? = some (.int .i64 (Lb a b x y))
theorem Rws.below {T q : Nat} {a b : List Str} {w w' : World} (h : Rws T a b q w) (hb : Below w.heap.size w w') : Rws T a b q w' := by
  obtain ⟨cs, h1, h2, h3⟩ := h
  refine ⟨cs, h1.below hb, h2, fun x hx hx2 => ?_⟩
  obtain ⟨r, e1, e2, ds, e3, e4⟩ := h3 x hx hx2
  exact ⟨r, e1, e2, ds, e3.below hb, e4⟩
theorem Rws.at_ {T q : Nat} {a b : List Str} {w : World} (h : Rws T a b q w) (x : Nat) (hx : q ≤ x) (hx2 : x ≤ a.length) : ∃ r, w.cell? ⟨T, x, none⟩ = some (.slice (some ⟨r, 0, none⟩) (b.length + 1) (b.length + 1)) ∧ ∀ y, y ≤ b.length → w.cell? ⟨r, y, none⟩ = some (.int .i64 (Lb a b x y)) := by
  obtain ⟨cs, h1, h2, h3⟩ := h
  obtain ⟨r, e1, e2, ds, e3, e4⟩ := h3 x hx hx2
  exact ⟨r, by rw [h1.cell]; exact e2, fun y hy => by rw [e3.cell]; exact e4 y hy⟩
theorem Rws.mid {T i : Nat} {a b : List Str} {wr wx : World} {o : Obj} {v : Value} (h : Rws T a b (i + 1) wr) (hi : i ≤ a.length) (hb : But wr.heap.size ((wr.setCell ⟨T, i, none⟩ v).alloc o) wx) :
    ∃ cs, Blk T 81 cs wx ∧ cs.size = a.length + 1 ∧ cs[i]? = some v ∧ ∀ x, i + 1 ≤ x → x ≤ a.length → ∃ r, r ≠ T ∧ r ≠ wr.heap.size ∧ cs[x]? = some (.slice (some ⟨r, 0, none⟩) (b.length + 1) (b.length + 1)) ∧ ∃ ds, Blk r 3 ds wx ∧ ∀ y, y ≤ b.length → ds[y]? = some (.int .i64 (Lb a b x y)) := by
  obtain ⟨cs, h1, h2, h3⟩ := h
  have hlt := h1.lt
  refine ⟨_, ((h1.put i v).alloc o).but hb (by omega), by simp [h2], by rw [Array.getElem?_setIfInBounds, if_pos rfl, if_pos (by omega)], fun x hx hx2 => ?_⟩
  obtain ⟨r, e1, e2, ds, e3, e4⟩ := h3 x (by omega) hx2
  have := e3.lt
  refine ⟨r, e1, by omega, ?_, ds, ((e3.far (p := ⟨T, i, none⟩) e1 v).alloc o).but hb (by omega), e4⟩
  rw [Array.getElem?_setIfInBounds, if_neg (by omega)]
  exact e2

theorem rws_close {T N i : Nat} {a b : List Str} {wx : World} {ds : Array Value} (hT : N ≠ T) (hi : i ≤ a.length)
    (h : ∃ cs, Blk T 81 cs wx ∧ cs.size = a.length + 1 ∧ cs[i]? = some (.slice (some ⟨N, 0, none⟩) (b.length + 1) (b.length + 1)) ∧ ∀ x, i + 1 ≤ x → x ≤ a.length → ∃ r, r ≠ T ∧ r ≠ N ∧ cs[x]? = some (.slice (some ⟨r, 0, none⟩) (b.length + 1) (b.length + 1)) ∧ ∃ ds, Blk r 3 ds wx ∧ ∀ y, y ≤ b.length → ds[y]? = some (.int .i64 (Lb a b x y)))
    (hd : Blk N 3 ds wx) (hy : ∀ y, y ≤ b.length → ds[y]? = some (.int .i64 (Lb a b i y))) : Rws T a b i wx := by
  obtain ⟨cs, h1, h2, h3, h4⟩ := h
  refine ⟨cs, h1, h2, fun x hx hx2 => ?_⟩
  rcases Nat.lt_or_ge i x with h | h
  · obtain ⟨r, r1, _, r2, es, e1, e2⟩ := h4 x h hx2
    exact ⟨r, r1, r2, es, e1, e2⟩
  · obtain rfl : x = i := by omega
    exact ⟨N, hT, h3, ds, hd, hy⟩

theorem row_put {a b : List Str} {i j : Nat} {ds : Array Value} {m : Int} (hsz : ds.size = b.length + 1) (hj : j < b.length) (hv : Lb a b i j = m) (ho : ∀ y, y ≤ b.length → (j + 1 ≤ y ∨ i = a.length) → ds[y]? = some (.int .i64 (Lb a b i y))) :
    ∀ y, y ≤ b.length → (j ≤ y ∨ i = a.length) → (ds.setIfInBounds j (.int .i64 m))[y]? = some (.int .i64 (Lb a b i y)) := by
  intro y hy h
  rw [Array.getElem?_setIfInBounds]
  by_cases e : j = y
  · subst e
    rw [if_pos rfl, if_pos (by omega), hv]
  · rw [if_neg e]
    exact ho y hy (h.imp (fun h => by omega) id)

theorem row_keep {a b : List Str} {i j : Nat} {ds : Array Value} {u : Value} (hj : j < b.length) (hi : i ≠ a.length) (ho : ∀ y, y ≤ b.length → (j + 1 ≤ y ∨ i = a.length) → ds[y]? = some (.int .i64 (Lb a b i y))) :
    ∀ y, y ≤ b.length → (j + 1 ≤ y ∨ i = a.length) → (ds.setIfInBounds j u)[y]? = some (.int .i64 (Lb a b i y)) := by
  intro y hy h
  have hjy : j + 1 ≤ y := h.resolve_right hi
  rw [Array.getElem?_setIfInBounds, if_neg (by omega)]
  exact ho y hy h

set_option maxRecDepth 1000000 in
set_option maxHeartbeats 2000000 in
theorem longest_any (va vb : Value) (a b : List Str) (w : World) (ha : Rd 1 encT w va a) (hb : Rd 1 encT w vb b) (hla : a.length ≤ 200) (hlb : b.length ≤ 200) :
    Calls Try.prog 28 #[va, vb] w fun e w' => ∃ T, e = .returned (.slice (some ⟨T, 0, none⟩) (a.length + 1) (a.length + 1)) ∧ Rws T a b 0 w' ∧ Below w.heap.size w w' := by
  obtain ⟨aa, ca, rfl, hca, hca2⟩ := ha.slice
  obtain ⟨ab, cb, rfl, hcb, hcb2⟩ := hb.slice
  have HA := Lib.hid ha
  have HB := Lib.hid hb
  clear ha hb hca hca2 hcb hcb2
  have m2 : ∀ wx, (Instr.makeSlice 54 (.int .i64 ((a.length : Int) + 1)) (.int .i64 ((a.length : Int) + 1))).run Try.prog wx = .ok (.slice (some ⟨wx.heap.size, 0, none⟩) (a.length + 1) (a.length + 1)) (wx.alloc (.cells (madeCells #[.slice none 0 0] (a.length + 1)) 81)) := fun wx => by
    have := make_at (P := Try.prog) 54 81 _ _ rfl Try.infoRI (by omega) (a.length + 1) (by omega) wx
    simpa [Value.cells] using this
  have m1 : ∀ wx, (Instr.makeSlice 81 (.int .i64 ((b.length : Int) + 1)) (.int .i64 ((b.length : Int) + 1))).run Try.prog wx = .ok (.slice (some ⟨wx.heap.size, 0, none⟩) (b.length + 1) (b.length + 1)) (wx.alloc (.cells (madeCells #[.int .i64 0] (b.length + 1)) 3)) := fun wx => by
    have := make_at (P := Try.prog) 81 3 _ _ rfl Try.infoIn (by omega) (b.length + 1) (by omega) wx
    simpa [Value.cells] using this
  go_enter Try.func28, Try.ntmps28
  go_wp2
  go_loopw [6] (fun v6 wr => ∃ q : Nat, q ≤ a.length + 1 ∧ v6 = .int .i64 ((q : Int) - 1) ∧ Rws w.heap.size a b q wr ∧ Below w.heap.size w wr) (fun v6 _ => (intOf v6 + 1).toNat)
  case atStart => exact ⟨a.length + 1, Nat.le_refl _, by first | (go_num; done) | exact val_int (by omega), ⟨_, Blk.new _ _ _, by simp [size_madeCells], fun x h1 h2 => by omega⟩, (Below.refl _ w).alloc (Nat.le_refl _) _⟩
  case round =>
    obtain ⟨q, hq, rfl, hr, hbw⟩ := hrel
    have HR := Lib.hid hr
    have HBW := Lib.hid hbw
    have zr := hbw.size
    clear hbw
    rcases q with _ | i
    · have e0 : ((0 : Nat) : Int) - 1 = -1 := by omega
      rw [e0]
      clear hr
      go_wp2
      go_ret
      exact ⟨_, rfl, HR.out, HBW.out⟩
    · have e0 : ((i + 1 : Nat) : Int) - 1 = (i : Int) := by omega
      rw [e0]
      have HE := Lib.hid e0
      have hi : i ≤ a.length := by omega
      have hi0 : (0 : Int) ≤ (i : Int) := by omega
      have hi1 : (i : Int) < (a.length : Int) + 1 := by omega
      have hT : w.heap.size < wr.heap.size := by obtain ⟨cs, h1, _⟩ := hr; exact h1.lt
      obtain ⟨u, c0⟩ : ∃ u, (wr.alloc (.cells (madeCells #[.int .i64 0] (b.length + 1)) 3)).cell? ⟨w.heap.size, i, none⟩ = some u := by
        obtain ⟨cs, h1, h2, _⟩ := hr
        rw [(h1.alloc _).cell]
        exact ⟨_, Array.getElem?_eq_getElem (by omega)⟩
      have f0 : (wr.alloc (.cells (madeCells #[.int .i64 0] (b.length + 1)) 3)).frozen? ⟨w.heap.size, i, none⟩ = false := by
        obtain ⟨cs, h1, h2, _⟩ := hr
        exact (h1.alloc _).frozen i
      clear hr e0
      go_wp2
      obtain ⟨W2, hW2⟩ : ∃ W2, (wr.setCell ⟨w.heap.size, i, none⟩ (.slice (some ⟨wr.heap.size, 0, none⟩) (b.length + 1) (b.length + 1))).alloc (.cells (madeCells #[.int .i64 0] (b.length + 1)) 3) = W2 := ⟨_, rfl⟩
      have kN : Blk wr.heap.size 3 (madeCells #[.int .i64 0] (b.length + 1)) W2 := by
        rw [← hW2]
        have := Blk.new (wr.setCell ⟨w.heap.size, i, none⟩ (.slice (some ⟨wr.heap.size, 0, none⟩) (b.length + 1) (b.length + 1))) 3 (madeCells #[.int .i64 0] (b.length + 1))
        rwa [show (wr.setCell ⟨w.heap.size, i, none⟩ (.slice (some ⟨wr.heap.size, 0, none⟩) (b.length + 1) (b.length + 1))).heap.size = wr.heap.size by simp [World.setCell]] at this
      have M2 : ∀ wx, But wr.heap.size W2 wx → _ := fun wx hb => HR.out.mid hi (by rw [hW2]; exact hb)
      have BW2 : Below w.heap.size w W2 := by
        rw [← hW2]
        exact (HBW.out.setCell (p := ⟨w.heap.size, i, none⟩) (Nat.le_refl _) _).alloc (by simpa [World.setCell] using zr) _
      have zW : W2.heap.size = wr.heap.size + 1 := by rw [← hW2]; simp [World.setCell]
      rw [hW2]
      have HM := Lib.hid M2
      have HKN := Lib.hid kN
      have HBW2 := Lib.hid BW2
      obtain ⟨N, hN⟩ : ∃ N, wr.heap.size = N := ⟨_, rfl⟩
      rw [hN] at HM HKN hT ⊢
      have HNN := Lib.hid hN
      clear M2 kN BW2 hW2 c0 f0 hN
      go_loopw [7] (fun v7 wx => ∃ (k : Nat) (ds : Array Value), k ≤ b.length ∧ v7 = .int .i64 ((k : Int) - 1) ∧ Blk N 3 ds wx ∧ ds.size = b.length + 1 ∧ (∀ y, y ≤ b.length → (k ≤ y ∨ i = a.length) → ds[y]? = some (.int .i64 (Lb a b i y))) ∧ But N W2 wx) (fun v7 _ => (intOf v7 + 1).toNat)
      case atStart =>
        refine ⟨b.length, _, Nat.le_refl _, rfl, HKN.out, by simp [size_madeCells], fun y hy h => ?_, But.refl _ _⟩
        rw [made_get _ _ _ (by omega)]
        rcases h with h | h
        · obtain rfl : y = b.length := by omega
          rw [Lb_end]
        · subst h
          rw [Lb_last]
      case round =>
        obtain ⟨k, ds, hk, rfl, hds, hsz, hval, hbt⟩ := hrel
        rename World => wx
        have HDS := Lib.hid hds
        have HV := Lib.hid hval
        have HBT := Lib.hid hbt
        have HMX := Lib.hid (HM.out wx hbt)
        clear hval
        rcases k with _ | j
        · have e1 : ((0 : Nat) : Int) - 1 = -1 := by omega
          rw [e1]
          clear hds hbt
          go_wp2
          go_roundw
          case rel => exact ⟨i, by omega, by first | rfl | (go_num; done) | exact val_int (by omega), rws_close (by omega) hi HMX.out HDS.out (fun y hy => HV.out y hy (Or.inl (Nat.zero_le _))), HBW2.out.trans (HBT.out.below (by omega) (by omega))⟩
          case measure => have := HE.out; simp [intOf]
        · have e1 : ((j + 1 : Nat) : Int) - 1 = (j : Int) := by omega
          rw [e1]
          have HE1 := Lib.hid e1
          have hj0 : (0 : Int) ≤ (j : Int) := by omega
          by_cases hia : i < a.length
          · have hia2 : (i : Int) < (a.length : Int) := by omega
            obtain ⟨u1, c4⟩ : ∃ u, wx.cell? ⟨N, j, none⟩ = some u := by
              rw [hds.cell]
              exact ⟨_, Array.getElem?_eq_getElem (by omega)⟩
            have f4 := hds.frozen j
            obtain ⟨c1, r, c2, d1, d2⟩ : wx.cell? ⟨w.heap.size, i, none⟩ = some (.slice (some ⟨N, 0, none⟩) (b.length + 1) (b.length + 1)) ∧ ∃ r, wx.cell? ⟨w.heap.size, i + 1, none⟩ = some (.slice (some ⟨r, 0, none⟩) (b.length + 1) (b.length + 1)) ∧ wx.cell? ⟨r, j, none⟩ = some (.int .i64 (Lb a b (i + 1) j)) ∧ wx.cell? ⟨r, j + 1, none⟩ = some (.int .i64 (Lb a b (i + 1) (j + 1))) := by
              obtain ⟨cs, h1, h2, h3, h4⟩ := HMX.out
              obtain ⟨r, r1, r2, r3, es, e1, e2⟩ := h4 (i + 1) (by omega) (by omega)
              exact ⟨by rw [h1.cell]; exact h3, r, by rw [h1.cell]; exact r3, by rw [e1.cell]; exact e2 j (by omega), by rw [e1.cell]; exact e2 (j + 1) (by omega)⟩
            have d3 : wx.cell? ⟨N, j + 1, none⟩ = some (.int .i64 (Lb a b i (j + 1))) := by
              rw [hds.cell]
              exact HV.out (j + 1) (by omega) (Or.inl (by omega))
            have BX := HBW2.out.trans (hbt.below (show w.heap.size ≤ N by omega) HBW2.out.size)
            obtain ⟨ba, oa, rfl, x1⟩ := (HA.out.below BX).str i hia
            obtain ⟨bb, ob, rfl, x2⟩ := (HB.out.below BX).str j (by omega)
            have HST := Lib.hid (Lb_step (a := a) (b := b) hia (show j < b.length by omega))
            have b1 := Lb_le a b (i + 1) j
            have b2 := Lb_le a b i (j + 1)
            have b3 := Lb_le a b (i + 1) (j + 1)
            have q1 : (i : Int) + 1 < (a.length : Int) + 1 := by omega
            have q2 : (j : Int) < (b.length : Int) + 1 := by omega
            have q3 : (j : Int) + 1 < (b.length : Int) + 1 := by omega
            have q4 : (j : Int) < (b.length : Int) := by omega
            obtain ⟨m1', hm1⟩ : ∃ m, Lb a b (i + 1) j = m := ⟨_, rfl⟩
            obtain ⟨m2', hm2⟩ : ∃ m, Lb a b i (j + 1) = m := ⟨_, rfl⟩
            obtain ⟨m3', hm3⟩ : ∃ m, Lb a b (i + 1) (j + 1) = m := ⟨_, rfl⟩
            rw [hm1] at d1 b1 HST
            rw [hm2] at d3 b2 HST
            rw [hm3] at d2 b3 HST
            obtain ⟨b11, b12⟩ := b1
            obtain ⟨b21, b22⟩ := b2
            obtain ⟨b31, b32⟩ := b3
            have HBX := Lib.hid BX
            have HM3 := Lib.hid hm3
            clear hm1 hm2 hm3 hds hbt BX e1
            go_wp2_with fail
            refine region_tail 22 (by kernel_rfl) (by decide +kernel) (by decide +kernel) ?_
            simp only [List.take_succ_cons, List.take_zero, List.drop_succ_cons, List.drop_zero]
            repeat (go_big_quiet_step (fail))
            refine wpQuiet_nil ?_
            go_wp2_with fail
            all_goals (
              have HX : Hid (∃ mx, (max m1' m2' = mx) ∧ 0 ≤ mx ∧ mx ≤ a.length) := Lib.hid ⟨_, rfl, by omega, by omega⟩
              first
                | (have hmx : max m1' m2' = m1' := by omega
                   rw [hmx] at HST
                   obtain ⟨mx, hmx2⟩ : ∃ mx, mx = m1' := ⟨_, rfl⟩
                   subst hmx2)
                | (have hmx : max m1' m2' = m2' := by omega
                   rw [hmx] at HST
                   obtain ⟨mx, hmx2⟩ : ∃ mx, mx = m2' := ⟨_, rfl⟩
                   subst hmx2)
              have hm0 : 0 ≤ mx := by omega
              have hm1 : mx ≤ a.length := by omega
              obtain ⟨W3, hW3⟩ : ∃ W3, (wx.drewN 1).setCell ⟨N, j, none⟩ (.int .i64 mx) = W3 := ⟨_, rfl⟩
              have BT3 : But N W2 W3 := by rw [← hW3]; exact (HBT.out.drewN 1).trans (But.setCell _ _ _ _)
              have K3 : Blk N 3 (ds.setIfInBounds j (.int .i64 mx)) W3 := by
                rw [← hW3]
                exact (HDS.out.below (below_drewN (Below.refl _ _) 1)).put _ _
              have BX3 := HBW2.out.trans (BT3.below (show w.heap.size ≤ N by omega) HBW2.out.size)
              obtain ⟨_, _, e3, y1⟩ := (HA.out.below BX3).str i hia
              cases e3
              obtain ⟨_, _, e3, y2⟩ := (HB.out.below BX3).str j (by omega)
              cases e3
              rw [hW3]
              have HBT3 := Lib.hid BT3
              have HK3 := Lib.hid K3
              have HBX3 := Lib.hid BX3
              obtain ⟨k1, r', k2, k3⟩ : W3.cell? ⟨w.heap.size, i, none⟩ = some (.slice (some ⟨N, 0, none⟩) (b.length + 1) (b.length + 1)) ∧ ∃ r', W3.cell? ⟨w.heap.size, i + 1, none⟩ = some (.slice (some ⟨r', 0, none⟩) (b.length + 1) (b.length + 1)) ∧ W3.cell? ⟨r', j + 1, none⟩ = some (.int .i64 m3') := by
                obtain ⟨cs, h1, h2, h3, h4⟩ := HM.out W3 BT3
                obtain ⟨r', r1, r2, r3, es, e1, e2⟩ := h4 (i + 1) (by omega) (by omega)
                exact ⟨by rw [h1.cell]; exact h3, r', by rw [h1.cell]; exact r3, by rw [e1.cell, ← HM3.out]; exact e2 (j + 1) (by omega)⟩
              have k4 : W3.cell? ⟨N, j, none⟩ = some (.int .i64 mx) := by rw [K3.cell, Array.getElem?_setIfInBounds, if_pos rfl, if_pos (by omega)]
              have k5 := K3.frozen j
              obtain ⟨s, hs⟩ : ∃ s, a[i] = s := ⟨_, rfl⟩
              obtain ⟨t, ht⟩ : ∃ t, b[j] = t := ⟨_, rfl⟩
              rw [hs] at y1 HST
              rw [ht] at y2 HST
              clear hs ht x1 x2 c1 c2 c4 f4 d2 BT3 K3 BX3 hW3 HX
              by_cases hst : s = t
              · subst hst
                rw [if_pos rfl] at HST
                go_wp2_with fail
                go_quiet (fail)
                clear y1 y2
                go_wp2_with fail
                refine region_tail 23 (by kernel_rfl) (by decide +kernel) (by decide +kernel) ?_
                simp only [List.take_succ_cons, List.take_zero, List.drop_succ_cons, List.drop_zero]
                repeat (go_big_quiet_step (fail))
                refine wpQuiet_nil ?_
                go_wp2
                all_goals (
                  go_roundw
                  case rel => exact ⟨j, _, by omega, by first | rfl | (go_num; done) | exact val_int (by omega), (HK3.out.below (below_drewN (Below.refl _ _) _)).put _ _, by simp [hsz], row_put (by simp [hsz]) (by omega) (by rw [HST.out]; omega) (row_keep (by omega) (by omega) HV.out), (HBT3.out.drewN _).trans (But.setCell _ _ _ _)⟩
                  case measure => have := HE1.out; simp [intOf])
              · obtain ⟨q5, q6⟩ := str_ne hst
                rw [if_neg hst] at HST
                clear hst
                go_wp2_with fail
                go_quiet (fail)
                clear y1 y2
                go_wp2
                go_roundw
                case rel => exact ⟨j, _, by omega, by first | rfl | (go_num; done) | exact val_int (by omega), HK3.out.below (below_drewN (Below.refl _ _) _), by simp [hsz], row_put hsz (by omega) HST.out HV.out, HBT3.out.drewN _⟩
                case measure => have := HE1.out; simp [intOf])
          · obtain rfl : i = a.length := by omega
            have hia2 : ¬ (a.length : Int) < (a.length : Int) := by omega
            clear hds hbt e1
            go_wp2
            go_roundw
            case rel => exact ⟨a.length, by omega, by first | rfl | (go_num; done) | exact val_int (by omega), rws_close (by omega) hi HMX.out HDS.out (fun y hy => HV.out y hy (Or.inr rfl)), HBW2.out.trans (HBT.out.below (by omega) (by omega))⟩
            case measure => have := HE.out; simp [intOf]
end Go.Proofs.Ytcnjomkddbbopaa
