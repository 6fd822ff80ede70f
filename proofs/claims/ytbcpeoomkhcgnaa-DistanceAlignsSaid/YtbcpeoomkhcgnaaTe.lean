/- The rows of distances: the iterator. -/
import Derived.Test.YtbcpeoomkhcgnaaTd
import Derived.Sort.CutIn
import Derived.RegionIn
import Derived.Stop.RegionWithIn
namespace Go.Proofs.Ytbcpeoomkhcgnaa
open Go.RowKit Go.Shelf
set_option linter.unusedVariables false
attribute [local go_sem] Oper.semAt_some

/-- Block x holds row p of the distances. -/
def RowY (a b : List Str) (p x : Nat) (W : World) : Prop := ∃ ds, Blk x 3 ds W ∧ ds.size = b.length + 1 ∧ ∀ j, j ≤ b.length → ds[j]? = some (.int .i64 (D a b p j : Int))
theorem Blk.putObj_ {B l : Nat} {t : TypeId} {cs : Array Value} {W : World} {o : Obj} (h : Blk B t cs W) (hl : W.heap[l]? = some o) (ho : o.isCells = false) (o' : Obj) : Blk B t cs (W.putObj l o') := by
  refine (World.putObj_heap_other (fun e => ?_)).trans h
  subst e
  rw [show W.heap[B]? = _ from h] at hl
  cases hl
  cases ho
theorem rowY_obj (a b : List Str) (p x : Nat) (W : World) (l : Nat) (o o' : Obj) (h : RowY a b p x W) (hl : W.heap[l]? = some o) (ho : o.isCells = false) : RowY a b p x (W.putObj l o') := by
  obtain ⟨ds, h1, h2, h3⟩ := h
  exact ⟨ds, h1.putObj_ hl ho o', h2, h3⟩
/-- What the iterator reads of its caller's: the two boxes and the two lists. -/
structure Lists (S C Ba Bb : Nat) (aa : Option Addr) (ca : Nat) (ab : Option Addr) (cb : Nat) (a b : List Str) (W : World) : Prop where
  kA : Blk Ba 23 #[.slice aa a.length ca] W
  kB : Blk Bb 23 #[.slice ab b.length cb] W
  rA : Rd 1 encT W (.slice aa a.length ca) a
  rB : Rd 1 encT W (.slice ab b.length cb) b
  lA : Ba < S ∧ Ba ≠ C
  lB : Bb < S ∧ Bb ≠ C
  oA : a ≠ [] → ∀ x, (Value.slice aa a.length ca).ownBlock = some x → x < S ∧ x ≠ C
  oB : b ≠ [] → ∀ x, (Value.slice ab b.length cb).ownBlock = some x → x < S ∧ x ≠ C
section
variable {S C Ba Bb : Nat} {aa : Option Addr} {ca : Nat} {ab : Option Addr} {cb : Nat} {a b : List Str} {W W' : World}
theorem Lists.two (h : Lists S C Ba Bb aa ca ab cb a b W) (k : Two S W W') : Lists S C Ba Bb aa ca ab cb a b W' :=
  ⟨h.kA.two k (by have := h.lA; omega) (by have := h.lA; omega), h.kB.two k (by have := h.lB; omega) (by have := h.lB; omega), h.rA.two k (fun hl x e => by have := h.oA hl x e; omega), h.rB.two k (fun hl x e => by have := h.oB hl x e; omega), h.lA, h.lB, h.oA, h.oB⟩
theorem Lists.kp (h : Lists S C Ba Bb aa ca ab cb a b W) (k : KpS S C W W') : Lists S C Ba Bb aa ca ab cb a b W' :=
  ⟨h.kA.kp k (by have := h.lA; omega) h.lA.2, h.kB.kp k (by have := h.lB; omega) h.lB.2, h.rA.kp (by omega) encT_len k (fun hl x e => by have := h.oA hl x e; omega), h.rB.kp (by omega) encT_len k (fun hl x e => by have := h.oB hl x e; omega), h.lA, h.lB, h.oA, h.oB⟩
end
theorem Try.infoIn : (Try.prog.info? 3).map (fun i => (i.zero, i.size, i.bytes)) = some (some (.int .i64 0), 1, 8) := by kernel_rfl
theorem wrap_small {x : Int} (h0 : 0 ≤ x) (h1 : x ≤ 10000000) : IntKind.i64.wrap x = x := by
  have hb : IntKind.i64.bits = 64 := rfl
  unfold IntKind.wrap
  simp only [hb]
  simp
  omega
theorem row_zero {a b : List Str} {ds : Array Value} {k : Nat} (hk : k = b.length + 1) (h : ∀ j, j < k → ds[j]? = some (.int .i64 (j : Int))) : ∀ j, j ≤ b.length → ds[j]? = some (.int .i64 (D a b 0 j : Int)) := fun j hj => by rw [D_zero hj]; exact h j (by omega)
theorem put_upto {ds : Array Value} {k n : Nat} {f : Nat → Value} (hs : ds.size = n) (hk : k < n) (h : ∀ j, j < k → ds[j]? = some (f j)) : ∀ j, j < k + 1 → (ds.setIfInBounds k (f k))[j]? = some (f j) := by
  intro j hj
  rw [Array.getElem?_setIfInBounds]
  by_cases e : k = j
  · subst e
    rw [if_pos rfl, if_pos (by omega)]
  · rw [if_neg e]
    exact h j (by omega)
theorem row_first {a b : List Str} {i : Nat} {es : Array Value} (hi : i < a.length) (hs : 0 < es.size) : ∀ q, q ≤ 0 → (es.setIfInBounds 0 (.int .i64 ((i : Int) + 1)))[q]? = some (.int .i64 (D a b (i + 1) q : Int)) := by
  intro q hq
  obtain rfl : q = 0 := by omega
  rw [Array.getElem?_setIfInBounds, if_pos rfl, if_pos hs, D_right (by omega)]
  rfl
theorem region_stail {P : Program} {w : World} {id : Nat} {Q : Exit → Act → World → Prop} {a : Act} {l : List Oper} (k : Nat) (hm : P.follows .mixedOrders = true) (hB : Region.lexTailB .any l.toArray k = true)
    (h : wpStill P l.toArray (w.drewN 1) (fun a' => wpList P l.toArray Q (l.drop k) a' (w.drewN 1)) (l.take k) a) : (Code.region id l.toArray true).wp P Q a w := wp_region_still_tail k hm hB h
set_option maxRecDepth 1000000 in
set_option maxHeartbeats 2000000 in
theorem rows1_in (n : Nat) (hn : 3 ≤ n) (C Ba Bb : Nat) (aa : Option Addr) (ca : Nat) (ab : Option Addr) (cb : Nat) (a b : List Str) (hla : a.length ≤ 400) (hlb : b.length ≤ 400)
    (W : World) (hCW : C < W.heap.size) (hL : Lists W.heap.size C Ba Bb aa ca ab cb a b W) :
    RowsIn Fence.wide n Try.prog 34 #[.pointer (some ⟨Bb, 0, none⟩), .pointer (some ⟨Ba, 0, none⟩)] (b.length + 1) a.length C (RowY a b) W := by
  intro l J hst hY h0
  have hf : Fence.wide.fn 34 := trivial
  have hp : Fence.wide.fn 29 := trivial
  have hro : Fence.wide.round = none := rfl
  have hn1 : 1 ≤ n := by omega
  obtain ⟨S, hS⟩ : ∃ S, W.heap.size = S := ⟨_, rfl⟩
  rw [hS] at hst hY hL hCW
  show CallsIn Fence.wide n Try.prog 34 #[.func (.yield l) #[] #[], .pointer (some ⟨Bb, 0, none⟩), .pointer (some ⟨Ba, 0, none⟩)] W _
  refine callsIn_of_wp Try.func34 rfl hf ?_ hro
  simp only [Try.ntmps34, List.size_toArray, List.length_cons, List.length_nil, Nat.reduceAdd, Nat.reduceSub, Array.replicate_succ, Array.replicate_zero, List.push_toArray, List.append_toArray, List.nil_append, List.cons_append]
  have hb0 : W.cell? ⟨Bb, 0, none⟩ = some (.slice ab b.length cb) := hL.kB.cell 0
  have hb1 : (W.drew.alloc (.cells (madeCells #[.int .i64 0] (b.length + 1)) 3)).cell? ⟨Bb, 0, none⟩ = some (.slice ab b.length cb) := (hL.kB.below ((Below.refl _ W).drew.alloc (Nat.le_refl _) _)).cell 0
  have hb3 : (W.alloc (.cells (madeCells #[.int .i64 0] (b.length + 1)) 3)).drew.cell? ⟨Bb, 0, none⟩ = some (.slice ab b.length cb) := (hL.kB.below ((Below.refl _ W).alloc (Nat.le_refl _) _).drew).cell 0
  have hb2 : W.drew.cell? ⟨Bb, 0, none⟩ = some (.slice ab b.length cb) := hb0
  have m1 : ∀ wx, (Instr.makeSlice 50 (.int .i64 ((b.length : Int) + 1)) (.int .i64 ((b.length : Int) + 1))).run Try.prog wx = .ok (.slice (some ⟨wx.heap.size, 0, none⟩) (b.length + 1) (b.length + 1)) (wx.alloc (.cells (madeCells #[.int .i64 0] (b.length + 1)) 3)) := fun wx => by
    have := make_at (P := Try.prog) 50 3 _ _ rfl Try.infoIn (by omega) (b.length + 1) (by omega) wx
    simpa [Value.cells] using this
  have k0 : Blk S 3 (madeCells #[.int .i64 0] (b.length + 1)) ((W.alloc (.cells (madeCells #[.int .i64 0] (b.length + 1)) 3)).alloc (.cells (madeCells #[.int .i64 0] (b.length + 1)) 3)) := by rw [← hS]; exact (Blk.new W _ _).alloc _
  have k1 : Blk (S + 1) 3 (madeCells #[.int .i64 0] (b.length + 1)) ((W.alloc (.cells (madeCells #[.int .i64 0] (b.length + 1)) 3)).alloc (.cells (madeCells #[.int .i64 0] (b.length + 1)) 3)) := by
    have := Blk.new (W.alloc (.cells (madeCells #[.int .i64 0] (b.length + 1)) 3)) 3 (madeCells #[.int .i64 0] (b.length + 1))
    rwa [World.size_alloc, hS] at this
  have kb : Below S W ((W.alloc (.cells (madeCells #[.int .i64 0] (b.length + 1)) 3)).alloc (.cells (madeCells #[.int .i64 0] (b.length + 1)) 3)).drew := by rw [← hS]; exact (((Below.refl _ W).alloc (Nat.le_refl _) _).alloc (by simp) _).drew
  have HL := Lib.hid hL
  have HST := Lib.hid hst
  have HY := Lib.hid hY
  have H0 := Lib.hid h0
  clear hL hst hY h0
  gi_upto_region 0 with fail
  gi_cut [4, 5] from 11 (fun v4 v5 wx => ∃ x y, v4 = .slice (some ⟨y, 0, none⟩) (b.length + 1) (b.length + 1) ∧ v5 = .slice (some ⟨x, 0, none⟩) (b.length + 1) (b.length + 1) ∧ ((x = S ∧ y = S + 1) ∨ (x = S + 1 ∧ y = S)) ∧ Blk x 3 (madeCells #[.int .i64 0] (b.length + 1)) wx ∧ Blk y 3 (madeCells #[.int .i64 0] (b.length + 1)) wx ∧ Below S W wx ∧ wx.heap.size = S + 2)
  case first =>
    gi_region
    all_goals (gi_wp2_with fail; gi_meet)
    · exact ⟨S + 1, S, rfl, rfl, .inr ⟨rfl, rfl⟩, k1.below (below_drewN (Below.refl _ _) 1), k0.below (below_drewN (Below.refl _ _) 1), kb, by simp [World.drew, hS]⟩
    · exact ⟨S, S + 1, rfl, rfl, .inl ⟨rfl, rfl⟩, k0.below (below_drewN (Below.refl _ _) 1), k1.below (below_drewN (Below.refl _ _) 1), kb, by simp [World.drew, hS]⟩
  case rest =>
    clear hb0 hb1 hb2 hb3 m1 k0 k1 kb
    obtain ⟨x, y, rfl, rfl, hxy, kx, ky, hbw, hsz⟩ := hcut
    have tw : Two S W wc := Two.of_below (by rw [hS]; exact hbw)
    have HL0 := Lib.hid (HL.out.two tw)
    have HJ0 := Lib.hid (HST.out 0 _ _ H0.out tw)
    have HXY := Lib.hid hxy
    have hx1 : x = S ∨ x = S + 1 := by omega
    have hxy1 : x ≠ y := by omega
    have HKX := Lib.hid kx
    have HKY := Lib.hid ky
    clear kx ky hbw tw HL H0 hxy hS
    gi_wp2
    gi_loopw [21] (fun iv wr => ∃ (k : Nat) (ds : Array Value), k ≤ b.length + 1 ∧ iv = .int .i64 k ∧ J 0 wr ∧ Lists S C Ba Bb aa ca ab cb a b wr ∧ Blk x 3 ds wr ∧ ds.size = b.length + 1 ∧ (∀ j, j < k → ds[j]? = some (.int .i64 (j : Int))) ∧ Blk y 3 (madeCells #[.int .i64 0] (b.length + 1)) wr ∧ S + 2 ≤ wr.heap.size) (fun iv _ => b.length + 1 - (intOf iv).toNat)
    case atStart => exact ⟨0, _, Nat.zero_le _, rfl, HJ0.out, HL0.out, HKX.out, by simp [size_madeCells], fun j hj => absurd hj (Nat.not_lt_zero _), HKY.out, by omega⟩
    case round =>
      obtain ⟨k, ds, hk, rfl, hJ, hLi, kx, hds, hval, ky, hz⟩ := hrel
      have HJ := Lib.hid hJ
      have HLi := Lib.hid hLi
      have HX := Lib.hid kx
      have HV := Lib.hid hval
      have HYB := Lib.hid ky
      by_cases hlt : k < b.length + 1
      · have q1 : (k : Int) < (b.length : Int) + 1 := by omega
        obtain ⟨u, c0⟩ : ∃ u, wr.cell? ⟨x, k, none⟩ = some u := by rw [kx.cell]; exact ⟨_, Array.getElem?_eq_getElem (by omega)⟩
        have f0 := kx.frozen k
        clear hJ hLi kx hval ky
        gi_wp2
        go_roundw
        case rel =>
          have T := Two.setCell wr x k (.int .i64 (k : Int)) hx1
          exact ⟨k + 1, _, by omega, by go_num, HST.out _ _ _ HJ.out T, HLi.out.two T, HX.out.put _ _, by simp [hds], put_upto (f := fun j => .int .i64 (j : Int)) hds hlt HV.out, HYB.out.far (p := ⟨x, k, none⟩) (Ne.symm hxy1) _, by simpa [World.setCell] using hz⟩
        case measure => simp [intOf]; omega
      · obtain rfl : k = b.length + 1 := by omega
        have HRow : Hid (RowY a b 0 x wr) := Lib.hid ⟨ds, kx, hds, row_zero rfl hval⟩
        obtain ⟨fn, tmps, assign, body, hy, hRr⟩ := HY.out 0 x wr hJ hx1 HRow.out (Nat.zero_le _) hz
        clear hJ hLi kx hval ky
        gi_wp2
        refine hRr.mono ?_
        clear hy hRr
        rintro e W3 ⟨rfl, hJ3, hk3⟩
        have HJ3 := Lib.hid hJ3
        have HL3 := Lib.hid (HLi.out.kp hk3)
        have HX3 := Lib.hid (HX.out.kp hk3 (by omega) (by omega))
        have HY3 := Lib.hid (HYB.out.kp hk3 (by have := HXY.out; omega) (by have := HXY.out; omega))
        have z3 : S + 2 ≤ W3.heap.size := Nat.le_trans hz hk3.size
        have HV3 := Lib.hid (row_zero (a := a) (b := b) rfl HV.out)
        have cA : W3.cell? ⟨Ba, 0, none⟩ = some (.slice aa a.length ca) := HL3.out.kA.cell 0
        clear hJ3 hk3 HV HRow HX HYB HJ HLi
        gi_wp2
        gi_loopw [4, 5, 35] (fun v4 v5 iv wr => ∃ (i x y : Nat) (ds es : Array Value), i ≤ a.length ∧ iv = .int .i64 i ∧ v5 = .slice (some ⟨x, 0, none⟩) (b.length + 1) (b.length + 1) ∧ v4 = .slice (some ⟨y, 0, none⟩) (b.length + 1) (b.length + 1) ∧ ((x = S ∧ y = S + 1) ∨ (x = S + 1 ∧ y = S)) ∧ J (i + 1) wr ∧ Lists S C Ba Bb aa ca ab cb a b wr ∧ Blk x 3 ds wr ∧ ds.size = b.length + 1 ∧ (∀ j, j ≤ b.length → ds[j]? = some (.int .i64 (D a b i j : Int))) ∧ Blk y 3 es wr ∧ es.size = b.length + 1 ∧ S + 2 ≤ wr.heap.size) (fun _ _ iv _ => a.length - (intOf iv).toNat)
        case atStart => exact ⟨0, x, y, _, _, Nat.zero_le _, rfl, rfl, rfl, HXY.out, HJ3.out, HL3.out, HX3.out, hds, HV3.out, HY3.out, by simp [size_madeCells], z3⟩
        case round =>
          clear HJ3 HL3 HX3 HV3 HY3 z3 cA HXY hx1 hxy1
          obtain ⟨i, x, y, ds, es, hi, rfl, rfl, rfl, hxy, hJ, hLi, kx, hds, hval, ky, hes, hz⟩ := hrel
          have HJ := Lib.hid hJ
          have HLi := Lib.hid hLi
          have HX := Lib.hid kx
          have HV := Lib.hid hval
          have HYB := Lib.hid ky
          have HXY := Lib.hid hxy
          by_cases hlt : i < a.length
          · have q1 : (i : Int) < (a.length : Int) := by omega
            obtain ⟨b0, o0, rfl, s0⟩ := hLi.rA.str i hlt
            have hy1 : y = S ∨ y = S + 1 := by omega
            have hx1 : x = S ∨ x = S + 1 := by omega
            have hxy1 : x ≠ y := by omega
            obtain ⟨u, c0⟩ : ∃ u, wr.cell? ⟨y, 0, none⟩ = some u := by rw [ky.cell]; exact ⟨_, Array.getElem?_eq_getElem (by omega)⟩
            have f0 := ky.frozen 0
            have T0 := Two.setCell wr y 0 (.int .i64 ((i : Int) + 1)) hy1
            have c1 : (wr.setCell ⟨y, 0, none⟩ (.int .i64 ((i : Int) + 1))).cell? ⟨Bb, 0, none⟩ = some (.slice ab b.length cb) := (hLi.two T0).kB.cell 0
            obtain ⟨s, hs⟩ : ∃ s, a[i] = s := ⟨_, rfl⟩
            rw [hs] at s0
            have HS := Lib.hid hs
            have q2 : (0 : Int) < (b.length : Int) + 1 := by omega
            clear hJ hLi kx hval ky hs hxy
            gi_wp2
            have HT0 := Lib.hid T0
            have HY0 := Lib.hid (HYB.out.put 0 (.int .i64 ((i : Int) + 1)))
            have HX0 := Lib.hid (HX.out.far (p := ⟨y, 0, none⟩) hxy1 (.int .i64 ((i : Int) + 1)))
            obtain ⟨W4, hW4⟩ : ∃ W4, wr.setCell ⟨y, 0, none⟩ (.int .i64 ((i : Int) + 1)) = W4 := ⟨_, rfl⟩
            have z4 : S + 2 ≤ W4.heap.size := by rw [← hW4]; simpa [World.setCell] using hz
            rw [hW4] at HT0 HY0 HX0 ⊢
            clear T0 c0 c1 f0 hW4 HX HYB
            gi_loopw [48] (fun jv wx => ∃ (j : Nat) (es : Array Value), j ≤ b.length ∧ jv = .int .i64 j ∧ Two S wr wx ∧ Blk x 3 ds wx ∧ Blk y 3 es wx ∧ es.size = b.length + 1 ∧ (∀ q, q ≤ j → es[q]? = some (.int .i64 (D a b (i + 1) q : Int))) ∧ S + 2 ≤ wx.heap.size) (fun jv _ => b.length - (intOf jv).toNat)
            case atStart => exact ⟨0, _, Nat.zero_le _, rfl, HT0.out, HX0.out, HY0.out, by simp [hes], row_first (by omega) (by omega), z4⟩
            case round =>
              obtain ⟨j, gs, hj, rfl, hT, kx, ky, hgs, hnew, hzx⟩ := hrel
              rename World => wx
              have HT := Lib.hid hT
              have HXx := Lib.hid kx
              have HYx := Lib.hid ky
              have HN := Lib.hid hnew
              have HLx := Lib.hid (HLi.out.two hT)
              by_cases hlt2 : j < b.length
              · have q3 : (j : Int) < (b.length : Int) := by omega
                have q4 : (j : Int) < (b.length : Int) + 1 := by omega
                have q5 : (j : Int) + 1 < (b.length : Int) + 1 := by omega
                have q6 : (0 : Int) ≤ (j : Int) + 1 := by omega
                have q7 : j + 1 < b.length + 1 := by omega
                have q8 : ¬ ((j : Int) + 1 < 0) := by omega
                obtain ⟨b1, o1, rfl, t0⟩ := HLx.out.rB.str j hlt2
                have x1 : wx.cell? ⟨x, j, none⟩ = some (.int .i64 (D a b i j : Int)) := by rw [kx.cell]; exact HV.out j (by omega)
                have x2 : wx.cell? ⟨x, j + 1, none⟩ = some (.int .i64 (D a b i (j + 1) : Int)) := by rw [kx.cell]; exact HV.out (j + 1) (by omega)
                have y1 : wx.cell? ⟨y, j, none⟩ = some (.int .i64 (D a b (i + 1) j : Int)) := by rw [ky.cell]; exact HN.out j (by omega)
                obtain ⟨u2, y2⟩ : ∃ u, wx.cell? ⟨y, j + 1, none⟩ = some u := by rw [ky.cell]; exact ⟨_, Array.getElem?_eq_getElem (by omega)⟩
                have f2 := ky.frozen (j + 1)
                have HD := Lib.hid (D_step hlt hlt2)
                have g1 := D_le a b i j
                have g2 := D_le a b i (j + 1)
                have g3 := D_le a b (i + 1) j
                obtain ⟨t, ht⟩ : ∃ t, b[j] = t := ⟨_, rfl⟩
                rw [ht] at t0 HD
                rw [HS.out] at HD
                have g4 := prc_le s t
                obtain ⟨p, hpp⟩ : ∃ p, prc s t = p := ⟨_, rfl⟩
                obtain ⟨d1, h1⟩ : ∃ d, D a b i j = d := ⟨_, rfl⟩
                obtain ⟨d2, h2⟩ : ∃ d, D a b i (j + 1) = d := ⟨_, rfl⟩
                obtain ⟨d3, h3⟩ : ∃ d, D a b (i + 1) j = d := ⟨_, rfl⟩
                have PR : ∀ wz, Calls Try.prog 29 #[.string (ofL s), .string (ofL t)] wz fun e w' => e = .returned (.int .i64 (p : Int)) ∧ w' = wz := fun wz => by rw [← hpp]; exact price_any s t wz
                rw [h1] at x1 g1 HD
                rw [h2] at x2 g2 HD
                rw [h3] at y1 g3 HD
                rw [hpp] at g4 HD
                obtain ⟨M, hM⟩ : ∃ M, min (d1 + p) (min (d2 + 1) (d3 + 1)) = M := ⟨_, rfl⟩
                rw [hM] at HD
                have mn : ∀ (ts : Array TypeId) (t : TypeId) (wz : World), (Builtin.min_ ts t #[.int .i64 ((d1 : Int) + (p : Int)), .int .i64 ((d2 : Int) + 1), .int .i64 ((d3 : Int) + 1)]).run Try.prog wz = .ok (.int .i64 (M : Int)) wz := fun ts t wz => by
                  simp [Builtin.min_, Builtin.min2]
                  rw [← hM]
                  omega
                have HPR := Lib.hid PR
                have g5 : M ≤ 802 := by omega
                have g6 : d1 ≤ 800 := by omega
                have g7 : d2 ≤ 800 := by omega
                have g8 : d3 ≤ 800 := by omega
                have w1 : IntKind.i64.wrap ((j : Int) + 1) = (j : Int) + 1 := wrap_small (by omega) (by omega)
                have w2 : IntKind.i64.wrap ((d1 : Int) + (p : Int)) = (d1 : Int) + (p : Int) := wrap_small (by omega) (by omega)
                have w3 : IntKind.i64.wrap ((d2 : Int) + 1) = (d2 : Int) + 1 := wrap_small (by omega) (by omega)
                have w4 : IntKind.i64.wrap ((d3 : Int) + 1) = (d3 : Int) + 1 := wrap_small (by omega) (by omega)
                clear hT kx ky hnew h1 h2 h3 hpp ht PR hM g1 g2 g3
                gi_upto_region 15 with fail
                refine wpIn_wide.2 ?_
                refine region_stail 24 (by kernel_rfl) (by decide +kernel) ?_
                simp only [List.take_succ_cons, List.take_zero, List.drop_succ_cons, List.drop_zero]
                iterate 9 still_step
                still_call (HPR.out _)
                iterate 14 still_step
                refine wpStill_nil ?_
                go_wp2
                gi_wp2
                go_roundw
                case rel =>
                  have T := (Two.of_below (S := S) (below_drewN (Below.refl _ wx) 1)).trans (Two.setCell (wx.drewN 1) y (j + 1) (.int .i64 (M : Int)) hy1)
                  refine ⟨j + 1, _, by omega, by go_num, HT.out.trans T, (HXx.out.below (below_drewN (Below.refl _ wx) 1)).far (p := ⟨y, j + 1, none⟩) hxy1 _, (HYx.out.below (below_drewN (Below.refl _ wx) 1)).put _ _, by simp [hgs], ?_, by simpa [World.setCell] using hzx⟩
                  have := put_upto (k := j + 1) (f := fun q => .int .i64 (D a b (i + 1) q : Int)) hgs (by omega) (fun q hq => HN.out q (by omega))
                  rw [HD.out] at this
                  exact fun q hq => this q (by omega)
                case measure => simp [intOf]; omega
              · obtain rfl : j = b.length := by omega
                have HRow : Hid (RowY a b (i + 1) y wx) := Lib.hid ⟨gs, ky, hgs, hnew⟩
                obtain ⟨fn, tmps, assign, body, hy, hRr⟩ := HY.out (i + 1) y wx (HST.out _ _ _ HJ.out hT) hy1 HRow.out (by omega) hzx
                clear hT kx ky hnew
                gi_wp2
                refine hRr.mono ?_
                clear hy hRr
                rintro e W5 ⟨rfl, hJ5, hk5⟩
                have HJ5 := Lib.hid hJ5
                have HL5 := Lib.hid (HLx.out.kp hk5)
                have HX5 := Lib.hid (HXx.out.kp hk5 (by omega) (by omega))
                have HY5 := Lib.hid (HYx.out.kp hk5 (by omega) (by omega))
                have z5 : S + 2 ≤ W5.heap.size := Nat.le_trans hzx hk5.size
                clear hJ5 hk5
                gi_wp2
                go_roundw
                case rel => exact ⟨i + 1, y, x, gs, ds, by omega, by go_num, rfl, rfl, by omega, HJ5.out, HL5.out, HY5.out, hgs, HN.out, HX5.out, hds, z5⟩
                case measure => simp [intOf]; omega
          · obtain rfl : i = a.length := by omega
            clear hJ hLi kx hval ky
            gi_wp2
            go_end0
            exact ⟨⟨_, rfl⟩, HJ.out⟩
end Go.Proofs.Ytbcpeoomkhcgnaa
