/- What the row stands on, part 12. -/
import Derived.Test.YtmnclnpbmgomgaaGreatDoorQ11

/- Of decide: nextOfWhole, nextOfFraction. -/
namespace Go.Proofs.YtmnclnpbmgomgaaGreatDoor
open Go.RowKit
set_option linter.unusedVariables false

set_option maxRecDepth 1000000 in
set_option maxHeartbeats 16000000 in
theorem nextW_any (g : Nat) (l : List Rel) (ls : List (List Nat)) (p q s : Nat × Nat) (hl : ∀ r ∈ l, OkR r) (h6 : l.length ≤ 60) (hp : ScOk p) (hq : ScOk q) (hs : ScOk s) (x : Rg) (hx : RgOk x) (d : Nat) (hd : d < 10) (w : World) (hP : RelP w g l ls p q s) :
    Calls Tryz.prog 130 #[.pointer (some ⟨g, 0, none⟩), .agg (encRg x).toArray, .int .i64 d] w fun e w' => e = .returned (.agg (encRg (nxW l p x d)).toArray) ∧ Below w.heap.size w w' := by
  obtain ⟨xp, xh, xc, xt, xi⟩ := x
  obtain ⟨hxh, hxc, hxt⟩ := hx
  dsimp only at hxh hxc hxt
  obtain ⟨ga, gc, gb, gd, hB, _, _⟩ := hP.blk
  have HP := Lib.hid hP
  have HL := Lib.hid hl
  have HBR := Lib.hid hB
  have KA := (Below.refl w.heap.size w).alloc (Nat.le_refl _) (.cells #[.int .i64 xp, .int .u64 xh, .int .i64 xc, .int .i64 xt, .bool xi] 122)
  have KB := KA.alloc KA.size (.cells #[.int .i64 0, .int .u64 0, .int .i64 0, .int .i64 0, .bool false] 122)
  have k4 := (Blk.new w 122 #[.int .i64 xp, .int .u64 xh, .int .i64 xc, .int .i64 xt, .bool xi]).alloc (.cells #[.int .i64 0, .int .u64 0, .int .i64 0, .int .i64 0, .bool false] 122)
  have k6 := Blk.new (w.alloc (.cells #[.int .i64 xp, .int .u64 xh, .int .i64 xc, .int .i64 xt, .bool xi] 122)) 122 #[.int .i64 0, .int .u64 0, .int .i64 0, .int .i64 0, .bool false]
  rw [World.size_alloc] at k6
  obtain ⟨W, hW⟩ : ∃ W, (w.alloc (.cells #[.int .i64 xp, .int .u64 xh, .int .i64 xc, .int .i64 xt, .bool xi] 122)).alloc (.cells #[.int .i64 0, .int .u64 0, .int .i64 0, .int .i64 0, .bool false] 122) = W := ⟨_, rfl⟩
  rw [hW] at KB k4 k6
  obtain ⟨G, hG⟩ : ∃ G, w.heap.size = G := ⟨_, rfl⟩
  rw [hG] at k4 k6
  have HGL : Hid (w.heap.size ≤ G) := Lib.hid (by rw [hG]; exact Nat.le_refl _)
  have HWE := Lib.hid hW
  have KX0 := Lib.hid KB
  have K40 := Lib.hid k4
  have K60 := Lib.hid k6
  have HHX := Lib.hid hxh
  obtain ⟨N, hN⟩ : ∃ N, xt + d = N := ⟨_, rfl⟩
  have eN : (xt : Int) + (d : Int) = (N : Int) := by omega
  have hN2 : N ≤ 2000 := by omega
  have HN := Lib.hid hN
  obtain ⟨M, hM⟩ : ∃ M, 10 * N = M := ⟨_, rfl⟩
  have eM : (10 : Int) * (N : Int) = (M : Int) := by omega
  have hM2 : M ≤ 20000 := by omega
  have HM := Lib.hid hM
  have i3 : W.cell? ⟨G, 3, none⟩ = some (.int .i64 xt) := k4.cell 3
  clear hP hl KA KB k4 k6 hW hN hM hB hxh
  change Calls Tryz.prog 130 #[.pointer (some ⟨g, 0, none⟩), .agg #[.int .i64 xp, .int .u64 xh, .int .i64 xc, .int .i64 xt, .bool xi], .int .i64 d] w _
  go_enter Tryz.func130, Tryz.ntmps130
  go_upto_region 1 with fail
  rw [HWE.out]
  try rw [hG]
  clear hG
  go_upto_region 2 with fail
  clear i3
  have HU1 := Lib.hid (update_any g l ls p q s HL.out h6 xh HHX.out (1) ((N : Int)) ⟨by omega, by omega⟩ W (HP.out.below KX0.out))
  have HUL1 := Lib.hid (upd_lt (l := l) (by omega) (1) ((N : Int)) HHX.out)
  obtain ⟨H1, hH1⟩ : ∃ H', upd l (1) ((N : Int)) xh = H' := ⟨_, rfl⟩
  have HE1 := Lib.hid hH1
  rw [hH1] at HU1 HUL1
  have cc := K40.out.cell
  have c1 : W.cell? ⟨G, 1, none⟩ = some (.int .u64 xh) := cc 1
  have c2 : W.cell? ⟨G, 2, none⟩ = some (.int .i64 xc) := cc 2
  clear hH1 cc
  go_wp2_with fail
  refine HU1.out.mono ?_
  rintro e w1 ⟨rfl, b⟩
  have KX1 := Lib.hid (st KX0.out b KX0.out.size)
  have K41 := Lib.hid (K40.out.below b)
  have K61 := Lib.hid (K60.out.below b)
  clear b
  clear c1 c2
  have dc0 : w1.cell? ⟨G, 1, none⟩ = some (.int .u64 xh) := (K41.out).cell 1
  have df0 : w1.frozen? ⟨G, 1, none⟩ = false := (K41.out).frozen 1
  have kx := (KX1.out).setCell (p := ⟨G, 1, none⟩) HGL.out (.int .u64 H1)
  have k4 := (K41.out).put 1 (.int .u64 H1)
  have k6 := (K61.out).far (p := ⟨G, 1, none⟩) (by show G + 1 ≠ G; omega) (.int .u64 H1)
  obtain ⟨vs2, hv⟩ : ∃ v, w1.setCell ⟨G, 1, none⟩ (.int .u64 H1) = v := ⟨_, rfl⟩
  rw [hv] at kx k4 k6
  have KXs2 := Lib.hid kx
  have K4s2 : Hid (Blk G 122 #[.int .i64 xp, .int .u64 H1, .int .i64 xc, .int .i64 xt, .bool xi] vs2) := Lib.hid k4
  have K6s2 := Lib.hid k6
  clear kx k4 k6
  go_upto_region 3 with fail
  try rw [hv]
  clear hv dc0 df0
  have HU3 := Lib.hid (update_any g l ls p q s HL.out h6 H1 HUL1.out (2) ((N : Int)) ⟨by omega, by omega⟩ vs2 (HP.out.below KXs2.out))
  have HUL3 := Lib.hid (upd_lt (l := l) (by omega) (2) ((N : Int)) HUL1.out)
  obtain ⟨H3, hH3⟩ : ∃ H', upd l (2) ((N : Int)) H1 = H' := ⟨_, rfl⟩
  have HE3 := Lib.hid hH3
  rw [hH3] at HU3 HUL3
  have cc := K4s2.out.cell
  have c1 : vs2.cell? ⟨G, 1, none⟩ = some (.int .u64 H1) := cc 1
  have c2 : vs2.cell? ⟨G, 2, none⟩ = some (.int .i64 xc) := cc 2
  clear hH3 cc
  go_wp2_with fail
  refine HU3.out.mono ?_
  rintro e w3 ⟨rfl, b⟩
  have KX3 := Lib.hid (st KXs2.out b KXs2.out.size)
  have K43 := Lib.hid (K4s2.out.below b)
  have K63 := Lib.hid (K6s2.out.below b)
  clear b
  clear c1 c2
  have dc0 : w3.cell? ⟨G, 1, none⟩ = some (.int .u64 H1) := (K43.out).cell 1
  have df0 : w3.frozen? ⟨G, 1, none⟩ = false := (K43.out).frozen 1
  have kx := (KX3.out).setCell (p := ⟨G, 1, none⟩) HGL.out (.int .u64 H3)
  have k4 := (K43.out).put 1 (.int .u64 H3)
  have k6 := (K63.out).far (p := ⟨G, 1, none⟩) (by show G + 1 ≠ G; omega) (.int .u64 H3)
  obtain ⟨vs4, hv⟩ : ∃ v, w3.setCell ⟨G, 1, none⟩ (.int .u64 H3) = v := ⟨_, rfl⟩
  rw [hv] at kx k4 k6
  have KXs4 := Lib.hid kx
  have K4s4 : Hid (Blk G 122 #[.int .i64 xp, .int .u64 H3, .int .i64 xc, .int .i64 xt, .bool xi] vs4) := Lib.hid k4
  have K6s4 := Lib.hid k6
  clear kx k4 k6
  go_upto_region 4 with fail
  try rw [hv]
  clear hv dc0 df0
  have HF := Lib.hid (firstS_any p ⟨by have := hp.lo; omega, hp.pos, by have := hp.hi; omega⟩ M (by omega) vs4)
  obtain ⟨R, hR⟩ : ∃ R, redO p.1 p.2 M = R := ⟨_, rfl⟩
  have HR := Lib.hid hR
  rw [hR] at HF
  have r2 : vs4.cell? ⟨g, 2, none⟩ = some (.int .i64 p.1) := (HBR.out.belowAt KXs4.out HBR.out.lt).cell 2
  have r3 : vs4.cell? ⟨g, 3, none⟩ = some (.int .i64 p.2) := (HBR.out.belowAt KXs4.out HBR.out.lt).cell 3
  clear hR
  go_wp2_with fail
  refine HF.out.mono ?_
  rintro e w9 ⟨rfl, b⟩
  have KX9 := Lib.hid (st KXs4.out b KXs4.out.size)
  have K49 := Lib.hid (K4s4.out.below b)
  have K69 := Lib.hid (K6s4.out.below b)
  clear b
  clear r2 r3
  have dc0 : w9.cell? ⟨G, 0, none⟩ = some (.int .i64 xp) := (K49.out).cell 0
  have df0 : w9.frozen? ⟨G, 0, none⟩ = false := (K49.out).frozen 0
  have dc1 : (w9.setCell ⟨G, 0, none⟩ (.int .i64 1)).cell? ⟨G, 3, none⟩ = some (.int .i64 xt) := ((K49.out).put 0 (.int .i64 1)).cell 3
  have df1 : (w9.setCell ⟨G, 0, none⟩ (.int .i64 1)).frozen? ⟨G, 3, none⟩ = false := ((K49.out).put 0 (.int .i64 1)).frozen 3
  have kx := ((KX9.out).setCell (p := ⟨G, 0, none⟩) HGL.out (.int .i64 1)).setCell (p := ⟨G, 3, none⟩) HGL.out (.int .i64 R)
  have k4 := ((K49.out).put 0 (.int .i64 1)).put 3 (.int .i64 R)
  have k6 := ((K69.out).far (p := ⟨G, 0, none⟩) (by show G + 1 ≠ G; omega) (.int .i64 1)).far (p := ⟨G, 3, none⟩) (by show G + 1 ≠ G; omega) (.int .i64 R)
  obtain ⟨vs5, hv⟩ : ∃ v, (w9.setCell ⟨G, 0, none⟩ (.int .i64 1)).setCell ⟨G, 3, none⟩ (.int .i64 R) = v := ⟨_, rfl⟩
  rw [hv] at kx k4 k6
  have KXs5 := Lib.hid kx
  have K4s5 : Hid (Blk G 122 #[.int .i64 1, .int .u64 H3, .int .i64 xc, .int .i64 R, .bool xi] vs5) := Lib.hid k4
  have K6s5 := Lib.hid k6
  clear kx k4 k6
  go_upto_region 5 with fail
  try rw [hv]
  clear hv dc0 df0 dc1 df1
  have s0 : vs5.cell? ⟨G, 0, none⟩ = some (.int .i64 1) := K4s5.out.cell 0
  have s1 : vs5.cell? ⟨G, 1, none⟩ = some (.int .u64 H3) := K4s5.out.cell 1
  have s2 : vs5.cell? ⟨G, 2, none⟩ = some (.int .i64 xc) := K4s5.out.cell 2
  have s3 : vs5.cell? ⟨G, 3, none⟩ = some (.int .i64 R) := K4s5.out.cell 3
  have s4 : vs5.cell? ⟨G, 4, none⟩ = some (.bool xi) := K4s5.out.cell 4
  have z00 : vs5.cell? ⟨G + 1, 0, none⟩ = some (.int .i64 0) := (K6s5.out).cell 0
  have zf00 : vs5.frozen? ⟨G + 1, 0, none⟩ = false := (K6s5.out).frozen 0
  have z01 : vs5.cell? ⟨G + 1, 1, none⟩ = some (.int .u64 0) := (K6s5.out).cell 1
  have zf01 : vs5.frozen? ⟨G + 1, 1, none⟩ = false := (K6s5.out).frozen 1
  have z02 : vs5.cell? ⟨G + 1, 2, none⟩ = some (.int .i64 0) := (K6s5.out).cell 2
  have zf02 : vs5.frozen? ⟨G + 1, 2, none⟩ = false := (K6s5.out).frozen 2
  have z03 : vs5.cell? ⟨G + 1, 3, none⟩ = some (.int .i64 0) := (K6s5.out).cell 3
  have zf03 : vs5.frozen? ⟨G + 1, 3, none⟩ = false := (K6s5.out).frozen 3
  have z04 : vs5.cell? ⟨G + 1, 4, none⟩ = some (.bool false) := (K6s5.out).cell 4
  have zf04 : vs5.frozen? ⟨G + 1, 4, none⟩ = false := (K6s5.out).frozen 4
  have z11 : (vs5.setCell ⟨G + 1, 0, none⟩ (.int .i64 1)).cell? ⟨G + 1, 1, none⟩ = some (.int .u64 0) := ((K6s5.out).put 0 (.int .i64 1)).cell 1
  have zf11 : (vs5.setCell ⟨G + 1, 0, none⟩ (.int .i64 1)).frozen? ⟨G + 1, 1, none⟩ = false := ((K6s5.out).put 0 (.int .i64 1)).frozen 1
  have z22 : ((vs5.setCell ⟨G + 1, 0, none⟩ (.int .i64 1)).setCell ⟨G + 1, 1, none⟩ (.int .u64 H3)).cell? ⟨G + 1, 2, none⟩ = some (.int .i64 0) := (((K6s5.out).put 0 (.int .i64 1)).put 1 (.int .u64 H3)).cell 2
  have zf22 : ((vs5.setCell ⟨G + 1, 0, none⟩ (.int .i64 1)).setCell ⟨G + 1, 1, none⟩ (.int .u64 H3)).frozen? ⟨G + 1, 2, none⟩ = false := (((K6s5.out).put 0 (.int .i64 1)).put 1 (.int .u64 H3)).frozen 2
  have z33 : (((vs5.setCell ⟨G + 1, 0, none⟩ (.int .i64 1)).setCell ⟨G + 1, 1, none⟩ (.int .u64 H3)).setCell ⟨G + 1, 2, none⟩ (.int .i64 xc)).cell? ⟨G + 1, 3, none⟩ = some (.int .i64 0) := ((((K6s5.out).put 0 (.int .i64 1)).put 1 (.int .u64 H3)).put 2 (.int .i64 xc)).cell 3
  have zf33 : (((vs5.setCell ⟨G + 1, 0, none⟩ (.int .i64 1)).setCell ⟨G + 1, 1, none⟩ (.int .u64 H3)).setCell ⟨G + 1, 2, none⟩ (.int .i64 xc)).frozen? ⟨G + 1, 3, none⟩ = false := ((((K6s5.out).put 0 (.int .i64 1)).put 1 (.int .u64 H3)).put 2 (.int .i64 xc)).frozen 3
  have z44 : ((((vs5.setCell ⟨G + 1, 0, none⟩ (.int .i64 1)).setCell ⟨G + 1, 1, none⟩ (.int .u64 H3)).setCell ⟨G + 1, 2, none⟩ (.int .i64 xc)).setCell ⟨G + 1, 3, none⟩ (.int .i64 R)).cell? ⟨G + 1, 4, none⟩ = some (.bool false) := (((((K6s5.out).put 0 (.int .i64 1)).put 1 (.int .u64 H3)).put 2 (.int .i64 xc)).put 3 (.int .i64 R)).cell 4
  have zf44 : ((((vs5.setCell ⟨G + 1, 0, none⟩ (.int .i64 1)).setCell ⟨G + 1, 1, none⟩ (.int .u64 H3)).setCell ⟨G + 1, 2, none⟩ (.int .i64 xc)).setCell ⟨G + 1, 3, none⟩ (.int .i64 R)).frozen? ⟨G + 1, 4, none⟩ = false := (((((K6s5.out).put 0 (.int .i64 1)).put 1 (.int .u64 H3)).put 2 (.int .i64 xc)).put 3 (.int .i64 R)).frozen 4
  have HFIN : Hid (Blk (G + 1) 122 #[.int .i64 1, .int .u64 H3, .int .i64 xc, .int .i64 R, .bool xi] (put5 vs5 (G + 1) (.int .i64 1) (.int .u64 H3) (.int .i64 xc) (.int .i64 R) (.bool xi)) ∧ Below w.heap.size w (put5 vs5 (G + 1) (.int .i64 1) (.int .u64 H3) (.int .i64 xc) (.int .i64 R) (.bool xi))) := Lib.hid (put5_ok K6s5.out KXs5.out (by have := HGL.out; omega))
  have HV : Hid (nxW l p ⟨xp, xh, xc, xt, xi⟩ d = ⟨1, H3, xc, R, xi⟩) := Lib.hid (by unfold nxW; dsimp only; rw [HN.out, HM.out, HE1.out, HE3.out, HR.out])
  go_wp2
  exact bodyPost_ret (v := .agg #[.int .i64 1, .int .u64 H3, .int .i64 xc, .int .i64 R, .bool xi]) (resRgW rfl HFIN.out.1) rfl ⟨by rw [HV.out]; rfl, HFIN.out.2⟩
set_option maxRecDepth 1000000 in
set_option maxHeartbeats 16000000 in
theorem nextF_any (g : Nat) (l : List Rel) (ls : List (List Nat)) (p q s : Nat × Nat) (hl : ∀ r ∈ l, OkR r) (h6 : l.length ≤ 60) (hp : ScOk p) (hq : ScOk q) (hs : ScOk s) (x : Rg) (hx : RgOk x) (d : Nat) (hd : d < 10) (w : World) (hP : RelP w g l ls p q s) :
    Calls Tryz.prog 131 #[.pointer (some ⟨g, 0, none⟩), .agg (encRg x).toArray, .int .i64 d] w fun e w' => e = .returned (.agg (encRg (nxF l q s x d)).toArray) ∧ Below w.heap.size w w' := by
  obtain ⟨xp, xh, xc, xt, xi⟩ := x
  obtain ⟨hxh, hxc, hxt⟩ := hx
  dsimp only at hxh hxc hxt
  obtain ⟨ga, gc, gb, gd, hB, _, _⟩ := hP.blk
  have HP := Lib.hid hP
  have HL := Lib.hid hl
  have HBR := Lib.hid hB
  have KA := (Below.refl w.heap.size w).alloc (Nat.le_refl _) (.cells #[.int .i64 xp, .int .u64 xh, .int .i64 xc, .int .i64 xt, .bool xi] 122)
  have KB := KA.alloc KA.size (.cells #[.int .i64 0, .int .u64 0, .int .i64 0, .int .i64 0, .bool false] 122)
  have k4 := (Blk.new w 122 #[.int .i64 xp, .int .u64 xh, .int .i64 xc, .int .i64 xt, .bool xi]).alloc (.cells #[.int .i64 0, .int .u64 0, .int .i64 0, .int .i64 0, .bool false] 122)
  have k6 := Blk.new (w.alloc (.cells #[.int .i64 xp, .int .u64 xh, .int .i64 xc, .int .i64 xt, .bool xi] 122)) 122 #[.int .i64 0, .int .u64 0, .int .i64 0, .int .i64 0, .bool false]
  rw [World.size_alloc] at k6
  obtain ⟨W, hW⟩ : ∃ W, (w.alloc (.cells #[.int .i64 xp, .int .u64 xh, .int .i64 xc, .int .i64 xt, .bool xi] 122)).alloc (.cells #[.int .i64 0, .int .u64 0, .int .i64 0, .int .i64 0, .bool false] 122) = W := ⟨_, rfl⟩
  rw [hW] at KB k4 k6
  obtain ⟨G, hG⟩ : ∃ G, w.heap.size = G := ⟨_, rfl⟩
  rw [hG] at k4 k6
  have HGL : Hid (w.heap.size ≤ G) := Lib.hid (by rw [hG]; exact Nat.le_refl _)
  have HWE := Lib.hid hW
  have KX0 := Lib.hid KB
  have K40 := Lib.hid k4
  have K60 := Lib.hid k6
  have HHX := Lib.hid hxh
  obtain ⟨N, hN⟩ : ∃ N, xt + d = N := ⟨_, rfl⟩
  have eN : (xt : Int) + (d : Int) = (N : Int) := by omega
  have hN2 : N ≤ 2000 := by omega
  have HN := Lib.hid hN
  obtain ⟨M, hM⟩ : ∃ M, 10 * N = M := ⟨_, rfl⟩
  have eM : (10 : Int) * (N : Int) = (M : Int) := by omega
  have hM2 : M ≤ 20000 := by omega
  have HM := Lib.hid hM
  have i3 : W.cell? ⟨G, 3, none⟩ = some (.int .i64 xt) := k4.cell 3
  clear hP hl KA KB k4 k6 hW hN hM hB hxh
  change Calls Tryz.prog 131 #[.pointer (some ⟨g, 0, none⟩), .agg #[.int .i64 xp, .int .u64 xh, .int .i64 xc, .int .i64 xt, .bool xi], .int .i64 d] w _
  go_enter Tryz.func131, Tryz.ntmps131
  go_upto_region 1 with fail
  rw [HWE.out]
  try rw [hG]
  clear hG
  go_upto_region 2 with fail
  clear i3
  have HF := Lib.hid (firstS_any s ⟨by have := hs.lo; omega, hs.pos, by have := hs.hi; omega⟩ M (by omega) W)
  obtain ⟨R, hR⟩ : ∃ R, redO s.1 s.2 M = R := ⟨_, rfl⟩
  have HR := Lib.hid hR
  rw [hR] at HF
  have r2 : W.cell? ⟨g, 6, none⟩ = some (.int .i64 s.1) := (HBR.out.belowAt KX0.out HBR.out.lt).cell 6
  have r3 : W.cell? ⟨g, 7, none⟩ = some (.int .i64 s.2) := (HBR.out.belowAt KX0.out HBR.out.lt).cell 7
  clear hR
  go_wp2_with fail
  refine HF.out.mono ?_
  rintro e w9 ⟨rfl, b⟩
  have KX9 := Lib.hid (st KX0.out b KX0.out.size)
  have K49 := Lib.hid (K40.out.below b)
  have K69 := Lib.hid (K60.out.below b)
  clear b
  clear r2 r3
  have dc0 : w9.cell? ⟨G, 0, none⟩ = some (.int .i64 xp) := (K49.out).cell 0
  have df0 : w9.frozen? ⟨G, 0, none⟩ = false := (K49.out).frozen 0
  have dc1 : (w9.setCell ⟨G, 0, none⟩ (.int .i64 3)).cell? ⟨G, 3, none⟩ = some (.int .i64 xt) := ((K49.out).put 0 (.int .i64 3)).cell 3
  have df1 : (w9.setCell ⟨G, 0, none⟩ (.int .i64 3)).frozen? ⟨G, 3, none⟩ = false := ((K49.out).put 0 (.int .i64 3)).frozen 3
  have kx := ((KX9.out).setCell (p := ⟨G, 0, none⟩) HGL.out (.int .i64 3)).setCell (p := ⟨G, 3, none⟩) HGL.out (.int .i64 R)
  have k4 := ((K49.out).put 0 (.int .i64 3)).put 3 (.int .i64 R)
  have k6 := ((K69.out).far (p := ⟨G, 0, none⟩) (by show G + 1 ≠ G; omega) (.int .i64 3)).far (p := ⟨G, 3, none⟩) (by show G + 1 ≠ G; omega) (.int .i64 R)
  obtain ⟨vs1, hv⟩ : ∃ v, (w9.setCell ⟨G, 0, none⟩ (.int .i64 3)).setCell ⟨G, 3, none⟩ (.int .i64 R) = v := ⟨_, rfl⟩
  rw [hv] at kx k4 k6
  have KXs1 := Lib.hid kx
  have K4s1 : Hid (Blk G 122 #[.int .i64 3, .int .u64 xh, .int .i64 xc, .int .i64 R, .bool xi] vs1) := Lib.hid k4
  have K6s1 := Lib.hid k6
  clear kx k4 k6
  go_upto_region 3 with fail
  try rw [hv]
  clear hv dc0 df0 dc1 df1
  have HCQ : Hid (redO q.1 q.2 (xc + 1) ≤ 400) := Lib.hid (hq.lt (xc + 1))
  have HFQ := Lib.hid (fun wx => firstS_any q ⟨by have := hq.lo; omega, hq.pos, by have := hq.hi; omega⟩ (xc + 1) (by omega) wx)
  obtain ⟨C, hC⟩ : ∃ C, redO q.1 q.2 (xc + 1) = C := ⟨_, rfl⟩
  have HC := Lib.hid hC
  rw [hC] at HFQ HCQ
  clear hC
  obtain ⟨C1, hC1⟩ : ∃ C1, xc + 1 = C1 := ⟨_, rfl⟩
  have eC : (xc : Int) + 1 = (C1 : Int) := by omega
  rw [hC1] at HFQ
  clear hC1
  have r2 : vs1.cell? ⟨g, 4, none⟩ = some (.int .i64 q.1) := (HBR.out.belowAt KXs1.out HBR.out.lt).cell 4
  have r3 : vs1.cell? ⟨g, 5, none⟩ = some (.int .i64 q.2) := (HBR.out.belowAt KXs1.out HBR.out.lt).cell 5
  have r4 : vs1.cell? ⟨G, 2, none⟩ = some (.int .i64 xc) := K4s1.out.cell 2
  have hC2 := HCQ.out
  have hS : (fun wx : World => wx.cell? ⟨g, 4, none⟩ = some (.int .i64 q.1) ∧ wx.cell? ⟨g, 5, none⟩ = some (.int .i64 q.2) ∧ wx.cell? ⟨G, 2, none⟩ = some (.int .i64 xc)) vs1.drew := ⟨r2, r3, r4⟩
  refine region_hd 7 (fun wx : World => wx.cell? ⟨g, 4, none⟩ = some (.int .i64 q.1) ∧ wx.cell? ⟨g, 5, none⟩ = some (.int .i64 q.2) ∧ wx.cell? ⟨G, 2, none⟩ = some (.int .i64 xc)) (by kernel_rfl) (by kernel_rfl) ?_
  refine hd_taken 0 (some 21) _ ?hdv0 rfl rfl (by kernel_rfl) (fun _ _ _ h => h) (Or.inl ⟨by kernel_rfl, ?hdy0⟩) hS ?hdr0
  case hdy0 => (intro wx hx; (try dsimp only at hx); go_simp; try with_reducible rfl)
  try simp only [Act.put, List.setIfInBounds_toArray, List.set_cons_zero, List.set_cons_succ]
  refine hd_taken 1 (some 22) _ ?hdv1 rfl rfl (by kernel_rfl) (fun _ _ _ h => h) (Or.inl ⟨by kernel_rfl, ?hdy1⟩) hS ?hdr1
  case hdy1 => (intro wx hx; (try dsimp only at hx); go_simp; try with_reducible rfl)
  try simp only [Act.put, List.setIfInBounds_toArray, List.set_cons_zero, List.set_cons_succ]
  refine hd_taken 2 (some 23) _ ?hdv2 rfl rfl (by kernel_rfl) (fun _ _ _ h => h) (Or.inl ⟨by kernel_rfl, ?hdy2⟩) hS ?hdr2
  case hdy2 => (intro wx hx; (try dsimp only at hx); go_simp; try with_reducible rfl)
  try simp only [Act.put, List.setIfInBounds_toArray, List.set_cons_zero, List.set_cons_succ]
  refine hd_taken 3 (some 24) _ ?hdv3 rfl rfl (by kernel_rfl) (fun _ _ _ h => h) (Or.inl ⟨by kernel_rfl, ?hdy3⟩) hS ?hdr3
  case hdy3 => (intro wx hx; (try dsimp only at hx); go_simp; try with_reducible rfl)
  try simp only [Act.put, List.setIfInBounds_toArray, List.set_cons_zero, List.set_cons_succ]
  refine hd_taken 4 (some 25) _ ?hdv4 rfl rfl (by kernel_rfl) (fun _ _ _ h => h) (Or.inl ⟨by kernel_rfl, ?hdy4⟩) hS ?hdr4
  case hdy4 => (intro wx hx; (try dsimp only at hx); go_simp; try with_reducible rfl)
  try simp only [Act.put, List.setIfInBounds_toArray, List.set_cons_zero, List.set_cons_succ]
  refine hd_taken 5 (some 26) _ ?hdv5 rfl rfl (by kernel_rfl) (fun _ _ _ h => h) (Or.inl ⟨by kernel_rfl, ?hdy5⟩) hS ?hdr5
  case hdy5 => (intro wx hx; (try dsimp only at hx); go_simp; try with_reducible rfl)
  try simp only [Act.put, List.setIfInBounds_toArray, List.set_cons_zero, List.set_cons_succ]
  refine hd_taken 6 (some 27) _ ?hdv6 rfl rfl (by kernel_rfl) (fun _ _ _ h => h) (Or.inl ⟨by kernel_rfl, ?hdy6⟩) hS ?hdr6
  case hdy6 => (intro wx hx; (try dsimp only at hx); go_simp; try with_reducible rfl)
  try simp only [Act.put, List.setIfInBounds_toArray, List.set_cons_zero, List.set_cons_succ]
  refine hd_done (by kernel_rfl) ?_
  simp only [List.drop_succ_cons, List.drop_zero]
  clear hS
  go_wp2_with fail
  refine (HFQ.out _).mono ?_
  rintro e w8 ⟨rfl, b⟩
  have KXd := Lib.hid (KXs1.out.drew)
  have K4d := Lib.hid (K4s1.out.below ((Below.refl _ vs1).drew))
  have K6d := Lib.hid (K6s1.out.below ((Below.refl _ vs1).drew))
  clear r2 r3 r4
  have KXe := Lib.hid (st KXd.out b KXd.out.size)
  have K4e := Lib.hid (K4d.out.below b)
  have K6e := Lib.hid (K6d.out.below b)
  clear b
  have dc0 : w8.cell? ⟨G, 2, none⟩ = some (.int .i64 xc) := (K4e.out).cell 2
  have df0 : w8.frozen? ⟨G, 2, none⟩ = false := (K4e.out).frozen 2
  have kx := (KXe.out).setCell (p := ⟨G, 2, none⟩) HGL.out (.int .i64 C)
  have k4 := (K4e.out).put 2 (.int .i64 C)
  have k6 := (K6e.out).far (p := ⟨G, 2, none⟩) (by show G + 1 ≠ G; omega) (.int .i64 C)
  obtain ⟨vs2, hv⟩ : ∃ v, w8.setCell ⟨G, 2, none⟩ (.int .i64 C) = v := ⟨_, rfl⟩
  rw [hv] at kx k4 k6
  have KXs2 := Lib.hid kx
  have K4s2 : Hid (Blk G 122 #[.int .i64 3, .int .u64 xh, .int .i64 C, .int .i64 R, .bool xi] vs2) := Lib.hid k4
  have K6s2 := Lib.hid k6
  clear kx k4 k6
  go_upto_region 4 with fail
  try rw [hv]
  clear hv dc0 df0
  have HU3 := Lib.hid (update_any g l ls p q s HL.out h6 xh HHX.out (3) ((C : Int)) ⟨by omega, by omega⟩ vs2 (HP.out.below KXs2.out))
  have HUL3 := Lib.hid (upd_lt (l := l) (by omega) (3) ((C : Int)) HHX.out)
  obtain ⟨H3, hH3⟩ : ∃ H', upd l (3) ((C : Int)) xh = H' := ⟨_, rfl⟩
  have HE3 := Lib.hid hH3
  rw [hH3] at HU3 HUL3
  have cc := K4s2.out.cell
  have c1 : vs2.cell? ⟨G, 1, none⟩ = some (.int .u64 xh) := cc 1
  have c2 : vs2.cell? ⟨G, 2, none⟩ = some (.int .i64 C) := cc 2
  clear hH3 cc
  go_wp2_with fail
  refine HU3.out.mono ?_
  rintro e w3 ⟨rfl, b⟩
  have KX3 := Lib.hid (st KXs2.out b KXs2.out.size)
  have K43 := Lib.hid (K4s2.out.below b)
  have K63 := Lib.hid (K6s2.out.below b)
  clear b
  clear c1 c2
  have dc0 : w3.cell? ⟨G, 1, none⟩ = some (.int .u64 xh) := (K43.out).cell 1
  have df0 : w3.frozen? ⟨G, 1, none⟩ = false := (K43.out).frozen 1
  have kx := (KX3.out).setCell (p := ⟨G, 1, none⟩) HGL.out (.int .u64 H3)
  have k4 := (K43.out).put 1 (.int .u64 H3)
  have k6 := (K63.out).far (p := ⟨G, 1, none⟩) (by show G + 1 ≠ G; omega) (.int .u64 H3)
  obtain ⟨vs4, hv⟩ : ∃ v, w3.setCell ⟨G, 1, none⟩ (.int .u64 H3) = v := ⟨_, rfl⟩
  rw [hv] at kx k4 k6
  have KXs4 := Lib.hid kx
  have K4s4 : Hid (Blk G 122 #[.int .i64 3, .int .u64 H3, .int .i64 C, .int .i64 R, .bool xi] vs4) := Lib.hid k4
  have K6s4 := Lib.hid k6
  clear kx k4 k6
  go_upto_region 5 with fail
  try rw [hv]
  clear hv dc0 df0
  have HU5 := Lib.hid (update_any g l ls p q s HL.out h6 H3 HUL3.out (5) ((N : Int)) ⟨by omega, by omega⟩ vs4 (HP.out.below KXs4.out))
  have HUL5 := Lib.hid (upd_lt (l := l) (by omega) (5) ((N : Int)) HUL3.out)
  obtain ⟨H5, hH5⟩ : ∃ H', upd l (5) ((N : Int)) H3 = H' := ⟨_, rfl⟩
  have HE5 := Lib.hid hH5
  rw [hH5] at HU5 HUL5
  have cc := K4s4.out.cell
  have c1 : vs4.cell? ⟨G, 1, none⟩ = some (.int .u64 H3) := cc 1
  have c2 : vs4.cell? ⟨G, 2, none⟩ = some (.int .i64 C) := cc 2
  clear hH5 cc
  go_wp2_with fail
  refine HU5.out.mono ?_
  rintro e w5 ⟨rfl, b⟩
  have KX5 := Lib.hid (st KXs4.out b KXs4.out.size)
  have K45 := Lib.hid (K4s4.out.below b)
  have K65 := Lib.hid (K6s4.out.below b)
  clear b
  clear c1 c2
  have dc0 : w5.cell? ⟨G, 1, none⟩ = some (.int .u64 H3) := (K45.out).cell 1
  have df0 : w5.frozen? ⟨G, 1, none⟩ = false := (K45.out).frozen 1
  have kx := (KX5.out).setCell (p := ⟨G, 1, none⟩) HGL.out (.int .u64 H5)
  have k4 := (K45.out).put 1 (.int .u64 H5)
  have k6 := (K65.out).far (p := ⟨G, 1, none⟩) (by show G + 1 ≠ G; omega) (.int .u64 H5)
  obtain ⟨vs6, hv⟩ : ∃ v, w5.setCell ⟨G, 1, none⟩ (.int .u64 H5) = v := ⟨_, rfl⟩
  rw [hv] at kx k4 k6
  have KXs6 := Lib.hid kx
  have K4s6 : Hid (Blk G 122 #[.int .i64 3, .int .u64 H5, .int .i64 C, .int .i64 R, .bool xi] vs6) := Lib.hid k4
  have K6s6 := Lib.hid k6
  clear kx k4 k6
  go_upto_region 6 with fail
  try rw [hv]
  clear hv dc0 df0
  by_cases hd0 : d = 0
  · subst hd0
    have t0 : (((0 : Nat) : Int) != 0) = false := rfl
    have s0 : vs6.cell? ⟨G, 0, none⟩ = some (.int .i64 3) := K4s6.out.cell 0
    have s1 : vs6.cell? ⟨G, 1, none⟩ = some (.int .u64 H5) := K4s6.out.cell 1
    have s2 : vs6.cell? ⟨G, 2, none⟩ = some (.int .i64 C) := K4s6.out.cell 2
    have s3 : vs6.cell? ⟨G, 3, none⟩ = some (.int .i64 R) := K4s6.out.cell 3
    have s4 : vs6.cell? ⟨G, 4, none⟩ = some (.bool xi) := K4s6.out.cell 4
    have z00 : vs6.cell? ⟨G + 1, 0, none⟩ = some (.int .i64 0) := (K6s6.out).cell 0
    have zf00 : vs6.frozen? ⟨G + 1, 0, none⟩ = false := (K6s6.out).frozen 0
    have z01 : vs6.cell? ⟨G + 1, 1, none⟩ = some (.int .u64 0) := (K6s6.out).cell 1
    have zf01 : vs6.frozen? ⟨G + 1, 1, none⟩ = false := (K6s6.out).frozen 1
    have z02 : vs6.cell? ⟨G + 1, 2, none⟩ = some (.int .i64 0) := (K6s6.out).cell 2
    have zf02 : vs6.frozen? ⟨G + 1, 2, none⟩ = false := (K6s6.out).frozen 2
    have z03 : vs6.cell? ⟨G + 1, 3, none⟩ = some (.int .i64 0) := (K6s6.out).cell 3
    have zf03 : vs6.frozen? ⟨G + 1, 3, none⟩ = false := (K6s6.out).frozen 3
    have z04 : vs6.cell? ⟨G + 1, 4, none⟩ = some (.bool false) := (K6s6.out).cell 4
    have zf04 : vs6.frozen? ⟨G + 1, 4, none⟩ = false := (K6s6.out).frozen 4
    have z11 : (vs6.setCell ⟨G + 1, 0, none⟩ (.int .i64 3)).cell? ⟨G + 1, 1, none⟩ = some (.int .u64 0) := ((K6s6.out).put 0 (.int .i64 3)).cell 1
    have zf11 : (vs6.setCell ⟨G + 1, 0, none⟩ (.int .i64 3)).frozen? ⟨G + 1, 1, none⟩ = false := ((K6s6.out).put 0 (.int .i64 3)).frozen 1
    have z22 : ((vs6.setCell ⟨G + 1, 0, none⟩ (.int .i64 3)).setCell ⟨G + 1, 1, none⟩ (.int .u64 H5)).cell? ⟨G + 1, 2, none⟩ = some (.int .i64 0) := (((K6s6.out).put 0 (.int .i64 3)).put 1 (.int .u64 H5)).cell 2
    have zf22 : ((vs6.setCell ⟨G + 1, 0, none⟩ (.int .i64 3)).setCell ⟨G + 1, 1, none⟩ (.int .u64 H5)).frozen? ⟨G + 1, 2, none⟩ = false := (((K6s6.out).put 0 (.int .i64 3)).put 1 (.int .u64 H5)).frozen 2
    have z33 : (((vs6.setCell ⟨G + 1, 0, none⟩ (.int .i64 3)).setCell ⟨G + 1, 1, none⟩ (.int .u64 H5)).setCell ⟨G + 1, 2, none⟩ (.int .i64 C)).cell? ⟨G + 1, 3, none⟩ = some (.int .i64 0) := ((((K6s6.out).put 0 (.int .i64 3)).put 1 (.int .u64 H5)).put 2 (.int .i64 C)).cell 3
    have zf33 : (((vs6.setCell ⟨G + 1, 0, none⟩ (.int .i64 3)).setCell ⟨G + 1, 1, none⟩ (.int .u64 H5)).setCell ⟨G + 1, 2, none⟩ (.int .i64 C)).frozen? ⟨G + 1, 3, none⟩ = false := ((((K6s6.out).put 0 (.int .i64 3)).put 1 (.int .u64 H5)).put 2 (.int .i64 C)).frozen 3
    have z44 : ((((vs6.setCell ⟨G + 1, 0, none⟩ (.int .i64 3)).setCell ⟨G + 1, 1, none⟩ (.int .u64 H5)).setCell ⟨G + 1, 2, none⟩ (.int .i64 C)).setCell ⟨G + 1, 3, none⟩ (.int .i64 R)).cell? ⟨G + 1, 4, none⟩ = some (.bool false) := (((((K6s6.out).put 0 (.int .i64 3)).put 1 (.int .u64 H5)).put 2 (.int .i64 C)).put 3 (.int .i64 R)).cell 4
    have zf44 : ((((vs6.setCell ⟨G + 1, 0, none⟩ (.int .i64 3)).setCell ⟨G + 1, 1, none⟩ (.int .u64 H5)).setCell ⟨G + 1, 2, none⟩ (.int .i64 C)).setCell ⟨G + 1, 3, none⟩ (.int .i64 R)).frozen? ⟨G + 1, 4, none⟩ = false := (((((K6s6.out).put 0 (.int .i64 3)).put 1 (.int .u64 H5)).put 2 (.int .i64 C)).put 3 (.int .i64 R)).frozen 4
    have HFIN : Hid (Blk (G + 1) 122 #[.int .i64 3, .int .u64 H5, .int .i64 C, .int .i64 R, .bool xi] (put5 vs6 (G + 1) (.int .i64 3) (.int .u64 H5) (.int .i64 C) (.int .i64 R) (.bool xi)) ∧ Below w.heap.size w (put5 vs6 (G + 1) (.int .i64 3) (.int .u64 H5) (.int .i64 C) (.int .i64 R) (.bool xi))) := Lib.hid (put5_ok K6s6.out KXs6.out (by have := HGL.out; omega))
    have HV : Hid (nxF l q s ⟨xp, xh, xc, xt, xi⟩ 0 = ⟨3, H5, C, R, xi⟩) := Lib.hid (by unfold nxF nxF0; rw [if_pos rfl]; dsimp only; rw [HN.out, HM.out, HC.out, HE3.out, HE5.out, HR.out])
    go_wp2
    exact bodyPost_ret (v := .agg #[.int .i64 3, .int .u64 H5, .int .i64 C, .int .i64 R, .bool xi]) (resRgF rfl HFIN.out.1) rfl ⟨by rw [HV.out]; rfl, HFIN.out.2⟩
  · have t0 : ((d : Int) != 0) = true := by rw [bne_iff_ne]; omega
    have HD0 := Lib.hid hd0
    clear hd0
    have c4 : vs6.cell? ⟨G, 4, none⟩ = some (.bool xi) := K4s6.out.cell 4
    have c5 : vs6.frozen? ⟨G, 4, none⟩ = false := K4s6.out.frozen 4
    have KXq := KXs6
    have K4q := K4s6
    have K6q := K6s6
    have dc0 : vs6.cell? ⟨G, 4, none⟩ = some (.bool xi) := (K4q.out).cell 4
    have df0 : vs6.frozen? ⟨G, 4, none⟩ = false := (K4q.out).frozen 4
    have kx := (KXq.out).setCell (p := ⟨G, 4, none⟩) HGL.out (.bool false)
    have k4 := (K4q.out).put 4 (.bool false)
    have k6 := (K6q.out).far (p := ⟨G, 4, none⟩) (by show G + 1 ≠ G; omega) (.bool false)
    obtain ⟨vs7, hv⟩ : ∃ v, vs6.setCell ⟨G, 4, none⟩ (.bool false) = v := ⟨_, rfl⟩
    rw [hv] at kx k4 k6
    have KXs7 := Lib.hid kx
    have K4s7 : Hid (Blk G 122 #[.int .i64 3, .int .u64 H5, .int .i64 C, .int .i64 R, .bool false] vs7) := Lib.hid k4
    have K6s7 := Lib.hid k6
    clear kx k4 k6
    go_upto_region 8 with fail
    try rw [hv]
    clear hv dc0 df0
    clear c4 c5
    have HU8 := Lib.hid (update_any g l ls p q s HL.out h6 H5 HUL5.out (1) (-1) ⟨by omega, by omega⟩ vs7 (HP.out.below KXs7.out))
    have HUL8 := Lib.hid (upd_lt (l := l) (by omega) (1) (-1) HUL5.out)
    obtain ⟨H8, hH8⟩ : ∃ H', upd l (1) (-1) H5 = H' := ⟨_, rfl⟩
    have HE8 := Lib.hid hH8
    rw [hH8] at HU8 HUL8
    have cc := K4s7.out.cell
    have c1 : vs7.cell? ⟨G, 1, none⟩ = some (.int .u64 H5) := cc 1
    have c2 : vs7.cell? ⟨G, 2, none⟩ = some (.int .i64 C) := cc 2
    clear hH8 cc
    go_wp2_with fail
    refine HU8.out.mono ?_
    rintro e w8 ⟨rfl, b⟩
    have KX8 := Lib.hid (st KXs7.out b KXs7.out.size)
    have K48 := Lib.hid (K4s7.out.below b)
    have K68 := Lib.hid (K6s7.out.below b)
    clear b
    clear c1 c2
    have dc0 : w8.cell? ⟨G, 1, none⟩ = some (.int .u64 H5) := (K48.out).cell 1
    have df0 : w8.frozen? ⟨G, 1, none⟩ = false := (K48.out).frozen 1
    have kx := (KX8.out).setCell (p := ⟨G, 1, none⟩) HGL.out (.int .u64 H8)
    have k4 := (K48.out).put 1 (.int .u64 H8)
    have k6 := (K68.out).far (p := ⟨G, 1, none⟩) (by show G + 1 ≠ G; omega) (.int .u64 H8)
    obtain ⟨vs9, hv⟩ : ∃ v, w8.setCell ⟨G, 1, none⟩ (.int .u64 H8) = v := ⟨_, rfl⟩
    rw [hv] at kx k4 k6
    have KXs9 := Lib.hid kx
    have K4s9 : Hid (Blk G 122 #[.int .i64 3, .int .u64 H8, .int .i64 C, .int .i64 R, .bool false] vs9) := Lib.hid k4
    have K6s9 := Lib.hid k6
    clear kx k4 k6
    go_upto_region 9 with fail
    try rw [hv]
    clear hv dc0 df0
    have HU10 := Lib.hid (update_any g l ls p q s HL.out h6 H8 HUL8.out (4) ((C : Int)) ⟨by omega, by omega⟩ vs9 (HP.out.below KXs9.out))
    have HUL10 := Lib.hid (upd_lt (l := l) (by omega) (4) ((C : Int)) HUL8.out)
    obtain ⟨H10, hH10⟩ : ∃ H', upd l (4) ((C : Int)) H8 = H' := ⟨_, rfl⟩
    have HE10 := Lib.hid hH10
    rw [hH10] at HU10 HUL10
    have cc := K4s9.out.cell
    have c1 : vs9.cell? ⟨G, 1, none⟩ = some (.int .u64 H8) := cc 1
    have c2 : vs9.cell? ⟨G, 2, none⟩ = some (.int .i64 C) := cc 2
    clear hH10 cc
    go_wp2_with fail
    refine HU10.out.mono ?_
    rintro e w10 ⟨rfl, b⟩
    have KX10 := Lib.hid (st KXs9.out b KXs9.out.size)
    have K410 := Lib.hid (K4s9.out.below b)
    have K610 := Lib.hid (K6s9.out.below b)
    clear b
    clear c1 c2
    have dc0 : w10.cell? ⟨G, 1, none⟩ = some (.int .u64 H8) := (K410.out).cell 1
    have df0 : w10.frozen? ⟨G, 1, none⟩ = false := (K410.out).frozen 1
    have kx := (KX10.out).setCell (p := ⟨G, 1, none⟩) HGL.out (.int .u64 H10)
    have k4 := (K410.out).put 1 (.int .u64 H10)
    have k6 := (K610.out).far (p := ⟨G, 1, none⟩) (by show G + 1 ≠ G; omega) (.int .u64 H10)
    obtain ⟨vs11, hv⟩ : ∃ v, w10.setCell ⟨G, 1, none⟩ (.int .u64 H10) = v := ⟨_, rfl⟩
    rw [hv] at kx k4 k6
    have KXs11 := Lib.hid kx
    have K4s11 : Hid (Blk G 122 #[.int .i64 3, .int .u64 H10, .int .i64 C, .int .i64 R, .bool false] vs11) := Lib.hid k4
    have K6s11 := Lib.hid k6
    clear kx k4 k6
    go_upto_region 10 with fail
    try rw [hv]
    clear hv dc0 df0
    have HU12 := Lib.hid (update_any g l ls p q s HL.out h6 H10 HUL10.out (6) ((N : Int)) ⟨by omega, by omega⟩ vs11 (HP.out.below KXs11.out))
    have HUL12 := Lib.hid (upd_lt (l := l) (by omega) (6) ((N : Int)) HUL10.out)
    obtain ⟨H12, hH12⟩ : ∃ H', upd l (6) ((N : Int)) H10 = H' := ⟨_, rfl⟩
    have HE12 := Lib.hid hH12
    rw [hH12] at HU12 HUL12
    have cc := K4s11.out.cell
    have c1 : vs11.cell? ⟨G, 1, none⟩ = some (.int .u64 H10) := cc 1
    have c2 : vs11.cell? ⟨G, 2, none⟩ = some (.int .i64 C) := cc 2
    clear hH12 cc
    go_wp2_with fail
    refine HU12.out.mono ?_
    rintro e w12 ⟨rfl, b⟩
    have KX12 := Lib.hid (st KXs11.out b KXs11.out.size)
    have K412 := Lib.hid (K4s11.out.below b)
    have K612 := Lib.hid (K6s11.out.below b)
    clear b
    clear c1 c2
    have dc0 : w12.cell? ⟨G, 1, none⟩ = some (.int .u64 H10) := (K412.out).cell 1
    have df0 : w12.frozen? ⟨G, 1, none⟩ = false := (K412.out).frozen 1
    have kx := (KX12.out).setCell (p := ⟨G, 1, none⟩) HGL.out (.int .u64 H12)
    have k4 := (K412.out).put 1 (.int .u64 H12)
    have k6 := (K612.out).far (p := ⟨G, 1, none⟩) (by show G + 1 ≠ G; omega) (.int .u64 H12)
    obtain ⟨vs13, hv⟩ : ∃ v, w12.setCell ⟨G, 1, none⟩ (.int .u64 H12) = v := ⟨_, rfl⟩
    rw [hv] at kx k4 k6
    have KXs13 := Lib.hid kx
    have K4s13 : Hid (Blk G 122 #[.int .i64 3, .int .u64 H12, .int .i64 C, .int .i64 R, .bool false] vs13) := Lib.hid k4
    have K6s13 := Lib.hid k6
    clear kx k4 k6
    go_upto_region 11 with fail
    try rw [hv]
    clear hv dc0 df0
    have s0 : vs13.cell? ⟨G, 0, none⟩ = some (.int .i64 3) := K4s13.out.cell 0
    have s1 : vs13.cell? ⟨G, 1, none⟩ = some (.int .u64 H12) := K4s13.out.cell 1
    have s2 : vs13.cell? ⟨G, 2, none⟩ = some (.int .i64 C) := K4s13.out.cell 2
    have s3 : vs13.cell? ⟨G, 3, none⟩ = some (.int .i64 R) := K4s13.out.cell 3
    have s4 : vs13.cell? ⟨G, 4, none⟩ = some (.bool false) := K4s13.out.cell 4
    have z00 : vs13.cell? ⟨G + 1, 0, none⟩ = some (.int .i64 0) := (K6s13.out).cell 0
    have zf00 : vs13.frozen? ⟨G + 1, 0, none⟩ = false := (K6s13.out).frozen 0
    have z01 : vs13.cell? ⟨G + 1, 1, none⟩ = some (.int .u64 0) := (K6s13.out).cell 1
    have zf01 : vs13.frozen? ⟨G + 1, 1, none⟩ = false := (K6s13.out).frozen 1
    have z02 : vs13.cell? ⟨G + 1, 2, none⟩ = some (.int .i64 0) := (K6s13.out).cell 2
    have zf02 : vs13.frozen? ⟨G + 1, 2, none⟩ = false := (K6s13.out).frozen 2
    have z03 : vs13.cell? ⟨G + 1, 3, none⟩ = some (.int .i64 0) := (K6s13.out).cell 3
    have zf03 : vs13.frozen? ⟨G + 1, 3, none⟩ = false := (K6s13.out).frozen 3
    have z04 : vs13.cell? ⟨G + 1, 4, none⟩ = some (.bool false) := (K6s13.out).cell 4
    have zf04 : vs13.frozen? ⟨G + 1, 4, none⟩ = false := (K6s13.out).frozen 4
    have z11 : (vs13.setCell ⟨G + 1, 0, none⟩ (.int .i64 3)).cell? ⟨G + 1, 1, none⟩ = some (.int .u64 0) := ((K6s13.out).put 0 (.int .i64 3)).cell 1
    have zf11 : (vs13.setCell ⟨G + 1, 0, none⟩ (.int .i64 3)).frozen? ⟨G + 1, 1, none⟩ = false := ((K6s13.out).put 0 (.int .i64 3)).frozen 1
    have z22 : ((vs13.setCell ⟨G + 1, 0, none⟩ (.int .i64 3)).setCell ⟨G + 1, 1, none⟩ (.int .u64 H12)).cell? ⟨G + 1, 2, none⟩ = some (.int .i64 0) := (((K6s13.out).put 0 (.int .i64 3)).put 1 (.int .u64 H12)).cell 2
    have zf22 : ((vs13.setCell ⟨G + 1, 0, none⟩ (.int .i64 3)).setCell ⟨G + 1, 1, none⟩ (.int .u64 H12)).frozen? ⟨G + 1, 2, none⟩ = false := (((K6s13.out).put 0 (.int .i64 3)).put 1 (.int .u64 H12)).frozen 2
    have z33 : (((vs13.setCell ⟨G + 1, 0, none⟩ (.int .i64 3)).setCell ⟨G + 1, 1, none⟩ (.int .u64 H12)).setCell ⟨G + 1, 2, none⟩ (.int .i64 C)).cell? ⟨G + 1, 3, none⟩ = some (.int .i64 0) := ((((K6s13.out).put 0 (.int .i64 3)).put 1 (.int .u64 H12)).put 2 (.int .i64 C)).cell 3
    have zf33 : (((vs13.setCell ⟨G + 1, 0, none⟩ (.int .i64 3)).setCell ⟨G + 1, 1, none⟩ (.int .u64 H12)).setCell ⟨G + 1, 2, none⟩ (.int .i64 C)).frozen? ⟨G + 1, 3, none⟩ = false := ((((K6s13.out).put 0 (.int .i64 3)).put 1 (.int .u64 H12)).put 2 (.int .i64 C)).frozen 3
    have z44 : ((((vs13.setCell ⟨G + 1, 0, none⟩ (.int .i64 3)).setCell ⟨G + 1, 1, none⟩ (.int .u64 H12)).setCell ⟨G + 1, 2, none⟩ (.int .i64 C)).setCell ⟨G + 1, 3, none⟩ (.int .i64 R)).cell? ⟨G + 1, 4, none⟩ = some (.bool false) := (((((K6s13.out).put 0 (.int .i64 3)).put 1 (.int .u64 H12)).put 2 (.int .i64 C)).put 3 (.int .i64 R)).cell 4
    have zf44 : ((((vs13.setCell ⟨G + 1, 0, none⟩ (.int .i64 3)).setCell ⟨G + 1, 1, none⟩ (.int .u64 H12)).setCell ⟨G + 1, 2, none⟩ (.int .i64 C)).setCell ⟨G + 1, 3, none⟩ (.int .i64 R)).frozen? ⟨G + 1, 4, none⟩ = false := (((((K6s13.out).put 0 (.int .i64 3)).put 1 (.int .u64 H12)).put 2 (.int .i64 C)).put 3 (.int .i64 R)).frozen 4
    have HFIN : Hid (Blk (G + 1) 122 #[.int .i64 3, .int .u64 H12, .int .i64 C, .int .i64 R, .bool false] (put5 vs13 (G + 1) (.int .i64 3) (.int .u64 H12) (.int .i64 C) (.int .i64 R) (.bool false)) ∧ Below w.heap.size w (put5 vs13 (G + 1) (.int .i64 3) (.int .u64 H12) (.int .i64 C) (.int .i64 R) (.bool false))) := Lib.hid (put5_ok K6s13.out KXs13.out (by have := HGL.out; omega))
    have HV : Hid (nxF l q s ⟨xp, xh, xc, xt, xi⟩ d = ⟨3, H12, C, R, false⟩) := Lib.hid (by unfold nxF nxF0 nxF1; rw [if_neg HD0.out]; dsimp only; rw [HN.out, HM.out, HC.out, HE3.out, HE5.out, HE8.out, HE10.out, HE12.out, HR.out])
    go_wp2
    exact bodyPost_ret (v := .agg #[.int .i64 3, .int .u64 H12, .int .i64 C, .int .i64 R, .bool false]) (resRgF rfl HFIN.out.1) rfl ⟨by rw [HV.out]; rfl, HFIN.out.2⟩
end Go.Proofs.YtmnclnpbmgomgaaGreatDoor


/- Of decide: next. -/
namespace Go.Proofs.YtmnclnpbmgomgaaGreatDoor
open Go.RowKit
set_option linter.unusedVariables false

set_option maxRecDepth 1000000 in
set_option maxHeartbeats 16000000 in
theorem nextR_any (g : Nat) (l : List Rel) (ls : List (List Nat)) (p q s : Nat × Nat) (hl : ∀ r ∈ l, OkR r) (h6 : l.length ≤ 60) (hp : ScOk p) (hq : ScOk q) (hs : ScOk s) (x : Rg) (hx : RgOk x) (d : Nat) (hd : d ≤ 10) (w : World) (hP : RelP w g l ls p q s) :
    Calls Tryz.prog 94 #[.pointer (some ⟨g, 0, none⟩), .agg (encRg x).toArray, .int .i64 d] w fun e w' => e = .returned (.agg (encRg (nxR l p q s x d)).toArray) ∧ Below w.heap.size w w' := by
  have HNW := Lib.hid (fun hd wx hp' => nextW_any g l ls p q s hl h6 hp hq hs x hx d hd wx hp')
  have HNF := Lib.hid (fun hd wx hp' => nextF_any g l ls p q s hl h6 hp hq hs x hx d hd wx hp')
  obtain ⟨xp, xh, xc, xt, xi⟩ := x
  have HP := Lib.hid hP
  have KA := (Below.refl w.heap.size w).alloc (Nat.le_refl _) (.cells #[.int .i64 xp, .int .u64 xh, .int .i64 xc, .int .i64 xt, .bool xi] 122)
  have KB := KA.alloc KA.size (.cells #[.int .i64 0, .int .u64 0, .int .i64 0, .int .i64 0, .bool false] 122)
  have k4 := (Blk.new w 122 #[.int .i64 xp, .int .u64 xh, .int .i64 xc, .int .i64 xt, .bool xi]).alloc (.cells #[.int .i64 0, .int .u64 0, .int .i64 0, .int .i64 0, .bool false] 122)
  have k6 := Blk.new (w.alloc (.cells #[.int .i64 xp, .int .u64 xh, .int .i64 xc, .int .i64 xt, .bool xi] 122)) 122 #[.int .i64 0, .int .u64 0, .int .i64 0, .int .i64 0, .bool false]
  rw [World.size_alloc] at k6
  obtain ⟨W, hW⟩ : ∃ W, (w.alloc (.cells #[.int .i64 xp, .int .u64 xh, .int .i64 xc, .int .i64 xt, .bool xi] 122)).alloc (.cells #[.int .i64 0, .int .u64 0, .int .i64 0, .int .i64 0, .bool false] 122) = W := ⟨_, rfl⟩
  rw [hW] at KB k4 k6
  obtain ⟨G, hG⟩ : ∃ G, w.heap.size = G := ⟨_, rfl⟩
  rw [hG] at k4 k6
  have HGL : Hid (w.heap.size ≤ G) := Lib.hid (by rw [hG]; exact Nat.le_refl _)
  have HWE := Lib.hid hW
  have KX0 := Lib.hid KB
  have K40 := Lib.hid k4
  have K60 := Lib.hid k6
  have i0 : W.cell? ⟨G, 0, none⟩ = some (.int .i64 xp) := k4.cell 0
  have i1 : W.cell? ⟨G, 1, none⟩ = some (.int .u64 xh) := k4.cell 1
  have i2 : W.cell? ⟨G, 2, none⟩ = some (.int .i64 xc) := k4.cell 2
  have i3 : W.cell? ⟨G, 3, none⟩ = some (.int .i64 xt) := k4.cell 3
  have i4 : W.cell? ⟨G, 4, none⟩ = some (.bool xi) := k4.cell 4
  have j0 : W.frozen? ⟨G, 0, none⟩ = false := k4.frozen 0
  have j3 : W.frozen? ⟨G, 3, none⟩ = false := k4.frozen 3
  clear hP KA KB k4 k6 hW hl hp hq hs hx
  change Calls Tryz.prog 94 #[.pointer (some ⟨g, 0, none⟩), .agg #[.int .i64 xp, .int .u64 xh, .int .i64 xc, .int .i64 xt, .bool xi], .int .i64 d] w _
  go_enter Tryz.func94, Tryz.ntmps94
  go_upto_region 1 with fail
  rw [HWE.out]
  try rw [hG]
  clear hG
  by_cases h10 : d = 10
  · subst h10
    have t0 : (((10 : Nat) : Int) == 10) = true := rfl
    by_cases h1 : xp = 1
    · subst h1
      have t1 : (((1 : Nat) : Int) == 1) = true := rfl
      have m3 : (W.setCell ⟨G, 0, none⟩ (.int .i64 2)).cell? ⟨G, 3, none⟩ = some (.int .i64 xt) := (K40.out.put 0 _).cell 3
      have n3 : (W.setCell ⟨G, 0, none⟩ (.int .i64 2)).frozen? ⟨G, 3, none⟩ = false := (K40.out.put 0 _).frozen 3
      have k4 := (K40.out.put 0 (.int .i64 2)).put 3 (.int .i64 0)
      have k6 := (K60.out.far (p := ⟨G, 0, none⟩) (by show G + 1 ≠ G; omega) (.int .i64 2)).far (p := ⟨G, 3, none⟩) (by show G + 1 ≠ G; omega) (.int .i64 0)
      have kx := (KX0.out.setCell (p := ⟨G, 0, none⟩) HGL.out (.int .i64 2)).setCell (p := ⟨G, 3, none⟩) HGL.out (.int .i64 0)
      obtain ⟨V, hV⟩ : ∃ V, (W.setCell ⟨G, 0, none⟩ (.int .i64 2)).setCell ⟨G, 3, none⟩ (.int .i64 0) = V := ⟨_, rfl⟩
      rw [hV] at k4 k6 kx
      have KX1 := Lib.hid kx
      have K41 : Hid (Blk G 122 #[.int .i64 2, .int .u64 xh, .int .i64 xc, .int .i64 0, .bool xi] V) := Lib.hid k4
      have K61 := Lib.hid k6
      clear k4 k6 kx
      go_upto_region 3 with fail
      try rw [hV]
      clear hV m3 n3 i0 i1 i2 i3 i4 j0 j3
      have s0 : V.cell? ⟨G, 0, none⟩ = some (.int .i64 2) := K41.out.cell 0
      have s1 : V.cell? ⟨G, 1, none⟩ = some (.int .u64 xh) := K41.out.cell 1
      have s2 : V.cell? ⟨G, 2, none⟩ = some (.int .i64 xc) := K41.out.cell 2
      have s3 : V.cell? ⟨G, 3, none⟩ = some (.int .i64 0) := K41.out.cell 3
      have s4 : V.cell? ⟨G, 4, none⟩ = some (.bool xi) := K41.out.cell 4
      have z00 : V.cell? ⟨G + 1, 0, none⟩ = some (.int .i64 0) := (K61.out).cell 0
      have zf00 : V.frozen? ⟨G + 1, 0, none⟩ = false := (K61.out).frozen 0
      have z01 : V.cell? ⟨G + 1, 1, none⟩ = some (.int .u64 0) := (K61.out).cell 1
      have zf01 : V.frozen? ⟨G + 1, 1, none⟩ = false := (K61.out).frozen 1
      have z02 : V.cell? ⟨G + 1, 2, none⟩ = some (.int .i64 0) := (K61.out).cell 2
      have zf02 : V.frozen? ⟨G + 1, 2, none⟩ = false := (K61.out).frozen 2
      have z03 : V.cell? ⟨G + 1, 3, none⟩ = some (.int .i64 0) := (K61.out).cell 3
      have zf03 : V.frozen? ⟨G + 1, 3, none⟩ = false := (K61.out).frozen 3
      have z04 : V.cell? ⟨G + 1, 4, none⟩ = some (.bool false) := (K61.out).cell 4
      have zf04 : V.frozen? ⟨G + 1, 4, none⟩ = false := (K61.out).frozen 4
      have z11 : (V.setCell ⟨G + 1, 0, none⟩ (.int .i64 2)).cell? ⟨G + 1, 1, none⟩ = some (.int .u64 0) := ((K61.out).put 0 (.int .i64 2)).cell 1
      have zf11 : (V.setCell ⟨G + 1, 0, none⟩ (.int .i64 2)).frozen? ⟨G + 1, 1, none⟩ = false := ((K61.out).put 0 (.int .i64 2)).frozen 1
      have z22 : ((V.setCell ⟨G + 1, 0, none⟩ (.int .i64 2)).setCell ⟨G + 1, 1, none⟩ (.int .u64 xh)).cell? ⟨G + 1, 2, none⟩ = some (.int .i64 0) := (((K61.out).put 0 (.int .i64 2)).put 1 (.int .u64 xh)).cell 2
      have zf22 : ((V.setCell ⟨G + 1, 0, none⟩ (.int .i64 2)).setCell ⟨G + 1, 1, none⟩ (.int .u64 xh)).frozen? ⟨G + 1, 2, none⟩ = false := (((K61.out).put 0 (.int .i64 2)).put 1 (.int .u64 xh)).frozen 2
      have z33 : (((V.setCell ⟨G + 1, 0, none⟩ (.int .i64 2)).setCell ⟨G + 1, 1, none⟩ (.int .u64 xh)).setCell ⟨G + 1, 2, none⟩ (.int .i64 xc)).cell? ⟨G + 1, 3, none⟩ = some (.int .i64 0) := ((((K61.out).put 0 (.int .i64 2)).put 1 (.int .u64 xh)).put 2 (.int .i64 xc)).cell 3
      have zf33 : (((V.setCell ⟨G + 1, 0, none⟩ (.int .i64 2)).setCell ⟨G + 1, 1, none⟩ (.int .u64 xh)).setCell ⟨G + 1, 2, none⟩ (.int .i64 xc)).frozen? ⟨G + 1, 3, none⟩ = false := ((((K61.out).put 0 (.int .i64 2)).put 1 (.int .u64 xh)).put 2 (.int .i64 xc)).frozen 3
      have z44 : ((((V.setCell ⟨G + 1, 0, none⟩ (.int .i64 2)).setCell ⟨G + 1, 1, none⟩ (.int .u64 xh)).setCell ⟨G + 1, 2, none⟩ (.int .i64 xc)).setCell ⟨G + 1, 3, none⟩ (.int .i64 0)).cell? ⟨G + 1, 4, none⟩ = some (.bool false) := (((((K61.out).put 0 (.int .i64 2)).put 1 (.int .u64 xh)).put 2 (.int .i64 xc)).put 3 (.int .i64 0)).cell 4
      have zf44 : ((((V.setCell ⟨G + 1, 0, none⟩ (.int .i64 2)).setCell ⟨G + 1, 1, none⟩ (.int .u64 xh)).setCell ⟨G + 1, 2, none⟩ (.int .i64 xc)).setCell ⟨G + 1, 3, none⟩ (.int .i64 0)).frozen? ⟨G + 1, 4, none⟩ = false := (((((K61.out).put 0 (.int .i64 2)).put 1 (.int .u64 xh)).put 2 (.int .i64 xc)).put 3 (.int .i64 0)).frozen 4
      have HFIN : Hid (Blk (G + 1) 122 #[.int .i64 2, .int .u64 xh, .int .i64 xc, .int .i64 0, .bool xi] (put5 V (G + 1) (.int .i64 2) (.int .u64 xh) (.int .i64 xc) (.int .i64 0) (.bool xi)) ∧ Below w.heap.size w (put5 V (G + 1) (.int .i64 2) (.int .u64 xh) (.int .i64 xc) (.int .i64 0) (.bool xi))) := Lib.hid (put5_ok K61.out KX1.out (by have := HGL.out; omega))
      have HV : Hid (nxR l p q s ⟨1, xh, xc, xt, xi⟩ 10 = ⟨2, xh, xc, 0, xi⟩) := Lib.hid (by unfold nxR; rw [if_pos ⟨rfl, rfl⟩])
      go_wp2
      exact bodyPost_ret (v := .agg #[.int .i64 2, .int .u64 xh, .int .i64 xc, .int .i64 0, .bool xi]) (resRgN rfl HFIN.out.1) rfl ⟨by rw [HV.out]; rfl, HFIN.out.2⟩
    · have t1 : ((xp : Int) == 1) = false := by rw [beq_eq_false_iff_ne]; omega
      have H1 := Lib.hid h1
      have z00 : W.cell? ⟨G + 1, 0, none⟩ = some (.int .i64 0) := (K60.out).cell 0
      have zf00 : W.frozen? ⟨G + 1, 0, none⟩ = false := (K60.out).frozen 0
      have z01 : W.cell? ⟨G + 1, 1, none⟩ = some (.int .u64 0) := (K60.out).cell 1
      have zf01 : W.frozen? ⟨G + 1, 1, none⟩ = false := (K60.out).frozen 1
      have z02 : W.cell? ⟨G + 1, 2, none⟩ = some (.int .i64 0) := (K60.out).cell 2
      have zf02 : W.frozen? ⟨G + 1, 2, none⟩ = false := (K60.out).frozen 2
      have z03 : W.cell? ⟨G + 1, 3, none⟩ = some (.int .i64 0) := (K60.out).cell 3
      have zf03 : W.frozen? ⟨G + 1, 3, none⟩ = false := (K60.out).frozen 3
      have z04 : W.cell? ⟨G + 1, 4, none⟩ = some (.bool false) := (K60.out).cell 4
      have zf04 : W.frozen? ⟨G + 1, 4, none⟩ = false := (K60.out).frozen 4
      have z11 : (W.setCell ⟨G + 1, 0, none⟩ (.int .i64 4)).cell? ⟨G + 1, 1, none⟩ = some (.int .u64 0) := ((K60.out).put 0 (.int .i64 4)).cell 1
      have zf11 : (W.setCell ⟨G + 1, 0, none⟩ (.int .i64 4)).frozen? ⟨G + 1, 1, none⟩ = false := ((K60.out).put 0 (.int .i64 4)).frozen 1
      have z22 : ((W.setCell ⟨G + 1, 0, none⟩ (.int .i64 4)).setCell ⟨G + 1, 1, none⟩ (.int .u64 0)).cell? ⟨G + 1, 2, none⟩ = some (.int .i64 0) := (((K60.out).put 0 (.int .i64 4)).put 1 (.int .u64 0)).cell 2
      have zf22 : ((W.setCell ⟨G + 1, 0, none⟩ (.int .i64 4)).setCell ⟨G + 1, 1, none⟩ (.int .u64 0)).frozen? ⟨G + 1, 2, none⟩ = false := (((K60.out).put 0 (.int .i64 4)).put 1 (.int .u64 0)).frozen 2
      have z33 : (((W.setCell ⟨G + 1, 0, none⟩ (.int .i64 4)).setCell ⟨G + 1, 1, none⟩ (.int .u64 0)).setCell ⟨G + 1, 2, none⟩ (.int .i64 0)).cell? ⟨G + 1, 3, none⟩ = some (.int .i64 0) := ((((K60.out).put 0 (.int .i64 4)).put 1 (.int .u64 0)).put 2 (.int .i64 0)).cell 3
      have zf33 : (((W.setCell ⟨G + 1, 0, none⟩ (.int .i64 4)).setCell ⟨G + 1, 1, none⟩ (.int .u64 0)).setCell ⟨G + 1, 2, none⟩ (.int .i64 0)).frozen? ⟨G + 1, 3, none⟩ = false := ((((K60.out).put 0 (.int .i64 4)).put 1 (.int .u64 0)).put 2 (.int .i64 0)).frozen 3
      have z44 : ((((W.setCell ⟨G + 1, 0, none⟩ (.int .i64 4)).setCell ⟨G + 1, 1, none⟩ (.int .u64 0)).setCell ⟨G + 1, 2, none⟩ (.int .i64 0)).setCell ⟨G + 1, 3, none⟩ (.int .i64 0)).cell? ⟨G + 1, 4, none⟩ = some (.bool false) := (((((K60.out).put 0 (.int .i64 4)).put 1 (.int .u64 0)).put 2 (.int .i64 0)).put 3 (.int .i64 0)).cell 4
      have zf44 : ((((W.setCell ⟨G + 1, 0, none⟩ (.int .i64 4)).setCell ⟨G + 1, 1, none⟩ (.int .u64 0)).setCell ⟨G + 1, 2, none⟩ (.int .i64 0)).setCell ⟨G + 1, 3, none⟩ (.int .i64 0)).frozen? ⟨G + 1, 4, none⟩ = false := (((((K60.out).put 0 (.int .i64 4)).put 1 (.int .u64 0)).put 2 (.int .i64 0)).put 3 (.int .i64 0)).frozen 4
      have HFIN : Hid (Blk (G + 1) 122 #[.int .i64 4, .int .u64 0, .int .i64 0, .int .i64 0, .bool false] (put5 W (G + 1) (.int .i64 4) (.int .u64 0) (.int .i64 0) (.int .i64 0) (.bool false)) ∧ Below w.heap.size w (put5 W (G + 1) (.int .i64 4) (.int .u64 0) (.int .i64 0) (.int .i64 0) (.bool false))) := Lib.hid (put5_ok K60.out KX0.out (by have := HGL.out; omega))
      have HV : Hid (nxR l p q s ⟨xp, xh, xc, xt, xi⟩ 10 = ⟨4, 0, 0, 0, false⟩) := Lib.hid (by unfold nxR; rw [if_neg (fun h => H1.out h.2), if_pos (.inl rfl)])
      clear h1
      go_wp2
      exact bodyPost_ret (v := .agg #[.int .i64 4, .int .u64 0, .int .i64 0, .int .i64 0, .bool false]) (resRgN rfl HFIN.out.1) rfl ⟨by rw [HV.out]; rfl, HFIN.out.2⟩
  · have t0 : ((d : Int) == 10) = false := by rw [beq_eq_false_iff_ne]; omega
    have H10 := Lib.hid h10
    by_cases h4 : xp = 4
    · subst h4
      have t1 : (((4 : Nat) : Int) == 4) = true := rfl
      have HGV : Hid (True) := Lib.hid trivial
      have z00 : W.cell? ⟨G + 1, 0, none⟩ = some (.int .i64 0) := (K60.out).cell 0
      have zf00 : W.frozen? ⟨G + 1, 0, none⟩ = false := (K60.out).frozen 0
      have z01 : W.cell? ⟨G + 1, 1, none⟩ = some (.int .u64 0) := (K60.out).cell 1
      have zf01 : W.frozen? ⟨G + 1, 1, none⟩ = false := (K60.out).frozen 1
      have z02 : W.cell? ⟨G + 1, 2, none⟩ = some (.int .i64 0) := (K60.out).cell 2
      have zf02 : W.frozen? ⟨G + 1, 2, none⟩ = false := (K60.out).frozen 2
      have z03 : W.cell? ⟨G + 1, 3, none⟩ = some (.int .i64 0) := (K60.out).cell 3
      have zf03 : W.frozen? ⟨G + 1, 3, none⟩ = false := (K60.out).frozen 3
      have z04 : W.cell? ⟨G + 1, 4, none⟩ = some (.bool false) := (K60.out).cell 4
      have zf04 : W.frozen? ⟨G + 1, 4, none⟩ = false := (K60.out).frozen 4
      have z11 : (W.setCell ⟨G + 1, 0, none⟩ (.int .i64 4)).cell? ⟨G + 1, 1, none⟩ = some (.int .u64 0) := ((K60.out).put 0 (.int .i64 4)).cell 1
      have zf11 : (W.setCell ⟨G + 1, 0, none⟩ (.int .i64 4)).frozen? ⟨G + 1, 1, none⟩ = false := ((K60.out).put 0 (.int .i64 4)).frozen 1
      have z22 : ((W.setCell ⟨G + 1, 0, none⟩ (.int .i64 4)).setCell ⟨G + 1, 1, none⟩ (.int .u64 0)).cell? ⟨G + 1, 2, none⟩ = some (.int .i64 0) := (((K60.out).put 0 (.int .i64 4)).put 1 (.int .u64 0)).cell 2
      have zf22 : ((W.setCell ⟨G + 1, 0, none⟩ (.int .i64 4)).setCell ⟨G + 1, 1, none⟩ (.int .u64 0)).frozen? ⟨G + 1, 2, none⟩ = false := (((K60.out).put 0 (.int .i64 4)).put 1 (.int .u64 0)).frozen 2
      have z33 : (((W.setCell ⟨G + 1, 0, none⟩ (.int .i64 4)).setCell ⟨G + 1, 1, none⟩ (.int .u64 0)).setCell ⟨G + 1, 2, none⟩ (.int .i64 0)).cell? ⟨G + 1, 3, none⟩ = some (.int .i64 0) := ((((K60.out).put 0 (.int .i64 4)).put 1 (.int .u64 0)).put 2 (.int .i64 0)).cell 3
      have zf33 : (((W.setCell ⟨G + 1, 0, none⟩ (.int .i64 4)).setCell ⟨G + 1, 1, none⟩ (.int .u64 0)).setCell ⟨G + 1, 2, none⟩ (.int .i64 0)).frozen? ⟨G + 1, 3, none⟩ = false := ((((K60.out).put 0 (.int .i64 4)).put 1 (.int .u64 0)).put 2 (.int .i64 0)).frozen 3
      have z44 : ((((W.setCell ⟨G + 1, 0, none⟩ (.int .i64 4)).setCell ⟨G + 1, 1, none⟩ (.int .u64 0)).setCell ⟨G + 1, 2, none⟩ (.int .i64 0)).setCell ⟨G + 1, 3, none⟩ (.int .i64 0)).cell? ⟨G + 1, 4, none⟩ = some (.bool false) := (((((K60.out).put 0 (.int .i64 4)).put 1 (.int .u64 0)).put 2 (.int .i64 0)).put 3 (.int .i64 0)).cell 4
      have zf44 : ((((W.setCell ⟨G + 1, 0, none⟩ (.int .i64 4)).setCell ⟨G + 1, 1, none⟩ (.int .u64 0)).setCell ⟨G + 1, 2, none⟩ (.int .i64 0)).setCell ⟨G + 1, 3, none⟩ (.int .i64 0)).frozen? ⟨G + 1, 4, none⟩ = false := (((((K60.out).put 0 (.int .i64 4)).put 1 (.int .u64 0)).put 2 (.int .i64 0)).put 3 (.int .i64 0)).frozen 4
      have HFIN : Hid (Blk (G + 1) 122 #[.int .i64 4, .int .u64 0, .int .i64 0, .int .i64 0, .bool false] (put5 W (G + 1) (.int .i64 4) (.int .u64 0) (.int .i64 0) (.int .i64 0) (.bool false)) ∧ Below w.heap.size w (put5 W (G + 1) (.int .i64 4) (.int .u64 0) (.int .i64 0) (.int .i64 0) (.bool false))) := Lib.hid (put5_ok K60.out KX0.out (by have := HGL.out; omega))
      have HV : Hid (nxR l p q s ⟨4, xh, xc, xt, xi⟩ d = ⟨4, 0, 0, 0, false⟩) := Lib.hid (by unfold nxR; rw [if_neg (fun h => H10.out h.1), if_pos (.inr rfl)])
      clear h10
      go_wp2
      exact bodyPost_ret (v := .agg #[.int .i64 4, .int .u64 0, .int .i64 0, .int .i64 0, .bool false]) (resRgN rfl HFIN.out.1) rfl ⟨by rw [HV.out]; rfl, HFIN.out.2⟩
    · have t1 : ((xp : Int) == 4) = false := by rw [beq_eq_false_iff_ne]; omega
      have H4 := Lib.hid h4
      by_cases h0 : xp = 0 ∨ xp = 1
      · have HWW : Hid (nxR l p q s ⟨xp, xh, xc, xt, xi⟩ d = nxW l p ⟨xp, xh, xc, xt, xi⟩ d) := Lib.hid (by unfold nxR; rw [if_neg (fun h => H10.out h.1), if_neg (fun h => by rcases h with h | h; exact H10.out h; exact H4.out h), if_pos h0])
        have HC := Lib.hid (HNW.out (by omega) W (HP.out.below KX0.out))
        obtain ⟨⟨y1, y2, y3, y4, y5⟩, hy⟩ : ∃ y, nxW l p ⟨xp, xh, xc, xt, xi⟩ d = y := ⟨_, rfl⟩
        rw [hy] at HWW HC
        clear hy HNW HNF
        rcases h0 with h0 | h0
        · have t2 : ((xp : Int) == 0) = true := by rw [beq_iff_eq]; omega
          clear h0 h4 h10
          go_wp2_with fail
          refine HC.out.mono ?_
          rintro e w9 ⟨rfl, b⟩
          have KX9 := Lib.hid (st KX0.out b KX0.out.size)
          have K69 := Lib.hid (K60.out.below b)
          clear b i0 i1 i2 i3 i4 j0 j3
          try dsimp only [encRg]
          have z00 : w9.cell? ⟨G + 1, 0, none⟩ = some (.int .i64 0) := (K69.out).cell 0
          have zf00 : w9.frozen? ⟨G + 1, 0, none⟩ = false := (K69.out).frozen 0
          have z01 : w9.cell? ⟨G + 1, 1, none⟩ = some (.int .u64 0) := (K69.out).cell 1
          have zf01 : w9.frozen? ⟨G + 1, 1, none⟩ = false := (K69.out).frozen 1
          have z02 : w9.cell? ⟨G + 1, 2, none⟩ = some (.int .i64 0) := (K69.out).cell 2
          have zf02 : w9.frozen? ⟨G + 1, 2, none⟩ = false := (K69.out).frozen 2
          have z03 : w9.cell? ⟨G + 1, 3, none⟩ = some (.int .i64 0) := (K69.out).cell 3
          have zf03 : w9.frozen? ⟨G + 1, 3, none⟩ = false := (K69.out).frozen 3
          have z04 : w9.cell? ⟨G + 1, 4, none⟩ = some (.bool false) := (K69.out).cell 4
          have zf04 : w9.frozen? ⟨G + 1, 4, none⟩ = false := (K69.out).frozen 4
          have z11 : (w9.setCell ⟨G + 1, 0, none⟩ (.int .i64 y1)).cell? ⟨G + 1, 1, none⟩ = some (.int .u64 0) := ((K69.out).put 0 (.int .i64 y1)).cell 1
          have zf11 : (w9.setCell ⟨G + 1, 0, none⟩ (.int .i64 y1)).frozen? ⟨G + 1, 1, none⟩ = false := ((K69.out).put 0 (.int .i64 y1)).frozen 1
          have z22 : ((w9.setCell ⟨G + 1, 0, none⟩ (.int .i64 y1)).setCell ⟨G + 1, 1, none⟩ (.int .u64 y2)).cell? ⟨G + 1, 2, none⟩ = some (.int .i64 0) := (((K69.out).put 0 (.int .i64 y1)).put 1 (.int .u64 y2)).cell 2
          have zf22 : ((w9.setCell ⟨G + 1, 0, none⟩ (.int .i64 y1)).setCell ⟨G + 1, 1, none⟩ (.int .u64 y2)).frozen? ⟨G + 1, 2, none⟩ = false := (((K69.out).put 0 (.int .i64 y1)).put 1 (.int .u64 y2)).frozen 2
          have z33 : (((w9.setCell ⟨G + 1, 0, none⟩ (.int .i64 y1)).setCell ⟨G + 1, 1, none⟩ (.int .u64 y2)).setCell ⟨G + 1, 2, none⟩ (.int .i64 y3)).cell? ⟨G + 1, 3, none⟩ = some (.int .i64 0) := ((((K69.out).put 0 (.int .i64 y1)).put 1 (.int .u64 y2)).put 2 (.int .i64 y3)).cell 3
          have zf33 : (((w9.setCell ⟨G + 1, 0, none⟩ (.int .i64 y1)).setCell ⟨G + 1, 1, none⟩ (.int .u64 y2)).setCell ⟨G + 1, 2, none⟩ (.int .i64 y3)).frozen? ⟨G + 1, 3, none⟩ = false := ((((K69.out).put 0 (.int .i64 y1)).put 1 (.int .u64 y2)).put 2 (.int .i64 y3)).frozen 3
          have z44 : ((((w9.setCell ⟨G + 1, 0, none⟩ (.int .i64 y1)).setCell ⟨G + 1, 1, none⟩ (.int .u64 y2)).setCell ⟨G + 1, 2, none⟩ (.int .i64 y3)).setCell ⟨G + 1, 3, none⟩ (.int .i64 y4)).cell? ⟨G + 1, 4, none⟩ = some (.bool false) := (((((K69.out).put 0 (.int .i64 y1)).put 1 (.int .u64 y2)).put 2 (.int .i64 y3)).put 3 (.int .i64 y4)).cell 4
          have zf44 : ((((w9.setCell ⟨G + 1, 0, none⟩ (.int .i64 y1)).setCell ⟨G + 1, 1, none⟩ (.int .u64 y2)).setCell ⟨G + 1, 2, none⟩ (.int .i64 y3)).setCell ⟨G + 1, 3, none⟩ (.int .i64 y4)).frozen? ⟨G + 1, 4, none⟩ = false := (((((K69.out).put 0 (.int .i64 y1)).put 1 (.int .u64 y2)).put 2 (.int .i64 y3)).put 3 (.int .i64 y4)).frozen 4
          have HFIN : Hid (Blk (G + 1) 122 #[.int .i64 y1, .int .u64 y2, .int .i64 y3, .int .i64 y4, .bool y5] (put5 w9 (G + 1) (.int .i64 y1) (.int .u64 y2) (.int .i64 y3) (.int .i64 y4) (.bool y5)) ∧ Below w.heap.size w (put5 w9 (G + 1) (.int .i64 y1) (.int .u64 y2) (.int .i64 y3) (.int .i64 y4) (.bool y5))) := Lib.hid (put5_ok K69.out KX9.out (by have := HGL.out; omega))
          have HV : Hid (nxR l p q s ⟨xp, xh, xc, xt, xi⟩ d = ⟨y1, y2, y3, y4, y5⟩) := Lib.hid (HWW.out)
          go_wp2
          exact bodyPost_ret (v := .agg #[.int .i64 y1, .int .u64 y2, .int .i64 y3, .int .i64 y4, .bool y5]) (resRgN rfl HFIN.out.1) rfl ⟨by rw [HV.out]; rfl, HFIN.out.2⟩
        · have t2 : ((xp : Int) == 0) = false := by rw [beq_eq_false_iff_ne]; omega
          have t3 : ((xp : Int) == 1) = true := by rw [beq_iff_eq]; omega
          clear h0 h4 h10
          go_wp2_with fail
          refine HC.out.mono ?_
          rintro e w9 ⟨rfl, b⟩
          have KX9 := Lib.hid (st KX0.out b KX0.out.size)
          have K69 := Lib.hid (K60.out.below b)
          clear b i0 i1 i2 i3 i4 j0 j3
          try dsimp only [encRg]
          have z00 : w9.cell? ⟨G + 1, 0, none⟩ = some (.int .i64 0) := (K69.out).cell 0
          have zf00 : w9.frozen? ⟨G + 1, 0, none⟩ = false := (K69.out).frozen 0
          have z01 : w9.cell? ⟨G + 1, 1, none⟩ = some (.int .u64 0) := (K69.out).cell 1
          have zf01 : w9.frozen? ⟨G + 1, 1, none⟩ = false := (K69.out).frozen 1
          have z02 : w9.cell? ⟨G + 1, 2, none⟩ = some (.int .i64 0) := (K69.out).cell 2
          have zf02 : w9.frozen? ⟨G + 1, 2, none⟩ = false := (K69.out).frozen 2
          have z03 : w9.cell? ⟨G + 1, 3, none⟩ = some (.int .i64 0) := (K69.out).cell 3
          have zf03 : w9.frozen? ⟨G + 1, 3, none⟩ = false := (K69.out).frozen 3
          have z04 : w9.cell? ⟨G + 1, 4, none⟩ = some (.bool false) := (K69.out).cell 4
          have zf04 : w9.frozen? ⟨G + 1, 4, none⟩ = false := (K69.out).frozen 4
          have z11 : (w9.setCell ⟨G + 1, 0, none⟩ (.int .i64 y1)).cell? ⟨G + 1, 1, none⟩ = some (.int .u64 0) := ((K69.out).put 0 (.int .i64 y1)).cell 1
          have zf11 : (w9.setCell ⟨G + 1, 0, none⟩ (.int .i64 y1)).frozen? ⟨G + 1, 1, none⟩ = false := ((K69.out).put 0 (.int .i64 y1)).frozen 1
          have z22 : ((w9.setCell ⟨G + 1, 0, none⟩ (.int .i64 y1)).setCell ⟨G + 1, 1, none⟩ (.int .u64 y2)).cell? ⟨G + 1, 2, none⟩ = some (.int .i64 0) := (((K69.out).put 0 (.int .i64 y1)).put 1 (.int .u64 y2)).cell 2
          have zf22 : ((w9.setCell ⟨G + 1, 0, none⟩ (.int .i64 y1)).setCell ⟨G + 1, 1, none⟩ (.int .u64 y2)).frozen? ⟨G + 1, 2, none⟩ = false := (((K69.out).put 0 (.int .i64 y1)).put 1 (.int .u64 y2)).frozen 2
          have z33 : (((w9.setCell ⟨G + 1, 0, none⟩ (.int .i64 y1)).setCell ⟨G + 1, 1, none⟩ (.int .u64 y2)).setCell ⟨G + 1, 2, none⟩ (.int .i64 y3)).cell? ⟨G + 1, 3, none⟩ = some (.int .i64 0) := ((((K69.out).put 0 (.int .i64 y1)).put 1 (.int .u64 y2)).put 2 (.int .i64 y3)).cell 3
          have zf33 : (((w9.setCell ⟨G + 1, 0, none⟩ (.int .i64 y1)).setCell ⟨G + 1, 1, none⟩ (.int .u64 y2)).setCell ⟨G + 1, 2, none⟩ (.int .i64 y3)).frozen? ⟨G + 1, 3, none⟩ = false := ((((K69.out).put 0 (.int .i64 y1)).put 1 (.int .u64 y2)).put 2 (.int .i64 y3)).frozen 3
          have z44 : ((((w9.setCell ⟨G + 1, 0, none⟩ (.int .i64 y1)).setCell ⟨G + 1, 1, none⟩ (.int .u64 y2)).setCell ⟨G + 1, 2, none⟩ (.int .i64 y3)).setCell ⟨G + 1, 3, none⟩ (.int .i64 y4)).cell? ⟨G + 1, 4, none⟩ = some (.bool false) := (((((K69.out).put 0 (.int .i64 y1)).put 1 (.int .u64 y2)).put 2 (.int .i64 y3)).put 3 (.int .i64 y4)).cell 4
          have zf44 : ((((w9.setCell ⟨G + 1, 0, none⟩ (.int .i64 y1)).setCell ⟨G + 1, 1, none⟩ (.int .u64 y2)).setCell ⟨G + 1, 2, none⟩ (.int .i64 y3)).setCell ⟨G + 1, 3, none⟩ (.int .i64 y4)).frozen? ⟨G + 1, 4, none⟩ = false := (((((K69.out).put 0 (.int .i64 y1)).put 1 (.int .u64 y2)).put 2 (.int .i64 y3)).put 3 (.int .i64 y4)).frozen 4
          have HFIN : Hid (Blk (G + 1) 122 #[.int .i64 y1, .int .u64 y2, .int .i64 y3, .int .i64 y4, .bool y5] (put5 w9 (G + 1) (.int .i64 y1) (.int .u64 y2) (.int .i64 y3) (.int .i64 y4) (.bool y5)) ∧ Below w.heap.size w (put5 w9 (G + 1) (.int .i64 y1) (.int .u64 y2) (.int .i64 y3) (.int .i64 y4) (.bool y5))) := Lib.hid (put5_ok K69.out KX9.out (by have := HGL.out; omega))
          have HV : Hid (nxR l p q s ⟨xp, xh, xc, xt, xi⟩ d = ⟨y1, y2, y3, y4, y5⟩) := Lib.hid (HWW.out)
          go_wp2
          exact bodyPost_ret (v := .agg #[.int .i64 y1, .int .u64 y2, .int .i64 y3, .int .i64 y4, .bool y5]) (resRgN rfl HFIN.out.1) rfl ⟨by rw [HV.out]; rfl, HFIN.out.2⟩
      · have t2 : ((xp : Int) == 0) = false := by rw [beq_eq_false_iff_ne]; omega
        have t3 : ((xp : Int) == 1) = false := by rw [beq_eq_false_iff_ne]; omega
        have HWW : Hid (nxR l p q s ⟨xp, xh, xc, xt, xi⟩ d = nxF l q s ⟨xp, xh, xc, xt, xi⟩ d) := Lib.hid (by unfold nxR; rw [if_neg (fun h => H10.out h.1), if_neg (fun h => by rcases h with h | h; exact H10.out h; exact H4.out h), if_neg h0])
        have HC := Lib.hid (HNF.out (by omega) W (HP.out.below KX0.out))
        obtain ⟨⟨y1, y2, y3, y4, y5⟩, hy⟩ : ∃ y, nxF l q s ⟨xp, xh, xc, xt, xi⟩ d = y := ⟨_, rfl⟩
        rw [hy] at HWW HC
        clear hy HNW HNF h0 h4 h10
        go_wp2_with fail
        refine HC.out.mono ?_
        rintro e w9 ⟨rfl, b⟩
        have KX9 := Lib.hid (st KX0.out b KX0.out.size)
        have K69 := Lib.hid (K60.out.below b)
        clear b i0 i1 i2 i3 i4 j0 j3
        try dsimp only [encRg]
        have z00 : w9.cell? ⟨G + 1, 0, none⟩ = some (.int .i64 0) := (K69.out).cell 0
        have zf00 : w9.frozen? ⟨G + 1, 0, none⟩ = false := (K69.out).frozen 0
        have z01 : w9.cell? ⟨G + 1, 1, none⟩ = some (.int .u64 0) := (K69.out).cell 1
        have zf01 : w9.frozen? ⟨G + 1, 1, none⟩ = false := (K69.out).frozen 1
        have z02 : w9.cell? ⟨G + 1, 2, none⟩ = some (.int .i64 0) := (K69.out).cell 2
        have zf02 : w9.frozen? ⟨G + 1, 2, none⟩ = false := (K69.out).frozen 2
        have z03 : w9.cell? ⟨G + 1, 3, none⟩ = some (.int .i64 0) := (K69.out).cell 3
        have zf03 : w9.frozen? ⟨G + 1, 3, none⟩ = false := (K69.out).frozen 3
        have z04 : w9.cell? ⟨G + 1, 4, none⟩ = some (.bool false) := (K69.out).cell 4
        have zf04 : w9.frozen? ⟨G + 1, 4, none⟩ = false := (K69.out).frozen 4
        have z11 : (w9.setCell ⟨G + 1, 0, none⟩ (.int .i64 y1)).cell? ⟨G + 1, 1, none⟩ = some (.int .u64 0) := ((K69.out).put 0 (.int .i64 y1)).cell 1
        have zf11 : (w9.setCell ⟨G + 1, 0, none⟩ (.int .i64 y1)).frozen? ⟨G + 1, 1, none⟩ = false := ((K69.out).put 0 (.int .i64 y1)).frozen 1
        have z22 : ((w9.setCell ⟨G + 1, 0, none⟩ (.int .i64 y1)).setCell ⟨G + 1, 1, none⟩ (.int .u64 y2)).cell? ⟨G + 1, 2, none⟩ = some (.int .i64 0) := (((K69.out).put 0 (.int .i64 y1)).put 1 (.int .u64 y2)).cell 2
        have zf22 : ((w9.setCell ⟨G + 1, 0, none⟩ (.int .i64 y1)).setCell ⟨G + 1, 1, none⟩ (.int .u64 y2)).frozen? ⟨G + 1, 2, none⟩ = false := (((K69.out).put 0 (.int .i64 y1)).put 1 (.int .u64 y2)).frozen 2
        have z33 : (((w9.setCell ⟨G + 1, 0, none⟩ (.int .i64 y1)).setCell ⟨G + 1, 1, none⟩ (.int .u64 y2)).setCell ⟨G + 1, 2, none⟩ (.int .i64 y3)).cell? ⟨G + 1, 3, none⟩ = some (.int .i64 0) := ((((K69.out).put 0 (.int .i64 y1)).put 1 (.int .u64 y2)).put 2 (.int .i64 y3)).cell 3
        have zf33 : (((w9.setCell ⟨G + 1, 0, none⟩ (.int .i64 y1)).setCell ⟨G + 1, 1, none⟩ (.int .u64 y2)).setCell ⟨G + 1, 2, none⟩ (.int .i64 y3)).frozen? ⟨G + 1, 3, none⟩ = false := ((((K69.out).put 0 (.int .i64 y1)).put 1 (.int .u64 y2)).put 2 (.int .i64 y3)).frozen 3
        have z44 : ((((w9.setCell ⟨G + 1, 0, none⟩ (.int .i64 y1)).setCell ⟨G + 1, 1, none⟩ (.int .u64 y2)).setCell ⟨G + 1, 2, none⟩ (.int .i64 y3)).setCell ⟨G + 1, 3, none⟩ (.int .i64 y4)).cell? ⟨G + 1, 4, none⟩ = some (.bool false) := (((((K69.out).put 0 (.int .i64 y1)).put 1 (.int .u64 y2)).put 2 (.int .i64 y3)).put 3 (.int .i64 y4)).cell 4
        have zf44 : ((((w9.setCell ⟨G + 1, 0, none⟩ (.int .i64 y1)).setCell ⟨G + 1, 1, none⟩ (.int .u64 y2)).setCell ⟨G + 1, 2, none⟩ (.int .i64 y3)).setCell ⟨G + 1, 3, none⟩ (.int .i64 y4)).frozen? ⟨G + 1, 4, none⟩ = false := (((((K69.out).put 0 (.int .i64 y1)).put 1 (.int .u64 y2)).put 2 (.int .i64 y3)).put 3 (.int .i64 y4)).frozen 4
        have HFIN : Hid (Blk (G + 1) 122 #[.int .i64 y1, .int .u64 y2, .int .i64 y3, .int .i64 y4, .bool y5] (put5 w9 (G + 1) (.int .i64 y1) (.int .u64 y2) (.int .i64 y3) (.int .i64 y4) (.bool y5)) ∧ Below w.heap.size w (put5 w9 (G + 1) (.int .i64 y1) (.int .u64 y2) (.int .i64 y3) (.int .i64 y4) (.bool y5))) := Lib.hid (put5_ok K69.out KX9.out (by have := HGL.out; omega))
        have HV : Hid (nxR l p q s ⟨xp, xh, xc, xt, xi⟩ d = ⟨y1, y2, y3, y4, y5⟩) := Lib.hid (HWW.out)
        go_wp2
        exact bodyPost_ret (v := .agg #[.int .i64 y1, .int .u64 y2, .int .i64 y3, .int .i64 y4, .bool y5]) (resRgN rfl HFIN.out.1) rfl ⟨by rw [HV.out]; rfl, HFIN.out.2⟩
end Go.Proofs.YtmnclnpbmgomgaaGreatDoor


/- Of the reference of layer 10: wholes. -/
namespace Go.Proofs.YtmnclnpbmgomgaaGreatDoor
open Go.RowKit
set_option linter.unusedVariables false

theorem good_dtx {n : Nat} (hn : n < 1000) {fr : Str} (hf : allD fr) (h6 : fr.length ≤ 6) : Good ⟨false, dtx n, fr⟩ := by
  have hd := dtx_good hn
  have hl := dtx_len n
  exact ⟨hd.1, hf, hl.1, by show (dtx n).length ≤ 15; omega, hd.2.2, h6, fun e => by cases e⟩
theorem hldR_num {n : Nat} (hn : n < 1000) {fr : Str} (hf : allD fr) (h6 : fr.length ≤ 6) (r : Rel) : hldR (tx0 (dtx n) fr) r = if isWh r = true then (if r.op = 1 ∧ zero fr = false then r.nt else wT r n) else fT r fr := by
  have g := good_dtx hn hf h6
  have e : tx0 (dtx n) fr = txt ⟨false, dtx n, fr⟩ := (txt_tx0 (x := ⟨false, dtx n, fr⟩) rfl).symm
  unfold hldR
  rw [e, opR_some (spl_of g), hld_parts]
  dsimp only
  rw [(dtx_good hn).2.1]
theorem tx0_nil (s : Str) : tx0 s [] = s := by unfold tx0; rw [if_pos rfl, List.append_nil]
theorem vecS_whole {l : List Rel} {n : Nat} (hn : n < 1000) : vecS l (dtx n) true = bitsOf (vecW l n) := by
  unfold vecS vecW
  congr 1
  rw [show (fun r => isWh r == true) = isWh from funext fun r => by cases isWh r <;> rfl]
  refine List.map_congr_left (fun r hr => ?_)
  have h := hldR_num hn allD_nil (by simp) r
  rw [tx0_nil] at h
  rw [h, if_pos (List.mem_filter.1 hr).2, if_neg (fun h => by cases h.2)]
def seenW (l : List Rel) (n : Nat) : List Str := (ws l n).map fun m => bitsOf (vecW l m)
def outW (l : List Rel) (n : Nat) : List Str := (ws l n).map dtx
theorem plc_neg {l : List Str} {s : Str} : plc l s < 0 ↔ s ∉ l := by
  unfold plc
  constructor
  · intro h hm
    have : l.findIdx (fun x => x == s) < l.length := List.findIdx_lt_length_of_exists ⟨s, hm, beq_self_eq_true s⟩
    rw [if_pos this] at h
    omega
  · intro h
    rw [if_neg]
    · omega
    · intro k
      have h2 := List.findIdx_getElem (w := k)
      rw [beq_iff_eq] at h2
      exact h (h2 ▸ List.getElem_mem k)
theorem plc_whole {l : List Rel} {n : Nat} : plc (seenW l n) (bitsOf (vecW l n)) < 0 ↔ newW l n = true := by
  rw [plc_neg, newW_iff]
  unfold seenW
  constructor
  · intro h hm
    apply h
    obtain ⟨a, h1, h2⟩ := List.mem_map.1 hm
    exact List.mem_map.2 ⟨a, h1, by rw [h2]⟩
  · intro h hm
    apply h
    obtain ⟨a, h1, h2⟩ := List.mem_map.1 hm
    exact List.mem_map.2 ⟨a, h1, bitsOf_inj h2⟩
theorem ws_len (l : List Rel) (n : Nat) : (ws l n).length ≤ n := by
  unfold ws
  have := List.length_filter_le (newW l) (List.range n)
  rw [List.length_range] at this
  exact this
theorem seenW_len (l : List Rel) (n : Nat) : (seenW l n).length ≤ n := by unfold seenW; rw [List.length_map]; exact ws_len l n
theorem outW_len (l : List Rel) (n : Nat) : (outW l n).length ≤ n := by unfold outW; rw [List.length_map]; exact ws_len l n
theorem seenW_new {l : List Rel} {n : Nat} (h : newW l n = true) : seenW l (n + 1) = seenW l n ++ [bitsOf (vecW l n)] ∧ outW l (n + 1) = outW l n ++ [dtx n] := by
  unfold seenW outW
  rw [ws_succ, if_pos h, List.map_append, List.map_append]
  exact ⟨rfl, rfl⟩
theorem seenW_old {l : List Rel} {n : Nat} (h : ¬ newW l n = true) : seenW l (n + 1) = seenW l n ∧ outW l (n + 1) = outW l n := by
  unfold seenW outW
  rw [ws_succ, if_neg h, List.append_nil]
  exact ⟨rfl, rfl⟩
/-- Two lists of strings of the call's own that do not share memory. -/
structure TwoS (w : World) (base : Nat) (v u : Value) (l m : List Str) : Prop where
  one : Own1 1 encT w base 9 v l
  two : Own1 1 encT w base 9 u m
  ap : Apart v u
theorem TwoS.below {w w' : World} {base : Nat} {v u : Value} {l m : List Str} (h : TwoS w base v u l m) (hb : Below w.heap.size w w') : TwoS w' base v u l m := ⟨own_below h.one hb, own_below h.two hb, h.ap⟩
theorem TwoS.swap {w : World} {base : Nat} {v u : Value} {l m : List Str} (h : TwoS w base v u l m) : TwoS w base u v m l := ⟨h.two, h.one, fun b h1 h2 => h.ap b h2 h1⟩
theorem TwoS.lie {w w' : World} {base : Nat} {v v' u : Value} {l l' m : List Str} (h : TwoS w base v u l m) (hl : Lie 1 encT base 9 w v l' v' w') : TwoS w' base v' u l' m := by
  have := Lie.other hl h.two h.ap
  exact ⟨hl.1, this.1, this.2⟩
theorem twoS_nil (w : World) (base : Nat) : TwoS w base (.slice none 0 0) (.slice none 0 0) [] [] := ⟨own1_nil _ _ _, own1_nil _ _ _, fun b h => by cases h⟩
set_option maxRecDepth 1000000 in
set_option maxHeartbeats 8000000 in
theorem wholes_any (N : Nat) (hN : N = 401) (v : Value) (l : List Rel) (hl : ∀ r ∈ l, OkR r) (hn : l.length ≤ 1000) (w : World) (hv : RdRels w v l) :
    Calls Tryz.prog 117 #[v] w fun e w' => (∃ v', e = .returned v' ∧ Own1 1 encT w' w.heap.size 9 v' (outW l N)) ∧ Below w.heap.size w w' := by
  obtain ⟨iT, hiT, hzT, hkT, hbT⟩ := info_parts Tryz.infoT
  have HU := Lib.hid hv
  have HL := Lib.hid hl
  have HNN := Lib.hid hn
  have HNE := Lib.hid hN
  obtain ⟨base, hbase⟩ : ∃ base, w.heap.size = base := ⟨_, rfl⟩
  have HBS := Lib.hid hbase
  have HB0 : Hid (Below base w w) := Lib.hid (by rw [← hbase]; exact Below.refl _ _)
  rw [hbase]
  clear hv hl hn hbase hN
  go_enter Tryz.func117, Tryz.ntmps117
  go_wp2_with fail
  go_loopw [3, 4, 5] (fun v3 v4 v5 wr => ∃ n : Nat, n ≤ 401 ∧ v5 = .int .i64 n ∧ TwoS wr base v3 v4 (seenW l n) (outW l n) ∧ Below base w wr) (fun _ _ v5 _ => 401 - (intOf v5).toNat)
  case atStart => exact ⟨0, by omega, rfl, twoS_nil w base, HB0.out⟩
  case round =>
    rename World => w1
    obtain ⟨n, hn, rfl, ht, hb⟩ := hrel
    obtain ⟨p3, q3, h3⟩ := ht.one.slice
    subst h3
    obtain ⟨p4, q4, h4⟩ := ht.two.slice
    subst h4
    have HT := Lib.hid ht
    have HB := Lib.hid hb
    have HSL := Lib.hid (seenW_len l n)
    have HOL := Lib.hid (outW_len l n)
    have hz1 : base ≤ w1.heap.size := by have := hb.size; have := HBS.out; omega
    clear ht hb
    by_cases hlt : n ≤ 400
    · have h9 : (n : Int) ≤ 400 := by omega
      have HD := Lib.hid (dec_any n (by omega) w1)
      have HNEW := Lib.hid (plc_whole (l := l) (n := n))
      have HYES := Lib.hid (@seenW_new l n)
      have HNO := Lib.hid (@seenW_old l n)
      have HVS := Lib.hid (vecS_whole (l := l) (show n < 1000 by omega))
      obtain ⟨S, hS⟩ : ∃ S, seenW l n = S := ⟨_, rfl⟩
      obtain ⟨O, hO⟩ : ∃ O, outW l n = O := ⟨_, rfl⟩
      obtain ⟨V, hV⟩ : ∃ V, bitsOf (vecW l n) = V := ⟨_, rfl⟩
      rw [hS, hO] at HT ⊢
      rw [hS] at HSL HNEW HYES HNO
      rw [hO] at HOL HYES HNO
      rw [hV] at HNEW HYES HVS
      clear hS hO hV
      obtain ⟨D, hD⟩ : ∃ D, dtx n = D := ⟨_, rfl⟩
      have HDE := Lib.hid hD
      have hdl : D.length ≤ 3 := by rw [← hD]; exact (dtx_len n).2
      rw [hD] at HD HYES HVS
      clear hD
      go_wp2_with fail
      refine HD.out.mono ?_
      rintro e w2 ⟨rfl, b2⟩
      have HT2 := Lib.hid (HT.out.below b2)
      have HB2 := Lib.hid (HB.out.trans (b2.mono hz1))
      have hz2 := b2.size
      clear b2 HT HB HD
      have HVC := Lib.hid (vector_any v l HL.out HNN.out (ofL D) (by rw [ofL_size]; omega) true w2 (HU.out.below (by rw [HBS.out]; exact HB2.out)))
      rw [show (ofL D).data.toList = D from rfl, HVS.out] at HVC
      go_wp2_with fail
      refine HVC.out.mono ?_
      rintro e w3 ⟨rfl, b3⟩
      have HT3 := Lib.hid (HT2.out.below b3)
      have HB3 := Lib.hid (HB2.out.trans (b3.mono (by omega)))
      have hz3 := b3.size
      clear b3 HT2 HB2 HVC
      have HPL := Lib.hid (place_any _ S V w3 (HT3.out.one.rd encT_len))
      obtain ⟨P, hP⟩ : ∃ P, plc S V = P := ⟨_, rfl⟩
      rw [hP] at HPL HNEW
      clear hP
      by_cases hneg : P < 0
      · have HST := Lib.hid (HYES.out (HNEW.out.1 hneg))
        clear HYES HNO
        go_wp2_with fail
        refine HPL.out.mono ?_
        rintro e w4 ⟨rfl, hw4⟩
        obtain rfl := hw4.symm
        clear hw4 HPL
        have hs1 : S.length ≤ 1000000000 := by have := HSL.out; omega
        have ho1 : O.length ≤ 1000000000 := by have := HOL.out; omega
        have hb3 : base ≤ w3.heap.size := by omega
        go_wp2_with (first | (at_builtin; refine wpList_append_lie (w0 := w3) (x := V) (N := w3.heap.size) rfl rfl _ _ 29 rfl base iT _ 16 Tryz.underlying29 hiT hzT hkT hbT (by omega) rfl (by omega) encT_len encT_one _ S rfl rfl (HT3.out.one) rfl hs1 hb3 ?_; intro v9 w9 y1) | fail)
        have HT9 := Lib.hid (HT3.out.lie y1)
        have HB9 := Lib.hid (HB3.out.trans y1.2.1)
        have hz9 := y1.2.1.size
        obtain ⟨p9, n9, q9, h9'⟩ : ∃ p n q, v9 = .slice p n q := by obtain ⟨p, q, e⟩ := y1.1.slice; exact ⟨p, _, q, e⟩
        subst h9'
        clear y1 HT3 HB3
        have HD9 := Lib.hid (dec_any n (by omega) w9)
        rw [HDE.out] at HD9
        go_wp2_with fail
        refine HD9.out.mono ?_
        rintro e w10 ⟨rfl, b10⟩
        have HT10 := Lib.hid (HT9.out.below b10)
        have HB10 := Lib.hid (HB9.out.trans (b10.mono (by omega)))
        have hz10 := b10.size
        clear b10 HT9 HB9 HD9
        have hb10 : base ≤ w10.heap.size := by omega
        go_wp2_with (first | (at_builtin; refine wpList_append_lie (w0 := w10) (x := D) (N := w10.heap.size) rfl rfl _ _ 29 rfl base iT _ 16 Tryz.underlying29 hiT hzT hkT hbT (by omega) rfl (by omega) encT_len encT_one _ O rfl rfl (HT10.out.two) rfl ho1 hb10 ?_; intro v11 w11 y2) | fail)
        have HT11 := Lib.hid ((HT10.out.swap.lie y2).swap)
        have HB11 := Lib.hid (HB10.out.trans y2.2.1)
        clear y2 HT10 HB10
        go_wp2
        go_roundw
        case measure => simp [intOf]; omega
        case rel => exact ⟨n + 1, by omega, by go_num, by rw [HST.out.1, HST.out.2]; exact HT11.out, HB11.out⟩
      · have HST := Lib.hid (HNO.out (fun h => hneg (HNEW.out.2 h)))
        clear HYES HNO
        go_wp2_with fail
        refine HPL.out.mono ?_
        rintro e w4 ⟨rfl, hw4⟩
        obtain rfl := hw4.symm
        clear hw4 HPL
        go_wp2
        go_roundw
        case measure => simp [intOf]; omega
        case rel => exact ⟨n + 1, by omega, by go_num, by rw [HST.out.1, HST.out.2]; exact HT3.out, HB3.out⟩
    · have HF : Hid (N = n) := Lib.hid (by rw [HNE.out]; omega)
      go_wp2
      go_ret
      exact ⟨⟨_, rfl, by rw [HF.out]; exact HT.out.two⟩, HB.out⟩
end Go.Proofs.YtmnclnpbmgomgaaGreatDoor


