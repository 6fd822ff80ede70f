/- What the row stands on, part 31. -/
import Derived.Test.YtpmmchppfmojhaaGreatDoorQ30

/- Of the program's table package: the text of a locale. -/
namespace Go.Proofs.YtpmmchppfmojhaaGreatDoor
open Go.RowKit
set_option linter.unusedVariables false

set_option maxRecDepth 1000000 in
set_option maxHeartbeats 16000000 in
theorem localeText0 (x : RawLo) (p : Loc) (w : World) (hl : LocOk w x p) (hr : LocR p) (hv : LocV p) (hp : p.par = []) (E : EnvOf8 w) : Calls Tryz.prog 27 #[.agg #[.string (ofL p.tag), .string (ofL p.par), .string (ofL p.dir), .slice x.ca.a x.ca.n x.ca.c, .slice x.oc.a x.oc.n x.oc.c, .string (ofL p.sy.de), .string (ofL p.sy.gr), .string (ofL p.sy.mi), .string (ofL p.sy.pe), .int .i64 p.sy.pr, .int .i64 p.sy.se, .slice x.li.a x.li.n x.li.c, .slice x.un.a x.un.n x.un.c, .slice x.da.a x.da.n x.da.c, .slice x.mo.a x.mo.n x.mo.c, .slice x.dy.a x.dy.n x.dy.c]] w (Strs (loX p) w) := by
  have b1 : p.tag.length ≤ 500 := okW_le hv.tag
  have b2 : p.par.length ≤ 500 := by
    rcases hv.par with k | k
    · rw [k]; simp
    · exact okW_le k
  obtain ⟨t0, t1, t2⟩ := emp_yes hp
  have HF : Hid (((((((((((([108, 111, 99, 97, 108, 101, 32] ++ p.tag : Str) ++ [32, 123, 10]) ++ (dirX p.dir)) ++ (p.ca.flatMap (ruX kCar))) ++ (p.oc.flatMap (ruX kOrd))) ++ (syX p.sy)) ++ (p.li.flatMap liX)) ++ (p.un.flatMap unX)) ++ (p.da.flatMap daX)) ++ (namX [109, 111, 110, 116, 104, 115] p.mo)) ++ (namX [100, 97, 121, 115] p.dy)) ++ [125, 10] = loX p) := Lib.hid (by
    unfold loX itsX parTk
    rw [if_pos hp]
    simp [lineS, lineF, spR, kLoc, kPar, kMon, kDay, List.flatMap_cons, List.append_assoc])
  have l1 : (dirX p.dir).length ≤ 100 * 100000 := Nat.le_trans (dirX_le hv.dir) (by decide)
  have l2 : (p.ca.flatMap (ruX kCar)).length ≤ 100 * 100000 := Nat.le_trans (flatX_le _ p.ca 5 (rules_sm hv.ca).2.1 (fun y hy => ruX_le kCar (okw_kw (by decide)) y (ok_cl (List.mem_append_left _ (List.mem_append_left _ (hv.ca.1 y hy).1))) (hv.ca.1 y hy).2)) (by decide)
  have l3 : (p.oc.flatMap (ruX kOrd)).length ≤ 100 * 100000 := Nat.le_trans (flatX_le _ p.oc 5 (rules_sm hv.oc).2.1 (fun y hy => ruX_le kOrd (okw_kw (by decide)) y (ok_cl (List.mem_append_left _ (List.mem_append_left _ (hv.oc.1 y hy).1))) (hv.oc.1 y hy).2)) (by decide)
  have l4 : (syX p.sy).length ≤ 100 * 100000 := Nat.le_trans (syX_le hv.sy) (by decide)
  have l5 : (p.li.flatMap liX).length ≤ 100 * 100000 := Nat.le_trans (flatX_le _ p.li 10 hv.liL (fun y hy => liX_le y (hv.li y hy))) (by decide)
  have l6 : (p.un.flatMap unX).length ≤ 100 * 100000 := Nat.le_trans (flatX_le _ p.un 100 hv.unL (fun y hy => unX_le y (hv.un y hy))) (by decide)
  have l7 : (p.da.flatMap daX).length ≤ 100 * 100000 := Nat.le_trans (flatX_le _ p.da 30 hv.daL (fun y hy => daX_le y (hv.da y hy))) (by decide)
  have l8 : (namX [109, 111, 110, 116, 104, 115] p.mo).length ≤ 100 * 100000 := Nat.le_trans (namX_le _ (okw_kw (by decide)) p.mo (by rcases hv.moL with k | k <;> omega) hv.mo) (by decide)
  have l9 : (namX [100, 97, 121, 115] p.dy).length ≤ 100 * 100000 := Nat.le_trans (namX_le _ (okw_kw (by decide)) p.dy (by rcases hv.dyL with k | k <;> omega) hv.dy) (by decide)
  obtain ⟨s1, hs1⟩ : ∃ s, dirX p.dir = s := ⟨_, rfl⟩
  obtain ⟨s2, hs2⟩ : ∃ s, p.ca.flatMap (ruX kCar) = s := ⟨_, rfl⟩
  obtain ⟨s3, hs3⟩ : ∃ s, p.oc.flatMap (ruX kOrd) = s := ⟨_, rfl⟩
  obtain ⟨s4, hs4⟩ : ∃ s, syX p.sy = s := ⟨_, rfl⟩
  obtain ⟨s5, hs5⟩ : ∃ s, p.li.flatMap liX = s := ⟨_, rfl⟩
  obtain ⟨s6, hs6⟩ : ∃ s, p.un.flatMap unX = s := ⟨_, rfl⟩
  obtain ⟨s7, hs7⟩ : ∃ s, p.da.flatMap daX = s := ⟨_, rfl⟩
  obtain ⟨s8, hs8⟩ : ∃ s, namX [109, 111, 110, 116, 104, 115] p.mo = s := ⟨_, rfl⟩
  obtain ⟨s9, hs9⟩ : ∃ s, namX [100, 97, 121, 115] p.dy = s := ⟨_, rfl⟩
  have a1 : Hid (∀ wx, (Op.stringOp .add ⟨#[108, 111, 99, 97, 108, 101, 32]⟩ (ofL p.tag)).run Tryz.prog wx = .ok (.string (ofL ([108, 111, 99, 97, 108, 101, 32] ++ p.tag))) wx) := Lib.hid (fun wx => strAddK (x := [108, 111, 99, 97, 108, 101, 32]) (by simp only [List.length_cons, List.length_nil]; omega) rfl wx)
  have b3 : ([108, 111, 99, 97, 108, 101, 32] ++ p.tag : Str).length ≤ 2000 := by simp only [List.length_append, List.length_cons, List.length_nil]; omega
  obtain ⟨H, hH⟩ : ∃ H, ([108, 111, 99, 97, 108, 101, 32] ++ p.tag : Str) = H := ⟨_, rfl⟩
  rw [hH] at b3
  rw [hH] at a1
  rw [hH, hs1, hs2, hs3, hs4, hs5, hs6, hs7, hs8, hs9] at HF
  rw [hs1] at l1
  rw [hs2] at l2
  rw [hs3] at l3
  rw [hs4] at l4
  rw [hs5] at l5
  rw [hs6] at l6
  rw [hs7] at l7
  rw [hs8] at l8
  rw [hs9] at l9
  have g0 : (H ++ [32, 123, 10]).length ≤ 3000 := by rw [List.length_append]; simp only [List.length_cons, List.length_nil]; omega
  have d0 : Hid (∀ wx, (Op.stringOp .add (ofL H) ⟨#[32, 123, 10]⟩).run Tryz.prog wx = .ok (.string (ofL (H ++ [32, 123, 10]))) wx) := Lib.hid (fun wx => strAddK (y := [32, 123, 10]) (by simp only [List.length_cons, List.length_nil]; omega) rfl wx)
  obtain ⟨P0, hP0⟩ : ∃ P, H ++ [32, 123, 10] = P := ⟨_, rfl⟩
  rw [hP0] at g0 d0 HF
  have g1 : (P0 ++ s1).length ≤ 10003000 := by rw [List.length_append]; omega
  have d1 : Hid (∀ wx, (Op.stringOp .add (ofL P0) (ofL s1)).run Tryz.prog wx = .ok (.string (ofL (P0 ++ s1))) wx) := Lib.hid (fun wx => strAddK (by omega) rfl wx)
  obtain ⟨P1, hP1⟩ : ∃ P, P0 ++ s1 = P := ⟨_, rfl⟩
  rw [hP1] at g1 d1 HF
  have g2 : (P1 ++ s2).length ≤ 20003000 := by rw [List.length_append]; omega
  have d2 : Hid (∀ wx, (Op.stringOp .add (ofL P1) (ofL s2)).run Tryz.prog wx = .ok (.string (ofL (P1 ++ s2))) wx) := Lib.hid (fun wx => strAddK (by omega) rfl wx)
  obtain ⟨P2, hP2⟩ : ∃ P, P1 ++ s2 = P := ⟨_, rfl⟩
  rw [hP2] at g2 d2 HF
  have g3 : (P2 ++ s3).length ≤ 30003000 := by rw [List.length_append]; omega
  have d3 : Hid (∀ wx, (Op.stringOp .add (ofL P2) (ofL s3)).run Tryz.prog wx = .ok (.string (ofL (P2 ++ s3))) wx) := Lib.hid (fun wx => strAddK (by omega) rfl wx)
  obtain ⟨P3, hP3⟩ : ∃ P, P2 ++ s3 = P := ⟨_, rfl⟩
  rw [hP3] at g3 d3 HF
  have g4 : (P3 ++ s4).length ≤ 40003000 := by rw [List.length_append]; omega
  have d4 : Hid (∀ wx, (Op.stringOp .add (ofL P3) (ofL s4)).run Tryz.prog wx = .ok (.string (ofL (P3 ++ s4))) wx) := Lib.hid (fun wx => strAddK (by omega) rfl wx)
  obtain ⟨P4, hP4⟩ : ∃ P, P3 ++ s4 = P := ⟨_, rfl⟩
  rw [hP4] at g4 d4 HF
  have g5 : (P4 ++ s5).length ≤ 50003000 := by rw [List.length_append]; omega
  have d5 : Hid (∀ wx, (Op.stringOp .add (ofL P4) (ofL s5)).run Tryz.prog wx = .ok (.string (ofL (P4 ++ s5))) wx) := Lib.hid (fun wx => strAddK (by omega) rfl wx)
  obtain ⟨P5, hP5⟩ : ∃ P, P4 ++ s5 = P := ⟨_, rfl⟩
  rw [hP5] at g5 d5 HF
  have g6 : (P5 ++ s6).length ≤ 60003000 := by rw [List.length_append]; omega
  have d6 : Hid (∀ wx, (Op.stringOp .add (ofL P5) (ofL s6)).run Tryz.prog wx = .ok (.string (ofL (P5 ++ s6))) wx) := Lib.hid (fun wx => strAddK (by omega) rfl wx)
  obtain ⟨P6, hP6⟩ : ∃ P, P5 ++ s6 = P := ⟨_, rfl⟩
  rw [hP6] at g6 d6 HF
  have g7 : (P6 ++ s7).length ≤ 70003000 := by rw [List.length_append]; omega
  have d7 : Hid (∀ wx, (Op.stringOp .add (ofL P6) (ofL s7)).run Tryz.prog wx = .ok (.string (ofL (P6 ++ s7))) wx) := Lib.hid (fun wx => strAddK (by omega) rfl wx)
  obtain ⟨P7, hP7⟩ : ∃ P, P6 ++ s7 = P := ⟨_, rfl⟩
  rw [hP7] at g7 d7 HF
  have g8 : (P7 ++ s8).length ≤ 80003000 := by rw [List.length_append]; omega
  have d8 : Hid (∀ wx, (Op.stringOp .add (ofL P7) (ofL s8)).run Tryz.prog wx = .ok (.string (ofL (P7 ++ s8))) wx) := Lib.hid (fun wx => strAddK (by omega) rfl wx)
  obtain ⟨P8, hP8⟩ : ∃ P, P7 ++ s8 = P := ⟨_, rfl⟩
  rw [hP8] at g8 d8 HF
  have g9 : (P8 ++ s9).length ≤ 90003000 := by rw [List.length_append]; omega
  have d9 : Hid (∀ wx, (Op.stringOp .add (ofL P8) (ofL s9)).run Tryz.prog wx = .ok (.string (ofL (P8 ++ s9))) wx) := Lib.hid (fun wx => strAddK (by omega) rfl wx)
  obtain ⟨P9, hP9⟩ : ∃ P, P8 ++ s9 = P := ⟨_, rfl⟩
  rw [hP9] at g9 d9 HF
  have d10 : Hid (∀ wx, (Op.stringOp .add (ofL P9) ⟨#[125, 10]⟩).run Tryz.prog wx = .ok (.string (ofL (loX p))) wx) := Lib.hid (fun wx => strAddK (y := [125, 10]) (by simp only [List.length_cons, List.length_nil]; omega) HF.out wx)
  obtain ⟨LX, hLX⟩ : ∃ L, loX p = L := ⟨_, rfl⟩
  rw [hLX] at d10 ⊢
  have e1' := Lib.hid hs1
  have e2' := Lib.hid hs2
  have e3' := Lib.hid hs3
  have e4' := Lib.hid hs4
  have e5' := Lib.hid hs5
  have e6' := Lib.hid hs6
  have e7' := Lib.hid hs7
  have e8' := Lib.hid hs8
  have e9' := Lib.hid hs9
  clear HF hLX hH l1 g1 hP1 hs1 l2 g2 hP2 hs2 l3 g3 hP3 hs3 l4 g4 hP4 hs4 l5 g5 hP5 hs5 l6 g6 hP6 hs6 l7 g7 hP7 hs7 l8 g8 hP8 hs8 l9 g9 hP9 hs9 g0 hP0 b1 b2 b3 hp
  have hL := Lib.hid hl
  have hR := Lib.hid hr
  have hV := Lib.hid hv
  have B0 := Lib.hid ((Below.refl w.heap.size w).alloc (Nat.le_refl _) (.cells #[.string (ofL p.tag), .string (ofL p.par), .string (ofL p.dir), .slice x.ca.a x.ca.n x.ca.c, .slice x.oc.a x.oc.n x.oc.c, .string (ofL p.sy.de), .string (ofL p.sy.gr), .string (ofL p.sy.mi), .string (ofL p.sy.pe), .int .i64 p.sy.pr, .int .i64 p.sy.se, .slice x.li.a x.li.n x.li.c, .slice x.un.a x.un.n x.un.c, .slice x.da.a x.da.n x.da.c, .slice x.mo.a x.mo.n x.mo.c, .slice x.dy.a x.dy.n x.dy.c] 51))
  have E0 := Lib.hid (E.laterZ B0.out)
  obtain ⟨W0, hW0⟩ : ∃ W0, w.alloc (.cells #[.string (ofL p.tag), .string (ofL p.par), .string (ofL p.dir), .slice x.ca.a x.ca.n x.ca.c, .slice x.oc.a x.oc.n x.oc.c, .string (ofL p.sy.de), .string (ofL p.sy.gr), .string (ofL p.sy.mi), .string (ofL p.sy.pe), .int .i64 p.sy.pr, .int .i64 p.sy.se, .slice x.li.a x.li.n x.li.c, .slice x.un.a x.un.n x.un.c, .slice x.da.a x.da.n x.da.c, .slice x.mo.a x.mo.n x.mo.c, .slice x.dy.a x.dy.n x.dy.c] 51) = W0 := ⟨_, rfl⟩
  have K0 : Hid (Blk w.heap.size 51 #[.string (ofL p.tag), .string (ofL p.par), .string (ofL p.dir), .slice x.ca.a x.ca.n x.ca.c, .slice x.oc.a x.oc.n x.oc.c, .string (ofL p.sy.de), .string (ofL p.sy.gr), .string (ofL p.sy.mi), .string (ofL p.sy.pe), .int .i64 p.sy.pr, .int .i64 p.sy.se, .slice x.li.a x.li.n x.li.c, .slice x.un.a x.un.n x.un.c, .slice x.da.a x.da.n x.da.c, .slice x.mo.a x.mo.n x.mo.c, .slice x.dy.a x.dy.n x.dy.c] W0) := Lib.hid (by rw [← hW0]; exact Blk.new w _ _)
  have HW0 := Lib.hid hW0
  rw [hW0] at B0 E0
  obtain ⟨h, hh⟩ : ∃ h, w.heap.size = h := ⟨_, rfl⟩
  have HH := Lib.hid hh
  rw [hh] at K0
  have HCE : Hid (∀ wx, Blk h 51 #[.string (ofL p.tag), .string (ofL p.par), .string (ofL p.dir), .slice x.ca.a x.ca.n x.ca.c, .slice x.oc.a x.oc.n x.oc.c, .string (ofL p.sy.de), .string (ofL p.sy.gr), .string (ofL p.sy.mi), .string (ofL p.sy.pe), .int .i64 p.sy.pr, .int .i64 p.sy.se, .slice x.li.a x.li.n x.li.c, .slice x.un.a x.un.n x.un.c, .slice x.da.a x.da.n x.da.c, .slice x.mo.a x.mo.n x.mo.c, .slice x.dy.a x.dy.n x.dy.c] wx → wx.cell? ⟨h, 0, none⟩ = some (.string (ofL p.tag)) ∧ wx.cell? ⟨h, 1, none⟩ = some (.string (ofL p.par)) ∧ wx.cell? ⟨h, 2, none⟩ = some (.string (ofL p.dir)) ∧ wx.cell? ⟨h, 3, none⟩ = some (.slice x.ca.a x.ca.n x.ca.c) ∧ wx.cell? ⟨h, 4, none⟩ = some (.slice x.oc.a x.oc.n x.oc.c) ∧ wx.cell? ⟨h, 5, none⟩ = some (.string (ofL p.sy.de)) ∧ wx.cell? ⟨h, 6, none⟩ = some (.string (ofL p.sy.gr)) ∧ wx.cell? ⟨h, 7, none⟩ = some (.string (ofL p.sy.mi)) ∧ wx.cell? ⟨h, 8, none⟩ = some (.string (ofL p.sy.pe)) ∧ wx.cell? ⟨h, 9, none⟩ = some (.int .i64 p.sy.pr) ∧ wx.cell? ⟨h, 10, none⟩ = some (.int .i64 p.sy.se) ∧ wx.cell? ⟨h, 11, none⟩ = some (.slice x.li.a x.li.n x.li.c) ∧ wx.cell? ⟨h, 12, none⟩ = some (.slice x.un.a x.un.n x.un.c) ∧ wx.cell? ⟨h, 13, none⟩ = some (.slice x.da.a x.da.n x.da.c) ∧ wx.cell? ⟨h, 14, none⟩ = some (.slice x.mo.a x.mo.n x.mo.c) ∧ wx.cell? ⟨h, 15, none⟩ = some (.slice x.dy.a x.dy.n x.dy.c)) := Lib.hid (fun wx hb => ⟨hb.cell 0, hb.cell 1, hb.cell 2, hb.cell 3, hb.cell 4, hb.cell 5, hb.cell 6, hb.cell 7, hb.cell 8, hb.cell 9, hb.cell 10, hb.cell 11, hb.cell 12, hb.cell 13, hb.cell 14, hb.cell 15⟩)
  have c0 : W0.cell? ⟨h, 0, none⟩ = some (.string (ofL p.tag)) := K0.out.cell 0
  have c1 : W0.cell? ⟨h, 1, none⟩ = some (.string (ofL p.par)) := K0.out.cell 1
  have m1 := a1.out
  clear E hW0 hh hl hr hv
  go_enter Tryz.func27, Tryz.ntmps27
  go_upto_region 1 with fail
  rw [HW0.out, HH.out]
  clear HW0 HH
  go_upto_region 4 with fail
  clear c0 c1 m1 t0 t1 t2
  refine region_hd 37 (fun wx : World => wx.cell? ⟨h, 0, none⟩ = some (.string (ofL p.tag)) ∧ wx.cell? ⟨h, 1, none⟩ = some (.string (ofL p.par)) ∧ wx.cell? ⟨h, 2, none⟩ = some (.string (ofL p.dir)) ∧ wx.cell? ⟨h, 3, none⟩ = some (.slice x.ca.a x.ca.n x.ca.c) ∧ wx.cell? ⟨h, 4, none⟩ = some (.slice x.oc.a x.oc.n x.oc.c) ∧ wx.cell? ⟨h, 5, none⟩ = some (.string (ofL p.sy.de)) ∧ wx.cell? ⟨h, 6, none⟩ = some (.string (ofL p.sy.gr)) ∧ wx.cell? ⟨h, 7, none⟩ = some (.string (ofL p.sy.mi)) ∧ wx.cell? ⟨h, 8, none⟩ = some (.string (ofL p.sy.pe)) ∧ wx.cell? ⟨h, 9, none⟩ = some (.int .i64 p.sy.pr) ∧ wx.cell? ⟨h, 10, none⟩ = some (.int .i64 p.sy.se) ∧ wx.cell? ⟨h, 11, none⟩ = some (.slice x.li.a x.li.n x.li.c) ∧ wx.cell? ⟨h, 12, none⟩ = some (.slice x.un.a x.un.n x.un.c) ∧ wx.cell? ⟨h, 13, none⟩ = some (.slice x.da.a x.da.n x.da.c) ∧ wx.cell? ⟨h, 14, none⟩ = some (.slice x.mo.a x.mo.n x.mo.c) ∧ wx.cell? ⟨h, 15, none⟩ = some (.slice x.dy.a x.dy.n x.dy.c)) (by kernel_rfl) (by kernel_rfl) ?_
  have K1 := Lib.hid (Blk.below K0.out (Below.refl W0.heap.size W0).drew)
  have B1 := Lib.hid (st B0.out (Below.refl W0.heap.size W0).drew B0.out.size)
  have E1 := Lib.hid (E0.out.laterZ (Below.refl W0.heap.size W0).drew)
  obtain ⟨W1, hW1⟩ : ∃ W1, W0.drew = W1 := ⟨_, rfl⟩
  rw [hW1] at K1 B1 E1 ⊢
  clear hW1 K0 B0 E0
  have hS1 := HCE.out W1 K1.out
  have m0 := d0.out
  refine hd_taken 0 (some 15) _ ?hdv0 rfl rfl (by kernel_rfl) (fun _ _ _ h => h) (Or.inl ⟨by rfl, ?hdy0⟩) hS1 ?hdr0
  case hdy0 => (intro wx hx; (try dsimp only at hx); go_simp; try with_reducible rfl)
  try simp only [Act.put, List.setIfInBounds_toArray, List.set_cons_zero, List.set_cons_succ]
  refine hd_taken 1 (some 16) _ ?hdv1 rfl rfl (by kernel_rfl) (fun _ _ _ h => h) (Or.inl ⟨by rfl, ?hdy1⟩) hS1 ?hdr1
  case hdy1 => (intro wx hx; (try dsimp only at hx); go_simp; try with_reducible rfl)
  try simp only [Act.put, List.setIfInBounds_toArray, List.set_cons_zero, List.set_cons_succ]
  refine hd_taken 2 (some 17) _ ?hdv2 rfl rfl (by kernel_rfl) (fun _ _ _ h => h) (Or.inl ⟨by rfl, ?hdy2⟩) hS1 ?hdr2
  case hdy2 => (intro wx hx; (try dsimp only at hx); go_simp; try with_reducible rfl)
  try simp only [Act.put, List.setIfInBounds_toArray, List.set_cons_zero, List.set_cons_succ]
  refine hd_taken 3 (some 18) _ ?hdv3 rfl rfl (by kernel_rfl) (fun _ _ _ h => h) (Or.inl ⟨by rfl, ?hdy3⟩) hS1 ?hdr3
  case hdy3 => (intro wx hx; (try dsimp only at hx); go_simp; try with_reducible rfl)
  try simp only [Act.put, List.setIfInBounds_toArray, List.set_cons_zero, List.set_cons_succ]
  refine hd_taken 6 (some 21) _ ?hdv6 rfl rfl (by kernel_rfl) (fun _ _ _ h => h) (Or.inl ⟨by rfl, ?hdy6⟩) hS1 ?hdr6
  case hdy6 => (intro wx hx; (try dsimp only at hx); go_simp; try with_reducible rfl)
  try simp only [Act.put, List.setIfInBounds_toArray, List.set_cons_zero, List.set_cons_succ]
  refine hd_taken 7 (some 22) _ ?hdv7 rfl rfl (by kernel_rfl) (fun _ _ _ h => h) (Or.inl ⟨by rfl, ?hdy7⟩) hS1 ?hdr7
  case hdy7 => (intro wx hx; (try dsimp only at hx); go_simp; try with_reducible rfl)
  try simp only [Act.put, List.setIfInBounds_toArray, List.set_cons_zero, List.set_cons_succ]
  refine hd_taken 10 (some 25) _ ?hdv10 rfl rfl (by kernel_rfl) (fun _ _ _ h => h) (Or.inl ⟨by rfl, ?hdy10⟩) hS1 ?hdr10
  case hdy10 => (intro wx hx; (try dsimp only at hx); go_simp; try with_reducible rfl)
  try simp only [Act.put, List.setIfInBounds_toArray, List.set_cons_zero, List.set_cons_succ]
  refine hd_taken 11 (some 26) _ ?hdv11 rfl rfl (by kernel_rfl) (fun _ _ _ h => h) (Or.inl ⟨by rfl, ?hdy11⟩) hS1 ?hdr11
  case hdy11 => (intro wx hx; (try dsimp only at hx); go_simp; try with_reducible rfl)
  try simp only [Act.put, List.setIfInBounds_toArray, List.set_cons_zero, List.set_cons_succ]
  refine hd_taken 14 (some 29) _ ?hdv14 rfl rfl (by kernel_rfl) (fun _ _ _ h => h) (Or.inl ⟨by rfl, ?hdy14⟩) hS1 ?hdr14
  case hdy14 => (intro wx hx; (try dsimp only at hx); go_simp; try with_reducible rfl)
  try simp only [Act.put, List.setIfInBounds_toArray, List.set_cons_zero, List.set_cons_succ]
  refine hd_taken 15 (some 30) _ ?hdv15 rfl rfl (by kernel_rfl) (fun _ _ _ h => h) (Or.inl ⟨by rfl, ?hdy15⟩) hS1 ?hdr15
  case hdy15 => (intro wx hx; (try dsimp only at hx); go_simp; try with_reducible rfl)
  try simp only [Act.put, List.setIfInBounds_toArray, List.set_cons_zero, List.set_cons_succ]
  refine hd_taken 18 (some 33) _ ?hdv18 rfl rfl (by kernel_rfl) (fun _ _ _ h => h) (Or.inl ⟨by rfl, ?hdy18⟩) hS1 ?hdr18
  case hdy18 => (intro wx hx; (try dsimp only at hx); go_simp; try with_reducible rfl)
  try simp only [Act.put, List.setIfInBounds_toArray, List.set_cons_zero, List.set_cons_succ]
  refine hd_taken 19 (some 34) _ ?hdv19 rfl rfl (by kernel_rfl) (fun _ _ _ h => h) (Or.inl ⟨by rfl, ?hdy19⟩) hS1 ?hdr19
  case hdy19 => (intro wx hx; (try dsimp only at hx); go_simp; try with_reducible rfl)
  try simp only [Act.put, List.setIfInBounds_toArray, List.set_cons_zero, List.set_cons_succ]
  refine hd_taken 22 (some 37) _ ?hdv22 rfl rfl (by kernel_rfl) (fun _ _ _ h => h) (Or.inl ⟨by rfl, ?hdy22⟩) hS1 ?hdr22
  case hdy22 => (intro wx hx; (try dsimp only at hx); go_simp; try with_reducible rfl)
  try simp only [Act.put, List.setIfInBounds_toArray, List.set_cons_zero, List.set_cons_succ]
  refine hd_taken 23 (some 38) _ ?hdv23 rfl rfl (by kernel_rfl) (fun _ _ _ h => h) (Or.inl ⟨by rfl, ?hdy23⟩) hS1 ?hdr23
  case hdy23 => (intro wx hx; (try dsimp only at hx); go_simp; try with_reducible rfl)
  try simp only [Act.put, List.setIfInBounds_toArray, List.set_cons_zero, List.set_cons_succ]
  refine hd_taken 26 (some 41) _ ?hdv26 rfl rfl (by kernel_rfl) (fun _ _ _ h => h) (Or.inl ⟨by rfl, ?hdy26⟩) hS1 ?hdr26
  case hdy26 => (intro wx hx; (try dsimp only at hx); go_simp; try with_reducible rfl)
  try simp only [Act.put, List.setIfInBounds_toArray, List.set_cons_zero, List.set_cons_succ]
  refine hd_taken 27 (some 42) _ ?hdv27 rfl rfl (by kernel_rfl) (fun _ _ _ h => h) (Or.inl ⟨by rfl, ?hdy27⟩) hS1 ?hdr27
  case hdy27 => (intro wx hx; (try dsimp only at hx); go_simp; try with_reducible rfl)
  try simp only [Act.put, List.setIfInBounds_toArray, List.set_cons_zero, List.set_cons_succ]
  refine hd_taken 30 (some 45) _ ?hdv30 rfl rfl (by kernel_rfl) (fun _ _ _ h => h) (Or.inl ⟨by rfl, ?hdy30⟩) hS1 ?hdr30
  case hdy30 => (intro wx hx; (try dsimp only at hx); go_simp; try with_reducible rfl)
  try simp only [Act.put, List.setIfInBounds_toArray, List.set_cons_zero, List.set_cons_succ]
  refine hd_taken 31 (some 46) _ ?hdv31 rfl rfl (by kernel_rfl) (fun _ _ _ h => h) (Or.inl ⟨by rfl, ?hdy31⟩) hS1 ?hdr31
  case hdy31 => (intro wx hx; (try dsimp only at hx); go_simp; try with_reducible rfl)
  try simp only [Act.put, List.setIfInBounds_toArray, List.set_cons_zero, List.set_cons_succ]
  refine hd_taken 34 (some 49) _ ?hdv34 rfl rfl (by kernel_rfl) (fun _ _ _ h => h) (Or.inl ⟨by rfl, ?hdy34⟩) hS1 ?hdr34
  case hdy34 => (intro wx hx; (try dsimp only at hx); go_simp; try with_reducible rfl)
  try simp only [Act.put, List.setIfInBounds_toArray, List.set_cons_zero, List.set_cons_succ]
  refine hd_taken 35 (some 50) _ ?hdv35 rfl rfl (by kernel_rfl) (fun _ _ _ h => h) (Or.inl ⟨by rfl, ?hdy35⟩) hS1 ?hdr35
  case hdy35 => (intro wx hx; (try dsimp only at hx); go_simp; try with_reducible rfl)
  try simp only [Act.put, List.setIfInBounds_toArray, List.set_cons_zero, List.set_cons_succ]
  clear m0
  refine hd_one 4 _ rfl (by kernel_rfl) (by decide) (fun K hK => ?_)
  go_simp
  refine (directionItem_any p.dir hV.out.dir _ (env_of8 E1.out)).mono ?_
  rw [e1'.out]
  rintro e W2 ⟨rfl, hb⟩
  try dsimp only
  have K2 := Lib.hid (Blk.below K1.out hb)
  have B2 := Lib.hid (st B1.out hb B1.out.size)
  have E2 := Lib.hid (E1.out.laterZ hb)
  have hS2 := HCE.out W2 K2.out
  refine hK.out _ _ hS2 ?_
  clear hK K hb hS1 K1 B1 E1
  try simp only [Act.put, List.setIfInBounds_toArray, List.set_cons_zero, List.set_cons_succ]
  have m1 := d1.out
  refine hd_taken 5 (some 20) _ ?hdv5 rfl rfl (by kernel_rfl) (fun _ _ _ h => h) (Or.inl ⟨by rfl, ?hdy5⟩) hS2 ?hdr5
  case hdy5 => (intro wx hx; (try dsimp only at hx); go_simp; try with_reducible rfl)
  try simp only [Act.put, List.setIfInBounds_toArray, List.set_cons_zero, List.set_cons_succ]
  clear m1
  refine hd_one 8 _ rfl (by kernel_rfl) (by decide) (fun K hK => ?_)
  go_simp
  refine (carText _ p.ca _ (hL.out.ca.below B2.out) hV.out.ca hR.out.ca E2.out).mono ?_
  rw [e2'.out]
  rintro e W3 ⟨rfl, hb⟩
  try dsimp only
  have K3 := Lib.hid (Blk.below K2.out hb)
  have B3 := Lib.hid (st B2.out hb B2.out.size)
  have E3 := Lib.hid (E2.out.laterZ hb)
  have hS3 := HCE.out W3 K3.out
  refine hK.out _ _ hS3 ?_
  clear hK K hb hS2 K2 B2 E2
  try simp only [Act.put, List.setIfInBounds_toArray, List.set_cons_zero, List.set_cons_succ]
  have m2 := d2.out
  refine hd_taken 9 (some 24) _ ?hdv9 rfl rfl (by kernel_rfl) (fun _ _ _ h => h) (Or.inl ⟨by rfl, ?hdy9⟩) hS3 ?hdr9
  case hdy9 => (intro wx hx; (try dsimp only at hx); go_simp; try with_reducible rfl)
  try simp only [Act.put, List.setIfInBounds_toArray, List.set_cons_zero, List.set_cons_succ]
  clear m2
  refine hd_one 12 _ rfl (by kernel_rfl) (by decide) (fun K hK => ?_)
  go_simp
  refine (ordText _ p.oc _ (hL.out.oc.below B3.out) hV.out.oc hR.out.oc E3.out).mono ?_
  rw [e3'.out]
  rintro e W4 ⟨rfl, hb⟩
  try dsimp only
  have K4 := Lib.hid (Blk.below K3.out hb)
  have B4 := Lib.hid (st B3.out hb B3.out.size)
  have E4 := Lib.hid (E3.out.laterZ hb)
  have hS4 := HCE.out W4 K4.out
  refine hK.out _ _ hS4 ?_
  clear hK K hb hS3 K3 B3 E3
  try simp only [Act.put, List.setIfInBounds_toArray, List.set_cons_zero, List.set_cons_succ]
  have m3 := d3.out
  refine hd_taken 13 (some 28) _ ?hdv13 rfl rfl (by kernel_rfl) (fun _ _ _ h => h) (Or.inl ⟨by rfl, ?hdy13⟩) hS4 ?hdr13
  case hdy13 => (intro wx hx; (try dsimp only at hx); go_simp; try with_reducible rfl)
  try simp only [Act.put, List.setIfInBounds_toArray, List.set_cons_zero, List.set_cons_succ]
  clear m3
  refine hd_one 16 _ rfl (by kernel_rfl) (by decide) (fun K hK => ?_)
  go_simp
  refine (symbolsItem_any p.sy hV.out.sy _ (env_of8 E4.out)).mono ?_
  rw [e4'.out]
  rintro e W5 ⟨rfl, hb⟩
  try dsimp only
  have K5 := Lib.hid (Blk.below K4.out hb)
  have B5 := Lib.hid (st B4.out hb B4.out.size)
  have E5 := Lib.hid (E4.out.laterZ hb)
  have hS5 := HCE.out W5 K5.out
  refine hK.out _ _ hS5 ?_
  clear hK K hb hS4 K4 B4 E4
  try simp only [Act.put, List.setIfInBounds_toArray, List.set_cons_zero, List.set_cons_succ]
  have m4 := d4.out
  refine hd_taken 17 (some 32) _ ?hdv17 rfl rfl (by kernel_rfl) (fun _ _ _ h => h) (Or.inl ⟨by rfl, ?hdy17⟩) hS5 ?hdr17
  case hdy17 => (intro wx hx; (try dsimp only at hx); go_simp; try with_reducible rfl)
  try simp only [Act.put, List.setIfInBounds_toArray, List.set_cons_zero, List.set_cons_succ]
  clear m4
  refine hd_one 20 _ rfl (by kernel_rfl) (by decide) (fun K hK => ?_)
  go_simp
  refine (listsText _ p.li _ (hL.out.li.below B5.out) (by have := hV.out.liL; omega) hV.out.li E5.out).mono ?_
  rw [e5'.out]
  rintro e W6 ⟨rfl, hb⟩
  try dsimp only
  have K6 := Lib.hid (Blk.below K5.out hb)
  have B6 := Lib.hid (st B5.out hb B5.out.size)
  have E6 := Lib.hid (E5.out.laterZ hb)
  have hS6 := HCE.out W6 K6.out
  refine hK.out _ _ hS6 ?_
  clear hK K hb hS5 K5 B5 E5
  try simp only [Act.put, List.setIfInBounds_toArray, List.set_cons_zero, List.set_cons_succ]
  have m5 := d5.out
  refine hd_taken 21 (some 36) _ ?hdv21 rfl rfl (by kernel_rfl) (fun _ _ _ h => h) (Or.inl ⟨by rfl, ?hdy21⟩) hS6 ?hdr21
  case hdy21 => (intro wx hx; (try dsimp only at hx); go_simp; try with_reducible rfl)
  try simp only [Act.put, List.setIfInBounds_toArray, List.set_cons_zero, List.set_cons_succ]
  clear m5
  refine hd_one 24 _ rfl (by kernel_rfl) (by decide) (fun K hK => ?_)
  go_simp
  refine (unitsText _ p.un _ (hL.out.un.below B6.out) (by have := hV.out.unL; omega) hV.out.un E6.out).mono ?_
  rw [e6'.out]
  rintro e W7 ⟨rfl, hb⟩
  try dsimp only
  have K7 := Lib.hid (Blk.below K6.out hb)
  have B7 := Lib.hid (st B6.out hb B6.out.size)
  have E7 := Lib.hid (E6.out.laterZ hb)
  have hS7 := HCE.out W7 K7.out
  refine hK.out _ _ hS7 ?_
  clear hK K hb hS6 K6 B6 E6
  try simp only [Act.put, List.setIfInBounds_toArray, List.set_cons_zero, List.set_cons_succ]
  have m6 := d6.out
  refine hd_taken 25 (some 40) _ ?hdv25 rfl rfl (by kernel_rfl) (fun _ _ _ h => h) (Or.inl ⟨by rfl, ?hdy25⟩) hS7 ?hdr25
  case hdy25 => (intro wx hx; (try dsimp only at hx); go_simp; try with_reducible rfl)
  try simp only [Act.put, List.setIfInBounds_toArray, List.set_cons_zero, List.set_cons_succ]
  clear m6
  refine hd_one 28 _ rfl (by kernel_rfl) (by decide) (fun K hK => ?_)
  go_simp
  refine (datesText _ p.da _ (hL.out.da.below B7.out) (by have := hV.out.daL; omega) hV.out.da E7.out).mono ?_
  rw [e7'.out]
  rintro e W8 ⟨rfl, hb⟩
  try dsimp only
  have K8 := Lib.hid (Blk.below K7.out hb)
  have B8 := Lib.hid (st B7.out hb B7.out.size)
  have E8 := Lib.hid (E7.out.laterZ hb)
  have hS8 := HCE.out W8 K8.out
  refine hK.out _ _ hS8 ?_
  clear hK K hb hS7 K7 B7 E7
  try simp only [Act.put, List.setIfInBounds_toArray, List.set_cons_zero, List.set_cons_succ]
  have m7 := d7.out
  refine hd_taken 29 (some 44) _ ?hdv29 rfl rfl (by kernel_rfl) (fun _ _ _ h => h) (Or.inl ⟨by rfl, ?hdy29⟩) hS8 ?hdr29
  case hdy29 => (intro wx hx; (try dsimp only at hx); go_simp; try with_reducible rfl)
  try simp only [Act.put, List.setIfInBounds_toArray, List.set_cons_zero, List.set_cons_succ]
  clear m7
  refine hd_one 32 _ rfl (by kernel_rfl) (by decide) (fun K hK => ?_)
  go_simp
  refine (namesItem_any [109, 111, 110, 116, 104, 115] (okw_kw (by decide)) _ p.mo (by rcases hV.out.moL with k | k <;> omega) hV.out.mo _ (hL.out.mo.below B8.out) (env_of8 E8.out)).mono ?_
  rw [e8'.out]
  rintro e W9 ⟨rfl, hb⟩
  try dsimp only
  have K9 := Lib.hid (Blk.below K8.out hb)
  have B9 := Lib.hid (st B8.out hb B8.out.size)
  have E9 := Lib.hid (E8.out.laterZ hb)
  have hS9 := HCE.out W9 K9.out
  refine hK.out _ _ hS9 ?_
  clear hK K hb hS8 K8 B8 E8
  try simp only [Act.put, List.setIfInBounds_toArray, List.set_cons_zero, List.set_cons_succ]
  have m8 := d8.out
  refine hd_taken 33 (some 48) _ ?hdv33 rfl rfl (by kernel_rfl) (fun _ _ _ h => h) (Or.inl ⟨by rfl, ?hdy33⟩) hS9 ?hdr33
  case hdy33 => (intro wx hx; (try dsimp only at hx); go_simp; try with_reducible rfl)
  try simp only [Act.put, List.setIfInBounds_toArray, List.set_cons_zero, List.set_cons_succ]
  clear m8
  refine hd_one 36 _ rfl (by kernel_rfl) (by decide) (fun K hK => ?_)
  go_simp
  refine (namesItem_any [100, 97, 121, 115] (okw_kw (by decide)) _ p.dy (by rcases hV.out.dyL with k | k <;> omega) hV.out.dy _ (hL.out.dy.below B9.out) (env_of8 E9.out)).mono ?_
  rw [e9'.out]
  rintro e W10 ⟨rfl, hb⟩
  try dsimp only
  have K10 := Lib.hid (Blk.below K9.out hb)
  have B10 := Lib.hid (st B9.out hb B9.out.size)
  have E10 := Lib.hid (E9.out.laterZ hb)
  have hS10 := HCE.out W10 K10.out
  refine hK.out _ _ hS10 ?_
  clear hK K hb hS9 K9 B9 E9
  try simp only [Act.put, List.setIfInBounds_toArray, List.set_cons_zero, List.set_cons_succ]
  refine hd_done (by kernel_rfl) ?_
  simp only [List.drop_succ_cons, List.drop_zero]
  clear hS10
  have m9 := d9.out
  have m10 := d10.out
  go_wp2_with fail
  go_ret
  exact ⟨rfl, B10.out⟩
set_option maxRecDepth 1000000 in
set_option maxHeartbeats 16000000 in
theorem localeText1 (x : RawLo) (p : Loc) (w : World) (hl : LocOk w x p) (hr : LocR p) (hv : LocV p) (hp : ¬ p.par = []) (E : EnvOf8 w) : Calls Tryz.prog 27 #[.agg #[.string (ofL p.tag), .string (ofL p.par), .string (ofL p.dir), .slice x.ca.a x.ca.n x.ca.c, .slice x.oc.a x.oc.n x.oc.c, .string (ofL p.sy.de), .string (ofL p.sy.gr), .string (ofL p.sy.mi), .string (ofL p.sy.pe), .int .i64 p.sy.pr, .int .i64 p.sy.se, .slice x.li.a x.li.n x.li.c, .slice x.un.a x.un.n x.un.c, .slice x.da.a x.da.n x.da.c, .slice x.mo.a x.mo.n x.mo.c, .slice x.dy.a x.dy.n x.dy.c]] w (Strs (loX p) w) := by
  have b1 : p.tag.length ≤ 500 := okW_le hv.tag
  have b2 : p.par.length ≤ 500 := by
    rcases hv.par with k | k
    · rw [k]; simp
    · exact okW_le k
  obtain ⟨t0, t1, t2⟩ := emp_no hp
  have HF : Hid ((((((((((((([108, 111, 99, 97, 108, 101, 32] ++ p.tag) ++ ([32, 112, 97, 114, 101, 110, 116, 32] ++ p.par) : Str) ++ [32, 123, 10]) ++ (dirX p.dir)) ++ (p.ca.flatMap (ruX kCar))) ++ (p.oc.flatMap (ruX kOrd))) ++ (syX p.sy)) ++ (p.li.flatMap liX)) ++ (p.un.flatMap unX)) ++ (p.da.flatMap daX)) ++ (namX [109, 111, 110, 116, 104, 115] p.mo)) ++ (namX [100, 97, 121, 115] p.dy)) ++ [125, 10] = loX p) := Lib.hid (by
    unfold loX itsX parTk
    rw [if_neg hp]
    simp [lineS, lineF, spR, kLoc, kPar, kMon, kDay, List.flatMap_cons, List.append_assoc])
  have l1 : (dirX p.dir).length ≤ 100 * 100000 := Nat.le_trans (dirX_le hv.dir) (by decide)
  have l2 : (p.ca.flatMap (ruX kCar)).length ≤ 100 * 100000 := Nat.le_trans (flatX_le _ p.ca 5 (rules_sm hv.ca).2.1 (fun y hy => ruX_le kCar (okw_kw (by decide)) y (ok_cl (List.mem_append_left _ (List.mem_append_left _ (hv.ca.1 y hy).1))) (hv.ca.1 y hy).2)) (by decide)
  have l3 : (p.oc.flatMap (ruX kOrd)).length ≤ 100 * 100000 := Nat.le_trans (flatX_le _ p.oc 5 (rules_sm hv.oc).2.1 (fun y hy => ruX_le kOrd (okw_kw (by decide)) y (ok_cl (List.mem_append_left _ (List.mem_append_left _ (hv.oc.1 y hy).1))) (hv.oc.1 y hy).2)) (by decide)
  have l4 : (syX p.sy).length ≤ 100 * 100000 := Nat.le_trans (syX_le hv.sy) (by decide)
  have l5 : (p.li.flatMap liX).length ≤ 100 * 100000 := Nat.le_trans (flatX_le _ p.li 10 hv.liL (fun y hy => liX_le y (hv.li y hy))) (by decide)
  have l6 : (p.un.flatMap unX).length ≤ 100 * 100000 := Nat.le_trans (flatX_le _ p.un 100 hv.unL (fun y hy => unX_le y (hv.un y hy))) (by decide)
  have l7 : (p.da.flatMap daX).length ≤ 100 * 100000 := Nat.le_trans (flatX_le _ p.da 30 hv.daL (fun y hy => daX_le y (hv.da y hy))) (by decide)
  have l8 : (namX [109, 111, 110, 116, 104, 115] p.mo).length ≤ 100 * 100000 := Nat.le_trans (namX_le _ (okw_kw (by decide)) p.mo (by rcases hv.moL with k | k <;> omega) hv.mo) (by decide)
  have l9 : (namX [100, 97, 121, 115] p.dy).length ≤ 100 * 100000 := Nat.le_trans (namX_le _ (okw_kw (by decide)) p.dy (by rcases hv.dyL with k | k <;> omega) hv.dy) (by decide)
  obtain ⟨s1, hs1⟩ : ∃ s, dirX p.dir = s := ⟨_, rfl⟩
  obtain ⟨s2, hs2⟩ : ∃ s, p.ca.flatMap (ruX kCar) = s := ⟨_, rfl⟩
  obtain ⟨s3, hs3⟩ : ∃ s, p.oc.flatMap (ruX kOrd) = s := ⟨_, rfl⟩
  obtain ⟨s4, hs4⟩ : ∃ s, syX p.sy = s := ⟨_, rfl⟩
  obtain ⟨s5, hs5⟩ : ∃ s, p.li.flatMap liX = s := ⟨_, rfl⟩
  obtain ⟨s6, hs6⟩ : ∃ s, p.un.flatMap unX = s := ⟨_, rfl⟩
  obtain ⟨s7, hs7⟩ : ∃ s, p.da.flatMap daX = s := ⟨_, rfl⟩
  obtain ⟨s8, hs8⟩ : ∃ s, namX [109, 111, 110, 116, 104, 115] p.mo = s := ⟨_, rfl⟩
  obtain ⟨s9, hs9⟩ : ∃ s, namX [100, 97, 121, 115] p.dy = s := ⟨_, rfl⟩
  have a1 : Hid (∀ wx, (Op.stringOp .add ⟨#[108, 111, 99, 97, 108, 101, 32]⟩ (ofL p.tag)).run Tryz.prog wx = .ok (.string (ofL ([108, 111, 99, 97, 108, 101, 32] ++ p.tag))) wx) := Lib.hid (fun wx => strAddK (x := [108, 111, 99, 97, 108, 101, 32]) (by simp only [List.length_cons, List.length_nil]; omega) rfl wx)
  have a2 : Hid (∀ wx, (Op.stringOp .add ⟨#[32, 112, 97, 114, 101, 110, 116, 32]⟩ (ofL p.par)).run Tryz.prog wx = .ok (.string (ofL ([32, 112, 97, 114, 101, 110, 116, 32] ++ p.par))) wx) := Lib.hid (fun wx => strAddK (x := [32, 112, 97, 114, 101, 110, 116, 32]) (by simp only [List.length_cons, List.length_nil]; omega) rfl wx)
  have a3 : Hid (∀ wx, (Op.stringOp .add (ofL ([108, 111, 99, 97, 108, 101, 32] ++ p.tag)) (ofL ([32, 112, 97, 114, 101, 110, 116, 32] ++ p.par))).run Tryz.prog wx = .ok (.string (ofL (([108, 111, 99, 97, 108, 101, 32] ++ p.tag) ++ ([32, 112, 97, 114, 101, 110, 116, 32] ++ p.par) : Str))) wx) := Lib.hid (fun wx => strAddK (by simp only [List.length_append, List.length_cons, List.length_nil]; omega) rfl wx)
  have b3 : (([108, 111, 99, 97, 108, 101, 32] ++ p.tag) ++ ([32, 112, 97, 114, 101, 110, 116, 32] ++ p.par) : Str).length ≤ 2000 := by simp only [List.length_append, List.length_cons, List.length_nil]; omega
  obtain ⟨A1, hA1⟩ : ∃ A, ([108, 111, 99, 97, 108, 101, 32] ++ p.tag : Str) = A := ⟨_, rfl⟩
  obtain ⟨A2, hA2⟩ : ∃ A, ([32, 112, 97, 114, 101, 110, 116, 32] ++ p.par : Str) = A := ⟨_, rfl⟩
  rw [hA1] at a1
  rw [hA2] at a2
  rw [hA1, hA2] at a3 b3 HF
  clear hA1 hA2
  obtain ⟨H, hH⟩ : ∃ H, (A1 ++ A2) = H := ⟨_, rfl⟩
  rw [hH] at b3
  rw [hH] at a3
  rw [hH, hs1, hs2, hs3, hs4, hs5, hs6, hs7, hs8, hs9] at HF
  rw [hs1] at l1
  rw [hs2] at l2
  rw [hs3] at l3
  rw [hs4] at l4
  rw [hs5] at l5
  rw [hs6] at l6
  rw [hs7] at l7
  rw [hs8] at l8
  rw [hs9] at l9
  have g0 : (H ++ [32, 123, 10]).length ≤ 3000 := by rw [List.length_append]; simp only [List.length_cons, List.length_nil]; omega
  have d0 : Hid (∀ wx, (Op.stringOp .add (ofL H) ⟨#[32, 123, 10]⟩).run Tryz.prog wx = .ok (.string (ofL (H ++ [32, 123, 10]))) wx) := Lib.hid (fun wx => strAddK (y := [32, 123, 10]) (by simp only [List.length_cons, List.length_nil]; omega) rfl wx)
  obtain ⟨P0, hP0⟩ : ∃ P, H ++ [32, 123, 10] = P := ⟨_, rfl⟩
  rw [hP0] at g0 d0 HF
  have g1 : (P0 ++ s1).length ≤ 10003000 := by rw [List.length_append]; omega
  have d1 : Hid (∀ wx, (Op.stringOp .add (ofL P0) (ofL s1)).run Tryz.prog wx = .ok (.string (ofL (P0 ++ s1))) wx) := Lib.hid (fun wx => strAddK (by omega) rfl wx)
  obtain ⟨P1, hP1⟩ : ∃ P, P0 ++ s1 = P := ⟨_, rfl⟩
  rw [hP1] at g1 d1 HF
  have g2 : (P1 ++ s2).length ≤ 20003000 := by rw [List.length_append]; omega
  have d2 : Hid (∀ wx, (Op.stringOp .add (ofL P1) (ofL s2)).run Tryz.prog wx = .ok (.string (ofL (P1 ++ s2))) wx) := Lib.hid (fun wx => strAddK (by omega) rfl wx)
  obtain ⟨P2, hP2⟩ : ∃ P, P1 ++ s2 = P := ⟨_, rfl⟩
  rw [hP2] at g2 d2 HF
  have g3 : (P2 ++ s3).length ≤ 30003000 := by rw [List.length_append]; omega
  have d3 : Hid (∀ wx, (Op.stringOp .add (ofL P2) (ofL s3)).run Tryz.prog wx = .ok (.string (ofL (P2 ++ s3))) wx) := Lib.hid (fun wx => strAddK (by omega) rfl wx)
  obtain ⟨P3, hP3⟩ : ∃ P, P2 ++ s3 = P := ⟨_, rfl⟩
  rw [hP3] at g3 d3 HF
  have g4 : (P3 ++ s4).length ≤ 40003000 := by rw [List.length_append]; omega
  have d4 : Hid (∀ wx, (Op.stringOp .add (ofL P3) (ofL s4)).run Tryz.prog wx = .ok (.string (ofL (P3 ++ s4))) wx) := Lib.hid (fun wx => strAddK (by omega) rfl wx)
  obtain ⟨P4, hP4⟩ : ∃ P, P3 ++ s4 = P := ⟨_, rfl⟩
  rw [hP4] at g4 d4 HF
  have g5 : (P4 ++ s5).length ≤ 50003000 := by rw [List.length_append]; omega
  have d5 : Hid (∀ wx, (Op.stringOp .add (ofL P4) (ofL s5)).run Tryz.prog wx = .ok (.string (ofL (P4 ++ s5))) wx) := Lib.hid (fun wx => strAddK (by omega) rfl wx)
  obtain ⟨P5, hP5⟩ : ∃ P, P4 ++ s5 = P := ⟨_, rfl⟩
  rw [hP5] at g5 d5 HF
  have g6 : (P5 ++ s6).length ≤ 60003000 := by rw [List.length_append]; omega
  have d6 : Hid (∀ wx, (Op.stringOp .add (ofL P5) (ofL s6)).run Tryz.prog wx = .ok (.string (ofL (P5 ++ s6))) wx) := Lib.hid (fun wx => strAddK (by omega) rfl wx)
  obtain ⟨P6, hP6⟩ : ∃ P, P5 ++ s6 = P := ⟨_, rfl⟩
  rw [hP6] at g6 d6 HF
  have g7 : (P6 ++ s7).length ≤ 70003000 := by rw [List.length_append]; omega
  have d7 : Hid (∀ wx, (Op.stringOp .add (ofL P6) (ofL s7)).run Tryz.prog wx = .ok (.string (ofL (P6 ++ s7))) wx) := Lib.hid (fun wx => strAddK (by omega) rfl wx)
  obtain ⟨P7, hP7⟩ : ∃ P, P6 ++ s7 = P := ⟨_, rfl⟩
  rw [hP7] at g7 d7 HF
  have g8 : (P7 ++ s8).length ≤ 80003000 := by rw [List.length_append]; omega
  have d8 : Hid (∀ wx, (Op.stringOp .add (ofL P7) (ofL s8)).run Tryz.prog wx = .ok (.string (ofL (P7 ++ s8))) wx) := Lib.hid (fun wx => strAddK (by omega) rfl wx)
  obtain ⟨P8, hP8⟩ : ∃ P, P7 ++ s8 = P := ⟨_, rfl⟩
  rw [hP8] at g8 d8 HF
  have g9 : (P8 ++ s9).length ≤ 90003000 := by rw [List.length_append]; omega
  have d9 : Hid (∀ wx, (Op.stringOp .add (ofL P8) (ofL s9)).run Tryz.prog wx = .ok (.string (ofL (P8 ++ s9))) wx) := Lib.hid (fun wx => strAddK (by omega) rfl wx)
  obtain ⟨P9, hP9⟩ : ∃ P, P8 ++ s9 = P := ⟨_, rfl⟩
  rw [hP9] at g9 d9 HF
  have d10 : Hid (∀ wx, (Op.stringOp .add (ofL P9) ⟨#[125, 10]⟩).run Tryz.prog wx = .ok (.string (ofL (loX p))) wx) := Lib.hid (fun wx => strAddK (y := [125, 10]) (by simp only [List.length_cons, List.length_nil]; omega) HF.out wx)
  obtain ⟨LX, hLX⟩ : ∃ L, loX p = L := ⟨_, rfl⟩
  rw [hLX] at d10 ⊢
  have e1' := Lib.hid hs1
  have e2' := Lib.hid hs2
  have e3' := Lib.hid hs3
  have e4' := Lib.hid hs4
  have e5' := Lib.hid hs5
  have e6' := Lib.hid hs6
  have e7' := Lib.hid hs7
  have e8' := Lib.hid hs8
  have e9' := Lib.hid hs9
  clear HF hLX hH l1 g1 hP1 hs1 l2 g2 hP2 hs2 l3 g3 hP3 hs3 l4 g4 hP4 hs4 l5 g5 hP5 hs5 l6 g6 hP6 hs6 l7 g7 hP7 hs7 l8 g8 hP8 hs8 l9 g9 hP9 hs9 g0 hP0 b1 b2 b3 hp
  have hL := Lib.hid hl
  have hR := Lib.hid hr
  have hV := Lib.hid hv
  have B0 := Lib.hid ((Below.refl w.heap.size w).alloc (Nat.le_refl _) (.cells #[.string (ofL p.tag), .string (ofL p.par), .string (ofL p.dir), .slice x.ca.a x.ca.n x.ca.c, .slice x.oc.a x.oc.n x.oc.c, .string (ofL p.sy.de), .string (ofL p.sy.gr), .string (ofL p.sy.mi), .string (ofL p.sy.pe), .int .i64 p.sy.pr, .int .i64 p.sy.se, .slice x.li.a x.li.n x.li.c, .slice x.un.a x.un.n x.un.c, .slice x.da.a x.da.n x.da.c, .slice x.mo.a x.mo.n x.mo.c, .slice x.dy.a x.dy.n x.dy.c] 51))
  have E0 := Lib.hid (E.laterZ B0.out)
  obtain ⟨W0, hW0⟩ : ∃ W0, w.alloc (.cells #[.string (ofL p.tag), .string (ofL p.par), .string (ofL p.dir), .slice x.ca.a x.ca.n x.ca.c, .slice x.oc.a x.oc.n x.oc.c, .string (ofL p.sy.de), .string (ofL p.sy.gr), .string (ofL p.sy.mi), .string (ofL p.sy.pe), .int .i64 p.sy.pr, .int .i64 p.sy.se, .slice x.li.a x.li.n x.li.c, .slice x.un.a x.un.n x.un.c, .slice x.da.a x.da.n x.da.c, .slice x.mo.a x.mo.n x.mo.c, .slice x.dy.a x.dy.n x.dy.c] 51) = W0 := ⟨_, rfl⟩
  have K0 : Hid (Blk w.heap.size 51 #[.string (ofL p.tag), .string (ofL p.par), .string (ofL p.dir), .slice x.ca.a x.ca.n x.ca.c, .slice x.oc.a x.oc.n x.oc.c, .string (ofL p.sy.de), .string (ofL p.sy.gr), .string (ofL p.sy.mi), .string (ofL p.sy.pe), .int .i64 p.sy.pr, .int .i64 p.sy.se, .slice x.li.a x.li.n x.li.c, .slice x.un.a x.un.n x.un.c, .slice x.da.a x.da.n x.da.c, .slice x.mo.a x.mo.n x.mo.c, .slice x.dy.a x.dy.n x.dy.c] W0) := Lib.hid (by rw [← hW0]; exact Blk.new w _ _)
  have HW0 := Lib.hid hW0
  rw [hW0] at B0 E0
  obtain ⟨h, hh⟩ : ∃ h, w.heap.size = h := ⟨_, rfl⟩
  have HH := Lib.hid hh
  rw [hh] at K0
  have HCE : Hid (∀ wx, Blk h 51 #[.string (ofL p.tag), .string (ofL p.par), .string (ofL p.dir), .slice x.ca.a x.ca.n x.ca.c, .slice x.oc.a x.oc.n x.oc.c, .string (ofL p.sy.de), .string (ofL p.sy.gr), .string (ofL p.sy.mi), .string (ofL p.sy.pe), .int .i64 p.sy.pr, .int .i64 p.sy.se, .slice x.li.a x.li.n x.li.c, .slice x.un.a x.un.n x.un.c, .slice x.da.a x.da.n x.da.c, .slice x.mo.a x.mo.n x.mo.c, .slice x.dy.a x.dy.n x.dy.c] wx → wx.cell? ⟨h, 0, none⟩ = some (.string (ofL p.tag)) ∧ wx.cell? ⟨h, 1, none⟩ = some (.string (ofL p.par)) ∧ wx.cell? ⟨h, 2, none⟩ = some (.string (ofL p.dir)) ∧ wx.cell? ⟨h, 3, none⟩ = some (.slice x.ca.a x.ca.n x.ca.c) ∧ wx.cell? ⟨h, 4, none⟩ = some (.slice x.oc.a x.oc.n x.oc.c) ∧ wx.cell? ⟨h, 5, none⟩ = some (.string (ofL p.sy.de)) ∧ wx.cell? ⟨h, 6, none⟩ = some (.string (ofL p.sy.gr)) ∧ wx.cell? ⟨h, 7, none⟩ = some (.string (ofL p.sy.mi)) ∧ wx.cell? ⟨h, 8, none⟩ = some (.string (ofL p.sy.pe)) ∧ wx.cell? ⟨h, 9, none⟩ = some (.int .i64 p.sy.pr) ∧ wx.cell? ⟨h, 10, none⟩ = some (.int .i64 p.sy.se) ∧ wx.cell? ⟨h, 11, none⟩ = some (.slice x.li.a x.li.n x.li.c) ∧ wx.cell? ⟨h, 12, none⟩ = some (.slice x.un.a x.un.n x.un.c) ∧ wx.cell? ⟨h, 13, none⟩ = some (.slice x.da.a x.da.n x.da.c) ∧ wx.cell? ⟨h, 14, none⟩ = some (.slice x.mo.a x.mo.n x.mo.c) ∧ wx.cell? ⟨h, 15, none⟩ = some (.slice x.dy.a x.dy.n x.dy.c)) := Lib.hid (fun wx hb => ⟨hb.cell 0, hb.cell 1, hb.cell 2, hb.cell 3, hb.cell 4, hb.cell 5, hb.cell 6, hb.cell 7, hb.cell 8, hb.cell 9, hb.cell 10, hb.cell 11, hb.cell 12, hb.cell 13, hb.cell 14, hb.cell 15⟩)
  have c0 : W0.cell? ⟨h, 0, none⟩ = some (.string (ofL p.tag)) := K0.out.cell 0
  have c1 : W0.cell? ⟨h, 1, none⟩ = some (.string (ofL p.par)) := K0.out.cell 1
  have m1 := a1.out
  have m2 := a2.out
  have m3 := a3.out
  clear E hW0 hh hl hr hv
  go_enter Tryz.func27, Tryz.ntmps27
  go_upto_region 1 with fail
  rw [HW0.out, HH.out]
  clear HW0 HH
  go_upto_region 4 with fail
  clear c0 c1 m1 m2 m3 t0 t1 t2
  refine region_hd 37 (fun wx : World => wx.cell? ⟨h, 0, none⟩ = some (.string (ofL p.tag)) ∧ wx.cell? ⟨h, 1, none⟩ = some (.string (ofL p.par)) ∧ wx.cell? ⟨h, 2, none⟩ = some (.string (ofL p.dir)) ∧ wx.cell? ⟨h, 3, none⟩ = some (.slice x.ca.a x.ca.n x.ca.c) ∧ wx.cell? ⟨h, 4, none⟩ = some (.slice x.oc.a x.oc.n x.oc.c) ∧ wx.cell? ⟨h, 5, none⟩ = some (.string (ofL p.sy.de)) ∧ wx.cell? ⟨h, 6, none⟩ = some (.string (ofL p.sy.gr)) ∧ wx.cell? ⟨h, 7, none⟩ = some (.string (ofL p.sy.mi)) ∧ wx.cell? ⟨h, 8, none⟩ = some (.string (ofL p.sy.pe)) ∧ wx.cell? ⟨h, 9, none⟩ = some (.int .i64 p.sy.pr) ∧ wx.cell? ⟨h, 10, none⟩ = some (.int .i64 p.sy.se) ∧ wx.cell? ⟨h, 11, none⟩ = some (.slice x.li.a x.li.n x.li.c) ∧ wx.cell? ⟨h, 12, none⟩ = some (.slice x.un.a x.un.n x.un.c) ∧ wx.cell? ⟨h, 13, none⟩ = some (.slice x.da.a x.da.n x.da.c) ∧ wx.cell? ⟨h, 14, none⟩ = some (.slice x.mo.a x.mo.n x.mo.c) ∧ wx.cell? ⟨h, 15, none⟩ = some (.slice x.dy.a x.dy.n x.dy.c)) (by kernel_rfl) (by kernel_rfl) ?_
  have K1 := Lib.hid (Blk.below K0.out (Below.refl W0.heap.size W0).drew)
  have B1 := Lib.hid (st B0.out (Below.refl W0.heap.size W0).drew B0.out.size)
  have E1 := Lib.hid (E0.out.laterZ (Below.refl W0.heap.size W0).drew)
  obtain ⟨W1, hW1⟩ : ∃ W1, W0.drew = W1 := ⟨_, rfl⟩
  rw [hW1] at K1 B1 E1 ⊢
  clear hW1 K0 B0 E0
  have hS1 := HCE.out W1 K1.out
  have m0 := d0.out
  refine hd_taken 0 (some 15) _ ?hdv0 rfl rfl (by kernel_rfl) (fun _ _ _ h => h) (Or.inl ⟨by rfl, ?hdy0⟩) hS1 ?hdr0
  case hdy0 => (intro wx hx; (try dsimp only at hx); go_simp; try with_reducible rfl)
  try simp only [Act.put, List.setIfInBounds_toArray, List.set_cons_zero, List.set_cons_succ]
  refine hd_taken 1 (some 16) _ ?hdv1 rfl rfl (by kernel_rfl) (fun _ _ _ h => h) (Or.inl ⟨by rfl, ?hdy1⟩) hS1 ?hdr1
  case hdy1 => (intro wx hx; (try dsimp only at hx); go_simp; try with_reducible rfl)
  try simp only [Act.put, List.setIfInBounds_toArray, List.set_cons_zero, List.set_cons_succ]
  refine hd_taken 2 (some 17) _ ?hdv2 rfl rfl (by kernel_rfl) (fun _ _ _ h => h) (Or.inl ⟨by rfl, ?hdy2⟩) hS1 ?hdr2
  case hdy2 => (intro wx hx; (try dsimp only at hx); go_simp; try with_reducible rfl)
  try simp only [Act.put, List.setIfInBounds_toArray, List.set_cons_zero, List.set_cons_succ]
  refine hd_taken 3 (some 18) _ ?hdv3 rfl rfl (by kernel_rfl) (fun _ _ _ h => h) (Or.inl ⟨by rfl, ?hdy3⟩) hS1 ?hdr3
  case hdy3 => (intro wx hx; (try dsimp only at hx); go_simp; try with_reducible rfl)
  try simp only [Act.put, List.setIfInBounds_toArray, List.set_cons_zero, List.set_cons_succ]
  refine hd_taken 6 (some 21) _ ?hdv6 rfl rfl (by kernel_rfl) (fun _ _ _ h => h) (Or.inl ⟨by rfl, ?hdy6⟩) hS1 ?hdr6
  case hdy6 => (intro wx hx; (try dsimp only at hx); go_simp; try with_reducible rfl)
  try simp only [Act.put, List.setIfInBounds_toArray, List.set_cons_zero, List.set_cons_succ]
  refine hd_taken 7 (some 22) _ ?hdv7 rfl rfl (by kernel_rfl) (fun _ _ _ h => h) (Or.inl ⟨by rfl, ?hdy7⟩) hS1 ?hdr7
  case hdy7 => (intro wx hx; (try dsimp only at hx); go_simp; try with_reducible rfl)
  try simp only [Act.put, List.setIfInBounds_toArray, List.set_cons_zero, List.set_cons_succ]
  refine hd_taken 10 (some 25) _ ?hdv10 rfl rfl (by kernel_rfl) (fun _ _ _ h => h) (Or.inl ⟨by rfl, ?hdy10⟩) hS1 ?hdr10
  case hdy10 => (intro wx hx; (try dsimp only at hx); go_simp; try with_reducible rfl)
  try simp only [Act.put, List.setIfInBounds_toArray, List.set_cons_zero, List.set_cons_succ]
  refine hd_taken 11 (some 26) _ ?hdv11 rfl rfl (by kernel_rfl) (fun _ _ _ h => h) (Or.inl ⟨by rfl, ?hdy11⟩) hS1 ?hdr11
  case hdy11 => (intro wx hx; (try dsimp only at hx); go_simp; try with_reducible rfl)
  try simp only [Act.put, List.setIfInBounds_toArray, List.set_cons_zero, List.set_cons_succ]
  refine hd_taken 14 (some 29) _ ?hdv14 rfl rfl (by kernel_rfl) (fun _ _ _ h => h) (Or.inl ⟨by rfl, ?hdy14⟩) hS1 ?hdr14
  case hdy14 => (intro wx hx; (try dsimp only at hx); go_simp; try with_reducible rfl)
  try simp only [Act.put, List.setIfInBounds_toArray, List.set_cons_zero, List.set_cons_succ]
  refine hd_taken 15 (some 30) _ ?hdv15 rfl rfl (by kernel_rfl) (fun _ _ _ h => h) (Or.inl ⟨by rfl, ?hdy15⟩) hS1 ?hdr15
  case hdy15 => (intro wx hx; (try dsimp only at hx); go_simp; try with_reducible rfl)
  try simp only [Act.put, List.setIfInBounds_toArray, List.set_cons_zero, List.set_cons_succ]
  refine hd_taken 18 (some 33) _ ?hdv18 rfl rfl (by kernel_rfl) (fun _ _ _ h => h) (Or.inl ⟨by rfl, ?hdy18⟩) hS1 ?hdr18
  case hdy18 => (intro wx hx; (try dsimp only at hx); go_simp; try with_reducible rfl)
  try simp only [Act.put, List.setIfInBounds_toArray, List.set_cons_zero, List.set_cons_succ]
  refine hd_taken 19 (some 34) _ ?hdv19 rfl rfl (by kernel_rfl) (fun _ _ _ h => h) (Or.inl ⟨by rfl, ?hdy19⟩) hS1 ?hdr19
  case hdy19 => (intro wx hx; (try dsimp only at hx); go_simp; try with_reducible rfl)
  try simp only [Act.put, List.setIfInBounds_toArray, List.set_cons_zero, List.set_cons_succ]
  refine hd_taken 22 (some 37) _ ?hdv22 rfl rfl (by kernel_rfl) (fun _ _ _ h => h) (Or.inl ⟨by rfl, ?hdy22⟩) hS1 ?hdr22
  case hdy22 => (intro wx hx; (try dsimp only at hx); go_simp; try with_reducible rfl)
  try simp only [Act.put, List.setIfInBounds_toArray, List.set_cons_zero, List.set_cons_succ]
  refine hd_taken 23 (some 38) _ ?hdv23 rfl rfl (by kernel_rfl) (fun _ _ _ h => h) (Or.inl ⟨by rfl, ?hdy23⟩) hS1 ?hdr23
  case hdy23 => (intro wx hx; (try dsimp only at hx); go_simp; try with_reducible rfl)
  try simp only [Act.put, List.setIfInBounds_toArray, List.set_cons_zero, List.set_cons_succ]
  refine hd_taken 26 (some 41) _ ?hdv26 rfl rfl (by kernel_rfl) (fun _ _ _ h => h) (Or.inl ⟨by rfl, ?hdy26⟩) hS1 ?hdr26
  case hdy26 => (intro wx hx; (try dsimp only at hx); go_simp; try with_reducible rfl)
  try simp only [Act.put, List.setIfInBounds_toArray, List.set_cons_zero, List.set_cons_succ]
  refine hd_taken 27 (some 42) _ ?hdv27 rfl rfl (by kernel_rfl) (fun _ _ _ h => h) (Or.inl ⟨by rfl, ?hdy27⟩) hS1 ?hdr27
  case hdy27 => (intro wx hx; (try dsimp only at hx); go_simp; try with_reducible rfl)
  try simp only [Act.put, List.setIfInBounds_toArray, List.set_cons_zero, List.set_cons_succ]
  refine hd_taken 30 (some 45) _ ?hdv30 rfl rfl (by kernel_rfl) (fun _ _ _ h => h) (Or.inl ⟨by rfl, ?hdy30⟩) hS1 ?hdr30
  case hdy30 => (intro wx hx; (try dsimp only at hx); go_simp; try with_reducible rfl)
  try simp only [Act.put, List.setIfInBounds_toArray, List.set_cons_zero, List.set_cons_succ]
  refine hd_taken 31 (some 46) _ ?hdv31 rfl rfl (by kernel_rfl) (fun _ _ _ h => h) (Or.inl ⟨by rfl, ?hdy31⟩) hS1 ?hdr31
  case hdy31 => (intro wx hx; (try dsimp only at hx); go_simp; try with_reducible rfl)
  try simp only [Act.put, List.setIfInBounds_toArray, List.set_cons_zero, List.set_cons_succ]
  refine hd_taken 34 (some 49) _ ?hdv34 rfl rfl (by kernel_rfl) (fun _ _ _ h => h) (Or.inl ⟨by rfl, ?hdy34⟩) hS1 ?hdr34
  case hdy34 => (intro wx hx; (try dsimp only at hx); go_simp; try with_reducible rfl)
  try simp only [Act.put, List.setIfInBounds_toArray, List.set_cons_zero, List.set_cons_succ]
  refine hd_taken 35 (some 50) _ ?hdv35 rfl rfl (by kernel_rfl) (fun _ _ _ h => h) (Or.inl ⟨by rfl, ?hdy35⟩) hS1 ?hdr35
  case hdy35 => (intro wx hx; (try dsimp only at hx); go_simp; try with_reducible rfl)
  try simp only [Act.put, List.setIfInBounds_toArray, List.set_cons_zero, List.set_cons_succ]
  clear m0
  refine hd_one 4 _ rfl (by kernel_rfl) (by decide) (fun K hK => ?_)
  go_simp
  refine (directionItem_any p.dir hV.out.dir _ (env_of8 E1.out)).mono ?_
  rw [e1'.out]
  rintro e W2 ⟨rfl, hb⟩
  try dsimp only
  have K2 := Lib.hid (Blk.below K1.out hb)
  have B2 := Lib.hid (st B1.out hb B1.out.size)
  have E2 := Lib.hid (E1.out.laterZ hb)
  have hS2 := HCE.out W2 K2.out
  refine hK.out _ _ hS2 ?_
  clear hK K hb hS1 K1 B1 E1
  try simp only [Act.put, List.setIfInBounds_toArray, List.set_cons_zero, List.set_cons_succ]
  have m1 := d1.out
  refine hd_taken 5 (some 20) _ ?hdv5 rfl rfl (by kernel_rfl) (fun _ _ _ h => h) (Or.inl ⟨by rfl, ?hdy5⟩) hS2 ?hdr5
  case hdy5 => (intro wx hx; (try dsimp only at hx); go_simp; try with_reducible rfl)
  try simp only [Act.put, List.setIfInBounds_toArray, List.set_cons_zero, List.set_cons_succ]
  clear m1
  refine hd_one 8 _ rfl (by kernel_rfl) (by decide) (fun K hK => ?_)
  go_simp
  refine (carText _ p.ca _ (hL.out.ca.below B2.out) hV.out.ca hR.out.ca E2.out).mono ?_
  rw [e2'.out]
  rintro e W3 ⟨rfl, hb⟩
  try dsimp only
  have K3 := Lib.hid (Blk.below K2.out hb)
  have B3 := Lib.hid (st B2.out hb B2.out.size)
  have E3 := Lib.hid (E2.out.laterZ hb)
  have hS3 := HCE.out W3 K3.out
  refine hK.out _ _ hS3 ?_
  clear hK K hb hS2 K2 B2 E2
  try simp only [Act.put, List.setIfInBounds_toArray, List.set_cons_zero, List.set_cons_succ]
  have m2 := d2.out
  refine hd_taken 9 (some 24) _ ?hdv9 rfl rfl (by kernel_rfl) (fun _ _ _ h => h) (Or.inl ⟨by rfl, ?hdy9⟩) hS3 ?hdr9
  case hdy9 => (intro wx hx; (try dsimp only at hx); go_simp; try with_reducible rfl)
  try simp only [Act.put, List.setIfInBounds_toArray, List.set_cons_zero, List.set_cons_succ]
  clear m2
  refine hd_one 12 _ rfl (by kernel_rfl) (by decide) (fun K hK => ?_)
  go_simp
  refine (ordText _ p.oc _ (hL.out.oc.below B3.out) hV.out.oc hR.out.oc E3.out).mono ?_
  rw [e3'.out]
  rintro e W4 ⟨rfl, hb⟩
  try dsimp only
  have K4 := Lib.hid (Blk.below K3.out hb)
  have B4 := Lib.hid (st B3.out hb B3.out.size)
  have E4 := Lib.hid (E3.out.laterZ hb)
  have hS4 := HCE.out W4 K4.out
  refine hK.out _ _ hS4 ?_
  clear hK K hb hS3 K3 B3 E3
  try simp only [Act.put, List.setIfInBounds_toArray, List.set_cons_zero, List.set_cons_succ]
  have m3 := d3.out
  refine hd_taken 13 (some 28) _ ?hdv13 rfl rfl (by kernel_rfl) (fun _ _ _ h => h) (Or.inl ⟨by rfl, ?hdy13⟩) hS4 ?hdr13
  case hdy13 => (intro wx hx; (try dsimp only at hx); go_simp; try with_reducible rfl)
  try simp only [Act.put, List.setIfInBounds_toArray, List.set_cons_zero, List.set_cons_succ]
  clear m3
  refine hd_one 16 _ rfl (by kernel_rfl) (by decide) (fun K hK => ?_)
  go_simp
  refine (symbolsItem_any p.sy hV.out.sy _ (env_of8 E4.out)).mono ?_
  rw [e4'.out]
  rintro e W5 ⟨rfl, hb⟩
  try dsimp only
  have K5 := Lib.hid (Blk.below K4.out hb)
  have B5 := Lib.hid (st B4.out hb B4.out.size)
  have E5 := Lib.hid (E4.out.laterZ hb)
  have hS5 := HCE.out W5 K5.out
  refine hK.out _ _ hS5 ?_
  clear hK K hb hS4 K4 B4 E4
  try simp only [Act.put, List.setIfInBounds_toArray, List.set_cons_zero, List.set_cons_succ]
  have m4 := d4.out
  refine hd_taken 17 (some 32) _ ?hdv17 rfl rfl (by kernel_rfl) (fun _ _ _ h => h) (Or.inl ⟨by rfl, ?hdy17⟩) hS5 ?hdr17
  case hdy17 => (intro wx hx; (try dsimp only at hx); go_simp; try with_reducible rfl)
  try simp only [Act.put, List.setIfInBounds_toArray, List.set_cons_zero, List.set_cons_succ]
  clear m4
  refine hd_one 20 _ rfl (by kernel_rfl) (by decide) (fun K hK => ?_)
  go_simp
  refine (listsText _ p.li _ (hL.out.li.below B5.out) (by have := hV.out.liL; omega) hV.out.li E5.out).mono ?_
  rw [e5'.out]
  rintro e W6 ⟨rfl, hb⟩
  try dsimp only
  have K6 := Lib.hid (Blk.below K5.out hb)
  have B6 := Lib.hid (st B5.out hb B5.out.size)
  have E6 := Lib.hid (E5.out.laterZ hb)
  have hS6 := HCE.out W6 K6.out
  refine hK.out _ _ hS6 ?_
  clear hK K hb hS5 K5 B5 E5
  try simp only [Act.put, List.setIfInBounds_toArray, List.set_cons_zero, List.set_cons_succ]
  have m5 := d5.out
  refine hd_taken 21 (some 36) _ ?hdv21 rfl rfl (by kernel_rfl) (fun _ _ _ h => h) (Or.inl ⟨by rfl, ?hdy21⟩) hS6 ?hdr21
  case hdy21 => (intro wx hx; (try dsimp only at hx); go_simp; try with_reducible rfl)
  try simp only [Act.put, List.setIfInBounds_toArray, List.set_cons_zero, List.set_cons_succ]
  clear m5
  refine hd_one 24 _ rfl (by kernel_rfl) (by decide) (fun K hK => ?_)
  go_simp
  refine (unitsText _ p.un _ (hL.out.un.below B6.out) (by have := hV.out.unL; omega) hV.out.un E6.out).mono ?_
  rw [e6'.out]
  rintro e W7 ⟨rfl, hb⟩
  try dsimp only
  have K7 := Lib.hid (Blk.below K6.out hb)
  have B7 := Lib.hid (st B6.out hb B6.out.size)
  have E7 := Lib.hid (E6.out.laterZ hb)
  have hS7 := HCE.out W7 K7.out
  refine hK.out _ _ hS7 ?_
  clear hK K hb hS6 K6 B6 E6
  try simp only [Act.put, List.setIfInBounds_toArray, List.set_cons_zero, List.set_cons_succ]
  have m6 := d6.out
  refine hd_taken 25 (some 40) _ ?hdv25 rfl rfl (by kernel_rfl) (fun _ _ _ h => h) (Or.inl ⟨by rfl, ?hdy25⟩) hS7 ?hdr25
  case hdy25 => (intro wx hx; (try dsimp only at hx); go_simp; try with_reducible rfl)
  try simp only [Act.put, List.setIfInBounds_toArray, List.set_cons_zero, List.set_cons_succ]
  clear m6
  refine hd_one 28 _ rfl (by kernel_rfl) (by decide) (fun K hK => ?_)
  go_simp
  refine (datesText _ p.da _ (hL.out.da.below B7.out) (by have := hV.out.daL; omega) hV.out.da E7.out).mono ?_
  rw [e7'.out]
  rintro e W8 ⟨rfl, hb⟩
  try dsimp only
  have K8 := Lib.hid (Blk.below K7.out hb)
  have B8 := Lib.hid (st B7.out hb B7.out.size)
  have E8 := Lib.hid (E7.out.laterZ hb)
  have hS8 := HCE.out W8 K8.out
  refine hK.out _ _ hS8 ?_
  clear hK K hb hS7 K7 B7 E7
  try simp only [Act.put, List.setIfInBounds_toArray, List.set_cons_zero, List.set_cons_succ]
  have m7 := d7.out
  refine hd_taken 29 (some 44) _ ?hdv29 rfl rfl (by kernel_rfl) (fun _ _ _ h => h) (Or.inl ⟨by rfl, ?hdy29⟩) hS8 ?hdr29
  case hdy29 => (intro wx hx; (try dsimp only at hx); go_simp; try with_reducible rfl)
  try simp only [Act.put, List.setIfInBounds_toArray, List.set_cons_zero, List.set_cons_succ]
  clear m7
  refine hd_one 32 _ rfl (by kernel_rfl) (by decide) (fun K hK => ?_)
  go_simp
  refine (namesItem_any [109, 111, 110, 116, 104, 115] (okw_kw (by decide)) _ p.mo (by rcases hV.out.moL with k | k <;> omega) hV.out.mo _ (hL.out.mo.below B8.out) (env_of8 E8.out)).mono ?_
  rw [e8'.out]
  rintro e W9 ⟨rfl, hb⟩
  try dsimp only
  have K9 := Lib.hid (Blk.below K8.out hb)
  have B9 := Lib.hid (st B8.out hb B8.out.size)
  have E9 := Lib.hid (E8.out.laterZ hb)
  have hS9 := HCE.out W9 K9.out
  refine hK.out _ _ hS9 ?_
  clear hK K hb hS8 K8 B8 E8
  try simp only [Act.put, List.setIfInBounds_toArray, List.set_cons_zero, List.set_cons_succ]
  have m8 := d8.out
  refine hd_taken 33 (some 48) _ ?hdv33 rfl rfl (by kernel_rfl) (fun _ _ _ h => h) (Or.inl ⟨by rfl, ?hdy33⟩) hS9 ?hdr33
  case hdy33 => (intro wx hx; (try dsimp only at hx); go_simp; try with_reducible rfl)
  try simp only [Act.put, List.setIfInBounds_toArray, List.set_cons_zero, List.set_cons_succ]
  clear m8
  refine hd_one 36 _ rfl (by kernel_rfl) (by decide) (fun K hK => ?_)
  go_simp
  refine (namesItem_any [100, 97, 121, 115] (okw_kw (by decide)) _ p.dy (by rcases hV.out.dyL with k | k <;> omega) hV.out.dy _ (hL.out.dy.below B9.out) (env_of8 E9.out)).mono ?_
  rw [e9'.out]
  rintro e W10 ⟨rfl, hb⟩
  try dsimp only
  have K10 := Lib.hid (Blk.below K9.out hb)
  have B10 := Lib.hid (st B9.out hb B9.out.size)
  have E10 := Lib.hid (E9.out.laterZ hb)
  have hS10 := HCE.out W10 K10.out
  refine hK.out _ _ hS10 ?_
  clear hK K hb hS9 K9 B9 E9
  try simp only [Act.put, List.setIfInBounds_toArray, List.set_cons_zero, List.set_cons_succ]
  refine hd_done (by kernel_rfl) ?_
  simp only [List.drop_succ_cons, List.drop_zero]
  clear hS10
  have m9 := d9.out
  have m10 := d10.out
  go_wp2_with fail
  go_ret
  exact ⟨rfl, B10.out⟩
theorem localeText_any (x : RawLo) (p : Loc) (w : World) (hl : LocOk w x p) (hr : LocR p) (hv : LocV p) (E : EnvOf8 w) : Calls Tryz.prog 27 #[.agg #[.string (ofL p.tag), .string (ofL p.par), .string (ofL p.dir), .slice x.ca.a x.ca.n x.ca.c, .slice x.oc.a x.oc.n x.oc.c, .string (ofL p.sy.de), .string (ofL p.sy.gr), .string (ofL p.sy.mi), .string (ofL p.sy.pe), .int .i64 p.sy.pr, .int .i64 p.sy.se, .slice x.li.a x.li.n x.li.c, .slice x.un.a x.un.n x.un.c, .slice x.da.a x.da.n x.da.c, .slice x.mo.a x.mo.n x.mo.c, .slice x.dy.a x.dy.n x.dy.c]] w (Strs (loX p) w) := by
  by_cases hp : p.par = []
  · exact localeText0 x p w hl hr hv hp E
  · exact localeText1 x p w hl hr hv hp E
end Go.Proofs.YtpmmchppfmojhaaGreatDoor


