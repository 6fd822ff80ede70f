/- Same, of the program and of the reference. -/
import Derived.Test.YtiljagfjgefnnaaBzh
namespace Go.Proofs.Ytiljagfjgefnnaa
open Go.RowKit
set_option linter.unusedVariables false

def SameR (r s : RawD) (w : World) (e : Ending) (w' : World) : Prop := ((¬ (okD r = true ∧ okD s = true) ∧ e = .returned (.tuple #[.bool false, .int .i64 1])) ∨ (okD r = true ∧ okD s = true ∧ ∃ p q, IsMin (toA r) p ∧ IsMin (toA s) q ∧ e = .returned (.tuple #[.bool (eqD p q), .int .i64 0]))) ∧ Below w.heap.size w w'
theorem IsMin.st0 {B : Aut} {q : RawD} (h : IsMin B q) : q.st = 0 := by
  obtain ⟨G, cl, k, _, _, _, _, _, rfl⟩ := h
  rfl
theorem MinP.raw {r : RawD} {w w' : World} {e : Ending} (hd : DOk r ∧ r.nx.length ≤ 2000) (h : MinP r w e w') : ∃ (q : RawD) (a1 : Option Addr) (c1 : Nat) (a2 : Option Addr) (c2 : Nat), e = .returned (.agg #[.int .i64 q.st, .slice a1 q.nx.length c1, .slice a2 q.ac.length c2]) ∧ RdRows w' (.slice a1 q.nx.length c1) q.nx ∧ Rd 1 encO w' (.slice a2 q.ac.length c2) q.ac ∧ IsMin (toA r) q ∧ Below w.heap.size w w' := by
  obtain ⟨m, cl, a1, c1, a2, c2, raws, hc, hs, he, hN, hrows, _, hF, hb⟩ := h
  have hmn : m ≤ r.nx.length := hs.le hd.1.ok
  have hl : (mkR (outN (toA r) cl m) (outF (toA r) cl m)).nx.length = m := by show (List.map _ _).length = m; rw [List.length_map, outN_len]
  have ha : (mkR (outN (toA r) cl m) (outF (toA r) cl m)).ac.length = m := outF_len _ _ _
  refine ⟨mkR (outN (toA r) cl m) (outF (toA r) cl m), a1, c1, a2, c2, by rw [he, hl, ha]; rfl, ?_, ?_, ⟨toA r, cl, m, hd.1.ok, Eqv.refl _ _, hc, hs, by omega, rfl⟩, hb⟩
  · rw [hl]
    refine ⟨raws, hN.rd encS_len, ?_, fun i h5 h6 => ?_⟩
    · rw [hrows.len, outN_len, hl]
    · have h7 : i < (outN (toA r) cl m).length := by rw [← hrows.len]; exact h5
      have := rd_ofNat (hrows.rd i h5 h7)
      have e2 : (mkR (outN (toA r) cl m) (outF (toA r) cl m)).nx[i]'h6 = ((outN (toA r) cl m)[i]'h7).map Int.ofNat := List.getElem_map _
      rw [e2]
      exact this
  · rw [ha]
    exact hF.rd encO_len
set_option maxRecDepth 1000000 in
set_option maxHeartbeats 16000000 in
theorem sameR_any (r s : RawD) (a1 : Option Addr) (c1 : Nat) (a2 : Option Addr) (c2 : Nat) (a3 : Option Addr) (c3 : Nat) (a4 : Option Addr) (c4 : Nat) (w : World) (hN : RdRows w (.slice a1 r.nx.length c1) r.nx) (hF : Rd 1 encO w (.slice a2 r.ac.length c2) r.ac) (hN2 : RdRows w (.slice a3 s.nx.length c3) s.nx) (hF2 : Rd 1 encO w (.slice a4 s.ac.length c4) s.ac) :
    Calls Try.prog 31 #[.agg #[.int .i64 r.st, .slice a1 r.nx.length c1, .slice a2 r.ac.length c2], .agg #[.int .i64 s.st, .slice a3 s.nx.length c3, .slice a4 s.ac.length c4]] w (SameR r s w) := by
  have BA := (Below.refl w.heap.size w).alloc (Nat.le_refl _) (.cells #[.int .i64 r.st, .slice a1 r.nx.length c1, .slice a2 r.ac.length c2] 25)
  have BB := BA.alloc BA.size (.cells #[.int .i64 s.st, .slice a3 s.nx.length c3, .slice a4 s.ac.length c4] 25)
  have k0 := (Blk.new w 25 #[.int .i64 r.st, .slice a1 r.nx.length c1, .slice a2 r.ac.length c2]).alloc (.cells #[.int .i64 s.st, .slice a3 s.nx.length c3, .slice a4 s.ac.length c4] 25)
  have k1 := Blk.new (w.alloc (.cells #[.int .i64 r.st, .slice a1 r.nx.length c1, .slice a2 r.ac.length c2] 25)) 25 #[.int .i64 s.st, .slice a3 s.nx.length c3, .slice a4 s.ac.length c4]
  rw [World.size_alloc] at k1
  obtain ⟨W0, hW0⟩ : ∃ W0, (w.alloc (.cells #[.int .i64 r.st, .slice a1 r.nx.length c1, .slice a2 r.ac.length c2] 25)).alloc (.cells #[.int .i64 s.st, .slice a3 s.nx.length c3, .slice a4 s.ac.length c4] 25) = W0 := ⟨_, rfl⟩
  have HN := Lib.hid (hN.below BB)
  have HF := Lib.hid (hF.below BB)
  have HM := Lib.hid (hN2.below BB)
  have HG2 := Lib.hid (hF2.below BB)
  have HB := Lib.hid BB
  have K := Lib.hid k0
  have L := Lib.hid k1
  rw [hW0] at HN HF HM HG2 HB K L
  obtain ⟨g, hg⟩ : ∃ g, w.heap.size = g := ⟨_, rfl⟩
  have HG := Lib.hid hg
  have HW0 := Lib.hid hW0
  rw [hg] at K L
  have f0 : W0.cell? ⟨g, 0, none⟩ = some (.int .i64 r.st) := K.out.cell 0
  have f1 : W0.cell? ⟨g, 1, none⟩ = some (.slice a1 r.nx.length c1) := K.out.cell 1
  have f2 : W0.cell? ⟨g, 2, none⟩ = some (.slice a2 r.ac.length c2) := K.out.cell 2
  clear hN hF hN2 hF2 BA BB k0 k1 hW0 hg
  go_enter Try.func31, Try.ntmps31
  go_upto_region 1 with fail
  rw [HW0.out, HG.out]
  clear HW0
  have HV := Lib.hid (valid_any r a1 c1 a2 c2 W0 HN.out HF.out)
  go_wp2_with fail
  refine HV.out.mono ?_
  rintro e w1 ⟨rfl, b1⟩
  have HN1 := Lib.hid (HN.out.below b1)
  have HF1 := Lib.hid (HF.out.below b1)
  have HM1 := Lib.hid (HM.out.below b1)
  have HG1 := Lib.hid (HG2.out.below b1)
  have HB1 := Lib.hid (st HB.out b1 HB.out.size)
  have K1 := Lib.hid (Blk.below K.out b1)
  have L1 := Lib.hid (Blk.below L.out b1)
  have z1 := b1.size
  clear b1 f0 f1 f2 HV
  cases hok : okD r with
  | false =>
    have HFIN : Hid (SameR r s w (.returned (.tuple #[.bool false, .int .i64 1])) w1) := Lib.hid ⟨.inl ⟨(fun h => by rw [hok] at h; exact absurd h.1 (by decide)), rfl⟩, HB1.out⟩
    clear hok
    go_wp2_with fail
    go_ret2
    exact HFIN.out
  | true =>
  have HOK := Lib.hid hok
  clear hok
  have f0 : w1.cell? ⟨g + 1, 0, none⟩ = some (.int .i64 s.st) := L1.out.cell 0
  have f1 : w1.cell? ⟨g + 1, 1, none⟩ = some (.slice a3 s.nx.length c3) := L1.out.cell 1
  have f2 : w1.cell? ⟨g + 1, 2, none⟩ = some (.slice a4 s.ac.length c4) := L1.out.cell 2
  have HV := Lib.hid (valid_any s a3 c3 a4 c4 w1 HM1.out HG1.out)
  go_wp2_with fail
  refine HV.out.mono ?_
  rintro e w2 ⟨rfl, b2⟩
  have HN2 := Lib.hid (HN1.out.below b2)
  have HF2 := Lib.hid (HF1.out.below b2)
  have HM2 := Lib.hid (HM1.out.below b2)
  have HG3 := Lib.hid (HG1.out.below b2)
  have HB2 := Lib.hid (st HB1.out b2 HB1.out.size)
  have K2 := Lib.hid (Blk.below K1.out b2)
  have L2 := Lib.hid (Blk.below L1.out b2)
  have z2 := b2.size
  clear b2 f0 f1 f2 HV HN1 HF1 HM1 HG1 HB1 K1 L1
  cases hok : okD s with
  | false =>
    have HFIN : Hid (SameR r s w (.returned (.tuple #[.bool false, .int .i64 1])) w2) := Lib.hid ⟨.inl ⟨(fun h => by rw [hok] at h; exact absurd h.2 (by decide)), rfl⟩, HB2.out⟩
    clear hok
    go_wp2_with fail
    go_ret2
    exact HFIN.out
  | true =>
  have HOK2 := Lib.hid hok
  clear hok
  have bd := (Below.refl w2.heap.size w2).drew
  obtain ⟨w3, hw3⟩ : ∃ w3, w2.drew = w3 := ⟨_, rfl⟩
  have HW3 := Lib.hid hw3
  rw [hw3] at bd
  have HN3 := Lib.hid (HN2.out.below bd)
  have HF3 := Lib.hid (HF2.out.below bd)
  have HM3 := Lib.hid (HM2.out.below bd)
  have HG4 := Lib.hid (HG3.out.below bd)
  have HB3 := Lib.hid (st HB2.out bd HB2.out.size)
  have K3 := Lib.hid (Blk.below K2.out bd)
  have L3 := Lib.hid (Blk.below L2.out bd)
  clear bd hw3
  have HSS : Hid (∀ wx, Blk g 25 #[.int .i64 r.st, .slice a1 r.nx.length c1, .slice a2 r.ac.length c2] wx → Blk (g + 1) 25 #[.int .i64 s.st, .slice a3 s.nx.length c3, .slice a4 s.ac.length c4] wx → (fun wx : World => wx.cell? ⟨g, 0, none⟩ = some (.int .i64 r.st) ∧ wx.cell? ⟨g, 1, none⟩ = some (.slice a1 r.nx.length c1) ∧ wx.cell? ⟨g, 2, none⟩ = some (.slice a2 r.ac.length c2) ∧ wx.cell? ⟨g + 1, 0, none⟩ = some (.int .i64 s.st) ∧ wx.cell? ⟨g + 1, 1, none⟩ = some (.slice a3 s.nx.length c3) ∧ wx.cell? ⟨g + 1, 2, none⟩ = some (.slice a4 s.ac.length c4)) wx) := Lib.hid (fun wx h1 h2 => ⟨h1.cell 0, h1.cell 1, h1.cell 2, h2.cell 0, h2.cell 1, h2.cell 2⟩)
  have hS3 := HSS.out w3 K3.out L3.out
  go_upto_region 3 with fail
  refine region_hd 4 (fun wx : World => wx.cell? ⟨g, 0, none⟩ = some (.int .i64 r.st) ∧ wx.cell? ⟨g, 1, none⟩ = some (.slice a1 r.nx.length c1) ∧ wx.cell? ⟨g, 2, none⟩ = some (.slice a2 r.ac.length c2) ∧ wx.cell? ⟨g + 1, 0, none⟩ = some (.int .i64 s.st) ∧ wx.cell? ⟨g + 1, 1, none⟩ = some (.slice a3 s.nx.length c3) ∧ wx.cell? ⟨g + 1, 2, none⟩ = some (.slice a4 s.ac.length c4)) (by kernel_rfl) (by kernel_rfl) ?_
  rw [HW3.out]
  refine hd_taken 0 (some 14) _ ?hdv0 rfl rfl (by kernel_rfl) (fun _ _ _ h => h) (Or.inl ⟨by rfl, ?hdy0⟩) hS3 ?hdr0
  case hdy0 => (intro wx hx; (try dsimp only at hx); go_simp; try with_reducible rfl)
  try simp only [Act.put, List.setIfInBounds_toArray, List.set_cons_zero, List.set_cons_succ]
  refine hd_taken 2 (some 16) _ ?hdv2 rfl rfl (by kernel_rfl) (fun _ _ _ h => h) (Or.inl ⟨by rfl, ?hdy2⟩) hS3 ?hdr2
  case hdy2 => (intro wx hx; (try dsimp only at hx); go_simp; try with_reducible rfl)
  try simp only [Act.put, List.setIfInBounds_toArray, List.set_cons_zero, List.set_cons_succ]
  refine hd_one 1 _ rfl (by kernel_rfl) (by decide) (fun K4k hK4 => ?_)
  go_simp
  refine (minimal_any r (okD_iff.1 HOK.out).1 a1 c1 a2 c2 w3 HN3.out HF3.out).mono ?_
  rintro e w4 hmp
  obtain ⟨p, x1, y1, x2, y2, rfl, hpN, hpF, hmin, b4⟩ := MinP.raw (okD_iff.1 HOK.out) hmp
  try dsimp only
  have NP4 := Lib.hid hpN
  have FP4 := Lib.hid hpF
  have HMIN := Lib.hid hmin
  have HM4 := Lib.hid (HM3.out.below b4)
  have HG5 := Lib.hid (HG4.out.below b4)
  have HB4 := Lib.hid (st HB3.out b4 HB3.out.size)
  have hS4 := HSS.out w4 (Blk.below K3.out b4) (Blk.below L3.out b4)
  have K4 := Lib.hid (Blk.below K3.out b4)
  have L4 := Lib.hid (Blk.below L3.out b4)
  clear hmp hpN hpF hmin b4
  refine hK4.out _ _ hS4 ?_
  clear hK4 K4k hS3
  try simp only [Act.put, List.setIfInBounds_toArray, List.set_cons_zero, List.set_cons_succ]
  refine hd_one 3 _ rfl (by kernel_rfl) (by decide) (fun K5k hK5 => ?_)
  go_simp
  refine (minimal_any s (okD_iff.1 HOK2.out).1 a3 c3 a4 c4 w4 HM4.out HG5.out).mono ?_
  rintro e w5 hmp
  obtain ⟨q, x3, y3, x4, y4, rfl, hqN, hqF, hmin, b5⟩ := MinP.raw (okD_iff.1 HOK2.out) hmp
  try dsimp only
  have NQ5 := Lib.hid hqN
  have FQ5 := Lib.hid hqF
  have HMIN2 := Lib.hid hmin
  have NP5 := Lib.hid (NP4.out.below b5)
  have FP5 := Lib.hid (FP4.out.below b5)
  have HB5 := Lib.hid (st HB4.out b5 HB4.out.size)
  have hS5 := HSS.out w5 (Blk.below K4.out b5) (Blk.below L4.out b5)
  clear hmp hqN hqF hmin b5
  refine hK5.out _ _ hS5 ?_
  clear hK5 K5k hS4
  try simp only [Act.put, List.setIfInBounds_toArray, List.set_cons_zero, List.set_cons_succ]
  refine hd_done (by kernel_rfl) ?_
  simp only [List.drop_succ_cons, List.drop_zero]
  have HE := Lib.hid (equalD_any p q x1 y1 x2 y2 x3 y3 x4 y4 w5 NP5.out FP5.out NQ5.out FQ5.out)
  clear hS5
  go_wp2_with fail
  refine HE.out.mono ?_
  rintro e w6 ⟨rfl, b6⟩
  have HFIN : Hid (SameR r s w (.returned (.tuple #[.bool (eqD p q), .int .i64 0])) w6) := Lib.hid ⟨.inr ⟨HOK.out, HOK2.out, p, q, HMIN.out, HMIN2.out, rfl⟩, st HB5.out b6 HB5.out.size⟩
  clear b6
  go_wp2_with fail
  go_ret2
  exact HFIN.out
end Go.Proofs.Ytiljagfjgefnnaa
