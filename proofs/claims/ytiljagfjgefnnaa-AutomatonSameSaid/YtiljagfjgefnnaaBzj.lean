/- The program's Same. -/
import Derived.Test.YtiljagfjgefnnaaBzi
namespace Go.Proofs.Ytiljagfjgefnnaa
open Go.RowKit
set_option linter.unusedVariables false

theorem GotQ.raws2 {r : RawD} {w w' : World} {e : Ending} (h : GotQ r w e w') (hok : okD r = true) : ∃ (q : RawD) (a1 : Option Addr) (c1 : Nat) (a2 : Option Addr) (c2 : Nat), e = .returned (.tuple #[.agg #[.int .i64 q.st, .slice a1 q.nx.length c1, .slice a2 q.ac.length c2], .int .i64 0]) ∧ IsMin (toA r) q ∧ ∀ (wx : World) (X : Nat → Prop), Fr X w' wx → (∀ b, X b → b < w.heap.size) → RdRows wx (.slice a1 q.nx.length c1) q.nx ∧ Rd 1 encO wx (.slice a2 q.ac.length c2) q.ac := by
  rcases h.1 with ⟨h1, _⟩ | ⟨h1, G, cl, k, LB, CB, AB, hG, heq, hcl, hst, hkn, he, hmd⟩
  · rw [hok] at h1; cases h1
  · have hn := (okD_iff.1 h1).2
    have hl : (mkR (outN G cl k) (outF G cl k)).nx.length = k := by show (List.map _ _).length = k; rw [List.length_map, outN_len]
    have ha : (mkR (outN G cl k) (outF G cl k)).ac.length = k := outF_len _ _ _
    refine ⟨mkR (outN G cl k) (outF G cl k), some ⟨LB, 0, none⟩, k, some ⟨AB, 0, none⟩, k, by rw [he, hl, ha]; rfl, ⟨G, cl, k, hG, heq, hcl, hst, by omega, rfl⟩, fun wx X hg hne => ?_⟩
    exact made_rows ⟨hg.fn hmd.l (fun h => by have := hne _ h; have := hmd.lL; omega), hg.fn hmd.c (fun h => by have := hne _ h; have := hmd.lC; omega), hg.fn hmd.a (fun h => by have := hne _ h; have := hmd.lA; omega), hmd.lL, hmd.lC, hmd.lA⟩ (by omega) (outN_len _ _ _) (fun x hx => by
      unfold outN at hx
      obtain ⟨i, _, rfl⟩ := List.mem_map.1 hx
      exact rowK_len _ _ _ _ 11) (outF_len _ _ _)
set_option maxRecDepth 1000000 in
set_option maxHeartbeats 16000000 in
theorem sameP_any (r s : RawD) (a1 : Option Addr) (c1 : Nat) (a2 : Option Addr) (c2 : Nat) (a3 : Option Addr) (c3 : Nat) (a4 : Option Addr) (c4 : Nat) (w : World) (hN : RdRows w (.slice a1 r.nx.length c1) r.nx) (hF : Rd 1 encO w (.slice a2 r.ac.length c2) r.ac) (hN2 : RdRows w (.slice a3 s.nx.length c3) s.nx) (hF2 : Rd 1 encO w (.slice a4 s.ac.length c4) s.ac) :
    Calls Try.prog 30 #[.agg #[.int .i64 r.st, .slice a1 r.nx.length c1, .slice a2 r.ac.length c2], .agg #[.int .i64 s.st, .slice a3 s.nx.length c3, .slice a4 s.ac.length c4]] w (SameR r s w) := by
  have BA := (Below.refl w.heap.size w).alloc (Nat.le_refl _) (.cells #[.int .i64 r.st, .slice a1 r.nx.length c1, .slice a2 r.ac.length c2] 29)
  have BB := BA.alloc BA.size (.cells #[.int .i64 s.st, .slice a3 s.nx.length c3, .slice a4 s.ac.length c4] 29)
  have k0 := (Blk.new w 29 #[.int .i64 r.st, .slice a1 r.nx.length c1, .slice a2 r.ac.length c2]).alloc (.cells #[.int .i64 s.st, .slice a3 s.nx.length c3, .slice a4 s.ac.length c4] 29)
  have k1 := Blk.new (w.alloc (.cells #[.int .i64 r.st, .slice a1 r.nx.length c1, .slice a2 r.ac.length c2] 29)) 29 #[.int .i64 s.st, .slice a3 s.nx.length c3, .slice a4 s.ac.length c4]
  rw [World.size_alloc] at k1
  obtain ⟨W0, hW0⟩ : ∃ W0, (w.alloc (.cells #[.int .i64 r.st, .slice a1 r.nx.length c1, .slice a2 r.ac.length c2] 29)).alloc (.cells #[.int .i64 s.st, .slice a3 s.nx.length c3, .slice a4 s.ac.length c4] 29) = W0 := ⟨_, rfl⟩
  have HN0 := Lib.hid hN
  have HF0 := Lib.hid hF
  have HM0 := Lib.hid hN2
  have HG0 := Lib.hid hF2
  have HN := Lib.hid (hN.below BB)
  have HF := Lib.hid (hF.below BB)
  have HM := Lib.hid (hN2.below BB)
  have HG2 := Lib.hid (hF2.below BB)
  have HB := Lib.hid BB
  have K := Lib.hid k0
  have L := Lib.hid k1
  rw [hW0] at HN HF HM HG2 HB K L
  obtain ⟨g, hg⟩ : ∃ g, w.heap.size = g := ⟨_, rfl⟩
  have HG := Lib.hid hg
  have HW0 := Lib.hid hW0
  rw [hg] at K L
  have f0 : W0.cell? ⟨g, 0, none⟩ = some (.int .i64 r.st) := K.out.cell 0
  have f1 : W0.cell? ⟨g, 1, none⟩ = some (.slice a1 r.nx.length c1) := K.out.cell 1
  have f2 : W0.cell? ⟨g, 2, none⟩ = some (.slice a2 r.ac.length c2) := K.out.cell 2
  clear hN hF hN2 hF2 BA BB k0 k1 hW0 hg
  go_enter Try.func30, Try.ntmps30
  go_upto_region 1 with fail
  rw [HW0.out, HG.out]
  clear HW0
  have HV := Lib.hid (validP_any r a1 c1 a2 c2 W0 HN.out HF.out)
  go_wp2_with fail
  refine HV.out.mono ?_
  rintro e w1 ⟨rfl, b1⟩
  have HN1 := Lib.hid (HN.out.below b1)
  have HF1 := Lib.hid (HF.out.below b1)
  have HM1 := Lib.hid (HM.out.below b1)
  have HG1 := Lib.hid (HG2.out.below b1)
  have HB1 := Lib.hid (st HB.out b1 HB.out.size)
  have K1 := Lib.hid (Blk.below K.out b1)
  have L1 := Lib.hid (Blk.below L.out b1)
  have z1 := b1.size
  clear b1 f0 f1 f2 HV
  cases hok : okD r with
  | false =>
    have HFIN : Hid (SameR r s w (.returned (.tuple #[.bool false, .int .i64 1])) w1) := Lib.hid ⟨.inl ⟨(fun h => by rw [hok] at h; exact absurd h.1 (by decide)), rfl⟩, HB1.out⟩
    clear hok
    go_wp2_with fail
    go_ret2
    exact HFIN.out
  | true =>
  have HOK := Lib.hid hok
  clear hok
  have f0 : w1.cell? ⟨g + 1, 0, none⟩ = some (.int .i64 s.st) := L1.out.cell 0
  have f1 : w1.cell? ⟨g + 1, 1, none⟩ = some (.slice a3 s.nx.length c3) := L1.out.cell 1
  have f2 : w1.cell? ⟨g + 1, 2, none⟩ = some (.slice a4 s.ac.length c4) := L1.out.cell 2
  have HV := Lib.hid (validP_any s a3 c3 a4 c4 w1 HM1.out HG1.out)
  go_wp2_with fail
  refine HV.out.mono ?_
  rintro e w2 ⟨rfl, b2⟩
  have HN2 := Lib.hid (HN1.out.below b2)
  have HF2 := Lib.hid (HF1.out.below b2)
  have HM2 := Lib.hid (HM1.out.below b2)
  have HG3 := Lib.hid (HG1.out.below b2)
  have HB2 := Lib.hid (st HB1.out b2 HB1.out.size)
  have K2 := Lib.hid (Blk.below K1.out b2)
  have L2 := Lib.hid (Blk.below L1.out b2)
  have z2 := b2.size
  clear b2 f0 f1 f2 HV HN1 HF1 HM1 HG1 HB1 K1 L1
  cases hok : okD s with
  | false =>
    have HFIN : Hid (SameR r s w (.returned (.tuple #[.bool false, .int .i64 1])) w2) := Lib.hid ⟨.inl ⟨(fun h => by rw [hok] at h; exact absurd h.2 (by decide)), rfl⟩, HB2.out⟩
    clear hok
    go_wp2_with fail
    go_ret2
    exact HFIN.out
  | true =>
  have HOK2 := Lib.hid hok
  clear hok
  have f0 : w2.cell? ⟨g, 0, none⟩ = some (.int .i64 r.st) := K2.out.cell 0
  have f1 : w2.cell? ⟨g, 1, none⟩ = some (.slice a1 r.nx.length c1) := K2.out.cell 1
  have f2 : w2.cell? ⟨g, 2, none⟩ = some (.slice a2 r.ac.length c2) := K2.out.cell 2
  have HMP := Lib.hid (minP_any r a1 c1 a2 c2 w2 HN2.out HF2.out)
  have hgw : w.heap.size ≤ g := by have := HG.out; omega
  have HGW := Lib.hid hgw
  have hg2 : g + 1 < w2.heap.size := L2.out.lt
  have HG2S := Lib.hid hg2
  clear z1 z2 hgw hg2
  go_wp2_with fail
  refine HMP.out.mono ?_
  rintro e w3 hgot
  have b3 := hgot.2
  obtain ⟨p, x1, y1, x2, y2, rfl, hmin, hrd⟩ := hgot.raws2 HOK.out
  have HMIN := Lib.hid hmin
  have HRD := Lib.hid hrd
  have K3 := Lib.hid (Blk.below K2.out b3)
  have L3 := Lib.hid (Blk.below L2.out b3)
  have B3 := Lib.hid (HB2.out.trans (b3.mono HB2.out.size))
  have z3 := b3.size
  have xf := K3.out.frozen
  have y0' : w3.cell? ⟨g, 0, none⟩ = some (.int .i64 r.st) := K3.out.cell 0
  have y1' : w3.cell? ⟨g, 1, none⟩ = some (.slice a1 r.nx.length c1) := K3.out.cell 1
  have y2' : w3.cell? ⟨g, 2, none⟩ = some (.slice a2 r.ac.length c2) := K3.out.cell 2
  clear hgot hmin hrd HMP f0 f1 f2 b3
  go_upto_region 4 with fail
  obtain ⟨w4, hw4⟩ : ∃ w4, ((w3.setCell ⟨g, 0, none⟩ (.int .i64 p.st)).setCell ⟨g, 1, none⟩ (.slice x1 p.nx.length y1)).setCell ⟨g, 2, none⟩ (.slice x2 p.ac.length y2) = w4 := ⟨_, rfl⟩
  have gr := ((grown_set w3 g 0 (.int .i64 p.st)).trans (grown_set _ g 1 (.slice x1 p.nx.length y1))).trans (grown_set _ g 2 (.slice x2 p.ac.length y2))
  have k4 := ((K3.out.put 0 (.int .i64 p.st)).put 1 (.slice x1 p.nx.length y1)).put 2 (.slice x2 p.ac.length y2)
  have b4 := ((B3.out.setCell (p := ⟨g, 0, none⟩) HGW.out (.int .i64 p.st)).setCell (p := ⟨g, 1, none⟩) HGW.out (.slice x1 p.nx.length y1)).setCell (p := ⟨g, 2, none⟩) HGW.out (.slice x2 p.ac.length y2)
  rw [hw4] at gr k4 b4 ⊢
  replace k4 : Blk g 29 #[.int .i64 p.st, .slice x1 p.nx.length y1, .slice x2 p.ac.length y2] w4 := k4
  have K4 := Lib.hid k4
  have L4 : Hid (Blk (g + 1) 29 #[.int .i64 s.st, .slice a3 s.nx.length c3, .slice a4 s.ac.length c4] w4) := Lib.hid ((gr.block (g + 1) L3.out.lt (by intro e; injection e with e; omega)).trans L3.out)
  have FR4 : Hid (Fr (fun b => b = g ∨ b = g + 1) w3 w4) := Lib.hid (Fr.grown gr (fun k e => by injection e with e; exact .inl e.symm))
  have B4 := Lib.hid b4
  have HM4 := Lib.hid (HM0.out.below b4)
  have HG4 := Lib.hid (HG0.out.below b4)
  have f0 : w4.cell? ⟨g + 1, 0, none⟩ = some (.int .i64 s.st) := L4.out.cell 0
  have f1 : w4.cell? ⟨g + 1, 1, none⟩ = some (.slice a3 s.nx.length c3) := L4.out.cell 1
  have f2 : w4.cell? ⟨g + 1, 2, none⟩ = some (.slice a4 s.ac.length c4) := L4.out.cell 2
  have HMP := Lib.hid (minP_any s a3 c3 a4 c4 w4 HM4.out HG4.out)
  have HG4S : Hid (g + 1 < w4.heap.size) := Lib.hid L4.out.lt
  clear gr k4 b4 hw4 xf y0' y1' y2' z3
  go_wp2_with fail
  refine HMP.out.mono ?_
  rintro e w5 hgot
  have b5 := hgot.2
  obtain ⟨q, x3, y3, x4, y4, rfl, hmin, hrd⟩ := hgot.raws2 HOK2.out
  have HMIN2 := Lib.hid hmin
  have HRD2 := Lib.hid hrd
  have K5 := Lib.hid (Blk.below K4.out b5)
  have L5 := Lib.hid (Blk.below L4.out b5)
  have B5 := Lib.hid (B4.out.trans (b5.mono B4.out.size))
  have xf := L5.out.frozen
  have y0' : w5.cell? ⟨g + 1, 0, none⟩ = some (.int .i64 s.st) := L5.out.cell 0
  have y1' : w5.cell? ⟨g + 1, 1, none⟩ = some (.slice a3 s.nx.length c3) := L5.out.cell 1
  have y2' : w5.cell? ⟨g + 1, 2, none⟩ = some (.slice a4 s.ac.length c4) := L5.out.cell 2
  have FR5 : Hid (Fr (fun b => b = g ∨ b = g + 1) w3 w5) := Lib.hid (FR4.out.trans (Fr.of_below (X := fun _ => False) b5) (fun _ _ e => e.elim))
  clear hgot hmin hrd HMP f0 f1 f2 b5
  go_upto_region 5 with fail
  obtain ⟨w6, hw6⟩ : ∃ w6, ((w5.setCell ⟨g + 1, 0, none⟩ (.int .i64 q.st)).setCell ⟨g + 1, 1, none⟩ (.slice x3 q.nx.length y3)).setCell ⟨g + 1, 2, none⟩ (.slice x4 q.ac.length y4) = w6 := ⟨_, rfl⟩
  have gr := ((grown_set w5 (g + 1) 0 (.int .i64 q.st)).trans (grown_set _ (g + 1) 1 (.slice x3 q.nx.length y3))).trans (grown_set _ (g + 1) 2 (.slice x4 q.ac.length y4))
  have l6 := ((L5.out.put 0 (.int .i64 q.st)).put 1 (.slice x3 q.nx.length y3)).put 2 (.slice x4 q.ac.length y4)
  have hg1 : w.heap.size ≤ g + 1 := by have := HGW.out; omega
  have b6 := ((B5.out.setCell (p := ⟨g + 1, 0, none⟩) hg1 (.int .i64 q.st)).setCell (p := ⟨g + 1, 1, none⟩) hg1 (.slice x3 q.nx.length y3)).setCell (p := ⟨g + 1, 2, none⟩) hg1 (.slice x4 q.ac.length y4)
  rw [hw6] at gr l6 b6 ⊢
  replace l6 : Blk (g + 1) 29 #[.int .i64 q.st, .slice x3 q.nx.length y3, .slice x4 q.ac.length y4] w6 := l6
  have FR56 : Fr (fun b => b = g ∨ b = g + 1) w5 w6 := Fr.grown gr (fun k e => by injection e with e; exact .inr e.symm)
  have P6 := Lib.hid (HRD.out w6 _ (FR5.out.trans FR56 (fun _ _ e => e)) (fun b hb => by have := HG2S.out; omega))
  have Q6 := Lib.hid (HRD2.out w6 _ FR56 (fun b hb => by have := HG4S.out; omega))
  have K6 : Blk g 29 #[.int .i64 p.st, .slice x1 p.nx.length y1, .slice x2 p.ac.length y2] w6 := (gr.block g K5.out.lt (by intro e; injection e with e; omega)).trans K5.out
  have B6 := Lib.hid b6
  have f0 : w6.cell? ⟨g, 0, none⟩ = some (.int .i64 p.st) := K6.cell 0
  have f1 : w6.cell? ⟨g, 1, none⟩ = some (.slice x1 p.nx.length y1) := K6.cell 1
  have f2 : w6.cell? ⟨g, 2, none⟩ = some (.slice x2 p.ac.length y2) := K6.cell 2
  have h0 : w6.cell? ⟨g + 1, 0, none⟩ = some (.int .i64 q.st) := l6.cell 0
  have h1 : w6.cell? ⟨g + 1, 1, none⟩ = some (.slice x3 q.nx.length y3) := l6.cell 1
  have h2 : w6.cell? ⟨g + 1, 2, none⟩ = some (.slice x4 q.ac.length y4) := l6.cell 2
  have HE := Lib.hid (equalP_any p q (okD_iff.1 HMIN.out.ok).1 (okD_iff.1 HMIN2.out.ok).1 (by rw [HMIN.out.st0, HMIN2.out.st0]) x1 y1 x2 y2 x3 y3 x4 y4 w6 P6.out.1 P6.out.2 Q6.out.1 Q6.out.2)
  clear gr l6 b6 hw6 K6 FR56 xf y0' y1' y2' hg1
  go_wp2_with fail
  refine HE.out.mono ?_
  rintro e w7 ⟨rfl, b7⟩
  have HFIN : Hid (SameR r s w (.returned (.tuple #[.bool (eqD p q), .int .i64 0])) w7) := Lib.hid ⟨.inr ⟨HOK.out, HOK2.out, p, q, HMIN.out, HMIN2.out, rfl⟩, st B6.out b7 B6.out.size⟩
  clear b7
  go_wp2_with fail
  go_ret2
  exact HFIN.out
end Go.Proofs.Ytiljagfjgefnnaa
