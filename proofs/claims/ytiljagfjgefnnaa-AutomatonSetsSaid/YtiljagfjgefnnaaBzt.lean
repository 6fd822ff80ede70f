/- And, Or of the reference; the law AutomatonSets. -/
import Derived.Test.YtiljagfjgefnnaaBzs
namespace Go.Proofs.Ytiljagfjgefnnaa
open Go.RowKit
set_option linter.unusedVariables false

theorem GotC.raws {r : RawD} {w w' : World} {e : Ending} (h : GotC r w e w') : ∃ q pe, Raws q pe e w' ∧ GotRaw (compl (toA r)) (okD r) r.nx.length q pe := by
  rcases h.1 with ⟨h1, h2⟩ | ⟨h1, h2⟩
  · have h2 : e = .returned (.tuple #[.agg #[.int .i64 0, .slice none 0 0, .slice none 0 0], .int .i64 1]) := h2
    subst h2
    exact ⟨zeroR, 1, raws_zero 1 w', .inl ⟨h1, rfl, rfl⟩⟩
  · have hd := okD_iff.1 h1
    have ho : okD (negD r) = true := okD_iff.2 ⟨negD_ok hd.1, hd.2⟩
    have hm : GotM (negD r) w e w' := ⟨.inr ⟨ho, h2⟩, h.2⟩
    obtain ⟨q, pe, hr, hg⟩ := hm.raws
    refine ⟨q, pe, hr, ?_⟩
    rcases hg with ⟨h5, _⟩ | ⟨_, h6, h7, h8⟩
    · rw [ho] at h5; cases h5
    · exact .inr ⟨h1, h6, h7.of (negD_eqv hd.1 hd.1.ok.st), h8⟩
theorem resAndR {W : World} {tm : Array Value} {B : Nat} {t : TypeId} {a b c x : Value} (t2 : tm[4]?.getD undef = .pointer (some ⟨B, 0, none⟩)) (t3 : tm[5]?.getD undef = x) (h : Blk B t #[a, b, c] W) :
    (results Try.f25 tm).run Try.prog W = .ok (.tuple #[.agg #[a, b, c], x]) W := by
  have a0 : W.cell? ⟨B, 0, none⟩ = some a := h.cell 0
  have a1 : W.cell? ⟨B, 1, none⟩ = some b := h.cell 1
  have a2 : W.cell? ⟨B, 2, none⟩ = some c := h.cell 2
  simp [results, Try.f25, go_sem, t2, t3, a0, a1, a2]
set_option maxRecDepth 1000000 in
set_option maxHeartbeats 16000000 in
theorem andR_any (r s : RawD) (hrs : r.nx.length * s.nx.length ≤ 2000) (a1 : Option Addr) (c1 : Nat) (a2 : Option Addr) (c2 : Nat) (a3 : Option Addr) (c3 : Nat) (a4 : Option Addr) (c4 : Nat) (w : World) (hN : RdRows w (.slice a1 r.nx.length c1) r.nx) (hF : Rd 1 encO w (.slice a2 r.ac.length c2) r.ac) (hN2 : RdRows w (.slice a3 s.nx.length c3) s.nx) (hF2 : Rd 1 encO w (.slice a4 s.ac.length c4) s.ac) :
    Calls Try.prog 25 #[.agg #[.int .i64 r.st, .slice a1 r.nx.length c1, .slice a2 r.ac.length c2], .agg #[.int .i64 s.st, .slice a3 s.nx.length c3, .slice a4 s.ac.length c4]] w (GotK (prodA (toA r) (toA s) (fun x y => x && y)) (okD r && okD s) (r.nx.length * s.nx.length) w) := by
  have BA := (Below.refl w.heap.size w).alloc (Nat.le_refl _) (.cells #[.int .i64 r.st, .slice a1 r.nx.length c1, .slice a2 r.ac.length c2] 25)
  have BA1 := BA.alloc BA.size (.cells #[.int .i64 s.st, .slice a3 s.nx.length c3, .slice a4 s.ac.length c4] 25)
  have BB := BA1.alloc BA1.size (.cells #[.int .i64 0, .slice none 0 0, .slice none 0 0] 25)
  have k0 := ((Blk.new w 25 #[.int .i64 r.st, .slice a1 r.nx.length c1, .slice a2 r.ac.length c2]).alloc (.cells #[.int .i64 s.st, .slice a3 s.nx.length c3, .slice a4 s.ac.length c4] 25)).alloc (.cells #[.int .i64 0, .slice none 0 0, .slice none 0 0] 25)
  have k1 := (Blk.new (w.alloc (.cells #[.int .i64 r.st, .slice a1 r.nx.length c1, .slice a2 r.ac.length c2] 25)) 25 #[.int .i64 s.st, .slice a3 s.nx.length c3, .slice a4 s.ac.length c4]).alloc (.cells #[.int .i64 0, .slice none 0 0, .slice none 0 0] 25)
  have k2 := Blk.new ((w.alloc (.cells #[.int .i64 r.st, .slice a1 r.nx.length c1, .slice a2 r.ac.length c2] 25)).alloc (.cells #[.int .i64 s.st, .slice a3 s.nx.length c3, .slice a4 s.ac.length c4] 25)) 25 #[.int .i64 0, .slice none 0 0, .slice none 0 0]
  rw [World.size_alloc] at k1
  rw [World.size_alloc, World.size_alloc] at k2
  obtain ⟨W0, hW0⟩ : ∃ W0, ((w.alloc (.cells #[.int .i64 r.st, .slice a1 r.nx.length c1, .slice a2 r.ac.length c2] 25)).alloc (.cells #[.int .i64 s.st, .slice a3 s.nx.length c3, .slice a4 s.ac.length c4] 25)).alloc (.cells #[.int .i64 0, .slice none 0 0, .slice none 0 0] 25) = W0 := ⟨_, rfl⟩
  have HN := Lib.hid (hN.below BB)
  have HF := Lib.hid (hF.below BB)
  have HM := Lib.hid (hN2.below BB)
  have HG2 := Lib.hid (hF2.below BB)
  have HB := Lib.hid BB
  have K := Lib.hid k0
  have L := Lib.hid k1
  have KR := Lib.hid k2
  rw [hW0] at HN HF HM HG2 HB K L KR
  obtain ⟨g, hg⟩ : ∃ g, w.heap.size = g := ⟨_, rfl⟩
  have HG := Lib.hid hg
  have HW0 := Lib.hid hW0
  have HRS := Lib.hid hrs
  rw [hg] at K L KR
  replace KR : Hid (Blk (g + 2) 25 #[.int .i64 0, .slice none 0 0, .slice none 0 0] W0) := KR
  have f0 : W0.cell? ⟨g, 0, none⟩ = some (.int .i64 r.st) := K.out.cell 0
  have f1 : W0.cell? ⟨g, 1, none⟩ = some (.slice a1 r.nx.length c1) := K.out.cell 1
  have f2 : W0.cell? ⟨g, 2, none⟩ = some (.slice a2 r.ac.length c2) := K.out.cell 2
  have h0 : W0.cell? ⟨g + 1, 0, none⟩ = some (.int .i64 s.st) := L.out.cell 0
  have h1 : W0.cell? ⟨g + 1, 1, none⟩ = some (.slice a3 s.nx.length c3) := L.out.cell 1
  have h2 : W0.cell? ⟨g + 1, 2, none⟩ = some (.slice a4 s.ac.length c4) := L.out.cell 2
  have e3 : g + 1 + 1 = g + 2 := rfl
  clear hN hF hN2 hF2 BA BA1 BB k0 k1 k2 hW0 hg hrs
  go_enter Try.func25, Try.ntmps25
  go_upto_region 1 with fail
  rw [HW0.out, HG.out]
  try rw [e3]
  clear HW0 e3
  have HX := Lib.hid (productR_any true r s HRS.out a1 c1 a2 c2 a3 c3 a4 c4 W0 HN.out HF.out HM.out HG2.out)
  go_wp2_with fail
  refine HX.out.mono ?_
  rintro e w2 hgot
  obtain ⟨q, pe, x1, d1, x2, d2, rfl, hraw, hkept⟩ := hgot.1
  rw [opB_and] at hraw
  have HRAW := Lib.hid hraw
  have HKP := Lib.hid hkept
  have HB2 := Lib.hid hgot.2
  have KR2 := Lib.hid (Blk.below KR.out hgot.2)
  have xf := KR2.out.frozen
  have y0 : w2.cell? ⟨g + 2, 0, none⟩ = some (.int .i64 0) := KR2.out.cell 0
  have y1 : w2.cell? ⟨g + 2, 1, none⟩ = some (.slice none 0 0) := KR2.out.cell 1
  have y2 : w2.cell? ⟨g + 2, 2, none⟩ = some (.slice none 0 0) := KR2.out.cell 2
  have HFIN : Hid (Blk (g + 2) 25 #[.int .i64 q.st, .slice x1 q.nx.length d1, .slice x2 q.ac.length d2] (put3 w2 (g + 2) (.int .i64 q.st) (.slice x1 q.nx.length d1) (.slice x2 q.ac.length d2)) ∧ GotK (prodA (toA r) (toA s) (fun x y => x && y)) (okD r && okD s) (r.nx.length * s.nx.length) w (.returned (.tuple #[.agg #[.int .i64 q.st, .slice x1 q.nx.length d1, .slice x2 q.ac.length d2], .int .i64 pe])) (put3 w2 (g + 2) (.int .i64 q.st) (.slice x1 q.nx.length d1) (.slice x2 q.ac.length d2))) := Lib.hid (by
    obtain ⟨p1, p2⟩ := put3_ok (n := w.heap.size) (a' := .int .i64 q.st) (b' := .slice x1 q.nx.length d1) (c' := .slice x2 q.ac.length d2) KR2.out (by have := HG.out; omega)
    have hg := put3_grown w2 (g + 2) (.int .i64 q.st) (.slice x1 q.nx.length d1) (.slice x2 q.ac.length d2)
    exact ⟨p1, ⟨q, pe, x1, d1, x2, d2, rfl, HRAW.out, HKP.out.put hg KR.out.lt HB.out.size⟩, (HB.out.trans (HB2.out.mono HB.out.size)).trans p2⟩)
  clear hgot hraw hkept f0 f1 f2 h0 h1 h2
  go_wp2_with fail
  exact bodyPost_ret (v := .tuple #[.agg #[.int .i64 q.st, .slice x1 q.nx.length d1, .slice x2 q.ac.length d2], .int .i64 pe]) (resAndR rfl rfl HFIN.out.1) rfl HFIN.out.2
theorem resOrR {W : World} {tm : Array Value} {B : Nat} {t : TypeId} {a b c x : Value} (t2 : tm[4]?.getD undef = .pointer (some ⟨B, 0, none⟩)) (t3 : tm[5]?.getD undef = x) (h : Blk B t #[a, b, c] W) :
    (results Try.f27 tm).run Try.prog W = .ok (.tuple #[.agg #[a, b, c], x]) W := by
  have a0 : W.cell? ⟨B, 0, none⟩ = some a := h.cell 0
  have a1 : W.cell? ⟨B, 1, none⟩ = some b := h.cell 1
  have a2 : W.cell? ⟨B, 2, none⟩ = some c := h.cell 2
  simp [results, Try.f27, go_sem, t2, t3, a0, a1, a2]
set_option maxRecDepth 1000000 in
set_option maxHeartbeats 16000000 in
theorem orR_any (r s : RawD) (hrs : r.nx.length * s.nx.length ≤ 2000) (a1 : Option Addr) (c1 : Nat) (a2 : Option Addr) (c2 : Nat) (a3 : Option Addr) (c3 : Nat) (a4 : Option Addr) (c4 : Nat) (w : World) (hN : RdRows w (.slice a1 r.nx.length c1) r.nx) (hF : Rd 1 encO w (.slice a2 r.ac.length c2) r.ac) (hN2 : RdRows w (.slice a3 s.nx.length c3) s.nx) (hF2 : Rd 1 encO w (.slice a4 s.ac.length c4) s.ac) :
    Calls Try.prog 27 #[.agg #[.int .i64 r.st, .slice a1 r.nx.length c1, .slice a2 r.ac.length c2], .agg #[.int .i64 s.st, .slice a3 s.nx.length c3, .slice a4 s.ac.length c4]] w (GotK (prodA (toA r) (toA s) (fun x y => x || y)) (okD r && okD s) (r.nx.length * s.nx.length) w) := by
  have BA := (Below.refl w.heap.size w).alloc (Nat.le_refl _) (.cells #[.int .i64 r.st, .slice a1 r.nx.length c1, .slice a2 r.ac.length c2] 25)
  have BA1 := BA.alloc BA.size (.cells #[.int .i64 s.st, .slice a3 s.nx.length c3, .slice a4 s.ac.length c4] 25)
  have BB := BA1.alloc BA1.size (.cells #[.int .i64 0, .slice none 0 0, .slice none 0 0] 25)
  have k0 := ((Blk.new w 25 #[.int .i64 r.st, .slice a1 r.nx.length c1, .slice a2 r.ac.length c2]).alloc (.cells #[.int .i64 s.st, .slice a3 s.nx.length c3, .slice a4 s.ac.length c4] 25)).alloc (.cells #[.int .i64 0, .slice none 0 0, .slice none 0 0] 25)
  have k1 := (Blk.new (w.alloc (.cells #[.int .i64 r.st, .slice a1 r.nx.length c1, .slice a2 r.ac.length c2] 25)) 25 #[.int .i64 s.st, .slice a3 s.nx.length c3, .slice a4 s.ac.length c4]).alloc (.cells #[.int .i64 0, .slice none 0 0, .slice none 0 0] 25)
  have k2 := Blk.new ((w.alloc (.cells #[.int .i64 r.st, .slice a1 r.nx.length c1, .slice a2 r.ac.length c2] 25)).alloc (.cells #[.int .i64 s.st, .slice a3 s.nx.length c3, .slice a4 s.ac.length c4] 25)) 25 #[.int .i64 0, .slice none 0 0, .slice none 0 0]
  rw [World.size_alloc] at k1
  rw [World.size_alloc, World.size_alloc] at k2
  obtain ⟨W0, hW0⟩ : ∃ W0, ((w.alloc (.cells #[.int .i64 r.st, .slice a1 r.nx.length c1, .slice a2 r.ac.length c2] 25)).alloc (.cells #[.int .i64 s.st, .slice a3 s.nx.length c3, .slice a4 s.ac.length c4] 25)).alloc (.cells #[.int .i64 0, .slice none 0 0, .slice none 0 0] 25) = W0 := ⟨_, rfl⟩
  have HN := Lib.hid (hN.below BB)
  have HF := Lib.hid (hF.below BB)
  have HM := Lib.hid (hN2.below BB)
  have HG2 := Lib.hid (hF2.below BB)
  have HB := Lib.hid BB
  have K := Lib.hid k0
  have L := Lib.hid k1
  have KR := Lib.hid k2
  rw [hW0] at HN HF HM HG2 HB K L KR
  obtain ⟨g, hg⟩ : ∃ g, w.heap.size = g := ⟨_, rfl⟩
  have HG := Lib.hid hg
  have HW0 := Lib.hid hW0
  have HRS := Lib.hid hrs
  rw [hg] at K L KR
  replace KR : Hid (Blk (g + 2) 25 #[.int .i64 0, .slice none 0 0, .slice none 0 0] W0) := KR
  have f0 : W0.cell? ⟨g, 0, none⟩ = some (.int .i64 r.st) := K.out.cell 0
  have f1 : W0.cell? ⟨g, 1, none⟩ = some (.slice a1 r.nx.length c1) := K.out.cell 1
  have f2 : W0.cell? ⟨g, 2, none⟩ = some (.slice a2 r.ac.length c2) := K.out.cell 2
  have h0 : W0.cell? ⟨g + 1, 0, none⟩ = some (.int .i64 s.st) := L.out.cell 0
  have h1 : W0.cell? ⟨g + 1, 1, none⟩ = some (.slice a3 s.nx.length c3) := L.out.cell 1
  have h2 : W0.cell? ⟨g + 1, 2, none⟩ = some (.slice a4 s.ac.length c4) := L.out.cell 2
  have e3 : g + 1 + 1 = g + 2 := rfl
  clear hN hF hN2 hF2 BA BA1 BB k0 k1 k2 hW0 hg hrs
  go_enter Try.func27, Try.ntmps27
  go_upto_region 1 with fail
  rw [HW0.out, HG.out]
  try rw [e3]
  clear HW0 e3
  have HX := Lib.hid (productR_any false r s HRS.out a1 c1 a2 c2 a3 c3 a4 c4 W0 HN.out HF.out HM.out HG2.out)
  go_wp2_with fail
  refine HX.out.mono ?_
  rintro e w2 hgot
  obtain ⟨q, pe, x1, d1, x2, d2, rfl, hraw, hkept⟩ := hgot.1
  rw [opB_or] at hraw
  have HRAW := Lib.hid hraw
  have HKP := Lib.hid hkept
  have HB2 := Lib.hid hgot.2
  have KR2 := Lib.hid (Blk.below KR.out hgot.2)
  have xf := KR2.out.frozen
  have y0 : w2.cell? ⟨g + 2, 0, none⟩ = some (.int .i64 0) := KR2.out.cell 0
  have y1 : w2.cell? ⟨g + 2, 1, none⟩ = some (.slice none 0 0) := KR2.out.cell 1
  have y2 : w2.cell? ⟨g + 2, 2, none⟩ = some (.slice none 0 0) := KR2.out.cell 2
  have HFIN : Hid (Blk (g + 2) 25 #[.int .i64 q.st, .slice x1 q.nx.length d1, .slice x2 q.ac.length d2] (put3 w2 (g + 2) (.int .i64 q.st) (.slice x1 q.nx.length d1) (.slice x2 q.ac.length d2)) ∧ GotK (prodA (toA r) (toA s) (fun x y => x || y)) (okD r && okD s) (r.nx.length * s.nx.length) w (.returned (.tuple #[.agg #[.int .i64 q.st, .slice x1 q.nx.length d1, .slice x2 q.ac.length d2], .int .i64 pe])) (put3 w2 (g + 2) (.int .i64 q.st) (.slice x1 q.nx.length d1) (.slice x2 q.ac.length d2))) := Lib.hid (by
    obtain ⟨p1, p2⟩ := put3_ok (n := w.heap.size) (a' := .int .i64 q.st) (b' := .slice x1 q.nx.length d1) (c' := .slice x2 q.ac.length d2) KR2.out (by have := HG.out; omega)
    have hg := put3_grown w2 (g + 2) (.int .i64 q.st) (.slice x1 q.nx.length d1) (.slice x2 q.ac.length d2)
    exact ⟨p1, ⟨q, pe, x1, d1, x2, d2, rfl, HRAW.out, HKP.out.put hg KR.out.lt HB.out.size⟩, (HB.out.trans (HB2.out.mono HB.out.size)).trans p2⟩)
  clear hgot hraw hkept f0 f1 f2 h0 h1 h2
  go_wp2_with fail
  exact bodyPost_ret (v := .tuple #[.agg #[.int .i64 q.st, .slice x1 q.nx.length d1, .slice x2 q.ac.length d2], .int .i64 pe]) (resOrR rfl rfl HFIN.out.1) rfl HFIN.out.2
set_option maxRecDepth 1000000 in
set_option maxHeartbeats 16000000 in
theorem automatonSets_walk (r : RawD) (a1 : Option Addr) (ac1 : Nat) (a2 : Option Addr) (ac2 : Nat) (t : RawD) (b1 : Option Addr) (bc1 : Nat) (b2 : Option Addr) (bc2 : Nat) (w : World) (hN : RdRows w (.slice a1 r.nx.length ac1) r.nx) (hF : Rd 1 encO w (.slice a2 r.ac.length ac2) r.ac) (hN2 : RdRows w (.slice b1 t.nx.length bc1) t.nx) (hF2 : Rd 1 encO w (.slice b2 t.ac.length bc2) t.ac) :
    Calls Try.prog 5 #[.agg #[.int .i64 r.st, .slice a1 r.nx.length ac1, .slice a2 r.ac.length ac2], .agg #[.int .i64 t.st, .slice b1 t.nx.length bc1, .slice b2 t.ac.length bc2]] w fun e w' => e = .returned (.bool true) ∧ Below w.heap.size w w' := by
  have BA := (Below.refl w.heap.size w).alloc (Nat.le_refl _) (.cells #[.int .i64 r.st, .slice a1 r.nx.length ac1, .slice a2 r.ac.length ac2] 25)
  have BB := BA.alloc BA.size (.cells #[.int .i64 t.st, .slice b1 t.nx.length bc1, .slice b2 t.ac.length bc2] 25)
  have k0 := (Blk.new w 25 #[.int .i64 r.st, .slice a1 r.nx.length ac1, .slice a2 r.ac.length ac2]).alloc (.cells #[.int .i64 t.st, .slice b1 t.nx.length bc1, .slice b2 t.ac.length bc2] 25)
  have k1 := Blk.new (w.alloc (.cells #[.int .i64 r.st, .slice a1 r.nx.length ac1, .slice a2 r.ac.length ac2] 25)) 25 #[.int .i64 t.st, .slice b1 t.nx.length bc1, .slice b2 t.ac.length bc2]
  rw [World.size_alloc] at k1
  obtain ⟨w0, hW0⟩ : ∃ W0, (w.alloc (.cells #[.int .i64 r.st, .slice a1 r.nx.length ac1, .slice a2 r.ac.length ac2] 25)).alloc (.cells #[.int .i64 t.st, .slice b1 t.nx.length bc1, .slice b2 t.ac.length bc2] 25) = W0 := ⟨_, rfl⟩
  have HNr0 := Lib.hid (hN.below BB)
  have HFr0 := Lib.hid (hF.below BB)
  have HNt0 := Lib.hid (hN2.below BB)
  have HFt0 := Lib.hid (hF2.below BB)
  have HB0 := Lib.hid BB
  have Kr0 := Lib.hid k0
  have Kt0 := Lib.hid k1
  rw [hW0] at HNr0 HFr0 HNt0 HFt0 HB0 Kr0 Kt0
  obtain ⟨g, hg⟩ : ∃ g, w.heap.size = g := ⟨_, rfl⟩
  have HGE := Lib.hid hg
  have HW0 := Lib.hid hW0
  rw [hg] at Kr0 Kt0
  clear hN hF hN2 hF2 BA BB k0 k1 hW0 hg
  go_enter Try.func5, Try.ntmps5
  go_upto_region 1 with fail
  rw [HW0.out, HGE.out]
  clear HW0
  go_wp2_with fail
  refine (awake_any w0).mono ?_
  rintro e w1 ⟨rfl, b1⟩
  have HNr1 := Lib.hid (HNr0.out.below b1)
  have HFr1 := Lib.hid (HFr0.out.below b1)
  have HNt1 := Lib.hid (HNt0.out.below b1)
  have HFt1 := Lib.hid (HFt0.out.below b1)
  have Kr1 := Lib.hid (Blk.below Kr0.out b1)
  have Kt1 := Lib.hid (Blk.below Kt0.out b1)
  have HB1 := Lib.hid (st HB0.out b1 HB0.out.size)
  clear b1  HNr0 HFr0 HNt0 HFt0 Kr0 Kt0 HB0
  have fKr0 : w1.cell? ⟨g, 0, none⟩ = some (.int .i64 r.st) := Kr1.out.cell 0
  have fKr1 : w1.cell? ⟨g, 1, none⟩ = some (.slice a1 r.nx.length ac1) := Kr1.out.cell 1
  have fKr2 : w1.cell? ⟨g, 2, none⟩ = some (.slice a2 r.ac.length ac2) := Kr1.out.cell 2
  have HFW := Lib.hid (few_any r a1 ac1 a2 ac2 12 (by omega) w1 HNr1.out HFr1.out)
  go_wp2_with fail
  refine HFW.out.mono ?_
  rintro e w2 ⟨⟨b, rfl, hb⟩, b2⟩
  have HNr2 := Lib.hid (HNr1.out.below b2)
  have HFr2 := Lib.hid (HFr1.out.below b2)
  have HNt2 := Lib.hid (HNt1.out.below b2)
  have HFt2 := Lib.hid (HFt1.out.below b2)
  have Kr2 := Lib.hid (Blk.below Kr1.out b2)
  have Kt2 := Lib.hid (Blk.below Kt1.out b2)
  have HB2 := Lib.hid (st HB1.out b2 HB1.out.size)
  clear b2 HFW fKr0 fKr1 fKr2 HNr1 HFr1 HNt1 HFt1 Kr1 Kt1 HB1
  cases b with
  | false =>
    clear hb
    go_wp2_with fail
    refine (awake_any w2).mono ?_
    rintro e wq ⟨rfl, bq⟩
    have HBQ := Lib.hid (st HB2.out bq HB2.out.size)
    clear bq
    go_wp2_with fail
    go_ret
    exact ⟨rfl, HBQ.out⟩
  | true =>
  have HLr := Lib.hid (hb rfl)
  clear hb
  have fKt0 : w2.cell? ⟨(g + 1), 0, none⟩ = some (.int .i64 t.st) := Kt2.out.cell 0
  have fKt1 : w2.cell? ⟨(g + 1), 1, none⟩ = some (.slice b1 t.nx.length bc1) := Kt2.out.cell 1
  have fKt2 : w2.cell? ⟨(g + 1), 2, none⟩ = some (.slice b2 t.ac.length bc2) := Kt2.out.cell 2
  have HFW := Lib.hid (few_any t b1 bc1 b2 bc2 12 (by omega) w2 HNt2.out HFt2.out)
  go_wp2_with fail
  refine HFW.out.mono ?_
  rintro e w3 ⟨⟨b, rfl, hb⟩, b3⟩
  have HNr3 := Lib.hid (HNr2.out.below b3)
  have HFr3 := Lib.hid (HFr2.out.below b3)
  have HNt3 := Lib.hid (HNt2.out.below b3)
  have HFt3 := Lib.hid (HFt2.out.below b3)
  have Kr3 := Lib.hid (Blk.below Kr2.out b3)
  have Kt3 := Lib.hid (Blk.below Kt2.out b3)
  have HB3 := Lib.hid (st HB2.out b3 HB2.out.size)
  clear b3 HFW fKt0 fKt1 fKt2 HNr2 HFr2 HNt2 HFt2 Kr2 Kt2 HB2
  cases b with
  | false =>
    clear hb
    go_wp2_with fail
    refine (awake_any w3).mono ?_
    rintro e wq ⟨rfl, bq⟩
    have HBQ := Lib.hid (st HB3.out bq HB3.out.size)
    clear bq
    go_wp2_with fail
    go_ret
    exact ⟨rfl, HBQ.out⟩
  | true =>
  have HLt := Lib.hid (hb rfl)
  clear hb
  have HRT : Hid (r.nx.length * t.nx.length ≤ 144) := Lib.hid (Nat.mul_le_mul HLr.out HLt.out)
  have fKr0 : w3.cell? ⟨g, 0, none⟩ = some (.int .i64 r.st) := Kr3.out.cell 0
  have fKr1 : w3.cell? ⟨g, 1, none⟩ = some (.slice a1 r.nx.length ac1) := Kr3.out.cell 1
  have fKr2 : w3.cell? ⟨g, 2, none⟩ = some (.slice a2 r.ac.length ac2) := Kr3.out.cell 2
  go_wp2_with fail
  refine (to_any r.st a1 r.nx.length ac1 a2 r.ac.length ac2 w3).mono ?_
  rintro e w4 ⟨rfl, b4⟩
  have HNr4 := Lib.hid (HNr3.out.below b4)
  have HFr4 := Lib.hid (HFr3.out.below b4)
  have HNt4 := Lib.hid (HNt3.out.below b4)
  have HFt4 := Lib.hid (HFt3.out.below b4)
  have Kr4 := Lib.hid (Blk.below Kr3.out b4)
  have Kt4 := Lib.hid (Blk.below Kt3.out b4)
  have HB4 := Lib.hid (st HB3.out b4 HB3.out.size)
  clear b4 fKr0 fKr1 fKr2 HNr3 HFr3 HNt3 HFt3 Kr3 Kt3 HB3
  have HP := Lib.hid (complP_any r a1 ac1 a2 ac2 w4 HNr4.out HFr4.out)
  go_wp2_with fail
  refine HP.out.mono ?_
  rintro e w5 hgot
  have b5 := hgot.2
  obtain ⟨x, pex, ⟨x1, xc1, x2, xc2, rfl, hpN, hpF⟩, hgr⟩ := hgot.raws
  have HNx5 := Lib.hid hpN
  have HFx5 := Lib.hid hpF
  have HGRx := Lib.hid hgr
  have HNr5 := Lib.hid (HNr4.out.below b5)
  have HFr5 := Lib.hid (HFr4.out.below b5)
  have HNt5 := Lib.hid (HNt4.out.below b5)
  have HFt5 := Lib.hid (HFt4.out.below b5)
  have Kr5 := Lib.hid (Blk.below Kr4.out b5)
  have Kt5 := Lib.hid (Blk.below Kt4.out b5)
  have HB5 := Lib.hid (st HB4.out b5 HB4.out.size)
  clear b5 hgot hpN hpF hgr HP  HNr4 HFr4 HNt4 HFt4 Kr4 Kt4 HB4
  have b6 := (Below.refl w5.heap.size w5).alloc (Nat.le_refl _) (.cells #[.int .i64 x.st, .slice x1 x.nx.length xc1, .slice x2 x.ac.length xc2] 29)
  have k6 := Blk.new w5 29 #[.int .i64 x.st, .slice x1 x.nx.length xc1, .slice x2 x.ac.length xc2]
  obtain ⟨w6, hw6⟩ : ∃ wx, w5.alloc (.cells #[.int .i64 x.st, .slice x1 x.nx.length xc1, .slice x2 x.ac.length xc2] 29) = wx := ⟨_, rfl⟩
  obtain ⟨n5, hn5⟩ : ∃ B, w5.heap.size = B := ⟨_, rfl⟩
  rw [hw6] at b6 k6
  rw [hn5] at k6
  have HW6 := Lib.hid hw6
  have Hn5 := Lib.hid hn5
  have Kx6 := Lib.hid k6
  have HNr6 := Lib.hid (HNr5.out.below b6)
  have HFr6 := Lib.hid (HFr5.out.below b6)
  have HNt6 := Lib.hid (HNt5.out.below b6)
  have HFt6 := Lib.hid (HFt5.out.below b6)
  have Kr6 := Lib.hid (Blk.below Kr5.out b6)
  have Kt6 := Lib.hid (Blk.below Kt5.out b6)
  have HNx6 := Lib.hid (HNx5.out.below b6)
  have HFx6 := Lib.hid (HFx5.out.below b6)
  have HB6 := Lib.hid (st HB5.out b6 HB5.out.size)
  clear b6 k6 hw6 hn5 HNr5 HFr5 HNt5 HFt5 Kr5 Kt5 HNx5 HFx5 HB5
  go_upto_region 4 with fail
  rw [HW6.out, Hn5.out]
  have fKr0 : w6.cell? ⟨g, 0, none⟩ = some (.int .i64 r.st) := Kr6.out.cell 0
  have fKr1 : w6.cell? ⟨g, 1, none⟩ = some (.slice a1 r.nx.length ac1) := Kr6.out.cell 1
  have fKr2 : w6.cell? ⟨g, 2, none⟩ = some (.slice a2 r.ac.length ac2) := Kr6.out.cell 2
  have HP := Lib.hid (complementR_any minC_holds r a1 ac1 a2 ac2 w6 HNr6.out HFr6.out)
  go_wp2_with fail
  refine HP.out.mono ?_
  rintro e w7 hgot
  have b7 := hgot.2
  obtain ⟨u, peu, ⟨u1, uc1, u2, uc2, rfl, hpN, hpF⟩, hgr⟩ := hgot.raws
  have HNu7 := Lib.hid hpN
  have HFu7 := Lib.hid hpF
  have HGRu := Lib.hid hgr
  have HNr7 := Lib.hid (HNr6.out.below b7)
  have HFr7 := Lib.hid (HFr6.out.below b7)
  have HNt7 := Lib.hid (HNt6.out.below b7)
  have HFt7 := Lib.hid (HFt6.out.below b7)
  have Kr7 := Lib.hid (Blk.below Kr6.out b7)
  have Kt7 := Lib.hid (Blk.below Kt6.out b7)
  have HNx7 := Lib.hid (HNx6.out.below b7)
  have HFx7 := Lib.hid (HFx6.out.below b7)
  have Kx7 := Lib.hid (Blk.below Kx6.out b7)
  have HB7 := Lib.hid (st HB6.out b7 HB6.out.size)
  clear b7 hgot hpN hpF hgr HP fKr0 fKr1 fKr2 HNr6 HFr6 HNt6 HFt6 Kr6 Kt6 HNx6 HFx6 Kx6 HB6
  obtain ⟨EXU, rfl⟩ : Hid (x = u) ∧ peu = pex := ⟨Lib.hid (GotRaw.uniq HGRx.out HGRu.out).1, (GotRaw.uniq HGRx.out HGRu.out).2.symm⟩
  have b8 := (Below.refl w7.heap.size w7).alloc (Nat.le_refl _) (.cells #[.int .i64 u.st, .slice u1 u.nx.length uc1, .slice u2 u.ac.length uc2] 25)
  have k8 := Blk.new w7 25 #[.int .i64 u.st, .slice u1 u.nx.length uc1, .slice u2 u.ac.length uc2]
  obtain ⟨w8, hw8⟩ : ∃ wx, w7.alloc (.cells #[.int .i64 u.st, .slice u1 u.nx.length uc1, .slice u2 u.ac.length uc2] 25) = wx := ⟨_, rfl⟩
  obtain ⟨n7, hn7⟩ : ∃ B, w7.heap.size = B := ⟨_, rfl⟩
  rw [hw8] at b8 k8
  rw [hn7] at k8
  have HW8 := Lib.hid hw8
  have Hn7 := Lib.hid hn7
  have Ku8 := Lib.hid k8
  have HNr8 := Lib.hid (HNr7.out.below b8)
  have HFr8 := Lib.hid (HFr7.out.below b8)
  have HNt8 := Lib.hid (HNt7.out.below b8)
  have HFt8 := Lib.hid (HFt7.out.below b8)
  have Kr8 := Lib.hid (Blk.below Kr7.out b8)
  have Kt8 := Lib.hid (Blk.below Kt7.out b8)
  have HNx8 := Lib.hid (HNx7.out.below b8)
  have HFx8 := Lib.hid (HFx7.out.below b8)
  have Kx8 := Lib.hid (Blk.below Kx7.out b8)
  have HNu8 := Lib.hid (HNu7.out.below b8)
  have HFu8 := Lib.hid (HFu7.out.below b8)
  have HB8 := Lib.hid (st HB7.out b8 HB7.out.size)
  clear b8 k8 hw8 hn7 HNr7 HFr7 HNt7 HFt7 Kr7 Kt7 HNx7 HFx7 Kx7 HNu7 HFu7 HB7
  go_upto_region 5 with fail
  rw [HW8.out, Hn7.out]
  have HSS : Hid (∀ wx, Below w8.heap.size w8 wx → (fun wx : World => wx.cell? ⟨g, 0, none⟩ = some (.int .i64 r.st) ∧ wx.cell? ⟨g, 1, none⟩ = some (.slice a1 r.nx.length ac1) ∧ wx.cell? ⟨g, 2, none⟩ = some (.slice a2 r.ac.length ac2) ∧ wx.cell? ⟨(g + 1), 0, none⟩ = some (.int .i64 t.st) ∧ wx.cell? ⟨(g + 1), 1, none⟩ = some (.slice b1 t.nx.length bc1) ∧ wx.cell? ⟨(g + 1), 2, none⟩ = some (.slice b2 t.ac.length bc2)) wx) := Lib.hid (fun wx hb => ⟨(Blk.below Kr8.out hb).cell 0, (Blk.below Kr8.out hb).cell 1, (Blk.below Kr8.out hb).cell 2, (Blk.below Kt8.out hb).cell 0, (Blk.below Kt8.out hb).cell 1, (Blk.below Kt8.out hb).cell 2⟩)
  go_cut [9, 10] from 41 to 48 (fun vp ve wx => CutQ (prodA (toA r) (toA t) (fun x y => x && y)) (okD r && okD t) (r.nx.length * t.nx.length) w8 vp ve wx)
  case first =>
    refine region_hd 10 (fun wx : World => wx.cell? ⟨g, 0, none⟩ = some (.int .i64 r.st) ∧ wx.cell? ⟨g, 1, none⟩ = some (.slice a1 r.nx.length ac1) ∧ wx.cell? ⟨g, 2, none⟩ = some (.slice a2 r.ac.length ac2) ∧ wx.cell? ⟨(g + 1), 0, none⟩ = some (.int .i64 t.st) ∧ wx.cell? ⟨(g + 1), 1, none⟩ = some (.slice b1 t.nx.length bc1) ∧ wx.cell? ⟨(g + 1), 2, none⟩ = some (.slice b2 t.ac.length bc2)) (by kernel_rfl) (by kernel_rfl) ?_
    have BX := Lib.hid ((Below.refl w8.heap.size w8).drew)
    obtain ⟨X, hX⟩ : ∃ X, w8.drew = X := ⟨_, rfl⟩
    rw [hX] at BX ⊢
    clear hX
    have hSX := HSS.out X BX.out
    refine hd_taken 0 (some 42) _ ?hdv0 rfl rfl (by kernel_rfl) (fun _ _ _ h => h) (Or.inl ⟨by kernel_rfl, ?hdy0⟩) hSX ?hdr0
    case hdy0 => (intro wx hx; (try dsimp only at hx); go_simp; try with_reducible rfl)
    try simp only [Act.put, List.setIfInBounds_toArray, List.set_cons_zero, List.set_cons_succ]
    refine hd_taken 2 (some 44) _ ?hdv2 rfl rfl (by kernel_rfl) (fun _ _ _ h => h) (Or.inl ⟨by kernel_rfl, ?hdy2⟩) hSX ?hdr2
    case hdy2 => (intro wx hx; (try dsimp only at hx); go_simp; try with_reducible rfl)
    try simp only [Act.put, List.setIfInBounds_toArray, List.set_cons_zero, List.set_cons_succ]
    refine hd_list [1, 8] (by kernel_rfl) (by decide) (by decide) (fun i hi => ?_)
    simp only [List.mem_cons, List.not_mem_nil, or_false] at hi
    rcases hi with rfl | rfl
    · refine ⟨_, rfl, fun K1 hK1 => ?_⟩
      go_simp
      refine (to_any r.st a1 r.nx.length ac1 a2 r.ac.length ac2 X).mono ?_
      rintro e X_1 ⟨rfl, bb⟩
      try dsimp only
      have BX_1 := Lib.hid (st BX.out bb BX.out.size)
      have hSX_1 := HSS.out X_1 BX_1.out
      refine hK1.out _ _ hSX_1 ?_
      clear hK1 K1 hSX bb
      try simp only [Act.put, List.setIfInBounds_toArray, List.set_cons_zero, List.set_cons_succ]
      refine hd_list [3, 8] (by kernel_rfl) (by decide) (by decide) (fun i hi => ?_)
      simp only [List.mem_cons, List.not_mem_nil, or_false] at hi
      rcases hi with rfl | rfl
      · refine ⟨_, rfl, fun K3 hK3 => ?_⟩
        go_simp
        refine (to_any t.st b1 t.nx.length bc1 b2 t.ac.length bc2 X_1).mono ?_
        rintro e X_1_3 ⟨rfl, bb⟩
        try dsimp only
        have BX_1_3 := Lib.hid (st BX_1.out bb BX_1.out.size)
        have hSX_1_3 := HSS.out X_1_3 BX_1_3.out
        refine hK3.out _ _ hSX_1_3 ?_
        clear hK3 K3 hSX_1 bb
        try simp only [Act.put, List.setIfInBounds_toArray, List.set_cons_zero, List.set_cons_succ]
        refine hd_list [4, 8] (by kernel_rfl) (by decide) (by decide) (fun i hi => ?_)
        simp only [List.mem_cons, List.not_mem_nil, or_false] at hi
        rcases hi with rfl | rfl
        · refine ⟨_, rfl, fun K4 hK4 => ?_⟩
          go_simp
          refine (andP_any r t (by have := HRT.out; omega) a1 ac1 a2 ac2 b1 bc1 b2 bc2 X_1_3 (HNr8.out.below BX_1_3.out) (HFr8.out.below BX_1_3.out) (HNt8.out.below BX_1_3.out) (HFt8.out.below BX_1_3.out)).mono ?_
          rintro e X_1_3_4 hgot
          have bb := hgot.2
          obtain ⟨z, pez, z1, zc1, z2, zc2, rfl, hgr, hkept⟩ := hgot.kept (by have := HRT.out; omega)
          try dsimp only
          have HGRz := Lib.hid hgr
          have HKEPT := Lib.hid hkept
          have BX_1_3_4 := Lib.hid (st BX_1_3.out bb BX_1_3.out.size)
          clear hgot hgr hkept
          have hSX_1_3_4 := HSS.out X_1_3_4 BX_1_3_4.out
          refine hK4.out _ _ hSX_1_3_4 ?_
          clear hK4 K4 hSX_1_3 bb
          try simp only [Act.put, List.setIfInBounds_toArray, List.set_cons_zero, List.set_cons_succ]
          refine hd_taken 5 (some 41) _ ?hdva5 rfl rfl (by kernel_rfl) (fun _ _ _ h => h) (Or.inl ⟨by kernel_rfl, ?hdya5⟩) hSX_1_3_4 ?hdra5
          case hdya5 => (intro wx hx; (try dsimp only at hx); go_simp; try with_reducible rfl)
          try simp only [Act.put, List.setIfInBounds_toArray, List.set_cons_zero, List.set_cons_succ]
          refine hd_taken 6 (some 47) _ ?hdva6 rfl rfl (by kernel_rfl) (fun _ _ _ h => h) (Or.inl ⟨by kernel_rfl, ?hdya6⟩) hSX_1_3_4 ?hdra6
          case hdya6 => (intro wx hx; (try dsimp only at hx); go_simp; try with_reducible rfl)
          try simp only [Act.put, List.setIfInBounds_toArray, List.set_cons_zero, List.set_cons_succ]
          refine hd_taken 7 (some 48) _ ?hdva7 rfl rfl (by kernel_rfl) (fun _ _ _ h => h) (Or.inl ⟨by kernel_rfl, ?hdya7⟩) hSX_1_3_4 ?hdra7
          case hdya7 => (intro wx hx; (try dsimp only at hx); go_simp; try with_reducible rfl)
          try simp only [Act.put, List.setIfInBounds_toArray, List.set_cons_zero, List.set_cons_succ]
          refine hd_list [8] (by kernel_rfl) (by decide) (by decide) (fun i hi => ?_)
          simp only [List.mem_cons, List.not_mem_nil, or_false] at hi
          subst hi
          refine ⟨_, rfl, fun K8 hK8 => ?_⟩
          go_simp
          have bb := (Below.refl X_1_3_4.heap.size X_1_3_4).alloc (Nat.le_refl _) (.cells #[.int .i64 0, .slice none 0 0, .slice none 0 0] 29)
          have kp := Blk.new X_1_3_4 29 #[.int .i64 0, .slice none 0 0, .slice none 0 0]
          obtain ⟨p, hp⟩ : ∃ p, X_1_3_4.heap.size = p := ⟨_, rfl⟩
          obtain ⟨X_1_3_4_8, hX_1_3_4_8⟩ : ∃ X_1_3_4_8, X_1_3_4.alloc (.cells #[.int .i64 0, .slice none 0 0, .slice none 0 0] 29) = X_1_3_4_8 := ⟨_, rfl⟩
          rw [hX_1_3_4_8] at bb kp
          have BX_1_3_4_8 := Lib.hid (st BX_1_3_4.out bb BX_1_3_4.out.size)
          have HPG : Hid (w8.heap.size ≤ p) := Lib.hid (by rw [← hp]; exact BX_1_3_4.out.size)
          rw [hp] at kp
          have KPX_1_3_4_8 := Lib.hid kp
          have HPA : Hid (Below X_1_3_4.heap.size X_1_3_4 X_1_3_4_8) := Lib.hid bb
          rw [hp] at HPA
          have HPE := Lib.hid hp
          rw [hp, hX_1_3_4_8]
          have hSX_1_3_4_8 := HSS.out X_1_3_4_8 BX_1_3_4_8.out
          refine hK8.out _ _ hSX_1_3_4_8 ?_
          clear hK8 K8 hSX_1_3_4 bb kp hp hX_1_3_4_8
          try simp only [Act.put, List.setIfInBounds_toArray, List.set_cons_zero, List.set_cons_succ]
          have xf := KPX_1_3_4_8.out.frozen
          have y0 : X_1_3_4_8.cell? ⟨p, 0, none⟩ = some (.int .i64 0) := KPX_1_3_4_8.out.cell 0
          have y1 : X_1_3_4_8.cell? ⟨p, 1, none⟩ = some (.slice none 0 0) := KPX_1_3_4_8.out.cell 1
          have y2 : X_1_3_4_8.cell? ⟨p, 2, none⟩ = some (.slice none 0 0) := KPX_1_3_4_8.out.cell 2
          have HFIN : Hid (CutQ (prodA (toA r) (toA t) (fun x y => x && y)) (okD r && okD t) (r.nx.length * t.nx.length) w8 (.pointer (some ⟨p, 0, none⟩)) (.int .i64 pez) (put3 X_1_3_4_8 p (.int .i64 z.st) (.slice z1 z.nx.length zc1) (.slice z2 z.ac.length zc2)) ∧ Below w8.heap.size w8 (put3 X_1_3_4_8 p (.int .i64 z.st) (.slice z1 z.nx.length zc1) (.slice z2 z.ac.length zc2))) := Lib.hid (by
            obtain ⟨p1, p2⟩ := put3_ok (n := p) (a' := .int .i64 z.st) (b' := .slice z1 z.nx.length zc1) (c' := .slice z2 z.ac.length zc2) KPX_1_3_4_8.out (Nat.le_refl p)
            obtain ⟨r1, r2⟩ := HKEPT.out _ _ (Fr.of_below (X := fun _ => False) ((HPA.out.trans p2).mono (Nat.le_of_eq HPE.out))) (fun b e => e.elim)
            have hb := BX_1_3_4_8.out.trans (p2.mono HPG.out)
            exact ⟨⟨p, z, pez, z1, zc1, z2, zc2, rfl, rfl, p1, r1, r2, HGRz.out, hb⟩, hb⟩)
          have hSF := HSS.out (put3 X_1_3_4_8 p (.int .i64 z.st) (.slice z1 z.nx.length zc1) (.slice z2 z.ac.length zc2)) HFIN.out.2
          refine hd_one 9 _ rfl (by kernel_rfl) (by decide) (fun KS hKS => ?_)
          go_simp
          refine hKS.out _ _ hSF ?_
          clear hKS KS hSX_1_3_4_8 xf y0 y1 y2 hSF HSS
          try simp only [Act.put, List.setIfInBounds_toArray, List.set_cons_zero, List.set_cons_succ]
          refine hd_done (by kernel_rfl) ?_
          simp only [List.drop_succ_cons, List.drop_zero]
          go_wp2_with fail
          go_meet
          exact HFIN.out.1
        · refine ⟨_, rfl, fun K8 hK8 => ?_⟩
          go_simp
          have bb := (Below.refl X_1_3.heap.size X_1_3).alloc (Nat.le_refl _) (.cells #[.int .i64 0, .slice none 0 0, .slice none 0 0] 29)
          have kp := Blk.new X_1_3 29 #[.int .i64 0, .slice none 0 0, .slice none 0 0]
          obtain ⟨p, hp⟩ : ∃ p, X_1_3.heap.size = p := ⟨_, rfl⟩
          obtain ⟨X_1_3_8, hX_1_3_8⟩ : ∃ X_1_3_8, X_1_3.alloc (.cells #[.int .i64 0, .slice none 0 0, .slice none 0 0] 29) = X_1_3_8 := ⟨_, rfl⟩
          rw [hX_1_3_8] at bb kp
          have BX_1_3_8 := Lib.hid (st BX_1_3.out bb BX_1_3.out.size)
          have HPG : Hid (w8.heap.size ≤ p) := Lib.hid (by rw [← hp]; exact BX_1_3.out.size)
          rw [hp] at kp
          have KPX_1_3_8 := Lib.hid kp
          rw [hp, hX_1_3_8]
          have hSX_1_3_8 := HSS.out X_1_3_8 BX_1_3_8.out
          refine hK8.out _ _ hSX_1_3_8 ?_
          clear hK8 K8 hSX_1_3 bb kp hp hX_1_3_8
          try simp only [Act.put, List.setIfInBounds_toArray, List.set_cons_zero, List.set_cons_succ]
          refine hd_list [4] (by kernel_rfl) (by decide) (by decide) (fun i hi => ?_)
          simp only [List.mem_cons, List.not_mem_nil, or_false] at hi
          subst hi
          refine ⟨_, rfl, fun K4 hK4 => ?_⟩
          go_simp
          refine (andP_any r t (by have := HRT.out; omega) a1 ac1 a2 ac2 b1 bc1 b2 bc2 X_1_3_8 (HNr8.out.below BX_1_3_8.out) (HFr8.out.below BX_1_3_8.out) (HNt8.out.below BX_1_3_8.out) (HFt8.out.below BX_1_3_8.out)).mono ?_
          rintro e X_1_3_8_4 hgot
          have bb := hgot.2
          obtain ⟨z, pez, z1, zc1, z2, zc2, rfl, hgr, hkept⟩ := hgot.kept (by have := HRT.out; omega)
          try dsimp only
          have HGRz := Lib.hid hgr
          have HKEPT := Lib.hid hkept
          have BX_1_3_8_4 := Lib.hid (st BX_1_3_8.out bb BX_1_3_8.out.size)
          have HPL : Hid (p < X_1_3_8.heap.size) := Lib.hid KPX_1_3_8.out.lt
          have KPX_1_3_8_4 := Lib.hid (Blk.below KPX_1_3_8.out bb)
          clear hgot hgr hkept
          have hSX_1_3_8_4 := HSS.out X_1_3_8_4 BX_1_3_8_4.out
          refine hK4.out _ _ hSX_1_3_8_4 ?_
          clear hK4 K4 hSX_1_3_8 bb
          try simp only [Act.put, List.setIfInBounds_toArray, List.set_cons_zero, List.set_cons_succ]
          refine hd_taken 5 (some 41) _ ?hdvb5 rfl rfl (by kernel_rfl) (fun _ _ _ h => h) (Or.inl ⟨by kernel_rfl, ?hdyb5⟩) hSX_1_3_8_4 ?hdrb5
          case hdyb5 => (intro wx hx; (try dsimp only at hx); go_simp; try with_reducible rfl)
          try simp only [Act.put, List.setIfInBounds_toArray, List.set_cons_zero, List.set_cons_succ]
          refine hd_taken 6 (some 47) _ ?hdvb6 rfl rfl (by kernel_rfl) (fun _ _ _ h => h) (Or.inl ⟨by kernel_rfl, ?hdyb6⟩) hSX_1_3_8_4 ?hdrb6
          case hdyb6 => (intro wx hx; (try dsimp only at hx); go_simp; try with_reducible rfl)
          try simp only [Act.put, List.setIfInBounds_toArray, List.set_cons_zero, List.set_cons_succ]
          refine hd_taken 7 (some 48) _ ?hdvb7 rfl rfl (by kernel_rfl) (fun _ _ _ h => h) (Or.inl ⟨by kernel_rfl, ?hdyb7⟩) hSX_1_3_8_4 ?hdrb7
          case hdyb7 => (intro wx hx; (try dsimp only at hx); go_simp; try with_reducible rfl)
          try simp only [Act.put, List.setIfInBounds_toArray, List.set_cons_zero, List.set_cons_succ]
          have xf := KPX_1_3_8_4.out.frozen
          have y0 : X_1_3_8_4.cell? ⟨p, 0, none⟩ = some (.int .i64 0) := KPX_1_3_8_4.out.cell 0
          have y1 : X_1_3_8_4.cell? ⟨p, 1, none⟩ = some (.slice none 0 0) := KPX_1_3_8_4.out.cell 1
          have y2 : X_1_3_8_4.cell? ⟨p, 2, none⟩ = some (.slice none 0 0) := KPX_1_3_8_4.out.cell 2
          have HFIN : Hid (CutQ (prodA (toA r) (toA t) (fun x y => x && y)) (okD r && okD t) (r.nx.length * t.nx.length) w8 (.pointer (some ⟨p, 0, none⟩)) (.int .i64 pez) (put3 X_1_3_8_4 p (.int .i64 z.st) (.slice z1 z.nx.length zc1) (.slice z2 z.ac.length zc2)) ∧ Below w8.heap.size w8 (put3 X_1_3_8_4 p (.int .i64 z.st) (.slice z1 z.nx.length zc1) (.slice z2 z.ac.length zc2))) := Lib.hid (by
            obtain ⟨p1, p2⟩ := put3_ok (n := w8.heap.size) (a' := .int .i64 z.st) (b' := .slice z1 z.nx.length zc1) (c' := .slice z2 z.ac.length zc2) KPX_1_3_8_4.out HPG.out
            obtain ⟨r1, r2⟩ := HKEPT.out _ _ (Fr.grown (put3_grown X_1_3_8_4 p (.int .i64 z.st) (.slice z1 z.nx.length zc1) (.slice z2 z.ac.length zc2)) (X := fun b => b = p) (fun k e => by injection e with e; exact e.symm)) (fun b e => by have e : b = p := e; rw [e]; exact HPL.out)
            have hb := BX_1_3_8_4.out.trans (p2)
            exact ⟨⟨p, z, pez, z1, zc1, z2, zc2, rfl, rfl, p1, r1, r2, HGRz.out, hb⟩, hb⟩)
          have hSF := HSS.out (put3 X_1_3_8_4 p (.int .i64 z.st) (.slice z1 z.nx.length zc1) (.slice z2 z.ac.length zc2)) HFIN.out.2
          refine hd_one 9 _ rfl (by kernel_rfl) (by decide) (fun KS hKS => ?_)
          go_simp
          refine hKS.out _ _ hSF ?_
          clear hKS KS hSX_1_3_8_4 xf y0 y1 y2 hSF HSS
          try simp only [Act.put, List.setIfInBounds_toArray, List.set_cons_zero, List.set_cons_succ]
          refine hd_done (by kernel_rfl) ?_
          simp only [List.drop_succ_cons, List.drop_zero]
          go_wp2_with fail
          go_meet
          exact HFIN.out.1
      · refine ⟨_, rfl, fun K8 hK8 => ?_⟩
        go_simp
        have bb := (Below.refl X_1.heap.size X_1).alloc (Nat.le_refl _) (.cells #[.int .i64 0, .slice none 0 0, .slice none 0 0] 29)
        have kp := Blk.new X_1 29 #[.int .i64 0, .slice none 0 0, .slice none 0 0]
        obtain ⟨p, hp⟩ : ∃ p, X_1.heap.size = p := ⟨_, rfl⟩
        obtain ⟨X_1_8, hX_1_8⟩ : ∃ X_1_8, X_1.alloc (.cells #[.int .i64 0, .slice none 0 0, .slice none 0 0] 29) = X_1_8 := ⟨_, rfl⟩
        rw [hX_1_8] at bb kp
        have BX_1_8 := Lib.hid (st BX_1.out bb BX_1.out.size)
        have HPG : Hid (w8.heap.size ≤ p) := Lib.hid (by rw [← hp]; exact BX_1.out.size)
        rw [hp] at kp
        have KPX_1_8 := Lib.hid kp
        rw [hp, hX_1_8]
        have hSX_1_8 := HSS.out X_1_8 BX_1_8.out
        refine hK8.out _ _ hSX_1_8 ?_
        clear hK8 K8 hSX_1 bb kp hp hX_1_8
        try simp only [Act.put, List.setIfInBounds_toArray, List.set_cons_zero, List.set_cons_succ]
        refine hd_list [3] (by kernel_rfl) (by decide) (by decide) (fun i hi => ?_)
        simp only [List.mem_cons, List.not_mem_nil, or_false] at hi
        subst hi
        refine ⟨_, rfl, fun K3 hK3 => ?_⟩
        go_simp
        refine (to_any t.st b1 t.nx.length bc1 b2 t.ac.length bc2 X_1_8).mono ?_
        rintro e X_1_8_3 ⟨rfl, bb⟩
        try dsimp only
        have BX_1_8_3 := Lib.hid (st BX_1_8.out bb BX_1_8.out.size)
        have KPX_1_8_3 := Lib.hid (Blk.below KPX_1_8.out bb)
        have hSX_1_8_3 := HSS.out X_1_8_3 BX_1_8_3.out
        refine hK3.out _ _ hSX_1_8_3 ?_
        clear hK3 K3 hSX_1_8 bb
        try simp only [Act.put, List.setIfInBounds_toArray, List.set_cons_zero, List.set_cons_succ]
        refine hd_list [4] (by kernel_rfl) (by decide) (by decide) (fun i hi => ?_)
        simp only [List.mem_cons, List.not_mem_nil, or_false] at hi
        subst hi
        refine ⟨_, rfl, fun K4 hK4 => ?_⟩
        go_simp
        refine (andP_any r t (by have := HRT.out; omega) a1 ac1 a2 ac2 b1 bc1 b2 bc2 X_1_8_3 (HNr8.out.below BX_1_8_3.out) (HFr8.out.below BX_1_8_3.out) (HNt8.out.below BX_1_8_3.out) (HFt8.out.below BX_1_8_3.out)).mono ?_
        rintro e X_1_8_3_4 hgot
        have bb := hgot.2
        obtain ⟨z, pez, z1, zc1, z2, zc2, rfl, hgr, hkept⟩ := hgot.kept (by have := HRT.out; omega)
        try dsimp only
        have HGRz := Lib.hid hgr
        have HKEPT := Lib.hid hkept
        have BX_1_8_3_4 := Lib.hid (st BX_1_8_3.out bb BX_1_8_3.out.size)
        have HPL : Hid (p < X_1_8_3.heap.size) := Lib.hid KPX_1_8_3.out.lt
        have KPX_1_8_3_4 := Lib.hid (Blk.below KPX_1_8_3.out bb)
        clear hgot hgr hkept
        have hSX_1_8_3_4 := HSS.out X_1_8_3_4 BX_1_8_3_4.out
        refine hK4.out _ _ hSX_1_8_3_4 ?_
        clear hK4 K4 hSX_1_8_3 bb
        try simp only [Act.put, List.setIfInBounds_toArray, List.set_cons_zero, List.set_cons_succ]
        refine hd_taken 5 (some 41) _ ?hdvc5 rfl rfl (by kernel_rfl) (fun _ _ _ h => h) (Or.inl ⟨by kernel_rfl, ?hdyc5⟩) hSX_1_8_3_4 ?hdrc5
        case hdyc5 => (intro wx hx; (try dsimp only at hx); go_simp; try with_reducible rfl)
        try simp only [Act.put, List.setIfInBounds_toArray, List.set_cons_zero, List.set_cons_succ]
        refine hd_taken 6 (some 47) _ ?hdvc6 rfl rfl (by kernel_rfl) (fun _ _ _ h => h) (Or.inl ⟨by kernel_rfl, ?hdyc6⟩) hSX_1_8_3_4 ?hdrc6
        case hdyc6 => (intro wx hx; (try dsimp only at hx); go_simp; try with_reducible rfl)
        try simp only [Act.put, List.setIfInBounds_toArray, List.set_cons_zero, List.set_cons_succ]
        refine hd_taken 7 (some 48) _ ?hdvc7 rfl rfl (by kernel_rfl) (fun _ _ _ h => h) (Or.inl ⟨by kernel_rfl, ?hdyc7⟩) hSX_1_8_3_4 ?hdrc7
        case hdyc7 => (intro wx hx; (try dsimp only at hx); go_simp; try with_reducible rfl)
        try simp only [Act.put, List.setIfInBounds_toArray, List.set_cons_zero, List.set_cons_succ]
        have xf := KPX_1_8_3_4.out.frozen
        have y0 : X_1_8_3_4.cell? ⟨p, 0, none⟩ = some (.int .i64 0) := KPX_1_8_3_4.out.cell 0
        have y1 : X_1_8_3_4.cell? ⟨p, 1, none⟩ = some (.slice none 0 0) := KPX_1_8_3_4.out.cell 1
        have y2 : X_1_8_3_4.cell? ⟨p, 2, none⟩ = some (.slice none 0 0) := KPX_1_8_3_4.out.cell 2
        have HFIN : Hid (CutQ (prodA (toA r) (toA t) (fun x y => x && y)) (okD r && okD t) (r.nx.length * t.nx.length) w8 (.pointer (some ⟨p, 0, none⟩)) (.int .i64 pez) (put3 X_1_8_3_4 p (.int .i64 z.st) (.slice z1 z.nx.length zc1) (.slice z2 z.ac.length zc2)) ∧ Below w8.heap.size w8 (put3 X_1_8_3_4 p (.int .i64 z.st) (.slice z1 z.nx.length zc1) (.slice z2 z.ac.length zc2))) := Lib.hid (by
          obtain ⟨p1, p2⟩ := put3_ok (n := w8.heap.size) (a' := .int .i64 z.st) (b' := .slice z1 z.nx.length zc1) (c' := .slice z2 z.ac.length zc2) KPX_1_8_3_4.out HPG.out
          obtain ⟨r1, r2⟩ := HKEPT.out _ _ (Fr.grown (put3_grown X_1_8_3_4 p (.int .i64 z.st) (.slice z1 z.nx.length zc1) (.slice z2 z.ac.length zc2)) (X := fun b => b = p) (fun k e => by injection e with e; exact e.symm)) (fun b e => by have e : b = p := e; rw [e]; exact HPL.out)
          have hb := BX_1_8_3_4.out.trans (p2)
          exact ⟨⟨p, z, pez, z1, zc1, z2, zc2, rfl, rfl, p1, r1, r2, HGRz.out, hb⟩, hb⟩)
        have hSF := HSS.out (put3 X_1_8_3_4 p (.int .i64 z.st) (.slice z1 z.nx.length zc1) (.slice z2 z.ac.length zc2)) HFIN.out.2
        refine hd_one 9 _ rfl (by kernel_rfl) (by decide) (fun KS hKS => ?_)
        go_simp
        refine hKS.out _ _ hSF ?_
        clear hKS KS hSX_1_8_3_4 xf y0 y1 y2 hSF HSS
        try simp only [Act.put, List.setIfInBounds_toArray, List.set_cons_zero, List.set_cons_succ]
        refine hd_done (by kernel_rfl) ?_
        simp only [List.drop_succ_cons, List.drop_zero]
        go_wp2_with fail
        go_meet
        exact HFIN.out.1
    · refine ⟨_, rfl, fun K8 hK8 => ?_⟩
      go_simp
      have bb := (Below.refl X.heap.size X).alloc (Nat.le_refl _) (.cells #[.int .i64 0, .slice none 0 0, .slice none 0 0] 29)
      have kp := Blk.new X 29 #[.int .i64 0, .slice none 0 0, .slice none 0 0]
      obtain ⟨p, hp⟩ : ∃ p, X.heap.size = p := ⟨_, rfl⟩
      obtain ⟨X_8, hX_8⟩ : ∃ X_8, X.alloc (.cells #[.int .i64 0, .slice none 0 0, .slice none 0 0] 29) = X_8 := ⟨_, rfl⟩
      rw [hX_8] at bb kp
      have BX_8 := Lib.hid (st BX.out bb BX.out.size)
      have HPG : Hid (w8.heap.size ≤ p) := Lib.hid (by rw [← hp]; exact BX.out.size)
      rw [hp] at kp
      have KPX_8 := Lib.hid kp
      rw [hp, hX_8]
      have hSX_8 := HSS.out X_8 BX_8.out
      refine hK8.out _ _ hSX_8 ?_
      clear hK8 K8 hSX bb kp hp hX_8
      try simp only [Act.put, List.setIfInBounds_toArray, List.set_cons_zero, List.set_cons_succ]
      refine hd_list [1] (by kernel_rfl) (by decide) (by decide) (fun i hi => ?_)
      simp only [List.mem_cons, List.not_mem_nil, or_false] at hi
      subst hi
      refine ⟨_, rfl, fun K1 hK1 => ?_⟩
      go_simp
      refine (to_any r.st a1 r.nx.length ac1 a2 r.ac.length ac2 X_8).mono ?_
      rintro e X_8_1 ⟨rfl, bb⟩
      try dsimp only
      have BX_8_1 := Lib.hid (st BX_8.out bb BX_8.out.size)
      have KPX_8_1 := Lib.hid (Blk.below KPX_8.out bb)
      have hSX_8_1 := HSS.out X_8_1 BX_8_1.out
      refine hK1.out _ _ hSX_8_1 ?_
      clear hK1 K1 hSX_8 bb
      try simp only [Act.put, List.setIfInBounds_toArray, List.set_cons_zero, List.set_cons_succ]
      refine hd_list [3] (by kernel_rfl) (by decide) (by decide) (fun i hi => ?_)
      simp only [List.mem_cons, List.not_mem_nil, or_false] at hi
      subst hi
      refine ⟨_, rfl, fun K3 hK3 => ?_⟩
      go_simp
      refine (to_any t.st b1 t.nx.length bc1 b2 t.ac.length bc2 X_8_1).mono ?_
      rintro e X_8_1_3 ⟨rfl, bb⟩
      try dsimp only
      have BX_8_1_3 := Lib.hid (st BX_8_1.out bb BX_8_1.out.size)
      have KPX_8_1_3 := Lib.hid (Blk.below KPX_8_1.out bb)
      have hSX_8_1_3 := HSS.out X_8_1_3 BX_8_1_3.out
      refine hK3.out _ _ hSX_8_1_3 ?_
      clear hK3 K3 hSX_8_1 bb
      try simp only [Act.put, List.setIfInBounds_toArray, List.set_cons_zero, List.set_cons_succ]
      refine hd_list [4] (by kernel_rfl) (by decide) (by decide) (fun i hi => ?_)
      simp only [List.mem_cons, List.not_mem_nil, or_false] at hi
      subst hi
      refine ⟨_, rfl, fun K4 hK4 => ?_⟩
      go_simp
      refine (andP_any r t (by have := HRT.out; omega) a1 ac1 a2 ac2 b1 bc1 b2 bc2 X_8_1_3 (HNr8.out.below BX_8_1_3.out) (HFr8.out.below BX_8_1_3.out) (HNt8.out.below BX_8_1_3.out) (HFt8.out.below BX_8_1_3.out)).mono ?_
      rintro e X_8_1_3_4 hgot
      have bb := hgot.2
      obtain ⟨z, pez, z1, zc1, z2, zc2, rfl, hgr, hkept⟩ := hgot.kept (by have := HRT.out; omega)
      try dsimp only
      have HGRz := Lib.hid hgr
      have HKEPT := Lib.hid hkept
      have BX_8_1_3_4 := Lib.hid (st BX_8_1_3.out bb BX_8_1_3.out.size)
      have HPL : Hid (p < X_8_1_3.heap.size) := Lib.hid KPX_8_1_3.out.lt
      have KPX_8_1_3_4 := Lib.hid (Blk.below KPX_8_1_3.out bb)
      clear hgot hgr hkept
      have hSX_8_1_3_4 := HSS.out X_8_1_3_4 BX_8_1_3_4.out
      refine hK4.out _ _ hSX_8_1_3_4 ?_
      clear hK4 K4 hSX_8_1_3 bb
      try simp only [Act.put, List.setIfInBounds_toArray, List.set_cons_zero, List.set_cons_succ]
      refine hd_taken 5 (some 41) _ ?hdvd5 rfl rfl (by kernel_rfl) (fun _ _ _ h => h) (Or.inl ⟨by kernel_rfl, ?hdyd5⟩) hSX_8_1_3_4 ?hdrd5
      case hdyd5 => (intro wx hx; (try dsimp only at hx); go_simp; try with_reducible rfl)
      try simp only [Act.put, List.setIfInBounds_toArray, List.set_cons_zero, List.set_cons_succ]
      refine hd_taken 6 (some 47) _ ?hdvd6 rfl rfl (by kernel_rfl) (fun _ _ _ h => h) (Or.inl ⟨by kernel_rfl, ?hdyd6⟩) hSX_8_1_3_4 ?hdrd6
      case hdyd6 => (intro wx hx; (try dsimp only at hx); go_simp; try with_reducible rfl)
      try simp only [Act.put, List.setIfInBounds_toArray, List.set_cons_zero, List.set_cons_succ]
      refine hd_taken 7 (some 48) _ ?hdvd7 rfl rfl (by kernel_rfl) (fun _ _ _ h => h) (Or.inl ⟨by kernel_rfl, ?hdyd7⟩) hSX_8_1_3_4 ?hdrd7
      case hdyd7 => (intro wx hx; (try dsimp only at hx); go_simp; try with_reducible rfl)
      try simp only [Act.put, List.setIfInBounds_toArray, List.set_cons_zero, List.set_cons_succ]
      have xf := KPX_8_1_3_4.out.frozen
      have y0 : X_8_1_3_4.cell? ⟨p, 0, none⟩ = some (.int .i64 0) := KPX_8_1_3_4.out.cell 0
      have y1 : X_8_1_3_4.cell? ⟨p, 1, none⟩ = some (.slice none 0 0) := KPX_8_1_3_4.out.cell 1
      have y2 : X_8_1_3_4.cell? ⟨p, 2, none⟩ = some (.slice none 0 0) := KPX_8_1_3_4.out.cell 2
      have HFIN : Hid (CutQ (prodA (toA r) (toA t) (fun x y => x && y)) (okD r && okD t) (r.nx.length * t.nx.length) w8 (.pointer (some ⟨p, 0, none⟩)) (.int .i64 pez) (put3 X_8_1_3_4 p (.int .i64 z.st) (.slice z1 z.nx.length zc1) (.slice z2 z.ac.length zc2)) ∧ Below w8.heap.size w8 (put3 X_8_1_3_4 p (.int .i64 z.st) (.slice z1 z.nx.length zc1) (.slice z2 z.ac.length zc2))) := Lib.hid (by
        obtain ⟨p1, p2⟩ := put3_ok (n := w8.heap.size) (a' := .int .i64 z.st) (b' := .slice z1 z.nx.length zc1) (c' := .slice z2 z.ac.length zc2) KPX_8_1_3_4.out HPG.out
        obtain ⟨r1, r2⟩ := HKEPT.out _ _ (Fr.grown (put3_grown X_8_1_3_4 p (.int .i64 z.st) (.slice z1 z.nx.length zc1) (.slice z2 z.ac.length zc2)) (X := fun b => b = p) (fun k e => by injection e with e; exact e.symm)) (fun b e => by have e : b = p := e; rw [e]; exact HPL.out)
        have hb := BX_8_1_3_4.out.trans (p2)
        exact ⟨⟨p, z, pez, z1, zc1, z2, zc2, rfl, rfl, p1, r1, r2, HGRz.out, hb⟩, hb⟩)
      have hSF := HSS.out (put3 X_8_1_3_4 p (.int .i64 z.st) (.slice z1 z.nx.length zc1) (.slice z2 z.ac.length zc2)) HFIN.out.2
      refine hd_one 9 _ rfl (by kernel_rfl) (by decide) (fun KS hKS => ?_)
      go_simp
      refine hKS.out _ _ hSF ?_
      clear hKS KS hSX_8_1_3_4 xf y0 y1 y2 hSF HSS
      try simp only [Act.put, List.setIfInBounds_toArray, List.set_cons_zero, List.set_cons_succ]
      refine hd_done (by kernel_rfl) ?_
      simp only [List.drop_succ_cons, List.drop_zero]
      go_wp2_with fail
      go_meet
      exact HFIN.out.1
  case rest =>
  rename World => w9
  obtain ⟨n9, z, pez, z1, zc1, z2, zc2, rfl, rfl, hk, hpN, hpF, hgr, b9⟩ := hcut
  have HNz9 := Lib.hid hpN
  have HFz9 := Lib.hid hpF
  have Kz9 := Lib.hid hk
  have HGRz := Lib.hid hgr
  have HNr9 := Lib.hid (HNr8.out.below b9)
  have HFr9 := Lib.hid (HFr8.out.below b9)
  have HNt9 := Lib.hid (HNt8.out.below b9)
  have HFt9 := Lib.hid (HFt8.out.below b9)
  have Kr9 := Lib.hid (Blk.below Kr8.out b9)
  have Kt9 := Lib.hid (Blk.below Kt8.out b9)
  have HNx9 := Lib.hid (HNx8.out.below b9)
  have HFx9 := Lib.hid (HFx8.out.below b9)
  have Kx9 := Lib.hid (Blk.below Kx8.out b9)
  have HNu9 := Lib.hid (HNu8.out.below b9)
  have HFu9 := Lib.hid (HFu8.out.below b9)
  have Ku9 := Lib.hid (Blk.below Ku8.out b9)
  have HB9 := Lib.hid (st HB8.out b9 HB8.out.size)
  clear b9 hk hpN hpF hgr HSS HNr8 HFr8 HNt8 HFt8 Kr8 Kt8 HNx8 HFx8 Kx8 HNu8 HFu8 Ku8 HB8
  have fKr0 : w9.cell? ⟨g, 0, none⟩ = some (.int .i64 r.st) := Kr9.out.cell 0
  have fKr1 : w9.cell? ⟨g, 1, none⟩ = some (.slice a1 r.nx.length ac1) := Kr9.out.cell 1
  have fKr2 : w9.cell? ⟨g, 2, none⟩ = some (.slice a2 r.ac.length ac2) := Kr9.out.cell 2
  have fKt0 : w9.cell? ⟨(g + 1), 0, none⟩ = some (.int .i64 t.st) := Kt9.out.cell 0
  have fKt1 : w9.cell? ⟨(g + 1), 1, none⟩ = some (.slice b1 t.nx.length bc1) := Kt9.out.cell 1
  have fKt2 : w9.cell? ⟨(g + 1), 2, none⟩ = some (.slice b2 t.ac.length bc2) := Kt9.out.cell 2
  have HP := Lib.hid (andR_any r t (by have := HRT.out; omega) a1 ac1 a2 ac2 b1 bc1 b2 bc2 w9 HNr9.out HFr9.out HNt9.out HFt9.out)
  go_wp2_with fail
  refine HP.out.mono ?_
  rintro e w10 hgot
  have b10 := hgot.2
  obtain ⟨m, pem, ⟨m1, mc1, m2, mc2, rfl, hpN, hpF⟩, hgr⟩ := hgot.raws
  have HNm10 := Lib.hid hpN
  have HFm10 := Lib.hid hpF
  have HGRm := Lib.hid hgr
  have HNr10 := Lib.hid (HNr9.out.below b10)
  have HFr10 := Lib.hid (HFr9.out.below b10)
  have HNt10 := Lib.hid (HNt9.out.below b10)
  have HFt10 := Lib.hid (HFt9.out.below b10)
  have Kr10 := Lib.hid (Blk.below Kr9.out b10)
  have Kt10 := Lib.hid (Blk.below Kt9.out b10)
  have HNx10 := Lib.hid (HNx9.out.below b10)
  have HFx10 := Lib.hid (HFx9.out.below b10)
  have Kx10 := Lib.hid (Blk.below Kx9.out b10)
  have HNu10 := Lib.hid (HNu9.out.below b10)
  have HFu10 := Lib.hid (HFu9.out.below b10)
  have Ku10 := Lib.hid (Blk.below Ku9.out b10)
  have HNz10 := Lib.hid (HNz9.out.below b10)
  have HFz10 := Lib.hid (HFz9.out.below b10)
  have Kz10 := Lib.hid (Blk.below Kz9.out b10)
  have HB10 := Lib.hid (st HB9.out b10 HB9.out.size)
  clear b10 hgot hpN hpF hgr HP fKr0 fKr1 fKr2 fKt0 fKt1 fKt2 HNr9 HFr9 HNt9 HFt9 Kr9 Kt9 HNx9 HFx9 Kx9 HNu9 HFu9 Ku9 HNz9 HFz9 Kz9 HB9
  obtain ⟨EZM, rfl⟩ : Hid (z = m) ∧ pem = pez := ⟨Lib.hid (GotRaw.uniq HGRz.out HGRm.out).1, (GotRaw.uniq HGRz.out HGRm.out).2.symm⟩
  have b11 := (Below.refl w10.heap.size w10).alloc (Nat.le_refl _) (.cells #[.int .i64 m.st, .slice m1 m.nx.length mc1, .slice m2 m.ac.length mc2] 25)
  have k11 := Blk.new w10 25 #[.int .i64 m.st, .slice m1 m.nx.length mc1, .slice m2 m.ac.length mc2]
  obtain ⟨w11, hw11⟩ : ∃ wx, w10.alloc (.cells #[.int .i64 m.st, .slice m1 m.nx.length mc1, .slice m2 m.ac.length mc2] 25) = wx := ⟨_, rfl⟩
  obtain ⟨n11, hn11⟩ : ∃ B, w10.heap.size = B := ⟨_, rfl⟩
  rw [hw11] at b11 k11
  rw [hn11] at k11
  have HW11 := Lib.hid hw11
  have Hn11 := Lib.hid hn11
  have Km11 := Lib.hid k11
  have HNr11 := Lib.hid (HNr10.out.below b11)
  have HFr11 := Lib.hid (HFr10.out.below b11)
  have HNt11 := Lib.hid (HNt10.out.below b11)
  have HFt11 := Lib.hid (HFt10.out.below b11)
  have Kr11 := Lib.hid (Blk.below Kr10.out b11)
  have Kt11 := Lib.hid (Blk.below Kt10.out b11)
  have HNx11 := Lib.hid (HNx10.out.below b11)
  have HFx11 := Lib.hid (HFx10.out.below b11)
  have Kx11 := Lib.hid (Blk.below Kx10.out b11)
  have HNu11 := Lib.hid (HNu10.out.below b11)
  have HFu11 := Lib.hid (HFu10.out.below b11)
  have Ku11 := Lib.hid (Blk.below Ku10.out b11)
  have HNz11 := Lib.hid (HNz10.out.below b11)
  have HFz11 := Lib.hid (HFz10.out.below b11)
  have Kz11 := Lib.hid (Blk.below Kz10.out b11)
  have HNm11 := Lib.hid (HNm10.out.below b11)
  have HFm11 := Lib.hid (HFm10.out.below b11)
  have HB11 := Lib.hid (st HB10.out b11 HB10.out.size)
  clear b11 k11 hw11 hn11 HNr10 HFr10 HNt10 HFt10 Kr10 Kt10 HNx10 HFx10 Kx10 HNu10 HFu10 Ku10 HNz10 HFz10 Kz10 HNm10 HFm10 HB10
  go_upto_region 7 with fail
  rw [HW11.out, Hn11.out]
  have HSS : Hid (∀ wx, Below w11.heap.size w11 wx → (fun wx : World => wx.cell? ⟨g, 0, none⟩ = some (.int .i64 r.st) ∧ wx.cell? ⟨g, 1, none⟩ = some (.slice a1 r.nx.length ac1) ∧ wx.cell? ⟨g, 2, none⟩ = some (.slice a2 r.ac.length ac2) ∧ wx.cell? ⟨(g + 1), 0, none⟩ = some (.int .i64 t.st) ∧ wx.cell? ⟨(g + 1), 1, none⟩ = some (.slice b1 t.nx.length bc1) ∧ wx.cell? ⟨(g + 1), 2, none⟩ = some (.slice b2 t.ac.length bc2)) wx) := Lib.hid (fun wx hb => ⟨(Blk.below Kr11.out hb).cell 0, (Blk.below Kr11.out hb).cell 1, (Blk.below Kr11.out hb).cell 2, (Blk.below Kt11.out hb).cell 0, (Blk.below Kt11.out hb).cell 1, (Blk.below Kt11.out hb).cell 2⟩)
  go_cut [13, 14] from 55 to 62 (fun vp ve wx => CutQ (prodA (toA r) (toA t) (fun x y => x || y)) (okD r && okD t) (r.nx.length * t.nx.length) w11 vp ve wx)
  case first =>
    refine region_hd 10 (fun wx : World => wx.cell? ⟨g, 0, none⟩ = some (.int .i64 r.st) ∧ wx.cell? ⟨g, 1, none⟩ = some (.slice a1 r.nx.length ac1) ∧ wx.cell? ⟨g, 2, none⟩ = some (.slice a2 r.ac.length ac2) ∧ wx.cell? ⟨(g + 1), 0, none⟩ = some (.int .i64 t.st) ∧ wx.cell? ⟨(g + 1), 1, none⟩ = some (.slice b1 t.nx.length bc1) ∧ wx.cell? ⟨(g + 1), 2, none⟩ = some (.slice b2 t.ac.length bc2)) (by kernel_rfl) (by kernel_rfl) ?_
    have BX := Lib.hid ((Below.refl w11.heap.size w11).drew)
    obtain ⟨X, hX⟩ : ∃ X, w11.drew = X := ⟨_, rfl⟩
    rw [hX] at BX ⊢
    clear hX
    have hSX := HSS.out X BX.out
    refine hd_taken 0 (some 56) _ ?hdve0 rfl rfl (by kernel_rfl) (fun _ _ _ h => h) (Or.inl ⟨by kernel_rfl, ?hdye0⟩) hSX ?hdre0
    case hdye0 => (intro wx hx; (try dsimp only at hx); go_simp; try with_reducible rfl)
    try simp only [Act.put, List.setIfInBounds_toArray, List.set_cons_zero, List.set_cons_succ]
    refine hd_taken 2 (some 58) _ ?hdve2 rfl rfl (by kernel_rfl) (fun _ _ _ h => h) (Or.inl ⟨by kernel_rfl, ?hdye2⟩) hSX ?hdre2
    case hdye2 => (intro wx hx; (try dsimp only at hx); go_simp; try with_reducible rfl)
    try simp only [Act.put, List.setIfInBounds_toArray, List.set_cons_zero, List.set_cons_succ]
    refine hd_list [1, 8] (by kernel_rfl) (by decide) (by decide) (fun i hi => ?_)
    simp only [List.mem_cons, List.not_mem_nil, or_false] at hi
    rcases hi with rfl | rfl
    · refine ⟨_, rfl, fun K1 hK1 => ?_⟩
      go_simp
      refine (to_any r.st a1 r.nx.length ac1 a2 r.ac.length ac2 X).mono ?_
      rintro e X_1 ⟨rfl, bb⟩
      try dsimp only
      have BX_1 := Lib.hid (st BX.out bb BX.out.size)
      have hSX_1 := HSS.out X_1 BX_1.out
      refine hK1.out _ _ hSX_1 ?_
      clear hK1 K1 hSX bb
      try simp only [Act.put, List.setIfInBounds_toArray, List.set_cons_zero, List.set_cons_succ]
      refine hd_list [3, 8] (by kernel_rfl) (by decide) (by decide) (fun i hi => ?_)
      simp only [List.mem_cons, List.not_mem_nil, or_false] at hi
      rcases hi with rfl | rfl
      · refine ⟨_, rfl, fun K3 hK3 => ?_⟩
        go_simp
        refine (to_any t.st b1 t.nx.length bc1 b2 t.ac.length bc2 X_1).mono ?_
        rintro e X_1_3 ⟨rfl, bb⟩
        try dsimp only
        have BX_1_3 := Lib.hid (st BX_1.out bb BX_1.out.size)
        have hSX_1_3 := HSS.out X_1_3 BX_1_3.out
        refine hK3.out _ _ hSX_1_3 ?_
        clear hK3 K3 hSX_1 bb
        try simp only [Act.put, List.setIfInBounds_toArray, List.set_cons_zero, List.set_cons_succ]
        refine hd_list [4, 8] (by kernel_rfl) (by decide) (by decide) (fun i hi => ?_)
        simp only [List.mem_cons, List.not_mem_nil, or_false] at hi
        rcases hi with rfl | rfl
        · refine ⟨_, rfl, fun K4 hK4 => ?_⟩
          go_simp
          refine (orP_any r t (by have := HRT.out; omega) a1 ac1 a2 ac2 b1 bc1 b2 bc2 X_1_3 (HNr11.out.below BX_1_3.out) (HFr11.out.below BX_1_3.out) (HNt11.out.below BX_1_3.out) (HFt11.out.below BX_1_3.out)).mono ?_
          rintro e X_1_3_4 hgot
          have bb := hgot.2
          obtain ⟨o, peo, o1, oc1, o2, oc2, rfl, hgr, hkept⟩ := hgot.kept (by have := HRT.out; omega)
          try dsimp only
          have HGRo := Lib.hid hgr
          have HKEPT := Lib.hid hkept
          have BX_1_3_4 := Lib.hid (st BX_1_3.out bb BX_1_3.out.size)
          clear hgot hgr hkept
          have hSX_1_3_4 := HSS.out X_1_3_4 BX_1_3_4.out
          refine hK4.out _ _ hSX_1_3_4 ?_
          clear hK4 K4 hSX_1_3 bb
          try simp only [Act.put, List.setIfInBounds_toArray, List.set_cons_zero, List.set_cons_succ]
          refine hd_taken 5 (some 55) _ ?hdvf5 rfl rfl (by kernel_rfl) (fun _ _ _ h => h) (Or.inl ⟨by kernel_rfl, ?hdyf5⟩) hSX_1_3_4 ?hdrf5
          case hdyf5 => (intro wx hx; (try dsimp only at hx); go_simp; try with_reducible rfl)
          try simp only [Act.put, List.setIfInBounds_toArray, List.set_cons_zero, List.set_cons_succ]
          refine hd_taken 6 (some 61) _ ?hdvf6 rfl rfl (by kernel_rfl) (fun _ _ _ h => h) (Or.inl ⟨by kernel_rfl, ?hdyf6⟩) hSX_1_3_4 ?hdrf6
          case hdyf6 => (intro wx hx; (try dsimp only at hx); go_simp; try with_reducible rfl)
          try simp only [Act.put, List.setIfInBounds_toArray, List.set_cons_zero, List.set_cons_succ]
          refine hd_taken 7 (some 62) _ ?hdvf7 rfl rfl (by kernel_rfl) (fun _ _ _ h => h) (Or.inl ⟨by kernel_rfl, ?hdyf7⟩) hSX_1_3_4 ?hdrf7
          case hdyf7 => (intro wx hx; (try dsimp only at hx); go_simp; try with_reducible rfl)
          try simp only [Act.put, List.setIfInBounds_toArray, List.set_cons_zero, List.set_cons_succ]
          refine hd_list [8] (by kernel_rfl) (by decide) (by decide) (fun i hi => ?_)
          simp only [List.mem_cons, List.not_mem_nil, or_false] at hi
          subst hi
          refine ⟨_, rfl, fun K8 hK8 => ?_⟩
          go_simp
          have bb := (Below.refl X_1_3_4.heap.size X_1_3_4).alloc (Nat.le_refl _) (.cells #[.int .i64 0, .slice none 0 0, .slice none 0 0] 29)
          have kp := Blk.new X_1_3_4 29 #[.int .i64 0, .slice none 0 0, .slice none 0 0]
          obtain ⟨p, hp⟩ : ∃ p, X_1_3_4.heap.size = p := ⟨_, rfl⟩
          obtain ⟨X_1_3_4_8, hX_1_3_4_8⟩ : ∃ X_1_3_4_8, X_1_3_4.alloc (.cells #[.int .i64 0, .slice none 0 0, .slice none 0 0] 29) = X_1_3_4_8 := ⟨_, rfl⟩
          rw [hX_1_3_4_8] at bb kp
          have BX_1_3_4_8 := Lib.hid (st BX_1_3_4.out bb BX_1_3_4.out.size)
          have HPG : Hid (w11.heap.size ≤ p) := Lib.hid (by rw [← hp]; exact BX_1_3_4.out.size)
          rw [hp] at kp
          have KPX_1_3_4_8 := Lib.hid kp
          have HPA : Hid (Below X_1_3_4.heap.size X_1_3_4 X_1_3_4_8) := Lib.hid bb
          rw [hp] at HPA
          have HPE := Lib.hid hp
          rw [hp, hX_1_3_4_8]
          have hSX_1_3_4_8 := HSS.out X_1_3_4_8 BX_1_3_4_8.out
          refine hK8.out _ _ hSX_1_3_4_8 ?_
          clear hK8 K8 hSX_1_3_4 bb kp hp hX_1_3_4_8
          try simp only [Act.put, List.setIfInBounds_toArray, List.set_cons_zero, List.set_cons_succ]
          have xf := KPX_1_3_4_8.out.frozen
          have y0 : X_1_3_4_8.cell? ⟨p, 0, none⟩ = some (.int .i64 0) := KPX_1_3_4_8.out.cell 0
          have y1 : X_1_3_4_8.cell? ⟨p, 1, none⟩ = some (.slice none 0 0) := KPX_1_3_4_8.out.cell 1
          have y2 : X_1_3_4_8.cell? ⟨p, 2, none⟩ = some (.slice none 0 0) := KPX_1_3_4_8.out.cell 2
          have HFIN : Hid (CutQ (prodA (toA r) (toA t) (fun x y => x || y)) (okD r && okD t) (r.nx.length * t.nx.length) w11 (.pointer (some ⟨p, 0, none⟩)) (.int .i64 peo) (put3 X_1_3_4_8 p (.int .i64 o.st) (.slice o1 o.nx.length oc1) (.slice o2 o.ac.length oc2)) ∧ Below w11.heap.size w11 (put3 X_1_3_4_8 p (.int .i64 o.st) (.slice o1 o.nx.length oc1) (.slice o2 o.ac.length oc2))) := Lib.hid (by
            obtain ⟨p1, p2⟩ := put3_ok (n := p) (a' := .int .i64 o.st) (b' := .slice o1 o.nx.length oc1) (c' := .slice o2 o.ac.length oc2) KPX_1_3_4_8.out (Nat.le_refl p)
            obtain ⟨r1, r2⟩ := HKEPT.out _ _ (Fr.of_below (X := fun _ => False) ((HPA.out.trans p2).mono (Nat.le_of_eq HPE.out))) (fun b e => e.elim)
            have hb := BX_1_3_4_8.out.trans (p2.mono HPG.out)
            exact ⟨⟨p, o, peo, o1, oc1, o2, oc2, rfl, rfl, p1, r1, r2, HGRo.out, hb⟩, hb⟩)
          have hSF := HSS.out (put3 X_1_3_4_8 p (.int .i64 o.st) (.slice o1 o.nx.length oc1) (.slice o2 o.ac.length oc2)) HFIN.out.2
          refine hd_one 9 _ rfl (by kernel_rfl) (by decide) (fun KS hKS => ?_)
          go_simp
          refine hKS.out _ _ hSF ?_
          clear hKS KS hSX_1_3_4_8 xf y0 y1 y2 hSF HSS
          try simp only [Act.put, List.setIfInBounds_toArray, List.set_cons_zero, List.set_cons_succ]
          refine hd_done (by kernel_rfl) ?_
          simp only [List.drop_succ_cons, List.drop_zero]
          go_wp2_with fail
          go_meet
          exact HFIN.out.1
        · refine ⟨_, rfl, fun K8 hK8 => ?_⟩
          go_simp
          have bb := (Below.refl X_1_3.heap.size X_1_3).alloc (Nat.le_refl _) (.cells #[.int .i64 0, .slice none 0 0, .slice none 0 0] 29)
          have kp := Blk.new X_1_3 29 #[.int .i64 0, .slice none 0 0, .slice none 0 0]
          obtain ⟨p, hp⟩ : ∃ p, X_1_3.heap.size = p := ⟨_, rfl⟩
          obtain ⟨X_1_3_8, hX_1_3_8⟩ : ∃ X_1_3_8, X_1_3.alloc (.cells #[.int .i64 0, .slice none 0 0, .slice none 0 0] 29) = X_1_3_8 := ⟨_, rfl⟩
          rw [hX_1_3_8] at bb kp
          have BX_1_3_8 := Lib.hid (st BX_1_3.out bb BX_1_3.out.size)
          have HPG : Hid (w11.heap.size ≤ p) := Lib.hid (by rw [← hp]; exact BX_1_3.out.size)
          rw [hp] at kp
          have KPX_1_3_8 := Lib.hid kp
          rw [hp, hX_1_3_8]
          have hSX_1_3_8 := HSS.out X_1_3_8 BX_1_3_8.out
          refine hK8.out _ _ hSX_1_3_8 ?_
          clear hK8 K8 hSX_1_3 bb kp hp hX_1_3_8
          try simp only [Act.put, List.setIfInBounds_toArray, List.set_cons_zero, List.set_cons_succ]
          refine hd_list [4] (by kernel_rfl) (by decide) (by decide) (fun i hi => ?_)
          simp only [List.mem_cons, List.not_mem_nil, or_false] at hi
          subst hi
          refine ⟨_, rfl, fun K4 hK4 => ?_⟩
          go_simp
          refine (orP_any r t (by have := HRT.out; omega) a1 ac1 a2 ac2 b1 bc1 b2 bc2 X_1_3_8 (HNr11.out.below BX_1_3_8.out) (HFr11.out.below BX_1_3_8.out) (HNt11.out.below BX_1_3_8.out) (HFt11.out.below BX_1_3_8.out)).mono ?_
          rintro e X_1_3_8_4 hgot
          have bb := hgot.2
          obtain ⟨o, peo, o1, oc1, o2, oc2, rfl, hgr, hkept⟩ := hgot.kept (by have := HRT.out; omega)
          try dsimp only
          have HGRo := Lib.hid hgr
          have HKEPT := Lib.hid hkept
          have BX_1_3_8_4 := Lib.hid (st BX_1_3_8.out bb BX_1_3_8.out.size)
          have HPL : Hid (p < X_1_3_8.heap.size) := Lib.hid KPX_1_3_8.out.lt
          have KPX_1_3_8_4 := Lib.hid (Blk.below KPX_1_3_8.out bb)
          clear hgot hgr hkept
          have hSX_1_3_8_4 := HSS.out X_1_3_8_4 BX_1_3_8_4.out
          refine hK4.out _ _ hSX_1_3_8_4 ?_
          clear hK4 K4 hSX_1_3_8 bb
          try simp only [Act.put, List.setIfInBounds_toArray, List.set_cons_zero, List.set_cons_succ]
          refine hd_taken 5 (some 55) _ ?hdvg5 rfl rfl (by kernel_rfl) (fun _ _ _ h => h) (Or.inl ⟨by kernel_rfl, ?hdyg5⟩) hSX_1_3_8_4 ?hdrg5
          case hdyg5 => (intro wx hx; (try dsimp only at hx); go_simp; try with_reducible rfl)
          try simp only [Act.put, List.setIfInBounds_toArray, List.set_cons_zero, List.set_cons_succ]
          refine hd_taken 6 (some 61) _ ?hdvg6 rfl rfl (by kernel_rfl) (fun _ _ _ h => h) (Or.inl ⟨by kernel_rfl, ?hdyg6⟩) hSX_1_3_8_4 ?hdrg6
          case hdyg6 => (intro wx hx; (try dsimp only at hx); go_simp; try with_reducible rfl)
          try simp only [Act.put, List.setIfInBounds_toArray, List.set_cons_zero, List.set_cons_succ]
          refine hd_taken 7 (some 62) _ ?hdvg7 rfl rfl (by kernel_rfl) (fun _ _ _ h => h) (Or.inl ⟨by kernel_rfl, ?hdyg7⟩) hSX_1_3_8_4 ?hdrg7
          case hdyg7 => (intro wx hx; (try dsimp only at hx); go_simp; try with_reducible rfl)
          try simp only [Act.put, List.setIfInBounds_toArray, List.set_cons_zero, List.set_cons_succ]
          have xf := KPX_1_3_8_4.out.frozen
          have y0 : X_1_3_8_4.cell? ⟨p, 0, none⟩ = some (.int .i64 0) := KPX_1_3_8_4.out.cell 0
          have y1 : X_1_3_8_4.cell? ⟨p, 1, none⟩ = some (.slice none 0 0) := KPX_1_3_8_4.out.cell 1
          have y2 : X_1_3_8_4.cell? ⟨p, 2, none⟩ = some (.slice none 0 0) := KPX_1_3_8_4.out.cell 2
          have HFIN : Hid (CutQ (prodA (toA r) (toA t) (fun x y => x || y)) (okD r && okD t) (r.nx.length * t.nx.length) w11 (.pointer (some ⟨p, 0, none⟩)) (.int .i64 peo) (put3 X_1_3_8_4 p (.int .i64 o.st) (.slice o1 o.nx.length oc1) (.slice o2 o.ac.length oc2)) ∧ Below w11.heap.size w11 (put3 X_1_3_8_4 p (.int .i64 o.st) (.slice o1 o.nx.length oc1) (.slice o2 o.ac.length oc2))) := Lib.hid (by
            obtain ⟨p1, p2⟩ := put3_ok (n := w11.heap.size) (a' := .int .i64 o.st) (b' := .slice o1 o.nx.length oc1) (c' := .slice o2 o.ac.length oc2) KPX_1_3_8_4.out HPG.out
            obtain ⟨r1, r2⟩ := HKEPT.out _ _ (Fr.grown (put3_grown X_1_3_8_4 p (.int .i64 o.st) (.slice o1 o.nx.length oc1) (.slice o2 o.ac.length oc2)) (X := fun b => b = p) (fun k e => by injection e with e; exact e.symm)) (fun b e => by have e : b = p := e; rw [e]; exact HPL.out)
            have hb := BX_1_3_8_4.out.trans (p2)
            exact ⟨⟨p, o, peo, o1, oc1, o2, oc2, rfl, rfl, p1, r1, r2, HGRo.out, hb⟩, hb⟩)
          have hSF := HSS.out (put3 X_1_3_8_4 p (.int .i64 o.st) (.slice o1 o.nx.length oc1) (.slice o2 o.ac.length oc2)) HFIN.out.2
          refine hd_one 9 _ rfl (by kernel_rfl) (by decide) (fun KS hKS => ?_)
          go_simp
          refine hKS.out _ _ hSF ?_
          clear hKS KS hSX_1_3_8_4 xf y0 y1 y2 hSF HSS
          try simp only [Act.put, List.setIfInBounds_toArray, List.set_cons_zero, List.set_cons_succ]
          refine hd_done (by kernel_rfl) ?_
          simp only [List.drop_succ_cons, List.drop_zero]
          go_wp2_with fail
          go_meet
          exact HFIN.out.1
      · refine ⟨_, rfl, fun K8 hK8 => ?_⟩
        go_simp
        have bb := (Below.refl X_1.heap.size X_1).alloc (Nat.le_refl _) (.cells #[.int .i64 0, .slice none 0 0, .slice none 0 0] 29)
        have kp := Blk.new X_1 29 #[.int .i64 0, .slice none 0 0, .slice none 0 0]
        obtain ⟨p, hp⟩ : ∃ p, X_1.heap.size = p := ⟨_, rfl⟩
        obtain ⟨X_1_8, hX_1_8⟩ : ∃ X_1_8, X_1.alloc (.cells #[.int .i64 0, .slice none 0 0, .slice none 0 0] 29) = X_1_8 := ⟨_, rfl⟩
        rw [hX_1_8] at bb kp
        have BX_1_8 := Lib.hid (st BX_1.out bb BX_1.out.size)
        have HPG : Hid (w11.heap.size ≤ p) := Lib.hid (by rw [← hp]; exact BX_1.out.size)
        rw [hp] at kp
        have KPX_1_8 := Lib.hid kp
        rw [hp, hX_1_8]
        have hSX_1_8 := HSS.out X_1_8 BX_1_8.out
        refine hK8.out _ _ hSX_1_8 ?_
        clear hK8 K8 hSX_1 bb kp hp hX_1_8
        try simp only [Act.put, List.setIfInBounds_toArray, List.set_cons_zero, List.set_cons_succ]
        refine hd_list [3] (by kernel_rfl) (by decide) (by decide) (fun i hi => ?_)
        simp only [List.mem_cons, List.not_mem_nil, or_false] at hi
        subst hi
        refine ⟨_, rfl, fun K3 hK3 => ?_⟩
        go_simp
        refine (to_any t.st b1 t.nx.length bc1 b2 t.ac.length bc2 X_1_8).mono ?_
        rintro e X_1_8_3 ⟨rfl, bb⟩
        try dsimp only
        have BX_1_8_3 := Lib.hid (st BX_1_8.out bb BX_1_8.out.size)
        have KPX_1_8_3 := Lib.hid (Blk.below KPX_1_8.out bb)
        have hSX_1_8_3 := HSS.out X_1_8_3 BX_1_8_3.out
        refine hK3.out _ _ hSX_1_8_3 ?_
        clear hK3 K3 hSX_1_8 bb
        try simp only [Act.put, List.setIfInBounds_toArray, List.set_cons_zero, List.set_cons_succ]
        refine hd_list [4] (by kernel_rfl) (by decide) (by decide) (fun i hi => ?_)
        simp only [List.mem_cons, List.not_mem_nil, or_false] at hi
        subst hi
        refine ⟨_, rfl, fun K4 hK4 => ?_⟩
        go_simp
        refine (orP_any r t (by have := HRT.out; omega) a1 ac1 a2 ac2 b1 bc1 b2 bc2 X_1_8_3 (HNr11.out.below BX_1_8_3.out) (HFr11.out.below BX_1_8_3.out) (HNt11.out.below BX_1_8_3.out) (HFt11.out.below BX_1_8_3.out)).mono ?_
        rintro e X_1_8_3_4 hgot
        have bb := hgot.2
        obtain ⟨o, peo, o1, oc1, o2, oc2, rfl, hgr, hkept⟩ := hgot.kept (by have := HRT.out; omega)
        try dsimp only
        have HGRo := Lib.hid hgr
        have HKEPT := Lib.hid hkept
        have BX_1_8_3_4 := Lib.hid (st BX_1_8_3.out bb BX_1_8_3.out.size)
        have HPL : Hid (p < X_1_8_3.heap.size) := Lib.hid KPX_1_8_3.out.lt
        have KPX_1_8_3_4 := Lib.hid (Blk.below KPX_1_8_3.out bb)
        clear hgot hgr hkept
        have hSX_1_8_3_4 := HSS.out X_1_8_3_4 BX_1_8_3_4.out
        refine hK4.out _ _ hSX_1_8_3_4 ?_
        clear hK4 K4 hSX_1_8_3 bb
        try simp only [Act.put, List.setIfInBounds_toArray, List.set_cons_zero, List.set_cons_succ]
        refine hd_taken 5 (some 55) _ ?hdvh5 rfl rfl (by kernel_rfl) (fun _ _ _ h => h) (Or.inl ⟨by kernel_rfl, ?hdyh5⟩) hSX_1_8_3_4 ?hdrh5
        case hdyh5 => (intro wx hx; (try dsimp only at hx); go_simp; try with_reducible rfl)
        try simp only [Act.put, List.setIfInBounds_toArray, List.set_cons_zero, List.set_cons_succ]
        refine hd_taken 6 (some 61) _ ?hdvh6 rfl rfl (by kernel_rfl) (fun _ _ _ h => h) (Or.inl ⟨by kernel_rfl, ?hdyh6⟩) hSX_1_8_3_4 ?hdrh6
        case hdyh6 => (intro wx hx; (try dsimp only at hx); go_simp; try with_reducible rfl)
        try simp only [Act.put, List.setIfInBounds_toArray, List.set_cons_zero, List.set_cons_succ]
        refine hd_taken 7 (some 62) _ ?hdvh7 rfl rfl (by kernel_rfl) (fun _ _ _ h => h) (Or.inl ⟨by kernel_rfl, ?hdyh7⟩) hSX_1_8_3_4 ?hdrh7
        case hdyh7 => (intro wx hx; (try dsimp only at hx); go_simp; try with_reducible rfl)
        try simp only [Act.put, List.setIfInBounds_toArray, List.set_cons_zero, List.set_cons_succ]
        have xf := KPX_1_8_3_4.out.frozen
        have y0 : X_1_8_3_4.cell? ⟨p, 0, none⟩ = some (.int .i64 0) := KPX_1_8_3_4.out.cell 0
        have y1 : X_1_8_3_4.cell? ⟨p, 1, none⟩ = some (.slice none 0 0) := KPX_1_8_3_4.out.cell 1
        have y2 : X_1_8_3_4.cell? ⟨p, 2, none⟩ = some (.slice none 0 0) := KPX_1_8_3_4.out.cell 2
        have HFIN : Hid (CutQ (prodA (toA r) (toA t) (fun x y => x || y)) (okD r && okD t) (r.nx.length * t.nx.length) w11 (.pointer (some ⟨p, 0, none⟩)) (.int .i64 peo) (put3 X_1_8_3_4 p (.int .i64 o.st) (.slice o1 o.nx.length oc1) (.slice o2 o.ac.length oc2)) ∧ Below w11.heap.size w11 (put3 X_1_8_3_4 p (.int .i64 o.st) (.slice o1 o.nx.length oc1) (.slice o2 o.ac.length oc2))) := Lib.hid (by
          obtain ⟨p1, p2⟩ := put3_ok (n := w11.heap.size) (a' := .int .i64 o.st) (b' := .slice o1 o.nx.length oc1) (c' := .slice o2 o.ac.length oc2) KPX_1_8_3_4.out HPG.out
          obtain ⟨r1, r2⟩ := HKEPT.out _ _ (Fr.grown (put3_grown X_1_8_3_4 p (.int .i64 o.st) (.slice o1 o.nx.length oc1) (.slice o2 o.ac.length oc2)) (X := fun b => b = p) (fun k e => by injection e with e; exact e.symm)) (fun b e => by have e : b = p := e; rw [e]; exact HPL.out)
          have hb := BX_1_8_3_4.out.trans (p2)
          exact ⟨⟨p, o, peo, o1, oc1, o2, oc2, rfl, rfl, p1, r1, r2, HGRo.out, hb⟩, hb⟩)
        have hSF := HSS.out (put3 X_1_8_3_4 p (.int .i64 o.st) (.slice o1 o.nx.length oc1) (.slice o2 o.ac.length oc2)) HFIN.out.2
        refine hd_one 9 _ rfl (by kernel_rfl) (by decide) (fun KS hKS => ?_)
        go_simp
        refine hKS.out _ _ hSF ?_
        clear hKS KS hSX_1_8_3_4 xf y0 y1 y2 hSF HSS
        try simp only [Act.put, List.setIfInBounds_toArray, List.set_cons_zero, List.set_cons_succ]
        refine hd_done (by kernel_rfl) ?_
        simp only [List.drop_succ_cons, List.drop_zero]
        go_wp2_with fail
        go_meet
        exact HFIN.out.1
    · refine ⟨_, rfl, fun K8 hK8 => ?_⟩
      go_simp
      have bb := (Below.refl X.heap.size X).alloc (Nat.le_refl _) (.cells #[.int .i64 0, .slice none 0 0, .slice none 0 0] 29)
      have kp := Blk.new X 29 #[.int .i64 0, .slice none 0 0, .slice none 0 0]
      obtain ⟨p, hp⟩ : ∃ p, X.heap.size = p := ⟨_, rfl⟩
      obtain ⟨X_8, hX_8⟩ : ∃ X_8, X.alloc (.cells #[.int .i64 0, .slice none 0 0, .slice none 0 0] 29) = X_8 := ⟨_, rfl⟩
      rw [hX_8] at bb kp
      have BX_8 := Lib.hid (st BX.out bb BX.out.size)
      have HPG : Hid (w11.heap.size ≤ p) := Lib.hid (by rw [← hp]; exact BX.out.size)
      rw [hp] at kp
      have KPX_8 := Lib.hid kp
      rw [hp, hX_8]
      have hSX_8 := HSS.out X_8 BX_8.out
      refine hK8.out _ _ hSX_8 ?_
      clear hK8 K8 hSX bb kp hp hX_8
      try simp only [Act.put, List.setIfInBounds_toArray, List.set_cons_zero, List.set_cons_succ]
      refine hd_list [1] (by kernel_rfl) (by decide) (by decide) (fun i hi => ?_)
      simp only [List.mem_cons, List.not_mem_nil, or_false] at hi
      subst hi
      refine ⟨_, rfl, fun K1 hK1 => ?_⟩
      go_simp
      refine (to_any r.st a1 r.nx.length ac1 a2 r.ac.length ac2 X_8).mono ?_
      rintro e X_8_1 ⟨rfl, bb⟩
      try dsimp only
      have BX_8_1 := Lib.hid (st BX_8.out bb BX_8.out.size)
      have KPX_8_1 := Lib.hid (Blk.below KPX_8.out bb)
      have hSX_8_1 := HSS.out X_8_1 BX_8_1.out
      refine hK1.out _ _ hSX_8_1 ?_
      clear hK1 K1 hSX_8 bb
      try simp only [Act.put, List.setIfInBounds_toArray, List.set_cons_zero, List.set_cons_succ]
      refine hd_list [3] (by kernel_rfl) (by decide) (by decide) (fun i hi => ?_)
      simp only [List.mem_cons, List.not_mem_nil, or_false] at hi
      subst hi
      refine ⟨_, rfl, fun K3 hK3 => ?_⟩
      go_simp
      refine (to_any t.st b1 t.nx.length bc1 b2 t.ac.length bc2 X_8_1).mono ?_
      rintro e X_8_1_3 ⟨rfl, bb⟩
      try dsimp only
      have BX_8_1_3 := Lib.hid (st BX_8_1.out bb BX_8_1.out.size)
      have KPX_8_1_3 := Lib.hid (Blk.below KPX_8_1.out bb)
      have hSX_8_1_3 := HSS.out X_8_1_3 BX_8_1_3.out
      refine hK3.out _ _ hSX_8_1_3 ?_
      clear hK3 K3 hSX_8_1 bb
      try simp only [Act.put, List.setIfInBounds_toArray, List.set_cons_zero, List.set_cons_succ]
      refine hd_list [4] (by kernel_rfl) (by decide) (by decide) (fun i hi => ?_)
      simp only [List.mem_cons, List.not_mem_nil, or_false] at hi
      subst hi
      refine ⟨_, rfl, fun K4 hK4 => ?_⟩
      go_simp
      refine (orP_any r t (by have := HRT.out; omega) a1 ac1 a2 ac2 b1 bc1 b2 bc2 X_8_1_3 (HNr11.out.below BX_8_1_3.out) (HFr11.out.below BX_8_1_3.out) (HNt11.out.below BX_8_1_3.out) (HFt11.out.below BX_8_1_3.out)).mono ?_
      rintro e X_8_1_3_4 hgot
      have bb := hgot.2
      obtain ⟨o, peo, o1, oc1, o2, oc2, rfl, hgr, hkept⟩ := hgot.kept (by have := HRT.out; omega)
      try dsimp only
      have HGRo := Lib.hid hgr
      have HKEPT := Lib.hid hkept
      have BX_8_1_3_4 := Lib.hid (st BX_8_1_3.out bb BX_8_1_3.out.size)
      have HPL : Hid (p < X_8_1_3.heap.size) := Lib.hid KPX_8_1_3.out.lt
      have KPX_8_1_3_4 := Lib.hid (Blk.below KPX_8_1_3.out bb)
      clear hgot hgr hkept
      have hSX_8_1_3_4 := HSS.out X_8_1_3_4 BX_8_1_3_4.out
      refine hK4.out _ _ hSX_8_1_3_4 ?_
      clear hK4 K4 hSX_8_1_3 bb
      try simp only [Act.put, List.setIfInBounds_toArray, List.set_cons_zero, List.set_cons_succ]
      refine hd_taken 5 (some 55) _ ?hdvi5 rfl rfl (by kernel_rfl) (fun _ _ _ h => h) (Or.inl ⟨by kernel_rfl, ?hdyi5⟩) hSX_8_1_3_4 ?hdri5
      case hdyi5 => (intro wx hx; (try dsimp only at hx); go_simp; try with_reducible rfl)
      try simp only [Act.put, List.setIfInBounds_toArray, List.set_cons_zero, List.set_cons_succ]
      refine hd_taken 6 (some 61) _ ?hdvi6 rfl rfl (by kernel_rfl) (fun _ _ _ h => h) (Or.inl ⟨by kernel_rfl, ?hdyi6⟩) hSX_8_1_3_4 ?hdri6
      case hdyi6 => (intro wx hx; (try dsimp only at hx); go_simp; try with_reducible rfl)
      try simp only [Act.put, List.setIfInBounds_toArray, List.set_cons_zero, List.set_cons_succ]
      refine hd_taken 7 (some 62) _ ?hdvi7 rfl rfl (by kernel_rfl) (fun _ _ _ h => h) (Or.inl ⟨by kernel_rfl, ?hdyi7⟩) hSX_8_1_3_4 ?hdri7
      case hdyi7 => (intro wx hx; (try dsimp only at hx); go_simp; try with_reducible rfl)
      try simp only [Act.put, List.setIfInBounds_toArray, List.set_cons_zero, List.set_cons_succ]
      have xf := KPX_8_1_3_4.out.frozen
      have y0 : X_8_1_3_4.cell? ⟨p, 0, none⟩ = some (.int .i64 0) := KPX_8_1_3_4.out.cell 0
      have y1 : X_8_1_3_4.cell? ⟨p, 1, none⟩ = some (.slice none 0 0) := KPX_8_1_3_4.out.cell 1
      have y2 : X_8_1_3_4.cell? ⟨p, 2, none⟩ = some (.slice none 0 0) := KPX_8_1_3_4.out.cell 2
      have HFIN : Hid (CutQ (prodA (toA r) (toA t) (fun x y => x || y)) (okD r && okD t) (r.nx.length * t.nx.length) w11 (.pointer (some ⟨p, 0, none⟩)) (.int .i64 peo) (put3 X_8_1_3_4 p (.int .i64 o.st) (.slice o1 o.nx.length oc1) (.slice o2 o.ac.length oc2)) ∧ Below w11.heap.size w11 (put3 X_8_1_3_4 p (.int .i64 o.st) (.slice o1 o.nx.length oc1) (.slice o2 o.ac.length oc2))) := Lib.hid (by
        obtain ⟨p1, p2⟩ := put3_ok (n := w11.heap.size) (a' := .int .i64 o.st) (b' := .slice o1 o.nx.length oc1) (c' := .slice o2 o.ac.length oc2) KPX_8_1_3_4.out HPG.out
        obtain ⟨r1, r2⟩ := HKEPT.out _ _ (Fr.grown (put3_grown X_8_1_3_4 p (.int .i64 o.st) (.slice o1 o.nx.length oc1) (.slice o2 o.ac.length oc2)) (X := fun b => b = p) (fun k e => by injection e with e; exact e.symm)) (fun b e => by have e : b = p := e; rw [e]; exact HPL.out)
        have hb := BX_8_1_3_4.out.trans (p2)
        exact ⟨⟨p, o, peo, o1, oc1, o2, oc2, rfl, rfl, p1, r1, r2, HGRo.out, hb⟩, hb⟩)
      have hSF := HSS.out (put3 X_8_1_3_4 p (.int .i64 o.st) (.slice o1 o.nx.length oc1) (.slice o2 o.ac.length oc2)) HFIN.out.2
      refine hd_one 9 _ rfl (by kernel_rfl) (by decide) (fun KS hKS => ?_)
      go_simp
      refine hKS.out _ _ hSF ?_
      clear hKS KS hSX_8_1_3_4 xf y0 y1 y2 hSF HSS
      try simp only [Act.put, List.setIfInBounds_toArray, List.set_cons_zero, List.set_cons_succ]
      refine hd_done (by kernel_rfl) ?_
      simp only [List.drop_succ_cons, List.drop_zero]
      go_wp2_with fail
      go_meet
      exact HFIN.out.1
  case rest =>
  rename World => w12
  obtain ⟨n13, o, peo, o1, oc1, o2, oc2, rfl, rfl, hk, hpN, hpF, hgr, b12⟩ := hcut
  have HNo12 := Lib.hid hpN
  have HFo12 := Lib.hid hpF
  have Ko12 := Lib.hid hk
  have HGRo := Lib.hid hgr
  have HNr12 := Lib.hid (HNr11.out.below b12)
  have HFr12 := Lib.hid (HFr11.out.below b12)
  have HNt12 := Lib.hid (HNt11.out.below b12)
  have HFt12 := Lib.hid (HFt11.out.below b12)
  have Kr12 := Lib.hid (Blk.below Kr11.out b12)
  have Kt12 := Lib.hid (Blk.below Kt11.out b12)
  have HNx12 := Lib.hid (HNx11.out.below b12)
  have HFx12 := Lib.hid (HFx11.out.below b12)
  have Kx12 := Lib.hid (Blk.below Kx11.out b12)
  have HNu12 := Lib.hid (HNu11.out.below b12)
  have HFu12 := Lib.hid (HFu11.out.below b12)
  have Ku12 := Lib.hid (Blk.below Ku11.out b12)
  have HNz12 := Lib.hid (HNz11.out.below b12)
  have HFz12 := Lib.hid (HFz11.out.below b12)
  have Kz12 := Lib.hid (Blk.below Kz11.out b12)
  have HNm12 := Lib.hid (HNm11.out.below b12)
  have HFm12 := Lib.hid (HFm11.out.below b12)
  have Km12 := Lib.hid (Blk.below Km11.out b12)
  have HB12 := Lib.hid (st HB11.out b12 HB11.out.size)
  clear b12 hk hpN hpF hgr HSS HNr11 HFr11 HNt11 HFt11 Kr11 Kt11 HNx11 HFx11 Kx11 HNu11 HFu11 Ku11 HNz11 HFz11 Kz11 HNm11 HFm11 Km11 HB11
  have fKr0 : w12.cell? ⟨g, 0, none⟩ = some (.int .i64 r.st) := Kr12.out.cell 0
  have fKr1 : w12.cell? ⟨g, 1, none⟩ = some (.slice a1 r.nx.length ac1) := Kr12.out.cell 1
  have fKr2 : w12.cell? ⟨g, 2, none⟩ = some (.slice a2 r.ac.length ac2) := Kr12.out.cell 2
  have fKt0 : w12.cell? ⟨(g + 1), 0, none⟩ = some (.int .i64 t.st) := Kt12.out.cell 0
  have fKt1 : w12.cell? ⟨(g + 1), 1, none⟩ = some (.slice b1 t.nx.length bc1) := Kt12.out.cell 1
  have fKt2 : w12.cell? ⟨(g + 1), 2, none⟩ = some (.slice b2 t.ac.length bc2) := Kt12.out.cell 2
  have HP := Lib.hid (orR_any r t (by have := HRT.out; omega) a1 ac1 a2 ac2 b1 bc1 b2 bc2 w12 HNr12.out HFr12.out HNt12.out HFt12.out)
  go_wp2_with fail
  refine HP.out.mono ?_
  rintro e w13 hgot
  have b13 := hgot.2
  obtain ⟨l, pel, ⟨l1, lc1, l2, lc2, rfl, hpN, hpF⟩, hgr⟩ := hgot.raws
  have HNl13 := Lib.hid hpN
  have HFl13 := Lib.hid hpF
  have HGRl := Lib.hid hgr
  have HNr13 := Lib.hid (HNr12.out.below b13)
  have HFr13 := Lib.hid (HFr12.out.below b13)
  have HNt13 := Lib.hid (HNt12.out.below b13)
  have HFt13 := Lib.hid (HFt12.out.below b13)
  have Kr13 := Lib.hid (Blk.below Kr12.out b13)
  have Kt13 := Lib.hid (Blk.below Kt12.out b13)
  have HNx13 := Lib.hid (HNx12.out.below b13)
  have HFx13 := Lib.hid (HFx12.out.below b13)
  have Kx13 := Lib.hid (Blk.below Kx12.out b13)
  have HNu13 := Lib.hid (HNu12.out.below b13)
  have HFu13 := Lib.hid (HFu12.out.below b13)
  have Ku13 := Lib.hid (Blk.below Ku12.out b13)
  have HNz13 := Lib.hid (HNz12.out.below b13)
  have HFz13 := Lib.hid (HFz12.out.below b13)
  have Kz13 := Lib.hid (Blk.below Kz12.out b13)
  have HNm13 := Lib.hid (HNm12.out.below b13)
  have HFm13 := Lib.hid (HFm12.out.below b13)
  have Km13 := Lib.hid (Blk.below Km12.out b13)
  have HNo13 := Lib.hid (HNo12.out.below b13)
  have HFo13 := Lib.hid (HFo12.out.below b13)
  have Ko13 := Lib.hid (Blk.below Ko12.out b13)
  have HB13 := Lib.hid (st HB12.out b13 HB12.out.size)
  clear b13 hgot hpN hpF hgr HP fKr0 fKr1 fKr2 fKt0 fKt1 fKt2 HNr12 HFr12 HNt12 HFt12 Kr12 Kt12 HNx12 HFx12 Kx12 HNu12 HFu12 Ku12 HNz12 HFz12 Kz12 HNm12 HFm12 Km12 HNo12 HFo12 Ko12 HB12
  obtain ⟨EOL, rfl⟩ : Hid (o = l) ∧ pel = peo := ⟨Lib.hid (GotRaw.uniq HGRo.out HGRl.out).1, (GotRaw.uniq HGRo.out HGRl.out).2.symm⟩
  have b14 := (Below.refl w13.heap.size w13).alloc (Nat.le_refl _) (.cells #[.int .i64 l.st, .slice l1 l.nx.length lc1, .slice l2 l.ac.length lc2] 25)
  have k14 := Blk.new w13 25 #[.int .i64 l.st, .slice l1 l.nx.length lc1, .slice l2 l.ac.length lc2]
  obtain ⟨w14, hw14⟩ : ∃ wx, w13.alloc (.cells #[.int .i64 l.st, .slice l1 l.nx.length lc1, .slice l2 l.ac.length lc2] 25) = wx := ⟨_, rfl⟩
  obtain ⟨n15, hn15⟩ : ∃ B, w13.heap.size = B := ⟨_, rfl⟩
  rw [hw14] at b14 k14
  rw [hn15] at k14
  have HW14 := Lib.hid hw14
  have Hn15 := Lib.hid hn15
  have Kl14 := Lib.hid k14
  have HNr14 := Lib.hid (HNr13.out.below b14)
  have HFr14 := Lib.hid (HFr13.out.below b14)
  have HNt14 := Lib.hid (HNt13.out.below b14)
  have HFt14 := Lib.hid (HFt13.out.below b14)
  have Kr14 := Lib.hid (Blk.below Kr13.out b14)
  have Kt14 := Lib.hid (Blk.below Kt13.out b14)
  have HNx14 := Lib.hid (HNx13.out.below b14)
  have HFx14 := Lib.hid (HFx13.out.below b14)
  have Kx14 := Lib.hid (Blk.below Kx13.out b14)
  have HNu14 := Lib.hid (HNu13.out.below b14)
  have HFu14 := Lib.hid (HFu13.out.below b14)
  have Ku14 := Lib.hid (Blk.below Ku13.out b14)
  have HNz14 := Lib.hid (HNz13.out.below b14)
  have HFz14 := Lib.hid (HFz13.out.below b14)
  have Kz14 := Lib.hid (Blk.below Kz13.out b14)
  have HNm14 := Lib.hid (HNm13.out.below b14)
  have HFm14 := Lib.hid (HFm13.out.below b14)
  have Km14 := Lib.hid (Blk.below Km13.out b14)
  have HNo14 := Lib.hid (HNo13.out.below b14)
  have HFo14 := Lib.hid (HFo13.out.below b14)
  have Ko14 := Lib.hid (Blk.below Ko13.out b14)
  have HNl14 := Lib.hid (HNl13.out.below b14)
  have HFl14 := Lib.hid (HFl13.out.below b14)
  have HB14 := Lib.hid (st HB13.out b14 HB13.out.size)
  clear b14 k14 hw14 hn15 HNr13 HFr13 HNt13 HFt13 Kr13 Kt13 HNx13 HFx13 Kx13 HNu13 HFu13 Ku13 HNz13 HFz13 Kz13 HNm13 HFm13 Km13 HNo13 HFo13 Ko13 HNl13 HFl13 HB13
  go_upto_region 9 with fail
  rw [HW14.out, Hn15.out]
  have HSS : Hid (∀ wx, Below w14.heap.size w14 wx → (fun wx : World => wx.cell? ⟨n5, 0, none⟩ = some (.int .i64 x.st) ∧ wx.cell? ⟨n5, 1, none⟩ = some (.slice x1 x.nx.length xc1) ∧ wx.cell? ⟨n5, 2, none⟩ = some (.slice x2 x.ac.length xc2) ∧ wx.cell? ⟨n7, 0, none⟩ = some (.int .i64 u.st) ∧ wx.cell? ⟨n7, 1, none⟩ = some (.slice u1 u.nx.length uc1) ∧ wx.cell? ⟨n7, 2, none⟩ = some (.slice u2 u.ac.length uc2) ∧ wx.cell? ⟨n9, 0, none⟩ = some (.int .i64 z.st) ∧ wx.cell? ⟨n9, 1, none⟩ = some (.slice z1 z.nx.length zc1) ∧ wx.cell? ⟨n9, 2, none⟩ = some (.slice z2 z.ac.length zc2) ∧ wx.cell? ⟨n11, 0, none⟩ = some (.int .i64 m.st) ∧ wx.cell? ⟨n11, 1, none⟩ = some (.slice m1 m.nx.length mc1) ∧ wx.cell? ⟨n11, 2, none⟩ = some (.slice m2 m.ac.length mc2) ∧ wx.cell? ⟨n13, 0, none⟩ = some (.int .i64 o.st) ∧ wx.cell? ⟨n13, 1, none⟩ = some (.slice o1 o.nx.length oc1) ∧ wx.cell? ⟨n13, 2, none⟩ = some (.slice o2 o.ac.length oc2) ∧ wx.cell? ⟨n15, 0, none⟩ = some (.int .i64 l.st) ∧ wx.cell? ⟨n15, 1, none⟩ = some (.slice l1 l.nx.length lc1) ∧ wx.cell? ⟨n15, 2, none⟩ = some (.slice l2 l.ac.length lc2)) wx) := Lib.hid (fun wx hb => ⟨(Blk.below Kx14.out hb).cell 0, (Blk.below Kx14.out hb).cell 1, (Blk.below Kx14.out hb).cell 2, (Blk.below Ku14.out hb).cell 0, (Blk.below Ku14.out hb).cell 1, (Blk.below Ku14.out hb).cell 2, (Blk.below Kz14.out hb).cell 0, (Blk.below Kz14.out hb).cell 1, (Blk.below Kz14.out hb).cell 2, (Blk.below Km14.out hb).cell 0, (Blk.below Km14.out hb).cell 1, (Blk.below Km14.out hb).cell 2, (Blk.below Ko14.out hb).cell 0, (Blk.below Ko14.out hb).cell 1, (Blk.below Ko14.out hb).cell 2, (Blk.below Kl14.out hb).cell 0, (Blk.below Kl14.out hb).cell 1, (Blk.below Kl14.out hb).cell 2⟩)
  have tx : (peu == peu) = true := by simp
  have tz : (pem == pem) = true := by simp
  have tq : (pel == pel) = true := by simp
  have BX := Lib.hid ((Below.refl w14.heap.size w14).drew)
  refine region_hd 31 (fun wx : World => wx.cell? ⟨n5, 0, none⟩ = some (.int .i64 x.st) ∧ wx.cell? ⟨n5, 1, none⟩ = some (.slice x1 x.nx.length xc1) ∧ wx.cell? ⟨n5, 2, none⟩ = some (.slice x2 x.ac.length xc2) ∧ wx.cell? ⟨n7, 0, none⟩ = some (.int .i64 u.st) ∧ wx.cell? ⟨n7, 1, none⟩ = some (.slice u1 u.nx.length uc1) ∧ wx.cell? ⟨n7, 2, none⟩ = some (.slice u2 u.ac.length uc2) ∧ wx.cell? ⟨n9, 0, none⟩ = some (.int .i64 z.st) ∧ wx.cell? ⟨n9, 1, none⟩ = some (.slice z1 z.nx.length zc1) ∧ wx.cell? ⟨n9, 2, none⟩ = some (.slice z2 z.ac.length zc2) ∧ wx.cell? ⟨n11, 0, none⟩ = some (.int .i64 m.st) ∧ wx.cell? ⟨n11, 1, none⟩ = some (.slice m1 m.nx.length mc1) ∧ wx.cell? ⟨n11, 2, none⟩ = some (.slice m2 m.ac.length mc2) ∧ wx.cell? ⟨n13, 0, none⟩ = some (.int .i64 o.st) ∧ wx.cell? ⟨n13, 1, none⟩ = some (.slice o1 o.nx.length oc1) ∧ wx.cell? ⟨n13, 2, none⟩ = some (.slice o2 o.ac.length oc2) ∧ wx.cell? ⟨n15, 0, none⟩ = some (.int .i64 l.st) ∧ wx.cell? ⟨n15, 1, none⟩ = some (.slice l1 l.nx.length lc1) ∧ wx.cell? ⟨n15, 2, none⟩ = some (.slice l2 l.ac.length lc2)) (by kernel_rfl) (by kernel_rfl) ?_
  obtain ⟨X, hX⟩ : ∃ X, w14.drew = X := ⟨_, rfl⟩
  rw [hX] at BX ⊢
  clear hX
  have hSX := HSS.out X BX.out
  refine hd_taken 0 (some 69) _ ?hdvj0 rfl rfl (by kernel_rfl) (fun _ _ _ h => h) (Or.inl ⟨by kernel_rfl, ?hdyj0⟩) hSX ?hdrj0
  case hdyj0 => (intro wx hx; (try dsimp only at hx); go_simp; try with_reducible rfl)
  try simp only [Act.put, List.setIfInBounds_toArray, List.set_cons_zero, List.set_cons_succ]
  refine hd_taken 1 (some 70) _ ?hdvj1 rfl rfl (by kernel_rfl) (fun _ _ _ h => h) (Or.inl ⟨by kernel_rfl, ?hdyj1⟩) hSX ?hdrj1
  case hdyj1 => (intro wx hx; (try dsimp only at hx); go_simp; try with_reducible rfl)
  try simp only [Act.put, List.setIfInBounds_toArray, List.set_cons_zero, List.set_cons_succ]
  refine hd_taken 2 (some 71) _ ?hdvj2 rfl rfl (by kernel_rfl) (fun _ _ _ h => h) (Or.inl ⟨by kernel_rfl, ?hdyj2⟩) hSX ?hdrj2
  case hdyj2 => (intro wx hx; (try dsimp only at hx); go_simp; try with_reducible rfl)
  try simp only [Act.put, List.setIfInBounds_toArray, List.set_cons_zero, List.set_cons_succ]
  refine hd_taken 3 (some 72) _ ?hdvj3 rfl rfl (by kernel_rfl) (fun _ _ _ h => h) (Or.inl ⟨by kernel_rfl, ?hdyj3⟩) hSX ?hdrj3
  case hdyj3 => (intro wx hx; (try dsimp only at hx); go_simp; try with_reducible rfl)
  try simp only [Act.put, List.setIfInBounds_toArray, List.set_cons_zero, List.set_cons_succ]
  refine hd_taken 4 (some 73) _ ?hdvj4 rfl rfl (by kernel_rfl) (fun _ _ _ h => h) (Or.inl ⟨by kernel_rfl, ?hdyj4⟩) hSX ?hdrj4
  case hdyj4 => (intro wx hx; (try dsimp only at hx); go_simp; try with_reducible rfl)
  try simp only [Act.put, List.setIfInBounds_toArray, List.set_cons_zero, List.set_cons_succ]
  refine hd_taken 5 (some 74) _ ?hdvj5 rfl rfl (by kernel_rfl) (fun _ _ _ h => h) (Or.inl ⟨by kernel_rfl, ?hdyj5⟩) hSX ?hdrj5
  case hdyj5 => (intro wx hx; (try dsimp only at hx); go_simp; try with_reducible rfl)
  try simp only [Act.put, List.setIfInBounds_toArray, List.set_cons_zero, List.set_cons_succ]
  refine hd_taken 6 (some 75) _ ?hdvj6 rfl rfl (by kernel_rfl) (fun _ _ _ h => h) (Or.inl ⟨by kernel_rfl, ?hdyj6⟩) hSX ?hdrj6
  case hdyj6 => (intro wx hx; (try dsimp only at hx); go_simp; try with_reducible rfl)
  try simp only [Act.put, List.setIfInBounds_toArray, List.set_cons_zero, List.set_cons_succ]
  refine hd_taken 7 (some 76) _ ?hdvj7 rfl rfl (by kernel_rfl) (fun _ _ _ h => h) (Or.inl ⟨by kernel_rfl, ?hdyj7⟩) hSX ?hdrj7
  case hdyj7 => (intro wx hx; (try dsimp only at hx); go_simp; try with_reducible rfl)
  try simp only [Act.put, List.setIfInBounds_toArray, List.set_cons_zero, List.set_cons_succ]
  refine hd_taken 8 (some 77) _ ?hdvj8 rfl rfl (by kernel_rfl) (fun _ _ _ h => h) (Or.inl ⟨by kernel_rfl, ?hdyj8⟩) hSX ?hdrj8
  case hdyj8 => (intro wx hx; (try dsimp only at hx); go_simp; try with_reducible rfl)
  try simp only [Act.put, List.setIfInBounds_toArray, List.set_cons_zero, List.set_cons_succ]
  refine hd_taken 9 (some 78) _ ?hdvj9 rfl rfl (by kernel_rfl) (fun _ _ _ h => h) (Or.inl ⟨by kernel_rfl, ?hdyj9⟩) hSX ?hdrj9
  case hdyj9 => (intro wx hx; (try dsimp only at hx); go_simp; try with_reducible rfl)
  try simp only [Act.put, List.setIfInBounds_toArray, List.set_cons_zero, List.set_cons_succ]
  refine hd_taken 10 (some 79) _ ?hdvj10 rfl rfl (by kernel_rfl) (fun _ _ _ h => h) (Or.inl ⟨by kernel_rfl, ?hdyj10⟩) hSX ?hdrj10
  case hdyj10 => (intro wx hx; (try dsimp only at hx); go_simp; try with_reducible rfl)
  try simp only [Act.put, List.setIfInBounds_toArray, List.set_cons_zero, List.set_cons_succ]
  refine hd_taken 11 (some 80) _ ?hdvj11 rfl rfl (by kernel_rfl) (fun _ _ _ h => h) (Or.inl ⟨by kernel_rfl, ?hdyj11⟩) hSX ?hdrj11
  case hdyj11 => (intro wx hx; (try dsimp only at hx); go_simp; try with_reducible rfl)
  try simp only [Act.put, List.setIfInBounds_toArray, List.set_cons_zero, List.set_cons_succ]
  refine hd_taken 12 (some 81) _ ?hdvj12 rfl rfl (by kernel_rfl) (fun _ _ _ h => h) (Or.inl ⟨by kernel_rfl, ?hdyj12⟩) hSX ?hdrj12
  case hdyj12 => (intro wx hx; (try dsimp only at hx); go_simp; try with_reducible rfl)
  try simp only [Act.put, List.setIfInBounds_toArray, List.set_cons_zero, List.set_cons_succ]
  refine hd_taken 13 (some 82) _ ?hdvj13 rfl rfl (by kernel_rfl) (fun _ _ _ h => h) (Or.inl ⟨by kernel_rfl, ?hdyj13⟩) hSX ?hdrj13
  case hdyj13 => (intro wx hx; (try dsimp only at hx); go_simp; try with_reducible rfl)
  try simp only [Act.put, List.setIfInBounds_toArray, List.set_cons_zero, List.set_cons_succ]
  refine hd_taken 14 (some 83) _ ?hdvj14 rfl rfl (by kernel_rfl) (fun _ _ _ h => h) (Or.inl ⟨by kernel_rfl, ?hdyj14⟩) hSX ?hdrj14
  case hdyj14 => (intro wx hx; (try dsimp only at hx); go_simp; try with_reducible rfl)
  try simp only [Act.put, List.setIfInBounds_toArray, List.set_cons_zero, List.set_cons_succ]
  refine hd_taken 16 (some 85) _ ?hdvj16 rfl rfl (by kernel_rfl) (fun _ _ _ h => h) (Or.inl ⟨by kernel_rfl, ?hdyj16⟩) hSX ?hdrj16
  case hdyj16 => (intro wx hx; (try dsimp only at hx); go_simp; try with_reducible rfl)
  try simp only [Act.put, List.setIfInBounds_toArray, List.set_cons_zero, List.set_cons_succ]
  refine hd_one 15 _ rfl (by kernel_rfl) (by decide) (fun K15 hK15 => ?_)
  go_simp
  refine (from_any x.st x1 x.nx.length xc1 x2 x.ac.length xc2 X).mono ?_
  rintro e Y0 ⟨rfl, bb⟩
  try dsimp only
  have BY0 := Lib.hid (st BX.out bb BX.out.size)
  have hSY0 := HSS.out Y0 BY0.out
  refine hK15.out _ _ hSY0 ?_
  clear hK15 K15 hSX bb
  try simp only [Act.put, List.setIfInBounds_toArray, List.set_cons_zero, List.set_cons_succ]
  refine hd_one 17 _ rfl (by kernel_rfl) (by decide) (fun K17 hK17 => ?_)
  go_simp
  refine (equalD_any x u x1 xc1 x2 xc2 u1 uc1 u2 uc2 Y0 (HNx14.out.below BY0.out) (HFx14.out.below BY0.out) (HNu14.out.below BY0.out) (HFu14.out.below BY0.out)).mono ?_
  rintro e Z0 ⟨rfl, bb⟩
  try dsimp only
  rw [show eqD x u = true by rw [EXU.out]; exact eqD_self u]
  have BZ0 := Lib.hid (st BY0.out bb BY0.out.size)
  have hSZ0 := HSS.out Z0 BZ0.out
  refine hK17.out _ _ hSZ0 ?_
  clear hK17 K17 hSY0 bb
  try simp only [Act.put, List.setIfInBounds_toArray, List.set_cons_zero, List.set_cons_succ]
  refine hd_taken 18 (some 87) _ ?hdvk18 rfl rfl (by kernel_rfl) (fun _ _ _ h => h) (Or.inl ⟨by kernel_rfl, ?hdyk18⟩) hSZ0 ?hdrk18
  case hdyk18 => (intro wx hx; (try dsimp only at hx); go_simp; try with_reducible rfl)
  try simp only [Act.put, List.setIfInBounds_toArray, List.set_cons_zero, List.set_cons_succ]
  refine hd_taken 19 (some 88) _ ?hdvk19 rfl rfl (by kernel_rfl) (fun _ _ _ h => h) (Or.inl ⟨by kernel_rfl, ?hdyk19⟩) hSZ0 ?hdrk19
  case hdyk19 => (intro wx hx; (try dsimp only at hx); go_simp; try with_reducible rfl)
  try simp only [Act.put, List.setIfInBounds_toArray, List.set_cons_zero, List.set_cons_succ]
  refine hd_taken 20 (some 89) _ ?hdvk20 rfl rfl (by kernel_rfl) (fun _ _ _ h => h) (Or.inl ⟨by kernel_rfl, ?hdyk20⟩) hSZ0 ?hdrk20
  case hdyk20 => (intro wx hx; (try dsimp only at hx); go_simp; try with_reducible rfl)
  try simp only [Act.put, List.setIfInBounds_toArray, List.set_cons_zero, List.set_cons_succ]
  refine hd_taken 22 (some 91) _ ?hdvk22 rfl rfl (by kernel_rfl) (fun _ _ _ h => h) (Or.inl ⟨by kernel_rfl, ?hdyk22⟩) hSZ0 ?hdrk22
  case hdyk22 => (intro wx hx; (try dsimp only at hx); go_simp; try with_reducible rfl)
  try simp only [Act.put, List.setIfInBounds_toArray, List.set_cons_zero, List.set_cons_succ]
  refine hd_one 21 _ rfl (by kernel_rfl) (by decide) (fun K21 hK21 => ?_)
  go_simp
  refine (from_any z.st z1 z.nx.length zc1 z2 z.ac.length zc2 Z0).mono ?_
  rintro e Y1 ⟨rfl, bb⟩
  try dsimp only
  have BY1 := Lib.hid (st BZ0.out bb BZ0.out.size)
  have hSY1 := HSS.out Y1 BY1.out
  refine hK21.out _ _ hSY1 ?_
  clear hK21 K21 hSZ0 bb
  try simp only [Act.put, List.setIfInBounds_toArray, List.set_cons_zero, List.set_cons_succ]
  refine hd_one 23 _ rfl (by kernel_rfl) (by decide) (fun K23 hK23 => ?_)
  go_simp
  refine (equalD_any z m z1 zc1 z2 zc2 m1 mc1 m2 mc2 Y1 (HNz14.out.below BY1.out) (HFz14.out.below BY1.out) (HNm14.out.below BY1.out) (HFm14.out.below BY1.out)).mono ?_
  rintro e Z1 ⟨rfl, bb⟩
  try dsimp only
  rw [show eqD z m = true by rw [EZM.out]; exact eqD_self m]
  have BZ1 := Lib.hid (st BY1.out bb BY1.out.size)
  have hSZ1 := HSS.out Z1 BZ1.out
  refine hK23.out _ _ hSZ1 ?_
  clear hK23 K23 hSY1 bb
  try simp only [Act.put, List.setIfInBounds_toArray, List.set_cons_zero, List.set_cons_succ]
  refine hd_taken 24 (some 93) _ ?hdvl24 rfl rfl (by kernel_rfl) (fun _ _ _ h => h) (Or.inl ⟨by kernel_rfl, ?hdyl24⟩) hSZ1 ?hdrl24
  case hdyl24 => (intro wx hx; (try dsimp only at hx); go_simp; try with_reducible rfl)
  try simp only [Act.put, List.setIfInBounds_toArray, List.set_cons_zero, List.set_cons_succ]
  refine hd_taken 25 (some 94) _ ?hdvl25 rfl rfl (by kernel_rfl) (fun _ _ _ h => h) (Or.inl ⟨by kernel_rfl, ?hdyl25⟩) hSZ1 ?hdrl25
  case hdyl25 => (intro wx hx; (try dsimp only at hx); go_simp; try with_reducible rfl)
  try simp only [Act.put, List.setIfInBounds_toArray, List.set_cons_zero, List.set_cons_succ]
  refine hd_taken 26 (some 95) _ ?hdvl26 rfl rfl (by kernel_rfl) (fun _ _ _ h => h) (Or.inl ⟨by kernel_rfl, ?hdyl26⟩) hSZ1 ?hdrl26
  case hdyl26 => (intro wx hx; (try dsimp only at hx); go_simp; try with_reducible rfl)
  try simp only [Act.put, List.setIfInBounds_toArray, List.set_cons_zero, List.set_cons_succ]
  refine hd_taken 28 (some 97) _ ?hdvl28 rfl rfl (by kernel_rfl) (fun _ _ _ h => h) (Or.inl ⟨by kernel_rfl, ?hdyl28⟩) hSZ1 ?hdrl28
  case hdyl28 => (intro wx hx; (try dsimp only at hx); go_simp; try with_reducible rfl)
  try simp only [Act.put, List.setIfInBounds_toArray, List.set_cons_zero, List.set_cons_succ]
  refine hd_one 27 _ rfl (by kernel_rfl) (by decide) (fun K27 hK27 => ?_)
  go_simp
  refine (from_any o.st o1 o.nx.length oc1 o2 o.ac.length oc2 Z1).mono ?_
  rintro e Y2 ⟨rfl, bb⟩
  try dsimp only
  have BY2 := Lib.hid (st BZ1.out bb BZ1.out.size)
  have hSY2 := HSS.out Y2 BY2.out
  refine hK27.out _ _ hSY2 ?_
  clear hK27 K27 hSZ1 bb
  try simp only [Act.put, List.setIfInBounds_toArray, List.set_cons_zero, List.set_cons_succ]
  refine hd_one 29 _ rfl (by kernel_rfl) (by decide) (fun K29 hK29 => ?_)
  go_simp
  refine (equalD_any o l o1 oc1 o2 oc2 l1 lc1 l2 lc2 Y2 (HNo14.out.below BY2.out) (HFo14.out.below BY2.out) (HNl14.out.below BY2.out) (HFl14.out.below BY2.out)).mono ?_
  rintro e Z2 ⟨rfl, bb⟩
  try dsimp only
  rw [show eqD o l = true by rw [EOL.out]; exact eqD_self l]
  have BZ2 := Lib.hid (st BY2.out bb BY2.out.size)
  have hSZ2 := HSS.out Z2 BZ2.out
  refine hK29.out _ _ hSZ2 ?_
  clear hK29 K29 hSY2 bb
  try simp only [Act.put, List.setIfInBounds_toArray, List.set_cons_zero, List.set_cons_succ]
  refine hd_taken 30 (some 99) _ ?hdvm30 rfl rfl (by kernel_rfl) (fun _ _ _ h => h) (Or.inl ⟨by kernel_rfl, ?hdym30⟩) hSZ2 ?hdrm30
  case hdym30 => (intro wx hx; (try dsimp only at hx); go_simp; try with_reducible rfl)
  try simp only [Act.put, List.setIfInBounds_toArray, List.set_cons_zero, List.set_cons_succ]
  refine hd_done (by kernel_rfl) ?_
  simp only [List.drop_succ_cons, List.drop_zero]
  have HBF := Lib.hid (HB14.out.trans (BZ2.out.mono HB14.out.size))
  go_wp2_with fail
  go_ret
  exact ⟨rfl, HBF.out⟩
end Go.Proofs.Ytiljagfjgefnnaa
