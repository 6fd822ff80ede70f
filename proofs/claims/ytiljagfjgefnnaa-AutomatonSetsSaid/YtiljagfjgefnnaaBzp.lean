/- Of the program: And, Or; what they hand over. -/
import Derived.Test.YtiljagfjgefnnaaBzo
namespace Go.Proofs.Ytiljagfjgefnnaa
open Go.RowKit
set_option linter.unusedVariables false

theorem GotB.form {B : Aut} {ok : Bool} {n : Nat} {w w' : World} {e : Ending} (h : GotB B ok n w e w') : ∃ (x1 : Option Addr) (n1 d1 : Nat) (x2 : Option Addr) (n2 d2 : Nat) (pe : Int), e = .returned (.tuple #[.agg #[.int .i64 0, .slice x1 n1 d1, .slice x2 n2 d2], .int .i64 pe]) := by
  rcases h.1 with ⟨_, h1⟩ | ⟨_, G, cl, k, LB, CB, AB, _, _, _, _, _, h1, _⟩
  · exact ⟨none, 0, 0, none, 0, 0, 1, h1⟩
  · exact ⟨_, _, _, _, _, _, 0, h1⟩
/-- A block that is older than what was made is written. -/
theorem GotB.put {B : Aut} {ok : Bool} {n b : Nat} {w w0 w' w2 : World} {e : Ending} (h : GotB B ok n w e w') (hg : w'.grownBy w2 (some b)) (hb : b < w.heap.size) (hw : w0.heap.size ≤ w.heap.size) (hb2 : Below w0.heap.size w0 w2) : GotB B ok n w0 e w2 := by
  refine ⟨?_, hb2⟩
  rcases h.1 with h1 | ⟨h1, G, cl, k, LB, CB, AB, h2, h3, h4, h5, h6, h7, h8⟩
  · exact .inl h1
  · exact .inr ⟨h1, G, cl, k, LB, CB, AB, h2, h3, h4, h5, h6, h7, (h8.grown hg (fun b' hb' e => by injection e with e; omega)).base hw⟩
theorem GotB.raws {B : Aut} {ok : Bool} {n : Nat} {w w' : World} {e : Ending} (hn : n ≤ 2000) (h : GotB B ok n w e w') : ∃ q pe, Raws q pe e w' ∧ GotRaw B ok n q pe := by
  rcases h.1 with ⟨h1, h2⟩ | ⟨h1, h2⟩
  · have h2 : e = .returned (.tuple #[.agg #[.int .i64 0, .slice none 0 0, .slice none 0 0], .int .i64 1]) := h2
    subst h2
    exact ⟨zeroR, 1, raws_zero 1 w', .inl ⟨h1, rfl, rfl⟩⟩
  · obtain ⟨q, x1, x2, _, _, _, he, hN, hF, hl, G, cl, k, hG, heq, hc, hs, hq⟩ := h2.raw hn
    refine ⟨q, 0, ⟨_, _, _, _, he, hN, hF⟩, .inr ⟨h1, rfl, ⟨G, cl, k, hG, heq, hc, hs, ?_, hq⟩, hl⟩⟩
    have : q.nx.length = k := by rw [hq]; show (List.map _ _).length = k; rw [List.length_map, outN_len]
    omega
theorem GotC2.gotB {r : RawD} {w w' : World} {e : Ending} (h : GotC2 r w e w') : GotB (compl (toA r)) (okD r) r.nx.length w e w' := h
theorem GotC2.raws {r : RawD} {w w' : World} {e : Ending} (h : GotC2 r w e w') : ∃ q pe, Raws q pe e w' ∧ GotRaw (compl (toA r)) (okD r) r.nx.length q pe := by
  cases hok : okD r with
  | true =>
    have := GotB.raws (okD_iff.1 hok).2 h.gotB
    rw [hok] at this
    exact this
  | false =>
    rcases h.1 with ⟨h1, h2⟩ | ⟨h1, h2⟩
    · have h2 : e = .returned (.tuple #[.agg #[.int .i64 0, .slice none 0 0, .slice none 0 0], .int .i64 1]) := h2
      subst h2
      exact ⟨zeroR, 1, raws_zero 1 w', .inl ⟨rfl, rfl, rfl⟩⟩
    · rw [hok] at h1; cases h1
set_option maxRecDepth 1000000 in
set_option maxHeartbeats 16000000 in
theorem andP_any (r s : RawD) (hrs : r.nx.length * s.nx.length ≤ 2000) (a1 : Option Addr) (c1 : Nat) (a2 : Option Addr) (c2 : Nat) (a3 : Option Addr) (c3 : Nat) (a4 : Option Addr) (c4 : Nat) (w : World) (hN : RdRows w (.slice a1 r.nx.length c1) r.nx) (hF : Rd 1 encO w (.slice a2 r.ac.length c2) r.ac) (hN2 : RdRows w (.slice a3 s.nx.length c3) s.nx) (hF2 : Rd 1 encO w (.slice a4 s.ac.length c4) s.ac) :
    Calls Try.prog 24 #[.agg #[.int .i64 r.st, .slice a1 r.nx.length c1, .slice a2 r.ac.length c2], .agg #[.int .i64 s.st, .slice a3 s.nx.length c3, .slice a4 s.ac.length c4]] w (GotB (prodA (toA r) (toA s) (fun x y => x && y)) (okD r && okD s) (r.nx.length * s.nx.length) w) := by
  have BA := (Below.refl w.heap.size w).alloc (Nat.le_refl _) (.cells #[.int .i64 r.st, .slice a1 r.nx.length c1, .slice a2 r.ac.length c2] 29)
  have BA1 := BA.alloc BA.size (.cells #[.int .i64 s.st, .slice a3 s.nx.length c3, .slice a4 s.ac.length c4] 29)
  have BB := BA1.alloc BA1.size (.cells #[.int .i64 0, .slice none 0 0, .slice none 0 0] 29)
  have k0 := ((Blk.new w 29 #[.int .i64 r.st, .slice a1 r.nx.length c1, .slice a2 r.ac.length c2]).alloc (.cells #[.int .i64 s.st, .slice a3 s.nx.length c3, .slice a4 s.ac.length c4] 29)).alloc (.cells #[.int .i64 0, .slice none 0 0, .slice none 0 0] 29)
  have k1 := (Blk.new (w.alloc (.cells #[.int .i64 r.st, .slice a1 r.nx.length c1, .slice a2 r.ac.length c2] 29)) 29 #[.int .i64 s.st, .slice a3 s.nx.length c3, .slice a4 s.ac.length c4]).alloc (.cells #[.int .i64 0, .slice none 0 0, .slice none 0 0] 29)
  have k2 := Blk.new ((w.alloc (.cells #[.int .i64 r.st, .slice a1 r.nx.length c1, .slice a2 r.ac.length c2] 29)).alloc (.cells #[.int .i64 s.st, .slice a3 s.nx.length c3, .slice a4 s.ac.length c4] 29)) 29 #[.int .i64 0, .slice none 0 0, .slice none 0 0]
  rw [World.size_alloc] at k1
  rw [World.size_alloc, World.size_alloc] at k2
  obtain ⟨W0, hW0⟩ : ∃ W0, ((w.alloc (.cells #[.int .i64 r.st, .slice a1 r.nx.length c1, .slice a2 r.ac.length c2] 29)).alloc (.cells #[.int .i64 s.st, .slice a3 s.nx.length c3, .slice a4 s.ac.length c4] 29)).alloc (.cells #[.int .i64 0, .slice none 0 0, .slice none 0 0] 29) = W0 := ⟨_, rfl⟩
  have HN := Lib.hid (hN.below BB)
  have HF := Lib.hid (hF.below BB)
  have HM := Lib.hid (hN2.below BB)
  have HG2 := Lib.hid (hF2.below BB)
  have HB := Lib.hid BB
  have K := Lib.hid k0
  have L := Lib.hid k1
  have KR := Lib.hid k2
  rw [hW0] at HN HF HM HG2 HB K L KR
  obtain ⟨g, hg⟩ : ∃ g, w.heap.size = g := ⟨_, rfl⟩
  have HG := Lib.hid hg
  have HW0 := Lib.hid hW0
  have HRS := Lib.hid hrs
  rw [hg] at K L KR
  replace KR : Hid (Blk (g + 2) 29 #[.int .i64 0, .slice none 0 0, .slice none 0 0] W0) := KR
  have f0 : W0.cell? ⟨g, 0, none⟩ = some (.int .i64 r.st) := K.out.cell 0
  have f1 : W0.cell? ⟨g, 1, none⟩ = some (.slice a1 r.nx.length c1) := K.out.cell 1
  have f2 : W0.cell? ⟨g, 2, none⟩ = some (.slice a2 r.ac.length c2) := K.out.cell 2
  have h0 : W0.cell? ⟨g + 1, 0, none⟩ = some (.int .i64 s.st) := L.out.cell 0
  have h1 : W0.cell? ⟨g + 1, 1, none⟩ = some (.slice a3 s.nx.length c3) := L.out.cell 1
  have h2 : W0.cell? ⟨g + 1, 2, none⟩ = some (.slice a4 s.ac.length c4) := L.out.cell 2
  have e3 : g + 1 + 1 = g + 2 := rfl
  clear hN hF hN2 hF2 BA BA1 BB k0 k1 k2 hW0 hg hrs
  go_enter Try.func24, Try.ntmps24
  go_upto_region 1 with fail
  rw [HW0.out, HG.out]
  try rw [e3]
  clear HW0 e3
  have HX := Lib.hid (combAnd_any r s HRS.out a1 c1 a2 c2 a3 c3 a4 c4 W0 HN.out HF.out HM.out HG2.out)
  go_wp2_with fail
  refine HX.out.mono ?_
  rintro e w2 hgot
  have HGOT := Lib.hid hgot
  obtain ⟨x1, n1, d1, x2, n2, d2, pe, rfl⟩ := hgot.form
  have KR2 := Lib.hid (Blk.below KR.out hgot.2)
  have xf := KR2.out.frozen
  have y0 : w2.cell? ⟨g + 2, 0, none⟩ = some (.int .i64 0) := KR2.out.cell 0
  have y1 : w2.cell? ⟨g + 2, 1, none⟩ = some (.slice none 0 0) := KR2.out.cell 1
  have y2 : w2.cell? ⟨g + 2, 2, none⟩ = some (.slice none 0 0) := KR2.out.cell 2
  have HFIN : Hid (Blk (g + 2) 29 #[.int .i64 0, .slice x1 n1 d1, .slice x2 n2 d2] (put3 w2 (g + 2) (.int .i64 0) (.slice x1 n1 d1) (.slice x2 n2 d2)) ∧ GotB (prodA (toA r) (toA s) (fun x y => x && y)) (okD r && okD s) (r.nx.length * s.nx.length) w (.returned (.tuple #[.agg #[.int .i64 0, .slice x1 n1 d1, .slice x2 n2 d2], .int .i64 pe])) (put3 w2 (g + 2) (.int .i64 0) (.slice x1 n1 d1) (.slice x2 n2 d2))) := Lib.hid (by
    obtain ⟨p1, p2⟩ := put3_ok (n := w.heap.size) (a' := .int .i64 0) (b' := .slice x1 n1 d1) (c' := .slice x2 n2 d2) KR2.out (by have := HG.out; omega)
    have hg := put3_grown w2 (g + 2) (.int .i64 0) (.slice x1 n1 d1) (.slice x2 n2 d2)
    exact ⟨p1, HGOT.out.put hg KR.out.lt HB.out.size ((HB.out.trans (HGOT.out.2.mono HB.out.size)).trans p2)⟩)
  clear hgot HGOT f0 f1 f2 h0 h1 h2
  go_wp2_with fail
  exact bodyPost_ret (v := .tuple #[.agg #[.int .i64 0, .slice x1 n1 d1, .slice x2 n2 d2], .int .i64 pe]) (resAN rfl rfl rfl rfl HFIN.out.1) rfl HFIN.out.2
set_option maxRecDepth 1000000 in
set_option maxHeartbeats 16000000 in
theorem orP_any (r s : RawD) (hrs : r.nx.length * s.nx.length ≤ 2000) (a1 : Option Addr) (c1 : Nat) (a2 : Option Addr) (c2 : Nat) (a3 : Option Addr) (c3 : Nat) (a4 : Option Addr) (c4 : Nat) (w : World) (hN : RdRows w (.slice a1 r.nx.length c1) r.nx) (hF : Rd 1 encO w (.slice a2 r.ac.length c2) r.ac) (hN2 : RdRows w (.slice a3 s.nx.length c3) s.nx) (hF2 : Rd 1 encO w (.slice a4 s.ac.length c4) s.ac) :
    Calls Try.prog 26 #[.agg #[.int .i64 r.st, .slice a1 r.nx.length c1, .slice a2 r.ac.length c2], .agg #[.int .i64 s.st, .slice a3 s.nx.length c3, .slice a4 s.ac.length c4]] w (GotB (prodA (toA r) (toA s) (fun x y => x || y)) (okD r && okD s) (r.nx.length * s.nx.length) w) := by
  have BA := (Below.refl w.heap.size w).alloc (Nat.le_refl _) (.cells #[.int .i64 r.st, .slice a1 r.nx.length c1, .slice a2 r.ac.length c2] 29)
  have BA1 := BA.alloc BA.size (.cells #[.int .i64 s.st, .slice a3 s.nx.length c3, .slice a4 s.ac.length c4] 29)
  have BB := BA1.alloc BA1.size (.cells #[.int .i64 0, .slice none 0 0, .slice none 0 0] 29)
  have k0 := ((Blk.new w 29 #[.int .i64 r.st, .slice a1 r.nx.length c1, .slice a2 r.ac.length c2]).alloc (.cells #[.int .i64 s.st, .slice a3 s.nx.length c3, .slice a4 s.ac.length c4] 29)).alloc (.cells #[.int .i64 0, .slice none 0 0, .slice none 0 0] 29)
  have k1 := (Blk.new (w.alloc (.cells #[.int .i64 r.st, .slice a1 r.nx.length c1, .slice a2 r.ac.length c2] 29)) 29 #[.int .i64 s.st, .slice a3 s.nx.length c3, .slice a4 s.ac.length c4]).alloc (.cells #[.int .i64 0, .slice none 0 0, .slice none 0 0] 29)
  have k2 := Blk.new ((w.alloc (.cells #[.int .i64 r.st, .slice a1 r.nx.length c1, .slice a2 r.ac.length c2] 29)).alloc (.cells #[.int .i64 s.st, .slice a3 s.nx.length c3, .slice a4 s.ac.length c4] 29)) 29 #[.int .i64 0, .slice none 0 0, .slice none 0 0]
  rw [World.size_alloc] at k1
  rw [World.size_alloc, World.size_alloc] at k2
  obtain ⟨W0, hW0⟩ : ∃ W0, ((w.alloc (.cells #[.int .i64 r.st, .slice a1 r.nx.length c1, .slice a2 r.ac.length c2] 29)).alloc (.cells #[.int .i64 s.st, .slice a3 s.nx.length c3, .slice a4 s.ac.length c4] 29)).alloc (.cells #[.int .i64 0, .slice none 0 0, .slice none 0 0] 29) = W0 := ⟨_, rfl⟩
  have HN := Lib.hid (hN.below BB)
  have HF := Lib.hid (hF.below BB)
  have HM := Lib.hid (hN2.below BB)
  have HG2 := Lib.hid (hF2.below BB)
  have HB := Lib.hid BB
  have K := Lib.hid k0
  have L := Lib.hid k1
  have KR := Lib.hid k2
  rw [hW0] at HN HF HM HG2 HB K L KR
  obtain ⟨g, hg⟩ : ∃ g, w.heap.size = g := ⟨_, rfl⟩
  have HG := Lib.hid hg
  have HW0 := Lib.hid hW0
  have HRS := Lib.hid hrs
  rw [hg] at K L KR
  replace KR : Hid (Blk (g + 2) 29 #[.int .i64 0, .slice none 0 0, .slice none 0 0] W0) := KR
  have f0 : W0.cell? ⟨g, 0, none⟩ = some (.int .i64 r.st) := K.out.cell 0
  have f1 : W0.cell? ⟨g, 1, none⟩ = some (.slice a1 r.nx.length c1) := K.out.cell 1
  have f2 : W0.cell? ⟨g, 2, none⟩ = some (.slice a2 r.ac.length c2) := K.out.cell 2
  have h0 : W0.cell? ⟨g + 1, 0, none⟩ = some (.int .i64 s.st) := L.out.cell 0
  have h1 : W0.cell? ⟨g + 1, 1, none⟩ = some (.slice a3 s.nx.length c3) := L.out.cell 1
  have h2 : W0.cell? ⟨g + 1, 2, none⟩ = some (.slice a4 s.ac.length c4) := L.out.cell 2
  have e3 : g + 1 + 1 = g + 2 := rfl
  clear hN hF hN2 hF2 BA BA1 BB k0 k1 k2 hW0 hg hrs
  go_enter Try.func26, Try.ntmps26
  go_upto_region 1 with fail
  rw [HW0.out, HG.out]
  try rw [e3]
  clear HW0 e3
  have HX := Lib.hid (combOr_any r s HRS.out a1 c1 a2 c2 a3 c3 a4 c4 W0 HN.out HF.out HM.out HG2.out)
  go_wp2_with fail
  refine HX.out.mono ?_
  rintro e w2 hgot
  have HGOT := Lib.hid hgot
  obtain ⟨x1, n1, d1, x2, n2, d2, pe, rfl⟩ := hgot.form
  have KR2 := Lib.hid (Blk.below KR.out hgot.2)
  have xf := KR2.out.frozen
  have y0 : w2.cell? ⟨g + 2, 0, none⟩ = some (.int .i64 0) := KR2.out.cell 0
  have y1 : w2.cell? ⟨g + 2, 1, none⟩ = some (.slice none 0 0) := KR2.out.cell 1
  have y2 : w2.cell? ⟨g + 2, 2, none⟩ = some (.slice none 0 0) := KR2.out.cell 2
  have HFIN : Hid (Blk (g + 2) 29 #[.int .i64 0, .slice x1 n1 d1, .slice x2 n2 d2] (put3 w2 (g + 2) (.int .i64 0) (.slice x1 n1 d1) (.slice x2 n2 d2)) ∧ GotB (prodA (toA r) (toA s) (fun x y => x || y)) (okD r && okD s) (r.nx.length * s.nx.length) w (.returned (.tuple #[.agg #[.int .i64 0, .slice x1 n1 d1, .slice x2 n2 d2], .int .i64 pe])) (put3 w2 (g + 2) (.int .i64 0) (.slice x1 n1 d1) (.slice x2 n2 d2))) := Lib.hid (by
    obtain ⟨p1, p2⟩ := put3_ok (n := w.heap.size) (a' := .int .i64 0) (b' := .slice x1 n1 d1) (c' := .slice x2 n2 d2) KR2.out (by have := HG.out; omega)
    have hg := put3_grown w2 (g + 2) (.int .i64 0) (.slice x1 n1 d1) (.slice x2 n2 d2)
    exact ⟨p1, HGOT.out.put hg KR.out.lt HB.out.size ((HB.out.trans (HGOT.out.2.mono HB.out.size)).trans p2)⟩)
  clear hgot HGOT f0 f1 f2 h0 h1 h2
  go_wp2_with fail
  exact bodyPost_ret (v := .tuple #[.agg #[.int .i64 0, .slice x1 n1 d1, .slice x2 n2 d2], .int .i64 pe]) (resAN rfl rfl rfl rfl HFIN.out.1) rfl HFIN.out.2
/-! ### The laws of sets -/
theorem morgan_eqv {A B X Y : Aut} (hA : A.Ok) (hB : B.Ok) (hX : X.Ok) (hY : Y.Ok) (h1 : Eqv X (compl A) X.s0 (compl A).s0) (h2 : Eqv Y (compl B) Y.s0 (compl B).s0) : Eqv (prodA X Y (fun x y => x && y)) (compl (prodA A B (fun x y => x || y))) (prodA X Y (fun x y => x && y)).s0 (compl (prodA A B (fun x y => x || y))).s0 := fun w hw => by
  rw [prod_start hX hY hw, compl_acc, show (compl (prodA A B fun x y => x || y)).s0 = (prodA A B fun x y => x || y).s0 from rfl, prod_start hA hB hw, h1 w hw, h2 w hw, compl_acc, compl_acc]
  show (!A.acc A.s0 w && !B.acc B.s0 w) = !(A.acc A.s0 w || B.acc B.s0 w)
  cases A.acc A.s0 w <;> cases B.acc B.s0 w <;> rfl
theorem and_never {A X : Aut} (hA : A.Ok) (hX : X.Ok) (h1 : Eqv X (compl A) X.s0 (compl A).s0) : Never (prodA A X (fun x y => x && y)) := fun w hw => by
  rw [prod_start hA hX hw, h1 w hw, compl_acc]
  show (A.acc A.s0 w && !A.acc A.s0 w) = false
  cases A.acc A.s0 w <;> rfl
end Go.Proofs.Ytiljagfjgefnnaa
