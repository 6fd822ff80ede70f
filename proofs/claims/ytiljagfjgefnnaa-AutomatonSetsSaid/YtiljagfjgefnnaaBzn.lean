/- Of the program: combine, And, Or. -/
import Derived.Test.YtiljagfjgefnnaaBzm
namespace Go.Proofs.Ytiljagfjgefnnaa
open Go.RowKit
set_option linter.unusedVariables false

theorem GotQ.raws3 {r : RawD} {w w' : World} {e : Ending} (h : GotQ r w e w') (hok : okD r = true) : ∃ (q : RawD) (a1 : Option Addr) (c1 : Nat) (a2 : Option Addr) (c2 : Nat), e = .returned (.tuple #[.agg #[.int .i64 q.st, .slice a1 q.nx.length c1, .slice a2 q.ac.length c2], .int .i64 0]) ∧ IsMin (toA r) q ∧ (∀ (wx : World) (X : Nat → Prop), Fr X w' wx → (∀ b, X b → b < w.heap.size) → RdRows wx (.slice a1 q.nx.length c1) q.nx ∧ Rd 1 encO wx (.slice a2 q.ac.length c2) q.ac) ∧ q.nx.length ≤ r.nx.length := by
  rcases h.1 with ⟨h1, _⟩ | ⟨h1, G, cl, k, LB, CB, AB, hG, heq, hcl, hst, hkn, he, hmd⟩
  · rw [hok] at h1; cases h1
  · have hn := (okD_iff.1 h1).2
    have hl : (mkR (outN G cl k) (outF G cl k)).nx.length = k := by show (List.map _ _).length = k; rw [List.length_map, outN_len]
    have ha : (mkR (outN G cl k) (outF G cl k)).ac.length = k := outF_len _ _ _
    refine ⟨mkR (outN G cl k) (outF G cl k), some ⟨LB, 0, none⟩, k, some ⟨AB, 0, none⟩, k, by rw [he, hl, ha]; rfl, ⟨G, cl, k, hG, heq, hcl, hst, by omega, rfl⟩, fun wx X hg hne => ?_, by rw [hl]; exact hkn⟩
    exact made_rows ⟨hg.fn hmd.l (fun h => by have := hne _ h; have := hmd.lL; omega), hg.fn hmd.c (fun h => by have := hne _ h; have := hmd.lC; omega), hg.fn hmd.a (fun h => by have := hne _ h; have := hmd.lA; omega), hmd.lL, hmd.lC, hmd.lA⟩ (by omega) (outN_len _ _ _) (fun x hx => by
      unfold outN at hx
      obtain ⟨i, _, rfl⟩ := List.mem_map.1 hx
      exact rowK_len _ _ _ _ 11) (outF_len _ _ _)
theorem IsMin.stz {B : Aut} {q : RawD} (h : IsMin B q) : q.st = 0 := by
  obtain ⟨G, cl, k, _, _, _, _, _, rfl⟩ := h
  rfl
theorem prod_eqv {A A' B B' : Aut} {g : Bool → Bool → Bool} (hA : A.Ok) (hA' : A'.Ok) (hB : B.Ok) (hB' : B'.Ok) (h1 : Eqv A A' A.s0 A'.s0) (h2 : Eqv B B' B.s0 B'.s0) : Eqv (prodA A B g) (prodA A' B' g) (prodA A B g).s0 (prodA A' B' g).s0 := fun w hw => by
  rw [prod_start hA hB hw, prod_start hA' hB' hw, h1 w hw, h2 w hw]
theorem div_lt_of {x n k : Nat} (h : x < n * k) : x / k < n ∧ x % k < k := by
  have hk : 0 < k := Nat.pos_of_ne_zero (fun e => by subst e; simp at h)
  exact ⟨(Nat.div_lt_iff_lt_mul hk).2 h, Nat.mod_lt _ hk⟩
/-- Some minimal automaton or ErrArg. -/
def GotB (B : Aut) (ok : Bool) (n : Nat) (w : World) (e : Ending) (w' : World) : Prop := ((ok = false ∧ GotZ e) ∨ (ok = true ∧ GotP B w.heap.size n e w')) ∧ Below w.heap.size w w'
theorem resCB {W : World} {tm : Array Value} {B : Nat} {t : TypeId} {a b c x : Value} (t2 : tm[6]?.getD undef = .pointer (some ⟨B, 0, none⟩)) (t3 : tm[7]?.getD undef = x) (h : Blk B t #[a, b, c] W) :
    (results Try.f42 tm).run Try.prog W = .ok (.tuple #[.agg #[a, b, c], x]) W := by
  have a0 : W.cell? ⟨B, 0, none⟩ = some a := h.cell 0
  have a1 : W.cell? ⟨B, 1, none⟩ = some b := h.cell 1
  have a2 : W.cell? ⟨B, 2, none⟩ = some c := h.cell 2
  simp [results, Try.f42, go_sem, t2, t3, a0, a1, a2]
theorem resAN {f : Func} {W : World} {tm : Array Value} {B : Nat} {t t0 : TypeId} {a b c x : Value} (hf : f.results = #[.cell 4 t0, .tmp 5]) (h9 : t0 = 29) (t2 : tm[4]?.getD undef = .pointer (some ⟨B, 0, none⟩)) (t3 : tm[5]?.getD undef = x) (h : Blk B t #[a, b, c] W) :
    (results f tm).run Try.prog W = .ok (.tuple #[.agg #[a, b, c], x]) W := by
  subst h9
  have a0 : W.cell? ⟨B, 0, none⟩ = some a := h.cell 0
  have a1 : W.cell? ⟨B, 1, none⟩ = some b := h.cell 1
  have a2 : W.cell? ⟨B, 2, none⟩ = some c := h.cell 2
  simp [results, hf, go_sem, t2, t3, a0, a1, a2]
set_option maxRecDepth 1000000 in
set_option maxHeartbeats 16000000 in
theorem combAnd_any (r s : RawD) (hrs : r.nx.length * s.nx.length ≤ 2000) (a1 : Option Addr) (c1 : Nat) (a2 : Option Addr) (c2 : Nat) (a3 : Option Addr) (c3 : Nat) (a4 : Option Addr) (c4 : Nat) (w : World) (hN : RdRows w (.slice a1 r.nx.length c1) r.nx) (hF : Rd 1 encO w (.slice a2 r.ac.length c2) r.ac) (hN2 : RdRows w (.slice a3 s.nx.length c3) s.nx) (hF2 : Rd 1 encO w (.slice a4 s.ac.length c4) s.ac) :
    Calls Try.prog 42 #[.agg #[.int .i64 r.st, .slice a1 r.nx.length c1, .slice a2 r.ac.length c2], .agg #[.int .i64 s.st, .slice a3 s.nx.length c3, .slice a4 s.ac.length c4], .func (.func 43) #[] #[]] w (GotB (prodA (toA r) (toA s) (fun x y => x && y)) (okD r && okD s) (r.nx.length * s.nx.length) w) := by
  have BA := (Below.refl w.heap.size w).alloc (Nat.le_refl _) (.cells #[.int .i64 r.st, .slice a1 r.nx.length c1, .slice a2 r.ac.length c2] 29)
  have BA1 := BA.alloc BA.size (.cells #[.int .i64 s.st, .slice a3 s.nx.length c3, .slice a4 s.ac.length c4] 29)
  have BA2 := BA1.alloc BA1.size (.cells #[.func (.func 43) #[] #[]] 67)
  have BB := BA2.alloc BA2.size (.cells #[.int .i64 0, .slice none 0 0, .slice none 0 0] 29)
  have k0 := (((Blk.new w 29 #[.int .i64 r.st, .slice a1 r.nx.length c1, .slice a2 r.ac.length c2]).alloc (.cells #[.int .i64 s.st, .slice a3 s.nx.length c3, .slice a4 s.ac.length c4] 29)).alloc (.cells #[.func (.func 43) #[] #[]] 67)).alloc (.cells #[.int .i64 0, .slice none 0 0, .slice none 0 0] 29)
  have k1 := ((Blk.new (w.alloc (.cells #[.int .i64 r.st, .slice a1 r.nx.length c1, .slice a2 r.ac.length c2] 29)) 29 #[.int .i64 s.st, .slice a3 s.nx.length c3, .slice a4 s.ac.length c4]).alloc (.cells #[.func (.func 43) #[] #[]] 67)).alloc (.cells #[.int .i64 0, .slice none 0 0, .slice none 0 0] 29)
  have k2 := (Blk.new ((w.alloc (.cells #[.int .i64 r.st, .slice a1 r.nx.length c1, .slice a2 r.ac.length c2] 29)).alloc (.cells #[.int .i64 s.st, .slice a3 s.nx.length c3, .slice a4 s.ac.length c4] 29)) 67 #[.func (.func 43) #[] #[]]).alloc (.cells #[.int .i64 0, .slice none 0 0, .slice none 0 0] 29)
  have k3 := Blk.new (((w.alloc (.cells #[.int .i64 r.st, .slice a1 r.nx.length c1, .slice a2 r.ac.length c2] 29)).alloc (.cells #[.int .i64 s.st, .slice a3 s.nx.length c3, .slice a4 s.ac.length c4] 29)).alloc (.cells #[.func (.func 43) #[] #[]] 67)) 29 #[.int .i64 0, .slice none 0 0, .slice none 0 0]
  rw [World.size_alloc] at k1
  rw [World.size_alloc, World.size_alloc] at k2
  rw [World.size_alloc, World.size_alloc, World.size_alloc] at k3
  obtain ⟨W0, hW0⟩ : ∃ W0, (((w.alloc (.cells #[.int .i64 r.st, .slice a1 r.nx.length c1, .slice a2 r.ac.length c2] 29)).alloc (.cells #[.int .i64 s.st, .slice a3 s.nx.length c3, .slice a4 s.ac.length c4] 29)).alloc (.cells #[.func (.func 43) #[] #[]] 67)).alloc (.cells #[.int .i64 0, .slice none 0 0, .slice none 0 0] 29) = W0 := ⟨_, rfl⟩
  have HN0 := Lib.hid hN
  have HF0 := Lib.hid hF
  have HM0 := Lib.hid hN2
  have HG0 := Lib.hid hF2
  have HN := Lib.hid (hN.below BB)
  have HF := Lib.hid (hF.below BB)
  have HM := Lib.hid (hN2.below BB)
  have HG2 := Lib.hid (hF2.below BB)
  have HB := Lib.hid BB
  have K := Lib.hid k0
  have L := Lib.hid k1
  have KF := Lib.hid k2
  have KR := Lib.hid k3
  rw [hW0] at HN HF HM HG2 HB K L KF KR
  obtain ⟨g, hg⟩ : ∃ g, w.heap.size = g := ⟨_, rfl⟩
  have HG := Lib.hid hg
  have HW0 := Lib.hid hW0
  have HRS := Lib.hid hrs
  rw [hg] at K L KF KR
  replace KF : Hid (Blk (g + 2) 67 #[.func (.func 43) #[] #[]] W0) := KF
  replace KR : Hid (Blk (g + 3) 29 #[.int .i64 0, .slice none 0 0, .slice none 0 0] W0) := KR
  have f0 : W0.cell? ⟨g, 0, none⟩ = some (.int .i64 r.st) := K.out.cell 0
  have f1 : W0.cell? ⟨g, 1, none⟩ = some (.slice a1 r.nx.length c1) := K.out.cell 1
  have f2 : W0.cell? ⟨g, 2, none⟩ = some (.slice a2 r.ac.length c2) := K.out.cell 2
  have e3 : g + 1 + 1 = g + 2 := rfl
  have e4 : g + 1 + 1 + 1 = g + 3 := rfl
  clear hN hF hN2 hF2 BA BA1 BA2 BB k0 k1 k2 k3 hW0 hg hrs
  go_enter Try.func42, Try.ntmps42
  go_upto_region 1 with fail
  rw [HW0.out, HG.out]
  try rw [e4]
  try rw [e3]
  clear HW0 e3 e4
  have HV := Lib.hid (validP_any r a1 c1 a2 c2 W0 HN.out HF.out)
  go_wp2_with fail
  refine HV.out.mono ?_
  rintro e w1 ⟨rfl, b1⟩
  have HN1 := Lib.hid (HN.out.below b1)
  have HF1 := Lib.hid (HF.out.below b1)
  have HM1 := Lib.hid (HM.out.below b1)
  have HG1 := Lib.hid (HG2.out.below b1)
  have HB1 := Lib.hid (st HB.out b1 HB.out.size)
  have K1 := Lib.hid (Blk.below K.out b1)
  have L1 := Lib.hid (Blk.below L.out b1)
  have KF1 := Lib.hid (Blk.below KF.out b1)
  have KR1 := Lib.hid (Blk.below KR.out b1)
  have z1 := b1.size
  clear b1 f0 f1 f2 HV
  cases hok : okD r with
  | false =>
    have HOK := Lib.hid hok
    have xf := KR1.out.frozen
    have y0 : w1.cell? ⟨g + 3, 0, none⟩ = some (.int .i64 0) := KR1.out.cell 0
    have y1 : w1.cell? ⟨g + 3, 1, none⟩ = some (.slice none 0 0) := KR1.out.cell 1
    have y2 : w1.cell? ⟨g + 3, 2, none⟩ = some (.slice none 0 0) := KR1.out.cell 2
    have HFIN : Hid (Blk (g + 3) 29 #[.int .i64 0, .slice none 0 0, .slice none 0 0] (put3 w1 (g + 3) (.int .i64 0) (.slice none 0 0) (.slice none 0 0)) ∧ GotB (prodA (toA r) (toA s) (fun x y => x && y)) (okD r && okD s) (r.nx.length * s.nx.length) w (.returned (.tuple #[.agg #[.int .i64 0, .slice none 0 0, .slice none 0 0], .int .i64 1])) (put3 w1 (g + 3) (.int .i64 0) (.slice none 0 0) (.slice none 0 0))) := Lib.hid (by
      obtain ⟨p1, p2⟩ := put3_ok (n := w.heap.size) (a' := .int .i64 0) (b' := .slice none 0 0) (c' := .slice none 0 0) KR1.out (by have := HG.out; omega)
      exact ⟨p1, .inl ⟨by rw [HOK.out]; rfl, rfl⟩, HB1.out.trans p2⟩)
    clear hok
    go_wp2_with fail
    exact bodyPost_ret (v := .tuple #[.agg #[.int .i64 0, .slice none 0 0, .slice none 0 0], .int .i64 1]) (resCB rfl rfl HFIN.out.1) rfl HFIN.out.2
  | true =>
  have HOK := Lib.hid hok
  clear hok
  have f0 : w1.cell? ⟨g + 1, 0, none⟩ = some (.int .i64 s.st) := L1.out.cell 0
  have f1 : w1.cell? ⟨g + 1, 1, none⟩ = some (.slice a3 s.nx.length c3) := L1.out.cell 1
  have f2 : w1.cell? ⟨g + 1, 2, none⟩ = some (.slice a4 s.ac.length c4) := L1.out.cell 2
  have HV := Lib.hid (validP_any s a3 c3 a4 c4 w1 HM1.out HG1.out)
  go_wp2_with fail
  refine HV.out.mono ?_
  rintro e w2 ⟨rfl, b2⟩
  have HN2 := Lib.hid (HN1.out.below b2)
  have HF2 := Lib.hid (HF1.out.below b2)
  have HM2 := Lib.hid (HM1.out.below b2)
  have HG3 := Lib.hid (HG1.out.below b2)
  have HB2 := Lib.hid (st HB1.out b2 HB1.out.size)
  have K2 := Lib.hid (Blk.below K1.out b2)
  have L2 := Lib.hid (Blk.below L1.out b2)
  have KF2 := Lib.hid (Blk.below KF1.out b2)
  have KR2 := Lib.hid (Blk.below KR1.out b2)
  have z2 := b2.size
  clear b2 f0 f1 f2 HV HN1 HF1 HM1 HG1 HB1 K1 L1 KF1 KR1
  cases hok : okD s with
  | false =>
    have HOK2 := Lib.hid hok
    have xf := KR2.out.frozen
    have y0 : w2.cell? ⟨g + 3, 0, none⟩ = some (.int .i64 0) := KR2.out.cell 0
    have y1 : w2.cell? ⟨g + 3, 1, none⟩ = some (.slice none 0 0) := KR2.out.cell 1
    have y2 : w2.cell? ⟨g + 3, 2, none⟩ = some (.slice none 0 0) := KR2.out.cell 2
    have HFIN : Hid (Blk (g + 3) 29 #[.int .i64 0, .slice none 0 0, .slice none 0 0] (put3 w2 (g + 3) (.int .i64 0) (.slice none 0 0) (.slice none 0 0)) ∧ GotB (prodA (toA r) (toA s) (fun x y => x && y)) (okD r && okD s) (r.nx.length * s.nx.length) w (.returned (.tuple #[.agg #[.int .i64 0, .slice none 0 0, .slice none 0 0], .int .i64 1])) (put3 w2 (g + 3) (.int .i64 0) (.slice none 0 0) (.slice none 0 0))) := Lib.hid (by
      obtain ⟨p1, p2⟩ := put3_ok (n := w.heap.size) (a' := .int .i64 0) (b' := .slice none 0 0) (c' := .slice none 0 0) KR2.out (by have := HG.out; omega)
      exact ⟨p1, .inl ⟨by rw [HOK.out, HOK2.out]; rfl, rfl⟩, HB2.out.trans p2⟩)
    clear hok
    go_wp2_with fail
    exact bodyPost_ret (v := .tuple #[.agg #[.int .i64 0, .slice none 0 0, .slice none 0 0], .int .i64 1]) (resCB rfl rfl HFIN.out.1) rfl HFIN.out.2
  | true =>
  have HOK2 := Lib.hid hok
  clear hok
  have f0 : w2.cell? ⟨g, 0, none⟩ = some (.int .i64 r.st) := K2.out.cell 0
  have f1 : w2.cell? ⟨g, 1, none⟩ = some (.slice a1 r.nx.length c1) := K2.out.cell 1
  have f2 : w2.cell? ⟨g, 2, none⟩ = some (.slice a2 r.ac.length c2) := K2.out.cell 2
  have HMP := Lib.hid (minP_any r a1 c1 a2 c2 w2 HN2.out HF2.out)
  have hgw : w.heap.size ≤ g := by have := HG.out; omega
  have HGW := Lib.hid hgw
  have hg2 : g + 3 < w2.heap.size := KR2.out.lt
  have HG2S := Lib.hid hg2
  clear z1 z2 hgw hg2
  go_wp2_with fail
  refine HMP.out.mono ?_
  rintro e w3 hgot
  have b3 := hgot.2
  obtain ⟨p, x1, y1, x2, y2, rfl, hmin, hrd, hpn⟩ := hgot.raws3 HOK.out
  have HMIN := Lib.hid hmin
  have HRD := Lib.hid hrd
  have HPN := Lib.hid hpn
  have K3 := Lib.hid (Blk.below K2.out b3)
  have L3 := Lib.hid (Blk.below L2.out b3)
  have KF3 := Lib.hid (Blk.below KF2.out b3)
  have KR3 := Lib.hid (Blk.below KR2.out b3)
  have B3 := Lib.hid (HB2.out.trans (b3.mono HB2.out.size))
  have xf := K3.out.frozen
  have y0' : w3.cell? ⟨g, 0, none⟩ = some (.int .i64 r.st) := K3.out.cell 0
  have y1' : w3.cell? ⟨g, 1, none⟩ = some (.slice a1 r.nx.length c1) := K3.out.cell 1
  have y2' : w3.cell? ⟨g, 2, none⟩ = some (.slice a2 r.ac.length c2) := K3.out.cell 2
  clear hgot hmin hrd HMP f0 f1 f2 b3 hpn
  go_upto_region 4 with fail
  obtain ⟨w4, hw4⟩ : ∃ w4, ((w3.setCell ⟨g, 0, none⟩ (.int .i64 p.st)).setCell ⟨g, 1, none⟩ (.slice x1 p.nx.length y1)).setCell ⟨g, 2, none⟩ (.slice x2 p.ac.length y2) = w4 := ⟨_, rfl⟩
  have gr := ((grown_set w3 g 0 (.int .i64 p.st)).trans (grown_set _ g 1 (.slice x1 p.nx.length y1))).trans (grown_set _ g 2 (.slice x2 p.ac.length y2))
  have k4 := ((K3.out.put 0 (.int .i64 p.st)).put 1 (.slice x1 p.nx.length y1)).put 2 (.slice x2 p.ac.length y2)
  have b4 := ((B3.out.setCell (p := ⟨g, 0, none⟩) HGW.out (.int .i64 p.st)).setCell (p := ⟨g, 1, none⟩) HGW.out (.slice x1 p.nx.length y1)).setCell (p := ⟨g, 2, none⟩) HGW.out (.slice x2 p.ac.length y2)
  rw [hw4] at gr k4 b4 ⊢
  replace k4 : Blk g 29 #[.int .i64 p.st, .slice x1 p.nx.length y1, .slice x2 p.ac.length y2] w4 := k4
  have K4 := Lib.hid k4
  have L4 : Hid (Blk (g + 1) 29 #[.int .i64 s.st, .slice a3 s.nx.length c3, .slice a4 s.ac.length c4] w4) := Lib.hid ((gr.block (g + 1) L3.out.lt (by intro e; injection e with e; omega)).trans L3.out)
  have KF4 : Hid (Blk (g + 2) 67 #[.func (.func 43) #[] #[]] w4) := Lib.hid ((gr.block (g + 2) KF3.out.lt (by intro e; injection e with e; omega)).trans KF3.out)
  have KR4 : Hid (Blk (g + 3) 29 #[.int .i64 0, .slice none 0 0, .slice none 0 0] w4) := Lib.hid ((gr.block (g + 3) KR3.out.lt (by intro e; injection e with e; omega)).trans KR3.out)
  have FR4 : Hid (Fr (fun b => b = g ∨ b = g + 1) w3 w4) := Lib.hid (Fr.grown gr (fun k e => by injection e with e; exact .inl e.symm))
  have B4 := Lib.hid b4
  have HM4 := Lib.hid (HM0.out.below b4)
  have HG4 := Lib.hid (HG0.out.below b4)
  have f0 : w4.cell? ⟨g + 1, 0, none⟩ = some (.int .i64 s.st) := L4.out.cell 0
  have f1 : w4.cell? ⟨g + 1, 1, none⟩ = some (.slice a3 s.nx.length c3) := L4.out.cell 1
  have f2 : w4.cell? ⟨g + 1, 2, none⟩ = some (.slice a4 s.ac.length c4) := L4.out.cell 2
  have HMP := Lib.hid (minP_any s a3 c3 a4 c4 w4 HM4.out HG4.out)
  have HG4S : Hid (g + 3 < w4.heap.size) := Lib.hid KR4.out.lt
  clear gr k4 b4 hw4 xf y0' y1' y2'
  go_wp2_with fail
  refine HMP.out.mono ?_
  rintro e w5 hgot
  have b5 := hgot.2
  obtain ⟨q, x3, y3, x4, y4, rfl, hmin, hrd, hqn⟩ := hgot.raws3 HOK2.out
  have HMIN2 := Lib.hid hmin
  have HRD2 := Lib.hid hrd
  have HQN := Lib.hid hqn
  have K5 := Lib.hid (Blk.below K4.out b5)
  have L5 := Lib.hid (Blk.below L4.out b5)
  have KF5 := Lib.hid (Blk.below KF4.out b5)
  have KR5 := Lib.hid (Blk.below KR4.out b5)
  have B5 := Lib.hid (B4.out.trans (b5.mono B4.out.size))
  have xf := L5.out.frozen
  have y0' : w5.cell? ⟨g + 1, 0, none⟩ = some (.int .i64 s.st) := L5.out.cell 0
  have y1' : w5.cell? ⟨g + 1, 1, none⟩ = some (.slice a3 s.nx.length c3) := L5.out.cell 1
  have y2' : w5.cell? ⟨g + 1, 2, none⟩ = some (.slice a4 s.ac.length c4) := L5.out.cell 2
  have FR5 : Hid (Fr (fun b => b = g ∨ b = g + 1) w3 w5) := Lib.hid (FR4.out.trans (Fr.of_below (X := fun _ => False) b5) (fun _ _ e => e.elim))
  clear hgot hmin hrd HMP f0 f1 f2 b5 hqn
  go_upto_region 5 with fail
  obtain ⟨w6, hw6⟩ : ∃ w6, ((w5.setCell ⟨g + 1, 0, none⟩ (.int .i64 q.st)).setCell ⟨g + 1, 1, none⟩ (.slice x3 q.nx.length y3)).setCell ⟨g + 1, 2, none⟩ (.slice x4 q.ac.length y4) = w6 := ⟨_, rfl⟩
  have gr := ((grown_set w5 (g + 1) 0 (.int .i64 q.st)).trans (grown_set _ (g + 1) 1 (.slice x3 q.nx.length y3))).trans (grown_set _ (g + 1) 2 (.slice x4 q.ac.length y4))
  have l6 := ((L5.out.put 0 (.int .i64 q.st)).put 1 (.slice x3 q.nx.length y3)).put 2 (.slice x4 q.ac.length y4)
  have hg1 : w.heap.size ≤ g + 1 := by have := HGW.out; omega
  have b6 := ((B5.out.setCell (p := ⟨g + 1, 0, none⟩) hg1 (.int .i64 q.st)).setCell (p := ⟨g + 1, 1, none⟩) hg1 (.slice x3 q.nx.length y3)).setCell (p := ⟨g + 1, 2, none⟩) hg1 (.slice x4 q.ac.length y4)
  rw [hw6] at gr l6 b6 ⊢
  replace l6 : Blk (g + 1) 29 #[.int .i64 q.st, .slice x3 q.nx.length y3, .slice x4 q.ac.length y4] w6 := l6
  have L6 := Lib.hid l6
  have FR56 : Fr (fun b => b = g ∨ b = g + 1) w5 w6 := Fr.grown gr (fun k e => by injection e with e; exact .inr e.symm)
  have P6 := Lib.hid (HRD.out w6 _ (FR5.out.trans FR56 (fun _ _ e => e)) (fun b hb => by have := HG2S.out; omega))
  have Q6 := Lib.hid (HRD2.out w6 _ FR56 (fun b hb => by have := HG4S.out; omega))
  have K6 : Hid (Blk g 29 #[.int .i64 p.st, .slice x1 p.nx.length y1, .slice x2 p.ac.length y2] w6) := Lib.hid ((gr.block g K5.out.lt (by intro e; injection e with e; omega)).trans K5.out)
  have KF6 : Hid (Blk (g + 2) 67 #[.func (.func 43) #[] #[]] w6) := Lib.hid ((gr.block (g + 2) KF5.out.lt (by intro e; injection e with e; omega)).trans KF5.out)
  have KR6 : Hid (Blk (g + 3) 29 #[.int .i64 0, .slice none 0 0, .slice none 0 0] w6) := Lib.hid ((gr.block (g + 3) KR5.out.lt (by intro e; injection e with e; omega)).trans KR5.out)
  have B6 := Lib.hid b6
  have HP := Lib.hid (okD_iff.1 HMIN.out.ok).1
  have HQ := Lib.hid (okD_iff.1 HMIN2.out.ok).1
  have HPO : Hid ((prodA (toA p) (toA q) (fun x y => x && y)).Ok) := Lib.hid (prod_ok HP.out.ok HQ.out.ok)
  have HPQ : Hid (p.nx.length * q.nx.length ≤ r.nx.length * s.nx.length) := Lib.hid (Nat.mul_le_mul HPN.out HQN.out)
  have HX := Lib.hid (exploreP_any (prodA (toA p) (toA q) (fun x y => x && y)) HPO.out q.nx.length (p.nx.length * q.nx.length) rfl (by show p.st.toNat * _ + q.st.toNat = 0; rw [HMIN.out.stz, HMIN2.out.stz]; simp) (by have := HPQ.out; have := HRS.out; omega) (.pointer (some ⟨g, 0, none⟩)) (.pointer (some ⟨g + 1, 0, none⟩)) (.pointer (some ⟨g + 2, 0, none⟩)) (.pointer (some ⟨g, 0, none⟩)) (.pointer (some ⟨g + 1, 0, none⟩)) w6
    (fun wx hb x c hx hc => by
      obtain ⟨h1, h2⟩ := div_lt_of hx
      have hd2 : (toA q).d (x % q.nx.length) c < q.nx.length := HQ.out.ok.go _ _ h2 hc
      refine (step2_any p q HP.out HQ.out g (g + 1) x1 y1 x2 y2 x3 y3 x4 y4 wx (Blk.below K6.out hb) (Blk.below L6.out hb) (P6.out.1.below hb) (Q6.out.1.below hb) (x / q.nx.length) (x % q.nx.length) c h1 h2 hc).mono ?_
      rintro e w' ⟨rfl, hb'⟩
      refine ⟨?_, hb'⟩
      have e1 : (prodA (toA p) (toA q) (fun x y => x && y)).d x c = (toA p).d (x / q.nx.length) c * q.nx.length + (toA q).d (x % q.nx.length) c := rfl
      rw [e1, pair_div hd2, pair_mod hd2])
    (fun wx hb x hx => by
      obtain ⟨h1, h2⟩ := div_lt_of hx
      exact accAnd_any (fun x y => x && y) (fun x y wx => and_any x y wx) p q HP.out HQ.out g (g + 1) (g + 2) 67 x1 y1 x2 y2 x3 y3 x4 y4 wx (Blk.below KF6.out hb) (Blk.below K6.out hb) (Blk.below L6.out hb) (P6.out.2.below hb) (Q6.out.2.below hb) (x / q.nx.length) (x % q.nx.length) h1 h2))
  clear gr l6 b6 hw6 FR56 xf y0' y1' y2' hg1
  go_wp2_with fail
  refine HX.out.mono ?_
  rintro e w7 ⟨m, b1, d1, b2, d2, hst, rfl, hn, hf, hb⟩
  have HST := Lib.hid hst
  have hmle : m ≤ p.nx.length * q.nx.length := hst.le HPO.out
  have hrs := HRS.out
  have hpq := HPQ.out
  have HMLE := Lib.hid hmle
  have HMG := Lib.hid (minimalG_any (minA (prodA (toA p) (toA q) (fun x y => x && y)) id m) hst.minOk hst.bf m (minA_n _ _ _) (by omega) (outN (prodA (toA p) (toA q) (fun x y => x && y)) id m) (outN_len _ _ _) (fun s c _ _ => rfl) (outF (prodA (toA p) (toA q) (fun x y => x && y)) id m) (outF_len _ _ _) (fun s _ => rfl) b1 d1 b2 d2 w7 (hn.rd encG_len) (hf.rd encO_len))
  have B7 := Lib.hid hb
  clear hst hn hf hb HX hmle hrs hpq
  go_wp2_with fail
  refine HMG.out.mono ?_
  rintro e wm ⟨cl, k, LB, CB, AB, hcl, hst, rfl, hmd, hb⟩
  have KRM := Lib.hid (Blk.below (Blk.below KR6.out B7.out) hb)
  have xf := KRM.out.frozen
  have y0 : wm.cell? ⟨g + 3, 0, none⟩ = some (.int .i64 0) := KRM.out.cell 0
  have y1 : wm.cell? ⟨g + 3, 1, none⟩ = some (.slice none 0 0) := KRM.out.cell 1
  have y2 : wm.cell? ⟨g + 3, 2, none⟩ = some (.slice none 0 0) := KRM.out.cell 2
  have HFIN : Hid (Blk (g + 3) 29 #[.int .i64 0, .slice (some ⟨LB, 0, none⟩) k k, .slice (some ⟨AB, 0, none⟩) k k] (put3 wm (g + 3) (.int .i64 0) (.slice (some ⟨LB, 0, none⟩) k k) (.slice (some ⟨AB, 0, none⟩) k k)) ∧ GotB (prodA (toA r) (toA s) (fun x y => x && y)) (okD r && okD s) (r.nx.length * s.nx.length) w (.returned (.tuple #[.agg #[.int .i64 0, .slice (some ⟨LB, 0, none⟩) k k, .slice (some ⟨AB, 0, none⟩) k k], .int .i64 0])) (put3 wm (g + 3) (.int .i64 0) (.slice (some ⟨LB, 0, none⟩) k k) (.slice (some ⟨AB, 0, none⟩) k k))) := Lib.hid (by
    obtain ⟨p1, p2⟩ := put3_ok (n := w.heap.size) (a' := .int .i64 0) (b' := .slice (some ⟨LB, 0, none⟩) k k) (c' := .slice (some ⟨AB, 0, none⟩) k k) KRM.out (by have := HG.out; omega)
    have hg := put3_grown wm (g + 3) (.int .i64 0) (.slice (some ⟨LB, 0, none⟩) k k) (.slice (some ⟨AB, 0, none⟩) k k)
    have hgv : g + 3 < w7.heap.size := Nat.lt_of_lt_of_le KR6.out.lt B7.out.size
    have hwv : w.heap.size ≤ w7.heap.size := by have := HG.out; omega
    have hkm : k ≤ m := by have := hst.le HST.out.minOk; rw [minA_n] at this; exact this
    have hml := HMLE.out
    have hpq := HPQ.out
    have hr := okD_iff.1 HOK.out
    have hs := okD_iff.1 HOK2.out
    refine ⟨p1, .inr ⟨by rw [HOK.out, HOK2.out]; rfl, minA (prodA (toA p) (toA q) (fun x y => x && y)) id m, cl, k, LB, CB, AB, HST.out.minOk, (HST.out.start HPO.out (id_cls _)).trans (prod_eqv HP.out.ok hr.1.ok HQ.out.ok hs.1.ok HMIN.out.eqv HMIN2.out.eqv), hcl, hst, by omega, rfl, (hmd.grown hg (fun b hb e => by injection e with e; omega)).base hwv⟩, ?_⟩
    exact ((B6.out.trans (B7.out.mono B6.out.size)).trans (hb.mono hwv)).trans p2)
  clear hcl hst hmd hb
  go_wp2_with fail
  exact bodyPost_ret (v := .tuple #[.agg #[.int .i64 0, .slice (some ⟨LB, 0, none⟩) k k, .slice (some ⟨AB, 0, none⟩) k k], .int .i64 0]) (resCB rfl rfl HFIN.out.1) rfl HFIN.out.2
end Go.Proofs.Ytiljagfjgefnnaa
