/- The law AutomatonMorgan. -/
import Derived.Test.YtiljagfjgefnnaaBzp
namespace Go.Proofs.Ytiljagfjgefnnaa
open Go.RowKit
set_option linter.unusedVariables false

/-- The lists q stand at these slices, whatever is done to blocks below N. -/
def Kept (q : RawD) (x1 : Option Addr) (d1 : Nat) (x2 : Option Addr) (d2 : Nat) (N : Nat) (w' : World) : Prop := ∀ (wx : World) (X : Nat → Prop), Fr X w' wx → (∀ b, X b → b < N) → RdRows wx (.slice x1 q.nx.length d1) q.nx ∧ Rd 1 encO wx (.slice x2 q.ac.length d2) q.ac
theorem GotB.kept {B : Aut} {ok : Bool} {n : Nat} {w w' : World} {e : Ending} (hn : n ≤ 2000) (h : GotB B ok n w e w') : ∃ (q : RawD) (pe : Int) (x1 : Option Addr) (d1 : Nat) (x2 : Option Addr) (d2 : Nat), e = .returned (.tuple #[.agg #[.int .i64 q.st, .slice x1 q.nx.length d1, .slice x2 q.ac.length d2], .int .i64 pe]) ∧ GotRaw B ok n q pe ∧ Kept q x1 d1 x2 d2 w.heap.size w' := by
  rcases h.1 with ⟨h1, h2⟩ | ⟨h1, G, cl, k, LB, CB, AB, hG, heq, hcl, hst, hkn, he, hmd⟩
  · exact ⟨zeroR, 1, none, 0, none, 0, h2, .inl ⟨h1, rfl, rfl⟩, fun wx X _ _ => ⟨rdRows_nil wx, rd_nil wx⟩⟩
  · have hl : (mkR (outN G cl k) (outF G cl k)).nx.length = k := by show (List.map _ _).length = k; rw [List.length_map, outN_len]
    have ha : (mkR (outN G cl k) (outF G cl k)).ac.length = k := outF_len _ _ _
    refine ⟨mkR (outN G cl k) (outF G cl k), 0, some ⟨LB, 0, none⟩, k, some ⟨AB, 0, none⟩, k, by rw [he, hl, ha]; rfl, .inr ⟨h1, rfl, ⟨G, cl, k, hG, heq, hcl, hst, by omega, rfl⟩, by rw [hl]; exact hkn⟩, fun wx X hg hne => ?_⟩
    exact made_rows ⟨hg.fn hmd.l (fun h => by have := hne _ h; have := hmd.lL; omega), hg.fn hmd.c (fun h => by have := hne _ h; have := hmd.lC; omega), hg.fn hmd.a (fun h => by have := hne _ h; have := hmd.lA; omega), hmd.lL, hmd.lC, hmd.lA⟩ (by omega) (outN_len _ _ _) (fun x hx => by
      unfold outN at hx
      obtain ⟨i, _, rfl⟩ := List.mem_map.1 hx
      exact rowK_len _ _ _ _ 11) (outF_len _ _ _)
/-- What stands in two slots behind a region that calls And or Or: a box with the automaton, the error. -/
def CutQ (B : Aut) (ok : Bool) (n : Nat) (w0 : World) (vp ve : Value) (wx : World) : Prop := ∃ (bx : Nat) (q : RawD) (pe : Int) (x1 : Option Addr) (d1 : Nat) (x2 : Option Addr) (d2 : Nat), vp = .pointer (some ⟨bx, 0, none⟩) ∧ ve = .int .i64 pe ∧ Blk bx 29 #[.int .i64 q.st, .slice x1 q.nx.length d1, .slice x2 q.ac.length d2] wx ∧ RdRows wx (.slice x1 q.nx.length d1) q.nx ∧ Rd 1 encO wx (.slice x2 q.ac.length d2) q.ac ∧ GotRaw B ok n q pe ∧ Below w0.heap.size w0 wx
theorem eqD_self (p : RawD) : eqD p p = true := eqD_yes ⟨rfl, rfl, rfl⟩
set_option maxRecDepth 1000000 in
set_option maxHeartbeats 16000000 in
theorem automatonMorgan_walk (r : RawD) (a1 : Option Addr) (ac1 : Nat) (a2 : Option Addr) (ac2 : Nat) (t : RawD) (b1 : Option Addr) (bc1 : Nat) (b2 : Option Addr) (bc2 : Nat) (w : World) (hN : RdRows w (.slice a1 r.nx.length ac1) r.nx) (hF : Rd 1 encO w (.slice a2 r.ac.length ac2) r.ac) (hN2 : RdRows w (.slice b1 t.nx.length bc1) t.nx) (hF2 : Rd 1 encO w (.slice b2 t.ac.length bc2) t.ac) :
    Calls Try.prog 7 #[.agg #[.int .i64 r.st, .slice a1 r.nx.length ac1, .slice a2 r.ac.length ac2], .agg #[.int .i64 t.st, .slice b1 t.nx.length bc1, .slice b2 t.ac.length bc2]] w fun e w' => e = .returned (.bool true) ∧ Below w.heap.size w w' := by
  have BA := (Below.refl w.heap.size w).alloc (Nat.le_refl _) (.cells #[.int .i64 r.st, .slice a1 r.nx.length ac1, .slice a2 r.ac.length ac2] 25)
  have BB := BA.alloc BA.size (.cells #[.int .i64 t.st, .slice b1 t.nx.length bc1, .slice b2 t.ac.length bc2] 25)
  have k0 := (Blk.new w 25 #[.int .i64 r.st, .slice a1 r.nx.length ac1, .slice a2 r.ac.length ac2]).alloc (.cells #[.int .i64 t.st, .slice b1 t.nx.length bc1, .slice b2 t.ac.length bc2] 25)
  have k1 := Blk.new (w.alloc (.cells #[.int .i64 r.st, .slice a1 r.nx.length ac1, .slice a2 r.ac.length ac2] 25)) 25 #[.int .i64 t.st, .slice b1 t.nx.length bc1, .slice b2 t.ac.length bc2]
  rw [World.size_alloc] at k1
  obtain ⟨w0, hW0⟩ : ∃ W0, (w.alloc (.cells #[.int .i64 r.st, .slice a1 r.nx.length ac1, .slice a2 r.ac.length ac2] 25)).alloc (.cells #[.int .i64 t.st, .slice b1 t.nx.length bc1, .slice b2 t.ac.length bc2] 25) = W0 := ⟨_, rfl⟩
  have HNr0 := Lib.hid (hN.below BB)
  have HFr0 := Lib.hid (hF.below BB)
  have HNt0 := Lib.hid (hN2.below BB)
  have HFt0 := Lib.hid (hF2.below BB)
  have HB0 := Lib.hid BB
  have Kr0 := Lib.hid k0
  have Kt0 := Lib.hid k1
  rw [hW0] at HNr0 HFr0 HNt0 HFt0 HB0 Kr0 Kt0
  obtain ⟨g, hg⟩ : ∃ g, w.heap.size = g := ⟨_, rfl⟩
  have HGE := Lib.hid hg
  have HW0 := Lib.hid hW0
  rw [hg] at Kr0 Kt0
  clear hN hF hN2 hF2 BA BB k0 k1 hW0 hg
  go_enter Try.func7, Try.ntmps7
  go_upto_region 1 with fail
  rw [HW0.out, HGE.out]
  clear HW0
  go_wp2_with fail
  refine (awake_any w0).mono ?_
  rintro e w1 ⟨rfl, b1⟩
  have HNr1 := Lib.hid (HNr0.out.below b1)
  have HFr1 := Lib.hid (HFr0.out.below b1)
  have HNt1 := Lib.hid (HNt0.out.below b1)
  have HFt1 := Lib.hid (HFt0.out.below b1)
  have Kr1 := Lib.hid (Blk.below Kr0.out b1)
  have Kt1 := Lib.hid (Blk.below Kt0.out b1)
  have HB1 := Lib.hid (st HB0.out b1 HB0.out.size)
  clear b1  HNr0 HFr0 HNt0 HFt0 Kr0 Kt0 HB0
  have fKr0 : w1.cell? ⟨g, 0, none⟩ = some (.int .i64 r.st) := Kr1.out.cell 0
  have fKr1 : w1.cell? ⟨g, 1, none⟩ = some (.slice a1 r.nx.length ac1) := Kr1.out.cell 1
  have fKr2 : w1.cell? ⟨g, 2, none⟩ = some (.slice a2 r.ac.length ac2) := Kr1.out.cell 2
  have HFW := Lib.hid (few_any r a1 ac1 a2 ac2 12 (by omega) w1 HNr1.out HFr1.out)
  go_wp2_with fail
  refine HFW.out.mono ?_
  rintro e w2 ⟨⟨b, rfl, hb⟩, b2⟩
  have HNr2 := Lib.hid (HNr1.out.below b2)
  have HFr2 := Lib.hid (HFr1.out.below b2)
  have HNt2 := Lib.hid (HNt1.out.below b2)
  have HFt2 := Lib.hid (HFt1.out.below b2)
  have Kr2 := Lib.hid (Blk.below Kr1.out b2)
  have Kt2 := Lib.hid (Blk.below Kt1.out b2)
  have HB2 := Lib.hid (st HB1.out b2 HB1.out.size)
  clear b2 HFW fKr0 fKr1 fKr2 HNr1 HFr1 HNt1 HFt1 Kr1 Kt1 HB1
  cases b with
  | false =>
    clear hb
    go_wp2_with fail
    refine (awake_any w2).mono ?_
    rintro e wq ⟨rfl, bq⟩
    have HBQ := Lib.hid (st HB2.out bq HB2.out.size)
    clear bq
    go_wp2_with fail
    go_ret
    exact ⟨rfl, HBQ.out⟩
  | true =>
  have HLr := Lib.hid (hb rfl)
  clear hb
  have fKt0 : w2.cell? ⟨(g + 1), 0, none⟩ = some (.int .i64 t.st) := Kt2.out.cell 0
  have fKt1 : w2.cell? ⟨(g + 1), 1, none⟩ = some (.slice b1 t.nx.length bc1) := Kt2.out.cell 1
  have fKt2 : w2.cell? ⟨(g + 1), 2, none⟩ = some (.slice b2 t.ac.length bc2) := Kt2.out.cell 2
  have HFW := Lib.hid (few_any t b1 bc1 b2 bc2 12 (by omega) w2 HNt2.out HFt2.out)
  go_wp2_with fail
  refine HFW.out.mono ?_
  rintro e w3 ⟨⟨b, rfl, hb⟩, b3⟩
  have HNr3 := Lib.hid (HNr2.out.below b3)
  have HFr3 := Lib.hid (HFr2.out.below b3)
  have HNt3 := Lib.hid (HNt2.out.below b3)
  have HFt3 := Lib.hid (HFt2.out.below b3)
  have Kr3 := Lib.hid (Blk.below Kr2.out b3)
  have Kt3 := Lib.hid (Blk.below Kt2.out b3)
  have HB3 := Lib.hid (st HB2.out b3 HB2.out.size)
  clear b3 HFW fKt0 fKt1 fKt2 HNr2 HFr2 HNt2 HFt2 Kr2 Kt2 HB2
  cases b with
  | false =>
    clear hb
    go_wp2_with fail
    refine (awake_any w3).mono ?_
    rintro e wq ⟨rfl, bq⟩
    have HBQ := Lib.hid (st HB3.out bq HB3.out.size)
    clear bq
    go_wp2_with fail
    go_ret
    exact ⟨rfl, HBQ.out⟩
  | true =>
  have HLt := Lib.hid (hb rfl)
  clear hb
  have fKr0 : w3.cell? ⟨g, 0, none⟩ = some (.int .i64 r.st) := Kr3.out.cell 0
  have fKr1 : w3.cell? ⟨g, 1, none⟩ = some (.slice a1 r.nx.length ac1) := Kr3.out.cell 1
  have fKr2 : w3.cell? ⟨g, 2, none⟩ = some (.slice a2 r.ac.length ac2) := Kr3.out.cell 2
  have HFW := Lib.hid (valid_any r a1 ac1 a2 ac2 w3 HNr3.out HFr3.out)
  go_wp2_with fail
  refine HFW.out.mono ?_
  rintro e w4 ⟨rfl, b4⟩
  have HNr4 := Lib.hid (HNr3.out.below b4)
  have HFr4 := Lib.hid (HFr3.out.below b4)
  have HNt4 := Lib.hid (HNt3.out.below b4)
  have HFt4 := Lib.hid (HFt3.out.below b4)
  have Kr4 := Lib.hid (Blk.below Kr3.out b4)
  have Kt4 := Lib.hid (Blk.below Kt3.out b4)
  have HB4 := Lib.hid (st HB3.out b4 HB3.out.size)
  clear b4 HFW fKr0 fKr1 fKr2 HNr3 HFr3 HNt3 HFt3 Kr3 Kt3 HB3
  cases hok : okD r with
  | false =>
    clear hok
    go_wp2_with fail
    refine (awake_any w4).mono ?_
    rintro e wq ⟨rfl, bq⟩
    have HBQ := Lib.hid (st HB4.out bq HB4.out.size)
    clear bq
    go_wp2_with fail
    go_ret
    exact ⟨rfl, HBQ.out⟩
  | true =>
  have HOKr := Lib.hid hok
  clear hok
  have fKt0 : w4.cell? ⟨(g + 1), 0, none⟩ = some (.int .i64 t.st) := Kt4.out.cell 0
  have fKt1 : w4.cell? ⟨(g + 1), 1, none⟩ = some (.slice b1 t.nx.length bc1) := Kt4.out.cell 1
  have fKt2 : w4.cell? ⟨(g + 1), 2, none⟩ = some (.slice b2 t.ac.length bc2) := Kt4.out.cell 2
  have HFW := Lib.hid (valid_any t b1 bc1 b2 bc2 w4 HNt4.out HFt4.out)
  go_wp2_with fail
  refine HFW.out.mono ?_
  rintro e w5 ⟨rfl, b5⟩
  have HNr5 := Lib.hid (HNr4.out.below b5)
  have HFr5 := Lib.hid (HFr4.out.below b5)
  have HNt5 := Lib.hid (HNt4.out.below b5)
  have HFt5 := Lib.hid (HFt4.out.below b5)
  have Kr5 := Lib.hid (Blk.below Kr4.out b5)
  have Kt5 := Lib.hid (Blk.below Kt4.out b5)
  have HB5 := Lib.hid (st HB4.out b5 HB4.out.size)
  clear b5 HFW fKt0 fKt1 fKt2 HNr4 HFr4 HNt4 HFt4 Kr4 Kt4 HB4
  cases hok : okD t with
  | false =>
    clear hok
    go_wp2_with fail
    refine (awake_any w5).mono ?_
    rintro e wq ⟨rfl, bq⟩
    have HBQ := Lib.hid (st HB5.out bq HB5.out.size)
    clear bq
    go_wp2_with fail
    go_ret
    exact ⟨rfl, HBQ.out⟩
  | true =>
  have HOKt := Lib.hid hok
  clear hok
  have HRT : Hid (r.nx.length * t.nx.length ≤ 144) := Lib.hid (Nat.mul_le_mul HLr.out HLt.out)
  have HR := Lib.hid (okD_iff.1 HOKr.out).1
  have HT := Lib.hid (okD_iff.1 HOKt.out).1
  have fKr0 : w5.cell? ⟨g, 0, none⟩ = some (.int .i64 r.st) := Kr5.out.cell 0
  have fKr1 : w5.cell? ⟨g, 1, none⟩ = some (.slice a1 r.nx.length ac1) := Kr5.out.cell 1
  have fKr2 : w5.cell? ⟨g, 2, none⟩ = some (.slice a2 r.ac.length ac2) := Kr5.out.cell 2
  go_wp2_with fail
  refine (to_any r.st a1 r.nx.length ac1 a2 r.ac.length ac2 w5).mono ?_
  rintro e w6 ⟨rfl, b6⟩
  have HNr6 := Lib.hid (HNr5.out.below b6)
  have HFr6 := Lib.hid (HFr5.out.below b6)
  have HNt6 := Lib.hid (HNt5.out.below b6)
  have HFt6 := Lib.hid (HFt5.out.below b6)
  have Kr6 := Lib.hid (Blk.below Kr5.out b6)
  have Kt6 := Lib.hid (Blk.below Kt5.out b6)
  have HB6 := Lib.hid (st HB5.out b6 HB5.out.size)
  clear b6 fKr0 fKr1 fKr2 HNr5 HFr5 HNt5 HFt5 Kr5 Kt5 HB5
  have HP := Lib.hid (complP_any r a1 ac1 a2 ac2 w6 HNr6.out HFr6.out)
  go_wp2_with fail
  refine HP.out.mono ?_
  rintro e w7 hgot
  have b7 := hgot.2
  obtain ⟨x, pex, ⟨x1, xc1, x2, xc2, rfl, hpN, hpF⟩, hgr⟩ := hgot.raws
  have HNx7 := Lib.hid hpN
  have HFx7 := Lib.hid hpF
  have HGRx := Lib.hid hgr
  have HNr7 := Lib.hid (HNr6.out.below b7)
  have HFr7 := Lib.hid (HFr6.out.below b7)
  have HNt7 := Lib.hid (HNt6.out.below b7)
  have HFt7 := Lib.hid (HFt6.out.below b7)
  have Kr7 := Lib.hid (Blk.below Kr6.out b7)
  have Kt7 := Lib.hid (Blk.below Kt6.out b7)
  have HB7 := Lib.hid (st HB6.out b7 HB6.out.size)
  clear b7 hgot hpN hpF hgr HP  HNr6 HFr6 HNt6 HFt6 Kr6 Kt6 HB6
  obtain ⟨rfl, hmin, hle⟩ : pex = 0 ∧ IsMin (compl (toA r)) x ∧ x.nx.length ≤ r.nx.length := by
    rcases HGRx.out with ⟨h5, _⟩ | ⟨_, h6, h7, h8⟩
    · exact absurd h5 (by simp [HOKr.out])
    · exact ⟨h6, h7, h8⟩
  have HMx := Lib.hid hmin
  have HLx := Lib.hid hle
  clear hmin hle
  have b8 := (Below.refl w7.heap.size w7).alloc (Nat.le_refl _) (.cells #[.int .i64 x.st, .slice x1 x.nx.length xc1, .slice x2 x.ac.length xc2] 29)
  have k8 := Blk.new w7 29 #[.int .i64 x.st, .slice x1 x.nx.length xc1, .slice x2 x.ac.length xc2]
  obtain ⟨w8, hw8⟩ : ∃ wx, w7.alloc (.cells #[.int .i64 x.st, .slice x1 x.nx.length xc1, .slice x2 x.ac.length xc2] 29) = wx := ⟨_, rfl⟩
  obtain ⟨n5, hn5⟩ : ∃ B, w7.heap.size = B := ⟨_, rfl⟩
  rw [hw8] at b8 k8
  rw [hn5] at k8
  have HW8 := Lib.hid hw8
  have Hn5 := Lib.hid hn5
  have Kx8 := Lib.hid k8
  have HNr8 := Lib.hid (HNr7.out.below b8)
  have HFr8 := Lib.hid (HFr7.out.below b8)
  have HNt8 := Lib.hid (HNt7.out.below b8)
  have HFt8 := Lib.hid (HFt7.out.below b8)
  have Kr8 := Lib.hid (Blk.below Kr7.out b8)
  have Kt8 := Lib.hid (Blk.below Kt7.out b8)
  have HNx8 := Lib.hid (HNx7.out.below b8)
  have HFx8 := Lib.hid (HFx7.out.below b8)
  have HB8 := Lib.hid (st HB7.out b8 HB7.out.size)
  clear b8 k8 hw8 hn5 HNr7 HFr7 HNt7 HFt7 Kr7 Kt7 HNx7 HFx7 HB7
  go_upto_region 4 with fail
  rw [HW8.out, Hn5.out]
  have fKt0 : w8.cell? ⟨(g + 1), 0, none⟩ = some (.int .i64 t.st) := Kt8.out.cell 0
  have fKt1 : w8.cell? ⟨(g + 1), 1, none⟩ = some (.slice b1 t.nx.length bc1) := Kt8.out.cell 1
  have fKt2 : w8.cell? ⟨(g + 1), 2, none⟩ = some (.slice b2 t.ac.length bc2) := Kt8.out.cell 2
  go_wp2_with fail
  refine (to_any t.st b1 t.nx.length bc1 b2 t.ac.length bc2 w8).mono ?_
  rintro e w9 ⟨rfl, b9⟩
  have HNr9 := Lib.hid (HNr8.out.below b9)
  have HFr9 := Lib.hid (HFr8.out.below b9)
  have HNt9 := Lib.hid (HNt8.out.below b9)
  have HFt9 := Lib.hid (HFt8.out.below b9)
  have Kr9 := Lib.hid (Blk.below Kr8.out b9)
  have Kt9 := Lib.hid (Blk.below Kt8.out b9)
  have HNx9 := Lib.hid (HNx8.out.below b9)
  have HFx9 := Lib.hid (HFx8.out.below b9)
  have Kx9 := Lib.hid (Blk.below Kx8.out b9)
  have HB9 := Lib.hid (st HB8.out b9 HB8.out.size)
  clear b9 fKt0 fKt1 fKt2 HNr8 HFr8 HNt8 HFt8 Kr8 Kt8 HNx8 HFx8 Kx8 HB8
  have HP := Lib.hid (complP_any t b1 bc1 b2 bc2 w9 HNt9.out HFt9.out)
  go_wp2_with fail
  refine HP.out.mono ?_
  rintro e w10 hgot
  have b10 := hgot.2
  obtain ⟨y, pey, ⟨y1, yc1, y2, yc2, rfl, hpN, hpF⟩, hgr⟩ := hgot.raws
  have HNy10 := Lib.hid hpN
  have HFy10 := Lib.hid hpF
  have HGRy := Lib.hid hgr
  have HNr10 := Lib.hid (HNr9.out.below b10)
  have HFr10 := Lib.hid (HFr9.out.below b10)
  have HNt10 := Lib.hid (HNt9.out.below b10)
  have HFt10 := Lib.hid (HFt9.out.below b10)
  have Kr10 := Lib.hid (Blk.below Kr9.out b10)
  have Kt10 := Lib.hid (Blk.below Kt9.out b10)
  have HNx10 := Lib.hid (HNx9.out.below b10)
  have HFx10 := Lib.hid (HFx9.out.below b10)
  have Kx10 := Lib.hid (Blk.below Kx9.out b10)
  have HB10 := Lib.hid (st HB9.out b10 HB9.out.size)
  clear b10 hgot hpN hpF hgr HP  HNr9 HFr9 HNt9 HFt9 Kr9 Kt9 HNx9 HFx9 Kx9 HB9
  obtain ⟨rfl, hmin, hle⟩ : pey = 0 ∧ IsMin (compl (toA t)) y ∧ y.nx.length ≤ t.nx.length := by
    rcases HGRy.out with ⟨h5, _⟩ | ⟨_, h6, h7, h8⟩
    · exact absurd h5 (by simp [HOKt.out])
    · exact ⟨h6, h7, h8⟩
  have HMy := Lib.hid hmin
  have HLy := Lib.hid hle
  clear hmin hle
  have b11 := (Below.refl w10.heap.size w10).alloc (Nat.le_refl _) (.cells #[.int .i64 y.st, .slice y1 y.nx.length yc1, .slice y2 y.ac.length yc2] 29)
  have k11 := Blk.new w10 29 #[.int .i64 y.st, .slice y1 y.nx.length yc1, .slice y2 y.ac.length yc2]
  obtain ⟨w11, hw11⟩ : ∃ wx, w10.alloc (.cells #[.int .i64 y.st, .slice y1 y.nx.length yc1, .slice y2 y.ac.length yc2] 29) = wx := ⟨_, rfl⟩
  obtain ⟨n7, hn7⟩ : ∃ B, w10.heap.size = B := ⟨_, rfl⟩
  rw [hw11] at b11 k11
  rw [hn7] at k11
  have HW11 := Lib.hid hw11
  have Hn7 := Lib.hid hn7
  have Ky11 := Lib.hid k11
  have HNr11 := Lib.hid (HNr10.out.below b11)
  have HFr11 := Lib.hid (HFr10.out.below b11)
  have HNt11 := Lib.hid (HNt10.out.below b11)
  have HFt11 := Lib.hid (HFt10.out.below b11)
  have Kr11 := Lib.hid (Blk.below Kr10.out b11)
  have Kt11 := Lib.hid (Blk.below Kt10.out b11)
  have HNx11 := Lib.hid (HNx10.out.below b11)
  have HFx11 := Lib.hid (HFx10.out.below b11)
  have Kx11 := Lib.hid (Blk.below Kx10.out b11)
  have HNy11 := Lib.hid (HNy10.out.below b11)
  have HFy11 := Lib.hid (HFy10.out.below b11)
  have HB11 := Lib.hid (st HB10.out b11 HB10.out.size)
  clear b11 k11 hw11 hn7 HNr10 HFr10 HNt10 HFt10 Kr10 Kt10 HNx10 HFx10 Kx10 HNy10 HFy10 HB10
  go_upto_region 5 with fail
  rw [HW11.out, Hn7.out]
  have HSS : Hid (∀ wx, Below w11.heap.size w11 wx → (fun wx : World => wx.cell? ⟨g, 0, none⟩ = some (.int .i64 r.st) ∧ wx.cell? ⟨g, 1, none⟩ = some (.slice a1 r.nx.length ac1) ∧ wx.cell? ⟨g, 2, none⟩ = some (.slice a2 r.ac.length ac2) ∧ wx.cell? ⟨(g + 1), 0, none⟩ = some (.int .i64 t.st) ∧ wx.cell? ⟨(g + 1), 1, none⟩ = some (.slice b1 t.nx.length bc1) ∧ wx.cell? ⟨(g + 1), 2, none⟩ = some (.slice b2 t.ac.length bc2)) wx) := Lib.hid (fun wx hb => ⟨(Blk.below Kr11.out hb).cell 0, (Blk.below Kr11.out hb).cell 1, (Blk.below Kr11.out hb).cell 2, (Blk.below Kt11.out hb).cell 0, (Blk.below Kt11.out hb).cell 1, (Blk.below Kt11.out hb).cell 2⟩)
  go_cut [9, 10] from 55 to 62 (fun vp ve wx => CutQ (prodA (toA r) (toA t) (fun x y => x || y)) (okD r && okD t) (r.nx.length * t.nx.length) w11 vp ve wx)
  case first =>
    refine region_hd 10 (fun wx : World => wx.cell? ⟨g, 0, none⟩ = some (.int .i64 r.st) ∧ wx.cell? ⟨g, 1, none⟩ = some (.slice a1 r.nx.length ac1) ∧ wx.cell? ⟨g, 2, none⟩ = some (.slice a2 r.ac.length ac2) ∧ wx.cell? ⟨(g + 1), 0, none⟩ = some (.int .i64 t.st) ∧ wx.cell? ⟨(g + 1), 1, none⟩ = some (.slice b1 t.nx.length bc1) ∧ wx.cell? ⟨(g + 1), 2, none⟩ = some (.slice b2 t.ac.length bc2)) (by kernel_rfl) (by kernel_rfl) ?_
    have BX := Lib.hid ((Below.refl w11.heap.size w11).drew)
    obtain ⟨X, hX⟩ : ∃ X, w11.drew = X := ⟨_, rfl⟩
    rw [hX] at BX ⊢
    clear hX
    have hSX := HSS.out X BX.out
    refine hd_taken 0 (some 56) _ ?hdv0 rfl rfl (by kernel_rfl) (fun _ _ _ h => h) (Or.inl ⟨by rfl, ?hdy0⟩) hSX ?hdr0
    case hdy0 => (intro wx hx; (try dsimp only at hx); go_simp; try with_reducible rfl)
    try simp only [Act.put, List.setIfInBounds_toArray, List.set_cons_zero, List.set_cons_succ]
    refine hd_taken 2 (some 58) _ ?hdv2 rfl rfl (by kernel_rfl) (fun _ _ _ h => h) (Or.inl ⟨by rfl, ?hdy2⟩) hSX ?hdr2
    case hdy2 => (intro wx hx; (try dsimp only at hx); go_simp; try with_reducible rfl)
    try simp only [Act.put, List.setIfInBounds_toArray, List.set_cons_zero, List.set_cons_succ]
    refine hd_list [1, 8] (by kernel_rfl) (by decide) (by decide) (fun i hi => ?_)
    simp only [List.mem_cons, List.not_mem_nil, or_false] at hi
    rcases hi with rfl | rfl
    · refine ⟨_, rfl, fun K1 hK1 => ?_⟩
      go_simp
      refine (to_any r.st a1 r.nx.length ac1 a2 r.ac.length ac2 X).mono ?_
      rintro e X_1 ⟨rfl, bb⟩
      try dsimp only
      have BX_1 := Lib.hid (st BX.out bb BX.out.size)
      have hSX_1 := HSS.out X_1 BX_1.out
      refine hK1.out _ _ hSX_1 ?_
      clear hK1 K1 hSX bb
      try simp only [Act.put, List.setIfInBounds_toArray, List.set_cons_zero, List.set_cons_succ]
      refine hd_list [3, 8] (by kernel_rfl) (by decide) (by decide) (fun i hi => ?_)
      simp only [List.mem_cons, List.not_mem_nil, or_false] at hi
      rcases hi with rfl | rfl
      · refine ⟨_, rfl, fun K3 hK3 => ?_⟩
        go_simp
        refine (to_any t.st b1 t.nx.length bc1 b2 t.ac.length bc2 X_1).mono ?_
        rintro e X_1_3 ⟨rfl, bb⟩
        try dsimp only
        have BX_1_3 := Lib.hid (st BX_1.out bb BX_1.out.size)
        have hSX_1_3 := HSS.out X_1_3 BX_1_3.out
        refine hK3.out _ _ hSX_1_3 ?_
        clear hK3 K3 hSX_1 bb
        try simp only [Act.put, List.setIfInBounds_toArray, List.set_cons_zero, List.set_cons_succ]
        refine hd_list [4, 8] (by kernel_rfl) (by decide) (by decide) (fun i hi => ?_)
        simp only [List.mem_cons, List.not_mem_nil, or_false] at hi
        rcases hi with rfl | rfl
        · refine ⟨_, rfl, fun K4 hK4 => ?_⟩
          go_simp
          refine (orP_any r t (by have := HRT.out; omega) a1 ac1 a2 ac2 b1 bc1 b2 bc2 X_1_3 (HNr11.out.below BX_1_3.out) (HFr11.out.below BX_1_3.out) (HNt11.out.below BX_1_3.out) (HFt11.out.below BX_1_3.out)).mono ?_
          rintro e X_1_3_4 hgot
          have bb := hgot.2
          obtain ⟨o, peo, o1, oc1, o2, oc2, rfl, hgr, hkept⟩ := hgot.kept (by have := HRT.out; omega)
          try dsimp only
          have HGRo := Lib.hid hgr
          have HKEPT := Lib.hid hkept
          have BX_1_3_4 := Lib.hid (st BX_1_3.out bb BX_1_3.out.size)
          clear hgot hgr hkept
          have hSX_1_3_4 := HSS.out X_1_3_4 BX_1_3_4.out
          refine hK4.out _ _ hSX_1_3_4 ?_
          clear hK4 K4 hSX_1_3 bb
          try simp only [Act.put, List.setIfInBounds_toArray, List.set_cons_zero, List.set_cons_succ]
          refine hd_taken 5 (some 55) _ ?hdva5 rfl rfl (by kernel_rfl) (fun _ _ _ h => h) (Or.inl ⟨by rfl, ?hdya5⟩) hSX_1_3_4 ?hdra5
          case hdya5 => (intro wx hx; (try dsimp only at hx); go_simp; try with_reducible rfl)
          try simp only [Act.put, List.setIfInBounds_toArray, List.set_cons_zero, List.set_cons_succ]
          refine hd_taken 6 (some 61) _ ?hdva6 rfl rfl (by kernel_rfl) (fun _ _ _ h => h) (Or.inl ⟨by rfl, ?hdya6⟩) hSX_1_3_4 ?hdra6
          case hdya6 => (intro wx hx; (try dsimp only at hx); go_simp; try with_reducible rfl)
          try simp only [Act.put, List.setIfInBounds_toArray, List.set_cons_zero, List.set_cons_succ]
          refine hd_taken 7 (some 62) _ ?hdva7 rfl rfl (by kernel_rfl) (fun _ _ _ h => h) (Or.inl ⟨by rfl, ?hdya7⟩) hSX_1_3_4 ?hdra7
          case hdya7 => (intro wx hx; (try dsimp only at hx); go_simp; try with_reducible rfl)
          try simp only [Act.put, List.setIfInBounds_toArray, List.set_cons_zero, List.set_cons_succ]
          refine hd_list [8] (by kernel_rfl) (by decide) (by decide) (fun i hi => ?_)
          simp only [List.mem_cons, List.not_mem_nil, or_false] at hi
          subst hi
          refine ⟨_, rfl, fun K8 hK8 => ?_⟩
          go_simp
          have bb := (Below.refl X_1_3_4.heap.size X_1_3_4).alloc (Nat.le_refl _) (.cells #[.int .i64 0, .slice none 0 0, .slice none 0 0] 29)
          have kp := Blk.new X_1_3_4 29 #[.int .i64 0, .slice none 0 0, .slice none 0 0]
          obtain ⟨p, hp⟩ : ∃ p, X_1_3_4.heap.size = p := ⟨_, rfl⟩
          obtain ⟨X_1_3_4_8, hX_1_3_4_8⟩ : ∃ X_1_3_4_8, X_1_3_4.alloc (.cells #[.int .i64 0, .slice none 0 0, .slice none 0 0] 29) = X_1_3_4_8 := ⟨_, rfl⟩
          rw [hX_1_3_4_8] at bb kp
          have BX_1_3_4_8 := Lib.hid (st BX_1_3_4.out bb BX_1_3_4.out.size)
          have HPG : Hid (w11.heap.size ≤ p) := Lib.hid (by rw [← hp]; exact BX_1_3_4.out.size)
          rw [hp] at kp
          have KPX_1_3_4_8 := Lib.hid kp
          have HPA : Hid (Below X_1_3_4.heap.size X_1_3_4 X_1_3_4_8) := Lib.hid bb
          rw [hp] at HPA
          have HPE := Lib.hid hp
          rw [hp, hX_1_3_4_8]
          have hSX_1_3_4_8 := HSS.out X_1_3_4_8 BX_1_3_4_8.out
          refine hK8.out _ _ hSX_1_3_4_8 ?_
          clear hK8 K8 hSX_1_3_4 bb kp hp hX_1_3_4_8
          try simp only [Act.put, List.setIfInBounds_toArray, List.set_cons_zero, List.set_cons_succ]
          have xf := KPX_1_3_4_8.out.frozen
          have y0 : X_1_3_4_8.cell? ⟨p, 0, none⟩ = some (.int .i64 0) := KPX_1_3_4_8.out.cell 0
          have y1 : X_1_3_4_8.cell? ⟨p, 1, none⟩ = some (.slice none 0 0) := KPX_1_3_4_8.out.cell 1
          have y2 : X_1_3_4_8.cell? ⟨p, 2, none⟩ = some (.slice none 0 0) := KPX_1_3_4_8.out.cell 2
          have HFIN : Hid (CutQ (prodA (toA r) (toA t) (fun x y => x || y)) (okD r && okD t) (r.nx.length * t.nx.length) w11 (.pointer (some ⟨p, 0, none⟩)) (.int .i64 peo) (put3 X_1_3_4_8 p (.int .i64 o.st) (.slice o1 o.nx.length oc1) (.slice o2 o.ac.length oc2)) ∧ Below w11.heap.size w11 (put3 X_1_3_4_8 p (.int .i64 o.st) (.slice o1 o.nx.length oc1) (.slice o2 o.ac.length oc2))) := Lib.hid (by
            obtain ⟨p1, p2⟩ := put3_ok (n := p) (a' := .int .i64 o.st) (b' := .slice o1 o.nx.length oc1) (c' := .slice o2 o.ac.length oc2) KPX_1_3_4_8.out (Nat.le_refl p)
            obtain ⟨r1, r2⟩ := HKEPT.out _ _ (Fr.of_below (X := fun _ => False) ((HPA.out.trans p2).mono (Nat.le_of_eq HPE.out))) (fun b e => e.elim)
            have hb := BX_1_3_4_8.out.trans (p2.mono HPG.out)
            exact ⟨⟨p, o, peo, o1, oc1, o2, oc2, rfl, rfl, p1, r1, r2, HGRo.out, hb⟩, hb⟩)
          have hSF := HSS.out (put3 X_1_3_4_8 p (.int .i64 o.st) (.slice o1 o.nx.length oc1) (.slice o2 o.ac.length oc2)) HFIN.out.2
          refine hd_one 9 _ rfl (by kernel_rfl) (by decide) (fun KS hKS => ?_)
          go_simp
          refine hKS.out _ _ hSF ?_
          clear hKS KS hSX_1_3_4_8 xf y0 y1 y2 hSF HSS
          try simp only [Act.put, List.setIfInBounds_toArray, List.set_cons_zero, List.set_cons_succ]
          refine hd_done (by kernel_rfl) ?_
          simp only [List.drop_succ_cons, List.drop_zero]
          go_wp2_with fail
          go_meet
          exact HFIN.out.1
        · refine ⟨_, rfl, fun K8 hK8 => ?_⟩
          go_simp
          have bb := (Below.refl X_1_3.heap.size X_1_3).alloc (Nat.le_refl _) (.cells #[.int .i64 0, .slice none 0 0, .slice none 0 0] 29)
          have kp := Blk.new X_1_3 29 #[.int .i64 0, .slice none 0 0, .slice none 0 0]
          obtain ⟨p, hp⟩ : ∃ p, X_1_3.heap.size = p := ⟨_, rfl⟩
          obtain ⟨X_1_3_8, hX_1_3_8⟩ : ∃ X_1_3_8, X_1_3.alloc (.cells #[.int .i64 0, .slice none 0 0, .slice none 0 0] 29) = X_1_3_8 := ⟨_, rfl⟩
          rw [hX_1_3_8] at bb kp
          have BX_1_3_8 := Lib.hid (st BX_1_3.out bb BX_1_3.out.size)
          have HPG : Hid (w11.heap.size ≤ p) := Lib.hid (by rw [← hp]; exact BX_1_3.out.size)
          rw [hp] at kp
          have KPX_1_3_8 := Lib.hid kp
          rw [hp, hX_1_3_8]
          have hSX_1_3_8 := HSS.out X_1_3_8 BX_1_3_8.out
          refine hK8.out _ _ hSX_1_3_8 ?_
          clear hK8 K8 hSX_1_3 bb kp hp hX_1_3_8
          try simp only [Act.put, List.setIfInBounds_toArray, List.set_cons_zero, List.set_cons_succ]
          refine hd_list [4] (by kernel_rfl) (by decide) (by decide) (fun i hi => ?_)
          simp only [List.mem_cons, List.not_mem_nil, or_false] at hi
          subst hi
          refine ⟨_, rfl, fun K4 hK4 => ?_⟩
          go_simp
          refine (orP_any r t (by have := HRT.out; omega) a1 ac1 a2 ac2 b1 bc1 b2 bc2 X_1_3_8 (HNr11.out.below BX_1_3_8.out) (HFr11.out.below BX_1_3_8.out) (HNt11.out.below BX_1_3_8.out) (HFt11.out.below BX_1_3_8.out)).mono ?_
          rintro e X_1_3_8_4 hgot
          have bb := hgot.2
          obtain ⟨o, peo, o1, oc1, o2, oc2, rfl, hgr, hkept⟩ := hgot.kept (by have := HRT.out; omega)
          try dsimp only
          have HGRo := Lib.hid hgr
          have HKEPT := Lib.hid hkept
          have BX_1_3_8_4 := Lib.hid (st BX_1_3_8.out bb BX_1_3_8.out.size)
          have HPL : Hid (p < X_1_3_8.heap.size) := Lib.hid KPX_1_3_8.out.lt
          have KPX_1_3_8_4 := Lib.hid (Blk.below KPX_1_3_8.out bb)
          clear hgot hgr hkept
          have hSX_1_3_8_4 := HSS.out X_1_3_8_4 BX_1_3_8_4.out
          refine hK4.out _ _ hSX_1_3_8_4 ?_
          clear hK4 K4 hSX_1_3_8 bb
          try simp only [Act.put, List.setIfInBounds_toArray, List.set_cons_zero, List.set_cons_succ]
          refine hd_taken 5 (some 55) _ ?hdvb5 rfl rfl (by kernel_rfl) (fun _ _ _ h => h) (Or.inl ⟨by rfl, ?hdyb5⟩) hSX_1_3_8_4 ?hdrb5
          case hdyb5 => (intro wx hx; (try dsimp only at hx); go_simp; try with_reducible rfl)
          try simp only [Act.put, List.setIfInBounds_toArray, List.set_cons_zero, List.set_cons_succ]
          refine hd_taken 6 (some 61) _ ?hdvb6 rfl rfl (by kernel_rfl) (fun _ _ _ h => h) (Or.inl ⟨by rfl, ?hdyb6⟩) hSX_1_3_8_4 ?hdrb6
          case hdyb6 => (intro wx hx; (try dsimp only at hx); go_simp; try with_reducible rfl)
          try simp only [Act.put, List.setIfInBounds_toArray, List.set_cons_zero, List.set_cons_succ]
          refine hd_taken 7 (some 62) _ ?hdvb7 rfl rfl (by kernel_rfl) (fun _ _ _ h => h) (Or.inl ⟨by rfl, ?hdyb7⟩) hSX_1_3_8_4 ?hdrb7
          case hdyb7 => (intro wx hx; (try dsimp only at hx); go_simp; try with_reducible rfl)
          try simp only [Act.put, List.setIfInBounds_toArray, List.set_cons_zero, List.set_cons_succ]
          have xf := KPX_1_3_8_4.out.frozen
          have y0 : X_1_3_8_4.cell? ⟨p, 0, none⟩ = some (.int .i64 0) := KPX_1_3_8_4.out.cell 0
          have y1 : X_1_3_8_4.cell? ⟨p, 1, none⟩ = some (.slice none 0 0) := KPX_1_3_8_4.out.cell 1
          have y2 : X_1_3_8_4.cell? ⟨p, 2, none⟩ = some (.slice none 0 0) := KPX_1_3_8_4.out.cell 2
          have HFIN : Hid (CutQ (prodA (toA r) (toA t) (fun x y => x || y)) (okD r && okD t) (r.nx.length * t.nx.length) w11 (.pointer (some ⟨p, 0, none⟩)) (.int .i64 peo) (put3 X_1_3_8_4 p (.int .i64 o.st) (.slice o1 o.nx.length oc1) (.slice o2 o.ac.length oc2)) ∧ Below w11.heap.size w11 (put3 X_1_3_8_4 p (.int .i64 o.st) (.slice o1 o.nx.length oc1) (.slice o2 o.ac.length oc2))) := Lib.hid (by
            obtain ⟨p1, p2⟩ := put3_ok (n := w11.heap.size) (a' := .int .i64 o.st) (b' := .slice o1 o.nx.length oc1) (c' := .slice o2 o.ac.length oc2) KPX_1_3_8_4.out HPG.out
            obtain ⟨r1, r2⟩ := HKEPT.out _ _ (Fr.grown (put3_grown X_1_3_8_4 p (.int .i64 o.st) (.slice o1 o.nx.length oc1) (.slice o2 o.ac.length oc2)) (X := fun b => b = p) (fun k e => by injection e with e; exact e.symm)) (fun b e => by have e : b = p := e; rw [e]; exact HPL.out)
            have hb := BX_1_3_8_4.out.trans (p2)
            exact ⟨⟨p, o, peo, o1, oc1, o2, oc2, rfl, rfl, p1, r1, r2, HGRo.out, hb⟩, hb⟩)
          have hSF := HSS.out (put3 X_1_3_8_4 p (.int .i64 o.st) (.slice o1 o.nx.length oc1) (.slice o2 o.ac.length oc2)) HFIN.out.2
          refine hd_one 9 _ rfl (by kernel_rfl) (by decide) (fun KS hKS => ?_)
          go_simp
          refine hKS.out _ _ hSF ?_
          clear hKS KS hSX_1_3_8_4 xf y0 y1 y2 hSF HSS
          try simp only [Act.put, List.setIfInBounds_toArray, List.set_cons_zero, List.set_cons_succ]
          refine hd_done (by kernel_rfl) ?_
          simp only [List.drop_succ_cons, List.drop_zero]
          go_wp2_with fail
          go_meet
          exact HFIN.out.1
      · refine ⟨_, rfl, fun K8 hK8 => ?_⟩
        go_simp
        have bb := (Below.refl X_1.heap.size X_1).alloc (Nat.le_refl _) (.cells #[.int .i64 0, .slice none 0 0, .slice none 0 0] 29)
        have kp := Blk.new X_1 29 #[.int .i64 0, .slice none 0 0, .slice none 0 0]
        obtain ⟨p, hp⟩ : ∃ p, X_1.heap.size = p := ⟨_, rfl⟩
        obtain ⟨X_1_8, hX_1_8⟩ : ∃ X_1_8, X_1.alloc (.cells #[.int .i64 0, .slice none 0 0, .slice none 0 0] 29) = X_1_8 := ⟨_, rfl⟩
        rw [hX_1_8] at bb kp
        have BX_1_8 := Lib.hid (st BX_1.out bb BX_1.out.size)
        have HPG : Hid (w11.heap.size ≤ p) := Lib.hid (by rw [← hp]; exact BX_1.out.size)
        rw [hp] at kp
        have KPX_1_8 := Lib.hid kp
        rw [hp, hX_1_8]
        have hSX_1_8 := HSS.out X_1_8 BX_1_8.out
        refine hK8.out _ _ hSX_1_8 ?_
        clear hK8 K8 hSX_1 bb kp hp hX_1_8
        try simp only [Act.put, List.setIfInBounds_toArray, List.set_cons_zero, List.set_cons_succ]
        refine hd_list [3] (by kernel_rfl) (by decide) (by decide) (fun i hi => ?_)
        simp only [List.mem_cons, List.not_mem_nil, or_false] at hi
        subst hi
        refine ⟨_, rfl, fun K3 hK3 => ?_⟩
        go_simp
        refine (to_any t.st b1 t.nx.length bc1 b2 t.ac.length bc2 X_1_8).mono ?_
        rintro e X_1_8_3 ⟨rfl, bb⟩
        try dsimp only
        have BX_1_8_3 := Lib.hid (st BX_1_8.out bb BX_1_8.out.size)
        have KPX_1_8_3 := Lib.hid (Blk.below KPX_1_8.out bb)
        have hSX_1_8_3 := HSS.out X_1_8_3 BX_1_8_3.out
        refine hK3.out _ _ hSX_1_8_3 ?_
        clear hK3 K3 hSX_1_8 bb
        try simp only [Act.put, List.setIfInBounds_toArray, List.set_cons_zero, List.set_cons_succ]
        refine hd_list [4] (by kernel_rfl) (by decide) (by decide) (fun i hi => ?_)
        simp only [List.mem_cons, List.not_mem_nil, or_false] at hi
        subst hi
        refine ⟨_, rfl, fun K4 hK4 => ?_⟩
        go_simp
        refine (orP_any r t (by have := HRT.out; omega) a1 ac1 a2 ac2 b1 bc1 b2 bc2 X_1_8_3 (HNr11.out.below BX_1_8_3.out) (HFr11.out.below BX_1_8_3.out) (HNt11.out.below BX_1_8_3.out) (HFt11.out.below BX_1_8_3.out)).mono ?_
        rintro e X_1_8_3_4 hgot
        have bb := hgot.2
        obtain ⟨o, peo, o1, oc1, o2, oc2, rfl, hgr, hkept⟩ := hgot.kept (by have := HRT.out; omega)
        try dsimp only
        have HGRo := Lib.hid hgr
        have HKEPT := Lib.hid hkept
        have BX_1_8_3_4 := Lib.hid (st BX_1_8_3.out bb BX_1_8_3.out.size)
        have HPL : Hid (p < X_1_8_3.heap.size) := Lib.hid KPX_1_8_3.out.lt
        have KPX_1_8_3_4 := Lib.hid (Blk.below KPX_1_8_3.out bb)
        clear hgot hgr hkept
        have hSX_1_8_3_4 := HSS.out X_1_8_3_4 BX_1_8_3_4.out
        refine hK4.out _ _ hSX_1_8_3_4 ?_
        clear hK4 K4 hSX_1_8_3 bb
        try simp only [Act.put, List.setIfInBounds_toArray, List.set_cons_zero, List.set_cons_succ]
        refine hd_taken 5 (some 55) _ ?hdvc5 rfl rfl (by kernel_rfl) (fun _ _ _ h => h) (Or.inl ⟨by rfl, ?hdyc5⟩) hSX_1_8_3_4 ?hdrc5
        case hdyc5 => (intro wx hx; (try dsimp only at hx); go_simp; try with_reducible rfl)
        try simp only [Act.put, List.setIfInBounds_toArray, List.set_cons_zero, List.set_cons_succ]
        refine hd_taken 6 (some 61) _ ?hdvc6 rfl rfl (by kernel_rfl) (fun _ _ _ h => h) (Or.inl ⟨by rfl, ?hdyc6⟩) hSX_1_8_3_4 ?hdrc6
        case hdyc6 => (intro wx hx; (try dsimp only at hx); go_simp; try with_reducible rfl)
        try simp only [Act.put, List.setIfInBounds_toArray, List.set_cons_zero, List.set_cons_succ]
        refine hd_taken 7 (some 62) _ ?hdvc7 rfl rfl (by kernel_rfl) (fun _ _ _ h => h) (Or.inl ⟨by rfl, ?hdyc7⟩) hSX_1_8_3_4 ?hdrc7
        case hdyc7 => (intro wx hx; (try dsimp only at hx); go_simp; try with_reducible rfl)
        try simp only [Act.put, List.setIfInBounds_toArray, List.set_cons_zero, List.set_cons_succ]
        have xf := KPX_1_8_3_4.out.frozen
        have y0 : X_1_8_3_4.cell? ⟨p, 0, none⟩ = some (.int .i64 0) := KPX_1_8_3_4.out.cell 0
        have y1 : X_1_8_3_4.cell? ⟨p, 1, none⟩ = some (.slice none 0 0) := KPX_1_8_3_4.out.cell 1
        have y2 : X_1_8_3_4.cell? ⟨p, 2, none⟩ = some (.slice none 0 0) := KPX_1_8_3_4.out.cell 2
        have HFIN : Hid (CutQ (prodA (toA r) (toA t) (fun x y => x || y)) (okD r && okD t) (r.nx.length * t.nx.length) w11 (.pointer (some ⟨p, 0, none⟩)) (.int .i64 peo) (put3 X_1_8_3_4 p (.int .i64 o.st) (.slice o1 o.nx.length oc1) (.slice o2 o.ac.length oc2)) ∧ Below w11.heap.size w11 (put3 X_1_8_3_4 p (.int .i64 o.st) (.slice o1 o.nx.length oc1) (.slice o2 o.ac.length oc2))) := Lib.hid (by
          obtain ⟨p1, p2⟩ := put3_ok (n := w11.heap.size) (a' := .int .i64 o.st) (b' := .slice o1 o.nx.length oc1) (c' := .slice o2 o.ac.length oc2) KPX_1_8_3_4.out HPG.out
          obtain ⟨r1, r2⟩ := HKEPT.out _ _ (Fr.grown (put3_grown X_1_8_3_4 p (.int .i64 o.st) (.slice o1 o.nx.length oc1) (.slice o2 o.ac.length oc2)) (X := fun b => b = p) (fun k e => by injection e with e; exact e.symm)) (fun b e => by have e : b = p := e; rw [e]; exact HPL.out)
          have hb := BX_1_8_3_4.out.trans (p2)
          exact ⟨⟨p, o, peo, o1, oc1, o2, oc2, rfl, rfl, p1, r1, r2, HGRo.out, hb⟩, hb⟩)
        have hSF := HSS.out (put3 X_1_8_3_4 p (.int .i64 o.st) (.slice o1 o.nx.length oc1) (.slice o2 o.ac.length oc2)) HFIN.out.2
        refine hd_one 9 _ rfl (by kernel_rfl) (by decide) (fun KS hKS => ?_)
        go_simp
        refine hKS.out _ _ hSF ?_
        clear hKS KS hSX_1_8_3_4 xf y0 y1 y2 hSF HSS
        try simp only [Act.put, List.setIfInBounds_toArray, List.set_cons_zero, List.set_cons_succ]
        refine hd_done (by kernel_rfl) ?_
        simp only [List.drop_succ_cons, List.drop_zero]
        go_wp2_with fail
        go_meet
        exact HFIN.out.1
    · refine ⟨_, rfl, fun K8 hK8 => ?_⟩
      go_simp
      have bb := (Below.refl X.heap.size X).alloc (Nat.le_refl _) (.cells #[.int .i64 0, .slice none 0 0, .slice none 0 0] 29)
      have kp := Blk.new X 29 #[.int .i64 0, .slice none 0 0, .slice none 0 0]
      obtain ⟨p, hp⟩ : ∃ p, X.heap.size = p := ⟨_, rfl⟩
      obtain ⟨X_8, hX_8⟩ : ∃ X_8, X.alloc (.cells #[.int .i64 0, .slice none 0 0, .slice none 0 0] 29) = X_8 := ⟨_, rfl⟩
      rw [hX_8] at bb kp
      have BX_8 := Lib.hid (st BX.out bb BX.out.size)
      have HPG : Hid (w11.heap.size ≤ p) := Lib.hid (by rw [← hp]; exact BX.out.size)
      rw [hp] at kp
      have KPX_8 := Lib.hid kp
      rw [hp, hX_8]
      have hSX_8 := HSS.out X_8 BX_8.out
      refine hK8.out _ _ hSX_8 ?_
      clear hK8 K8 hSX bb kp hp hX_8
      try simp only [Act.put, List.setIfInBounds_toArray, List.set_cons_zero, List.set_cons_succ]
      refine hd_list [1] (by kernel_rfl) (by decide) (by decide) (fun i hi => ?_)
      simp only [List.mem_cons, List.not_mem_nil, or_false] at hi
      subst hi
      refine ⟨_, rfl, fun K1 hK1 => ?_⟩
      go_simp
      refine (to_any r.st a1 r.nx.length ac1 a2 r.ac.length ac2 X_8).mono ?_
      rintro e X_8_1 ⟨rfl, bb⟩
      try dsimp only
      have BX_8_1 := Lib.hid (st BX_8.out bb BX_8.out.size)
      have KPX_8_1 := Lib.hid (Blk.below KPX_8.out bb)
      have hSX_8_1 := HSS.out X_8_1 BX_8_1.out
      refine hK1.out _ _ hSX_8_1 ?_
      clear hK1 K1 hSX_8 bb
      try simp only [Act.put, List.setIfInBounds_toArray, List.set_cons_zero, List.set_cons_succ]
      refine hd_list [3] (by kernel_rfl) (by decide) (by decide) (fun i hi => ?_)
      simp only [List.mem_cons, List.not_mem_nil, or_false] at hi
      subst hi
      refine ⟨_, rfl, fun K3 hK3 => ?_⟩
      go_simp
      refine (to_any t.st b1 t.nx.length bc1 b2 t.ac.length bc2 X_8_1).mono ?_
      rintro e X_8_1_3 ⟨rfl, bb⟩
      try dsimp only
      have BX_8_1_3 := Lib.hid (st BX_8_1.out bb BX_8_1.out.size)
      have KPX_8_1_3 := Lib.hid (Blk.below KPX_8_1.out bb)
      have hSX_8_1_3 := HSS.out X_8_1_3 BX_8_1_3.out
      refine hK3.out _ _ hSX_8_1_3 ?_
      clear hK3 K3 hSX_8_1 bb
      try simp only [Act.put, List.setIfInBounds_toArray, List.set_cons_zero, List.set_cons_succ]
      refine hd_list [4] (by kernel_rfl) (by decide) (by decide) (fun i hi => ?_)
      simp only [List.mem_cons, List.not_mem_nil, or_false] at hi
      subst hi
      refine ⟨_, rfl, fun K4 hK4 => ?_⟩
      go_simp
      refine (orP_any r t (by have := HRT.out; omega) a1 ac1 a2 ac2 b1 bc1 b2 bc2 X_8_1_3 (HNr11.out.below BX_8_1_3.out) (HFr11.out.below BX_8_1_3.out) (HNt11.out.below BX_8_1_3.out) (HFt11.out.below BX_8_1_3.out)).mono ?_
      rintro e X_8_1_3_4 hgot
      have bb := hgot.2
      obtain ⟨o, peo, o1, oc1, o2, oc2, rfl, hgr, hkept⟩ := hgot.kept (by have := HRT.out; omega)
      try dsimp only
      have HGRo := Lib.hid hgr
      have HKEPT := Lib.hid hkept
      have BX_8_1_3_4 := Lib.hid (st BX_8_1_3.out bb BX_8_1_3.out.size)
      have HPL : Hid (p < X_8_1_3.heap.size) := Lib.hid KPX_8_1_3.out.lt
      have KPX_8_1_3_4 := Lib.hid (Blk.below KPX_8_1_3.out bb)
      clear hgot hgr hkept
      have hSX_8_1_3_4 := HSS.out X_8_1_3_4 BX_8_1_3_4.out
      refine hK4.out _ _ hSX_8_1_3_4 ?_
      clear hK4 K4 hSX_8_1_3 bb
      try simp only [Act.put, List.setIfInBounds_toArray, List.set_cons_zero, List.set_cons_succ]
      refine hd_taken 5 (some 55) _ ?hdvd5 rfl rfl (by kernel_rfl) (fun _ _ _ h => h) (Or.inl ⟨by rfl, ?hdyd5⟩) hSX_8_1_3_4 ?hdrd5
      case hdyd5 => (intro wx hx; (try dsimp only at hx); go_simp; try with_reducible rfl)
      try simp only [Act.put, List.setIfInBounds_toArray, List.set_cons_zero, List.set_cons_succ]
      refine hd_taken 6 (some 61) _ ?hdvd6 rfl rfl (by kernel_rfl) (fun _ _ _ h => h) (Or.inl ⟨by rfl, ?hdyd6⟩) hSX_8_1_3_4 ?hdrd6
      case hdyd6 => (intro wx hx; (try dsimp only at hx); go_simp; try with_reducible rfl)
      try simp only [Act.put, List.setIfInBounds_toArray, List.set_cons_zero, List.set_cons_succ]
      refine hd_taken 7 (some 62) _ ?hdvd7 rfl rfl (by kernel_rfl) (fun _ _ _ h => h) (Or.inl ⟨by rfl, ?hdyd7⟩) hSX_8_1_3_4 ?hdrd7
      case hdyd7 => (intro wx hx; (try dsimp only at hx); go_simp; try with_reducible rfl)
      try simp only [Act.put, List.setIfInBounds_toArray, List.set_cons_zero, List.set_cons_succ]
      have xf := KPX_8_1_3_4.out.frozen
      have y0 : X_8_1_3_4.cell? ⟨p, 0, none⟩ = some (.int .i64 0) := KPX_8_1_3_4.out.cell 0
      have y1 : X_8_1_3_4.cell? ⟨p, 1, none⟩ = some (.slice none 0 0) := KPX_8_1_3_4.out.cell 1
      have y2 : X_8_1_3_4.cell? ⟨p, 2, none⟩ = some (.slice none 0 0) := KPX_8_1_3_4.out.cell 2
      have HFIN : Hid (CutQ (prodA (toA r) (toA t) (fun x y => x || y)) (okD r && okD t) (r.nx.length * t.nx.length) w11 (.pointer (some ⟨p, 0, none⟩)) (.int .i64 peo) (put3 X_8_1_3_4 p (.int .i64 o.st) (.slice o1 o.nx.length oc1) (.slice o2 o.ac.length oc2)) ∧ Below w11.heap.size w11 (put3 X_8_1_3_4 p (.int .i64 o.st) (.slice o1 o.nx.length oc1) (.slice o2 o.ac.length oc2))) := Lib.hid (by
        obtain ⟨p1, p2⟩ := put3_ok (n := w11.heap.size) (a' := .int .i64 o.st) (b' := .slice o1 o.nx.length oc1) (c' := .slice o2 o.ac.length oc2) KPX_8_1_3_4.out HPG.out
        obtain ⟨r1, r2⟩ := HKEPT.out _ _ (Fr.grown (put3_grown X_8_1_3_4 p (.int .i64 o.st) (.slice o1 o.nx.length oc1) (.slice o2 o.ac.length oc2)) (X := fun b => b = p) (fun k e => by injection e with e; exact e.symm)) (fun b e => by have e : b = p := e; rw [e]; exact HPL.out)
        have hb := BX_8_1_3_4.out.trans (p2)
        exact ⟨⟨p, o, peo, o1, oc1, o2, oc2, rfl, rfl, p1, r1, r2, HGRo.out, hb⟩, hb⟩)
      have hSF := HSS.out (put3 X_8_1_3_4 p (.int .i64 o.st) (.slice o1 o.nx.length oc1) (.slice o2 o.ac.length oc2)) HFIN.out.2
      refine hd_one 9 _ rfl (by kernel_rfl) (by decide) (fun KS hKS => ?_)
      go_simp
      refine hKS.out _ _ hSF ?_
      clear hKS KS hSX_8_1_3_4 xf y0 y1 y2 hSF HSS
      try simp only [Act.put, List.setIfInBounds_toArray, List.set_cons_zero, List.set_cons_succ]
      refine hd_done (by kernel_rfl) ?_
      simp only [List.drop_succ_cons, List.drop_zero]
      go_wp2_with fail
      go_meet
      exact HFIN.out.1
  case rest =>
  rename World => w12
  obtain ⟨n9, o, peo, o1, oc1, o2, oc2, rfl, rfl, hk, hpN, hpF, hgr, b12⟩ := hcut
  have HNo12 := Lib.hid hpN
  have HFo12 := Lib.hid hpF
  have Ko12 := Lib.hid hk
  have HGRo := Lib.hid hgr
  have HNr12 := Lib.hid (HNr11.out.below b12)
  have HFr12 := Lib.hid (HFr11.out.below b12)
  have HNt12 := Lib.hid (HNt11.out.below b12)
  have HFt12 := Lib.hid (HFt11.out.below b12)
  have Kr12 := Lib.hid (Blk.below Kr11.out b12)
  have Kt12 := Lib.hid (Blk.below Kt11.out b12)
  have HNx12 := Lib.hid (HNx11.out.below b12)
  have HFx12 := Lib.hid (HFx11.out.below b12)
  have Kx12 := Lib.hid (Blk.below Kx11.out b12)
  have HNy12 := Lib.hid (HNy11.out.below b12)
  have HFy12 := Lib.hid (HFy11.out.below b12)
  have Ky12 := Lib.hid (Blk.below Ky11.out b12)
  have HB12 := Lib.hid (st HB11.out b12 HB11.out.size)
  clear b12 hk hpN hpF hgr HSS HNr11 HFr11 HNt11 HFt11 Kr11 Kt11 HNx11 HFx11 Kx11 HNy11 HFy11 Ky11 HB11
  obtain ⟨rfl, hmin, hle⟩ : peo = 0 ∧ IsMin (prodA (toA r) (toA t) (fun x y => x || y)) o ∧ o.nx.length ≤ r.nx.length * t.nx.length := by
    rcases HGRo.out with ⟨h5, _⟩ | ⟨_, h6, h7, h8⟩
    · exact absurd h5 (by simp [HOKr.out, HOKt.out])
    · exact ⟨h6, h7, h8⟩
  have HMo := Lib.hid hmin
  have HLo := Lib.hid hle
  clear hmin hle
  have fKo0 : w12.cell? ⟨n9, 0, none⟩ = some (.int .i64 o.st) := Ko12.out.cell 0
  have fKo1 : w12.cell? ⟨n9, 1, none⟩ = some (.slice o1 o.nx.length oc1) := Ko12.out.cell 1
  have fKo2 : w12.cell? ⟨n9, 2, none⟩ = some (.slice o2 o.ac.length oc2) := Ko12.out.cell 2
  have fKo0 : w12.cell? ⟨n9, 0, none⟩ = some (.int .i64 o.st) := Ko12.out.cell 0
  have fKo1 : w12.cell? ⟨n9, 1, none⟩ = some (.slice o1 o.nx.length oc1) := Ko12.out.cell 1
  have fKo2 : w12.cell? ⟨n9, 2, none⟩ = some (.slice o2 o.ac.length oc2) := Ko12.out.cell 2
  have HP := Lib.hid (complP_any o o1 oc1 o2 oc2 w12 HNo12.out HFo12.out)
  go_wp2_with fail
  refine HP.out.mono ?_
  rintro e w13 hgot
  have b13 := hgot.2
  obtain ⟨p, pep, ⟨p1, pc1, p2, pc2, rfl, hpN, hpF⟩, hgr⟩ := hgot.raws
  have HNp13 := Lib.hid hpN
  have HFp13 := Lib.hid hpF
  have HGRp := Lib.hid hgr
  have HNr13 := Lib.hid (HNr12.out.below b13)
  have HFr13 := Lib.hid (HFr12.out.below b13)
  have HNt13 := Lib.hid (HNt12.out.below b13)
  have HFt13 := Lib.hid (HFt12.out.below b13)
  have Kr13 := Lib.hid (Blk.below Kr12.out b13)
  have Kt13 := Lib.hid (Blk.below Kt12.out b13)
  have HNx13 := Lib.hid (HNx12.out.below b13)
  have HFx13 := Lib.hid (HFx12.out.below b13)
  have Kx13 := Lib.hid (Blk.below Kx12.out b13)
  have HNy13 := Lib.hid (HNy12.out.below b13)
  have HFy13 := Lib.hid (HFy12.out.below b13)
  have Ky13 := Lib.hid (Blk.below Ky12.out b13)
  have HNo13 := Lib.hid (HNo12.out.below b13)
  have HFo13 := Lib.hid (HFo12.out.below b13)
  have Ko13 := Lib.hid (Blk.below Ko12.out b13)
  have HB13 := Lib.hid (st HB12.out b13 HB12.out.size)
  clear b13 hgot hpN hpF hgr HP fKo0 fKo1 fKo2 HNr12 HFr12 HNt12 HFt12 Kr12 Kt12 HNx12 HFx12 Kx12 HNy12 HFy12 Ky12 HNo12 HFo12 Ko12 HB12
  obtain ⟨rfl, hmin, hle⟩ : pep = 0 ∧ IsMin (compl (toA o)) p ∧ p.nx.length ≤ o.nx.length := by
    rcases HGRp.out with ⟨h5, _⟩ | ⟨_, h6, h7, h8⟩
    · exact absurd h5 (by simp [HMo.out.ok])
    · exact ⟨h6, h7, h8⟩
  have HMp := Lib.hid hmin
  have HLp := Lib.hid hle
  clear hmin hle
  have b14 := (Below.refl w13.heap.size w13).alloc (Nat.le_refl _) (.cells #[.int .i64 p.st, .slice p1 p.nx.length pc1, .slice p2 p.ac.length pc2] 29)
  have k14 := Blk.new w13 29 #[.int .i64 p.st, .slice p1 p.nx.length pc1, .slice p2 p.ac.length pc2]
  obtain ⟨w14, hw14⟩ : ∃ wx, w13.alloc (.cells #[.int .i64 p.st, .slice p1 p.nx.length pc1, .slice p2 p.ac.length pc2] 29) = wx := ⟨_, rfl⟩
  obtain ⟨n11, hn11⟩ : ∃ B, w13.heap.size = B := ⟨_, rfl⟩
  rw [hw14] at b14 k14
  rw [hn11] at k14
  have HW14 := Lib.hid hw14
  have Hn11 := Lib.hid hn11
  have Kp14 := Lib.hid k14
  have HNr14 := Lib.hid (HNr13.out.below b14)
  have HFr14 := Lib.hid (HFr13.out.below b14)
  have HNt14 := Lib.hid (HNt13.out.below b14)
  have HFt14 := Lib.hid (HFt13.out.below b14)
  have Kr14 := Lib.hid (Blk.below Kr13.out b14)
  have Kt14 := Lib.hid (Blk.below Kt13.out b14)
  have HNx14 := Lib.hid (HNx13.out.below b14)
  have HFx14 := Lib.hid (HFx13.out.below b14)
  have Kx14 := Lib.hid (Blk.below Kx13.out b14)
  have HNy14 := Lib.hid (HNy13.out.below b14)
  have HFy14 := Lib.hid (HFy13.out.below b14)
  have Ky14 := Lib.hid (Blk.below Ky13.out b14)
  have HNo14 := Lib.hid (HNo13.out.below b14)
  have HFo14 := Lib.hid (HFo13.out.below b14)
  have Ko14 := Lib.hid (Blk.below Ko13.out b14)
  have HNp14 := Lib.hid (HNp13.out.below b14)
  have HFp14 := Lib.hid (HFp13.out.below b14)
  have HB14 := Lib.hid (st HB13.out b14 HB13.out.size)
  clear b14 k14 hw14 hn11 HNr13 HFr13 HNt13 HFt13 Kr13 Kt13 HNx13 HFx13 Kx13 HNy13 HFy13 Ky13 HNo13 HFo13 Ko13 HNp13 HFp13 HB13
  go_upto_region 7 with fail
  rw [HW14.out, Hn11.out]
  have HXY : Hid (x.nx.length * y.nx.length ≤ 144) := Lib.hid (Nat.mul_le_mul (Nat.le_trans HLx.out HLr.out) (Nat.le_trans HLy.out HLt.out))
  have fKx0 : w14.cell? ⟨n5, 0, none⟩ = some (.int .i64 x.st) := Kx14.out.cell 0
  have fKx1 : w14.cell? ⟨n5, 1, none⟩ = some (.slice x1 x.nx.length xc1) := Kx14.out.cell 1
  have fKx2 : w14.cell? ⟨n5, 2, none⟩ = some (.slice x2 x.ac.length xc2) := Kx14.out.cell 2
  have fKy0 : w14.cell? ⟨n7, 0, none⟩ = some (.int .i64 y.st) := Ky14.out.cell 0
  have fKy1 : w14.cell? ⟨n7, 1, none⟩ = some (.slice y1 y.nx.length yc1) := Ky14.out.cell 1
  have fKy2 : w14.cell? ⟨n7, 2, none⟩ = some (.slice y2 y.ac.length yc2) := Ky14.out.cell 2
  have fKx0 : w14.cell? ⟨n5, 0, none⟩ = some (.int .i64 x.st) := Kx14.out.cell 0
  have fKx1 : w14.cell? ⟨n5, 1, none⟩ = some (.slice x1 x.nx.length xc1) := Kx14.out.cell 1
  have fKx2 : w14.cell? ⟨n5, 2, none⟩ = some (.slice x2 x.ac.length xc2) := Kx14.out.cell 2
  have fKy0 : w14.cell? ⟨n7, 0, none⟩ = some (.int .i64 y.st) := Ky14.out.cell 0
  have fKy1 : w14.cell? ⟨n7, 1, none⟩ = some (.slice y1 y.nx.length yc1) := Ky14.out.cell 1
  have fKy2 : w14.cell? ⟨n7, 2, none⟩ = some (.slice y2 y.ac.length yc2) := Ky14.out.cell 2
  have HP := Lib.hid (andP_any x y (by have := HXY.out; omega) x1 xc1 x2 xc2 y1 yc1 y2 yc2 w14 HNx14.out HFx14.out HNy14.out HFy14.out)
  go_wp2_with fail
  refine HP.out.mono ?_
  rintro e w15 hgot
  have b15 := hgot.2
  obtain ⟨q, peq, ⟨q1, qc1, q2, qc2, rfl, hpN, hpF⟩, hgr⟩ := hgot.raws (by have := HXY.out; omega)
  have HNq15 := Lib.hid hpN
  have HFq15 := Lib.hid hpF
  have HGRq := Lib.hid hgr
  have HNr15 := Lib.hid (HNr14.out.below b15)
  have HFr15 := Lib.hid (HFr14.out.below b15)
  have HNt15 := Lib.hid (HNt14.out.below b15)
  have HFt15 := Lib.hid (HFt14.out.below b15)
  have Kr15 := Lib.hid (Blk.below Kr14.out b15)
  have Kt15 := Lib.hid (Blk.below Kt14.out b15)
  have HNx15 := Lib.hid (HNx14.out.below b15)
  have HFx15 := Lib.hid (HFx14.out.below b15)
  have Kx15 := Lib.hid (Blk.below Kx14.out b15)
  have HNy15 := Lib.hid (HNy14.out.below b15)
  have HFy15 := Lib.hid (HFy14.out.below b15)
  have Ky15 := Lib.hid (Blk.below Ky14.out b15)
  have HNo15 := Lib.hid (HNo14.out.below b15)
  have HFo15 := Lib.hid (HFo14.out.below b15)
  have Ko15 := Lib.hid (Blk.below Ko14.out b15)
  have HNp15 := Lib.hid (HNp14.out.below b15)
  have HFp15 := Lib.hid (HFp14.out.below b15)
  have Kp15 := Lib.hid (Blk.below Kp14.out b15)
  have HB15 := Lib.hid (st HB14.out b15 HB14.out.size)
  clear b15 hgot hpN hpF hgr HP fKx0 fKx1 fKx2 fKy0 fKy1 fKy2 HNr14 HFr14 HNt14 HFt14 Kr14 Kt14 HNx14 HFx14 Kx14 HNy14 HFy14 Ky14 HNo14 HFo14 Ko14 HNp14 HFp14 Kp14 HB14
  obtain ⟨rfl, hmin, hle⟩ : peq = 0 ∧ IsMin (prodA (toA x) (toA y) (fun x y => x && y)) q ∧ q.nx.length ≤ x.nx.length * y.nx.length := by
    rcases HGRq.out with ⟨h5, _⟩ | ⟨_, h6, h7, h8⟩
    · exact absurd h5 (by simp [HMx.out.ok, HMy.out.ok])
    · exact ⟨h6, h7, h8⟩
  have HMq := Lib.hid hmin
  have HLq := Lib.hid hle
  clear hmin hle
  have b16 := (Below.refl w15.heap.size w15).alloc (Nat.le_refl _) (.cells #[.int .i64 q.st, .slice q1 q.nx.length qc1, .slice q2 q.ac.length qc2] 29)
  have k16 := Blk.new w15 29 #[.int .i64 q.st, .slice q1 q.nx.length qc1, .slice q2 q.ac.length qc2]
  obtain ⟨w16, hw16⟩ : ∃ wx, w15.alloc (.cells #[.int .i64 q.st, .slice q1 q.nx.length qc1, .slice q2 q.ac.length qc2] 29) = wx := ⟨_, rfl⟩
  obtain ⟨n13, hn13⟩ : ∃ B, w15.heap.size = B := ⟨_, rfl⟩
  rw [hw16] at b16 k16
  rw [hn13] at k16
  have HW16 := Lib.hid hw16
  have Hn13 := Lib.hid hn13
  have Kq16 := Lib.hid k16
  have HNr16 := Lib.hid (HNr15.out.below b16)
  have HFr16 := Lib.hid (HFr15.out.below b16)
  have HNt16 := Lib.hid (HNt15.out.below b16)
  have HFt16 := Lib.hid (HFt15.out.below b16)
  have Kr16 := Lib.hid (Blk.below Kr15.out b16)
  have Kt16 := Lib.hid (Blk.below Kt15.out b16)
  have HNx16 := Lib.hid (HNx15.out.below b16)
  have HFx16 := Lib.hid (HFx15.out.below b16)
  have Kx16 := Lib.hid (Blk.below Kx15.out b16)
  have HNy16 := Lib.hid (HNy15.out.below b16)
  have HFy16 := Lib.hid (HFy15.out.below b16)
  have Ky16 := Lib.hid (Blk.below Ky15.out b16)
  have HNo16 := Lib.hid (HNo15.out.below b16)
  have HFo16 := Lib.hid (HFo15.out.below b16)
  have Ko16 := Lib.hid (Blk.below Ko15.out b16)
  have HNp16 := Lib.hid (HNp15.out.below b16)
  have HFp16 := Lib.hid (HFp15.out.below b16)
  have Kp16 := Lib.hid (Blk.below Kp15.out b16)
  have HNq16 := Lib.hid (HNq15.out.below b16)
  have HFq16 := Lib.hid (HFq15.out.below b16)
  have HB16 := Lib.hid (st HB15.out b16 HB15.out.size)
  clear b16 k16 hw16 hn13 HNr15 HFr15 HNt15 HFt15 Kr15 Kt15 HNx15 HFx15 Kx15 HNy15 HFy15 Ky15 HNo15 HFo15 Ko15 HNp15 HFp15 Kp15 HNq15 HFq15 HB15
  have HRX : Hid (r.nx.length * x.nx.length ≤ 144) := Lib.hid (Nat.mul_le_mul HLr.out (Nat.le_trans HLx.out HLr.out))
  go_upto_region 8 with fail
  rw [HW16.out, Hn13.out]
  have HSS : Hid (∀ wx, Below w16.heap.size w16 wx → (fun wx : World => wx.cell? ⟨g, 0, none⟩ = some (.int .i64 r.st) ∧ wx.cell? ⟨g, 1, none⟩ = some (.slice a1 r.nx.length ac1) ∧ wx.cell? ⟨g, 2, none⟩ = some (.slice a2 r.ac.length ac2) ∧ wx.cell? ⟨n5, 0, none⟩ = some (.int .i64 x.st) ∧ wx.cell? ⟨n5, 1, none⟩ = some (.slice x1 x.nx.length xc1) ∧ wx.cell? ⟨n5, 2, none⟩ = some (.slice x2 x.ac.length xc2)) wx) := Lib.hid (fun wx hb => ⟨(Blk.below Kr16.out hb).cell 0, (Blk.below Kr16.out hb).cell 1, (Blk.below Kr16.out hb).cell 2, (Blk.below Kx16.out hb).cell 0, (Blk.below Kx16.out hb).cell 1, (Blk.below Kx16.out hb).cell 2⟩)
  go_cut [15, 16] from 74 to 80 (fun vp ve wx => CutQ (prodA (toA r) (toA x) (fun x y => x && y)) (okD r && okD x) (r.nx.length * x.nx.length) w16 vp ve wx)
  case first =>
    refine region_hd 9 (fun wx : World => wx.cell? ⟨g, 0, none⟩ = some (.int .i64 r.st) ∧ wx.cell? ⟨g, 1, none⟩ = some (.slice a1 r.nx.length ac1) ∧ wx.cell? ⟨g, 2, none⟩ = some (.slice a2 r.ac.length ac2) ∧ wx.cell? ⟨n5, 0, none⟩ = some (.int .i64 x.st) ∧ wx.cell? ⟨n5, 1, none⟩ = some (.slice x1 x.nx.length xc1) ∧ wx.cell? ⟨n5, 2, none⟩ = some (.slice x2 x.ac.length xc2)) (by kernel_rfl) (by kernel_rfl) ?_
    have BX := Lib.hid ((Below.refl w16.heap.size w16).drew)
    obtain ⟨X, hX⟩ : ∃ X, w16.drew = X := ⟨_, rfl⟩
    rw [hX] at BX ⊢
    clear hX
    have hSX := HSS.out X BX.out
    refine hd_taken 0 (some 75) _ ?hdve0 rfl rfl (by kernel_rfl) (fun _ _ _ h => h) (Or.inl ⟨by rfl, ?hdye0⟩) hSX ?hdre0
    case hdye0 => (intro wx hx; (try dsimp only at hx); go_simp; try with_reducible rfl)
    try simp only [Act.put, List.setIfInBounds_toArray, List.set_cons_zero, List.set_cons_succ]
    refine hd_taken 2 (some 77) _ ?hdve2 rfl rfl (by kernel_rfl) (fun _ _ _ h => h) (Or.inl ⟨by rfl, ?hdye2⟩) hSX ?hdre2
    case hdye2 => (intro wx hx; (try dsimp only at hx); go_simp; try with_reducible rfl)
    try simp only [Act.put, List.setIfInBounds_toArray, List.set_cons_zero, List.set_cons_succ]
    refine hd_list [1, 7] (by kernel_rfl) (by decide) (by decide) (fun i hi => ?_)
    simp only [List.mem_cons, List.not_mem_nil, or_false] at hi
    rcases hi with rfl | rfl
    · refine ⟨_, rfl, fun K1 hK1 => ?_⟩
      go_simp
      refine (to_any r.st a1 r.nx.length ac1 a2 r.ac.length ac2 X).mono ?_
      rintro e X_1 ⟨rfl, bb⟩
      try dsimp only
      have BX_1 := Lib.hid (st BX.out bb BX.out.size)
      have hSX_1 := HSS.out X_1 BX_1.out
      refine hK1.out _ _ hSX_1 ?_
      clear hK1 K1 hSX bb
      try simp only [Act.put, List.setIfInBounds_toArray, List.set_cons_zero, List.set_cons_succ]
      refine hd_list [3, 7] (by kernel_rfl) (by decide) (by decide) (fun i hi => ?_)
      simp only [List.mem_cons, List.not_mem_nil, or_false] at hi
      rcases hi with rfl | rfl
      · refine ⟨_, rfl, fun K3 hK3 => ?_⟩
        go_simp
        refine (andP_any r x (by have := HRX.out; omega) a1 ac1 a2 ac2 x1 xc1 x2 xc2 X_1 (HNr16.out.below BX_1.out) (HFr16.out.below BX_1.out) (HNx16.out.below BX_1.out) (HFx16.out.below BX_1.out)).mono ?_
        rintro e X_1_3 hgot
        have bb := hgot.2
        obtain ⟨z, pez, z1, zc1, z2, zc2, rfl, hgr, hkept⟩ := hgot.kept (by have := HRX.out; omega)
        try dsimp only
        have HGRz := Lib.hid hgr
        have HKEPT := Lib.hid hkept
        have BX_1_3 := Lib.hid (st BX_1.out bb BX_1.out.size)
        clear hgot hgr hkept
        have hSX_1_3 := HSS.out X_1_3 BX_1_3.out
        refine hK3.out _ _ hSX_1_3 ?_
        clear hK3 K3 hSX_1 bb
        try simp only [Act.put, List.setIfInBounds_toArray, List.set_cons_zero, List.set_cons_succ]
        refine hd_taken 4 (some 74) _ ?hdvf4 rfl rfl (by kernel_rfl) (fun _ _ _ h => h) (Or.inl ⟨by rfl, ?hdyf4⟩) hSX_1_3 ?hdrf4
        case hdyf4 => (intro wx hx; (try dsimp only at hx); go_simp; try with_reducible rfl)
        try simp only [Act.put, List.setIfInBounds_toArray, List.set_cons_zero, List.set_cons_succ]
        refine hd_taken 5 (some 79) _ ?hdvf5 rfl rfl (by kernel_rfl) (fun _ _ _ h => h) (Or.inl ⟨by rfl, ?hdyf5⟩) hSX_1_3 ?hdrf5
        case hdyf5 => (intro wx hx; (try dsimp only at hx); go_simp; try with_reducible rfl)
        try simp only [Act.put, List.setIfInBounds_toArray, List.set_cons_zero, List.set_cons_succ]
        refine hd_taken 6 (some 80) _ ?hdvf6 rfl rfl (by kernel_rfl) (fun _ _ _ h => h) (Or.inl ⟨by rfl, ?hdyf6⟩) hSX_1_3 ?hdrf6
        case hdyf6 => (intro wx hx; (try dsimp only at hx); go_simp; try with_reducible rfl)
        try simp only [Act.put, List.setIfInBounds_toArray, List.set_cons_zero, List.set_cons_succ]
        refine hd_list [7] (by kernel_rfl) (by decide) (by decide) (fun i hi => ?_)
        simp only [List.mem_cons, List.not_mem_nil, or_false] at hi
        subst hi
        refine ⟨_, rfl, fun K7 hK7 => ?_⟩
        go_simp
        have bb := (Below.refl X_1_3.heap.size X_1_3).alloc (Nat.le_refl _) (.cells #[.int .i64 0, .slice none 0 0, .slice none 0 0] 29)
        have kp := Blk.new X_1_3 29 #[.int .i64 0, .slice none 0 0, .slice none 0 0]
        obtain ⟨p, hp⟩ : ∃ p, X_1_3.heap.size = p := ⟨_, rfl⟩
        obtain ⟨X_1_3_7, hX_1_3_7⟩ : ∃ X_1_3_7, X_1_3.alloc (.cells #[.int .i64 0, .slice none 0 0, .slice none 0 0] 29) = X_1_3_7 := ⟨_, rfl⟩
        rw [hX_1_3_7] at bb kp
        have BX_1_3_7 := Lib.hid (st BX_1_3.out bb BX_1_3.out.size)
        have HPG : Hid (w16.heap.size ≤ p) := Lib.hid (by rw [← hp]; exact BX_1_3.out.size)
        rw [hp] at kp
        have KPX_1_3_7 := Lib.hid kp
        have HPA : Hid (Below X_1_3.heap.size X_1_3 X_1_3_7) := Lib.hid bb
        rw [hp] at HPA
        have HPE := Lib.hid hp
        rw [hp, hX_1_3_7]
        have hSX_1_3_7 := HSS.out X_1_3_7 BX_1_3_7.out
        refine hK7.out _ _ hSX_1_3_7 ?_
        clear hK7 K7 hSX_1_3 bb kp hp hX_1_3_7
        try simp only [Act.put, List.setIfInBounds_toArray, List.set_cons_zero, List.set_cons_succ]
        have xf := KPX_1_3_7.out.frozen
        have y0 : X_1_3_7.cell? ⟨p, 0, none⟩ = some (.int .i64 0) := KPX_1_3_7.out.cell 0
        have y1 : X_1_3_7.cell? ⟨p, 1, none⟩ = some (.slice none 0 0) := KPX_1_3_7.out.cell 1
        have y2 : X_1_3_7.cell? ⟨p, 2, none⟩ = some (.slice none 0 0) := KPX_1_3_7.out.cell 2
        have HFIN : Hid (CutQ (prodA (toA r) (toA x) (fun x y => x && y)) (okD r && okD x) (r.nx.length * x.nx.length) w16 (.pointer (some ⟨p, 0, none⟩)) (.int .i64 pez) (put3 X_1_3_7 p (.int .i64 z.st) (.slice z1 z.nx.length zc1) (.slice z2 z.ac.length zc2)) ∧ Below w16.heap.size w16 (put3 X_1_3_7 p (.int .i64 z.st) (.slice z1 z.nx.length zc1) (.slice z2 z.ac.length zc2))) := Lib.hid (by
          obtain ⟨p1, p2⟩ := put3_ok (n := p) (a' := .int .i64 z.st) (b' := .slice z1 z.nx.length zc1) (c' := .slice z2 z.ac.length zc2) KPX_1_3_7.out (Nat.le_refl p)
          obtain ⟨r1, r2⟩ := HKEPT.out _ _ (Fr.of_below (X := fun _ => False) ((HPA.out.trans p2).mono (Nat.le_of_eq HPE.out))) (fun b e => e.elim)
          have hb := BX_1_3_7.out.trans (p2.mono HPG.out)
          exact ⟨⟨p, z, pez, z1, zc1, z2, zc2, rfl, rfl, p1, r1, r2, HGRz.out, hb⟩, hb⟩)
        have hSF := HSS.out (put3 X_1_3_7 p (.int .i64 z.st) (.slice z1 z.nx.length zc1) (.slice z2 z.ac.length zc2)) HFIN.out.2
        refine hd_one 8 _ rfl (by kernel_rfl) (by decide) (fun KS hKS => ?_)
        go_simp
        refine hKS.out _ _ hSF ?_
        clear hKS KS hSX_1_3_7 xf y0 y1 y2 hSF HSS
        try simp only [Act.put, List.setIfInBounds_toArray, List.set_cons_zero, List.set_cons_succ]
        refine hd_done (by kernel_rfl) ?_
        simp only [List.drop_succ_cons, List.drop_zero]
        go_wp2_with fail
        go_meet
        exact HFIN.out.1
      · refine ⟨_, rfl, fun K7 hK7 => ?_⟩
        go_simp
        have bb := (Below.refl X_1.heap.size X_1).alloc (Nat.le_refl _) (.cells #[.int .i64 0, .slice none 0 0, .slice none 0 0] 29)
        have kp := Blk.new X_1 29 #[.int .i64 0, .slice none 0 0, .slice none 0 0]
        obtain ⟨p, hp⟩ : ∃ p, X_1.heap.size = p := ⟨_, rfl⟩
        obtain ⟨X_1_7, hX_1_7⟩ : ∃ X_1_7, X_1.alloc (.cells #[.int .i64 0, .slice none 0 0, .slice none 0 0] 29) = X_1_7 := ⟨_, rfl⟩
        rw [hX_1_7] at bb kp
        have BX_1_7 := Lib.hid (st BX_1.out bb BX_1.out.size)
        have HPG : Hid (w16.heap.size ≤ p) := Lib.hid (by rw [← hp]; exact BX_1.out.size)
        rw [hp] at kp
        have KPX_1_7 := Lib.hid kp
        rw [hp, hX_1_7]
        have hSX_1_7 := HSS.out X_1_7 BX_1_7.out
        refine hK7.out _ _ hSX_1_7 ?_
        clear hK7 K7 hSX_1 bb kp hp hX_1_7
        try simp only [Act.put, List.setIfInBounds_toArray, List.set_cons_zero, List.set_cons_succ]
        refine hd_list [3] (by kernel_rfl) (by decide) (by decide) (fun i hi => ?_)
        simp only [List.mem_cons, List.not_mem_nil, or_false] at hi
        subst hi
        refine ⟨_, rfl, fun K3 hK3 => ?_⟩
        go_simp
        refine (andP_any r x (by have := HRX.out; omega) a1 ac1 a2 ac2 x1 xc1 x2 xc2 X_1_7 (HNr16.out.below BX_1_7.out) (HFr16.out.below BX_1_7.out) (HNx16.out.below BX_1_7.out) (HFx16.out.below BX_1_7.out)).mono ?_
        rintro e X_1_7_3 hgot
        have bb := hgot.2
        obtain ⟨z, pez, z1, zc1, z2, zc2, rfl, hgr, hkept⟩ := hgot.kept (by have := HRX.out; omega)
        try dsimp only
        have HGRz := Lib.hid hgr
        have HKEPT := Lib.hid hkept
        have BX_1_7_3 := Lib.hid (st BX_1_7.out bb BX_1_7.out.size)
        have HPL : Hid (p < X_1_7.heap.size) := Lib.hid KPX_1_7.out.lt
        have KPX_1_7_3 := Lib.hid (Blk.below KPX_1_7.out bb)
        clear hgot hgr hkept
        have hSX_1_7_3 := HSS.out X_1_7_3 BX_1_7_3.out
        refine hK3.out _ _ hSX_1_7_3 ?_
        clear hK3 K3 hSX_1_7 bb
        try simp only [Act.put, List.setIfInBounds_toArray, List.set_cons_zero, List.set_cons_succ]
        refine hd_taken 4 (some 74) _ ?hdvg4 rfl rfl (by kernel_rfl) (fun _ _ _ h => h) (Or.inl ⟨by rfl, ?hdyg4⟩) hSX_1_7_3 ?hdrg4
        case hdyg4 => (intro wx hx; (try dsimp only at hx); go_simp; try with_reducible rfl)
        try simp only [Act.put, List.setIfInBounds_toArray, List.set_cons_zero, List.set_cons_succ]
        refine hd_taken 5 (some 79) _ ?hdvg5 rfl rfl (by kernel_rfl) (fun _ _ _ h => h) (Or.inl ⟨by rfl, ?hdyg5⟩) hSX_1_7_3 ?hdrg5
        case hdyg5 => (intro wx hx; (try dsimp only at hx); go_simp; try with_reducible rfl)
        try simp only [Act.put, List.setIfInBounds_toArray, List.set_cons_zero, List.set_cons_succ]
        refine hd_taken 6 (some 80) _ ?hdvg6 rfl rfl (by kernel_rfl) (fun _ _ _ h => h) (Or.inl ⟨by rfl, ?hdyg6⟩) hSX_1_7_3 ?hdrg6
        case hdyg6 => (intro wx hx; (try dsimp only at hx); go_simp; try with_reducible rfl)
        try simp only [Act.put, List.setIfInBounds_toArray, List.set_cons_zero, List.set_cons_succ]
        have xf := KPX_1_7_3.out.frozen
        have y0 : X_1_7_3.cell? ⟨p, 0, none⟩ = some (.int .i64 0) := KPX_1_7_3.out.cell 0
        have y1 : X_1_7_3.cell? ⟨p, 1, none⟩ = some (.slice none 0 0) := KPX_1_7_3.out.cell 1
        have y2 : X_1_7_3.cell? ⟨p, 2, none⟩ = some (.slice none 0 0) := KPX_1_7_3.out.cell 2
        have HFIN : Hid (CutQ (prodA (toA r) (toA x) (fun x y => x && y)) (okD r && okD x) (r.nx.length * x.nx.length) w16 (.pointer (some ⟨p, 0, none⟩)) (.int .i64 pez) (put3 X_1_7_3 p (.int .i64 z.st) (.slice z1 z.nx.length zc1) (.slice z2 z.ac.length zc2)) ∧ Below w16.heap.size w16 (put3 X_1_7_3 p (.int .i64 z.st) (.slice z1 z.nx.length zc1) (.slice z2 z.ac.length zc2))) := Lib.hid (by
          obtain ⟨p1, p2⟩ := put3_ok (n := w16.heap.size) (a' := .int .i64 z.st) (b' := .slice z1 z.nx.length zc1) (c' := .slice z2 z.ac.length zc2) KPX_1_7_3.out HPG.out
          obtain ⟨r1, r2⟩ := HKEPT.out _ _ (Fr.grown (put3_grown X_1_7_3 p (.int .i64 z.st) (.slice z1 z.nx.length zc1) (.slice z2 z.ac.length zc2)) (X := fun b => b = p) (fun k e => by injection e with e; exact e.symm)) (fun b e => by have e : b = p := e; rw [e]; exact HPL.out)
          have hb := BX_1_7_3.out.trans (p2)
          exact ⟨⟨p, z, pez, z1, zc1, z2, zc2, rfl, rfl, p1, r1, r2, HGRz.out, hb⟩, hb⟩)
        have hSF := HSS.out (put3 X_1_7_3 p (.int .i64 z.st) (.slice z1 z.nx.length zc1) (.slice z2 z.ac.length zc2)) HFIN.out.2
        refine hd_one 8 _ rfl (by kernel_rfl) (by decide) (fun KS hKS => ?_)
        go_simp
        refine hKS.out _ _ hSF ?_
        clear hKS KS hSX_1_7_3 xf y0 y1 y2 hSF HSS
        try simp only [Act.put, List.setIfInBounds_toArray, List.set_cons_zero, List.set_cons_succ]
        refine hd_done (by kernel_rfl) ?_
        simp only [List.drop_succ_cons, List.drop_zero]
        go_wp2_with fail
        go_meet
        exact HFIN.out.1
    · refine ⟨_, rfl, fun K7 hK7 => ?_⟩
      go_simp
      have bb := (Below.refl X.heap.size X).alloc (Nat.le_refl _) (.cells #[.int .i64 0, .slice none 0 0, .slice none 0 0] 29)
      have kp := Blk.new X 29 #[.int .i64 0, .slice none 0 0, .slice none 0 0]
      obtain ⟨p, hp⟩ : ∃ p, X.heap.size = p := ⟨_, rfl⟩
      obtain ⟨X_7, hX_7⟩ : ∃ X_7, X.alloc (.cells #[.int .i64 0, .slice none 0 0, .slice none 0 0] 29) = X_7 := ⟨_, rfl⟩
      rw [hX_7] at bb kp
      have BX_7 := Lib.hid (st BX.out bb BX.out.size)
      have HPG : Hid (w16.heap.size ≤ p) := Lib.hid (by rw [← hp]; exact BX.out.size)
      rw [hp] at kp
      have KPX_7 := Lib.hid kp
      rw [hp, hX_7]
      have hSX_7 := HSS.out X_7 BX_7.out
      refine hK7.out _ _ hSX_7 ?_
      clear hK7 K7 hSX bb kp hp hX_7
      try simp only [Act.put, List.setIfInBounds_toArray, List.set_cons_zero, List.set_cons_succ]
      refine hd_list [1] (by kernel_rfl) (by decide) (by decide) (fun i hi => ?_)
      simp only [List.mem_cons, List.not_mem_nil, or_false] at hi
      subst hi
      refine ⟨_, rfl, fun K1 hK1 => ?_⟩
      go_simp
      refine (to_any r.st a1 r.nx.length ac1 a2 r.ac.length ac2 X_7).mono ?_
      rintro e X_7_1 ⟨rfl, bb⟩
      try dsimp only
      have BX_7_1 := Lib.hid (st BX_7.out bb BX_7.out.size)
      have KPX_7_1 := Lib.hid (Blk.below KPX_7.out bb)
      have hSX_7_1 := HSS.out X_7_1 BX_7_1.out
      refine hK1.out _ _ hSX_7_1 ?_
      clear hK1 K1 hSX_7 bb
      try simp only [Act.put, List.setIfInBounds_toArray, List.set_cons_zero, List.set_cons_succ]
      refine hd_list [3] (by kernel_rfl) (by decide) (by decide) (fun i hi => ?_)
      simp only [List.mem_cons, List.not_mem_nil, or_false] at hi
      subst hi
      refine ⟨_, rfl, fun K3 hK3 => ?_⟩
      go_simp
      refine (andP_any r x (by have := HRX.out; omega) a1 ac1 a2 ac2 x1 xc1 x2 xc2 X_7_1 (HNr16.out.below BX_7_1.out) (HFr16.out.below BX_7_1.out) (HNx16.out.below BX_7_1.out) (HFx16.out.below BX_7_1.out)).mono ?_
      rintro e X_7_1_3 hgot
      have bb := hgot.2
      obtain ⟨z, pez, z1, zc1, z2, zc2, rfl, hgr, hkept⟩ := hgot.kept (by have := HRX.out; omega)
      try dsimp only
      have HGRz := Lib.hid hgr
      have HKEPT := Lib.hid hkept
      have BX_7_1_3 := Lib.hid (st BX_7_1.out bb BX_7_1.out.size)
      have HPL : Hid (p < X_7_1.heap.size) := Lib.hid KPX_7_1.out.lt
      have KPX_7_1_3 := Lib.hid (Blk.below KPX_7_1.out bb)
      clear hgot hgr hkept
      have hSX_7_1_3 := HSS.out X_7_1_3 BX_7_1_3.out
      refine hK3.out _ _ hSX_7_1_3 ?_
      clear hK3 K3 hSX_7_1 bb
      try simp only [Act.put, List.setIfInBounds_toArray, List.set_cons_zero, List.set_cons_succ]
      refine hd_taken 4 (some 74) _ ?hdvh4 rfl rfl (by kernel_rfl) (fun _ _ _ h => h) (Or.inl ⟨by rfl, ?hdyh4⟩) hSX_7_1_3 ?hdrh4
      case hdyh4 => (intro wx hx; (try dsimp only at hx); go_simp; try with_reducible rfl)
      try simp only [Act.put, List.setIfInBounds_toArray, List.set_cons_zero, List.set_cons_succ]
      refine hd_taken 5 (some 79) _ ?hdvh5 rfl rfl (by kernel_rfl) (fun _ _ _ h => h) (Or.inl ⟨by rfl, ?hdyh5⟩) hSX_7_1_3 ?hdrh5
      case hdyh5 => (intro wx hx; (try dsimp only at hx); go_simp; try with_reducible rfl)
      try simp only [Act.put, List.setIfInBounds_toArray, List.set_cons_zero, List.set_cons_succ]
      refine hd_taken 6 (some 80) _ ?hdvh6 rfl rfl (by kernel_rfl) (fun _ _ _ h => h) (Or.inl ⟨by rfl, ?hdyh6⟩) hSX_7_1_3 ?hdrh6
      case hdyh6 => (intro wx hx; (try dsimp only at hx); go_simp; try with_reducible rfl)
      try simp only [Act.put, List.setIfInBounds_toArray, List.set_cons_zero, List.set_cons_succ]
      have xf := KPX_7_1_3.out.frozen
      have y0 : X_7_1_3.cell? ⟨p, 0, none⟩ = some (.int .i64 0) := KPX_7_1_3.out.cell 0
      have y1 : X_7_1_3.cell? ⟨p, 1, none⟩ = some (.slice none 0 0) := KPX_7_1_3.out.cell 1
      have y2 : X_7_1_3.cell? ⟨p, 2, none⟩ = some (.slice none 0 0) := KPX_7_1_3.out.cell 2
      have HFIN : Hid (CutQ (prodA (toA r) (toA x) (fun x y => x && y)) (okD r && okD x) (r.nx.length * x.nx.length) w16 (.pointer (some ⟨p, 0, none⟩)) (.int .i64 pez) (put3 X_7_1_3 p (.int .i64 z.st) (.slice z1 z.nx.length zc1) (.slice z2 z.ac.length zc2)) ∧ Below w16.heap.size w16 (put3 X_7_1_3 p (.int .i64 z.st) (.slice z1 z.nx.length zc1) (.slice z2 z.ac.length zc2))) := Lib.hid (by
        obtain ⟨p1, p2⟩ := put3_ok (n := w16.heap.size) (a' := .int .i64 z.st) (b' := .slice z1 z.nx.length zc1) (c' := .slice z2 z.ac.length zc2) KPX_7_1_3.out HPG.out
        obtain ⟨r1, r2⟩ := HKEPT.out _ _ (Fr.grown (put3_grown X_7_1_3 p (.int .i64 z.st) (.slice z1 z.nx.length zc1) (.slice z2 z.ac.length zc2)) (X := fun b => b = p) (fun k e => by injection e with e; exact e.symm)) (fun b e => by have e : b = p := e; rw [e]; exact HPL.out)
        have hb := BX_7_1_3.out.trans (p2)
        exact ⟨⟨p, z, pez, z1, zc1, z2, zc2, rfl, rfl, p1, r1, r2, HGRz.out, hb⟩, hb⟩)
      have hSF := HSS.out (put3 X_7_1_3 p (.int .i64 z.st) (.slice z1 z.nx.length zc1) (.slice z2 z.ac.length zc2)) HFIN.out.2
      refine hd_one 8 _ rfl (by kernel_rfl) (by decide) (fun KS hKS => ?_)
      go_simp
      refine hKS.out _ _ hSF ?_
      clear hKS KS hSX_7_1_3 xf y0 y1 y2 hSF HSS
      try simp only [Act.put, List.setIfInBounds_toArray, List.set_cons_zero, List.set_cons_succ]
      refine hd_done (by kernel_rfl) ?_
      simp only [List.drop_succ_cons, List.drop_zero]
      go_wp2_with fail
      go_meet
      exact HFIN.out.1
  case rest =>
  rename World => w17
  obtain ⟨n15, z, pez, z1, zc1, z2, zc2, rfl, rfl, hk, hpN, hpF, hgr, b17⟩ := hcut
  have HNz17 := Lib.hid hpN
  have HFz17 := Lib.hid hpF
  have Kz17 := Lib.hid hk
  have HGRz := Lib.hid hgr
  have HNr17 := Lib.hid (HNr16.out.below b17)
  have HFr17 := Lib.hid (HFr16.out.below b17)
  have HNt17 := Lib.hid (HNt16.out.below b17)
  have HFt17 := Lib.hid (HFt16.out.below b17)
  have Kr17 := Lib.hid (Blk.below Kr16.out b17)
  have Kt17 := Lib.hid (Blk.below Kt16.out b17)
  have HNx17 := Lib.hid (HNx16.out.below b17)
  have HFx17 := Lib.hid (HFx16.out.below b17)
  have Kx17 := Lib.hid (Blk.below Kx16.out b17)
  have HNy17 := Lib.hid (HNy16.out.below b17)
  have HFy17 := Lib.hid (HFy16.out.below b17)
  have Ky17 := Lib.hid (Blk.below Ky16.out b17)
  have HNo17 := Lib.hid (HNo16.out.below b17)
  have HFo17 := Lib.hid (HFo16.out.below b17)
  have Ko17 := Lib.hid (Blk.below Ko16.out b17)
  have HNp17 := Lib.hid (HNp16.out.below b17)
  have HFp17 := Lib.hid (HFp16.out.below b17)
  have Kp17 := Lib.hid (Blk.below Kp16.out b17)
  have HNq17 := Lib.hid (HNq16.out.below b17)
  have HFq17 := Lib.hid (HFq16.out.below b17)
  have Kq17 := Lib.hid (Blk.below Kq16.out b17)
  have HB17 := Lib.hid (st HB16.out b17 HB16.out.size)
  clear b17 hk hpN hpF hgr HSS HNr16 HFr16 HNt16 HFt16 Kr16 Kt16 HNx16 HFx16 Kx16 HNy16 HFy16 Ky16 HNo16 HFo16 Ko16 HNp16 HFp16 Kp16 HNq16 HFq16 Kq16 HB16
  obtain ⟨rfl, hmin, hle⟩ : pez = 0 ∧ IsMin (prodA (toA r) (toA x) (fun x y => x && y)) z ∧ z.nx.length ≤ r.nx.length * x.nx.length := by
    rcases HGRz.out with ⟨h5, _⟩ | ⟨_, h6, h7, h8⟩
    · exact absurd h5 (by simp [HOKr.out, HMx.out.ok])
    · exact ⟨h6, h7, h8⟩
  have HMz := Lib.hid hmin
  have HLz := Lib.hid hle
  clear hmin hle
  have fKz0 : w17.cell? ⟨n15, 0, none⟩ = some (.int .i64 z.st) := Kz17.out.cell 0
  have fKz1 : w17.cell? ⟨n15, 1, none⟩ = some (.slice z1 z.nx.length zc1) := Kz17.out.cell 1
  have fKz2 : w17.cell? ⟨n15, 2, none⟩ = some (.slice z2 z.ac.length zc2) := Kz17.out.cell 2
  have HQ0 := Lib.hid (okD_iff.1 HMx.out.ok).1
  have HY0 := Lib.hid (okD_iff.1 HMy.out.ok).1
  have HO0 := Lib.hid (okD_iff.1 HMo.out.ok).1
  have HNEV : Hid (Never (toA z)) := Lib.hid ((and_never HR.out.ok HQ0.out.ok HMx.out.eqv).eqv HMz.out.eqv.symm)
  have HPQ : Hid (p = q) := Lib.hid ((HMp.out.of (compl_eqv HMo.out.eqv)).uniq (HMq.out.of (morgan_eqv HR.out.ok HT.out.ok HQ0.out.ok HY0.out.ok HMx.out.eqv HMy.out.eqv)))
  have HP := Lib.hid (shortestP_any z z1 zc1 z2 zc2 w17 HNz17.out HFz17.out)
  go_wp2_with fail
  refine HP.out.mono ?_
  rintro e w18 hsh
  have b18 := hsh.2
  obtain rfl : e = .returned (.tuple #[.string (ofL []), .bool false, .int .i64 0]) := by
    rcases hsh.1 with ⟨h1, _⟩ | ⟨_, ⟨v, h2, _⟩ | ⟨_, h3⟩⟩
    · rw [HMz.out.ok] at h1; cases h1
    · exact (h2.never HNEV.out).elim
    · exact h3
  have HNr18 := Lib.hid (HNr17.out.below b18)
  have HFr18 := Lib.hid (HFr17.out.below b18)
  have HNt18 := Lib.hid (HNt17.out.below b18)
  have HFt18 := Lib.hid (HFt17.out.below b18)
  have Kr18 := Lib.hid (Blk.below Kr17.out b18)
  have Kt18 := Lib.hid (Blk.below Kt17.out b18)
  have HNx18 := Lib.hid (HNx17.out.below b18)
  have HFx18 := Lib.hid (HFx17.out.below b18)
  have Kx18 := Lib.hid (Blk.below Kx17.out b18)
  have HNy18 := Lib.hid (HNy17.out.below b18)
  have HFy18 := Lib.hid (HFy17.out.below b18)
  have Ky18 := Lib.hid (Blk.below Ky17.out b18)
  have HNo18 := Lib.hid (HNo17.out.below b18)
  have HFo18 := Lib.hid (HFo17.out.below b18)
  have Ko18 := Lib.hid (Blk.below Ko17.out b18)
  have HNp18 := Lib.hid (HNp17.out.below b18)
  have HFp18 := Lib.hid (HFp17.out.below b18)
  have Kp18 := Lib.hid (Blk.below Kp17.out b18)
  have HNq18 := Lib.hid (HNq17.out.below b18)
  have HFq18 := Lib.hid (HFq17.out.below b18)
  have Kq18 := Lib.hid (Blk.below Kq17.out b18)
  have HNz18 := Lib.hid (HNz17.out.below b18)
  have HFz18 := Lib.hid (HFz17.out.below b18)
  have Kz18 := Lib.hid (Blk.below Kz17.out b18)
  have HB18 := Lib.hid (st HB17.out b18 HB17.out.size)
  clear b18 hsh HP fKz0 fKz1 fKz2 HNr17 HFr17 HNt17 HFt17 Kr17 Kt17 HNx17 HFx17 Kx17 HNy17 HFy17 Ky17 HNo17 HFo17 Ko17 HNp17 HFp17 Kp17 HNq17 HFq17 Kq17 HNz17 HFz17 Kz17 HB17
  go_upto_region 10 with fail
  have HSS : Hid (∀ wx, Below w18.heap.size w18 wx → (fun wx : World => wx.cell? ⟨n11, 0, none⟩ = some (.int .i64 p.st) ∧ wx.cell? ⟨n11, 1, none⟩ = some (.slice p1 p.nx.length pc1) ∧ wx.cell? ⟨n11, 2, none⟩ = some (.slice p2 p.ac.length pc2) ∧ wx.cell? ⟨n13, 0, none⟩ = some (.int .i64 q.st) ∧ wx.cell? ⟨n13, 1, none⟩ = some (.slice q1 q.nx.length qc1) ∧ wx.cell? ⟨n13, 2, none⟩ = some (.slice q2 q.ac.length qc2)) wx) := Lib.hid (fun wx hb => ⟨(Blk.below Kp18.out hb).cell 0, (Blk.below Kp18.out hb).cell 1, (Blk.below Kp18.out hb).cell 2, (Blk.below Kq18.out hb).cell 0, (Blk.below Kq18.out hb).cell 1, (Blk.below Kq18.out hb).cell 2⟩)
  have BX := Lib.hid ((Below.refl w18.heap.size w18).drew)
  refine region_hd 31 (fun wx : World => wx.cell? ⟨n11, 0, none⟩ = some (.int .i64 p.st) ∧ wx.cell? ⟨n11, 1, none⟩ = some (.slice p1 p.nx.length pc1) ∧ wx.cell? ⟨n11, 2, none⟩ = some (.slice p2 p.ac.length pc2) ∧ wx.cell? ⟨n13, 0, none⟩ = some (.int .i64 q.st) ∧ wx.cell? ⟨n13, 1, none⟩ = some (.slice q1 q.nx.length qc1) ∧ wx.cell? ⟨n13, 2, none⟩ = some (.slice q2 q.ac.length qc2)) (by kernel_rfl) (by kernel_rfl) ?_
  obtain ⟨X, hX⟩ : ∃ X, w18.drew = X := ⟨_, rfl⟩
  rw [hX] at BX ⊢
  clear hX
  have hSX := HSS.out X BX.out
  refine hd_taken 0 (some 87) _ ?hdvi0 rfl rfl (by kernel_rfl) (fun _ _ _ h => h) (Or.inl ⟨by rfl, ?hdyi0⟩) hSX ?hdri0
  case hdyi0 => (intro wx hx; (try dsimp only at hx); go_simp; try with_reducible rfl)
  try simp only [Act.put, List.setIfInBounds_toArray, List.set_cons_zero, List.set_cons_succ]
  refine hd_taken 1 (some 88) _ ?hdvi1 rfl rfl (by kernel_rfl) (fun _ _ _ h => h) (Or.inl ⟨by rfl, ?hdyi1⟩) hSX ?hdri1
  case hdyi1 => (intro wx hx; (try dsimp only at hx); go_simp; try with_reducible rfl)
  try simp only [Act.put, List.setIfInBounds_toArray, List.set_cons_zero, List.set_cons_succ]
  refine hd_taken 2 (some 89) _ ?hdvi2 rfl rfl (by kernel_rfl) (fun _ _ _ h => h) (Or.inl ⟨by rfl, ?hdyi2⟩) hSX ?hdri2
  case hdyi2 => (intro wx hx; (try dsimp only at hx); go_simp; try with_reducible rfl)
  try simp only [Act.put, List.setIfInBounds_toArray, List.set_cons_zero, List.set_cons_succ]
  refine hd_taken 3 (some 90) _ ?hdvi3 rfl rfl (by kernel_rfl) (fun _ _ _ h => h) (Or.inl ⟨by rfl, ?hdyi3⟩) hSX ?hdri3
  case hdyi3 => (intro wx hx; (try dsimp only at hx); go_simp; try with_reducible rfl)
  try simp only [Act.put, List.setIfInBounds_toArray, List.set_cons_zero, List.set_cons_succ]
  refine hd_taken 4 (some 91) _ ?hdvi4 rfl rfl (by kernel_rfl) (fun _ _ _ h => h) (Or.inl ⟨by rfl, ?hdyi4⟩) hSX ?hdri4
  case hdyi4 => (intro wx hx; (try dsimp only at hx); go_simp; try with_reducible rfl)
  try simp only [Act.put, List.setIfInBounds_toArray, List.set_cons_zero, List.set_cons_succ]
  refine hd_taken 5 (some 92) _ ?hdvi5 rfl rfl (by kernel_rfl) (fun _ _ _ h => h) (Or.inl ⟨by rfl, ?hdyi5⟩) hSX ?hdri5
  case hdyi5 => (intro wx hx; (try dsimp only at hx); go_simp; try with_reducible rfl)
  try simp only [Act.put, List.setIfInBounds_toArray, List.set_cons_zero, List.set_cons_succ]
  refine hd_taken 6 (some 93) _ ?hdvi6 rfl rfl (by kernel_rfl) (fun _ _ _ h => h) (Or.inl ⟨by rfl, ?hdyi6⟩) hSX ?hdri6
  case hdyi6 => (intro wx hx; (try dsimp only at hx); go_simp; try with_reducible rfl)
  try simp only [Act.put, List.setIfInBounds_toArray, List.set_cons_zero, List.set_cons_succ]
  refine hd_taken 7 (some 94) _ ?hdvi7 rfl rfl (by kernel_rfl) (fun _ _ _ h => h) (Or.inl ⟨by rfl, ?hdyi7⟩) hSX ?hdri7
  case hdyi7 => (intro wx hx; (try dsimp only at hx); go_simp; try with_reducible rfl)
  try simp only [Act.put, List.setIfInBounds_toArray, List.set_cons_zero, List.set_cons_succ]
  refine hd_taken 8 (some 95) _ ?hdvi8 rfl rfl (by kernel_rfl) (fun _ _ _ h => h) (Or.inl ⟨by rfl, ?hdyi8⟩) hSX ?hdri8
  case hdyi8 => (intro wx hx; (try dsimp only at hx); go_simp; try with_reducible rfl)
  try simp only [Act.put, List.setIfInBounds_toArray, List.set_cons_zero, List.set_cons_succ]
  refine hd_taken 9 (some 96) _ ?hdvi9 rfl rfl (by kernel_rfl) (fun _ _ _ h => h) (Or.inl ⟨by rfl, ?hdyi9⟩) hSX ?hdri9
  case hdyi9 => (intro wx hx; (try dsimp only at hx); go_simp; try with_reducible rfl)
  try simp only [Act.put, List.setIfInBounds_toArray, List.set_cons_zero, List.set_cons_succ]
  refine hd_taken 10 (some 97) _ ?hdvi10 rfl rfl (by kernel_rfl) (fun _ _ _ h => h) (Or.inl ⟨by rfl, ?hdyi10⟩) hSX ?hdri10
  case hdyi10 => (intro wx hx; (try dsimp only at hx); go_simp; try with_reducible rfl)
  try simp only [Act.put, List.setIfInBounds_toArray, List.set_cons_zero, List.set_cons_succ]
  refine hd_taken 11 (some 98) _ ?hdvi11 rfl rfl (by kernel_rfl) (fun _ _ _ h => h) (Or.inl ⟨by rfl, ?hdyi11⟩) hSX ?hdri11
  case hdyi11 => (intro wx hx; (try dsimp only at hx); go_simp; try with_reducible rfl)
  try simp only [Act.put, List.setIfInBounds_toArray, List.set_cons_zero, List.set_cons_succ]
  refine hd_taken 12 (some 99) _ ?hdvi12 rfl rfl (by kernel_rfl) (fun _ _ _ h => h) (Or.inl ⟨by rfl, ?hdyi12⟩) hSX ?hdri12
  case hdyi12 => (intro wx hx; (try dsimp only at hx); go_simp; try with_reducible rfl)
  try simp only [Act.put, List.setIfInBounds_toArray, List.set_cons_zero, List.set_cons_succ]
  refine hd_taken 13 (some 100) _ ?hdvi13 rfl rfl (by kernel_rfl) (fun _ _ _ h => h) (Or.inl ⟨by rfl, ?hdyi13⟩) hSX ?hdri13
  case hdyi13 => (intro wx hx; (try dsimp only at hx); go_simp; try with_reducible rfl)
  try simp only [Act.put, List.setIfInBounds_toArray, List.set_cons_zero, List.set_cons_succ]
  refine hd_taken 14 (some 101) _ ?hdvi14 rfl rfl (by kernel_rfl) (fun _ _ _ h => h) (Or.inl ⟨by rfl, ?hdyi14⟩) hSX ?hdri14
  case hdyi14 => (intro wx hx; (try dsimp only at hx); go_simp; try with_reducible rfl)
  try simp only [Act.put, List.setIfInBounds_toArray, List.set_cons_zero, List.set_cons_succ]
  refine hd_taken 15 (some 102) _ ?hdvi15 rfl rfl (by kernel_rfl) (fun _ _ _ h => h) (Or.inl ⟨by rfl, ?hdyi15⟩) hSX ?hdri15
  case hdyi15 => (intro wx hx; (try dsimp only at hx); go_simp; try with_reducible rfl)
  try simp only [Act.put, List.setIfInBounds_toArray, List.set_cons_zero, List.set_cons_succ]
  refine hd_taken 16 (some 103) _ ?hdvi16 rfl rfl (by kernel_rfl) (fun _ _ _ h => h) (Or.inl ⟨by rfl, ?hdyi16⟩) hSX ?hdri16
  case hdyi16 => (intro wx hx; (try dsimp only at hx); go_simp; try with_reducible rfl)
  try simp only [Act.put, List.setIfInBounds_toArray, List.set_cons_zero, List.set_cons_succ]
  refine hd_taken 17 (some 104) _ ?hdvi17 rfl rfl (by kernel_rfl) (fun _ _ _ h => h) (Or.inl ⟨by rfl, ?hdyi17⟩) hSX ?hdri17
  case hdyi17 => (intro wx hx; (try dsimp only at hx); go_simp; try with_reducible rfl)
  try simp only [Act.put, List.setIfInBounds_toArray, List.set_cons_zero, List.set_cons_succ]
  refine hd_taken 18 (some 105) _ ?hdvi18 rfl rfl (by kernel_rfl) (fun _ _ _ h => h) (Or.inl ⟨by rfl, ?hdyi18⟩) hSX ?hdri18
  case hdyi18 => (intro wx hx; (try dsimp only at hx); go_simp; try with_reducible rfl)
  try simp only [Act.put, List.setIfInBounds_toArray, List.set_cons_zero, List.set_cons_succ]
  refine hd_taken 19 (some 106) _ ?hdvi19 rfl rfl (by kernel_rfl) (fun _ _ _ h => h) (Or.inl ⟨by rfl, ?hdyi19⟩) hSX ?hdri19
  case hdyi19 => (intro wx hx; (try dsimp only at hx); go_simp; try with_reducible rfl)
  try simp only [Act.put, List.setIfInBounds_toArray, List.set_cons_zero, List.set_cons_succ]
  refine hd_taken 20 (some 107) _ ?hdvi20 rfl rfl (by kernel_rfl) (fun _ _ _ h => h) (Or.inl ⟨by rfl, ?hdyi20⟩) hSX ?hdri20
  case hdyi20 => (intro wx hx; (try dsimp only at hx); go_simp; try with_reducible rfl)
  try simp only [Act.put, List.setIfInBounds_toArray, List.set_cons_zero, List.set_cons_succ]
  refine hd_taken 21 (some 108) _ ?hdvi21 rfl rfl (by kernel_rfl) (fun _ _ _ h => h) (Or.inl ⟨by rfl, ?hdyi21⟩) hSX ?hdri21
  case hdyi21 => (intro wx hx; (try dsimp only at hx); go_simp; try with_reducible rfl)
  try simp only [Act.put, List.setIfInBounds_toArray, List.set_cons_zero, List.set_cons_succ]
  refine hd_taken 22 (some 109) _ ?hdvi22 rfl rfl (by kernel_rfl) (fun _ _ _ h => h) (Or.inl ⟨by rfl, ?hdyi22⟩) hSX ?hdri22
  case hdyi22 => (intro wx hx; (try dsimp only at hx); go_simp; try with_reducible rfl)
  try simp only [Act.put, List.setIfInBounds_toArray, List.set_cons_zero, List.set_cons_succ]
  refine hd_taken 23 (some 110) _ ?hdvi23 rfl rfl (by kernel_rfl) (fun _ _ _ h => h) (Or.inl ⟨by rfl, ?hdyi23⟩) hSX ?hdri23
  case hdyi23 => (intro wx hx; (try dsimp only at hx); go_simp; try with_reducible rfl)
  try simp only [Act.put, List.setIfInBounds_toArray, List.set_cons_zero, List.set_cons_succ]
  refine hd_taken 24 (some 111) _ ?hdvi24 rfl rfl (by kernel_rfl) (fun _ _ _ h => h) (Or.inl ⟨by rfl, ?hdyi24⟩) hSX ?hdri24
  case hdyi24 => (intro wx hx; (try dsimp only at hx); go_simp; try with_reducible rfl)
  try simp only [Act.put, List.setIfInBounds_toArray, List.set_cons_zero, List.set_cons_succ]
  refine hd_taken 25 (some 112) _ ?hdvi25 rfl rfl (by kernel_rfl) (fun _ _ _ h => h) (Or.inl ⟨by rfl, ?hdyi25⟩) hSX ?hdri25
  case hdyi25 => (intro wx hx; (try dsimp only at hx); go_simp; try with_reducible rfl)
  try simp only [Act.put, List.setIfInBounds_toArray, List.set_cons_zero, List.set_cons_succ]
  refine hd_taken 26 (some 113) _ ?hdvi26 rfl rfl (by kernel_rfl) (fun _ _ _ h => h) (Or.inl ⟨by rfl, ?hdyi26⟩) hSX ?hdri26
  case hdyi26 => (intro wx hx; (try dsimp only at hx); go_simp; try with_reducible rfl)
  try simp only [Act.put, List.setIfInBounds_toArray, List.set_cons_zero, List.set_cons_succ]
  refine hd_taken 27 (some 114) _ ?hdvi27 rfl rfl (by kernel_rfl) (fun _ _ _ h => h) (Or.inl ⟨by rfl, ?hdyi27⟩) hSX ?hdri27
  case hdyi27 => (intro wx hx; (try dsimp only at hx); go_simp; try with_reducible rfl)
  try simp only [Act.put, List.setIfInBounds_toArray, List.set_cons_zero, List.set_cons_succ]
  refine hd_taken 29 (some 116) _ ?hdvi29 rfl rfl (by kernel_rfl) (fun _ _ _ h => h) (Or.inl ⟨by rfl, ?hdyi29⟩) hSX ?hdri29
  case hdyi29 => (intro wx hx; (try dsimp only at hx); go_simp; try with_reducible rfl)
  try simp only [Act.put, List.setIfInBounds_toArray, List.set_cons_zero, List.set_cons_succ]
  refine hd_one 28 _ rfl (by kernel_rfl) (by decide) (fun K28 hK28 => ?_)
  go_simp
  refine (from_any p.st p1 p.nx.length pc1 p2 p.ac.length pc2 X).mono ?_
  rintro e Y ⟨rfl, bb⟩
  try dsimp only
  have BY := Lib.hid (st BX.out bb BX.out.size)
  have hSY := HSS.out Y BY.out
  refine hK28.out _ _ hSY ?_
  clear hK28 K28 hSX bb
  try simp only [Act.put, List.setIfInBounds_toArray, List.set_cons_zero, List.set_cons_succ]
  refine hd_one 30 _ rfl (by kernel_rfl) (by decide) (fun K30 hK30 => ?_)
  go_simp
  refine (from_any q.st q1 q.nx.length qc1 q2 q.ac.length qc2 Y).mono ?_
  rintro e Z ⟨rfl, bb⟩
  try dsimp only
  have BZ := Lib.hid (st BY.out bb BY.out.size)
  have hSZ := HSS.out Z BZ.out
  refine hK30.out _ _ hSZ ?_
  clear hK30 K30 hSY bb
  try simp only [Act.put, List.setIfInBounds_toArray, List.set_cons_zero, List.set_cons_succ]
  refine hd_done (by kernel_rfl) ?_
  simp only [List.drop_succ_cons, List.drop_zero]
  have HE := Lib.hid (equalD_any p q p1 pc1 p2 pc2 q1 qc1 q2 qc2 Z (HNp18.out.below BZ.out) (HFp18.out.below BZ.out) (HNq18.out.below BZ.out) (HFq18.out.below BZ.out))
  clear hSZ HSS
  go_wp2_with fail
  refine HE.out.mono ?_
  rintro e wf ⟨rfl, bf⟩
  have HEQ : eqD p q = true := by rw [HPQ.out]; exact eqD_self q
  rw [HEQ]
  have HBF := Lib.hid (st (HB18.out.trans (BZ.out.mono HB18.out.size)) bf (Nat.le_trans HB18.out.size BZ.out.size))
  clear bf HEQ HE
  go_wp2_with fail
  go_ret
  exact ⟨rfl, HBF.out⟩
end Go.Proofs.Ytiljagfjgefnnaa
