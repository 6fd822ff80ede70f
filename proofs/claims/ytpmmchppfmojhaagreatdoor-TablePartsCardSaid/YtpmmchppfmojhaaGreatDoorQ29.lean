/- What the row stands on, part 29. -/
import Derived.Test.YtpmmchppfmojhaaGreatDoorQ28

/- Of the program's table parser: locale, walked. -/
namespace Go.Proofs.YtpmmchppfmojhaaGreatDoor
open Go.RowKit
set_option linter.unusedVariables false

set_option maxRecDepth 1000000 in
set_option maxHeartbeats 32000000 in
theorem locale_ztrue (g B0 : Nat) (q : Bool × List KT) (t : Tab) (m : PMem) (w : World) (h : (CxT g B0).F q t m w) (hpp : isS 1 kPar (rdS 1 q).2 = true) :
    Calls Tryz.prog 158 #[.pointer (some ⟨g, 0, none⟩)] w (ItG (CxT g B0) body_loc q t w) := by
  obtain ⟨q0, hq0⟩ : ∃ q0 : Bool × List KT, q = q0 := ⟨_, rfl⟩
  have HQ0 := Lib.hid hq0
  have hP : PT g B0 m q0.1 q0.2 t w := by rw [← hq0]; exact h.1
  have P0 := Lib.hid hP
  have HE := Lib.hid h.2
  have HPP := Lib.hid hpp
  clear h hq0 hP hpp
  go_enter Tryz.func158, Tryz.ntmps158
  go_wp2_with fail
  refine (word_z g B0 m q0.1 q0.2 _ P0.out.pl).mono ?_
  rintro e w1 ⟨rfl, hq⟩
  obtain ⟨q1, hq1⟩ : ∃ q' : Bool × List KT, q' = rdS 1 q0 := ⟨_, rfl⟩
  have HQ1 := Lib.hid hq1
  obtain ⟨m1, hs1, hp1, hb1⟩ := P0.out.read (q := q1) (by rw [hq1]; exact hq) (fun h => t_of (fun h => rd_f 1 h) (by rw [← hq1]; exact h))
  have P1 := Lib.hid hp1
  have B1 := Lib.hid hb1
  obtain ⟨tag, htag⟩ : ∃ tg, (hdK q0.2).2 = tg := ⟨_, rfl⟩
  have HT := Lib.hid htag
  rw [htag]
  clear hq hq1 hs1 hp1 hb1 htag
  have c4 : w1.cell? ⟨g, 4, none⟩ = some (.string (ofL m1.cu.tag)) := P1.out.pl.blk.cell 4
  have f4 : w1.frozen? ⟨g, 4, none⟩ = false := P1.out.pl.blk.frozen 4
  have c5 : w1.cell? ⟨g, 5, none⟩ = some (.string (ofL m1.cu.par)) := P1.out.pl.blk.cell 5
  have f5 : w1.frozen? ⟨g, 5, none⟩ = false := P1.out.pl.blk.frozen 5
  have c6 : w1.cell? ⟨g, 6, none⟩ = some (.string (ofL m1.cu.dir)) := P1.out.pl.blk.cell 6
  have f6 : w1.frozen? ⟨g, 6, none⟩ = false := P1.out.pl.blk.frozen 6
  have c7 : w1.cell? ⟨g, 7, none⟩ = some (.slice m1.cu.ca.a m1.cu.ca.n m1.cu.ca.c) := P1.out.pl.blk.cell 7
  have f7 : w1.frozen? ⟨g, 7, none⟩ = false := P1.out.pl.blk.frozen 7
  have c8 : w1.cell? ⟨g, 8, none⟩ = some (.slice m1.cu.oc.a m1.cu.oc.n m1.cu.oc.c) := P1.out.pl.blk.cell 8
  have f8 : w1.frozen? ⟨g, 8, none⟩ = false := P1.out.pl.blk.frozen 8
  have c9 : w1.cell? ⟨g, 9, none⟩ = some (.string (ofL m1.cu.sy.de)) := P1.out.pl.blk.cell 9
  have f9 : w1.frozen? ⟨g, 9, none⟩ = false := P1.out.pl.blk.frozen 9
  have c10 : w1.cell? ⟨g, 10, none⟩ = some (.string (ofL m1.cu.sy.gr)) := P1.out.pl.blk.cell 10
  have f10 : w1.frozen? ⟨g, 10, none⟩ = false := P1.out.pl.blk.frozen 10
  have c11 : w1.cell? ⟨g, 11, none⟩ = some (.string (ofL m1.cu.sy.mi)) := P1.out.pl.blk.cell 11
  have f11 : w1.frozen? ⟨g, 11, none⟩ = false := P1.out.pl.blk.frozen 11
  have c12 : w1.cell? ⟨g, 12, none⟩ = some (.string (ofL m1.cu.sy.pe)) := P1.out.pl.blk.cell 12
  have f12 : w1.frozen? ⟨g, 12, none⟩ = false := P1.out.pl.blk.frozen 12
  have c13 : w1.cell? ⟨g, 13, none⟩ = some (.int .i64 m1.cu.sy.pr) := P1.out.pl.blk.cell 13
  have f13 : w1.frozen? ⟨g, 13, none⟩ = false := P1.out.pl.blk.frozen 13
  have c14 : w1.cell? ⟨g, 14, none⟩ = some (.int .i64 m1.cu.sy.se) := P1.out.pl.blk.cell 14
  have f14 : w1.frozen? ⟨g, 14, none⟩ = false := P1.out.pl.blk.frozen 14
  have c15 : w1.cell? ⟨g, 15, none⟩ = some (.slice m1.cu.li.a m1.cu.li.n m1.cu.li.c) := P1.out.pl.blk.cell 15
  have f15 : w1.frozen? ⟨g, 15, none⟩ = false := P1.out.pl.blk.frozen 15
  have c16 : w1.cell? ⟨g, 16, none⟩ = some (.slice m1.cu.un.a m1.cu.un.n m1.cu.un.c) := P1.out.pl.blk.cell 16
  have f16 : w1.frozen? ⟨g, 16, none⟩ = false := P1.out.pl.blk.frozen 16
  have c17 : w1.cell? ⟨g, 17, none⟩ = some (.slice m1.cu.da.a m1.cu.da.n m1.cu.da.c) := P1.out.pl.blk.cell 17
  have f17 : w1.frozen? ⟨g, 17, none⟩ = false := P1.out.pl.blk.frozen 17
  have c18 : w1.cell? ⟨g, 18, none⟩ = some (.slice m1.cu.mo.a m1.cu.mo.n m1.cu.mo.c) := P1.out.pl.blk.cell 18
  have f18 : w1.frozen? ⟨g, 18, none⟩ = false := P1.out.pl.blk.frozen 18
  have c19 : w1.cell? ⟨g, 19, none⟩ = some (.slice m1.cu.dy.a m1.cu.dy.n m1.cu.dy.c) := P1.out.pl.blk.cell 19
  have f19 : w1.frozen? ⟨g, 19, none⟩ = false := P1.out.pl.blk.frozen 19
  have bS : But g w1 ((((((((((((((((w1.setCell ⟨g, 4, none⟩ (.string (ofL tag))).setCell ⟨g, 5, none⟩ (.string ⟨#[]⟩)).setCell ⟨g, 6, none⟩ (.string ⟨#[]⟩)).setCell ⟨g, 7, none⟩ (.slice none 0 0)).setCell ⟨g, 8, none⟩ (.slice none 0 0)).setCell ⟨g, 9, none⟩ (.string ⟨#[]⟩)).setCell ⟨g, 10, none⟩ (.string ⟨#[]⟩)).setCell ⟨g, 11, none⟩ (.string ⟨#[]⟩)).setCell ⟨g, 12, none⟩ (.string ⟨#[]⟩)).setCell ⟨g, 13, none⟩ (.int .i64 0)).setCell ⟨g, 14, none⟩ (.int .i64 0)).setCell ⟨g, 15, none⟩ (.slice none 0 0)).setCell ⟨g, 16, none⟩ (.slice none 0 0)).setCell ⟨g, 17, none⟩ (.slice none 0 0)).setCell ⟨g, 18, none⟩ (.slice none 0 0)).setCell ⟨g, 19, none⟩ (.slice none 0 0)) := but16 g w1 tag
  have PS := Lib.hid (start16 P1.out tag)
  have BS : Hid (But g w ((((((((((((((((w1.setCell ⟨g, 4, none⟩ (.string (ofL tag))).setCell ⟨g, 5, none⟩ (.string ⟨#[]⟩)).setCell ⟨g, 6, none⟩ (.string ⟨#[]⟩)).setCell ⟨g, 7, none⟩ (.slice none 0 0)).setCell ⟨g, 8, none⟩ (.slice none 0 0)).setCell ⟨g, 9, none⟩ (.string ⟨#[]⟩)).setCell ⟨g, 10, none⟩ (.string ⟨#[]⟩)).setCell ⟨g, 11, none⟩ (.string ⟨#[]⟩)).setCell ⟨g, 12, none⟩ (.string ⟨#[]⟩)).setCell ⟨g, 13, none⟩ (.int .i64 0)).setCell ⟨g, 14, none⟩ (.int .i64 0)).setCell ⟨g, 15, none⟩ (.slice none 0 0)).setCell ⟨g, 16, none⟩ (.slice none 0 0)).setCell ⟨g, 17, none⟩ (.slice none 0 0)).setCell ⟨g, 18, none⟩ (.slice none 0 0)).setCell ⟨g, 19, none⟩ (.slice none 0 0))) := Lib.hid (B1.out.trans bS)
  obtain ⟨WS, hWS⟩ : ∃ WS, ((((((((((((((((w1.setCell ⟨g, 4, none⟩ (.string (ofL tag))).setCell ⟨g, 5, none⟩ (.string ⟨#[]⟩)).setCell ⟨g, 6, none⟩ (.string ⟨#[]⟩)).setCell ⟨g, 7, none⟩ (.slice none 0 0)).setCell ⟨g, 8, none⟩ (.slice none 0 0)).setCell ⟨g, 9, none⟩ (.string ⟨#[]⟩)).setCell ⟨g, 10, none⟩ (.string ⟨#[]⟩)).setCell ⟨g, 11, none⟩ (.string ⟨#[]⟩)).setCell ⟨g, 12, none⟩ (.string ⟨#[]⟩)).setCell ⟨g, 13, none⟩ (.int .i64 0)).setCell ⟨g, 14, none⟩ (.int .i64 0)).setCell ⟨g, 15, none⟩ (.slice none 0 0)).setCell ⟨g, 16, none⟩ (.slice none 0 0)).setCell ⟨g, 17, none⟩ (.slice none 0 0)).setCell ⟨g, 18, none⟩ (.slice none 0 0)).setCell ⟨g, 19, none⟩ (.slice none 0 0)) = WS := ⟨_, rfl⟩
  have HWS := Lib.hid hWS
  rw [hWS] at PS BS
  clear bS hWS
  go_upto_region 2 with fail
  rw [HWS.out]
  clear HWS c4 f4 c5 f5 c6 f6 c7 f7 c8 f8 c9 f9 c10 f10 c11 f11 c12 f12 c13 f13 c14 f14 c15 f15 c16 f16 c17 f17 c18 f18 c19 f19
  go_wp2_with fail
  refine (is_z g B0 _ q1.1 q1.2 1 ⟨#[112, 97, 114, 101, 110, 116]⟩ _ PS.out.pl).mono ?_
  rw [show (ByteArray.mk #[112, 97, 114, 101, 110, 116]).data.toList = kPar from rfl]
  rintro e w' ⟨rfl, hw⟩
  obtain rfl := hw.symm
  have HBP : Hid (isS 1 kPar q1.2 = true) := Lib.hid (by rw [HQ1.out, ← HQ0.out]; exact HPP.out)
  rw [HBP.out]
  have hne : q1.1 = true → q1.2 ≠ [] := fun _ e => by
    have := HBP.out
    rw [e] at this
    cases this
  go_wp2_with fail
  refine (next_z g B0 _ q1.1 q1.2 hne _ PS.out.pl).mono ?_
  rintro e w2 ⟨rfl, hq⟩
  obtain ⟨q2, hq2⟩ : ∃ q' : Bool × List KT, q' = nxS q1 := ⟨_, rfl⟩
  have HQ2 := Lib.hid hq2
  obtain ⟨m2, hs2, hp2, hb2⟩ := PS.out.read (q := q2) (by rw [hq2]; exact hq) (fun h => t_of (fun h => nx_f h) (by rw [← hq2]; exact h))
  have P2 := Lib.hid hp2
  have B2 := Lib.hid (BS.out.trans hb2)
  clear hq hq2 hs2 hp2 hb2 hne
  go_wp2_with fail
  refine (word_z g B0 m2 q2.1 q2.2 _ P2.out.pl).mono ?_
  rintro e w3 ⟨rfl, hq⟩
  obtain ⟨q3, hq3⟩ : ∃ q' : Bool × List KT, q' = rdS 1 q2 := ⟨_, rfl⟩
  have HQ3 := Lib.hid hq3
  obtain ⟨m3, hs3, hp3, hb3⟩ := P2.out.read (q := q3) (by rw [hq3]; exact hq) (fun h => t_of (fun h => rd_f 1 h) (by rw [← hq3]; exact h))
  obtain ⟨par, hpar⟩ : ∃ tg, (hdK q2.2).2 = tg := ⟨_, rfl⟩
  have HTP := Lib.hid hpar
  rw [hpar]
  have c5 : w3.cell? ⟨g, 5, none⟩ = some (.string (ofL m3.cu.par)) := hp3.pl.blk.cell 5
  have f5 : w3.frozen? ⟨g, 5, none⟩ = false := hp3.pl.blk.frozen 5
  have bU := But.setCell g w3 5 (.string (ofL par))
  have P3 : Hid (PI g B0 { m3 with cu := { m3.cu with par := par } } q3.1 q3.2 t (loc0 tag par) (w3.setCell ⟨g, 5, none⟩ (.string (ofL par)))) := Lib.hid (hp3.put (x' := loc0 tag par) bU { m3.cu with par := par } (hp3.pl.blk.put 5 (.string (ofL par))) ⟨rfl, rfl, rfl, rfl, rfl⟩ (fun p => ⟨p.tag, rfl, p.dir, p.sy, p.ca, p.oc, p.ap, p.li, p.un, p.da, p.mo, p.dy⟩) ⟨Nat.zero_le _, Nat.zero_le _, Nat.zero_le _, Nat.zero_le _, Nat.zero_le _⟩ hp3.sz)
  have B3 : Hid (Below g w (w3.setCell ⟨g, 5, none⟩ (.string (ofL par)))) := Lib.hid (P0.out.bel_but ((B2.out.trans hb3).trans bU))
  have K3 : Hid (KT1 w (w3.setCell ⟨g, 5, none⟩ (.string (ofL par)))) := Lib.hid (P0.out.kt_but ((B2.out.trans hb3).trans bU))
  have HF3 : Hid (q.1 = false → q3.1 = false) := Lib.hid (fun e => by rw [HQ3.out]; refine rd_f 1 ?_; rw [HQ2.out]; refine nx_f ?_; rw [HQ1.out]; exact rd_f 1 (by rw [← HQ0.out]; exact e))
  clear hq hq3 hs3 hp3 hb3 hpar bU
  go_wp2_with fail
  refine (mark_z g B0 _ q3.1 q3.2 ⟨#[123]⟩ _ P3.out.pl).mono ?_
  rw [show (ByteArray.mk #[123]).data.toList = [123] from rfl]
  rintro e w4 ⟨rfl, hq⟩
  obtain ⟨q4, hq4⟩ : ∃ q' : Bool × List KT, q' = mkS [123] q3 := ⟨_, rfl⟩
  have HQ4 := Lib.hid hq4
  obtain ⟨m4, hs4, hp4, hb4⟩ := P3.out.read (q := q4) (by rw [hq4]; exact hq) (fun h => t_of (fun h => mk_f _ h) (by rw [← hq4]; exact h))
  have P4 := Lib.hid hp4
  have B4 : Hid (Below g w w4) := Lib.hid (B3.out.trans (P3.out.bel_but hb4))
  have K4 : Hid (KT1 w w4) := Lib.hid (K3.out.trans (P3.out.kt_but hb4))
  clear hq hq4 hs4 hp4 hb4
  obtain ⟨R, hR⟩ : ∃ R : Option (Loc × Ts), R = if q4.1 = true then TailR (q4.2.length + 1) (loc0 tag par) q4.2 else none := ⟨_, rfl⟩
  have HRR := Lib.hid hR
  have HLP : Hid (q.1 = true → locP q.2 = R) := Lib.hid (fun e => head_par q.2 (q0 := q0) (by rw [← HQ0.out, ← e]) HQ1.out HBP.out HQ2.out HQ3.out HQ4.out (by rw [HT.out, HTP.out]; exact hR))
  have HRN : Hid (q.1 = false → R = none) := Lib.hid (fun e => by
    have f4 : q4.1 = false := by rw [HQ4.out]; exact mk_f _ (HF3.out e)
    rw [hR, f4]; rfl)
  clear hR
  go_wp2_with fail
  refine (items_any _).mono ?_
  rintro e wi ⟨⟨CH, rfl, hch⟩, hbi⟩
  have P4i := Lib.hid (P4.out.below hbi)
  have HL : Hid (LoI g B0 t w R CH CH wi) := Lib.hid ⟨rfl, m4, q4, loc0 tag par, q4.2.length + 1, ⟨P4.out.below hbi, fun W hW => HE.out W ((B4.out.trans (hbi.mono (by have := P4.out.pl.blk.lt; omega))).trans hW)⟩, hch, B4.out.trans (hbi.mono (by have := P4.out.pl.blk.lt; omega)), K4.out.trans (KT1.below hbi), fun e => ⟨Nat.lt_succ_self _, by rw [HRR.out, if_pos e]⟩, fun e => by rw [HRR.out, e]; rfl⟩
  clear hbi hch
  go_wp2_with fail
  go_loopw [23] (fun _ wr => LoI g B0 t w R CH CH wr) (fun _ wr => mtk g wr)
  case atStart => exact HL.out
  case round =>
    rename World => wr
    obtain ⟨_, mx, qx, xx, f, hF, hch, hbx, hkx, h1, h2⟩ := hrel
    have PX := Lib.hid hF
    have CX := Lib.hid hch
    have BX := Lib.hid hbx
    have KX := Lib.hid hkx
    have H1 := Lib.hid h1
    have H2 := Lib.hid h2
    have cf : wr.cell? ⟨g, 21, none⟩ = some (.int .i64 mx.f) := hF.1.pl.blk.cell 21
    clear hF hch hbx hkx h1 h2 HL
    by_cases hok : qx.1 = true
    case neg =>
      have hok' : qx.1 = false := by simpa using hok
      have e1 : (mx.f == 0) = false := by rw [beq_eq_false_iff_ne]; exact fun e => hok (PX.out.1.pl.f.1 e)
      have HEX := Lib.hid (mk_end (R := R) (q := qx) (x := xx) (fun e => absurd e hok) H2.out)
      clear hok hok'
      go_wp2_with fail
      refine (mark_z g B0 mx qx.1 qx.2 ⟨#[125]⟩ _ PX.out.1.pl).mono ?_
      rw [show (ByteArray.mk #[125]).data.toList = [125] from rfl]
      rintro e w5 ⟨rfl, hq⟩
      obtain ⟨q5, hq5⟩ : ∃ q' : Bool × List KT, q' = mkS [125] qx := ⟨_, rfl⟩
      have HQ5 := Lib.hid hq5
      obtain ⟨m5, hs5, hp5, hb5⟩ := PX.out.1.read (q := q5) (by rw [hq5]; exact hq) (fun h => t_of (fun h => mk_f _ h) (by rw [← hq5]; exact h))
      obtain ⟨pt5, kl5⟩ := hp5.fin
      have P5 := Lib.hid hp5
      have PT5 := Lib.hid pt5
      have KL5 := Lib.hid kl5
      have B5 : Hid (Below g w w5) := Lib.hid (BX.out.trans (PX.out.1.bel_but hb5))
      have K5 : Hid (KT1 w w5) := Lib.hid (KX.out.trans (PX.out.1.kt_but hb5))
      clear hq hq5 hs5 hb5
      have c4 : w5.cell? ⟨g, 4, none⟩ = some (.string (ofL m5.cu.tag)) := P5.out.pl.blk.cell 4
      have c5 : w5.cell? ⟨g, 5, none⟩ = some (.string (ofL m5.cu.par)) := P5.out.pl.blk.cell 5
      have c6 : w5.cell? ⟨g, 6, none⟩ = some (.string (ofL m5.cu.dir)) := P5.out.pl.blk.cell 6
      have c7 : w5.cell? ⟨g, 7, none⟩ = some (.slice m5.cu.ca.a m5.cu.ca.n m5.cu.ca.c) := P5.out.pl.blk.cell 7
      have c8 : w5.cell? ⟨g, 8, none⟩ = some (.slice m5.cu.oc.a m5.cu.oc.n m5.cu.oc.c) := P5.out.pl.blk.cell 8
      have c9 : w5.cell? ⟨g, 9, none⟩ = some (.string (ofL m5.cu.sy.de)) := P5.out.pl.blk.cell 9
      have c10 : w5.cell? ⟨g, 10, none⟩ = some (.string (ofL m5.cu.sy.gr)) := P5.out.pl.blk.cell 10
      have c11 : w5.cell? ⟨g, 11, none⟩ = some (.string (ofL m5.cu.sy.mi)) := P5.out.pl.blk.cell 11
      have c12 : w5.cell? ⟨g, 12, none⟩ = some (.string (ofL m5.cu.sy.pe)) := P5.out.pl.blk.cell 12
      have c13 : w5.cell? ⟨g, 13, none⟩ = some (.int .i64 m5.cu.sy.pr) := P5.out.pl.blk.cell 13
      have c14 : w5.cell? ⟨g, 14, none⟩ = some (.int .i64 m5.cu.sy.se) := P5.out.pl.blk.cell 14
      have c15 : w5.cell? ⟨g, 15, none⟩ = some (.slice m5.cu.li.a m5.cu.li.n m5.cu.li.c) := P5.out.pl.blk.cell 15
      have c16 : w5.cell? ⟨g, 16, none⟩ = some (.slice m5.cu.un.a m5.cu.un.n m5.cu.un.c) := P5.out.pl.blk.cell 16
      have c17 : w5.cell? ⟨g, 17, none⟩ = some (.slice m5.cu.da.a m5.cu.da.n m5.cu.da.c) := P5.out.pl.blk.cell 17
      have c18 : w5.cell? ⟨g, 18, none⟩ = some (.slice m5.cu.mo.a m5.cu.mo.n m5.cu.mo.c) := P5.out.pl.blk.cell 18
      have c19 : w5.cell? ⟨g, 19, none⟩ = some (.slice m5.cu.dy.a m5.cu.dy.n m5.cu.dy.c) := P5.out.pl.blk.cell 19
      obtain ⟨raws, o1, o2, o3⟩ := pt5.p0.lo
      have hl1 := pt5.bt.lo
      have HAD := Lib.hid (fun wx (hw : Below w5.heap.size w5 wx) => addLo_any g 1 86 (by decide) (pcells m5) (.slice m5.lo.a m5.lo.n m5.lo.c) raws m5.cu 60 (qLo m5.cu) 34 (enters_of Tryz.func34 (by kernel_rfl) rfl) wx (Blk.below PT5.out.pl.blk hw) rfl (Own1.below o1 hw) (by omega) (fun W1 y _ => alikeLo_any _ y W1))
      have O2 := Lib.hid o2
      have O3 := Lib.hid o3
      clear hl1 pt5 kl5 hp5 o1 o2 o3
      go_wp2_with fail
      refine region_stail 8 (by kernel_rfl) (by decide +kernel) ?_
      simp only [List.take_succ_cons, List.take_zero, List.drop_succ_cons, List.drop_zero]
      iterate 8 still_step
      refine wpStill_nil ?_
      go_wp2_with fail
      refine (HAD.out _ (below_drewN (Below.refl _ _) 1)).mono ?_
      rintro e wz hz
      have HZ := Lib.hid hz
      obtain ⟨er, rfl, _⟩ := hz
      clear c4 c5 c6 c7 c8 c9 c10 c11 c12 c13 c14 c15 c16 c17 c18 c19
      go_wp2
      go_ret
      have bd := below_drewN (Below.refl w5.heap.size w5) 1
      refine loc_end (PT5.out.below bd) (KL5.out.below bd) (B5.out.trans (bd.mono (by have := PT5.out.pl.blk.lt; omega))) (K5.out.trans (KT1.below bd)) HE.out O2.out (fun i a b => (O3.out i a b).below bd) HZ.out (fun e => ?_) (fun e => ?_)
      · rw [HQ5.out]
        have := HEX.out
        rw [HRN.out e] at this
        exact this
      · rw [HLP.out e, HQ5.out]
        exact HEX.out

    case pos =>
      have e1 : (mx.f == 0) = true := by rw [beq_iff_eq]; exact PX.out.1.pl.f.2 hok
      have HOK := Lib.hid hok
      clear hok
      go_wp2_with fail
      refine (is_z g B0 mx qx.1 qx.2 3 ⟨#[125]⟩ _ PX.out.1.pl).mono ?_
      rw [show (ByteArray.mk #[125]).data.toList = [125] from rfl]
      rintro e w' ⟨rfl, hw⟩
      obtain rfl := hw.symm
      obtain ⟨bb, hbb⟩ : ∃ bb, isS 3 [125] qx.2 = bb := ⟨_, rfl⟩
      have HBB := Lib.hid hbb
      rw [hbb]
      clear hbb cf e1
      cases bb with
      | true =>
        have HEX := Lib.hid (mk_end (R := R) (q := qx) (x := xx) (fun e => ⟨by rw [(H1.out e).2]; exact tail_end HBB.out (H1.out e).1, HBB.out⟩) H2.out)
        go_wp2_with fail
        refine (mark_z g B0 mx qx.1 qx.2 ⟨#[125]⟩ _ PX.out.1.pl).mono ?_
        rw [show (ByteArray.mk #[125]).data.toList = [125] from rfl]
        rintro e w5 ⟨rfl, hq⟩
        obtain ⟨q5, hq5⟩ : ∃ q' : Bool × List KT, q' = mkS [125] qx := ⟨_, rfl⟩
        have HQ5 := Lib.hid hq5
        obtain ⟨m5, hs5, hp5, hb5⟩ := PX.out.1.read (q := q5) (by rw [hq5]; exact hq) (fun h => t_of (fun h => mk_f _ h) (by rw [← hq5]; exact h))
        obtain ⟨pt5, kl5⟩ := hp5.fin
        have P5 := Lib.hid hp5
        have PT5 := Lib.hid pt5
        have KL5 := Lib.hid kl5
        have B5 : Hid (Below g w w5) := Lib.hid (BX.out.trans (PX.out.1.bel_but hb5))
        have K5 : Hid (KT1 w w5) := Lib.hid (KX.out.trans (PX.out.1.kt_but hb5))
        clear hq hq5 hs5 hb5
        have c4 : w5.cell? ⟨g, 4, none⟩ = some (.string (ofL m5.cu.tag)) := P5.out.pl.blk.cell 4
        have c5 : w5.cell? ⟨g, 5, none⟩ = some (.string (ofL m5.cu.par)) := P5.out.pl.blk.cell 5
        have c6 : w5.cell? ⟨g, 6, none⟩ = some (.string (ofL m5.cu.dir)) := P5.out.pl.blk.cell 6
        have c7 : w5.cell? ⟨g, 7, none⟩ = some (.slice m5.cu.ca.a m5.cu.ca.n m5.cu.ca.c) := P5.out.pl.blk.cell 7
        have c8 : w5.cell? ⟨g, 8, none⟩ = some (.slice m5.cu.oc.a m5.cu.oc.n m5.cu.oc.c) := P5.out.pl.blk.cell 8
        have c9 : w5.cell? ⟨g, 9, none⟩ = some (.string (ofL m5.cu.sy.de)) := P5.out.pl.blk.cell 9
        have c10 : w5.cell? ⟨g, 10, none⟩ = some (.string (ofL m5.cu.sy.gr)) := P5.out.pl.blk.cell 10
        have c11 : w5.cell? ⟨g, 11, none⟩ = some (.string (ofL m5.cu.sy.mi)) := P5.out.pl.blk.cell 11
        have c12 : w5.cell? ⟨g, 12, none⟩ = some (.string (ofL m5.cu.sy.pe)) := P5.out.pl.blk.cell 12
        have c13 : w5.cell? ⟨g, 13, none⟩ = some (.int .i64 m5.cu.sy.pr) := P5.out.pl.blk.cell 13
        have c14 : w5.cell? ⟨g, 14, none⟩ = some (.int .i64 m5.cu.sy.se) := P5.out.pl.blk.cell 14
        have c15 : w5.cell? ⟨g, 15, none⟩ = some (.slice m5.cu.li.a m5.cu.li.n m5.cu.li.c) := P5.out.pl.blk.cell 15
        have c16 : w5.cell? ⟨g, 16, none⟩ = some (.slice m5.cu.un.a m5.cu.un.n m5.cu.un.c) := P5.out.pl.blk.cell 16
        have c17 : w5.cell? ⟨g, 17, none⟩ = some (.slice m5.cu.da.a m5.cu.da.n m5.cu.da.c) := P5.out.pl.blk.cell 17
        have c18 : w5.cell? ⟨g, 18, none⟩ = some (.slice m5.cu.mo.a m5.cu.mo.n m5.cu.mo.c) := P5.out.pl.blk.cell 18
        have c19 : w5.cell? ⟨g, 19, none⟩ = some (.slice m5.cu.dy.a m5.cu.dy.n m5.cu.dy.c) := P5.out.pl.blk.cell 19
        obtain ⟨raws, o1, o2, o3⟩ := pt5.p0.lo
        have hl1 := pt5.bt.lo
        have HAD := Lib.hid (fun wx (hw : Below w5.heap.size w5 wx) => addLo_any g 1 86 (by decide) (pcells m5) (.slice m5.lo.a m5.lo.n m5.lo.c) raws m5.cu 60 (qLo m5.cu) 34 (enters_of Tryz.func34 (by kernel_rfl) rfl) wx (Blk.below PT5.out.pl.blk hw) rfl (Own1.below o1 hw) (by omega) (fun W1 y _ => alikeLo_any _ y W1))
        have O2 := Lib.hid o2
        have O3 := Lib.hid o3
        clear hl1 pt5 kl5 hp5 o1 o2 o3
        go_wp2_with fail
        refine region_stail 8 (by kernel_rfl) (by decide +kernel) ?_
        simp only [List.take_succ_cons, List.take_zero, List.drop_succ_cons, List.drop_zero]
        iterate 8 still_step
        refine wpStill_nil ?_
        go_wp2_with fail
        refine (HAD.out _ (below_drewN (Below.refl _ _) 1)).mono ?_
        rintro e wz hz
        have HZ := Lib.hid hz
        obtain ⟨er, rfl, _⟩ := hz
        clear c4 c5 c6 c7 c8 c9 c10 c11 c12 c13 c14 c15 c16 c17 c18 c19
        go_wp2
        go_ret
        have bd := below_drewN (Below.refl w5.heap.size w5) 1
        refine loc_end (PT5.out.below bd) (KL5.out.below bd) (B5.out.trans (bd.mono (by have := PT5.out.pl.blk.lt; omega))) (K5.out.trans (KT1.below bd)) HE.out O2.out (fun i a b => (O3.out i a b).below bd) HZ.out (fun e => ?_) (fun e => ?_)
        · rw [HQ5.out]
          have := HEX.out
          rw [HRN.out e] at this
          exact this
        · rw [HLP.out e, HQ5.out]
          exact HEX.out

      | false =>
        have HME : Hid (mtk g wr = qx.2.length + 1) := Lib.hid (mtk_ok (m := mx) (B0 := B0) (by have := PX.out.1.pl; rw [HOK.out] at this; exact this))
        go_wp2_with fail
        refine (statementI_z g B0 t _ qx xx mx _ PX.out CX.out).mono ?_
        rintro e w6 ⟨rfl, m6, q6, x6, hF6, hb6, hk6, hz6, hs6⟩
        have hs6' := hs6 HOK.out
        have HLT : Hid (q6.1 = true → q6.2.length < qx.2.length) := Lib.hid (fun e => by
          revert hs6'
          cases hi : itemP xx qx.2 with
          | none => intro hh; rw [hh] at e; cases e
          | some p => rintro ⟨z1, _⟩; rw [z1]; exact (item_lt hi).1)
        have HN : Hid (LoI g B0 t w R CH CH w6) := Lib.hid ⟨rfl, m6, q6, x6, f - 1, hF6, CX.out.kt hk6, BX.out.trans hb6, KX.out.trans hk6, fun e => by
          obtain ⟨y1, y2⟩ := H1.out HOK.out
          revert hs6'
          cases hi : itemP xx qx.2 with
          | none => intro hh; rw [hh] at e; cases e
          | some p =>
            obtain ⟨x2, r2⟩ := p
            rintro ⟨z1, z2⟩
            obtain ⟨u1, u2⟩ := tail_go hi y1
            rw [z1, z2]
            exact ⟨u1, y2.trans u2⟩, fun e => by
          obtain ⟨y1, y2⟩ := H1.out HOK.out
          revert hs6'
          cases hi : itemP xx qx.2 with
          | none => intro _; rw [y2]; exact tail_no hi HBB.out y1
          | some p =>
            rintro ⟨z1, _⟩
            rw [z1] at e
            cases e⟩
        have HPL := Lib.hid hF6.1.pl
        clear hF6 hb6 hk6 hz6 hs6 hs6'
        go_wp2
        go_roundw
        case measure =>
          rw [HME.out]
          exact mtk_le HPL.out HLT.out (by omega)
        case rel => exact HN.out

end Go.Proofs.YtpmmchppfmojhaaGreatDoor


/- Of the program's table parser: table. -/
namespace Go.Proofs.YtpmmchppfmojhaaGreatDoor
open Go.RowKit
set_option linter.unusedVariables false

theorem locale_z (g B0 : Nat) (q : Bool × List KT) (t : Tab) (m : PMem) (w : World) (h : (CxT g B0).F q t m w) :
    Calls Tryz.prog 158 #[.pointer (some ⟨g, 0, none⟩)] w (ItG (CxT g B0) body_loc q t w) := by
  cases hb : isS 1 kPar (rdS 1 q).2 with
  | false => exact locale_zfalse g B0 q t m w h hb
  | true => exact locale_ztrue g B0 q t m w h hb
theorem parts_do (g B0 : Nat) : ∀ c ∈ partsL, (∀ args w, (callFunc c.2 args).run Tryz.prog w = .ok (.enter c.2 args) w) ∧ ∀ q s m w, (CxT g B0).F q s m w → Calls Tryz.prog c.2 #[.pointer (some ⟨g, 0, none⟩)] w (ItG (CxT g B0) (bkE c.1) q s w) := by
  intro c hc
  simp only [partsL, List.mem_cons, List.not_mem_nil, or_false] at hc
  rcases hc with rfl | rfl | rfl
  · refine ⟨enters_of Tryz.func158 (by kernel_rfl) rfl, fun q s m w h => ?_⟩
    rw [show bkE (kLoc, 158).1 = body_loc from funext fun x => funext fun r => bk_kLoc x r]
    exact locale_z g B0 q s m w h
  · refine ⟨enters_of Tryz.func159 (by kernel_rfl) rfl, fun q s m w h => ?_⟩
    rw [show bkE (kAli, 159).1 = body_al from funext fun x => funext fun r => bk_kAli x r]
    exact alias_z g B0 q s m w h
  · refine ⟨enters_of Tryz.func160 (by kernel_rfl) rfl, fun q s m w h => ?_⟩
    rw [show bkE (kNea, 160).1 = body_ne from funext fun x => funext fun r => bk_kNea x r]
    exact near_z g B0 q s m w h
set_option maxHeartbeats 2000000 in
theorem statementT_z (g B0 : Nat) (v : Value) (q : Bool × List KT) (t : Tab) (m : PMem) (w : World) (h : (CxT g B0).F q t m w) (hv : ChR w v partsL) :
    Calls Tryz.prog 105 #[.pointer (some ⟨g, 0, none⟩), v] w (StG (CxT g B0) entP q t w) := by
  have h1 := statement_z g B0 (CxT g B0) partsL (fun c => bkE c.1) (by decide) (parts_do g B0) v q t m w h hv
  rw [show stmtG partsL (fun c => bkE c.1) = entP from funext fun x => funext fun l => (stmt_eq bkE_no x l).trans (ent_bk x l).symm] at h1
  exact h1
theorem loc_len {l r : Ts} {x : Loc} (h : locP l = some (x, r)) : r.length ≤ l.length := by
  obtain ⟨tag, s1, z1, ha⟩ := thn_inv h
  obtain ⟨par, s2, z2, hb⟩ := thn_inv ha
  obtain ⟨u3, s3, z3, hc⟩ := thn_inv hb
  obtain ⟨y, s4, z4, hd⟩ := thn_inv hc
  obtain ⟨u5, s5, z5, he⟩ := thn_inv hd
  injection he with he
  injection he with _ e7
  subst e7
  have y1 := sho_tk1 1 _ _ _ z1
  have y2 := par_len z2
  have y3 := sho_mk 123 _ _ _ z3
  have y4 := its_len _ _ _ _ _ z4
  have y5 := sho_mk 125 _ _ _ z5
  omega
theorem sho_bkE (k : Str) (t : Tab) : Sho (bkE k t) :=
  sho_ite (sho_thn (fun l r x h => loc_len h) (fun x => sho_ite sho_none (sho_some _)))
  (sho_ite (sho_thn (sho_tk1 1) (fun f => sho_thn (sho_tk1 1) (fun g => sho_ite sho_none (sho_semi _))))
  (sho_ite (sho_thn (sho_tk1 1) (fun f => sho_thn (sho_tk1 1) (fun g => sho_thn (sho_num 1000) (fun n => sho_ite sho_none (sho_semi _))))) sho_none))
theorem ent_lt {t t2 : Tab} {l r : Ts} (h : entP t l = some (t2, r)) : r.length < l.length := by
  rw [ent_bk] at h
  obtain ⟨k, q, h1, h2⟩ := thn_inv h
  have e := tk1_inv h1
  subst e
  have := sho_bkE k t q r t2 h2
  rw [List.length_cons]; omega
def LoT (g B0 : Nat) (w : World) (R : Option Tab) (CH : Value) (wr : World) : Prop :=
  ∃ (m : PMem) (q : Bool × List KT) (t : Tab) (f : Nat), (CxT g B0).F q t m wr ∧ ChR wr CH partsL ∧ Below g w wr ∧ (q.1 = true → q.2.length < f ∧ R = entsP f t q.2) ∧ (q.1 = false → R = none)
def TbP (g B0 : Nat) (R : Option Tab) (w : World) (e : Ending) (w' : World) : Prop :=
  e = .returned (.tuple #[]) ∧ ∃ (m : PMem) (q : Bool × List KT) (t : Tab), PT g B0 m q.1 q.2 t w' ∧ Below g w w' ∧ (q.1 = true → R = some t) ∧ (q.1 = false → R = none)
set_option maxRecDepth 1000000 in
set_option maxHeartbeats 8000000 in
theorem table_z (g B0 : Nat) (ts : List KT) (m : PMem) (w : World) (h : PT g B0 m true ts tab0 w) (E : ∀ W, Below g w W → EnvOf8 W) :
    Calls Tryz.prog 47 #[.pointer (some ⟨g, 0, none⟩)] w (TbP g B0 (parT ts) w) := by
  have P0 := Lib.hid h
  have HE := Lib.hid E
  obtain ⟨R, hR⟩ : ∃ R, parT ts = R := ⟨_, rfl⟩
  have HR := Lib.hid hR
  rw [hR]
  clear h E hR
  go_enter Tryz.func47, Tryz.ntmps47
  go_wp2_with fail
  refine (parts_any _).mono ?_
  rintro e wi ⟨⟨CH, rfl, hch⟩, hbi⟩
  have HL : Hid (LoT g B0 w R CH wi) := Lib.hid ⟨m, (true, ts), tab0, ts.length + 1, ⟨P0.out.below hbi, fun W hW => HE.out W ((hbi.mono (by have := P0.out.pl.blk.lt; omega)).trans hW)⟩, hch, hbi.mono (by have := P0.out.pl.blk.lt; omega), fun _ => ⟨Nat.lt_succ_self _, HR.out.symm⟩, fun e => by cases e⟩
  clear hbi hch
  go_wp2_with fail
  go_loopw [17] (fun _ wr => LoT g B0 w R CH wr) (fun _ wr => mtk g wr)
  case atStart => exact HL.out
  case round =>
    rename World => wr
    obtain ⟨mx, qx, tx, f, hF, hch, hbx, h1, h2⟩ := hrel
    have PX := Lib.hid hF
    have CX := Lib.hid hch
    have BX := Lib.hid hbx
    have H1 := Lib.hid h1
    have H2 := Lib.hid h2
    have cf : wr.cell? ⟨g, 21, none⟩ = some (.int .i64 mx.f) := hF.1.pl.blk.cell 21
    have c0 : wr.cell? ⟨g, 0, none⟩ = some (.slice mx.tk.a mx.tk.n mx.tk.c) := hF.1.pl.blk.cell 0
    have hln := hF.1.pl.tk.len
    obtain ⟨ta, hta⟩ : ∃ a, mx.tk.a = a := ⟨_, rfl⟩
    obtain ⟨tn, htn⟩ : ∃ a, mx.tk.n = a := ⟨_, rfl⟩
    obtain ⟨tc, htc⟩ : ∃ a, mx.tk.c = a := ⟨_, rfl⟩
    rw [hta, htn, htc] at c0
    rw [htn] at hln
    clear hF hch hbx h1 h2 HL hta htn htc
    by_cases hok : qx.1 = true
    case neg =>
      have hok' : qx.1 = false := by simpa using hok
      have e1 : (mx.f == 0) = false := by rw [beq_eq_false_iff_ne]; exact fun e => hok (PX.out.1.pl.f.1 e)
      have HNO := Lib.hid hok
      clear hok hok' hln
      go_wp2
      go_end0
      exact ⟨rfl, mx, qx, tx, PX.out.1, BX.out, fun e => absurd e HNO.out, H2.out⟩
    case pos =>
      have e1 : (mx.f == 0) = true := by rw [beq_iff_eq]; exact PX.out.1.pl.f.2 hok
      have HOK := Lib.hid hok
      clear hok
      by_cases hnil : qx.2 = []
      · have n1 : decide ((1 : Int) < (tn : Int)) = false := decide_eq_false (by rw [hln, hnil]; decide)
        have n2 : decide (1 < tn) = false := decide_eq_false (by rw [hln, hnil]; decide)
        have HNI := Lib.hid hnil
        clear hln hnil
        go_wp2
        go_end0
        refine ⟨rfl, mx, qx, tx, PX.out.1, BX.out, fun e => ?_, H2.out⟩
        obtain ⟨y1, y2⟩ := H1.out e
        obtain ⟨f, rfl⟩ : ∃ f', f = f' + 1 := ⟨f - 1, by omega⟩
        rw [y2, HNI.out, entsP, if_pos rfl]
      · have hpos := List.length_pos_iff.2 hnil
        have n1 : decide ((1 : Int) < (tn : Int)) = true := decide_eq_true (by omega)
        have n2 : decide (1 < tn) = true := decide_eq_true (by omega)
        have HNI := Lib.hid hnil
        have HME : Hid (mtk g wr = qx.2.length + 1) := Lib.hid (mtk_ok (m := mx) (B0 := B0) (by have := PX.out.1.pl; rw [HOK.out] at this; exact this))
        clear hln hnil hpos
        go_wp2_with fail
        refine (statementT_z g B0 _ qx tx mx _ PX.out CX.out).mono ?_
        rintro e w6 ⟨rfl, m6, q6, t6, hF6, hb6, hk6, hz6, hs6⟩
        have hs6' := hs6 HOK.out
        have HLT : Hid (q6.1 = true → q6.2.length < qx.2.length) := Lib.hid (fun e => by
          revert hs6'
          cases hi : entP tx qx.2 with
          | none => intro hh; rw [hh] at e; cases e
          | some p => rintro ⟨z1, _⟩; rw [z1]; exact ent_lt hi)
        have HN : Hid (LoT g B0 w R CH w6) := Lib.hid ⟨m6, q6, t6, f - 1, hF6, CX.out.kt hk6, BX.out.trans hb6, fun e => by
          obtain ⟨y1, y2⟩ := H1.out HOK.out
          obtain ⟨f, rfl⟩ : ∃ f', f = f' + 1 := ⟨f - 1, by omega⟩
          rw [entsP, if_neg HNI.out] at y2
          revert hs6'
          cases hi : entP tx qx.2 with
          | none => intro hh; rw [hh] at e; cases e
          | some p =>
            obtain ⟨x2, r2⟩ := p
            rintro ⟨z1, z2⟩
            have := ent_lt hi
            rw [hi, thn_some] at y2
            rw [z1, z2]
            exact ⟨by dsimp only; omega, y2⟩, fun e => by
          obtain ⟨y1, y2⟩ := H1.out HOK.out
          obtain ⟨f, rfl⟩ : ∃ f', f = f' + 1 := ⟨f - 1, by omega⟩
          rw [entsP, if_neg HNI.out] at y2
          revert hs6'
          cases hi : entP tx qx.2 with
          | none => intro _; rw [y2, hi]; rfl
          | some p =>
            rintro ⟨z1, _⟩
            rw [z1] at e
            cases e⟩
        have HPL := Lib.hid hF6.1.pl
        clear hF6 hb6 hk6 hz6 hs6 hs6'
        go_wp2
        go_roundw
        case measure =>
          rw [HME.out]
          exact mtk_le HPL.out HLT.out (by omega)
        case rel => exact HN.out
end Go.Proofs.YtpmmchppfmojhaaGreatDoor


