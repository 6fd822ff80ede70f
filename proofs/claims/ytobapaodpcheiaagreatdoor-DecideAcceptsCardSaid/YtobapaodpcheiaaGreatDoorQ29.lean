/- What the row stands on, part 29. -/
import Derived.Test.YtobapaodpcheiaaGreatDoorQ28
namespace Go.Proofs.YtobapaodpcheiaaGreatDoor
open Go.RowKit Go.Maps
set_option linter.unusedVariables false
set_option maxRecDepth 1000000 in
set_option maxHeartbeats 16000000 in
theorem step_any (g:Nat) (s T:ByteArray) (tq wat:Nat) (T2:ByteArray) (wat2 tq2:Nat)
  (hN:∀ w,Calls Tryz.prog 91 #[.string s,.int .i64 (tq:Int)] w fun e w'=>e= .returned (.tuple #[.agg #[.string T2,.int .i64 (wat2:Int)],.int .i64 (tq2:Int)])∧Below w.heap.size w w')
  (w:World) (h:PrB w g s T tq wat):
  Calls Tryz.prog 62 #[.pointer (some ⟨g,0,none⟩)] w fun e w'=>e= .returned (.tuple #[])∧PrB w' g s T2 tq2 wat2∧But g w w':=by
 have HN:=Lib.hid hN
 have HP:=Lib.hid h
 have c5:w.cell? ⟨g,5,none⟩=some (.int .i64 0):=Blk.cell h 5
 have BW:=(Below.refl w.heap.size w).drew
 have hS:(fun wx:World=>wx.cell? ⟨g,0,none⟩=some (.string s)∧wx.cell? ⟨g,1,none⟩=some (.int .i64 (tq:Int))) w.drew:=⟨Blk.cell (PrB.below h BW) 0,Blk.cell (PrB.below h BW) 1⟩
 have HSX:Hid (∀ wx,Below w.drew.heap.size w.drew wx→wx.cell? ⟨g,0,none⟩=some (.string s)∧wx.cell? ⟨g,1,none⟩=some (.int .i64 (tq:Int))):=Lib.hid (fun wx hb=>⟨Blk.cell (PrB.below (PrB.below HP.out ((Below.refl w.heap.size w).drew)) hb) 0,Blk.cell (PrB.below (PrB.below HP.out ((Below.refl w.heap.size w).drew)) hb) 1⟩)
 clear hN h
 go_enter Tryz.func62,Tryz.ntmps62
 go_upto_region 1 with fail
 clear c5
 refine region_hd 17 (fun wx:World=>wx.cell? ⟨g,0,none⟩=some (.string s)∧wx.cell? ⟨g,1,none⟩=some (.int .i64 (tq:Int))) (by kernel_rfl) (by kernel_rfl) ?_
 refine hd_taken 0 (some 8) _ ?hdv0 rfl rfl (by kernel_rfl) (fun _ _ _ h=>h) (Or.inl ⟨by kernel_rfl,?hdy0⟩) hS ?hdr0
 case hdy0=>(intro wx hx;(try dsimp only at hx);go_simp;try with_reducible rfl)
 try simp only [Act.put,zI,zO,zS]
 refine hd_taken 1 (some 9) _ ?hdv1 rfl rfl (by kernel_rfl) (fun _ _ _ h=>h) (Or.inl ⟨by kernel_rfl,?hdy1⟩) hS ?hdr1
 case hdy1=>(intro wx hx;(try dsimp only at hx);go_simp;try with_reducible rfl)
 try simp only [Act.put,zI,zO,zS]
 refine hd_taken 2 (some 10) _ ?hdv2 rfl rfl (by kernel_rfl) (fun _ _ _ h=>h) (Or.inl ⟨by kernel_rfl,?hdy2⟩) hS ?hdr2
 case hdy2=>(intro wx hx;(try dsimp only at hx);go_simp;try with_reducible rfl)
 try simp only [Act.put,zI,zO,zS]
 refine hd_taken 3 (some 11) _ ?hdv3 rfl rfl (by kernel_rfl) (fun _ _ _ h=>h) (Or.inl ⟨by kernel_rfl,?hdy3⟩) hS ?hdr3
 case hdy3=>(intro wx hx;(try dsimp only at hx);go_simp;try with_reducible rfl)
 try simp only [Act.put,zI,zO,zS]
 refine hd_taken 4 (some 12) _ ?hdv4 rfl rfl (by kernel_rfl) (fun _ _ _ h=>h) (Or.inl ⟨by kernel_rfl,?hdy4⟩) hS ?hdr4
 case hdy4=>(intro wx hx;(try dsimp only at hx);go_simp;try with_reducible rfl)
 try simp only [Act.put,zI,zO,zS]
 refine hd_taken 5 (some 13) _ ?hdv5 rfl rfl (by kernel_rfl) (fun _ _ _ h=>h) (Or.inl ⟨by kernel_rfl,?hdy5⟩) hS ?hdr5
 case hdy5=>(intro wx hx;(try dsimp only at hx);go_simp;try with_reducible rfl)
 try simp only [Act.put,zI,zO,zS]
 refine hd_taken 6 (some 14) _ ?hdv6 rfl rfl (by kernel_rfl) (fun _ _ _ h=>h) (Or.inl ⟨by kernel_rfl,?hdy6⟩) hS ?hdr6
 case hdy6=>(intro wx hx;(try dsimp only at hx);go_simp;try with_reducible rfl)
 try simp only [Act.put,zI,zO,zS]
 refine hd_taken 7 (some 15) _ ?hdv7 rfl rfl (by kernel_rfl) (fun _ _ _ h=>h) (Or.inl ⟨by kernel_rfl,?hdy7⟩) hS ?hdr7
 case hdy7=>(intro wx hx;(try dsimp only at hx);go_simp;try with_reducible rfl)
 try simp only [Act.put,zI,zO,zS]
 refine hd_taken 8 (some 16) _ ?hdv8 rfl rfl (by kernel_rfl) (fun _ _ _ h=>h) (Or.inl ⟨by kernel_rfl,?hdy8⟩) hS ?hdr8
 case hdy8=>(intro wx hx;(try dsimp only at hx);go_simp;try with_reducible rfl)
 try simp only [Act.put,zI,zO,zS]
 refine hd_taken 9 (some 17) _ ?hdv9 rfl rfl (by kernel_rfl) (fun _ _ _ h=>h) (Or.inl ⟨by kernel_rfl,?hdy9⟩) hS ?hdr9
 case hdy9=>(intro wx hx;(try dsimp only at hx);go_simp;try with_reducible rfl)
 try simp only [Act.put,zI,zO,zS]
 refine hd_one 10 _ rfl (by kernel_rfl) (by decide) (fun K10 hK10=>?_)
 go_simp
 refine(HN.out _).mono ?_
 rintro e w2 ⟨rfl,b2⟩
 try dsimp only
 refine hK10.out _ _ (HSX.out _ b2) ?_
 clear hK10 K10
 try simp only [Act.put,zI,zO,zS]
 refine hd_taken 11 (some 7) _ ?hdva11 rfl rfl (by kernel_rfl) (fun _ _ _ h=>h) (Or.inl ⟨by kernel_rfl,?hdya11⟩) (HSX.out _ b2) ?hdra11
 case hdya11=>(intro wx hx;(try dsimp only at hx);go_simp;try with_reducible rfl)
 try simp only [Act.put,zI,zO,zS]
 refine hd_taken 12 (some 19) _ ?hdva12 rfl rfl (by kernel_rfl) (fun _ _ _ h=>h) (Or.inl ⟨by kernel_rfl,?hdya12⟩) (HSX.out _ b2) ?hdra12
 case hdya12=>(intro wx hx;(try dsimp only at hx);go_simp;try with_reducible rfl)
 try simp only [Act.put,zI,zO,zS]
 refine hd_taken 13 (some 20) _ ?hdva13 rfl rfl (by kernel_rfl) (fun _ _ _ h=>h) (Or.inl ⟨by kernel_rfl,?hdya13⟩) (HSX.out _ b2) ?hdra13
 case hdya13=>(intro wx hx;(try dsimp only at hx);go_simp;try with_reducible rfl)
 try simp only [Act.put,zI,zO,zS]
 refine hd_taken 14 (some 21) _ ?hdva14 rfl rfl (by kernel_rfl) (fun _ _ _ h=>h) (Or.inl ⟨by kernel_rfl,?hdya14⟩) (HSX.out _ b2) ?hdra14
 case hdya14=>(intro wx hx;(try dsimp only at hx);go_simp;try with_reducible rfl)
 try simp only [Act.put,zI,zO,zS]
 refine hd_taken 15 (some 22) _ ?hdva15 rfl rfl (by kernel_rfl) (fun _ _ _ h=>h) (Or.inl ⟨by kernel_rfl,?hdya15⟩) (HSX.out _ b2) ?hdra15
 case hdya15=>(intro wx hx;(try dsimp only at hx);go_simp;try with_reducible rfl)
 try simp only [Act.put,zI,zO,zS]
 have k2:Blk g 124 #[.string s,.int .i64 (tq:Int),.string T,.int .i64 (wat:Int),.int .i64 0,.int .i64 0] w2:=PrB.below (PrB.below HP.out BW) b2
 have e2:w2.cell? ⟨g,2,none⟩=some (.string T):=k2.cell 2
 have e3:w2.cell? ⟨g,3,none⟩=some (.int .i64 (wat:Int)):=k2.cell 3
 have f2:w2.frozen? ⟨g,2,none⟩=false:=k2.frozen 2
 have f3:w2.frozen? ⟨g,3,none⟩=false:=k2.frozen 3
 have k3:=(k2.put 2 (.string T2)).put 3 (.int .i64 (wat2:Int))
 have e4:(w2.setCell ⟨g,2,none⟩ (.string T2)).cell? ⟨g,3,none⟩=some (.int .i64 (wat:Int)):=(k2.put 2 (.string T2)).cell 3
 have f4:(w2.setCell ⟨g,2,none⟩ (.string T2)).frozen? ⟨g,3,none⟩=false:=(k2.put 2 (.string T2)).frozen 3
 refine hd_one 16 _ rfl (by kernel_rfl) (by decide) (fun K16 hK16=>?_)
 go_simp
 obtain⟨w3,hw3⟩:∃ w3,(w2.setCell ⟨g,2,none⟩ (.string T2)).setCell ⟨g,3,none⟩ (.int .i64 (wat2:Int))=w3:=⟨_,rfl⟩
 have HBU:Hid (But g w w3):=Lib.hid (by
  rw [←hw3]
  exact((But.of_below BW).then_ b2).trans ((But.setCell g w2 2 _).trans (But.setCell g _ 3 _)))
 rw [hw3] at k3 ⊢
 have K3:Hid (Blk g 124 #[.string s,.int .i64 (tq:Int),.string T2,.int .i64 (wat2:Int),.int .i64 0,.int .i64 0] w3):=Lib.hid k3
 refine hK16.out _ _ ⟨K3.out.cell 0,K3.out.cell 1⟩ ?_
 clear hK16 K16
 try simp only [Act.put,zI,zO,zS]
 refine hd_done (by kernel_rfl) ?_
 simp only [List.drop_succ_cons,List.drop_zero]
 have K4:Hid (PrB (w3.setCell ⟨g,1,none⟩ (.int .i64 (tq2:Int))) g s T2 tq2 wat2):=Lib.hid (K3.out.put 1 (.int .i64 (tq2:Int)))
 have HB4:=Lib.hid (HBU.out.trans (But.setCell g w3 1 (.int .i64 (tq2:Int))))
 have r1:w3.cell? ⟨g,1,none⟩=some (.int .i64 (tq:Int)):=K3.out.cell 1
 have r2:w3.frozen? ⟨g,1,none⟩=false:=K3.out.frozen 1
 clear hS hw3 k2 k3 e2 e3 e4 f2 f3 f4 BW b2
 go_wp2
 refine bodyPost_end (results_none rfl _ _ _) rfl ?_
 exact⟨rfl,K4.out,HB4.out⟩
theorem resSpanR {W:World} {tm:Array Value} {B:Nat} {t:TypeId} {a b:Value} (t2:tm[4]?.getD undef= .pointer (some ⟨B,0,none⟩)) (h:Blk B t #[a,b] W):
  (results Tryz.f93 tm).run Tryz.prog W= .ok (.agg #[a,b]) W:=by
 have a0:W.cell? ⟨B,0,none⟩=some a:=h.cell 0
 have a1:W.cell? ⟨B,1,none⟩=some b:=h.cell 1
 simp [results,Tryz.f93,go_sem,t2,a0,a1]
theorem but_set {g:Nat} {w w':World} (h:But g w w') (b i:Nat) (hb:w.heap.size≤b) (u:Value):But g w (w'.setCell ⟨b,i,none⟩ u):=
 ⟨h.os,h.tape,h.output,by simp only [World.setCell,Array.size_modify];exact h.size,fun k hk hg=>by
  exact(Below.heap_setCell w' ⟨b,i,none⟩ u k (by show k≠b;omega)).trans (h.block k hk hg)⟩
set_option maxRecDepth 1000000 in
set_option maxHeartbeats 16000000 in
theorem span1_any (g:Nat) (s T:ByteArray) (tq wat:Nat) (T2:ByteArray) (wat2 tq2:Nat) (o:Int) (n:Nat)
  (hd:allD T.data.toList) (h1:0<T.size) (h3:T.size≤3) (hz:∀ h:0<T.size,(T[0]'h).toNat≠48∨T.size=1) (hn:val T.data.toList=n) (hb:(n:Int)≤bnd o) (h2:(T2.toList==(ofL [46,46]).toList)=false)
  (hN:∀ w,Calls Tryz.prog 91 #[.string s,.int .i64 (tq:Int)] w fun e w'=>e= .returned (.tuple #[.agg #[.string T2,.int .i64 (wat2:Int)],.int .i64 (tq2:Int)])∧Below w.heap.size w w')
  (w:World) (h:PrB w g s T tq wat):
  Calls Tryz.prog 93 #[.pointer (some ⟨g,0,none⟩),.int .i64 o] w fun e w'=>e= .returned (.agg #[.int .i64 (n:Int),.int .i64 (n:Int)])∧PrB w' g s T2 tq2 wat2∧But g w w':=by
 have hg:g<w.heap.size:=Blk.lt h
 obtain⟨w1,hw1⟩:∃ w1,w.alloc (.cells #[.int .i64 0,.int .i64 0] 84)=w1:=⟨_,rfl⟩
 have B1:Below w.heap.size w w1:=by rw [←hw1];exact below_al _ _
 have P1:=Lib.hid (PrB.below h B1)
 have K4:=Blk.new w 84 #[.int .i64 0,.int .i64 0]
 rw [hw1] at K4
 have HNU:=Lib.hid (number_any g s T tq wat hd h1 h3 hz w1 P1.out)
 rw [hn] at HNU
 obtain⟨w2,hw2⟩:∃ w2,w1.alloc (.cells #[.int .i64 (n:Int),.int .i64 0] 84)=w2:=⟨_,rfl⟩
 have B2:Below w1.heap.size w1 w2:=by rw [←hw2];exact below_al _ _
 have K5:=Blk.new w1 84 #[.int .i64 (n:Int),.int .i64 0]
 rw [hw2] at K5
 have HP2:=Lib.hid (PrB.below P1.out B2)
 have HK4:=Lib.hid (Blk.below K4 B2)
 have HK5:=Lib.hid K5
 have HB2:=Lib.hid (B1.trans (B2.mono B1.size))
 have HW1:=Lib.hid hw1
 have HW2:=Lib.hid hw2
 have HBO:=Lib.hid (fun wx=>bound_any o wx)
 obtain⟨bo,hbo⟩:∃ b,bnd o=b:=⟨_,rfl⟩
 rw [hbo] at HBO hb
 have t1:¬ (bo<(n:Int)):=by omega
 have hs1:w1.heap.size=w.heap.size+1:=by rw [←hw1];exact Array.size_push _
 obtain⟨b5,hb5⟩:∃ b,w1.heap.size=b:=⟨_,rfl⟩
 obtain⟨b4,hb4⟩:∃ b,w.heap.size=b:=⟨_,rfl⟩
 have r0:w2.cell? ⟨b5,0,none⟩=some (.int .i64 (n:Int)):=by rw [←hb5];exact HK5.out.cell 0
 have HB5:=Lib.hid hb5
 have HB4:=Lib.hid hb4
 have HNE:Hid (g<b4∧b4<b5):=Lib.hid (by omega)
 rw [hb4] at HK4
 rw [hb5] at HK5
 have HH2:=Lib.hid h2
 have HNN:=Lib.hid hN
 have HBE:=Lib.hid hb
 clear hd h1 h3 hz hn h2 hN h hw1 hw2 B1 B2 K4 K5 hs1 hg hb hbo
 go_enter Tryz.func93,Tryz.ntmps93
 go_upto_region 1 with fail
 rw [HW1.out]
 (try rw [hb4])
 go_wp2_with fail
 refine HNU.out.mono ?_
 rintro e wx ⟨rfl,hwx⟩
 obtain rfl:=hwx.symm
 go_upto_region 2 with fail
 rw [HW2.out]
 (try rw [hb5])
 go_quiet ((go_at_call 39;exact Calls.quiet_of_same (HBO.out _)))
 have BD:Below w2.heap.size w2 (w2.drewN nq):=below_drewN (Below.refl _ _) nq
 have HPD:=Lib.hid (PrB.below HP2.out BD)
 have HK4D:=Lib.hid (Blk.below HK4.out BD)
 have HK5D:=Lib.hid (Blk.below HK5.out BD)
 have HBD:=Lib.hid ((But.of_below (g:=g) HB2.out).trans (But.of_below BD))
 obtain⟨wd,hwd⟩:∃ wd,w2.drewN nq=wd:=⟨_,rfl⟩
 rw [hwd] at HPD HK4D HK5D HBD ⊢
 clear r0 hwd BD
 have HST:=Lib.hid (step_any g s T tq wat T2 wat2 tq2 HNN.out wd HPD.out)
 go_wp2_with fail
 refine HST.out.mono ?_
 rintro e w3 ⟨rfl,p3,b3⟩
 have k4:=Blk.but HK4D.out b3 (by have:=HNE.out;omega)
 have k5:=Blk.but HK5D.out b3 (by have:=HNE.out;omega)
 have r1:w3.cell? ⟨b5,0,none⟩=some (.int .i64 (n:Int)):=k5.cell 0
 have r2:w3.cell? ⟨b5,1,none⟩=some (.int .i64 0):=k5.cell 1
 have r3:w3.frozen? ⟨b5,1,none⟩=false:=k5.frozen 1
 obtain⟨w4,hw4⟩:∃ w4,w3.setCell ⟨b5,1,none⟩ (.int .i64 (n:Int))=w4:=⟨_,rfl⟩
 have HW4:=Lib.hid hw4
 have HP4:Hid (PrB w4 g s T2 tq2 wat2):=Lib.hid (by rw [←hw4];exact Blk.far p3 (p:=⟨b5,1,none⟩) (by show g≠b5;have:=HNE.out;omega) _)
 have HK44:Hid (Blk b4 84 #[.int .i64 0,.int .i64 0] w4):=Lib.hid (by rw [←hw4];exact Blk.far k4 (p:=⟨b5,1,none⟩) (by show b4≠b5;have:=HNE.out;omega) _)
 have HK54:Hid (Blk b5 84 #[.int .i64 (n:Int),.int .i64 (n:Int)] w4):=Lib.hid (by rw [←hw4];exact k5.put 1 (.int .i64 (n:Int)))
 have HB3:=Lib.hid (HBD.out.trans b3)
 have HIS:=Lib.hid (is_any g s T2 (ofL [46,46]) tq2 wat2 false HH2.out w4 HP4.out)
 clear p3 b3 k4 k5 hw4
 go_upto_region 6 with fail
 rw [HW4.out]
 clear r1 r2 r3
 have q0:w4.cell? ⟨b5,0,none⟩=some (.int .i64 (n:Int)):=HK54.out.cell 0
 have q1:w4.cell? ⟨b5,1,none⟩=some (.int .i64 (n:Int)):=HK54.out.cell 1
 have q2:w4.cell? ⟨b4,0,none⟩=some (.int .i64 0):=HK44.out.cell 0
 have q3:w4.cell? ⟨b4,1,none⟩=some (.int .i64 0):=HK44.out.cell 1
 have q4:w4.frozen? ⟨b4,0,none⟩=false:=HK44.out.frozen 0
 have q5:w4.frozen? ⟨b4,1,none⟩=false:=HK44.out.frozen 1
 have q6:(w4.setCell ⟨b4,0,none⟩ (.int .i64 (n:Int))).cell? ⟨b4,1,none⟩=some (.int .i64 0):=(HK44.out.put 0 (.int .i64 (n:Int))).cell 1
 have q7:(w4.setCell ⟨b4,0,none⟩ (.int .i64 (n:Int))).frozen? ⟨b4,1,none⟩=false:=(HK44.out.put 0 (.int .i64 (n:Int))).frozen 1
 have HFI:Hid (Blk b4 84 #[.int .i64 (n:Int),.int .i64 (n:Int)] ((w4.setCell ⟨b4,0,none⟩ (.int .i64 (n:Int))).setCell ⟨b4,1,none⟩ (.int .i64 (n:Int)))):=Lib.hid ((HK44.out.put 0 (.int .i64 (n:Int))).put 1 (.int .i64 (n:Int)))
 have HPF:Hid (PrB ((w4.setCell ⟨b4,0,none⟩ (.int .i64 (n:Int))).setCell ⟨b4,1,none⟩ (.int .i64 (n:Int))) g s T2 tq2 wat2):=Lib.hid (Blk.far (Blk.far HP4.out (p:=⟨b4,0,none⟩) (by show g≠b4;have:=HNE.out;omega) _) (p:=⟨b4,1,none⟩) (by show g≠b4;have:=HNE.out;omega) _)
 have HBF:Hid (But g w ((w4.setCell ⟨b4,0,none⟩ (.int .i64 (n:Int))).setCell ⟨b4,1,none⟩ (.int .i64 (n:Int)))):=Lib.hid (by
  have e5:w.heap.size≤b5:=by have:=HNE.out;have:=HB4.out;omega
  have e4:w.heap.size≤b4:=by have:=HB4.out;omega
  have x1:=but_set HB3.out b5 1 e5 (.int .i64 (n:Int))
  rw [HW4.out] at x1
  exact but_set (but_set x1 b4 0 e4 _) b4 1 e4 _)
 go_wp2_with fail
 refine HIS.out.mono ?_
 rintro e wz ⟨rfl,hwz⟩
 obtain rfl:=hwz.symm
 go_wp2
 exact bodyPost_ret (v:= .agg #[.int .i64 (n:Int),.int .i64 (n:Int)]) (resSpanR rfl HFI.out) rfl ⟨rfl,HPF.out,HBF.out⟩
structure RB (w0:World) (g b2 b3:Nat) (s T:ByteArray) (tq wat:Nat) (op md:Int) (nt:Bool) (sp:Value) (wr:World):Prop where
 p:PrB wr g s T tq wat
 k2:Blk b2 52 #[.int .i64 0,.int .i64 0,.bool false,.slice none 0 0] wr
 k3:Blk b3 52 #[.int .i64 op,.int .i64 md,.bool nt,sp] wr
 bu:But g w0 wr
 lo:w0.heap.size≤b2
 ne:b2<b3
 gl:g<b2
section
variable {w0 wr w':World} {g b2 b3:Nat} {s T T':ByteArray} {tq wat tq' wat':Nat} {op md:Int} {nt:Bool} {sp:Value}
theorem RB.next (h:RB w0 g b2 b3 s T tq wat op md nt sp wr) (p:PrB w' g s T' tq' wat') (b:But g wr w'):RB w0 g b2 b3 s T' tq' wat' op md nt sp w':=
 ⟨p,Blk.but h.k2 b (by have:=h.gl;omega),Blk.but h.k3 b (by have:=h.gl;have:=h.ne;omega),h.bu.trans b,h.lo,h.ne,h.gl⟩
theorem RB.below (h:RB w0 g b2 b3 s T tq wat op md nt sp wr) (b:Below wr.heap.size wr w'):RB w0 g b2 b3 s T tq wat op md nt sp w':=h.next (PrB.below h.p b) (But.of_below b)
theorem RB.put (h:RB w0 g b2 b3 s T tq wat op md nt sp wr) (i:Nat) (u:Value):PrB (wr.setCell ⟨b3,i,none⟩ u) g s T tq wat∧Blk b2 52 #[.int .i64 0,.int .i64 0,.bool false,.slice none 0 0] (wr.setCell ⟨b3,i,none⟩ u)∧But g w0 (wr.setCell ⟨b3,i,none⟩ u):=
 ⟨Blk.far h.p (p:=⟨b3,i,none⟩) (by show g≠b3;have:=h.gl;have:=h.ne;omega) u,Blk.far h.k2 (p:=⟨b3,i,none⟩) (by show b2≠b3;have:=h.ne;omega) u,but_set h.bu b3 i (by have:=h.lo;have:=h.ne;omega) u⟩
theorem RB.set0 (h:RB w0 g b2 b3 s T tq wat op md nt sp wr) (x:Int):RB w0 g b2 b3 s T tq wat x md nt sp (wr.setCell ⟨b3,0,none⟩ (.int .i64 x)):=
 ⟨(h.put 0 _).1,(h.put 0 _).2.1,h.k3.put 0 _,(h.put 0 _).2.2,h.lo,h.ne,h.gl⟩
theorem RB.set1 (h:RB w0 g b2 b3 s T tq wat op md nt sp wr) (x:Int):RB w0 g b2 b3 s T tq wat op x nt sp (wr.setCell ⟨b3,1,none⟩ (.int .i64 x)):=
 ⟨(h.put 1 _).1,(h.put 1 _).2.1,h.k3.put 1 _,(h.put 1 _).2.2,h.lo,h.ne,h.gl⟩
theorem RB.set2 (h:RB w0 g b2 b3 s T tq wat op md nt sp wr) (x:Bool):RB w0 g b2 b3 s T tq wat op md x sp (wr.setCell ⟨b3,2,none⟩ (.bool x)):=
 ⟨(h.put 2 _).1,(h.put 2 _).2.1,h.k3.put 2 _,(h.put 2 _).2.2,h.lo,h.ne,h.gl⟩
theorem RB.set3 (h:RB w0 g b2 b3 s T tq wat op md nt sp wr) (x:Value):RB w0 g b2 b3 s T tq wat op md nt x (wr.setCell ⟨b3,3,none⟩ x):=
 ⟨(h.put 3 _).1,(h.put 3 _).2.1,h.k3.put 3 _,(h.put 3 _).2.2,h.lo,h.ne,h.gl⟩
end
def letS:Str:=[110,105,118,119,102,116]
theorem let_cut {c:Nat} (hc:c<6) (wx:World):(Instr.slice 9 (.string ⟨#[110,105,118,119,102,116]⟩) (some (.int .i64 (c:Int))) (some (.int .i64 ((c:Int)+1))) none).run Tryz.prog wx= .ok (.string (ofL [letS.getD c 0])) wx:=by
 have h:=run_slice_string (P:=Tryz.prog) (w:=wx) 9 ⟨#[110,105,118,119,102,116]⟩ .i64 .i64 (c:Int) ((c:Int)+1) Tryz.underlying9 (by omega) (by omega) (by show(c:Int)+1≤6;omega)
 have e:(⟨#[110,105,118,119,102,116]⟩:ByteArray).extract (c:Int).toNat ((c:Int)+1).toNat=ofL [letS.getD c 0]:=by
  have e1:((c:Int)+1).toNat=c+1:=by omega
  rw [Int.toNat_natCast,e1]
  have:∀ k:Fin 6,(⟨#[110,105,118,119,102,116]⟩:ByteArray).extract k.val (k.val+1)=ofL [letS.getD k.val 0]:=by decide+kernel
  exact this ⟨c,hc⟩
 rw [e] at h
 exact h
theorem let_eq:∀(a b:Fin 6),((ofL [letS.getD a.val 0]).toList==(ofL [letS.getD b.val 0]).toList)=decide (a.val=b.val):=by
 intro a b
 rw [toL,toL]
 revert a b
 decide+kernel
theorem Tryz.infoSn:(Tryz.prog.info? 84).map (fun i=>(i.zero,i.size,i.bytes))=some (some (.agg #[.int .i64 0,.int .i64 0]),2,16):=by kernel_rfl
theorem resRelR {W:World} {tm:Array Value} {B:Nat} {t:TypeId} {a b c d:Value} (t2:tm[2]?.getD undef= .pointer (some ⟨B,0,none⟩)) (h:Blk B t #[a,b,c,d] W):
  (results Tryz.f65 tm).run Tryz.prog W= .ok (.agg #[a,b,c,d]) W:=by
 have a0:W.cell? ⟨B,0,none⟩=some a:=h.cell 0
 have a1:W.cell? ⟨B,1,none⟩=some b:=h.cell 1
 have a2:W.cell? ⟨B,2,none⟩=some c:=h.cell 2
 have a3:W.cell? ⟨B,3,none⟩=some d:=h.cell 3
 simp [results,Tryz.f65,go_sem,t2,a0,a1,a2,a3]
set_option maxRecDepth 1000000 in
set_option maxHeartbeats 16000000 in
theorem relM_any (g:Nat) (s:ByteArray) (tq wat o:Nat) (ho:o<6) (T1:ByteArray) (tq1 wat1:Nat)
  (h1:(T1.toList==(ofL [37]).toList)=true)
  (hN1:∀ w,Calls Tryz.prog 91 #[.string s,.int .i64 (tq:Int)] w fun e w'=>e= .returned (.tuple #[.agg #[.string T1,.int .i64 (wat1:Int)],.int .i64 (tq1:Int)])∧Below w.heap.size w w')
  (T2 T3 T4 T5:ByteArray) (tq2 wat2 tq3 wat3 tq4 wat4 tq5 wat5 m n:Nat)
  (hd2:allD T2.data.toList) (hl2:0<T2.size) (hh2:T2.size≤3) (hz2:∀ h:0<T2.size,(T2[0]'h).toNat≠48∨T2.size=1) (hm:val T2.data.toList=m) (hmod:(modsL ((o+1:Nat):Int)).any (fun x=>x==(m:Int))=true)
  (h3a:(T3.toList==(ofL [33,61]).toList)=false) (h3b:(T3.toList==(ofL [61]).toList)=true)
  (hd4:allD T4.data.toList) (hl4:0<T4.size) (hh4:T4.size≤3) (hz4:∀ h:0<T4.size,(T4[0]'h).toNat≠48∨T4.size=1) (hn:val T4.data.toList=n) (hb4:(n:Int)≤bnd ((o+1:Nat):Int))
  (h5a:(T5.toList==(ofL [46,46]).toList)=false) (h5b:(T5.toList==(ofL [44]).toList)=false)
  (hN2:(∀ w,Calls Tryz.prog 91 #[.string s,.int .i64 (tq1:Int)] w fun e w'=>e= .returned (.tuple #[.agg #[.string T2,.int .i64 (wat2:Int)],.int .i64 (tq2:Int)])∧Below w.heap.size w w')) (hN3:(∀ w,Calls Tryz.prog 91 #[.string s,.int .i64 (tq2:Int)] w fun e w'=>e= .returned (.tuple #[.agg #[.string T3,.int .i64 (wat3:Int)],.int .i64 (tq3:Int)])∧Below w.heap.size w w')) (hN4:(∀ w,Calls Tryz.prog 91 #[.string s,.int .i64 (tq3:Int)] w fun e w'=>e= .returned (.tuple #[.agg #[.string T4,.int .i64 (wat4:Int)],.int .i64 (tq4:Int)])∧Below w.heap.size w w')) (hN5:(∀ w,Calls Tryz.prog 91 #[.string s,.int .i64 (tq4:Int)] w fun e w'=>e= .returned (.tuple #[.agg #[.string T5,.int .i64 (wat5:Int)],.int .i64 (tq5:Int)])∧Below w.heap.size w w'))
  (w:World) (h:PrB w g s (ofL [letS.getD o 0]) tq wat):
  Calls Tryz.prog 65 #[.pointer (some ⟨g,0,none⟩)] w fun e w'=>(∃ v,e= .returned (.agg #[.int .i64 ((o+1:Nat):Int),.int .i64 (m:Int),.bool false,v])∧Rd 2 encP w' v [((n:Int),(n:Int))]∧∀ b,v.ownBlock=some b→w.heap.size≤b)∧PrB w' g s T5 tq5 wat5∧But g w w':=by
 obtain⟨iP,hiP,hzP,hkP,hbP⟩:=info_parts Tryz.infoSn
 have hg:g<w.heap.size:=Blk.lt h
 obtain⟨wa,hwa⟩:∃ x,w.alloc (.cells #[.int .i64 0,.int .i64 0,.bool false,.slice none 0 0] 52)=x:=⟨_,rfl⟩
 obtain⟨wb,hwb⟩:∃ x,wa.alloc (.cells #[.int .i64 0,.int .i64 0,.bool false,.slice none 0 0] 52)=x:=⟨_,rfl⟩
 have ka:=Blk.new w 52 #[.int .i64 0,.int .i64 0,.bool false,.slice none 0 0]
 have kb:=Blk.new wa 52 #[.int .i64 0,.int .i64 0,.bool false,.slice none 0 0]
 have B1:Below w.heap.size w wa:=by rw [←hwa];exact below_al _ _
 have B2:Below wa.heap.size wa wb:=by rw [←hwb];exact below_al _ _
 rw [hwa] at ka
 rw [hwb] at kb
 have hs1:wa.heap.size=w.heap.size+1:=by rw [←hwa];exact Array.size_push _
 have hrb:RB w g w.heap.size wa.heap.size s (ofL [letS.getD o 0]) tq wat 0 0 false (.slice none 0 0) wb:=
  ⟨PrB.below (PrB.below h B1) B2,Blk.below ka B2,kb,(But.of_below B1).trans (But.of_below B2),Nat.le_refl _,by omega,hg⟩
 obtain⟨b3,hb3⟩:∃ b,wa.heap.size=b:=⟨_,rfl⟩
 obtain⟨b2,hb2⟩:∃ b,w.heap.size=b:=⟨_,rfl⟩
 rw [hb3,hb2] at hrb
 have HRB:=Lib.hid hrb
 have HWA:=Lib.hid hwa
 have HWB:=Lib.hid hwb
 have HB3:=Lib.hid hb3
 have HB2:=Lib.hid hb2
 have HN1:=Lib.hid hN1
 have HH1:=Lib.hid h1
 have HN2:=Lib.hid hN2
 have HN3:=Lib.hid hN3
 have HN4:=Lib.hid hN4
 have HH3a:=Lib.hid h3a
 have HH3b:=Lib.hid h3b
 have HH5b:=Lib.hid h5b
 have HMOD:=Lib.hid hmod
 have HNU:=Lib.hid (fun wx hx=>number_any g s T2 tq2 wat2 hd2 hl2 hh2 hz2 wx hx)
 rw [hm] at HNU
 have HSP:=Lib.hid (fun wx hx=>span1_any g s T4 tq4 wat4 T5 wat5 tq5 ((o+1:Nat):Int) n hd4 hl4 hh4 hz4 hn hb4 h5a hN5 wx hx)
 clear hN2 hN3 hN4 hN5 h3a h3b h5a h5b hmod hm hn hb4 hd2 hl2 hh2 hz2 hd4 hl4 hh4 hz4
 clear h hwa hwb ka kb B1 B2 hs1 hrb hg hN1 h1
 go_enter Tryz.func65,Tryz.ntmps65
 go_upto_region 1 with fail
 rw [HWA.out]
 (try rw [hb2])
 go_upto_region 2 with fail
 rw [HWB.out]
 (try rw [hb3])
 clear hb2 hb3
 go_wp2_with fail
 go_loopw [4] (fun v4 wr=>∃ k:Nat,k≤6∧v4= .int .i64 k∧RB w g b2 b3 s (ofL [letS.getD o 0]) tq wat (if o<k then((o+1:Nat):Int) else 0) 0 false (.slice none 0 0) wr) (fun v4 _=>6 - (intOf v4).toNat)
 case atStart=>exact⟨0,by omega,rfl,by rw [if_neg (by omega)];exact HRB.out⟩
 case round=>
  rename World=>wr
  obtain⟨k,hk,rfl,hr⟩:=hrel
  have HR:=Lib.hid hr
  clear hr
  by_cases hlt:k<6
  ·have h9:(k:Int)<6:=by omega
   have hcut:=fun wx=>let_cut hlt wx
   have HIS:=Lib.hid (is_any g s (ofL [letS.getD o 0]) (ofL [letS.getD k 0]) tq wat (decide (o=k)) (let_eq ⟨o,ho⟩ ⟨k,hlt⟩) wr HR.out.p)
   obtain⟨X,hX⟩:∃ X,ofL [letS.getD k 0]=X:=⟨_,rfl⟩
   rw [hX] at HIS hcut
   clear hX
   by_cases he:o=k
   ·have HRN:Hid (RB w g b2 b3 s (ofL [letS.getD o 0]) tq wat ((k+1:Nat):Int) 0 false (.slice none 0 0) (wr.setCell ⟨b3,0,none⟩ (.int .i64 ((k+1:Nat):Int)))):=Lib.hid (HR.out.set0 _)
    have HGO:Hid ((if o<k+1 then((o+1:Nat):Int) else 0)=((k+1:Nat):Int)):=Lib.hid (by rw [if_pos (by omega),he])
    rw [decide_eq_true he] at HIS
    have r0:wr.cell? ⟨b3,0,none⟩=some (.int .i64 (if o<k then((o+1:Nat):Int) else 0)):=HR.out.k3.cell 0
    rw [if_neg (by omega)] at r0
    have r1:wr.frozen? ⟨b3,0,none⟩=false:=HR.out.k3.frozen 0
    clear he
    go_wp2_with fail
    refine HIS.out.mono ?_
    rintro e w2 ⟨rfl,hw2⟩
    obtain rfl:=hw2.symm
    go_wp2_with fail
    go_roundw
    case measure=>simp [intOf];omega
    case rel=>exact⟨k+1,by omega,by go_num,by rw [HGO.out];first|exact HRN.out|(have:=HRN.out;simpa using this)⟩
   ·have HGO:Hid ((if o<k+1 then((o+1:Nat):Int) else 0)=(if o<k then((o+1:Nat):Int) else 0)):=Lib.hid (by
     by_cases h2:o<k
     ·rw [if_pos h2,if_pos (by omega)]
     ·rw [if_neg h2,if_neg (by omega)])
    rw [decide_eq_false he] at HIS
    clear he
    go_wp2_with fail
    refine HIS.out.mono ?_
    rintro e w2 ⟨rfl,hw2⟩
    obtain rfl:=hw2.symm
    go_wp2_with fail
    go_roundw
    case measure=>simp [intOf];omega
    case rel=>exact⟨k+1,by omega,by go_num,by rw [HGO.out];exact HR.out⟩
  ·obtain rfl:k=6:=by omega
   have hro:=HR.out
   rw [if_pos ho] at hro
   have HRO:=Lib.hid hro
   have r0:wr.cell? ⟨b3,0,none⟩=some (.int .i64 ((o+1:Nat):Int)):=hro.k3.cell 0
   have t1:(((o+1:Nat):Int)==0)=false:=by rw [beq_eq_false_iff_ne];omega
   have h7:¬ ((6:Nat):Int)<6:=by omega
   have HST:=Lib.hid (step_any g s (ofL [letS.getD o 0]) tq wat T1 wat1 tq1 HN1.out wr HRO.out.p)
   clear hro hk hlt
   go_wp2_with fail
   refine HST.out.mono ?_
   rintro e w3 ⟨rfl,p3,b3'⟩
   have R3:=Lib.hid (HRO.out.next p3 b3')
   clear p3 b3' r0
   have HI1:=Lib.hid (is_any g s T1 (ofL [37]) _ _ true HH1.out w3 R3.out.p)
   go_wp2_with fail
   refine HI1.out.mono ?_
   rintro e wz ⟨rfl,hwz⟩
   obtain rfl:=hwz.symm
   clear HI1
   have HS2:=Lib.hid (step_any g s T1 _ _ T2 wat2 tq2 HN2.out w3 R3.out.p)
   go_wp2_with fail
   refine HS2.out.mono ?_
   rintro e w4 ⟨rfl,p3,b3'⟩
   have Rw4:=Lib.hid (R3.out.next p3 b3')
   clear p3 b3' HS2
   have HNX:=Lib.hid (HNU.out w4 Rw4.out.p)
   have r1:w4.cell? ⟨b3,1,none⟩=some (.int .i64 0):=Rw4.out.k3.cell 1
   have r2:w4.frozen? ⟨b3,1,none⟩=false:=Rw4.out.k3.frozen 1
   go_wp2_with fail
   refine HNX.out.mono ?_
   rintro e wz ⟨rfl,hwz⟩
   obtain rfl:=hwz.symm
   obtain⟨w5,hw5⟩:∃ x,w4.setCell ⟨b3,1,none⟩ (.int .i64 (m:Int))=x:=⟨_,rfl⟩
   have R5:=Lib.hid (Rw4.out.set1 (m:Int))
   rw [hw5] at R5
   have HW5:=Lib.hid hw5
   clear hw5
   go_upto_region 13 with fail
   rw [HW5.out]
   clear r1 r2
   have BD:=(Below.refl w5.heap.size w5).drew
   have hS:(fun wx:World=>wx.cell? ⟨b3,0,none⟩=some (.int .i64 ((o+1:Nat):Int))∧wx.cell? ⟨b3,1,none⟩=some (.int .i64 (m:Int))) w5.drew:=⟨(R5.out.below BD).k3.cell 0,(R5.out.below BD).k3.cell 1⟩
   refine region_hd 5 (fun wx:World=>wx.cell? ⟨b3,0,none⟩=some (.int .i64 ((o+1:Nat):Int))∧wx.cell? ⟨b3,1,none⟩=some (.int .i64 (m:Int))) (by kernel_rfl) (by kernel_rfl) ?_
   refine hd_taken 0 (some 32) _ ?hdv0 rfl rfl (by kernel_rfl) (fun _ _ _ h=>h) (Or.inl ⟨by kernel_rfl,?hdy0⟩) hS ?hdr0
   case hdy0=>(intro wx hx;(try dsimp only at hx);go_simp;try with_reducible rfl)
   try simp only [Act.put,zI,zO,zS]
   refine hd_taken 1 (some 33) _ ?hdv1 rfl rfl (by kernel_rfl) (fun _ _ _ h=>h) (Or.inl ⟨by kernel_rfl,?hdy1⟩) hS ?hdr1
   case hdy1=>(intro wx hx;(try dsimp only at hx);go_simp;try with_reducible rfl)
   try simp only [Act.put,zI,zO,zS]
   refine hd_taken 3 (some 35) _ ?hdv3 rfl rfl (by kernel_rfl) (fun _ _ _ h=>h) (Or.inl ⟨by kernel_rfl,?hdy3⟩) hS ?hdr3
   case hdy3=>(intro wx hx;(try dsimp only at hx);go_simp;try with_reducible rfl)
   try simp only [Act.put,zI,zO,zS]
   refine hd_taken 4 (some 36) _ ?hdv4 rfl rfl (by kernel_rfl) (fun _ _ _ h=>h) (Or.inl ⟨by kernel_rfl,?hdy4⟩) hS ?hdr4
   case hdy4=>(intro wx hx;(try dsimp only at hx);go_simp;try with_reducible rfl)
   try simp only [Act.put,zI,zO,zS]
   refine hd_one 2 _ rfl (by kernel_rfl) (by decide) (fun K2 hK2=>?_)
   go_simp
   refine(mods_any ((o+1:Nat):Int) _).mono ?_
   rintro e w6 ⟨⟨vm,rfl,hrm⟩,b6⟩
   try dsimp only
   have R6:=Lib.hid ((R5.out.below BD).below b6)
   have HHA:=Lib.hid (has_any vm _ (m:Int) w6 hrm)
   rw [HMOD.out] at HHA
   refine hK2.out _ _ ⟨R6.out.k3.cell 0,R6.out.k3.cell 1⟩ ?_
   clear hK2 K2 hrm b6 hS BD
   try simp only [Act.put,zI,zO,zS]
   refine hd_done (by kernel_rfl) ?_
   simp only [List.drop_succ_cons,List.drop_zero]
   go_wp2_with fail
   refine HHA.out.mono ?_
   rintro e wz ⟨rfl,hwz⟩
   obtain rfl:=hwz.symm
   have HS3:=Lib.hid (step_any g s T2 _ _ T3 wat3 tq3 HN3.out w6 R6.out.p)
   go_wp2_with fail
   refine HS3.out.mono ?_
   rintro e w7 ⟨rfl,p3,b3'⟩
   have Rw7:=Lib.hid (R6.out.next p3 b3')
   clear p3 b3' HS3
   have r1:w7.cell? ⟨b3,2,none⟩=some (.bool false):=Rw7.out.k3.cell 2
   have r2:w7.frozen? ⟨b3,2,none⟩=false:=Rw7.out.k3.frozen 2
   have HI3:=Lib.hid (is_any g s T3 (ofL [33,61]) _ _ false HH3a.out w7 Rw7.out.p)
   go_wp2_with fail
   refine HI3.out.mono ?_
   rintro e wz ⟨rfl,hwz⟩
   obtain rfl:=hwz.symm
   clear HI3
   obtain⟨w8,hw8⟩:∃ x,w7.setCell ⟨b3,2,none⟩ (.bool false)=x:=⟨_,rfl⟩
   have R8:=Lib.hid (Rw7.out.set2 false)
   rw [hw8] at R8
   have HW8:=Lib.hid hw8
   clear hw8
   go_upto_region 17 with fail
   rw [HW8.out]
   clear r1 r2
   have HI4:=Lib.hid (is_any g s T3 (ofL [61]) _ _ true HH3b.out w8 R8.out.p)
   go_wp2_with fail
   refine HI4.out.mono ?_
   rintro e wz ⟨rfl,hwz⟩
   obtain rfl:=hwz.symm
   clear HI4
   have HS4:=Lib.hid (step_any g s T3 _ _ T4 wat4 tq4 HN4.out w8 R8.out.p)
   go_wp2_with fail
   refine HS4.out.mono ?_
   rintro e w9 ⟨rfl,p3,b3'⟩
   have Rw9:=Lib.hid (R8.out.next p3 b3')
   clear p3 b3' HS4
   go_upto_region 20 with fail
   have BD:=(Below.refl w9.heap.size w9).drew
   have hS:(fun wx:World=>wx.cell? ⟨b3,0,none⟩=some (.int .i64 ((o+1:Nat):Int))∧wx.cell? ⟨b3,3,none⟩=some (.slice none 0 0)) w9.drew:=⟨(Rw9.out.below BD).k3.cell 0,(Rw9.out.below BD).k3.cell 3⟩
   have HSQ:=Lib.hid (HSP.out w9.drew (Rw9.out.below BD).p)
   refine region_hd 7 (fun wx:World=>wx.cell? ⟨b3,0,none⟩=some (.int .i64 ((o+1:Nat):Int))∧wx.cell? ⟨b3,3,none⟩=some (.slice none 0 0)) (by kernel_rfl) (by kernel_rfl) ?_
   refine hd_taken 0 (some 58) _ ?hdva0 rfl rfl (by kernel_rfl) (fun _ _ _ h=>h) (Or.inl ⟨by kernel_rfl,?hdya0⟩) hS ?hdra0
   case hdya0=>(intro wx hx;(try dsimp only at hx);go_simp;try with_reducible rfl)
   try simp only [Act.put,zI,zO,zS]
   refine hd_taken 1 (some 59) _ ?hdva1 rfl rfl (by kernel_rfl) (fun _ _ _ h=>h) (Or.inl ⟨by kernel_rfl,?hdya1⟩) hS ?hdra1
   case hdya1=>(intro wx hx;(try dsimp only at hx);go_simp;try with_reducible rfl)
   try simp only [Act.put,zI,zO,zS]
   refine hd_taken 2 (some 60) _ ?hdva2 rfl rfl (by kernel_rfl) (fun _ _ _ h=>h) (Or.inl ⟨by kernel_rfl,?hdya2⟩) hS ?hdra2
   case hdya2=>(intro wx hx;(try dsimp only at hx);go_simp;try with_reducible rfl)
   try simp only [Act.put,zI,zO,zS]
   refine hd_taken 3 (some 61) _ ?hdva3 rfl rfl (by kernel_rfl) (fun _ _ _ h=>h) (Or.inl ⟨by kernel_rfl,?hdya3⟩) hS ?hdra3
   case hdya3=>(intro wx hx;(try dsimp only at hx);go_simp;try with_reducible rfl)
   try simp only [Act.put,zI,zO,zS]
   refine hd_taken 4 (some 62) _ ?hdva4 rfl rfl (by kernel_rfl) (fun _ _ _ h=>h) (Or.inl ⟨by kernel_rfl,?hdya4⟩) hS ?hdra4
   case hdya4=>(intro wx hx;(try dsimp only at hx);go_simp;try with_reducible rfl)
   try simp only [Act.put,zI,zO,zS]
   refine hd_one 5 _ rfl (by kernel_rfl) (by decide) (fun K5 hK5=>?_)
   go_simp
   refine HSQ.out.mono ?_
   rintro e wc ⟨rfl,pc,bc⟩
   try dsimp only
   have RC:=Lib.hid ((Rw9.out.below BD).next pc bc)
   refine hK5.out _ _ ⟨RC.out.k3.cell 0,RC.out.k3.cell 3⟩ ?_
   clear hK5 K5 pc bc hS BD HSQ
   try simp only [Act.put,zI,zO,zS]
   refine hd_one 6 _ rfl (by kernel_rfl) (by decide) (fun K6 hK6=>?_)
   go_simp
   have RD:=Lib.hid (RC.out.below (below_al wc (.cells #[.int .i64 (n:Int),.int .i64 (n:Int)] 84)))
   refine hK6.out _ _ ⟨RD.out.k3.cell 0,RD.out.k3.cell 3⟩ ?_
   clear hK6 K6 RD
   try simp only [Act.put,zI,zO,zS]
   refine hd_done (by kernel_rfl) ?_
   simp only [List.drop_succ_cons,List.drop_zero]
   refine wpList_append_lie (w0:=wc) (x:=((n:Int),(n:Int))) (N:=wc.heap.size) rfl rfl _ _ 50 rfl wc.heap.size iP _ 16 Tryz.underlying50 hiP hzP hkP hbP (by omega) rfl (by omega) encP_len encP_one _ [] rfl rfl (own1_nil _ _ _) rfl (by simp) (Nat.le_refl _) ?_
   intro v9 wd y9
   have RE:=Lib.hid (RC.out.below y9.2.1)
   have HRD9:=Lib.hid (y9.1.rd encP_len)
   obtain⟨p8,q8,e8⟩:=y9.1.slice
   have e8:v9= .slice p8 1 q8:=e8
   subst e8
   have HOB:Hid (∀ b,(Value.slice p8 1 q8).ownBlock=some b→b≠b3∧b≠b2∧w.heap.size≤b):=Lib.hid (fun b hb=>by
    have e1:=RC.out.k3.lt
    have e2:=RC.out.ne
    have e4:=RC.out.bu.size
    rcases y9.2.2.2 b hb with e3|e3
    ·cases e3
    ·omega)
   obtain⟨v9,hv9⟩:∃ v,Value.slice p8 1 q8=v:=⟨_,rfl⟩
   have HV9:=Lib.hid hv9
   rw [hv9] at HRD9 HOB
   have r1:wd.cell? ⟨b3,3,none⟩=some (.slice none 0 0):=RE.out.k3.cell 3
   have r2:wd.frozen? ⟨b3,3,none⟩=false:=RE.out.k3.frozen 3
   have RF:=Lib.hid (RE.out.set3 v9)
   have HRDF:Hid (Rd 2 encP (wd.setCell ⟨b3,3,none⟩ v9) v9 [((n:Int),(n:Int))]):=Lib.hid (HRD9.out.but (But.setCell b3 wd 3 v9) (fun b hb=>(HOB.out b hb).1))
   rw [←hv9] at RF HRDF
   obtain⟨we,hwe⟩:∃ x,wd.setCell ⟨b3,3,none⟩ (Value.slice p8 1 q8)=x:=⟨_,rfl⟩
   rw [hwe] at RF HRDF
   have HWE:=Lib.hid hwe
   clear y9 hv9 hwe
   go_wp2_with fail
   refine wp_loop_rounds 1 ?_
   rw [rounds_succ]
   rw [HWE.out]
   clear r1 r2
   have HI5:=Lib.hid (is_any g s T5 (ofL [44]) _ _ false HH5b.out we RF.out.p)
   obtain⟨O,hO⟩:∃ O:Int,((o+1:Nat):Int)=O:=⟨_,rfl⟩
   rw [hO] at RF
   have HOE:=Lib.hid hO
   clear hO
   have d0:we.cell? ⟨b3,0,none⟩=some (.int .i64 O):=RF.out.k3.cell 0
   have d1:we.cell? ⟨b3,1,none⟩=some (.int .i64 (m:Int)):=RF.out.k3.cell 1
   have d2:we.cell? ⟨b3,2,none⟩=some (.bool false):=RF.out.k3.cell 2
   have d3:we.cell? ⟨b3,3,none⟩=some (.slice p8 1 q8):=RF.out.k3.cell 3
   have K0:=RF.out.k2
   have K1:=K0.put 0 (.int .i64 O)
   have K2:=K1.put 1 (.int .i64 (m:Int))
   have K3:=K2.put 2 (.bool false)
   have K4:=K3.put 3 (.slice p8 1 q8)
   have c00:we.cell? ⟨b2,0,none⟩=some (.int .i64 0):=K0.cell 0
   have f00:=K0.frozen 0
   have c11:(we.setCell ⟨b2,0,none⟩ (.int .i64 O)).cell? ⟨b2,1,none⟩=some (.int .i64 0):=K1.cell 1
   have f11:=K1.frozen 1
   have c22:((we.setCell ⟨b2,0,none⟩ (.int .i64 O)).setCell ⟨b2,1,none⟩ (.int .i64 (m:Int))).cell? ⟨b2,2,none⟩=some (.bool false):=K2.cell 2
   have f22:=K2.frozen 2
   have c33:(((we.setCell ⟨b2,0,none⟩ (.int .i64 O)).setCell ⟨b2,1,none⟩ (.int .i64 (m:Int))).setCell ⟨b2,2,none⟩ (.bool false)).cell? ⟨b2,3,none⟩=some (.slice none 0 0):=K3.cell 3
   have f33:=K3.frozen 3
   have HK4:Hid (Blk b2 52 #[.int .i64 O,.int .i64 (m:Int),.bool false,.slice p8 1 q8] ((((we.setCell ⟨b2,0,none⟩ (.int .i64 O)).setCell ⟨b2,1,none⟩ (.int .i64 (m:Int))).setCell ⟨b2,2,none⟩ (.bool false)).setCell ⟨b2,3,none⟩ (.slice p8 1 q8))):=Lib.hid K4
   have gb:g≠b2:=by have:=RF.out.gl;omega
   have HPF:Hid (PrB ((((we.setCell ⟨b2,0,none⟩ (.int .i64 O)).setCell ⟨b2,1,none⟩ (.int .i64 (m:Int))).setCell ⟨b2,2,none⟩ (.bool false)).setCell ⟨b2,3,none⟩ (.slice p8 1 q8)) g s T5 tq5 wat5):=
    Lib.hid (Blk.far (Blk.far (Blk.far (Blk.far RF.out.p (p:=⟨b2,0,none⟩) gb _) (p:=⟨b2,1,none⟩) gb _) (p:=⟨b2,2,none⟩) gb _) (p:=⟨b2,3,none⟩) gb _)
   have HBF:Hid (But g w ((((we.setCell ⟨b2,0,none⟩ (.int .i64 O)).setCell ⟨b2,1,none⟩ (.int .i64 (m:Int))).setCell ⟨b2,2,none⟩ (.bool false)).setCell ⟨b2,3,none⟩ (.slice p8 1 q8))):=
    Lib.hid (but_set (but_set (but_set (but_set RF.out.bu b2 0 RF.out.lo _) b2 1 RF.out.lo _) b2 2 RF.out.lo _) b2 3 RF.out.lo _)
   have HRF:Hid (Rd 2 encP ((((we.setCell ⟨b2,0,none⟩ (.int .i64 O)).setCell ⟨b2,1,none⟩ (.int .i64 (m:Int))).setCell ⟨b2,2,none⟩ (.bool false)).setCell ⟨b2,3,none⟩ (.slice p8 1 q8)) (.slice p8 1 q8) [((n:Int),(n:Int))]):=
    Lib.hid (HRDF.out.but ((((But.setCell b2 we 0 _).trans (But.setCell b2 _ 1 _)).trans (But.setCell b2 _ 2 _)).trans (But.setCell b2 _ 3 _)) (fun b hb=>(HOB.out b (by rw [←HV9.out];exact hb)).2.1))
   clear K0 K1 K2 K3 K4 gb
   go_wp2_with fail
   refine HI5.out.mono ?_
   rintro e wz ⟨rfl,hwz⟩
   obtain rfl:=hwz.symm
   clear HI5
   go_wp2
   exact bodyPost_ret (v:= .agg #[.int .i64 O,.int .i64 (m:Int),.bool false,.slice p8 1 q8]) (resRelR rfl HK4.out) rfl ⟨⟨_,by rw [HOE.out],HRF.out,fun b hb=>(HOB.out b (by rw [←HV9.out];exact hb)).2.2⟩,HPF.out,HBF.out⟩
set_option maxRecDepth 1000000 in
set_option maxHeartbeats 16000000 in
theorem rel0_any (g:Nat) (s:ByteArray) (tq wat o:Nat) (ho:o<6) (T1:ByteArray) (tq1 wat1:Nat)
  (h1:(T1.toList==(ofL [37]).toList)=false)
  (hN1:∀ w,Calls Tryz.prog 91 #[.string s,.int .i64 (tq:Int)] w fun e w'=>e= .returned (.tuple #[.agg #[.string T1,.int .i64 (wat1:Int)],.int .i64 (tq1:Int)])∧Below w.heap.size w w')
  (T2 T3:ByteArray) (tq2 wat2 tq3 wat3 n:Nat)
  (h3a:(T1.toList==(ofL [33,61]).toList)=false) (h3b:(T1.toList==(ofL [61]).toList)=true)
  (hd4:allD T2.data.toList) (hl4:0<T2.size) (hh4:T2.size≤3) (hz4:∀ h:0<T2.size,(T2[0]'h).toNat≠48∨T2.size=1) (hn:val T2.data.toList=n) (hb4:(n:Int)≤bnd ((o+1:Nat):Int))
  (h5a:(T3.toList==(ofL [46,46]).toList)=false) (h5b:(T3.toList==(ofL [44]).toList)=false)
  (hN2:(∀ w,Calls Tryz.prog 91 #[.string s,.int .i64 (tq1:Int)] w fun e w'=>e= .returned (.tuple #[.agg #[.string T2,.int .i64 (wat2:Int)],.int .i64 (tq2:Int)])∧Below w.heap.size w w')) (hN3:(∀ w,Calls Tryz.prog 91 #[.string s,.int .i64 (tq2:Int)] w fun e w'=>e= .returned (.tuple #[.agg #[.string T3,.int .i64 (wat3:Int)],.int .i64 (tq3:Int)])∧Below w.heap.size w w'))
  (w:World) (h:PrB w g s (ofL [letS.getD o 0]) tq wat):
  Calls Tryz.prog 65 #[.pointer (some ⟨g,0,none⟩)] w fun e w'=>(∃ v,e= .returned (.agg #[.int .i64 ((o+1:Nat):Int),.int .i64 0,.bool false,v])∧Rd 2 encP w' v [((n:Int),(n:Int))]∧∀ b,v.ownBlock=some b→w.heap.size≤b)∧PrB w' g s T3 tq3 wat3∧But g w w':=by
 obtain⟨iP,hiP,hzP,hkP,hbP⟩:=info_parts Tryz.infoSn
 have hg:g<w.heap.size:=Blk.lt h
 obtain⟨wa,hwa⟩:∃ x,w.alloc (.cells #[.int .i64 0,.int .i64 0,.bool false,.slice none 0 0] 52)=x:=⟨_,rfl⟩
 obtain⟨wb,hwb⟩:∃ x,wa.alloc (.cells #[.int .i64 0,.int .i64 0,.bool false,.slice none 0 0] 52)=x:=⟨_,rfl⟩
 have ka:=Blk.new w 52 #[.int .i64 0,.int .i64 0,.bool false,.slice none 0 0]
 have kb:=Blk.new wa 52 #[.int .i64 0,.int .i64 0,.bool false,.slice none 0 0]
 have B1:Below w.heap.size w wa:=by rw [←hwa];exact below_al _ _
 have B2:Below wa.heap.size wa wb:=by rw [←hwb];exact below_al _ _
 rw [hwa] at ka
 rw [hwb] at kb
 have hs1:wa.heap.size=w.heap.size+1:=by rw [←hwa];exact Array.size_push _
 have hrb:RB w g w.heap.size wa.heap.size s (ofL [letS.getD o 0]) tq wat 0 0 false (.slice none 0 0) wb:=
  ⟨PrB.below (PrB.below h B1) B2,Blk.below ka B2,kb,(But.of_below B1).trans (But.of_below B2),Nat.le_refl _,by omega,hg⟩
 obtain⟨b3,hb3⟩:∃ b,wa.heap.size=b:=⟨_,rfl⟩
 obtain⟨b2,hb2⟩:∃ b,w.heap.size=b:=⟨_,rfl⟩
 rw [hb3,hb2] at hrb
 have HRB:=Lib.hid hrb
 have HWA:=Lib.hid hwa
 have HWB:=Lib.hid hwb
 have HB3:=Lib.hid hb3
 have HB2:=Lib.hid hb2
 have HN1:=Lib.hid hN1
 have HH1:=Lib.hid h1
 have HN2:=Lib.hid hN2
 have HH3a:=Lib.hid h3a
 have HH3b:=Lib.hid h3b
 have HH5b:=Lib.hid h5b
 have HSP:=Lib.hid (fun wx hx=>span1_any g s T2 tq2 wat2 T3 wat3 tq3 ((o+1:Nat):Int) n hd4 hl4 hh4 hz4 hn hb4 h5a hN3 wx hx)
 clear hN2 hN3 h3a h3b h5a h5b hn hb4 hd4 hl4 hh4 hz4
 clear h hwa hwb ka kb B1 B2 hs1 hrb hg hN1 h1
 go_enter Tryz.func65,Tryz.ntmps65
 go_upto_region 1 with fail
 rw [HWA.out]
 (try rw [hb2])
 go_upto_region 2 with fail
 rw [HWB.out]
 (try rw [hb3])
 clear hb2 hb3
 go_wp2_with fail
 go_loopw [4] (fun v4 wr=>∃ k:Nat,k≤6∧v4= .int .i64 k∧RB w g b2 b3 s (ofL [letS.getD o 0]) tq wat (if o<k then((o+1:Nat):Int) else 0) 0 false (.slice none 0 0) wr) (fun v4 _=>6 - (intOf v4).toNat)
 case atStart=>exact⟨0,by omega,rfl,by rw [if_neg (by omega)];exact HRB.out⟩
 case round=>
  rename World=>wr
  obtain⟨k,hk,rfl,hr⟩:=hrel
  have HR:=Lib.hid hr
  clear hr
  by_cases hlt:k<6
  ·have h9:(k:Int)<6:=by omega
   have hcut:=fun wx=>let_cut hlt wx
   have HIS:=Lib.hid (is_any g s (ofL [letS.getD o 0]) (ofL [letS.getD k 0]) tq wat (decide (o=k)) (let_eq ⟨o,ho⟩ ⟨k,hlt⟩) wr HR.out.p)
   obtain⟨X,hX⟩:∃ X,ofL [letS.getD k 0]=X:=⟨_,rfl⟩
   rw [hX] at HIS hcut
   clear hX
   by_cases he:o=k
   ·have HRN:Hid (RB w g b2 b3 s (ofL [letS.getD o 0]) tq wat ((k+1:Nat):Int) 0 false (.slice none 0 0) (wr.setCell ⟨b3,0,none⟩ (.int .i64 ((k+1:Nat):Int)))):=Lib.hid (HR.out.set0 _)
    have HGO:Hid ((if o<k+1 then((o+1:Nat):Int) else 0)=((k+1:Nat):Int)):=Lib.hid (by rw [if_pos (by omega),he])
    rw [decide_eq_true he] at HIS
    have r0:wr.cell? ⟨b3,0,none⟩=some (.int .i64 (if o<k then((o+1:Nat):Int) else 0)):=HR.out.k3.cell 0
    rw [if_neg (by omega)] at r0
    have r1:wr.frozen? ⟨b3,0,none⟩=false:=HR.out.k3.frozen 0
    clear he
    go_wp2_with fail
    refine HIS.out.mono ?_
    rintro e w2 ⟨rfl,hw2⟩
    obtain rfl:=hw2.symm
    go_wp2_with fail
    go_roundw
    case measure=>simp [intOf];omega
    case rel=>exact⟨k+1,by omega,by go_num,by rw [HGO.out];first|exact HRN.out|(have:=HRN.out;simpa using this)⟩
   ·have HGO:Hid ((if o<k+1 then((o+1:Nat):Int) else 0)=(if o<k then((o+1:Nat):Int) else 0)):=Lib.hid (by
     by_cases h2:o<k
     ·rw [if_pos h2,if_pos (by omega)]
     ·rw [if_neg h2,if_neg (by omega)])
    rw [decide_eq_false he] at HIS
    clear he
    go_wp2_with fail
    refine HIS.out.mono ?_
    rintro e w2 ⟨rfl,hw2⟩
    obtain rfl:=hw2.symm
    go_wp2_with fail
    go_roundw
    case measure=>simp [intOf];omega
    case rel=>exact⟨k+1,by omega,by go_num,by rw [HGO.out];exact HR.out⟩
  ·obtain rfl:k=6:=by omega
   have hro:=HR.out
   rw [if_pos ho] at hro
   have HRO:=Lib.hid hro
   have r0:wr.cell? ⟨b3,0,none⟩=some (.int .i64 ((o+1:Nat):Int)):=hro.k3.cell 0
   have t1:(((o+1:Nat):Int)==0)=false:=by rw [beq_eq_false_iff_ne];omega
   have h7:¬ ((6:Nat):Int)<6:=by omega
   have HST:=Lib.hid (step_any g s (ofL [letS.getD o 0]) tq wat T1 wat1 tq1 HN1.out wr HRO.out.p)
   clear hro hk hlt
   go_wp2_with fail
   refine HST.out.mono ?_
   rintro e w3 ⟨rfl,p3,b3'⟩
   have R3:=Lib.hid (HRO.out.next p3 b3')
   clear p3 b3' r0
   have HI1:=Lib.hid (is_any g s T1 (ofL [37]) _ _ false HH1.out w3 R3.out.p)
   go_wp2_with fail
   refine HI1.out.mono ?_
   rintro e wz ⟨rfl,hwz⟩
   obtain rfl:=hwz.symm
   clear HI1
   have r1:w3.cell? ⟨b3,2,none⟩=some (.bool false):=R3.out.k3.cell 2
   have r2:w3.frozen? ⟨b3,2,none⟩=false:=R3.out.k3.frozen 2
   have HI3:=Lib.hid (is_any g s T1 (ofL [33,61]) _ _ false HH3a.out w3 R3.out.p)
   go_wp2_with fail
   refine HI3.out.mono ?_
   rintro e wz ⟨rfl,hwz⟩
   obtain rfl:=hwz.symm
   clear HI3
   obtain⟨w8,hw8⟩:∃ x,w3.setCell ⟨b3,2,none⟩ (.bool false)=x:=⟨_,rfl⟩
   have R8:=Lib.hid (R3.out.set2 false)
   rw [hw8] at R8
   have HW8:=Lib.hid hw8
   clear hw8
   go_upto_region 17 with fail
   rw [HW8.out]
   clear r1 r2
   have HI4:=Lib.hid (is_any g s T1 (ofL [61]) _ _ true HH3b.out w8 R8.out.p)
   go_wp2_with fail
   refine HI4.out.mono ?_
   rintro e wz ⟨rfl,hwz⟩
   obtain rfl:=hwz.symm
   clear HI4
   have HS2:=Lib.hid (step_any g s T1 _ _ T2 wat2 tq2 HN2.out w8 R8.out.p)
   go_wp2_with fail
   refine HS2.out.mono ?_
   rintro e w9 ⟨rfl,p3,b3'⟩
   have Rw9:=Lib.hid (R8.out.next p3 b3')
   clear p3 b3' HS2
   go_upto_region 20 with fail
   have BD:=(Below.refl w9.heap.size w9).drew
   have hS:(fun wx:World=>wx.cell? ⟨b3,0,none⟩=some (.int .i64 ((o+1:Nat):Int))∧wx.cell? ⟨b3,3,none⟩=some (.slice none 0 0)) w9.drew:=⟨(Rw9.out.below BD).k3.cell 0,(Rw9.out.below BD).k3.cell 3⟩
   have HSQ:=Lib.hid (HSP.out w9.drew (Rw9.out.below BD).p)
   refine region_hd 7 (fun wx:World=>wx.cell? ⟨b3,0,none⟩=some (.int .i64 ((o+1:Nat):Int))∧wx.cell? ⟨b3,3,none⟩=some (.slice none 0 0)) (by kernel_rfl) (by kernel_rfl) ?_
   refine hd_taken 0 (some 58) _ ?hdv0 rfl rfl (by kernel_rfl) (fun _ _ _ h=>h) (Or.inl ⟨by kernel_rfl,?hdy0⟩) hS ?hdr0
   case hdy0=>(intro wx hx;(try dsimp only at hx);go_simp;try with_reducible rfl)
   try simp only [Act.put,zI,zO,zS]
   refine hd_taken 1 (some 59) _ ?hdv1 rfl rfl (by kernel_rfl) (fun _ _ _ h=>h) (Or.inl ⟨by kernel_rfl,?hdy1⟩) hS ?hdr1
   case hdy1=>(intro wx hx;(try dsimp only at hx);go_simp;try with_reducible rfl)
   try simp only [Act.put,zI,zO,zS]
   refine hd_taken 2 (some 60) _ ?hdv2 rfl rfl (by kernel_rfl) (fun _ _ _ h=>h) (Or.inl ⟨by kernel_rfl,?hdy2⟩) hS ?hdr2
   case hdy2=>(intro wx hx;(try dsimp only at hx);go_simp;try with_reducible rfl)
   try simp only [Act.put,zI,zO,zS]
   refine hd_taken 3 (some 61) _ ?hdv3 rfl rfl (by kernel_rfl) (fun _ _ _ h=>h) (Or.inl ⟨by kernel_rfl,?hdy3⟩) hS ?hdr3
   case hdy3=>(intro wx hx;(try dsimp only at hx);go_simp;try with_reducible rfl)
   try simp only [Act.put,zI,zO,zS]
   refine hd_taken 4 (some 62) _ ?hdv4 rfl rfl (by kernel_rfl) (fun _ _ _ h=>h) (Or.inl ⟨by kernel_rfl,?hdy4⟩) hS ?hdr4
   case hdy4=>(intro wx hx;(try dsimp only at hx);go_simp;try with_reducible rfl)
   try simp only [Act.put,zI,zO,zS]
   refine hd_one 5 _ rfl (by kernel_rfl) (by decide) (fun K5 hK5=>?_)
   go_simp
   refine HSQ.out.mono ?_
   rintro e wc ⟨rfl,pc,bc⟩
   try dsimp only
   have RC:=Lib.hid ((Rw9.out.below BD).next pc bc)
   refine hK5.out _ _ ⟨RC.out.k3.cell 0,RC.out.k3.cell 3⟩ ?_
   clear hK5 K5 pc bc hS BD HSQ
   try simp only [Act.put,zI,zO,zS]
   refine hd_one 6 _ rfl (by kernel_rfl) (by decide) (fun K6 hK6=>?_)
   go_simp
   have RD:=Lib.hid (RC.out.below (below_al wc (.cells #[.int .i64 (n:Int),.int .i64 (n:Int)] 84)))
   refine hK6.out _ _ ⟨RD.out.k3.cell 0,RD.out.k3.cell 3⟩ ?_
   clear hK6 K6 RD
   try simp only [Act.put,zI,zO,zS]
   refine hd_done (by kernel_rfl) ?_
   simp only [List.drop_succ_cons,List.drop_zero]
   refine wpList_append_lie (w0:=wc) (x:=((n:Int),(n:Int))) (N:=wc.heap.size) rfl rfl _ _ 50 rfl wc.heap.size iP _ 16 Tryz.underlying50 hiP hzP hkP hbP (by omega) rfl (by omega) encP_len encP_one _ [] rfl rfl (own1_nil _ _ _) rfl (by simp) (Nat.le_refl _) ?_
   intro v9 wd y9
   have RE:=Lib.hid (RC.out.below y9.2.1)
   have HRD9:=Lib.hid (y9.1.rd encP_len)
   obtain⟨p8,q8,e8⟩:=y9.1.slice
   have e8:v9= .slice p8 1 q8:=e8
   subst e8
   have HOB:Hid (∀ b,(Value.slice p8 1 q8).ownBlock=some b→b≠b3∧b≠b2∧w.heap.size≤b):=Lib.hid (fun b hb=>by
    have e1:=RC.out.k3.lt
    have e2:=RC.out.ne
    have e4:=RC.out.bu.size
    rcases y9.2.2.2 b hb with e3|e3
    ·cases e3
    ·omega)
   obtain⟨v9,hv9⟩:∃ v,Value.slice p8 1 q8=v:=⟨_,rfl⟩
   have HV9:=Lib.hid hv9
   rw [hv9] at HRD9 HOB
   have r1:wd.cell? ⟨b3,3,none⟩=some (.slice none 0 0):=RE.out.k3.cell 3
   have r2:wd.frozen? ⟨b3,3,none⟩=false:=RE.out.k3.frozen 3
   have RF:=Lib.hid (RE.out.set3 v9)
   have HRDF:Hid (Rd 2 encP (wd.setCell ⟨b3,3,none⟩ v9) v9 [((n:Int),(n:Int))]):=Lib.hid (HRD9.out.but (But.setCell b3 wd 3 v9) (fun b hb=>(HOB.out b hb).1))
   rw [←hv9] at RF HRDF
   obtain⟨we,hwe⟩:∃ x,wd.setCell ⟨b3,3,none⟩ (Value.slice p8 1 q8)=x:=⟨_,rfl⟩
   rw [hwe] at RF HRDF
   have HWE:=Lib.hid hwe
   clear y9 hv9 hwe
   go_wp2_with fail
   refine wp_loop_rounds 1 ?_
   rw [rounds_succ]
   rw [HWE.out]
   clear r1 r2
   have HI5:=Lib.hid (is_any g s T3 (ofL [44]) _ _ false HH5b.out we RF.out.p)
   obtain⟨O,hO⟩:∃ O:Int,((o+1:Nat):Int)=O:=⟨_,rfl⟩
   rw [hO] at RF
   have HOE:=Lib.hid hO
   clear hO
   have d0:we.cell? ⟨b3,0,none⟩=some (.int .i64 O):=RF.out.k3.cell 0
   have d1:we.cell? ⟨b3,1,none⟩=some (.int .i64 0):=RF.out.k3.cell 1
   have d2:we.cell? ⟨b3,2,none⟩=some (.bool false):=RF.out.k3.cell 2
   have d3:we.cell? ⟨b3,3,none⟩=some (.slice p8 1 q8):=RF.out.k3.cell 3
   have K0:=RF.out.k2
   have K1:=K0.put 0 (.int .i64 O)
   have K2:=K1.put 1 (.int .i64 0)
   have K3:=K2.put 2 (.bool false)
   have K4:=K3.put 3 (.slice p8 1 q8)
   have c00:we.cell? ⟨b2,0,none⟩=some (.int .i64 0):=K0.cell 0
   have f00:=K0.frozen 0
   have c11:(we.setCell ⟨b2,0,none⟩ (.int .i64 O)).cell? ⟨b2,1,none⟩=some (.int .i64 0):=K1.cell 1
   have f11:=K1.frozen 1
   have c22:((we.setCell ⟨b2,0,none⟩ (.int .i64 O)).setCell ⟨b2,1,none⟩ (.int .i64 0)).cell? ⟨b2,2,none⟩=some (.bool false):=K2.cell 2
   have f22:=K2.frozen 2
   have c33:(((we.setCell ⟨b2,0,none⟩ (.int .i64 O)).setCell ⟨b2,1,none⟩ (.int .i64 0)).setCell ⟨b2,2,none⟩ (.bool false)).cell? ⟨b2,3,none⟩=some (.slice none 0 0):=K3.cell 3
   have f33:=K3.frozen 3
   have HK4:Hid (Blk b2 52 #[.int .i64 O,.int .i64 0,.bool false,.slice p8 1 q8] ((((we.setCell ⟨b2,0,none⟩ (.int .i64 O)).setCell ⟨b2,1,none⟩ (.int .i64 0)).setCell ⟨b2,2,none⟩ (.bool false)).setCell ⟨b2,3,none⟩ (.slice p8 1 q8))):=Lib.hid K4
   have gb:g≠b2:=by have:=RF.out.gl;omega
   have HPF:Hid (PrB ((((we.setCell ⟨b2,0,none⟩ (.int .i64 O)).setCell ⟨b2,1,none⟩ (.int .i64 0)).setCell ⟨b2,2,none⟩ (.bool false)).setCell ⟨b2,3,none⟩ (.slice p8 1 q8)) g s T3 tq3 wat3):=
    Lib.hid (Blk.far (Blk.far (Blk.far (Blk.far RF.out.p (p:=⟨b2,0,none⟩) gb _) (p:=⟨b2,1,none⟩) gb _) (p:=⟨b2,2,none⟩) gb _) (p:=⟨b2,3,none⟩) gb _)
   have HBF:Hid (But g w ((((we.setCell ⟨b2,0,none⟩ (.int .i64 O)).setCell ⟨b2,1,none⟩ (.int .i64 0)).setCell ⟨b2,2,none⟩ (.bool false)).setCell ⟨b2,3,none⟩ (.slice p8 1 q8))):=
    Lib.hid (but_set (but_set (but_set (but_set RF.out.bu b2 0 RF.out.lo _) b2 1 RF.out.lo _) b2 2 RF.out.lo _) b2 3 RF.out.lo _)
   have HRF:Hid (Rd 2 encP ((((we.setCell ⟨b2,0,none⟩ (.int .i64 O)).setCell ⟨b2,1,none⟩ (.int .i64 0)).setCell ⟨b2,2,none⟩ (.bool false)).setCell ⟨b2,3,none⟩ (.slice p8 1 q8)) (.slice p8 1 q8) [((n:Int),(n:Int))]):=
    Lib.hid (HRDF.out.but ((((But.setCell b2 we 0 _).trans (But.setCell b2 _ 1 _)).trans (But.setCell b2 _ 2 _)).trans (But.setCell b2 _ 3 _)) (fun b hb=>(HOB.out b (by rw [←HV9.out];exact hb)).2.1))
   clear K0 K1 K2 K3 K4 gb
   go_wp2_with fail
   refine HI5.out.mono ?_
   rintro e wz ⟨rfl,hwz⟩
   obtain rfl:=hwz.symm
   clear HI5
   go_wp2
   exact bodyPost_ret (v:= .agg #[.int .i64 O,.int .i64 0,.bool false,.slice p8 1 q8]) (resRelR rfl HK4.out) rfl ⟨⟨_,by rw [HOE.out],HRF.out,fun b hb=>(HOB.out b (by rw [←HV9.out];exact hb)).2.2⟩,HPF.out,HBF.out⟩
theorem Tryz.infoRn:(Tryz.prog.info? 52).map (fun i=>(i.zero,i.size,i.bytes))=some (some (.agg #[.int .i64 0,.int .i64 0,.bool false,.slice none 0 0]),4,48):=by kernel_rfl
set_option maxRecDepth 1000000 in
set_option maxHeartbeats 16000000 in
theorem parse1_any (s T0:ByteArray) (hs:s.size≤1000) (wat0 tq0 tq5:Nat) (op md:Int) (n:Nat)
  (hN0:∀ w,Calls Tryz.prog 91 #[.string s,.int .i64 ((0:Nat):Int)] w fun e w'=>e= .returned (.tuple #[.agg #[.string T0,.int .i64 (wat0:Int)],.int .i64 (tq0:Int)])∧Below w.heap.size w w')
  (hR:∀ g w,PrB w g s T0 tq0 wat0→Calls Tryz.prog 65 #[.pointer (some ⟨g,0,none⟩)] w fun e w'=>(∃ v,e= .returned (.agg #[.int .i64 op,.int .i64 md,.bool false,v])∧Rd 2 encP w' v [((n:Int),(n:Int))]∧∀ b,v.ownBlock=some b→w.heap.size≤b)∧PrB w' g s ⟨#[]⟩ tq5 s.size∧But g w w')
  (w:World):
  Calls Tryz.prog 34 #[.string s] w fun e w'=>∃ v,e= .returned (.tuple #[v,.int .i64 0,.int .i64 0])∧RdC w' v [[⟨op,md,false,[((n:Int),(n:Int))]⟩]]∧Below w.heap.size w w':=by
 obtain⟨iR,hiR,hzR,hkR,hbR⟩:=info_parts Tryz.infoRn
 obtain⟨wa,hwa⟩:∃ x,w.alloc (.cells #[.string s,.int .i64 0,.string ⟨#[]⟩,.int .i64 0,.int .i64 0,.int .i64 0] 124)=x:=⟨_,rfl⟩
 have ka:PrB wa w.heap.size s ⟨#[]⟩ 0 0:=by rw [←hwa];exact Blk.new w _ _
 have B1:Below w.heap.size w wa:=by rw [←hwa];exact below_al _ _
 obtain⟨g,hg⟩:∃ g,w.heap.size=g:=⟨_,rfl⟩
 rw [hg] at ka
 have HG:=Lib.hid hg
 have HWA:=Lib.hid hwa
 have HB1:=Lib.hid B1
 have HST:=Lib.hid (step_any g s ⟨#[]⟩ 0 0 T0 wat0 tq0 hN0 wa ka)
 have HRR:=Lib.hid hR
 have HKA:=Lib.hid ka
 clear hwa B1 hN0 hR ka
 go_enter Tryz.func34,Tryz.ntmps34
 go_upto_region 2 with fail
 rw [HWA.out]
 (try rw [hg])
 clear hg
 go_wp2_with fail
 refine HST.out.mono ?_
 rintro e w1 ⟨rfl,p1,b1⟩
 have HP1:=Lib.hid p1
 have HU1:=Lib.hid b1
 clear p1 b1
 obtain⟨w2,hw2⟩:∃ x,w1.alloc (.cells #[.slice none 0 0] 48)=x:=⟨_,rfl⟩
 have B2:Below w1.heap.size w1 w2:=by rw [←hw2];exact below_al _ _
 have kc:Blk w1.heap.size 48 #[.slice none 0 0] w2:=by rw [←hw2];exact Blk.new _ _ _
 have hgl:g<w1.heap.size:=Blk.lt HP1.out
 obtain⟨cB,hcB⟩:∃ b,w1.heap.size=b:=⟨_,rfl⟩
 rw [hcB] at kc hgl
 have HKC:=Lib.hid kc
 have HGL:=Lib.hid hgl
 have HP2:=Lib.hid (PrB.below HP1.out B2)
 have HU2:Hid (But g wa w2):=Lib.hid (HU1.out.trans (But.of_below B2))
 have HW2:=Lib.hid hw2
 have HCB:=Lib.hid hcB
 clear hw2 B2 kc hgl
 go_wp2_with fail
 rw [HW2.out]
 (try rw [hcB])
 clear hcB
 refine wp_loop_rounds 1 ?_
 rw [rounds_succ]
 have c5:w2.cell? ⟨g,5,none⟩=some (.int .i64 0):=Blk.cell HP2.out 5
 go_upto_region 9 with fail
 clear c5
 have BD:=(Below.refl w2.heap.size w2).drew
 have hS:(fun wx:World=>wx.cell? ⟨cB,0,none⟩=some (.slice none 0 0)) w2.drew:=(HKC.out.below BD).cell 0
 have HRQ:=Lib.hid (HRR.out g w2.drew (PrB.below HP2.out BD))
 have hwr:IntKind.i64.wrap 0=0:=by decide
 refine region_hd 14 (fun wx:World=>wx.cell? ⟨cB,0,none⟩=some (.slice none 0 0)) (by kernel_rfl) (by kernel_rfl) ?_
 refine hd_taken 0 (some 29) _ ?hdv0 rfl rfl (by kernel_rfl) (fun _ _ _ h=>h) (Or.inl ⟨by kernel_rfl,?hdy0⟩) hS ?hdr0
 case hdy0=>(intro wx hx;(try dsimp only at hx);go_simp;try with_reducible rfl)
 try simp only [Act.put,zI,zO,zS]
 refine hd_taken 1 (some 30) _ ?hdv1 rfl rfl (by kernel_rfl) (fun _ _ _ h=>h) (Or.inl ⟨by kernel_rfl,?hdy1⟩) hS ?hdr1
 case hdy1=>(intro wx hx;(try dsimp only at hx);go_simp;try with_reducible rfl)
 try simp only [Act.put,zI,zO,zS]
 refine hd_taken 2 (some 31) _ ?hdv2 rfl rfl (by kernel_rfl) (fun _ _ _ h=>h) (Or.inl ⟨by kernel_rfl,?hdy2⟩) hS ?hdr2
 case hdy2=>(intro wx hx;(try dsimp only at hx);go_simp;try with_reducible rfl)
 try simp only [Act.put,zI,zO,zS]
 refine hd_taken 3 (some 32) _ ?hdv3 rfl rfl (by kernel_rfl) (fun _ _ _ h=>h) (Or.inl ⟨by kernel_rfl,?hdy3⟩) hS ?hdr3
 case hdy3=>(intro wx hx;(try dsimp only at hx);go_simp;try with_reducible rfl)
 try simp only [Act.put,zI,zO,zS]
 refine hd_taken 4 (some 33) _ ?hdv4 rfl rfl (by kernel_rfl) (fun _ _ _ h=>h) (Or.inl ⟨by kernel_rfl,?hdy4⟩) hS ?hdr4
 case hdy4=>(intro wx hx;(try dsimp only at hx);go_simp;try with_reducible rfl)
 try simp only [Act.put,zI,zO,zS]
 refine hd_taken 5 (some 34) _ ?hdv5 rfl rfl (by kernel_rfl) (fun _ _ _ h=>h) (Or.inl ⟨by kernel_rfl,?hdy5⟩) hS ?hdr5
 case hdy5=>(intro wx hx;(try dsimp only at hx);go_simp;try with_reducible rfl)
 try simp only [Act.put,zI,zO,zS]
 refine hd_taken 6 (some 35) _ ?hdv6 rfl rfl (by kernel_rfl) (fun _ _ _ h=>h) (Or.inl ⟨by kernel_rfl,?hdy6⟩) hS ?hdr6
 case hdy6=>(intro wx hx;(try dsimp only at hx);go_simp;try with_reducible rfl)
 try simp only [Act.put,zI,zO,zS]
 refine hd_taken 7 (some 36) _ ?hdv7 rfl rfl (by kernel_rfl) (fun _ _ _ h=>h) (Or.inl ⟨by kernel_rfl,?hdy7⟩) hS ?hdr7
 case hdy7=>(intro wx hx;(try dsimp only at hx);go_simp;try with_reducible rfl)
 try simp only [Act.put,zI,zO,zS]
 refine hd_taken 8 (some 37) _ ?hdv8 rfl rfl (by kernel_rfl) (fun _ _ _ h=>h) (Or.inl ⟨by kernel_rfl,?hdy8⟩) hS ?hdr8
 case hdy8=>(intro wx hx;(try dsimp only at hx);go_simp;try with_reducible rfl)
 try simp only [Act.put,zI,zO,zS]
 refine hd_taken 9 (some 38) _ ?hdv9 rfl rfl (by kernel_rfl) (fun _ _ _ h=>h) (Or.inl ⟨by kernel_rfl,?hdy9⟩) hS ?hdr9
 case hdy9=>(intro wx hx;(try dsimp only at hx);go_simp;try with_reducible rfl)
 try simp only [Act.put,zI,zO,zS]
 refine hd_taken 10 (some 39) _ ?hdv10 rfl rfl (by kernel_rfl) (fun _ _ _ h=>h) (Or.inl ⟨by kernel_rfl,?hdy10⟩) hS ?hdr10
 case hdy10=>(intro wx hx;(try dsimp only at hx);go_simp;try with_reducible rfl)
 try simp only [Act.put,zI,zO,zS]
 refine hd_one 11 _ rfl (by kernel_rfl) (by decide) (fun K11 hK11=>?_)
 go_simp
 refine HRQ.out.mono ?_
 rintro e wc ⟨⟨v,rfl,hrv,hob⟩,pc,bc⟩
 try dsimp only
 obtain⟨pa,pn,rfl,_,_⟩:=hrv.slice
 have HKD:=Lib.hid (Blk.but (HKC.out.below BD) bc (by have:=HGL.out;omega))
 have HPC:=Lib.hid pc
 have HUC:=Lib.hid ((HU2.out.trans (But.of_below BD)).trans bc)
 have HRV:=Lib.hid hrv
 have HVB:Hid (∀ b,(Value.slice pa 1 pn).ownBlock=some b→b≠cB):=Lib.hid (fun b hb=>by
  have e1:=hob b hb
  have e2:=HKC.out.lt
  have e3:=BD.size
  omega)
 refine hK11.out _ _ (HKD.out.cell 0) ?_
 clear hK11 K11 pc bc hS BD HRQ hrv hob
 try simp only [Act.put,zI,zO,zS]
 refine hd_one 12 _ rfl (by kernel_rfl) (by decide) (fun K12 hK12=>?_)
 go_simp
 refine hK12.out _ _ ((HKD.out.below (below_al wc (.cells #[.int .i64 op,.int .i64 md,.bool false,.slice pa 1 pn] 52))).cell 0) ?_
 clear hK12 K12
 try simp only [Act.put,zI,zO,zS]
 refine hd_one 13 _ rfl (by kernel_rfl) (by decide) (fun K13 hK13=>?_)
 refine step_append_at (w0:=wc) (x:=(⟨op,md,false,pa,1,pn⟩:RawR)) (N:=wc.heap.size) rfl rfl _ _ 48 rfl wc.heap.size iR _ 48 Tryz.underlying48 hiR hzR hkR hbR (by omega) rfl (by omega) encR_len encR_one _ [] rfl rfl (own1_nil _ _ _) rfl (by simp) (Nat.le_refl _) ?_
 intro v9 wd y9
 obtain⟨p8,q8,e8⟩:=y9.1.slice
 have e8:v9= .slice p8 1 q8:=e8
 subst e8
 have HKE:=Lib.hid (HKD.out.below y9.2)
 have HPE:=Lib.hid (PrB.below HPC.out y9.2)
 have HUE:=Lib.hid (HUC.out.trans (But.of_below y9.2))
 have HRE:=Lib.hid (HRV.out.below y9.2)
 have HRD9:=Lib.hid (y9.1.rd encR_len)
 have HOB:Hid (∀ b,(Value.slice p8 1 q8).ownBlock=some b→b≠cB):=Lib.hid (fun b hb=>by
  have e1:=(y9.1.lt_ b hb).1
  have e2:=HKD.out.lt
  omega)
 refine hK13.out _ _ (HKE.out.cell 0) ?_
 clear hK13 K13 y9
 try simp only [Act.put,zI,zO,zS]
 refine hd_done (by kernel_rfl) ?_
 simp only [List.drop_succ_cons,List.drop_zero]
 have r0:wd.cell? ⟨cB,0,none⟩=some (.slice none 0 0):=HKE.out.cell 0
 have r1:wd.frozen? ⟨cB,0,none⟩=false:=HKE.out.frozen 0
 obtain⟨we,hwe⟩:∃ x,wd.setCell ⟨cB,0,none⟩ (.slice p8 1 q8)=x:=⟨_,rfl⟩
 have HWE:=Lib.hid hwe
 have HKF:Hid (Blk cB 48 #[.slice p8 1 q8] we):=Lib.hid (by rw [←hwe];exact HKE.out.put 0 _)
 have HPF:Hid (PrB we g s ⟨#[]⟩ tq5 s.size):=Lib.hid (by rw [←hwe];exact Blk.far HPE.out (p:=⟨cB,0,none⟩) (by show g≠cB;have:=HGL.out;omega) _)
 have HRF:Hid (Rd 2 encP we (.slice pa 1 pn) [((n:Int),(n:Int))]):=Lib.hid (by rw [←hwe];exact HRE.out.but (But.setCell cB wd 0 _) (fun b hb=>HVB.out b hb))
 have HRG:Hid (Rd 4 encR we (.slice p8 1 q8) [(⟨op,md,false,pa,1,pn⟩:RawR)]):=Lib.hid (by rw [←hwe];exact HRD9.out.but (But.setCell cB wd 0 _) (fun b hb=>HOB.out b hb))
 have HBF:Hid (Below w.heap.size w we):=Lib.hid (by
  have e1:=HUE.out.below (B:=w.heap.size) (by rw [HG.out];exact Nat.le_refl _) HB1.out.size
  have e2:=HB1.out.trans e1
  rw [←hwe]
  exact e2.setCell (p:=⟨cB,0,none⟩) (by show w.heap.size≤cB;have:=HGL.out;have:=HG.out;omega) _)
 have HIS:=Lib.hid (is_any g s ⟨#[]⟩ ⟨#[]⟩ tq5 s.size true (beq_self_eq_true _) we HPF.out)
 have HRC:Hid (RdC we (.slice (some ⟨cB,0,none⟩) 1 1) [[⟨op,md,false,[((n:Int),(n:Int))]⟩]]):=Lib.hid (by
  refine⟨[⟨p8,1,q8⟩],⟨⟨_,1,rfl,Nat.le_refl _,by omega,fun _=>⟨cB,0,rfl,HKF.out.lt,fun i u hi j v hv=>?_⟩⟩,fun n c hc=>by cases hc⟩,rfl,fun i h1 h2=>?_⟩
  ·have hi0:i=0:=by have:=(List.getElem?_eq_some_iff.1 hi).1;simp at this;exact this
   subst hi0
   have hu:u=⟨p8,1,q8⟩:=by simp at hi;exact hi.symm
   subst hu
   have hj:j=0:=by have:=(List.getElem?_eq_some_iff.1 hv).1;simp [encS] at this;exact this
   subst hj
   simp [encS] at hv
   subst hv
   exact HKF.out.cell 0
  ·have hi0:i=0:=by simp at h1;exact h1
   subst hi0
   refine⟨[⟨op,md,false,pa,1,pn⟩],HRG.out,rfl,fun k a b=>?_⟩
   have hk0:k=0:=by simp at a;exact a
   subst hk0
   exact⟨rfl,rfl,rfl,HRF.out⟩)
 clear hwe
 go_upto_region 10 with fail
 rw [HWE.out]
 clear r0 r1
 have q3:we.cell? ⟨g,3,none⟩=some (.int .i64 (s.size:Int)):=Blk.cell HPF.out 3
 go_wp2_with fail
 refine HIS.out.mono ?_
 rintro e wz ⟨rfl,hwz⟩
 obtain rfl:=hwz.symm
 go_wp2
 go_ret3
 exact⟨_,rfl,HRC.out,HBF.out⟩
set_option maxRecDepth 1000000 in
set_option maxHeartbeats 4000000 in
theorem condP_any (s:ByteArray) (c:Cnd) (hP:∀ w,Calls Tryz.prog 34 #[.string s] w fun e w'=>∃ v,e= .returned (.tuple #[v,.int .i64 0,.int .i64 0])∧RdC w' v c∧Below w.heap.size w w') (w:World):
  Calls Tryz.prog 13 #[.string s] w fun e w'=>∃ v,e= .returned v∧RdC w' v c∧Below w.heap.size w w':=by
 have HP:=Lib.hid hP
 clear hP
 go_enter Tryz.func13,Tryz.ntmps13
 go_wp2_with fail
 refine(HP.out _).mono ?_
 rintro e w1 ⟨v,rfl,h1,h2⟩
 have H1:=Lib.hid h1
 have H2:=Lib.hid h2
 clear h1 h2
 go_wp2
 go_ret
 exact⟨_,rfl,H1.out,H2.out⟩
def tA:ByteArray:=⟨#[110,32,37,32,49,48,32,61,32,49]⟩
def tX1:ByteArray:=⟨#[110,32,37,32,49,48,32,61,32,49]⟩
theorem tX1_0 (w:World):Calls Tryz.prog 91 #[.string tX1,.int .i64 ((0:Nat):Int)] w fun e w'=>e= .returned (.tuple #[.agg #[.string (ofL [letS.getD 0 0]),.int .i64 ((0:Nat):Int)],.int .i64 ((1:Nat):Int)])∧Below w.heap.size w w':=
 next_word tX1 0 0 (by decide) ⟨by decide,by decide,fun k h h1 h2=>(by omega),fun h=>by decide+revert⟩ (by decide) (tX1.extract 0 tX1.size) (ofL [letS.getD 0 0]) 1 rfl (by decide) (by decide) (by decide) (by decide) w
theorem tX1_1 (w:World):Calls Tryz.prog 91 #[.string tX1,.int .i64 ((1:Nat):Int)] w fun e w'=>e= .returned (.tuple #[.agg #[.string (ofL [37]),.int .i64 ((2:Nat):Int)],.int .i64 ((3:Nat):Int)])∧Below w.heap.size w w':=
 next_sym tX1 1 2 (by decide) ⟨by decide,by decide,fun k h h1 h2=>(by(have e:k=1:=by omega);subst e;decide+revert),fun h=>by decide+revert⟩ (by decide) (tX1.extract 2 tX1.size) (ofL [37]) (ofL [37,32]) 37 rfl (by decide) (by decide) (by decide) (by rw [toL];decide) (by rw [toL];decide) (fun h=>by decide+revert) (Or.inl rfl) (by decide) w
theorem tX1_2 (w:World):Calls Tryz.prog 91 #[.string tX1,.int .i64 ((3:Nat):Int)] w fun e w'=>e= .returned (.tuple #[.agg #[.string (ofL [49,48]),.int .i64 ((4:Nat):Int)],.int .i64 ((6:Nat):Int)])∧Below w.heap.size w w':=
 next_num tX1 3 4 (by decide) ⟨by decide,by decide,fun k h h1 h2=>(by(have e:k=3:=by omega);subst e;decide+revert),fun h=>by decide+revert⟩ (by decide) (tX1.extract 4 tX1.size) (ofL [49,48]) 2 rfl (by decide) (by decide) (by decide) (by decide) (by decide) w
theorem tX1_3 (w:World):Calls Tryz.prog 91 #[.string tX1,.int .i64 ((6:Nat):Int)] w fun e w'=>e= .returned (.tuple #[.agg #[.string (ofL [61]),.int .i64 ((7:Nat):Int)],.int .i64 ((8:Nat):Int)])∧Below w.heap.size w w':=
 next_sym tX1 6 7 (by decide) ⟨by decide,by decide,fun k h h1 h2=>(by(have e:k=6:=by omega);subst e;decide+revert),fun h=>by decide+revert⟩ (by decide) (tX1.extract 7 tX1.size) (ofL [61]) (ofL [61,32]) 61 rfl (by decide) (by decide) (by decide) (by rw [toL];decide) (by rw [toL];decide) (fun h=>by decide+revert) (Or.inr rfl) (by decide) w
theorem tX1_4 (w:World):Calls Tryz.prog 91 #[.string tX1,.int .i64 ((8:Nat):Int)] w fun e w'=>e= .returned (.tuple #[.agg #[.string (ofL [49]),.int .i64 ((9:Nat):Int)],.int .i64 ((10:Nat):Int)])∧Below w.heap.size w w':=
 next_num tX1 8 9 (by decide) ⟨by decide,by decide,fun k h h1 h2=>(by(have e:k=8:=by omega);subst e;decide+revert),fun h=>by decide+revert⟩ (by decide) (tX1.extract 9 tX1.size) (ofL [49]) 1 rfl (by decide) (by decide) (by decide) (by decide) (by decide) w
theorem tX1_5 (w:World):Calls Tryz.prog 91 #[.string tX1,.int .i64 ((10:Nat):Int)] w fun e w'=>e= .returned (.tuple #[.agg #[.string (⟨#[]⟩),.int .i64 ((10:Nat):Int)],.int .i64 ((10:Nat):Int)])∧Below w.heap.size w w':=
 next_end tX1 10 10 (by decide) ⟨by decide,by decide,fun k h h1 h2=>(by omega),fun h=>by decide+revert⟩ rfl w
def tX2:ByteArray:=⟨#[110,32,37,32,49,48,48,32,61,32,49,49]⟩
theorem tX2_0 (w:World):Calls Tryz.prog 91 #[.string tX2,.int .i64 ((0:Nat):Int)] w fun e w'=>e= .returned (.tuple #[.agg #[.string (ofL [letS.getD 0 0]),.int .i64 ((0:Nat):Int)],.int .i64 ((1:Nat):Int)])∧Below w.heap.size w w':=
 next_word tX2 0 0 (by decide) ⟨by decide,by decide,fun k h h1 h2=>(by omega),fun h=>by decide+revert⟩ (by decide) (tX2.extract 0 tX2.size) (ofL [letS.getD 0 0]) 1 rfl (by decide) (by decide) (by decide) (by decide) w
theorem tX2_1 (w:World):Calls Tryz.prog 91 #[.string tX2,.int .i64 ((1:Nat):Int)] w fun e w'=>e= .returned (.tuple #[.agg #[.string (ofL [37]),.int .i64 ((2:Nat):Int)],.int .i64 ((3:Nat):Int)])∧Below w.heap.size w w':=
 next_sym tX2 1 2 (by decide) ⟨by decide,by decide,fun k h h1 h2=>(by(have e:k=1:=by omega);subst e;decide+revert),fun h=>by decide+revert⟩ (by decide) (tX2.extract 2 tX2.size) (ofL [37]) (ofL [37,32]) 37 rfl (by decide) (by decide) (by decide) (by rw [toL];decide) (by rw [toL];decide) (fun h=>by decide+revert) (Or.inl rfl) (by decide) w
theorem tX2_2 (w:World):Calls Tryz.prog 91 #[.string tX2,.int .i64 ((3:Nat):Int)] w fun e w'=>e= .returned (.tuple #[.agg #[.string (ofL [49,48,48]),.int .i64 ((4:Nat):Int)],.int .i64 ((7:Nat):Int)])∧Below w.heap.size w w':=
 next_num tX2 3 4 (by decide) ⟨by decide,by decide,fun k h h1 h2=>(by(have e:k=3:=by omega);subst e;decide+revert),fun h=>by decide+revert⟩ (by decide) (tX2.extract 4 tX2.size) (ofL [49,48,48]) 3 rfl (by decide) (by decide) (by decide) (by decide) (by decide) w
theorem tX2_3 (w:World):Calls Tryz.prog 91 #[.string tX2,.int .i64 ((7:Nat):Int)] w fun e w'=>e= .returned (.tuple #[.agg #[.string (ofL [61]),.int .i64 ((8:Nat):Int)],.int .i64 ((9:Nat):Int)])∧Below w.heap.size w w':=
 next_sym tX2 7 8 (by decide) ⟨by decide,by decide,fun k h h1 h2=>(by(have e:k=7:=by omega);subst e;decide+revert),fun h=>by decide+revert⟩ (by decide) (tX2.extract 8 tX2.size) (ofL [61]) (ofL [61,32]) 61 rfl (by decide) (by decide) (by decide) (by rw [toL];decide) (by rw [toL];decide) (fun h=>by decide+revert) (Or.inr rfl) (by decide) w
theorem tX2_4 (w:World):Calls Tryz.prog 91 #[.string tX2,.int .i64 ((9:Nat):Int)] w fun e w'=>e= .returned (.tuple #[.agg #[.string (ofL [49,49]),.int .i64 ((10:Nat):Int)],.int .i64 ((12:Nat):Int)])∧Below w.heap.size w w':=
 next_num tX2 9 10 (by decide) ⟨by decide,by decide,fun k h h1 h2=>(by(have e:k=9:=by omega);subst e;decide+revert),fun h=>by decide+revert⟩ (by decide) (tX2.extract 10 tX2.size) (ofL [49,49]) 2 rfl (by decide) (by decide) (by decide) (by decide) (by decide) w
theorem tX2_5 (w:World):Calls Tryz.prog 91 #[.string tX2,.int .i64 ((12:Nat):Int)] w fun e w'=>e= .returned (.tuple #[.agg #[.string (⟨#[]⟩),.int .i64 ((12:Nat):Int)],.int .i64 ((12:Nat):Int)])∧Below w.heap.size w w':=
 next_end tX2 12 12 (by decide) ⟨by decide,by decide,fun k h h1 h2=>(by omega),fun h=>by decide+revert⟩ rfl w
theorem tX1_c (w:World):Calls Tryz.prog 13 #[.string tX1] w fun e w'=>∃ v,e= .returned v∧RdC w' v [[⟨1,10,false,[(1,1)]⟩]]∧Below w.heap.size w w':=
 condP_any tX1 _ (fun w=>parse1_any tX1 (ofL [letS.getD 0 0]) (by decide) 0 1 10 1 10 1 tX1_0 (fun g w h=>
  relM_any g tX1 1 0 0 (by omega) (ofL [37]) 3 2 (by simp only [toL];decide) tX1_1 (ofL [49,48]) (ofL [61]) (ofL [49]) ⟨#[]⟩ 6 4 8 7 10 9 10 10 10 1
   (by rw [ofL_list];show ∀ c∈_,isD c=true;decide) (by decide) (by decide) (fun h=> .inl (by decide+revert)) (by rw [ofL_list];simp [val_cons,val_nil,dg]) (by decide)
   (by simp only [toL];decide) (by simp only [toL];decide) (by rw [ofL_list];show ∀ c∈_,isD c=true;decide) (by decide) (by decide) (fun h=> .inr rfl) (by rw [ofL_list];simp [val_cons,val_nil,dg]) (by decide) (by rw [toL,ByteArray.toList_eq];decide) (by rw [toL,ByteArray.toList_eq];decide) tX1_2 tX1_3 tX1_4 tX1_5 w h) w) w
theorem tX2_c (w:World):Calls Tryz.prog 13 #[.string tX2] w fun e w'=>∃ v,e= .returned v∧RdC w' v [[⟨1,100,false,[(11,11)]⟩]]∧Below w.heap.size w w':=
 condP_any tX2 _ (fun w=>parse1_any tX2 (ofL [letS.getD 0 0]) (by decide) 0 1 12 1 100 11 tX2_0 (fun g w h=>
  relM_any g tX2 1 0 0 (by omega) (ofL [37]) 3 2 (by simp only [toL];decide) tX2_1 (ofL [49,48,48]) (ofL [61]) (ofL [49,49]) ⟨#[]⟩ 7 4 9 8 12 10 12 12 100 11
   (by rw [ofL_list];show ∀ c∈_,isD c=true;decide) (by decide) (by decide) (fun h=> .inl (by decide+revert)) (by rw [ofL_list];simp [val_cons,val_nil,dg]) (by decide)
   (by simp only [toL];decide) (by simp only [toL];decide) (by rw [ofL_list];show ∀ c∈_,isD c=true;decide) (by decide) (by decide) (fun h=> .inl (by decide+revert)) (by rw [ofL_list];simp [val_cons,val_nil,dg]) (by decide) (by rw [toL,ByteArray.toList_eq];decide) (by rw [toL,ByteArray.toList_eq];decide) tX2_2 tX2_3 tX2_4 tX2_5 w h) w) w
end Go.Proofs.YtobapaodpcheiaaGreatDoor
