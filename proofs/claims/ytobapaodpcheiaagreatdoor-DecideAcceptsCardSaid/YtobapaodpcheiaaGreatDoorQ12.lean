/- What the row stands on, part 12. -/
import Derived.Test.YtobapaodpcheiaaGreatDoorQ11
namespace Go.Proofs.YtobapaodpcheiaaGreatDoor
open Go.RowKit
set_option linter.unusedVariables false
set_option maxRecDepth 1000000 in
set_option maxHeartbeats 16000000 in
theorem nextW_any (g:Nat) (l:List Rel) (ls:List (List Nat)) (p q s:Nat × Nat) (hl:∀ r∈l,OkR r) (h6:l.length≤60) (hp:ScOk p) (hq:ScOk q) (hs:ScOk s) (x:Rg) (hx:RgOk x) (d:Nat) (hd:d<10) (w:World) (hP:RelP w g l ls p q s):
  Calls Tryz.prog 72 #[.pointer (some ⟨g,0,none⟩),.agg (encRg x).toArray,.int .i64 d] w fun e w'=>e= .returned (.agg (encRg (nxW l p x d)).toArray)∧Below w.heap.size w w':=by
 obtain⟨xp,xh,xc,xt,xi⟩:=x
 obtain⟨hxh,hxc,hxt⟩:=hx
 dsimp only at hxh hxc hxt
 obtain⟨ga,gc,gb,gd,hB,_,_⟩:=hP.blk
 have HP:=Lib.hid hP
 have HL:=Lib.hid hl
 have HBR:=Lib.hid hB
 have KA:=(Below.refl w.heap.size w).alloc (Nat.le_refl _) (.cells #[.int .i64 xp,.int .u64 xh,.int .i64 xc,.int .i64 xt,.bool xi] 96)
 have KB:=KA.alloc KA.size (.cells #[.int .i64 0,.int .u64 0,.int .i64 0,.int .i64 0,.bool false] 96)
 have k4:=(Blk.new w 96 #[.int .i64 xp,.int .u64 xh,.int .i64 xc,.int .i64 xt,.bool xi]).alloc (.cells #[.int .i64 0,.int .u64 0,.int .i64 0,.int .i64 0,.bool false] 96)
 have k6:=Blk.new (w.alloc (.cells #[.int .i64 xp,.int .u64 xh,.int .i64 xc,.int .i64 xt,.bool xi] 96)) 96 #[.int .i64 0,.int .u64 0,.int .i64 0,.int .i64 0,.bool false]
 rw [World.size_alloc] at k6
 obtain⟨W,hW⟩:∃ W,(w.alloc (.cells #[.int .i64 xp,.int .u64 xh,.int .i64 xc,.int .i64 xt,.bool xi] 96)).alloc (.cells #[.int .i64 0,.int .u64 0,.int .i64 0,.int .i64 0,.bool false] 96)=W:=⟨_,rfl⟩
 rw [hW] at KB k4 k6
 obtain⟨G,hG⟩:∃ G,w.heap.size=G:=⟨_,rfl⟩
 rw [hG] at k4 k6
 have HGL:Hid (w.heap.size≤G):=Lib.hid (by rw [hG];exact Nat.le_refl _)
 have HWE:=Lib.hid hW
 have KX0:=Lib.hid KB
 have K40:=Lib.hid k4
 have K60:=Lib.hid k6
 have HHX:=Lib.hid hxh
 obtain⟨N,hN⟩:∃ N,xt+d=N:=⟨_,rfl⟩
 have eN:(xt:Int)+(d:Int)=(N:Int):=by omega
 have hN2:N≤2000:=by omega
 have HN:=Lib.hid hN
 obtain⟨M,hM⟩:∃ M,10*N=M:=⟨_,rfl⟩
 have eM:(10:Int)*(N:Int)=(M:Int):=by omega
 have hM2:M≤20000:=by omega
 have HM:=Lib.hid hM
 have i3:W.cell? ⟨G,3,none⟩=some (.int .i64 xt):=k4.cell 3
 clear hP hl KA KB k4 k6 hW hN hM hB hxh
 change Calls Tryz.prog 72 #[.pointer (some ⟨g,0,none⟩),.agg #[.int .i64 xp,.int .u64 xh,.int .i64 xc,.int .i64 xt,.bool xi],.int .i64 d] w _
 go_enter Tryz.func72,Tryz.ntmps72
 go_upto_region 1 with fail
 rw [HWE.out]
 try rw [hG]
 clear hG
 go_upto_region 2 with fail
 clear i3
 have HU1:=Lib.hid (update_any g l ls p q s HL.out h6 xh HHX.out (1) ((N:Int)) ⟨by omega,by omega⟩ W (HP.out.below KX0.out))
 have HUL1:=Lib.hid (upd_lt (l:=l) (by omega) (1) ((N:Int)) HHX.out)
 obtain⟨H1,hH1⟩:∃ H',upd l (1) ((N:Int)) xh=H':=⟨_,rfl⟩
 have HE1:=Lib.hid hH1
 rw [hH1] at HU1 HUL1
 have cc:=K40.out.cell
 have c1:W.cell? ⟨G,1,none⟩=some (.int .u64 xh):=cc 1
 have c2:W.cell? ⟨G,2,none⟩=some (.int .i64 xc):=cc 2
 clear hH1 cc
 go_wp2_with fail
 refine HU1.out.mono ?_
 rintro e w1 ⟨rfl,b⟩
 have KX1:=Lib.hid (st KX0.out b KX0.out.size)
 have K41:=Lib.hid (K40.out.below b)
 have K61:=Lib.hid (K60.out.below b)
 clear b
 clear c1 c2
 have dc0:w1.cell? ⟨G,1,none⟩=some (.int .u64 xh):=(K41.out).cell 1
 have df0:w1.frozen? ⟨G,1,none⟩=false:=(K41.out).frozen 1
 have kx:=(KX1.out).setCell (p:=⟨G,1,none⟩) HGL.out (.int .u64 H1)
 have k4:=(K41.out).put 1 (.int .u64 H1)
 have k6:=(K61.out).far (p:=⟨G,1,none⟩) (by show G+1≠G;omega) (.int .u64 H1)
 obtain⟨vs2,hv⟩:∃ v,w1.setCell ⟨G,1,none⟩ (.int .u64 H1)=v:=⟨_,rfl⟩
 rw [hv] at kx k4 k6
 have KXs2:=Lib.hid kx
 have K4s2:Hid (Blk G 96 #[.int .i64 xp,.int .u64 H1,.int .i64 xc,.int .i64 xt,.bool xi] vs2):=Lib.hid k4
 have K6s2:=Lib.hid k6
 clear kx k4 k6
 go_upto_region 3 with fail
 try rw [hv]
 clear hv dc0 df0
 have HU3:=Lib.hid (update_any g l ls p q s HL.out h6 H1 HUL1.out (2) ((N:Int)) ⟨by omega,by omega⟩ vs2 (HP.out.below KXs2.out))
 have HUL3:=Lib.hid (upd_lt (l:=l) (by omega) (2) ((N:Int)) HUL1.out)
 obtain⟨H3,hH3⟩:∃ H',upd l (2) ((N:Int)) H1=H':=⟨_,rfl⟩
 have HE3:=Lib.hid hH3
 rw [hH3] at HU3 HUL3
 have cc:=K4s2.out.cell
 have c1:vs2.cell? ⟨G,1,none⟩=some (.int .u64 H1):=cc 1
 have c2:vs2.cell? ⟨G,2,none⟩=some (.int .i64 xc):=cc 2
 clear hH3 cc
 go_wp2_with fail
 refine HU3.out.mono ?_
 rintro e w3 ⟨rfl,b⟩
 have KX3:=Lib.hid (st KXs2.out b KXs2.out.size)
 have K43:=Lib.hid (K4s2.out.below b)
 have K63:=Lib.hid (K6s2.out.below b)
 clear b
 clear c1 c2
 have dc0:w3.cell? ⟨G,1,none⟩=some (.int .u64 H1):=(K43.out).cell 1
 have df0:w3.frozen? ⟨G,1,none⟩=false:=(K43.out).frozen 1
 have kx:=(KX3.out).setCell (p:=⟨G,1,none⟩) HGL.out (.int .u64 H3)
 have k4:=(K43.out).put 1 (.int .u64 H3)
 have k6:=(K63.out).far (p:=⟨G,1,none⟩) (by show G+1≠G;omega) (.int .u64 H3)
 obtain⟨vs4,hv⟩:∃ v,w3.setCell ⟨G,1,none⟩ (.int .u64 H3)=v:=⟨_,rfl⟩
 rw [hv] at kx k4 k6
 have KXs4:=Lib.hid kx
 have K4s4:Hid (Blk G 96 #[.int .i64 xp,.int .u64 H3,.int .i64 xc,.int .i64 xt,.bool xi] vs4):=Lib.hid k4
 have K6s4:=Lib.hid k6
 clear kx k4 k6
 go_upto_region 4 with fail
 try rw [hv]
 clear hv dc0 df0
 have HF:=Lib.hid (firstS_any p ⟨by have:=hp.lo;omega,hp.pos,by have:=hp.hi;omega⟩ M (by omega) vs4)
 obtain⟨R,hR⟩:∃ R,redO p.1 p.2 M=R:=⟨_,rfl⟩
 have HR:=Lib.hid hR
 rw [hR] at HF
 have r2:vs4.cell? ⟨g,2,none⟩=some (.int .i64 p.1):=(HBR.out.belowAt KXs4.out HBR.out.lt).cell 2
 have r3:vs4.cell? ⟨g,3,none⟩=some (.int .i64 p.2):=(HBR.out.belowAt KXs4.out HBR.out.lt).cell 3
 clear hR
 go_wp2_with fail
 refine HF.out.mono ?_
 rintro e w9 ⟨rfl,b⟩
 have KX9:=Lib.hid (st KXs4.out b KXs4.out.size)
 have K49:=Lib.hid (K4s4.out.below b)
 have K69:=Lib.hid (K6s4.out.below b)
 clear b
 clear r2 r3
 have dc0:w9.cell? ⟨G,0,none⟩=some (.int .i64 xp):=(K49.out).cell 0
 have df0:w9.frozen? ⟨G,0,none⟩=false:=(K49.out).frozen 0
 have dc1:(w9.setCell ⟨G,0,none⟩ (.int .i64 1)).cell? ⟨G,3,none⟩=some (.int .i64 xt):=((K49.out).put 0 (.int .i64 1)).cell 3
 have df1:(w9.setCell ⟨G,0,none⟩ (.int .i64 1)).frozen? ⟨G,3,none⟩=false:=((K49.out).put 0 (.int .i64 1)).frozen 3
 have kx:=((KX9.out).setCell (p:=⟨G,0,none⟩) HGL.out (.int .i64 1)).setCell (p:=⟨G,3,none⟩) HGL.out (.int .i64 R)
 have k4:=((K49.out).put 0 (.int .i64 1)).put 3 (.int .i64 R)
 have k6:=((K69.out).far (p:=⟨G,0,none⟩) (by show G+1≠G;omega) (.int .i64 1)).far (p:=⟨G,3,none⟩) (by show G+1≠G;omega) (.int .i64 R)
 obtain⟨vs5,hv⟩:∃ v,(w9.setCell ⟨G,0,none⟩ (.int .i64 1)).setCell ⟨G,3,none⟩ (.int .i64 R)=v:=⟨_,rfl⟩
 rw [hv] at kx k4 k6
 have KXs5:=Lib.hid kx
 have K4s5:Hid (Blk G 96 #[.int .i64 1,.int .u64 H3,.int .i64 xc,.int .i64 R,.bool xi] vs5):=Lib.hid k4
 have K6s5:=Lib.hid k6
 clear kx k4 k6
 go_upto_region 5 with fail
 try rw [hv]
 clear hv dc0 df0 dc1 df1
 have s0:vs5.cell? ⟨G,0,none⟩=some (.int .i64 1):=K4s5.out.cell 0
 have s1:vs5.cell? ⟨G,1,none⟩=some (.int .u64 H3):=K4s5.out.cell 1
 have s2:vs5.cell? ⟨G,2,none⟩=some (.int .i64 xc):=K4s5.out.cell 2
 have s3:vs5.cell? ⟨G,3,none⟩=some (.int .i64 R):=K4s5.out.cell 3
 have s4:vs5.cell? ⟨G,4,none⟩=some (.bool xi):=K4s5.out.cell 4
 have z00:vs5.cell? ⟨G+1,0,none⟩=some (.int .i64 0):=(K6s5.out).cell 0
 have zf00:vs5.frozen? ⟨G+1,0,none⟩=false:=(K6s5.out).frozen 0
 have z01:vs5.cell? ⟨G+1,1,none⟩=some (.int .u64 0):=(K6s5.out).cell 1
 have zf01:vs5.frozen? ⟨G+1,1,none⟩=false:=(K6s5.out).frozen 1
 have z02:vs5.cell? ⟨G+1,2,none⟩=some (.int .i64 0):=(K6s5.out).cell 2
 have zf02:vs5.frozen? ⟨G+1,2,none⟩=false:=(K6s5.out).frozen 2
 have z03:vs5.cell? ⟨G+1,3,none⟩=some (.int .i64 0):=(K6s5.out).cell 3
 have zf03:vs5.frozen? ⟨G+1,3,none⟩=false:=(K6s5.out).frozen 3
 have z04:vs5.cell? ⟨G+1,4,none⟩=some (.bool false):=(K6s5.out).cell 4
 have zf04:vs5.frozen? ⟨G+1,4,none⟩=false:=(K6s5.out).frozen 4
 have z11:(vs5.setCell ⟨G+1,0,none⟩ (.int .i64 1)).cell? ⟨G+1,1,none⟩=some (.int .u64 0):=((K6s5.out).put 0 (.int .i64 1)).cell 1
 have zf11:(vs5.setCell ⟨G+1,0,none⟩ (.int .i64 1)).frozen? ⟨G+1,1,none⟩=false:=((K6s5.out).put 0 (.int .i64 1)).frozen 1
 have z22:((vs5.setCell ⟨G+1,0,none⟩ (.int .i64 1)).setCell ⟨G+1,1,none⟩ (.int .u64 H3)).cell? ⟨G+1,2,none⟩=some (.int .i64 0):=(((K6s5.out).put 0 (.int .i64 1)).put 1 (.int .u64 H3)).cell 2
 have zf22:((vs5.setCell ⟨G+1,0,none⟩ (.int .i64 1)).setCell ⟨G+1,1,none⟩ (.int .u64 H3)).frozen? ⟨G+1,2,none⟩=false:=(((K6s5.out).put 0 (.int .i64 1)).put 1 (.int .u64 H3)).frozen 2
 have z33:(((vs5.setCell ⟨G+1,0,none⟩ (.int .i64 1)).setCell ⟨G+1,1,none⟩ (.int .u64 H3)).setCell ⟨G+1,2,none⟩ (.int .i64 xc)).cell? ⟨G+1,3,none⟩=some (.int .i64 0):=((((K6s5.out).put 0 (.int .i64 1)).put 1 (.int .u64 H3)).put 2 (.int .i64 xc)).cell 3
 have zf33:(((vs5.setCell ⟨G+1,0,none⟩ (.int .i64 1)).setCell ⟨G+1,1,none⟩ (.int .u64 H3)).setCell ⟨G+1,2,none⟩ (.int .i64 xc)).frozen? ⟨G+1,3,none⟩=false:=((((K6s5.out).put 0 (.int .i64 1)).put 1 (.int .u64 H3)).put 2 (.int .i64 xc)).frozen 3
 have z44:((((vs5.setCell ⟨G+1,0,none⟩ (.int .i64 1)).setCell ⟨G+1,1,none⟩ (.int .u64 H3)).setCell ⟨G+1,2,none⟩ (.int .i64 xc)).setCell ⟨G+1,3,none⟩ (.int .i64 R)).cell? ⟨G+1,4,none⟩=some (.bool false):=(((((K6s5.out).put 0 (.int .i64 1)).put 1 (.int .u64 H3)).put 2 (.int .i64 xc)).put 3 (.int .i64 R)).cell 4
 have zf44:((((vs5.setCell ⟨G+1,0,none⟩ (.int .i64 1)).setCell ⟨G+1,1,none⟩ (.int .u64 H3)).setCell ⟨G+1,2,none⟩ (.int .i64 xc)).setCell ⟨G+1,3,none⟩ (.int .i64 R)).frozen? ⟨G+1,4,none⟩=false:=(((((K6s5.out).put 0 (.int .i64 1)).put 1 (.int .u64 H3)).put 2 (.int .i64 xc)).put 3 (.int .i64 R)).frozen 4
 have HFIN:Hid (Blk (G+1) 96 #[.int .i64 1,.int .u64 H3,.int .i64 xc,.int .i64 R,.bool xi] (put5 vs5 (G+1) (.int .i64 1) (.int .u64 H3) (.int .i64 xc) (.int .i64 R) (.bool xi))∧Below w.heap.size w (put5 vs5 (G+1) (.int .i64 1) (.int .u64 H3) (.int .i64 xc) (.int .i64 R) (.bool xi))):=Lib.hid (put5_ok K6s5.out KXs5.out (by have:=HGL.out;omega))
 have HV:Hid (nxW l p ⟨xp,xh,xc,xt,xi⟩ d=⟨1,H3,xc,R,xi⟩):=Lib.hid (by unfold nxW;dsimp only;rw [HN.out,HM.out,HE1.out,HE3.out,HR.out])
 go_wp2
 exact bodyPost_ret (v:= .agg #[.int .i64 1,.int .u64 H3,.int .i64 xc,.int .i64 R,.bool xi]) (resRgW rfl HFIN.out.1) rfl ⟨by rw [HV.out];rfl,HFIN.out.2⟩
set_option maxRecDepth 1000000 in
set_option maxHeartbeats 16000000 in
theorem nextF_any (g:Nat) (l:List Rel) (ls:List (List Nat)) (p q s:Nat × Nat) (hl:∀ r∈l,OkR r) (h6:l.length≤60) (hp:ScOk p) (hq:ScOk q) (hs:ScOk s) (x:Rg) (hx:RgOk x) (d:Nat) (hd:d<10) (w:World) (hP:RelP w g l ls p q s):
  Calls Tryz.prog 73 #[.pointer (some ⟨g,0,none⟩),.agg (encRg x).toArray,.int .i64 d] w fun e w'=>e= .returned (.agg (encRg (nxF l q s x d)).toArray)∧Below w.heap.size w w':=by
 obtain⟨xp,xh,xc,xt,xi⟩:=x
 obtain⟨hxh,hxc,hxt⟩:=hx
 dsimp only at hxh hxc hxt
 obtain⟨ga,gc,gb,gd,hB,_,_⟩:=hP.blk
 have HP:=Lib.hid hP
 have HL:=Lib.hid hl
 have HBR:=Lib.hid hB
 have KA:=(Below.refl w.heap.size w).alloc (Nat.le_refl _) (.cells #[.int .i64 xp,.int .u64 xh,.int .i64 xc,.int .i64 xt,.bool xi] 96)
 have KB:=KA.alloc KA.size (.cells #[.int .i64 0,.int .u64 0,.int .i64 0,.int .i64 0,.bool false] 96)
 have k4:=(Blk.new w 96 #[.int .i64 xp,.int .u64 xh,.int .i64 xc,.int .i64 xt,.bool xi]).alloc (.cells #[.int .i64 0,.int .u64 0,.int .i64 0,.int .i64 0,.bool false] 96)
 have k6:=Blk.new (w.alloc (.cells #[.int .i64 xp,.int .u64 xh,.int .i64 xc,.int .i64 xt,.bool xi] 96)) 96 #[.int .i64 0,.int .u64 0,.int .i64 0,.int .i64 0,.bool false]
 rw [World.size_alloc] at k6
 obtain⟨W,hW⟩:∃ W,(w.alloc (.cells #[.int .i64 xp,.int .u64 xh,.int .i64 xc,.int .i64 xt,.bool xi] 96)).alloc (.cells #[.int .i64 0,.int .u64 0,.int .i64 0,.int .i64 0,.bool false] 96)=W:=⟨_,rfl⟩
 rw [hW] at KB k4 k6
 obtain⟨G,hG⟩:∃ G,w.heap.size=G:=⟨_,rfl⟩
 rw [hG] at k4 k6
 have HGL:Hid (w.heap.size≤G):=Lib.hid (by rw [hG];exact Nat.le_refl _)
 have HWE:=Lib.hid hW
 have KX0:=Lib.hid KB
 have K40:=Lib.hid k4
 have K60:=Lib.hid k6
 have HHX:=Lib.hid hxh
 obtain⟨N,hN⟩:∃ N,xt+d=N:=⟨_,rfl⟩
 have eN:(xt:Int)+(d:Int)=(N:Int):=by omega
 have hN2:N≤2000:=by omega
 have HN:=Lib.hid hN
 obtain⟨M,hM⟩:∃ M,10*N=M:=⟨_,rfl⟩
 have eM:(10:Int)*(N:Int)=(M:Int):=by omega
 have hM2:M≤20000:=by omega
 have HM:=Lib.hid hM
 have i3:W.cell? ⟨G,3,none⟩=some (.int .i64 xt):=k4.cell 3
 clear hP hl KA KB k4 k6 hW hN hM hB hxh
 change Calls Tryz.prog 73 #[.pointer (some ⟨g,0,none⟩),.agg #[.int .i64 xp,.int .u64 xh,.int .i64 xc,.int .i64 xt,.bool xi],.int .i64 d] w _
 go_enter Tryz.func73,Tryz.ntmps73
 go_upto_region 1 with fail
 rw [HWE.out]
 try rw [hG]
 clear hG
 go_upto_region 2 with fail
 clear i3
 have HF:=Lib.hid (firstS_any s ⟨by have:=hs.lo;omega,hs.pos,by have:=hs.hi;omega⟩ M (by omega) W)
 obtain⟨R,hR⟩:∃ R,redO s.1 s.2 M=R:=⟨_,rfl⟩
 have HR:=Lib.hid hR
 rw [hR] at HF
 have r2:W.cell? ⟨g,6,none⟩=some (.int .i64 s.1):=(HBR.out.belowAt KX0.out HBR.out.lt).cell 6
 have r3:W.cell? ⟨g,7,none⟩=some (.int .i64 s.2):=(HBR.out.belowAt KX0.out HBR.out.lt).cell 7
 clear hR
 go_wp2_with fail
 refine HF.out.mono ?_
 rintro e w9 ⟨rfl,b⟩
 have KX9:=Lib.hid (st KX0.out b KX0.out.size)
 have K49:=Lib.hid (K40.out.below b)
 have K69:=Lib.hid (K60.out.below b)
 clear b
 clear r2 r3
 have dc0:w9.cell? ⟨G,0,none⟩=some (.int .i64 xp):=(K49.out).cell 0
 have df0:w9.frozen? ⟨G,0,none⟩=false:=(K49.out).frozen 0
 have dc1:(w9.setCell ⟨G,0,none⟩ (.int .i64 3)).cell? ⟨G,3,none⟩=some (.int .i64 xt):=((K49.out).put 0 (.int .i64 3)).cell 3
 have df1:(w9.setCell ⟨G,0,none⟩ (.int .i64 3)).frozen? ⟨G,3,none⟩=false:=((K49.out).put 0 (.int .i64 3)).frozen 3
 have kx:=((KX9.out).setCell (p:=⟨G,0,none⟩) HGL.out (.int .i64 3)).setCell (p:=⟨G,3,none⟩) HGL.out (.int .i64 R)
 have k4:=((K49.out).put 0 (.int .i64 3)).put 3 (.int .i64 R)
 have k6:=((K69.out).far (p:=⟨G,0,none⟩) (by show G+1≠G;omega) (.int .i64 3)).far (p:=⟨G,3,none⟩) (by show G+1≠G;omega) (.int .i64 R)
 obtain⟨vs1,hv⟩:∃ v,(w9.setCell ⟨G,0,none⟩ (.int .i64 3)).setCell ⟨G,3,none⟩ (.int .i64 R)=v:=⟨_,rfl⟩
 rw [hv] at kx k4 k6
 have KXs1:=Lib.hid kx
 have K4s1:Hid (Blk G 96 #[.int .i64 3,.int .u64 xh,.int .i64 xc,.int .i64 R,.bool xi] vs1):=Lib.hid k4
 have K6s1:=Lib.hid k6
 clear kx k4 k6
 go_upto_region 3 with fail
 try rw [hv]
 clear hv dc0 df0 dc1 df1
 have HCQ:Hid (redO q.1 q.2 (xc+1)≤400):=Lib.hid (hq.lt (xc+1))
 have HFQ:=Lib.hid (fun wx=>firstS_any q ⟨by have:=hq.lo;omega,hq.pos,by have:=hq.hi;omega⟩ (xc+1) (by omega) wx)
 obtain⟨C,hC⟩:∃ C,redO q.1 q.2 (xc+1)=C:=⟨_,rfl⟩
 have HC:=Lib.hid hC
 rw [hC] at HFQ HCQ
 clear hC
 obtain⟨C1,hC1⟩:∃ C1,xc+1=C1:=⟨_,rfl⟩
 have eC:(xc:Int)+1=(C1:Int):=by omega
 rw [hC1] at HFQ
 clear hC1
 have r2:vs1.cell? ⟨g,4,none⟩=some (.int .i64 q.1):=(HBR.out.belowAt KXs1.out HBR.out.lt).cell 4
 have r3:vs1.cell? ⟨g,5,none⟩=some (.int .i64 q.2):=(HBR.out.belowAt KXs1.out HBR.out.lt).cell 5
 have r4:vs1.cell? ⟨G,2,none⟩=some (.int .i64 xc):=K4s1.out.cell 2
 have hC2:=HCQ.out
 have hS:(fun wx:World=>wx.cell? ⟨g,4,none⟩=some (.int .i64 q.1)∧wx.cell? ⟨g,5,none⟩=some (.int .i64 q.2)∧wx.cell? ⟨G,2,none⟩=some (.int .i64 xc)) vs1.drew:=⟨r2,r3,r4⟩
 refine region_hd 7 (fun wx:World=>wx.cell? ⟨g,4,none⟩=some (.int .i64 q.1)∧wx.cell? ⟨g,5,none⟩=some (.int .i64 q.2)∧wx.cell? ⟨G,2,none⟩=some (.int .i64 xc)) (by kernel_rfl) (by kernel_rfl) ?_
 refine hd_taken 0 (some 21) _ ?hdv0 rfl rfl (by kernel_rfl) (fun _ _ _ h=>h) (Or.inl ⟨by kernel_rfl,?hdy0⟩) hS ?hdr0
 case hdy0=>(intro wx hx;(try dsimp only at hx);go_simp;try with_reducible rfl)
 try simp only [Act.put,zI,zO,zS]
 refine hd_taken 1 (some 22) _ ?hdv1 rfl rfl (by kernel_rfl) (fun _ _ _ h=>h) (Or.inl ⟨by kernel_rfl,?hdy1⟩) hS ?hdr1
 case hdy1=>(intro wx hx;(try dsimp only at hx);go_simp;try with_reducible rfl)
 try simp only [Act.put,zI,zO,zS]
 refine hd_taken 2 (some 23) _ ?hdv2 rfl rfl (by kernel_rfl) (fun _ _ _ h=>h) (Or.inl ⟨by kernel_rfl,?hdy2⟩) hS ?hdr2
 case hdy2=>(intro wx hx;(try dsimp only at hx);go_simp;try with_reducible rfl)
 try simp only [Act.put,zI,zO,zS]
 refine hd_taken 3 (some 24) _ ?hdv3 rfl rfl (by kernel_rfl) (fun _ _ _ h=>h) (Or.inl ⟨by kernel_rfl,?hdy3⟩) hS ?hdr3
 case hdy3=>(intro wx hx;(try dsimp only at hx);go_simp;try with_reducible rfl)
 try simp only [Act.put,zI,zO,zS]
 refine hd_taken 4 (some 25) _ ?hdv4 rfl rfl (by kernel_rfl) (fun _ _ _ h=>h) (Or.inl ⟨by kernel_rfl,?hdy4⟩) hS ?hdr4
 case hdy4=>(intro wx hx;(try dsimp only at hx);go_simp;try with_reducible rfl)
 try simp only [Act.put,zI,zO,zS]
 refine hd_taken 5 (some 26) _ ?hdv5 rfl rfl (by kernel_rfl) (fun _ _ _ h=>h) (Or.inl ⟨by kernel_rfl,?hdy5⟩) hS ?hdr5
 case hdy5=>(intro wx hx;(try dsimp only at hx);go_simp;try with_reducible rfl)
 try simp only [Act.put,zI,zO,zS]
 refine hd_taken 6 (some 27) _ ?hdv6 rfl rfl (by kernel_rfl) (fun _ _ _ h=>h) (Or.inl ⟨by kernel_rfl,?hdy6⟩) hS ?hdr6
 case hdy6=>(intro wx hx;(try dsimp only at hx);go_simp;try with_reducible rfl)
 try simp only [Act.put,zI,zO,zS]
 refine hd_done (by kernel_rfl) ?_
 simp only [List.drop_succ_cons,List.drop_zero]
 clear hS
 go_wp2_with fail
 refine(HFQ.out _).mono ?_
 rintro e w8 ⟨rfl,b⟩
 have KXd:=Lib.hid (KXs1.out.drew)
 have K4d:=Lib.hid (K4s1.out.below ((Below.refl _ vs1).drew))
 have K6d:=Lib.hid (K6s1.out.below ((Below.refl _ vs1).drew))
 clear r2 r3 r4
 have KXe:=Lib.hid (st KXd.out b KXd.out.size)
 have K4e:=Lib.hid (K4d.out.below b)
 have K6e:=Lib.hid (K6d.out.below b)
 clear b
 have dc0:w8.cell? ⟨G,2,none⟩=some (.int .i64 xc):=(K4e.out).cell 2
 have df0:w8.frozen? ⟨G,2,none⟩=false:=(K4e.out).frozen 2
 have kx:=(KXe.out).setCell (p:=⟨G,2,none⟩) HGL.out (.int .i64 C)
 have k4:=(K4e.out).put 2 (.int .i64 C)
 have k6:=(K6e.out).far (p:=⟨G,2,none⟩) (by show G+1≠G;omega) (.int .i64 C)
 obtain⟨vs2,hv⟩:∃ v,w8.setCell ⟨G,2,none⟩ (.int .i64 C)=v:=⟨_,rfl⟩
 rw [hv] at kx k4 k6
 have KXs2:=Lib.hid kx
 have K4s2:Hid (Blk G 96 #[.int .i64 3,.int .u64 xh,.int .i64 C,.int .i64 R,.bool xi] vs2):=Lib.hid k4
 have K6s2:=Lib.hid k6
 clear kx k4 k6
 go_upto_region 4 with fail
 try rw [hv]
 clear hv dc0 df0
 have HU3:=Lib.hid (update_any g l ls p q s HL.out h6 xh HHX.out (3) ((C:Int)) ⟨by omega,by omega⟩ vs2 (HP.out.below KXs2.out))
 have HUL3:=Lib.hid (upd_lt (l:=l) (by omega) (3) ((C:Int)) HHX.out)
 obtain⟨H3,hH3⟩:∃ H',upd l (3) ((C:Int)) xh=H':=⟨_,rfl⟩
 have HE3:=Lib.hid hH3
 rw [hH3] at HU3 HUL3
 have cc:=K4s2.out.cell
 have c1:vs2.cell? ⟨G,1,none⟩=some (.int .u64 xh):=cc 1
 have c2:vs2.cell? ⟨G,2,none⟩=some (.int .i64 C):=cc 2
 clear hH3 cc
 go_wp2_with fail
 refine HU3.out.mono ?_
 rintro e w3 ⟨rfl,b⟩
 have KX3:=Lib.hid (st KXs2.out b KXs2.out.size)
 have K43:=Lib.hid (K4s2.out.below b)
 have K63:=Lib.hid (K6s2.out.below b)
 clear b
 clear c1 c2
 have dc0:w3.cell? ⟨G,1,none⟩=some (.int .u64 xh):=(K43.out).cell 1
 have df0:w3.frozen? ⟨G,1,none⟩=false:=(K43.out).frozen 1
 have kx:=(KX3.out).setCell (p:=⟨G,1,none⟩) HGL.out (.int .u64 H3)
 have k4:=(K43.out).put 1 (.int .u64 H3)
 have k6:=(K63.out).far (p:=⟨G,1,none⟩) (by show G+1≠G;omega) (.int .u64 H3)
 obtain⟨vs4,hv⟩:∃ v,w3.setCell ⟨G,1,none⟩ (.int .u64 H3)=v:=⟨_,rfl⟩
 rw [hv] at kx k4 k6
 have KXs4:=Lib.hid kx
 have K4s4:Hid (Blk G 96 #[.int .i64 3,.int .u64 H3,.int .i64 C,.int .i64 R,.bool xi] vs4):=Lib.hid k4
 have K6s4:=Lib.hid k6
 clear kx k4 k6
 go_upto_region 5 with fail
 try rw [hv]
 clear hv dc0 df0
 have HU5:=Lib.hid (update_any g l ls p q s HL.out h6 H3 HUL3.out (5) ((N:Int)) ⟨by omega,by omega⟩ vs4 (HP.out.below KXs4.out))
 have HUL5:=Lib.hid (upd_lt (l:=l) (by omega) (5) ((N:Int)) HUL3.out)
 obtain⟨H5,hH5⟩:∃ H',upd l (5) ((N:Int)) H3=H':=⟨_,rfl⟩
 have HE5:=Lib.hid hH5
 rw [hH5] at HU5 HUL5
 have cc:=K4s4.out.cell
 have c1:vs4.cell? ⟨G,1,none⟩=some (.int .u64 H3):=cc 1
 have c2:vs4.cell? ⟨G,2,none⟩=some (.int .i64 C):=cc 2
 clear hH5 cc
 go_wp2_with fail
 refine HU5.out.mono ?_
 rintro e w5 ⟨rfl,b⟩
 have KX5:=Lib.hid (st KXs4.out b KXs4.out.size)
 have K45:=Lib.hid (K4s4.out.below b)
 have K65:=Lib.hid (K6s4.out.below b)
 clear b
 clear c1 c2
 have dc0:w5.cell? ⟨G,1,none⟩=some (.int .u64 H3):=(K45.out).cell 1
 have df0:w5.frozen? ⟨G,1,none⟩=false:=(K45.out).frozen 1
 have kx:=(KX5.out).setCell (p:=⟨G,1,none⟩) HGL.out (.int .u64 H5)
 have k4:=(K45.out).put 1 (.int .u64 H5)
 have k6:=(K65.out).far (p:=⟨G,1,none⟩) (by show G+1≠G;omega) (.int .u64 H5)
 obtain⟨vs6,hv⟩:∃ v,w5.setCell ⟨G,1,none⟩ (.int .u64 H5)=v:=⟨_,rfl⟩
 rw [hv] at kx k4 k6
 have KXs6:=Lib.hid kx
 have K4s6:Hid (Blk G 96 #[.int .i64 3,.int .u64 H5,.int .i64 C,.int .i64 R,.bool xi] vs6):=Lib.hid k4
 have K6s6:=Lib.hid k6
 clear kx k4 k6
 go_upto_region 6 with fail
 try rw [hv]
 clear hv dc0 df0
 by_cases hd0:d=0
 ·subst hd0
  have t0:(((0:Nat):Int) != 0)=false:=rfl
  have s0:vs6.cell? ⟨G,0,none⟩=some (.int .i64 3):=K4s6.out.cell 0
  have s1:vs6.cell? ⟨G,1,none⟩=some (.int .u64 H5):=K4s6.out.cell 1
  have s2:vs6.cell? ⟨G,2,none⟩=some (.int .i64 C):=K4s6.out.cell 2
  have s3:vs6.cell? ⟨G,3,none⟩=some (.int .i64 R):=K4s6.out.cell 3
  have s4:vs6.cell? ⟨G,4,none⟩=some (.bool xi):=K4s6.out.cell 4
  have z00:vs6.cell? ⟨G+1,0,none⟩=some (.int .i64 0):=(K6s6.out).cell 0
  have zf00:vs6.frozen? ⟨G+1,0,none⟩=false:=(K6s6.out).frozen 0
  have z01:vs6.cell? ⟨G+1,1,none⟩=some (.int .u64 0):=(K6s6.out).cell 1
  have zf01:vs6.frozen? ⟨G+1,1,none⟩=false:=(K6s6.out).frozen 1
  have z02:vs6.cell? ⟨G+1,2,none⟩=some (.int .i64 0):=(K6s6.out).cell 2
  have zf02:vs6.frozen? ⟨G+1,2,none⟩=false:=(K6s6.out).frozen 2
  have z03:vs6.cell? ⟨G+1,3,none⟩=some (.int .i64 0):=(K6s6.out).cell 3
  have zf03:vs6.frozen? ⟨G+1,3,none⟩=false:=(K6s6.out).frozen 3
  have z04:vs6.cell? ⟨G+1,4,none⟩=some (.bool false):=(K6s6.out).cell 4
  have zf04:vs6.frozen? ⟨G+1,4,none⟩=false:=(K6s6.out).frozen 4
  have z11:(vs6.setCell ⟨G+1,0,none⟩ (.int .i64 3)).cell? ⟨G+1,1,none⟩=some (.int .u64 0):=((K6s6.out).put 0 (.int .i64 3)).cell 1
  have zf11:(vs6.setCell ⟨G+1,0,none⟩ (.int .i64 3)).frozen? ⟨G+1,1,none⟩=false:=((K6s6.out).put 0 (.int .i64 3)).frozen 1
  have z22:((vs6.setCell ⟨G+1,0,none⟩ (.int .i64 3)).setCell ⟨G+1,1,none⟩ (.int .u64 H5)).cell? ⟨G+1,2,none⟩=some (.int .i64 0):=(((K6s6.out).put 0 (.int .i64 3)).put 1 (.int .u64 H5)).cell 2
  have zf22:((vs6.setCell ⟨G+1,0,none⟩ (.int .i64 3)).setCell ⟨G+1,1,none⟩ (.int .u64 H5)).frozen? ⟨G+1,2,none⟩=false:=(((K6s6.out).put 0 (.int .i64 3)).put 1 (.int .u64 H5)).frozen 2
  have z33:(((vs6.setCell ⟨G+1,0,none⟩ (.int .i64 3)).setCell ⟨G+1,1,none⟩ (.int .u64 H5)).setCell ⟨G+1,2,none⟩ (.int .i64 C)).cell? ⟨G+1,3,none⟩=some (.int .i64 0):=((((K6s6.out).put 0 (.int .i64 3)).put 1 (.int .u64 H5)).put 2 (.int .i64 C)).cell 3
  have zf33:(((vs6.setCell ⟨G+1,0,none⟩ (.int .i64 3)).setCell ⟨G+1,1,none⟩ (.int .u64 H5)).setCell ⟨G+1,2,none⟩ (.int .i64 C)).frozen? ⟨G+1,3,none⟩=false:=((((K6s6.out).put 0 (.int .i64 3)).put 1 (.int .u64 H5)).put 2 (.int .i64 C)).frozen 3
  have z44:((((vs6.setCell ⟨G+1,0,none⟩ (.int .i64 3)).setCell ⟨G+1,1,none⟩ (.int .u64 H5)).setCell ⟨G+1,2,none⟩ (.int .i64 C)).setCell ⟨G+1,3,none⟩ (.int .i64 R)).cell? ⟨G+1,4,none⟩=some (.bool false):=(((((K6s6.out).put 0 (.int .i64 3)).put 1 (.int .u64 H5)).put 2 (.int .i64 C)).put 3 (.int .i64 R)).cell 4
  have zf44:((((vs6.setCell ⟨G+1,0,none⟩ (.int .i64 3)).setCell ⟨G+1,1,none⟩ (.int .u64 H5)).setCell ⟨G+1,2,none⟩ (.int .i64 C)).setCell ⟨G+1,3,none⟩ (.int .i64 R)).frozen? ⟨G+1,4,none⟩=false:=(((((K6s6.out).put 0 (.int .i64 3)).put 1 (.int .u64 H5)).put 2 (.int .i64 C)).put 3 (.int .i64 R)).frozen 4
  have HFIN:Hid (Blk (G+1) 96 #[.int .i64 3,.int .u64 H5,.int .i64 C,.int .i64 R,.bool xi] (put5 vs6 (G+1) (.int .i64 3) (.int .u64 H5) (.int .i64 C) (.int .i64 R) (.bool xi))∧Below w.heap.size w (put5 vs6 (G+1) (.int .i64 3) (.int .u64 H5) (.int .i64 C) (.int .i64 R) (.bool xi))):=Lib.hid (put5_ok K6s6.out KXs6.out (by have:=HGL.out;omega))
  have HV:Hid (nxF l q s ⟨xp,xh,xc,xt,xi⟩ 0=⟨3,H5,C,R,xi⟩):=Lib.hid (by unfold nxF nxF0;rw [if_pos rfl];dsimp only;rw [HN.out,HM.out,HC.out,HE3.out,HE5.out,HR.out])
  go_wp2
  exact bodyPost_ret (v:= .agg #[.int .i64 3,.int .u64 H5,.int .i64 C,.int .i64 R,.bool xi]) (resRgF rfl HFIN.out.1) rfl ⟨by rw [HV.out];rfl,HFIN.out.2⟩
 ·have t0:((d:Int) != 0)=true:=by rw [bne_iff_ne];omega
  have HD0:=Lib.hid hd0
  clear hd0
  have c4:vs6.cell? ⟨G,4,none⟩=some (.bool xi):=K4s6.out.cell 4
  have c5:vs6.frozen? ⟨G,4,none⟩=false:=K4s6.out.frozen 4
  have KXq:=KXs6
  have K4q:=K4s6
  have K6q:=K6s6
  have dc0:vs6.cell? ⟨G,4,none⟩=some (.bool xi):=(K4q.out).cell 4
  have df0:vs6.frozen? ⟨G,4,none⟩=false:=(K4q.out).frozen 4
  have kx:=(KXq.out).setCell (p:=⟨G,4,none⟩) HGL.out (.bool false)
  have k4:=(K4q.out).put 4 (.bool false)
  have k6:=(K6q.out).far (p:=⟨G,4,none⟩) (by show G+1≠G;omega) (.bool false)
  obtain⟨vs7,hv⟩:∃ v,vs6.setCell ⟨G,4,none⟩ (.bool false)=v:=⟨_,rfl⟩
  rw [hv] at kx k4 k6
  have KXs7:=Lib.hid kx
  have K4s7:Hid (Blk G 96 #[.int .i64 3,.int .u64 H5,.int .i64 C,.int .i64 R,.bool false] vs7):=Lib.hid k4
  have K6s7:=Lib.hid k6
  clear kx k4 k6
  go_upto_region 8 with fail
  try rw [hv]
  clear hv dc0 df0
  clear c4 c5
  have HU8:=Lib.hid (update_any g l ls p q s HL.out h6 H5 HUL5.out (1) (-1) ⟨by omega,by omega⟩ vs7 (HP.out.below KXs7.out))
  have HUL8:=Lib.hid (upd_lt (l:=l) (by omega) (1) (-1) HUL5.out)
  obtain⟨H8,hH8⟩:∃ H',upd l (1) (-1) H5=H':=⟨_,rfl⟩
  have HE8:=Lib.hid hH8
  rw [hH8] at HU8 HUL8
  have cc:=K4s7.out.cell
  have c1:vs7.cell? ⟨G,1,none⟩=some (.int .u64 H5):=cc 1
  have c2:vs7.cell? ⟨G,2,none⟩=some (.int .i64 C):=cc 2
  clear hH8 cc
  go_wp2_with fail
  refine HU8.out.mono ?_
  rintro e w8 ⟨rfl,b⟩
  have KX8:=Lib.hid (st KXs7.out b KXs7.out.size)
  have K48:=Lib.hid (K4s7.out.below b)
  have K68:=Lib.hid (K6s7.out.below b)
  clear b
  clear c1 c2
  have dc0:w8.cell? ⟨G,1,none⟩=some (.int .u64 H5):=(K48.out).cell 1
  have df0:w8.frozen? ⟨G,1,none⟩=false:=(K48.out).frozen 1
  have kx:=(KX8.out).setCell (p:=⟨G,1,none⟩) HGL.out (.int .u64 H8)
  have k4:=(K48.out).put 1 (.int .u64 H8)
  have k6:=(K68.out).far (p:=⟨G,1,none⟩) (by show G+1≠G;omega) (.int .u64 H8)
  obtain⟨vs9,hv⟩:∃ v,w8.setCell ⟨G,1,none⟩ (.int .u64 H8)=v:=⟨_,rfl⟩
  rw [hv] at kx k4 k6
  have KXs9:=Lib.hid kx
  have K4s9:Hid (Blk G 96 #[.int .i64 3,.int .u64 H8,.int .i64 C,.int .i64 R,.bool false] vs9):=Lib.hid k4
  have K6s9:=Lib.hid k6
  clear kx k4 k6
  go_upto_region 9 with fail
  try rw [hv]
  clear hv dc0 df0
  have HU10:=Lib.hid (update_any g l ls p q s HL.out h6 H8 HUL8.out (4) ((C:Int)) ⟨by omega,by omega⟩ vs9 (HP.out.below KXs9.out))
  have HUL10:=Lib.hid (upd_lt (l:=l) (by omega) (4) ((C:Int)) HUL8.out)
  obtain⟨H10,hH10⟩:∃ H',upd l (4) ((C:Int)) H8=H':=⟨_,rfl⟩
  have HE10:=Lib.hid hH10
  rw [hH10] at HU10 HUL10
  have cc:=K4s9.out.cell
  have c1:vs9.cell? ⟨G,1,none⟩=some (.int .u64 H8):=cc 1
  have c2:vs9.cell? ⟨G,2,none⟩=some (.int .i64 C):=cc 2
  clear hH10 cc
  go_wp2_with fail
  refine HU10.out.mono ?_
  rintro e w10 ⟨rfl,b⟩
  have KX10:=Lib.hid (st KXs9.out b KXs9.out.size)
  have K410:=Lib.hid (K4s9.out.below b)
  have K610:=Lib.hid (K6s9.out.below b)
  clear b
  clear c1 c2
  have dc0:w10.cell? ⟨G,1,none⟩=some (.int .u64 H8):=(K410.out).cell 1
  have df0:w10.frozen? ⟨G,1,none⟩=false:=(K410.out).frozen 1
  have kx:=(KX10.out).setCell (p:=⟨G,1,none⟩) HGL.out (.int .u64 H10)
  have k4:=(K410.out).put 1 (.int .u64 H10)
  have k6:=(K610.out).far (p:=⟨G,1,none⟩) (by show G+1≠G;omega) (.int .u64 H10)
  obtain⟨vs11,hv⟩:∃ v,w10.setCell ⟨G,1,none⟩ (.int .u64 H10)=v:=⟨_,rfl⟩
  rw [hv] at kx k4 k6
  have KXs11:=Lib.hid kx
  have K4s11:Hid (Blk G 96 #[.int .i64 3,.int .u64 H10,.int .i64 C,.int .i64 R,.bool false] vs11):=Lib.hid k4
  have K6s11:=Lib.hid k6
  clear kx k4 k6
  go_upto_region 10 with fail
  try rw [hv]
  clear hv dc0 df0
  have HU12:=Lib.hid (update_any g l ls p q s HL.out h6 H10 HUL10.out (6) ((N:Int)) ⟨by omega,by omega⟩ vs11 (HP.out.below KXs11.out))
  have HUL12:=Lib.hid (upd_lt (l:=l) (by omega) (6) ((N:Int)) HUL10.out)
  obtain⟨H12,hH12⟩:∃ H',upd l (6) ((N:Int)) H10=H':=⟨_,rfl⟩
  have HE12:=Lib.hid hH12
  rw [hH12] at HU12 HUL12
  have cc:=K4s11.out.cell
  have c1:vs11.cell? ⟨G,1,none⟩=some (.int .u64 H10):=cc 1
  have c2:vs11.cell? ⟨G,2,none⟩=some (.int .i64 C):=cc 2
  clear hH12 cc
  go_wp2_with fail
  refine HU12.out.mono ?_
  rintro e w12 ⟨rfl,b⟩
  have KX12:=Lib.hid (st KXs11.out b KXs11.out.size)
  have K412:=Lib.hid (K4s11.out.below b)
  have K612:=Lib.hid (K6s11.out.below b)
  clear b
  clear c1 c2
  have dc0:w12.cell? ⟨G,1,none⟩=some (.int .u64 H10):=(K412.out).cell 1
  have df0:w12.frozen? ⟨G,1,none⟩=false:=(K412.out).frozen 1
  have kx:=(KX12.out).setCell (p:=⟨G,1,none⟩) HGL.out (.int .u64 H12)
  have k4:=(K412.out).put 1 (.int .u64 H12)
  have k6:=(K612.out).far (p:=⟨G,1,none⟩) (by show G+1≠G;omega) (.int .u64 H12)
  obtain⟨vs13,hv⟩:∃ v,w12.setCell ⟨G,1,none⟩ (.int .u64 H12)=v:=⟨_,rfl⟩
  rw [hv] at kx k4 k6
  have KXs13:=Lib.hid kx
  have K4s13:Hid (Blk G 96 #[.int .i64 3,.int .u64 H12,.int .i64 C,.int .i64 R,.bool false] vs13):=Lib.hid k4
  have K6s13:=Lib.hid k6
  clear kx k4 k6
  go_upto_region 11 with fail
  try rw [hv]
  clear hv dc0 df0
  have s0:vs13.cell? ⟨G,0,none⟩=some (.int .i64 3):=K4s13.out.cell 0
  have s1:vs13.cell? ⟨G,1,none⟩=some (.int .u64 H12):=K4s13.out.cell 1
  have s2:vs13.cell? ⟨G,2,none⟩=some (.int .i64 C):=K4s13.out.cell 2
  have s3:vs13.cell? ⟨G,3,none⟩=some (.int .i64 R):=K4s13.out.cell 3
  have s4:vs13.cell? ⟨G,4,none⟩=some (.bool false):=K4s13.out.cell 4
  have z00:vs13.cell? ⟨G+1,0,none⟩=some (.int .i64 0):=(K6s13.out).cell 0
  have zf00:vs13.frozen? ⟨G+1,0,none⟩=false:=(K6s13.out).frozen 0
  have z01:vs13.cell? ⟨G+1,1,none⟩=some (.int .u64 0):=(K6s13.out).cell 1
  have zf01:vs13.frozen? ⟨G+1,1,none⟩=false:=(K6s13.out).frozen 1
  have z02:vs13.cell? ⟨G+1,2,none⟩=some (.int .i64 0):=(K6s13.out).cell 2
  have zf02:vs13.frozen? ⟨G+1,2,none⟩=false:=(K6s13.out).frozen 2
  have z03:vs13.cell? ⟨G+1,3,none⟩=some (.int .i64 0):=(K6s13.out).cell 3
  have zf03:vs13.frozen? ⟨G+1,3,none⟩=false:=(K6s13.out).frozen 3
  have z04:vs13.cell? ⟨G+1,4,none⟩=some (.bool false):=(K6s13.out).cell 4
  have zf04:vs13.frozen? ⟨G+1,4,none⟩=false:=(K6s13.out).frozen 4
  have z11:(vs13.setCell ⟨G+1,0,none⟩ (.int .i64 3)).cell? ⟨G+1,1,none⟩=some (.int .u64 0):=((K6s13.out).put 0 (.int .i64 3)).cell 1
  have zf11:(vs13.setCell ⟨G+1,0,none⟩ (.int .i64 3)).frozen? ⟨G+1,1,none⟩=false:=((K6s13.out).put 0 (.int .i64 3)).frozen 1
  have z22:((vs13.setCell ⟨G+1,0,none⟩ (.int .i64 3)).setCell ⟨G+1,1,none⟩ (.int .u64 H12)).cell? ⟨G+1,2,none⟩=some (.int .i64 0):=(((K6s13.out).put 0 (.int .i64 3)).put 1 (.int .u64 H12)).cell 2
  have zf22:((vs13.setCell ⟨G+1,0,none⟩ (.int .i64 3)).setCell ⟨G+1,1,none⟩ (.int .u64 H12)).frozen? ⟨G+1,2,none⟩=false:=(((K6s13.out).put 0 (.int .i64 3)).put 1 (.int .u64 H12)).frozen 2
  have z33:(((vs13.setCell ⟨G+1,0,none⟩ (.int .i64 3)).setCell ⟨G+1,1,none⟩ (.int .u64 H12)).setCell ⟨G+1,2,none⟩ (.int .i64 C)).cell? ⟨G+1,3,none⟩=some (.int .i64 0):=((((K6s13.out).put 0 (.int .i64 3)).put 1 (.int .u64 H12)).put 2 (.int .i64 C)).cell 3
  have zf33:(((vs13.setCell ⟨G+1,0,none⟩ (.int .i64 3)).setCell ⟨G+1,1,none⟩ (.int .u64 H12)).setCell ⟨G+1,2,none⟩ (.int .i64 C)).frozen? ⟨G+1,3,none⟩=false:=((((K6s13.out).put 0 (.int .i64 3)).put 1 (.int .u64 H12)).put 2 (.int .i64 C)).frozen 3
  have z44:((((vs13.setCell ⟨G+1,0,none⟩ (.int .i64 3)).setCell ⟨G+1,1,none⟩ (.int .u64 H12)).setCell ⟨G+1,2,none⟩ (.int .i64 C)).setCell ⟨G+1,3,none⟩ (.int .i64 R)).cell? ⟨G+1,4,none⟩=some (.bool false):=(((((K6s13.out).put 0 (.int .i64 3)).put 1 (.int .u64 H12)).put 2 (.int .i64 C)).put 3 (.int .i64 R)).cell 4
  have zf44:((((vs13.setCell ⟨G+1,0,none⟩ (.int .i64 3)).setCell ⟨G+1,1,none⟩ (.int .u64 H12)).setCell ⟨G+1,2,none⟩ (.int .i64 C)).setCell ⟨G+1,3,none⟩ (.int .i64 R)).frozen? ⟨G+1,4,none⟩=false:=(((((K6s13.out).put 0 (.int .i64 3)).put 1 (.int .u64 H12)).put 2 (.int .i64 C)).put 3 (.int .i64 R)).frozen 4
  have HFIN:Hid (Blk (G+1) 96 #[.int .i64 3,.int .u64 H12,.int .i64 C,.int .i64 R,.bool false] (put5 vs13 (G+1) (.int .i64 3) (.int .u64 H12) (.int .i64 C) (.int .i64 R) (.bool false))∧Below w.heap.size w (put5 vs13 (G+1) (.int .i64 3) (.int .u64 H12) (.int .i64 C) (.int .i64 R) (.bool false))):=Lib.hid (put5_ok K6s13.out KXs13.out (by have:=HGL.out;omega))
  have HV:Hid (nxF l q s ⟨xp,xh,xc,xt,xi⟩ d=⟨3,H12,C,R,false⟩):=Lib.hid (by unfold nxF nxF0 nxF1;rw [if_neg HD0.out];dsimp only;rw [HN.out,HM.out,HC.out,HE3.out,HE5.out,HE8.out,HE10.out,HE12.out,HR.out])
  go_wp2
  exact bodyPost_ret (v:= .agg #[.int .i64 3,.int .u64 H12,.int .i64 C,.int .i64 R,.bool false]) (resRgF rfl HFIN.out.1) rfl ⟨by rw [HV.out];rfl,HFIN.out.2⟩
set_option maxRecDepth 1000000 in
set_option maxHeartbeats 16000000 in
theorem nextR_any (g:Nat) (l:List Rel) (ls:List (List Nat)) (p q s:Nat × Nat) (hl:∀ r∈l,OkR r) (h6:l.length≤60) (hp:ScOk p) (hq:ScOk q) (hs:ScOk s) (x:Rg) (hx:RgOk x) (d:Nat) (hd:d≤10) (w:World) (hP:RelP w g l ls p q s):
  Calls Tryz.prog 45 #[.pointer (some ⟨g,0,none⟩),.agg (encRg x).toArray,.int .i64 d] w fun e w'=>e= .returned (.agg (encRg (nxR l p q s x d)).toArray)∧Below w.heap.size w w':=by
 have HNW:=Lib.hid (fun hd wx hp'=>nextW_any g l ls p q s hl h6 hp hq hs x hx d hd wx hp')
 have HNF:=Lib.hid (fun hd wx hp'=>nextF_any g l ls p q s hl h6 hp hq hs x hx d hd wx hp')
 obtain⟨xp,xh,xc,xt,xi⟩:=x
 have HP:=Lib.hid hP
 have KA:=(Below.refl w.heap.size w).alloc (Nat.le_refl _) (.cells #[.int .i64 xp,.int .u64 xh,.int .i64 xc,.int .i64 xt,.bool xi] 96)
 have KB:=KA.alloc KA.size (.cells #[.int .i64 0,.int .u64 0,.int .i64 0,.int .i64 0,.bool false] 96)
 have k4:=(Blk.new w 96 #[.int .i64 xp,.int .u64 xh,.int .i64 xc,.int .i64 xt,.bool xi]).alloc (.cells #[.int .i64 0,.int .u64 0,.int .i64 0,.int .i64 0,.bool false] 96)
 have k6:=Blk.new (w.alloc (.cells #[.int .i64 xp,.int .u64 xh,.int .i64 xc,.int .i64 xt,.bool xi] 96)) 96 #[.int .i64 0,.int .u64 0,.int .i64 0,.int .i64 0,.bool false]
 rw [World.size_alloc] at k6
 obtain⟨W,hW⟩:∃ W,(w.alloc (.cells #[.int .i64 xp,.int .u64 xh,.int .i64 xc,.int .i64 xt,.bool xi] 96)).alloc (.cells #[.int .i64 0,.int .u64 0,.int .i64 0,.int .i64 0,.bool false] 96)=W:=⟨_,rfl⟩
 rw [hW] at KB k4 k6
 obtain⟨G,hG⟩:∃ G,w.heap.size=G:=⟨_,rfl⟩
 rw [hG] at k4 k6
 have HGL:Hid (w.heap.size≤G):=Lib.hid (by rw [hG];exact Nat.le_refl _)
 have HWE:=Lib.hid hW
 have KX0:=Lib.hid KB
 have K40:=Lib.hid k4
 have K60:=Lib.hid k6
 have i0:W.cell? ⟨G,0,none⟩=some (.int .i64 xp):=k4.cell 0
 have i1:W.cell? ⟨G,1,none⟩=some (.int .u64 xh):=k4.cell 1
 have i2:W.cell? ⟨G,2,none⟩=some (.int .i64 xc):=k4.cell 2
 have i3:W.cell? ⟨G,3,none⟩=some (.int .i64 xt):=k4.cell 3
 have i4:W.cell? ⟨G,4,none⟩=some (.bool xi):=k4.cell 4
 have j0:W.frozen? ⟨G,0,none⟩=false:=k4.frozen 0
 have j3:W.frozen? ⟨G,3,none⟩=false:=k4.frozen 3
 clear hP KA KB k4 k6 hW hl hp hq hs hx
 change Calls Tryz.prog 45 #[.pointer (some ⟨g,0,none⟩),.agg #[.int .i64 xp,.int .u64 xh,.int .i64 xc,.int .i64 xt,.bool xi],.int .i64 d] w _
 go_enter Tryz.func45,Tryz.ntmps45
 go_upto_region 1 with fail
 rw [HWE.out]
 try rw [hG]
 clear hG
 by_cases h10:d=10
 ·subst h10
  have t0:(((10:Nat):Int)==10)=true:=rfl
  by_cases h1:xp=1
  ·subst h1
   have t1:(((1:Nat):Int)==1)=true:=rfl
   have m3:(W.setCell ⟨G,0,none⟩ (.int .i64 2)).cell? ⟨G,3,none⟩=some (.int .i64 xt):=(K40.out.put 0 _).cell 3
   have n3:(W.setCell ⟨G,0,none⟩ (.int .i64 2)).frozen? ⟨G,3,none⟩=false:=(K40.out.put 0 _).frozen 3
   have k4:=(K40.out.put 0 (.int .i64 2)).put 3 (.int .i64 0)
   have k6:=(K60.out.far (p:=⟨G,0,none⟩) (by show G+1≠G;omega) (.int .i64 2)).far (p:=⟨G,3,none⟩) (by show G+1≠G;omega) (.int .i64 0)
   have kx:=(KX0.out.setCell (p:=⟨G,0,none⟩) HGL.out (.int .i64 2)).setCell (p:=⟨G,3,none⟩) HGL.out (.int .i64 0)
   obtain⟨V,hV⟩:∃ V,(W.setCell ⟨G,0,none⟩ (.int .i64 2)).setCell ⟨G,3,none⟩ (.int .i64 0)=V:=⟨_,rfl⟩
   rw [hV] at k4 k6 kx
   have KX1:=Lib.hid kx
   have K41:Hid (Blk G 96 #[.int .i64 2,.int .u64 xh,.int .i64 xc,.int .i64 0,.bool xi] V):=Lib.hid k4
   have K61:=Lib.hid k6
   clear k4 k6 kx
   go_upto_region 3 with fail
   try rw [hV]
   clear hV m3 n3 i0 i1 i2 i3 i4 j0 j3
   have s0:V.cell? ⟨G,0,none⟩=some (.int .i64 2):=K41.out.cell 0
   have s1:V.cell? ⟨G,1,none⟩=some (.int .u64 xh):=K41.out.cell 1
   have s2:V.cell? ⟨G,2,none⟩=some (.int .i64 xc):=K41.out.cell 2
   have s3:V.cell? ⟨G,3,none⟩=some (.int .i64 0):=K41.out.cell 3
   have s4:V.cell? ⟨G,4,none⟩=some (.bool xi):=K41.out.cell 4
   have z00:V.cell? ⟨G+1,0,none⟩=some (.int .i64 0):=(K61.out).cell 0
   have zf00:V.frozen? ⟨G+1,0,none⟩=false:=(K61.out).frozen 0
   have z01:V.cell? ⟨G+1,1,none⟩=some (.int .u64 0):=(K61.out).cell 1
   have zf01:V.frozen? ⟨G+1,1,none⟩=false:=(K61.out).frozen 1
   have z02:V.cell? ⟨G+1,2,none⟩=some (.int .i64 0):=(K61.out).cell 2
   have zf02:V.frozen? ⟨G+1,2,none⟩=false:=(K61.out).frozen 2
   have z03:V.cell? ⟨G+1,3,none⟩=some (.int .i64 0):=(K61.out).cell 3
   have zf03:V.frozen? ⟨G+1,3,none⟩=false:=(K61.out).frozen 3
   have z04:V.cell? ⟨G+1,4,none⟩=some (.bool false):=(K61.out).cell 4
   have zf04:V.frozen? ⟨G+1,4,none⟩=false:=(K61.out).frozen 4
   have z11:(V.setCell ⟨G+1,0,none⟩ (.int .i64 2)).cell? ⟨G+1,1,none⟩=some (.int .u64 0):=((K61.out).put 0 (.int .i64 2)).cell 1
   have zf11:(V.setCell ⟨G+1,0,none⟩ (.int .i64 2)).frozen? ⟨G+1,1,none⟩=false:=((K61.out).put 0 (.int .i64 2)).frozen 1
   have z22:((V.setCell ⟨G+1,0,none⟩ (.int .i64 2)).setCell ⟨G+1,1,none⟩ (.int .u64 xh)).cell? ⟨G+1,2,none⟩=some (.int .i64 0):=(((K61.out).put 0 (.int .i64 2)).put 1 (.int .u64 xh)).cell 2
   have zf22:((V.setCell ⟨G+1,0,none⟩ (.int .i64 2)).setCell ⟨G+1,1,none⟩ (.int .u64 xh)).frozen? ⟨G+1,2,none⟩=false:=(((K61.out).put 0 (.int .i64 2)).put 1 (.int .u64 xh)).frozen 2
   have z33:(((V.setCell ⟨G+1,0,none⟩ (.int .i64 2)).setCell ⟨G+1,1,none⟩ (.int .u64 xh)).setCell ⟨G+1,2,none⟩ (.int .i64 xc)).cell? ⟨G+1,3,none⟩=some (.int .i64 0):=((((K61.out).put 0 (.int .i64 2)).put 1 (.int .u64 xh)).put 2 (.int .i64 xc)).cell 3
   have zf33:(((V.setCell ⟨G+1,0,none⟩ (.int .i64 2)).setCell ⟨G+1,1,none⟩ (.int .u64 xh)).setCell ⟨G+1,2,none⟩ (.int .i64 xc)).frozen? ⟨G+1,3,none⟩=false:=((((K61.out).put 0 (.int .i64 2)).put 1 (.int .u64 xh)).put 2 (.int .i64 xc)).frozen 3
   have z44:((((V.setCell ⟨G+1,0,none⟩ (.int .i64 2)).setCell ⟨G+1,1,none⟩ (.int .u64 xh)).setCell ⟨G+1,2,none⟩ (.int .i64 xc)).setCell ⟨G+1,3,none⟩ (.int .i64 0)).cell? ⟨G+1,4,none⟩=some (.bool false):=(((((K61.out).put 0 (.int .i64 2)).put 1 (.int .u64 xh)).put 2 (.int .i64 xc)).put 3 (.int .i64 0)).cell 4
   have zf44:((((V.setCell ⟨G+1,0,none⟩ (.int .i64 2)).setCell ⟨G+1,1,none⟩ (.int .u64 xh)).setCell ⟨G+1,2,none⟩ (.int .i64 xc)).setCell ⟨G+1,3,none⟩ (.int .i64 0)).frozen? ⟨G+1,4,none⟩=false:=(((((K61.out).put 0 (.int .i64 2)).put 1 (.int .u64 xh)).put 2 (.int .i64 xc)).put 3 (.int .i64 0)).frozen 4
   have HFIN:Hid (Blk (G+1) 96 #[.int .i64 2,.int .u64 xh,.int .i64 xc,.int .i64 0,.bool xi] (put5 V (G+1) (.int .i64 2) (.int .u64 xh) (.int .i64 xc) (.int .i64 0) (.bool xi))∧Below w.heap.size w (put5 V (G+1) (.int .i64 2) (.int .u64 xh) (.int .i64 xc) (.int .i64 0) (.bool xi))):=Lib.hid (put5_ok K61.out KX1.out (by have:=HGL.out;omega))
   have HV:Hid (nxR l p q s ⟨1,xh,xc,xt,xi⟩ 10=⟨2,xh,xc,0,xi⟩):=Lib.hid (by unfold nxR;rw [if_pos ⟨rfl,rfl⟩])
   go_wp2
   exact bodyPost_ret (v:= .agg #[.int .i64 2,.int .u64 xh,.int .i64 xc,.int .i64 0,.bool xi]) (resRgN rfl HFIN.out.1) rfl ⟨by rw [HV.out];rfl,HFIN.out.2⟩
  ·have t1:((xp:Int)==1)=false:=by rw [beq_eq_false_iff_ne];omega
   have H1:=Lib.hid h1
   have z00:W.cell? ⟨G+1,0,none⟩=some (.int .i64 0):=(K60.out).cell 0
   have zf00:W.frozen? ⟨G+1,0,none⟩=false:=(K60.out).frozen 0
   have z01:W.cell? ⟨G+1,1,none⟩=some (.int .u64 0):=(K60.out).cell 1
   have zf01:W.frozen? ⟨G+1,1,none⟩=false:=(K60.out).frozen 1
   have z02:W.cell? ⟨G+1,2,none⟩=some (.int .i64 0):=(K60.out).cell 2
   have zf02:W.frozen? ⟨G+1,2,none⟩=false:=(K60.out).frozen 2
   have z03:W.cell? ⟨G+1,3,none⟩=some (.int .i64 0):=(K60.out).cell 3
   have zf03:W.frozen? ⟨G+1,3,none⟩=false:=(K60.out).frozen 3
   have z04:W.cell? ⟨G+1,4,none⟩=some (.bool false):=(K60.out).cell 4
   have zf04:W.frozen? ⟨G+1,4,none⟩=false:=(K60.out).frozen 4
   have z11:(W.setCell ⟨G+1,0,none⟩ (.int .i64 4)).cell? ⟨G+1,1,none⟩=some (.int .u64 0):=((K60.out).put 0 (.int .i64 4)).cell 1
   have zf11:(W.setCell ⟨G+1,0,none⟩ (.int .i64 4)).frozen? ⟨G+1,1,none⟩=false:=((K60.out).put 0 (.int .i64 4)).frozen 1
   have z22:((W.setCell ⟨G+1,0,none⟩ (.int .i64 4)).setCell ⟨G+1,1,none⟩ (.int .u64 0)).cell? ⟨G+1,2,none⟩=some (.int .i64 0):=(((K60.out).put 0 (.int .i64 4)).put 1 (.int .u64 0)).cell 2
   have zf22:((W.setCell ⟨G+1,0,none⟩ (.int .i64 4)).setCell ⟨G+1,1,none⟩ (.int .u64 0)).frozen? ⟨G+1,2,none⟩=false:=(((K60.out).put 0 (.int .i64 4)).put 1 (.int .u64 0)).frozen 2
   have z33:(((W.setCell ⟨G+1,0,none⟩ (.int .i64 4)).setCell ⟨G+1,1,none⟩ (.int .u64 0)).setCell ⟨G+1,2,none⟩ (.int .i64 0)).cell? ⟨G+1,3,none⟩=some (.int .i64 0):=((((K60.out).put 0 (.int .i64 4)).put 1 (.int .u64 0)).put 2 (.int .i64 0)).cell 3
   have zf33:(((W.setCell ⟨G+1,0,none⟩ (.int .i64 4)).setCell ⟨G+1,1,none⟩ (.int .u64 0)).setCell ⟨G+1,2,none⟩ (.int .i64 0)).frozen? ⟨G+1,3,none⟩=false:=((((K60.out).put 0 (.int .i64 4)).put 1 (.int .u64 0)).put 2 (.int .i64 0)).frozen 3
   have z44:((((W.setCell ⟨G+1,0,none⟩ (.int .i64 4)).setCell ⟨G+1,1,none⟩ (.int .u64 0)).setCell ⟨G+1,2,none⟩ (.int .i64 0)).setCell ⟨G+1,3,none⟩ (.int .i64 0)).cell? ⟨G+1,4,none⟩=some (.bool false):=(((((K60.out).put 0 (.int .i64 4)).put 1 (.int .u64 0)).put 2 (.int .i64 0)).put 3 (.int .i64 0)).cell 4
   have zf44:((((W.setCell ⟨G+1,0,none⟩ (.int .i64 4)).setCell ⟨G+1,1,none⟩ (.int .u64 0)).setCell ⟨G+1,2,none⟩ (.int .i64 0)).setCell ⟨G+1,3,none⟩ (.int .i64 0)).frozen? ⟨G+1,4,none⟩=false:=(((((K60.out).put 0 (.int .i64 4)).put 1 (.int .u64 0)).put 2 (.int .i64 0)).put 3 (.int .i64 0)).frozen 4
   have HFIN:Hid (Blk (G+1) 96 #[.int .i64 4,.int .u64 0,.int .i64 0,.int .i64 0,.bool false] (put5 W (G+1) (.int .i64 4) (.int .u64 0) (.int .i64 0) (.int .i64 0) (.bool false))∧Below w.heap.size w (put5 W (G+1) (.int .i64 4) (.int .u64 0) (.int .i64 0) (.int .i64 0) (.bool false))):=Lib.hid (put5_ok K60.out KX0.out (by have:=HGL.out;omega))
   have HV:Hid (nxR l p q s ⟨xp,xh,xc,xt,xi⟩ 10=⟨4,0,0,0,false⟩):=Lib.hid (by unfold nxR;rw [if_neg (fun h=>H1.out h.2),if_pos (.inl rfl)])
   clear h1
   go_wp2
   exact bodyPost_ret (v:= .agg #[.int .i64 4,.int .u64 0,.int .i64 0,.int .i64 0,.bool false]) (resRgN rfl HFIN.out.1) rfl ⟨by rw [HV.out];rfl,HFIN.out.2⟩
 ·have t0:((d:Int)==10)=false:=by rw [beq_eq_false_iff_ne];omega
  have H10:=Lib.hid h10
  by_cases h4:xp=4
  ·subst h4
   have t1:(((4:Nat):Int)==4)=true:=rfl
   have HGV:Hid (True):=Lib.hid trivial
   have z00:W.cell? ⟨G+1,0,none⟩=some (.int .i64 0):=(K60.out).cell 0
   have zf00:W.frozen? ⟨G+1,0,none⟩=false:=(K60.out).frozen 0
   have z01:W.cell? ⟨G+1,1,none⟩=some (.int .u64 0):=(K60.out).cell 1
   have zf01:W.frozen? ⟨G+1,1,none⟩=false:=(K60.out).frozen 1
   have z02:W.cell? ⟨G+1,2,none⟩=some (.int .i64 0):=(K60.out).cell 2
   have zf02:W.frozen? ⟨G+1,2,none⟩=false:=(K60.out).frozen 2
   have z03:W.cell? ⟨G+1,3,none⟩=some (.int .i64 0):=(K60.out).cell 3
   have zf03:W.frozen? ⟨G+1,3,none⟩=false:=(K60.out).frozen 3
   have z04:W.cell? ⟨G+1,4,none⟩=some (.bool false):=(K60.out).cell 4
   have zf04:W.frozen? ⟨G+1,4,none⟩=false:=(K60.out).frozen 4
   have z11:(W.setCell ⟨G+1,0,none⟩ (.int .i64 4)).cell? ⟨G+1,1,none⟩=some (.int .u64 0):=((K60.out).put 0 (.int .i64 4)).cell 1
   have zf11:(W.setCell ⟨G+1,0,none⟩ (.int .i64 4)).frozen? ⟨G+1,1,none⟩=false:=((K60.out).put 0 (.int .i64 4)).frozen 1
   have z22:((W.setCell ⟨G+1,0,none⟩ (.int .i64 4)).setCell ⟨G+1,1,none⟩ (.int .u64 0)).cell? ⟨G+1,2,none⟩=some (.int .i64 0):=(((K60.out).put 0 (.int .i64 4)).put 1 (.int .u64 0)).cell 2
   have zf22:((W.setCell ⟨G+1,0,none⟩ (.int .i64 4)).setCell ⟨G+1,1,none⟩ (.int .u64 0)).frozen? ⟨G+1,2,none⟩=false:=(((K60.out).put 0 (.int .i64 4)).put 1 (.int .u64 0)).frozen 2
   have z33:(((W.setCell ⟨G+1,0,none⟩ (.int .i64 4)).setCell ⟨G+1,1,none⟩ (.int .u64 0)).setCell ⟨G+1,2,none⟩ (.int .i64 0)).cell? ⟨G+1,3,none⟩=some (.int .i64 0):=((((K60.out).put 0 (.int .i64 4)).put 1 (.int .u64 0)).put 2 (.int .i64 0)).cell 3
   have zf33:(((W.setCell ⟨G+1,0,none⟩ (.int .i64 4)).setCell ⟨G+1,1,none⟩ (.int .u64 0)).setCell ⟨G+1,2,none⟩ (.int .i64 0)).frozen? ⟨G+1,3,none⟩=false:=((((K60.out).put 0 (.int .i64 4)).put 1 (.int .u64 0)).put 2 (.int .i64 0)).frozen 3
   have z44:((((W.setCell ⟨G+1,0,none⟩ (.int .i64 4)).setCell ⟨G+1,1,none⟩ (.int .u64 0)).setCell ⟨G+1,2,none⟩ (.int .i64 0)).setCell ⟨G+1,3,none⟩ (.int .i64 0)).cell? ⟨G+1,4,none⟩=some (.bool false):=(((((K60.out).put 0 (.int .i64 4)).put 1 (.int .u64 0)).put 2 (.int .i64 0)).put 3 (.int .i64 0)).cell 4
   have zf44:((((W.setCell ⟨G+1,0,none⟩ (.int .i64 4)).setCell ⟨G+1,1,none⟩ (.int .u64 0)).setCell ⟨G+1,2,none⟩ (.int .i64 0)).setCell ⟨G+1,3,none⟩ (.int .i64 0)).frozen? ⟨G+1,4,none⟩=false:=(((((K60.out).put 0 (.int .i64 4)).put 1 (.int .u64 0)).put 2 (.int .i64 0)).put 3 (.int .i64 0)).frozen 4
   have HFIN:Hid (Blk (G+1) 96 #[.int .i64 4,.int .u64 0,.int .i64 0,.int .i64 0,.bool false] (put5 W (G+1) (.int .i64 4) (.int .u64 0) (.int .i64 0) (.int .i64 0) (.bool false))∧Below w.heap.size w (put5 W (G+1) (.int .i64 4) (.int .u64 0) (.int .i64 0) (.int .i64 0) (.bool false))):=Lib.hid (put5_ok K60.out KX0.out (by have:=HGL.out;omega))
   have HV:Hid (nxR l p q s ⟨4,xh,xc,xt,xi⟩ d=⟨4,0,0,0,false⟩):=Lib.hid (by unfold nxR;rw [if_neg (fun h=>H10.out h.1),if_pos (.inr rfl)])
   clear h10
   go_wp2
   exact bodyPost_ret (v:= .agg #[.int .i64 4,.int .u64 0,.int .i64 0,.int .i64 0,.bool false]) (resRgN rfl HFIN.out.1) rfl ⟨by rw [HV.out];rfl,HFIN.out.2⟩
  ·have t1:((xp:Int)==4)=false:=by rw [beq_eq_false_iff_ne];omega
   have H4:=Lib.hid h4
   by_cases h0:xp=0∨xp=1
   ·have HWW:Hid (nxR l p q s ⟨xp,xh,xc,xt,xi⟩ d=nxW l p ⟨xp,xh,xc,xt,xi⟩ d):=Lib.hid (by unfold nxR;rw [if_neg (fun h=>H10.out h.1),if_neg (fun h=>by rcases h with h|h;exact H10.out h;exact H4.out h),if_pos h0])
    have HC:=Lib.hid (HNW.out (by omega) W (HP.out.below KX0.out))
    obtain⟨⟨y1,y2,y3,y4,y5⟩,hy⟩:∃ y,nxW l p ⟨xp,xh,xc,xt,xi⟩ d=y:=⟨_,rfl⟩
    rw [hy] at HWW HC
    clear hy HNW HNF
    rcases h0 with h0|h0
    ·have t2:((xp:Int)==0)=true:=by rw [beq_iff_eq];omega
     clear h0 h4 h10
     go_wp2_with fail
     refine HC.out.mono ?_
     rintro e w9 ⟨rfl,b⟩
     have KX9:=Lib.hid (st KX0.out b KX0.out.size)
     have K69:=Lib.hid (K60.out.below b)
     clear b i0 i1 i2 i3 i4 j0 j3
     try dsimp only [encRg]
     have z00:w9.cell? ⟨G+1,0,none⟩=some (.int .i64 0):=(K69.out).cell 0
     have zf00:w9.frozen? ⟨G+1,0,none⟩=false:=(K69.out).frozen 0
     have z01:w9.cell? ⟨G+1,1,none⟩=some (.int .u64 0):=(K69.out).cell 1
     have zf01:w9.frozen? ⟨G+1,1,none⟩=false:=(K69.out).frozen 1
     have z02:w9.cell? ⟨G+1,2,none⟩=some (.int .i64 0):=(K69.out).cell 2
     have zf02:w9.frozen? ⟨G+1,2,none⟩=false:=(K69.out).frozen 2
     have z03:w9.cell? ⟨G+1,3,none⟩=some (.int .i64 0):=(K69.out).cell 3
     have zf03:w9.frozen? ⟨G+1,3,none⟩=false:=(K69.out).frozen 3
     have z04:w9.cell? ⟨G+1,4,none⟩=some (.bool false):=(K69.out).cell 4
     have zf04:w9.frozen? ⟨G+1,4,none⟩=false:=(K69.out).frozen 4
     have z11:(w9.setCell ⟨G+1,0,none⟩ (.int .i64 y1)).cell? ⟨G+1,1,none⟩=some (.int .u64 0):=((K69.out).put 0 (.int .i64 y1)).cell 1
     have zf11:(w9.setCell ⟨G+1,0,none⟩ (.int .i64 y1)).frozen? ⟨G+1,1,none⟩=false:=((K69.out).put 0 (.int .i64 y1)).frozen 1
     have z22:((w9.setCell ⟨G+1,0,none⟩ (.int .i64 y1)).setCell ⟨G+1,1,none⟩ (.int .u64 y2)).cell? ⟨G+1,2,none⟩=some (.int .i64 0):=(((K69.out).put 0 (.int .i64 y1)).put 1 (.int .u64 y2)).cell 2
     have zf22:((w9.setCell ⟨G+1,0,none⟩ (.int .i64 y1)).setCell ⟨G+1,1,none⟩ (.int .u64 y2)).frozen? ⟨G+1,2,none⟩=false:=(((K69.out).put 0 (.int .i64 y1)).put 1 (.int .u64 y2)).frozen 2
     have z33:(((w9.setCell ⟨G+1,0,none⟩ (.int .i64 y1)).setCell ⟨G+1,1,none⟩ (.int .u64 y2)).setCell ⟨G+1,2,none⟩ (.int .i64 y3)).cell? ⟨G+1,3,none⟩=some (.int .i64 0):=((((K69.out).put 0 (.int .i64 y1)).put 1 (.int .u64 y2)).put 2 (.int .i64 y3)).cell 3
     have zf33:(((w9.setCell ⟨G+1,0,none⟩ (.int .i64 y1)).setCell ⟨G+1,1,none⟩ (.int .u64 y2)).setCell ⟨G+1,2,none⟩ (.int .i64 y3)).frozen? ⟨G+1,3,none⟩=false:=((((K69.out).put 0 (.int .i64 y1)).put 1 (.int .u64 y2)).put 2 (.int .i64 y3)).frozen 3
     have z44:((((w9.setCell ⟨G+1,0,none⟩ (.int .i64 y1)).setCell ⟨G+1,1,none⟩ (.int .u64 y2)).setCell ⟨G+1,2,none⟩ (.int .i64 y3)).setCell ⟨G+1,3,none⟩ (.int .i64 y4)).cell? ⟨G+1,4,none⟩=some (.bool false):=(((((K69.out).put 0 (.int .i64 y1)).put 1 (.int .u64 y2)).put 2 (.int .i64 y3)).put 3 (.int .i64 y4)).cell 4
     have zf44:((((w9.setCell ⟨G+1,0,none⟩ (.int .i64 y1)).setCell ⟨G+1,1,none⟩ (.int .u64 y2)).setCell ⟨G+1,2,none⟩ (.int .i64 y3)).setCell ⟨G+1,3,none⟩ (.int .i64 y4)).frozen? ⟨G+1,4,none⟩=false:=(((((K69.out).put 0 (.int .i64 y1)).put 1 (.int .u64 y2)).put 2 (.int .i64 y3)).put 3 (.int .i64 y4)).frozen 4
     have HFIN:Hid (Blk (G+1) 96 #[.int .i64 y1,.int .u64 y2,.int .i64 y3,.int .i64 y4,.bool y5] (put5 w9 (G+1) (.int .i64 y1) (.int .u64 y2) (.int .i64 y3) (.int .i64 y4) (.bool y5))∧Below w.heap.size w (put5 w9 (G+1) (.int .i64 y1) (.int .u64 y2) (.int .i64 y3) (.int .i64 y4) (.bool y5))):=Lib.hid (put5_ok K69.out KX9.out (by have:=HGL.out;omega))
     have HV:Hid (nxR l p q s ⟨xp,xh,xc,xt,xi⟩ d=⟨y1,y2,y3,y4,y5⟩):=Lib.hid (HWW.out)
     go_wp2
     exact bodyPost_ret (v:= .agg #[.int .i64 y1,.int .u64 y2,.int .i64 y3,.int .i64 y4,.bool y5]) (resRgN rfl HFIN.out.1) rfl ⟨by rw [HV.out];rfl,HFIN.out.2⟩
    ·have t2:((xp:Int)==0)=false:=by rw [beq_eq_false_iff_ne];omega
     have t3:((xp:Int)==1)=true:=by rw [beq_iff_eq];omega
     clear h0 h4 h10
     go_wp2_with fail
     refine HC.out.mono ?_
     rintro e w9 ⟨rfl,b⟩
     have KX9:=Lib.hid (st KX0.out b KX0.out.size)
     have K69:=Lib.hid (K60.out.below b)
     clear b i0 i1 i2 i3 i4 j0 j3
     try dsimp only [encRg]
     have z00:w9.cell? ⟨G+1,0,none⟩=some (.int .i64 0):=(K69.out).cell 0
     have zf00:w9.frozen? ⟨G+1,0,none⟩=false:=(K69.out).frozen 0
     have z01:w9.cell? ⟨G+1,1,none⟩=some (.int .u64 0):=(K69.out).cell 1
     have zf01:w9.frozen? ⟨G+1,1,none⟩=false:=(K69.out).frozen 1
     have z02:w9.cell? ⟨G+1,2,none⟩=some (.int .i64 0):=(K69.out).cell 2
     have zf02:w9.frozen? ⟨G+1,2,none⟩=false:=(K69.out).frozen 2
     have z03:w9.cell? ⟨G+1,3,none⟩=some (.int .i64 0):=(K69.out).cell 3
     have zf03:w9.frozen? ⟨G+1,3,none⟩=false:=(K69.out).frozen 3
     have z04:w9.cell? ⟨G+1,4,none⟩=some (.bool false):=(K69.out).cell 4
     have zf04:w9.frozen? ⟨G+1,4,none⟩=false:=(K69.out).frozen 4
     have z11:(w9.setCell ⟨G+1,0,none⟩ (.int .i64 y1)).cell? ⟨G+1,1,none⟩=some (.int .u64 0):=((K69.out).put 0 (.int .i64 y1)).cell 1
     have zf11:(w9.setCell ⟨G+1,0,none⟩ (.int .i64 y1)).frozen? ⟨G+1,1,none⟩=false:=((K69.out).put 0 (.int .i64 y1)).frozen 1
     have z22:((w9.setCell ⟨G+1,0,none⟩ (.int .i64 y1)).setCell ⟨G+1,1,none⟩ (.int .u64 y2)).cell? ⟨G+1,2,none⟩=some (.int .i64 0):=(((K69.out).put 0 (.int .i64 y1)).put 1 (.int .u64 y2)).cell 2
     have zf22:((w9.setCell ⟨G+1,0,none⟩ (.int .i64 y1)).setCell ⟨G+1,1,none⟩ (.int .u64 y2)).frozen? ⟨G+1,2,none⟩=false:=(((K69.out).put 0 (.int .i64 y1)).put 1 (.int .u64 y2)).frozen 2
     have z33:(((w9.setCell ⟨G+1,0,none⟩ (.int .i64 y1)).setCell ⟨G+1,1,none⟩ (.int .u64 y2)).setCell ⟨G+1,2,none⟩ (.int .i64 y3)).cell? ⟨G+1,3,none⟩=some (.int .i64 0):=((((K69.out).put 0 (.int .i64 y1)).put 1 (.int .u64 y2)).put 2 (.int .i64 y3)).cell 3
     have zf33:(((w9.setCell ⟨G+1,0,none⟩ (.int .i64 y1)).setCell ⟨G+1,1,none⟩ (.int .u64 y2)).setCell ⟨G+1,2,none⟩ (.int .i64 y3)).frozen? ⟨G+1,3,none⟩=false:=((((K69.out).put 0 (.int .i64 y1)).put 1 (.int .u64 y2)).put 2 (.int .i64 y3)).frozen 3
     have z44:((((w9.setCell ⟨G+1,0,none⟩ (.int .i64 y1)).setCell ⟨G+1,1,none⟩ (.int .u64 y2)).setCell ⟨G+1,2,none⟩ (.int .i64 y3)).setCell ⟨G+1,3,none⟩ (.int .i64 y4)).cell? ⟨G+1,4,none⟩=some (.bool false):=(((((K69.out).put 0 (.int .i64 y1)).put 1 (.int .u64 y2)).put 2 (.int .i64 y3)).put 3 (.int .i64 y4)).cell 4
     have zf44:((((w9.setCell ⟨G+1,0,none⟩ (.int .i64 y1)).setCell ⟨G+1,1,none⟩ (.int .u64 y2)).setCell ⟨G+1,2,none⟩ (.int .i64 y3)).setCell ⟨G+1,3,none⟩ (.int .i64 y4)).frozen? ⟨G+1,4,none⟩=false:=(((((K69.out).put 0 (.int .i64 y1)).put 1 (.int .u64 y2)).put 2 (.int .i64 y3)).put 3 (.int .i64 y4)).frozen 4
     have HFIN:Hid (Blk (G+1) 96 #[.int .i64 y1,.int .u64 y2,.int .i64 y3,.int .i64 y4,.bool y5] (put5 w9 (G+1) (.int .i64 y1) (.int .u64 y2) (.int .i64 y3) (.int .i64 y4) (.bool y5))∧Below w.heap.size w (put5 w9 (G+1) (.int .i64 y1) (.int .u64 y2) (.int .i64 y3) (.int .i64 y4) (.bool y5))):=Lib.hid (put5_ok K69.out KX9.out (by have:=HGL.out;omega))
     have HV:Hid (nxR l p q s ⟨xp,xh,xc,xt,xi⟩ d=⟨y1,y2,y3,y4,y5⟩):=Lib.hid (HWW.out)
     go_wp2
     exact bodyPost_ret (v:= .agg #[.int .i64 y1,.int .u64 y2,.int .i64 y3,.int .i64 y4,.bool y5]) (resRgN rfl HFIN.out.1) rfl ⟨by rw [HV.out];rfl,HFIN.out.2⟩
   ·have t2:((xp:Int)==0)=false:=by rw [beq_eq_false_iff_ne];omega
    have t3:((xp:Int)==1)=false:=by rw [beq_eq_false_iff_ne];omega
    have HWW:Hid (nxR l p q s ⟨xp,xh,xc,xt,xi⟩ d=nxF l q s ⟨xp,xh,xc,xt,xi⟩ d):=Lib.hid (by unfold nxR;rw [if_neg (fun h=>H10.out h.1),if_neg (fun h=>by rcases h with h|h;exact H10.out h;exact H4.out h),if_neg h0])
    have HC:=Lib.hid (HNF.out (by omega) W (HP.out.below KX0.out))
    obtain⟨⟨y1,y2,y3,y4,y5⟩,hy⟩:∃ y,nxF l q s ⟨xp,xh,xc,xt,xi⟩ d=y:=⟨_,rfl⟩
    rw [hy] at HWW HC
    clear hy HNW HNF h0 h4 h10
    go_wp2_with fail
    refine HC.out.mono ?_
    rintro e w9 ⟨rfl,b⟩
    have KX9:=Lib.hid (st KX0.out b KX0.out.size)
    have K69:=Lib.hid (K60.out.below b)
    clear b i0 i1 i2 i3 i4 j0 j3
    try dsimp only [encRg]
    have z00:w9.cell? ⟨G+1,0,none⟩=some (.int .i64 0):=(K69.out).cell 0
    have zf00:w9.frozen? ⟨G+1,0,none⟩=false:=(K69.out).frozen 0
    have z01:w9.cell? ⟨G+1,1,none⟩=some (.int .u64 0):=(K69.out).cell 1
    have zf01:w9.frozen? ⟨G+1,1,none⟩=false:=(K69.out).frozen 1
    have z02:w9.cell? ⟨G+1,2,none⟩=some (.int .i64 0):=(K69.out).cell 2
    have zf02:w9.frozen? ⟨G+1,2,none⟩=false:=(K69.out).frozen 2
    have z03:w9.cell? ⟨G+1,3,none⟩=some (.int .i64 0):=(K69.out).cell 3
    have zf03:w9.frozen? ⟨G+1,3,none⟩=false:=(K69.out).frozen 3
    have z04:w9.cell? ⟨G+1,4,none⟩=some (.bool false):=(K69.out).cell 4
    have zf04:w9.frozen? ⟨G+1,4,none⟩=false:=(K69.out).frozen 4
    have z11:(w9.setCell ⟨G+1,0,none⟩ (.int .i64 y1)).cell? ⟨G+1,1,none⟩=some (.int .u64 0):=((K69.out).put 0 (.int .i64 y1)).cell 1
    have zf11:(w9.setCell ⟨G+1,0,none⟩ (.int .i64 y1)).frozen? ⟨G+1,1,none⟩=false:=((K69.out).put 0 (.int .i64 y1)).frozen 1
    have z22:((w9.setCell ⟨G+1,0,none⟩ (.int .i64 y1)).setCell ⟨G+1,1,none⟩ (.int .u64 y2)).cell? ⟨G+1,2,none⟩=some (.int .i64 0):=(((K69.out).put 0 (.int .i64 y1)).put 1 (.int .u64 y2)).cell 2
    have zf22:((w9.setCell ⟨G+1,0,none⟩ (.int .i64 y1)).setCell ⟨G+1,1,none⟩ (.int .u64 y2)).frozen? ⟨G+1,2,none⟩=false:=(((K69.out).put 0 (.int .i64 y1)).put 1 (.int .u64 y2)).frozen 2
    have z33:(((w9.setCell ⟨G+1,0,none⟩ (.int .i64 y1)).setCell ⟨G+1,1,none⟩ (.int .u64 y2)).setCell ⟨G+1,2,none⟩ (.int .i64 y3)).cell? ⟨G+1,3,none⟩=some (.int .i64 0):=((((K69.out).put 0 (.int .i64 y1)).put 1 (.int .u64 y2)).put 2 (.int .i64 y3)).cell 3
    have zf33:(((w9.setCell ⟨G+1,0,none⟩ (.int .i64 y1)).setCell ⟨G+1,1,none⟩ (.int .u64 y2)).setCell ⟨G+1,2,none⟩ (.int .i64 y3)).frozen? ⟨G+1,3,none⟩=false:=((((K69.out).put 0 (.int .i64 y1)).put 1 (.int .u64 y2)).put 2 (.int .i64 y3)).frozen 3
    have z44:((((w9.setCell ⟨G+1,0,none⟩ (.int .i64 y1)).setCell ⟨G+1,1,none⟩ (.int .u64 y2)).setCell ⟨G+1,2,none⟩ (.int .i64 y3)).setCell ⟨G+1,3,none⟩ (.int .i64 y4)).cell? ⟨G+1,4,none⟩=some (.bool false):=(((((K69.out).put 0 (.int .i64 y1)).put 1 (.int .u64 y2)).put 2 (.int .i64 y3)).put 3 (.int .i64 y4)).cell 4
    have zf44:((((w9.setCell ⟨G+1,0,none⟩ (.int .i64 y1)).setCell ⟨G+1,1,none⟩ (.int .u64 y2)).setCell ⟨G+1,2,none⟩ (.int .i64 y3)).setCell ⟨G+1,3,none⟩ (.int .i64 y4)).frozen? ⟨G+1,4,none⟩=false:=(((((K69.out).put 0 (.int .i64 y1)).put 1 (.int .u64 y2)).put 2 (.int .i64 y3)).put 3 (.int .i64 y4)).frozen 4
    have HFIN:Hid (Blk (G+1) 96 #[.int .i64 y1,.int .u64 y2,.int .i64 y3,.int .i64 y4,.bool y5] (put5 w9 (G+1) (.int .i64 y1) (.int .u64 y2) (.int .i64 y3) (.int .i64 y4) (.bool y5))∧Below w.heap.size w (put5 w9 (G+1) (.int .i64 y1) (.int .u64 y2) (.int .i64 y3) (.int .i64 y4) (.bool y5))):=Lib.hid (put5_ok K69.out KX9.out (by have:=HGL.out;omega))
    have HV:Hid (nxR l p q s ⟨xp,xh,xc,xt,xi⟩ d=⟨y1,y2,y3,y4,y5⟩):=Lib.hid (HWW.out)
    go_wp2
    exact bodyPost_ret (v:= .agg #[.int .i64 y1,.int .u64 y2,.int .i64 y3,.int .i64 y4,.bool y5]) (resRgN rfl HFIN.out.1) rfl ⟨by rw [HV.out];rfl,HFIN.out.2⟩
theorem own_num (w:World) (base:Nat) (hb:base≤w.heap.size) (x:Nat):Own1 1 encN (w.alloc (.cells #[.int .i64 (x:Int)] 3)) base 3 (.slice (some ⟨w.heap.size,0,none⟩) 1 1) [x]:=
 ⟨by rfl,.inr ⟨w.heap.size,1,#[.int .i64 (x:Int)],rfl,hb,heap_alloc_new w _,Nat.le_refl _,by decide,rfl,rfl⟩⟩
theorem add_old {cl:Nat→Nat} {F:List Nat} {t:Nat} (h:idx (F.map cl) (cl t)<F.length):add cl F t=F:=if_pos h
theorem add_new {cl:Nat→Nat} {F:List Nat} {t:Nat} (h:¬ idx (F.map cl) (cl t)<F.length):add cl F t=F++ [t]:=if_neg h
theorem lie_at {α:Type} {k:Nat} {enc:α→List Value} {base:Nat} {e:TypeId} {w w':World} {v v':Value} {l:List α} (h:Lie k enc base e w v l v' w'):∃ p c,v'= .slice p l.length c:=by
 obtain⟨a,c,e⟩:=h.1.slice
 exact⟨a,c,e⟩
def lenR (B:Aut) (i L:Nat):Nat→Nat
 |0=>L
 |c+1=>max (lenR B i L c) (B.d i c+1)
def lenB (B:Aut):Nat→Nat
 |0=>1
 |i+1=>lenR B i (lenB B i) 11
theorem lenR_zero (B:Aut) (i L:Nat):lenR B i L 0=L:=by rw [lenR]
theorem lenR_succ (B:Aut) (i L c:Nat):lenR B i L (c+1)=max (lenR B i L c) (B.d i c+1):=by rw [lenR]
theorem lenB_zero (B:Aut):lenB B 0=1:=by rw [lenB]
theorem lenB_succ (B:Aut) (i:Nat):lenB B (i+1)=lenR B i (lenB B i) 11:=by rw [lenB]
theorem lenR_le (B:Aut) (i L:Nat) {c d:Nat} (h:c≤d):lenR B i L c≤lenR B i L d:=by
 induction h with
 |refl=>exact Nat.le_refl _
 |step _ ih=>rw [lenR_succ];omega
theorem lenR_ge (B:Aut) (i L c:Nat):L≤lenR B i L c:=by
 have:=lenR_le B i L (Nat.zero_le c)
 rwa [lenR_zero] at this
theorem lenB_le (B:Aut) {i j:Nat} (h:i≤j):lenB B i≤lenB B j:=by
 induction h with
 |refl=>exact Nat.le_refl _
 |step _ ih=>rw [lenB_succ];exact Nat.le_trans ih (lenR_ge _ _ _ _)
theorem lenR_gt (B:Aut) (i L:Nat) {c e:Nat} (h:e<c):B.d i e<lenR B i L c:=by
 have h1:=lenR_le B i L (show e+1≤c from h)
 rw [lenR_succ] at h1
 omega
theorem lenB_gt (B:Aut) {i j e:Nat} (h:i<j) (he:e<11):B.d i e<lenB B j:=by
 have h1:=lenB_le B (show i+1≤j from h)
 rw [lenB_succ] at h1
 exact Nat.lt_of_lt_of_le (lenR_gt B i _ he) h1
structure Bf (B:Aut):Prop where
 st:B.s0=0
 le:∀ i c,i<B.n→c<11→B.d i c≤lenR B i (lenB B i) c
 in_:∀ i,i<B.n→i<lenB B i
 all:lenB B B.n=B.n
section
variable {A:Aut} {cl:Nat→Nat} {m:Nat}
theorem row_len {A:Aut} {cl:Nat→Nat} {fd:List Nat} {s c:Nat}:(rowK A cl fd s (c+1)).2.length=max (rowK A cl fd s c).2.length (idx ((rowK A cl fd s c).2.map cl) (cl (A.d s c))+1):=by
 rw [rowK_succ]
 unfold rowStp add
 dsimp only
 have:=idx_le ((rowK A cl fd s c).2.map cl) (cl (A.d s c))
 rw [List.length_map] at this
 split
 ·omega
 ·rw [List.length_append,List.length_singleton]
  omega
theorem row_get {A:Aut} {cl:Nat→Nat} {fd:List Nat} {s:Nat}:∀ {c k:Nat},k<c→(rowK A cl fd s c).1.getD k 0=idx ((rowK A cl fd s k).2.map cl) (cl (A.d s k))
 |0,k,h=>by omega
 |c+1,k,h=>by
  have hlen:=rowK_len A cl fd s c
  have e0:(rowK A cl fd s (c+1)).1=(rowK A cl fd s c).1++ [idx ((rowK A cl fd s c).2.map cl) (cl (A.d s c))]:=rfl
  rw [e0]
  by_cases hk:k<c
  ·rw [List.getD_eq_getElem?_getD,List.getElem?_append_left (by omega),←List.getD_eq_getElem?_getD]
   exact row_get hk
  ·obtain rfl:k=c:=by omega
   rw [List.getD_eq_getElem?_getD,List.getElem?_append_right (by omega),hlen,Nat.sub_self]
   rfl
theorem lenR_min {i:Nat} (hi:i<m) (L:Nat) (hL:(fdK A cl i).length=L):∀ c,c≤11→lenR (minA A cl m) i L c=(rowK A cl (fdK A cl i) ((fdK A cl i).getD i 0) c).2.length
 |0,_=>by rw [lenR_zero];exact hL.symm
 |c+1,hc=>by
  rw [lenR_succ,lenR_min hi L hL c (by omega),row_len,minA_d A cl hi]
  unfold rowsK
  rw [row_get (show c<11 by omega)]
theorem lenB_min:∀ i,i≤m→lenB (minA A cl m) i=(fdK A cl i).length
 |0,_=>by rw [lenB_zero,fdK_zero];rfl
 |i+1,h=>by
  rw [lenB_succ,lenB_min i (by omega),lenR_min (by omega) _ rfl 11 (Nat.le_refl _),fdK_succ]
theorem Stop.bf (h:Stop A cl m):Bf (minA A cl m):=by
 refine⟨rfl,fun i c hi hc=>?_,fun i hi=>?_,?_⟩
 ·rw [minA_n] at hi
  rw [lenB_min i (by omega),lenR_min hi _ rfl c (by omega),minA_d A cl hi]
  unfold rowsK
  rw [row_get hc]
  have:=idx_le ((rowK A cl (fdK A cl i) ((fdK A cl i).getD i 0) c).2.map cl) (cl (A.d ((fdK A cl i).getD i 0) c))
  rwa [List.length_map] at this
 ·rw [minA_n] at hi
  rw [lenB_min i (by omega)]
  exact h.1 i hi
 ·rw [minA_n,lenB_min m (Nat.le_refl _)]
  exact h.2
end
def fr (cl:Nat→Nat):Nat→List Nat
 |0=>[]
 |s+1=>add cl (fr cl s) s
theorem fr_zero (cl:Nat→Nat):fr cl 0= []:=by rw [fr]
theorem fr_succ (cl:Nat→Nat) (s:Nat):fr cl (s+1)=add cl (fr cl s) s:=by rw [fr]
theorem fr_pre (cl:Nat→Nat) {s t:Nat} (h:s≤t):fr cl s<+:fr cl t:=by
 induction h with
 |refl=>exact List.prefix_refl _
 |step _ ih=>rw [fr_succ];exact ih.trans (add_preA cl _ _)
theorem add_mem {cl:Nat→Nat} {F:List Nat} {t:Nat}:cl t∈(add cl F t).map cl:=by
 unfold add
 split
 ·rename_i h
  have h1:idx (F.map cl) (cl t)<(F.map cl).length:=by rw [List.length_map];exact h
  exact idx_lt.1 h1
 ·simp
theorem fr_has (cl:Nat→Nat) {s t:Nat} (h:s<t):cl s∈(fr cl t).map cl:=by
 have h1:=fr_pre cl (show s+1≤t from h)
 rw [fr_succ] at h1
 obtain⟨k,hk⟩:=h1
 rw [←hk,List.map_append]
 exact List.mem_append.2 (.inl add_mem)
theorem fr_lt (cl:Nat→Nat):∀ t,∀ x∈fr cl t,x<t
 |0,x,h=>by rw [fr_zero] at h;cases h
 |t+1,x,h=>by
  rw [fr_succ] at h
  unfold add at h
  split at h
  ·have:=fr_lt cl t x h;omega
  ·rcases List.mem_append.1 h with h|h
   ·have:=fr_lt cl t x h;omega
   ·rw [List.mem_singleton] at h;omega
theorem fr_old {cl:Nat→Nat} {F:List Nat} {t:Nat} (h:cl t∈F.map cl):add cl F t=F:=by
 unfold add
 have h1:=idx_lt.2 h
 rw [List.length_map] at h1
 rw [if_pos h1]
theorem fr_new {cl:Nat→Nat} {F:List Nat} {t:Nat} (h:cl t ∉F.map cl):add cl F t=F++ [t]:=by
 unfold add
 have h1:=mt idx_lt.1 h
 rw [List.length_map] at h1
 rw [if_neg h1]
theorem fr_nd (cl:Nat→Nat):∀ t,((fr cl t).map cl).Nodup
 |0=>by rw [fr_zero];exact List.nodup_nil
 |t+1=>by
  rw [fr_succ]
  by_cases h:cl t∈(fr cl t).map cl
  ·rw [fr_old h];exact fr_nd cl t
  ·rw [fr_new h,List.map_append]
   exact nodup_snoc (fr_nd cl t) h
theorem fr_len_le (cl:Nat→Nat) (t:Nat):(fr cl t).length≤t:=by
 have:=nodup_len (b:=List.range t) (nodup_of_map (fr_nd cl t)) (fun x hx=>List.mem_range.2 (fr_lt cl t x hx))
 rwa [List.length_range] at this
section
variable {G:Aut} {cl:Nat→Nat}
theorem fr_row (hB:Bf G) {x:Nat} (hx:x<G.n):∀ c,c≤11→(rowK G cl (fr cl (lenB G x)) x c).2=fr cl (lenR G x (lenB G x) c)
 |0,_=>by rw [lenR_zero];rfl
 |c+1,hc=>by
  have ih:=fr_row hB hx c (by omega)
  rw [rowK_succ]
  unfold rowStp
  dsimp only
  rw [ih,lenR_succ]
  have hle:=hB.le x c hx (by omega)
  by_cases h:G.d x c<lenR G x (lenB G x) c
  ·rw [Nat.max_eq_left (by omega),fr_old (fr_has cl h)]
  ·have e:G.d x c=lenR G x (lenB G x) c:=by omega
   rw [Nat.max_eq_right (by omega),←e,fr_succ]
theorem fr_row_old (hB:Bf G) (hC:∀ s t,s<G.n→t<G.n→cl s=cl t→∀ c,c<11→cl (G.d s c)=cl (G.d t c)) {x q:Nat} (hx:x<G.n) (hq:q<x) (he:cl q=cl x):∀ c,c≤11→fr cl (lenR G x (lenB G x) c)=fr cl (lenB G x)
 |0,_=>by rw [lenR_zero]
 |c+1,hc=>by
  have ih:=fr_row_old hB hC hx hq he c (by omega)
  rw [lenR_succ]
  have hle:=hB.le x c hx (by omega)
  by_cases h:G.d x c<lenR G x (lenB G x) c
  ·rw [Nat.max_eq_left (by omega),ih]
  ·have e:G.d x c=lenR G x (lenB G x) c:=by omega
   rw [Nat.max_eq_right (by omega),fr_succ,e,ih]
   have h1:G.d q c<lenB G x:=lenB_gt G hq (by omega)
   rw [←e]
   refine fr_old ?_
   rw [←hC q x (by omega) hx he c (by omega)]
   exact fr_has cl h1
theorem fr_found (hB:Bf G) (hC:∀ s t,s<G.n→t<G.n→cl s=cl t→∀ c,c<11→cl (G.d s c)=cl (G.d t c)):∀ x,x≤G.n→fdK G cl (fr cl x).length=fr cl (lenB G x)
 |0,_=>by
  rw [fr_zero,lenB_zero,fr_succ,fr_zero,List.length_nil,fdK_zero,hB.st]
  rfl
 |x+1,hx=>by
  have ih:=fr_found hB hC x (by omega)
  have hx':x<G.n:=by omega
  by_cases h:cl x∈(fr cl x).map cl
  ·rw [fr_succ,fr_old h,ih,lenB_succ]
   obtain⟨q,hq,he⟩:=List.mem_map.1 h
   exact(fr_row_old hB hC hx' (fr_lt cl x q hq) he 11 (Nat.le_refl _)).symm
  ·have e1:fr cl (x+1)=fr cl x++ [x]:=by rw [fr_succ,fr_new h]
   have hp:=fr_pre cl (show x+1≤lenB G x from hB.in_ x hx')
   rw [e1] at hp
   have hg:(fr cl (lenB G x)).getD (fr cl x).length 0=x:=by
    rw [pre_getD hp (by simp)]
    exact getD_end
   rw [e1,List.length_append,List.length_singleton,fdK_succ,ih,hg,fr_row hB hx' 11 (Nat.le_refl _),lenB_succ]
theorem fr_at:∀ t j,j<(fr cl t).length→∃ x,x<t∧(fr cl x).length=j∧cl x ∉(fr cl x).map cl
 |0,j,h=>by rw [fr_zero] at h;simp at h
 |t+1,j,h=>by
  rw [fr_succ] at h
  by_cases hm:cl t∈(fr cl t).map cl
  ·rw [fr_old hm] at h
   obtain⟨x,h1,h2⟩:=fr_at t j h
   exact⟨x,by omega,h2⟩
  ·rw [fr_new hm,List.length_append,List.length_singleton] at h
   by_cases hj:j<(fr cl t).length
   ·obtain⟨x,h1,h2⟩:=fr_at t j hj
    exact⟨x,by omega,h2⟩
   ·exact⟨t,by omega,by omega,hm⟩
theorem fr_stop (hB:Bf G) (hC:∀ s t,s<G.n→t<G.n→cl s=cl t→∀ c,c<11→cl (G.d s c)=cl (G.d t c)):Stop G cl (fr cl G.n).length∧fdK G cl (fr cl G.n).length=fr cl G.n:=by
 have e:=fr_found hB hC G.n (Nat.le_refl _)
 rw [hB.all] at e
 refine⟨⟨fun j hj=>?_,by rw [e]⟩,e⟩
 obtain⟨x,h1,h2,h3⟩:=fr_at G.n j hj
 have e2:=fr_found hB hC x (by omega)
 rw [h2] at e2
 rw [e2]
 have hp:=(fr_pre cl (show x+1≤lenB G x from hB.in_ x h1)).length_le
 rw [fr_succ,fr_new h3,List.length_append,List.length_singleton] at hp
 omega
theorem Cls.step {A:Aut} (hA:A.Ok) (h:Cls A cl):∀ s t,s<A.n→t<A.n→cl s=cl t→∀ c,c<11→cl (A.d s c)=cl (A.d t c):=fun s t hs ht e c hc=>
 (h _ _ (hA.go s c hs hc) (hA.go t c ht hc)).2 (((h s t hs ht).1 e).step hc)
end
theorem Stop.rows {A:Aut} {cl:Nat→Nat} {m:Nat} (h:Stop A cl m) (hA:A.Ok) {i:Nat} (hi:i<m):rowsK A cl i=(List.range 11).map fun c=>idx ((fdK A cl m).map cl) (cl (A.d ((fdK A cl m).getD i 0) c)):=by
 have hl:(rowsK A cl i).length=11:=rowK_len _ _ _ _ 11
 refine List.ext_getElem (by simp [hl]) (fun c h1 h2=>?_)
 have hc:c<11:=by omega
 rw [List.getElem_map,List.getElem_range]
 have hs:=h.step hi hc
 rw [minA_d A cl hi,getD_getA h1] at hs
 have hok:=h.ok hA
 obtain⟨q,hq⟩:∃ q,(rowsK A cl i)[c]'h1=q:=⟨_,rfl⟩
 rw [hq] at hs ⊢
 have h3:q<(fdK A cl m).length:=by rw [h.2];exact hs.1
 have e4:=hs.2
 rw [getD_getA h3] at e4
 refine(idx_first (by rw [List.length_map];exact h3) ?_ (fun j hj hlt=>?_)).symm
 ·rw [List.getElem_map]
  exact e4
 ·rw [←e4]
  intro e
  have:=nodup_get hok.nd hj (by rw [List.length_map];exact h3) (by rw [e,List.getElem_map])
  omega
end Go.Proofs.YtobapaodpcheiaaGreatDoor
