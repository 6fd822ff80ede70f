/- What the row stands on, part 9. -/
import Derived.Test.YtobapaodpcheiaaGreatDoorQ8
namespace Go.Proofs.YtobapaodpcheiaaGreatDoor
open Go.RowKit
set_option linter.unusedVariables false
theorem redL_take (l:List Rel) (a b:Int) {k:Nat} (h:k<l.length):redL (l.take (k+1)) a b=redF a b (redL (l.take k) a b) l[k]:=by
 unfold redL
 rw [List.take_succ_eq_append_getElem h,List.foldl_append]
 rfl
theorem take_ok {l:List Rel} (h:∀ r∈l,OkR r) (k:Nat):∀ r∈l.take k,OkR r:=fun r hr=>h r (List.mem_of_mem_take hr)
theorem resS4 {W:World} {tm:Array Value} {B:Nat} {t:TypeId} {a b:Value} (t2:tm[4]?.getD undef= .pointer (some ⟨B,0,none⟩)) (h:Blk B t #[a,b] W):
  (results Tryz.f42 tm).run Tryz.prog W= .ok (.agg #[a,b]) W:=by
 have a0:W.cell? ⟨B,0,none⟩=some a:=h.cell 0
 have a1:W.cell? ⟨B,1,none⟩=some b:=h.cell 1
 simp [results,Tryz.f42,go_sem,t2,a0,a1]
theorem bt_below {n C m:Nat} {w w':World} (h:Bt n C w w') (h1:m≤n) (h2:m≤C):Below m w w':=⟨h.os,h.tape,h.output,h.size,fun k hk=>h.block k (by omega) (by omega)⟩
theorem le300 {m:Nat} (h:m ∣300):m≤300:=Nat.le_of_dvd (by omega) h
set_option maxRecDepth 1000000 in
set_option maxHeartbeats 16000000 in
theorem scaleOf_any (g:Nat) (l:List Rel) (ls:List (List Nat)) (p q s:Nat × Nat) (hl:∀ r∈l,OkR r) (h6:l.length≤60) (a b:Int) (va:Value) (w:World) (hP:RelP w g l ls p q s) (hv:Rd 1 encI w va [a,b]):
  Calls Tryz.prog 42 #[.pointer (some ⟨g,0,none⟩),va] w fun e w'=>e= .returned (.agg #[.int .i64 (redL l a b).1,.int .i64 (redL l a b).2])∧Below w.heap.size w w':=by
 obtain⟨a0,c,b0,d,hB,hR,hS⟩:=hP.blk
 obtain⟨va0,vc0,rfl,_,_⟩:=hv.slice
 have KA:=(Below.refl w.heap.size w).alloc (Nat.le_refl _) (.cells #[.int .i64 0,.int .i64 0] 88)
 have KB:=KA.alloc KA.size (.cells #[.int .i64 0,.int .i64 1] 88)
 have k4:=(Blk.new w 88 #[.int .i64 0,.int .i64 0]).alloc (.cells #[.int .i64 0,.int .i64 1] 88)
 have k5:=Blk.new (w.alloc (.cells #[.int .i64 0,.int .i64 0] 88)) 88 #[.int .i64 0,.int .i64 1]
 rw [World.size_alloc] at k5
 obtain⟨W,hW⟩:∃ W,(w.alloc (.cells #[.int .i64 0,.int .i64 0] 88)).alloc (.cells #[.int .i64 0,.int .i64 1] 88)=W:=⟨_,rfl⟩
 have zW:W.heap.size=w.heap.size+2:=by rw [←hW];simp
 rw [hW] at KB k4 k5
 have HWE:=Lib.hid hW
 have HK:=Lib.hid KB
 have HK4:=Lib.hid k4
 have HK5:=Lib.hid k5
 have e0:W.cell? ⟨g,0,none⟩=some (.slice a0 l.length c):=(hB.below KB).cell 0
 have HU:=Lib.hid hR
 have HV:=Lib.hid hv
 have HL:=Lib.hid hl
 obtain⟨G4,hG4⟩:∃ G,w.heap.size=G:=⟨_,rfl⟩
 rw [hG4] at HK4 HK5 zW
 clear hB hR hS hP hv hl KA KB k4 k5 hW
 go_enter Tryz.func42,Tryz.ntmps42
 go_upto_region 2 with fail
 rw [HWE.out]
 try rw [hG4]
 have HGE:=Lib.hid hG4
 clear hG4
 go_wp2_with fail
 go_loopw [14] (fun v14 wr=>∃ k:Nat,k≤l.length∧v14= .int .i64 k∧Bt W.heap.size (G4+1) W wr∧Blk (G4+1) 88 #[.int .i64 (redL (l.take k) a b).1,.int .i64 (redL (l.take k) a b).2] wr) (fun v14 _=>l.length - (intOf v14).toNat)
 case atStart=>exact⟨0,Nat.zero_le _,rfl,Bt.refl _ _ _,HK5.out⟩
 case round=>
  obtain⟨k,hk,rfl,hb,hs5⟩:=hrel
  have HB:=Lib.hid hb
  have H5:=Lib.hid hs5
  have zr:=hb.size
  have HBW:Hid (Below w.heap.size w wr):=Lib.hid (HK.out.trans (bt_below hb (by rw [HGE.out,zW];omega) (by rw [HGE.out];omega)))
  clear hb hs5
  by_cases hlt:k<l.length
  ·have HST:=Lib.hid (redL_take l a b hlt)
   have HRO:=Lib.hid (redL_ok (take_ok HL.out k) a b)
   obtain⟨⟨B1,m1⟩,hN⟩:∃ N,redL (l.take k) a b=N:=⟨_,rfl⟩
   rw [hN] at HST HRO H5
   dsimp only at H5
   obtain⟨bk,off,x1,x2,rfl,c0,c1,c2,c3,c4⟩:=(HU.out.below HBW.out).at_ k hlt
   have h9:(k:Int)<(l.length:Int):=by omega
   have hok:=HL.out _ (List.getElem_mem hlt)
   obtain⟨r,hr⟩:∃ r,l[k]=r:=⟨_,rfl⟩
   rw [hr] at c0 c1 c2 c3 c4 hok HST
   have hmd:=okMod_le hok.md
   have HGR:=Lib.hid (fun w hr=>greatest_any r hok x1 x2 w hr)
   have hML:=mostR_le hok
   obtain⟨M,hM⟩:∃ M,mostR r=M:=⟨_,rfl⟩
   have HRF:Hid (redF a b (B1,m1) r=if r.op≠a∧r.op≠b then(B1,m1) else if r.md=0 then(max B1 (M+1),m1) else(B1,Nat.lcm m1 r.md.toNat)):=Lib.hid (by unfold redF;rw [hM,div_lcm])
   rw [hM] at HGR hML
   have hB1:=HRO.out.B
   have hm1:=le300 HRO.out.m
   have hm0:=HRO.out.pos
   dsimp only at hB1 hm1 hm0
   obtain⟨ro,rm,rn,rs⟩:=r
   dsimp only at c0 c1 c2 c3 c4 HGR HRF hmd
   obtain⟨R,rfl⟩:∃ R:Nat,rm=(R:Int):=⟨rm.toNat,by omega⟩
   have HW1:=Lib.hid ((Below.refl wr.heap.size wr).alloc (Nat.le_refl _) (.cells #[.int .i64 ro,.int .i64 R,.bool rn,.slice x1 rs.length x2] 52))
   have HX:=Lib.hid (Blk.new wr 52 #[.int .i64 ro,.int .i64 R,.bool rn,.slice x1 rs.length x2])
   obtain⟨W1,hW1⟩:∃ W1,wr.alloc (.cells #[.int .i64 ro,.int .i64 R,.bool rn,.slice x1 rs.length x2] 52)=W1:=⟨_,rfl⟩
   rw [hW1] at HW1 HX
   have HWE1:=Lib.hid hW1
   have HC4:=Lib.hid (c4.below HW1.out)
   have H51:=Lib.hid (H5.out.below HW1.out)
   have HBT:=Lib.hid (HB.out.trans (Bt.of_below (HW1.out.mono zr)))
   have HVW:=Lib.hid ((HV.out.below HBW.out).below HW1.out)
   have f0:W1.cell? ⟨wr.heap.size,0,none⟩=some (.int .i64 ro):=HX.out.cell 0
   have f1:W1.cell? ⟨wr.heap.size,1,none⟩=some (.int .i64 R):=HX.out.cell 1
   have f2:W1.cell? ⟨wr.heap.size,2,none⟩=some (.bool rn):=HX.out.cell 2
   have f3:W1.cell? ⟨wr.heap.size,3,none⟩=some (.slice x1 rs.length x2):=HX.out.cell 3
   have s0:W1.cell? ⟨G4+1,0,none⟩=some (.int .i64 B1):=H51.out.cell 0
   have s1:W1.cell? ⟨G4+1,1,none⟩=some (.int .i64 m1):=H51.out.cell 1
   have z5:=H51.out.frozen
   have z0:W1.frozen? ⟨G4+1,0,none⟩=false:=z5 0
   have z1:W1.frozen? ⟨G4+1,1,none⟩=false:=z5 1
   have hzW:W.heap.size≤W1.heap.size:=by have:=HW1.out.size;omega
   clear hN hr hM hW1 c4 hok z5
   have HCT:=Lib.hid (containsI_any (.slice va0 [a,b].length vc0) [a,b] ro W1 HVW.out)
   have HAN:Hid (([a,b].any fun y=>ro==y)=decide (¬ (ro≠a∧ro≠b))):=Lib.hid (by
    by_cases h1:ro=a
    ·simp [h1]
    ·by_cases h2:ro=b
     ·simp [h2]
     ·simp [h1,h2])
   rw [HAN.out] at HCT
   by_cases hin:ro≠a∧ro≠b
   ·have d0:decide (¬ (ro≠a∧ro≠b))=false:=decide_eq_false (fun h=>h hin)
    rw [d0] at HCT
    have HG:Hid (redL (l.take (k+1)) a b=(B1,m1)):=Lib.hid (by rw [HST.out,HRF.out,if_pos hin])
    clear hin d0
    go_upto_region 6 with fail
    rw [HWE1.out]
    go_wp2_with fail
    refine HCT.out.mono ?_
    rintro e w2 ⟨rfl,hw2⟩
    obtain rfl:=hw2.symm
    go_wp2
    go_roundw
    case measure=>simp [intOf];omega
    case rel=>exact⟨k+1,by omega,by go_num,HBT.out,by rw [HG.out];exact H51.out⟩
   ·have d0:decide (¬ (ro≠a∧ro≠b))=true:=decide_eq_true hin
    rw [d0] at HCT
    by_cases hz:R=0
    ·have t0:((R:Int)==0)=true:=by rw [beq_iff_eq];omega
     have HG:Hid (redL (l.take (k+1)) a b=(max B1 (M+1),m1)):=Lib.hid (by rw [HST.out,HRF.out,if_neg hin,if_pos (by omega)])
     obtain⟨N,hN⟩:∃ N,max B1 (M+1)=N:=⟨_,rfl⟩
     have q1:(if (B1:Int)<(M:Int)+1 then(M:Int)+1 else(B1:Int))=(N:Int):=by rw [←hN];split<;>omega
     rw [hN] at HG
     have hN2:N≤1000:=by omega
     have HCE:Hid (∀ wx,Below W1.heap.size W1 wx→wx.cell? ⟨G4+1,0,none⟩=some (.int .i64 B1)∧wx.frozen? ⟨G4+1,0,none⟩=false):=Lib.hid (fun wx hb=>⟨(H51.out.below hb).cell 0,(H51.out.below hb).frozen 0⟩)
     have HFI:Hid (∀ wx,Below W1.heap.size W1 wx→Bt W.heap.size (G4+1) W (wx.setCell ⟨G4+1,0,none⟩ (.int .i64 N))∧Blk (G4+1) 88 #[.int .i64 N,.int .i64 m1] (wx.setCell ⟨G4+1,0,none⟩ (.int .i64 N))):=Lib.hid (fun wx hb=>⟨(HBT.out.trans (Bt.of_below (hb.mono hzW))).trans (Bt.setCell _ _ _ 0 _),(H51.out.below hb).put 0 _⟩)
     clear hin d0 hN hz
     go_upto_region 6 with fail
     rw [HWE1.out]
     go_wp2_with fail
     refine HCT.out.mono ?_
     rintro e w2 ⟨rfl,hw2⟩
     obtain rfl:=hw2.symm
     go_wp2_with fail
     go_region_with (go_at_call 68;refine(HGR.out _ (HC4.out.drewN 1)).mono ?_;rintro e w5 ⟨rfl,b5⟩;have B5:Below W1.heap.size W1 w5:=(below_drewN (Below.refl _ W1) 1).trans b5;obtain⟨y0,y1⟩:=HCE.out _ B5;clear b5)
     all_goals (
      go_wp2
      go_roundw
      case measure=>simp [intOf];omega
      case rel=>
       refine⟨k+1,by omega,by go_num,?_⟩
       rw [HG.out]
       (try rw [q1])
       exact HFI.out _ B5)
    ·have t0:((R:Int)==0)=false:=by rw [beq_eq_false_iff_ne];omega
     have HCM:=Lib.hid (fun w=>common_any m1 R ⟨hm0,by omega⟩ ⟨by omega,by omega⟩ w)
     have HG:Hid (redL (l.take (k+1)) a b=(B1,Nat.lcm m1 R)):=Lib.hid (by rw [HST.out,HRF.out,if_neg hin,if_neg (by omega)];rfl)
     obtain⟨N,hN⟩:∃ N,Nat.lcm m1 R=N:=⟨_,rfl⟩
     rw [hN] at HG HCM
     clear hin d0 hN hz
     go_upto_region 6 with fail
     rw [HWE1.out]
     go_wp2_with fail
     refine HCT.out.mono ?_
     rintro e w2 ⟨rfl,hw2⟩
     obtain rfl:=hw2.symm
     go_wp2_with fail
     refine(HCM.out _).mono ?_
     rintro e w2 ⟨rfl,hw2⟩
     obtain rfl:=hw2.symm
     go_wp2
     go_roundw
     case measure=>simp [intOf];omega
     case rel=>exact⟨k+1,by omega,by go_num,HBT.out.trans (Bt.setCell _ _ _ 1 _),by rw [HG.out];exact H51.out.put 1 _⟩
  ·obtain rfl:k=l.length:=by omega
   have h3:¬ (l.length:Int)<(l.length:Int):=by omega
   have HLE:Hid (redL (l.take l.length) a b=redL l a b):=Lib.hid (by rw [List.take_length])
   rw [HLE.out] at H5
   obtain⟨⟨B1,m1⟩,hN⟩:∃ N,redL l a b=N:=⟨_,rfl⟩
   rw [hN] at H5
   have HN:=Lib.hid hN
   dsimp only at H5
   have k4:=HK4.out.bt HB.out (by rw [zW];omega) (by omega)
   have s0:wr.cell? ⟨G4+1,0,none⟩=some (.int .i64 B1):=H5.out.cell 0
   have s1:wr.cell? ⟨G4+1,1,none⟩=some (.int .i64 m1):=H5.out.cell 1
   have z0:wr.frozen? ⟨G4,0,none⟩=false:=k4.frozen 0
   have z1:wr.frozen? ⟨G4,1,none⟩=false:=k4.frozen 1
   have y0:wr.cell? ⟨G4,0,none⟩=some (.int .i64 0):=k4.cell 0
   have y1:wr.cell? ⟨G4,1,none⟩=some (.int .i64 0):=k4.cell 1
   have y2:(wr.setCell ⟨G4,0,none⟩ (.int .i64 B1)).cell? ⟨G4,1,none⟩=some (.int .i64 0):=(k4.put 0 _).cell 1
   have z2:(wr.setCell ⟨G4,0,none⟩ (.int .i64 B1)).frozen? ⟨G4,1,none⟩=false:=(k4.put 0 _).frozen 1
   have HFIN:Hid (Blk G4 88 #[.int .i64 B1,.int .i64 m1] ((wr.setCell ⟨G4,0,none⟩ (.int .i64 B1)).setCell ⟨G4,1,none⟩ (.int .i64 m1))∧Below w.heap.size w ((wr.setCell ⟨G4,0,none⟩ (.int .i64 B1)).setCell ⟨G4,1,none⟩ (.int .i64 m1))):=Lib.hid (by
    have hw:w.heap.size≤G4:=by rw [HGE.out];exact Nat.le_refl _
    exact⟨(k4.put 0 _).put 1 _,(HBW.out.setCell (p:=⟨G4,0,none⟩) hw _).setCell (p:=⟨G4,1,none⟩) hw _⟩)
   clear hN k4
   go_wp2
   exact bodyPost_ret (v:= .agg #[.int .i64 B1,.int .i64 m1]) (resS4 rfl HFIN.out.1) rfl ⟨by rw [HN.out],HFIN.out.2⟩
def encN (x:Nat):List Value:=[.int .i64 (x:Int)]
theorem encN_len (x:Nat):(encN x).length=1:=rfl
theorem encN_one (x:Nat):∀ u∈encN x,u.oneCell'=true:=by intro u hu;simp [encN] at hu;subst hu;rfl
def encO (x:Bool):List Value:=[.bool x]
theorem encO_len (x:Bool):(encO x).length=1:=rfl
theorem encO_one (x:Bool):∀ u∈encO x,u.oneCell'=true:=by intro u hu;simp [encO] at hu;subst hu;rfl
theorem Tryz.infoI:(Tryz.prog.info? 3).map (fun i=>(i.zero,i.size,i.bytes))=some (some (.int .i64 0),1,8):=by kernel_rfl
theorem Tryz.infoO:(Tryz.prog.info? 4).map (fun i=>(i.zero,i.size,i.bytes))=some (some (.bool false),1,1):=by kernel_rfl
theorem Tryz.infoRow:(Tryz.prog.info? 69).map (fun i=>(i.zero,i.size,i.bytes))=some (some (.slice none 0 0),1,24):=by kernel_rfl
section
variable {α:Type} {enc:α→List Value}
theorem Rd.one {w:World} {a:Option Addr} {n c:Nat} {l:List α} (h:Rd 1 enc w (.slice a n c) l) (i:Nat) (hi:i<l.length) {u:Value} (hu:(enc l[i])[0]? =some u):∃ b off,a=some ⟨b,off,none⟩∧w.cell? ⟨b,off+i,none⟩=some u:=by
 obtain⟨b,off,ha,_,hx⟩:=h.some_ i hi
 have:=hx 0 u hu
 rw [Nat.mul_one,Nat.add_zero] at this
 exact⟨b,off,ha,this⟩
end
theorem Rd.num {w:World} {a:Option Addr} {n c:Nat} {l:List Int} (h:Rd 1 encI w (.slice a n c) l) (i:Nat) (hi:i<l.length):∃ b off,a=some ⟨b,off,none⟩∧w.cell? ⟨b,off+i,none⟩=some (.int .i64 l[i]):=h.one i hi rfl
theorem Rd.nat {w:World} {a:Option Addr} {n c:Nat} {l:List Nat} (h:Rd 1 encN w (.slice a n c) l) (i:Nat) (hi:i<l.length):∃ b off,a=some ⟨b,off,none⟩∧w.cell? ⟨b,off+i,none⟩=some (.int .i64 (l.getD i 0:Nat)):=by
 obtain⟨b,off,h1,h2⟩:=h.one i hi rfl
 rw [getD_getA hi]
 exact⟨b,off,h1,h2⟩
theorem Rd.boo {w:World} {a:Option Addr} {n c:Nat} {l:List Bool} (h:Rd 1 encO w (.slice a n c) l) (i:Nat) (hi:i<l.length):∃ b off,a=some ⟨b,off,none⟩∧w.cell? ⟨b,off+i,none⟩=some (.bool (l.getD i false)):=by
 obtain⟨b,off,h1,h2⟩:=h.one i hi rfl
 refine⟨b,off,h1,?_⟩
 rw [List.getD_eq_getElem?_getD,List.getElem?_eq_getElem hi]
 exact h2
def RdRows (w:World) (v:Value) (l:List (List Int)):Prop:=∃ raws:List RawS,Rd 1 encS w v raws∧raws.length=l.length∧∀(i:Nat) (h:i<raws.length) (h':i<l.length),Rd 1 encI w (.slice raws[i].a raws[i].n raws[i].c) l[i]
theorem RdRows.below {w w':World} {v:Value} {l:List (List Int)} (h:RdRows w v l) (hb:Below w.heap.size w w'):RdRows w' v l:=by
 obtain⟨raws,h1,h2,h3⟩:=h
 exact⟨raws,h1.below hb,h2,fun i a b=>(h3 i a b).below hb⟩
theorem RdRows.slice {w:World} {v:Value} {l:List (List Int)} (h:RdRows w v l):∃ a c,v= .slice a l.length c∧l.length≤c∧c≤9223372036854775807:=by
 obtain⟨raws,h1,h2,h3⟩:=h
 rw [←h2]
 exact h1.slice
theorem rdRows_nil (w:World):RdRows w (.slice none 0 0) []:=⟨[],rd_nil w,rfl,fun i h _=>by simp at h⟩
theorem RdRows.at_ {w:World} {a:Option Addr} {n c:Nat} {l:List (List Int)} (h:RdRows w (.slice a n c) l) (i:Nat) (hi:i<l.length):
  ∃ b off x1 x2,a=some ⟨b,off,none⟩∧w.cell? ⟨b,off+i,none⟩=some (.slice x1 l[i].length x2)∧Rd 1 encI w (.slice x1 l[i].length x2) l[i]:=by
 obtain⟨raws,h1,h2,h3⟩:=h
 have hi':i<raws.length:=by omega
 obtain⟨b,off,ha,hx⟩:=h1.one i hi' rfl
 have hr:=h3 i hi' hi
 obtain⟨a2,c2,hv,_⟩:=hr.slice
 injection hv with e1 e2 e3
 rw [e2] at hx hr
 exact⟨b,off,raws[i].a,raws[i].c,ha,hx,hr⟩
structure RawD where
 st:Int
 nx:List (List Int)
 ac:List Bool
structure DOk (r:RawD):Prop where
 some_:0<r.nx.length
 most:r.nx.length≤1000000
 ac:r.ac.length=r.nx.length
 st0:0≤r.st
 st1:r.st<r.nx.length
 row:∀ l∈r.nx,l.length=11
 num:∀ l∈r.nx,∀ x∈l,0≤x∧x<r.nx.length
def okRow (n:Nat) (l:List Int):Bool:=decide (l.length=11)&&l.all fun x=>decide (0≤x)&&decide (x<n)
def okD (r:RawD):Bool:=decide (0<r.nx.length)&&decide (r.nx.length≤2000)&&decide (r.ac.length=r.nx.length)&&decide (0≤r.st)&&decide (r.st<r.nx.length)&&r.nx.all (okRow r.nx.length)
theorem okD_iff {r:RawD}:okD r=true↔DOk r∧r.nx.length≤2000:=by
 unfold okD okRow
 simp only [Bool.and_eq_true,decide_eq_true_eq,List.all_eq_true]
 exact⟨fun h=>⟨⟨h.1.1.1.1.1,by omega,h.1.1.1.2,h.1.1.2,h.1.2,fun l hl=>(h.2 l hl).1,fun l hl x hx=>(h.2 l hl).2 x hx⟩,h.1.1.1.1.2⟩,fun⟨h,h2⟩=>⟨⟨⟨⟨⟨h.some_,h2⟩,h.ac⟩,h.st0⟩,h.st1⟩,fun l hl=>⟨h.row l hl,fun x hx=>h.num l hl x hx⟩⟩⟩
def toA (r:RawD):Aut:=⟨r.nx.length,r.st.toNat,fun s c=>((r.nx.getD s []).getD c 0).toNat,fun s=>r.ac.getD s false⟩
theorem getD_getL {l:List (List Int)} {i:Nat} (h:i<l.length):l.getD i []=l[i]:=by
 rw [List.getD_eq_getElem?_getD,List.getElem?_eq_getElem h]
 rfl
theorem getD_getI {l:List Int} {i:Nat} (h:i<l.length):l.getD i 0=l[i]:=by
 rw [List.getD_eq_getElem?_getD,List.getElem?_eq_getElem h]
 rfl
theorem DOk.entry {r:RawD} (h:DOk r) {s c:Nat} (hs:s<r.nx.length) (hc:c<11):∃ h1:c<(r.nx[s]).length,(r.nx[s])[c]=((toA r).d s c:Int)∧(toA r).d s c<r.nx.length:=by
 have hr:=h.row _ (List.getElem_mem hs)
 have h1:c<(r.nx[s]).length:=by omega
 have h2:=h.num _ (List.getElem_mem hs) _ (List.getElem_mem h1)
 have e:(toA r).d s c=((r.nx[s])[c]).toNat:=by
  show((r.nx.getD s []).getD c 0).toNat=_
  rw [getD_getL hs,getD_getI h1]
 exact⟨h1,by omega,by omega⟩
theorem DOk.ok {r:RawD} (h:DOk r):(toA r).Ok:=
 ⟨by show r.st.toNat<r.nx.length;have:=h.st0;have:=h.st1;omega,fun s c hs hc=>by
  obtain⟨_,_,h3⟩:=h.entry (show s<r.nx.length from hs) hc
  exact h3⟩
theorem DOk.cells {r:RawD} (h:DOk r) {w:World} {a:Option Addr} {n c:Nat} (hr:RdRows w (.slice a n c) r.nx) {s k:Nat} (hs:s<r.nx.length) (hk:k<11):
  ∃ b off b' off' x2,a=some ⟨b,off,none⟩∧w.cell? ⟨b,off+s,none⟩=some (.slice (some ⟨b',off',none⟩) 11 x2)∧w.cell? ⟨b',off'+k,none⟩=some (.int .i64 ((toA r).d s k:Nat)):=by
 obtain⟨b,off,x1,x2,ha,h0,h4⟩:=hr.at_ s hs
 obtain⟨h1,e,_⟩:=h.entry hs hk
 obtain⟨b',off',rfl,h5⟩:=h4.num k h1
 rw [h.row _ (List.getElem_mem hs)] at h0
 rw [e] at h5
 exact⟨b,off,b',off',x2,ha,h0,h5⟩
def symI (c:Nat):Int:=if c=46 then 10 else if c<48∨57<c then -1 else(c:Int) - 48
def okHd (r:RawD):Bool:=decide (0<r.nx.length)&&decide (r.nx.length≤2000)&&decide (r.ac.length=r.nx.length)&&decide (0≤r.st)&&decide (r.st<r.nx.length)
theorem okD_hd (r:RawD):okD r=(okHd r&&r.nx.all (okRow r.nx.length)):=rfl
theorem okHd_iff {r:RawD}:okHd r=true↔0<r.nx.length∧r.nx.length≤2000∧r.ac.length=r.nx.length∧0≤r.st∧r.st<r.nx.length:=by
 unfold okHd
 simp only [Bool.and_eq_true,decide_eq_true_eq,and_assoc]
theorem okRow_len {n:Nat} {l:List Int} (h:l.length≠11):okRow n l=false:=by unfold okRow;rw [decide_eq_false h];rfl
theorem okRow_num {n:Nat} {l:List Int} {j:Nat} (hj:j<l.length) (h:(decide (0≤l[j])&&decide (l[j]<n))=false):okRow n l=false:=by
 unfold okRow
 rw [all_bad (q:=fun x:Int=>decide (0≤x)&&decide (x<(n:Int))) hj h,Bool.and_false]
theorem okRow_good {n:Nat} {l:List Int} (h0:l.length=11) (h:∀(j:Nat) (hj:j<l.length),j<l.length→(decide (0≤l[j])&&decide (l[j]<n))=true):okRow n l=true:=by
 unfold okRow
 rw [decide_eq_true h0,all_good h]
 rfl
def sy (c:UInt8):Nat:=(symI c.toNat).toNat
def okc (c:UInt8):Bool:=decide (0≤symI c.toNat)
def isWA (s:Str):Bool:=s.all okc
def wdN (s:Str):List Nat:=s.map sy
theorem symI_le (c:Nat) (hc:c≤255): -1≤symI c∧symI c<11:=by
 unfold symI
 split
 ·omega
 ·split<;>omega
theorem sy_lt (c:UInt8):sy c<11:=by
 have:=symI_le c.toNat (by have:=c.toNat_lt;omega)
 unfold sy
 omega
theorem word_wdN (s:Str):word (wdN s):=fun c hc=>by
 obtain⟨x,_,rfl⟩:=List.mem_map.1 hc
 exact sy_lt x
def runP (r:RawD) (s:Str):Bool:=okD r&&isWA s&&(toA r).acc (toA r).s0 (wdN s)
theorem byte_at (s:ByteArray) {k:Nat} (h:k<s.size):s.data.toList[k]'(by rw [len_data];exact h)=s[k]:=Array.getElem_toList ..
theorem isW_bad {s:Str} {k:Nat} (h:k<s.length) (hb:okc s[k]=false):isWA s=false:=all_bad h hb
theorem isW_all {s:Str} (h:∀(j:Nat) (hj:j<s.length),okc s[j]=true):isWA s=true:=all_good fun j hj _=>h j hj
theorem run_snoc (A:Aut) (s:Str) (q:Nat) {k:Nat} (h:k<s.length):A.run q (wdN (s.take (k+1)))=A.d (A.run q (wdN (s.take k))) (sy s[k]):=by
 unfold wdN
 rw [List.take_succ_eq_append_getElem h,List.map_append,Aut.run_app]
 rfl
end Go.Proofs.YtobapaodpcheiaaGreatDoor
