/- What the row stands on, part 22. -/
import Derived.WalkMore
import Derived.Test.YtobapaodpcheiaaGreatDoorQ21
namespace Go.Proofs.YtobapaodpcheiaaGreatDoor
open Go.RowKit
set_option linter.unusedVariables false
theorem PM.notX {w:World} {base n:Nat} {A:Pa} {vb0 vt0 vb vt:Value} {p:Ptn} (h:PM w base A vb0 vt0 vb vt n p) {k:Nat} {t:TypeId} {cs:Array Value} (hb:Blk k t cs w) (h1:t≠161) (h2:t≠21) (h3:t≠188):¬ PX A vb vt k:=by
 have key:∀ {t':TypeId} {cs':Array Value},Blk k t' cs' w→t=t':=fun {t' cs'} hb'=>by
  have h4:=(show w.heap[k]? =_ from hb).symm.trans (show w.heap[k]? =_ from hb')
  injection h4 with h4
  injection h4
 rintro(rfl|rfl|rfl|rfl|e|e)
 ·exact h1 (key h.kp)
 ·obtain⟨cs',h5,_⟩:=h.fo;exact h2 (key h5)
 ·obtain⟨cs',h5,_⟩:=h.fq;exact h2 (key h5)
 ·obtain⟨cs',h5,_⟩:=h.fb;exact h2 (key h5)
 ·exact own_type h.ol hb h3 e
 ·exact own_type h.oc hb h2 e
theorem PM.base {w:World} {base base' n:Nat} {A:Pa} {vb0 vt0 vb vt:Value} {p:Ptn} (h:PM w base A vb0 vt0 vb vt n p) (hb:base'≤base):PM w base' A vb0 vt0 vb vt n p:=
 ⟨h.kp,h.fo,h.fq,h.fb,Own1.base h.ol hb,Own1.base h.oc hb,h.oq,h.ob,h.qb,h.to_,h.tq,h.tb,Nat.le_trans hb h.lp,Nat.le_trans hb h.lo,Nat.le_trans hb h.lq,Nat.le_trans hb h.lb⟩
theorem px_keep {A:Pa} {vb vt vb' vt':Value} {k N:Nat} (hk:k<N) (hn:¬ PX A vb vt k) (h1:∀ k,vb'.ownBlock=some k→vb.ownBlock=some k∨N≤k) (h2:∀ k,vt'.ownBlock=some k→vt.ownBlock=some k∨N≤k):¬ PX A vb' vt' k:=by
 rintro(e|e|e|e|e|e)
 ·exact hn (.inl e)
 ·exact hn (.inr (.inl e))
 ·exact hn (.inr (.inr (.inl e)))
 ·exact hn (.inr (.inr (.inr (.inl e))))
 ·rcases h1 k e with e1|e1
  ·exact hn (.inr (.inr (.inr (.inr (.inl e1)))))
  ·omega
 ·rcases h2 k e with e1|e1
  ·exact hn (.inr (.inr (.inr (.inr (.inr e1)))))
  ·omega
structure CE (G:Aut) (w:World) (base:Nat) (A:Pa) (vb vt:Value) (P:Ptn) (fb ob nb:Nat) (vo:Nat→Int):Prop where
 pm:PM w base A vb vt vb vt G.n P
 ff:Fn fb 163 (G.n*11) (i32Z (fsT G G.n 0)) w
 fo:Fn ob 163 (G.n*11) (i32Z vo) w
 kn:Blk nb 182 #[.slice (some ⟨fb,0,none⟩) G.n G.n,.slice (some ⟨ob,0,none⟩) G.n G.n] w
theorem CE.fr {G:Aut} {w w':World} {base:Nat} {A:Pa} {vb vt vb' vt':Value} {P P':Ptn} {fb ob nb:Nat} {vo:Nat→Int} (h:CE G w base A vb vt P fb ob nb vo) (hp:PM w' base A vb' vt' vb' vt' G.n P') (hf:Fr (PX A vb vt) w w'):CE G w' base A vb' vt' P' fb ob nb vo:=by
 refine⟨hp,hf.fn h.ff ?_,hf.fn h.fo ?_,hf.blk h.kn (h.pm.notX h.kn (by decide) (by decide) (by decide))⟩
 ·obtain⟨cs,h1,_⟩:=h.ff;exact h.pm.notX h1 (by decide) (by decide) (by decide)
 ·obtain⟨cs,h1,_⟩:=h.fo;exact h.pm.notX h1 (by decide) (by decide) (by decide)
theorem CE.below {G:Aut} {w w':World} {base:Nat} {A:Pa} {vb vt:Value} {P:Ptn} {fb ob nb:Nat} {vo:Nat→Int} (h:CE G w base A vb vt P fb ob nb vo) (hb:Below w.heap.size w w'):CE G w' base A vb vt P fb ob nb vo:=
 ⟨h.pm.below hb,h.ff.below hb,h.fo.below hb,Blk.below h.kn hb⟩
structure CT (w:World) (A:Pa) (vb vt v:Value) (T:List Nat):Prop where
 own:Own1 1 encM w 0 21 v T
 ns:∀ k,v.ownBlock=some k→¬ PX A vb vt k
theorem CT.fr {w w':World} {A:Pa} {vb vt vb' vt' v:Value} {T:List Nat} (h:CT w A vb vt v T) (hf:Fr (PX A vb vt) w w') (h1:∀ k,vb'.ownBlock=some k→vb.ownBlock=some k∨w.heap.size≤k) (h2:∀ k,vt'.ownBlock=some k→vt.ownBlock=some k∨w.heap.size≤k):CT w' A vb' vt' v T:=
 ⟨hf.own h.own h.ns,fun k hk=>px_keep (own_lt h.own k hk).2 (h.ns k hk) h1 h2⟩
theorem CT.below {w w':World} {A:Pa} {vb vt v:Value} {T:List Nat} (h:CT w A vb vt v T) (hb:Below w.heap.size w w'):CT w' A vb vt v T:=⟨own_below h.own hb,h.ns⟩
def ClassesR (G:Aut) (w:World) (e:Ending) (w':World):Prop:=∃ A vb vt P,e= .returned (.pointer (some ⟨A.p,0,none⟩))∧PM w' w.heap.size A vb vt vb vt G.n P∧PB G.n P∧Cls G P.b∧Below w.heap.size w w'
set_option maxRecDepth 1000000 in
set_option maxHeartbeats 32000000 in
theorem classesP_any (G:Aut) (hG:G.Ok) (n:Nat) (hgn:G.n=n) (hn:n≤2000) (l:List (List Nat)) (hl:l.length=n) (hd:∀ s c,s<n→c<11→(l.getD s []).getD c 0=G.d s c) (fl:List Bool) (hfl:fl.length=n) (hf:∀ s,s<n→fl.getD s false=G.f s) (a1:Option Addr) (c1:Nat) (a2:Option Addr) (c2:Nat) (w:World) (hR:Rd 11 encG w (.slice a1 n c1) l) (hO:Rd 1 encO w (.slice a2 n c2) fl):
  Calls Tryz.prog 103 #[.agg #[.slice a1 n c1,.slice a2 n c2]] w (ClassesR G w):=by
 subst hgn
 have h0:0<G.n:=by have:=hG.st;omega
 have BA:=(Below.refl w.heap.size w).alloc (Nat.le_refl _) (.cells #[.slice a1 G.n c1,.slice a2 G.n c2] 134)
 have k0:=Blk.new w 134 #[.slice a1 G.n c1,.slice a2 G.n c2]
 obtain⟨W0,hW0⟩:∃ W0,w.alloc (.cells #[.slice a1 G.n c1,.slice a2 G.n c2] 134)=W0:=⟨_,rfl⟩
 rw [hW0] at BA k0
 have HR:=Lib.hid (hR.below BA)
 have HO:=Lib.hid (hO.below BA)
 have HW0:=Lib.hid hW0
 obtain⟨g,hg⟩:∃ g,w.heap.size=g:=⟨_,rfl⟩
 have HGG:=Lib.hid hg
 rw [hg] at k0
 have K0:=Lib.hid k0
 have HBA:=Lib.hid BA
 have HD:=Lib.hid hd
 have HL:=Lib.hid hl
 have HFL:=Lib.hid hfl
 have HF:=Lib.hid hf
 have HOK:=Lib.hid hG
 have HGL:=Lib.hid k0.lt
 have m0:W0.cell? ⟨g,0,none⟩=some (.slice a1 G.n c1):=k0.cell 0
 have HWH:=Lib.hid (whole_any G.n h0 (by omega) W0)
 clear hR hO BA k0 hW0 hg hd hl hfl hf hG
 obtain⟨base,hbase⟩:∃ base,W0.heap.size=base:=⟨_,rfl⟩
 have HBS:=Lib.hid hbase
 clear hbase
 go_enter Tryz.func103,Tryz.ntmps103
 go_wp2_with fail
 go_step3
 rw [HW0.out,HGG.out]
 clear HW0
 go_wp2_with fail
 refine HWH.out.mono ?_
 rintro e w1 ⟨A,vb,vt,rfl,hpm,hb1⟩
 rw [HBS.out] at hpm hb1
 have P1:=Lib.hid hpm
 have B1:=Lib.hid hb1
 have m1:w1.cell? ⟨g,1,none⟩=some (.slice a2 G.n c2):=(Blk.belowAt K0.out hb1 (HBS.out▸HGL.out)).cell 1
 clear hpm hb1 m0 HWH
 go_wp2_with fail
 go_loopw [20] (fun v20 wr=>∃(s:Nat) (P:Ptn) (vt1:Value),s≤G.n∧v20= .int .i64 (s:Nat)∧PM wr base A vb vt1 vb vt1 G.n P∧R0 G s P∧Below base W0 wr) (fun v20 _=>G.n - (intOf v20).toNat)
 case atStart=>exact⟨0,ptn0 G.n,vt,Nat.zero_le _,rfl,P1.out,r0_start G h0,B1.out⟩
 case round=>
  rename World=>wz
  obtain⟨s,P,vt1,hs,rfl,hpm,hr0,hb⟩:=hrel
  have PZ:=Lib.hid hpm
  have RZ:=Lib.hid hr0
  have BZ:=Lib.hid hb
  have HBZ:=Lib.hid (HBS.out▸hb.size:base≤wz.heap.size)
  clear hpm hr0 hb P1 B1 m1
  by_cases hlt:s<G.n
  ·have h9:(s:Int)<(G.n:Int):=by omega
   have HLT:=Lib.hid hlt
   obtain⟨b2,off2,rfl,k2⟩:=(HO.out.below (HBS.out▸BZ.out)).boo s (by rw [HFL.out];exact hlt)
   rw [HF.out s hlt] at k2
   cases hfs:G.f s with
   |false=>
    have HN:=Lib.hid (RZ.out.skip hfs)
    rw [hfs] at k2
    clear hfs
    go_wp2_with fail
    go_roundw
    case measure=>(have:=HLT.out);simp [intOf]<;>omega
    case rel=>exact⟨s+1,P,vt1,HLT.out,by(have:=HLT.out);go_num,PZ.out,HN.out,BZ.out⟩
   |true=>
    have HN:=Lib.hid (RZ.out.take hlt hfs)
    rw [hfs] at k2
    have d1:IntKind.i32.wrap ((s:Nat):Int)=(s:Int):=by rw [IntKind.wrap_i32];omega
    have HMK:=Lib.hid (mark_any wz base A vb vt1 G.n P s PZ.out RZ.out.pb RZ.out.tc hlt (RZ.out.no hlt) (by omega) HBZ.out)
    clear hfs
    go_wp2_with fail
    refine HMK.out.mono ?_
    rintro e w3 ⟨vt2,rfl,hpm,hfr,hov⟩
    have P3:=Lib.hid hpm
    have B3:=Lib.hid (BZ.out.trans (hfr.below HBZ.out (fun k hk=>(PZ.out.px k hk).1)))
    clear hpm hfr hov
    go_wp2_with fail
    go_roundw
    case measure=>(have:=HLT.out);simp [intOf]<;>omega
    case rel=>exact⟨s+1,markP P s,vt2,HLT.out,by(have:=HLT.out);go_num,P3.out,HN.out,B3.out⟩
  ·obtain rfl:s=G.n:=by omega
   have h9:¬ (G.n:Int)<(G.n:Int):=by omega
   have HSP:=Lib.hid (split_anyA wz base A vb vt1 G.n P PZ.out RZ.out.pb RZ.out.tc (by omega) HBZ.out)
   go_wp2_with fail
   refine HSP.out.mono ?_
   rintro e w3 ⟨P3,vb3,vt3,rfl,hpm,hsp,hfr,hov1,hov2⟩
   have PM3:=Lib.hid hpm
   have RI3:=Lib.hid (RZ.out.done hsp)
   have B3:=Lib.hid (BZ.out.trans (hfr.below HBZ.out (fun k hk=>(PZ.out.px k hk).1)))
   have HB3:=Lib.hid (HBS.out▸B3.out.size:base≤w3.heap.size)
   have m0:w3.cell? ⟨g,0,none⟩=some (.slice a1 G.n c1):=(Blk.belowAt K0.out B3.out (HBS.out▸HGL.out)).cell 0
   have m1:w3.cell? ⟨g,1,none⟩=some (.slice a2 G.n c2):=(Blk.belowAt K0.out B3.out (HBS.out▸HGL.out)).cell 1
   have HRV:=Lib.hid (reversed_any G G.n h0 (by omega) l HL.out HD.out HOK.out.go a1 c1 a2 G.n c2 w3 (HR.out.below (HBS.out▸B3.out)))
   clear hpm hsp hfr hov1 hov2 PZ RZ BZ HBZ HSP
   go_wp2_with fail
   refine HRV.out.mono ?_
   rintro e w4 ⟨fb,ob,vo,rfl,hff,hfo,hvo,hlf,hlo,hb4⟩
   have bA:=(Below.refl w4.heap.size w4).alloc (Nat.le_refl _) (.cells #[.slice (some ⟨fb,0,none⟩) G.n G.n,.slice (some ⟨ob,0,none⟩) G.n G.n] 182)
   have kA:=Blk.new w4 182 #[.slice (some ⟨fb,0,none⟩) G.n G.n,.slice (some ⟨ob,0,none⟩) G.n G.n]
   obtain⟨w5,hw5⟩:∃ w5,w4.alloc (.cells #[.slice (some ⟨fb,0,none⟩) G.n G.n,.slice (some ⟨ob,0,none⟩) G.n G.n] 182)=w5:=⟨_,rfl⟩
   rw [hw5] at bA kA
   obtain⟨nb,hnb⟩:∃ nb,w4.heap.size=nb:=⟨_,rfl⟩
   rw [hnb] at kA
   have HNB:=Lib.hid hnb
   have HW5:=Lib.hid hw5
   have CE5:Hid (CE G w5 base A vb3 vt3 P3 fb ob nb vo):=Lib.hid ⟨(PM3.out.below hb4).below bA,hff.below bA,hfo.below bA,kA⟩
   have VO:=Lib.hid hvo
   have B5:=Lib.hid ((B3.out.trans (hb4.mono HB3.out)).trans (bA.mono (Nat.le_trans HB3.out hb4.size)))
   clear hff hfo hvo hlf hlo hb4 bA kA hw5 hnb PM3 B3 HB3 m0 m1 HRV
   go_upto_region 10 with fail
   rw [HW5.out,HNB.out]
   clear HW5
   go_wp2_with fail
   go_step3
   go_wp2_with fail
   go_loopw [7] (fun v7 wr=>∃(i:Nat) (P:Ptn) (vb vt:Value),i≤P.l.length∧v7= .int .i64 (i:Nat)∧CE G wr base A vb vt P fb ob nb vo∧RI G i P∧Below base W0 wr) (fun v7 _=>G.n - (intOf v7).toNat)
   case atStart=>exact⟨1,P3,vb3,vt3,by have:=(RI3.out.pb.b_ 0 h0).1;omega,rfl,CE5.out,RI3.out,B5.out⟩
   case round=>
    rename World=>w6
    obtain⟨i,P,vb6,vt6,hi,rfl,hce,hri,hb⟩:=hrel
    have C6:=Lib.hid hce
    have R6:=Lib.hid hri
    have B6:=Lib.hid hb
    have HB6:=Lib.hid (HBS.out▸hb.size:base≤w6.heap.size)
    have hle:=hri.pb.len_le
    obtain⟨pb,cb,hvb⟩:=hce.pm.ol.slice
    have m3:w6.cell? ⟨A.p,3,none⟩=some (.slice pb P.l.length cb):=by rw [←hvb];exact hce.pm.kp.cell 3
    clear hce hri hb CE5 RI3 B5
    by_cases hlt:i<P.l.length
    ·have h9:(i:Int)<(P.l.length:Int):=by omega
     have HLT:=Lib.hid hlt
     have hin:i<G.n:=by omega
     have HST:=Lib.hid (states_any w6 base A vb6 vt6 G.n P i C6.out.pm R6.out.pb hlt (by omega))
     go_wp2_with fail
     refine HST.out.mono ?_
     rintro e w7 ⟨v8,rfl,hown,hb7⟩
     have CT7:Hid (CT w7 A vb6 vt6 v8 (stL P i)):=Lib.hid ⟨Own1.base hown (Nat.zero_le _),fun k hk e=>by
      have h1:=(own_lt hown k hk).1
      have h2:=(C6.out.pm.px k e).2
      omega⟩
     have C7:=Lib.hid (C6.out.below hb7)
     have B7:=Lib.hid (B6.out.trans (hb7.mono HB6.out))
     have HTM:=Lib.hid (stL_mem R6.out.pb hlt)
     have HTN:=Lib.hid (stL_nodup R6.out.pb hlt)
     have HTL:=Lib.hid (stL_len R6.out.pb hlt)
     obtain⟨T,hT⟩:∃ T,stL P i=T:=⟨_,rfl⟩
     rw [hT] at CT7 HTM HTN HTL
     obtain⟨pT,qT,hpT⟩:=CT7.out.own.slice
     obtain⟨TL,hTLe⟩:∃ TL,T.length=TL:=⟨_,rfl⟩
     have HTE:=Lib.hid hTLe
     have hTL:TL≤G.n:=by have:=HTL.out;omega
     rw [hTLe] at hpT
     subst hpT
     clear hTLe hown hb7 hT C6 B6 HB6 m3 HST
     go_wp2_with fail
     go_loopw [47] (fun v47 wr=>∃(c:Nat) (Q:Ptn) (vb vt:Value),c≤11∧v47= .int .i64 (c:Nat)∧CE G wr base A vb vt Q fb ob nb vo∧CT wr A vb vt (.slice pT TL qT) T∧RJ G i c P Q∧Below base W0 wr) (fun v47 _=>11 - (intOf v47).toNat)
     case atStart=>exact⟨0,P,vb6,vt6,by omega,rfl,C7.out,CT7.out,R6.out.use,B7.out⟩
     case round=>
      rename World=>w8
      obtain⟨c,Q,vb8,vt8,hc,rfl,hce,hct8,hrj,hb⟩:=hrel
      have C8:=Lib.hid hce
      have T8:=Lib.hid hct8
      have J8:=Lib.hid hrj
      have B8:=Lib.hid hb
      have hle8:=hrj.pb.len_le
      obtain⟨pb8,cb8,hvb8⟩:=hce.pm.ol.slice
      have m3:w8.cell? ⟨A.p,3,none⟩=some (.slice pb8 Q.l.length cb8):=by rw [←hvb8];exact hce.pm.kp.cell 3
      clear hce hct8 hrj hb C7 CT7 B7
      by_cases hct:c<11
      ·have h9c:(c:Int)<11:=by omega
       have h2000:¬ (2000:Int)<(Q.l.length:Int):=by omega
       have RK0:=Lib.hid (J8.out.start T (c:=c))
       go_wp2_with fail
       go_loopw [58] (fun v58 wr=>∃(j:Nat) (R:Ptn) (vt:Value),j≤TL∧v58= .int .i64 (j:Nat)∧CE G wr base A vb8 vt R fb ob nb vo∧CT wr A vb8 vt (.slice pT TL qT) T∧RK G T c j G.n Q R∧Below base W0 wr) (fun v58 _=>TL - (intOf v58).toNat)
       case atStart=>exact⟨0,Q,vt8,Nat.zero_le _,rfl,C8.out,T8.out,RK0.out,B8.out⟩
       case round=>
        rename World=>w9
        obtain⟨j,R,vt9,hj,rfl,hce,hct9,hrk,hb⟩:=hrel
        have C9:=Lib.hid hce
        have T9:=Lib.hid hct9
        have K9:=Lib.hid hrk
        have B9:=Lib.hid hb
        clear hce hct9 hrk hb C8 T8 B8 RK0
        by_cases hjt:j<TL
        ·have h9j:(j:Int)<(TL:Int):=by omega
         have HJT:=Lib.hid hjt
         have hjT:j<T.length:=by have:=HTE.out;omega
         obtain⟨bt,ot,rfl,ct⟩:=(T9.out.own.rd encM_len).i32 j hjT
         obtain⟨t,ht⟩:∃ t,T.getD j 0=t:=⟨_,rfl⟩
         have HTJ:Hid (T[j]? =some t):=Lib.hid (by rw [←ht,getD_getA hjT,List.getElem?_eq_getElem hjT])
         have htn:t<G.n:=((HTM.out t).1 (by rw [←ht,getD_getA hjT];exact List.getElem_mem hjT)).1
         rw [ht] at ct
         have ht9:(t:Int)<(G.n:Int):=by omega
         have cn0:w9.cell? ⟨nb,0,none⟩=some (.slice (some ⟨fb,0,none⟩) G.n G.n):=C9.out.kn.cell 0
         have cf:w9.cell? ⟨fb,t*11+c,none⟩=some (.int .i32 (prv G c t G.n)):=by
          rw [C9.out.ff.cell (by omega)]
          show some (Value.int .i32 (fsT G G.n 0 (t*11+c)))=_
          unfold fsT
          rw [show(t*11+c) % 11=c by omega,show(t*11+c) / 11=t by omega,if_neg (by omega)]
         have HPV:Hid (prv G c t G.n=prv G c t G.n):=Lib.hid rfl
         obtain⟨y,hy⟩:∃ y,prv G c t G.n=y:=⟨_,rfl⟩
         have HY:=Lib.hid hy
         rw [hy] at cf
         clear ht hy HPV
         go_wp2_with fail
         go_loopw [12] (fun v12 wr=>∃(m:Nat) (R:Ptn) (vt:Value) (y:Int),m≤G.n∧v12= .int .i32 y∧prv G c t m=y∧CE G wr base A vb8 vt R fb ob nb vo∧CT wr A vb8 vt (.slice (some ⟨bt,ot,none⟩) TL qT) T∧RK G T c j m Q R∧Below base W0 wr) (fun v12 _=>(intOf v12+1).toNat)
         case atStart=>exact⟨G.n,R,vt9,y,Nat.le_refl _,rfl,HY.out,C9.out,T9.out,K9.out,B9.out⟩
         case round=>
          rename World=>w10
          obtain⟨m,S,vt10,z,hm,rfl,hz,hce,hct9,hrk,hb⟩:=hrel
          have C10:=Lib.hid hce
          have T10:=Lib.hid hct9
          have K10:=Lib.hid hrk
          have B10:=Lib.hid hb
          have HB10:=Lib.hid (HBS.out▸hb.size:base≤w10.heap.size)
          clear hce hct9 hrk hb C9 T9 K9 B9 cn0 cf ct
          rcases prv_cases G c t m with⟨e1,e2⟩|⟨x,hxm,e1,e2,e3⟩
          ·have hz1:z= -1:=by rw [←hz,e1]
           subst hz1
           have HNX:=Lib.hid (K10.out.next HTJ.out e2)
           clear e1 e2 hz
           go_wp2_with fail
           go_roundw
           case measure=>(have:=HJT.out);simp [intOf]<;>omega
           case rel=>exact⟨j+1,S,vt10,HJT.out,by(have:=HJT.out);go_num,C10.out,T10.out,HNX.out,B10.out⟩
          ·have hzx:z=(x:Int):=by rw [←hz,e1]
           subst hzx
           have hxn:x<G.n:=by omega
           have hno:=K10.out.no HTN.out HTJ.out hxn hxm e2
           have HNX:=Lib.hid (K10.out.mark HTN.out HTJ.out hxn hxm e2 e3)
           have HMK:=Lib.hid (mark_any w10 base A vb8 vt10 G.n S x C10.out.pm K10.out.pb K10.out.tc hxn hno (by omega) HB10.out)
           have HEX:=Lib.hid e2
           have hne:((x:Int) != -1)=true:=by rw [bne_iff_ne];omega
           clear e1 e2 e3 hz hno
           go_wp2_with fail
           refine HMK.out.mono ?_
           rintro e w11 ⟨vt11,rfl,hpm,hfr,hov⟩
           have C11:=Lib.hid (C10.out.fr hpm hfr)
           have T11:=Lib.hid (T10.out.fr hfr (fun k e=> .inl e) hov)
           have B11:=Lib.hid (B10.out.trans (hfr.below HB10.out (fun k hk=>(C10.out.pm.px k hk).1)))
           have cn1:w11.cell? ⟨nb,1,none⟩=some (.slice (some ⟨ob,0,none⟩) G.n G.n):=C11.out.kn.cell 1
           have co:w11.cell? ⟨ob,x*11+c,none⟩=some (.int .i32 (prv G c t x)):=by
            rw [C11.out.fo.cell (by omega)]
            show some (Value.int .i32 (vo (x*11+c)))=_
            rw [VO.out x c hct (.inl hxn),HEX.out]
           have hx9:(x:Int)<(G.n:Int):=by omega
           obtain⟨z2,hz2⟩:∃ z2,prv G c t x=z2:=⟨_,rfl⟩
           have HZ2:=Lib.hid hz2
           have hz2x:z2<(x:Int)∧-1≤z2:=by
            rcases prv_cases G c t x with⟨e1,_⟩|⟨x2,h5,e1,_⟩
            ·rw [←hz2,e1];omega
            ·rw [←hz2,e1];omega
           rw [hz2] at co
           clear hpm hfr hov C10 T10 B10 K10 HB10 HMK hz2
           go_wp2_with fail
           go_roundw
           case measure=>simp [intOf]<;>omega
           case rel=>exact⟨x,markP S x,vt11,z2,by omega,rfl,HZ2.out,C11.out,T11.out,HNX.out,B11.out⟩
        ·obtain rfl:j=TL:=by omega
         have h9j:¬ (j:Int)<(j:Int):=by omega
         have HB9:=Lib.hid (HBS.out▸B9.out.size:base≤w9.heap.size)
         have HSP:=Lib.hid (split_anyA w9 base A vb8 vt9 G.n R C9.out.pm K9.out.pb K9.out.tc (by omega) HB9.out)
         go_wp2_with fail
         refine HSP.out.mono ?_
         rintro e w10 ⟨R2,vb10,vt10,rfl,hpm,hsp,hfr,hov1,hov2⟩
         have C10:=Lib.hid (C9.out.fr hpm hfr)
         have T10:=Lib.hid (T9.out.fr hfr hov1 hov2)
         have B10:=Lib.hid (B9.out.trans (hfr.below HB9.out (fun k hk=>(C9.out.pm.px k hk).1)))
         have J10:=Lib.hid (J8.out.step HOK.out hct R6.out K9.out.b0 K9.out.l0 (fun s hs=>by
          have h5:=K9.out
          rw [←HTE.out] at h5
          rw [h5.all s hs,HTM.out]
          exact⟨fun e=>e.2,fun e=>⟨HOK.out.go s c hs hct,e⟩⟩) hsp)
         clear hpm hsp hfr hov1 hov2 HSP
         go_wp2_with fail
         go_roundw
         case measure=>simp [intOf]<;>omega
         case rel=>exact⟨c+1,R2,vb10,vt10,by omega,by go_num,C10.out,T10.out,J10.out,B10.out⟩
      ·have hc11:c=11:=by omega
       subst hc11
       have h9c:¬ (11:Int)<11:=by omega
       have HDN:=Lib.hid (J8.out.done HOK.out R6.out HLT.out)
       have HLN:Hid (i+1≤Q.l.length):=Lib.hid (by have:=J8.out.len;have:=HLT.out;omega)
       go_wp2_with fail
       go_roundw
       case measure=>simp [intOf]<;>omega
       case rel=>exact⟨i+1,Q,vb8,vt8,HLN.out,by go_num,C8.out,HDN.out,B8.out⟩
    ·have hil:i=P.l.length:=by omega
     have h9:¬ (i:Int)<(P.l.length:Int):=by omega
     have HFIN:Hid (ClassesR G w (.returned (.pointer (some ⟨A.p,0,none⟩))) w6):=Lib.hid ⟨A,vb6,vt6,P,rfl,C6.out.pm.base (by have:=HBA.out.size;have:=HBS.out;omega),R6.out.pb,R6.out.cls HOK.out (by omega),HBA.out.trans (B6.out.mono (by have:=HBA.out.size;have:=HBS.out;omega))⟩
     go_wp2_with fail
     try rw [Exit.noGoto_ret]
     go_ret
     exact HFIN.out
theorem Tryz.elemI:Tryz.prog.elem 69=3:=by kernel_rfl
theorem cut_row (B q u v:Nat) (hu:u<v) (hv:v≤q) (wx:World):(Instr.slice 69 (.slice (some ⟨B,0,none⟩) q q) (some (.int .i64 (u:Nat))) (some (.int .i64 (v:Nat))) (some (.int .i64 (v:Nat)))).run Tryz.prog wx= .ok (.slice (some ⟨B,u,none⟩) (v - u) (v - u)) wx∧(Instr.sliceAt 69 (.slice (some ⟨B,0,none⟩) q q) (some (.int .i64 (u:Nat))) (some (.int .i64 (v:Nat))) (some (.int .i64 (v:Nat)))).run Tryz.prog wx= .ok (.slice (some ⟨B,u,none⟩) (v - u) (v - u)) wx:=by
 have ht:Tryz.prog.underlying 69=some (.slice (Tryz.prog.elem 69)):=by rw [Tryz.elemI];exact Tryz.underlying69
 have hs:(sizeOf (Tryz.prog.elem 69)).run Tryz.prog wx= .ok 1 wx:=by kernel_rfl
 have h2:sliced (some ⟨B,0,none⟩) (u:Int).toNat (v:Int).toNat (v:Int).toNat 1= .slice (some ⟨B,u,none⟩) (v - u) (v - u):=by
  unfold sliced
  rw [Int.toNat_natCast,Int.toNat_natCast,if_neg (by omega)]
  simp [Addr.add]
  try omega
 have h3:(Instr.slice 69 (.slice (some ⟨B,0,none⟩) q q) (some (.int .i64 (u:Nat))) (some (.int .i64 (v:Nat))) (some (.int .i64 (v:Nat)))).run Tryz.prog wx= .ok (.slice (some ⟨B,u,none⟩) (v - u) (v - u)) wx:=by
  have h1:=run_slice_lhm (P:=Tryz.prog) (w:=wx) 69 (some ⟨B,0,none⟩) q q ht .i64 .i64 .i64 (u:Int) (v:Int) (v:Int) (by omega) (by omega) (by omega) (by omega)
  rw [hs] at h1
  rw [h1]
  show Result.ok _ wx=_
  rw [h2]
 exact⟨h3,(run_sliceAt_slice (P:=Tryz.prog) (w:=wx) _ _ _ _ _ ht).trans h3⟩
def rowV (CB:Nat) (i:Nat):Value:= .slice (some ⟨CB,i*11,none⟩) 11 11
def zeroV (_:Nat):Value:= .int .i64 0
theorem Tryz.infoRB:(Tryz.prog.info? 69).map (fun i=>(i.zero,i.size,i.bytes))=some (some (.slice none 0 0),1,24):=by kernel_rfl
def RowsR (n:Nat) (w:World) (e:Ending) (w':World):Prop:=∃ LB CB:Nat,e= .returned (.slice (some ⟨LB,0,none⟩) n n)∧Fn LB 69 n (rowV CB) w'∧Fn CB 3 (n*11) zeroV w'∧w.heap.size≤LB∧w.heap.size≤CB∧Below w.heap.size w w'
set_option maxRecDepth 1000000 in
set_option maxHeartbeats 32000000 in
theorem rows_any (n:Nat) (hn:n≤2000) (w:World):Calls Tryz.prog 104 #[.int .i64 (n:Nat)] w (RowsR n w):=by
 obtain⟨q,hq⟩:∃ q,n*11=q:=⟨_,rfl⟩
 have HQ:=Lib.hid hq
 have hmk1:∀ wx:World,(Instr.makeSlice 69 (.int .i64 (q:Int)) (.int .i64 (q:Int))).run Tryz.prog wx= .ok (.slice (some ⟨wx.heap.size,0,none⟩) q q) (wx.alloc (.cells (madeCells #[.int .i64 0] q) 3)):=fun wx=>by
  have:=make_fn (P:=Tryz.prog) 69 3 _ 1 8 Tryz.underlying69 Tryz.infoI (by omega) (by omega) q (by omega) wx
  rw [Nat.mul_one] at this
  exact this
 have hmk2:∀ wx:World,(Instr.makeSlice 32 (.int .i64 (n:Int)) (.int .i64 (n:Int))).run Tryz.prog wx= .ok (.slice (some ⟨wx.heap.size,0,none⟩) n n) (wx.alloc (.cells (madeCells #[.slice none 0 0] n) 69)):=fun wx=>by
  have:=make_fn (P:=Tryz.prog) 32 69 _ 1 24 Tryz.underlying32 Tryz.infoRB (by omega) (by omega) n (by omega) wx
  rw [Nat.mul_one] at this
  exact this
 have HF1:Hid (∀ wx:World,Fn wx.heap.size 3 q zeroV (wx.alloc (.cells (madeCells #[.int .i64 0] q) 3))):=Lib.hid (fun wx=>(fn_made wx 3 #[.int .i64 0] q (by decide)).congr (fun i hi=>by simp [zeroV,Nat.mod_one]))
 have HF2:Hid (∀ wx:World,Fn wx.heap.size 69 n (fun _=> .slice none 0 0) (wx.alloc (.cells (madeCells #[.slice none 0 0] n) 69))):=Lib.hid (fun wx=>(fn_made wx 69 #[.slice none 0 0] n (by decide)).congr (fun i hi=>by simp [Nat.mod_one]))
 have d1:IntKind.i64.wrap ((n:Int)*11)=(q:Int):=by rw [IntKind.wrap_i64];omega
 have HWS:Hid (Below w.heap.size w w):=Lib.hid (Below.refl _ _)
 clear hq
 go_enter Tryz.func104,Tryz.ntmps104
 go_upto_region 1 with fail
 obtain⟨wd,hwd⟩:∃ wd,w.drew=wd:=⟨_,rfl⟩
 have HB0:Hid (Below w.heap.size w wd):=Lib.hid (by rw [←hwd];exact(Below.refl _ w).drew)
 have HDW:=Lib.hid hwd
 clear hwd
 go_cut [3,4] from 6 to 10 (fun v3 v4 wx=>∃ CB LB:Nat,v3= .slice (some ⟨CB,0,none⟩) q q∧v4= .slice (some ⟨LB,0,none⟩) n n∧Fn CB 3 q zeroV wx∧Fn LB 69 n (fun _=> .slice none 0 0) wx∧w.heap.size≤LB∧w.heap.size≤CB∧Below w.heap.size w wx)
 case first=>
  have hS:(fun _:World=>True) wd:=trivial
  refine region_hd 6 (fun _:World=>True) (by kernel_rfl) (by kernel_rfl) ?_
  rw [HDW.out]
  refine hd_taken 0 (some 6) _ ?hdv0 rfl rfl (by kernel_rfl) (fun _ _ _ h=>h) (Or.inl ⟨by rfl,?hdy0⟩) hS ?hdr0
  case hdy0=>(intro wx hx;(try dsimp only at hx);go_simp;try with_reducible rfl)
  try simp only [Act.put,zI,zO,zS]
  refine hd_taken 1 (some 7) _ ?hdv1 rfl rfl (by kernel_rfl) (fun _ _ _ h=>h) (Or.inl ⟨by rfl,?hdy1⟩) hS ?hdr1
  case hdy1=>(intro wx hx;(try dsimp only at hx);go_simp;try with_reducible rfl)
  try simp only [Act.put,zI,zO,zS]
  refine hd_taken 3 (some 9) _ ?hdv3 rfl rfl (by kernel_rfl) (fun _ _ _ h=>h) (Or.inl ⟨by rfl,?hdy3⟩) hS ?hdr3
  case hdy3=>(intro wx hx;(try dsimp only at hx);go_simp;try with_reducible rfl)
  try simp only [Act.put,zI,zO,zS]
  refine hd_list [2,4] (by kernel_rfl) (by decide) (by decide) (fun i hi=>?_)
  simp only [List.mem_cons,List.not_mem_nil,or_false] at hi
  rcases hi with rfl|rfl
  ·refine⟨_,rfl,fun K2 hK2=>?_⟩
   go_simp
   obtain⟨w2x,hw2⟩:∃ wx,wd.alloc (.cells (madeCells #[.int .i64 0] q) 3)=wx:=⟨_,rfl⟩
   have b2:=(Below.refl wd.heap.size wd).alloc (Nat.le_refl _) (.cells (madeCells #[.int .i64 0] q) 3)
   have f2:=HF1.out wd
   rw [hw2] at b2 f2 ⊢
   obtain⟨B2,hB2⟩:∃ B,wd.heap.size=B:=⟨_,rfl⟩
   have L2:Hid (w.heap.size≤B2):=Lib.hid (by have:=HB0.out.size;omega)
   have HB2:=Lib.hid (HB0.out.trans (b2.mono HB0.out.size))
   rw [hB2] at f2 ⊢
   have F2:=Lib.hid f2
   clear hw2 b2 f2 hB2
   refine hK2.out _ _ trivial ?_
   clear hK2 K2
   try simp only [Act.put,zI,zO,zS]
   refine hd_taken 5 (some 3) _ ?hdva5 rfl rfl (by kernel_rfl) (fun _ _ _ h=>h) (Or.inl ⟨by rfl,?hdya5⟩) trivial ?hdra5
   case hdya5=>(intro wx hx;(try dsimp only at hx);go_simp;try with_reducible rfl)
   try simp only [Act.put,zI,zO,zS]
   refine hd_list [4] (by kernel_rfl) (by decide) (by decide) (fun i hi=>?_)
   simp only [List.mem_cons,List.not_mem_nil,or_false] at hi
   subst hi
   refine⟨_,rfl,fun K4 hK4=>?_⟩
   go_simp
   obtain⟨w4x,hw4⟩:∃ wx,w2x.alloc (.cells (madeCells #[.slice none 0 0] n) 69)=wx:=⟨_,rfl⟩
   have b4:=(Below.refl w2x.heap.size w2x).alloc (Nat.le_refl _) (.cells (madeCells #[.slice none 0 0] n) 69)
   have f4:=HF2.out w2x
   rw [hw4] at b4 f4 ⊢
   obtain⟨B4,hB4⟩:∃ B,w2x.heap.size=B:=⟨_,rfl⟩
   have L4:Hid (w.heap.size≤B4):=Lib.hid (by have:=HB2.out.size;omega)
   have HB4:=Lib.hid (HB2.out.trans (b4.mono HB2.out.size))
   have F2:=Lib.hid (F2.out.below b4)
   rw [hB4] at f4 ⊢
   have F4:=Lib.hid f4
   clear hw4 b4 f4 hB4
   refine hK4.out _ _ trivial ?_
   clear hK4 K4
   try simp only [Act.put,zI,zO,zS]
   refine hd_done (by kernel_rfl) ?_
   simp only [List.drop_succ_cons,List.drop_zero]
   go_wp2
   go_meet
   exact⟨_,_,rfl,rfl,F2.out,F4.out,L4.out,L2.out,HB4.out⟩
  ·refine⟨_,rfl,fun K4 hK4=>?_⟩
   go_simp
   obtain⟨w4x,hw4⟩:∃ wx,wd.alloc (.cells (madeCells #[.slice none 0 0] n) 69)=wx:=⟨_,rfl⟩
   have b4:=(Below.refl wd.heap.size wd).alloc (Nat.le_refl _) (.cells (madeCells #[.slice none 0 0] n) 69)
   have f4:=HF2.out wd
   rw [hw4] at b4 f4 ⊢
   obtain⟨B4,hB4⟩:∃ B,wd.heap.size=B:=⟨_,rfl⟩
   have L4:Hid (w.heap.size≤B4):=Lib.hid (by have:=HB0.out.size;omega)
   have HB4:=Lib.hid (HB0.out.trans (b4.mono HB0.out.size))
   rw [hB4] at f4 ⊢
   have F4:=Lib.hid f4
   clear hw4 b4 f4 hB4
   refine hK4.out _ _ trivial ?_
   clear hK4 K4
   try simp only [Act.put,zI,zO,zS]
   refine hd_list [2] (by kernel_rfl) (by decide) (by decide) (fun i hi=>?_)
   simp only [List.mem_cons,List.not_mem_nil,or_false] at hi
   subst hi
   refine⟨_,rfl,fun K2 hK2=>?_⟩
   go_simp
   obtain⟨w2x,hw2⟩:∃ wx,w4x.alloc (.cells (madeCells #[.int .i64 0] q) 3)=wx:=⟨_,rfl⟩
   have b2:=(Below.refl w4x.heap.size w4x).alloc (Nat.le_refl _) (.cells (madeCells #[.int .i64 0] q) 3)
   have f2:=HF1.out w4x
   rw [hw2] at b2 f2 ⊢
   obtain⟨B2,hB2⟩:∃ B,w4x.heap.size=B:=⟨_,rfl⟩
   have L2:Hid (w.heap.size≤B2):=Lib.hid (by have:=HB4.out.size;omega)
   have HB2:=Lib.hid (HB4.out.trans (b2.mono HB4.out.size))
   have F4:=Lib.hid (F4.out.below b2)
   rw [hB2] at f2 ⊢
   have F2:=Lib.hid f2
   clear hw2 b2 f2 hB2
   refine hK2.out _ _ trivial ?_
   clear hK2 K2
   try simp only [Act.put,zI,zO,zS]
   refine hd_taken 5 (some 3) _ ?hdvb5 rfl rfl (by kernel_rfl) (fun _ _ _ h=>h) (Or.inl ⟨by rfl,?hdyb5⟩) trivial ?hdrb5
   case hdyb5=>(intro wx hx;(try dsimp only at hx);go_simp;try with_reducible rfl)
   try simp only [Act.put,zI,zO,zS]
   refine hd_done (by kernel_rfl) ?_
   simp only [List.drop_succ_cons,List.drop_zero]
   go_wp2
   go_meet
   exact⟨_,_,rfl,rfl,F2.out,F4.out,L4.out,L2.out,HB2.out⟩
 case rest=>
  rename World=>w1
  obtain⟨CB,LB,rfl,rfl,hc,hl,lL,lC,hb⟩:=hcut
  have C1:=Lib.hid hc
  have L1:=Lib.hid hl
  have B1:=Lib.hid hb
  clear hc hl hb hmk1 hmk2 HF1 HF2 HDW HB0
  go_wp2_with fail
  go_loopw [13] (fun v13 wr=>∃ i:Nat,i≤n∧v13= .int .i64 (i:Nat)∧Fn CB 3 q zeroV wr∧Fn LB 69 n (fun k=>if k<i then rowV CB k else .slice none 0 0) wr∧Below w.heap.size w wr) (fun v13 _=>n - (intOf v13).toNat)
  case atStart=>exact⟨0,Nat.zero_le _,rfl,C1.out,L1.out.congr (fun k _=>by simp),B1.out⟩
  case round=>
   rename World=>w2
   obtain⟨i,hi,rfl,hc,hl,hb⟩:=hrel
   have C2:=Lib.hid hc
   have L2:=Lib.hid hl
   have B2:=Lib.hid hb
   clear hc hl hb C1 L1 B1
   by_cases hlt:i<n
   ·have h9:(i:Int)<(n:Int):=by omega
    obtain⟨u,hu⟩:∃ u,i*11=u:=⟨_,rfl⟩
    have HU:=Lib.hid hu
    have hur:u+11≤q:=by have:=HQ.out;omega
    have d2:IntKind.i64.wrap ((i:Int)*11)=(u:Int):=by rw [IntKind.wrap_i64];omega
    have d3:IntKind.i64.wrap ((i:Int)+1)=(i:Int)+1:=by rw [IntKind.wrap_i64];omega
    obtain⟨v,hv⟩:∃ v,u+11=v:=⟨_,rfl⟩
    have d4:IntKind.i64.wrap (((i:Int)+1)*11)=(v:Int):=by rw [IntKind.wrap_i64];omega
    have hvu:v - u=11:=by omega
    have hc1:∀ wx,(Instr.slice 69 (.slice (some ⟨CB,0,none⟩) q q) (some (.int .i64 (u:Nat))) (some (.int .i64 (v:Nat))) (some (.int .i64 (v:Nat)))).run Tryz.prog wx= .ok (.slice (some ⟨CB,u,none⟩) 11 11) wx:=fun wx=>by
     have:=(cut_row CB q u v (by omega) (by omega) wx).1
     rw [hvu] at this
     exact this
    have hc2:∀ wx,(Instr.sliceAt 69 (.slice (some ⟨CB,0,none⟩) q q) (some (.int .i64 (u:Nat))) (some (.int .i64 (v:Nat))) (some (.int .i64 (v:Nat)))).run Tryz.prog wx= .ok (.slice (some ⟨CB,u,none⟩) 11 11) wx:=fun wx=>by
     have:=(cut_row CB q u v (by omega) (by omega) wx).2
     rw [hvu] at this
     exact this
    have cl:=L2.out.cell hlt
    have cz:=L2.out.frozen i
    have HN:=Lib.hid (And.intro ((L2.out.put hlt (.slice (some ⟨CB,u,none⟩) 11 11)).congr (g:=fun k=>if k<i+1 then rowV CB k else .slice none 0 0) (fun k hk=>by
     unfold updB
     by_cases e:k=i
     ·subst e
      rw [if_pos rfl,if_pos (by omega)]
      unfold rowV
      rw [HU.out]
     ·rw [if_neg e]
      by_cases h:k<i
      ·dsimp only;rw [if_pos h,if_pos (by omega)]
      ·dsimp only;rw [if_neg h,if_neg (by omega)])) (And.intro (C2.out.grown (grown_set w2 LB i (.slice (some ⟨CB,u,none⟩) 11 11)) (fun e=>(by
       injection e with e
       exact L2.out.apart C2.out (by decide) e))) (B2.out.setCell (p:=⟨LB,i,none⟩) lL (.slice (some ⟨CB,u,none⟩) 11 11))))
    clear hu hv hvu
    go_wp2_with fail
    go_roundw
    case measure=>simp [intOf]<;>omega
    case rel=>exact⟨i+1,by omega,by go_num,HN.out.2.1,HN.out.1,HN.out.2.2⟩
   ·obtain rfl:i=n:=by omega
    have h9:¬ (i:Int)<(i:Int):=by omega
    have HFIN:Hid (RowsR i w (.returned (.slice (some ⟨LB,0,none⟩) i i)) w2):=Lib.hid ⟨LB,CB,rfl,L2.out.congr (fun k hk=>if_pos hk),by rw [HQ.out];exact C2.out,lL,lC,B2.out⟩
    go_wp2_with fail
    go_ret
    exact HFIN.out
end Go.Proofs.YtobapaodpcheiaaGreatDoor
