/- What the row stands on, part 19. -/
import Derived.Test.YtobapaodpcheiaaGreatDoorQ18
namespace Go.Proofs.YtobapaodpcheiaaGreatDoor
open Go.RowKit
set_option linter.unusedVariables false
theorem own_cut0 {α:Type} {k:Nat} {enc:α→List Value} {w:World} {base:Nat} {e:TypeId} {a:Option Addr} {n c:Nat} {l:List α} (h:Own1 k enc w base e (.slice a n c) l):sliced a 0 0 c k= .slice a 0 c∧Own1 k enc w base e (.slice a 0 c) ([]:List α):=by
 rcases h.2 with⟨h0,_⟩|⟨g,cap,cur,hv,hB,hg,hnc,hcap,hsz,hr⟩
 ·injection h0 with h1 h2 h3
  subst h1 h2 h3
  exact⟨rfl,own1_nil _ _ _⟩
 ·injection hv with h1 h2 h3
  subst h1 h3
  refine⟨?_,⟨by simp,.inr ⟨g,c,cur,rfl,hB,hg,Nat.zero_le _,hcap,hsz,by simp⟩⟩⟩
  unfold sliced
  by_cases hc:c=0
  ·rw [if_pos hc];simp
  ·rw [if_neg hc];simp [Addr.add]
theorem own0 (pt:Option Addr) (C qt:Nat):(Value.slice pt C qt).ownBlock=(Value.slice pt 0 qt).ownBlock:=by cases pt<;>rfl
theorem PM.cutC {w:World} {base n:Nat} {A:Pa} {vb0 vt0 vb:Value} {pt:Option Addr} {C qt:Nat} {p:Ptn} (h:PM w base A vb0 vt0 vb (.slice pt C qt) n p):PM w base A vb0 vt0 vb (.slice pt 0 qt) n (noC p):=by
 have e:=own0 pt C qt
 exact⟨h.kp,h.fo,h.fq,h.fb,h.ol,(own_cut0 h.oc).2,h.oq,h.ob,h.qb,e▸h.to_,e▸h.tq,e▸h.tb,h.lp,h.lo,h.lq,h.lb⟩
theorem sub_wrap {t m:Nat} (h:m≤t) (ht:t≤1000000):IntKind.i32.wrap ((t:Int) - (m:Int))=((t - m:Nat):Int):=by rw [IntKind.wrap_i32];omega
def SplitR (w:World) (base:Nat) (A:Pa) (vb vt:Value) (n:Nat) (p:Ptn) (e:Ending) (w':World):Prop:=∃ p' vb' vt',e= .returned (.tuple #[])∧PM w' base A vb' vt' vb' vt' n p'∧SP n p p'∧Fr (PX A vb vt) w w'∧(∀ k,vb'.ownBlock=some k→vb.ownBlock=some k∨w.heap.size≤k)∧(∀ k,vt'.ownBlock=some k→vt.ownBlock=some k∨w.heap.size≤k)
set_option maxRecDepth 1000000 in
set_option maxHeartbeats 16000000 in
theorem split_anyA (w:World) (base:Nat) (A:Pa) (vb vt:Value) (n:Nat) (p:Ptn) (h:PM w base A vb vt vb vt n p) (hp:PB n p) (hc:TC p) (hn:n≤1000000) (hbs:base≤w.heap.size):
  Calls Tryz.prog 117 #[.pointer (some ⟨A.p,0,none⟩)] w (SplitR w base A vb vt n p):=by
 obtain⟨pt,qt,hvt⟩:=h.oc.slice
 subst hvt
 obtain⟨C,hC⟩:∃ C,p.c.length=C:=⟨_,rfl⟩
 have HC:=Lib.hid hC
 have HCN:Hid (C≤1000000):=Lib.hid (by
  have:=nodup_len (a:=p.c) (b:=List.range p.l.length) hc.nd (fun x hx=>List.mem_range.2 (hc.lt x hx))
  have h2:=hp.len_le
  simp at this
  omega)
 have HPXW:=Lib.hid h.px
 rw [hC] at h HPXW ⊢
 have HPM:=Lib.hid h
 have HPB:=Lib.hid hp
 have HTC:=Lib.hid hc
 have HBS:=Lib.hid hbs
 have m4:w.cell? ⟨A.p,4,none⟩=some (.slice pt C qt):=HPM.out.kp.cell 4
 clear h hp hc hC hbs
 go_enter Tryz.func117,Tryz.ntmps117
 go_wp2_with fail
 go_loopw [15] (fun v15 wr=>∃(j:Nat) (P:Ptn) (vb':Value),j≤C∧v15= .int .i64 (j:Nat)∧PM wr base A vb' (.slice pt C qt) vb' (.slice pt C qt) n P∧SIB n p P (p.c.take j)∧P.c=p.c∧Fr (PX A vb (.slice pt C qt)) w wr∧(∀ k,vb'.ownBlock=some k→vb.ownBlock=some k∨w.heap.size≤k)) (fun v15 _=>C - (intOf v15).toNat)
 case atStart=>exact⟨0,p,vb,Nat.zero_le _,rfl,HPM.out,si_start HPB.out,rfl,Fr.refl _ _,fun k e=> .inl e⟩
 case round=>
  rename World=>wz
  obtain⟨j,P,vb1,hj,rfl,hPM,hSI,hPc,hFr,hOw⟩:=hrel
  have PZ:=Lib.hid hPM
  have SZ:=Lib.hid hSI
  have CZ:=Lib.hid hPc
  have FZ:=Lib.hid hFr
  have OZ:=Lib.hid hOw
  clear hPM hSI hPc hFr hOw m4
  have hCn:=HCN.out
  by_cases hlt:j<C
  ·have h9:(j:Int)<(C:Int):=by omega
   have HLT:=Lib.hid hlt
   have hjc:j<p.c.length:=by have:=HC.out;omega
   obtain⟨i,hi⟩:∃ i,p.c.getD j 0=i:=⟨_,rfl⟩
   have himem:i∈p.c:=by rw [←hi,getD_getA hjc];exact List.getElem_mem hjc
   have hil0:=HTC.out.lt i himem
   have hik:=(HTC.out.iff_ i hil0).1 himem
   have HNP:Hid (i ∉p.c.take j):=Lib.hid (fun hm=>by
    obtain⟨k,hk,e⟩:=List.getElem_of_mem hm
    rw [List.length_take] at hk
    rw [List.getElem_take] at e
    rw [←hi,getD_getA hjc] at e
    have:=(List.getElem_inj HTC.out.nd).1 e
    omega)
   have HST:=Lib.hid (SZ.out.step HPB.out hil0 HNP.out hik)
   have HTK:Hid (p.c.take (j+1)=p.c.take j++ [i]):=Lib.hid (by rw [List.take_succ_eq_append_getElem hjc,←hi,getD_getA hjc])
   have hil:i<P.l.length:=Nat.lt_of_lt_of_le hil0 SZ.out.len
   have hle:P.l.length≤n:=SZ.out.pb.len_le
   have hbl:=SZ.out.pb.l_ i hil
   have hkk:0<(P.at_ i).k:=by rw [SZ.out.same i hil0 HNP.out];exact hik
   obtain⟨bt,ot,hbt,ct⟩:=(PZ.out.oc.rd encM_len).i32 j (by rw [CZ.out];exact hjc)
   subst hbt
   rw [CZ.out,hi] at ct
   obtain⟨g,c,hvb,hf0,hf1,hf2,hfz⟩:=PZ.out.bk hil
   subst hvb
   obtain⟨F,hF⟩:∃ F,(P.at_ i).f=F:=⟨_,rfl⟩
   obtain⟨U,hU⟩:∃ U,(P.at_ i).t=U:=⟨_,rfl⟩
   obtain⟨K,hK⟩:∃ K,(P.at_ i).k=K:=⟨_,rfl⟩
   have HF:=Lib.hid hF
   have HU:=Lib.hid hU
   have HK:=Lib.hid hK
   rw [hF] at hf0 hbl
   rw [hU] at hf1 hbl
   rw [hK] at hf2 hbl hkk
   have HFZ:=Lib.hid hfz
   obtain⟨L,hL⟩:∃ L,P.l.length=L:=⟨_,rfl⟩
   have HL:=Lib.hid hL
   rw [hL] at hil hle PZ OZ
   clear hi himem hil0 hik hjc hF hU hK hfz hL
   have m3:wz.cell? ⟨A.p,3,none⟩=some (.slice (some ⟨g,0,none⟩) L c):=PZ.out.kp.cell 3
   have hi9:(i:Int)<(L:Int):=by omega
   have hLn:0<L:=by omega
   have hC0:0<C:=by omega
   obtain⟨M,hM⟩:∃ M,F+K=M:=⟨_,rfl⟩
   have HM:=Lib.hid hM
   have d1:IntKind.i32.wrap ((F:Int)+(K:Int))=(M:Int):=by rw [IntKind.wrap_i32];omega
   have hMU:M≤U:=by omega
   obtain⟨R,hR⟩:∃ R,U - M=R:=⟨_,rfl⟩
   have HR:=Lib.hid hR
   have d2:IntKind.i32.wrap ((U:Int) - (M:Int))=(R:Int):=by rw [sub_wrap hMU (by omega),hR]
   have hFU:F<U:=hbl.1
   have hUn:U≤n:=hbl.2.1
   have hMF:F<M:=by omega
   clear hM hR hbl
   go_upto_region 4 with fail
   go_quiet (fail)
   obtain⟨w1,hw1⟩:∃ w1,wz.drewN nq=w1:=⟨_,rfl⟩
   have P1:=Lib.hid (PZ.out.below (below_drewN (Below.refl _ wz) nq))
   have F1:=Lib.hid (FZ.out.trans (Fr.of_below (X:=fun _=>False) (below_drewN (Below.refl _ wz) nq)) (fun _ _ e=>e.elim))
   rw [hw1] at P1 F1 ⊢
   have hc2:w1.cell? ⟨g,i*3+2,none⟩=some (.int .i32 (K:Nat)):=by rw [←hw1];exact hf2
   have hz2:w1.frozen? ⟨g,i*3+2,none⟩=false:=by rw [←hw1];exact HFZ.out _
   clear hw1 m3 hf0 hf1 hf2 ct PZ FZ HFZ
   go_upto_region 6 with fail
   obtain⟨w2,hw2⟩:∃ w2,w1.setCell ⟨g,i*3+2,none⟩ (.int .i32 0)=w2:=⟨_,rfl⟩
   have P2:=Lib.hid (P1.out.setK (i:=i) (j:=2) (g:=g) (c:=c) (by rw [HL.out];exact hil) (by omega) (by rw [HL.out]) ⟨F,U,0⟩ (.int .i32 0) (by
    unfold encK
    rw [HF.out,HU.out]
    rfl))
   have F2:=Lib.hid (F1.out.trans (Fr.set (X:=fun k=>k=g) g (i*3+2) (.int .i32 0) rfl) (fun k hk e=>by
    have e0:(Value.slice (some ⟨g,0,none⟩) L c).ownBlock=some k:=by rw [e];rfl
    rcases OZ.out k e0 with e1|e1
    ·exact .inr (.inr (.inr (.inr (.inl e1))))
    ·omega))
   rw [hw2] at P2 F2 ⊢
   clear hw2 hc2 hz2 P1 F1
   have HLS:Hid ((P.l.set i ⟨F,U,0⟩).length=L):=Lib.hid (by rw [List.length_set];exact HL.out)
   have HAT:Hid ((⟨P.o,P.q,P.b,P.l.set i ⟨F,U,0⟩,P.c⟩:Ptn).at_ i=⟨F,U,0⟩):=Lib.hid ((getD_set (by rw [HL.out];exact hil)).trans (if_pos rfl))
   obtain⟨g',c',hg',hf0,hf1,hf2,hfz⟩:=P2.out.bk (i:=i) (by show i<(P.l.set i ⟨F,U,0⟩).length;rw [HLS.out];exact hil)
   injection hg' with e1 _ _
   injection e1 with e1
   injection e1 with e1 _
   subst e1
   rw [HAT.out] at hf0 hf1 hf2
   replace hf0:w2.cell? ⟨g,i*3,none⟩=some (.int .i32 (F:Nat)):=hf0
   replace hf1:w2.cell? ⟨g,i*3+1,none⟩=some (.int .i32 (U:Nat)):=hf1
   have HFZ:=Lib.hid hfz
   clear hf2 hfz
   by_cases hR0:R=0
   ·have t:((R:Int)==0)=true:=by rw [hR0];rfl
    have t':(R==0)=true:=by rw [hR0];rfl
    have HS1:Hid (split1 P i=⟨P.o,P.q,P.b,P.l.set i ⟨F,U,0⟩,P.c⟩):=Lib.hid (by
     unfold split1
     dsimp only
     rw [HF.out,HU.out,HK.out,HM.out,HR.out,if_pos hR0]
     unfold clearP
     rw [HF.out,HU.out])
    have HRL:Hid (PM w2 base A (.slice (some ⟨g,0,none⟩) L c) (.slice (some ⟨bt,ot,none⟩) C qt) (.slice (some ⟨g,0,none⟩) L c) (.slice (some ⟨bt,ot,none⟩) C qt) n (split1 P i)):=Lib.hid (by rw [HS1.out];exact P2.out)
    clear hR0
    go_wp2_with fail
    go_roundw
    case measure=>(have:=HLT.out;have:=HCN.out);simp [intOf]<;>omega
    case rel=>exact⟨j+1,split1 P i,_,HLT.out,by(have:=HLT.out;have:=HCN.out);go_num,HRL.out,by rw [HTK.out];exact HST.out,(split1_c P i).trans CZ.out,F2.out,OZ.out⟩
   ·have t:((R:Int)==0)=false:=by rw [beq_eq_false_iff_ne];omega
    have t':(R==0)=false:=by rw [beq_eq_false_iff_ne];exact hR0
    by_cases hKR:K<R
    ·have h7:(K:Int)<(R:Int):=by omega
     have HS1:Hid (split1 P i=cutP P i F M M U):=Lib.hid (by
      unfold split1
      dsimp only
      rw [HF.out,HU.out,HK.out,HM.out,HR.out,if_neg hR0,if_pos hKR])
     clear hR0 hKR
     go_upto_region 13 with fail
     obtain⟨w3,hw3⟩:∃ w3,w2.alloc (.cells #[.int .i32 (F:Nat),.int .i32 (M:Nat),.int .i32 0] 188)=w3:=⟨_,rfl⟩
     have bA:=(Below.refl w2.heap.size w2).alloc (Nat.le_refl _) (.cells #[.int .i32 (F:Nat),.int .i32 (M:Nat),.int .i32 0] 188)
     have kA:=Blk.new w2 188 #[.int .i32 (F:Nat),.int .i32 (M:Nat),.int .i32 0]
     rw [hw3] at bA kA ⊢
     have P3:=Lib.hid (P2.out.below bA)
     have F3:=Lib.hid (F2.out.trans (Fr.of_below (X:=fun _=>False) bA) (fun _ _ e=>e.elim))
     obtain⟨nb,hnb⟩:∃ nb,w2.heap.size=nb:=⟨_,rfl⟩
     rw [hnb] at kA ⊢
     have KA:=Lib.hid kA
     have HGN:Hid (nb≠g):=Lib.hid (fun e=>by
      have h1:=(P2.out.px g (.inr (.inr (.inr (.inr (.inl rfl)))))).2
      omega)
     obtain⟨g',c',hg',ce0,ce1,_,cz⟩:=P3.out.bk (i:=i) (by show i<(P.l.set i ⟨F,U,0⟩).length;rw [HLS.out];exact hil)
     injection hg' with e1 _ _
     injection e1 with e1
     injection e1 with e1 _
     subst e1
     rw [HAT.out] at ce0 ce1
     replace ce0:w3.cell? ⟨g,i*3,none⟩=some (.int .i32 (F:Nat)):=ce0
     replace ce1:w3.cell? ⟨g,i*3+1,none⟩=some (.int .i32 (U:Nat)):=ce1
     have cz3:=cz (i*3)
     clear hw3 bA kA hnb hf0 hf1 P2 F2 cz
     have P4:=Lib.hid (P3.out.setK (i:=i) (j:=0) (g:=g) (c:=c) (by show i<(P.l.set i ⟨F,U,0⟩).length;rw [HLS.out];exact hil) (by omega) (by show Value.slice _ L c=Value.slice _ (P.l.set i ⟨F,U,0⟩).length c;rw [HLS.out]) ⟨M,U,0⟩ (.int .i32 (M:Nat)) (by
      rw [HAT.out]
      rfl))
     have F4:=Lib.hid (F3.out.trans (Fr.set (X:=fun k=>k=g) g (i*3) (.int .i32 (M:Nat)) rfl) (fun k hk e=>by
      have e0:(Value.slice (some ⟨g,0,none⟩) L c).ownBlock=some k:=by rw [e];rfl
      rcases OZ.out k e0 with e1|e1
      ·exact .inr (.inr (.inr (.inr (.inl e1))))
      ·omega))
     have KA4:=Lib.hid (KA.out.far (p:=⟨g,i*3,none⟩) HGN.out (.int .i32 (M:Nat)))
     go_upto_region 14 with fail
     obtain⟨w4,hw4⟩:∃ w4,w3.setCell ⟨g,i*3,none⟩ (.int .i32 (M:Nat))=w4:=⟨_,rfl⟩
     have P4':Hid (PM w4 base A (.slice (some ⟨g,0,none⟩) L c) (.slice (some ⟨bt,ot,none⟩) C qt) (.slice (some ⟨g,0,none⟩) L c) (.slice (some ⟨bt,ot,none⟩) C qt) n ⟨P.o,P.q,P.b,P.l.set i ⟨M,U,0⟩,P.c⟩):=Lib.hid (by
      have:=P4.out
      rw [show((⟨P.o,P.q,P.b,P.l.set i ⟨F,U,0⟩,P.c⟩:Ptn).l.set i ⟨M,U,0⟩)=P.l.set i ⟨M,U,0⟩ from by show(P.l.set i ⟨F,U,0⟩).set i ⟨M,U,0⟩=_;rw [List.set_set]] at this
      rw [←hw4]
      exact this)
     rw [hw4] at F4 KA4 ⊢
     clear hw4 P4 ce0 ce1 cz3 P3 F3 KA
     have HLL:Hid ((P.l.set i ⟨M,U,0⟩).length=L):=Lib.hid (by rw [List.length_set];exact HL.out)
     have c0:w4.cell? ⟨nb,0,none⟩=some (.int .i32 (F:Nat)):=KA4.out.cell 0
     have c1:w4.cell? ⟨nb,1,none⟩=some (.int .i32 (M:Nat)):=KA4.out.cell 1
     have c2:w4.cell? ⟨nb,2,none⟩=some (.int .i32 0):=KA4.out.cell 2
     have HAD:=Lib.hid (add_any w4 base A (.slice (some ⟨g,0,none⟩) L c) (.slice (some ⟨bt,ot,none⟩) C qt) n ⟨P.o,P.q,P.b,P.l.set i ⟨M,U,0⟩,P.c⟩ F M 0 P4'.out SZ.out.pb.q_ SZ.out.pb.o_ (by omega) (by omega) (by show(P.l.set i ⟨M,U,0⟩).length≤_;rw [HLL.out];omega) hn (by have:=F4.out.size;have:=HBS.out;omega))
     go_wp2_with fail
     refine HAD.out.mono ?_
     rintro e w5 ⟨vb2,rfl,hP5,hF5,hO5⟩
     have HRL:Hid (PM w5 base A vb2 (.slice (some ⟨bt,ot,none⟩) C qt) vb2 (.slice (some ⟨bt,ot,none⟩) C qt) n (split1 P i)):=Lib.hid (by
      have:=hP5
      rw [HS1.out]
      unfold cutP
      rw [HL.out]
      have h8:(⟨P.o,P.q,P.b,P.l.set i ⟨M,U,0⟩,P.c⟩:Ptn).l.length=L:=HLL.out
      rw [h8] at this
      exact this)
     have F5:Hid (Fr (PX A vb (.slice (some ⟨bt,ot,none⟩) C qt)) w w5):=Lib.hid (F4.out.trans hF5 (fun k hk e=>by
      rcases e with e|e|e|e|e|e
      ·exact .inl e
      ·exact .inr (.inl e)
      ·exact .inr (.inr (.inl e))
      ·exact .inr (.inr (.inr (.inl e)))
      ·rcases OZ.out k e with e1|e1
       ·exact .inr (.inr (.inr (.inr (.inl e1))))
       ·omega
      ·exact .inr (.inr (.inr (.inr (.inr e))))))
     have O5:Hid (∀ k,vb2.ownBlock=some k→vb.ownBlock=some k∨w.heap.size≤k):=Lib.hid (fun k e=>by
      rcases hO5 k e with e1|e1
      ·exact OZ.out k e1
      ·right
       have:=F4.out.size
       omega)
     clear hP5 hF5 hO5 HAD
     go_wp2_with fail
     go_roundw
     case measure=>(have:=HLT.out;have:=HCN.out);simp [intOf]<;>omega
     case rel=>exact⟨j+1,split1 P i,_,HLT.out,by(have:=HLT.out;have:=HCN.out);go_num,HRL.out,by rw [HTK.out];exact HST.out,(split1_c P i).trans CZ.out,F5.out,O5.out⟩
    ·have h7:¬ (K:Int)<(R:Int):=by omega
     have HS1:Hid (split1 P i=cutP P i M U F M):=Lib.hid (by
      unfold split1
      dsimp only
      rw [HF.out,HU.out,HK.out,HM.out,HR.out,if_neg hR0,if_neg hKR])
     have hMU2:M<U:=by have:=HR.out;omega
     clear hR0 hKR
     go_upto_region 8 with fail
     obtain⟨w3,hw3⟩:∃ w3,w2.alloc (.cells #[.int .i32 (M:Nat),.int .i32 (U:Nat),.int .i32 0] 188)=w3:=⟨_,rfl⟩
     have bA:=(Below.refl w2.heap.size w2).alloc (Nat.le_refl _) (.cells #[.int .i32 (M:Nat),.int .i32 (U:Nat),.int .i32 0] 188)
     have kA:=Blk.new w2 188 #[.int .i32 (M:Nat),.int .i32 (U:Nat),.int .i32 0]
     rw [hw3] at bA kA ⊢
     have P3:=Lib.hid (P2.out.below bA)
     have F3:=Lib.hid (F2.out.trans (Fr.of_below (X:=fun _=>False) bA) (fun _ _ e=>e.elim))
     obtain⟨nb,hnb⟩:∃ nb,w2.heap.size=nb:=⟨_,rfl⟩
     rw [hnb] at kA ⊢
     have KA:=Lib.hid kA
     have HGN:Hid (nb≠g):=Lib.hid (fun e=>by
      have h1:=(P2.out.px g (.inr (.inr (.inr (.inr (.inl rfl)))))).2
      omega)
     obtain⟨g',c',hg',ce0,ce1,_,cz⟩:=P3.out.bk (i:=i) (by show i<(P.l.set i ⟨F,U,0⟩).length;rw [HLS.out];exact hil)
     injection hg' with e1 _ _
     injection e1 with e1
     injection e1 with e1 _
     subst e1
     rw [HAT.out] at ce0 ce1
     replace ce0:w3.cell? ⟨g,i*3,none⟩=some (.int .i32 (F:Nat)):=ce0
     replace ce1:w3.cell? ⟨g,i*3+1,none⟩=some (.int .i32 (U:Nat)):=ce1
     have cz3:=cz (i*3+1)
     clear hw3 bA kA hnb hf0 hf1 P2 F2 cz
     have P4:=Lib.hid (P3.out.setK (i:=i) (j:=1) (g:=g) (c:=c) (by show i<(P.l.set i ⟨F,U,0⟩).length;rw [HLS.out];exact hil) (by omega) (by show Value.slice _ L c=Value.slice _ (P.l.set i ⟨F,U,0⟩).length c;rw [HLS.out]) ⟨F,M,0⟩ (.int .i32 (M:Nat)) (by
      rw [HAT.out]
      rfl))
     have F4:=Lib.hid (F3.out.trans (Fr.set (X:=fun k=>k=g) g (i*3+1) (.int .i32 (M:Nat)) rfl) (fun k hk e=>by
      have e0:(Value.slice (some ⟨g,0,none⟩) L c).ownBlock=some k:=by rw [e];rfl
      rcases OZ.out k e0 with e1|e1
      ·exact .inr (.inr (.inr (.inr (.inl e1))))
      ·omega))
     have KA4:=Lib.hid (KA.out.far (p:=⟨g,i*3+1,none⟩) HGN.out (.int .i32 (M:Nat)))
     go_upto_region 9 with fail
     obtain⟨w4,hw4⟩:∃ w4,w3.setCell ⟨g,i*3+1,none⟩ (.int .i32 (M:Nat))=w4:=⟨_,rfl⟩
     have P4':Hid (PM w4 base A (.slice (some ⟨g,0,none⟩) L c) (.slice (some ⟨bt,ot,none⟩) C qt) (.slice (some ⟨g,0,none⟩) L c) (.slice (some ⟨bt,ot,none⟩) C qt) n ⟨P.o,P.q,P.b,P.l.set i ⟨F,M,0⟩,P.c⟩):=Lib.hid (by
      have:=P4.out
      rw [show((⟨P.o,P.q,P.b,P.l.set i ⟨F,U,0⟩,P.c⟩:Ptn).l.set i ⟨F,M,0⟩)=P.l.set i ⟨F,M,0⟩ from by show(P.l.set i ⟨F,U,0⟩).set i ⟨F,M,0⟩=_;rw [List.set_set]] at this
      rw [←hw4]
      exact this)
     rw [hw4] at F4 KA4 ⊢
     clear hw4 P4 ce0 ce1 cz3 P3 F3 KA
     have HLL:Hid ((P.l.set i ⟨F,M,0⟩).length=L):=Lib.hid (by rw [List.length_set];exact HL.out)
     have c0:w4.cell? ⟨nb,0,none⟩=some (.int .i32 (M:Nat)):=KA4.out.cell 0
     have c1:w4.cell? ⟨nb,1,none⟩=some (.int .i32 (U:Nat)):=KA4.out.cell 1
     have c2:w4.cell? ⟨nb,2,none⟩=some (.int .i32 0):=KA4.out.cell 2
     have HAD:=Lib.hid (add_any w4 base A (.slice (some ⟨g,0,none⟩) L c) (.slice (some ⟨bt,ot,none⟩) C qt) n ⟨P.o,P.q,P.b,P.l.set i ⟨F,M,0⟩,P.c⟩ M U 0 P4'.out SZ.out.pb.q_ SZ.out.pb.o_ (by omega) (by omega) (by show(P.l.set i ⟨F,M,0⟩).length≤_;rw [HLL.out];omega) hn (by have:=F4.out.size;have:=HBS.out;omega))
     go_wp2_with fail
     refine HAD.out.mono ?_
     rintro e w5 ⟨vb2,rfl,hP5,hF5,hO5⟩
     have HRL:Hid (PM w5 base A vb2 (.slice (some ⟨bt,ot,none⟩) C qt) vb2 (.slice (some ⟨bt,ot,none⟩) C qt) n (split1 P i)):=Lib.hid (by
      have:=hP5
      rw [HS1.out]
      unfold cutP
      rw [HL.out]
      have h8:(⟨P.o,P.q,P.b,P.l.set i ⟨F,M,0⟩,P.c⟩:Ptn).l.length=L:=HLL.out
      rw [h8] at this
      exact this)
     have F5:Hid (Fr (PX A vb (.slice (some ⟨bt,ot,none⟩) C qt)) w w5):=Lib.hid (F4.out.trans hF5 (fun k hk e=>by
      rcases e with e|e|e|e|e|e
      ·exact .inl e
      ·exact .inr (.inl e)
      ·exact .inr (.inr (.inl e))
      ·exact .inr (.inr (.inr (.inl e)))
      ·rcases OZ.out k e with e1|e1
       ·exact .inr (.inr (.inr (.inr (.inl e1))))
       ·omega
      ·exact .inr (.inr (.inr (.inr (.inr e))))))
     have O5:Hid (∀ k,vb2.ownBlock=some k→vb.ownBlock=some k∨w.heap.size≤k):=Lib.hid (fun k e=>by
      rcases hO5 k e with e1|e1
      ·exact OZ.out k e1
      ·right
       have:=F4.out.size
       omega)
     clear hP5 hF5 hO5 HAD
     go_wp2_with fail
     go_roundw
     case measure=>(have:=HLT.out;have:=HCN.out);simp [intOf]<;>omega
     case rel=>exact⟨j+1,split1 P i,_,HLT.out,by(have:=HLT.out;have:=HCN.out);go_num,HRL.out,by rw [HTK.out];exact HST.out,(split1_c P i).trans CZ.out,F5.out,O5.out⟩
  ·obtain rfl:j=C:=by omega
   have h9:¬ (j:Int)<(j:Int):=by omega
   have m4:wz.cell? ⟨A.p,4,none⟩=some (.slice pt j qt):=PZ.out.kp.cell 4
   have mz:=PZ.out.kp.frozen 4
   have P5:=Lib.hid (PZ.out.cutC.put 4 (.slice pt 0 qt) vb1 (.slice pt 0 qt) rfl)
   have HSD:Hid (SP n p (noC P)):=Lib.hid (by
    have:=SZ.out
    rw [show p.c.take j=p.c by rw [←HC.out,List.take_length]] at this
    exact this.done HPB.out HTC.out)
   obtain⟨cs,hcs⟩:∃ cs,sliced pt 0 0 qt 1=cs:=⟨_,rfl⟩
   have HCS:Hid (cs= .slice pt 0 qt):=Lib.hid (by rw [←hcs];exact(own_cut0 PZ.out.oc).1)
   have ht:Tryz.prog.underlying 158=some (.slice (Tryz.prog.elem 158)):=by rw [Tryz.elemM];exact Tryz.underlying158
   have hsz:∀ wx,(sizeOf (Tryz.prog.elem 158)).run Tryz.prog wx= .ok 1 wx:=fun wx=>by kernel_rfl
   have hcut:(∀ wx,(Instr.slice 158 (.slice pt j qt) none (some (.int .i64 0)) none).run Tryz.prog wx= .ok (.slice pt 0 qt) wx):=fun wx=>by
    have h1:=run_slice_h (P:=Tryz.prog) (w:=wx) 158 pt j qt ht .i64 0 (by omega) (by omega)
    rw [h1,hsz wx]
    show Result.ok (sliced pt 0 0 qt 1) wx=_
    rw [hcs,HCS.out]
   have hcut2:(∀ wx,(Instr.sliceAt 158 (.slice pt j qt) none (some (.int .i64 0)) none).run Tryz.prog wx= .ok (.slice pt 0 qt) wx):=fun wx=>(run_sliceAt_slice (P:=Tryz.prog) (w:=wx) _ _ _ _ _ ht).trans (hcut wx)
   have HFIN:Hid (SplitR w base A vb (.slice pt j qt) n p (.returned (.tuple #[])) (wz.setCell ⟨A.p,4,none⟩ (.slice pt 0 qt))):=Lib.hid ⟨noC P,vb1,.slice pt 0 qt,rfl,P5.out,HSD.out,FZ.out.trans (Fr.set (X:=fun k=>k=A.p) _ _ _ rfl) (fun k _ e=> .inl e),OZ.out,fun k e=> .inl (by rw [own0];exact e)⟩
   clear ht hsz hcs
   go_wp2_with fail
   (try simp only [Exit.inBlock,Exit.then])
   refine bodyPost_end (results_none rfl _ _ _) rfl ?_
   exact HFIN.out
def stL (p:Ptn) (i:Nat):List Nat:=(List.range ((p.at_ i).t - (p.at_ i).f)).map fun j=>p.o ((p.at_ i).f+j)
theorem fn_rd {w:World} {B n:Nat} {f:Nat→Nat} (h:Fn B 21 n (i32F f) w) (hn:n≤1000000) (u m:Nat) (hm:u+m≤n):Rd 1 encM w (.slice (some ⟨B,u,none⟩) ((List.range m).map fun j=>f (u+j)).length (n - u)) ((List.range m).map fun j=>f (u+j)):=by
 refine⟨⟨_,n - u,rfl,by simp;omega,by omega,fun _=>⟨B,u,rfl,h.lt,fun i x hx j v hv=>?_⟩⟩,fun k c hc=>by cases hc⟩
 have hj:j=0:=by have:=(List.getElem?_eq_some_iff.1 hv).1;simp [encM] at this;exact this
 subst hj
 simp [encM] at hv
 subst hv
 have hi:=(List.getElem?_eq_some_iff.1 hx).1
 simp at hi
 have he:=(List.getElem?_eq_some_iff.1 hx).2
 simp at he
 subst he
 rw [Nat.mul_one,Nat.add_zero]
 exact h.cell (by omega)
def StatesR (w:World) (l:List Nat) (e:Ending) (w':World):Prop:=∃ v,e= .returned v∧Own1 1 encM w' w.heap.size 21 v l∧Below w.heap.size w w'
set_option maxRecDepth 1000000 in
set_option maxHeartbeats 16000000 in
theorem states_any (w:World) (base:Nat) (A:Pa) (vb vt:Value) (n:Nat) (p:Ptn) (i:Nat) (h:PM w base A vb vt vb vt n p) (hp:PB n p) (hi:i<p.l.length) (hn:n≤1000000):
  Calls Tryz.prog 119 #[.pointer (some ⟨A.p,0,none⟩),.int .i64 (i:Nat)] w (StatesR w (stL p i)):=by
 obtain⟨iM,hiM,hzM,hkM,hbM⟩:=info_parts Tryz.infoM
 have hb:=hp.l_ i hi
 have hle:=hp.len_le
 obtain⟨g,c,hvb,hf0,hf1,hf2,_⟩:=h.bk hi
 subst hvb
 obtain⟨T,hT⟩:∃ T,stL p i=T:=⟨_,rfl⟩
 have HT:=Lib.hid hT
 unfold stL at hT
 obtain⟨F,hF⟩:∃ F,(p.at_ i).f=F:=⟨_,rfl⟩
 obtain⟨U,hU⟩:∃ U,(p.at_ i).t=U:=⟨_,rfl⟩
 obtain⟨K,hK⟩:∃ K,(p.at_ i).k=K:=⟨_,rfl⟩
 rw [hF] at hf0 hb hT
 rw [hU] at hf1 hb hT
 rw [hK] at hf2 hb
 obtain⟨L,hL⟩:∃ L,p.l.length=L:=⟨_,rfl⟩
 rw [hL] at hi hle h
 have hTL:T.length=U - F:=by rw [←hT];simp
 have HTL:Hid (T.length≤1000000):=Lib.hid (by omega)
 have u3:w.cell? ⟨A.p,3,none⟩=some (.slice (some ⟨g,0,none⟩) L c):=h.kp.cell 3
 have bA:=(Below.refl w.heap.size w).alloc (Nat.le_refl _) (.cells #[.int .i32 (F:Nat),.int .i32 (U:Nat),.int .i32 (K:Nat)] 188)
 have k0:=Blk.new w 188 #[.int .i32 (F:Nat),.int .i32 (U:Nat),.int .i32 (K:Nat)]
 obtain⟨w1,hw1⟩:∃ w1,w.alloc (.cells #[.int .i32 (F:Nat),.int .i32 (U:Nat),.int .i32 (K:Nat)] 188)=w1:=⟨_,rfl⟩
 rw [hw1] at bA k0
 obtain⟨nb,hnb⟩:∃ nb,w.heap.size=nb:=⟨_,rfl⟩
 rw [hnb] at k0
 have HNB:=Lib.hid hnb
 have P1:=Lib.hid (h.below bA)
 have K1:=Lib.hid k0
 have B1:=Lib.hid bA
 have HW1:=Lib.hid hw1
 have hFU:F<U:=hb.1
 have hUn:U≤n:=hb.2.1
 have hi9:(i:Int)<(L:Int):=by omega
 have HRD:Hid (∀ wx:World,Fn A.o 21 n (i32F p.o) wx→Rd 1 encM wx (.slice (some ⟨A.o,F,none⟩) (U - F) (n - F)) T):=Lib.hid (fun wx hx=>by
  have:=fn_rd hx hn F (U - F) (by omega)
  rw [hT,hTL] at this
  exact this)
 obtain⟨m,hm⟩:∃ m,U - F=m:=⟨_,rfl⟩
 have HCT:Hid (∀ wx,(Instr.slice 158 (.slice (some ⟨A.o,0,none⟩) n n) (some (.int .i32 (F:Nat))) (some (.int .i32 (U:Nat))) none).run Tryz.prog wx= .ok (.slice (some ⟨A.o,F,none⟩) m (n - F)) wx∧(Instr.sliceAt 158 (.slice (some ⟨A.o,0,none⟩) n n) (some (.int .i32 (F:Nat))) (some (.int .i32 (U:Nat))) none).run Tryz.prog wx= .ok (.slice (some ⟨A.o,F,none⟩) m (n - F)) wx):=Lib.hid (fun wx=>by rw [←hm];exact cut_o A.o n F U hFU hUn wx)
 rw [hm] at HRD
 clear hw1 k0 bA h hb hT hTL hF hU hK hL hnb hp hle hm
 go_enter Tryz.func119,Tryz.ntmps119
 go_upto_region 2 with fail
 rw [HW1.out,HNB.out]
 have PD:=Lib.hid (P1.out.below (Below.refl _ w1).drew)
 have BD:=Lib.hid (B1.out.drew)
 have KD:=Lib.hid (Blk.below K1.out (Below.refl _ w1).drew)
 obtain⟨wd,hwd⟩:∃ wd,w1.drew=wd:=⟨_,rfl⟩
 rw [hwd] at PD BD KD
 have hS:(fun wx:World=>wx.cell? ⟨A.p,0,none⟩=some (.slice (some ⟨A.o,0,none⟩) n n)∧wx.cell? ⟨nb,0,none⟩=some (.int .i32 (F:Nat))∧wx.cell? ⟨nb,1,none⟩=some (.int .i32 (U:Nat))) wd:=⟨PD.out.kp.cell 0,KD.out.cell 0,KD.out.cell 1⟩
 refine region_hd 8 (fun wx:World=>wx.cell? ⟨A.p,0,none⟩=some (.slice (some ⟨A.o,0,none⟩) n n)∧wx.cell? ⟨nb,0,none⟩=some (.int .i32 (F:Nat))∧wx.cell? ⟨nb,1,none⟩=some (.int .i32 (U:Nat))) (by kernel_rfl) (by kernel_rfl) ?_
 rw [hwd]
 refine hd_taken 0 (some 13) _ ?hdv0 rfl rfl (by kernel_rfl) (fun _ _ _ h=>h) (Or.inl ⟨by rfl,?hdy0⟩) hS ?hdr0
 case hdy0=>(intro wx hx;(try dsimp only at hx);go_simp;try with_reducible rfl)
 try simp only [Act.put,zI,zO,zS]
 refine hd_taken 1 (some 14) _ ?hdv1 rfl rfl (by kernel_rfl) (fun _ _ _ h=>h) (Or.inl ⟨by rfl,?hdy1⟩) hS ?hdr1
 case hdy1=>(intro wx hx;(try dsimp only at hx);go_simp;try with_reducible rfl)
 try simp only [Act.put,zI,zO,zS]
 refine hd_taken 2 (some 15) _ ?hdv2 rfl rfl (by kernel_rfl) (fun _ _ _ h=>h) (Or.inl ⟨by rfl,?hdy2⟩) hS ?hdr2
 case hdy2=>(intro wx hx;(try dsimp only at hx);go_simp;try with_reducible rfl)
 try simp only [Act.put,zI,zO,zS]
 refine hd_taken 3 (some 16) _ ?hdv3 rfl rfl (by kernel_rfl) (fun _ _ _ h=>h) (Or.inl ⟨by rfl,?hdy3⟩) hS ?hdr3
 case hdy3=>(intro wx hx;(try dsimp only at hx);go_simp;try with_reducible rfl)
 try simp only [Act.put,zI,zO,zS]
 refine hd_taken 4 (some 17) _ ?hdv4 rfl rfl (by kernel_rfl) (fun _ _ _ h=>h) (Or.inl ⟨by rfl,?hdy4⟩) hS ?hdr4
 case hdy4=>(intro wx hx;(try dsimp only at hx);go_simp;try with_reducible rfl)
 try simp only [Act.put,zI,zO,zS]
 refine hd_taken 5 (some 18) _ ?hdv5 rfl rfl (by kernel_rfl) (fun _ _ _ h=>h) (Or.inl ⟨by rfl,?hdy5⟩) hS ?hdr5
 case hdy5=>(intro wx hx;(try dsimp only at hx);go_simp;try with_reducible rfl)
 try simp only [Act.put,zI,zO,zS]
 refine hd_taken 6 (some 19) _ ?hdv6 rfl rfl (by kernel_rfl) (fun _ _ _ h=>h) (Or.inl ⟨by rfl,?hdy6⟩) hS ?hdr6
 case hdy6=>(intro wx hx;(try dsimp only at hx);go_simp;try with_reducible rfl)
 try simp only [Act.put,zI,zO,zS]
 refine hd_taken 7 (some 20) _ ?hdv7 rfl rfl (by kernel_rfl) (fun _ _ _ h=>h) (Or.inl ⟨by rfl,?hdy7⟩) hS ?hdr7
 case hdy7=>(intro wx hx;(try dsimp only at hx);go_simp;try with_reducible rfl)
 try simp only [Act.put,zI,zO,zS]
 refine hd_done (by kernel_rfl) ?_
 simp only [List.drop_succ_cons,List.drop_zero]
 have hc1:∀ wx,(Instr.slice 158 (.slice (some ⟨A.o,0,none⟩) n n) (some (.int .i32 (F:Nat))) (some (.int .i32 (U:Nat))) none).run Tryz.prog wx= .ok (.slice (some ⟨A.o,F,none⟩) m (n - F)) wx:=fun wx=>(HCT.out wx).1
 have hc2:∀ wx,(Instr.sliceAt 158 (.slice (some ⟨A.o,0,none⟩) n n) (some (.int .i32 (F:Nat))) (some (.int .i32 (U:Nat))) none).run Tryz.prog wx= .ok (.slice (some ⟨A.o,F,none⟩) m (n - F)) wx:=fun wx=>(HCT.out wx).2
 refine wpList_plain rfl fun K0 hK0=>?_
 have hKS:=Lib.hid hK0
 clear hK0
 go_simp
 refine hKS.out _ _ ?_
 clear hKS K0 hc1 hc2
 try simp only [Act.put,zI,zO,zS]
 refine wpList_append_rd rfl _ _ 158 rfl wd.heap.size iM _ 4 Tryz.underlying158 hiM hzM hkM hbM (by omega) rfl (by omega) encM_len encM_one _ [] T _ rfl (own1_nil _ _ _) rfl (HRD.out wd PD.out.fo) (by have:=HTL.out;simp;omega) (Nat.le_refl _) ?_
 intro v9 w9 o9 b9
 have HFIN:Hid (StatesR w (stL p i) (.returned v9) w9):=Lib.hid ⟨v9,rfl,by rw [HT.out];exact Own1.base o9 BD.out.size,BD.out.trans (b9.mono BD.out.size)⟩
 clear o9 b9
 go_wp2
 go_ret
 exact HFIN.out
end Go.Proofs.YtobapaodpcheiaaGreatDoor
