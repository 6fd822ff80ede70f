/- What the row stands on, part 30. -/
import Derived.Test.YtmnclnpbmgomgaaGreatDoorQ29
namespace Go.Proofs.YtmnclnpbmgomgaaGreatDoor
open Go.RowKit Go.Maps
set_option linter.unusedVariables false
theorem wc_one:classR [] [49]=(othN,0):=by kernel_rfl
theorem wc_some (rs:Rus) (s:Str):(decide (clsR rs s=othN))= !(rs.any fun r=>hldC s r.2)∨∃ r∈rs,r.1 ∉clsN:=by
 rcases clsR_cases rs s with⟨r,hr,h1,h2⟩|⟨h1,h2⟩
 ·by_cases hc:r.1∈clsN
  ·left
   have e:(rs.any fun r=>hldC s r.2)=true:=List.any_eq_true.2 ⟨r,hr,h1⟩
   rw [e]
   exact decide_eq_false (fun e2=>othN_not (by rw [←e2,h2];exact hc))
  ·exact .inr ⟨r,hr,hc⟩
 ·left
  have e:(rs.any fun r=>hldC s r.2)=false:=List.any_eq_false.2 fun r hr=>by rw [h1 r hr];decide
  rw [e]
  exact decide_eq_true h2
section
variable {rs:Rus} (hv:VR rs)
include hv
theorem wc_oth (s:Str):decide (clsR rs s=othN)= !(rs.any fun r=>hldC s r.2):=by
 rcases wc_some rs s with h|⟨r,hr,h⟩
 ·exact h
 ·exact absurd (hv.1 r hr).1 h
theorem wc_at (ho:¬ Ov rs) {s:Str} (hs:(spl s).isSome=true) {i:Nat} (hi:i<rs.length):decide (clsR rs s=(rs[i]'hi).1)=hldC s (rs[i]'hi).2:=by
 cases h:hldC s (rs[i]'hi).2 with
 |true=>exact decide_eq_true (clsR_at ho hs (List.getElem_mem hi) h)
 |false=>
  refine decide_eq_false (fun e=>?_)
  rcases clsR_cases rs s with⟨r,hr,h1,h2⟩|⟨_,h2⟩
  ·obtain⟨j,hj,rfl⟩:=List.mem_iff_getElem.1 hr
   have h3:=hv.2
   have e2:(rs[j]'hj).1=(rs[i]'hi).1:=by rw [←h2,e]
   have:=(List.getElem_inj (i:=j) (j:=i) (h₀:=by rw [List.length_map];exact hj) (h₁:=by rw [List.length_map];exact hi) h3).1 (by rw [List.getElem_map,List.getElem_map];exact e2)
   subst this
   rw [h1] at h
   cases h
  ·exact othN_not (by rw [←h2,e];exact(hv.1 _ (List.getElem_mem hi)).1)
theorem wc_total {s:Str} (hu:isU s) (h:(firstR (rs.map Prod.snd) 1).getD []= []):(rs.any fun r=>hldC s r.2)=true:=by
 have hn:firstR (rs.map Prod.snd) 1=none:=by
  have h1:=firstR_ne hv.ok 1
  rw [h] at h1
  have h1:(firstR (rs.map Prod.snd) 1).isSome=false:=by rw [h1];decide
  exact Option.not_isSome_iff_eq_none.1 (by rw [h1];decide)
 have h2:=firstR_none hv.ok hn s hu
 unfold pS prS at h2
 rw [if_neg (by decide),if_pos rfl] at h2
 have h3:=of_decide_eq_false h2
 unfold cntH at h3
 obtain⟨c,hc⟩:=List.exists_mem_of_length_pos (Nat.pos_of_ne_zero h3)
 obtain⟨hc1,hc2⟩:=List.mem_filter.1 hc
 obtain⟨r,hr,rfl⟩:=List.mem_map.1 hc1
 exact List.any_eq_true.2 ⟨r,hr,hc2⟩
end
set_option maxRecDepth 1000000 in
set_option maxHeartbeats 64000000 in
theorem wholeClasses_walk (v:Value) (l:Rus) (s:Str) (hs:s.length≤9223372036854775807) (w:World) (hv:RdRus w v l) (hr:RusR l) (hg:ClG w) (hm:MaxL w):Calls Tryz.prog 9 #[v,.string (ofL s)] w fun e w'=>e= .returned (.bool true)∧Below w.heap.size w w':=by
 obtain⟨iC,hiC,hzC,hkC,hbC⟩:=info_parts Tryz.infoCo
 have HC0:=Lib.hid (class14P_any (.slice none 0 0) [] [49] (by decide) w ⟨[],rd_nil w,rfl,fun i h _=>by simp at h⟩ (fun i h=>by simp at h) hg)
 rw [wc_one] at HC0
 have HFW:=Lib.hid (fun w h=>few14_any v l w h)
 have HV2:=Lib.hid (fun(h:∀ i (hi:i<l.length),(l[i]'hi).2.length≤30) w a=>valid14_any v l w a (cnt14 hr h))
 have HUN:=Lib.hid (fun w=>unsigned_any (ofL s) (by rw [ofL_size];exact hs) w)
 have HCL:=Lib.hid (fun wx (a:RdRus wx v l) (g:ClG wx)=>class14P_any v l s hs wx a hr g)
 have HRV:=Lib.hid (fun w=>refValid_any (ofL s) (by rw [ofL_size];exact hs) w)
 have HRN:=Lib.hid (fun(r:RawD) a1 c1 a2 c2 wx h1 h2=>runP_any r a1 c1 a2 c2 (ofL s) (by rw [ofL_size];exact hs) wx h1 h2)
 rw [show(ofL s).data.toList=s from rfl] at HUN HRV HRN
 have HV:=Lib.hid hv
 have HR:=Lib.hid hr
 have HG:=Lib.hid hg
 have HM:=Lib.hid hm
 have HCT:=Lib.hid (fun(h:∀ i (hi:i<l.length),(l[i]'hi).2.length≤30)=>cnt14 hr h)
 obtain⟨av,cv,rfl,hc1,hc2⟩:=hv.slice
 obtain⟨S,hS⟩:∃ S,ofL s=S:=⟨_,rfl⟩
 rw [hS] at HUN HCL HRV HRN ⊢
 clear hv hr hg hm hs hS
 have g2:((ofL othN).toList==([111,116,104,101,114]:List UInt8))=true:=by rw [ByteArray.toList_eq];rfl
 go_enter Tryz.func9,Tryz.ntmps9
 go_wp2_with fail
 refine HC0.out.mono ?_
 rintro e w1 ⟨rfl,b1⟩
 have B1:=Lib.hid b1
 clear b1 HC0
 go_wp2_with fail
 refine(HFW.out _ (HV.out.below B1.out)).mono ?_
 rintro e w2 ⟨⟨fb,rfl,hfb⟩,hw2⟩
 obtain rfl:=hw2.symm
 have HFB:=Lib.hid hfb
 clear hw2 hfb
 cases fb with
 |false=>
  go_wp2
  go_ret
  exact⟨rfl,B1.out⟩
 |true=>
 have HFF:=Lib.hid (HFB.out rfl)
 have HVA:=Lib.hid (HV2.out HFF.out.2)
 have HCN:=Lib.hid (HCT.out HFF.out.2)
 have h10:l.length≤10:=HFF.out.1
 by_cases hvr:VR l
 ·rw [decide_eq_true hvr] at HVA
  have HVR:=Lib.hid hvr
  clear hvr HFW HFB HV2 HCT
  go_wp2_with fail
  refine(HVA.out _ (HV.out.below B1.out)).mono ?_
  rintro e w3 ⟨rfl,b3⟩
  have B3:=Lib.hid (st B1.out b3 B1.out.size)
  clear b3 HVA
  go_wp2_with fail
  refine(HUN.out _).mono ?_
  rintro e w4 ⟨rfl,b4⟩
  have B4:=Lib.hid (st B3.out b4 B3.out.size)
  clear b4 B3 B1
  by_cases hu:uns s=true
  ·have HU:=Lib.hid (uns_iff.1 hu)
   have HSP:=Lib.hid (isU_spl (uns_iff.1 hu))
   rw [hu]
   clear hu HUN
   have HN0:Hid (GatC w l 0 (.slice none 0 0) w4):=Lib.hid ⟨⟨[],own1_nil _ _ _,rfl,fun i h _=>by simp at h⟩,B4.out⟩
   go_wp2_with fail
   go_loopw [7,49] (fun v7 v49 wr=>∃ k:Nat,k≤l.length∧v49= .int .i64 k∧GatC w l k v7 wr∧∀ i (h:i<l.length),i<k→wgt (l[i]'h).2≤200) (fun _ v49 _=>l.length - (intOf v49).toNat)
   case atStart=>exact⟨0,Nat.zero_le _,rfl,HN0.out,fun i h h2=>absurd h2 (Nat.not_lt_zero i)⟩
   case round=>
    obtain⟨k,hk,rfl,hgc,hwk⟩:=hrel
    have HGC:=Lib.hid hgc
    have HWK:=Lib.hid hwk
    clear hgc hwk HN0
    by_cases hlt:k<l.length
    ·obtain⟨bk,off,x1,x2,rfl,hlb,h0,h1,hcd⟩:=HV.out.at_ k hlt
     have h1:=(HGC.out.bw.cell (p:=⟨bk,off+k*2+1,none⟩) hlb).trans h1
     have h9:(k:Int)<(l.length:Int):=by omega
     have HWT:=Lib.hid (refWeight_any (l[k]'hlt).2 ((HVR.out.1 _ (List.getElem_mem hlt)).2) (HCN.out k hlt) _ wr (hcd.below HGC.out.bw))
     have HCD:=Lib.hid hcd
     have HWN:Hid (wgt (l[k]'hlt).2≤200→∀ i (h:i<l.length),i<k+1→wgt (l[i]'h).2≤200):=Lib.hid (fun e i h hi=>by
      by_cases h2:i=k
      ·subst h2;exact e
      ·exact HWK.out i h (by omega))
     obtain⟨n,hn⟩:∃ n,(l[k]'hlt).2.length=n:=⟨_,rfl⟩
     rw [hn] at h1 HWT HCD
     obtain⟨W,hW⟩:∃ W,wgt (l[k]'hlt).2=W:=⟨_,rfl⟩
     rw [hW] at HWT HWN
     clear h0 hcd hn hW HWK
     go_wp2_with fail
     refine HWT.out.mono ?_
     rintro e w5 ⟨rfl,b5⟩
     have h2:=(b5.cell (p:=⟨bk,off+k*2+1,none⟩) (World.block_lt_of_cell? _ _ h1)).trans h1
     have B5:=Lib.hid (HGC.out.bw.trans (b5.mono HGC.out.bw.size))
     obtain⟨raws,ho,hl,hrr⟩:=HGC.out.ex
     obtain⟨p6,c6,rfl⟩:=ho.slice
     have HO:=Lib.hid (own_below ho b5)
     have HL:=Lib.hid hl
     have HRR:=Lib.hid hrr
     clear ho hl hrr b5 HWT h1
     by_cases hw2:W≤200
     ·have q1:decide ((W:Int) > 200)=false:=decide_eq_false (by omega)
      have q1':¬ (200:Int)<(W:Int):=by omega
      have HZW:Hid (w.heap.size≤w5.heap.size):=Lib.hid B5.out.size
      go_wp2_with (first|(at_builtin;refine wpList_append_lie (w0:=w5) (x:=(⟨x1,n,x2⟩:RawS)) (N:=w5.heap.size) rfl rfl _ _ 46 rfl w.heap.size iC _ 24 Tryz.underlying46 hiC hzC hkC hbC (by omega) rfl (by omega) encS_len encS_one _ raws rfl rfl HO.out rfl (by have:=HL.out;omega) HZW.out ?_;intro v9 w9 y9;obtain⟨p8,q8,e8⟩:=y9.1.slice;subst e8;have Y9:=Lib.hid y9;clear y9)|go_in)
      have HGN:Hid (GatC w l (k+1) (.slice p8 (raws++ [(⟨x1,n,x2⟩:RawS)]).length q8) w9):=Lib.hid ⟨⟨_,Y9.out.1,by rw [List.length_append,HL.out];rfl,fun i a b=>by
       rw [List.length_append] at a
       by_cases hi:i<raws.length
       ·rw [List.getElem_append_left hi]
        exact HRR.out i hi b
       ·have hk':i=raws.length:=by simp at a;omega
        subst hk'
        rw [List.getElem_append_right (Nat.le_refl _)]
        have e2:l[raws.length].2=l[k].2:=by simp only [HL.out]
        rw [e2]
        simpa using HCD.out⟩,B5.out.trans Y9.out.2.1⟩
      go_roundw
      case measure=>simp [intOf];omega
      case rel=>exact⟨k+1,by omega,by go_num,by first|exact HGN.out|(have:=HGN.out;simpa using this),HWN.out hw2⟩
     ·have q1:decide ((W:Int) > 200)=true:=decide_eq_true (by omega)
      have q1':(200:Int)<(W:Int):=by omega
      go_wp2
      go_ret
      exact⟨rfl,B5.out⟩
    ·obtain rfl:k=l.length:=by omega
     have h3:¬ (l.length:Int)<(l.length:Int):=by omega
     have HBG:=Lib.hid HGC.out.bw
     have HRC:=Lib.hid HGC.out.rd
     have HDI:=Lib.hid (disjoint_any l _ h10 HVR.out.ok wr (HV.out.below HBG.out).rules (HM.out.below HBG.out))
     clear HGC
     go_wp2_with fail
     refine HDI.out.mono ?_
     rintro e w5 ⟨i,j,W,er,rfl,hdis,b5⟩
     have HOV:=Lib.hid (ov_of HVR.out hdis)
     have B5:=Lib.hid (HBG.out.trans (b5.mono HBG.out.size))
     have HRC5:=Lib.hid (HRC.out.below b5)
     have HCL2:=Lib.hid (HCL.out w5 (HV.out.below B5.out) (HG.out.below B5.out))
     rw [classR_ok HVR.out HSP.out] at HCL2
     clear hdis b5 HDI HCL HRC HBG
     go_wp2_with fail
     refine HCL2.out.mono ?_
     rintro e w6 ⟨rfl,b6⟩
     have B6:=Lib.hid (st B5.out b6 B5.out.size)
     have HRC6:=Lib.hid (HRC5.out.below b6)
     clear b6 B5 HRC5 HCL2
     rcases HOV.out with⟨her,hov⟩|⟨her,hov⟩
     ·subst her
      go_wp2
      go_ret
      exact⟨rfl,B6.out⟩
     ·subst her
      have HZA:=Lib.hid (fun k hk=>wc_at HVR.out hov HSP.out (i:=k) hk)
      have HTA:Hid (∀ k (h:k<l.length),(l.take (k+1)).any (fun r=>hldC s r.2)=((l.take k).any (fun r=>hldC s r.2)||hldC s (l[k]'h).2)):=Lib.hid (fun k h=>by
       rw [List.take_succ_eq_append_getElem h,List.any_append]
       simp)
      have HOT:=Lib.hid (wc_oth HVR.out s)
      have HTO:=Lib.hid (fun h=>wc_total HVR.out HU.out h)
      have HTT:=Lib.hid (fun wx vx (h:RdCs wx vx (l.map Prod.snd)) (m:MaxL wx)=>total_any (l.map Prod.snd) vx (by rw [List.length_map];exact h10) HVR.out.ok wx h m)
      obtain⟨cs,hcs⟩:∃ cs,clsR l s=cs:=⟨_,rfl⟩
      rw [hcs] at HZA HOT ⊢
      obtain⟨CS,hCS⟩:∃ CS,ofL cs=CS:=⟨_,rfl⟩
      have HCSE:Hid (∀ x:Str,(CS.toList==(ofL x).toList)=decide (cs=x)):=Lib.hid (fun x=>by
       rw [←hCS,ByteArray.toList_eq,ByteArray.toList_eq]
       show(cs==x)=_
       by_cases h:cs=x
       ·subst h;simp
       ·rw [decide_eq_false h];simpa using h)
      rw [hCS]
      clear hcs hCS hov HOV
      go_wp2_with fail
      go_loopw [17,103] (fun v17 v103 wr=>∃ k:Nat,k≤l.length∧v103= .int .i64 k∧v17= .bool ((l.take k).any fun r=>hldC s r.2)∧Below w6.heap.size w6 wr) (fun _ v103 _=>l.length - (intOf v103).toNat)
      case atStart=>exact⟨0,Nat.zero_le _,rfl,rfl,Below.refl _ _⟩
      case round=>
       rename World=>wo
       obtain⟨k,hk,rfl,rfl,hb⟩:=hrel
       have HBO:=Lib.hid (hb)
       clear hb
       by_cases hlt:k<l.length
       ·obtain⟨bk,off,x1,x2,rfl,hlb,h0,h1,hcd⟩:=HV.out.at_ k hlt
        have hbw:Below w.heap.size w wo:=st B6.out HBO.out B6.out.size
        have h0:=(hbw.cell (p:=⟨bk,off+k*2,none⟩) hlb).trans h0
        have h1:=(hbw.cell (p:=⟨bk,off+k*2+1,none⟩) hlb).trans h1
        have h9:(k:Int)<(l.length:Int):=by omega
        have hokk:=(HVR.out.1 _ (List.getElem_mem hlt)).2
        have HAU:=Lib.hid (decAut_any (l[k]'hlt).2 hokk (fun x hx=>Nat.le_trans (HR.out k hlt x hx) (by decide)) (HWK.out k hlt hlt) _ wo (hcd.below hbw))
        have HAH:=Lib.hid (fun e w' (h:AutC (l[k]'hlt).2 wo e w')=>h.holds hokk)
        have HTK:=Lib.hid (HTA.out k hlt)
        have HZ0:=Lib.hid ((HCSE.out (l[k]'hlt).1).trans (HZA.out k hlt))
        obtain⟨sb,hsb⟩:∃ sb,(l.take k).any (fun r=>hldC s r.2)=sb:=⟨_,rfl⟩
        rw [hsb] at HTK ⊢
        obtain⟨CK,hCK⟩:∃ CK,ofL (l[k]'hlt).1=CK:=⟨_,rfl⟩
        rw [hCK] at HZ0 h0
        obtain⟨n,hn⟩:∃ n,(l[k]'hlt).2.length=n:=⟨_,rfl⟩
        rw [hn] at h1 HAU
        clear hcd hn hsb hCK hbw hokk
        go_wp2_with fail
        refine HAU.out.mono ?_
        intro e w7 he
        obtain⟨q,a1,c1,a2,c2,rfl,hN,hF,hrun,b7⟩:=HAH.out e w7 he
        have h0:=(b7.cell (p:=⟨bk,off+k*2,none⟩) (World.block_lt_of_cell? _ _ h0)).trans h0
        have HRNq:=Lib.hid (fun wx (hb:Below w7.heap.size w7 wx)=>HRN.out q a1 c1 a2 c2 wx (hN.below hb) (hF.below hb))
        rw [hrun s HU.out] at HRNq
        have B7:=Lib.hid (st HBO.out b7 HBO.out.size)
        obtain⟨qs,hqs⟩:∃ x,q.st=x:=⟨_,rfl⟩
        obtain⟨qn,hqn⟩:∃ x,q.nx.length=x:=⟨_,rfl⟩
        obtain⟨qa,hqa⟩:∃ x,q.ac.length=x:=⟨_,rfl⟩
        rw [hqs,hqn,hqa] at HRNq ⊢
        have bx:=(Below.refl w7.heap.size w7).alloc (Nat.le_refl _) (.cells #[.int .i64 qs,.slice a1 qn c1,.slice a2 qa c2] 54)
        have kx:=Blk.new w7 54 #[.int .i64 qs,.slice a1 qn c1,.slice a2 qa c2]
        obtain⟨gx,hgx⟩:∃ gx,w7.heap.size=gx:=⟨_,rfl⟩
        obtain⟨X,hX⟩:∃ X,w7.alloc (.cells #[.int .i64 qs,.slice a1 qn c1,.slice a2 qa c2] 54)=X:=⟨_,rfl⟩
        rw [hX] at bx kx
        have h0x:=(bx.cell (p:=⟨bk,off+k*2,none⟩) (World.block_lt_of_cell? _ _ h0)).trans h0
        have HRU:=Lib.hid (HRNq.out X.drew bx.drew)
        have HBX:=Lib.hid (st B7.out bx B7.out.size)
        rw [hgx] at kx
        have HSX:Hid (∀ wx,Below X.heap.size X wx→wx.cell? ⟨gx,0,none⟩=some (.int .i64 qs)∧wx.cell? ⟨gx,1,none⟩=some (.slice a1 qn c1)∧wx.cell? ⟨gx,2,none⟩=some (.slice a2 qa c2)∧wx.cell? ⟨bk,off+k*2,none⟩=some (.string CK)):=Lib.hid (fun wx hb=>⟨(kx.below hb).cell 0,(kx.below hb).cell 1,(kx.below hb).cell 2,(hb.cell (p:=⟨bk,off+k*2,none⟩) (World.block_lt_of_cell? _ _ h0x)).trans h0x⟩)
        have HXE:=Lib.hid hX
        obtain⟨hh,hhh⟩:∃ hh,hldC s (l[k]'hlt).2=hh:=⟨_,rfl⟩
        rw [hhh] at HRU HTK HZ0
        have HZ1:=Lib.hid HZ0.out
        clear hN hF hrun b7 HRNq hqs hqn hqa bx kx hX HAU HAH he hhh B7 h0x HZ0
        go_upto_region 24 with fail
        rw [HXE.out]
        try rw [hgx]
        clear hgx h0 h1
        cases hh with
        |true=>
         have z1:(CS.toList==CK.toList)=true:=HZ1.out
         have hS:=HSX.out X.drew (Below.refl _ _).drew
         refine region_hd 14 (fun wx:World=>wx.cell? ⟨gx,0,none⟩=some (.int .i64 qs)∧wx.cell? ⟨gx,1,none⟩=some (.slice a1 qn c1)∧wx.cell? ⟨gx,2,none⟩=some (.slice a2 qa c2)∧wx.cell? ⟨bk,off+k*2,none⟩=some (.string CK)) (by kernel_rfl) (by kernel_rfl) ?_
         refine hd_taken 0 (some 115) _ ?hdva0 rfl rfl (by kernel_rfl) (fun _ _ _ h=>h) (Or.inl ⟨by kernel_rfl,?hdya0⟩) hS ?hdra0
         case hdya0=>(intro wx hx;(try dsimp only at hx);go_simp;try with_reducible rfl)
         try simp only [Act.put,zI,zO,zS]
         refine hd_taken 1 (some 116) _ ?hdva1 rfl rfl (by kernel_rfl) (fun _ _ _ h=>h) (Or.inl ⟨by kernel_rfl,?hdya1⟩) hS ?hdra1
         case hdya1=>(intro wx hx;(try dsimp only at hx);go_simp;try with_reducible rfl)
         try simp only [Act.put,zI,zO,zS]
         refine hd_taken 2 (some 117) _ ?hdva2 rfl rfl (by kernel_rfl) (fun _ _ _ h=>h) (Or.inl ⟨by kernel_rfl,?hdya2⟩) hS ?hdra2
         case hdya2=>(intro wx hx;(try dsimp only at hx);go_simp;try with_reducible rfl)
         try simp only [Act.put,zI,zO,zS]
         refine hd_taken 3 (some 118) _ ?hdva3 rfl rfl (by kernel_rfl) (fun _ _ _ h=>h) (Or.inl ⟨by kernel_rfl,?hdya3⟩) hS ?hdra3
         case hdya3=>(intro wx hx;(try dsimp only at hx);go_simp;try with_reducible rfl)
         try simp only [Act.put,zI,zO,zS]
         refine hd_taken 4 (some 119) _ ?hdva4 rfl rfl (by kernel_rfl) (fun _ _ _ h=>h) (Or.inl ⟨by kernel_rfl,?hdya4⟩) hS ?hdra4
         case hdya4=>(intro wx hx;(try dsimp only at hx);go_simp;try with_reducible rfl)
         try simp only [Act.put,zI,zO,zS]
         refine hd_taken 6 (some 121) _ ?hdva6 rfl rfl (by kernel_rfl) (fun _ _ _ h=>h) (Or.inl ⟨by kernel_rfl,?hdya6⟩) hS ?hdra6
         case hdya6=>(intro wx hx;(try dsimp only at hx);go_simp;try with_reducible rfl)
         try simp only [Act.put,zI,zO,zS]
         refine hd_taken 7 (some 122) _ ?hdva7 rfl rfl (by kernel_rfl) (fun _ _ _ h=>h) (Or.inl ⟨by kernel_rfl,?hdya7⟩) hS ?hdra7
         case hdya7=>(intro wx hx;(try dsimp only at hx);go_simp;try with_reducible rfl)
         try simp only [Act.put,zI,zO,zS]
         refine hd_taken 8 (some 123) _ ?hdva8 rfl rfl (by kernel_rfl) (fun _ _ _ h=>h) (Or.inl ⟨by kernel_rfl,?hdya8⟩) hS ?hdra8
         case hdya8=>(intro wx hx;(try dsimp only at hx);go_simp;try with_reducible rfl)
         try simp only [Act.put,zI,zO,zS]
         refine hd_taken 9 (some 124) _ ?hdva9 rfl rfl (by kernel_rfl) (fun _ _ _ h=>h) (Or.inl ⟨by kernel_rfl,?hdya9⟩) hS ?hdra9
         case hdya9=>(intro wx hx;(try dsimp only at hx);go_simp;try with_reducible rfl)
         try simp only [Act.put,zI,zO,zS]
         refine hd_taken 10 (some 125) _ ?hdva10 rfl rfl (by kernel_rfl) (fun _ _ _ h=>h) (Or.inl ⟨by kernel_rfl,?hdya10⟩) hS ?hdra10
         case hdya10=>(intro wx hx;(try dsimp only at hx);go_simp;try with_reducible rfl)
         try simp only [Act.put,zI,zO,zS]
         refine hd_taken 11 (some 126) _ ?hdva11 rfl rfl (by kernel_rfl) (fun _ _ _ h=>h) (Or.inl ⟨by kernel_rfl,?hdya11⟩) hS ?hdra11
         case hdya11=>(intro wx hx;(try dsimp only at hx);go_simp;try with_reducible rfl)
         try simp only [Act.put,zI,zO,zS]
         refine hd_taken 12 (some 127) _ ?hdva12 rfl rfl (by kernel_rfl) (fun _ _ _ h=>h) (Or.inl ⟨by kernel_rfl,?hdya12⟩) hS ?hdra12
         case hdya12=>(intro wx hx;(try dsimp only at hx);go_simp;try with_reducible rfl)
         try simp only [Act.put,zI,zO,zS]
         refine hd_one 5 _ rfl (by kernel_rfl) (by decide) (fun K5 hK5=>?_)
         go_simp
         refine HRU.out.mono ?_
         rintro e w8 ⟨rfl,b8⟩
         try dsimp only
         have HB8:Hid (Below X.heap.size X w8):=Lib.hid (st (Below.refl X.heap.size X).drew b8 (Nat.le_refl _))
         refine hK5.out _ _ (HSX.out _ HB8.out) ?_
         clear hK5 K5 b8 hS
         try simp only [Act.put,zI,zO,zS]
         have hS:=HSX.out w8 HB8.out
         refine hd_taken 13 (some 128) _ ?hdvaq13 rfl rfl (by kernel_rfl) (fun _ _ _ h=>h) (Or.inl ⟨by kernel_rfl,?hdyaq13⟩) hS ?hdraq13
         case hdyaq13=>(intro wx hx;(try dsimp only at hx);go_simp;try with_reducible rfl)
         try simp only [Act.put,zI,zO,zS]
         refine hd_done (by kernel_rfl) ?_
         simp only [List.drop_succ_cons,List.drop_zero]
         have HB9:=Lib.hid (st HBX.out HB8.out HBX.out.size)
         have hck:w8.cell? ⟨bk,off+k*2,none⟩=some (.string CK):=hS.2.2.2
         clear hS HSX HB8 HRU HBX
         cases sb with
         |true=>
          have HNX:Hid ((l.take (k+1)).any (fun r=>hldC s r.2)=true):=Lib.hid (by rw [HTK.out];rfl)
          go_wp2_with fail
          go_roundw
          case measure=>simp [intOf];omega
          case rel=>exact⟨k+1,by omega,by go_num,by rw [HNX.out],HB9.out⟩
         |false=>
          have HNX:Hid ((l.take (k+1)).any (fun r=>hldC s r.2)=true):=Lib.hid (by rw [HTK.out];rfl)
          go_wp2_with fail
          go_roundw
          case measure=>simp [intOf];omega
          case rel=>exact⟨k+1,by omega,by go_num,by rw [HNX.out],HB9.out⟩
        |false=>
         have z1:(CS.toList==CK.toList)=false:=HZ1.out
         have hS:=HSX.out X.drew (Below.refl _ _).drew
         refine region_hd 14 (fun wx:World=>wx.cell? ⟨gx,0,none⟩=some (.int .i64 qs)∧wx.cell? ⟨gx,1,none⟩=some (.slice a1 qn c1)∧wx.cell? ⟨gx,2,none⟩=some (.slice a2 qa c2)∧wx.cell? ⟨bk,off+k*2,none⟩=some (.string CK)) (by kernel_rfl) (by kernel_rfl) ?_
         refine hd_taken 0 (some 115) _ ?hdvb0 rfl rfl (by kernel_rfl) (fun _ _ _ h=>h) (Or.inl ⟨by kernel_rfl,?hdyb0⟩) hS ?hdrb0
         case hdyb0=>(intro wx hx;(try dsimp only at hx);go_simp;try with_reducible rfl)
         try simp only [Act.put,zI,zO,zS]
         refine hd_taken 1 (some 116) _ ?hdvb1 rfl rfl (by kernel_rfl) (fun _ _ _ h=>h) (Or.inl ⟨by kernel_rfl,?hdyb1⟩) hS ?hdrb1
         case hdyb1=>(intro wx hx;(try dsimp only at hx);go_simp;try with_reducible rfl)
         try simp only [Act.put,zI,zO,zS]
         refine hd_taken 2 (some 117) _ ?hdvb2 rfl rfl (by kernel_rfl) (fun _ _ _ h=>h) (Or.inl ⟨by kernel_rfl,?hdyb2⟩) hS ?hdrb2
         case hdyb2=>(intro wx hx;(try dsimp only at hx);go_simp;try with_reducible rfl)
         try simp only [Act.put,zI,zO,zS]
         refine hd_taken 3 (some 118) _ ?hdvb3 rfl rfl (by kernel_rfl) (fun _ _ _ h=>h) (Or.inl ⟨by kernel_rfl,?hdyb3⟩) hS ?hdrb3
         case hdyb3=>(intro wx hx;(try dsimp only at hx);go_simp;try with_reducible rfl)
         try simp only [Act.put,zI,zO,zS]
         refine hd_taken 4 (some 119) _ ?hdvb4 rfl rfl (by kernel_rfl) (fun _ _ _ h=>h) (Or.inl ⟨by kernel_rfl,?hdyb4⟩) hS ?hdrb4
         case hdyb4=>(intro wx hx;(try dsimp only at hx);go_simp;try with_reducible rfl)
         try simp only [Act.put,zI,zO,zS]
         refine hd_taken 6 (some 121) _ ?hdvb6 rfl rfl (by kernel_rfl) (fun _ _ _ h=>h) (Or.inl ⟨by kernel_rfl,?hdyb6⟩) hS ?hdrb6
         case hdyb6=>(intro wx hx;(try dsimp only at hx);go_simp;try with_reducible rfl)
         try simp only [Act.put,zI,zO,zS]
         refine hd_taken 7 (some 122) _ ?hdvb7 rfl rfl (by kernel_rfl) (fun _ _ _ h=>h) (Or.inl ⟨by kernel_rfl,?hdyb7⟩) hS ?hdrb7
         case hdyb7=>(intro wx hx;(try dsimp only at hx);go_simp;try with_reducible rfl)
         try simp only [Act.put,zI,zO,zS]
         refine hd_taken 8 (some 123) _ ?hdvb8 rfl rfl (by kernel_rfl) (fun _ _ _ h=>h) (Or.inl ⟨by kernel_rfl,?hdyb8⟩) hS ?hdrb8
         case hdyb8=>(intro wx hx;(try dsimp only at hx);go_simp;try with_reducible rfl)
         try simp only [Act.put,zI,zO,zS]
         refine hd_taken 9 (some 124) _ ?hdvb9 rfl rfl (by kernel_rfl) (fun _ _ _ h=>h) (Or.inl ⟨by kernel_rfl,?hdyb9⟩) hS ?hdrb9
         case hdyb9=>(intro wx hx;(try dsimp only at hx);go_simp;try with_reducible rfl)
         try simp only [Act.put,zI,zO,zS]
         refine hd_taken 10 (some 125) _ ?hdvb10 rfl rfl (by kernel_rfl) (fun _ _ _ h=>h) (Or.inl ⟨by kernel_rfl,?hdyb10⟩) hS ?hdrb10
         case hdyb10=>(intro wx hx;(try dsimp only at hx);go_simp;try with_reducible rfl)
         try simp only [Act.put,zI,zO,zS]
         refine hd_taken 11 (some 126) _ ?hdvb11 rfl rfl (by kernel_rfl) (fun _ _ _ h=>h) (Or.inl ⟨by kernel_rfl,?hdyb11⟩) hS ?hdrb11
         case hdyb11=>(intro wx hx;(try dsimp only at hx);go_simp;try with_reducible rfl)
         try simp only [Act.put,zI,zO,zS]
         refine hd_taken 12 (some 127) _ ?hdvb12 rfl rfl (by kernel_rfl) (fun _ _ _ h=>h) (Or.inl ⟨by kernel_rfl,?hdyb12⟩) hS ?hdrb12
         case hdyb12=>(intro wx hx;(try dsimp only at hx);go_simp;try with_reducible rfl)
         try simp only [Act.put,zI,zO,zS]
         refine hd_one 5 _ rfl (by kernel_rfl) (by decide) (fun K5 hK5=>?_)
         go_simp
         refine HRU.out.mono ?_
         rintro e w8 ⟨rfl,b8⟩
         try dsimp only
         have HB8:Hid (Below X.heap.size X w8):=Lib.hid (st (Below.refl X.heap.size X).drew b8 (Nat.le_refl _))
         refine hK5.out _ _ (HSX.out _ HB8.out) ?_
         clear hK5 K5 b8 hS
         try simp only [Act.put,zI,zO,zS]
         have hS:=HSX.out w8 HB8.out
         refine hd_taken 13 (some 128) _ ?hdvbq13 rfl rfl (by kernel_rfl) (fun _ _ _ h=>h) (Or.inl ⟨by kernel_rfl,?hdybq13⟩) hS ?hdrbq13
         case hdybq13=>(intro wx hx;(try dsimp only at hx);go_simp;try with_reducible rfl)
         try simp only [Act.put,zI,zO,zS]
         refine hd_done (by kernel_rfl) ?_
         simp only [List.drop_succ_cons,List.drop_zero]
         have HB9:=Lib.hid (st HBX.out HB8.out HBX.out.size)
         have hck:w8.cell? ⟨bk,off+k*2,none⟩=some (.string CK):=hS.2.2.2
         clear hS HSX HB8 HRU HBX
         cases sb with
         |true=>
          have HNX:Hid ((l.take (k+1)).any (fun r=>hldC s r.2)=true):=Lib.hid (by rw [HTK.out];rfl)
          go_wp2_with fail
          go_roundw
          case measure=>simp [intOf];omega
          case rel=>exact⟨k+1,by omega,by go_num,by rw [HNX.out],HB9.out⟩
         |false=>
          have HNX:Hid ((l.take (k+1)).any (fun r=>hldC s r.2)=false):=Lib.hid (by rw [HTK.out];rfl)
          go_wp2_with fail
          go_roundw
          case measure=>simp [intOf];omega
          case rel=>exact⟨k+1,by omega,by go_num,by rw [HNX.out],HB9.out⟩
       ·obtain rfl:k=l.length:=by omega
        have h4:¬ (l.length:Int)<(l.length:Int):=by omega
        have HMX:=Lib.hid (HTT.out wo _ (HRC6.out.below HBO.out) ((HM.out.below B6.out).below HBO.out))
        have BE:=Lib.hid (st B6.out HBO.out B6.out.size)
        rw [List.take_length]
        have HO1:Hid ((CS.toList==([111,116,104,101,114]:List UInt8))= !(l.any fun r=>hldC s r.2)):=Lib.hid (by
         have:=HCSE.out othN
         rw [HOT.out,ByteArray.toList_eq (bs:=ofL othN)] at this
         exact this)
        obtain⟨sb,hsb⟩:∃ sb,(l.any fun r=>hldC s r.2)=sb:=⟨_,rfl⟩
        obtain⟨F,hF⟩:∃ F,(firstR (l.map Prod.snd) 1).getD []=F:=⟨_,rfl⟩
        rw [hF] at HMX HTO
        rw [hsb] at HTO HO1 ⊢
        have HSV:Hid ((spl s).isSome=true):=HSP
        have HRV2:=Lib.hid (fun wx=>HRV.out wx)
        rw [HSP.out] at HRV2
        clear hsb hF HBO
        have z1:=HO1.out
        go_wp2_with fail
        refine HMX.out.mono ?_
        rintro e w7 ⟨rfl,b7⟩
        have B7:=Lib.hid (st BE.out b7 BE.out.size)
        clear b7 HMX
        cases sb with
        |true=>
         have z2:(CS.toList==([111,116,104,101,114]:List UInt8))=false:=z1
         clear z1
         by_cases hF:F= []
         ·rw [decide_eq_true hF]
          go_wp2_with fail
          refine(HRV2.out _).mono ?_
          rintro e w8 ⟨rfl,b8⟩
          have B8:=Lib.hid (st B7.out b8 B7.out.size)
          clear b8
          go_wp2
          go_ret
          exact⟨rfl,B8.out⟩
         ·rw [decide_eq_false hF]
          go_wp2_with fail
          refine(HRV2.out _).mono ?_
          rintro e w8 ⟨rfl,b8⟩
          have B8:=Lib.hid (st B7.out b8 B7.out.size)
          clear b8
          go_wp2
          go_ret
          exact⟨rfl,B8.out⟩
        |false=>
         have z2:(CS.toList==([111,116,104,101,114]:List UInt8))=true:=z1
         clear z1
         by_cases hF:F= []
         ·exact absurd (HTO.out hF) (by decide)
         ·rw [decide_eq_false hF]
          go_wp2_with fail
          refine(HRV2.out _).mono ?_
          rintro e w8 ⟨rfl,b8⟩
          have B8:=Lib.hid (st B7.out b8 B7.out.size)
          clear b8
          go_wp2
          go_ret
          exact⟨rfl,B8.out⟩
  ·rw [Bool.eq_false_iff.2 hu]
   go_wp2
   go_ret
   exact⟨rfl,B4.out⟩
 ·rw [decide_eq_false hvr] at HVA
  go_wp2_with fail
  refine(HVA.out _ (HV.out.below B1.out)).mono ?_
  rintro e w3 ⟨rfl,b3⟩
  have B3:=Lib.hid (st B1.out b3 B1.out.size)
  clear b3
  go_wp2
  go_ret
  exact⟨rfl,B3.out⟩
open Go.RowKit
theorem wholeClasses_in (l:Rus) (v:Value) (a:ByteArray) (w:World) (hv:RdRus w v l) (hr:RusR l) (ha:a.size≤maxLen) (E:ClG w∧MaxL w):Calls Tryz.prog 9 #[v,.string a] w fun e w'=>e= .returned (.bool true)∧Below w.heap.size w w':=by
 have h:=wholeClasses_walk v l a.data.toList (by rw [len_data];exact ha) w hv hr E.1 E.2
 rw [of_data] at h
 exact h
end Go.Proofs.YtmnclnpbmgomgaaGreatDoor
