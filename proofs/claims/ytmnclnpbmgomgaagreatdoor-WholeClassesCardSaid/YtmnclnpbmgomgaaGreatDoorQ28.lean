/- What the row stands on, part 28. -/
import Derived.Test.YtmnclnpbmgomgaaGreatDoorQ27
namespace Go.Proofs.YtmnclnpbmgomgaaGreatDoor
open Go.RowKit
set_option linter.unusedVariables false
def Few14P (l:Rus) (w:World) (e:Ending) (w':World):Prop:=(∃ b,e= .returned (.bool b)∧(b=true→l.length≤10∧∀ i (h:i<l.length),(l[i]'h).2.length≤30))∧w'=w
set_option maxRecDepth 1000000 in
set_option maxHeartbeats 4000000 in
theorem few14_any (v:Value) (l:Rus) (w:World) (hv:RdRus w v l):Calls Tryz.prog 11 #[v] w (Few14P l w):=by
 have HE:Hid (∀ b:Bool,(b=true→l.length≤10∧∀ i (h:i<l.length),(l[i]'h).2.length≤30)→Few14P l w (.returned (.bool b)) w):=Lib.hid (fun b h=>⟨⟨b,rfl,h⟩,rfl⟩)
 obtain⟨E,hE⟩:∃ E,Few14P l w=E:=⟨_,rfl⟩
 rw [hE] at HE ⊢
 clear hE
 obtain⟨a,c,rfl,h2,h3⟩:=hv.slice
 have HV:=Lib.hid hv
 obtain⟨N,eN⟩:∃ N,l.length=N:=⟨_,rfl⟩
 have HL:=Lib.hid eN
 rw [eN] at HV h2 ⊢
 clear hv eN
 go_enter Tryz.func11,Tryz.ntmps11
 go_wp2
 go_loop [3] (fun x=>∃ k:Nat,k≤N∧x= .int .i64 k∧∀ i (h:i<l.length),i<k→(l[i]'h).2.length≤30) (fun x=>N - (intOf x).toNat)
 case atStart=>exact⟨0,Nat.zero_le _,rfl,fun i h hi=>by omega⟩
 case round=>
  obtain⟨k,hk,rfl,hall⟩:=hrel
  have HA:=Lib.hid hall
  clear hall
  by_cases hlt:k<N
  ·have t0:decide ((k:Int)<(N:Int))=true:=decide_eq_true (by omega)
   have hkl:k<l.length:=by rw [HL.out];exact hlt
   obtain⟨b,off,x1,x2,rfl,_,c0,c1,hc⟩:=HV.out.at_ k hkl
   have HF:=Lib.hid (few_any _ _ w hc)
   have HNX:Hid ((l[k]'hkl).2.length≤30→∀ i (h:i<l.length),i<k+1→(l[i]'h).2.length≤30):=Lib.hid (fun e i h hi=>by
    rcases Nat.lt_or_ge i k with q|q
    ·exact HA.out i h q
    ·obtain rfl:i=k:=by omega
     exact e)
   obtain⟨y,hy⟩:∃ y,l[k]'hkl=y:=⟨_,rfl⟩
   rw [hy] at c0 c1 HF HNX
   clear hc hy hkl
   go_wp2_with fail
   refine HF.out.mono ?_
   rintro e w6 ⟨⟨fb,rfl,hfb⟩,hw6⟩
   obtain rfl:=hw6.symm
   have HFB:=Lib.hid hfb
   clear hw6 hfb
   cases fb with
   |false=>
    go_wp2
    skip
    exact HE.out _ (fun h=>by cases h)
   |true=>
    have HN2:=Lib.hid (HNX.out (HFB.out rfl))
    go_wp2
    go_round
    case rel=>exact⟨k+1,by omega,by go_num,HN2.out⟩
    case measure=>simp [intOf];omega
  ·have t0:decide ((k:Int)<(N:Int))=false:=decide_eq_false (by omega)
   obtain⟨tb,htb⟩:∃ tb,decide ((N:Int)≤10)=tb:=⟨_,rfl⟩
   have HTB:=Lib.hid htb
   have HN2:Hid (∀ i (h:i<l.length),(l[i]'h).2.length≤30):=Lib.hid (fun i h=>HA.out i h (by have:=HL.out;omega))
   go_wp2
   skip
   exact HE.out _ (fun h=>⟨by have h2:=of_decide_eq_true (HTB.out.trans h);rw [HL.out];omega,HN2.out⟩)
theorem VR_of {l:Rus} (h:∀ j (hj:j<l.length),(l[j]'hj).1∈clsN∧okC (l[j]'hj).2=true∧∀ k (hk:k<l.length),k<j→(l[k]'hk).1≠(l[j]'hj).1):VR l:=by
 refine⟨fun x hx=>?_,?_⟩
 ·obtain⟨i,hi,rfl⟩:=List.mem_iff_getElem.1 hx
  exact⟨(h i hi).1,(h i hi).2.1⟩
 ·rw [List.nodup_iff_pairwise_ne,List.pairwise_iff_getElem]
  intro i j hi hj hij
  rw [List.length_map] at hi hj
  simpa using(h j hj).2.2 i hi hij
theorem VR_no1 {l:Rus} {j:Nat} (hj:j<l.length) (h:¬ ((l[j]'hj).1∈clsN∧okC (l[j]'hj).2=true)):¬ VR l:=fun k=>h (k.1 _ (List.getElem_mem hj))
theorem VR_no2 {l:Rus} {j k:Nat} (hj:j<l.length) (hk:k<l.length) (hkj:k<j) (h:(l[k]'hk).1=(l[j]'hj).1):¬ VR l:=fun q=>by
 have:=(List.getElem_inj (h₀:=by simpa using hk) (h₁:=by simpa using hj) q.2).1 (by simpa using h)
 omega
theorem classes12_any (w:World):Calls Tryz.prog 40 #[] w fun e w'=>∃ v,e= .returned v∧Rd 1 encT w' v clsN∧Below w.heap.size w w':=by
 go_enter Tryz.func40,Tryz.ntmps40
 have B0:=Lib.hid ((Below.refl w.heap.size w).alloc (Nat.le_refl _) (.cells #[.string ⟨#[122,101,114,111]⟩,.string ⟨#[111,110,101]⟩,.string ⟨#[116,119,111]⟩,.string ⟨#[102,101,119]⟩,.string ⟨#[109,97,110,121]⟩] 9))
 go_wp2
 go_ret
 refine⟨_,rfl,?_,B0.out⟩
 have o:Own1 1 encT (w.alloc (.cells #[.string (ofL [122,101,114,111]),.string (ofL [111,110,101]),.string (ofL [116,119,111]),.string (ofL [102,101,119]),.string (ofL [109,97,110,121])] 9)) w.heap.size 9 (.slice (some ⟨w.heap.size,0,none⟩) 5 5) clsN:=⟨by rfl,.inr ⟨w.heap.size,5,#[.string (ofL [122,101,114,111]),.string (ofL [111,110,101]),.string (ofL [116,119,111]),.string (ofL [102,101,119]),.string (ofL [109,97,110,121])],rfl,Nat.le_refl _,heap_alloc_new w _,Nat.le_refl _,by decide,rfl,rfl⟩⟩
 exact o.rd (fun _=>rfl)
set_option maxRecDepth 1000000 in
set_option maxHeartbeats 8000000 in
theorem valid14_any (v:Value) (l:Rus) (w:World) (hv:RdRus w v l) (hl:∀ i (h:i<l.length),cnt (l[i]'h).2≤4611686018427387904):Calls Tryz.prog 15 #[v] w fun e w'=>e= .returned (.bool (decide (VR l)))∧Below w.heap.size w w':=by
 have HY:=Lib.hid (@VR_of l)
 have HN1:=Lib.hid (fun j hj h=>@VR_no1 l j hj h)
 have HN2:=Lib.hid (fun j k hj hk hkj h=>@VR_no2 l j k hj hk hkj h)
 obtain⟨R,hR⟩:∃ R,decide (VR l)=R:=⟨_,rfl⟩
 have HRT:Hid (VR l→R=true):=Lib.hid (fun h=>by rw [←hR];exact decide_eq_true h)
 have HRF:Hid (¬ VR l→R=false):=Lib.hid (fun h=>by rw [←hR];exact decide_eq_false h)
 rw [hR]
 clear hR
 have HLC:=Lib.hid hl
 obtain⟨a,c,rfl,h2,h3⟩:=hv.slice
 have HV:=Lib.hid hv
 obtain⟨N,eN⟩:∃ N,l.length=N:=⟨_,rfl⟩
 have HL:=Lib.hid eN
 rw [eN] at HV h2 ⊢
 clear hv eN hl
 go_enter Tryz.func15,Tryz.ntmps15
 go_wp2
 go_loopw [3] (fun x wr=>∃ j:Nat,j≤N∧x= .int .i64 j∧(∀ i (hi:i<l.length),i<j→(l[i]'hi).1∈clsN∧okC (l[i]'hi).2=true∧∀ k (hk:k<l.length),k<i→(l[k]'hk).1≠(l[i]'hi).1)∧Below w.heap.size w wr) (fun x _=>N - (intOf x).toNat)
 case atStart=>exact⟨0,Nat.zero_le _,rfl,fun i h hi=>by omega,Below.refl _ _⟩
 case round=>
  obtain⟨j,hj,rfl,hall,hbw⟩:=hrel
  have HA:=Lib.hid hall
  have HX:=Lib.hid hbw
  clear hall hbw
  by_cases hlt:j<N
  ·have t0:decide ((j:Int)<(N:Int))=true:=decide_eq_true (by omega)
   have hjl:j<l.length:=by rw [HL.out];exact hlt
   have HVR:=Lib.hid (HV.out.below HX.out)
   obtain⟨b,off,x1,x2,rfl,hbs,c0,c1,hc⟩:=HVR.out.at_ j hjl
   have HC:=Lib.hid hc
   have HVC:Hid (∀ wx,Below wr.heap.size wr wx→Calls Tryz.prog 41 #[.slice x1 (l[j]'hjl).2.length x2] wx fun e w'=>e= .returned (.bool (okC (l[j]'hjl).2))∧Below wx.heap.size wx w'):=Lib.hid (fun wx hb=>refValidC_any _ _ wx (HC.out.below hb) (HLC.out j hjl))
   have HCE:Hid (∀ wx,Below wr.heap.size wr wx→wx.cell? ⟨b,off+j*2,none⟩=some (.string (ofL (l[j]'hjl).1))∧wx.cell? ⟨b,off+j*2+1,none⟩=some (.slice x1 (l[j]'hjl).2.length x2)):=Lib.hid (fun wx hb=>by
    have e:∀ o,wx.cell? ⟨b,o,none⟩=wr.cell? ⟨b,o,none⟩:=fun o=>by simp only [World.cell?,hb.block b hbs]
    exact⟨(e _).trans c0,(e _).trans c1⟩)
   have HNO:=Lib.hid (fun h=>HRF.out (HN1.out j hjl h))
   have HNO2:=Lib.hid (fun k hk hkj h=>HRF.out (HN2.out j k hjl hk hkj h))
   have HNX:Hid ((l[j]'hjl).1∈clsN→okC (l[j]'hjl).2=true→(∀ k (hk:k<l.length),k<j→(l[k]'hk).1≠(l[j]'hjl).1)→∀ i (hi:i<l.length),i<j+1→(l[i]'hi).1∈clsN∧okC (l[i]'hi).2=true∧∀ k (hk:k<l.length),k<i→(l[k]'hk).1≠(l[i]'hi).1):=Lib.hid (fun e1 e2 e3 i hi h=>by
    rcases Nat.lt_or_ge i j with q|q
    ·exact HA.out i hi q
    ·obtain rfl:i=j:=by omega
     exact⟨e1,e2,e3⟩)
   obtain⟨y,hy⟩:∃ y,l[j]'hjl=y:=⟨_,rfl⟩
   rw [hy] at c0 c1 HVC HCE HNO HNO2 HNX
   clear hc hy HC
   obtain⟨hb,hhb⟩:∃ hb,hasB clsN y.1=hb:=⟨_,rfl⟩
   have HHB:=Lib.hid hhb
   obtain⟨vb,hvb⟩:∃ vb,okC y.2=vb:=⟨_,rfl⟩
   rw [hvb] at HVC
   have HVB:=Lib.hid hvb
   clear hhb hvb c0 c1
   go_upto_region 4 with fail
   refine region_hd 16 (fun wx:World=>wx.cell? ⟨b,off+j*2,none⟩=some (.string (ofL y.1))∧wx.cell? ⟨b,off+j*2+1,none⟩=some (.slice x1 y.2.length x2)) (by kernel_rfl) (by kernel_rfl) ?_
   have hS0:=HCE.out wr.drew (Below.refl _ _).drew
   refine hd_taken 1 (some 12) _ ?hdv1 rfl rfl (by kernel_rfl) (fun _ _ _ h=>h) (Or.inl ⟨by kernel_rfl,?hdy1⟩) hS0 ?hdr1
   case hdy1=>(intro wx hx;(try dsimp only at hx);go_simp;try with_reducible rfl)
   try simp only [Act.put,zI,zO,zS]
   refine hd_taken 2 (some 13) _ ?hdv2 rfl rfl (by kernel_rfl) (fun _ _ _ h=>h) (Or.inl ⟨by kernel_rfl,?hdy2⟩) hS0 ?hdr2
   case hdy2=>(intro wx hx;(try dsimp only at hx);go_simp;try with_reducible rfl)
   try simp only [Act.put,zI,zO,zS]
   refine hd_taken 3 (some 14) _ ?hdv3 rfl rfl (by kernel_rfl) (fun _ _ _ h=>h) (Or.inl ⟨by kernel_rfl,?hdy3⟩) hS0 ?hdr3
   case hdy3=>(intro wx hx;(try dsimp only at hx);go_simp;try with_reducible rfl)
   try simp only [Act.put,zI,zO,zS]
   refine hd_taken 4 (some 15) _ ?hdv4 rfl rfl (by kernel_rfl) (fun _ _ _ h=>h) (Or.inl ⟨by kernel_rfl,?hdy4⟩) hS0 ?hdr4
   case hdy4=>(intro wx hx;(try dsimp only at hx);go_simp;try with_reducible rfl)
   try simp only [Act.put,zI,zO,zS]
   refine hd_taken 5 (some 16) _ ?hdv5 rfl rfl (by kernel_rfl) (fun _ _ _ h=>h) (Or.inl ⟨by kernel_rfl,?hdy5⟩) hS0 ?hdr5
   case hdy5=>(intro wx hx;(try dsimp only at hx);go_simp;try with_reducible rfl)
   try simp only [Act.put,zI,zO,zS]
   refine hd_one 0 _ rfl (by kernel_rfl) (by decide) (fun K0 hK0=>?_)
   go_simp
   refine(classes12_any _).mono ?_
   rintro e w5 ⟨v5,rfl,r5,b5⟩
   try dsimp only
   have B5:Below wr.heap.size wr w5:=(Below.refl _ wr).drew.trans b5
   have R5:=Lib.hid r5
   have hS5:=HCE.out w5 B5
   refine hK0.out _ _ hS5 ?_
   clear hK0 K0 hS0 b5 r5
   try simp only [Act.put,zI,zO,zS]
   refine hd_one 6 _ rfl (by kernel_rfl) (by decide) (fun K6 hK6=>?_)
   go_simp
   refine(has14_any v5 clsN y.1 _ R5.out).mono ?_
   rw [HHB.out]
   rintro e w6 ⟨rfl,hw6⟩
   obtain rfl:=hw6.symm
   try dsimp only
   refine hK6.out _ _ hS5 ?_
   clear hK6 K6 hw6
   try simp only [Act.put,zI,zO,zS]
   cases hb with
   |false=>
    have HR:Hid (R=false):=Lib.hid (HNO.out fun h=>by have:=hasB_iff.2 h.1;rw [HHB.out] at this;cases this)
    refine hd_taken 7 (some 18) _ ?hdva7 rfl rfl (by kernel_rfl) (fun _ _ _ h=>h) (Or.inl ⟨by kernel_rfl,?hdya7⟩) hS5 ?hdra7
    case hdya7=>(intro wx hx;(try dsimp only at hx);go_simp;try with_reducible rfl)
    try simp only [Act.put,zI,zO,zS]
    refine hd_taken 8 (some 19) _ ?hdva8 rfl rfl (by kernel_rfl) (fun _ _ _ h=>h) (Or.inl ⟨by kernel_rfl,?hdya8⟩) hS5 ?hdra8
    case hdya8=>(intro wx hx;(try dsimp only at hx);go_simp;try with_reducible rfl)
    try simp only [Act.put,zI,zO,zS]
    refine hd_taken 9 (some 20) _ undef rfl rfl (by kernel_rfl) (fun _ _ _ h=>h) (Or.inr ⟨by rfl,rfl⟩) hS5 ?_
    try simp only [Act.put,zI,zO,zS]
    refine hd_taken 10 (some 21) _ undef rfl rfl (by kernel_rfl) (fun _ _ _ h=>h) (Or.inr ⟨by rfl,rfl⟩) hS5 ?_
    try simp only [Act.put,zI,zO,zS]
    refine hd_taken 11 (some 22) _ undef rfl rfl (by kernel_rfl) (fun _ _ _ h=>h) (Or.inr ⟨by rfl,rfl⟩) hS5 ?_
    try simp only [Act.put,zI,zO,zS]
    refine hd_taken 12 (some 23) _ undef rfl rfl (by kernel_rfl) (fun _ _ _ h=>h) (Or.inr ⟨by rfl,rfl⟩) hS5 ?_
    try simp only [Act.put,zI,zO,zS]
    refine hd_taken 13 (some 24) _ undef rfl rfl (by kernel_rfl) (fun _ _ _ h=>h) (Or.inr ⟨by rfl,rfl⟩) hS5 ?_
    try simp only [Act.put,zI,zO,zS]
    refine hd_taken 14 (some 25) _ undef rfl rfl (by kernel_rfl) (fun _ _ _ h=>h) (Or.inr ⟨by rfl,rfl⟩) hS5 ?_
    try simp only [Act.put,zI,zO,zS]
    refine hd_taken 15 (some 26) _ undef rfl rfl (by kernel_rfl) (fun _ _ _ h=>h) (Or.inr ⟨by rfl,rfl⟩) hS5 ?_
    try simp only [Act.put,zI,zO,zS]
    refine hd_done (by kernel_rfl) ?_
    simp only [List.drop_succ_cons,List.drop_zero]
    have BF:=Lib.hid (st HX.out B5 HX.out.size)
    go_wp2_with fail
    go_ret
    exact⟨by rw [HR.out];rfl,BF.out⟩
   |true=>
    refine hd_taken 7 (some 18) _ ?hdvb7 rfl rfl (by kernel_rfl) (fun _ _ _ h=>h) (Or.inl ⟨by kernel_rfl,?hdyb7⟩) hS5 ?hdrb7
    case hdyb7=>(intro wx hx;(try dsimp only at hx);go_simp;try with_reducible rfl)
    try simp only [Act.put,zI,zO,zS]
    refine hd_taken 8 (some 19) _ ?hdvb8 rfl rfl (by kernel_rfl) (fun _ _ _ h=>h) (Or.inl ⟨by kernel_rfl,?hdyb8⟩) hS5 ?hdrb8
    case hdyb8=>(intro wx hx;(try dsimp only at hx);go_simp;try with_reducible rfl)
    try simp only [Act.put,zI,zO,zS]
    refine hd_taken 9 (some 20) _ ?hdvb9 rfl rfl (by kernel_rfl) (fun _ _ _ h=>h) (Or.inl ⟨by kernel_rfl,?hdyb9⟩) hS5 ?hdrb9
    case hdyb9=>(intro wx hx;(try dsimp only at hx);go_simp;try with_reducible rfl)
    try simp only [Act.put,zI,zO,zS]
    refine hd_taken 10 (some 21) _ ?hdvb10 rfl rfl (by kernel_rfl) (fun _ _ _ h=>h) (Or.inl ⟨by kernel_rfl,?hdyb10⟩) hS5 ?hdrb10
    case hdyb10=>(intro wx hx;(try dsimp only at hx);go_simp;try with_reducible rfl)
    try simp only [Act.put,zI,zO,zS]
    refine hd_taken 11 (some 22) _ ?hdvb11 rfl rfl (by kernel_rfl) (fun _ _ _ h=>h) (Or.inl ⟨by kernel_rfl,?hdyb11⟩) hS5 ?hdrb11
    case hdyb11=>(intro wx hx;(try dsimp only at hx);go_simp;try with_reducible rfl)
    try simp only [Act.put,zI,zO,zS]
    refine hd_taken 12 (some 23) _ ?hdvb12 rfl rfl (by kernel_rfl) (fun _ _ _ h=>h) (Or.inl ⟨by kernel_rfl,?hdyb12⟩) hS5 ?hdrb12
    case hdyb12=>(intro wx hx;(try dsimp only at hx);go_simp;try with_reducible rfl)
    try simp only [Act.put,zI,zO,zS]
    refine hd_taken 13 (some 24) _ ?hdvb13 rfl rfl (by kernel_rfl) (fun _ _ _ h=>h) (Or.inl ⟨by kernel_rfl,?hdyb13⟩) hS5 ?hdrb13
    case hdyb13=>(intro wx hx;(try dsimp only at hx);go_simp;try with_reducible rfl)
    try simp only [Act.put,zI,zO,zS]
    refine hd_one 14 _ rfl (by kernel_rfl) (by decide) (fun K14 hK14=>?_)
    go_simp
    refine(HVC.out _ B5).mono ?_
    rintro e w7 ⟨rfl,b7⟩
    try dsimp only
    have B7:Below wr.heap.size wr w7:=st B5 b7 B5.size
    have hS7:=HCE.out w7 B7
    refine hK14.out _ _ hS7 ?_
    clear hK14 K14 hS5 b7
    try simp only [Act.put,zI,zO,zS]
    refine hd_taken 15 (some 26) _ ?hdvc15 rfl rfl (by kernel_rfl) (fun _ _ _ h=>h) (Or.inl ⟨by kernel_rfl,?hdyc15⟩) hS7 ?hdrc15
    case hdyc15=>(intro wx hx;(try dsimp only at hx);go_simp;try with_reducible rfl)
    try simp only [Act.put,zI,zO,zS]
    refine hd_done (by kernel_rfl) ?_
    simp only [List.drop_succ_cons,List.drop_zero]
    have BF:=Lib.hid (st HX.out B7 HX.out.size)
    clear hS7
    cases vb with
    |false=>
     have HR:Hid (R=false):=Lib.hid (HNO.out fun h=>by rw [HVB.out] at h;cases h.2)
     go_wp2_with fail
     go_ret
     exact⟨by rw [HR.out];rfl,BF.out⟩
    |true=>
     have HNX2:=Lib.hid (HNX.out (hasB_iff.1 HHB.out) HVB.out)
     have HV7:=Lib.hid (HV.out.below BF.out)
     have HC7:=Lib.hid (HCE.out w7 B7)
     go_wp2_with fail
     go_loopw [4] (fun x wx=>∃ k:Nat,k≤j∧x= .int .i64 k∧(∀ i (hi:i<l.length),i<k→(l[i]'hi).1≠y.1)∧Below w7.heap.size w7 wx) (fun x _=>j - (intOf x).toNat)
     case atStart=>exact⟨0,Nat.zero_le _,rfl,fun i hi h=>by omega,Below.refl _ _⟩
     case round=>
      obtain⟨k,hk,rfl,hall,hbw⟩:=hrel
      have HA2:=Lib.hid hall
      have HX2:=Lib.hid hbw
      clear hall hbw
      by_cases hlk:k<j
      ·have t1:decide ((k:Int)<(j:Int))=true:=decide_eq_true (by omega)
       have t1':decide (k<j)=true:=decide_eq_true hlk
       have hkl:k<l.length:=by rw [HL.out];omega
       obtain⟨b2,off2,z1,z2,e2,hbs2,d0,d1,hrc⟩:=(HV7.out.below HX2.out).at_ k hkl
       cases e2
       have g0:∀ wz,Below w7.heap.size w7 wz→wz.cell? ⟨b,off+j*2,none⟩=some (.string (ofL y.1)):=fun wz hb=>(HCE.out wz (B7.trans (hb.mono B7.size))).1
       have c0:=g0 _ HX2.out
       have HNK:=Lib.hid (fun e=>HNO2.out k hkl hlk e)
       have HNK2:Hid (¬ (l[k]'hkl).1=y.1→∀ i (hi:i<l.length),i<k+1→(l[i]'hi).1≠y.1):=Lib.hid (fun e i hi h=>by
        rcases Nat.lt_or_ge i k with q|q
        ·exact HA2.out i hi q
        ·obtain rfl:i=k:=by omega
         exact e)
       obtain⟨x0,hx0⟩:∃ x0,(l[k]'hkl).1=x0:=⟨_,rfl⟩
       rw [hx0] at d0 HNK HNK2
       clear hx0 d1 g0 hrc hkl
       by_cases he:x0=y.1
       ·have t2:((ofL x0).toList==(ofL y.1).toList)=true:=by rw [beqP];exact decide_eq_true he
        have HR:=Lib.hid (HNK.out he)
        have BF2:=Lib.hid (st BF.out HX2.out BF.out.size)
        clear he
        go_wp2
        go_quiet (fail)
        go_wp2
        go_ret
        exact⟨by rw [HR.out];rfl,below_drewN BF2.out _⟩
       ·have t2:((ofL x0).toList==(ofL y.1).toList)=false:=by rw [beqP];exact decide_eq_false he
        have HN3:=Lib.hid (HNK2.out he)
        clear he
        go_wp2
        go_quiet (fail)
        go_wp2
        go_roundw
        case rel=>exact⟨k+1,by omega,by go_num,HN3.out,below_drewN HX2.out _⟩
        case measure=>simp [intOf];omega
      ·have t1:decide ((k:Int)<(j:Int))=false:=decide_eq_false (by omega)
       have t1':decide (k<j)=false:=decide_eq_false hlk
       have HNX3:=Lib.hid (HNX2.out fun i hi h=>HA2.out i hi (by omega))
       have BF2:=Lib.hid (st BF.out HX2.out BF.out.size)
       clear hlk
       go_wp2
       go_roundw
       case rel=>exact⟨j+1,by omega,by go_num,HNX3.out,BF2.out⟩
       case measure=>simp [intOf];omega
  ·have t0:decide ((j:Int)<(N:Int))=false:=decide_eq_false (by omega)
   have HR:Hid (R=true):=Lib.hid (HRT.out (HY.out fun i hi=>HA.out i hi (by have:=HL.out;omega)))
   go_wp2
   go_ret
   exact⟨by rw [HR.out];rfl,HX.out⟩
theorem classR_bad1 {l:Rus} {s:Str} (h:decide (VR l)=false):classR l s=([],1):=by
 unfold classR
 rw [if_neg (fun k=>of_decide_eq_false h k.1)]
theorem classR_bad2 {l:Rus} {s:Str} (h:(spl s).isSome=false):classR l s=([],1):=by
 unfold classR
 rw [if_neg (fun k=>by rw [h] at k;cases k.2)]
theorem clsR_first {l:Rus} {s:Str} {k:Nat} (hk:k<l.length) (h:∀ i (hi:i<l.length),i<k→hldC s (l[i]'hi).2=false) (e:hldC s (l[k]'hk).2=true):clsR l s=(l[k]'hk).1:=by
 unfold clsR
 have:l.find? (fun r=>hldC s r.2)=some (l[k]'hk):=by
  rw [List.find?_eq_some_iff_getElem]
  exact⟨e,k,hk,rfl,fun j hj=>by simpa using h j (by omega) hj⟩
 rw [this]
theorem clsR_end {l:Rus} {s:Str} (h:∀ i (hi:i<l.length),hldC s (l[i]'hi).2=false):clsR l s=othN:=clsR_none fun r hr=>by
 obtain⟨i,hi,rfl⟩:=List.mem_iff_getElem.1 hr
 exact h i hi
def plA:Cnd:=[[⟨2,0,false,[(1,1)]⟩,⟨3,0,false,[(0,0)]⟩]]
def plB:Cnd:=[[⟨3,0,false,[(0,0)]⟩,⟨2,10,false,[(2,4)]⟩,⟨2,100,true,[(12,14)]⟩]]
def plT:ByteArray:=⟨#[105,32,61,32,49,32,97,110,100,32,118,32,61,32,48]⟩
def plU:ByteArray:=⟨#[118,32,61,32,48,32,97,110,100,32,105,32,37,32,49,48,32,61,32,50,46,46,52,32,97,110,100,32,105,32,37,32,49,48,48,32,33,61,32,49,50,46,46,49,52]⟩
def ParP14 (c:Cnd) (w:World) (e:Ending) (w':World):Prop:=∃(a:Option Addr) (n k:Nat),e= .returned (.tuple #[.slice a n k,.int .i64 0,.int .i64 0])∧RdC w' (.slice a n k) c∧Below w.heap.size w w'
def RusR (l:Rus):Prop:=∀ i (h:i<l.length),∀ k∈(l[i]'h).2,k.length≤140737488355328
structure PlC (EV:World→Prop):Prop where
 later:∀ {w w':World},EV w→Below w.heap.size w w'→EV w'
 parseA:∀ w,EV w→Calls Tryz.prog 65 #[.string plT] w (ParP14 plA w)
 parseB:∀ w,EV w→Calls Tryz.prog 65 #[.string plU] w (ParP14 plB w)
 class_:∀(v:Value) (l:Rus) (s:Str) (w:World),RdRus w v l→RusR l→l.length≤10→s.length≤9223372036854775807→EV w→Calls Tryz.prog 12 #[v,.string (ofL s)] w fun e w'=>e= .returned (.tuple #[.string (ofL (classR l s).1),.int .i64 ((classR l s).2:Nat)])∧Below w.heap.size w w'
section
variable {EV:World→Prop} (C:PlC EV)
include C
end
def ClG (w:World):Prop:=∀(i:Nat) (h:i<ordN.length),w.cell? ⟨0,i,none⟩=some (.string (ofL (ordN[i]'h)))
theorem ClG.below {w w':World} (h:ClG w) (hb:Below w.heap.size w w'):ClG w':=fun i hi=>(hb.cell (p:=⟨0,i,none⟩) (World.block_lt_of_cell? _ _ (h i hi))).trans (h i hi)
theorem index_cls {c:Nat} (hc:c<ordN.length) (w:World):(Instr.index 106 (.agg #[.string (ofL [122,101,114,111]),.string (ofL [111,110,101]),.string (ofL [116,119,111]),.string (ofL [102,101,119]),.string (ofL [109,97,110,121]),.string (ofL [111,116,104,101,114])]) (.int .i64 (c:Int))).run Tryz.prog w= .ok (.string (ofL (ordN[c]'hc))) w:=by
 have h1:(isAgg 9).run Tryz.prog w= .ok false w:=by kernel_rfl
 have h2:(sizeOf 9).run Tryz.prog w= .ok 1 w:=by kernel_rfl
 have h6:c<6:=hc
 obtain rfl|rfl|rfl|rfl|rfl|rfl:c=0∨c=1∨c=2∨c=3∨c=4∨c=5:=by omega
 all_goals simp [Instr.index,asIntOf,run_underlying Tryz.underlying106,part,Sem.run_bind,h1,h2,Result.andThen,ordN,clsN,othN]
set_option maxRecDepth 1000000 in
set_option maxHeartbeats 4000000 in
theorem isClass_any (s:Str) (w:World) (hg:ClG w):Calls Tryz.prog 36 #[.string (ofL s)] w fun e w'=>e= .returned (.bool (hasB ordN s))∧w'=w:=by
 have HY:=Lib.hid (fun k hk e=>@hasB_at ordN s k hk e)
 have HN:=Lib.hid (@hasB_no ordN s)
 obtain⟨R,hR⟩:∃ R,hasB ordN s=R:=⟨_,rfl⟩
 rw [hR] at HY HN ⊢
 clear hR
 have c0:w.cell? ⟨0,0,none⟩=some (.string (ofL [122,101,114,111])):=hg 0 (by decide)
 have c1:w.cell? ⟨0,1,none⟩=some (.string (ofL [111,110,101])):=hg 1 (by decide)
 have c2:w.cell? ⟨0,2,none⟩=some (.string (ofL [116,119,111])):=hg 2 (by decide)
 have c3:w.cell? ⟨0,3,none⟩=some (.string (ofL [102,101,119])):=hg 3 (by decide)
 have c4:w.cell? ⟨0,4,none⟩=some (.string (ofL [109,97,110,121])):=hg 4 (by decide)
 have c5:w.cell? ⟨0,5,none⟩=some (.string (ofL [111,116,104,101,114])):=hg 5 (by decide)
 clear hg
 go_enter Tryz.func36,Tryz.ntmps36
 go_wp2
 go_loop [6] (fun x=>∃ k:Nat,k≤6∧x= .int .i64 k∧∀ i (h:i<ordN.length),i<k→ordN[i]'h≠s) (fun x=>6 - (intOf x).toNat)
 case atStart=>exact⟨0,Nat.zero_le _,rfl,fun i h hi=>by omega⟩
 case round=>
  obtain⟨k,hk,rfl,hall⟩:=hrel
  have HA:=Lib.hid hall
  clear hall
  by_cases hlt:k<6
  ·have t0:decide ((k:Int)<6)=true:=decide_eq_true (by omega)
   have t0':decide (k<6)=true:=decide_eq_true hlt
   have hkl:k<ordN.length:=hlt
   have hix:=index_cls hkl w
   have HK:=Lib.hid (fun e=>HY.out k hkl e)
   have HNX:Hid (¬ ordN[k]'hkl=s→∀ i (h:i<ordN.length),i<k+1→ordN[i]'h≠s):=Lib.hid (fun e i h hi=>by
    rcases Nat.lt_or_ge i k with q|q
    ·exact HA.out i h q
    ·obtain rfl:i=k:=by omega
     exact e)
   obtain⟨y,hy⟩:∃ y,ordN[k]'hkl=y:=⟨_,rfl⟩
   rw [hy] at hix HK HNX
   clear hy hkl
   by_cases he:y=s
   ·have t1:((ofL s).toList==(ofL y).toList)=true:=by rw [beqP];exact decide_eq_true he.symm
    have HR:=Lib.hid (HK.out he)
    clear he
    go_wp2
    go_ret
    exact⟨by rw [HR.out];rfl,rfl⟩
   ·have t1:((ofL s).toList==(ofL y).toList)=false:=by rw [beqP];exact decide_eq_false (fun h=>he h.symm)
    have HN2:=Lib.hid (HNX.out he)
    clear he
    go_wp2
    go_round
    case rel=>exact⟨k+1,by omega,by go_num,HN2.out⟩
    case measure=>simp [intOf];omega
  ·have t0:decide ((k:Int)<6)=false:=decide_eq_false (by omega)
   have t0':decide (k<6)=false:=decide_eq_false hlt
   have HR:Hid (R=false):=Lib.hid (HN.out fun i h=>HA.out i h (by have:i<6:=h;omega))
   go_wp2
   go_ret
   exact⟨by rw [HR.out];rfl,rfl⟩
def FndP (l:Rus) (c:Str) (r:Int):Prop:=(∃(i:Nat) (h:i<l.length),r=(i:Int)∧(l[i]'h).1=c∧∀(j:Nat) (hj:j<l.length),j<i→(l[j]'hj).1≠c)∨(r= -1∧∀(j:Nat) (hj:j<l.length),(l[j]'hj).1≠c)
set_option maxRecDepth 1000000 in
set_option maxHeartbeats 2000000 in
theorem find1_any (x:Str × RawS) (c:Str) (B:Nat) (W:World) (hc:W.cell? ⟨B,0,none⟩=some (.string (ofL c))) (hB:B<W.heap.size):
  Calls Tryz.prog 75 (#[.agg #[.string (ofL x.1),.slice x.2.a x.2.n x.2.c]]++ #[.pointer (some ⟨B,0,none⟩)]) W fun e w'=>e= .returned (.bool (decide (x.1=c)))∧Below W.heap.size W w':=by
 obtain⟨x0,a1,n1,c1⟩:=x
 have K:=Lib.hid ((Below.refl W.heap.size W).alloc (Nat.le_refl _) (.cells #[.string (ofL x0),.slice a1 n1 c1] 41))
 have hc2:(W.alloc (.cells #[.string (ofL x0),.slice a1 n1 c1] 41)).cell? ⟨B,0,none⟩=some (.string (ofL c)):=(K.out.cell (p:=⟨B,0,none⟩) hB).trans hc
 clear hc
 have HQ:Hid (((ofL x0).toList==(ofL c).toList)=decide (x0=c)):=Lib.hid (beqP x0 c)
 go_enter Tryz.func75,Tryz.ntmps75
 go_wp2
 go_ret
 exact⟨by rw [←HQ.out];rfl,K.out⟩
def IdxR (l:List (Str × RawS)) (c:Str) (r:Int):Prop:=(∃(i:Nat) (h:i<l.length),r=(i:Int)∧(l[i]'h).1=c∧∀(j:Nat) (hj:j<l.length),j<i→(l[j]'hj).1≠c)∨(r= -1∧∀(j:Nat) (hj:j<l.length),(l[j]'hj).1≠c)
set_option maxRecDepth 1000000 in
set_option maxHeartbeats 2000000 in
theorem index14_any (v:Value) (l:List (Str × RawS)) (c:Str) (B:Nat) (w:World) (hv:Rd 2 encRu w v l) (hB:Blk B 9 #[.string (ofL c)] w):
  Calls Tryz.prog 74 #[v,.func (.func 75) #[] #[.pointer (some ⟨B,0,none⟩)]] w fun e w'=>(∃ r:Int,e= .returned (.int .i64 r)∧IdxR l c r)∧Below w.heap.size w w':=by
 have eg:∀ args w,(callFunc 75 args).run Tryz.prog w= .ok (.enter 75 args) w:=enters_of Tryz.func75 (by kernel_rfl) rfl
 obtain⟨a,cp,rfl,hc1,hc2⟩:=hv.slice
 have HU:=Lib.hid hv
 have HBB:=Lib.hid hB
 obtain⟨LN,hLN⟩:∃ LN,l.length=LN:=⟨_,rfl⟩
 have HLN:=Lib.hid hLN
 rw [hLN] at HU hc1 ⊢
 clear hv hB hLN
 go_enter Tryz.func74,Tryz.ntmps74
 go_wp2
 go_loopw [8] (fun v wr=>∃ k:Nat,k≤LN∧v= .int .i64 k∧(∀(j:Nat) (hj:j<l.length),j<k→(l[j]'hj).1≠c)∧Below w.heap.size w wr) (fun v _=>LN - (intOf v).toNat)
 case atStart=>exact⟨0,Nat.zero_le _,rfl,fun j _ h=>by omega,Below.refl _ _⟩
 case round=>
  obtain⟨k,hk,rfl,hkd,hb⟩:=hrel
  have HK:=Lib.hid hkd
  have HB:=Lib.hid hb
  have zr:=hb.size
  clear hkd hb
  by_cases hlt':k<LN
  ·have hlt:k<l.length:=by rw [HLN.out];exact hlt'
   obtain⟨bk,off,rfl,h00,hx⟩:=(HU.out.below HB.out).some_ k hlt
   have c0:wr.cell? ⟨bk,off+k*2,none⟩=some (.string (ofL (l[k]'hlt).1)):=hx 0 _ rfl
   have c1:wr.cell? ⟨bk,off+k*2+1,none⟩=some (.slice (l[k]'hlt).2.a (l[k]'hlt).2.n (l[k]'hlt).2.c):=hx 1 _ rfl
   have h9:(k:Int)<(LN:Int):=by omega
   have HC:=Lib.hid (find1_any l[k] c B wr ((Blk.below HBB.out HB.out).cell 0) (Blk.below HBB.out HB.out).lt)
   have HYE:Hid ((l[k]'hlt).1=c→∃(i:Nat) (h:i<l.length),((k:Nat):Int)=(i:Int)∧(l[i]'h).1=c∧∀(j:Nat) (hj:j<l.length),j<i→(l[j]'hj).1≠c):=Lib.hid (fun e=>⟨k,hlt,rfl,e,HK.out⟩)
   have HNX:Hid (¬ (l[k]'hlt).1=c→∀(j:Nat) (hj:j<l.length),j<k+1→(l[j]'hj).1≠c):=Lib.hid (fun e j hj hjk=>by
    rcases Nat.lt_or_ge j k with h|h
    ·exact HK.out j hj h
    ·obtain rfl:j=k:=by omega
     exact e)
   obtain⟨x,hx0⟩:∃ x,l[k]'hlt=x:=⟨_,rfl⟩
   rw [hx0] at HC c0 c1 HYE HNX
   clear hx hx0
   by_cases he:x.1=c
   ·have HE:=Lib.hid (HYE.out he)
    have HD:Hid (decide (x.1=c)=true):=Lib.hid (decide_eq_true he)
    rw [HD.out] at HC
    clear he HNX
    go_wp2_with (go_at_fn 75;refine(HC.out).mono ?_;rintro e w2 ⟨rfl,b2⟩)
    have HB2:=Lib.hid (st HB.out b2 zr)
    clear b2
    go_wp2
    go_ret
    exact⟨⟨_,rfl,.inl HE.out⟩,HB2.out⟩
   ·have HN2:=Lib.hid (HNX.out he)
    have HD:Hid (decide (x.1=c)=false):=Lib.hid (decide_eq_false he)
    rw [HD.out] at HC
    clear he HYE
    go_wp2_with (go_at_fn 75;refine(HC.out).mono ?_;rintro e w2 ⟨rfl,b2⟩)
    have HB2:=Lib.hid (st HB.out b2 zr)
    clear b2
    go_wp2
    go_roundw
    case measure=>simp [intOf];omega
    case rel=>exact⟨k+1,by omega,by go_num,HN2.out,HB2.out⟩
  ·obtain rfl:k=LN:=by omega
   have h3:¬ (k:Int)<(k:Int):=by omega
   have HNO:Hid (∀(j:Nat) (hj:j<l.length),(l[j]'hj).1≠c):=Lib.hid (fun j hj=>HK.out j hj (by rw [←HLN.out];exact hj))
   go_wp2
   go_ret
   exact⟨⟨_,rfl,.inr ⟨rfl,HNO.out⟩⟩,HB.out⟩
theorem fnd_of {raws:List (Str × RawS)} {l:Rus} {c:Str} {r:Int} (hn:raws.length=l.length) (he:∀(i:Nat) (h:i<raws.length) (h':i<l.length),(raws[i]'h).1=(l[i]'h').1)
  (h:IdxR raws c r):FndP l c r:=by
 rcases h with⟨i,hi,h1,h2,h3⟩|⟨h1,h2⟩
 ·exact .inl ⟨i,by omega,h1,by rw [←he i hi (by omega)];exact h2,fun j hj hji=>by rw [←he j (by omega) hj];exact h3 j (by omega) hji⟩
 ·exact .inr ⟨h1,fun j hj=>by rw [←he j (by omega) hj];exact h2 j (by omega)⟩
set_option maxRecDepth 1000000 in
set_option maxHeartbeats 2000000 in
theorem find14_any (v:Value) (l:Rus) (c:Str) (w:World) (hv:RdRus w v l):
  Calls Tryz.prog 38 #[v,.string (ofL c)] w fun e w'=>(∃ r:Int,e= .returned (.int .i64 r)∧FndP l c r)∧Below w.heap.size w w':=by
 obtain⟨raws,h1,h2,h3⟩:=hv
 have K:=Lib.hid ((Below.refl w.heap.size w).alloc (Nat.le_refl _) (.cells #[.string (ofL c)] 9))
 have KB:=Lib.hid (Blk.new w 9 #[.string (ofL c)])
 have HI:=Lib.hid (index14_any v raws c w.heap.size _ (h1.below K.out) KB.out)
 have HF:=Lib.hid (fun r h=>@fnd_of raws l c r h2 (fun i a b=>(h3 i a b).1) h)
 clear h1 h2 h3
 go_enter Tryz.func38,Tryz.ntmps38
 go_wp2_with fail
 refine HI.out.mono ?_
 rintro e w2 ⟨⟨r,rfl,hr⟩,b2⟩
 have HR:=Lib.hid (HF.out r hr)
 have HB2:=Lib.hid (st K.out b2 K.out.size)
 clear hr b2
 go_wp2
 go_ret
 exact⟨⟨_,rfl,HR.out⟩,HB2.out⟩
theorem headP (a:Option Addr) (n c k:Nat) (hk:k≤n) (hn:n≤c) (wx:World):
  (Instr.slice 22 (.slice a n c) none (some (.int .i64 (k:Int))) none).run Tryz.prog wx= .ok (.slice a k c) wx∧(Instr.sliceAt 22 (.slice a n c) none (some (.int .i64 (k:Int))) none).run Tryz.prog wx= .ok (.slice a k c) wx:=by
 have i14:(Tryz.prog.info? 41).map (fun i=>(i.zero,i.size,i.bytes))=some (some (.agg #[.string ⟨#[]⟩,.slice none 0 0]),2,40):=by kernel_rfl
 obtain⟨i,hi,_,hk2,_⟩:=info_parts i14
 have hE:Tryz.prog.elem 22=41:=by unfold Program.elem;rw [Tryz.underlying22]
 have ht:Tryz.prog.underlying 22=some (.slice (Tryz.prog.elem 22)):=by rw [hE];exact Tryz.underlying22
 have h:(Instr.slice 22 (.slice a n c) none (some (.int .i64 (k:Int))) none).run Tryz.prog wx= .ok (.slice a k c) wx:=by
  rw [run_slice_h (P:=Tryz.prog) (w:=wx) 22 a n c ht .i64 (k:Int) (by omega) (by omega),hE]
  cases a<;>simp [sizeOf,typeInfo,hi,Result.andThen,sliced,Addr.add]
 exact⟨h,(run_sliceAt_slice (P:=Tryz.prog) (w:=wx) _ _ _ _ _ ht).trans h⟩
theorem RdRus.take {w:World} {a:Option Addr} {n c:Nat} {l:Rus} (h:RdRus w (.slice a n c) l) (m:Nat) (hm:m≤l.length):RdRus w (.slice a m c) (l.take m):=by
 obtain⟨raws,h1,h2,h3⟩:=h
 refine⟨raws.take m,h1.take m (by omega),by rw [List.length_take,List.length_take,h2],fun i a b=>?_⟩
 rw [List.length_take] at a b
 rw [List.getElem_take,List.getElem_take]
 exact h3 i (by omega) (by omega)
theorem hasB_ord {c:Str} (h:c≠othN):hasB ordN c=true↔c∈clsN:=by
 rw [hasB_iff,mem_ordN]
 exact⟨fun k=>k.resolve_right h,.inl⟩
set_option maxRecDepth 1000000 in
set_option maxHeartbeats 8000000 in
theorem valid14P_any (v:Value) (l:Rus) (w:World) (hv:RdRus w v l) (hr:RusR l) (hg:ClG w):Calls Tryz.prog 14 #[v] w fun e w'=>e= .returned (.bool (decide (VR l)))∧Below w.heap.size w w':=by
 have HY:=Lib.hid (@VR_of l)
 have HN1:=Lib.hid (fun j hj h=>@VR_no1 l j hj h)
 have HN2:=Lib.hid (fun j k hj hk hkj h=>@VR_no2 l j k hj hk hkj h)
 obtain⟨R,hR⟩:∃ R,decide (VR l)=R:=⟨_,rfl⟩
 have HRT:Hid (VR l→R=true):=Lib.hid (fun h=>by rw [←hR];exact decide_eq_true h)
 have HRF:Hid (¬ VR l→R=false):=Lib.hid (fun h=>by rw [←hR];exact decide_eq_false h)
 rw [hR]
 clear hR
 have HLC:=Lib.hid hr
 have HG:=Lib.hid hg
 obtain⟨a,c,rfl,h2,h3⟩:=hv.slice
 have HV:=Lib.hid hv
 obtain⟨N,eN⟩:∃ N,l.length=N:=⟨_,rfl⟩
 have HL:=Lib.hid eN
 rw [eN] at HV h2 ⊢
 have H2C:=Lib.hid h2
 clear hv eN hr hg
 go_enter Tryz.func14,Tryz.ntmps14
 go_wp2
 go_loopw [8] (fun x wr=>∃ j:Nat,j≤N∧x= .int .i64 j∧(∀ i (hi:i<l.length),i<j→(l[i]'hi).1∈clsN∧okC (l[i]'hi).2=true∧∀ k (hk:k<l.length),k<i→(l[k]'hk).1≠(l[i]'hi).1)∧Below w.heap.size w wr) (fun x _=>N - (intOf x).toNat)
 case atStart=>exact⟨0,Nat.zero_le _,rfl,fun i h hi=>by omega,Below.refl _ _⟩
 case round=>
  obtain⟨j,hj,rfl,hall,hbw⟩:=hrel
  have HA:=Lib.hid hall
  have HX:=Lib.hid hbw
  clear hall hbw
  by_cases hlt:j<N
  ·have t0:decide ((j:Int)<(N:Int))=true:=decide_eq_true (by omega)
   have hjl:j<l.length:=by rw [HL.out];exact hlt
   have HVR:=Lib.hid (HV.out.below HX.out)
   obtain⟨b,off,x1,x2,rfl,hbs,c0,c1,hc⟩:=HVR.out.at_ j hjl
   have HC:=Lib.hid hc
   have HLJ:=Lib.hid (HLC.out j hjl)
   have HNO:=Lib.hid (fun h=>HRF.out (HN1.out j hjl h))
   have HNO2:=Lib.hid (fun k hk hkj h=>HRF.out (HN2.out j k hjl hk hkj h))
   have HNX:Hid ((l[j]'hjl).1∈clsN→okC (l[j]'hjl).2=true→(∀ k (hk:k<l.length),k<j→(l[k]'hk).1≠(l[j]'hjl).1)→∀ i (hi:i<l.length),i<j+1→(l[i]'hi).1∈clsN∧okC (l[i]'hi).2=true∧∀ k (hk:k<l.length),k<i→(l[k]'hk).1≠(l[i]'hi).1):=Lib.hid (fun e1 e2 e3 i hi h=>by
    rcases Nat.lt_or_ge i j with q|q
    ·exact HA.out i hi q
    ·obtain rfl:i=j:=by omega
     exact⟨e1,e2,e3⟩)
   have HTK:=Lib.hid (HVR.out.take j (Nat.le_of_lt hjl))
   have HTE:Hid (∀(c:Str) (r:Int),FndP (l.take j) c r→(∃ i:Nat,r=(i:Int)∧∃ hk:i<l.length,i<j∧(l[i]'hk).1=c)∨(r= -1∧∀ k (hk:k<l.length),k<j→(l[k]'hk).1≠c)):=Lib.hid (fun c r h=>by
    rcases h with⟨i,hi,h1,h2,_⟩|⟨h1,h2⟩
    ·rw [List.length_take] at hi
     rw [List.getElem_take] at h2
     exact .inl ⟨i,h1,by omega,by omega,h2⟩
    ·refine .inr ⟨h1,fun k hk hkj=>?_⟩
     have:=h2 k (by rw [List.length_take];omega)
     rwa [List.getElem_take] at this)
   obtain⟨y,hy⟩:∃ y,l[j]'hjl=y:=⟨_,rfl⟩
   rw [hy] at c0 c1 HC HLJ HNO HNO2 HNX
   clear hc hy
   obtain⟨y0,Yc⟩:=y
   simp only at c0 c1 HC HLJ HNO HNO2 HNX
   obtain⟨n,hn⟩:∃ n,Yc.length=n:=⟨_,rfl⟩
   rw [hn] at c1 HC
   clear hn
   have HBX:=Lib.hid ((Below.refl wr.heap.size wr).alloc (Nat.le_refl _) (.cells #[.string (ofL y0),.slice x1 n x2] 41))
   have HK:=Lib.hid (Blk.new wr 41 #[.string (ofL y0),.slice x1 n x2])
   obtain⟨wb,hwb⟩:∃ wb,wr.alloc (.cells #[.string (ofL y0),.slice x1 n x2] 41)=wb:=⟨_,rfl⟩
   have HWB:=Lib.hid hwb
   rw [hwb] at HBX HK
   obtain⟨B,hB⟩:∃ B,wr.heap.size=B:=⟨_,rfl⟩
   have HBE:=Lib.hid hB
   rw [hB] at HK
   have HXB:=Lib.hid (st HX.out HBX.out HX.out.size)
   have HGB:=Lib.hid ((HG.out.below HX.out).below HBX.out)
   have HVB:=Lib.hid (valid_cond_any _ Yc wb (HC.out.below HBX.out) (fun k hk=>Nat.le_trans (HLJ.out k hk) (by decide)))
   have r0:wb.cell? ⟨B,0,none⟩=some (.string (ofL y0)):=HK.out.cell 0
   have r1:wb.cell? ⟨B,1,none⟩=some (.slice x1 n x2):=HK.out.cell 1
   clear hwb hB
   go_upto_region 4 with fail
   rw [HWB.out,HBE.out]
   clear c0 c1
   by_cases ho:y0=othN
   ·have z1:((ofL y0).toList==([111,116,104,101,114]:List UInt8))=true:=by rw [ho,ByteArray.toList_eq];rfl
    have HR:Hid (R=false):=Lib.hid (HNO.out fun h=>othN_not (ho▸h.1))
    clear ho
    go_wp2
    go_quiet (fail)
    go_wp2
    go_ret
    exact⟨by rw [HR.out];rfl,below_drewN HXB.out _⟩
   have z1:((ofL y0).toList==([111,116,104,101,114]:List UInt8))=false:=by
    rw [beq_eq_false_iff_ne,ByteArray.toList_eq]
    exact ho
   have HOC:=Lib.hid (hasB_ord ho)
   obtain⟨hb,hhb⟩:∃ hb,hasB ordN y0=hb:=⟨_,rfl⟩
   have HHB:=Lib.hid hhb
   have HIS:=Lib.hid (isClass_any y0 wb HGB.out)
   rw [hhb] at HIS
   clear ho hhb
   go_wp2_with fail
   refine HIS.out.mono ?_
   rintro e w5 ⟨rfl,hw5⟩
   obtain rfl:=hw5.symm
   clear hw5 HIS
   cases hb with
   |false=>
    have HR:Hid (R=false):=Lib.hid (HNO.out fun h=>by have:=HOC.out.2 h.1;rw [HHB.out] at this;cases this)
    go_wp2
    go_quiet (fail)
    go_wp2
    go_ret
    exact⟨by rw [HR.out];rfl,below_drewN HXB.out _⟩
   |true=>
   go_wp2_with fail
   refine HVB.out.mono ?_
   rintro e w6 ⟨rfl,b6⟩
   have HX6:=Lib.hid (st HXB.out b6 HXB.out.size)
   have HK6:=Lib.hid (Blk.below HK.out b6)
   have HTK6:=Lib.hid ((HTK.out.below HBX.out).below b6)
   have r6:w6.cell? ⟨B,0,none⟩=some (.string (ofL y0)):=HK6.out.cell 0
   obtain⟨vb,hvb⟩:∃ vb,okC Yc=vb:=⟨_,rfl⟩
   have HVE:=Lib.hid hvb
   rw [hvb]
   clear b6 hvb r0 r1
   cases vb with
   |false=>
    have HR:Hid (R=false):=Lib.hid (HNO.out fun h=>by have:=h.2;rw [HVE.out] at this;cases this)
    go_wp2
    go_quiet (fail)
    go_wp2
    go_ret
    exact⟨by rw [HR.out];rfl,below_drewN HX6.out _⟩
   |true=>
   have hs1:∀ wx,(Instr.slice 22 (.slice (some ⟨b,off,none⟩) N c) none (some (.int .i64 (j:Int))) none).run Tryz.prog wx= .ok (.slice (some ⟨b,off,none⟩) j c) wx:=fun wx=>(headP _ N c j (by omega) H2C.out wx).1
   have hs2:∀ wx,(Instr.sliceAt 22 (.slice (some ⟨b,off,none⟩) N c) none (some (.int .i64 (j:Int))) none).run Tryz.prog wx= .ok (.slice (some ⟨b,off,none⟩) j c) wx:=fun wx=>(headP _ N c j (by omega) H2C.out wx).2
   go_upto_region 5 with fail
   refine region_hd 10 (fun wx:World=>wx.cell? ⟨B,0,none⟩=some (.string (ofL y0))) (by kernel_rfl) (by kernel_rfl) ?_
   have hS0:w6.drew.cell? ⟨B,0,none⟩=some (.string (ofL y0)):=r6
   try simp only [Act.put,zI,zO,zS]
   refine hd_taken 0 (some 26) _ ?hdva0 rfl rfl (by kernel_rfl) (fun _ _ _ h=>h) (Or.inl ⟨by kernel_rfl,?hdya0⟩) hS0 ?hdra0
   case hdya0=>(intro wx hx;(try dsimp only at hx);go_simp;try with_reducible rfl)
   try simp only [Act.put,zI,zO,zS]
   refine hd_taken 1 (some 27) _ ?hdva1 rfl rfl (by kernel_rfl) (fun _ _ _ h=>h) (Or.inl ⟨by kernel_rfl,?hdya1⟩) hS0 ?hdra1
   case hdya1=>(intro wx hx;(try dsimp only at hx);go_simp;try with_reducible rfl)
   try simp only [Act.put,zI,zO,zS]
   refine hd_taken 2 (some 28) _ ?hdva2 rfl rfl (by kernel_rfl) (fun _ _ _ h=>h) (Or.inl ⟨by kernel_rfl,?hdya2⟩) hS0 ?hdra2
   case hdya2=>(intro wx hx;(try dsimp only at hx);go_simp;try with_reducible rfl)
   try simp only [Act.put,zI,zO,zS]
   refine hd_taken 3 (some 29) _ ?hdva3 rfl rfl (by kernel_rfl) (fun _ _ _ h=>h) (Or.inl ⟨by kernel_rfl,?hdya3⟩) hS0 ?hdra3
   case hdya3=>(intro wx hx;(try dsimp only at hx);go_simp;try with_reducible rfl)
   try simp only [Act.put,zI,zO,zS]
   refine hd_taken 4 (some 30) _ ?hdva4 rfl rfl (by kernel_rfl) (fun _ _ _ h=>h) (Or.inl ⟨by kernel_rfl,?hdya4⟩) hS0 ?hdra4
   case hdya4=>(intro wx hx;(try dsimp only at hx);go_simp;try with_reducible rfl)
   try simp only [Act.put,zI,zO,zS]
   refine hd_taken 5 (some 31) _ ?hdva5 rfl rfl (by kernel_rfl) (fun _ _ _ h=>h) (Or.inl ⟨by kernel_rfl,?hdya5⟩) hS0 ?hdra5
   case hdya5=>(intro wx hx;(try dsimp only at hx);go_simp;try with_reducible rfl)
   try simp only [Act.put,zI,zO,zS]
   refine hd_taken 6 (some 32) _ ?hdva6 rfl rfl (by kernel_rfl) (fun _ _ _ h=>h) (Or.inl ⟨by kernel_rfl,?hdya6⟩) hS0 ?hdra6
   case hdya6=>(intro wx hx;(try dsimp only at hx);go_simp;try with_reducible rfl)
   try simp only [Act.put,zI,zO,zS]
   refine hd_taken 7 (some 33) _ ?hdva7 rfl rfl (by kernel_rfl) (fun _ _ _ h=>h) (Or.inl ⟨by kernel_rfl,?hdya7⟩) hS0 ?hdra7
   case hdya7=>(intro wx hx;(try dsimp only at hx);go_simp;try with_reducible rfl)
   try simp only [Act.put,zI,zO,zS]
   refine hd_one 8 _ rfl (by kernel_rfl) (by decide) (fun K8 hK8=>?_)
   go_simp
   refine(find14_any _ (l.take j) y0 _ (HTK6.out.below (Below.refl _ _).drew)).mono ?_
   rintro e w7 ⟨⟨r,rfl,hr⟩,b7⟩
   try dsimp only
   have B7:Below w6.heap.size w6 w7:=(Below.refl _ w6).drew.trans b7
   have hS7:w7.cell? ⟨B,0,none⟩=some (.string (ofL y0)):=(Blk.below HK6.out B7).cell 0
   have HX7:=Lib.hid (st HX6.out B7 HX6.out.size)
   refine hK8.out _ _ hS7 ?_
   clear hK8 K8 hS0 b7 B7 r6
   try simp only [Act.put,zI,zO,zS]
   rcases HTE.out y0 r hr with⟨i,rfl,hk,hkj,he⟩|⟨rfl,hno⟩
   ·have n1:decide ((0:Int)≤(i:Int))=true:=decide_eq_true (by omega)
    have n2:¬ ((i:Int)<0):=by omega
    have HR:=Lib.hid (HNO2.out i hk hkj he)
    clear hr he
    refine hd_taken 9 (some 35) _ ?hdvb9 rfl rfl (by kernel_rfl) (fun _ _ _ h=>h) (Or.inl ⟨by kernel_rfl,?hdyb9⟩) hS7 ?hdrb9
    case hdyb9=>(intro wx hx;(try dsimp only at hx);go_simp;try with_reducible rfl)
    try simp only [Act.put,zI,zO,zS]
    refine hd_done (by kernel_rfl) ?_
    simp only [List.drop_succ_cons,List.drop_zero]
    clear hS7
    go_wp2_with fail
    go_ret
    exact⟨by rw [HR.out];rfl,HX7.out⟩
   ·have HNN:=Lib.hid (HNX.out (HOC.out.1 HHB.out) HVE.out hno)
    clear hr hno
    refine hd_taken 9 (some 35) _ ?hdvc9 rfl rfl (by kernel_rfl) (fun _ _ _ h=>h) (Or.inl ⟨by kernel_rfl,?hdyc9⟩) hS7 ?hdrc9
    case hdyc9=>(intro wx hx;(try dsimp only at hx);go_simp;try with_reducible rfl)
    try simp only [Act.put,zI,zO,zS]
    refine hd_done (by kernel_rfl) ?_
    simp only [List.drop_succ_cons,List.drop_zero]
    clear hS7
    go_wp2_with fail
    go_roundw
    case rel=>exact⟨j+1,by omega,by go_num,HNN.out,HX7.out⟩
    case measure=>simp [intOf];omega
  ·have t0:decide ((j:Int)<(N:Int))=false:=decide_eq_false (by omega)
   have HR:Hid (R=true):=Lib.hid (HRT.out (HY.out fun i hi=>HA.out i hi (by have:=HL.out;omega)))
   go_wp2
   go_ret
   exact⟨by rw [HR.out];rfl,HX.out⟩
theorem spl_len {s:Str} (h:(spl s).isSome=true):s.length≤23:=by
 obtain⟨x,hx⟩:=Option.isSome_iff_exists.1 h
 obtain⟨g,rfl⟩:=spl_some hx
 have h1:=g.high
 have h2:=g.few
 unfold txt
 split<;>split<;>simp<;>omega
set_option maxRecDepth 1000000 in
set_option maxHeartbeats 8000000 in
theorem class14P_any (v:Value) (l:Rus) (s:Str) (hs:s.length≤9223372036854775807) (w:World) (hv:RdRus w v l) (hr:RusR l) (hg:ClG w):
  Calls Tryz.prog 12 #[v,.string (ofL s)] w fun e w'=>e= .returned (.tuple #[.string (ofL (classR l s).1),.int .i64 ((classR l s).2:Nat)])∧Below w.heap.size w w':=by
 have HVA':=Lib.hid (fun w=>valid_any (ofL s) (by rw [ofL_size];exact hs) w)
 rw [show(ofL s).data.toList=s from rfl] at HVA'
 have HVL:=Lib.hid (valid14P_any v l w hv hr hg)
 have HB1:=Lib.hid (@classR_bad1 l s)
 have HB2:=Lib.hid (@classR_bad2 l s)
 have HOK:=Lib.hid (@classR_ok l s)
 have HF:=Lib.hid (fun k hk h e=>@clsR_first l s k hk h e)
 have HE:=Lib.hid (@clsR_end l s)
 have HVR:Hid (decide (VR l)=true→∀ i (h:i<l.length),okC (l[i]'h).2=true):=Lib.hid (fun h i hi=>((of_decide_eq_true h).1 _ (List.getElem_mem hi)).2)
 have HLEN:=Lib.hid (@spl_len s)
 obtain⟨R,hR⟩:∃ R,classR l s=R:=⟨_,rfl⟩
 rw [hR] at HB1 HB2 HOK ⊢
 clear hR
 obtain⟨rb,hrb⟩:∃ rb,decide (VR l)=rb:=⟨_,rfl⟩
 rw [hrb] at HVL HB1 HVR
 have HRB:=Lib.hid hrb
 obtain⟨nb,hnb⟩:∃ nb,(spl s).isSome=nb:=⟨_,rfl⟩
 rw [hnb] at HVA' HB2 HOK HLEN
 have HNB:=Lib.hid hnb
 clear hrb hnb
 have HLC:=Lib.hid hr
 have HHO:=Lib.hid (fun(h:s.length≤23) (u:Value) (c:Cnd) (wx:World) (hu:RdC wx u c) (hc:∀ k∈c,k.length≤140737488355328)=>holdsC_any u c (ofL s) (by rw [ofL_size];omega) wx hu (fun k hk=>Nat.le_trans (hc k hk) (by decide)))
 rw [show(ofL s).data.toList=s from rfl] at HHO
 obtain⟨a,c,rfl,h2,h3⟩:=hv.slice
 have HV:=Lib.hid hv
 obtain⟨N,eN⟩:∃ N,l.length=N:=⟨_,rfl⟩
 have HL:=Lib.hid eN
 rw [eN] at HV h2 HVL ⊢
 obtain⟨S,hS⟩:∃ S,ofL s=S:=⟨_,rfl⟩
 rw [hS] at HVA' HHO ⊢
 clear hv eN hr hg hS hs
 go_enter Tryz.func12,Tryz.ntmps12
 go_wp2_with fail
 refine HVL.out.mono ?_
 rintro e w1 ⟨rfl,b1⟩
 have B1:=Lib.hid b1
 clear b1
 cases rb with
 |false=>
  have HR:=Lib.hid (HB1.out rfl)
  go_wp2
  go_ret2
  exact⟨by rw [HR.out];rfl,B1.out⟩
 |true=>
 go_wp2_with fail
 refine(HVA'.out _).mono ?_
 rintro e w2 ⟨rfl,b2⟩
 have B2:=Lib.hid (st B1.out b2 B1.out.size)
 clear b2
 cases nb with
 |false=>
  have HR:=Lib.hid (HB2.out rfl)
  go_wp2
  go_ret2
  exact⟨by rw [HR.out];rfl,B2.out⟩
 |true=>
 have HR:=Lib.hid (HOK.out (of_decide_eq_true HRB.out) (by first|rfl|trivial))
 have HH:=Lib.hid (HHO.out (HLEN.out (by first|rfl|trivial)))
 clear HHO
 go_wp2_with fail
 go_loopw [20] (fun x wr=>∃ j:Nat,j≤N∧x= .int .i64 j∧(∀ i (hi:i<l.length),i<j→hldC s (l[i]'hi).2=false)∧Below w.heap.size w wr) (fun x _=>N - (intOf x).toNat)
 case atStart=>exact⟨0,Nat.zero_le _,rfl,fun i h hi=>by omega,B2.out⟩
 case round=>
  rename World=>wr
  obtain⟨j,hj,rfl,hall,hbw⟩:=hrel
  have HA:=Lib.hid hall
  have HX:=Lib.hid hbw
  clear hall hbw
  by_cases hlt:j<N
  ·have t0:decide ((j:Int)<(N:Int))=true:=decide_eq_true (by omega)
   have hjl:j<l.length:=by rw [HL.out];exact hlt
   obtain⟨b,off,x1,x2,rfl,hbs,c0,c1,hc⟩:=(HV.out.below HX.out).at_ j hjl
   have HC:=Lib.hid hc
   have HLJ:=Lib.hid (HLC.out j hjl)
   have HOJ:=Lib.hid (HVR.out (by first|rfl|trivial) j hjl)
   have HFJ:=Lib.hid (fun e=>HF.out j hjl HA.out e)
   have HNX:Hid (hldC s (l[j]'hjl).2=false→∀ i (hi:i<l.length),i<j+1→hldC s (l[i]'hi).2=false):=Lib.hid (fun e i hi h=>by
    rcases Nat.lt_or_ge i j with q|q
    ·exact HA.out i hi q
    ·obtain rfl:i=j:=by omega
     exact e)
   obtain⟨y,hy⟩:∃ y,l[j]'hjl=y:=⟨_,rfl⟩
   rw [hy] at c0 c1 HC HLJ HFJ HNX HOJ
   clear hc hy hjl
   obtain⟨y0,Yc⟩:=y
   simp only at c0 c1 HC HLJ HFJ HNX HOJ
   obtain⟨n,hn⟩:∃ n,Yc.length=n:=⟨_,rfl⟩
   rw [hn] at c1 HC
   clear hn
   have HBX:=Lib.hid ((Below.refl wr.heap.size wr).alloc (Nat.le_refl _) (.cells #[.string (ofL y0),.slice x1 n x2] 41))
   have HK:=Lib.hid (Blk.new wr 41 #[.string (ofL y0),.slice x1 n x2])
   obtain⟨wb,hwb⟩:∃ wb,wr.alloc (.cells #[.string (ofL y0),.slice x1 n x2] 41)=wb:=⟨_,rfl⟩
   have HWB:=Lib.hid hwb
   rw [hwb] at HBX HK
   obtain⟨B,hB⟩:∃ B,wr.heap.size=B:=⟨_,rfl⟩
   have HBE:=Lib.hid hB
   rw [hB] at HK
   have HXB:=Lib.hid (st HX.out HBX.out HX.out.size)
   have HHJ:=Lib.hid (HH.out _ Yc wb (HC.out.below HBX.out) HLJ.out)
   rw [holdR_ok HOJ.out HNB.out] at HHJ
   have r1:wb.cell? ⟨B,1,none⟩=some (.slice x1 n x2):=HK.out.cell 1
   clear hwb hB
   obtain⟨hb,hhb⟩:∃ hb,hldC s Yc=hb:=⟨_,rfl⟩
   rw [hhb] at HHJ HFJ HNX
   clear hhb
   go_upto_region 6 with fail
   rw [HWB.out,HBE.out]
   clear c0 c1
   go_wp2_with fail
   refine HHJ.out.mono ?_
   rintro e w5 ⟨rfl,b5⟩
   have r0:w5.cell? ⟨B,0,none⟩=some (.string (ofL y0)):=(Blk.below HK.out b5).cell 0
   have B5:=Lib.hid (st HXB.out b5 HXB.out.size)
   clear b5 r1
   cases hb with
   |true=>
    have HR2:Hid (R=(y0,0)):=Lib.hid (by rw [HR.out,HFJ.out (by first|rfl|trivial)])
    go_wp2
    go_ret2
    exact⟨by rw [HR2.out];rfl,B5.out⟩
   |false=>
    have HN2:=Lib.hid (HNX.out (by first|rfl|trivial))
    go_wp2
    go_roundw
    case rel=>exact⟨j+1,by omega,by go_num,HN2.out,B5.out⟩
    case measure=>simp [intOf];omega
  ·have t0:decide ((j:Int)<(N:Int))=false:=decide_eq_false (by omega)
   have HR2:Hid (R=(othN,0)):=Lib.hid (by rw [HR.out,HE.out fun i hi=>HA.out i hi (by have:=HL.out;omega)])
   go_wp2
   go_ret2
   exact⟨by rw [HR2.out];rfl,HX.out⟩
theorem cnt14 {l:Rus} (h:RusR l) (h30:∀ i (hi:i<l.length),(l[i]'hi).2.length≤30):∀ i (hi:i<l.length),cnt (l[i]'hi).2≤4611686018427387904:=fun i hi=>by
 have key:∀ c:Cnd,(∀ k∈c,k.length≤140737488355328)→cnt c≤c.length*140737488355328:=fun c=>by
  induction c with
  |nil=>intro _;exact Nat.zero_le _
  |cons k c ih=>
   intro hk
   rw [cnt_cons,List.length_cons,Nat.add_mul,Nat.one_mul]
   have h1:=hk k (by simp)
   have h2:=ih fun x hx=>hk x (by simp [hx])
   omega
 have h1:=key _ (h i hi)
 have h2:=h30 i hi
 have:(l[i]'hi).2.length*140737488355328≤30*140737488355328:=Nat.mul_le_mul_right _ h2
 omega
structure PlV (EV:World→Prop):Prop extends PlC EV where
 valid:∀(v:Value) (l:Rus) (w:World),RdRus w v l→RusR l→l.length≤10→EV w→Calls Tryz.prog 14 #[v] w fun e w'=>e= .returned (.bool (decide (VR l)))∧Below w.heap.size w w'
section
variable {EV:World→Prop} (C:PlV EV)
include C
end
theorem one_ofT {α:Type} {l:List α} {n i:Nat} {v:α} (h:(l.drop i).take 1= [v]):l[i]? =some v:=by
 have:=congrArg (fun r:List α=>r[0]?) h
 simpa [List.getElem?_take,List.getElem?_drop] using this
theorem rd_of_rowT {α:Type} {k:Nat} {enc:α→List Value} {w:World} {a:Addr} {len cap:Nat} (Z:Nat→α) (hk:0<k) (henc:∀ x,(enc x).length=k) (hl:len≤cap) (hc:cap≤maxLen)
  (h:∀ i,i<len→∀(j:Nat) (v:Value),(enc (Z i))[j]? =some v→w.cell? (a.add (i*k+j))=some v):
  Rd k enc w (.slice (some a) len cap) ((List.range len).map Z):=by
 have hM:maxLen=9223372036854775807:=by decide
 have hlen:((List.range len).map Z).length=len:=by simp
 refine⟨⟨_,cap,by rw [hlen],by omega,by omega,fun hne=>?_⟩,fun n c hc=>by cases hc⟩
 have hpos:0<len:=by rw [←hlen];exact List.length_pos_iff.2 hne
 have h00:=h 0 hpos 0 _ (List.getElem?_eq_getElem (by rw [henc];exact hk))
 obtain⟨b,off,sp⟩:=a
 have hspot:sp=none:=by simpa [Addr.add] using World.cell?_spot h00
 subst hspot
 refine⟨b,off,rfl,?_,fun i u hi j v hv=>?_⟩
 ·rw [add_off] at h00
  exact World.block_lt_of_cell? w _ h00
 ·have hil:=(List.getElem?_eq_some_iff.1 hi).1
  rw [hlen] at hil
  simp [List.getElem?_range hil] at hi
  subst hi
  have q:=h i hil j v hv
  rw [add_off,←Nat.add_assoc] at q
  exact q
section
variable {H:Type} {enc:TypeId × Value→H} {P:Program} {w:World} {base:Nat} {spare:Nat→Bool} {held:Bool}
theorem field_at {t:TypeId} {fs:Array Field} {fuel:Nat} {cs:List Value} {x:DataW H × List MemPlace} (ht:P.underlying t=some (.struct fs)) (h:DataW.trod enc P w base spare held fuel t cs=some x):
  ∃(n:Nat) (ys:List (DataW H × List MemPlace)),x.1= .agg (ys.map (·.1))∧ys.length=fs.size∧∀(i:Nat) (f:Field),fs[i]? =some f→∃ y,ys[i]? =some y∧DataW.trod enc P w base spare held n f.type ((cs.drop f.offset).take (P.cellsOf f.type))=some y:=by
 obtain⟨xs,n,_,rfl,hl,hlen,hf⟩:=DataW.trod_struct ht h
 refine⟨n,xs,rfl,hlen,fun i f hi=>?_⟩
 have hlt:i<xs.length:=by rw [hlen];exact(Array.getElem?_eq_some_iff.1 hi).1
 have:=hf i f hi
 rw [List.getElem?_eq_getElem hlt] at this
 exact⟨_,List.getElem?_eq_getElem hlt,this⟩
structure FldS (P:Program) (fs:Array Field) (i o:Nat):Prop where
 ex:∃ f,fs[i]? =some f∧f.offset=o∧P.cellsOf f.type=1∧P.underlying f.type=some .string
structure FldT (P:Program) (fs:Array Field) (i o k:Nat) (t:TypeId):Prop where
 ex:∃ f,fs[i]? =some f∧f.offset=o∧P.cellsOf f.type=k∧f.type=t
def Fields (fs:Array Field) (n:Nat) (cs:List Value) (ys:List (DataW H × List MemPlace)) (P:Program) (enc:TypeId × Value→H) (w:World) (base:Nat) (spare:Nat→Bool) (held:Bool):Prop:=
 ∀(i:Nat) (f:Field),fs[i]? =some f→∃ y,ys[i]? =some y∧DataW.trod enc P w base spare held n f.type ((cs.drop f.offset).take (P.cellsOf f.type))=some y
theorem fld_s {fs:Array Field} {n:Nat} {cs:List Value} {ys:List (DataW H × List MemPlace)} (h:Fields fs n cs ys P enc w base spare held) {i o:Nat} (F:FldS P fs i o):∃ s:Str,cs[o]? =some (.string (ofL s)):=by
 obtain⟨f,h1,h2,h3,h4⟩:=F.ex
 obtain⟨y,_,hy⟩:=h i f h1
 rw [h2,h3] at hy
 obtain⟨s,e,_⟩:=DataW.trod_string h4 hy
 exact⟨s.data.toList,by rw [of_data];exact one_ofT (n:=0) e⟩
def Elem {α:Type} (encDu:α→List Value) (k:Nat) (R:World→α→Prop) (P:Program) (enc:TypeId × Value→H) (w:World) (base:Nat) (spare:Nat→Bool) (held:Bool) (e:TypeId):Prop:=
 ∀(fuel:Nat) (cs:List Value) (x:DataW H × List MemPlace),DataW.trod enc P w base spare held fuel e cs=some x→(∀ k∈x.1.weights P e,k≤reachBytes)→∃ z:α,R w z∧∀(j:Nat) (v:Value),(encDu z)[j]? =some v→cs[j]? =some v
theorem rows_of {α:Type} [Inhabited α] {encDu:α→List Value} {k:Nat} {R:World→α→Prop} {t e:TypeId} {fuel:Nat} {cs:List Value} {x:DataW H × List MemPlace} (hk:0<k) (henc:∀ a,(encDu a).length=k)
  (ht:P.underlying t=some (.slice e)) (hce:P.cellsOf e=k) (hE:Elem encDu k R P enc w base spare held e) (h:DataW.trod enc P w base spare held fuel t cs=some x) (hw:∀ k∈x.1.weights P t,k≤reachBytes):
  ∃(z:RawS) (l:List α),cs= [.slice z.a z.n z.c]∧Rd k encDu w (.slice z.a z.n z.c) l∧∀ a∈l,R w a:=by
 rcases Go.Deep.open_slice ht h with⟨h0,_⟩|⟨a,len,cap,m,n,D,Pl,hcs,hb,hl,hm,hmm,hxe,hx⟩
 ·exact⟨⟨none,0,0⟩,[],h0,rd_nil w,fun a h=>by cases h⟩
 have hlm:len≤m:=by rw [hmm];split<;>omega
 have each:∀ i,i<len→∃ z:α,R w z∧∀(j:Nat) (v:Value),(encDu z)[j]? =some v→w.cell? (a.add (i*k+j))=some v:=fun i hi=>by
  obtain⟨cs',hc,htr⟩:=hx i (by omega)
  rw [hce] at hc
  obtain⟨_,hcl,hat⟩:=World.cells?_some hc
  obtain⟨z,hz,hzc⟩:=hE _ _ _ htr (fun q hq=>hw q (by
   rw [hxe]
   have h1:q∈DataW.weightsAll P e ((List.range len).map D):=weights_all _ (List.mem_map.2 ⟨i,List.mem_range.2 hi,rfl⟩) q hq
   simp only [DataW.weights,ht,List.mem_cons,List.mem_append]
   exact .inr (.inl h1)))
  refine⟨z,hz,fun j v hv=>?_⟩
  have hj:j<k:=by have:=(List.getElem?_eq_some_iff.1 hv).1;rw [henc] at this;exact this
  have g:=hat j (by omega)
  rw [Go.Deep.add_add,hzc j v hv] at g
  exact g
 obtain⟨Z,hZ⟩:=Go.Deep.choose_lt each
 refine⟨⟨some a,len,cap⟩,(List.range len).map Z,hcs,rd_of_rowT Z hk henc hl hm (fun i hi j v hv=>(hZ i hi).2 j v hv),fun y hy=>?_⟩
 obtain⟨i,hi,rfl⟩:=List.mem_map.1 hy
 exact(hZ i (List.mem_range.1 hi)).1
theorem fld_w {t:TypeId} {fs:Array Field} {x:DataW H × List MemPlace} {ys:List (DataW H × List MemPlace)} (ht:P.underlying t=some (.struct fs)) (hx:x.1= .agg (ys.map (·.1))) (hw:∀ k∈x.1.weights P t,k≤reachBytes)
  {i:Nat} {f:Field} {y:DataW H × List MemPlace} (h1:fs[i]? =some f) (h2:ys[i]? =some y):∀ k∈y.1.weights P f.type,k≤reachBytes:=fun k hk=>by
 refine hw k ?_
 rw [hx]
 have:k∈DataW.weightsEach P (fs.toList.map (·.type)) (ys.map (·.1)):=DataW.weights_mem_each (j:=i) (t:=f.type) (d:=y.1) (by rw [List.getElem?_map,Array.getElem?_toList,h1];rfl) (by rw [List.getElem?_map,h2];rfl) k hk
 simp only [DataW.weights,ht]
 exact this
theorem fld_tw {t:TypeId} {fs:Array Field} {n:Nat} {cs:List Value} {x:DataW H × List MemPlace} {ys:List (DataW H × List MemPlace)} (ht:P.underlying t=some (.struct fs)) (hx:x.1= .agg (ys.map (·.1))) (hw:∀ k∈x.1.weights P t,k≤reachBytes)
  (h:Fields fs n cs ys P enc w base spare held) {i o k:Nat} {t2:TypeId} (F:FldT P fs i o k t2):∃ y,DataW.trod enc P w base spare held n t2 ((cs.drop o).take k)=some y∧∀ k∈y.1.weights P t2,k≤reachBytes:=by
 obtain⟨f,h1,h2,h3,h4⟩:=F.ex
 obtain⟨y,hy0,hy⟩:=h i f h1
 have hw2:=fld_w ht hx hw h1 hy0
 rw [h2,h3,h4] at hy
 rw [h4] at hw2
 exact⟨y,hy,hw2⟩
theorem Rd.map_ {α β:Type} {k:Nat} {e2:α→List Value} {g:β→α} {v:Value} {l:List β} (h:Rd k (fun b=>e2 (g b)) w v l):Rd k e2 w v (l.map g):=by
 obtain⟨⟨a,c,hv,h1,h2,hx⟩,hn⟩:=h
 refine⟨⟨a,c,by rw [List.length_map];exact hv,by rw [List.length_map];exact h1,h2,fun hne=>?_⟩,hn⟩
 obtain⟨b,off,ha,hlt,hc⟩:=hx (by rintro rfl;exact hne rfl)
 refine⟨b,off,ha,hlt,fun i x hi j u hu=>?_⟩
 rw [List.getElem?_map] at hi
 obtain⟨y,hy,rfl⟩:=Option.map_eq_some_iff.1 hi
 exact hc i y hy j u hu
end
section
variable {H:Type} {enc:TypeId × Value→H} {w:World} {base:Nat} {spare:Nat→Bool} {held:Bool}
theorem elem_ru:Elem (fun u:(Str × RawS) × Cnd=>encRu u.1) 2 (fun w u=>RdC w (.slice u.1.2.a u.1.2.n u.1.2.c) u.2∧∀ k∈u.2,k.length≤140737488355328) Tryz.prog enc w base spare held 41:=fun fuel cs x h hw=>by
 obtain⟨n,ys,hx,_,hF⟩:=field_at Tryz.underlying41 h
 obtain⟨s0,c0⟩:=fld_s (i:=0) (o:=0) hF ⟨⟨_,rfl,rfl,by kernel_rfl,Tryz.underlying9⟩⟩
 obtain⟨y1,h1,w1⟩:=fld_tw (i:=1) (o:=1) (k:=1) (t2:=39) Tryz.underlying41 hx hw hF ⟨⟨_,rfl,rfl,by kernel_rfl,rfl⟩⟩
 obtain⟨z,c,e1,hz,hl⟩:=condIn_of h1 w1
 refine⟨((s0,z),c),⟨hz,hl⟩,fun j v hv=>?_⟩
 have hj:j<2:=(List.getElem?_eq_some_iff.1 hv).1
 obtain rfl|rfl:j=0∨j=1:=by omega
 ·simp [encRu] at hv;subst hv;exact c0
 ·simp [encRu] at hv;subst hv;exact one_ofT (n:=0) e1
theorem rules14_in {fuel:Nat} {cs:List Value} {x:DataW H × List MemPlace} (h:DataW.trod enc Tryz.prog w base spare held fuel 22 cs=some x) (hw:∀ k∈x.1.weights Tryz.prog 22,k≤reachBytes):
  ∃(z:RawS) (l:Rus),cs= [.slice z.a z.n z.c]∧RdRus w (.slice z.a z.n z.c) l∧RusR l:=by
 obtain⟨z,l,e,hr,ha⟩:=rows_of (k:=2) (by omega) (fun _=>rfl) Tryz.underlying22 (by kernel_rfl) elem_ru h hw
 refine⟨z,l.map (fun u=>(u.1.1,u.2)),e,⟨l.map (·.1),hr.map_,by rw [List.length_map,List.length_map],fun i h1 h2=>?_⟩,fun i hi=>?_⟩
 ·have hi:i<l.length:=by rw [List.length_map] at h1;exact h1
  rw [List.getElem_map,List.getElem_map]
  exact⟨rfl,(ha _ (List.getElem_mem hi)).1⟩
 ·have hi':i<l.length:=by rw [List.length_map] at hi;exact hi
  rw [List.getElem_map]
  exact(ha _ (List.getElem_mem hi')).2
end
end Go.Proofs.YtmnclnpbmgomgaaGreatDoor
