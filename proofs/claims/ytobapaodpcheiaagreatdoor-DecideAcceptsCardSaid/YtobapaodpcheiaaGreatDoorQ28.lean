/- What the row stands on, part 28. -/
import Derived.Lib.AppendZerosOnto
import Derived.Lib.SliceRun
import Derived.Lib.Walk
import Derived.Test.YtobapaodpcheiaaGreatDoorQ27
namespace Go.Proofs.YtobapaodpcheiaaGreatDoor
open Go.RowKit Go.Maps
set_option linter.unusedVariables false
theorem own_fresh (w:World) (n G:Nat) (hG:n≤G) (hG63:G≤maxLen) (Z:Array Value) (hz:Z.size=4):
  Own1 4 encR (w.alloc (.cells (Builtin.zeroCells Z n++Builtin.zeroCells Z (G - n)) 52)).drew w.heap.size 52 (.slice (some ⟨w.heap.size,0,none⟩) 0 G) ([]:List RawR):=by
 refine⟨rfl,.inr ⟨w.heap.size,G,Builtin.zeroCells Z n++Builtin.zeroCells Z (G - n),rfl,Nat.le_refl _,heap_alloc_new w _,?_⟩⟩
 refine⟨Nat.zero_le _,hG63,?_,?_⟩
 ·rw [Array.size_append,size_zeroCells,size_zeroCells,hz,←Nat.add_mul]
  congr 1
  omega
 ·simp
set_option maxRecDepth 1000000 in
set_option maxHeartbeats 8000000 in
theorem growR_any (n:Nat) (h0:0<n) (h6:n≤100) (w:World):
  Calls Tryz.prog 67 #[.slice none 0 0,.int .i64 (n:Int)] w fun e w'=>∃ v,e= .returned v∧Own1 4 encR w' w.heap.size 52 v ([]:List RawR)∧Below w.heap.size w w':=by
 obtain⟨iR,hiR,hzR,hkR,hbR⟩:=info_parts Tryz.infoR
 have h1:¬ ((n:Int)<0):=by omega
 have h4:(n:Int) > 0:=by omega
 obtain⟨z,hz⟩:∃ z,z=Value.agg #[.int .i64 0,.int .i64 0,.bool false,.slice none 0 0]:=⟨_,rfl⟩
 have hz4:z.cells.size=4:=by rw [hz];rfl
 rw [←hz] at hzR
 obtain⟨Z,hZ⟩:∃ Z,z.cells=Z:=⟨_,rfl⟩
 rw [hZ] at hz4
 have hold:(Builtin.firstCells iR.size 0 (.slice none 0 0)).run Tryz.prog w.drew= .ok #[] w.drew:=run_firstCells_none w.drew iR.size 0 0 0
 have hrz:∀ ty,(Builtin.append_ #[48,3] ty #[.slice none 0 0,.int .i64 (n:Int)]).run Tryz.prog w= .ok (.slice (some ⟨w.heap.size,0,none⟩) n (grownCap w n 0 52)) (w.alloc (.cells (Builtin.zeroCells Z n++Builtin.zeroCells Z (grownCap w n 0 52 - n)) 52)).drew:=fun ty=>by
  have h:=Go.Lib.run_append_grow_zeros (P:=Tryz.prog) w 48 3 ty 52 iR z .i64 .i64 Tryz.underlying48 Tryz.underlying3 hiR hzR none 0 0 [] hold n h0 (by omega) (by omega) (by omega) (by rw [hbR];omega) (growslice_fits (by omega) (by rw [hbR];omega))
  rw [Nat.zero_add,hZ] at h
  rw [h]
  have e0:(([]:List Value).toArray++Builtin.zeroCells Z n++Builtin.zeroCells Z (grownCap w n 0 52 - n))=Builtin.zeroCells Z n++Builtin.zeroCells Z (grownCap w n 0 52 - n):=by simp
  rw [e0]
  rfl
 have hGn:n≤grownCap w n 0 52:=grownCap_ge w _ _ _
 have hG63:grownCap w n 0 52≤maxLen:=grownCap_le_maxLen w n 0 52 (by unfold maxLen;omega)
 obtain⟨G,hG⟩:∃ G,G=grownCap w n 0 52:=⟨_,rfl⟩
 rw [←hG] at hrz hGn hG63
 have HO:=Lib.hid (own_fresh w n G hGn hG63 Z hz4)
 have HB:=Lib.hid (Below.drew (below_al w (.cells (Builtin.zeroCells Z n++Builtin.zeroCells Z (G - n)) 52)))
 have hG64:G≤9223372036854775807:=by unfold maxLen at hG63;omega
 clear hold hG hZ hz hz4 hiR hzR hkR hbR hG63
 go_enter Tryz.func67,Tryz.ntmps67
 go_wp2_with (at_builtin;refine Go.Lib.wpList_append_run _ rfl _ _ _ _ rfl _ _ rfl rfl _ _ (hrz _) ?_)
 all_goals (go_ret;exact⟨_,rfl,HO.out,HB.out⟩)
theorem rel_app {w:World} {A A':List RawR} {B B':List Rel} (hl:A.length=B.length) (h:∀(i:Nat) (a:i<A.length) (b:i<B.length),RdRel w A[i] B[i]) (h':∀(i:Nat) (a:i<A'.length) (b:i<B'.length),RdRel w A'[i] B'[i]):
  ∀(i:Nat) (a:i<(A++A').length) (b:i<(B++B').length),RdRel w (A++A')[i] (B++B')[i]:=fun i a b=>by
 by_cases hi:i<A.length
 ·rw [List.getElem_append_left hi,List.getElem_append_left (show i<B.length by omega)]
  exact h i hi (by omega)
 ·rw [List.length_append] at a b
  rw [List.getElem_append_right (by omega),List.getElem_append_right (by omega)]
  have e:i - A.length=i - B.length:=by omega
  have:=h' (i - B.length) (by omega) (by omega)
  simp only [hl]
  exact this
set_option maxRecDepth 1000000 in
set_option maxHeartbeats 8000000 in
theorem concat_any (c:Cnd) (hok:okC c=true) (v:Value) (w:World) (hv:RdC w v c):
  Calls Tryz.prog 35 #[v] w fun e w'=>∃ v',e= .returned v'∧RdRels w' v' (c.flatMap id)∧Below w.heap.size w w':=by
 obtain⟨iR,hiR,hzR,hkR,hbR⟩:=info_parts Tryz.infoR
 have hokc:=okC_iff.1 hok
 obtain⟨FL,hFL⟩:∃ F,c.flatMap id=F:=⟨_,rfl⟩
 rw [hFL]
 have HFL:=Lib.hid hFL
 clear hFL
 obtain⟨ac,cc,rfl,hc1,hc2⟩:=hv.slice
 have HU:=Lib.hid hv
 have HCN:Hid (cnt c≤6):=Lib.hid hokc.2.2
 have HC1:Hid (0<cnt c):=Lib.hid (by have:=len_le_cnt hokc.2.1;omega)
 have HFC:=Lib.hid (flat_cnt c)
 have HZ0:Hid (cnt (c.take 0)=0):=Lib.hid rfl
 clear hv hok hokc
 go_enter Tryz.func35,Tryz.ntmps35
 go_wp2
 go_loopw [3,11] (fun v3 v11 wr=>∃ k:Nat,k≤c.length∧v11= .int .i64 k∧v3= .int .i64 (cnt (c.take k):Nat)∧wr=w) (fun _ v11 _=>c.length - (intOf v11).toNat)
 case atStart=>exact⟨0,Nat.zero_le _,rfl,by rw [HZ0.out];rfl,rfl⟩
 case round=>
  rename World=>wr
  obtain⟨k,hk,rfl,rfl,hwr⟩:=hrel
  obtain rfl:w=wr:=hwr.symm
  clear hwr
  obtain⟨S,hS⟩:∃ S,cnt (c.take k)=S:=⟨_,rfl⟩
  rw [hS]
  by_cases hlt:k<c.length
  ·obtain⟨bk,off,x1,x2,rfl,c0,hcd⟩:=HU.out.at_ k hlt
   have h9:(k:Int)<(c.length:Int):=by omega
   have HT:=Lib.hid (cnt_take_succ hlt)
   have HLE:=Lib.hid (cnt_take_le c (k+1))
   obtain⟨l,hl⟩:∃ l,c[k]=l:=⟨_,rfl⟩
   rw [hl] at c0 HT
   obtain⟨n,hn⟩:∃ n,l.length=n:=⟨_,rfl⟩
   rw [hn,hS] at HT
   rw [hn] at c0
   have h8:¬ ((S:Int)+(n:Int)<0):=by omega
   have h7:S+n≤6:=by have:=HT.out;have:=HLE.out;have:=HCN.out;omega
   clear hl hn hS hcd
   go_wp2
   go_roundw
   case measure=>simp [intOf];omega
   case rel=>exact⟨k+1,by omega,by go_num,by rw [HT.out]<;>go_num,by first|rfl|trivial⟩
  ·obtain rfl:k=c.length:=by omega
   have h3:¬ (c.length:Int)<(c.length:Int):=by omega
   have HSE:Hid (S=cnt c):=Lib.hid (by rw [←hS,List.take_length])
   have HGR:=Lib.hid (growR_any S (by rw [HSE.out];exact HC1.out) (by have:=HSE.out;have:=HCN.out;omega) w)
   clear hS
   go_wp2_with fail
   refine HGR.out.mono ?_
   rintro e w1 ⟨v1,rfl,ho,hb⟩
   have HO:=Lib.hid ho
   have HB:=Lib.hid hb
   clear ho hb
   go_wp2_with fail
   go_loopw [6,27] (fun v6 v27 wr=>∃(k:Nat) (raws:List RawR),k≤c.length∧v27= .int .i64 k∧Own1 4 encR wr w.heap.size 52 v6 raws∧raws.length=((c.take k).flatMap id).length∧(∀(i:Nat) (a:i<raws.length) (b:i<((c.take k).flatMap id).length),RdRel w raws[i] ((c.take k).flatMap id)[i])∧Below w.heap.size w wr) (fun _ v27 _=>c.length - (intOf v27).toNat)
   case atStart=>exact⟨0,[],Nat.zero_le _,rfl,HO.out,rfl,fun i a b=>by simp at a,HB.out⟩
   case round=>
    rename World=>wj
    obtain⟨k,raws,hk,rfl,ho,hl,hr,hb⟩:=hrel
    have HO2:=Lib.hid ho
    have HL:=Lib.hid hl
    have HR:=Lib.hid hr
    have HB2:=Lib.hid hb
    clear ho hl hr hb
    by_cases hlt:k<c.length
    ·obtain⟨bk,off,x1,x2,rfl,c0,hcd⟩:=HU.out.at_ k hlt
     have c0:=(HB2.out.cell (p:=⟨bk,off+k,none⟩) (World.block_lt_of_cell? _ _ c0)).trans c0
     have h9:(k:Int)<(c.length:Int):=by omega
     have HF:=Lib.hid (flat_take hlt)
     have HT:=Lib.hid (cnt_take_succ hlt)
     have HLE:=Lib.hid (cnt_take_le c (k+1))
     have HFK:=Lib.hid (flat_cnt (c.take k))
     obtain⟨l,hl⟩:∃ l,c[k]=l:=⟨_,rfl⟩
     rw [hl] at c0 HF HT hcd
     obtain⟨rw1,q1,q2,q3⟩:=hcd
     have HQ1:=Lib.hid (q1.below HB2.out)
     have HAP:=Lib.hid (rel_app HL.out HR.out q3)
     have HLN:Hid ((raws++rw1).length=((c.take (k+1)).flatMap id).length):=Lib.hid (by rw [HF.out,List.length_append,List.length_append,HL.out,q2])
     have HSM:Hid (raws.length+rw1.length≤6):=Lib.hid (by
      have e1:=HL.out;have e2:=HFK.out;have e3:=HT.out;have e4:=HLE.out;have e5:=HCN.out
      omega)
     have HZW:Hid (w.heap.size≤wj.heap.size):=Lib.hid HB2.out.size
     clear hl q1 q2 q3
     go_wp2_with (first|(at_builtin;refine wpList_append_rd (w:=wj) rfl _ _ 48 rfl w.heap.size iR _ 48 Tryz.underlying48 hiR hzR hkR hbR (by omega) rfl (by omega) encR_len encR_one _ raws rw1 _ rfl HO2.out rfl HQ1.out (by have:=HSM.out;omega) HZW.out ?_;intro v9 w9 y9 b9;have Y9:=Lib.hid y9;have B9:=Lib.hid b9;clear y9 b9)|go_in)
     go_roundw
     case measure=>simp [intOf];omega
     case rel=>exact⟨k+1,raws++rw1,by omega,by go_num,Y9.out,HLN.out,by rw [HF.out];exact HAP.out,HB2.out.trans B9.out⟩
    ·obtain rfl:k=c.length:=by omega
     have h3:¬ (c.length:Int)<(c.length:Int):=by omega
     have HEND:Hid (RdRels wj _ FL):=Lib.hid (by
      rw [←HFL.out]
      have e1:=HL.out
      have e2:=HR.out
      rw [List.take_length] at e1 e2
      exact⟨raws,HO2.out.rd encR_len,e1,fun i a b=>(e2 i a b).below HB2.out⟩)
     go_wp2
     go_ret
     exact⟨_,rfl,HEND.out,HB2.out⟩
def wgtS (m:Nat) (r:Rel):Nat:=min (m*siz r) 1000000
def wgt (c:Cnd):Nat:=(c.flatMap id).foldl wgtS 1
theorem siz_le {r:Rel} (h:OkR r):siz r≤10404:=by
 have h0:=siz0_le h
 unfold siz
 split
 ·exact Nat.mul_le_mul h0 h0
 ·omega
theorem wgt_take (L:List Rel) {k:Nat} (h:k<L.length):(L.take (k+1)).foldl wgtS 1=wgtS ((L.take k).foldl wgtS 1) L[k]:=by
 rw [List.take_succ_eq_append_getElem h,List.foldl_append]
 rfl
theorem wgt_le (L:List Rel):L.foldl wgtS 1≤1000000:=by
 rcases List.eq_nil_or_concat L with rfl|⟨l,r,rfl⟩
 ·show(1:Nat)≤1000000;omega
 ·rw [List.concat_eq_append,List.foldl_append]
  exact Nat.min_le_right _ _
set_option maxRecDepth 1000000 in
set_option maxHeartbeats 8000000 in
theorem weight_any (c:Cnd) (hok:okC c=true) (hbig:∀ l∈c,l.length≤4611686018427387904) (v:Value) (w:World) (hv:RdC w v c):
  Calls Tryz.prog 14 #[v] w fun e w'=>e= .returned (.tuple #[.int .i64 (wgt c:Nat),.int .i64 0])∧Below w.heap.size w w':=by
 have HVA:=Lib.hid (valid_cond_any v c w hv hbig)
 rw [hok] at HVA
 have HCA:=Lib.hid (fun w2 (hb:Below w.heap.size w w2)=>concat_any c hok v w2 (hv.below hb))
 have HOK:Hid (∀ r∈c.flatMap id,OkR r):=Lib.hid (fun r hr=>relsC_ok (l:=[c]) (fun d hd=>by rw [List.mem_singleton.1 hd];exact hok) r (by unfold relsC;simpa using hr))
 obtain⟨ac,cc,rfl,_,_⟩:=hv.slice
 obtain⟨L,hL⟩:∃ L,c.flatMap id=L:=⟨_,rfl⟩
 have HWG:Hid (wgt c=L.foldl wgtS 1):=Lib.hid (by rw [←hL];rfl)
 rw [hL] at HCA HOK
 obtain⟨WG,hWG⟩:∃ W,wgt c=W:=⟨_,rfl⟩
 rw [hWG] at HWG ⊢
 clear hv hok hbig hL hWG
 go_enter Tryz.func14,Tryz.ntmps14
 go_wp2_with fail
 refine HVA.out.mono ?_
 rintro e w1 ⟨rfl,h1⟩
 have H1:=Lib.hid h1
 clear h1
 go_wp2_with fail
 refine(HCA.out w1 H1.out).mono ?_
 rintro e w2 ⟨v2,rfl,hrd,h2⟩
 obtain⟨p2,c2,rfl,_,_⟩:=hrd.slice
 have HRD:=Lib.hid hrd
 have H2:=Lib.hid (st H1.out h2 H1.out.size)
 clear hrd h2
 go_wp2_with fail
 go_loopw [4,13] (fun v4 v13 wr=>∃ k:Nat,k≤L.length∧v13= .int .i64 k∧v4= .int .i64 ((L.take k).foldl wgtS 1:Nat)∧Below w2.heap.size w2 wr) (fun _ v13 _=>L.length - (intOf v13).toNat)
 case atStart=>exact⟨0,Nat.zero_le _,rfl,rfl,Below.refl _ _⟩
 case round=>
  obtain⟨k,hk,rfl,rfl,hb⟩:=hrel
  have HB:=Lib.hid hb
  clear hb
  have HML:Hid ((L.take k).foldl wgtS 1≤1000000):=Lib.hid (wgt_le _)
  obtain⟨M,hM⟩:∃ M,(L.take k).foldl wgtS 1=M:=⟨_,rfl⟩
  rw [hM] at HML ⊢
  by_cases hlt:k<L.length
  ·obtain⟨bk,off,x1,x2,rfl,c0,d1,d2,d3,hsp⟩:=(HRD.out.below HB.out).at_ k hlt
   have h9:(k:Int)<(L.length:Int):=by omega
   have HST:=Lib.hid (wgt_take L hlt)
   rw [hM] at HST
   have hr:=HOK.out _ (List.getElem_mem hlt)
   obtain⟨r,hre⟩:∃ r,L[k]=r:=⟨_,rfl⟩
   rw [hre] at c0 d1 d2 d3 hsp HST hr
   have HSL:=Lib.hid (siz_le hr)
   have HSZ:=Lib.hid (fun wx (hb:Below wr.heap.size wr wx)=>size_any r hr x1 x2 wx (hsp.below hb))
   obtain⟨S,hS⟩:∃ S,siz r=S:=⟨_,rfl⟩
   rw [hS] at HSZ HSL
   have HST2:Hid ((L.take (k+1)).foldl wgtS 1=min (M*S) 1000000):=Lib.hid (by rw [HST.out,←hS];rfl)
   have HMM:Hid (M*S≤1000000*10404):=Lib.hid (Nat.mul_le_mul HML.out HSL.out)
   obtain⟨T,hT⟩:∃ T,M*S=T:=⟨_,rfl⟩
   rw [hT] at HST2 HMM
   have s1:(M:Int)*(S:Int)=(T:Int):=by rw [←hT];exact(Int.natCast_mul M S).symm
   have hTT:T≤10404000000:=by have:=HMM.out;omega
   obtain⟨ro,rm,rn,rs⟩:=r
   dsimp only at c0 d1 d2 d3 HSZ
   have HBX:=Lib.hid (HB.out.alloc HB.out.size (.cells #[.int .i64 ro,.int .i64 rm,.bool rn,.slice x1 rs.length x2] 52))
   have HAL:=Lib.hid (below_al wr (.cells #[.int .i64 ro,.int .i64 rm,.bool rn,.slice x1 rs.length x2] 52))
   have HKB:=Lib.hid (Blk.new wr 52 #[.int .i64 ro,.int .i64 rm,.bool rn,.slice x1 rs.length x2])
   obtain⟨wb,hwb⟩:∃ wb,wr.alloc (.cells #[.int .i64 ro,.int .i64 rm,.bool rn,.slice x1 rs.length x2] 52)=wb:=⟨_,rfl⟩
   rw [hwb] at HBX HAL HKB
   have HWB:=Lib.hid hwb
   have k0:wb.cell? ⟨wr.heap.size,0,none⟩=some (.int .i64 ro):=HKB.out.cell 0
   have k1:wb.cell? ⟨wr.heap.size,1,none⟩=some (.int .i64 rm):=HKB.out.cell 1
   have k2:wb.cell? ⟨wr.heap.size,2,none⟩=some (.bool rn):=HKB.out.cell 2
   have k3:wb.cell? ⟨wr.heap.size,3,none⟩=some (.slice x1 rs.length x2):=HKB.out.cell 3
   have HSB:=Lib.hid (HSZ.out wb HAL.out)
   clear hM hre hS hT hr hsp hwb HSZ
   go_upto_region 7 with fail
   rw [HWB.out]
   clear c0 d1 d2 d3
   go_wp2_with fail
   refine HSB.out.mono ?_
   rintro e w5 ⟨rfl,h5⟩
   have H5:=Lib.hid (st HBX.out h5 HBX.out.size)
   clear h5
   by_cases hmin:T≤1000000
   ·have q1:(if (T:Int)<1000000 then(T:Int) else 1000000)=(T:Int):=by split<;>omega
    have q2:(if (1000000:Int)<(T:Int) then(1000000:Int) else(T:Int))=(T:Int):=by split<;>omega
    have HGO:Hid ((L.take (k+1)).foldl wgtS 1=T):=Lib.hid (by rw [HST2.out];omega)
    go_wp2
    go_roundw
    case measure=>simp [intOf];omega
    case rel=>exact⟨k+1,by omega,by go_num,by rw [HGO.out]<;>go_num,H5.out⟩
   ·have q1:(if (T:Int)<1000000 then(T:Int) else 1000000)=1000000:=by split<;>omega
    have q2:(if (1000000:Int)<(T:Int) then(1000000:Int) else(T:Int))=1000000:=by split<;>omega
    have HGO:Hid ((L.take (k+1)).foldl wgtS 1=1000000):=Lib.hid (by rw [HST2.out];omega)
    go_wp2
    go_roundw
    case measure=>simp [intOf];omega
    case rel=>exact⟨k+1,by omega,by go_num,by rw [HGO.out]<;>go_num,H5.out⟩
  ·obtain rfl:k=L.length:=by omega
   have h3:¬ (L.length:Int)<(L.length:Int):=by omega
   have HME:Hid (M=WG):=Lib.hid (by rw [←hM,List.take_length,HWG.out])
   have HBE:=Lib.hid (st H2.out HB.out H2.out.size)
   clear hM
   go_wp2
   go_ret2
   exact⟨by rw [HME.out];rfl,HBE.out⟩
open Go.RowKit
theorem wgtS_prod:∀(L:List Rel) (m:Nat),(∀ r∈L,OkR r)→m≤1000000→L.foldl wgtS m=min (m*prodOn (fun _=>true) L) 1000000
 |[],m,_,hm=>by
  show m=min (m*1) 1000000
  omega
 |r::L,m,h,hm=>by
  have h1:=prodOn_pos (fun _=>true) (fun x hx=>h x (List.mem_cons_of_mem _ hx))
  have h2:=wgtS_prod L (wgtS m r) (fun x hx=>h x (List.mem_cons_of_mem _ hx)) (Nat.min_le_right _ _)
  rw [List.foldl_cons,h2,prodOn_cons,if_pos rfl]
  unfold wgtS
  generalize prodOn (fun _=>true) L=P at h1 ⊢
  rw [←Nat.mul_assoc]
  generalize m*siz r=T
  rcases Nat.le_total T 1000000 with ht|ht
  ·rw [Nat.min_eq_left ht]
  ·rw [Nat.min_eq_right ht]
   have h3:1000000*1≤1000000*P:=Nat.mul_le_mul_left _ h1
   have h4:T*1≤T*P:=Nat.mul_le_mul_left _ h1
   rw [Nat.min_eq_right (by omega),Nat.min_eq_right (by omega)]
theorem wgt_prod {c:Cnd} (hok:okC c=true) (hw:wgt c≤1000):prodOn (fun _=>true) (relsC [c])≤1000:=by
 have h1:=relsC_ok (l:=[c]) (fun d hd=>by rw [List.mem_singleton.1 hd];exact hok)
 have e:relsC [c]=c.flatMap id:=by unfold relsC;simp
 rw [e] at h1 ⊢
 have h2:=wgtS_prod (c.flatMap id) 1 h1 (by omega)
 have h3:wgt c=(c.flatMap id).foldl wgtS 1:=rfl
 rw [←h3,Nat.one_mul] at h2
 omega
def AutC (c:Cnd):World→Ending→World→Prop:=AutP (listsO 0 [c]) (nxR (relsC [c]) (redL (relsC [c]) 1 2) (redL (relsC [c]) 3 4) (redL (relsC [c]) 5 6)) (stRg (relsC [c]) 0)
theorem AutP.base {ls:List (List Nat)} {f:Rg→Nat→Rg} {x0:Rg} {w0 w w':World} {e:Ending} (h:AutP ls f x0 w e w') (hb:Below w0.heap.size w0 w):AutP ls f x0 w0 e w':=by
 obtain⟨Q,h1,h2,⟨G,cl,k,LB,CB,AB,a1,a2,a3,a4,a5,a6,hm⟩,h4⟩:=h
 have:=hb.size
 exact⟨Q,h1,h2,⟨G,cl,k,LB,CB,AB,a1,a2,a3,a4,a5,a6,hm.l,hm.c,hm.a,by have:=hm.lL;omega,by have:=hm.lC;omega,by have:=hm.lA;omega⟩,hb.trans (h4.mono this)⟩
set_option maxRecDepth 1000000 in
set_option maxHeartbeats 8000000 in
theorem decAut_any (c:Cnd) (hok:okC c=true) (hbig:∀ l∈c,l.length≤4611686018427387904) (hw:wgt c≤1000) (v:Value) (w:World) (hv:RdC w v c):
  Calls Tryz.prog 9 #[v] w (AutC c w):=by
 obtain⟨pv,cv,rfl,_,_⟩:=hv.slice
 have hk1:∀ d∈ [c],okC d=true:=fun d hd=>by rw [List.mem_singleton.1 hd];exact hok
 have hkr:=relsC_ok hk1
 have hl6:(relsC [c]).length≤60:=by rw [rels_cnt];have:=cntS_le hk1;rw [List.length_singleton] at this;omega
 have HLS:Hid (∀ d∈listsO 0 [c],∀ a∈d,a<18446744073709551616):=Lib.hid (listsO_lt (by have:=cntS_le hk1;rw [List.length_singleton] at this;omega))
 have hs1:=scOk hkr 1 2
 have hs2:=scOk hkr 3 4
 have hs3:=scOk hkr 5 6
 have hpr:=wgt_prod hok hw
 have HAU:=Lib.hid (fun g wx hp=>automaton_any g (relsC [c]) (listsO 0 [c]) (redL (relsC [c]) 1 2) (redL (relsC [c]) 3 4) (redL (relsC [c]) 5 6) hkr hl6 hs1 hs2 hs3 (by rw [listsO_len];show 1≤60;omega) HLS.out 1999 (by omega) (fun L hL h=>bound1000 hkr (by rw [rels_cnt];have:=cntS_le hk1;rw [List.length_singleton] at this;omega) hpr L hL (fun x hx=>by
   obtain⟨u,h1,_,h3⟩:=h x hx
   exact⟨u,h1,h3⟩)) wx hp)
 have HWG:=Lib.hid (fun wx (hb:Below w.heap.size w wx)=>weight_any c hok hbig _ wx (hv.below hb))
 have HRO:=Lib.hid (fun wx vx hx=>relationsOf_any [c] hk1 (by show 1≤10;omega) vx wx hx)
 have HV:=Lib.hid hv
 obtain⟨W,hW⟩:∃ W,wgt c=W:=⟨_,rfl⟩
 rw [hW] at hw HWG
 have BA:=(Below.refl w.heap.size w).alloc (Nat.le_refl _) (.cells #[.int .i64 0,.slice none 0 0,.slice none 0 0] 35)
 have KA:=Blk.new w 35 #[.int .i64 0,.slice none 0 0,.slice none 0 0]
 obtain⟨W0,hW0⟩:∃ W0,w.alloc (.cells #[.int .i64 0,.slice none 0 0,.slice none 0 0] 35)=W0:=⟨_,rfl⟩
 obtain⟨G,hG⟩:∃ G,w.heap.size=G:=⟨_,rfl⟩
 rw [hW0,hG] at BA KA
 rw [hG] at HWG
 have HBA:=Lib.hid BA
 have HKA:=Lib.hid KA
 have HW0:=Lib.hid hW0
 have HG:=Lib.hid hG
 have t1:decide ((W:Int) > 4000)=false:=decide_eq_false (by omega)
 have t1':¬ (4000:Int)<(W:Int):=by omega
 clear hk1 hkr hl6 hs1 hs2 hs3 hpr hW hW0 hG BA KA hv hok hbig
 go_enter Tryz.func9,Tryz.ntmps9
 go_upto_region 1 with fail
 rw [HW0.out,HG.out]
 go_wp2_with fail
 refine(HWG.out _ HBA.out).mono ?_
 rintro e w1 ⟨rfl,b1⟩
 have hz:=HKA.out.lt
 have B1:=Lib.hid (st HBA.out b1 (by omega))
 have K1:=Lib.hid (HKA.out.below b1)
 clear b1 HWG HBA HKA hz
 go_upto_region 6 with fail
 have hv1:=HV.out.below (st (Below.refl w.heap.size w) (by rw [HG.out];exact B1.out) (Nat.le_refl _))
 have hcs:=rdCs_one hv1 23
 have b2:=(Below.refl w1.heap.size w1).alloc (Nat.le_refl _) (.cells #[.slice pv c.length cv] 23)
 have HR2:=Lib.hid (HRO.out _ _ hcs)
 have HB2:=Lib.hid (st B1.out b2 (by have:=K1.out.lt;omega))
 have K2:=Lib.hid (K1.out.below b2)
 clear hv1 hcs b2
 go_wp2_with fail
 refine HR2.out.mono ?_
 rintro e w3 ⟨g,rfl,hp,b3⟩
 have B3:=Lib.hid (st HB2.out b3 (by have:=K2.out.lt;omega))
 have K3:=Lib.hid (K2.out.below b3)
 have HA3:=Lib.hid (HAU.out g w3 hp)
 clear hp b3 HR2 HB2
 go_wp2_with fail
 refine HA3.out.mono ?_
 rintro e w9 ⟨Q,hfo,hq2,⟨Gm,cl,kk,LB,CB,AB,hG,heq,hcl,hst,hkn,rfl,hmd⟩,b9⟩
 have hgl:=K3.out.lt
 have HB9:=Lib.hid (K3.out.below b9)
 have HMD:=Lib.hid (hmd.set3 (D:=G) (base:=G) hgl (by omega) (.int .i64 0) (.slice (some ⟨LB,0,none⟩) kk kk) (.slice (some ⟨AB,0,none⟩) kk kk))
 have hpt:=put3_ok (n:=G) (a':= .int .i64 0) (b':= .slice (some ⟨LB,0,none⟩) kk kk) (c':= .slice (some ⟨AB,0,none⟩) kk kk) HB9.out (Nat.le_refl _)
 have HPT:=Lib.hid hpt.1
 have HEB:=Lib.hid ((B3.out.trans (b9.mono (by omega))).trans hpt.2)
 have HGQ:=Lib.hid (And.intro hfo (And.intro hq2 (And.intro hG (And.intro heq (And.intro hcl (And.intro hst hkn))))))
 have d0:w9.cell? ⟨G,0,none⟩=some (.int .i64 0):=HB9.out.cell 0
 have fz0:w9.frozen? ⟨G,0,none⟩=false:=HB9.out.frozen 0
 have d1:w9.cell? ⟨G,1,none⟩=some (.slice none 0 0):=HB9.out.cell 1
 have fz1:w9.frozen? ⟨G,1,none⟩=false:=HB9.out.frozen 1
 have d2:w9.cell? ⟨G,2,none⟩=some (.slice none 0 0):=HB9.out.cell 2
 have fz2:w9.frozen? ⟨G,2,none⟩=false:=HB9.out.frozen 2
 clear hfo hq2 hG heq hcl hst hkn hmd hpt b9 HA3 hgl
 go_wp2_with fail
 exact bodyPost_ret (v:= .tuple #[.agg #[.int .i64 0,.slice (some ⟨LB,0,none⟩) kk kk,.slice (some ⟨AB,0,none⟩) kk kk],.int .i64 0]) (resP3 rfl rfl rfl rfl rfl HPT.out) rfl ⟨Q,HGQ.out.1,HGQ.out.2.1,⟨Gm,cl,kk,LB,CB,AB,HGQ.out.2.2.1,HGQ.out.2.2.2.1,HGQ.out.2.2.2.2.1,HGQ.out.2.2.2.2.2.1,HGQ.out.2.2.2.2.2.2,rfl,by rw [HG.out];exact HMD.out⟩,by rw [HG.out];exact HEB.out⟩
open Go.RowKit
theorem tr_one {r:Rel} (h:OkR r) (n:Nat) (fr:Str):trF (trW n) fr r=((trW n r&&(decide (r.op=2)||(zero fr&&decide (r.op=1))))||trF trS fr r):=by
 have h1:=h.lo
 have h2:=h.hi
 unfold trF
 by_cases o1:r.op=1
 ·rw [if_pos o1,if_pos o1]
  have e2:decide (r.op=2)=false:=decide_eq_false (by omega)
  have e3:trS r=false:=by unfold trS;rw [if_pos (.inl o1)]
  rw [e2,e3,decide_eq_true o1]
  cases zero fr<;>simp
 ·rw [if_neg o1,if_neg o1,decide_eq_false o1,Bool.and_false,Bool.or_false]
  by_cases o2:r.op=2
  ·have e3:trS r=false:=by unfold trS;rw [if_pos (.inr o2)]
   rw [decide_eq_true o2,if_neg (by omega),if_neg (by omega),if_neg (by omega),if_neg (by omega),if_neg (by omega),if_neg (by omega),if_neg (by omega),if_neg (by omega),e3,Bool.and_true,Bool.or_false]
  ·rw [decide_eq_false o2,Bool.and_false,Bool.false_or]
   by_cases o3:r.op=3
   ·rw [if_pos o3,if_pos o3]
   ·by_cases o4:r.op=4
    ·rw [if_neg o3,if_neg o3,if_pos o4,if_pos o4]
    ·by_cases o5:r.op=5
     ·rw [if_neg o3,if_neg o3,if_neg o4,if_neg o4,if_pos o5,if_pos o5]
     ·have o6:r.op=6:=by omega
      rw [if_neg o3,if_neg o3,if_neg o4,if_neg o4,if_neg o5,if_neg o5,if_pos o6,if_pos o6]
section
variable {c:Cnd} (hok:okC c=true)
include hok
theorem one_ok:∀ d∈ [c],okC d=true:=fun d hd=>by rw [List.mem_singleton.1 hd];exact hok
theorem one_few:(relsC [c]).length≤60:=by
 rw [rels_cnt]
 have:=cntS_le (one_ok hok)
 rw [List.length_singleton] at this
 omega
theorem hold_one {x:Num} (g:Good x):cndN (listsO 0 [c]) (bitsF (trF (trW (val x.wh)) x.fr) (relsC [c])) (listsO 0 [c]).length=if hldC (txt x) c=true then 1 else 0:=by
 have h6:=one_few hok
 have hr:=relsC_ok (one_ok hok)
 have e:bitsF (trF (trW (val x.wh)) x.fr) (relsC [c])=bitsF (fun r=>hldO r (opnd x r.op)) (relsC [c]):=bitsF_congr fun r hm=>by
  rw [tr_one (hr r hm),tr_parts (hr r hm)]
 rw [e,listsO_len]
 have:=cnds_bits (cs:=[c]) (by omega) (by show 1≤64;omega) (fun r=>hldO r (opnd x r.op))
 unfold cnds at this
 rw [this,hldC_parts g]
 show(if _ then 1 else 0)+2*0=_
 rw [Nat.mul_zero,Nat.add_zero]
theorem read_txt {x:Num} (g:Good x) (hn:x.neg=false):∃ y:Rg,runR (nxC (relsC [c])) (stRg (relsC [c]) 0) (wd0 (txt x))=y∧(y.pl=1∨y.pl=3)∧y.hold=bitsF (trF (trW (val x.wh)) x.fr) (relsC [c]):=by
 have h6:=one_few hok
 have hr:=relsC_ok (one_ok hok)
 have hne:x.wh≠ []:=fun e=>by have:=g.low;rw [e] at this;simp at this
 refine⟨_,rfl,?_⟩
 have hf:∀ r∈relsC [c],3≤r.op→trW (val x.wh) r=wT r 0:=fun r hm h=>by unfold trW;rw [if_neg (by omega)]
 have hW:runR (nxC (relsC [c])) (stRg (relsC [c]) 0) (wd0 x.wh)=rgW (relsC [c]) (val x.wh):=run_whole hr h6 rfl _ x.wh rfl g.dw hne
 rw [txt_tx0 hn]
 unfold tx0
 by_cases hfr:x.fr= []
 ·rw [if_pos hfr,List.append_nil,hW,hfr]
  exact⟨.inl rfl,(bitsF_congr (trF_nil hr hf)).symm⟩
 ·rw [if_neg hfr]
  have e:wd0 (x.wh++46::x.fr)=wd0 x.wh++([10]++wd0 x.fr):=by
   unfold wd0
   rw [List.map_append,List.map_cons]
   rfl
  rw [e,runR_app,hW,runR_app]
  have e2:runR (nxC (relsC [c])) (rgW (relsC [c]) (val x.wh)) [10]=rgF (relsC [c]) (trW (val x.wh)) []:=step_pointW (p:=redL (relsC [c]) 1 2) hr h6 rfl rfl _
  have e3:=run_frac hr h6 (p:=redL (relsC [c]) 1 2) rfl rfl hf 0 [] rfl allD_nil
  have e3:(⟨2,bitsF (trW (val x.wh)) (relsC [c]),0,0,true⟩:Rg)=rgF (relsC [c]) (trW (val x.wh)) []:=e3
  rw [e2,←e3,run_frac hr h6 rfl rfl hf _ x.fr rfl g.df]
  refine⟨.inr ?_,rfl⟩
  show(if x.fr= [] then 2 else 3)=3
  rw [if_neg hfr]
theorem acc_txt {x:Num} (g:Good x) (hn:x.neg=false):accN (listsO 0 [c]) (runR (nxC (relsC [c])) (stRg (relsC [c]) 0) (wd0 (txt x)))=hldC (txt x) c:=by
 obtain⟨y,h1,h2,h3⟩:=read_txt hok g hn
 rw [h1]
 unfold accN
 rw [h3,hold_one hok g]
 have e:(decide (y.pl=1)||decide (y.pl=3))=true:=by rw [Bool.or_eq_true,decide_eq_true_eq,decide_eq_true_eq];exact h2
 rw [e,Bool.true_and]
 cases hldC (txt x) c<;>rfl
end
section
variable {f:Rg→Nat→Rg} {x0:Rg} {ac:Nat→Bool} {Q:List (List Nat × Rg)}
theorem rawQ_step {k:Nat} (hk:k<Q.length) {c:Nat} (hc:c<11):(toA (rawQ f x0 ac Q)).d k c=nIx Q (f (stQ Q x0 k) c):=by
 show(((List.map (fun x:List Nat=>x.map Int.ofNat) (List.map (rowQ f Q x0) (List.range Q.length))).getD k []).getD c 0).toNat=_
 rw [List.getD_eq_getElem?_getD (l:=List.map _ _),List.getElem?_map,List.getElem?_map,List.getElem?_range hk]
 show((List.map Int.ofNat (rowQ f Q x0 k)).getD c 0).toNat=_
 rw [List.getD_eq_getElem?_getD,List.getElem?_map]
 unfold rowQ
 rw [List.getElem?_map,List.getElem?_range hc]
 rfl
theorem rawQ_acc {k:Nat} (hk:k<Q.length):(toA (rawQ f x0 ac Q)).f k=ac k:=by
 show(List.map ac (List.range Q.length)).getD k false=_
 rw [List.getD_eq_getElem?_getD,List.getElem?_map,List.getElem?_range hk]
 rfl
theorem stQ_nIx {y:Rg} (h:y∈Q.map Prod.snd):nIx Q y<Q.length∧stQ Q x0 (nIx Q y)=y:=by
 obtain⟨h1,h2⟩:=nIx_get h
 rw [List.length_map] at h1
 refine⟨h1,?_⟩
 rw [stQ_get h1]
 rw [List.getElem_map] at h2
 exact h2
theorem rawQ_run (hcl:∀ i (hi:i<Q.length) c,c<11→f (Q[i]'hi).2 c∈Q.map Prod.snd):∀(u:List Nat) (y:Rg),word u→y∈Q.map Prod.snd→(toA (rawQ f x0 ac Q)).run (nIx Q y) u=nIx Q (runR f y u)∧runR f y u∈Q.map Prod.snd
 |[],y,_,hy=>⟨rfl,hy⟩
 |c::u,y,hu,hy=>by
  have hc:=(word_cons.1 hu).1
  obtain⟨h1,h2⟩:=stQ_nIx (x0:=x0) hy
  have h3:f y c∈Q.map Prod.snd:=by
   have:=hcl _ h1 c hc
   rw [←stQ_get (x0:=x0) h1,h2] at this
   exact this
  have ih:=rawQ_run hcl u (f y c) (word_cons.1 hu).2 h3
  have e:(toA (rawQ f x0 ac Q)).run (nIx Q y) (c::u)=(toA (rawQ f x0 ac Q)).run (nIx Q (f y c)) u:=by
   unfold Aut.run
   rw [List.foldl_cons,rawQ_step h1 hc,h2]
  rw [e]
  exact ih
theorem nIx_head {m N:Nat} (h:Found f x0 m N Q):nIx Q x0=0∧x0∈Q.map Prod.snd:=by
 have h0:=h.head
 cases Q with
 |nil=>cases h0
 |cons a Q=>
  rw [List.getElem?_cons_zero] at h0
  injection h0 with h0
  subst h0
  refine⟨?_,List.mem_cons_self⟩
  unfold nIx
  rw [List.map_cons,List.findIdx_cons]
  simp
end
theorem sy_dp {c:UInt8} (h:isDP c):sy c=sy0 c∧okc c=true:=by
 rcases h with h|rfl
 ·have h1:=isD_iff.1 h
  have h2:symI c.toNat=(c.toNat:Int) - 48:=by
   unfold symI
   rw [if_neg (by omega),if_neg (by omega)]
  rw [sy0_digit h]
  unfold sy okc
  rw [h2]
  refine⟨?_,decide_eq_true (by omega)⟩
  show _=c.toNat - 48
  omega
 ·exact⟨rfl,rfl⟩
theorem run_holds {c:Cnd} (hok:okC c=true) {Q:List (List Nat × Rg)} (h:Found (nxC (relsC [c])) (stRg (relsC [c]) 0) 11 2000 Q) (h2:Q.length≤2000) {s:Str} (hu:isU s):
  runP (rawQ (nxC (relsC [c])) (stRg (relsC [c]) 0) (fun i=>accN (listsO 0 [c]) (stQ Q (stRg (relsC [c]) 0) i)) Q) s=hldC s c:=by
 have hcl:∀ i (hi:i<Q.length) d,d<11→nxC (relsC [c]) (Q[i]'hi).2 d∈Q.map Prod.snd:=fun i hi d hd=>found_closed h h2 (List.getElem_mem hi) hd
 have h0:0<Q.length:=(List.getElem?_eq_some_iff.1 h.head).1
 have hdp:=isU_dp hu
 have e1:wdN s=wd0 s:=List.map_congr_left fun x hx=>(sy_dp (hdp x hx)).1
 have e2:isWA s=true:=List.all_eq_true.2 fun x hx=>(sy_dp (hdp x hx)).2
 obtain⟨n1,n2⟩:=nIx_head h
 have hw:=word_wdN s
 rw [e1] at hw
 obtain⟨r1,r2⟩:=rawQ_run (ac:=fun i=>accN (listsO 0 [c]) (stQ Q (stRg (relsC [c]) 0) i)) (x0:=stRg (relsC [c]) 0) hcl (wd0 s) _ hw n2
 rw [n1] at r1
 obtain⟨k1,k2⟩:=stQ_nIx (x0:=stRg (relsC [c]) 0) r2
 unfold runP
 rw [rawQ_ok hcl h0 h2,e2,e1,Bool.true_and,Bool.true_and]
 have e3:(toA (rawQ (nxC (relsC [c])) (stRg (relsC [c]) 0) (fun i=>accN (listsO 0 [c]) (stQ Q (stRg (relsC [c]) 0) i)) Q)).s0=0:=rfl
 unfold Aut.acc
 rw [e3,r1,rawQ_acc k1,k2]
 obtain⟨x,g,hn,rfl⟩:=hu
 exact acc_txt hok g hn
def AutH (c:Cnd) (w:World) (e:Ending) (w':World):Prop:=
 ∃(q:RawD) (a1:Option Addr) (c1:Nat) (a2:Option Addr) (c2:Nat),e= .returned (.tuple #[.agg #[.int .i64 q.st,.slice a1 q.nx.length c1,.slice a2 q.ac.length c2],.int .i64 0])∧RdRows w' (.slice a1 q.nx.length c1) q.nx∧Rd 1 encO w' (.slice a2 q.ac.length c2) q.ac∧(∀ s,isU s→runP q s=hldC s c)∧Below w.heap.size w w'
theorem AutC.holds {c:Cnd} (hok:okC c=true) {w w':World} {e:Ending} (h:AutC c w e w'):AutH c w e w':=by
 obtain⟨Q,hfo,h2,⟨G,cl,k,LB,CB,AB,hG,heq,hcl,hst,hkn,he,hmd⟩,hb⟩:=h
 have hl:(mkR (outN G cl k) (outF G cl k)).nx.length=k:=by show(List.map _ _).length=k;rw [List.length_map,outN_len]
 have ha:(mkR (outN G cl k) (outF G cl k)).ac.length=k:=outF_len _ _ _
 have hm:=made_rows hmd (by omega) (outN_len _ _ _) (fun x hx=>by
   unfold outN at hx
   obtain⟨i,_,rfl⟩:=List.mem_map.1 hx
   exact rowK_len _ _ _ _ 11) (outF_len _ _ _)
 refine⟨mkR (outN G cl k) (outF G cl k),some ⟨LB,0,none⟩,k,some ⟨AB,0,none⟩,k,by rw [he,hl,ha];rfl,hm.1,hm.2,fun s hs=>?_,hb⟩
 have hcl0:∀ i (hi:i<Q.length) d,d<11→nxC (relsC [c]) (Q[i]'hi).2 d∈Q.map Prod.snd:=fun i hi d hd=>found_closed hfo h2 (List.getElem_mem hi) hd
 have h0:0<Q.length:=(List.getElem?_eq_some_iff.1 hfo.head).1
 have hmin:IsMin (toA (rawQ (nxC (relsC [c])) (stRg (relsC [c]) 0) (fun i=>accN (listsO 0 [c]) (stQ Q (stRg (relsC [c]) 0) i)) Q)) (mkR (outN G cl k) (outF G cl k)):=⟨G,cl,k,hG,heq,hcl,hst,by omega,rfl⟩
 rw [hmin.run (rawQ_ok hcl0 h0 h2),run_holds hok hfo h2 hs]
open Go.RowKit
theorem val_zs0 (k:Nat) (s:Str):val (zs k++s)=val s:=by
 induction k with
 |zero=>rfl
 |succ k ih=>
  have e:zs (k+1)++s=48::(zs k++s):=rfl
  rw [e,val_cons,ih]
  have:dg 48=0:=rfl
  rw [this]
  omega
theorem allD_zs0 (k:Nat):allD (zs k):=fun c hc=>by
 have:=List.eq_of_mem_replicate hc
 subst this
 decide
section
variable {c:Cnd} (hok:okC c=true)
include hok
theorem read_tx0 {wh fr:Str} (dw:allD wh) (df:allD fr) (hne:wh≠ []):∃ y:Rg,runR (nxC (relsC [c])) (stRg (relsC [c]) 0) (wd0 (tx0 wh fr))=y∧(y.pl=1∨y.pl=3)∧y.hold=bitsF (trF (trW (val wh)) fr) (relsC [c]):=by
 have h6:=one_few hok
 have hr:=relsC_ok (one_ok hok)
 refine⟨_,rfl,?_⟩
 have hf:∀ r∈relsC [c],3≤r.op→trW (val wh) r=wT r 0:=fun r hm h=>by unfold trW;rw [if_neg (by omega)]
 have hW:runR (nxC (relsC [c])) (stRg (relsC [c]) 0) (wd0 wh)=rgW (relsC [c]) (val wh):=run_whole hr h6 rfl _ wh rfl dw hne
 unfold tx0
 by_cases hfr:fr= []
 ·rw [if_pos hfr,List.append_nil,hW,hfr]
  exact⟨.inl rfl,(bitsF_congr (trF_nil hr hf)).symm⟩
 ·rw [if_neg hfr]
  have e:wd0 (wh++46::fr)=wd0 wh++([10]++wd0 fr):=by
   unfold wd0
   rw [List.map_append,List.map_cons]
   rfl
  rw [e,runR_app,hW,runR_app]
  have e2:runR (nxC (relsC [c])) (rgW (relsC [c]) (val wh)) [10]=rgF (relsC [c]) (trW (val wh)) []:=step_pointW (p:=redL (relsC [c]) 1 2) hr h6 rfl rfl _
  have e3:=run_frac hr h6 (p:=redL (relsC [c]) 1 2) rfl rfl hf 0 [] rfl allD_nil
  have e3:(⟨2,bitsF (trW (val wh)) (relsC [c]),0,0,true⟩:Rg)=rgF (relsC [c]) (trW (val wh)) []:=e3
  rw [e2,←e3,run_frac hr h6 rfl rfl hf _ fr rfl df]
  refine⟨.inr ?_,rfl⟩
  show(if fr= [] then 2 else 3)=3
  rw [if_neg hfr]
theorem acc_zeros {x:Num} (g:Good x) (hn:x.neg=false) (k:Nat):accN (listsO 0 [c]) (runR (nxC (relsC [c])) (stRg (relsC [c]) 0) (wd0 (zs k++txt x)))=hldC (txt x) c:=by
 have hne:x.wh≠ []:=fun e=>by have:=g.low;rw [e] at this;simp at this
 have e0:zs k++txt x=tx0 (zs k++x.wh) x.fr:=by
  rw [txt_tx0 hn]
  unfold tx0
  rw [List.append_assoc]
 obtain⟨y,h1,h2,h3⟩:=read_tx0 hok (wh:=zs k++x.wh) (fr:=x.fr) (allD_app.2 ⟨allD_zs0 k,g.dw⟩) g.df (fun e=>hne (List.append_eq_nil_iff.1 e).2)
 rw [e0,h1]
 unfold accN
 rw [val_zs0] at h3
 rw [h3,hold_one hok g]
 have e:(decide (y.pl=1)||decide (y.pl=3))=true:=by rw [Bool.or_eq_true,decide_eq_true_eq,decide_eq_true_eq];exact h2
 rw [e,Bool.true_and]
 cases hldC (txt x) c<;>rfl
end
theorem run_zeros {c:Cnd} (hok:okC c=true) {Q:List (List Nat × Rg)} (h:Found (nxC (relsC [c])) (stRg (relsC [c]) 0) 11 2000 Q) (h2:Q.length≤2000) {s:Str} (hu:isU s) (k:Nat):
  runP (rawQ (nxC (relsC [c])) (stRg (relsC [c]) 0) (fun i=>accN (listsO 0 [c]) (stQ Q (stRg (relsC [c]) 0) i)) Q) (zs k++s)=hldC s c:=by
 have hcl:∀ i (hi:i<Q.length) d,d<11→nxC (relsC [c]) (Q[i]'hi).2 d∈Q.map Prod.snd:=fun i hi d hd=>found_closed h h2 (List.getElem_mem hi) hd
 have h0:0<Q.length:=(List.getElem?_eq_some_iff.1 h.head).1
 have hdp:∀ x∈zs k++s,isDP x:=fun x hx=>by
  rcases List.mem_append.1 hx with hx|hx
  ·exact .inl (allD_zs0 k x hx)
  ·exact isU_dp hu x hx
 have e1:wdN (zs k++s)=wd0 (zs k++s):=List.map_congr_left fun x hx=>(sy_dp (hdp x hx)).1
 have e2:isWA (zs k++s)=true:=List.all_eq_true.2 fun x hx=>(sy_dp (hdp x hx)).2
 obtain⟨n1,n2⟩:=nIx_head h
 have hw:=word_wdN (zs k++s)
 rw [e1] at hw
 obtain⟨r1,r2⟩:=rawQ_run (ac:=fun i=>accN (listsO 0 [c]) (stQ Q (stRg (relsC [c]) 0) i)) (x0:=stRg (relsC [c]) 0) hcl (wd0 (zs k++s)) _ hw n2
 rw [n1] at r1
 obtain⟨k1,k2⟩:=stQ_nIx (x0:=stRg (relsC [c]) 0) r2
 unfold runP
 rw [rawQ_ok hcl h0 h2,e2,e1,Bool.true_and,Bool.true_and]
 have e3:(toA (rawQ (nxC (relsC [c])) (stRg (relsC [c]) 0) (fun i=>accN (listsO 0 [c]) (stQ Q (stRg (relsC [c]) 0) i)) Q)).s0=0:=rfl
 unfold Aut.acc
 rw [e3,r1,rawQ_acc k1,k2]
 obtain⟨x,g,hn,rfl⟩:=hu
 exact acc_zeros hok g hn k
def AutZ (c:Cnd) (w:World) (e:Ending) (w':World):Prop:=
 ∃(q:RawD) (a1:Option Addr) (c1:Nat) (a2:Option Addr) (c2:Nat),e= .returned (.tuple #[.agg #[.int .i64 q.st,.slice a1 q.nx.length c1,.slice a2 q.ac.length c2],.int .i64 0])∧RdRows w' (.slice a1 q.nx.length c1) q.nx∧Rd 1 encO w' (.slice a2 q.ac.length c2) q.ac∧(∀ s k,isU s→runP q (zs k++s)=hldC s c)∧Below w.heap.size w w'
theorem AutC.zeros {c:Cnd} (hok:okC c=true) {w w':World} {e:Ending} (h:AutC c w e w'):AutZ c w e w':=by
 obtain⟨Q,hfo,h2,⟨G,cl,k,LB,CB,AB,hG,heq,hcl,hst,hkn,he,hmd⟩,hb⟩:=h
 have hl:(mkR (outN G cl k) (outF G cl k)).nx.length=k:=by show(List.map _ _).length=k;rw [List.length_map,outN_len]
 have ha:(mkR (outN G cl k) (outF G cl k)).ac.length=k:=outF_len _ _ _
 have hm:=made_rows hmd (by omega) (outN_len _ _ _) (fun x hx=>by
   unfold outN at hx
   obtain⟨i,_,rfl⟩:=List.mem_map.1 hx
   exact rowK_len _ _ _ _ 11) (outF_len _ _ _)
 refine⟨mkR (outN G cl k) (outF G cl k),some ⟨LB,0,none⟩,k,some ⟨AB,0,none⟩,k,by rw [he,hl,ha];rfl,hm.1,hm.2,fun s j hs=>?_,hb⟩
 have hcl0:∀ i (hi:i<Q.length) d,d<11→nxC (relsC [c]) (Q[i]'hi).2 d∈Q.map Prod.snd:=fun i hi d hd=>found_closed hfo h2 (List.getElem_mem hi) hd
 have h0:0<Q.length:=(List.getElem?_eq_some_iff.1 hfo.head).1
 have hmin:IsMin (toA (rawQ (nxC (relsC [c])) (stRg (relsC [c]) 0) (fun i=>accN (listsO 0 [c]) (stQ Q (stRg (relsC [c]) 0) i)) Q)) (mkR (outN G cl k) (outF G cl k)):=⟨G,cl,k,hG,heq,hcl,hst,by omega,rfl⟩
 rw [hmin.run (rawQ_ok hcl0 h0 h2),run_zeros hok hfo h2 hs]
open Go.RowKit
def AllPost (c:Cnd) (w0 w:World) (e:Ending) (w':World):Prop:=(∃ v' raws,e= .returned v'∧Rd 4 encR w' v' raws∧raws.length=(c.flatMap id).length∧∀(i:Nat) (a:i<raws.length) (b:i<(c.flatMap id).length),RdRel w0 raws[i] (c.flatMap id)[i])∧Below w.heap.size w w'
set_option maxRecDepth 1000000 in
set_option maxHeartbeats 8000000 in
theorem all_any (c:Cnd) (hok:okC c=true) (v:Value) (w0 w:World) (hb0:Below w0.heap.size w0 w) (hv:RdC w0 v c):
  Calls Tryz.prog 18 #[v] w (AllPost c w0 w):=by
 obtain⟨iR,hiR,hzR,hkR,hbR⟩:=info_parts Tryz.infoR
 have hokc:=okC_iff.1 hok
 obtain⟨ac,cc,rfl,hc1,hc2⟩:=hv.slice
 have HU:=Lib.hid hv
 have HB0:=Lib.hid hb0
 have HCN:Hid (cnt c≤6):=Lib.hid hokc.2.2
 clear hv hok hokc hb0
 go_enter Tryz.func18,Tryz.ntmps18
 go_wp2
 go_loopw [3,4] (fun v3 v4 wr=>∃(k:Nat) (raws:List RawR),k≤c.length∧v4= .int .i64 k∧Own1 4 encR wr w.heap.size 52 v3 raws∧raws.length=((c.take k).flatMap id).length∧(∀(i:Nat) (a:i<raws.length) (b:i<((c.take k).flatMap id).length),RdRel w0 raws[i] ((c.take k).flatMap id)[i])∧Below w.heap.size w wr) (fun _ v4 _=>c.length - (intOf v4).toNat)
 case atStart=>exact⟨0,[],Nat.zero_le _,rfl,own1_nil _ _ _,rfl,fun i a b=>by simp at a,Below.refl _ _⟩
 case round=>
  rename World=>wj
  obtain⟨k,raws,hk,rfl,ho,hl,hr,hb⟩:=hrel
  have HO2:=Lib.hid ho
  have HL:=Lib.hid hl
  have HR:=Lib.hid hr
  have HB2:=Lib.hid hb
  have HBW:Hid (Below w0.heap.size w0 wj):=Lib.hid (HB0.out.trans (hb.mono HB0.out.size))
  clear ho hl hr hb
  by_cases hlt:k<c.length
  ·obtain⟨bk,off,x1,x2,rfl,c0,hcd⟩:=HU.out.at_ k hlt
   have c0:=(HBW.out.cell (p:=⟨bk,off+k,none⟩) (World.block_lt_of_cell? _ _ c0)).trans c0
   have h9:(k:Int)<(c.length:Int):=by omega
   have HF:=Lib.hid (flat_take hlt)
   have HT:=Lib.hid (cnt_take_succ hlt)
   have HLE:=Lib.hid (cnt_take_le c (k+1))
   have HFK:=Lib.hid (flat_cnt (c.take k))
   obtain⟨l,hl⟩:∃ l,c[k]=l:=⟨_,rfl⟩
   rw [hl] at c0 HF HT hcd
   obtain⟨rw1,q1,q2,q3⟩:=hcd
   have HQ1:=Lib.hid (q1.below HBW.out)
   have HAP:=Lib.hid (rel_app HL.out HR.out q3)
   have HLN:Hid ((raws++rw1).length=((c.take (k+1)).flatMap id).length):=Lib.hid (by rw [HF.out,List.length_append,List.length_append,HL.out,q2])
   have HSM:Hid (raws.length+rw1.length≤6):=Lib.hid (by
    have e1:=HL.out;have e2:=HFK.out;have e3:=HT.out;have e4:=HLE.out;have e5:=HCN.out
    omega)
   have HZW:Hid (w.heap.size≤wj.heap.size):=Lib.hid HB2.out.size
   clear hl q1 q2 q3
   go_wp2_with (first|(at_builtin;refine wpList_append_rd (w:=wj) rfl _ _ 48 rfl w.heap.size iR _ 48 Tryz.underlying48 hiR hzR hkR hbR (by omega) rfl (by omega) encR_len encR_one _ raws rw1 _ rfl HO2.out rfl HQ1.out (by have:=HSM.out;omega) HZW.out ?_;intro v9 w9 y9 b9;have Y9:=Lib.hid y9;have B9:=Lib.hid b9;clear y9 b9)|fail)
   go_wp2
   go_roundw
   case measure=>simp [intOf];omega
   case rel=>exact⟨k+1,raws++rw1,by omega,by go_num,Y9.out,HLN.out,by rw [HF.out];exact HAP.out,HB2.out.trans B9.out⟩
  ·obtain rfl:k=c.length:=by omega
   have h3:¬ (c.length:Int)<(c.length:Int):=by omega
   have HL2:=HL.out
   have HR2:=HR.out
   rw [List.take_length] at HL2 HR2
   have HL3:=Lib.hid HL2
   have HR3:=Lib.hid HR2
   clear HL2 HR2
   go_wp2
   go_ret
   exact⟨⟨_,raws,rfl,HO2.out.rd encR_len,HL3.out,HR3.out⟩,HB2.out⟩
open Go.RowKit
theorem flat_one {c:Cnd}:relsC [c]=c.flatMap id:=by unfold relsC;simp
theorem min_lo {T:Nat} (h:T≤1000000):wrap64 (T:Int)=(T:Int)∧min (1000000:Int) (T:Int)=(T:Int):=⟨by unfold wrap64;omega,by omega⟩
theorem min_hi {T:Nat} (h:¬ T≤1000000) (h2:T≤10404000000):wrap64 (T:Int)=(T:Int)∧min (1000000:Int) (T:Int)=1000000:=⟨by unfold wrap64;omega,by omega⟩
theorem suc_wr {k n:Nat} (h:k<n) (hn:n≤60):wrap64 ((k:Int)+1)=(k:Int)+1:=by unfold wrap64;omega
theorem mea_k {k n:Nat} (h:k<n):n - (intOf (.int .i64 ((k:Int)+1))).toNat<n - (intOf (.int .i64 (k:Int))).toNat:=by
 show n - ((k:Int)+1).toNat<n - (k:Int).toNat
 omega
set_option maxRecDepth 1000000 in
set_option maxHeartbeats 16000000 in
theorem refWeight_any (c:Cnd) (hok:okC c=true) (hl:cnt c≤4611686018427387904) (v:Value) (w:World) (hv:RdC w v c):
  Calls Tryz.prog 8 #[v] w fun e w'=>e= .returned (.tuple #[.int .i64 (wgt c:Nat),.int .i64 0])∧Below w.heap.size w w':=by
 have HVA:=Lib.hid (refValidC_any v c w hv hl)
 rw [hok] at HVA
 have HLF:Hid ((c.flatMap id).length≤60):=Lib.hid (by rw [←flat_one];exact one_few hok)
 have HAL:=Lib.hid (fun w2 (hb:Below w.heap.size w w2)=>all_any c hok v w w2 hb hv)
 have HOK:Hid (∀ r∈c.flatMap id,OkR r):=Lib.hid (fun r hr=>relsC_ok (l:=[c]) (fun d hd=>by rw [List.mem_singleton.1 hd];exact hok) r (by unfold relsC;simpa using hr))
 obtain⟨ac,cc,rfl,_,_⟩:=hv.slice
 obtain⟨L,hL⟩:∃ L,c.flatMap id=L:=⟨_,rfl⟩
 have HWG:Hid (wgt c=L.foldl wgtS 1):=Lib.hid (by rw [←hL];rfl)
 have HLE:=Lib.hid hL
 rw [hL] at HOK HLF
 obtain⟨WG,hWG⟩:∃ W,wgt c=W:=⟨_,rfl⟩
 rw [hWG] at HWG ⊢
 clear hv hok hl hL hWG
 go_enter Tryz.func8,Tryz.ntmps8
 go_wp2_with fail
 refine HVA.out.mono ?_
 rintro e w1 ⟨rfl,h1⟩
 have H1:=Lib.hid h1
 clear h1
 go_wp2_with fail
 refine(HAL.out w1 H1.out).mono ?_
 rintro e w2 ⟨⟨v2,raws,rfl,hrd,hlen,hrr⟩,h2⟩
 rw [HLE.out] at hlen hrr
 obtain⟨p2,c2,rfl,_,_⟩:=hrd.slice
 have HRS:Hid (RdRels w2 (.slice p2 L.length c2) L):=Lib.hid ⟨raws,by rw [←hlen];exact hrd,hlen,fun i a b=>(hrr i a b).below (st H1.out h2 H1.out.size)⟩
 have H2:=Lib.hid (st H1.out h2 H1.out.size)
 clear hrd h2 hrr
 rw [hlen]
 clear hlen
 go_wp2_with fail
 go_loopw [4,6] (fun v4 v6 wr=>∃ k:Nat,k≤L.length∧v6= .int .i64 k∧v4= .int .i64 ((L.take k).foldl wgtS 1:Nat)∧Below w2.heap.size w2 wr) (fun _ v6 _=>L.length - (intOf v6).toNat)
 case atStart=>exact⟨0,Nat.zero_le _,rfl,rfl,Below.refl _ _⟩
 case round=>
  obtain⟨k,hk,rfl,rfl,hb⟩:=hrel
  have HB:=Lib.hid hb
  clear hb
  have HML:Hid ((L.take k).foldl wgtS 1≤1000000):=Lib.hid (wgt_le _)
  obtain⟨M,hM⟩:∃ M,(L.take k).foldl wgtS 1=M:=⟨_,rfl⟩
  rw [hM] at HML ⊢
  by_cases hlt:k<L.length
  ·have h9:(k:Int)<(L.length:Int):=by omega
   have HSW:=Lib.hid (suc_wr hlt HLF.out)
   have hr:=HOK.out _ (List.getElem_mem hlt)
   have HST0:=wgt_take L hlt
   rw [hM] at HST0
   have HRA:=Lib.hid (fun wx (hb:Below wr.heap.size wr wx)=>((HRS.out.below HB.out).below hb).at_ k hlt)
   obtain⟨bk,off,x1,x2,rfl,d0,d1,d2,d3,hsp⟩:=(HRS.out.below HB.out).at_ k hlt
   obtain⟨r,hre⟩:∃ r,L[k]=r:=⟨_,rfl⟩
   rw [hre] at d0 d1 d2 d3 hsp hr HST0
   have HRB:Hid (∀ wx,Below wr.heap.size wr wx→wx.cell? ⟨bk,off+k*4,none⟩=some (.int .i64 r.op)):=Lib.hid (fun wx hb=>by
    obtain⟨b',off',y1,y2,he,z0,_⟩:=HRA.out wx hb
    injection he with he
    injection he with h1 h2
    subst h1 h2
    rw [hre] at z0
    exact z0)
   have HSL:=Lib.hid (siz_le hr)
   have HZL:=Lib.hid (siz0_le hr)
   have HMO:=Lib.hid (most_any r hr x1 x2 wr hsp)
   have HMD:=Lib.hid (okMod_le hr.md)
   have HS6:Hid (r.op=6→siz0 r*siz0 r=siz r):=Lib.hid (fun h=>by unfold siz;rw [if_pos h])
   have HS5:Hid (¬ r.op=6→siz0 r=siz r):=Lib.hid (fun h=>by unfold siz;rw [if_neg h])
   have HZM:Hid (r.md=0→mostR r+2=siz0 r):=Lib.hid (fun h=>by unfold siz0;rw [if_pos h])
   have HZN:Hid (¬ r.md=0→r.md=(siz0 r:Nat)):=Lib.hid (fun h=>by
    unfold siz0
    rw [if_neg h]
    have:=okMod_le hr.md
    omega)
   have HST:Hid ((L.take (k+1)).foldl wgtS 1=min (M*siz r) 1000000):=Lib.hid (by rw [HST0];rfl)
   obtain⟨Z,hZ⟩:∃ Z,siz0 r=Z:=⟨_,rfl⟩
   obtain⟨S,hS⟩:∃ S,siz r=S:=⟨_,rfl⟩
   obtain⟨X,hX⟩:∃ X,mostR r=X:=⟨_,rfl⟩
   rw [hZ] at HS6 HS5 HZM HZN HZL
   rw [hS] at HS6 HS5 HST HSL
   rw [hX] at HZM HMO
   obtain⟨T,hT⟩:∃ T,M*S=T:=⟨_,rfl⟩
   have HTT:Hid ((M:Int)*(S:Int)=(T:Int)):=Lib.hid (by rw [←hT];exact(Int.natCast_mul M S).symm)
   have HTL:Hid (T≤10404000000):=Lib.hid (by
    have:=Nat.mul_le_mul HML.out HSL.out
    omega)
   rw [hT] at HST
   obtain⟨ro,rm,rn,rs⟩:=r
   dsimp only at d0 d1 d2 d3 HRB HMO HMD HS6 HS5 HZM HZN
   clear hZ hS hX hT hM hre hr hsp HRA HST0
   by_cases hmd:rm=0
   ·subst hmd
    have hz:X+2=Z:=HZM.out rfl
    have hzi:(X:Int)+2=(Z:Int):=by omega
    have hzl:Z≤102:=HZL.out
    go_wp2_with fail
    refine HMO.out.mono ?_
    rintro e w5 ⟨rfl,h5⟩
    have d5:=HRB.out w5 h5
    have H5:=Lib.hid (st HB.out h5 HB.out.size)
    clear h5 d0 d1 d2 d3
    by_cases hop:ro=6
    ·subst hop
     have hop':((6:Int)==6)=true:=rfl
     have s0:(Z:Int)*(Z:Int)=(S:Int):=by rw [←HS6.out (by first|exact hop|rfl)];exact(Int.natCast_mul Z Z).symm
     have hSS:S≤10404:=HSL.out
     have hZZ:Z≤102:=HZL.out
     have s1:(M:Int)*(S:Int)=(T:Int):=HTT.out
     have hTT:T≤10404000000:=HTL.out
     go_upto_region 13 with fail
     by_cases hmin:T≤1000000
     ·have HQ:=Lib.hid (min_lo hmin)
      have HGO:Hid ((L.take (k+1)).foldl wgtS 1=T):=Lib.hid (by rw [HST.out];exact Nat.min_eq_left hmin)
      clear hmin
      go_wp2
      rw [HSW.out];(try rw [HQ.out.1]);rw [HQ.out.2]
      go_roundw
      case measure=>exact mea_k hlt
      case rel=>exact⟨k+1,Nat.succ_le_of_lt hlt,rfl,by rw [HGO.out]<;>rfl,H5.out⟩
     ·have HQ:=Lib.hid (min_hi hmin hTT)
      have HGO:Hid ((L.take (k+1)).foldl wgtS 1=1000000):=Lib.hid (by rw [HST.out];exact Nat.min_eq_right (Nat.le_of_lt (Nat.lt_of_not_le hmin)))
      clear hmin
      go_wp2
      rw [HSW.out];(try rw [HQ.out.1]);rw [HQ.out.2]
      go_roundw
      case measure=>exact mea_k hlt
      case rel=>exact⟨k+1,Nat.succ_le_of_lt hlt,rfl,by rw [HGO.out]<;>rfl,H5.out⟩
    ·have hop':(ro==6)=false:=by simpa using hop
     obtain rfl:Z=S:=HS5.out hop
     have hSS:Z≤10404:=HSL.out
     have s1:(M:Int)*(Z:Int)=(T:Int):=HTT.out
     have hTT:T≤10404000000:=HTL.out
     go_upto_region 13 with fail
     by_cases hmin:T≤1000000
     ·have HQ:=Lib.hid (min_lo hmin)
      have HGO:Hid ((L.take (k+1)).foldl wgtS 1=T):=Lib.hid (by rw [HST.out];exact Nat.min_eq_left hmin)
      clear hmin
      go_wp2
      rw [HSW.out];(try rw [HQ.out.1]);rw [HQ.out.2]
      go_roundw
      case measure=>exact mea_k hlt
      case rel=>exact⟨k+1,Nat.succ_le_of_lt hlt,rfl,by rw [HGO.out]<;>rfl,H5.out⟩
     ·have HQ:=Lib.hid (min_hi hmin hTT)
      have HGO:Hid ((L.take (k+1)).foldl wgtS 1=1000000):=Lib.hid (by rw [HST.out];exact Nat.min_eq_right (Nat.le_of_lt (Nat.lt_of_not_le hmin)))
      clear hmin
      go_wp2
      rw [HSW.out];(try rw [HQ.out.1]);rw [HQ.out.2]
      go_roundw
      case measure=>exact mea_k hlt
      case rel=>exact⟨k+1,Nat.succ_le_of_lt hlt,rfl,by rw [HGO.out]<;>rfl,H5.out⟩
   ·have hmd':(rm==0)=false:=by simpa using hmd
    obtain rfl:=HZN.out hmd
    by_cases hop:ro=6
    ·subst hop
     have hop':((6:Int)==6)=true:=rfl
     have s0:(Z:Int)*(Z:Int)=(S:Int):=by rw [←HS6.out (by first|exact hop|rfl)];exact(Int.natCast_mul Z Z).symm
     have hSS:S≤10404:=HSL.out
     have hZZ:Z≤102:=HZL.out
     have s1:(M:Int)*(S:Int)=(T:Int):=HTT.out
     have hTT:T≤10404000000:=HTL.out
     go_upto_region 13 with fail
     by_cases hmin:T≤1000000
     ·have HQ:=Lib.hid (min_lo hmin)
      have HGO:Hid ((L.take (k+1)).foldl wgtS 1=T):=Lib.hid (by rw [HST.out];exact Nat.min_eq_left hmin)
      clear hmin
      go_wp2
      rw [HSW.out];(try rw [HQ.out.1]);rw [HQ.out.2]
      go_roundw
      case measure=>exact mea_k hlt
      case rel=>exact⟨k+1,Nat.succ_le_of_lt hlt,rfl,by rw [HGO.out]<;>rfl,HB.out⟩
     ·have HQ:=Lib.hid (min_hi hmin hTT)
      have HGO:Hid ((L.take (k+1)).foldl wgtS 1=1000000):=Lib.hid (by rw [HST.out];exact Nat.min_eq_right (Nat.le_of_lt (Nat.lt_of_not_le hmin)))
      clear hmin
      go_wp2
      rw [HSW.out];(try rw [HQ.out.1]);rw [HQ.out.2]
      go_roundw
      case measure=>exact mea_k hlt
      case rel=>exact⟨k+1,Nat.succ_le_of_lt hlt,rfl,by rw [HGO.out]<;>rfl,HB.out⟩
    ·have hop':(ro==6)=false:=by simpa using hop
     obtain rfl:Z=S:=HS5.out hop
     have hSS:Z≤10404:=HSL.out
     have s1:(M:Int)*(Z:Int)=(T:Int):=HTT.out
     have hTT:T≤10404000000:=HTL.out
     go_upto_region 13 with fail
     by_cases hmin:T≤1000000
     ·have HQ:=Lib.hid (min_lo hmin)
      have HGO:Hid ((L.take (k+1)).foldl wgtS 1=T):=Lib.hid (by rw [HST.out];exact Nat.min_eq_left hmin)
      clear hmin
      go_wp2
      rw [HSW.out];(try rw [HQ.out.1]);rw [HQ.out.2]
      go_roundw
      case measure=>exact mea_k hlt
      case rel=>exact⟨k+1,Nat.succ_le_of_lt hlt,rfl,by rw [HGO.out]<;>rfl,HB.out⟩
     ·have HQ:=Lib.hid (min_hi hmin hTT)
      have HGO:Hid ((L.take (k+1)).foldl wgtS 1=1000000):=Lib.hid (by rw [HST.out];exact Nat.min_eq_right (Nat.le_of_lt (Nat.lt_of_not_le hmin)))
      clear hmin
      go_wp2
      rw [HSW.out];(try rw [HQ.out.1]);rw [HQ.out.2]
      go_roundw
      case measure=>exact mea_k hlt
      case rel=>exact⟨k+1,Nat.succ_le_of_lt hlt,rfl,by rw [HGO.out]<;>rfl,HB.out⟩
  ·obtain rfl:k=L.length:=by omega
   have h3:¬ (L.length:Int)<(L.length:Int):=by omega
   have HME:Hid (M=WG):=Lib.hid (by rw [←hM,List.take_length,HWG.out])
   have HBE:=Lib.hid (st H2.out HB.out H2.out.size)
   clear hM
   go_wp2
   go_ret2
   exact⟨by rw [HME.out];rfl,HBE.out⟩
def inR (lo hi:Nat) (c:UInt8):Bool:=decide (lo≤c.toNat)&&decide (c.toNat≤hi)
def lngS (l:Str) (lo hi:Nat):Nat:=(l.takeWhile (inR lo hi)).length
theorem lng_stop {lo hi:Nat}:∀ {l:Str} {k:Nat},k≤l.length→(∀(i:Nat) (h:i<l.length),i<k→inR lo hi l[i]=true)→(∀ h:k<l.length,inR lo hi l[k]=false)→lngS l lo hi=k
 |[],k,hk,_,_=>by simp at hk;rw [hk];rfl
 |c::l,0,_,_,hn=>by
  have h:=hn (by simp)
  have h:inR lo hi c=false:=h
  unfold lngS
  rw [List.takeWhile_cons,if_neg (by rw [h];decide)]
  rfl
 |c::l,k+1,hk,hy,hn=>by
  have h0:inR lo hi c=true:=hy 0 (by simp) (by omega)
  have ih:=lng_stop (lo:=lo) (hi:=hi) (l:=l) (k:=k) (by simpa using hk) (fun i h hi'=>hy (i+1) (by simpa using h) (by omega)) (fun h=>hn (by simpa using h))
  unfold lngS at ih ⊢
  rw [List.takeWhile_cons,if_pos h0,List.length_cons,ih]
set_option maxRecDepth 1000000 in
set_option maxHeartbeats 4000000 in
theorem longest_any2 (s:ByteArray) (lo hi:Nat) (hs:s.size≤1000) (w:World):
  Calls Tryz.prog 113 #[.string s,.int .u8 (lo:Int),.int .u8 (hi:Int)] w fun e w'=>e= .returned (.int .i64 (lngS s.data.toList lo hi:Nat))∧w'=w:=by
 have HLS:=Lib.hid (len_dataA s)
 go_enter Tryz.func113,Tryz.ntmps113
 go_wp2_with fail
 go_loopw [7] (fun v7 wr=>∃ k:Nat,k≤s.size∧v7= .int .i64 k∧(∀(i:Nat) (h:i<s.data.toList.length),i<k→inR lo hi s.data.toList[i]=true)∧wr=w) (fun v7 _=>s.size - (intOf v7).toNat)
 case atStart=>exact⟨0,Nat.zero_le _,rfl,fun i _ h=>by omega,rfl⟩
 case round=>
  rename World=>wr
  obtain⟨k,hk,rfl,hp,hwr⟩:=hrel
  obtain rfl:w=wr:=hwr.symm
  have HP:=Lib.hid hp
  clear hp hwr
  by_cases hlt:k<s.size
  ·have h9:(k:Int)<(s.size:Int):=by omega
   have HC:=Lib.hid (byte_atA s hlt)
   by_cases h1:lo≤(s[k]'hlt).toNat
   ·have t1:(lo:Int)≤((s[k]'hlt).toNat:Int):=by omega
    by_cases h2:(s[k]'hlt).toNat≤hi
    ·have t2:((s[k]'hlt).toNat:Int)≤(hi:Int):=by omega
     have HN:Hid (∀(i:Nat) (h:i<s.data.toList.length),i<k+1→inR lo hi s.data.toList[i]=true):=Lib.hid (fun i h hi'=>by
      by_cases he:i<k
      ·exact HP.out i h he
      ·obtain rfl:i=k:=by omega
       rw [HC.out]
       unfold inR
       rw [decide_eq_true h1,decide_eq_true h2]
       rfl)
     clear h1 h2
     go_wp2_with fail
     go_roundw
     case measure=>simp [intOf];omega
     case rel=>exact⟨k+1,by omega,by go_num,HN.out,by first|rfl|trivial⟩
    ·have t2:¬ ((s[k]'hlt).toNat:Int)≤(hi:Int):=by omega
     have HE:Hid (lngS s.data.toList lo hi=k):=Lib.hid (lng_stop (by rw [HLS.out];exact hk) HP.out (fun h=>by
      rw [HC.out]
      unfold inR
      rw [decide_eq_false h2,Bool.and_false]))
     clear h1 h2
     go_wp2_with fail
     go_ret
     exact⟨by rw [HE.out];rfl,rfl⟩
   ·have t1:¬ (lo:Int)≤((s[k]'hlt).toNat:Int):=by omega
    have HE:Hid (lngS s.data.toList lo hi=k):=Lib.hid (lng_stop (by rw [HLS.out];exact hk) HP.out (fun h=>by
     rw [HC.out]
     unfold inR
     rw [decide_eq_false h1,Bool.false_and]))
    clear h1
    go_wp2_with fail
    go_ret
    exact⟨by rw [HE.out];rfl,rfl⟩
  ·obtain rfl:k=s.size:=by omega
   have h3:¬ (s.size:Int)<(s.size:Int):=by omega
   have HE:Hid (lngS s.data.toList lo hi=s.size):=Lib.hid (lng_stop (by rw [HLS.out];exact Nat.le_refl _) HP.out (fun h=>absurd h (by rw [HLS.out];omega)))
   go_wp2_with fail
   go_ret
   exact⟨by rw [HE.out];rfl,rfl⟩
theorem resWord {W:World} {tm:Array Value} {B:Nat} {t:TypeId} {a b v:Value} (t2:tm[4]?.getD undef= .pointer (some ⟨B,0,none⟩)) (t3:tm[5]?.getD undef=v) (h:Blk B t #[a,b] W):
  (results Tryz.f91 tm).run Tryz.prog W= .ok (.tuple #[.agg #[a,b],v]) W:=by
 have a0:W.cell? ⟨B,0,none⟩=some a:=h.cell 0
 have a1:W.cell? ⟨B,1,none⟩=some b:=h.cell 1
 simp [results,Tryz.f91,go_sem,t2,t3,a0,a1]
theorem cut_from (s:ByteArray) {a:Nat} (h:a≤s.size) (wx:World):(Instr.slice 9 (.string s) (some (.int .i64 (a:Int))) none none).run Tryz.prog wx= .ok (.string (s.extract a s.size)) wx:=by
 have e:=run_slice_string_from_if (P:=Tryz.prog) (w:=wx) 9 s .i64 (a:Int) Tryz.underlying9
 rw [e,if_pos ⟨by omega,by omega⟩,Int.toNat_natCast]
theorem cut_mid (s:ByteArray) {a b:Nat} (h:a≤b) (h2:b≤s.size) {B:Int} (hB:B=(b:Int)) (wx:World):(Instr.slice 9 (.string s) (some (.int .i64 (a:Int))) (some (.int .i64 B)) none).run Tryz.prog wx= .ok (.string (s.extract a b)) wx:=by
 subst hB
 have e:=run_slice_string (P:=Tryz.prog) (w:=wx) 9 s .i64 .i64 (a:Int) (b:Int) Tryz.underlying9 (by omega) (by omega) (by omega)
 rw [Int.toNat_natCast,Int.toNat_natCast] at e
 exact e
structure SpT (s:ByteArray) (i at_:Nat):Prop where
 lo:i≤at_
 hi:at_≤s.size
 sp:∀(k:Nat) (h:k<s.size),i≤k→k<at_→(s[k]'h).toNat=32
 no:∀(h:at_<s.size),(s[at_]'h).toNat≠32∧(s[at_]'h).toNat≠9∧(s[at_]'h).toNat≠10
set_option maxRecDepth 1000000 in
set_option maxHeartbeats 8000000 in
theorem next_end (s:ByteArray) (i at_:Nat) (hs:s.size≤1000) (h:SpT s i at_) (he:at_=s.size) (w:World):
  Calls Tryz.prog 91 #[.string s,.int .i64 (i:Int)] w fun e w'=>e= .returned (.tuple #[.agg #[.string ⟨#[]⟩,.int .i64 (at_:Int)],.int .i64 ((at_:Nat):Int)])∧Below w.heap.size w w':=by
 have HS:=Lib.hid h
 have HB:=Lib.hid (below_al w (.cells #[.string ⟨#[]⟩,.int .i64 (at_:Int)] 122))
 have HK:=Lib.hid (Blk.new w 122 #[.string ⟨#[]⟩,.int .i64 (at_:Int)])
 have HE:=Lib.hid he
 clear he
 clear h
 go_enter Tryz.func91,Tryz.ntmps91
 go_wp2_with fail
 go_loopw [1] (fun v1 wr=>∃ k:Nat,i≤k∧k≤at_∧v1= .int .i64 k∧wr=w.alloc (.cells #[.string ⟨#[]⟩,.int .i64 0] 122)) (fun v1 _=>at_ - (intOf v1).toNat)
 case atStart=>exact⟨i,Nat.le_refl _,HS.out.lo,rfl,rfl⟩
 case round=>
  rename World=>wr
  obtain⟨k,hk0,hk,rfl,hwr⟩:=hrel
  have hat:=HS.out.hi
  by_cases hlt:k<at_
  ·have hlk:k<s.size:=by omega
   have h9:(k:Int)<(s.size:Int):=by omega
   have t1:(((s[k]'hlk).toNat:Int)==32)=true:=by rw [beq_iff_eq];have:=HS.out.sp k hlk hk0 hlt;omega
   go_wp2_with fail
   go_roundw
   case measure=>simp [intOf];omega
   case rel=>exact⟨k+1,by omega,by omega,by go_num,by first|exact hwr|trivial⟩
  ·obtain rfl:k=at_:=by omega
   clear hlt hk hk0
   subst hwr
   have t0:¬ ((k:Int)<(s.size:Int)):=by have:=HE.out;omega
   have t4:((k:Int)==(s.size:Int))=true:=by rw [beq_iff_eq];have:=HE.out;omega
   go_wp2
   exact bodyPost_ret (v:= .tuple #[.agg #[.string ⟨#[]⟩,.int .i64 (k:Int)],.int .i64 ((k:Nat):Int)]) (resWord rfl (by first|rfl|go_num) HK.out) rfl ⟨rfl,HB.out⟩
set_option maxRecDepth 1000000 in
set_option maxHeartbeats 8000000 in
theorem next_word (s:ByteArray) (i at_:Nat) (hs:s.size≤1000) (h:SpT s i at_) (hlt:at_<s.size) (R T:ByteArray) (n:Nat) (hR:s.extract at_ s.size=R) (hn:lngS R.data.toList 97 122=n) (h0:0<n) (hT:s.extract at_ (at_+n)=T) (hn2:at_+n≤s.size) (w:World):
  Calls Tryz.prog 91 #[.string s,.int .i64 (i:Int)] w fun e w'=>e= .returned (.tuple #[.agg #[.string T,.int .i64 (at_:Int)],.int .i64 (((at_+n):Nat):Int)])∧Below w.heap.size w w':=by
 have HS:=Lib.hid h
 have HB:=Lib.hid (below_al w (.cells #[.string T,.int .i64 (at_:Int)] 122))
 have HK:=Lib.hid (Blk.new w 122 #[.string T,.int .i64 (at_:Int)])
 have HLT:=Lib.hid hlt
 have c1:=cut_from s h.hi
 have c2:=cut_mid s (Nat.le_add_right at_ n) hn2 (Int.natCast_add at_ n).symm
 rw [hR] at c1
 rw [hT] at c2
 have hRs:R.size≤1000:=by rw [←hR,ByteArray.size_extract];omega
 have HLO:=Lib.hid (longest_any2 R 97 122 hRs)
 rw [hn] at HLO
 have t5:((n:Int)==0)=false:=by rw [beq_eq_false_iff_ne];omega
 have HTX:=Lib.hid hT
 clear hR hn hT hRs hlt
 clear h
 go_enter Tryz.func91,Tryz.ntmps91
 go_wp2_with fail
 go_loopw [1] (fun v1 wr=>∃ k:Nat,i≤k∧k≤at_∧v1= .int .i64 k∧wr=w.alloc (.cells #[.string ⟨#[]⟩,.int .i64 0] 122)) (fun v1 _=>at_ - (intOf v1).toNat)
 case atStart=>exact⟨i,Nat.le_refl _,HS.out.lo,rfl,rfl⟩
 case round=>
  rename World=>wr
  obtain⟨k,hk0,hk,rfl,hwr⟩:=hrel
  have hat:=HS.out.hi
  by_cases hlt:k<at_
  ·have hlk:k<s.size:=by omega
   have h9:(k:Int)<(s.size:Int):=by omega
   have t1:(((s[k]'hlk).toNat:Int)==32)=true:=by rw [beq_iff_eq];have:=HS.out.sp k hlk hk0 hlt;omega
   go_wp2_with fail
   go_roundw
   case measure=>simp [intOf];omega
   case rel=>exact⟨k+1,by omega,by omega,by go_num,by first|exact hwr|trivial⟩
  ·obtain rfl:k=at_:=by omega
   clear hlt hk hk0
   subst hwr
   have hlt:=HLT.out
   have hlk:k<s.size:=hlt
   have h9:(k:Int)<(s.size:Int):=by omega
   have hne:=HS.out.no hlk
   have t1:(((s[k]'hlk).toNat:Int)==32)=false:=by rw [beq_eq_false_iff_ne];omega
   have t2:(((s[k]'hlk).toNat:Int)==9)=false:=by rw [beq_eq_false_iff_ne];omega
   have t3:(((s[k]'hlk).toNat:Int)==10)=false:=by rw [beq_eq_false_iff_ne];omega
   have t4:((k:Int)==(s.size:Int))=false:=by rw [beq_eq_false_iff_ne];omega
   clear hne
   go_wp2_with fail
   refine(HLO.out _).mono ?_
   rintro e w3 ⟨rfl,hw3⟩
   obtain rfl:=hw3.symm
   go_wp2
   try rw [HTX.out]
   exact bodyPost_ret (v:= .tuple #[.agg #[.string T,.int .i64 (k:Int)],.int .i64 (((k+n):Nat):Int)]) (resWord rfl (by first|rfl|go_num) HK.out) rfl ⟨rfl,HB.out⟩
set_option maxRecDepth 1000000 in
set_option maxHeartbeats 8000000 in
theorem next_num (s:ByteArray) (i at_:Nat) (hs:s.size≤1000) (h:SpT s i at_) (hlt:at_<s.size) (R T:ByteArray) (n:Nat) (hR:s.extract at_ s.size=R) (hn0:lngS R.data.toList 97 122=0) (hn:lngS R.data.toList 48 57=n) (h0:0<n) (hT:s.extract at_ (at_+n)=T) (hn2:at_+n≤s.size) (w:World):
  Calls Tryz.prog 91 #[.string s,.int .i64 (i:Int)] w fun e w'=>e= .returned (.tuple #[.agg #[.string T,.int .i64 (at_:Int)],.int .i64 (((at_+n):Nat):Int)])∧Below w.heap.size w w':=by
 have HS:=Lib.hid h
 have HB:=Lib.hid (below_al w (.cells #[.string T,.int .i64 (at_:Int)] 122))
 have HK:=Lib.hid (Blk.new w 122 #[.string T,.int .i64 (at_:Int)])
 have HLT:=Lib.hid hlt
 have c1:=cut_from s h.hi
 have c2:=cut_mid s (Nat.le_add_right at_ n) hn2 (Int.natCast_add at_ n).symm
 rw [hR] at c1
 rw [hT] at c2
 have hRs:R.size≤1000:=by rw [←hR,ByteArray.size_extract];omega
 have HLO:=Lib.hid (longest_any2 R 97 122 hRs)
 have HLP:=Lib.hid (longest_any2 R 48 57 hRs)
 rw [hn0] at HLO
 rw [hn] at HLP
 have t5:((n:Int)==0)=false:=by rw [beq_eq_false_iff_ne];omega
 have HTX:=Lib.hid hT
 clear hR hn hn0 hT hRs hlt
 clear h
 go_enter Tryz.func91,Tryz.ntmps91
 go_wp2_with fail
 go_loopw [1] (fun v1 wr=>∃ k:Nat,i≤k∧k≤at_∧v1= .int .i64 k∧wr=w.alloc (.cells #[.string ⟨#[]⟩,.int .i64 0] 122)) (fun v1 _=>at_ - (intOf v1).toNat)
 case atStart=>exact⟨i,Nat.le_refl _,HS.out.lo,rfl,rfl⟩
 case round=>
  rename World=>wr
  obtain⟨k,hk0,hk,rfl,hwr⟩:=hrel
  have hat:=HS.out.hi
  by_cases hlt:k<at_
  ·have hlk:k<s.size:=by omega
   have h9:(k:Int)<(s.size:Int):=by omega
   have t1:(((s[k]'hlk).toNat:Int)==32)=true:=by rw [beq_iff_eq];have:=HS.out.sp k hlk hk0 hlt;omega
   go_wp2_with fail
   go_roundw
   case measure=>simp [intOf];omega
   case rel=>exact⟨k+1,by omega,by omega,by go_num,by first|exact hwr|trivial⟩
  ·obtain rfl:k=at_:=by omega
   clear hlt hk hk0
   subst hwr
   have hlt:=HLT.out
   have hlk:k<s.size:=hlt
   have h9:(k:Int)<(s.size:Int):=by omega
   have hne:=HS.out.no hlk
   have t1:(((s[k]'hlk).toNat:Int)==32)=false:=by rw [beq_eq_false_iff_ne];omega
   have t2:(((s[k]'hlk).toNat:Int)==9)=false:=by rw [beq_eq_false_iff_ne];omega
   have t3:(((s[k]'hlk).toNat:Int)==10)=false:=by rw [beq_eq_false_iff_ne];omega
   have t4:((k:Int)==(s.size:Int))=false:=by rw [beq_eq_false_iff_ne];omega
   clear hne
   go_wp2_with fail
   refine(HLO.out _).mono ?_
   rintro e w3 ⟨rfl,hw3⟩
   obtain rfl:=hw3.symm
   go_wp2_with fail
   refine(HLP.out _).mono ?_
   rintro e w3 ⟨rfl,hw3⟩
   obtain rfl:=hw3.symm
   go_wp2
   try rw [HTX.out]
   exact bodyPost_ret (v:= .tuple #[.agg #[.string T,.int .i64 (k:Int)],.int .i64 (((k+n):Nat):Int)]) (resWord rfl (by first|rfl|go_num) HK.out) rfl ⟨rfl,HB.out⟩
set_option maxRecDepth 1000000 in
set_option maxHeartbeats 8000000 in
theorem next_sym (s:ByteArray) (i at_:Nat) (hs:s.size≤1000) (h:SpT s i at_) (hlt:at_+2≤s.size) (R T X:ByteArray) (b:Nat) (hR:s.extract at_ s.size=R) (hn0:lngS R.data.toList 97 122=0) (hn:lngS R.data.toList 48 57=0) (hX:s.extract at_ (at_+2)=X) (hX1:X.toList≠ [33,61]) (hX2:X.toList≠ [46,46]) (hb:∀ h:at_<s.size,(s[at_]'h).toNat=b) (hb2:b=37∨b=61) (hT:s.extract at_ (at_+1)=T) (w:World):
  Calls Tryz.prog 91 #[.string s,.int .i64 (i:Int)] w fun e w'=>e= .returned (.tuple #[.agg #[.string T,.int .i64 (at_:Int)],.int .i64 (((at_+1):Nat):Int)])∧Below w.heap.size w w':=by
 have HS:=Lib.hid h
 have HB:=Lib.hid (below_al w (.cells #[.string T,.int .i64 (at_:Int)] 122))
 have HK:=Lib.hid (Blk.new w 122 #[.string T,.int .i64 (at_:Int)])
 have HLT:=Lib.hid hlt
 have c1:=cut_from s h.hi
 have c2:=cut_mid s (show at_≤at_+1 by omega) (by omega) (show(at_:Int)+1=((at_+1:Nat):Int) by omega)
 have c3:=cut_mid s (show at_≤at_+2 by omega) hlt (show(at_:Int)+2=((at_+2:Nat):Int) by omega)
 rw [hR] at c1
 rw [hT] at c2
 rw [hX] at c3
 have x1:(X.toList== [33,61])=false:=by rw [beq_eq_false_iff_ne];exact hX1
 have x2:(X.toList== [46,46])=false:=by rw [beq_eq_false_iff_ne];exact hX2
 have hRs:R.size≤1000:=by rw [←hR,ByteArray.size_extract];omega
 have HLO:=Lib.hid (longest_any2 R 97 122 hRs)
 have HLP:=Lib.hid (longest_any2 R 48 57 hRs)
 rw [hn0] at HLO
 rw [hn] at HLP
 have HTX:=Lib.hid hT
 have HXX:=Lib.hid hX
 have HBB:=Lib.hid hb
 clear hR hn hn0 hT hX hX1 hX2 hRs hb
 clear h
 go_enter Tryz.func91,Tryz.ntmps91
 go_wp2_with fail
 go_loopw [1] (fun v1 wr=>∃ k:Nat,i≤k∧k≤at_∧v1= .int .i64 k∧wr=w.alloc (.cells #[.string ⟨#[]⟩,.int .i64 0] 122)) (fun v1 _=>at_ - (intOf v1).toNat)
 case atStart=>exact⟨i,Nat.le_refl _,HS.out.lo,rfl,rfl⟩
 case round=>
  rename World=>wr
  obtain⟨k,hk0,hk,rfl,hwr⟩:=hrel
  have hat:=HS.out.hi
  by_cases hlt:k<at_
  ·have hlk:k<s.size:=by omega
   have h9:(k:Int)<(s.size:Int):=by omega
   have t1:(((s[k]'hlk).toNat:Int)==32)=true:=by rw [beq_iff_eq];have:=HS.out.sp k hlk hk0 hlt;omega
   go_wp2_with fail
   go_roundw
   case measure=>simp [intOf];omega
   case rel=>exact⟨k+1,by omega,by omega,by go_num,by first|exact hwr|trivial⟩
  ·obtain rfl:k=at_:=by omega
   clear hlt hk hk0
   subst hwr
   have hlt:k<s.size:=by have:=HLT.out;omega
   have hlk:k<s.size:=hlt
   have h9:(k:Int)<(s.size:Int):=by omega
   have hne:=HS.out.no hlk
   have t1:(((s[k]'hlk).toNat:Int)==32)=false:=by rw [beq_eq_false_iff_ne];omega
   have t2:(((s[k]'hlk).toNat:Int)==9)=false:=by rw [beq_eq_false_iff_ne];omega
   have t3:(((s[k]'hlk).toNat:Int)==10)=false:=by rw [beq_eq_false_iff_ne];omega
   have t4:((k:Int)==(s.size:Int))=false:=by rw [beq_eq_false_iff_ne];omega
   clear hne
   have h8:(k:Int)+1<(s.size:Int):=by have:=HLT.out;omega
   go_wp2_with fail
   refine(HLO.out _).mono ?_
   rintro e w3 ⟨rfl,hw3⟩
   obtain rfl:=hw3.symm
   go_wp2_with fail
   refine(HLP.out _).mono ?_
   rintro e w3 ⟨rfl,hw3⟩
   obtain rfl:=hw3.symm
   have hbb:=HBB.out hlk
   rcases hb2 with rfl|rfl
   ·have t6:(((s[k]'hlk).toNat:Int)==37)=true:=by rw [beq_iff_eq];omega
    clear hbb
    go_wp2
    (try rw [HTX.out])
    exact bodyPost_ret (v:= .tuple #[.agg #[.string T,.int .i64 (k:Int)],.int .i64 (((k+1):Nat):Int)]) (resWord rfl (by first|rfl|go_num) HK.out) rfl ⟨rfl,HB.out⟩
   ·have t6:(((s[k]'hlk).toNat:Int)==37)=false:=by rw [beq_eq_false_iff_ne];omega
    have t7:(((s[k]'hlk).toNat:Int)==61)=true:=by rw [beq_iff_eq];omega
    clear hbb
    go_wp2
    (try rw [HTX.out])
    exact bodyPost_ret (v:= .tuple #[.agg #[.string T,.int .i64 (k:Int)],.int .i64 (((k+1):Nat):Int)]) (resWord rfl (by first|rfl|go_num) HK.out) rfl ⟨rfl,HB.out⟩
def PrB (w:World) (g:Nat) (s T:ByteArray) (tq wat:Nat):Prop:=Blk g 124 #[.string s,.int .i64 (tq:Int),.string T,.int .i64 (wat:Int),.int .i64 0,.int .i64 0] w
theorem PrB.below {w w':World} {g:Nat} {s T:ByteArray} {tq wat:Nat} (h:PrB w g s T tq wat) (hb:Below w.heap.size w w'):PrB w' g s T tq wat:=Blk.below h hb
set_option maxRecDepth 1000000 in
set_option maxHeartbeats 4000000 in
theorem is_any (g:Nat) (s T x:ByteArray) (tq wat:Nat) (b:Bool) (hb:(T.toList==x.toList)=b) (w:World) (h:PrB w g s T tq wat):
  Calls Tryz.prog 66 #[.pointer (some ⟨g,0,none⟩),.string x] w fun e w'=>e= .returned (.bool b)∧w'=w:=by
 have c4:w.cell? ⟨g,5,none⟩=some (.int .i64 0):=Blk.cell h 5
 have c2:w.cell? ⟨g,2,none⟩=some (.string T):=Blk.cell h 2
 clear h
 go_enter Tryz.func66,Tryz.ntmps66
 go_wp2
 go_ret
 exact⟨rfl,rfl⟩
set_option maxRecDepth 1000000 in
set_option maxHeartbeats 4000000 in
theorem number_any (g:Nat) (s T:ByteArray) (tq wat:Nat) (hd:allD T.data.toList) (h1:0<T.size) (h3:T.size≤3) (hz:∀ h:0<T.size,(T[0]'h).toNat≠48∨T.size=1) (w:World) (h:PrB w g s T tq wat):
  Calls Tryz.prog 92 #[.pointer (some ⟨g,0,none⟩)] w fun e w'=>e= .returned (.int .i64 (val T.data.toList:Int))∧w'=w:=by
 have c2:w.cell? ⟨g,2,none⟩=some (.string T):=Blk.cell h 2
 have HV:=Lib.hid (value_any T hd (by omega))
 have hne:(T.toList==([]:List UInt8))=false:=by
  rw [beq_eq_false_iff_ne,ByteArray.toList_eq]
  intro e
  have:T.data.toList.length=0:=by rw [e];rfl
  rw [len_dataA] at this
  omega
 have hne2:T.toList.isEmpty=false:=by
  rw [beq_eq_false_iff_ne] at hne
  cases hl:T.toList with
  |nil=>exact absurd hl hne
  |cons a l=>rfl
 have hc:isD (T[0]'h1)=true:=by rw [←byte_atA T h1];exact hd _ (List.getElem_mem _)
 have hc:=isD_iff.1 hc
 have t1:¬ (((T[0]'h1).toNat:Int)<48):=by omega
 have t2:¬ ((57:Int)<((T[0]'h1).toNat:Int)):=by omega
 have t3:¬ ((3:Int)<(T.size:Int)):=by omega
 clear h hd
 by_cases h4:T.size=1
 ·have t4:¬ ((1:Int)<(T.size:Int)):=by omega
  clear hz h4 hc
  go_enter Tryz.func92,Tryz.ntmps92
  go_wp2_with fail
  refine(HV.out _).mono ?_
  rintro e w2 ⟨rfl,hw2⟩
  obtain rfl:=hw2.symm
  go_wp2
  go_ret
  exact⟨rfl,rfl⟩
 ·have t4:((1:Int)<(T.size:Int)):=by omega
  have t5:(((T[0]'h1).toNat:Int)==48)=false:=by rw [beq_eq_false_iff_ne];have:=hz h1;omega
  clear hz h4 hc
  go_enter Tryz.func92,Tryz.ntmps92
  go_wp2_with fail
  refine(HV.out _).mono ?_
  rintro e w2 ⟨rfl,hw2⟩
  obtain rfl:=hw2.symm
  go_wp2
  go_ret
  exact⟨rfl,rfl⟩
end Go.Proofs.YtobapaodpcheiaaGreatDoor
