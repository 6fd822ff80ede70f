/- What the row stands on, part 30. -/
import Derived.Test.YtobapaodpcheiaaGreatDoorQ29
namespace Go.Proofs.YtobapaodpcheiaaGreatDoor
open Go.RowKit Go.Maps
set_option linter.unusedVariables false
section
variable {P:Program} {ops:Array Oper} {a:Act} {o:Oper} {Q:Exit→Act→World→Prop} {K:Act→World→Prop} {E:Prop} {α:Type} {k:Nat} {enc:α→List Value}
theorem step_append_ag {w0:World} {e:TypeId} {cs:Array Value} {x:α} {N:Nat} (hN:w0.heap.size=N) (hgd:o.guard=none) (s y:Operand) (t:TypeId)
  (ho:o.op= .call {callee:= .builtin .append,args:=#[s,y],argTypes:=#[t,t]})
  (base:Nat) (i:TypeInfo) (z:Value) (by_:Nat) (ht:P.underlying t=some (.slice e)) (hi:P.info? e=some i) (hz:i.zero=some z) (hsize:i.size=k) (hby:i.bytes=by_) (hb64:by_≤64) (hzs:z.cells.size=k) (hk0:0<k)
  (hk:∀ x:α,(enc x).length=k) (h1c:∀ x:α,∀ u∈enc x,u.oneCell'=true)
  (v:Value) (l:List α) (hcs:cs.toList=enc x) (hs:a.eval s=v) (hown:Own1 k enc w0 base e v l) (hx:a.eval y= .slice (some ⟨N,0,none⟩) 1 1)
  (hl:l.length≤1000000000) (hbase:base≤N)
  (h:∀ v' w',Own1 k enc w' base e v' (l++ [x])∧Below base w0 w'∧w0.grownBy w' v.ownBlock→K (a.put o.dst v') w'):if Region.wanted o (yielded ops a.tmps)=true then Oper.wp P o a (w0.alloc (.cells cs e)) K Q else E:=by
 have hw:Region.wanted o (yielded ops a.tmps)=true:=by simp [Region.wanted,hgd]
 rw [if_pos hw]
 subst hN
 refine wp_append_own _ s y t ho base e i z k by_ ht hi hz hsize hby hzs hk0 v l.length (l.flatMap enc) hs (World.ownsRow.alloc hown _) ⟨w0.heap.size,0,none⟩ 1 1 cs.toList hx (by rw [hcs,hk,Nat.one_mul]) (cells_new _ _ _) (fun u hu=>h1c x u (by rw [←hcs];exact hu)) (by unfold maxLen;omega) (Nat.le_trans (Nat.mul_le_mul_left _ hb64) (by omega)) (by simp;omega) ?_
 intro v' w' h2 h3 _
 refine h v' w' ⟨?_,(((Below.refl base w0).alloc hbase _).grown h3 (by simp;omega) (fun j e=>(World.ownsRow.lt hown j e).1)),(World.grownBy_alloc _ _ _).trans h3⟩
 unfold Own1
 rw [List.flatMap_append,List.length_append,List.flatMap_cons,List.flatMap_nil,List.append_nil,←hcs]
 exact h2
end
theorem rd_block {α:Type} {k:Nat} {enc:α→List Value} {w:World} {v:Value} {l:List α} (h:Rd k enc w v l) (hl:l≠ []):∀ b,v.ownBlock=some b→b<w.heap.size:=by
 obtain⟨⟨a,c,rfl,h1,h2,hx⟩,hn⟩:=h
 obtain⟨b,off,ha,hlt,hc⟩:=hx hl
 subst ha
 intro b' e
 have e:some b=some b':=e
 injection e with e
 omega
theorem size_set (w:World) (p:Addr) (u:Value):(w.setCell p u).heap.size=w.heap.size:=by
 have h1:Below 0 w (w.setCell p u):=(Below.refl 0 w).setCell (Nat.zero_le _) u
 exact World.size_setCell _ _ _
def NextP (s:ByteArray) (i:Nat) (T:ByteArray) (a e:Nat):Prop:=∀ w,Calls Tryz.prog 91 #[.string s,.int .i64 (i:Int)] w fun en w'=>en= .returned (.tuple #[.agg #[.string T,.int .i64 (a:Int)],.int .i64 (e:Int)])∧Below w.heap.size w w'
def RelP_ (s T0:ByteArray) (tq0 wat0:Nat) (op md:Int) (n:Nat) (T5:ByteArray) (tq5 wat5:Nat):Prop:=∀ g w,PrB w g s T0 tq0 wat0→Calls Tryz.prog 65 #[.pointer (some ⟨g,0,none⟩)] w fun e w'=>(∃ v,e= .returned (.agg #[.int .i64 op,.int .i64 md,.bool false,v])∧Rd 2 encP w' v [((n:Int),(n:Int))]∧∀ b,v.ownBlock=some b→w.heap.size≤b)∧PrB w' g s T5 tq5 wat5∧But g w w'
set_option maxRecDepth 1000000 in
set_option maxHeartbeats 32000000 in
theorem parse2_any (s T0:ByteArray) (hs:s.size≤1000) (wat0 tq0:Nat) (op1:Int) (n1:Nat) (T5:ByteArray) (tq5 wat5:Nat) (T6:ByteArray) (tq6 wat6:Nat) (op2:Int) (n2 tq9:Nat)
  (hN0:NextP s 0 T0 wat0 tq0) (hR1:RelP_ s T0 tq0 wat0 op1 0 n1 T5 tq5 wat5)
  (h5a:(T5.toList==(⟨#[]⟩:ByteArray).toList)=false) (h5b:(T5.toList==(⟨#[111,114]⟩:ByteArray).toList)=false) (h5c:(T5.toList==(⟨#[97,110,100]⟩:ByteArray).toList)=true)
  (hN5:NextP s tq5 T6 wat6 tq6) (hR2:RelP_ s T6 tq6 wat6 op2 0 n2 ⟨#[]⟩ tq9 s.size)
  (w:World):
  Calls Tryz.prog 34 #[.string s] w fun e w'=>∃ v,e= .returned (.tuple #[v,.int .i64 0,.int .i64 0])∧RdC w' v [[⟨op1,0,false,[((n1:Int),(n1:Int))]⟩,⟨op2,0,false,[((n2:Int),(n2:Int))]⟩]]∧Below w.heap.size w w':=by
 obtain⟨iR,hiR,hzR,hkR,hbR⟩:=info_parts Tryz.infoRn
 obtain⟨wa,hwa⟩:∃ x,w.alloc (.cells #[.string s,.int .i64 0,.string ⟨#[]⟩,.int .i64 0,.int .i64 0,.int .i64 0] 124)=x:=⟨_,rfl⟩
 have ka:PrB wa w.heap.size s ⟨#[]⟩ 0 0:=by rw [←hwa];exact Blk.new w _ _
 have B1:Below w.heap.size w wa:=by rw [←hwa];exact below_al _ _
 obtain⟨g,hg⟩:∃ g,w.heap.size=g:=⟨_,rfl⟩
 rw [hg] at ka
 have HG:=Lib.hid hg
 have HWA:=Lib.hid hwa
 have HB1:=Lib.hid B1
 have HST:=Lib.hid (step_any g s ⟨#[]⟩ 0 0 T0 wat0 tq0 hN0 wa ka)
 have HRR1:=Lib.hid hR1
 have HRR2:=Lib.hid hR2
 have HN5:=Lib.hid hN5
 have H5A:=Lib.hid h5a
 have H5B:=Lib.hid h5b
 have H5C:=Lib.hid h5c
 have HKA:=Lib.hid ka
 clear hwa B1 hN0 hR1 hR2 hN5 h5a h5b h5c ka
 go_enter Tryz.func34,Tryz.ntmps34
 go_upto_region 2 with fail
 rw [HWA.out]
 (try rw [hg])
 clear hg
 go_wp2_with fail
 refine HST.out.mono ?_
 rintro e w1 ⟨rfl,p1,b1⟩
 have HP1:=Lib.hid p1
 have HBa:Hid (Below w.heap.size w w1):=Lib.hid (HB1.out.trans (b1.below (by rw [HG.out];exact Nat.le_refl _) HB1.out.size))
 clear p1 b1 HB1
 obtain⟨w2,hw2⟩:∃ x,w1.alloc (.cells #[.slice none 0 0] 48)=x:=⟨_,rfl⟩
 have B2:Below w1.heap.size w1 w2:=by rw [←hw2];exact below_al _ _
 have kc:Blk w1.heap.size 48 #[.slice none 0 0] w2:=by rw [←hw2];exact Blk.new _ _ _
 have hgl:g<w1.heap.size:=Blk.lt HP1.out
 have hcw:w.heap.size≤w1.heap.size:=HBa.out.size
 obtain⟨cB,hcB⟩:∃ b,w1.heap.size=b:=⟨_,rfl⟩
 have HB2:Hid (Below w.heap.size w w2):=Lib.hid (HBa.out.trans (B2.mono HBa.out.size))
 rw [hcB] at kc hgl hcw
 have HKC:=Lib.hid kc
 have HGL:=Lib.hid hgl
 have HCW:=Lib.hid hcw
 have HP2:=Lib.hid (PrB.below HP1.out B2)
 have HW2:=Lib.hid hw2
 have HCB:=Lib.hid hcB
 clear hw2 B2 kc hgl hcw HBa
 go_wp2_with fail
 rw [HW2.out]
 (try rw [hcB])
 clear hcB
 refine wp_loop_rounds 2 ?_
 rw [rounds_succ]
 have c5:w2.cell? ⟨g,5,none⟩=some (.int .i64 0):=Blk.cell HP2.out 5
 go_upto_region 9 with fail
 clear c5
 have BD:=(Below.refl w2.heap.size w2).drew
 have hS:(fun wx:World=>wx.cell? ⟨cB,0,none⟩=some (.slice none 0 0)) w2.drew:=(HKC.out.below BD).cell 0
 have HRQ:=Lib.hid (HRR1.out g w2.drew (PrB.below HP2.out BD))
 have hwr:IntKind.i64.wrap 0=0:=by decide
 refine region_hd 14 (fun wx:World=>wx.cell? ⟨cB,0,none⟩=some (.slice none 0 0)) (by kernel_rfl) (by kernel_rfl) ?_
 refine hd_taken 0 (some 29) _ ?hdv0 rfl rfl (by kernel_rfl) (fun _ _ _ h=>h) (Or.inl ⟨by kernel_rfl,?hdy0⟩) hS ?hdr0
 case hdy0=>(intro wx hx;(try dsimp only at hx);go_simp;try with_reducible rfl)
 try simp only [Act.put,zI,zO,zS]
 refine hd_taken 1 (some 30) _ ?hdv1 rfl rfl (by kernel_rfl) (fun _ _ _ h=>h) (Or.inl ⟨by kernel_rfl,?hdy1⟩) hS ?hdr1
 case hdy1=>(intro wx hx;(try dsimp only at hx);go_simp;try with_reducible rfl)
 try simp only [Act.put,zI,zO,zS]
 refine hd_taken 2 (some 31) _ ?hdv2 rfl rfl (by kernel_rfl) (fun _ _ _ h=>h) (Or.inl ⟨by kernel_rfl,?hdy2⟩) hS ?hdr2
 case hdy2=>(intro wx hx;(try dsimp only at hx);go_simp;try with_reducible rfl)
 try simp only [Act.put,zI,zO,zS]
 refine hd_taken 3 (some 32) _ ?hdv3 rfl rfl (by kernel_rfl) (fun _ _ _ h=>h) (Or.inl ⟨by kernel_rfl,?hdy3⟩) hS ?hdr3
 case hdy3=>(intro wx hx;(try dsimp only at hx);go_simp;try with_reducible rfl)
 try simp only [Act.put,zI,zO,zS]
 refine hd_taken 4 (some 33) _ ?hdv4 rfl rfl (by kernel_rfl) (fun _ _ _ h=>h) (Or.inl ⟨by kernel_rfl,?hdy4⟩) hS ?hdr4
 case hdy4=>(intro wx hx;(try dsimp only at hx);go_simp;try with_reducible rfl)
 try simp only [Act.put,zI,zO,zS]
 refine hd_taken 5 (some 34) _ ?hdv5 rfl rfl (by kernel_rfl) (fun _ _ _ h=>h) (Or.inl ⟨by kernel_rfl,?hdy5⟩) hS ?hdr5
 case hdy5=>(intro wx hx;(try dsimp only at hx);go_simp;try with_reducible rfl)
 try simp only [Act.put,zI,zO,zS]
 refine hd_taken 6 (some 35) _ ?hdv6 rfl rfl (by kernel_rfl) (fun _ _ _ h=>h) (Or.inl ⟨by kernel_rfl,?hdy6⟩) hS ?hdr6
 case hdy6=>(intro wx hx;(try dsimp only at hx);go_simp;try with_reducible rfl)
 try simp only [Act.put,zI,zO,zS]
 refine hd_taken 7 (some 36) _ ?hdv7 rfl rfl (by kernel_rfl) (fun _ _ _ h=>h) (Or.inl ⟨by kernel_rfl,?hdy7⟩) hS ?hdr7
 case hdy7=>(intro wx hx;(try dsimp only at hx);go_simp;try with_reducible rfl)
 try simp only [Act.put,zI,zO,zS]
 refine hd_taken 8 (some 37) _ ?hdv8 rfl rfl (by kernel_rfl) (fun _ _ _ h=>h) (Or.inl ⟨by kernel_rfl,?hdy8⟩) hS ?hdr8
 case hdy8=>(intro wx hx;(try dsimp only at hx);go_simp;try with_reducible rfl)
 try simp only [Act.put,zI,zO,zS]
 refine hd_taken 9 (some 38) _ ?hdv9 rfl rfl (by kernel_rfl) (fun _ _ _ h=>h) (Or.inl ⟨by kernel_rfl,?hdy9⟩) hS ?hdr9
 case hdy9=>(intro wx hx;(try dsimp only at hx);go_simp;try with_reducible rfl)
 try simp only [Act.put,zI,zO,zS]
 refine hd_taken 10 (some 39) _ ?hdv10 rfl rfl (by kernel_rfl) (fun _ _ _ h=>h) (Or.inl ⟨by kernel_rfl,?hdy10⟩) hS ?hdr10
 case hdy10=>(intro wx hx;(try dsimp only at hx);go_simp;try with_reducible rfl)
 try simp only [Act.put,zI,zO,zS]
 refine hd_one 11 _ rfl (by kernel_rfl) (by decide) (fun K11 hK11=>?_)
 go_simp
 refine HRQ.out.mono ?_
 rintro e wc1 ⟨⟨v,rfl,hrv,hob⟩,pc,bc⟩
 try dsimp only
 obtain⟨pa1,pn1,rfl,_,_⟩:=hrv.slice
 have HKD:=Lib.hid (Blk.but (HKC.out.below BD) bc (by have:=HGL.out;omega))
 have HPC:=Lib.hid pc
 have HBC:Hid (Below w.heap.size w wc1):=Lib.hid (by
  have e1:=HB2.out.trans (BD.mono HB2.out.size)
  exact e1.trans (bc.below (by rw [HG.out];exact Nat.le_refl _) e1.size))
 have HRV:=Lib.hid hrv
 have HVB:Hid (∀ b,(Value.slice pa1 1 pn1).ownBlock=some b→b≠cB∧w2.heap.size≤b∧b<wc1.heap.size):=Lib.hid (fun b hb=>by
  have e1:=hob b hb
  have e2:=HKC.out.lt
  have e3:=BD.size
  have e4:=rd_block hrv (by simp) b hb
  exact⟨by omega,by omega,e4⟩)
 refine hK11.out _ _ (HKD.out.cell 0) ?_
 clear hK11 K11 pc bc hS HRQ hrv hob
 try simp only [Act.put,zI,zO,zS]
 refine hd_one 12 _ rfl (by kernel_rfl) (by decide) (fun K12 hK12=>?_)
 go_simp
 refine hK12.out _ _ ((HKD.out.below (below_al wc1 (.cells #[.int .i64 op1,.int .i64 0,.bool false,.slice pa1 1 pn1] 52))).cell 0) ?_
 clear hK12 K12
 try simp only [Act.put,zI,zO,zS]
 refine hd_one 13 _ rfl (by kernel_rfl) (by decide) (fun K13 hK13=>?_)
 refine step_append_ag (w0:=wc1) (x:=(⟨op1,0,false,pa1,1,pn1⟩:RawR)) (N:=wc1.heap.size) rfl rfl _ _ 48 rfl (wc1.heap.size) iR _ 48 Tryz.underlying48 hiR hzR hkR hbR (by omega) rfl (by omega) encR_len encR_one _ [] rfl rfl (own1_nil _ _ _) rfl (by simp) (Nat.le_refl _) ?_
 intro v9 wd1 y9
 obtain⟨p81,q81,e8⟩:=y9.1.slice
 have e8:v9= .slice p81 1 q81:=e8
 subst e8
 have HWDS:wc1.heap.size≤wd1.heap.size:=y9.2.1.size
 have HKE:=Lib.hid (HKD.out.below y9.2.1)
 have HPE:=Lib.hid (PrB.below HPC.out y9.2.1)
 have HBE:=Lib.hid (HBC.out.trans (y9.2.1.mono HBC.out.size))
 have HRE:=Lib.hid (HRV.out.below y9.2.1)
 have HO9:=Lib.hid y9.1
 refine hK13.out _ _ (HKE.out.cell 0) ?_
 clear hK13 K13 y9 BD
 try simp only [Act.put,zI,zO,zS]
 refine hd_done (by kernel_rfl) ?_
 simp only [List.drop_succ_cons,List.drop_zero]
 have r0:wd1.cell? ⟨cB,0,none⟩=some (.slice none 0 0):=HKE.out.cell 0
 have r1:wd1.frozen? ⟨cB,0,none⟩=false:=HKE.out.frozen 0
 obtain⟨we,hwe⟩:∃ x,wd1.setCell ⟨cB,0,none⟩ (.slice p81 1 q81)=x:=⟨_,rfl⟩
 have HWE:=Lib.hid hwe
 obtain⟨NB,hNB⟩:∃ n,wc1.heap.size=n:=⟨_,rfl⟩
 have HNB:Hid (cB<NB):=Lib.hid (by rw [←hNB];exact HKD.out.lt)
 have HNW:Hid (NB≤we.heap.size):=Lib.hid (by rw [←hwe,←hNB];show _≤(wd1.setCell _ _).heap.size;rw [size_set];exact HWDS)
 have HKF:Hid (Blk cB 48 #[.slice p81 1 q81] we):=Lib.hid (by rw [←hwe];exact HKE.out.put 0 _)
 have HPF:Hid (PrB we g s T5 tq5 wat5):=Lib.hid (by rw [←hwe];exact Blk.far HPE.out (p:=⟨cB,0,none⟩) (by show g≠cB;have:=HGL.out;omega) _)
 have HS0:Hid (Rd 2 encP we (.slice pa1 1 pn1) [((n1:Int),(n1:Int))]):=Lib.hid (by rw [←hwe];exact HRE.out.but (But.setCell cB wd1 0 _) (fun b hb=>(HVB.out b hb).1))
 have HV1:Hid (∀ b,(Value.slice pa1 1 pn1).ownBlock=some b→b<NB∧cB<b):=Lib.hid (fun b hb=>by
  have e1:=HVB.out b hb
  have e2:=HKC.out.lt
  omega)
 have HO0:Hid (Own1 4 encR we NB 52 (.slice p81 1 q81) [(⟨op1,0,false,pa1,1,pn1⟩:RawR)]):=Lib.hid (by
  have e1:=HO9.out
  rw [hNB] at e1
  rw [←hwe]
  exact own_but e1 (But.setCell cB wd1 0 _) HNB.out)
 have HBF:Hid (Below w.heap.size w we):=Lib.hid (by
  rw [←hwe]
  exact HBE.out.setCell (p:=⟨cB,0,none⟩) HCW.out _)
 have HIS1:=Lib.hid (is_any g s T5 ⟨#[]⟩ tq5 wat5 false H5A.out we HPF.out)
 have HIS2:=Lib.hid (is_any g s T5 ⟨#[111,114]⟩ tq5 wat5 false H5B.out we HPF.out)
 have HIS3:=Lib.hid (is_any g s T5 ⟨#[97,110,100]⟩ tq5 wat5 true H5C.out we HPF.out)
 have HST6:=Lib.hid (step_any g s T5 tq5 wat5 T6 wat6 tq6 HN5.out we HPF.out)
 clear hwe hNB HRE HO9 HVB HKC HP2 HB2 HKD HPC HBC HRV HWDS
 go_upto_region 10 with fail
 rw [HWE.out]
 clear r0 r1
 go_wp2_with fail
 refine HIS1.out.mono ?_
 rintro e wz ⟨rfl,hwz⟩
 obtain rfl:=hwz.symm
 clear hwz
 go_wp2_with fail
 refine HIS2.out.mono ?_
 rintro e wz ⟨rfl,hwz⟩
 obtain rfl:=hwz.symm
 clear hwz
 go_wp2_with fail
 refine HIS3.out.mono ?_
 rintro e wz ⟨rfl,hwz⟩
 obtain rfl:=hwz.symm
 clear hwz
 go_wp2_with fail
 refine HST6.out.mono ?_
 rintro e w3 ⟨rfl,p3,b3⟩
 have HKC:=Lib.hid (Blk.but HKF.out b3 (by have:=HGL.out;omega))
 have HP2:=Lib.hid p3
 have HB2:Hid (Below w.heap.size w w3):=Lib.hid (HBF.out.trans (b3.below (by rw [HG.out];exact Nat.le_refl _) HBF.out.size))
 have HO1:=Lib.hid (own_but HO0.out b3 (by have:=HNB.out;have:=HGL.out;omega))
 have HS1:=Lib.hid (HS0.out.but b3 (fun b hb=>by have:=(HV1.out b hb).2;have:=HGL.out;omega))
 have HWC:Hid (NB≤w3.heap.size):=Lib.hid (Nat.le_trans HNW.out b3.size)
 clear p3 b3 HIS1 HIS2 HIS3 HST6 HKF HPF HS0 HO0 HBF HWE HKE HPE HBE
 go_wp2_with fail
 rw [rounds_succ]
 have c5:w3.cell? ⟨g,5,none⟩=some (.int .i64 0):=Blk.cell HP2.out 5
 go_upto_region 9 with fail
 clear c5
 have BD:=(Below.refl w3.heap.size w3).drew
 have hS:(fun wx:World=>wx.cell? ⟨cB,0,none⟩=some (.slice p81 1 q81)) w3.drew:=(HKC.out.below BD).cell 0
 have HRQ:=Lib.hid (HRR2.out g w3.drew (PrB.below HP2.out BD))
 have hwr:IntKind.i64.wrap 0=0:=by decide
 refine region_hd 14 (fun wx:World=>wx.cell? ⟨cB,0,none⟩=some (.slice p81 1 q81)) (by kernel_rfl) (by kernel_rfl) ?_
 refine hd_taken 0 (some 29) _ ?hdva0 rfl rfl (by kernel_rfl) (fun _ _ _ h=>h) (Or.inl ⟨by kernel_rfl,?hdya0⟩) hS ?hdra0
 case hdya0=>(intro wx hx;(try dsimp only at hx);go_simp;try with_reducible rfl)
 try simp only [Act.put,zI,zO,zS]
 refine hd_taken 1 (some 30) _ ?hdva1 rfl rfl (by kernel_rfl) (fun _ _ _ h=>h) (Or.inl ⟨by kernel_rfl,?hdya1⟩) hS ?hdra1
 case hdya1=>(intro wx hx;(try dsimp only at hx);go_simp;try with_reducible rfl)
 try simp only [Act.put,zI,zO,zS]
 refine hd_taken 2 (some 31) _ ?hdva2 rfl rfl (by kernel_rfl) (fun _ _ _ h=>h) (Or.inl ⟨by kernel_rfl,?hdya2⟩) hS ?hdra2
 case hdya2=>(intro wx hx;(try dsimp only at hx);go_simp;try with_reducible rfl)
 try simp only [Act.put,zI,zO,zS]
 refine hd_taken 3 (some 32) _ ?hdva3 rfl rfl (by kernel_rfl) (fun _ _ _ h=>h) (Or.inl ⟨by kernel_rfl,?hdya3⟩) hS ?hdra3
 case hdya3=>(intro wx hx;(try dsimp only at hx);go_simp;try with_reducible rfl)
 try simp only [Act.put,zI,zO,zS]
 refine hd_taken 4 (some 33) _ ?hdva4 rfl rfl (by kernel_rfl) (fun _ _ _ h=>h) (Or.inl ⟨by kernel_rfl,?hdya4⟩) hS ?hdra4
 case hdya4=>(intro wx hx;(try dsimp only at hx);go_simp;try with_reducible rfl)
 try simp only [Act.put,zI,zO,zS]
 refine hd_taken 5 (some 34) _ ?hdva5 rfl rfl (by kernel_rfl) (fun _ _ _ h=>h) (Or.inl ⟨by kernel_rfl,?hdya5⟩) hS ?hdra5
 case hdya5=>(intro wx hx;(try dsimp only at hx);go_simp;try with_reducible rfl)
 try simp only [Act.put,zI,zO,zS]
 refine hd_taken 6 (some 35) _ ?hdva6 rfl rfl (by kernel_rfl) (fun _ _ _ h=>h) (Or.inl ⟨by kernel_rfl,?hdya6⟩) hS ?hdra6
 case hdya6=>(intro wx hx;(try dsimp only at hx);go_simp;try with_reducible rfl)
 try simp only [Act.put,zI,zO,zS]
 refine hd_taken 7 (some 36) _ ?hdva7 rfl rfl (by kernel_rfl) (fun _ _ _ h=>h) (Or.inl ⟨by kernel_rfl,?hdya7⟩) hS ?hdra7
 case hdya7=>(intro wx hx;(try dsimp only at hx);go_simp;try with_reducible rfl)
 try simp only [Act.put,zI,zO,zS]
 refine hd_taken 8 (some 37) _ ?hdva8 rfl rfl (by kernel_rfl) (fun _ _ _ h=>h) (Or.inl ⟨by kernel_rfl,?hdya8⟩) hS ?hdra8
 case hdya8=>(intro wx hx;(try dsimp only at hx);go_simp;try with_reducible rfl)
 try simp only [Act.put,zI,zO,zS]
 refine hd_taken 9 (some 38) _ ?hdva9 rfl rfl (by kernel_rfl) (fun _ _ _ h=>h) (Or.inl ⟨by kernel_rfl,?hdya9⟩) hS ?hdra9
 case hdya9=>(intro wx hx;(try dsimp only at hx);go_simp;try with_reducible rfl)
 try simp only [Act.put,zI,zO,zS]
 refine hd_taken 10 (some 39) _ ?hdva10 rfl rfl (by kernel_rfl) (fun _ _ _ h=>h) (Or.inl ⟨by kernel_rfl,?hdya10⟩) hS ?hdra10
 case hdya10=>(intro wx hx;(try dsimp only at hx);go_simp;try with_reducible rfl)
 try simp only [Act.put,zI,zO,zS]
 refine hd_one 11 _ rfl (by kernel_rfl) (by decide) (fun K11 hK11=>?_)
 go_simp
 refine HRQ.out.mono ?_
 rintro e wc2 ⟨⟨v,rfl,hrv,hob⟩,pc,bc⟩
 try dsimp only
 obtain⟨pa2,pn2,rfl,_,_⟩:=hrv.slice
 have HKD:=Lib.hid (Blk.but (HKC.out.below BD) bc (by have:=HGL.out;omega))
 have HPC:=Lib.hid pc
 have HBC:Hid (Below w.heap.size w wc2):=Lib.hid (by
  have e1:=HB2.out.trans (BD.mono HB2.out.size)
  exact e1.trans (bc.below (by rw [HG.out];exact Nat.le_refl _) e1.size))
 have HRV:=Lib.hid hrv
 have HVB:Hid (∀ b,(Value.slice pa2 1 pn2).ownBlock=some b→b≠cB∧w3.heap.size≤b∧b<wc2.heap.size):=Lib.hid (fun b hb=>by
  have e1:=hob b hb
  have e2:=HKC.out.lt
  have e3:=BD.size
  have e4:=rd_block hrv (by simp) b hb
  exact⟨by omega,by omega,e4⟩)
 have HO2:Hid (Own1 4 encR wc2 NB 52 (.slice p81 1 q81) [(⟨op1,0,false,pa1,1,pn1⟩:RawR)]):=Lib.hid (own_but (HO1.out.below BD) bc (by have:=HNB.out;have:=HGL.out;omega))
 have HS2:Hid (Rd 2 encP wc2 (.slice pa1 1 pn1) [((n1:Int),(n1:Int))]):=Lib.hid ((HS1.out.below BD).but bc (fun b hb=>by have:=(HV1.out b hb).2;have:=HGL.out;have:=HNB.out;omega))
 have HWQ:Hid (w3.heap.size≤wc2.heap.size):=Lib.hid (Nat.le_trans BD.size bc.size)
 have HRW:Hid (∀ b,(Value.slice p81 1 q81).ownBlock=some b→b<w3.heap.size∧NB≤b):=Lib.hid (fun b hb=>⟨(HO1.out.lt_ b hb).2,(HO1.out.lt_ b hb).1⟩)
 refine hK11.out _ _ (HKD.out.cell 0) ?_
 clear hK11 K11 pc bc hS HRQ hrv hob
 try simp only [Act.put,zI,zO,zS]
 refine hd_one 12 _ rfl (by kernel_rfl) (by decide) (fun K12 hK12=>?_)
 go_simp
 refine hK12.out _ _ ((HKD.out.below (below_al wc2 (.cells #[.int .i64 op2,.int .i64 0,.bool false,.slice pa2 1 pn2] 52))).cell 0) ?_
 clear hK12 K12
 try simp only [Act.put,zI,zO,zS]
 refine hd_one 13 _ rfl (by kernel_rfl) (by decide) (fun K13 hK13=>?_)
 refine step_append_ag (w0:=wc2) (x:=(⟨op2,0,false,pa2,1,pn2⟩:RawR)) (N:=wc2.heap.size) rfl rfl _ _ 48 rfl (NB) iR _ 48 Tryz.underlying48 hiR hzR hkR hbR (by omega) rfl (by omega) encR_len encR_one _ [(⟨op1,0,false,pa1,1,pn1⟩:RawR)] rfl rfl (HO2.out) rfl (by simp) (by have:=HWQ.out;have:=HWC.out;omega) ?_
 intro v9 wd2 y9
 obtain⟨p82,q82,e8⟩:=y9.1.slice
 have e8:v9= .slice p82 2 q82:=e8
 subst e8
 have HKE:=Lib.hid (Blk.belowAt HKD.out y9.2.1 HNB.out)
 have HPE:=Lib.hid (Blk.belowAt HPC.out y9.2.1 (by have:=HNB.out;have:=HGL.out;omega))
 have HBE:=Lib.hid (HBC.out.trans (y9.2.1.mono (by have:=HCW.out;have:=HNB.out;omega)))
 have HRE:=Lib.hid (rd_grown HRV.out y9.2.2 (fun b hb e=>by have:=(HVB.out b hb).2.1;have:=(HRW.out b e).1;omega))
 have HR1:=Lib.hid (HS2.out.belowAt y9.2.1 (fun b hb=>(HV1.out b hb).1))
 have HRD9:=Lib.hid (y9.1.rd encR_len)
 have HOB:Hid (∀ b,(Value.slice p82 2 q82).ownBlock=some b→b≠cB):=Lib.hid (fun b hb=>by
  have e1:=(y9.1.lt_ b hb).1
  have e2:=HNB.out
  omega)
 refine hK13.out _ _ (HKE.out.cell 0) ?_
 clear hK13 K13 y9 BD
 try simp only [Act.put,zI,zO,zS]
 refine hd_done (by kernel_rfl) ?_
 simp only [List.drop_succ_cons,List.drop_zero]
 have r0:wd2.cell? ⟨cB,0,none⟩=some (.slice p81 1 q81):=HKE.out.cell 0
 have r1:wd2.frozen? ⟨cB,0,none⟩=false:=HKE.out.frozen 0
 obtain⟨we,hwe⟩:∃ x,wd2.setCell ⟨cB,0,none⟩ (.slice p82 2 q82)=x:=⟨_,rfl⟩
 have HWE:=Lib.hid hwe
 have HKF:Hid (Blk cB 48 #[.slice p82 2 q82] we):=Lib.hid (by rw [←hwe];exact HKE.out.put 0 _)
 have HPF:Hid (PrB we g s ⟨#[]⟩ tq9 s.size):=Lib.hid (by rw [←hwe];exact Blk.far HPE.out (p:=⟨cB,0,none⟩) (by show g≠cB;have:=HGL.out;omega) _)
 have HRF:Hid (Rd 2 encP we (.slice pa2 1 pn2) [((n2:Int),(n2:Int))]):=Lib.hid (by rw [←hwe];exact HRE.out.but (But.setCell cB wd2 0 _) (fun b hb=>(HVB.out b hb).1))
 have HRF1:Hid (Rd 2 encP we (.slice pa1 1 pn1) [((n1:Int),(n1:Int))]):=Lib.hid (by rw [←hwe];exact HR1.out.but (But.setCell cB wd2 0 _) (fun b hb=>by have:=(HV1.out b hb).2;omega))
 have HRG:Hid (Rd 4 encR we (.slice p82 2 q82) [(⟨op1,0,false,pa1,1,pn1⟩:RawR),⟨op2,0,false,pa2,1,pn2⟩]):=Lib.hid (by rw [←hwe];exact HRD9.out.but (But.setCell cB wd2 0 _) (fun b hb=>HOB.out b hb))
 have HBF:Hid (Below w.heap.size w we):=Lib.hid (by
  rw [←hwe]
  exact HBE.out.setCell (p:=⟨cB,0,none⟩) HCW.out _)
 have HIS:=Lib.hid (is_any g s ⟨#[]⟩ ⟨#[]⟩ tq9 s.size true (beq_self_eq_true _) we HPF.out)
 have HRC:Hid (RdC we (.slice (some ⟨cB,0,none⟩) 1 1) [[⟨op1,0,false,[((n1:Int),(n1:Int))]⟩,⟨op2,0,false,[((n2:Int),(n2:Int))]⟩]]):=Lib.hid (by
  refine⟨[⟨p82,2,q82⟩],⟨⟨_,1,rfl,Nat.le_refl _,by omega,fun _=>⟨cB,0,rfl,HKF.out.lt,fun i u hi j v hv=>?_⟩⟩,fun n c hc=>by cases hc⟩,rfl,fun i h1 h2=>?_⟩
  ·have hi0:i=0:=by have:=(List.getElem?_eq_some_iff.1 hi).1;simp at this;exact this
   subst hi0
   have hu:u=⟨p82,2,q82⟩:=by simp at hi;exact hi.symm
   subst hu
   have hj:j=0:=by have:=(List.getElem?_eq_some_iff.1 hv).1;simp [encS] at this;exact this
   subst hj
   simp [encS] at hv
   subst hv
   exact HKF.out.cell 0
  ·have hi0:i=0:=by simp at h1;exact h1
   subst hi0
   refine⟨[⟨op1,0,false,pa1,1,pn1⟩,⟨op2,0,false,pa2,1,pn2⟩],HRG.out,rfl,fun k a b=>?_⟩
   have hk2:k=0∨k=1:=by simp at a;omega
   rcases hk2 with rfl|rfl
   ·exact⟨rfl,rfl,rfl,HRF1.out⟩
   ·exact⟨rfl,rfl,rfl,HRF.out⟩)
 clear hwe
 go_upto_region 10 with fail
 rw [HWE.out]
 clear r0 r1
 have q3:we.cell? ⟨g,3,none⟩=some (.int .i64 (s.size:Int)):=Blk.cell HPF.out 3
 go_wp2_with fail
 refine HIS.out.mono ?_
 rintro e wz ⟨rfl,hwz⟩
 obtain rfl:=hwz.symm
 go_wp2
 go_ret3
 exact⟨_,rfl,HRC.out,HBF.out⟩
theorem one_hld {x:Num} (g:Good x) (m j:Nat) (hm:0<m):hldC (txt x) [[⟨1,(m:Int),false,[((j:Int),(j:Int))]⟩]]=(zero x.fr&&decide (val x.wh % m=j)):=by
 unfold hldC
 rw [List.any_cons,List.any_nil,Bool.or_false]
 unfold hldL
 rw [List.all_cons,List.all_nil,Bool.and_true]
 unfold hldR
 rw [opR_some (spl_of g)]
 unfold opnd
 rw [if_pos rfl]
 cases hz:zero x.fr with
 |true=>
  rw [if_pos rfl]
  unfold hldO
  dsimp only
  rw [if_pos rfl,rem_nat _ _ hm,Bool.true_and]
  unfold inside
  rw [List.any_cons,List.any_nil,Bool.or_false,Bool.bne_false]
  generalize val x.wh % m=q
  by_cases h:q=j
  ·subst h;simp
  ·rw [decide_eq_false h]
   rw [Bool.eq_false_iff]
   intro hc
   simp at hc
   omega
 |false=>
  rw [if_neg (by decide)]
  unfold hldO
  rw [if_neg (by decide),Bool.false_and]
def cA1:Cnd:=[[⟨1,10,false,[(1,1)]⟩]]
def cA2:Cnd:=[[⟨1,100,false,[(11,11)]⟩]]
def cA3:Cnd:=[[⟨2,0,false,[(1,1)]⟩,⟨3,0,false,[(0,0)]⟩]]
theorem cA1_ok:okC cA1=true:=by decide+kernel
theorem cA2_ok:okC cA2=true:=by decide+kernel
theorem cA3_ok:okC cA3=true:=by decide+kernel
theorem wgt_A:wgt cA3=6:=by decide+kernel
theorem pS_A {x:Num} (g:Good x):pS [cA1,cA2] 2 (txt x)=(zero x.fr&&decide (val x.wh % 100=11)):=by
 have h1:hldC (txt x) cA1=_:=one_hld g 10 1 (by decide)
 have h2:hldC (txt x) cA2=_:=one_hld g 100 11 (by decide)
 unfold pS cntH
 rw [List.filter_cons,List.filter_cons,List.filter_nil,h1,h2]
 cases hz:zero x.fr with
 |false=>rfl
 |true=>
  rw [Bool.true_and,Bool.true_and]
  by_cases h:val x.wh % 100=11
  ·have h':val x.wh % 10=1:=by omega
   rw [decide_eq_true h,decide_eq_true h']
   rfl
  ·rw [decide_eq_false h]
   cases decide (val x.wh % 10=1)<;>rfl
theorem first_A:FirstN (pS [cA1,cA2] 2) [49,49]:=by
 have hU:isU [49,49]:=isU_iff.2 ⟨by decide+kernel,by decide⟩
 refine⟨hU,?_,?_⟩
 ·obtain⟨x,g,hn,ht⟩:=hU
  have e:x=⟨false,[49,49],[]⟩:=by
   have h1:=spl_of g
   rw [ht] at h1
   have h2:spl [49,49]=some ⟨false,[49,49],[]⟩:=by rfl
   rw [h2] at h1
   injection h1 with h1
   exact h1.symm
  rw [←ht,pS_A g,e]
  decide+kernel
 ·rintro t ⟨x,g,hn,rfl⟩ hp hb
  rw [pS_A g,Bool.and_eq_true,decide_eq_true_eq] at hp
  have h1:=val_lt g.dw
  have h2:2≤x.wh.length:=by
   rcases Nat.lt_or_ge x.wh.length 2 with k|k
   ·have e:x.wh.length=1:=by have:=g.low;omega
    rw [e] at h1
    omega
   ·exact k
  rw [txt_tx0 hn] at hb
  unfold befS bef at hb
  rw [wd0_len,wd0_len,tx0_len] at hb
  simp only [List.length_cons,List.length_nil] at hb
  rcases hb with k|⟨k,k2⟩
  ·split at k<;>omega
  ·have e0:x.fr.length=0:=by split at k<;>omega
   have e1:x.fr= []:=List.length_eq_zero_iff.1 e0
   rw [e1] at k2
   have e2:tx0 x.wh []=x.wh:=by unfold tx0;rw [if_pos rfl,List.append_nil]
   rw [e2] at k2
   have e3:x.wh.length=2:=by rw [e1] at k;simpa using k
   have:=(lex_val g.dw (b:=[49,49]) (by intro c hc;revert hc;revert c;decide) e3).1 k2
   have e4:val [49,49]=11:=by decide+kernel
   omega
theorem dis_A:disP [cA1,cA2] 0 1=some [49,49]:=by
 have h:firstR [cA1,cA2] 2=some [49,49]:=firstR_eq (fun c hc=>by
  rcases List.mem_cons.1 hc with rfl|hc
  ·exact cA1_ok
  ·rw [List.mem_singleton.1 hc];exact cA2_ok) first_A
 exact h
theorem DisA_A {r:Nat × Nat × Str × Nat} (h:DisA [cA1,cA2] r):r=(0,1,[49,49],19):=by
 refine h.uniq (.inl ⟨0,1,[49,49],by omega,by decide,dis_A,?_,rfl⟩)
 intro i j h1 h2 h3
 exfalso
 simp only [List.length_cons,List.length_nil] at h2
 omega
theorem toL' (s:ByteArray):s.toList=s.data.toList:=ByteArray.toList_eq ..
def tX3:ByteArray:=⟨#[105,32,61,32,49,32,97,110,100,32,118,32,61,32,48]⟩
theorem tX3_0 (w:World):Calls Tryz.prog 91 #[.string tX3,.int .i64 ((0:Nat):Int)] w fun e w'=>e= .returned (.tuple #[.agg #[.string (ofL [letS.getD 1 0]),.int .i64 ((0:Nat):Int)],.int .i64 ((1:Nat):Int)])∧Below w.heap.size w w':=
 next_word tX3 0 0 (by decide) ⟨by decide,by decide,fun k h h1 h2=>(by omega),fun h=>by decide+revert⟩ (by decide) (tX3.extract 0 tX3.size) (ofL [letS.getD 1 0]) 1 rfl (by decide) (by decide) (by decide) (by decide) w
theorem tX3_1 (w:World):Calls Tryz.prog 91 #[.string tX3,.int .i64 ((1:Nat):Int)] w fun e w'=>e= .returned (.tuple #[.agg #[.string (ofL [61]),.int .i64 ((2:Nat):Int)],.int .i64 ((3:Nat):Int)])∧Below w.heap.size w w':=
 next_sym tX3 1 2 (by decide) ⟨by decide,by decide,fun k h h1 h2=>(by(have e:k=1:=by omega);subst e;decide+revert),fun h=>by decide+revert⟩ (by decide) (tX3.extract 2 tX3.size) (ofL [61]) (ofL [61,32]) 61 rfl (by decide) (by decide) (by decide) (by rw [toL];decide) (by rw [toL];decide) (fun h=>by decide+revert) (Or.inr rfl) (by decide) w
theorem tX3_2 (w:World):Calls Tryz.prog 91 #[.string tX3,.int .i64 ((3:Nat):Int)] w fun e w'=>e= .returned (.tuple #[.agg #[.string (ofL [49]),.int .i64 ((4:Nat):Int)],.int .i64 ((5:Nat):Int)])∧Below w.heap.size w w':=
 next_num tX3 3 4 (by decide) ⟨by decide,by decide,fun k h h1 h2=>(by(have e:k=3:=by omega);subst e;decide+revert),fun h=>by decide+revert⟩ (by decide) (tX3.extract 4 tX3.size) (ofL [49]) 1 rfl (by decide) (by decide) (by decide) (by decide) (by decide) w
theorem tX3_3 (w:World):Calls Tryz.prog 91 #[.string tX3,.int .i64 ((5:Nat):Int)] w fun e w'=>e= .returned (.tuple #[.agg #[.string (ofL [97,110,100]),.int .i64 ((6:Nat):Int)],.int .i64 ((9:Nat):Int)])∧Below w.heap.size w w':=
 next_word tX3 5 6 (by decide) ⟨by decide,by decide,fun k h h1 h2=>(by(have e:k=5:=by omega);subst e;decide+revert),fun h=>by decide+revert⟩ (by decide) (tX3.extract 6 tX3.size) (ofL [97,110,100]) 3 rfl (by decide) (by decide) (by decide) (by decide) w
theorem tX3_4 (w:World):Calls Tryz.prog 91 #[.string tX3,.int .i64 ((9:Nat):Int)] w fun e w'=>e= .returned (.tuple #[.agg #[.string (ofL [letS.getD 2 0]),.int .i64 ((10:Nat):Int)],.int .i64 ((11:Nat):Int)])∧Below w.heap.size w w':=
 next_word tX3 9 10 (by decide) ⟨by decide,by decide,fun k h h1 h2=>(by(have e:k=9:=by omega);subst e;decide+revert),fun h=>by decide+revert⟩ (by decide) (tX3.extract 10 tX3.size) (ofL [letS.getD 2 0]) 1 rfl (by decide) (by decide) (by decide) (by decide) w
theorem tX3_5 (w:World):Calls Tryz.prog 91 #[.string tX3,.int .i64 ((11:Nat):Int)] w fun e w'=>e= .returned (.tuple #[.agg #[.string (ofL [61]),.int .i64 ((12:Nat):Int)],.int .i64 ((13:Nat):Int)])∧Below w.heap.size w w':=
 next_sym tX3 11 12 (by decide) ⟨by decide,by decide,fun k h h1 h2=>(by(have e:k=11:=by omega);subst e;decide+revert),fun h=>by decide+revert⟩ (by decide) (tX3.extract 12 tX3.size) (ofL [61]) (ofL [61,32]) 61 rfl (by decide) (by decide) (by decide) (by rw [toL];decide) (by rw [toL];decide) (fun h=>by decide+revert) (Or.inr rfl) (by decide) w
theorem tX3_6 (w:World):Calls Tryz.prog 91 #[.string tX3,.int .i64 ((13:Nat):Int)] w fun e w'=>e= .returned (.tuple #[.agg #[.string (ofL [48]),.int .i64 ((14:Nat):Int)],.int .i64 ((15:Nat):Int)])∧Below w.heap.size w w':=
 next_num tX3 13 14 (by decide) ⟨by decide,by decide,fun k h h1 h2=>(by(have e:k=13:=by omega);subst e;decide+revert),fun h=>by decide+revert⟩ (by decide) (tX3.extract 14 tX3.size) (ofL [48]) 1 rfl (by decide) (by decide) (by decide) (by decide) (by decide) w
theorem tX3_7 (w:World):Calls Tryz.prog 91 #[.string tX3,.int .i64 ((15:Nat):Int)] w fun e w'=>e= .returned (.tuple #[.agg #[.string (⟨#[]⟩),.int .i64 ((15:Nat):Int)],.int .i64 ((15:Nat):Int)])∧Below w.heap.size w w':=
 next_end tX3 15 15 (by decide) ⟨by decide,by decide,fun k h h1 h2=>(by omega),fun h=>by decide+revert⟩ rfl w
theorem tX3_c (w:World):Calls Tryz.prog 13 #[.string tX3] w fun e w'=>∃ v,e= .returned v∧RdC w' v cA3∧Below w.heap.size w w':=
 condP_any tX3 cA3 (fun w=>parse2_any tX3 (ofL [letS.getD 1 0]) (by decide) 0 1 2 1 (ofL [97,110,100]) 9 6 (ofL [letS.getD 2 0]) 11 10 3 0 15 tX3_0
  (fun g w h=>rel0_any g tX3 1 0 1 (by omega) (ofL [61]) 3 2 (by simp only [toL];decide) tX3_1 (ofL [49]) (ofL [97,110,100]) 5 4 9 6 1
   (by simp only [toL];decide) (by simp only [toL];decide) (by rw [ofL_list];show ∀ c∈_,isD c=true;decide) (by decide) (by decide) (fun h=> .inr rfl) (by rw [ofL_list];simp [val_cons,val_nil,dg]) (by decide) (by rw [toL',toL'];decide) (by rw [toL',toL'];decide) tX3_2 tX3_3 w h)
  (by rw [toL',toL'];decide) (by rw [toL',toL'];decide) (by rw [toL',toL'];decide) tX3_4
  (fun g w h=>rel0_any g tX3 11 10 2 (by omega) (ofL [61]) 13 12 (by simp only [toL];decide) tX3_5 (ofL [48]) (⟨#[]⟩) 15 14 15 15 0
   (by simp only [toL];decide) (by simp only [toL];decide) (by rw [ofL_list];show ∀ c∈_,isD c=true;decide) (by decide) (by decide) (fun h=> .inr rfl) (by rw [ofL_list];simp [val_cons,val_nil,dg]) (by decide) (by rw [toL',toL'];decide) (by rw [toL',toL'];decide) tX3_6 tX3_7 w h) w) w
theorem rdRules_two {w:World} {u v:Value} {c d:Cnd} (x y:Str) (h:RdC w u c) (k:RdC w v d) (t:TypeId):RdRules (w.alloc (.cells #[.string (ofL x),u,.string (ofL y),v] t)) (.slice (some ⟨w.heap.size,0,none⟩) 2 2) [(x,c),(y,d)]:=by
 obtain⟨p,rfl,hp⟩:=h.raw
 obtain⟨q,rfl,hq⟩:=k.raw
 have kb:=Blk.new w t #[.string (ofL x),.slice p.a p.n p.c,.string (ofL y),.slice q.a q.n q.c]
 have B:=below_al w (.cells #[.string (ofL x),.slice p.a p.n p.c,.string (ofL y),.slice q.a q.n q.c] t)
 refine⟨[(x,p),(y,q)],⟨⟨_,2,rfl,Nat.le_refl _,by omega,fun _=>⟨w.heap.size,0,rfl,kb.lt,fun i u hi j v hv=>?_⟩⟩,fun n c hc=>by cases hc⟩,rfl,fun i h1 h2=>?_⟩
 ·rw [kb.cell]
  have hi2:i=0∨i=1:=by have:=(List.getElem?_eq_some_iff.1 hi).1;simp at this;omega
  have hj2:j=0∨j=1:=by have:=(List.getElem?_eq_some_iff.1 hv).1;simp [encRu] at this;omega
  rcases hi2 with rfl|rfl<;>rcases hj2 with rfl|rfl<;>(simp at hi;subst hi;simpa [encRu] using hv)
 ·have hi2:i=0∨i=1:=by simp at h1;omega
  rcases hi2 with rfl|rfl
  ·exact hp.below B
  ·exact hq.below B
set_option maxRecDepth 1000000 in
set_option maxHeartbeats 8000000 in
theorem awake_d (w:World) (hm:MaxL w):
  Calls Tryz.prog 4 #[] w fun e w'=>e= .returned (.bool true)∧Below w.heap.size w w':=by
 have HM:=Lib.hid hm
 clear hm
 go_enter Tryz.func4,Tryz.ntmps4
 go_wp2_with fail
 refine(tX1_c _).mono ?_
 rintro e w1 ⟨v1,rfl,h1,b1⟩
 obtain⟨p1,q1,rfl,_⟩:=h1.slice
 have H1:=Lib.hid h1
 have B1:=Lib.hid b1
 clear h1 b1
 go_wp2_with fail
 refine(tX2_c _).mono ?_
 rintro e w2 ⟨v2,rfl,h2,b2⟩
 obtain⟨p2,q2,rfl,_⟩:=h2.slice
 have HR:=Lib.hid (rdRules_two [111,110,101] [116,119,111] (H1.out.below b2) h2 46)
 have B2:=Lib.hid (st B1.out b2 B1.out.size)
 have HMA:=Lib.hid ((HM.out.below B2.out).alloc (.cells #[.string (ofL [111,110,101]),.slice p1 1 q1,.string (ofL [116,119,111]),.slice p2 1 q2] 46))
 have B3:=Lib.hid (B2.out.alloc B2.out.size (.cells #[.string (ofL [111,110,101]),.slice p1 1 q1,.string (ofL [116,119,111]),.slice p2 1 q2] 46))
 clear h2 b2 H1 B1
 have HD:=Lib.hid (disjoint_any _ _ (by decide) (by
  intro c hc
  rcases List.mem_cons.1 hc with rfl|hc
  ·exact cA1_ok
  ·rw [List.mem_singleton.1 hc];exact cA2_ok) _ HR.out HMA.out)
 go_wp2_with fail
 refine HD.out.mono ?_
 rintro e w3 ⟨i,j,W,er,rfl,hA,b3⟩
 have hA:=DisA_A hA
 injection hA with e1 hA
 injection hA with e2 hA
 injection hA with e3 e4
 subst e1 e2 e3 e4
 have B4:=Lib.hid (st B3.out b3 B3.out.size)
 clear b3 HD HR HMA B2 B3
 go_wp2_with fail
 refine(tX3_c _).mono ?_
 rintro e w4 ⟨v4,rfl,h4,b4⟩
 have B5:=Lib.hid (st B4.out b4 B4.out.size)
 have HWG:=Lib.hid (weight_any cA3 cA3_ok (by decide) v4 w4 h4)
 rw [wgt_A] at HWG
 obtain⟨p4,q4,rfl,_⟩:=h4.slice
 clear h4 b4 B4
 go_wp2_with fail
 refine HWG.out.mono ?_
 rintro e w5 ⟨rfl,b5⟩
 have B6:=Lib.hid (st B5.out b5 B5.out.size)
 clear b5 HWG
 have t9:(ofL [49,49]).toList= [49,49]:=by rw [toL'];rfl
 have t8:((ofL [49,49]).toList== [49,49])=true:=by rw [toL'];rfl
 go_wp2
 go_ret
 exact⟨rfl,B6.out⟩
def FewL (cs:List Cnd) (w:World) (e:Ending) (w':World):Prop:=(∃ b,e= .returned (.bool b)∧(b=true→cs.length≤12∧∀ c∈cs,c.length≤30))∧w'=w
def FewLR (cs:List Cnd) (w:World) (v6:Value) (wr:World):Prop:=∃ k:Nat,k≤cs.length∧v6= .int .i64 k∧wr=w∧Hid (∀ c∈cs.take k,c.length≤30)
set_option maxRecDepth 1000000 in
set_option maxHeartbeats 4000000 in
theorem fewL_any (cs:List Cnd) (v:Value) (w:World) (hv:RdCs w v cs):
  Calls Tryz.prog 5 #[v] w (FewL cs w):=by
 obtain⟨a,cp,rfl,hc1,hc2⟩:=hv.slice
 have HU:=Lib.hid hv
 clear hv
 go_enter Tryz.func5,Tryz.ntmps5
 go_wp2
 go_loopw [6] (fun v6 wr=>FewLR cs w v6 wr) (fun v6 _=>cs.length - (intOf v6).toNat)
 case atStart=>exact⟨0,Nat.zero_le _,rfl,rfl,Lib.hid (fun c hc=>by simp at hc)⟩
 case round=>
  obtain⟨k,hk,rfl,hw,HA⟩:=hrel
  obtain rfl:=hw.symm
  by_cases hlt:k<cs.length
  ·obtain⟨b,off,x1,x2,rfl,h0,h4⟩:=HU.out.at_ k hlt
   have h9:(k:Int)<(cs.length:Int):=by omega
   have HT:Hid (cs[k].length≤30→∀ c∈cs.take (k+1),c.length≤30):=Lib.hid (fun hx c hc=>by
    rw [List.take_succ_eq_append_getElem hlt,List.mem_append,List.mem_singleton] at hc
    rcases hc with hc|rfl
    ·exact HA.out c hc
    ·exact hx)
   obtain⟨m,hm⟩:∃ m,cs[k]=m:=⟨_,rfl⟩
   rw [hm] at h0 h4 HT
   clear hm
   have HF:=Lib.hid (few_any _ m w h4)
   clear h4
   go_wp2_with fail
   refine HF.out.mono ?_
   rintro e w2 ⟨⟨bf,rfl,hf⟩,hw2⟩
   obtain rfl:=hw2.symm
   have H3:=Lib.hid hf
   clear hf hw2 HF
   cases bf with
   |false=>
    go_wp2
    go_ret
    exact⟨⟨false,rfl,fun h=>by cases h⟩,rfl⟩
   |true=>
    have H5:Hid (∀ c∈cs.take (k+1),c.length≤30):=Lib.hid (HT.out (H3.out rfl))
    go_wp2
    go_roundw
    case measure=>simp [intOf];omega
    case rel=>exact⟨k+1,by omega,by go_num,rfl,H5⟩
  ·obtain rfl:k=cs.length:=by omega
   have h3:¬ (cs.length:Int)<(cs.length:Int):=by omega
   have HF:Hid (∀ c∈cs,c.length≤30):=Lib.hid (by have:=HA.out;rwa [List.take_length] at this)
   by_cases h30:cs.length≤12
   ·have t:(cs.length:Int)≤12:=by omega
    go_wp2
    go_ret
    exact⟨⟨true,rfl,fun _=>⟨h30,HF.out⟩⟩,rfl⟩
   ·have t:¬ (cs.length:Int)≤12:=by omega
    go_wp2
    go_ret
    exact⟨⟨false,rfl,fun h=>by cases h⟩,rfl⟩
theorem cnt_le (m:Nat):∀ c:Cnd,(∀ l∈c,l.length≤m)→cnt c≤c.length*m
 |[],_=>by simp [cnt_nil]
 |l::c,h=>by
  have h1:=h l (by simp)
  have h2:=cnt_le m c (fun x hx=>h x (by simp [hx]))
  rw [cnt_cons,List.length_cons,Nat.add_mul]
  omega
theorem cnt_few10 {c:Cnd} (h:c.length≤30) (hl:∀ l∈c,l.length≤140737488355328):cnt c≤4611686018427387904:=by
 have h1:=cnt_le _ c hl
 have h2:c.length*140737488355328≤30*140737488355328:=Nat.mul_le_mul h (Nat.le_refl _)
 omega
structure DecD (n:Nat) (D:Str):Prop where
 dig:allD D
 low:1≤D.length
 slim:slim D
 val:val D=n
theorem DecD.good {n:Nat} {D:Str} (h:DecD n D) (hl:D.length≤15):Good ⟨false,D,[]⟩:=⟨h.dig,allD_nil,h.low,hl,h.slim,by simp,fun e=>by cases e⟩
theorem txt_lenA {x:Num} (g:Good x):(txt x).length≤23:=by
 have h1:=g.high
 have h2:=g.few
 unfold txt
 rw [List.length_append,List.length_append]
 split<;>split<;>simp<;>omega
theorem zs_more (k:Nat) (s:Str):([48]:Str)++(zs k++s)=zs (k+1)++s:=by
 show 48::(zs k++s)=_
 unfold zs
 rw [List.replicate_succ,List.cons_append]
theorem hold_yes {c:Cnd} {s:Str} (h:okC c=true) (k:(spl s).isSome=true):holdR c s=(hldC s c,0):=by unfold holdR;rw [if_pos ⟨h,k⟩]
set_option maxRecDepth 1000000 in
set_option maxHeartbeats 32000000 in
theorem decideAccepts_walk (c:Cnd) (v:Value) (s:Str) (z:Nat) (hz:z≤255) (hs:s.length≤9223372036854775807) (w:World) (hv:RdC w v c) (hl:∀ l∈c,l.length≤140737488355328) (hm:MaxL w):
  Calls Tryz.prog 3 #[v,.string (ofL s),.int .u8 (z:Int)] w fun e w'=>e= .returned (.bool true)∧Below w.heap.size w w':=by
 have HM:=Lib.hid hm
 have HV:=Lib.hid hv
 have HL:=Lib.hid hl
 obtain⟨a,cp,hva,_⟩:=hv.slice
 subst hva
 have HRV:=Lib.hid (fun w=>refValid_any (ofL s) (by rw [ofL_size];exact hs) w)
 rw [show(ofL s).data.toList=s from rfl] at HRV
 obtain⟨S,hS⟩:∃ S,ofL s=S:=⟨_,rfl⟩
 rw [hS] at HRV ⊢
 have HS:=Lib.hid hS
 clear hm hv hl hS
 go_enter Tryz.func3,Tryz.ntmps3
 go_wp2_with fail
 refine(awake_d _ HM.out).mono ?_
 rintro e w1 ⟨rfl,b1⟩
 have B1:=Lib.hid b1
 have M1:=Lib.hid (HM.out.below b1)
 have V1:=Lib.hid (HV.out.below b1)
 have F1:=Lib.hid (fewL_any [c] _ _ (rdCs_one V1.out 23))
 have K1:=Lib.hid (below_al w1 (.cells #[.slice a c.length cp] 23))
 clear b1
 go_wp2_with fail
 refine F1.out.mono ?_
 rintro e w2 ⟨⟨bf,rfl,hf⟩,hw2⟩
 subst hw2
 have B2:=Lib.hid (st B1.out K1.out B1.out.size)
 have M2:=Lib.hid (M1.out.below K1.out)
 have V2:=Lib.hid (V1.out.below K1.out)
 have HF:=Lib.hid hf
 clear hf F1
 obtain⟨w3,hw3⟩:∃ x,w1.alloc (.cells #[.slice a c.length cp] 23)=x:=⟨_,rfl⟩
 rw [hw3] at B2 M2 V2
 rw [hw3]
 clear hw3 K1 B1 M1 V1
 cases bf with
 |false=>
  go_wp2_with fail
  refine(awake_d _ M2.out).mono ?_
  rintro e w4 ⟨rfl,b4⟩
  have B4:=Lib.hid (st B2.out b4 B2.out.size)
  clear b4
  go_wp2
  go_ret
  exact⟨rfl,B4.out⟩
 |true=>
 have H30:Hid (c.length≤30):=Lib.hid ((HF.out rfl).2 c (List.mem_singleton.2 rfl))
 have HVA:=Lib.hid (refValidC_any _ c w3 V2.out (cnt_few10 H30.out HL.out))
 obtain⟨bv,hbv⟩:∃ b,okC c=b:=⟨_,rfl⟩
 rw [hbv] at HVA
 have HOK:=Lib.hid hbv
 clear hbv
 go_wp2_with fail
 refine HVA.out.mono ?_
 rintro e w4 ⟨rfl,b4⟩
 have B4:=Lib.hid (st B2.out b4 B2.out.size)
 have M4:=Lib.hid (M2.out.below b4)
 have V4:=Lib.hid (V2.out.below b4)
 clear b4 HVA B2 M2 V2
 cases bv with
 |false=>
  go_wp2_with fail
  refine(awake_d _ M4.out).mono ?_
  rintro e w5 ⟨rfl,b5⟩
  have B5:=Lib.hid (st B4.out b5 B4.out.size)
  clear b5
  go_wp2
  go_ret
  exact⟨rfl,B5.out⟩
 |true=>
 obtain⟨vb,hvb⟩:∃ b,(spl s).isSome=b:=⟨_,rfl⟩
 rw [hvb] at HRV
 have HVB:=Lib.hid hvb
 clear hvb
 go_wp2_with fail
 refine(HRV.out _).mono ?_
 rintro e w5 ⟨rfl,b5⟩
 have B5:=Lib.hid (st B4.out b5 B4.out.size)
 have M5:=Lib.hid (M4.out.below b5)
 have V5:=Lib.hid (V4.out.below b5)
 clear b5 B4 M4 V4
 cases vb with
 |false=>
  go_wp2_with fail
  refine(awake_d _ M5.out).mono ?_
  rintro e w6 ⟨rfl,b6⟩
  have B6:=Lib.hid (st B5.out b6 B5.out.size)
  clear b6
  go_wp2
  go_ret
  exact⟨rfl,B6.out⟩
 |true=>
 obtain⟨n,hn⟩:=Option.isSome_iff_exists.1 HVB.out
 obtain⟨gn,hsn⟩:=spl_some hn
 have hsl:s.length≤100:=by rw [←hsn];have:=txt_lenA gn;omega
 have hpos:0<s.length:=by
  rcases Nat.eq_zero_or_pos s.length with h|h
  ·rw [List.eq_nil_of_length_eq_zero h] at hn;cases hn
  ·exact h
 have hSn:S.size=s.length:=by rw [←HS.out,ofL_size]
 have hSp:0<S.size:=by omega
 obtain⟨y,hy⟩:∃ y:UInt8,S[0]'hSp=y:=⟨_,rfl⟩
 have HHD:Hid (s.head? =some y):=Lib.hid (by
  have h1:=Lib.data_getElem? S 0 hSp
  rw [hy,←HS.out] at h1
  rw [List.head?_eq_getElem?]
  exact h1)
 have HSL:=Lib.hid hsl
 clear hn gn hsn hsl
 by_cases hneg:y=45
 ·subst hneg
  have k1:(((45:UInt8).toNat:Int)==45)=true:=by decide
  go_wp2_with fail
  refine(awake_d _ M5.out).mono ?_
  rintro e w6 ⟨rfl,b6⟩
  have B6:=Lib.hid (st B5.out b6 B5.out.size)
  clear b6
  go_wp2
  go_ret
  exact⟨rfl,B6.out⟩
 have k1:((y.toNat:Int)==45)=false:=by
  rw [beq_eq_false_iff_ne]
  intro e
  exact hneg (UInt8.toNat_inj.1 (by have:(45:UInt8).toNat=45:=rfl;omega))
 have HU:Hid (isU s):=Lib.hid (isU_iff.2 ⟨HVB.out,by rw [HHD.out];exact fun e=>hneg (Option.some.inj e)⟩)
 have HWT:=Lib.hid (refWeight_any c HOK.out (cnt_few10 H30.out HL.out) _ w5 V5.out)
 clear hneg
 go_wp2_with fail
 refine HWT.out.mono ?_
 rintro e w6 ⟨rfl,b6⟩
 have B6:=Lib.hid (st B5.out b6 B5.out.size)
 have V6:=Lib.hid (V5.out.below b6)
 clear b6 HWT B5 V5 M5 k1 hy hSp
 obtain⟨W,hW⟩:∃ W,wgt c=W:=⟨_,rfl⟩
 rw [hW]
 by_cases hw2:W≤1000
 ·have q1:decide ((W:Int) > 1000)=false:=decide_eq_false (by omega)
  have q1':¬ (1000:Int)<(W:Int):=by omega
  have HAU:=Lib.hid (decAut_any c HOK.out (fun x hx=>Nat.le_trans (HL.out x hx) (by decide)) (by rw [hW];exact hw2) _ w6 V6.out)
  have HAZ:=Lib.hid (fun e w' (h:AutC c w6 e w')=>h.zeros HOK.out)
  clear hW hw2
  go_wp2_with fail
  refine HAU.out.mono ?_
  intro e w7 he
  obtain⟨q,a1,c1,a2,c2,rfl,hN,hF,hrun,b7⟩:=HAZ.out e w7 he
  have HRN:=Lib.hid (fun t wx (hb:Below w7.heap.size w7 wx) (ht:t.length≤1000)=>runP_any q a1 c1 a2 c2 (ofL t) (by rw [ofL_size];omega) wx (hN.below hb) (hF.below hb))
  have HRQ:=Lib.hid hrun
  have B7:=Lib.hid (st B6.out b7 B6.out.size)
  have V7:=Lib.hid (V6.out.below b7)
  clear he b7 HAU HAZ hN hF hrun B6 V6
  obtain⟨qs,hqs⟩:∃ x,q.st=x:=⟨_,rfl⟩
  obtain⟨qn,hqn⟩:∃ x,q.nx.length=x:=⟨_,rfl⟩
  obtain⟨qa,hqa⟩:∃ x,q.ac.length=x:=⟨_,rfl⟩
  rw [hqs,hqn,hqa] at HRN ⊢
  clear hqs hqn hqa
  have BX:=Lib.hid ((Below.refl w7.heap.size w7).alloc (Nat.le_refl _) (.cells #[.int .i64 qs,.slice a1 qn c1,.slice a2 qa c2] 35))
  have KX:=Lib.hid (Blk.new w7 35 #[.int .i64 qs,.slice a1 qn c1,.slice a2 qa c2])
  obtain⟨j,hj⟩:∃ j,z % 4=j:=⟨_,rfl⟩
  have hj4:j<4:=by omega
  have r1:(z:Int) % 4=(j:Int):=by omega
  have r2:(z:Int).tmod 4=(j:Int):=by rw [Int.tmod_eq_emod_of_nonneg (by omega)];omega
  have r3:IntKind.u8.wrap (j:Int)=(j:Int):=by rw [IntKind.wrap_u8];omega
  have r4:IntKind.i64.wrap (j:Int)=(j:Int):=by rw [IntKind.wrap_i64];omega
  rw [←HS.out]
  obtain⟨X,hX⟩:∃ X,w7.alloc (.cells #[.int .i64 qs,.slice a1 qn c1,.slice a2 qa c2] 35)=X:=⟨_,rfl⟩
  rw [hX] at BX KX
  have HXE:=Lib.hid hX
  obtain⟨gx,hgx⟩:∃ gx,w7.heap.size=gx:=⟨_,rfl⟩
  rw [hgx] at KX
  have HGX:=Lib.hid hgx
  clear hX hj hgx
  go_upto_region 9 with fail
  rw [HXE.out]
  try rw [HGX.out]
  go_wp2_with fail
  go_loopw [11,12] (fun v11 v12 wr=>∃ k:Nat,k≤j∧v12= .int .i64 k∧v11= .string (ofL (zs k++s))∧wr=X) (fun _ v12 _=>j - (intOf v12).toNat)
  case atStart=>exact⟨0,Nat.zero_le _,rfl,rfl,rfl⟩
  case round=>
   obtain⟨k,hk,rfl,rfl,hwr⟩:=hrel
   obtain rfl:=hwr.symm
   clear hwr
   by_cases hlt:k<j
   ·have p1:decide ((k:Int)<(j:Int))=true:=decide_eq_true (by omega)
    have p1':decide (k<j)=true:=decide_eq_true hlt
    obtain⟨U,hU⟩:∃ U,zs k++s=U:=⟨_,rfl⟩
    have hUl:U.length≤200:=by
     have:=HSL.out
     rw [←hU,List.length_append]
     unfold zs
     rw [List.length_replicate];omega
    have s1:∀ wx,(Op.stringOp .add ⟨#[48]⟩ (ofL U)).run Tryz.prog wx= .ok (.string (ofL (48::U))) wx:=fun wx=>str_add (x:=[48]) (y:=U) (by simp;omega) rfl wx
    have HUU:Hid (48::U=zs (k+1)++s):=Lib.hid (by rw [←hU];exact zs_more k s)
    rw [hU]
    have HLT:=Lib.hid hlt
    clear hU hUl hlt
    go_wp2
    go_roundw
    case rel=>exact⟨k+1,HLT.out,by go_num,by rw [HUU.out],by trivial⟩
    case measure=>simp [intOf];have:=HLT.out;omega
   ·obtain rfl:k=j:=by omega
    have p1:decide ((k:Int)<(k:Int))=false:=decide_eq_false (by omega)
    have p1':decide (k<k)=false:=decide_eq_false (by omega)
    have BXW:=Lib.hid (st B7.out BX.out B7.out.size)
    have HHO:=Lib.hid (holdsC_any _ c (ofL s) (by rw [ofL_size];have:=HSL.out;omega) X (V7.out.below BX.out) (fun l hl=>Nat.le_trans (HL.out l hl) (by decide)))
    rw [show(ofL s).data.toList=s from rfl,hold_yes HOK.out HVB.out] at HHO
    have HR1:=Lib.hid (fun wx (hb:Below w7.heap.size w7 wx)=>HRN.out s wx hb (by have:=HSL.out;omega))
    have HR2:=Lib.hid (fun wx (hb:Below w7.heap.size w7 wx)=>HRN.out (zs k++s) wx hb (by
     have:=HSL.out
     rw [List.length_append]
     unfold zs
     rw [List.length_replicate];omega))
    have e1:=HRQ.out s 0 HU.out
    have e2:=HRQ.out s k HU.out
    rw [show zs 0++s=s from rfl] at e1
    rw [show(ofL s).data.toList=s from rfl,e1] at HR1
    rw [show(ofL (zs k++s)).data.toList=zs k++s from rfl,e2] at HR2
    obtain⟨U,hU⟩:∃ U,ofL (zs k++s)=U:=⟨_,rfl⟩
    rw [hU] at HR2 ⊢
    obtain⟨hh,hhh⟩:∃ hh,hldC s c=hh:=⟨_,rfl⟩
    rw [hhh] at HR1 HR2 HHO
    clear e1 e2 hU hhh
    go_wp2_with fail
    refine HHO.out.mono ?_
    rintro e w8 ⟨rfl,b8⟩
    have B8:=Lib.hid (st BXW.out b8 BXW.out.size)
    have H78:=Lib.hid (st BX.out b8 BX.out.size)
    have K8:=Lib.hid (KX.out.below b8)
    clear b8
    have c0:w8.cell? ⟨gx,0,none⟩=some (.int .i64 qs):=K8.out.cell 0
    have c1':w8.cell? ⟨gx,1,none⟩=some (.slice a1 qn c1):=K8.out.cell 1
    have c2':w8.cell? ⟨gx,2,none⟩=some (.slice a2 qa c2):=K8.out.cell 2
    go_wp2_with fail
    clear c0 c1' c2'
    refine(HR1.out _ H78.out).mono ?_
    rintro e w9 ⟨rfl,b9⟩
    have B9:=Lib.hid (st B8.out b9 B8.out.size)
    have H79:=Lib.hid (st H78.out b9 H78.out.size)
    have K9:=Lib.hid (K8.out.below b9)
    clear b9
    have c0:w9.cell? ⟨gx,0,none⟩=some (.int .i64 qs):=K9.out.cell 0
    have c1':w9.cell? ⟨gx,1,none⟩=some (.slice a1 qn c1):=K9.out.cell 1
    have c2':w9.cell? ⟨gx,2,none⟩=some (.slice a2 qa c2):=K9.out.cell 2
    have hb1:(hh==hh)=true:=by cases hh<;>rfl
    go_wp2_with fail
    clear c0 c1' c2'
    refine(HR2.out _ H79.out).mono ?_
    rintro e w10 ⟨rfl,b10⟩
    have B10:=Lib.hid (st B9.out b10 B9.out.size)
    clear b10
    go_wp2
    go_ret
    exact⟨rfl,B10.out⟩
 ·have q1:decide ((W:Int) > 1000)=true:=decide_eq_true (by omega)
  have q1':(1000:Int)<(W:Int):=by omega
  clear hW hw2
  go_wp2
  go_ret
  exact⟨rfl,B6.out⟩
end Go.Proofs.YtobapaodpcheiaaGreatDoor
