/- What the row stands on, part 10. -/
import Derived.StillTail
import Derived.Test.YtobapaodpcheiaaGreatDoorQ9
namespace Go.Proofs.YtobapaodpcheiaaGreatDoor
set_option linter.unusedVariables false
section
variable {P:Program} {ops:Array Oper} {Q:Exit→Act→World→Prop} {md:Region.Mode} {S:World→Prop}
def wpHd (P:Program) (md:Region.Mode) (ops:Array Oper) (Q:Exit→Act→World→Prop) (S:World→Prop) (n:Nat) (L:Array Bool→Act→World→Prop):Nat→Array Bool→Act→World→Prop
 |0,listed,a,w=>L listed a w
 |f+1,listed,a,w=>Region.ready md ops listed≠ []∧∀ i∈Region.ready md ops listed,i<n∧wpOp P ops Q i (fun a' w'=>S w'∧wpHd P md ops Q S n L f (listed.setIfInBounds i true) a' w') a w
theorem any_of_hd {n g:Nat} {L:Array Bool→Act→World→Prop} (hL:∀ listed a w,L listed a w→wpAny P md ops Q g listed a w):
  ∀(f:Nat) (listed:Array Bool) (a:Act) (w:World),wpHd P md ops Q S n L f listed a w→wpAny P md ops Q (f+g) listed a w
 |0,listed,a,w,h=>by rw [Nat.zero_add];exact hL _ _ _ h
 |f+1,listed,a,w,h=>by
  rw [show f+1+g=(f+g)+1 by omega]
  exact⟨fun h0=>absurd h0 h.1,fun i hi=>wpOp_mono (fun a' w' h'=>any_of_hd hL f _ a' w' h'.2) (h.2 i hi).2⟩
theorem hd_first {n i:Nat} {oi:Oper} {v:Value} {L:Array Bool→Act→World→Prop} (hi:ops[i]? =some oi) (hsel:∀(j:Nat) (o:Oper) cs b,ops[j]? =some o→o.op≠ .select cs b)
  (hQ:∀ c a w,Q (.panic c) (a.put oi.dst v) w→Q (.panic c) a w)
  (hs:Region.sinkB md ops n=true) (hc:Region.chainB md ops n=true) (hn:n<ops.size) (hin:i<n)
  (hdone:∀ listed a w,L listed a w→∀ j∈Region.ready md ops listed,n≤j):
  ∀(f:Nat) (listed:Array Bool) (a:Act) (w:World),HeadInv md ops n listed→
   (∀ j oj,ops[j]? =some oj→j≠i→listed.getD j true=false→(∀ e∈oj.after,Region.binds md e=true→e.on≠i)→oi.apart ops oj=true)→
   i∈Region.ready md ops listed→YieldsIf P ops S oi v a→S w→
   wpHd P md ops Q S n L f (listed.setIfInBounds i true) (a.put oi.dst v) w→wpHd P md ops Q S n L (f+1) listed a w:=by
 intro f
 induction f with
 |zero=>
  intro listed a w inv _ hr hy hS H
  have hun:=(mem_ready.1 hr).1
  refine⟨fun h=>(by rw [h] at hr;cases hr),fun j hj=>?_⟩
  have hjn:j<n:=by
   rcases Nat.lt_or_ge j n with h|h
   ·exact h
   ·exact absurd hj (tail_waits hs hc hn inv _ i rfl hin hun j h)
  refine⟨hjn,?_⟩
  by_cases hji:j=i
  ·subst hji;exact hy.wpOp hi hS ⟨hS,H⟩
  ·have:=hdone _ _ _ H j (ready_mono hj hji)
   omega
 |succ f ih=>
  intro listed a w inv hfree hr hy hS H
  have hun:=(mem_ready.1 hr).1
  refine⟨fun h=>(by rw [h] at hr;cases hr),fun j hj=>?_⟩
  have hjn:j<n:=by
   rcases Nat.lt_or_ge j n with h|h
   ·exact h
   ·exact absurd hj (tail_waits hs hc hn inv _ i rfl hin hun j h)
  refine⟨hjn,?_⟩
  by_cases hji:j=i
  ·subst hji;exact hy.wpOp hi hS ⟨hS,H⟩
  ·have h1:=(H.2 j (ready_mono hj hji)).2
   obtain⟨hjun,oj,hoj,hall⟩:=mem_ready.1 hj
   have hnot:∀ e∈oj.after,Region.binds md e=true→e.on≠i:=fun e he hb heq=>by
    have h1:=hall e he hb
    rw [heq,getD_both hun] at h1
    cases h1
   have h2:=wpOp_putIf hoj (hfree j oj hoj hji hjun hnot) (fun cs b=>hsel i oi cs b hi) (fun cs b=>hsel j oj cs b hoj) hQ hy h1
   have hfree':∀ k ok,ops[k]? =some ok→k≠i→(listed.setIfInBounds j true).getD k true=false→
     (∀ e∈ok.after,Region.binds md e=true→e.on≠i)→oi.apart ops ok=true:=fun k ok hk hki hun hno=>by
    refine hfree k ok hk hki ?_ hno
    by_cases hjk:j=k
    ·subst hjk;exact hjun
    ·rw [getD_set_ne true hjk] at hun;exact hun
   refine wpOp_mono (fun a' w' h3=>⟨h3.2.1,ih (listed.setIfInBounds j true) a' w' (inv.set hj hjn) hfree' (ready_mono hr (Ne.symm hji)) h3.1 h3.2.1 ?_⟩) h2
   rw [Array.setIfInBounds_comm _ _ hji]
   exact h3.2.2
def HdG (P:Program) (ops:Array Oper) (Q:Exit→Act→World→Prop) (S:World→Prop) (n:Nat) (t:List Oper) (f:Nat) (listed:Array Bool) (a:Act) (w:World):Prop:=
 HeadInv .any ops n listed→wpHd P .any ops Q S n (fun listed a w=>Region.seqB .any ops t.length n listed=true∧wpList P ops Q t a w) f listed a w
def hdB (ops:Array Oper) (n:Nat):Bool:=Region.noSelect ops&&decide (n<ops.size)&&Region.sinkB .any ops n&&Region.chainB .any ops n
theorem hd_take {n:Nat} {t:List Oper} {f:Nat} {listed:Array Bool} {a:Act} {w:World} (i:Nat) (oi:Oper) (v:Value) (hi:ops[i]? =some oi)
  (hB:(hdB ops n&&decide (i<n)&&Region.free .any ops listed i&&(Region.ready .any ops listed).contains i)=true)
  (hQ:∀ c a w,Q (.panic c) (a.put oi.dst v) w→Q (.panic c) a w) (hy:YieldsIf P ops S oi v a) (hS:S w)
  (h:HdG P ops Q S n t f (listed.setIfInBounds i true) (a.put oi.dst v) w):HdG P ops Q S n t (f+1) listed a w:=fun inv=>by
 unfold hdB at hB
 simp only [Bool.and_eq_true,decide_eq_true_eq] at hB
 obtain⟨⟨⟨⟨⟨⟨hsel,hn⟩,hs⟩,hc⟩,hin⟩,hf⟩,hr⟩:=hB
 have hr':i∈Region.ready .any ops listed:=by simpa using hr
 exact hd_first hi (Region.noSelect_spec hsel) hQ hs hc hn hin (fun listed a w hL=>seqB_ready hL.1) f listed a w inv (Region.free_spec hi hf) hr' hy hS (h (inv.set hr' hin))
theorem hd_taken {n:Nat} {t:List Oper} {f:Nat} {listed:Array Bool} {a:Act} {w:World} (i:Nat) (d:Option Tmp) (oi:Oper) (v:Value) (hi:ops[i]? =some oi) (hd:oi.dst=d)
  (hB:(hdB ops n&&decide (i<n)&&Region.free .any ops listed i&&(Region.ready .any ops listed).contains i)=true)
  (hQ:∀ c a w,Q (.panic c) (a.put d v) w→Q (.panic c) a w) (hy:YieldsIf P ops S oi v a) (hS:S w)
  (h:HdG P ops Q S n t f (listed.setIfInBounds i true) (a.put d v) w):HdG P ops Q S n t (f+1) listed a w:=by
 subst hd
 exact hd_take i oi v hi hB hQ hy hS h
theorem hd_step {n:Nat} {t:List Oper} {f:Nat} {listed:Array Bool} {a:Act} {w:World} {i:Nat} {oi:Oper} (hi:ops[i]? =some oi)
  (h:∀ K':Act→World→Prop,Shut (∀ a w,S w→HdG P ops Q S n t f (listed.setIfInBounds i true) a w→K' a w)→if Region.wanted oi (yielded ops a.tmps)=true then Oper.wp P oi a w K' Q else K' (a.put oi.dst undef) w)
  (inv:HeadInv .any ops n (listed.setIfInBounds i true)):
  wpOp P ops Q i (fun a' w'=>S w'∧wpHd P .any ops Q S n (fun listed a w=>Region.seqB .any ops t.length n listed=true∧wpList P ops Q t a w) f (listed.setIfInBounds i true) a' w') a w:=
 wpOp_step hi (fun K hK=>h K (fun a w hS hG=>hK a w ⟨hS,hG inv⟩))
theorem hd_one {n:Nat} {t:List Oper} {f:Nat} {listed:Array Bool} {a:Act} {w:World} (i:Nat) (oi:Oper) (hi:ops[i]? =some oi) (hr:Region.ready .any ops listed= [i]) (hin:i<n)
  (h:∀ K':Act→World→Prop,Shut (∀ a w,S w→HdG P ops Q S n t f (listed.setIfInBounds i true) a w→K' a w)→if Region.wanted oi (yielded ops a.tmps)=true then Oper.wp P oi a w K' Q else K' (a.put oi.dst undef) w):HdG P ops Q S n t (f+1) listed a w:=fun inv=>by
 refine⟨by rw [hr];simp,fun j hj=>?_⟩
 have hj0:=hj
 rw [hr,List.mem_singleton] at hj
 subst hj
 exact⟨hin,hd_step hi h (inv.set hj0 hin)⟩
theorem hd_done {n:Nat} {t:List Oper} {listed:Array Bool} {a:Act} {w:World} (hB:Region.seqB .any ops t.length n listed=true) (h:wpList P ops Q t a w):HdG P ops Q S n t 0 listed a w:=fun _=>⟨hB,h⟩
theorem region_hd {id:Nat} {l:List Oper} {a:Act} {w:World} (n:Nat) (S:World→Prop) (hm:P.follows .mixedOrders=true) (hB:hdB l.toArray n=true)
  (h:HdG P l.toArray Q S n (l.drop n) n (Array.replicate l.length false) a w.drew):(Code.region id l.toArray true).wp P Q a w:=by
 have hB':=hB
 unfold hdB at hB'
 simp only [Bool.and_eq_true,decide_eq_true_eq] at hB'
 obtain⟨⟨⟨hsel,hn⟩,hs⟩,hc⟩:=hB'
 have hn':n<l.length:=by simpa using hn
 refine wp_region_any hm ?_
 have inv0:HeadInv .any l.toArray n (Array.replicate l.length false):=
  ⟨by simp,fun j oj _ hl=>(by rw [getD_replicate_false] at hl;cases hl),fun t _ ht=>getD_in (by simpa using ht) (getD_replicate_false _ _)⟩
 have hlen:(l.drop n).length=l.length - n:=by simp
 have:=any_of_hd (g:=(l.drop n).length) (fun listed a w hL=>wpAny_of_seq (l.drop n) n listed a w (fun j=>by simp) hL.1 hL.2) n _ a w.drew (h inv0)
 rw [hlen,show n+(l.length - n)=l.length by omega] at this
 rw [show l.toArray.size=l.length from by simp]
 exact this
end
open Go.RowKit
set_option maxRecDepth 1000000 in
set_option maxHeartbeats 4000000 in
theorem isRowP_any (l:List Int) (n:Nat) (a:Option Addr) (c:Nat) (w:World) (h:Rd 1 encI w (.slice a l.length c) l):
  Calls Tryz.prog 56 #[.slice a l.length c,.int .i64 (n:Int)] w fun e w'=>e= .returned (.bool (okRow n l))∧w'=w:=by
 have hmb:l.length≤9223372036854775807:=by obtain⟨_,_,e,q1,q2⟩:=h.slice;omega
 have H4:=Lib.hid h
 clear h
 by_cases h11:l.length=11
 case neg=>
  have t:((l.length:Int) != 11)=true:=by rw [bne_iff_ne];omega
  have t':(l.length != 11)=true:=by rw [bne_iff_ne];exact h11
  have HR:=Lib.hid (okRow_len (n:=n) h11)
  clear h11
  go_enter Tryz.func56,Tryz.ntmps56
  go_wp2
  go_ret
  exact⟨by rw [HR.out];rfl,rfl⟩
 have t:((l.length:Int) != 11)=false:=by rw [bne_eq_false_iff_eq];omega
 have t':(l.length != 11)=false:=by rw [bne_eq_false_iff_eq];exact h11
 have HL:=Lib.hid h11
 rw [h11]
 clear h11
 go_enter Tryz.func56,Tryz.ntmps56
 go_wp2_with fail
 go_loopw [12] (fun v wr=>∃ j:Nat,j≤11∧v= .int .i64 j∧(∀(i:Nat) (hi:i<l.length),i<j→(decide (0≤l[i])&&decide (l[i]<n))=true)∧wr=w) (fun v _=>11 - (intOf v).toNat)
 case atStart=>exact⟨0,Nat.zero_le _,rfl,fun j _ h=>by omega,rfl⟩
 case round=>
  obtain⟨j,hj,rfl,hjd,hw⟩:=hrel
  obtain rfl:=hw.symm
  have HJ:=Lib.hid hjd
  clear hjd
  by_cases hjt:j<11
  ·have hjm:j<l.length:=by rw [HL.out];exact hjt
   obtain⟨b',off',rfl,h5⟩:=H4.out.num j hjm
   have h8:(j:Int)<11:=by omega
   have HB2:=Lib.hid (okRow_num (n:=n) hjm)
   obtain⟨x,hx⟩:∃ x,l[j]=x:=⟨_,rfl⟩
   have HX:=Lib.hid hx
   rw [hx] at h5 HB2
   clear hx
   by_cases q1:x<0
   ·have HR:Hid (okRow n l=false):=Lib.hid (HB2.out (by rw [decide_eq_false (by omega:¬ 0≤x)];rfl))
    go_wp2
    go_ret
    exact⟨by rw [HR.out];rfl,rfl⟩
   by_cases q2:(n:Int)≤x
   ·have HR:Hid (okRow n l=false):=Lib.hid (HB2.out (by rw [decide_eq_false (by omega:¬ x<(n:Int)),Bool.and_false]))
    go_wp2
    go_ret
    exact⟨by rw [HR.out];rfl,rfl⟩
   have HGD:Hid ((decide (0≤x)&&decide (x<(n:Int)))=true):=Lib.hid (by rw [decide_eq_true (by omega:0≤x),decide_eq_true (by omega:x<(n:Int))];rfl)
   go_wp2
   go_roundw
   case measure=>simp [intOf];omega
   case rel=>exact⟨j+1,by omega,by go_num,fun i hi hij=>by
    rcases Nat.lt_or_ge i j with h|h
    ·exact HJ.out i hi h
    ·obtain rfl:i=j:=by omega
     rw [HX.out];exact HGD.out,(by first|rfl|trivial)⟩
  ·obtain rfl:j=11:=by omega
   have HR:=Lib.hid (okRow_good (n:=n) HL.out (fun i hi _=>HJ.out i hi (by have:=HL.out;omega)))
   go_wp2
   go_ret
   exact⟨by rw [HR.out];rfl,rfl⟩
set_option maxRecDepth 1000000 in
set_option maxHeartbeats 8000000 in
theorem validP_any (r:RawD) (a1:Option Addr) (c1:Nat) (a2:Option Addr) (c2:Nat) (w:World) (hN:RdRows w (.slice a1 r.nx.length c1) r.nx) (hF:Rd 1 encO w (.slice a2 r.ac.length c2) r.ac):
  Calls Tryz.prog 29 #[.agg #[.int .i64 r.st,.slice a1 r.nx.length c1,.slice a2 r.ac.length c2]] w fun e w'=>e= .returned (.bool (okD r))∧Below w.heap.size w w':=by
 have HD:=Lib.hid (okD_hd r)
 have HI:=Lib.hid (okHd_iff (r:=r))
 obtain⟨ok,hok⟩:∃ ok,okD r=ok:=⟨_,rfl⟩
 rw [hok] at HD ⊢
 clear hok
 obtain⟨hd,hhd⟩:∃ hd,okHd r=hd:=⟨_,rfl⟩
 rw [hhd] at HD HI
 clear hhd
 obtain⟨s0,nx,ac⟩:=r
 dsimp only at hN hF HD HI ⊢
 have hb1:nx.length≤9223372036854775807:=by obtain⟨_,_,e,q1,q2⟩:=hN.slice;omega
 have hb2:ac.length≤9223372036854775807:=by obtain⟨_,_,e,q1,q2⟩:=hF.slice;omega
 have BA:=(Below.refl w.heap.size w).alloc (Nat.le_refl _) (.cells #[.int .i64 s0,.slice a1 nx.length c1,.slice a2 ac.length c2] 35)
 have k0:=Blk.new w 35 #[.int .i64 s0,.slice a1 nx.length c1,.slice a2 ac.length c2]
 obtain⟨W0,hW0⟩:∃ W0,w.alloc (.cells #[.int .i64 s0,.slice a1 nx.length c1,.slice a2 ac.length c2] 35)=W0:=⟨_,rfl⟩
 have HN:=Lib.hid (hN.below BA)
 have HBA:=Lib.hid BA
 have K0:=Lib.hid k0
 rw [hW0] at HN HBA K0
 obtain⟨g,hg⟩:∃ g,w.heap.size=g:=⟨_,rfl⟩
 have HG:=Lib.hid hg
 have HW0:=Lib.hid hW0
 rw [hg] at K0
 have f0:W0.cell? ⟨g,0,none⟩=some (.int .i64 s0):=K0.out.cell 0
 have f1:W0.cell? ⟨g,1,none⟩=some (.slice a1 nx.length c1):=K0.out.cell 1
 have f2:W0.cell? ⟨g,2,none⟩=some (.slice a2 ac.length c2):=K0.out.cell 2
 clear hN hF BA k0 hW0 hg
 go_enter Tryz.func29,Tryz.ntmps29
 go_upto_region 1 with fail
 rw [HW0.out,HG.out]
 clear HW0
 go_upto_region 2 with fail
 go_cut [28] from 9 to 28 (fun v28 wx=>v28= .bool (!hd)∧wx=W0)
 case first=>
  by_cases p2:2000<nx.length
  ·have t2:(2000:Int)<(nx.length:Int):=by omega
   have HV:Hid (hd=false):=Lib.hid (by cases h:hd with|false=>rfl|true=>have:=HI.out.1 h;omega)
   go_wp2_with fail
   go_meet
   exact⟨by rw [HV.out];rfl,rfl⟩
  have t2:¬ (2000:Int)<(nx.length:Int):=by omega
  by_cases p3:ac.length=nx.length
  case neg=>
   have t3:((ac.length:Int) != (nx.length:Int))=true:=by rw [bne_iff_ne];omega
   have t3':(ac.length != nx.length)=true:=by rw [bne_iff_ne];exact p3
   have HV:Hid (hd=false):=Lib.hid (by cases h:hd with|false=>rfl|true=>have:=HI.out.1 h;omega)
   clear p3
   go_wp2_with fail
   go_meet
   exact⟨by rw [HV.out];rfl,rfl⟩
  have t3:((ac.length:Int) != (nx.length:Int))=false:=by rw [bne_eq_false_iff_eq];omega
  have t3':(ac.length != nx.length)=false:=by rw [bne_eq_false_iff_eq];exact p3
  have P3:=Lib.hid p3
  clear p3
  by_cases p4:s0<0
  ·have HV:Hid (hd=false):=Lib.hid (by cases h:hd with|false=>rfl|true=>have:=HI.out.1 h;omega)
   go_wp2_with fail
   go_meet
   exact⟨by rw [HV.out];rfl,rfl⟩
  by_cases p5:(nx.length:Int)≤s0
  ·have HV:Hid (hd=false):=Lib.hid (by cases h:hd with|false=>rfl|true=>have:=HI.out.1 h;omega)
   go_wp2_with fail
   go_meet
   exact⟨by rw [HV.out];rfl,rfl⟩
  ·have HV:Hid (hd=true):=Lib.hid (HI.out.2 ⟨by omega,by omega,P3.out,by omega,by omega⟩)
   go_wp2_with fail
   go_meet
   exact⟨by rw [HV.out];rfl,rfl⟩
 case rest=>
  obtain⟨rfl,hwc⟩:=hcut
  obtain rfl:=hwc.symm
  cases hd with
  |false=>
   have HV:Hid (ok=false):=Lib.hid (by rw [HD.out];rfl)
   go_wp2_with fail
   go_ret
   exact⟨by rw [HV.out];rfl,HBA.out⟩
  |true=>
   have HV:Hid (ok=nx.all (okRow nx.length)):=Lib.hid (by rw [HD.out];rfl)
   go_wp2_with fail
   go_loopw [32] (fun v wr=>∃ k:Nat,k≤nx.length∧v= .int .i64 k∧(∀(j:Nat) (hj:j<nx.length),j<k→okRow nx.length nx[j]=true)∧wr=W0) (fun v _=>nx.length - (intOf v).toNat)
   case atStart=>exact⟨0,Nat.zero_le _,rfl,fun j _ h=>by omega,rfl⟩
   case round=>
    obtain⟨k,hk,rfl,hkd,hw⟩:=hrel
    obtain rfl:=hw.symm
    have HK:=Lib.hid hkd
    clear hkd
    by_cases hlt:k<nx.length
    ·obtain⟨bk,off,x1,x2,rfl,h0,h4⟩:=HN.out.at_ k hlt
     have h9:(k:Int)<(nx.length:Int):=by omega
     have HBAD:=Lib.hid (all_bad (q:=okRow nx.length) hlt)
     obtain⟨m,hm2⟩:∃ m,nx[k]=m:=⟨_,rfl⟩
     have HM:=Lib.hid hm2
     have hmb:nx[k].length≤9223372036854775807:=by obtain⟨_,_,e,q1,q2⟩:=h4.slice;omega
     rw [hm2] at h0 h4 HBAD hmb
     have HC:=Lib.hid (isRowP_any m nx.length x1 x2 _ h4)
     clear h4 hm2
     go_wp2_with fail
     refine HC.out.mono ?_
     rintro e w2 ⟨rfl,hw2⟩
     obtain rfl:=hw2.symm
     cases hr:okRow nx.length m with
     |false=>
      have HR:Hid (ok=false):=Lib.hid (by rw [HV.out];exact HBAD.out hr)
      clear hr
      go_wp2
      go_ret
      exact⟨by rw [HR.out];rfl,HBA.out⟩
     |true=>
      have HGR:=Lib.hid hr
      clear hr
      go_wp2
      go_roundw
      case measure=>simp [intOf];omega
      case rel=>exact⟨k+1,by omega,by go_num,fun i hi hik=>by
       rcases Nat.lt_or_ge i k with h|h
       ·exact HK.out i hi h
       ·obtain rfl:i=k:=by omega
        rw [HM.out];exact HGR.out,(by first|rfl|trivial)⟩
    ·obtain rfl:k=nx.length:=by omega
     have h3:¬ (nx.length:Int)<(nx.length:Int):=by omega
     have HR:Hid (ok=true):=Lib.hid (by rw [HV.out];exact all_good HK.out)
     go_wp2
     go_ret
     exact⟨by rw [HR.out];rfl,HBA.out⟩
def symP (c:Nat):Int:=if symI c<0 then 0 else symI c
def symB (c:Nat):Bool:=decide (0≤symI c)
set_option maxRecDepth 1000000 in
set_option maxHeartbeats 2000000 in
theorem symbolP_any (c:Nat) (hc:c≤255) (w:World):Calls Tryz.prog 30 #[.int .u8 (c:Int)] w fun e w'=>e= .returned (.tuple #[.int .i64 (symP c),.bool (symB c)])∧w'=w:=by
 by_cases h1:c<48
 ·by_cases h46:c=46
  ·subst h46
   go_enter Tryz.func30,Tryz.ntmps30
   go_wp2
   go_ret2
   exact⟨rfl,rfl⟩
  ·have HV:Hid (symI c= -1):=Lib.hid (by unfold symI;rw [if_neg h46,if_pos (.inl h1)])
   have HV2:Hid (symP c=0∧symB c=false):=Lib.hid (by unfold symP symB;rw [HV.out];exact⟨rfl,rfl⟩)
   have t:((c:Int)==46)=false:=by rw [beq_eq_false_iff_ne];omega
   have t':(c==46)=false:=by rw [beq_eq_false_iff_ne];exact h46
   have q:¬ (48:Int)≤(c:Int):=by omega
   clear h46 HV
   go_enter Tryz.func30,Tryz.ntmps30
   go_wp2
   go_ret2
   exact⟨by rw [HV2.out.1,HV2.out.2];rfl,rfl⟩
 have t:((c:Int)==46)=false:=by rw [beq_eq_false_iff_ne];omega
 have t':(c==46)=false:=by rw [beq_eq_false_iff_ne];omega
 have q:(48:Int)≤(c:Int):=by omega
 by_cases h2:57<c
 ·have HV2:Hid (symP c=0∧symB c=false):=Lib.hid (by
   have:symI c= -1:=by unfold symI;rw [if_neg (by omega),if_pos (.inr h2)]
   unfold symP symB
   rw [this]
   exact⟨rfl,rfl⟩)
  have q2:¬ (c:Int)≤57:=by omega
  clear h1 h2
  go_enter Tryz.func30,Tryz.ntmps30
  go_wp2
  go_ret2
  exact⟨by rw [HV2.out.1,HV2.out.2];rfl,rfl⟩
 have q2:(c:Int)≤57:=by omega
 have HV2:Hid (symP c=(c:Int) - 48∧symB c=true):=Lib.hid (by
  have:symI c=(c:Int) - 48:=by unfold symI;rw [if_neg (by omega),if_neg (by omega)]
  unfold symP symB
  rw [this,if_neg (by omega),decide_eq_true (by omega)]
  exact⟨rfl,rfl⟩)
 have d1:IntKind.u8.wrap ((c:Int) - 48)=(c:Int) - 48:=by rw [IntKind.wrap_u8];omega
 have d2:IntKind.i64.wrap ((c:Int) - 48)=(c:Int) - 48:=by rw [IntKind.wrap_i64];omega
 clear h1 h2
 go_enter Tryz.func30,Tryz.ntmps30
 go_wp2
 go_ret2
 exact⟨by rw [HV2.out.1,HV2.out.2];rfl,rfl⟩
set_option maxRecDepth 1000000 in
set_option maxHeartbeats 8000000 in
theorem runP_any (r:RawD) (a1:Option Addr) (c1:Nat) (a2:Option Addr) (c2:Nat) (s:ByteArray) (hs:s.size≤9223372036854775807) (w:World) (hN:RdRows w (.slice a1 r.nx.length c1) r.nx) (hF:Rd 1 encO w (.slice a2 r.ac.length c2) r.ac):
  Calls Tryz.prog 11 #[.agg #[.int .i64 r.st,.slice a1 r.nx.length c1,.slice a2 r.ac.length c2],.string s] w fun e w'=>e= .returned (.bool (runP r s.data.toList))∧Below w.heap.size w w':=by
 have BA:=(Below.refl w.heap.size w).alloc (Nat.le_refl _) (.cells #[.int .i64 r.st,.slice a1 r.nx.length c1,.slice a2 r.ac.length c2] 35)
 have k0:=Blk.new w 35 #[.int .i64 r.st,.slice a1 r.nx.length c1,.slice a2 r.ac.length c2]
 obtain⟨W0,hW0⟩:∃ W0,w.alloc (.cells #[.int .i64 r.st,.slice a1 r.nx.length c1,.slice a2 r.ac.length c2] 35)=W0:=⟨_,rfl⟩
 have HN:=Lib.hid (hN.below BA)
 have HF:=Lib.hid (hF.below BA)
 have HBA:=Lib.hid BA
 have K0:=Lib.hid k0
 rw [hW0] at HN HF HBA K0
 obtain⟨g,hg⟩:∃ g,w.heap.size=g:=⟨_,rfl⟩
 have HG:=Lib.hid hg
 have HW0:=Lib.hid hW0
 rw [hg] at K0
 have f0:W0.cell? ⟨g,0,none⟩=some (.int .i64 r.st):=K0.out.cell 0
 have f1:W0.cell? ⟨g,1,none⟩=some (.slice a1 r.nx.length c1):=K0.out.cell 1
 have f2:W0.cell? ⟨g,2,none⟩=some (.slice a2 r.ac.length c2):=K0.out.cell 2
 have HV0:=Lib.hid (validP_any r a1 c1 a2 c2 W0 HN.out HF.out)
 clear hN hF BA k0 hW0 hg
 go_enter Tryz.func11,Tryz.ntmps11
 go_upto_region 1 with fail
 rw [HW0.out,HG.out]
 clear HW0
 go_wp2_with fail
 refine HV0.out.mono ?_
 obtain⟨ok,hok⟩:∃ ok,okD r=ok:=⟨_,rfl⟩
 have HOK:=Lib.hid hok
 rw [hok]
 rintro e w2 ⟨rfl,b2⟩
 have B2:=Lib.hid (st HBA.out b2 HBA.out.size)
 have N2:=Lib.hid (HN.out.below b2)
 have F2:=Lib.hid (HF.out.below b2)
 have K2:Hid (Blk g 35 #[.int .i64 r.st,.slice a1 r.nx.length c1,.slice a2 r.ac.length c2] w2):=Lib.hid (Blk.below K0.out b2)
 clear f0 f1 f2 b2 hok HV0
 cases ok with
 |false=>
  have HR:Hid (runP r s.data.toList=false):=Lib.hid (by unfold runP;rw [HOK.out];rfl)
  go_wp2_with fail
  go_ret
  exact⟨by rw [HR.out];rfl,B2.out⟩
 |true=>
  have HD:=Lib.hid (okD_iff.1 HOK.out).1
  have HA:=Lib.hid HD.out.ok
  have HR:Hid (runP r s.data.toList=(isWA s.data.toList&&(toA r).acc (toA r).s0 (wdN s.data.toList))):=Lib.hid (by unfold runP;rw [HOK.out];rfl)
  have f0:w2.cell? ⟨g,0,none⟩=some (.int .i64 r.st):=K2.out.cell 0
  have f1:w2.cell? ⟨g,1,none⟩=some (.slice a1 r.nx.length c1):=K2.out.cell 1
  have f2:w2.cell? ⟨g,2,none⟩=some (.slice a2 r.ac.length c2):=K2.out.cell 2
  have HS0:Hid (r.st=((toA r).s0:Int)):=Lib.hid (by show r.st=((r.st.toNat:Nat):Int);have:=HD.out.st0;omega)
  go_wp2_with fail
  go_loopw [5,16] (fun v5 v6 wr=>∃ k:Nat,k≤s.size∧v6= .int .i64 k∧v5= .int .i64 ((toA r).run (toA r).s0 (wdN (s.data.toList.take k)):Nat)∧(∀(j:Nat) (hj:j<s.data.toList.length),j<k→okc s.data.toList[j]=true)∧wr=w2) (fun _ v6 _=>s.size - (intOf v6).toNat)
  case atStart=>exact⟨0,Nat.zero_le _,rfl,by rw [HS0.out];rfl,fun j _ h=>by omega,rfl⟩
  case round=>
   obtain⟨k,hk,rfl,rfl,hkd,hw⟩:=hrel
   obtain rfl:=hw.symm
   have HK:=Lib.hid hkd
   clear hkd
   have hq:=HA.out.run_lt (wdN (s.data.toList.take k)) _ HA.out.st (word_wdN _)
   obtain⟨q,hqq⟩:∃ q,(toA r).run (toA r).s0 (wdN (s.data.toList.take k))=q:=⟨_,rfl⟩
   have HQ:=Lib.hid hqq
   rw [hqq] at hq ⊢
   have hq':q<r.nx.length:=hq
   clear hqq hq
   by_cases hlt:k<s.size
   ·have hlt2:k<s.data.toList.length:=by rw [len_data];exact hlt
    have h9:(k:Int)<(s.size:Int):=by omega
    have HSN:=Lib.hid (run_snoc (toA r) s.data.toList (toA r).s0 hlt2)
    have HBD:=Lib.hid (isW_bad (s:=s.data.toList) hlt2)
    have hby:=byte_at s hlt
    obtain⟨c,hc⟩:∃ c,s.data.toList[k]=c:=⟨_,rfl⟩
    have HC:=Lib.hid hc
    rw [hc] at HSN HBD hby
    have hcn:=c.toNat_lt
    have hsc:=symbolP_any c.toNat (by omega)
    have hle:=symI_le c.toNat (by omega)
    have HBY:=Lib.hid hby
    rw [hby] at hsc
    have HSC:=Lib.hid hsc
    clear hc hby hsc
    go_wp2_with fail
    refine(HSC.out _).mono ?_
    rintro e w3 ⟨rfl,hw3⟩
    obtain rfl:=hw3.symm
    rw [←HBY.out]
    obtain⟨y,hy⟩:∃ y,symI c.toNat=y:=⟨_,rfl⟩
    have HY:=Lib.hid hy
    rw [hy] at hle
    clear hy
    by_cases hneg:y<0
    ·have HV:Hid (runP r s.data.toList=false):=Lib.hid (by
      rw [HR.out,HBD.out (by unfold okc;rw [HY.out,decide_eq_false (by omega)])]
      rfl)
     have e1:symP c.toNat=0:=by unfold symP;rw [HY.out,if_pos hneg]
     have e2:symB c.toNat=false:=by unfold symB;rw [HY.out,decide_eq_false (by omega)]
     rw [e1,e2]
     clear e1 e2
     go_wp2_with fail
     go_ret
     exact⟨by rw [HV.out];rfl,B2.out⟩
    ·obtain⟨z,rfl⟩:∃ z:Nat,y=(z:Int):=⟨y.toNat,by omega⟩
     have hz:z<11:=by omega
     have HSY:Hid (sy c=z):=Lib.hid (by unfold sy;rw [HY.out];rfl)
     have HOC:Hid (okc c=true):=Lib.hid (by unfold okc;rw [HY.out,decide_eq_true (by omega)])
     obtain⟨b,off,b',off',x2,rfl,g0,g1⟩:=HD.out.cells N2.out hq' hz
     have h8:(z:Int)<11:=by omega
     have h7:(q:Int)<(r.nx.length:Int):=by omega
     have e1:symP c.toNat=(z:Int):=by unfold symP;rw [HY.out,if_neg hneg]
     have e2:symB c.toNat=true:=by unfold symB;rw [HY.out,decide_eq_true (by omega)]
     rw [e1,e2]
     clear e1 e2
     go_wp2_with fail
     go_roundw
     case measure=>simp [intOf];omega
     case rel=>exact⟨k+1,by omega,by go_num,by rw [HSN.out,HQ.out,HSY.out],fun j hj hjk=>by
      rcases Nat.lt_or_ge j k with h|h
      ·exact HK.out j hj h
      ·obtain rfl:j=k:=by omega
       rw [HC.out];exact HOC.out,(by first|rfl|trivial)⟩
   ·obtain rfl:k=s.size:=by omega
    have h3:¬ (s.size:Int)<(s.size:Int):=by omega
    have hqa:q<r.ac.length:=by rw [HD.out.ac];exact hq'
    have h7:(q:Int)<(r.ac.length:Int):=by omega
    obtain⟨b,off,rfl,g0⟩:=F2.out.boo q hqa
    have HV:Hid (runP r s.data.toList=r.ac.getD q false):=Lib.hid (by
     have e1:s.data.toList.take s.size=s.data.toList:=by rw [←len_data,List.take_length]
     rw [HR.out,isW_all (fun j hj=>HK.out j hj (by rw [←len_data];exact hj)),←HQ.out,e1]
     rfl)
    obtain⟨z,hz⟩:∃ z,r.ac.getD q false=z:=⟨_,rfl⟩
    rw [hz] at g0 HV
    clear hz
    go_wp2_with fail
    go_ret
    exact⟨by rw [HV.out];rfl,B2.out⟩
open Go.RowKit
section
variable {H:Type} {enc:TypeId × Value→H} {P:Program} {w:World} {base:Nat} {spare:Nat→Bool} {held:Bool}
theorem ints_of {t e:TypeId} {fuel:Nat} {cs:List Value} {x:DataW H × List MemPlace} (ht:P.underlying t=some (.slice e)) (he:P.underlying e=some (.int .i64)) (hce:P.cellsOf e=1)
  (h:DataW.trod enc P w base spare held fuel t cs=some x):∃ a c,∃ l:List Int,cs= [.slice a l.length c]∧Rd 1 encI w (.slice a l.length c) l:=by
 rcases Go.Deep.open_slice ht h with⟨h0,_⟩|⟨a,len,cap,m,n,D,Pl,hcs,hb,hl,hm,hmm,_,hx⟩
 ·exact⟨none,0,[],h0,rd_nil w⟩
 have hlm:len≤m:=by rw [hmm];split<;>omega
 have each:∀ i,i<m→∃ z:Int,w.cell? (a.add i)=some (.int .i64 z):=fun i hi=>by
  obtain⟨cs',hc,htr⟩:=hx i hi
  rw [hce,Nat.mul_one] at hc
  obtain⟨_,hcl,hat⟩:=World.cells?_some hc
  obtain⟨z0,e0,_,w0⟩:=DataW.trod_int he htr
  have g0:=hat 0 (by omega)
  rw [Go.Deep.add_add,Nat.add_zero,e0] at g0
  exact⟨z0,g0⟩
 obtain⟨Z,hZ⟩:=Go.Deep.choose_lt each
 refine⟨some a,cap,(List.range len).map Z,by rw [hcs];simp,?_⟩
 have hlen:((List.range len).map Z).length=len:=by simp
 rw [hlen]
 refine rd_of_row Z (by omega) (fun x=>rfl) hl hm fun i hi j v hv=>?_
 have hj:j<1:=(List.getElem?_eq_some_iff.1 hv).1
 obtain rfl:j=0:=by omega
 simp [encI] at hv
 subst hv
 rw [Nat.mul_one,Nat.add_zero]
 exact hZ i (by omega)
instance:Inhabited RawS:=⟨⟨none,0,0⟩⟩
theorem rows_ofB {tN t e:TypeId} {fuel:Nat} {cs:List Value} {x:DataW H × List MemPlace} (hN:P.underlying tN=some (.slice t)) (hct:P.cellsOf t=1) (ht:P.underlying t=some (.slice e)) (he:P.underlying e=some (.int .i64)) (hce:P.cellsOf e=1)
  (h:DataW.trod enc P w base spare held fuel tN cs=some x):∃ a c,∃ l:List (List Int),cs= [.slice a l.length c]∧RdRows w (.slice a l.length c) l:=by
 rcases Go.Deep.open_slice hN h with⟨h0,_⟩|⟨a,len,cap,m,n,D,Pl,hcs,hb,hl,hm,hmm,_,hx⟩
 ·exact⟨none,0,[],h0,rdRows_nil w⟩
 have hlm:len≤m:=by rw [hmm];split<;>omega
 have each:∀ i,i<m→∃ z:RawS × List Int,w.cell? (a.add i)=some (.slice z.1.a z.1.n z.1.c)∧Rd 1 encI w (.slice z.1.a z.1.n z.1.c) z.2:=fun i hi=>by
  obtain⟨cs',hc,htr⟩:=hx i hi
  rw [hct,Nat.mul_one] at hc
  obtain⟨_,hcl,hat⟩:=World.cells?_some hc
  obtain⟨a1,c1,l,e0,hr⟩:=ints_of ht he hce htr
  have g0:=hat 0 (by omega)
  rw [Go.Deep.add_add,Nat.add_zero,e0] at g0
  exact⟨(⟨a1,l.length,c1⟩,l),g0,hr⟩
 obtain⟨Z,hZ⟩:=Go.Deep.choose_lt each
 refine⟨some a,cap,(List.range len).map fun i=>(Z i).2,by rw [hcs];simp,?_⟩
 have hlen:((List.range len).map fun i=>(Z i).2).length=len:=by simp
 rw [hlen]
 refine⟨(List.range len).map fun i=>(Z i).1,rd_of_row (fun i=>(Z i).1) (by omega) encS_len hl hm fun i hi j v hv=>?_,by simp,fun i h1 h2=>?_⟩
 ·have hj:j<1:=(List.getElem?_eq_some_iff.1 hv).1
  obtain rfl:j=0:=by omega
  simp [encS] at hv
  subst hv
  rw [Nat.mul_one,Nat.add_zero]
  exact(hZ i (by omega)).1
 ·have hi:i<len:=by simpa using h1
  simp only [List.getElem_map,List.getElem_range]
  exact(hZ i (by omega)).2
structure DfaTypes (P:Program) (tD tN t e tA eA:TypeId) (f0 f1 f2:Field):Prop where
 t_:P.underlying tD=some (.struct #[f0,f1,f2])
 o0:f0.offset=0
 o1:f1.offset=1
 o2:f2.offset=2
 c0:P.cellsOf f0.type=1
 c1:P.cellsOf f1.type=1
 c2:P.cellsOf f2.type=1
 k0:P.underlying f0.type=some (.int .i64)
 k1:P.underlying f1.type=some (.slice t)
 k2:P.underlying f2.type=some (.slice eA)
 ct:P.cellsOf t=1
 ht:P.underlying t=some (.slice e)
 he:P.underlying e=some (.int .i64)
 ce:P.cellsOf e=1
 hA:P.underlying eA=some .bool
 cA:P.cellsOf eA=1
end
open Go.RowKit
def bitC (b:Bool):UInt8:=if b=true then 49 else 48
def bitsOf (l:List Bool):Str:=l.map bitC
def vecS (l:List Rel) (s:Str) (first:Bool):Str:=bitsOf ((l.filter fun r=>isWh r==first).map (hldR s))
open Go.RowKit
def pdS (n width k:Nat):Str:=zs (width - (dtx n).length)++dtx n++zs k
open Go.RowKit
theorem len_dataA (s:ByteArray):s.data.toList.length=s.size:=Array.length_toList
theorem byte_atA (s:ByteArray) {k:Nat} (h:k<s.size):s.data.toList[k]'(by rw [len_dataA];exact h)=s[k]:=Array.getElem_toList ..
end Go.Proofs.YtobapaodpcheiaaGreatDoor
