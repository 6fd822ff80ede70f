/- What the row stands on, part 24. -/
import Derived.Test.YtobapaodpcheiaaGreatDoorQ23
namespace Go.Proofs.YtobapaodpcheiaaGreatDoor
open Go.RowKit Go.Maps
set_option linter.unusedVariables false
structure ES (k9:Nat) (enc9:Nat→List Value) (e9:TypeId) (w:World) (base gg:Nat) (v9 vN vF:Value) (fd:List Nat) (l:List (List Nat)) (acc:List Bool):Prop where
 o9:Own1 k9 enc9 w base e9 v9 fd
 oN:Own1 11 encG w base 163 vN l
 oF:Own1 1 encO w base 4 vF acc
 ko:Blk gg 134 #[vN,vF] w
section
variable {k9:Nat} {enc9:Nat→List Value} {e9:TypeId} {w w':World} {base gg:Nat} {v9 vN vF u:Value} {fd:List Nat} {l:List (List Nat)} {acc:List Bool}
theorem ES.below (h:ES k9 enc9 e9 w base gg v9 vN vF fd l acc) (hb:Below w.heap.size w w'):ES k9 enc9 e9 w' base gg v9 vN vF fd l acc:=⟨own_below h.o9 hb,own_below h.oN hb,own_below h.oF hb,Blk.below h.ko hb⟩
def Kinds (e9:TypeId):Prop:=e9≠163∧e9≠4∧e9≠134
theorem ES.g9 (hk:Kinds e9) (h:ES k9 enc9 e9 w base gg v9 vN vF fd l acc) {x:Nat} (y:Lie k9 enc9 base e9 w v9 (fd++ [x]) u w'):ES k9 enc9 e9 w' base gg u vN vF (fd++ [x]) l acc:=
 ⟨y.1,y.kind (.inr ⟨_,h.o9⟩) h.oN (Ne.symm hk.1),y.kind (.inr ⟨_,h.o9⟩) h.oF (Ne.symm hk.2.1),(y.blk h.ko (own_type h.o9 h.ko (Ne.symm hk.2.2))).1⟩
theorem own_map {α:Type} {k:Nat} {enc:α→List Value} {B n:Nat} {e K:TypeId} {kv:Nat→Value} {f:List Nat} {v:Value} {m:List α} (h:Own1 k enc w base e v m) (hm:MapIs w K B n kv f) (hg:w.grownBy w' (some B)):Own1 k enc w' base e v m:=
 own_grown h hg (fun b hb e1=>by
  injection e1 with e1
  subst e1
  obtain⟨_,cs,hc⟩:=own_blk h B hb
  obtain⟨D,⟨es,clock,h2,_⟩,_⟩:=hm
  rw [show w.heap[B]? =_ from hc] at h2
  cases h2)
theorem blk_map {B n:Nat} {K t:TypeId} {kv:Nat→Value} {f:List Nat} {b:Nat} {cs:Array Value} (h:Blk b t cs w) (hm:MapIs w K B n kv f) (hg:w.grownBy w' (some B)):Blk b t cs w':=
 (hg.block b h.lt (fun e1=>by
  injection e1 with e1
  subst e1
  obtain⟨D,⟨es,clock,h2,_⟩,_⟩:=hm
  rw [show w.heap[b]? =_ from h] at h2
  cases h2)).trans h
theorem ES.map {B n:Nat} {K:TypeId} {kv:Nat→Value} {f:List Nat} (h:ES k9 enc9 e9 w base gg v9 vN vF fd l acc) (hm:MapIs w K B n kv f) (hg:w.grownBy w' (some B)):ES k9 enc9 e9 w' base gg v9 vN vF fd l acc:=
 ⟨own_map h.o9 hm hg,own_map h.oN hm hg,own_map h.oF hm hg,blk_map h.ko hm hg⟩
theorem MapIs.own {α:Type} {k:Nat} {enc:α→List Value} {B n:Nat} {e K:TypeId} {kv:Nat→Value} {f:List Nat} {v:Value} {m:List α} (hm:MapIs w K B n kv f) (h:Own1 k enc w base e v m) (hg:w.grownBy w' v.ownBlock):MapIs w' K B n kv f:=
 hm.kept hg (fun e1=>by
  obtain⟨_,cs,hc⟩:=own_blk h B e1.symm
  obtain⟨D,⟨es,clock,h2,_⟩,_⟩:=hm
  rw [show w.heap[B]? =_ from hc] at h2
  cases h2)
theorem MapIs.blk {B n:Nat} {K t:TypeId} {kv:Nat→Value} {f:List Nat} {b:Nat} {cs:Array Value} (hm:MapIs w K B n kv f) (h:Blk b t cs w) (hg:w.grownBy w' (some b)):MapIs w' K B n kv f:=
 hm.kept hg (fun e1=>by
  injection e1 with e1
  subst e1
  obtain⟨D,⟨es,clock,h2,_⟩,_⟩:=hm
  rw [show w.heap[B]? =_ from h] at h2
  cases h2)
theorem ES.row (hk:Kinds e9) (h:ES k9 enc9 e9 w base gg v9 vN vF fd l acc) {rb:Nat} {cs:Array Value} (hb:Blk rb 163 cs w) (hlt:∀ b,vN.ownBlock=some b→b<rb) (i:Nat) (z:Value):ES k9 enc9 e9 (w.setCell ⟨rb,i,none⟩ z) base gg v9 vN vF fd l acc:=by
 have hg:=grown_set w rb i z
 refine⟨own_grown h.o9 hg (fun b hv e1=>?_),own_grown h.oN hg (fun b hv e1=>?_),own_grown h.oF hg (fun b hv e1=>?_),(hg.block gg h.ko.lt (fun e1=>?_)).trans h.ko⟩
 ·injection e1 with e1
  exact own_type h.o9 hb (Ne.symm hk.1) (e1▸hv)
 ·injection e1 with e1
  have:=hlt b hv
  omega
 ·injection e1 with e1
  exact own_type h.oF hb (by decide) (e1▸hv)
 ·injection e1 with e1
  have h1:w.heap[rb]? =some (.cells #[vN,vF] 134 (0,0)):=e1▸h.ko
  rw [show w.heap[rb]? =_ from hb] at h1
  injection h1 with h1
  injection h1 with _ h2
  exact absurd h2 (by decide)
theorem ES.gN (hk:Kinds e9) (h:ES k9 enc9 e9 w base gg v9 vN vF fd l acc) {x:List Nat} (y:Lie 11 encG base 163 w vN (l++ [x]) u w'):ES k9 enc9 e9 (w'.setCell ⟨gg,0,none⟩ u) base gg v9 u vF fd (l++ [x]) acc:=by
 have ko:=(y.blk h.ko (own_type h.oN h.ko (by decide))).1
 have hg:=grown_set w' gg 0 u
 have o9:=y.kind (.inr ⟨_,h.oN⟩) h.o9 hk.1
 have oF:=y.kind (.inr ⟨_,h.oN⟩) h.oF (by decide)
 refine⟨own_grown o9 hg (fun b hv e1=>?_),own_grown y.1 hg (fun b hv e1=>?_),own_grown oF hg (fun b hv e1=>?_),ko.put 0 u⟩
 ·injection e1 with e1
  exact own_type o9 ko (Ne.symm hk.2.2) (e1▸hv)
 ·injection e1 with e1
  exact own_type y.1 ko (by decide) (e1▸hv)
 ·injection e1 with e1
  exact own_type oF ko (by decide) (e1▸hv)
theorem ES.gF (hk:Kinds e9) (h:ES k9 enc9 e9 w base gg v9 vN vF fd l acc) {x:Bool} (y:Lie 1 encO base 4 w vF (acc++ [x]) u w'):ES k9 enc9 e9 (w'.setCell ⟨gg,1,none⟩ u) base gg v9 vN u fd l (acc++ [x]):=by
 have ko:=(y.blk h.ko (own_type h.oF h.ko (by decide))).1
 have hg:=grown_set w' gg 1 u
 have o9:=y.kind (.inr ⟨_,h.oF⟩) h.o9 hk.2.1
 have oN:=y.kind (.inr ⟨_,h.oF⟩) h.oN (by decide)
 refine⟨own_grown o9 hg (fun b hv e1=>?_),own_grown oN hg (fun b hv e1=>?_),own_grown y.1 hg (fun b hv e1=>?_),ko.put 1 u⟩
 ·injection e1 with e1
  exact own_type o9 ko (Ne.symm hk.2.2) (e1▸hv)
 ·injection e1 with e1
  exact own_type oN ko (by decide) (e1▸hv)
 ·injection e1 with e1
  exact own_type y.1 ko (by decide) (e1▸hv)
end
theorem idx_mid (F:List Nat) (t:Nat):idx (F.map id) (id t)=idx F t:=by rw [List.map_id];rfl
def GrP (A:Aut) (w:World) (e:Ending) (w':World):Prop:=∃(m:Nat) (a1:Option Addr) (c1:Nat) (a2:Option Addr) (c2:Nat),Stop A id m∧e= .returned (.agg #[.slice a1 m c1,.slice a2 m c2])∧Own1 11 encG w' w.heap.size 163 (.slice a1 m c1) (outN A id m)∧Own1 1 encO w' w.heap.size 4 (.slice a2 m c2) (outF A id m)∧Below w.heap.size w w'
theorem kindsI:Kinds 3:=⟨by decide,by decide,by decide⟩
def kvI (x:Nat):Value:= .int .i64 (x:Int)
theorem kvI_inj (x y:Nat) (h:kvI x=kvI y):x=y:=by unfold kvI at h;injection h with _ h;omega
theorem kvI_key {x:Nat} (h:x≤1000000000):keyOf Tryz.prog 3 (kvI x)=some (.int .i64 (x:Int)):=keyOf_int_mk Tryz.underlying3 (WalkArith.wf_i64 (by omega))
theorem keyedI:Keyed Tryz.prog 3:=int_keyed Tryz.underlying3
theorem zero32 (w:World):(zeroValue 21).run Tryz.prog w= .ok (.int .i32 0) w:=by kernel_rfl
theorem resEI {W:World} {tm:Array Value} {B:Nat} {t:TypeId} {a b:Value} (t2:tm[6]?.getD undef= .pointer (some ⟨B,0,none⟩)) (h:Blk B t #[a,b] W):
  (results Tryz.f100 tm).run Tryz.prog W= .ok (.agg #[a,b]) W:=by
 have a0:W.cell? ⟨B,0,none⟩=some a:=h.cell 0
 have a1:W.cell? ⟨B,1,none⟩=some b:=h.cell 1
 simp [results,Tryz.f100,go_sem,t2,a0,a1]
set_option maxRecDepth 1000000 in
set_option maxHeartbeats 16000000 in
theorem exploreI_any (r:RawD) (ok:DOk r) (g:Nat) (a1:Option Addr) (c1:Nat) (a2:Option Addr) (c2:Nat) (w:World) (hK:Blk g 35 #[.int .i64 r.st,.slice a1 r.nx.length c1,.slice a2 r.ac.length c2] w) (hN:RdRows w (.slice a1 r.nx.length c1) r.nx) (hF:Rd 1 encO w (.slice a2 r.ac.length c2) r.ac):
  Calls Tryz.prog 100 #[.int .i64 r.st,.func (.func 101) #[] #[.pointer (some ⟨g,0,none⟩)],.func (.func 102) #[] #[.pointer (some ⟨g,0,none⟩)]] w (GrP (toA r) w):=by
 obtain⟨iI,hiI,hzI,hkI,hbI⟩:=info_parts Tryz.infoI
 obtain⟨iO,hiO,hzO,hkO,hbO⟩:=info_parts Tryz.infoO
 obtain⟨iG,hiG,hzG,hkG,hbG⟩:=info_parts Tryz.infoG
 have hmm:=@run_makeMap Tryz.prog
 obtain⟨z0,hz0⟩:∃ z0:Obj,Obj.cells #[.slice none 0 0,.slice none 0 0] 134=z0:=⟨_,rfl⟩
 have BA:=(Below.refl w.heap.size w).alloc (Nat.le_refl _) (.cells #[.slice none 0 0,.slice none 0 0] 134)
 have BB:=BA.alloc BA.size (.cells #[.slice none 0 0,.slice none 0 0] 134)
 have kr:=(Blk.new w 134 #[.slice none 0 0,.slice none 0 0]).alloc (.cells #[.slice none 0 0,.slice none 0 0] 134)
 have kg:=Blk.new (w.alloc (.cells #[.slice none 0 0,.slice none 0 0] 134)) 134 #[.slice none 0 0,.slice none 0 0]
 rw [World.size_alloc] at kg
 obtain⟨W0,hW0⟩:∃ W0,(w.alloc (.cells #[.slice none 0 0,.slice none 0 0] 134)).alloc (.cells #[.slice none 0 0,.slice none 0 0] 134)=W0:=⟨_,rfl⟩
 have hs0:W0.heap.size=w.heap.size+1+1:=by rw [←hW0];simp
 rw [hW0] at BB kr kg
 have HW0:=Lib.hid hW0
 have HB0:=Lib.hid BB
 have HKR:=Lib.hid kr
 obtain⟨S,hS⟩:∃ S:Nat,r.st=(S:Int):=⟨r.st.toNat,by have:=ok.st0;omega⟩
 have hSn:S<r.nx.length:=by have:=ok.st1;omega
 have HSA:Hid ((toA r).s0=S):=Lib.hid (by show r.st.toNat=S;rw [hS];rfl)
 have HK:=Lib.hid hK
 have HN:=Lib.hid hN
 have HF:=Lib.hid hF
 have HOK:=Lib.hid ok
 have HA:=Lib.hid ok.ok
 have hn0:=ok.some_
 have hn1:=ok.most
 rw [hS]
 -- the map with the start in it
 have m0:=mapIs_made W0 3 kvI
 have b1:=(Below.refl W0.heap.size W0).alloc (Nat.le_refl _) (.map #[] 0)
 obtain⟨w1,hmu,m1,g1⟩:=m0.put (T:=177) keyedI kvI_inj Tryz.underlying177 (by omega) (by simp) (kvI_key (x:=S) (by omega)) (by simp)
 have hmu':(Instr.mapUpdate 177 (.map (some W0.heap.size)) (.int .i64 (S:Int)) (.int .i32 0)).run Tryz.prog (W0.alloc (.map #[] 0))= .ok () w1:=hmu
 obtain⟨B,hB⟩:∃ B,W0.heap.size=B:=⟨_,rfl⟩
 obtain⟨gg,hgg⟩:∃ gg,w.heap.size+1=gg:=⟨_,rfl⟩
 rw [hgg] at kg
 have kg1:Blk gg 134 #[.slice none 0 0,.slice none 0 0] w1:=blk_map (kg.alloc _) m0 (by rw [hB] at g1 ⊢;exact g1)
 have bw1:Below gg W0 w1:=((Below.refl gg W0).alloc (by omega) (.map #[] 0)).grown g1 (by simp;omega) (fun k e=>by injection e with e;omega)
 have zw1:gg≤w1.heap.size:=by have:=bw1.size;omega
 have o9:=own_num w1 gg zw1 S
 have b2:=(Below.refl w1.heap.size w1).alloc (Nat.le_refl _) (.cells #[.int .i64 (S:Int)] 3)
 have HES:Hid (ES 1 encN 3 (w1.alloc (.cells #[.int .i64 (S:Int)] 3)) gg gg (.slice (some ⟨w1.heap.size,0,none⟩) 1 1) (.slice none 0 0) (.slice none 0 0) (fdK (toA r) id 0) (outN (toA r) id 0) (outF (toA r) id 0)):=Lib.hid (by
  rw [fdK_zero,HSA.out]
  exact⟨o9,own1_nil _ _ _,own1_nil _ _ _,kg1.alloc _⟩)
 have HMP:Hid (MapIs (w1.alloc (.cells #[.int .i64 (S:Int)] 3)) 3 B (fdK (toA r) id 0).length kvI (fdK (toA r) id 0)):=Lib.hid (by
  rw [fdK_zero,HSA.out,←hB]
  exact m1.below b2)
 have HBW:Hid (Below gg W0 (w1.alloc (.cells #[.int .i64 (S:Int)] 3))):=Lib.hid (bw1.alloc zw1 _)
 have HM0:=Lib.hid hmu'
 have HBB:=Lib.hid hB
 have HGG:=Lib.hid hgg
 have HS0:=Lib.hid hs0
 clear hK hN hF BA BB kr kg hW0 ok hS m0 b1 hmu m1 g1 hmu' kg1 bw1 o9 b2 hz0 z0 hB hgg hs0
 go_enter Tryz.func100,Tryz.ntmps100
 go_upto_region 2 with fail
 rw [HW0.out,HGG.out]
 clear HW0
 have hm1:=HM0.out
 go_wp2_with fail
 rw [HBB.out]
 obtain⟨W1,hW1⟩:∃ W1,w1.alloc (.cells #[.int .i64 (S:Int)] 3)=W1:=⟨_,rfl⟩
 rw [hW1] at HES HMP HBW ⊢
 clear hW1 hm1 HM0
 obtain⟨base,hbase⟩:∃ base,gg=base:=⟨_,rfl⟩
 have HBS:Hid (w.heap.size+1=base∧w.heap.size+2=W0.heap.size):=Lib.hid ⟨by rw [HGG.out,hbase],by rw [HS0.out]⟩
 have hbg:base≤gg:=by omega
 have hbB:base≤B:=by rw [←HBB.out,HS0.out,←hbase,←HGG.out];omega
 obtain⟨rr,hrr⟩:∃ rr,w.heap.size=rr:=⟨_,rfl⟩
 have HRR0:=Lib.hid hrr
 rw [hrr] at HKR ⊢
 have HES:Hid (ES 1 encN 3 W1 base gg (.slice (some ⟨w1.heap.size,0,none⟩) 1 1) (.slice none 0 0) (.slice none 0 0) (fdK (toA r) id 0) (outN (toA r) id 0) (outF (toA r) id 0)):=by rw [←hbase];exact HES
 have HBW:Hid (Below base W0 W1):=by rw [←hbase];exact HBW
 clear hbase hrr
 go_loopw [9,10] (fun v9 v10 wr=>∃(i:Nat) (vN vF:Value),v10= .int .i64 (i:Nat)∧(∀ j,j<i→j<(fdK (toA r) id j).length)∧i≤(fdK (toA r) id i).length∧ES 1 encN 3 wr base gg v9 vN vF (fdK (toA r) id i) (outN (toA r) id i) (outF (toA r) id i)∧MapIs wr 3 B (fdK (toA r) id i).length kvI (fdK (toA r) id i)∧Below base W0 wr) (fun _ v10 _=>r.nx.length+1 - (intOf v10).toNat)
 case atStart=>exact⟨0,_,_,rfl,fun j h=>by omega,Nat.zero_le _,HES.out,HMP.out,HBW.out⟩
 case round=>
  rename World=>w2
  obtain⟨i,vN,vF,rfl,hgood,hile,hes,hmp,hb2⟩:=hrel
  have hfdok:=fdK_ok id HA.out i hgood
  have hfdl:(fdK (toA r) id i).length≤r.nx.length:=hfdok.len
  obtain⟨p9,q9,hp9⟩:=hes.o9.slice
  subst hp9
  have HE:=Lib.hid hes
  have HMI:=Lib.hid hmp
  have HB2:=Lib.hid hb2
  have HGD:=Lib.hid hgood
  have HFO:=Lib.hid hfdok
  have z2:=hb2.size
  clear hes hmp hb2 hgood hfdok HES HMP HBW
  obtain⟨FD,hFD⟩:∃ FD,fdK (toA r) id i=FD:=⟨_,rfl⟩
  have HFD:=Lib.hid hFD
  rw [hFD] at HE HMI HFO hile hfdl ⊢
  clear hFD
  by_cases hlt:i<FD.length
  ·have h9:(i:Int)<(FD.length:Int):=by omega
   obtain⟨s,hs⟩:∃ s,FD.getD i 0=s:=⟨_,rfl⟩
   have HS:=Lib.hid hs
   have hsn:s<r.nx.length:=by rw [←hs];exact HFO.out.lt _ (getD_mem hlt)
   clear hs
   obtain⟨rb,hrb⟩:∃ rb,w2.heap.size=rb:=⟨_,rfl⟩
   have zb2:base≤w2.heap.size:=by have:=HBS.out;omega
   have bn:=(Below.refl w2.heap.size w2).alloc (Nat.le_refl _) (.cells (encG []).toArray 163)
   have kn:=Blk.new w2 163 (encG []).toArray
   have HE0:Hid (ES 1 encN 3 (w2.alloc (.cells (encG []).toArray 163)) base gg (.slice p9 FD.length q9) vN vF (rowK (toA r) id FD s 0).2 (outN (toA r) id i) (outF (toA r) id i)):=Lib.hid (HE.out.below bn)
   have HK0:Hid (Blk rb 163 (encG (rowK (toA r) id FD s 0).1).toArray (w2.alloc (.cells (encG []).toArray 163))):=Lib.hid (by rw [←hrb];exact kn)
   have HM0:Hid (MapIs (w2.alloc (.cells (encG []).toArray 163)) 3 B (rowK (toA r) id FD s 0).2.length kvI (rowK (toA r) id FD s 0).2):=Lib.hid (HMI.out.below bn)
   have HB0':Hid (Below base W0 (w2.alloc (.cells (encG []).toArray 163))):=Lib.hid (HB2.out.alloc zb2 _)
   have HVN:Hid (∀ b,vN.ownBlock=some b→b<rb):=Lib.hid (fun b hb=>by rw [←hrb];exact(own_lt HE.out.oN b hb).2)
   have hBrb:B<rb:=by rw [←hrb];exact HMI.out.lt
   have hgrb:gg<rb:=by rw [←hrb];exact HE.out.ko.lt
   have HRB:=Lib.hid hrb
   have HZ:Hid (Obj.cells (encG []).toArray 163= .cells #[.int .i32 0,.int .i32 0,.int .i32 0,.int .i32 0,.int .i32 0,.int .i32 0,.int .i32 0,.int .i32 0,.int .i32 0,.int .i32 0,.int .i32 0] 163):=Lib.hid rfl
   rw [HZ.out] at HE0 HK0 HM0 HB0'
   clear bn kn hrb HZ
   go_wp2_with fail
   rw [HRB.out]
   obtain⟨wn,hwn⟩:∃ wn,w2.alloc (.cells #[.int .i32 0,.int .i32 0,.int .i32 0,.int .i32 0,.int .i32 0,.int .i32 0,.int .i32 0,.int .i32 0,.int .i32 0,.int .i32 0,.int .i32 0] 163)=wn:=⟨_,rfl⟩
   rw [hwn] at HE0 HK0 HM0 HB0' ⊢
   clear hwn
   go_loopw [9,27] (fun v9 v27 wr=>∃ c:Nat,c≤11∧v27= .int .i64 (c:Nat)∧ES 1 encN 3 wr base gg v9 vN vF (rowK (toA r) id FD s c).2 (outN (toA r) id i) (outF (toA r) id i)∧Blk rb 163 (encG (rowK (toA r) id FD s c).1).toArray wr∧MapIs wr 3 B (rowK (toA r) id FD s c).2.length kvI (rowK (toA r) id FD s c).2∧Below base W0 wr) (fun _ v27 _=>11 - (intOf v27).toNat)
   case atStart=>exact⟨0,by omega,rfl,HE0.out,HK0.out,HM0.out,HB0'.out⟩
   case round=>
    rename World=>wz
    obtain⟨c,hc,rfl,hes,hkb,hmp,hb3⟩:=hrel
    have hrl:(rowK (toA r) id FD s c).2.length≤r.nx.length:=row_len_le HA.out HFO.out (show s<(toA r).n from hsn) hc
    have hpre:=rowK_pre (toA r) id FD s c
    have hRl:=rowK_len (toA r) id FD s c
    obtain⟨p9,q9,hp9⟩:=hes.o9.slice
    subst hp9
    have HE2:=Lib.hid hes
    have HK2:=Lib.hid hkb
    have HM2:=Lib.hid hmp
    have HB3:=Lib.hid hb3
    have z3:=hb3.size
    clear hes hkb hmp hb3 HE0 HK0 HM0 HB0' HE HMI
    obtain⟨F,hF⟩:∃ F,(rowK (toA r) id FD s c).2=F:=⟨_,rfl⟩
    obtain⟨R,hR⟩:∃ R,(rowK (toA r) id FD s c).1=R:=⟨_,rfl⟩
    have HFF:=Lib.hid hF
    have HRR:=Lib.hid hR
    have HE5:Hid ((rowK (toA r) id FD s (c+1)).2=add id F ((toA r).d s c)∧(rowK (toA r) id FD s (c+1)).1=R++ [idx F ((toA r).d s c)]):=Lib.hid (by
     rw [rowK_succ]
     unfold rowStp
     rw [hF,hR,idx_mid]
     exact⟨rfl,rfl⟩)
    rw [hF] at HE2 HM2
    rw [hR] at HK2
    rw [hF] at hrl hpre ⊢
    rw [hR] at hRl
    have hFl:=hpre.length_le
    have HFI:Hid (F.getD i 0=s):=Lib.hid (by rw [pre_getD hpre hlt];exact HS.out)
    have HRL:=Lib.hid hRl
    clear hF hR hpre hRl
    by_cases hct:c<11
    ·have h9c:(c:Int)<11:=by omega
     have hi5:i<F.length:=by omega
     have hi5':(i:Int)<(F.length:Int):=by omega
     obtain⟨b5,off5,hp5,k5⟩:=(HE2.out.o9.rd encN_len).nat i hi5
     subst hp5
     rw [HFI.out] at k5
     have HBW:Hid (Below w.heap.size w wz):=Lib.hid (HB0.out.trans (HB3.out.mono (by have:=HBS.out;omega)))
     have HST:=Lib.hid (step1_any r HOK.out g a1 c1 a2 c2 wz (Blk.below HK.out HBW.out) (HN.out.below HBW.out) s c hsn hct)
     have hdT:=HOK.out.ok.go s c hsn hct
     have hdT1:(toA r).d s c<r.nx.length:=hdT
     obtain⟨T,hT⟩:∃ T,(toA r).d s c=T:=⟨_,rfl⟩
     rw [hT] at hdT1 HE5 HST
     clear hT hdT
     obtain⟨n0,hlk,hn0e⟩:=HM2.out.look (T:=177) keyedI Tryz.underlying177 zero32 (kvI_key (x:=T) (by omega))
     have hlk':(Instr.lookup 177 (.map (some B)) (.int .i64 (T:Int)) true).run Tryz.prog wz= .ok (.tuple #[.int .i32 (n0:Int),.bool (decide (T∈F))]) wz:=hlk
     have HLK:=Lib.hid hlk'
     have HN0:=Lib.hid hn0e
     have xf:=HK2.out.frozen c
     have xc:wz.cell? ⟨rb,c,none⟩=some (.int .i32 0):=by
      rw [HK2.out.cell,List.getElem?_toArray,encG_get _ hct,List.getD_eq_getElem?_getD,List.getElem?_eq_none (by have:=HRL.out;omega)]
      rfl
     clear hlk hlk' hn0e
     go_wp2_with fail
     refine HST.out.mono ?_
     rintro e we ⟨rfl,hwe⟩
     obtain rfl:=hwe.symm
     clear hwe HST
     have hlk:=HLK.out
     by_cases hmem:T∈F
     ·have e1:decide (T∈F)=true:=decide_eq_true hmem
      have HV:=Lib.hid (HN0.out hmem)
      have HAD:Hid (add id F T=F):=Lib.hid (add_old (by rw [idx_mid];exact idx_lt.2 hmem))
      rw [e1] at hlk
      clear e1 hmem
      have xk:=HK2.out
      have HN2:Hid (ES 1 encN 3 (wz.setCell ⟨rb,c,none⟩ (.int .i32 (n0:Int))) base gg (.slice (some ⟨b5,off5,none⟩) F.length q9) vN vF (rowK (toA r) id FD s (c+1)).2 (outN (toA r) id i) (outF (toA r) id i)∧Blk rb 163 (encG (rowK (toA r) id FD s (c+1)).1).toArray (wz.setCell ⟨rb,c,none⟩ (.int .i32 (n0:Int)))∧MapIs (wz.setCell ⟨rb,c,none⟩ (.int .i32 (n0:Int))) 3 B (rowK (toA r) id FD s (c+1)).2.length kvI (rowK (toA r) id FD s (c+1)).2∧Below base W0 (wz.setCell ⟨rb,c,none⟩ (.int .i32 (n0:Int)))):=Lib.hid (by
       rw [HE5.out.1,HE5.out.2,HAD.out,←encG_snoc R (idx F T) (by have:=HRL.out;omega),HRL.out,←HV.out]
       exact⟨HE2.out.row kindsI HK2.out HVN.out c _,HK2.out.put c _,HM2.out.blk HK2.out (grown_set _ _ _ _),HB3.out.setCell (p:=⟨rb,c,none⟩) (by show base≤rb;omega) _⟩)
      clear xk
      go_wp2_with fail
      go_roundw
      case measure=>simp [intOf]<;>omega
      case rel=>exact⟨c+1,by omega,by go_num,HN2.out⟩
     ·have e1:decide (T∈F)=false:=decide_eq_false hmem
      have HAD:Hid (add id F T=F++ [T]):=Lib.hid (add_new (by rw [idx_mid];exact fun h=>hmem (idx_lt.1 h)))
      have HVF:Hid (idx F T=F.length):=Lib.hid (idx_not hmem)
      obtain⟨w3,hmu,m3,g3⟩:=HM2.out.put (T:=177) keyedI kvI_inj Tryz.underlying177 (by omega) (by omega) (kvI_key (x:=T) (by omega)) hmem
      have hmu':(Instr.mapUpdate 177 (.map (some B)) (.int .i64 (T:Int)) (.int .i32 (F.length:Int))).run Tryz.prog wz= .ok () w3:=hmu
      rw [e1] at hlk
      have E3:=Lib.hid (HE2.out.map HM2.out g3)
      have K3:=Lib.hid (blk_map HK2.out HM2.out g3)
      have B3:=Lib.hid (HB3.out.grown g3 (by have:=HBS.out;omega) (fun k e=>by injection e with e;omega))
      have M3:=Lib.hid m3
      have z4:base≤w3.heap.size:=by have:=g3.size;have:=HBS.out;omega
      have d1:IntKind.i32.wrap ((F.length:Nat):Int)=(F.length:Int):=by rw [IntKind.wrap_i32];omega
      have hFl9:F.length≤1000000000:=by omega
      clear e1 hmem hmu m3 g3
      go_wp2_with (first|(at_builtin;refine wpList_append_lie (w0:=w3) (x:=T) (N:=w3.heap.size) rfl rfl _ _ 69 rfl base iI _ 8 Tryz.underlying69 hiI hzI hkI hbI (by omega) rfl (by omega) encN_len encN_one _ F rfl rfl (E3.out.o9) rfl hFl9 z4 ?_;intro v9 w9 y1;have K9:=Lib.hid (y1.blk K3.out (own_type E3.out.o9 K3.out (by decide))).1;have xf9:=K9.out.frozen c;have xc9:=K9.out.cell c;rw [List.getElem?_toArray,encG_get _ hct] at xc9)|go_in)
      have HN2:Hid (ES 1 encN 3 (w9.setCell ⟨rb,c,none⟩ (.int .i32 (F.length:Int))) base gg v9 vN vF (rowK (toA r) id FD s (c+1)).2 (outN (toA r) id i) (outF (toA r) id i)∧Blk rb 163 (encG (rowK (toA r) id FD s (c+1)).1).toArray (w9.setCell ⟨rb,c,none⟩ (.int .i32 (F.length:Int)))∧MapIs (w9.setCell ⟨rb,c,none⟩ (.int .i32 (F.length:Int))) 3 B (rowK (toA r) id FD s (c+1)).2.length kvI (rowK (toA r) id FD s (c+1)).2∧Below base W0 (w9.setCell ⟨rb,c,none⟩ (.int .i32 (F.length:Int)))):=Lib.hid (by
       rw [HE5.out.1,HE5.out.2,HAD.out,HVF.out,←encG_snoc R F.length (by have:=HRL.out;omega),HRL.out]
       have E9:=E3.out.g9 kindsI y1
       have M9:=M3.out.own E3.out.o9 y1.2.2.1
       exact⟨E9.row kindsI K9.out HVN.out c _,K9.out.put c _,by rw [List.length_append,List.length_singleton];exact M9.blk K9.out (grown_set _ _ _ _),(B3.out.trans y1.2.1).setCell (p:=⟨rb,c,none⟩) (by show base≤rb;omega) _⟩)
      clear y1
      go_wp2
      go_roundw
      case measure=>simp [intOf]<;>omega
      case rel=>exact⟨c+1,by omega,by go_num,HN2.out⟩
    ·have hc11:c=11:=by omega
     subst hc11
     have h9c:¬ (11:Int)<11:=by omega
     obtain⟨pN,qN,hpN⟩:=HE2.out.oN.slice
     subst hpN
     have t0:wz.cell? ⟨gg,0,none⟩=some (.slice pN (outN (toA r) id i).length qN):=HE2.out.ko.cell 0
     have hld:=load_row (w:=wz) (b:=rb) (o:=0) (x:=R) (fun j v hv=>by rw [HK2.out.cell,List.getElem?_toArray,Nat.zero_add];exact hv)
     have hlN:(outN (toA r) id i).length≤1000000000:=by rw [outN_len];omega
     have z5:base≤wz.heap.size:=by have:=HBS.out;omega
     go_upto_region 18 with fail
     refine wp_region_lit ?_
     refine wpList_plain rfl fun K0 hK0=>?_
     have hS:=Lib.hid hK0
     clear hK0
     go_simp
     refine hS.out _ _ ?_
     clear hS K0
     try simp only [Act.put,zI,zO,zS]
     refine wpList_plain rfl fun K0 hK0=>?_
     have hS:=Lib.hid hK0
     clear hK0
     go_simp
     refine hS.out _ _ ?_
     clear hS K0
     try simp only [Act.put,zI,zO,zS]
     refine wpList_load_mid rfl 163 _ rfl rb 0 rfl (encG R) _ (fun j v hv=>by rw [HK2.out.cell,List.getElem?_toArray,Nat.zero_add];exact hv) Tryz.underlying163 rfl (by rw [encG_len];kernel_rfl) ?_
     try simp only [Act.put,zI,zO,zS]
     refine wpList_row R _ rfl rfl rfl ?_
     refine wpList_append_lie (w0:=wz) (x:=R) (N:=wz.heap.size) rfl rfl _ _ 132 rfl base iG _ 44 Tryz.underlying132 hiG hzG hkG hbG (by omega) (encG_len []) (by omega) encG_len encG_one _ (outN (toA r) id i) rfl rfl (HE2.out.oN) rfl hlN z5 ?_
     intro v9 w9 y1
     obtain⟨pM,qM,hpM⟩:=lie_at y1
     obtain⟨lM,hlM⟩:∃ lM,((outN (toA r) id i)++ [R]).length=lM:=⟨_,rfl⟩
     rw [hlM] at hpM
     have HLM:=Lib.hid hlM
     clear hlM
     subst hpM
     have K9:=(y1.blk HE2.out.ko (own_type HE2.out.oN HE2.out.ko (by decide))).1
     have kf9:=K9.frozen 0
     have kc9:w9.cell? ⟨gg,0,none⟩=some (.slice pN (outN (toA r) id i).length qN):=K9.cell 0
     have HE3:=Lib.hid (HE2.out.gN kindsI y1)
     have MP9:=HM2.out.own HE2.out.oN y1.2.2.1
     have HM3:=Lib.hid (MP9.blk K9 (grown_set w9 gg 0 (.slice pM lM qM)))
     have HB4:=Lib.hid ((HB3.out.trans y1.2.1).setCell (p:=⟨gg,0,none⟩) (by show base≤gg;omega) (.slice pM lM qM))
     clear y1 MP9 K9 hld t0
     go_upto_region 19 with fail
     obtain⟨wS,hwS⟩:∃ wS,w9.setCell ⟨gg,0,none⟩ (.slice pM lM qM)=wS:=⟨_,rfl⟩
     rw [hwS] at HE3 HM3 HB4 ⊢
     clear hwS kf9 kc9
     obtain⟨b5,off5,hp5,k5⟩:=(HE3.out.o9.rd encN_len).nat i (by omega)
     subst hp5
     rw [HFI.out] at k5
     obtain⟨pF,qF,hpF⟩:=HE3.out.oF.slice
     subst hpF
     have t1:wS.cell? ⟨gg,1,none⟩=some (.slice pF (outF (toA r) id i).length qF):=HE3.out.ko.cell 1
     have hi5':(i:Int)<(F.length:Int):=by omega
     have hS:(fun wx:World=>wx.cell? ⟨gg,1,none⟩=some (.slice pF (outF (toA r) id i).length qF)∧wx.cell? ⟨b5,off5+i,none⟩=some (.int .i64 (s:Int))) wS.drew:=⟨t1,k5⟩
     refine region_hd 9 (fun wx:World=>wx.cell? ⟨gg,1,none⟩=some (.slice pF (outF (toA r) id i).length qF)∧wx.cell? ⟨b5,off5+i,none⟩=some (.int .i64 (s:Int))) (by kernel_rfl) (by kernel_rfl) ?_
     refine hd_taken 0 (some 65) _ ?hdv0 rfl rfl (by kernel_rfl) (fun _ _ _ h=>h) (Or.inl ⟨by rfl,?hdy0⟩) hS ?hdr0
     case hdy0=>(intro wx hx;(try dsimp only at hx);go_simp;try with_reducible rfl)
     try simp only [Act.put,zI,zO,zS]
     refine hd_taken 1 (some 66) _ ?hdv1 rfl rfl (by kernel_rfl) (fun _ _ _ h=>h) (Or.inl ⟨by rfl,?hdy1⟩) hS ?hdr1
     case hdy1=>(intro wx hx;(try dsimp only at hx);go_simp;try with_reducible rfl)
     try simp only [Act.put,zI,zO,zS]
     refine hd_taken 2 (some 67) _ ?hdv2 rfl rfl (by kernel_rfl) (fun _ _ _ h=>h) (Or.inl ⟨by rfl,?hdy2⟩) hS ?hdr2
     case hdy2=>(intro wx hx;(try dsimp only at hx);go_simp;try with_reducible rfl)
     try simp only [Act.put,zI,zO,zS]
     refine hd_taken 3 (some 68) _ ?hdv3 rfl rfl (by kernel_rfl) (fun _ _ _ h=>h) (Or.inl ⟨by rfl,?hdy3⟩) hS ?hdr3
     case hdy3=>(intro wx hx;(try dsimp only at hx);go_simp;try with_reducible rfl)
     try simp only [Act.put,zI,zO,zS]
     refine hd_taken 4 (some 69) _ ?hdv4 rfl rfl (by kernel_rfl) (fun _ _ _ h=>h) (Or.inl ⟨by rfl,?hdy4⟩) hS ?hdr4
     case hdy4=>(intro wx hx;(try dsimp only at hx);go_simp;try with_reducible rfl)
     try simp only [Act.put,zI,zO,zS]
     refine hd_taken 5 (some 70) _ ?hdv5 rfl rfl (by kernel_rfl) (fun _ _ _ h=>h) (Or.inl ⟨by rfl,?hdy5⟩) hS ?hdr5
     case hdy5=>(intro wx hx;(try dsimp only at hx);go_simp;try with_reducible rfl)
     try simp only [Act.put,zI,zO,zS]
     refine hd_taken 6 (some 71) _ ?hdv6 rfl rfl (by kernel_rfl) (fun _ _ _ h=>h) (Or.inl ⟨by rfl,?hdy6⟩) hS ?hdr6
     case hdy6=>(intro wx hx;(try dsimp only at hx);go_simp;try with_reducible rfl)
     try simp only [Act.put,zI,zO,zS]
     have HBW4:Below w.heap.size w wS:=HB0.out.trans (HB4.out.mono (by have:=HBS.out;omega))
     have HAC:=Lib.hid (acc1_any r HOK.out g a1 c1 a2 c2 wS.drew (Blk.below (Blk.below HK.out HBW4) ((Below.refl _ wS).drew)) ((HF.out.below HBW4).below ((Below.refl _ wS).drew)) s hsn)
     clear HBW4
     refine hd_one 7 _ rfl (by kernel_rfl) (by decide) (fun K7 hK7=>?_)
     go_simp
     refine HAC.out.mono ?_
     rintro e we ⟨rfl,rfl⟩
     dsimp only
     refine hK7.out _ _ hS ?_
     clear hK7 K7
     try simp only [Act.put,zI,zO,zS]
     obtain⟨fb,hfb⟩:∃ fb,(toA r).f s=fb:=⟨_,rfl⟩
     have HFB:=Lib.hid hfb
     rw [hfb]
     clear hfb HAC
     have b8:=((Below.refl wS.heap.size wS).drew).alloc (Nat.le_refl _) (.cells #[.bool fb] 4)
     have hS8:(fun wx:World=>wx.cell? ⟨gg,1,none⟩=some (.slice pF (outF (toA r) id i).length qF)∧wx.cell? ⟨b5,off5+i,none⟩=some (.int .i64 (s:Int))) (wS.drew.alloc (.cells #[.bool fb] 4)):=⟨(b8.cell (p:=⟨gg,1,none⟩) (World.block_lt_of_cell? wS _ t1)).trans t1,(b8.cell (p:=⟨b5,off5+i,none⟩) (World.block_lt_of_cell? wS _ k5)).trans k5⟩
     refine hd_one 8 _ rfl (by kernel_rfl) (by decide) (fun K8 hK8=>?_)
     go_simp
     refine hK8.out _ _ hS8 ?_
     clear hK8 K8 hS hS8 b8
     try simp only [Act.put,zI,zO,zS]
     refine hd_done (by kernel_rfl) ?_
     simp only [List.drop_succ_cons,List.drop_zero]
     have hlF:(outF (toA r) id i).length≤1000000000:=by rw [outF_len];omega
     have z6:base≤wS.heap.size:=by have:=HB4.out.size;have:=HBS.out;omega
     refine wpList_append_lie (w0:=wS.drew) (x:=fb) (N:=wS.heap.size) rfl rfl _ _ 33 rfl base iO _ 1 Tryz.underlying33 hiO hzO hkO hbO (by omega) rfl (by omega) encO_len encO_one _ (outF (toA r) id i) rfl rfl ((HE3.out.below ((Below.refl _ wS).drew)).oF) rfl hlF z6 ?_
     intro v10 w10 y1
     simp only [Act.put,zI,zO,zS]
     obtain⟨pL,qL,hpL⟩:=lie_at y1
     obtain⟨lL,hlL⟩:∃ lL,((outF (toA r) id i)++ [fb]).length=lL:=⟨_,rfl⟩
     rw [hlL] at hpL
     clear hlL
     subst hpL
     have HE9:=HE3.out.below ((Below.refl _ wS).drew)
     have K10:=(y1.blk HE9.ko (own_type HE9.oF HE9.ko (by decide))).1
     have kf9:=K10.frozen 1
     have kc9:w10.cell? ⟨gg,1,none⟩=some (.slice pF (outF (toA r) id i).length qF):=K10.cell 1
     have HNX:Hid (fdK (toA r) id (i+1)=F∧outN (toA r) id (i+1)=outN (toA r) id i++ [R]∧outF (toA r) id (i+1)=outF (toA r) id i++ [fb]):=Lib.hid (by
      refine⟨by rw [fdK_succ,HFD.out,HS.out,HFF.out],?_,?_⟩
      ·rw [outN_succ]
       unfold rowsK
       rw [HFD.out,HS.out,HRR.out]
      ·rw [outF_succ (by rw [HFD.out];exact hlt),HFD.out,HS.out,HFB.out])
     have HFIN:Hid (ES 1 encN 3 (w10.setCell ⟨gg,1,none⟩ (.slice pL lL qL)) base gg (.slice (some ⟨b5,off5,none⟩) F.length q9) (.slice pM lM qM) (.slice pL lL qL) (fdK (toA r) id (i+1)) (outN (toA r) id (i+1)) (outF (toA r) id (i+1))∧MapIs (w10.setCell ⟨gg,1,none⟩ (.slice pL lL qL)) 3 B (fdK (toA r) id (i+1)).length kvI (fdK (toA r) id (i+1))∧Below base W0 (w10.setCell ⟨gg,1,none⟩ (.slice pL lL qL))):=Lib.hid (by
      rw [HNX.out.1,HNX.out.2.1,HNX.out.2.2]
      have M9:=(HM3.out.below ((Below.refl _ wS).drew)).own HE9.oF y1.2.2.1
      exact⟨HE9.gF kindsI y1,M9.blk K10 (grown_set _ _ _ _),((below_drewN HB4.out 1).trans y1.2.1).setCell (p:=⟨gg,1,none⟩) (by show base≤gg;omega) _⟩)
     clear y1 HE9 K10 t1 k5
     go_wp2
     go_roundw
     case measure=>simp [intOf]<;>omega
     case rel=>exact⟨i+1,_,_,by go_num,fun j hj=>by
      rcases Nat.lt_or_ge j i with h|h
      ·exact HGD.out j h
      ·obtain rfl:j=i:=by omega
       rw [HFD.out]
       exact hlt,by rw [HNX.out.1];omega,HFIN.out⟩
  ·have him:i=FD.length:=by omega
   have h9:¬ (i:Int)<(FD.length:Int):=by omega
   have HST:Hid (Stop (toA r) id i):=Lib.hid ⟨HGD.out,by rw [HFD.out];exact him.symm⟩
   obtain⟨pN,qN,hpN⟩:=HE.out.oN.slice
   obtain⟨pF,qF,hpF⟩:=HE.out.oF.slice
   rw [outN_len] at hpN
   rw [outF_len] at hpF
   subst hpN hpF
   have t0:w2.cell? ⟨gg,0,none⟩=some (.slice pN i qN):=HE.out.ko.cell 0
   have t1:w2.cell? ⟨gg,1,none⟩=some (.slice pF i qF):=HE.out.ko.cell 1
   have HKR2:Hid (Blk rr 134 #[.slice none 0 0,.slice none 0 0] w2):=Lib.hid (Blk.belowAt HKR.out HB2.out (by have:=HBS.out;have:=HRR0.out;omega))
   have kfr:=HKR2.out.frozen
   have y0:w2.cell? ⟨rr,0,none⟩=some (.slice none 0 0):=HKR2.out.cell 0
   have y1:w2.cell? ⟨rr,1,none⟩=some (.slice none 0 0):=HKR2.out.cell 1
   have HFIN:Hid (Blk rr 134 #[.slice pN i qN,.slice pF i qF] ((w2.setCell ⟨rr,0,none⟩ (.slice pN i qN)).setCell ⟨rr,1,none⟩ (.slice pF i qF))∧GrP (toA r) w (.returned (.agg #[.slice pN i qN,.slice pF i qF])) ((w2.setCell ⟨rr,0,none⟩ (.slice pN i qN)).setCell ⟨rr,1,none⟩ (.slice pF i qF))):=Lib.hid (by
    have hg:=(grown_set w2 rr 0 (.slice pN i qN)).trans (grown_set (w2.setCell ⟨rr,0,none⟩ (.slice pN i qN)) rr 1 (.slice pF i qF))
    have hlt:∀ b,base≤b→(some rr:Option Nat)≠some b:=fun b hb e=>by
     injection e with e
     have:=HBS.out
     have:=HRR0.out
     omega
    have oN:=own_grown HE.out.oN hg (fun b hb=>hlt b (own_lt HE.out.oN b hb).1)
    have oF:=own_grown HE.out.oF hg (fun b hb=>hlt b (own_lt HE.out.oF b hb).1)
    refine⟨(HKR2.out.put 0 _).put 1 _,i,pN,qN,pF,qF,HST.out,rfl,Own1.base oN (by have:=HBS.out;omega),Own1.base oF (by have:=HBS.out;omega),?_⟩
    exact((HB0.out.trans (HB2.out.mono (by have:=HBS.out;omega))).setCell (p:=⟨rr,0,none⟩) (by show w.heap.size≤rr;have:=HRR0.out;omega) _).setCell (p:=⟨rr,1,none⟩) (by show w.heap.size≤rr;have:=HRR0.out;omega) _)
   clear him
   go_wp2
   exact bodyPost_ret (v:= .agg #[.slice pN i qN,.slice pF i qF]) (resEI rfl HFIN.out.1) rfl HFIN.out.2
open Go.RowKit
theorem resGO {W:World} {tm:Array Value} {B:Nat} {t:TypeId} {a b:Value} (t2:tm[2]?.getD undef= .pointer (some ⟨B,0,none⟩)) (h:Blk B t #[a,b] W):
  (results Tryz.f76 tm).run Tryz.prog W= .ok (.agg #[a,b]) W:=by
 have a0:W.cell? ⟨B,0,none⟩=some a:=h.cell 0
 have a1:W.cell? ⟨B,1,none⟩=some b:=h.cell 1
 simp [results,Tryz.f76,go_sem,t2,a0,a1]
set_option maxRecDepth 1000000 in
set_option maxHeartbeats 8000000 in
theorem graphOf_any (r:RawD) (ok:DOk r) (a1:Option Addr) (c1:Nat) (a2:Option Addr) (c2:Nat) (w:World) (hN:RdRows w (.slice a1 r.nx.length c1) r.nx) (hF:Rd 1 encO w (.slice a2 r.ac.length c2) r.ac):
  Calls Tryz.prog 76 #[.agg #[.int .i64 r.st,.slice a1 r.nx.length c1,.slice a2 r.ac.length c2]] w (GrP (toA r) w):=by
 have BA:=(Below.refl w.heap.size w).alloc (Nat.le_refl _) (.cells #[.int .i64 r.st,.slice a1 r.nx.length c1,.slice a2 r.ac.length c2] 35)
 have BB:=BA.alloc BA.size (.cells #[.slice none 0 0,.slice none 0 0] 134)
 have k0:=(Blk.new w 35 #[.int .i64 r.st,.slice a1 r.nx.length c1,.slice a2 r.ac.length c2]).alloc (.cells #[.slice none 0 0,.slice none 0 0] 134)
 have kr:=Blk.new (w.alloc (.cells #[.int .i64 r.st,.slice a1 r.nx.length c1,.slice a2 r.ac.length c2] 35)) 134 #[.slice none 0 0,.slice none 0 0]
 rw [World.size_alloc] at kr
 obtain⟨W0,hW0⟩:∃ W0,(w.alloc (.cells #[.int .i64 r.st,.slice a1 r.nx.length c1,.slice a2 r.ac.length c2] 35)).alloc (.cells #[.slice none 0 0,.slice none 0 0] 134)=W0:=⟨_,rfl⟩
 have HN:=Lib.hid (hN.below BB)
 have HF:=Lib.hid (hF.below BB)
 have HBA:=Lib.hid BB
 have K0:=Lib.hid k0
 have KR:=Lib.hid kr
 rw [hW0] at HN HF HBA K0 KR
 obtain⟨g,hg⟩:∃ g,w.heap.size=g:=⟨_,rfl⟩
 have HG:=Lib.hid hg
 have HW0:=Lib.hid hW0
 rw [hg] at K0 KR
 have f0:W0.cell? ⟨g,0,none⟩=some (.int .i64 r.st):=K0.out.cell 0
 have HX:=Lib.hid (exploreI_any r ok g a1 c1 a2 c2 W0 K0.out HN.out HF.out)
 clear hN hF BA BB k0 kr hW0 hg ok
 go_enter Tryz.func76,Tryz.ntmps76
 go_upto_region 1 with fail
 rw [HW0.out,HG.out]
 clear HW0
 go_wp2_with fail
 refine HX.out.mono ?_
 rintro e w2 ⟨m,b1,d1,b2,d2,hst,rfl,hn,hf,hb⟩
 have KR2:=Lib.hid (Blk.below KR.out hb)
 have xf:=KR2.out.frozen
 have y0:w2.cell? ⟨g+1,0,none⟩=some (.slice none 0 0):=KR2.out.cell 0
 have y1:w2.cell? ⟨g+1,1,none⟩=some (.slice none 0 0):=KR2.out.cell 1
 have HFIN:Hid (Blk (g+1) 134 #[.slice b1 m d1,.slice b2 m d2] ((w2.setCell ⟨g+1,0,none⟩ (.slice b1 m d1)).setCell ⟨g+1,1,none⟩ (.slice b2 m d2))∧GrP (toA r) w (.returned (.agg #[.slice b1 m d1,.slice b2 m d2])) ((w2.setCell ⟨g+1,0,none⟩ (.slice b1 m d1)).setCell ⟨g+1,1,none⟩ (.slice b2 m d2))):=Lib.hid (by
  have q:=((KR2.out.put 0 (.slice b1 m d1)).put 1 (.slice b2 m d2))
  have hg2:=(grown_set w2 (g+1) 0 (.slice b1 m d1)).trans (grown_set (w2.setCell ⟨g+1,0,none⟩ (.slice b1 m d1)) (g+1) 1 (.slice b2 m d2))
  have hlt:∀ b,W0.heap.size≤b→(some (g+1):Option Nat)≠some b:=fun b hb e=>by
   injection e with e
   have:=KR.out.lt
   omega
  have hw:w.heap.size≤g+1:=by have:=HG.out;omega
  refine⟨q,m,b1,d1,b2,d2,hst,rfl,?_,?_,?_⟩
  ·exact Own1.base (own_grown hn hg2 (fun b hb=>hlt b (own_lt hn b hb).1)) HBA.out.size
  ·exact Own1.base (own_grown hf hg2 (fun b hb=>hlt b (own_lt hf b hb).1)) HBA.out.size
  ·exact((HBA.out.trans (hb.mono HBA.out.size)).setCell (p:=⟨g+1,0,none⟩) hw _).setCell (p:=⟨g+1,1,none⟩) hw _)
 clear hst hn hf hb
 go_wp2
 exact bodyPost_ret (v:= .agg #[.slice b1 m d1,.slice b2 m d2]) (resGO rfl HFIN.out.1) rfl HFIN.out.2
open Go.RowKit
def arU (ar:Nat→Nat × Nat) (t:Nat) (p:Nat × Nat):Nat→Nat × Nat:=fun k=>if k=t then p else ar k
def ArOk (W:List (List Nat)) (ar:Nat→Nat × Nat) (L:Nat):Prop:=∀ k,0<k→k<L→W.getD k []=W.getD (ar k).1 []++ [(ar k).2]∧(ar k).1<k∧(ar k).2<11
theorem ArOk.snoc {W:List (List Nat)} {ar:Nat→Nat × Nat} {L i c:Nat} (h:ArOk W ar L) (hl:W.length=L) (hi:i<L) (hc:c<11):ArOk (W++ [W.getD i []++ [c]]) (arU ar L (i,c)) (L+1):=fun k h0 hk=>by
 unfold arU
 by_cases e:k=L
 ·rw [if_pos e,e]
  dsimp only
  refine⟨?_,hi,hc⟩
  rw [getD_app (l:=W) (i:=i) (by omega),←hl]
  exact getD_end
 ·rw [if_neg e]
  have h1:=h k h0 (by omega)
  refine⟨?_,h1.2⟩
  rw [getD_app (by omega),getD_app (by omega)]
  exact h1.1
open Go.RowKit
theorem id_cls (A:Aut):Snd A id:=fun s t _ _ e=>by cases e;exact Eqv.refl _ _
open Go.RowKit
def GotP (B:Aut) (N n:Nat) (e:Ending) (w':World):Prop:=∃(G:Aut) (cl:Nat→Nat) (k LB CB AB:Nat),G.Ok∧Eqv G B G.s0 B.s0∧Cls G cl∧Stop G cl k∧k≤n∧e= .returned (.tuple #[.agg #[.int .i64 0,.slice (some ⟨LB,0,none⟩) k k,.slice (some ⟨AB,0,none⟩) k k],.int .i64 0])∧MadeD w' N LB CB AB k (fun j=>((outN G cl k).getD (j / 11) []).getD (j % 11) 0) (fun i=>(outF G cl k).getD i false)
def GotZ (e:Ending):Prop:=e= .returned (.tuple #[.agg #[.int .i64 0,.slice none 0 0,.slice none 0 0],.int .i64 1])
def GotQ (r:RawD) (w:World) (e:Ending) (w':World):Prop:=((okD r=false∧GotZ e)∨(okD r=true∧GotP (toA r) w.heap.size r.nx.length e w'))∧Below w.heap.size w w'
theorem resP3 {f:Func} {W:World} {tm:Array Value} {B:Nat} {t t0:TypeId} {a b c x:Value} (hf:f.results= #[.cell 2 t0,.tmp 3]) (hu:Tryz.prog.underlying t0=Tryz.prog.underlying 35) (h9:t0=35) (t2:tm[2]?.getD undef= .pointer (some ⟨B,0,none⟩)) (t3:tm[3]?.getD undef=x) (h:Blk B t #[a,b,c] W):
  (results f tm).run Tryz.prog W= .ok (.tuple #[.agg #[a,b,c],x]) W:=by
 subst h9
 have a0:W.cell? ⟨B,0,none⟩=some a:=h.cell 0
 have a1:W.cell? ⟨B,1,none⟩=some b:=h.cell 1
 have a2:W.cell? ⟨B,2,none⟩=some c:=h.cell 2
 simp [results,hf,go_sem,t2,t3,a0,a1,a2]
theorem resMP {W:World} {tm:Array Value} {B:Nat} {t:TypeId} {a b c x:Value} (t2:tm[2]?.getD undef= .pointer (some ⟨B,0,none⟩)) (t3:tm[3]?.getD undef=x) (h:Blk B t #[a,b,c] W):
  (results Tryz.f47 tm).run Tryz.prog W= .ok (.tuple #[.agg #[a,b,c],x]) W:=by
 have a0:W.cell? ⟨B,0,none⟩=some a:=h.cell 0
 have a1:W.cell? ⟨B,1,none⟩=some b:=h.cell 1
 have a2:W.cell? ⟨B,2,none⟩=some c:=h.cell 2
 simp [results,Tryz.f47,go_sem,t2,t3,a0,a1,a2]
theorem MadeD.grown {w w':World} {base LB CB AB k:Nat} {nx:Nat→Nat} {ac:Nat→Bool} {row:Option Nat} (h:MadeD w base LB CB AB k nx ac) (hg:w.grownBy w' row) (hne:∀ b,base≤b→row≠some b):MadeD w' base LB CB AB k nx ac:=
 ⟨h.l.grown hg (hne _ h.lL),h.c.grown hg (hne _ h.lC),h.a.grown hg (hne _ h.lA),h.lL,h.lC,h.lA⟩
theorem MadeD.base {w:World} {base base' LB CB AB k:Nat} {nx:Nat→Nat} {ac:Nat→Bool} (h:MadeD w base LB CB AB k nx ac) (hb:base'≤base):MadeD w base' LB CB AB k nx ac:=⟨h.l,h.c,h.a,Nat.le_trans hb h.lL,Nat.le_trans hb h.lC,Nat.le_trans hb h.lA⟩
theorem MadeD.below {w w':World} {base LB CB AB k:Nat} {nx:Nat→Nat} {ac:Nat→Bool} (h:MadeD w base LB CB AB k nx ac) (hb:Below w.heap.size w w'):MadeD w' base LB CB AB k nx ac:=⟨h.l.below hb,h.c.below hb,h.a.below hb,h.lL,h.lC,h.lA⟩
set_option maxRecDepth 1000000 in
set_option maxHeartbeats 16000000 in
theorem minP_any (r:RawD) (a1:Option Addr) (c1:Nat) (a2:Option Addr) (c2:Nat) (w:World) (hN:RdRows w (.slice a1 r.nx.length c1) r.nx) (hF:Rd 1 encO w (.slice a2 r.ac.length c2) r.ac):
  Calls Tryz.prog 47 #[.agg #[.int .i64 r.st,.slice a1 r.nx.length c1,.slice a2 r.ac.length c2]] w (GotQ r w):=by
 have BA:=(Below.refl w.heap.size w).alloc (Nat.le_refl _) (.cells #[.int .i64 r.st,.slice a1 r.nx.length c1,.slice a2 r.ac.length c2] 35)
 have BB:=BA.alloc BA.size (.cells #[.int .i64 0,.slice none 0 0,.slice none 0 0] 35)
 have k0:=(Blk.new w 35 #[.int .i64 r.st,.slice a1 r.nx.length c1,.slice a2 r.ac.length c2]).alloc (.cells #[.int .i64 0,.slice none 0 0,.slice none 0 0] 35)
 have kr:=Blk.new (w.alloc (.cells #[.int .i64 r.st,.slice a1 r.nx.length c1,.slice a2 r.ac.length c2] 35)) 35 #[.int .i64 0,.slice none 0 0,.slice none 0 0]
 rw [World.size_alloc] at kr
 obtain⟨W0,hW0⟩:∃ W0,(w.alloc (.cells #[.int .i64 r.st,.slice a1 r.nx.length c1,.slice a2 r.ac.length c2] 35)).alloc (.cells #[.int .i64 0,.slice none 0 0,.slice none 0 0] 35)=W0:=⟨_,rfl⟩
 have HN:=Lib.hid (hN.below BB)
 have HF:=Lib.hid (hF.below BB)
 have HBA:=Lib.hid BB
 have K0:=Lib.hid k0
 have KR:=Lib.hid kr
 rw [hW0] at HN HF HBA K0 KR
 obtain⟨g,hg⟩:∃ g,w.heap.size=g:=⟨_,rfl⟩
 have HG:=Lib.hid hg
 have HW0:=Lib.hid hW0
 rw [hg] at K0 KR
 have f0:W0.cell? ⟨g,0,none⟩=some (.int .i64 r.st):=K0.out.cell 0
 have f1:W0.cell? ⟨g,1,none⟩=some (.slice a1 r.nx.length c1):=K0.out.cell 1
 have f2:W0.cell? ⟨g,2,none⟩=some (.slice a2 r.ac.length c2):=K0.out.cell 2
 have z0:=KR.out.lt
 clear hN hF BA BB k0 kr hW0 hg
 go_enter Tryz.func47,Tryz.ntmps47
 go_upto_region 1 with fail
 rw [HW0.out,HG.out]
 clear HW0
 go_wp2_with fail
 refine(validP_any r a1 c1 a2 c2 W0 HN.out HF.out).mono ?_
 rintro e wv ⟨rfl,bv⟩
 have HBV:=Lib.hid bv
 have KV:=Lib.hid (Blk.below K0.out bv)
 have KRV:=Lib.hid (Blk.below KR.out bv)
 have zv:=bv.size
 clear bv f0 f1 f2
 cases hok:okD r with
 |false=>
  have HOK:=Lib.hid hok
  have xf:=KRV.out.frozen
  have y0:wv.cell? ⟨g+1,0,none⟩=some (.int .i64 0):=KRV.out.cell 0
  have y1:wv.cell? ⟨g+1,1,none⟩=some (.slice none 0 0):=KRV.out.cell 1
  have y2:wv.cell? ⟨g+1,2,none⟩=some (.slice none 0 0):=KRV.out.cell 2
  have HFIN:Hid (Blk (g+1) 35 #[.int .i64 0,.slice none 0 0,.slice none 0 0] (put3 wv (g+1) (.int .i64 0) (.slice none 0 0) (.slice none 0 0))∧Below w.heap.size w (put3 wv (g+1) (.int .i64 0) (.slice none 0 0) (.slice none 0 0))):=Lib.hid (by
   obtain⟨p1,p2⟩:=put3_ok (n:=w.heap.size) (a':= .int .i64 0) (b':= .slice none 0 0) (c':= .slice none 0 0) KRV.out (by have:=HG.out;omega)
   exact⟨p1,(HBA.out.trans (HBV.out.mono HBA.out.size)).trans p2⟩)
  clear hok
  go_wp2
  exact bodyPost_ret (v:= .tuple #[.agg #[.int .i64 0,.slice none 0 0,.slice none 0 0],.int .i64 1]) (resMP rfl rfl HFIN.out.1) rfl ⟨.inl ⟨HOK.out,rfl⟩,HFIN.out.2⟩
 |true=>
  have HOK:=Lib.hid hok
  have HDK:=Lib.hid (okD_iff.1 hok).1
  have hn2:=(okD_iff.1 hok).2
  have HX:=Lib.hid (graphOf_any r HDK.out a1 c1 a2 c2 wv (HN.out.below HBV.out) (HF.out.below HBV.out))
  have f0:wv.cell? ⟨g,0,none⟩=some (.int .i64 r.st):=KV.out.cell 0
  have f1:wv.cell? ⟨g,1,none⟩=some (.slice a1 r.nx.length c1):=KV.out.cell 1
  have f2:wv.cell? ⟨g,2,none⟩=some (.slice a2 r.ac.length c2):=KV.out.cell 2
  clear hok
  go_wp2_with fail
  refine HX.out.mono ?_
  rintro e w3 ⟨m,b1,d1,b2,d2,hst,rfl,hn,hf,hb⟩
  have HST:=Lib.hid hst
  have hmle:m≤r.nx.length:=hst.le HDK.out.ok
  have HGN:=Lib.hid (minA_n (toA r) id m)
  have HMG:=Lib.hid (minimalG_any (minA (toA r) id m) hst.minOk hst.bf m (minA_n _ _ _) (by omega) (outN (toA r) id m) (outN_len _ _ _) (fun s c _ _=>rfl) (outF (toA r) id m) (outF_len _ _ _) (fun s _=>rfl) b1 d1 b2 d2 w3 (hn.rd encG_len) (hf.rd encO_len))
  have B3:=Lib.hid hb
  clear hst hn hf hb HX f0 f1 f2
  go_wp2_with fail
  refine HMG.out.mono ?_
  rintro e wm ⟨cl,k,LB,CB,AB,hcl,hst,rfl,hmd,hb⟩
  have KRM:=Lib.hid (Blk.below (Blk.below KRV.out B3.out) hb)
  have xf:=KRM.out.frozen
  have y0:wm.cell? ⟨g+1,0,none⟩=some (.int .i64 0):=KRM.out.cell 0
  have y1:wm.cell? ⟨g+1,1,none⟩=some (.slice none 0 0):=KRM.out.cell 1
  have y2:wm.cell? ⟨g+1,2,none⟩=some (.slice none 0 0):=KRM.out.cell 2
  have HFIN:Hid (Blk (g+1) 35 #[.int .i64 0,.slice (some ⟨LB,0,none⟩) k k,.slice (some ⟨AB,0,none⟩) k k] (put3 wm (g+1) (.int .i64 0) (.slice (some ⟨LB,0,none⟩) k k) (.slice (some ⟨AB,0,none⟩) k k))∧GotQ r w (.returned (.tuple #[.agg #[.int .i64 0,.slice (some ⟨LB,0,none⟩) k k,.slice (some ⟨AB,0,none⟩) k k],.int .i64 0])) (put3 wm (g+1) (.int .i64 0) (.slice (some ⟨LB,0,none⟩) k k) (.slice (some ⟨AB,0,none⟩) k k))):=Lib.hid (by
   obtain⟨p1,p2⟩:=put3_ok (n:=w.heap.size) (a':= .int .i64 0) (b':= .slice (some ⟨LB,0,none⟩) k k) (c':= .slice (some ⟨AB,0,none⟩) k k) KRM.out (by have:=HG.out;omega)
   have hg:=put3_grown wm (g+1) (.int .i64 0) (.slice (some ⟨LB,0,none⟩) k k) (.slice (some ⟨AB,0,none⟩) k k)
   have hgv:g+1<w3.heap.size:=Nat.lt_of_lt_of_le (Nat.lt_of_lt_of_le z0 zv) B3.out.size
   have hwv:w.heap.size≤w3.heap.size:=by have:=HG.out;omega
   have hkm:k≤m:=by have:=hst.le HST.out.minOk;rw [HGN.out] at this;exact this
   refine⟨p1,.inr ⟨HOK.out,minA (toA r) id m,cl,k,LB,CB,AB,HST.out.minOk,HST.out.start HDK.out.ok (id_cls _),hcl,hst,by omega,rfl,(hmd.grown hg (fun b hb e=>by injection e with e;omega)).base hwv⟩,?_⟩
   exact(((HBA.out.trans (HBV.out.mono HBA.out.size)).trans (B3.out.mono (Nat.le_trans HBA.out.size zv))).trans (hb.mono hwv)).trans p2)
  clear hcl hst hmd hb
  go_wp2
  exact bodyPost_ret (v:= .tuple #[.agg #[.int .i64 0,.slice (some ⟨LB,0,none⟩) k k,.slice (some ⟨AB,0,none⟩) k k],.int .i64 0]) (resMP rfl rfl HFIN.out.1) rfl HFIN.out.2
open Go.RowKit
def mkR (nx:List (List Nat)) (ac:List Bool):RawD:=⟨0,nx.map (fun x=>x.map Int.ofNat),ac⟩
theorem mkR_toA (nx:List (List Nat)) (ac:List Bool):toA (mkR nx ac)=mkA nx ac:=by
 unfold toA mkR mkA
 dsimp only
 rw [List.length_map]
 congr 1
 funext s c
 rw [List.getD_eq_getElem?_getD (l:=List.map _ nx),List.getElem?_map,List.getD_eq_getElem?_getD (l:=nx)]
 cases nx[s]? with
 |none=>simp
 |some x=>
  show((x.map Int.ofNat).getD c 0).toNat=x.getD c 0
  rw [List.getD_eq_getElem?_getD,List.getElem?_map,List.getD_eq_getElem?_getD]
  cases x[c]? <;>rfl
theorem fn_rd1 {α:Type} {enc:α→List Value} {w:World} {B n:Nat} {t:TypeId} {f:Nat→Value} (h:Fn B t n f w) (hn:n≤1000000) (u m cp:Nat) (hm:u+m≤n) (hcp:m≤cp) (hcp2:cp≤1000000) (l:List α) (hl:l.length=m) (he:∀ i x,l[i]? =some x→enc x= [f (u+i)]):Rd 1 enc w (.slice (some ⟨B,u,none⟩) m cp) l:=by
 subst hl
 refine⟨⟨_,cp,rfl,hcp,by omega,fun _=>⟨B,u,rfl,h.lt,fun i x hx j v hv=>?_⟩⟩,fun k c hc=>by cases hc⟩
 rw [he i x hx] at hv
 have hj:j=0:=by have:=(List.getElem?_eq_some_iff.1 hv).1;simp at this;exact this
 subst hj
 simp at hv
 subst hv
 have hi:=(List.getElem?_eq_some_iff.1 hx).1
 rw [Nat.mul_one,Nat.add_zero]
 exact h.cell (by omega)
theorem made_rows {w:World} {N LB CB AB k:Nat} {nx:List (List Nat)} {ac:List Bool} (h:MadeD w N LB CB AB k (fun j=>(nx.getD (j / 11) []).getD (j % 11) 0) (fun i=>ac.getD i false)) (hk:k≤2000) (hn:nx.length=k) (hr:∀ x∈nx,x.length=11) (ha:ac.length=k):RdRows w (.slice (some ⟨LB,0,none⟩) (mkR nx ac).nx.length k) (mkR nx ac).nx∧Rd 1 encO w (.slice (some ⟨AB,0,none⟩) (mkR nx ac).ac.length k) (mkR nx ac).ac:=by
 have hlen:(mkR nx ac).nx.length=k:=by show(nx.map _).length=k;rw [List.length_map,hn]
 have halen:(mkR nx ac).ac.length=k:=ha
 rw [hlen,halen]
 refine⟨⟨(List.range k).map fun i=>(⟨some ⟨CB,i*11,none⟩,11,11⟩:RawS),?_,by rw [List.length_map,List.length_range,hlen],fun i h1 h2=>?_⟩,?_⟩
 ·refine fn_rd1 h.l (by omega) 0 k k (by omega) (Nat.le_refl _) (by omega) _ (by rw [List.length_map,List.length_range]) (fun i x hx=>?_)
  have hi:=(List.getElem?_eq_some_iff.1 hx).1
  have he:=(List.getElem?_eq_some_iff.1 hx).2
  rw [List.getElem_map,List.getElem_range] at he
  subst he
  rw [Nat.zero_add]
  rfl
 ·rw [List.length_map,List.length_range] at h1
  have hin:i<nx.length:=by omega
  have e1:((List.range k).map fun i=>(⟨some ⟨CB,i*11,none⟩,11,11⟩:RawS))[i]'(by rw [List.length_map,List.length_range];exact h1)=⟨some ⟨CB,i*11,none⟩,11,11⟩:=by rw [List.getElem_map,List.getElem_range]
  rw [e1]
  have e2:(mkR nx ac).nx[i]'h2=(nx[i]'hin).map Int.ofNat:=List.getElem_map _
  rw [e2]
  have hx11:=hr _ (List.getElem_mem hin)
  refine fn_rd1 h.c (by omega) (i*11) 11 11 (by omega) (Nat.le_refl _) (by omega) _ (by rw [List.length_map,hx11]) (fun c x hx=>?_)
  rw [List.getElem?_map] at hx
  have hc:c<11:=by
   rcases Nat.lt_or_ge c 11 with h5|h5
   ·exact h5
   ·rw [List.getElem?_eq_none (by omega)] at hx;cases hx
  rw [List.getElem?_eq_getElem (by omega)] at hx
  injection hx with hx
  subst hx
  show [Value.int .i64 _]= [Value.int .i64 (((nx.getD ((i*11+c) / 11) []).getD ((i*11+c) % 11) 0:Nat):Int)]
  rw [show(i*11+c) / 11=i by omega,show(i*11+c) % 11=c by omega,List.getD_eq_getElem?_getD (l:=nx),List.getElem?_eq_getElem hin]
  show _= [Value.int .i64 (((nx[i]'hin).getD c 0:Nat):Int)]
  rw [List.getD_eq_getElem?_getD,List.getElem?_eq_getElem (by omega)]
  rfl
 ·refine fn_rd1 h.a (by omega) 0 k k (by omega) (Nat.le_refl _) (by omega) _ ha (fun i x hx=>?_)
  rw [Nat.zero_add]
  show [Value.bool x]= [Value.bool (ac.getD i false)]
  rw [List.getD_eq_getElem?_getD,show ac[i]? =some x from hx]
  rfl
theorem made_ok {G:Aut} {cl:Nat→Nat} {k:Nat} (hs:Stop G cl k) (hk:k≤2000):okD (mkR (outN G cl k) (outF G cl k))=true:=by
 have hl:(mkR (outN G cl k) (outF G cl k)).nx.length=k:=by show(List.map _ _).length=k;rw [List.length_map,outN_len]
 have hmin:=hs.minOk
 rw [okD_iff]
 refine⟨⟨by rw [hl];exact hs.pos,by rw [hl];omega,by rw [hl];exact outF_len _ _ _,by show(0:Int)≤0;omega,by rw [hl];show(0:Int)<(k:Int);have:=hs.pos;omega,fun x hx=>?_,fun x hx y hy=>?_⟩,by rw [hl];exact hk⟩
 ·obtain⟨z,hz,rfl⟩:=List.mem_map.1 hx
  rw [List.length_map]
  unfold outN at hz
  obtain⟨i,_,rfl⟩:=List.mem_map.1 hz
  exact rowK_len _ _ _ _ 11
 ·rw [hl]
  obtain⟨z,hz,rfl⟩:=List.mem_map.1 hx
  obtain⟨v,hv,rfl⟩:=List.mem_map.1 hy
  obtain⟨s,hsl,hse⟩:=List.getElem_of_mem hz
  obtain⟨c,hcl,hce⟩:=List.getElem_of_mem hv
  have hz11:z.length=11:=by
   unfold outN at hz
   obtain⟨i,_,rfl⟩:=List.mem_map.1 hz
   exact rowK_len _ _ _ _ 11
  rw [outN_len] at hsl
  have:=hmin.go s c (by rw [minA_n];exact hsl) (by omega)
  rw [minA_n] at this
  have e:(minA G cl k).d s c=v:=by
   show((outN G cl k).getD s []).getD c 0=v
   rw [List.getD_eq_getElem?_getD (l:=outN G cl k),List.getElem?_eq_getElem (by rw [outN_len];exact hsl),hse]
   show z.getD c 0=v
   rw [List.getD_eq_getElem?_getD,List.getElem?_eq_getElem hcl,hce]
   rfl
  rw [e] at this
  exact⟨by show(0:Int)≤(v:Int);omega,by show(v:Int)<(k:Int);omega⟩
theorem GotP.raw {B:Aut} {N n:Nat} {e:Ending} {w':World} (h:GotP B N n e w') (hn:n≤2000):∃(r:RawD) (x1 x2:Nat),okD r=true∧r.st=0∧Eqv (toA r) B (toA r).s0 B.s0∧e= .returned (.tuple #[.agg #[.int .i64 r.st,.slice (some ⟨x1,0,none⟩) r.nx.length r.nx.length,.slice (some ⟨x2,0,none⟩) r.ac.length r.ac.length],.int .i64 0])∧RdRows w' (.slice (some ⟨x1,0,none⟩) r.nx.length r.nx.length) r.nx∧Rd 1 encO w' (.slice (some ⟨x2,0,none⟩) r.ac.length r.ac.length) r.ac∧r.nx.length≤n∧∃(G:Aut) (cl:Nat→Nat) (k:Nat),G.Ok∧Eqv G B G.s0 B.s0∧Cls G cl∧Stop G cl k∧r=mkR (outN G cl k) (outF G cl k):=by
 obtain⟨G,cl,k,LB,CB,AB,hG,heq,hcl,hst,hkn,he,hmd⟩:=h
 have hl:(mkR (outN G cl k) (outF G cl k)).nx.length=k:=by show(List.map _ _).length=k;rw [List.length_map,outN_len]
 have ha:(mkR (outN G cl k) (outF G cl k)).ac.length=k:=outF_len _ _ _
 obtain⟨h1,h2⟩:=made_rows hmd (by omega) (outN_len _ _ _) (fun x hx=>by
  unfold outN at hx
  obtain⟨i,_,rfl⟩:=List.mem_map.1 hx
  exact rowK_len _ _ _ _ 11) (outF_len _ _ _)
 refine⟨mkR (outN G cl k) (outF G cl k),LB,AB,made_ok hst (by omega),rfl,?_,?_,?_,?_,by rw [hl];exact hkn,G,cl,k,hG,heq,hcl,hst,rfl⟩
 ·rw [mkR_toA]
  exact(hst.start hG hcl.snd).trans heq
 ·rw [he,hl,ha]
  rfl
 ·rw [hl] at h1 ⊢;exact h1
 ·rw [ha] at h2 ⊢;exact h2
open Go.RowKit
def IsMin (B:Aut) (q:RawD):Prop:=∃(G:Aut) (cl:Nat→Nat) (k:Nat),G.Ok∧Eqv G B G.s0 B.s0∧Cls G cl∧Stop G cl k∧k≤2000∧q=mkR (outN G cl k) (outF G cl k)
theorem IsMin.uniq {B:Aut} {p q:RawD} (h:IsMin B p) (h':IsMin B q):p=q:=by
 obtain⟨G,cl,k,hG,he,hc,hs,_,rfl⟩:=h
 obtain⟨G',cl',k',hG',he',hc',hs',_,rfl⟩:=h'
 obtain⟨rfl,h1,h2⟩:=canon hG hG' hc hc' (he.trans he'.symm) hs hs'
 rw [h1,h2]
theorem IsMin.ok {B:Aut} {q:RawD} (h:IsMin B q):okD q=true:=by
 obtain⟨G,cl,k,_,_,_,hs,hk,rfl⟩:=h
 exact made_ok hs hk
theorem IsMin.eqv {B:Aut} {q:RawD} (h:IsMin B q):Eqv (toA q) B (toA q).s0 B.s0:=by
 obtain⟨G,cl,k,hG,he,hc,hs,_,rfl⟩:=h
 rw [mkR_toA]
 exact(hs.start hG hc.snd).trans he
theorem IsMin.of {A B:Aut} {q:RawD} (h:IsMin A q) (he:Eqv A B A.s0 B.s0):IsMin B q:=by
 obtain⟨G,cl,k,hG,h1,hc,hs,hk,rfl⟩:=h
 exact⟨G,cl,k,hG,h1.trans he,hc,hs,hk,rfl⟩
theorem IsMin.run {r q:RawD} (h:IsMin (toA r) q) (hok:okD r=true) (s:Str):runP q s=runP r s:=by
 unfold runP
 rw [h.ok,hok,h.eqv _ (word_wdN s)]
def zeroRA:RawD:=⟨0,[],[]⟩
def GotRaw (B:Aut) (ok:Bool) (n:Nat) (q:RawD) (pe:Int):Prop:=(ok=false∧pe=1∧q=zeroRA)∨(ok=true∧pe=0∧IsMin B q∧q.nx.length≤n)
theorem GotRaw.uniq {B:Aut} {ok:Bool} {n m:Nat} {p q:RawD} {x y:Int} (h:GotRaw B ok n p x) (h':GotRaw B ok m q y):p=q∧x=y:=by
 rcases h with⟨a1,a2,a3⟩|⟨a1,a2,a3,_⟩<;>rcases h' with⟨b1,b2,b3⟩|⟨b1,b2,b3,_⟩
 ·exact⟨by rw [a3,b3],by rw [a2,b2]⟩
 ·rw [a1] at b1;cases b1
 ·rw [a1] at b1;cases b1
 ·exact⟨a3.uniq b3,by rw [a2,b2]⟩
def Raws (q:RawD) (pe:Int) (e:Ending) (w':World):Prop:=∃(a1:Option Addr) (c1:Nat) (a2:Option Addr) (c2:Nat),e= .returned (.tuple #[.agg #[.int .i64 q.st,.slice a1 q.nx.length c1,.slice a2 q.ac.length c2],.int .i64 pe])∧RdRows w' (.slice a1 q.nx.length c1) q.nx∧Rd 1 encO w' (.slice a2 q.ac.length c2) q.ac
theorem raws_zero (pe:Int) (w':World):Raws zeroRA pe (.returned (.tuple #[.agg #[.int .i64 0,.slice none 0 0,.slice none 0 0],.int .i64 pe])) w':=
 ⟨none,0,none,0,rfl,⟨[],rd_nil w',rfl,fun i h _=>by simp at h⟩,rd_nil w'⟩
theorem GotQ.raws {r:RawD} {w w':World} {e:Ending} (h:GotQ r w e w'):∃ q pe,Raws q pe e w'∧GotRaw (toA r) (okD r) r.nx.length q pe:=by
 rcases h.1 with⟨h1,h2⟩|⟨h1,h2⟩
 ·have h2:e= .returned (.tuple #[.agg #[.int .i64 0,.slice none 0 0,.slice none 0 0],.int .i64 1]):=h2
  subst h2
  exact⟨zeroRA,1,raws_zero 1 w',.inl ⟨h1,rfl,rfl⟩⟩
 ·have hn:=(okD_iff.1 h1).2
  obtain⟨q,x1,x2,_,_,_,he,hN,hF,hl,G,cl,k,hG,heq,hc,hs,hq⟩:=h2.raw hn
  refine⟨q,0,⟨_,_,_,_,he,hN,hF⟩,.inr ⟨h1,rfl,⟨G,cl,k,hG,heq,hc,hs,?_,hq⟩,hl⟩⟩
  have:q.nx.length=k:=by rw [hq];show(List.map _ _).length=k;rw [List.length_map,outN_len]
  omega
theorem rd_ofNat {w:World} {v:Value} {l:List Nat} (h:Rd 1 encN w v l):Rd 1 encI w v (l.map Int.ofNat):=by
 obtain⟨⟨a,c,hv,h1,h2,h3⟩,h4⟩:=h
 refine⟨⟨a,c,by rw [List.length_map];exact hv,by rw [List.length_map];exact h1,h2,fun hne=>?_⟩,h4⟩
 obtain⟨b,off,ha,hlt,hc⟩:=h3 (fun e=>hne (by rw [e];rfl))
 refine⟨b,off,ha,hlt,fun i x hx j u hu=>?_⟩
 rw [List.getElem?_map] at hx
 cases hy:l[i]? with
 |none=>rw [hy] at hx;cases hx
 |some y=>
  rw [hy] at hx
  injection hx with hx
  subst hx
  exact hc i y hy j u hu
theorem GotM.raws {r:RawD} {w w':World} {e:Ending} (h:GotM r w e w'):∃ q pe,Raws q pe e w'∧GotRaw (toA r) (okD r) r.nx.length q pe:=by
 rcases h.1 with⟨h1,h2⟩|⟨h1,m,cl,a1,c1,a2,c2,raws,hc,hs,he,hN,hrows,_,hF⟩
 ·have h2:e= .returned (.tuple #[.agg #[.int .i64 0,.slice none 0 0,.slice none 0 0],.int .i64 1]):=h2
  subst h2
  exact⟨zeroRA,1,raws_zero 1 w',.inl ⟨h1,rfl,rfl⟩⟩
 ·have hd:=okD_iff.1 h1
  have hmn:m≤r.nx.length:=hs.le hd.1.ok
  have hl:(mkR (outN (toA r) cl m) (outF (toA r) cl m)).nx.length=m:=by show(List.map _ _).length=m;rw [List.length_map,outN_len]
  have ha:(mkR (outN (toA r) cl m) (outF (toA r) cl m)).ac.length=m:=outF_len _ _ _
  refine⟨mkR (outN (toA r) cl m) (outF (toA r) cl m),0,⟨a1,c1,a2,c2,by rw [he,hl,ha];rfl,?_,?_⟩,.inr ⟨h1,rfl,⟨toA r,cl,m,hd.1.ok,Eqv.refl _ _,hc,hs,by omega,rfl⟩,by rw [hl];exact hmn⟩⟩
  ·rw [hl]
   refine⟨raws,hN.rd encS_len,?_,fun i h5 h6=>?_⟩
   ·rw [hrows.len,outN_len,hl]
   ·have h7:i<(outN (toA r) cl m).length:=by rw [←hrows.len];exact h5
    have:=rd_ofNat (hrows.rd i h5 h7)
    have e2:(mkR (outN (toA r) cl m) (outF (toA r) cl m)).nx[i]'h6=((outN (toA r) cl m)[i]'h7).map Int.ofNat:=List.getElem_map _
    rw [e2]
    exact this
  ·rw [ha]
   exact hF.rd encO_len
end Go.Proofs.YtobapaodpcheiaaGreatDoor
