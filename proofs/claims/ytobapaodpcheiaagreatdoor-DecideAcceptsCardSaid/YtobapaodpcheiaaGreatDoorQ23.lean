/- What the row stands on, part 23. -/
import Derived.Test.YtobapaodpcheiaaGreatDoorQ22
namespace Go.Proofs.YtobapaodpcheiaaGreatDoor
open Go.RowKit
set_option linter.unusedVariables false
def nuF (cl:Nat→Nat) (s:Nat):Nat→Nat:=fun b=>if b∈(fr cl s).map cl then idx ((fr cl s).map cl) b+1 else 0
def i64F (f:Nat→Nat):Nat→Value:=fun i=> .int .i64 (f i:Nat)
theorem i64F_upd (f:Nat→Nat) (i x j:Nat):updB (i64F f) i (.int .i64 (x:Nat)) j=i64F (fun k=>if k=i then x else f k) j:=by
 unfold updB i64F
 by_cases h:j=i
 ·simp [h]
 ·simp [h]
theorem nuF_old {cl:Nat→Nat} {s:Nat} (h:cl s∈(fr cl s).map cl) (b:Nat):nuF cl (s+1) b=nuF cl s b:=by
 unfold nuF
 rw [fr_succ,fr_old h]
theorem nuF_new {cl:Nat→Nat} {s:Nat} (h:cl s ∉(fr cl s).map cl) (b:Nat):(if b=cl s then(fr cl s).length+1 else nuF cl s b)=nuF cl (s+1) b:=by
 unfold nuF
 rw [fr_succ,fr_new h,List.map_append]
 by_cases e:b=cl s
 ·subst e
  rw [if_pos rfl,if_pos (by simp)]
  show _=idx (List.map cl (fr cl s)++ [cl s]) (cl s)+1
  rw [idx_snoc_new h,List.length_map]
 ·rw [if_neg e]
  by_cases hm:b∈(fr cl s).map cl
  ·rw [if_pos hm,if_pos (List.mem_append_left _ hm)]
   show _=idx (List.map cl (fr cl s)++ [cl s]) b+1
   rw [idx_snoc_old hm]
  ·rw [if_neg hm,if_neg (by simp only [List.map_cons,List.map_nil,List.mem_append,List.mem_singleton];rintro(h5|h5);exact hm h5;exact e h5)]
def rvF (G:Aut) (cl:Nat→Nat) (F:List Nat):Nat→Nat:=fun j=>idx (F.map cl) (cl (G.d (F.getD (j / 11) 0) (j % 11)))
def cutF (g:Nat→Nat) (m:Nat):Nat→Nat:=fun j=>if j<m then g j else 0
theorem cutF_succ (g:Nat→Nat) (m j:Nat):(if j=m then g m else cutF g m j)=cutF g (m+1) j:=by
 unfold cutF
 by_cases e:j=m
 ·subst e;rw [if_pos rfl,if_pos (by omega)]
 ·rw [if_neg e]
  by_cases h:j<m
  ·rw [if_pos h,if_pos (by omega)]
  ·rw [if_neg h,if_neg (by omega)]
def boF (f:Nat→Bool):Nat→Value:=fun i=> .bool (f i)
def cutO (g:Nat→Bool) (m:Nat):Nat→Bool:=fun j=>if j<m then g j else false
theorem boF_upd (f:Nat→Bool) (i:Nat) (x:Bool) (j:Nat):updB (boF f) i (.bool x) j=boF (fun k=>if k=i then x else f k) j:=by
 unfold updB boF
 by_cases h:j=i
 ·simp [h]
 ·simp [h]
theorem cutO_succ (g:Nat→Bool) (m j:Nat):(if j=m then g m else cutO g m j)=cutO g (m+1) j:=by
 unfold cutO
 by_cases e:j=m
 ·subst e;rw [if_pos rfl,if_pos (by omega)]
 ·rw [if_neg e]
  by_cases h:j<m
  ·rw [if_pos h,if_pos (by omega)]
  ·rw [if_neg h,if_neg (by omega)]
structure MadeD (w:World) (base:Nat) (LB CB AB k:Nat) (nx:Nat→Nat) (ac:Nat→Bool):Prop where
 l:Fn LB 69 k (rowV CB) w
 c:Fn CB 3 (k*11) (i64F nx) w
 a:Fn AB 4 k (boF ac) w
 lL:base≤LB
 lC:base≤CB
 lA:base≤AB
def MinR (G:Aut) (w:World) (e:Ending) (w':World):Prop:=∃(cl:Nat→Nat) (k LB CB AB:Nat),Cls G cl∧Stop G cl k∧e= .returned (.tuple #[.agg #[.int .i64 0,.slice (some ⟨LB,0,none⟩) k k,.slice (some ⟨AB,0,none⟩) k k],.int .i64 0])∧MadeD w' w.heap.size LB CB AB k (fun j=>((outN G cl k).getD (j / 11) []).getD (j % 11) 0) (fun i=>(outF G cl k).getD i false)∧Below w.heap.size w w'
theorem resMG {W:World} {tm:Array Value} {B:Nat} {t:TypeId} {a b c d:Value} (t2:tm[2]?.getD undef= .pointer (some ⟨B,0,none⟩)) (t3:tm[3]?.getD undef=d) (h:Blk B t #[a,b,c] W):
  (results Tryz.f77 tm).run Tryz.prog W= .ok (.tuple #[.agg #[a,b,c],d]) W:=by
 have a0:W.cell? ⟨B,0,none⟩=some a:=h.cell 0
 have a1:W.cell? ⟨B,1,none⟩=some b:=h.cell 1
 have a2:W.cell? ⟨B,2,none⟩=some c:=h.cell 2
 simp [results,Tryz.f77,go_sem,t2,t3,a0,a1,a2]
theorem rv_out {G:Aut} (hG:G.Ok) {cl:Nat→Nat} {F:List Nat} {k:Nat} (hs:Stop G cl k) (hf:fdK G cl k=F) {j:Nat} (hj:j<k*11):rvF G cl F j=((outN G cl k).getD (j / 11) []).getD (j % 11) 0:=by
 have h1:j / 11<k:=by omega
 have h2:j % 11<11:=by omega
 rw [outN_get G cl h1,hs.rows hG h1,List.getD_eq_getElem?_getD (l:=List.map _ _),List.getElem?_map,List.getElem?_range h2,hf]
 rfl
theorem out_f {G:Aut} {cl:Nat→Nat} {F:List Nat} {k:Nat} (hf:fdK G cl k=F) {i:Nat} (hi:i<k):G.f (F.getD i 0)=(outF G cl k).getD i false:=by
 unfold outF
 rw [List.getD_eq_getElem?_getD (l:=List.map _ _),List.getElem?_map,List.getElem?_range hi,hf]
 rfl
set_option maxRecDepth 1000000 in
set_option maxHeartbeats 64000000 in
theorem minimalG_any (G:Aut) (hG:G.Ok) (hBf:Bf G) (n:Nat) (hgn:G.n=n) (hn:n≤2000) (l:List (List Nat)) (hl:l.length=n) (hd:∀ s c,s<n→c<11→(l.getD s []).getD c 0=G.d s c) (fl:List Bool) (hfl:fl.length=n) (hf:∀ s,s<n→fl.getD s false=G.f s) (a1:Option Addr) (c1:Nat) (a2:Option Addr) (c2:Nat) (w:World) (hR:Rd 11 encG w (.slice a1 n c1) l) (hO:Rd 1 encO w (.slice a2 n c2) fl):
  Calls Tryz.prog 77 #[.agg #[.slice a1 n c1,.slice a2 n c2]] w (MinR G w):=by
 subst hgn
 have h0:0<G.n:=by have:=hG.st;omega
 obtain⟨iI,hiI,hzI,hkI,hbI⟩:=info_parts Tryz.infoI
 have BA:=((Below.refl w.heap.size w).alloc (Nat.le_refl _) (.cells #[.slice a1 G.n c1,.slice a2 G.n c2] 134))
 have BB:=BA.alloc BA.size (.cells #[.int .i64 0,.slice none 0 0,.slice none 0 0] 35)
 have k0:=(Blk.new w 134 #[.slice a1 G.n c1,.slice a2 G.n c2]).alloc (.cells #[.int .i64 0,.slice none 0 0,.slice none 0 0] 35)
 have k2:=Blk.new (w.alloc (.cells #[.slice a1 G.n c1,.slice a2 G.n c2] 134)) 35 #[.int .i64 0,.slice none 0 0,.slice none 0 0]
 rw [World.size_alloc] at k2
 obtain⟨W0,hW0⟩:∃ W0,(w.alloc (.cells #[.slice a1 G.n c1,.slice a2 G.n c2] 134)).alloc (.cells #[.int .i64 0,.slice none 0 0,.slice none 0 0] 35)=W0:=⟨_,rfl⟩
 rw [hW0] at BB k0 k2
 have HR:=Lib.hid (hR.below BB)
 have HO:=Lib.hid (hO.below BB)
 have HW0:=Lib.hid hW0
 obtain⟨g,hg⟩:∃ g,w.heap.size=g:=⟨_,rfl⟩
 have HGG:=Lib.hid hg
 rw [hg] at k0 k2
 have K0:=Lib.hid k0
 have K2:=Lib.hid k2
 have HBB:=Lib.hid BB
 have HD:=Lib.hid hd
 have HL:=Lib.hid hl
 have HFL:=Lib.hid hfl
 have HF:=Lib.hid hf
 have HOK:=Lib.hid hG
 have HBF:=Lib.hid hBf
 have HCL:=Lib.hid (classesP_any G hG G.n rfl hn l hl hd fl hfl hf a1 c1 a2 c2 W0 HR.out HO.out)
 have m0:W0.cell? ⟨g,0,none⟩=some (.slice a1 G.n c1):=k0.cell 0
 have m1:W0.cell? ⟨g,1,none⟩=some (.slice a2 G.n c2):=k0.cell 1
 clear hR hO BA BB k0 k2 hW0 hg hd hl hfl hf hG hBf
 go_enter Tryz.func77,Tryz.ntmps77
 go_upto_region 1 with fail
 rw [HW0.out,HGG.out]
 clear HW0
 go_wp2_with fail
 refine HCL.out.mono ?_
 rintro e w1 ⟨A,vb,vt,P,rfl,hpm,hpb,hcls,hb1⟩
 have P1:=Lib.hid hpm
 have PB1:=Lib.hid hpb
 have CL1:=Lib.hid hcls
 have B1:=Lib.hid hb1
 have hLn:=hpb.len_le
 have hb00:=(hpb.b_ 0 h0).1
 obtain⟨pb,cb,hvb⟩:=hpm.ol.slice
 obtain⟨L,hL⟩:∃ L,P.l.length=L:=⟨_,rfl⟩
 have HLL:=Lib.hid hL
 rw [hL] at hvb hLn hb00
 have p3:w1.cell? ⟨A.p,3,none⟩=some (.slice pb L cb):=by rw [←hvb];exact hpm.kp.cell 3
 obtain⟨cl,hcl⟩:∃ cl,P.b=cl:=⟨_,rfl⟩
 have HCLB:=Lib.hid hcl
 rw [hcl] at CL1
 have HBL:Hid (∀ s,s<G.n→cl s<L):=Lib.hid (fun s hs=>by rw [←hcl,←hL];exact(hpb.b_ s hs).1)
 have hL2:¬ (2000:Int)<(L:Int):=by omega
 have hmk:∀ wx:World,(Instr.makeSlice 69 (.int .i64 (L:Int)) (.int .i64 (L:Int))).run Tryz.prog wx= .ok (.slice (some ⟨wx.heap.size,0,none⟩) L L) (wx.alloc (.cells (madeCells #[.int .i64 0] L) 3)):=fun wx=>by
  have:=make_fn (P:=Tryz.prog) 69 3 _ 1 8 Tryz.underlying69 Tryz.infoI (by omega) (by omega) L (by omega) wx
  rw [Nat.mul_one] at this
  exact this
 have bN:=(Below.refl w1.heap.size w1).alloc (Nat.le_refl _) (.cells (madeCells #[.int .i64 0] L) 3)
 have fN:=(fn_made w1 3 #[.int .i64 0] L (by decide)).congr (g:=i64F (nuF cl 0)) (fun i hi=>by simp [i64F,nuF,fr_zero,Nat.mod_one])
 obtain⟨NB,hNB⟩:∃ NB,w1.heap.size=NB:=⟨_,rfl⟩
 have HNB:=Lib.hid hNB
 obtain⟨w2,hw2⟩:∃ w2,w1.alloc (.cells (madeCells #[.int .i64 0] L) 3)=w2:=⟨_,rfl⟩
 rw [hw2] at bN fN
 rw [hNB] at fN bN
 have FN2:=Lib.hid fN
 have BN2:=Lib.hid bN
 have HW2:=Lib.hid hw2
 have HG1:=Lib.hid (Nat.lt_of_lt_of_le K2.out.lt hb1.size)
 have m0':w2.cell? ⟨g,0,none⟩=some (.slice a1 G.n c1):=by
  have h5:=Blk.belowAt (Blk.belowAt K0.out hb1 K0.out.lt) bN (by have:=HG1.out;omega)
  exact h5.cell 0
 clear hpm hpb hcls hb1 hvb hL hcl bN fN hNB hw2 m0 m1 HCL
 go_upto_region 6 with fail
 rw [HW2.out,HNB.out]
 clear hmk p3 HW2
 go_wp2_with fail
 go_loopw [6,32] (fun v6 v32 wr=>∃ s:Nat,s≤G.n∧v32= .int .i64 (s:Nat)∧Fn NB 3 L (i64F (nuF cl s)) wr∧Own1 1 encN wr NB 3 v6 (fr cl s)∧v6.ownBlock≠some NB∧Below NB w1 wr) (fun _ v32 _=>G.n - (intOf v32).toNat)
 case atStart=>exact⟨0,Nat.zero_le _,rfl,FN2.out,by rw [fr_zero];exact own1_nil _ _ _,(by intro e;cases e),BN2.out⟩
 case round=>
  rename World=>w3
  obtain⟨s,hs,rfl,hfn,hown,hne,hb⟩:=hrel
  obtain⟨p6,q6,hv6⟩:=hown.slice
  subst hv6
  have FN3:=Lib.hid hfn
  have O3:=Lib.hid hown
  have NE3:=Lib.hid hne
  have B3:=Lib.hid hb
  have z3:=hb.size
  have hfl3:=fr_len_le cl s
  clear hfn hown hne hb FN2 BN2 m0'
  obtain⟨FL,hFLe⟩:∃ FL,(fr cl s).length=FL:=⟨_,rfl⟩
  have HFLE:=Lib.hid hFLe
  rw [hFLe] at O3 NE3 hfl3 ⊢
  clear hFLe
  by_cases hlt:s<G.n
  ·have h9:(s:Int)<(G.n:Int):=by omega
   have HLT:=Lib.hid hlt
   have P3:=Lib.hid (P1.out.below (HNB.out▸B3.out))
   have hbs:=HBL.out s hlt
   have p2:w3.cell? ⟨A.p,2,none⟩=some (.slice (some ⟨A.b,0,none⟩) G.n G.n):=P3.out.kp.cell 2
   have pbc:w3.cell? ⟨A.b,s,none⟩=some (.int .i32 (cl s:Nat)):=by rw [P3.out.fb.cell hlt];show some (Value.int .i32 (P.b s:Nat))=_;rw [HCLB.out]
   have cn:=FN3.out.cell hbs
   have HMEM:Hid (∀ b,nuF cl s b=if b∈(fr cl s).map cl then idx ((fr cl s).map cl) b+1 else 0):=Lib.hid (fun b=>rfl)
   obtain⟨b,hbe⟩:∃ b,cl s=b:=⟨_,rfl⟩
   have HBE:=Lib.hid hbe
   rw [hbe] at hbs pbc cn
   have hb9:(b:Int)<(L:Int):=by omega
   by_cases hm:b∈(fr cl s).map cl
   ·have hv:nuF cl s b=idx ((fr cl s).map cl) b+1:=by rw [HMEM.out,if_pos hm]
    obtain⟨y,hy⟩:∃ y,idx ((fr cl s).map cl) b+1=y:=⟨_,rfl⟩
    have hy0:¬ y=0:=by omega
    have cn2:w3.cell? ⟨NB,b,none⟩=some (.int .i64 (y:Nat)):=by rw [cn];show some (Value.int .i64 (nuF cl s b:Nat))=_;rw [hv,hy]
    have t1:((y:Int)==0)=false:=by rw [beq_eq_false_iff_ne];omega
    have t2:(y==0)=false:=by rw [beq_eq_false_iff_ne];exact hy0
    have HN:=Lib.hid (And.intro (FN3.out.congr (g:=i64F (nuF cl (s+1))) (fun b' _=>by unfold i64F;rw [nuF_old (by rw [HBE.out];exact hm)])) (show fr cl (s+1)=fr cl s by rw [fr_succ,fr_old (by rw [HBE.out];exact hm)]))
    clear cn hm hv hy hy0 hbe
    go_wp2_with fail
    go_roundw
    case measure=>(have:=HLT.out);simp [intOf]<;>omega
    case rel=>exact⟨s+1,HLT.out,by(have:=HLT.out);go_num,HN.out.1,by rw [HN.out.2];exact O3.out,NE3.out,B3.out⟩
   ·have cn2:w3.cell? ⟨NB,b,none⟩=some (.int .i64 0):=by rw [cn];show some (Value.int .i64 (nuF cl s b:Nat))=_;rw [HMEM.out,if_neg hm];rfl
    have HFR:=Lib.hid (show fr cl (s+1)=fr cl s++ [s] by rw [fr_succ,fr_new (by rw [HBE.out];exact hm)])
    have HNU:Hid (∀ b',(if b'=b then FL+1 else nuF cl s b')=nuF cl (s+1) b'):=Lib.hid (fun b'=>by have:=nuF_new (cl:=cl) (s:=s) (by rw [HBE.out];exact hm) b';rw [HBE.out,HFLE.out] at this;exact this)
    have hls:(fr cl s).length≤1000000000:=by have:=HFLE.out;omega
    have zN:NB≤w3.heap.size:=by have:=HNB.out;omega
    clear cn hm hbe
    go_wp2_with (first|(at_builtin;refine wpList_append_lie (w0:=w3) (x:=s) (N:=w3.heap.size) rfl rfl _ _ 69 rfl NB iI _ 8 Tryz.underlying69 hiI hzI hkI hbI (by omega) rfl (by omega) encN_len encN_one _ (fr cl s) rfl rfl O3.out rfl hls zN ?_;intro v9 w9 y1;have F9:=Lib.hid (FN3.out.grown y1.2.2.1 (fun e=>NE3.out e));have cc9:=F9.out.cell (by omega:b<L);have cz9:=F9.out.frozen b;obtain⟨p9,q9,hv9⟩:=lie_at y1;obtain⟨L9,hL9⟩:∃ L9,(fr cl s++ [s]).length=L9:=⟨_,rfl⟩;have HL9:=Lib.hid hL9;rw [hL9] at hv9;clear hL9;subst hv9)|go_in)
    have NE9:Hid ((Value.slice p9 L9 q9).ownBlock≠some NB):=Lib.hid (fun e=>by
     rcases y1.2.2.2 NB e with e1|e1
     ·exact NE3.out e1
     ·have:=FN3.out.lt;omega)
    have HL9':Hid (L9=FL+1):=Lib.hid (by rw [←HL9.out,List.length_append,HFLE.out];rfl)
    have FNX:Hid (Fn NB 3 L (i64F (nuF cl (s+1))) (w9.setCell ⟨NB,b,none⟩ (.int .i64 (L9:Nat)))):=Lib.hid ((F9.out.put (by omega:b<L) (.int .i64 (L9:Nat))).congr (fun b' _=>by rw [i64F_upd];unfold i64F;dsimp only;rw [HL9'.out,HNU.out]))
    have OX:Hid (Own1 1 encN (w9.setCell ⟨NB,b,none⟩ (.int .i64 (L9:Nat))) NB 3 (.slice p9 L9 q9) (fr cl (s+1))):=Lib.hid (by
     rw [HFR.out]
     exact own_grown y1.1 (grown_set w9 NB b (.int .i64 (L9:Nat))) (fun b2 hb2 e=>NE9.out (by rw [hb2,e])))
    have BX:=Lib.hid ((B3.out.trans y1.2.1).setCell (p:=⟨NB,b,none⟩) (Nat.le_refl _) (.int .i64 (L9:Nat)))
    clear y1
    go_wp2_with fail
    go_roundw
    case measure=>(have:=HLT.out);simp [intOf]<;>omega
    case rel=>exact⟨s+1,HLT.out,by(have:=HLT.out);go_num,FNX.out,OX.out,NE9.out,BX.out⟩
  ·obtain rfl:s=G.n:=by omega
   have h9:¬ (G.n:Int)<(G.n:Int):=by omega
   obtain⟨F,hFe⟩:∃ F,fr cl G.n=F:=⟨_,rfl⟩
   have HFE:=Lib.hid hFe
   have HST:=Lib.hid (fr_stop HBF.out (cl:=cl) (Cls.step HOK.out CL1.out))
   have hFlt:∀ x∈F,x<G.n:=by rw [←hFe];exact fr_lt cl G.n
   have HFLT:=Lib.hid hFlt
   have HHAS:Hid (∀ t,t<G.n→cl t∈F.map cl):=Lib.hid (fun t ht=>by rw [←hFe];exact fr_has cl ht)
   rw [hFe] at O3 HFLE HST
   have HS1:Hid (Stop G cl FL∧fdK G cl FL=F):=Lib.hid (by rw [←HFLE.out];exact HST.out)
   clear hFe hFlt HST
   obtain⟨X0,hX0⟩:∃ X0,w3.drew=X0:=⟨_,rfl⟩
   have BX0:=(Below.refl w3.heap.size w3).drew
   rw [hX0] at BX0
   have HX0:=Lib.hid hX0
   have HBX:=Lib.hid BX0
   have B4:=Lib.hid (B3.out.trans (BX0.mono (by have:=HNB.out;omega)))
   have FN4:=Lib.hid (FN3.out.below BX0)
   have O4:=Lib.hid (own_below O3.out BX0)
   have P4:=Lib.hid ((P1.out.below (HNB.out▸B3.out)).below BX0)
   obtain⟨xs,hxs⟩:∃ xs,X0.heap.size=xs:=⟨_,rfl⟩
   have HXS:=Lib.hid hxs
   have HB0:Hid (Below xs X0 X0):=Lib.hid (Below.refl _ _)
   have hzX:xs≤X0.heap.size:=by omega
   have hmk5:∀ wx:World,(Instr.makeSlice 33 (.int .i64 (FL:Int)) (.int .i64 (FL:Int))).run Tryz.prog wx= .ok (.slice (some ⟨wx.heap.size,0,none⟩) FL FL) (wx.alloc (.cells (madeCells #[.bool false] FL) 4)):=fun wx=>by
    have:=make_fn (P:=Tryz.prog) 33 4 _ 1 1 Tryz.underlying33 Tryz.infoO (by omega) (by omega) FL (by omega) wx
    rw [Nat.mul_one] at this
    exact this
   have HF5:Hid (∀ wx:World,Fn wx.heap.size 4 FL (boF (cutO (fun i=>G.f (F.getD i 0)) 0)) (wx.alloc (.cells (madeCells #[.bool false] FL) 4))):=Lib.hid (fun wx=>(fn_made wx 4 #[.bool false] FL (by decide)).congr (fun i hi=>by simp [boF,cutO,Nat.mod_one]))
   have HWW:Hid (∀ wx:World,Calls Tryz.prog 104 #[.int .i64 (FL:Nat)] wx (RowsR FL wx)):=Lib.hid (fun wx=>rows_any FL (by omega) wx)
   clear hX0 BX0 hxs FN3 O3 B3 NE3 z3
   go_upto_region 14 with fail
   go_cut [9] from 57 to 63 (fun v9 wx=>∃ nb LB CB AB:Nat,v9= .pointer (some ⟨nb,0,none⟩)∧MadeD wx xs LB CB AB FL (cutF (rvF G cl F) 0) (cutO (fun i=>G.f (F.getD i 0)) 0)∧Blk nb 35 #[.int .i64 0,.slice (some ⟨LB,0,none⟩) FL FL,.slice (some ⟨AB,0,none⟩) FL FL] wx∧xs≤nb∧Below xs X0 wx)
   case first=>
    have hS:(fun _:World=>True) X0:=trivial
    refine region_hd 8 (fun _:World=>True) (by kernel_rfl) (by kernel_rfl) ?_
    rw [HX0.out]
    refine hd_taken 0 (some 57) _ ?hdv0 rfl rfl (by kernel_rfl) (fun _ _ _ h=>h) (Or.inl ⟨by rfl,?hdy0⟩) hS ?hdr0
    case hdy0=>(intro wx hx;(try dsimp only at hx);go_simp;try with_reducible rfl)
    try simp only [Act.put,zI,zO,zS]
    refine hd_taken 1 (some 58) _ ?hdv1 rfl rfl (by kernel_rfl) (fun _ _ _ h=>h) (Or.inl ⟨by rfl,?hdy1⟩) hS ?hdr1
    case hdy1=>(intro wx hx;(try dsimp only at hx);go_simp;try with_reducible rfl)
    try simp only [Act.put,zI,zO,zS]
    refine hd_taken 3 (some 60) _ ?hdv3 rfl rfl (by kernel_rfl) (fun _ _ _ h=>h) (Or.inl ⟨by rfl,?hdy3⟩) hS ?hdr3
    case hdy3=>(intro wx hx;(try dsimp only at hx);go_simp;try with_reducible rfl)
    try simp only [Act.put,zI,zO,zS]
    refine hd_taken 4 (some 61) _ ?hdv4 rfl rfl (by kernel_rfl) (fun _ _ _ h=>h) (Or.inl ⟨by rfl,?hdy4⟩) hS ?hdr4
    case hdy4=>(intro wx hx;(try dsimp only at hx);go_simp;try with_reducible rfl)
    try simp only [Act.put,zI,zO,zS]
    refine hd_list [2,5,7] (by kernel_rfl) (by decide) (by decide) (fun i hi=>?_)
    simp only [List.mem_cons,List.not_mem_nil,or_false] at hi
    rcases hi with rfl|rfl|rfl
    ·refine⟨_,rfl,fun K2 hK2=>?_⟩
     go_simp
     refine(HWW.out X0).mono ?_
     rintro e w2x ⟨LB,CB,rfl,fl2,fc2,ll2,lc2,b2⟩
     try dsimp only
     have F2:=Lib.hid fl2
     have C2:=Lib.hid fc2
     have L2:Hid (xs≤LB∧xs≤CB):=Lib.hid (by omega)
     have z2:xs≤w2x.heap.size:=Nat.le_trans hzX b2.size
     have HB2:=Lib.hid (HB0.out.trans (b2.mono hzX))
     clear fl2 fc2 ll2 lc2 b2
     refine hK2.out _ _ trivial ?_
     clear hK2 K2
     try simp only [Act.put,zI,zO,zS]
     refine hd_list [5,7] (by kernel_rfl) (by decide) (by decide) (fun i hi=>?_)
     simp only [List.mem_cons,List.not_mem_nil,or_false] at hi
     rcases hi with rfl|rfl
     ·refine⟨_,rfl,fun K5 hK5=>?_⟩
      go_simp
      obtain⟨w5x,hw5⟩:∃ wx,w2x.alloc (.cells (madeCells #[.bool false] FL) 4)=wx:=⟨_,rfl⟩
      have b5:=(Below.refl w2x.heap.size w2x).alloc (Nat.le_refl _) (.cells (madeCells #[.bool false] FL) 4)
      have f5:=HF5.out w2x
      rw [hw5] at b5 f5 ⊢
      obtain⟨AB,hAB⟩:∃ B,w2x.heap.size=B:=⟨_,rfl⟩
      have L5:Hid (xs≤AB):=Lib.hid (by omega)
      have z5:xs≤w5x.heap.size:=Nat.le_trans z2 b5.size
      have HB5:=Lib.hid (HB2.out.trans (b5.mono z2))
      have F2:=Lib.hid (F2.out.below b5)
      have C2:=Lib.hid (C2.out.below b5)
      rw [hAB] at f5 ⊢
      have F5:=Lib.hid f5
      clear hw5 b5 f5 hAB
      refine hK5.out _ _ trivial ?_
      clear hK5 K5
      try simp only [Act.put,zI,zO,zS]
      refine hd_taken 6 (some 63) _ ?hdva6 rfl rfl (by kernel_rfl) (fun _ _ _ h=>h) (Or.inl ⟨by rfl,?hdya6⟩) trivial ?hdra6
      case hdya6=>(intro wx hx;(try dsimp only at hx);go_simp;try with_reducible rfl)
      try simp only [Act.put,zI,zO,zS]
      refine hd_list [7] (by kernel_rfl) (by decide) (by decide) (fun i hi=>?_)
      simp only [List.mem_cons,List.not_mem_nil,or_false] at hi
      subst hi
      refine⟨_,rfl,fun K7 hK7=>?_⟩
      go_simp
      obtain⟨w7x,hw7⟩:∃ wx,w5x.alloc (.cells #[.int .i64 0,.slice none 0 0,.slice none 0 0] 35)=wx:=⟨_,rfl⟩
      have b7:=(Below.refl w5x.heap.size w5x).alloc (Nat.le_refl _) (.cells #[.int .i64 0,.slice none 0 0,.slice none 0 0] 35)
      have f7:=Blk.new w5x 35 #[.int .i64 0,.slice none 0 0,.slice none 0 0]
      rw [hw7] at b7 f7 ⊢
      obtain⟨nb,hnb⟩:∃ B,w5x.heap.size=B:=⟨_,rfl⟩
      have L7:Hid (xs≤nb):=Lib.hid (by omega)
      have z7:xs≤w7x.heap.size:=Nat.le_trans z5 b7.size
      have HB7:=Lib.hid (HB5.out.trans (b7.mono z5))
      have F2:=Lib.hid (F2.out.below b7)
      have C2:=Lib.hid (C2.out.below b7)
      have F5:=Lib.hid (F5.out.below b7)
      rw [hnb] at f7 ⊢
      have F7:=Lib.hid f7
      clear hw7 b7 f7 hnb
      refine hK7.out _ _ trivial ?_
      clear hK7 K7
      try simp only [Act.put,zI,zO,zS]
      refine hd_done (by kernel_rfl) ?_
      simp only [List.drop_succ_cons,List.drop_zero]
      have e0:=F7.out.cell 0
      have e1:=F7.out.cell 1
      have e2:=F7.out.cell 2
      have ef:=F7.out.frozen
      have gr:=((grown_set w7x nb 0 (.int .i64 0)).trans (grown_set _ nb 1 (.slice (some ⟨LB,0,none⟩) FL FL))).trans (grown_set _ nb 2 (.slice (some ⟨AB,0,none⟩) FL FL))
      have HQ:Hid (MadeD (((w7x.setCell ⟨nb,0,none⟩ (.int .i64 0)).setCell ⟨nb,1,none⟩ (.slice (some ⟨LB,0,none⟩) FL FL)).setCell ⟨nb,2,none⟩ (.slice (some ⟨AB,0,none⟩) FL FL)) xs LB CB AB FL (cutF (rvF G cl F) 0) (cutO (fun i=>G.f (F.getD i 0)) 0)):=Lib.hid ⟨F2.out.grown gr (fun e=>(by injection e with e;subst e;obtain⟨cs,h2,_⟩:=F2.out;have h3:=(show w7x.heap[nb]? =_ from F7.out).symm.trans (show w7x.heap[nb]? =_ from h2);injection h3 with h3;injection h3 with _ h3;exact absurd h3 (by decide))),(C2.out.congr (fun j hj=>by simp [zeroV,i64F,cutF])).grown gr (fun e=>(by injection e with e;subst e;obtain⟨cs,h2,_⟩:=C2.out;have h3:=(show w7x.heap[nb]? =_ from F7.out).symm.trans (show w7x.heap[nb]? =_ from h2);injection h3 with h3;injection h3 with _ h3;exact absurd h3 (by decide))),F5.out.grown gr (fun e=>(by injection e with e;subst e;obtain⟨cs,h2,_⟩:=F5.out;have h3:=(show w7x.heap[nb]? =_ from F7.out).symm.trans (show w7x.heap[nb]? =_ from h2);injection h3 with h3;injection h3 with _ h3;exact absurd h3 (by decide))),L2.out.1,L2.out.2,L5.out⟩
      have HK7:=Lib.hid (((F7.out.put 0 (.int .i64 0)).put 1 (.slice (some ⟨LB,0,none⟩) FL FL)).put 2 (.slice (some ⟨AB,0,none⟩) FL FL))
      have HBE:=Lib.hid (((HB7.out.setCell (p:=⟨nb,0,none⟩) L7.out (.int .i64 0)).setCell (p:=⟨nb,1,none⟩) L7.out (.slice (some ⟨LB,0,none⟩) FL FL)).setCell (p:=⟨nb,2,none⟩) L7.out (.slice (some ⟨AB,0,none⟩) FL FL))
      clear gr
      go_wp2
      go_meet
      exact⟨_,_,_,_,rfl,HQ.out,HK7.out,L7.out,HBE.out⟩
     ·refine⟨_,rfl,fun K7 hK7=>?_⟩
      go_simp
      obtain⟨w7x,hw7⟩:∃ wx,w2x.alloc (.cells #[.int .i64 0,.slice none 0 0,.slice none 0 0] 35)=wx:=⟨_,rfl⟩
      have b7:=(Below.refl w2x.heap.size w2x).alloc (Nat.le_refl _) (.cells #[.int .i64 0,.slice none 0 0,.slice none 0 0] 35)
      have f7:=Blk.new w2x 35 #[.int .i64 0,.slice none 0 0,.slice none 0 0]
      rw [hw7] at b7 f7 ⊢
      obtain⟨nb,hnb⟩:∃ B,w2x.heap.size=B:=⟨_,rfl⟩
      have L7:Hid (xs≤nb):=Lib.hid (by omega)
      have z7:xs≤w7x.heap.size:=Nat.le_trans z2 b7.size
      have HB7:=Lib.hid (HB2.out.trans (b7.mono z2))
      have F2:=Lib.hid (F2.out.below b7)
      have C2:=Lib.hid (C2.out.below b7)
      rw [hnb] at f7 ⊢
      have F7:=Lib.hid f7
      clear hw7 b7 f7 hnb
      refine hK7.out _ _ trivial ?_
      clear hK7 K7
      try simp only [Act.put,zI,zO,zS]
      refine hd_list [5] (by kernel_rfl) (by decide) (by decide) (fun i hi=>?_)
      simp only [List.mem_cons,List.not_mem_nil,or_false] at hi
      subst hi
      refine⟨_,rfl,fun K5 hK5=>?_⟩
      go_simp
      obtain⟨w5x,hw5⟩:∃ wx,w7x.alloc (.cells (madeCells #[.bool false] FL) 4)=wx:=⟨_,rfl⟩
      have b5:=(Below.refl w7x.heap.size w7x).alloc (Nat.le_refl _) (.cells (madeCells #[.bool false] FL) 4)
      have f5:=HF5.out w7x
      rw [hw5] at b5 f5 ⊢
      obtain⟨AB,hAB⟩:∃ B,w7x.heap.size=B:=⟨_,rfl⟩
      have L5:Hid (xs≤AB):=Lib.hid (by omega)
      have z5:xs≤w5x.heap.size:=Nat.le_trans z7 b5.size
      have HB5:=Lib.hid (HB7.out.trans (b5.mono z7))
      have F2:=Lib.hid (F2.out.below b5)
      have C2:=Lib.hid (C2.out.below b5)
      have F7:=Lib.hid (Blk.below F7.out b5)
      rw [hAB] at f5 ⊢
      have F5:=Lib.hid f5
      clear hw5 b5 f5 hAB
      refine hK5.out _ _ trivial ?_
      clear hK5 K5
      try simp only [Act.put,zI,zO,zS]
      refine hd_taken 6 (some 63) _ ?hdvb6 rfl rfl (by kernel_rfl) (fun _ _ _ h=>h) (Or.inl ⟨by rfl,?hdyb6⟩) trivial ?hdrb6
      case hdyb6=>(intro wx hx;(try dsimp only at hx);go_simp;try with_reducible rfl)
      try simp only [Act.put,zI,zO,zS]
      refine hd_done (by kernel_rfl) ?_
      simp only [List.drop_succ_cons,List.drop_zero]
      have e0:=F7.out.cell 0
      have e1:=F7.out.cell 1
      have e2:=F7.out.cell 2
      have ef:=F7.out.frozen
      have gr:=((grown_set w5x nb 0 (.int .i64 0)).trans (grown_set _ nb 1 (.slice (some ⟨LB,0,none⟩) FL FL))).trans (grown_set _ nb 2 (.slice (some ⟨AB,0,none⟩) FL FL))
      have HQ:Hid (MadeD (((w5x.setCell ⟨nb,0,none⟩ (.int .i64 0)).setCell ⟨nb,1,none⟩ (.slice (some ⟨LB,0,none⟩) FL FL)).setCell ⟨nb,2,none⟩ (.slice (some ⟨AB,0,none⟩) FL FL)) xs LB CB AB FL (cutF (rvF G cl F) 0) (cutO (fun i=>G.f (F.getD i 0)) 0)):=Lib.hid ⟨F2.out.grown gr (fun e=>(by injection e with e;subst e;obtain⟨cs,h2,_⟩:=F2.out;have h3:=(show w5x.heap[nb]? =_ from F7.out).symm.trans (show w5x.heap[nb]? =_ from h2);injection h3 with h3;injection h3 with _ h3;exact absurd h3 (by decide))),(C2.out.congr (fun j hj=>by simp [zeroV,i64F,cutF])).grown gr (fun e=>(by injection e with e;subst e;obtain⟨cs,h2,_⟩:=C2.out;have h3:=(show w5x.heap[nb]? =_ from F7.out).symm.trans (show w5x.heap[nb]? =_ from h2);injection h3 with h3;injection h3 with _ h3;exact absurd h3 (by decide))),F5.out.grown gr (fun e=>(by injection e with e;subst e;obtain⟨cs,h2,_⟩:=F5.out;have h3:=(show w5x.heap[nb]? =_ from F7.out).symm.trans (show w5x.heap[nb]? =_ from h2);injection h3 with h3;injection h3 with _ h3;exact absurd h3 (by decide))),L2.out.1,L2.out.2,L5.out⟩
      have HK7:=Lib.hid (((F7.out.put 0 (.int .i64 0)).put 1 (.slice (some ⟨LB,0,none⟩) FL FL)).put 2 (.slice (some ⟨AB,0,none⟩) FL FL))
      have HBE:=Lib.hid (((HB5.out.setCell (p:=⟨nb,0,none⟩) L7.out (.int .i64 0)).setCell (p:=⟨nb,1,none⟩) L7.out (.slice (some ⟨LB,0,none⟩) FL FL)).setCell (p:=⟨nb,2,none⟩) L7.out (.slice (some ⟨AB,0,none⟩) FL FL))
      clear gr
      go_wp2
      go_meet
      exact⟨_,_,_,_,rfl,HQ.out,HK7.out,L7.out,HBE.out⟩
    ·refine⟨_,rfl,fun K5 hK5=>?_⟩
     go_simp
     obtain⟨w5x,hw5⟩:∃ wx,X0.alloc (.cells (madeCells #[.bool false] FL) 4)=wx:=⟨_,rfl⟩
     have b5:=(Below.refl X0.heap.size X0).alloc (Nat.le_refl _) (.cells (madeCells #[.bool false] FL) 4)
     have f5:=HF5.out X0
     rw [hw5] at b5 f5 ⊢
     obtain⟨AB,hAB⟩:∃ B,X0.heap.size=B:=⟨_,rfl⟩
     have L5:Hid (xs≤AB):=Lib.hid (by omega)
     have z5:xs≤w5x.heap.size:=Nat.le_trans hzX b5.size
     have HB5:=Lib.hid (HB0.out.trans (b5.mono hzX))
     rw [hAB] at f5 ⊢
     have F5:=Lib.hid f5
     clear hw5 b5 f5 hAB
     refine hK5.out _ _ trivial ?_
     clear hK5 K5
     try simp only [Act.put,zI,zO,zS]
     refine hd_list [2,7] (by kernel_rfl) (by decide) (by decide) (fun i hi=>?_)
     simp only [List.mem_cons,List.not_mem_nil,or_false] at hi
     rcases hi with rfl|rfl
     ·refine⟨_,rfl,fun K2 hK2=>?_⟩
      go_simp
      refine(HWW.out w5x).mono ?_
      rintro e w2x ⟨LB,CB,rfl,fl2,fc2,ll2,lc2,b2⟩
      try dsimp only
      have F2:=Lib.hid fl2
      have C2:=Lib.hid fc2
      have L2:Hid (xs≤LB∧xs≤CB):=Lib.hid (by omega)
      have z2:xs≤w2x.heap.size:=Nat.le_trans z5 b2.size
      have HB2:=Lib.hid (HB5.out.trans (b2.mono z5))
      have F5:=Lib.hid (F5.out.below b2)
      clear fl2 fc2 ll2 lc2 b2
      refine hK2.out _ _ trivial ?_
      clear hK2 K2
      try simp only [Act.put,zI,zO,zS]
      refine hd_taken 6 (some 63) _ ?hdvc6 rfl rfl (by kernel_rfl) (fun _ _ _ h=>h) (Or.inl ⟨by rfl,?hdyc6⟩) trivial ?hdrc6
      case hdyc6=>(intro wx hx;(try dsimp only at hx);go_simp;try with_reducible rfl)
      try simp only [Act.put,zI,zO,zS]
      refine hd_list [7] (by kernel_rfl) (by decide) (by decide) (fun i hi=>?_)
      simp only [List.mem_cons,List.not_mem_nil,or_false] at hi
      subst hi
      refine⟨_,rfl,fun K7 hK7=>?_⟩
      go_simp
      obtain⟨w7x,hw7⟩:∃ wx,w2x.alloc (.cells #[.int .i64 0,.slice none 0 0,.slice none 0 0] 35)=wx:=⟨_,rfl⟩
      have b7:=(Below.refl w2x.heap.size w2x).alloc (Nat.le_refl _) (.cells #[.int .i64 0,.slice none 0 0,.slice none 0 0] 35)
      have f7:=Blk.new w2x 35 #[.int .i64 0,.slice none 0 0,.slice none 0 0]
      rw [hw7] at b7 f7 ⊢
      obtain⟨nb,hnb⟩:∃ B,w2x.heap.size=B:=⟨_,rfl⟩
      have L7:Hid (xs≤nb):=Lib.hid (by omega)
      have z7:xs≤w7x.heap.size:=Nat.le_trans z2 b7.size
      have HB7:=Lib.hid (HB2.out.trans (b7.mono z2))
      have F5:=Lib.hid (F5.out.below b7)
      have F2:=Lib.hid (F2.out.below b7)
      have C2:=Lib.hid (C2.out.below b7)
      rw [hnb] at f7 ⊢
      have F7:=Lib.hid f7
      clear hw7 b7 f7 hnb
      refine hK7.out _ _ trivial ?_
      clear hK7 K7
      try simp only [Act.put,zI,zO,zS]
      refine hd_done (by kernel_rfl) ?_
      simp only [List.drop_succ_cons,List.drop_zero]
      have e0:=F7.out.cell 0
      have e1:=F7.out.cell 1
      have e2:=F7.out.cell 2
      have ef:=F7.out.frozen
      have gr:=((grown_set w7x nb 0 (.int .i64 0)).trans (grown_set _ nb 1 (.slice (some ⟨LB,0,none⟩) FL FL))).trans (grown_set _ nb 2 (.slice (some ⟨AB,0,none⟩) FL FL))
      have HQ:Hid (MadeD (((w7x.setCell ⟨nb,0,none⟩ (.int .i64 0)).setCell ⟨nb,1,none⟩ (.slice (some ⟨LB,0,none⟩) FL FL)).setCell ⟨nb,2,none⟩ (.slice (some ⟨AB,0,none⟩) FL FL)) xs LB CB AB FL (cutF (rvF G cl F) 0) (cutO (fun i=>G.f (F.getD i 0)) 0)):=Lib.hid ⟨F2.out.grown gr (fun e=>(by injection e with e;subst e;obtain⟨cs,h2,_⟩:=F2.out;have h3:=(show w7x.heap[nb]? =_ from F7.out).symm.trans (show w7x.heap[nb]? =_ from h2);injection h3 with h3;injection h3 with _ h3;exact absurd h3 (by decide))),(C2.out.congr (fun j hj=>by simp [zeroV,i64F,cutF])).grown gr (fun e=>(by injection e with e;subst e;obtain⟨cs,h2,_⟩:=C2.out;have h3:=(show w7x.heap[nb]? =_ from F7.out).symm.trans (show w7x.heap[nb]? =_ from h2);injection h3 with h3;injection h3 with _ h3;exact absurd h3 (by decide))),F5.out.grown gr (fun e=>(by injection e with e;subst e;obtain⟨cs,h2,_⟩:=F5.out;have h3:=(show w7x.heap[nb]? =_ from F7.out).symm.trans (show w7x.heap[nb]? =_ from h2);injection h3 with h3;injection h3 with _ h3;exact absurd h3 (by decide))),L2.out.1,L2.out.2,L5.out⟩
      have HK7:=Lib.hid (((F7.out.put 0 (.int .i64 0)).put 1 (.slice (some ⟨LB,0,none⟩) FL FL)).put 2 (.slice (some ⟨AB,0,none⟩) FL FL))
      have HBE:=Lib.hid (((HB7.out.setCell (p:=⟨nb,0,none⟩) L7.out (.int .i64 0)).setCell (p:=⟨nb,1,none⟩) L7.out (.slice (some ⟨LB,0,none⟩) FL FL)).setCell (p:=⟨nb,2,none⟩) L7.out (.slice (some ⟨AB,0,none⟩) FL FL))
      clear gr
      go_wp2
      go_meet
      exact⟨_,_,_,_,rfl,HQ.out,HK7.out,L7.out,HBE.out⟩
     ·refine⟨_,rfl,fun K7 hK7=>?_⟩
      go_simp
      obtain⟨w7x,hw7⟩:∃ wx,w5x.alloc (.cells #[.int .i64 0,.slice none 0 0,.slice none 0 0] 35)=wx:=⟨_,rfl⟩
      have b7:=(Below.refl w5x.heap.size w5x).alloc (Nat.le_refl _) (.cells #[.int .i64 0,.slice none 0 0,.slice none 0 0] 35)
      have f7:=Blk.new w5x 35 #[.int .i64 0,.slice none 0 0,.slice none 0 0]
      rw [hw7] at b7 f7 ⊢
      obtain⟨nb,hnb⟩:∃ B,w5x.heap.size=B:=⟨_,rfl⟩
      have L7:Hid (xs≤nb):=Lib.hid (by omega)
      have z7:xs≤w7x.heap.size:=Nat.le_trans z5 b7.size
      have HB7:=Lib.hid (HB5.out.trans (b7.mono z5))
      have F5:=Lib.hid (F5.out.below b7)
      rw [hnb] at f7 ⊢
      have F7:=Lib.hid f7
      clear hw7 b7 f7 hnb
      refine hK7.out _ _ trivial ?_
      clear hK7 K7
      try simp only [Act.put,zI,zO,zS]
      refine hd_list [2] (by kernel_rfl) (by decide) (by decide) (fun i hi=>?_)
      simp only [List.mem_cons,List.not_mem_nil,or_false] at hi
      subst hi
      refine⟨_,rfl,fun K2 hK2=>?_⟩
      go_simp
      refine(HWW.out w7x).mono ?_
      rintro e w2x ⟨LB,CB,rfl,fl2,fc2,ll2,lc2,b2⟩
      try dsimp only
      have F2:=Lib.hid fl2
      have C2:=Lib.hid fc2
      have L2:Hid (xs≤LB∧xs≤CB):=Lib.hid (by omega)
      have z2:xs≤w2x.heap.size:=Nat.le_trans z7 b2.size
      have HB2:=Lib.hid (HB7.out.trans (b2.mono z7))
      have F5:=Lib.hid (F5.out.below b2)
      have F7:=Lib.hid (Blk.below F7.out b2)
      clear fl2 fc2 ll2 lc2 b2
      refine hK2.out _ _ trivial ?_
      clear hK2 K2
      try simp only [Act.put,zI,zO,zS]
      refine hd_taken 6 (some 63) _ ?hdvd6 rfl rfl (by kernel_rfl) (fun _ _ _ h=>h) (Or.inl ⟨by rfl,?hdyd6⟩) trivial ?hdrd6
      case hdyd6=>(intro wx hx;(try dsimp only at hx);go_simp;try with_reducible rfl)
      try simp only [Act.put,zI,zO,zS]
      refine hd_done (by kernel_rfl) ?_
      simp only [List.drop_succ_cons,List.drop_zero]
      have e0:=F7.out.cell 0
      have e1:=F7.out.cell 1
      have e2:=F7.out.cell 2
      have ef:=F7.out.frozen
      have gr:=((grown_set w2x nb 0 (.int .i64 0)).trans (grown_set _ nb 1 (.slice (some ⟨LB,0,none⟩) FL FL))).trans (grown_set _ nb 2 (.slice (some ⟨AB,0,none⟩) FL FL))
      have HQ:Hid (MadeD (((w2x.setCell ⟨nb,0,none⟩ (.int .i64 0)).setCell ⟨nb,1,none⟩ (.slice (some ⟨LB,0,none⟩) FL FL)).setCell ⟨nb,2,none⟩ (.slice (some ⟨AB,0,none⟩) FL FL)) xs LB CB AB FL (cutF (rvF G cl F) 0) (cutO (fun i=>G.f (F.getD i 0)) 0)):=Lib.hid ⟨F2.out.grown gr (fun e=>(by injection e with e;subst e;obtain⟨cs,h2,_⟩:=F2.out;have h3:=(show w2x.heap[nb]? =_ from F7.out).symm.trans (show w2x.heap[nb]? =_ from h2);injection h3 with h3;injection h3 with _ h3;exact absurd h3 (by decide))),(C2.out.congr (fun j hj=>by simp [zeroV,i64F,cutF])).grown gr (fun e=>(by injection e with e;subst e;obtain⟨cs,h2,_⟩:=C2.out;have h3:=(show w2x.heap[nb]? =_ from F7.out).symm.trans (show w2x.heap[nb]? =_ from h2);injection h3 with h3;injection h3 with _ h3;exact absurd h3 (by decide))),F5.out.grown gr (fun e=>(by injection e with e;subst e;obtain⟨cs,h2,_⟩:=F5.out;have h3:=(show w2x.heap[nb]? =_ from F7.out).symm.trans (show w2x.heap[nb]? =_ from h2);injection h3 with h3;injection h3 with _ h3;exact absurd h3 (by decide))),L2.out.1,L2.out.2,L5.out⟩
      have HK7:=Lib.hid (((F7.out.put 0 (.int .i64 0)).put 1 (.slice (some ⟨LB,0,none⟩) FL FL)).put 2 (.slice (some ⟨AB,0,none⟩) FL FL))
      have HBE:=Lib.hid (((HB2.out.setCell (p:=⟨nb,0,none⟩) L7.out (.int .i64 0)).setCell (p:=⟨nb,1,none⟩) L7.out (.slice (some ⟨LB,0,none⟩) FL FL)).setCell (p:=⟨nb,2,none⟩) L7.out (.slice (some ⟨AB,0,none⟩) FL FL))
      clear gr
      go_wp2
      go_meet
      exact⟨_,_,_,_,rfl,HQ.out,HK7.out,L7.out,HBE.out⟩
    ·refine⟨_,rfl,fun K7 hK7=>?_⟩
     go_simp
     obtain⟨w7x,hw7⟩:∃ wx,X0.alloc (.cells #[.int .i64 0,.slice none 0 0,.slice none 0 0] 35)=wx:=⟨_,rfl⟩
     have b7:=(Below.refl X0.heap.size X0).alloc (Nat.le_refl _) (.cells #[.int .i64 0,.slice none 0 0,.slice none 0 0] 35)
     have f7:=Blk.new X0 35 #[.int .i64 0,.slice none 0 0,.slice none 0 0]
     rw [hw7] at b7 f7 ⊢
     obtain⟨nb,hnb⟩:∃ B,X0.heap.size=B:=⟨_,rfl⟩
     have L7:Hid (xs≤nb):=Lib.hid (by omega)
     have z7:xs≤w7x.heap.size:=Nat.le_trans hzX b7.size
     have HB7:=Lib.hid (HB0.out.trans (b7.mono hzX))
     rw [hnb] at f7 ⊢
     have F7:=Lib.hid f7
     clear hw7 b7 f7 hnb
     refine hK7.out _ _ trivial ?_
     clear hK7 K7
     try simp only [Act.put,zI,zO,zS]
     refine hd_list [2,5] (by kernel_rfl) (by decide) (by decide) (fun i hi=>?_)
     simp only [List.mem_cons,List.not_mem_nil,or_false] at hi
     rcases hi with rfl|rfl
     ·refine⟨_,rfl,fun K2 hK2=>?_⟩
      go_simp
      refine(HWW.out w7x).mono ?_
      rintro e w2x ⟨LB,CB,rfl,fl2,fc2,ll2,lc2,b2⟩
      try dsimp only
      have F2:=Lib.hid fl2
      have C2:=Lib.hid fc2
      have L2:Hid (xs≤LB∧xs≤CB):=Lib.hid (by omega)
      have z2:xs≤w2x.heap.size:=Nat.le_trans z7 b2.size
      have HB2:=Lib.hid (HB7.out.trans (b2.mono z7))
      have F7:=Lib.hid (Blk.below F7.out b2)
      clear fl2 fc2 ll2 lc2 b2
      refine hK2.out _ _ trivial ?_
      clear hK2 K2
      try simp only [Act.put,zI,zO,zS]
      refine hd_list [5] (by kernel_rfl) (by decide) (by decide) (fun i hi=>?_)
      simp only [List.mem_cons,List.not_mem_nil,or_false] at hi
      subst hi
      refine⟨_,rfl,fun K5 hK5=>?_⟩
      go_simp
      obtain⟨w5x,hw5⟩:∃ wx,w2x.alloc (.cells (madeCells #[.bool false] FL) 4)=wx:=⟨_,rfl⟩
      have b5:=(Below.refl w2x.heap.size w2x).alloc (Nat.le_refl _) (.cells (madeCells #[.bool false] FL) 4)
      have f5:=HF5.out w2x
      rw [hw5] at b5 f5 ⊢
      obtain⟨AB,hAB⟩:∃ B,w2x.heap.size=B:=⟨_,rfl⟩
      have L5:Hid (xs≤AB):=Lib.hid (by omega)
      have z5:xs≤w5x.heap.size:=Nat.le_trans z2 b5.size
      have HB5:=Lib.hid (HB2.out.trans (b5.mono z2))
      have F7:=Lib.hid (Blk.below F7.out b5)
      have F2:=Lib.hid (F2.out.below b5)
      have C2:=Lib.hid (C2.out.below b5)
      rw [hAB] at f5 ⊢
      have F5:=Lib.hid f5
      clear hw5 b5 f5 hAB
      refine hK5.out _ _ trivial ?_
      clear hK5 K5
      try simp only [Act.put,zI,zO,zS]
      refine hd_taken 6 (some 63) _ ?hdve6 rfl rfl (by kernel_rfl) (fun _ _ _ h=>h) (Or.inl ⟨by rfl,?hdye6⟩) trivial ?hdre6
      case hdye6=>(intro wx hx;(try dsimp only at hx);go_simp;try with_reducible rfl)
      try simp only [Act.put,zI,zO,zS]
      refine hd_done (by kernel_rfl) ?_
      simp only [List.drop_succ_cons,List.drop_zero]
      have e0:=F7.out.cell 0
      have e1:=F7.out.cell 1
      have e2:=F7.out.cell 2
      have ef:=F7.out.frozen
      have gr:=((grown_set w5x nb 0 (.int .i64 0)).trans (grown_set _ nb 1 (.slice (some ⟨LB,0,none⟩) FL FL))).trans (grown_set _ nb 2 (.slice (some ⟨AB,0,none⟩) FL FL))
      have HQ:Hid (MadeD (((w5x.setCell ⟨nb,0,none⟩ (.int .i64 0)).setCell ⟨nb,1,none⟩ (.slice (some ⟨LB,0,none⟩) FL FL)).setCell ⟨nb,2,none⟩ (.slice (some ⟨AB,0,none⟩) FL FL)) xs LB CB AB FL (cutF (rvF G cl F) 0) (cutO (fun i=>G.f (F.getD i 0)) 0)):=Lib.hid ⟨F2.out.grown gr (fun e=>(by injection e with e;subst e;obtain⟨cs,h2,_⟩:=F2.out;have h3:=(show w5x.heap[nb]? =_ from F7.out).symm.trans (show w5x.heap[nb]? =_ from h2);injection h3 with h3;injection h3 with _ h3;exact absurd h3 (by decide))),(C2.out.congr (fun j hj=>by simp [zeroV,i64F,cutF])).grown gr (fun e=>(by injection e with e;subst e;obtain⟨cs,h2,_⟩:=C2.out;have h3:=(show w5x.heap[nb]? =_ from F7.out).symm.trans (show w5x.heap[nb]? =_ from h2);injection h3 with h3;injection h3 with _ h3;exact absurd h3 (by decide))),F5.out.grown gr (fun e=>(by injection e with e;subst e;obtain⟨cs,h2,_⟩:=F5.out;have h3:=(show w5x.heap[nb]? =_ from F7.out).symm.trans (show w5x.heap[nb]? =_ from h2);injection h3 with h3;injection h3 with _ h3;exact absurd h3 (by decide))),L2.out.1,L2.out.2,L5.out⟩
      have HK7:=Lib.hid (((F7.out.put 0 (.int .i64 0)).put 1 (.slice (some ⟨LB,0,none⟩) FL FL)).put 2 (.slice (some ⟨AB,0,none⟩) FL FL))
      have HBE:=Lib.hid (((HB5.out.setCell (p:=⟨nb,0,none⟩) L7.out (.int .i64 0)).setCell (p:=⟨nb,1,none⟩) L7.out (.slice (some ⟨LB,0,none⟩) FL FL)).setCell (p:=⟨nb,2,none⟩) L7.out (.slice (some ⟨AB,0,none⟩) FL FL))
      clear gr
      go_wp2
      go_meet
      exact⟨_,_,_,_,rfl,HQ.out,HK7.out,L7.out,HBE.out⟩
     ·refine⟨_,rfl,fun K5 hK5=>?_⟩
      go_simp
      obtain⟨w5x,hw5⟩:∃ wx,w7x.alloc (.cells (madeCells #[.bool false] FL) 4)=wx:=⟨_,rfl⟩
      have b5:=(Below.refl w7x.heap.size w7x).alloc (Nat.le_refl _) (.cells (madeCells #[.bool false] FL) 4)
      have f5:=HF5.out w7x
      rw [hw5] at b5 f5 ⊢
      obtain⟨AB,hAB⟩:∃ B,w7x.heap.size=B:=⟨_,rfl⟩
      have L5:Hid (xs≤AB):=Lib.hid (by omega)
      have z5:xs≤w5x.heap.size:=Nat.le_trans z7 b5.size
      have HB5:=Lib.hid (HB7.out.trans (b5.mono z7))
      have F7:=Lib.hid (Blk.below F7.out b5)
      rw [hAB] at f5 ⊢
      have F5:=Lib.hid f5
      clear hw5 b5 f5 hAB
      refine hK5.out _ _ trivial ?_
      clear hK5 K5
      try simp only [Act.put,zI,zO,zS]
      refine hd_list [2] (by kernel_rfl) (by decide) (by decide) (fun i hi=>?_)
      simp only [List.mem_cons,List.not_mem_nil,or_false] at hi
      subst hi
      refine⟨_,rfl,fun K2 hK2=>?_⟩
      go_simp
      refine(HWW.out w5x).mono ?_
      rintro e w2x ⟨LB,CB,rfl,fl2,fc2,ll2,lc2,b2⟩
      try dsimp only
      have F2:=Lib.hid fl2
      have C2:=Lib.hid fc2
      have L2:Hid (xs≤LB∧xs≤CB):=Lib.hid (by omega)
      have z2:xs≤w2x.heap.size:=Nat.le_trans z5 b2.size
      have HB2:=Lib.hid (HB5.out.trans (b2.mono z5))
      have F7:=Lib.hid (Blk.below F7.out b2)
      have F5:=Lib.hid (F5.out.below b2)
      clear fl2 fc2 ll2 lc2 b2
      refine hK2.out _ _ trivial ?_
      clear hK2 K2
      try simp only [Act.put,zI,zO,zS]
      refine hd_taken 6 (some 63) _ ?hdvf6 rfl rfl (by kernel_rfl) (fun _ _ _ h=>h) (Or.inl ⟨by rfl,?hdyf6⟩) trivial ?hdrf6
      case hdyf6=>(intro wx hx;(try dsimp only at hx);go_simp;try with_reducible rfl)
      try simp only [Act.put,zI,zO,zS]
      refine hd_done (by kernel_rfl) ?_
      simp only [List.drop_succ_cons,List.drop_zero]
      have e0:=F7.out.cell 0
      have e1:=F7.out.cell 1
      have e2:=F7.out.cell 2
      have ef:=F7.out.frozen
      have gr:=((grown_set w2x nb 0 (.int .i64 0)).trans (grown_set _ nb 1 (.slice (some ⟨LB,0,none⟩) FL FL))).trans (grown_set _ nb 2 (.slice (some ⟨AB,0,none⟩) FL FL))
      have HQ:Hid (MadeD (((w2x.setCell ⟨nb,0,none⟩ (.int .i64 0)).setCell ⟨nb,1,none⟩ (.slice (some ⟨LB,0,none⟩) FL FL)).setCell ⟨nb,2,none⟩ (.slice (some ⟨AB,0,none⟩) FL FL)) xs LB CB AB FL (cutF (rvF G cl F) 0) (cutO (fun i=>G.f (F.getD i 0)) 0)):=Lib.hid ⟨F2.out.grown gr (fun e=>(by injection e with e;subst e;obtain⟨cs,h2,_⟩:=F2.out;have h3:=(show w2x.heap[nb]? =_ from F7.out).symm.trans (show w2x.heap[nb]? =_ from h2);injection h3 with h3;injection h3 with _ h3;exact absurd h3 (by decide))),(C2.out.congr (fun j hj=>by simp [zeroV,i64F,cutF])).grown gr (fun e=>(by injection e with e;subst e;obtain⟨cs,h2,_⟩:=C2.out;have h3:=(show w2x.heap[nb]? =_ from F7.out).symm.trans (show w2x.heap[nb]? =_ from h2);injection h3 with h3;injection h3 with _ h3;exact absurd h3 (by decide))),F5.out.grown gr (fun e=>(by injection e with e;subst e;obtain⟨cs,h2,_⟩:=F5.out;have h3:=(show w2x.heap[nb]? =_ from F7.out).symm.trans (show w2x.heap[nb]? =_ from h2);injection h3 with h3;injection h3 with _ h3;exact absurd h3 (by decide))),L2.out.1,L2.out.2,L5.out⟩
      have HK7:=Lib.hid (((F7.out.put 0 (.int .i64 0)).put 1 (.slice (some ⟨LB,0,none⟩) FL FL)).put 2 (.slice (some ⟨AB,0,none⟩) FL FL))
      have HBE:=Lib.hid (((HB2.out.setCell (p:=⟨nb,0,none⟩) L7.out (.int .i64 0)).setCell (p:=⟨nb,1,none⟩) L7.out (.slice (some ⟨LB,0,none⟩) FL FL)).setCell (p:=⟨nb,2,none⟩) L7.out (.slice (some ⟨AB,0,none⟩) FL FL))
      clear gr
      go_wp2
      go_meet
      exact⟨_,_,_,_,rfl,HQ.out,HK7.out,L7.out,HBE.out⟩
   case rest=>
    rename World=>w4
    obtain⟨nb,LB,CB,AB,rfl,hmd,hnb,lnb,hb⟩:=hcut
    have M4:=Lib.hid hmd
    have N4:=Lib.hid hnb
    have B5:=Lib.hid hb
    clear hmd hnb hb hmk5 HF5 HWW HB0
    have HGX:Hid (g+1<xs):=Lib.hid (by have:=HG1.out;have:=HNB.out;have:=B4.out.size;have:=HXS.out;omega)
    have HW4:Hid (∀ wx,Below xs X0 wx→Fn NB 3 L (i64F (nuF cl G.n)) wx∧Own1 1 encN wx NB 3 (.slice p6 FL q6) F∧PM wx W0.heap.size A vb vt vb vt G.n P∧Blk g 134 #[.slice a1 G.n c1,.slice a2 G.n c2] wx∧Rd 11 encG wx (.slice a1 G.n c1) l∧Rd 1 encO wx (.slice a2 G.n c2) fl∧Blk (g+1) 35 #[.int .i64 0,.slice none 0 0,.slice none 0 0] wx∧Below W0.heap.size W0 wx):=Lib.hid (fun wx hx=>by
     have hx':Below X0.heap.size X0 wx:=by rw [HXS.out];exact hx
     have hW:Below W0.heap.size W0 wx:=(B1.out.trans ((HNB.out▸B4.out).mono B1.out.size)).trans (hx'.mono (by have:=B1.out.size;have:=B4.out.size;omega))
     exact⟨FN4.out.below hx',own_below O4.out hx',P4.out.below hx',Blk.belowAt K0.out hW K0.out.lt,HR.out.below hW,HO.out.below hW,Blk.belowAt K2.out hW K2.out.lt,hW⟩)
    go_wp2_with fail
    go_loopw [66] (fun v66 wr=>∃ i:Nat,i≤FL∧v66= .int .i64 (i:Nat)∧MadeD wr xs LB CB AB FL (cutF (rvF G cl F) (i*11)) (cutO (fun i=>G.f (F.getD i 0)) i)∧Blk nb 35 #[.int .i64 0,.slice (some ⟨LB,0,none⟩) FL FL,.slice (some ⟨AB,0,none⟩) FL FL] wr∧Below xs X0 wr) (fun v66 _=>FL - (intOf v66).toNat)
    case atStart=>exact⟨0,Nat.zero_le _,rfl,by rw [Nat.zero_mul];exact M4.out,N4.out,B5.out⟩
    case round=>
     rename World=>w5
     obtain⟨i,hi,rfl,hmd,hnb,hb⟩:=hrel
     have M5:=Lib.hid hmd
     have N5:=Lib.hid hnb
     have B6:=Lib.hid hb
     clear hmd hnb hb M4 N4 B5
     by_cases hif:i<FL
     ·have h9i:(i:Int)<(FL:Int):=by omega
      have HIF:=Lib.hid hif
      obtain⟨wF,wO,wP,wG,wR,wA,_⟩:=HW4.out w5 B6.out
      obtain⟨b6,off6,rfl,k6⟩:=(wO.rd encN_len).nat i (by rw [HFLE.out];exact hif)
      obtain⟨s,hse⟩:∃ s,F.getD i 0=s:=⟨_,rfl⟩
      have HSE:=Lib.hid hse
      have hsn:s<G.n:=HFLT.out s (by rw [←hse,getD_getA (by rw [HFLE.out];exact hif)];exact List.getElem_mem _)
      rw [hse] at k6
      have hs9:(s:Int)<(G.n:Int):=by omega
      have m0:w5.cell? ⟨g,0,none⟩=some (.slice a1 G.n c1):=wG.cell 0
      obtain⟨br,offr,rfl,hrow⟩:=wR.row s (by rw [HL.out];exact hsn)
      obtain⟨x,hx⟩:∃ x,l[s]'(by rw [HL.out];exact hsn)=x:=⟨_,rfl⟩
      have HX:Hid (∀ c,c<11→x.getD c 0=G.d s c):=Lib.hid (fun c hc=>by
       rw [←HD.out s c hsn hc,List.getD_eq_getElem?_getD (l:=l),List.getElem?_eq_getElem (by rw [HL.out];exact hsn),hx]
       rfl)
      rw [hx] at hrow
      have HROW:=Lib.hid hrow
      clear hse hx hrow wF wO wP wG wR wA
      go_upto_region 18 with fail
      refine wp_region_lit ?_
      refine wpList_plain rfl fun K0 hK0=>?_
      have hSh:=Lib.hid hK0
      clear hK0
      go_simp
      refine hSh.out _ _ ?_
      clear hSh K0
      try simp only [Act.put,zI,zO,zS]
      refine wpList_plain rfl fun K0 hK0=>?_
      have hSh:=Lib.hid hK0
      clear hK0
      go_simp
      refine hSh.out _ _ ?_
      clear hSh K0
      try simp only [Act.put,zI,zO,zS]
      refine wpList_plain rfl fun K0 hK0=>?_
      have hSh:=Lib.hid hK0
      clear hK0
      go_simp
      refine hSh.out _ _ ?_
      clear hSh K0
      try simp only [Act.put,zI,zO,zS]
      refine wpList_plain rfl fun K0 hK0=>?_
      have hSh:=Lib.hid hK0
      clear hK0
      go_simp
      refine hSh.out _ _ ?_
      clear hSh K0
      try simp only [Act.put,zI,zO,zS]
      refine wpList_load_row x br (offr+s*11) _ rfl rfl rfl HROW.out ?_
      try simp only [Act.put,zI,zO,zS]
      go_wp2_with fail
      go_loopw [76] (fun v76 wr=>∃ c:Nat,c≤11∧v76= .int .i64 (c:Nat)∧MadeD wr xs LB CB AB FL (cutF (rvF G cl F) (i*11+c)) (cutO (fun i=>G.f (F.getD i 0)) i)∧Blk nb 35 #[.int .i64 0,.slice (some ⟨LB,0,none⟩) FL FL,.slice (some ⟨AB,0,none⟩) FL FL] wr∧Below xs X0 wr) (fun v76 _=>11 - (intOf v76).toNat)
      case atStart=>exact⟨0,by omega,rfl,M5.out,N5.out,B6.out⟩
      case round=>
       rename World=>w6
       obtain⟨c,hc,rfl,hmd,hnb,hb⟩:=hrel
       have M6:=Lib.hid hmd
       have N6:=Lib.hid hnb
       have B7:=Lib.hid hb
       clear hmd hnb hb M5 N5 B6 m0 k6
       by_cases hct:c<11
       ·have h9c:(c:Int)<11:=by omega
        have hix:=index_row x hct w6
        rw [HX.out c hct] at hix
        have htn:=HOK.out.go s c hsn hct
        obtain⟨t,ht⟩:∃ t,G.d s c=t:=⟨_,rfl⟩
        have HTE:=Lib.hid ht
        rw [ht] at hix htn
        clear ht
        have ht9:(t:Int)<(G.n:Int):=by omega
        obtain⟨we,hwe⟩:∃ we,w6.drew=we:=⟨_,rfl⟩
        have be:=(Below.refl w6.heap.size w6).drew
        have be2:=B7.out.drew
        rw [hwe] at be be2
        have Me:=Lib.hid (MadeD.mk (M6.out.l.below be) (M6.out.c.below be) (M6.out.a.below be) M6.out.lL M6.out.lC M6.out.lA)
        have Ne:=Lib.hid (Blk.below N6.out be)
        have Be:=Lib.hid be2
        obtain⟨wF,wO,wP,wG,wR,wA,_⟩:=HW4.out we be2
        obtain⟨b,hbe⟩:∃ b,cl t=b:=⟨_,rfl⟩
        have hbL:b<L:=by rw [←hbe];exact HBL.out t htn
        have hb9:(b:Int)<(L:Int):=by omega
        have hmem:=HHAS.out t htn
        obtain⟨y,hy⟩:∃ y,idx (F.map cl) b=y:=⟨_,rfl⟩
        have hyF:y<FL:=by
         have h5:=idx_lt.2 hmem
         rw [hbe,List.length_map,HFLE.out,hy] at h5
         exact h5
        have HRV:Hid (rvF G cl F (i*11+c)=y):=Lib.hid (by
         unfold rvF
         rw [show(i*11+c) / 11=i by omega,show(i*11+c) % 11=c by omega,HSE.out,HTE.out,hbe,hy])
        have s1:we.cell? ⟨nb,1,none⟩=some (.slice (some ⟨LB,0,none⟩) FL FL):=Ne.out.cell 1
        have s2:we.cell? ⟨LB,i,none⟩=some (.slice (some ⟨CB,i*11,none⟩) 11 11):=Me.out.l.cell hif
        have s3:we.cell? ⟨A.p,2,none⟩=some (.slice (some ⟨A.b,0,none⟩) G.n G.n):=wP.kp.cell 2
        have s4:we.cell? ⟨A.b,t,none⟩=some (.int .i32 (b:Nat)):=by rw [wP.fb.cell htn];show some (Value.int .i32 (P.b t:Nat))=_;rw [HCLB.out,hbe]
        have s5:we.cell? ⟨NB,b,none⟩=some (.int .i64 ((y+1:Nat):Int)):=by
         rw [wF.cell hbL]
         show some (Value.int .i64 (nuF cl G.n b:Nat))=_
         unfold nuF
         rw [HFE.out,if_pos (by rw [←hbe];exact hmem),hy]
        obtain⟨y1,hy1⟩:∃ y1,y+1=y1:=⟨_,rfl⟩
        rw [hy1] at s5
        have d1:IntKind.i64.wrap ((y1:Int) - 1)=(y:Int):=by rw [IntKind.wrap_i64];omega
        have cc:=Me.out.c.cell (by omega:i*11+c<FL*11)
        have cz:=Me.out.c.frozen (i*11+c)
        have gs:=grown_set we CB (i*11+c) (.int .i64 (y:Nat))
        have MN:Hid (MadeD (we.setCell ⟨CB,i*11+c,none⟩ (.int .i64 (y:Nat))) xs LB CB AB FL (cutF (rvF G cl F) (i*11+(c+1))) (cutO (fun i=>G.f (F.getD i 0)) i)):=Lib.hid ⟨Me.out.l.grown gs (fun e=>by
         injection e with e
         exact Me.out.l.apart Me.out.c (by decide) e.symm),(Me.out.c.put (by omega:i*11+c<FL*11) (.int .i64 (y:Nat))).congr (fun j hj=>by
         rw [i64F_upd]
         unfold i64F
         dsimp only
         rw [←HRV.out,cutF_succ]
         rfl),Me.out.a.grown gs (fun e=>by
         injection e with e
         exact Me.out.a.apart Me.out.c (by decide) e.symm),Me.out.lL,Me.out.lC,Me.out.lA⟩
        have NN:Hid (Blk nb 35 #[.int .i64 0,.slice (some ⟨LB,0,none⟩) FL FL,.slice (some ⟨AB,0,none⟩) FL FL] (we.setCell ⟨CB,i*11+c,none⟩ (.int .i64 (y:Nat)))):=Lib.hid (Ne.out.far (p:=⟨CB,i*11+c,none⟩) (fun e=>by
         obtain⟨cs,h2,_⟩:=Me.out.c
         have e:nb=CB:=e
         subst e
         have h3:=(show we.heap[nb]? =_ from Ne.out).symm.trans (show we.heap[nb]? =_ from h2)
         injection h3 with h3
         injection h3 with _ h3
         exact absurd h3 (by decide)) _)
        have BN:=Lib.hid (Be.out.setCell (p:=⟨CB,i*11+c,none⟩) Me.out.lC (.int .i64 (y:Nat)))
        have hS:(fun wx:World=>wx.cell? ⟨nb,1,none⟩=some (.slice (some ⟨LB,0,none⟩) FL FL)∧wx.cell? ⟨LB,i,none⟩=some (.slice (some ⟨CB,i*11,none⟩) 11 11)∧wx.cell? ⟨A.p,2,none⟩=some (.slice (some ⟨A.b,0,none⟩) G.n G.n)∧wx.cell? ⟨A.b,t,none⟩=some (.int .i32 (b:Nat))∧wx.cell? ⟨NB,b,none⟩=some (.int .i64 (y1:Nat))) we:=⟨s1,s2,s3,s4,s5⟩
        clear gs hbe hy hmem hy1 wF wO wP wG wR wA be be2
        go_upto_region 21 with fail
        refine region_hd 17 (fun wx:World=>wx.cell? ⟨nb,1,none⟩=some (.slice (some ⟨LB,0,none⟩) FL FL)∧wx.cell? ⟨LB,i,none⟩=some (.slice (some ⟨CB,i*11,none⟩) 11 11)∧wx.cell? ⟨A.p,2,none⟩=some (.slice (some ⟨A.b,0,none⟩) G.n G.n)∧wx.cell? ⟨A.b,t,none⟩=some (.int .i32 (b:Nat))∧wx.cell? ⟨NB,b,none⟩=some (.int .i64 (y1:Nat))) (by kernel_rfl) (by kernel_rfl) ?_
        rw [hwe]
        refine hd_taken 0 (some 80) _ ?hdvg0 rfl rfl (by kernel_rfl) (fun _ _ _ h=>h) (Or.inl ⟨by rfl,?hdyg0⟩) hS ?hdrg0
        case hdyg0=>(intro wx hx;(try dsimp only at hx);go_simp;try with_reducible rfl)
        try simp only [Act.put,zI,zO,zS]
        refine hd_taken 1 (some 81) _ ?hdvg1 rfl rfl (by kernel_rfl) (fun _ _ _ h=>h) (Or.inl ⟨by rfl,?hdyg1⟩) hS ?hdrg1
        case hdyg1=>(intro wx hx;(try dsimp only at hx);go_simp;try with_reducible rfl)
        try simp only [Act.put,zI,zO,zS]
        refine hd_taken 2 (some 82) _ ?hdvg2 rfl rfl (by kernel_rfl) (fun _ _ _ h=>h) (Or.inl ⟨by rfl,?hdyg2⟩) hS ?hdrg2
        case hdyg2=>(intro wx hx;(try dsimp only at hx);go_simp;try with_reducible rfl)
        try simp only [Act.put,zI,zO,zS]
        refine hd_taken 3 (some 83) _ ?hdvg3 rfl rfl (by kernel_rfl) (fun _ _ _ h=>h) (Or.inl ⟨by rfl,?hdyg3⟩) hS ?hdrg3
        case hdyg3=>(intro wx hx;(try dsimp only at hx);go_simp;try with_reducible rfl)
        try simp only [Act.put,zI,zO,zS]
        refine hd_taken 4 (some 84) _ ?hdvg4 rfl rfl (by kernel_rfl) (fun _ _ _ h=>h) (Or.inl ⟨by rfl,?hdyg4⟩) hS ?hdrg4
        case hdyg4=>(intro wx hx;(try dsimp only at hx);go_simp;try with_reducible rfl)
        try simp only [Act.put,zI,zO,zS]
        refine hd_taken 5 (some 85) _ ?hdvg5 rfl rfl (by kernel_rfl) (fun _ _ _ h=>h) (Or.inl ⟨by rfl,?hdyg5⟩) hS ?hdrg5
        case hdyg5=>(intro wx hx;(try dsimp only at hx);go_simp;try with_reducible rfl)
        try simp only [Act.put,zI,zO,zS]
        refine hd_taken 6 (some 86) _ ?hdvg6 rfl rfl (by kernel_rfl) (fun _ _ _ h=>h) (Or.inl ⟨by rfl,?hdyg6⟩) hS ?hdrg6
        case hdyg6=>(intro wx hx;(try dsimp only at hx);go_simp;try with_reducible rfl)
        try simp only [Act.put,zI,zO,zS]
        refine hd_taken 7 (some 87) _ ?hdvg7 rfl rfl (by kernel_rfl) (fun _ _ _ h=>h) (Or.inl ⟨by rfl,?hdyg7⟩) hS ?hdrg7
        case hdyg7=>(intro wx hx;(try dsimp only at hx);go_simp;try with_reducible rfl)
        try simp only [Act.put,zI,zO,zS]
        refine hd_taken 8 (some 88) _ ?hdvg8 rfl rfl (by kernel_rfl) (fun _ _ _ h=>h) (Or.inl ⟨by rfl,?hdyg8⟩) hS ?hdrg8
        case hdyg8=>(intro wx hx;(try dsimp only at hx);go_simp;try with_reducible rfl)
        try simp only [Act.put,zI,zO,zS]
        refine hd_taken 9 (some 89) _ ?hdvg9 rfl rfl (by kernel_rfl) (fun _ _ _ h=>h) (Or.inl ⟨by rfl,?hdyg9⟩) hS ?hdrg9
        case hdyg9=>(intro wx hx;(try dsimp only at hx);go_simp;try with_reducible rfl)
        try simp only [Act.put,zI,zO,zS]
        refine hd_taken 10 (some 90) _ ?hdvg10 rfl rfl (by kernel_rfl) (fun _ _ _ h=>h) (Or.inl ⟨by rfl,?hdyg10⟩) hS ?hdrg10
        case hdyg10=>(intro wx hx;(try dsimp only at hx);go_simp;try with_reducible rfl)
        try simp only [Act.put,zI,zO,zS]
        refine hd_taken 11 (some 91) _ ?hdvg11 rfl rfl (by kernel_rfl) (fun _ _ _ h=>h) (Or.inl ⟨by rfl,?hdyg11⟩) hS ?hdrg11
        case hdyg11=>(intro wx hx;(try dsimp only at hx);go_simp;try with_reducible rfl)
        try simp only [Act.put,zI,zO,zS]
        refine hd_taken 12 (some 92) _ ?hdvg12 rfl rfl (by kernel_rfl) (fun _ _ _ h=>h) (Or.inl ⟨by rfl,?hdyg12⟩) hS ?hdrg12
        case hdyg12=>(intro wx hx;(try dsimp only at hx);go_simp;try with_reducible rfl)
        try simp only [Act.put,zI,zO,zS]
        refine hd_taken 13 (some 93) _ ?hdvg13 rfl rfl (by kernel_rfl) (fun _ _ _ h=>h) (Or.inl ⟨by rfl,?hdyg13⟩) hS ?hdrg13
        case hdyg13=>(intro wx hx;(try dsimp only at hx);go_simp;try with_reducible rfl)
        try simp only [Act.put,zI,zO,zS]
        refine hd_taken 14 (some 94) _ ?hdvg14 rfl rfl (by kernel_rfl) (fun _ _ _ h=>h) (Or.inl ⟨by rfl,?hdyg14⟩) hS ?hdrg14
        case hdyg14=>(intro wx hx;(try dsimp only at hx);go_simp;try with_reducible rfl)
        try simp only [Act.put,zI,zO,zS]
        refine hd_taken 15 (some 95) _ ?hdvg15 rfl rfl (by kernel_rfl) (fun _ _ _ h=>h) (Or.inl ⟨by rfl,?hdyg15⟩) hS ?hdrg15
        case hdyg15=>(intro wx hx;(try dsimp only at hx);go_simp;try with_reducible rfl)
        try simp only [Act.put,zI,zO,zS]
        refine hd_taken 16 (some 96) _ ?hdvg16 rfl rfl (by kernel_rfl) (fun _ _ _ h=>h) (Or.inl ⟨by rfl,?hdyg16⟩) hS ?hdrg16
        case hdyg16=>(intro wx hx;(try dsimp only at hx);go_simp;try with_reducible rfl)
        try simp only [Act.put,zI,zO,zS]
        refine hd_done (by kernel_rfl) ?_
        simp only [List.drop_succ_cons,List.drop_zero]
        clear hwe
        go_wp2
        go_roundw
        case measure=>simp [intOf]<;>omega
        case rel=>exact⟨c+1,by omega,by go_num,MN.out,NN.out,BN.out⟩
       ·have hc11:c=11:=by omega
        subst hc11
        have h9c:¬ (11:Int)<11:=by omega
        obtain⟨we,hwe⟩:∃ we,w6.drew=we:=⟨_,rfl⟩
        have be:=(Below.refl w6.heap.size w6).drew
        have be2:=B7.out.drew
        rw [hwe] at be be2
        have Me:=Lib.hid (MadeD.mk (M6.out.l.below be) (M6.out.c.below be) (M6.out.a.below be) M6.out.lL M6.out.lC M6.out.lA)
        have Ne:=Lib.hid (Blk.below N6.out be)
        have Be:=Lib.hid be2
        obtain⟨wF,wO,wP,wG,wR,wA,_⟩:=HW4.out we be2
        obtain⟨b2,off2,rfl,k2⟩:=wA.boo s (by rw [HFL.out];exact hsn)
        rw [HF.out s hsn] at k2
        obtain⟨fb,hfb⟩:∃ fb,G.f s=fb:=⟨_,rfl⟩
        have HFB:Hid (G.f (F.getD i 0)=fb):=Lib.hid (by rw [HSE.out];exact hfb)
        rw [hfb] at k2
        have s1:we.cell? ⟨nb,2,none⟩=some (.slice (some ⟨AB,0,none⟩) FL FL):=Ne.out.cell 2
        have s2:we.cell? ⟨g,1,none⟩=some (.slice (some ⟨b2,off2,none⟩) G.n c2):=wG.cell 1
        have cc:=Me.out.a.cell hif
        have cz:=Me.out.a.frozen i
        have gs:=grown_set we AB i (.bool fb)
        have MN:Hid (MadeD (we.setCell ⟨AB,i,none⟩ (.bool fb)) xs LB CB AB FL (cutF (rvF G cl F) ((i+1)*11)) (cutO (fun i=>G.f (F.getD i 0)) (i+1))):=Lib.hid ⟨Me.out.l.grown gs (fun e=>by
         injection e with e
         exact Me.out.l.apart Me.out.a (by decide) e.symm),by rw [Nat.add_mul,Nat.one_mul];exact Me.out.c.grown gs (fun e=>by
         injection e with e
         exact Me.out.c.apart Me.out.a (by decide) e.symm),(Me.out.a.put hif (.bool fb)).congr (fun j hj=>by
         rw [boF_upd,←HFB.out]
         unfold boF
         dsimp only
         rw [←cutO_succ]),Me.out.lL,Me.out.lC,Me.out.lA⟩
        have NN:Hid (Blk nb 35 #[.int .i64 0,.slice (some ⟨LB,0,none⟩) FL FL,.slice (some ⟨AB,0,none⟩) FL FL] (we.setCell ⟨AB,i,none⟩ (.bool fb))):=Lib.hid (Ne.out.far (p:=⟨AB,i,none⟩) (fun e=>by
         obtain⟨cs,h2,_⟩:=Me.out.a
         have e:nb=AB:=e
         subst e
         have h3:=(show we.heap[nb]? =_ from Ne.out).symm.trans (show we.heap[nb]? =_ from h2)
         injection h3 with h3
         injection h3 with _ h3
         exact absurd h3 (by decide)) _)
        have BN:=Lib.hid (Be.out.setCell (p:=⟨AB,i,none⟩) Me.out.lA (.bool fb))
        have hS:(fun wx:World=>wx.cell? ⟨nb,2,none⟩=some (.slice (some ⟨AB,0,none⟩) FL FL)∧wx.cell? ⟨g,1,none⟩=some (.slice (some ⟨b2,off2,none⟩) G.n c2)∧wx.cell? ⟨b2,off2+s,none⟩=some (.bool fb)) we:=⟨s1,s2,k2⟩
        clear gs hfb wF wO wP wG wR wA be be2
        go_upto_region 23 with fail
        refine region_hd 8 (fun wx:World=>wx.cell? ⟨nb,2,none⟩=some (.slice (some ⟨AB,0,none⟩) FL FL)∧wx.cell? ⟨g,1,none⟩=some (.slice (some ⟨b2,off2,none⟩) G.n c2)∧wx.cell? ⟨b2,off2+s,none⟩=some (.bool fb)) (by kernel_rfl) (by kernel_rfl) ?_
        rw [hwe]
        refine hd_taken 0 (some 99) _ ?hdvh0 rfl rfl (by kernel_rfl) (fun _ _ _ h=>h) (Or.inl ⟨by rfl,?hdyh0⟩) hS ?hdrh0
        case hdyh0=>(intro wx hx;(try dsimp only at hx);go_simp;try with_reducible rfl)
        try simp only [Act.put,zI,zO,zS]
        refine hd_taken 1 (some 100) _ ?hdvh1 rfl rfl (by kernel_rfl) (fun _ _ _ h=>h) (Or.inl ⟨by rfl,?hdyh1⟩) hS ?hdrh1
        case hdyh1=>(intro wx hx;(try dsimp only at hx);go_simp;try with_reducible rfl)
        try simp only [Act.put,zI,zO,zS]
        refine hd_taken 2 (some 101) _ ?hdvh2 rfl rfl (by kernel_rfl) (fun _ _ _ h=>h) (Or.inl ⟨by rfl,?hdyh2⟩) hS ?hdrh2
        case hdyh2=>(intro wx hx;(try dsimp only at hx);go_simp;try with_reducible rfl)
        try simp only [Act.put,zI,zO,zS]
        refine hd_taken 3 (some 102) _ ?hdvh3 rfl rfl (by kernel_rfl) (fun _ _ _ h=>h) (Or.inl ⟨by rfl,?hdyh3⟩) hS ?hdrh3
        case hdyh3=>(intro wx hx;(try dsimp only at hx);go_simp;try with_reducible rfl)
        try simp only [Act.put,zI,zO,zS]
        refine hd_taken 4 (some 103) _ ?hdvh4 rfl rfl (by kernel_rfl) (fun _ _ _ h=>h) (Or.inl ⟨by rfl,?hdyh4⟩) hS ?hdrh4
        case hdyh4=>(intro wx hx;(try dsimp only at hx);go_simp;try with_reducible rfl)
        try simp only [Act.put,zI,zO,zS]
        refine hd_taken 5 (some 104) _ ?hdvh5 rfl rfl (by kernel_rfl) (fun _ _ _ h=>h) (Or.inl ⟨by rfl,?hdyh5⟩) hS ?hdrh5
        case hdyh5=>(intro wx hx;(try dsimp only at hx);go_simp;try with_reducible rfl)
        try simp only [Act.put,zI,zO,zS]
        refine hd_taken 6 (some 105) _ ?hdvh6 rfl rfl (by kernel_rfl) (fun _ _ _ h=>h) (Or.inl ⟨by rfl,?hdyh6⟩) hS ?hdrh6
        case hdyh6=>(intro wx hx;(try dsimp only at hx);go_simp;try with_reducible rfl)
        try simp only [Act.put,zI,zO,zS]
        refine hd_taken 7 (some 106) _ ?hdvh7 rfl rfl (by kernel_rfl) (fun _ _ _ h=>h) (Or.inl ⟨by rfl,?hdyh7⟩) hS ?hdrh7
        case hdyh7=>(intro wx hx;(try dsimp only at hx);go_simp;try with_reducible rfl)
        try simp only [Act.put,zI,zO,zS]
        refine hd_done (by kernel_rfl) ?_
        simp only [List.drop_succ_cons,List.drop_zero]
        clear hwe
        go_wp2
        go_roundw
        case measure=>(have:=HIF.out);simp [intOf]<;>omega
        case rel=>exact⟨i+1,HIF.out,by(have:=HIF.out);go_num,MN.out,NN.out,BN.out⟩
     ·obtain rfl:i=FL:=by omega
      have h9i:¬ (i:Int)<(i:Int):=by omega
      obtain⟨_,_,_,_,_,_,wD,wB⟩:=HW4.out w5 B6.out
      have n0:w5.cell? ⟨nb,0,none⟩=some (.int .i64 0):=N5.out.cell 0
      have n1:w5.cell? ⟨nb,1,none⟩=some (.slice (some ⟨LB,0,none⟩) i i):=N5.out.cell 1
      have n2:w5.cell? ⟨nb,2,none⟩=some (.slice (some ⟨AB,0,none⟩) i i):=N5.out.cell 2
      have e0:=wD.cell 0
      have e1:=wD.cell 1
      have e2:=wD.cell 2
      have ef:=wD.frozen
      have gr:=((grown_set w5 (g+1) 0 (.int .i64 0)).trans (grown_set _ (g+1) 1 (.slice (some ⟨LB,0,none⟩) i i))).trans (grown_set _ (g+1) 2 (.slice (some ⟨AB,0,none⟩) i i))
      have hne:∀ b,xs≤b→(some (g+1):Option Nat)≠some b:=fun b hb e=>by injection e with e;have:=HGX.out;omega
      have HFIN:Hid (Blk (g+1) 35 #[.int .i64 0,.slice (some ⟨LB,0,none⟩) i i,.slice (some ⟨AB,0,none⟩) i i] (((w5.setCell ⟨g+1,0,none⟩ (.int .i64 0)).setCell ⟨g+1,1,none⟩ (.slice (some ⟨LB,0,none⟩) i i)).setCell ⟨g+1,2,none⟩ (.slice (some ⟨AB,0,none⟩) i i))∧MinR G w (.returned (.tuple #[.agg #[.int .i64 0,.slice (some ⟨LB,0,none⟩) i i,.slice (some ⟨AB,0,none⟩) i i],.int .i64 0])) (((w5.setCell ⟨g+1,0,none⟩ (.int .i64 0)).setCell ⟨g+1,1,none⟩ (.slice (some ⟨LB,0,none⟩) i i)).setCell ⟨g+1,2,none⟩ (.slice (some ⟨AB,0,none⟩) i i))):=Lib.hid (by
       have hxw:w.heap.size≤xs:=by have:=HGX.out;have:=HGG.out;omega
       refine⟨((wD.put 0 _).put 1 _).put 2 _,cl,i,LB,CB,AB,CL1.out,HS1.out.1,rfl,⟨M5.out.l.grown gr (hne _ M5.out.lL),(M5.out.c.congr (fun j hj=>?_)).grown gr (hne _ M5.out.lC),(M5.out.a.congr (fun j hj=>?_)).grown gr (hne _ M5.out.lA),Nat.le_trans hxw M5.out.lL,Nat.le_trans hxw M5.out.lC,Nat.le_trans hxw M5.out.lA⟩,?_⟩
       ·unfold i64F cutF
        rw [if_pos hj,rv_out HOK.out HS1.out.1 HS1.out.2 hj]
       ·unfold boF cutO
        dsimp only
        rw [if_pos hj,out_f HS1.out.2 hj]
       ·have hlg:w.heap.size≤g+1:=by have:=HGG.out;omega
        exact(((HBB.out.trans (wB.mono HBB.out.size)).setCell (p:=⟨g+1,0,none⟩) hlg _).setCell (p:=⟨g+1,1,none⟩) hlg _).setCell (p:=⟨g+1,2,none⟩) hlg _)
      clear gr hne wB
      go_wp2
      exact bodyPost_ret (v:= .tuple #[.agg #[.int .i64 0,.slice (some ⟨LB,0,none⟩) i i,.slice (some ⟨AB,0,none⟩) i i],.int .i64 0]) (resMG rfl rfl HFIN.out.1) rfl HFIN.out.2
end Go.Proofs.YtobapaodpcheiaaGreatDoor
