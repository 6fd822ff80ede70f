/- What the row stands on, part 25. -/
import Derived.Test.YtobapaodpcheiaaGreatDoorQ24
namespace Go.Proofs.YtobapaodpcheiaaGreatDoor
open Go.RowKit Go.Maps
set_option linter.unusedVariables false
theorem own_keep {α:Type} {k:Nat} {enc:α→List Value} {w w':World} {base:Nat} {e:TypeId} {v:Value} {l:List α} (h:Own1 k enc w base e v l) (hf:∀ g,v.ownBlock=some g→w'.heap[g]? =w.heap[g]?):Own1 k enc w' base e v l:=by
 refine⟨h.1,?_⟩
 rcases h.2 with h0|⟨g,cap,cur,hv,hB,hg,hr⟩
 ·exact .inl h0
 ·exact .inr ⟨g,cap,cur,hv,hB,(hf g (by rw [hv];rfl)).trans hg,hr⟩
theorem Fn.keep {B n:Nat} {t:TypeId} {f:Nat→Value} {w w':World} (h:Fn B t n f w) (hb:w'.heap[B]? =w.heap[B]?):Fn B t n f w':=by
 obtain⟨cs,h,h2⟩:=h
 exact⟨cs,hb.trans h,h2⟩
theorem MapN.keep {w w':World} {B n:Nat} {fd:List Rg} (h:MapN w B n fd) (hb:w'.heap[B]? =w.heap[B]?):MapN w' B n fd:=by
 obtain⟨D,⟨es,clock,h2,h3⟩,h4⟩:=h
 exact⟨D,⟨es,clock,hb.trans h2,h3⟩,h4⟩
theorem Fn.ne_box {B B' n:Nat} {t t':TypeId} {f:Nat→Value} {w:World} {cs:Array Value} (h:Fn B t n f w) (h':Blk B' t' cs w) (hne:t≠t'):B≠B':=fun e=>by
 subst e
 obtain⟨cs2,h1,_⟩:=h
 have h3:=(show w.heap[B]? =_ from h1).symm.trans (show w.heap[B]? =_ from h')
 injection h3 with h3
 injection h3 with _ h3
 exact hne h3
theorem Blk.ne_box {B B':Nat} {t t':TypeId} {w:World} {cs cs':Array Value} (h:Blk B t cs w) (h':Blk B' t' cs' w) (hne:t≠t'):B≠B':=fun e=>by
 subst e
 have h3:=(show w.heap[B]? =_ from h).symm.trans (show w.heap[B]? =_ from h')
 injection h3 with h3
 injection h3 with _ h3
 exact hne h3
theorem MapN.ne_fn {w:World} {B n B' m:Nat} {fd:List Rg} {t:TypeId} {f:Nat→Value} (h:MapN w B n fd) (h':Fn B' t m f w):B≠B':=fun e=>by
 subst e
 obtain⟨D,⟨es,clock,h2,_⟩,_⟩:=h
 obtain⟨cs2,h1,_⟩:=h'
 rw [show w.heap[B]? =_ from h1] at h2
 cases h2
def nilF:Nat→Value:=fun _=> .slice none 0 0
def falF:Nat→Value:=fun _=> .bool false
structure DfaS (w:World) (D L A n:Nat) (f h:Nat→Value) (base:Nat):Prop where
 box:Blk D 35 #[.int .i64 0,.slice (some ⟨L,0,none⟩) n n,.slice (some ⟨A,0,none⟩) n n] w
 rows:Fn L 69 n f w
 acc:Fn A 4 n h w
 low:base≤D
 lowL:base≤L
 lowA:base≤A
theorem Fn.put3 {w:World} {B D n:Nat} {t:TypeId} {f:Nat→Value} (h:Fn B t n f w) (hne:D≠B) (a b c:Value):Fn B t n f (put3 w D a b c):=by
 have hn:some D≠some B:=fun e=>hne (Option.some.inj e)
 exact((h.grown (grown_set w D 0 a) hn).grown (grown_set _ D 1 b) hn).grown (grown_set _ D 2 c) hn
theorem dfa_leaf {n WS:Nat} {wr wz:World} {D L A:Nat} {f h:Nat→Value} (hb:Below WS wr wz) (hD:Blk D 35 #[.int .i64 0,.slice none 0 0,.slice none 0 0] wz) (hL:Fn L 69 n f wz) (hA:Fn A 4 n h wz) (lD:WS≤D) (lL:WS≤L) (lA:WS≤A):
  DfaS (put3 wz D (.int .i64 0) (.slice (some ⟨L,0,none⟩) n n) (.slice (some ⟨A,0,none⟩) n n)) D L A n f h WS∧Below WS wr (put3 wz D (.int .i64 0) (.slice (some ⟨L,0,none⟩) n n) (.slice (some ⟨A,0,none⟩) n n)):=by
 have n1:L≠D:=hL.ne_box hD (by decide)
 have n2:A≠D:=hA.ne_box hD (by decide)
 obtain⟨k1,k2⟩:=put3_ok (n:=WS) (a':= .int .i64 0) (b':= .slice (some ⟨L,0,none⟩) n n) (c':= .slice (some ⟨A,0,none⟩) n n) hD lD
 exact⟨⟨k1,Fn.put3 hL (Ne.symm n1) _ _ _,Fn.put3 hA (Ne.symm n2) _ _ _,lD,lL,lA⟩,hb.trans k2⟩
def nIx (Q:List (List Nat × Rg)) (x:Rg):Nat:=(Q.map Prod.snd).findIdx fun y=>decide (y=x)
theorem nIx_get {Q:List (List Nat × Rg)} {x:Rg} (h:x∈Q.map Prod.snd):∃ hl:nIx Q x<(Q.map Prod.snd).length,(Q.map Prod.snd)[nIx Q x]=x:=by
 have h1:nIx Q x<(Q.map Prod.snd).length:=List.findIdx_lt_length_of_exists ⟨x,h,by simp⟩
 refine⟨h1,?_⟩
 have:=List.findIdx_getElem (p:=fun y=>decide (y=x)) (w:=h1)
 exact of_decide_eq_true this
def stQ (Q:List (List Nat × Rg)) (x0:Rg) (k:Nat):Rg:=(Q.getD k ([],x0)).2
theorem stQ_get {Q:List (List Nat × Rg)} {x0:Rg} {k:Nat} (h:k<Q.length):stQ Q x0 k=Q[k].2:=by
 unfold stQ
 rw [List.getD_eq_getElem?_getD,List.getElem?_eq_getElem h]
 rfl
def rowQ (f:Rg→Nat→Rg) (Q:List (List Nat × Rg)) (x0:Rg) (k:Nat):List Nat:=(List.range 11).map fun c=>nIx Q (f (stQ Q x0 k) c)
theorem rowQ_len (f:Rg→Nat→Rg) (Q:List (List Nat × Rg)) (x0:Rg) (k:Nat):(rowQ f Q x0 k).length=11:=by unfold rowQ;rw [List.length_map,List.length_range]
theorem rowQ_take {f:Rg→Nat→Rg} {Q:List (List Nat × Rg)} {x0:Rg} {k c:Nat} (hc:c<11):(rowQ f Q x0 k).take (c+1)=(rowQ f Q x0 k).take c++ [nIx Q (f (stQ Q x0 k) c)]:=by
 rw [List.take_succ_eq_append_getElem (by rw [rowQ_len];exact hc)]
 congr 2
 unfold rowQ
 rw [List.getElem_map,List.getElem_range]
def rowF (F:Nat→RawS) (k:Nat) (v:Value):Nat→Value:=fun i=>if i<k then .slice (F i).a (F i).n (F i).c else if i=k then v else .slice none 0 0
theorem rowF_self (F:Nat→RawS) (k:Nat) (v:Value):rowF F k v k=v:=by
 unfold rowF
 rw [if_neg (Nat.lt_irrefl k),if_pos rfl]
def accF (ac:Nat→Bool) (k:Nat):Nat→Value:=fun i=> .bool (if i<k then ac i else false)
theorem accF_self (ac:Nat→Bool) (k:Nat):accF ac k k= .bool false:=by
 unfold accF
 rw [if_neg (Nat.lt_irrefl k)]
section
variable (f:Rg→Nat→Rg) (Q:List (List Nat × Rg)) (x0:Rg) (ac:Nat→Bool) (w0:World) (G g2 Bm WS D L A N:Nat) (vq:Value)
structure InI (k c:Nat) (F:Nat→RawS) (v:Value) (bs:Nat) (w:World):Prop where
 own:Own1 6 encAr w G 100 vq Q
 map:MapN w Bm N (Q.map Prod.snd)
 box:Blk g2 35 #[.int .i64 0,.slice none 0 0,.slice none 0 0] w
 dfa:DfaS w D L A N (rowF F k v) (accF ac k) WS
 old:∀ i,i<k→Own1 1 encN w WS 3 (.slice (F i).a (F i).n (F i).c) (rowQ f Q x0 i)∧∀ b,(Value.slice (F i).a (F i).n (F i).c).ownBlock=some b→b<bs
 cur:Own1 1 encN w bs 3 v ((rowQ f Q x0 k).take c)
 bw:Below G w0 w
 lq:∀ b,vq.ownBlock=some b→b<bs
 lm:Bm<bs
 l2:g2<bs
 lD:D<bs
 lL:L<bs
 lA:A<bs
 lG:G≤WS
 lW:WS≤bs
 ls:bs≤w.heap.size
end
section
variable {f:Rg→Nat→Rg} {Q:List (List Nat × Rg)} {x0:Rg} {ac:Nat→Bool} {w0:World} {G g2 Bm WS D L A N:Nat} {vq:Value}
theorem DfaS.keep {w w':World} {n:Nat} {r h:Nat→Value} {base:Nat} (d:DfaS w D L A n r h base) (hb:∀ b,b=D∨b=L∨b=A→w'.heap[b]? =w.heap[b]?):DfaS w' D L A n r h base:=
 ⟨(hb D (.inl rfl)).trans d.box,d.rows.keep (hb L (.inr (.inl rfl))),d.acc.keep (hb A (.inr (.inr rfl))),d.low,d.lowL,d.lowA⟩
theorem InI.below {k c:Nat} {F:Nat→RawS} {v:Value} {bs:Nat} {w w':World} (h:InI f Q x0 ac w0 G g2 Bm WS D L A N vq k c F v bs w) (hb:Below w.heap.size w w'):InI f Q x0 ac w0 G g2 Bm WS D L A N vq k c F v bs w':=
 ⟨own_below h.own hb,h.map.below hb,h.box.below hb,h.dfa.keep (fun b e=>hb.block b (by have:=h.lD;have:=h.lL;have:=h.lA;have:=h.ls;rcases e with rfl|rfl|rfl<;>omega)),fun i hi=>⟨own_below (h.old i hi).1 hb,(h.old i hi).2⟩,own_below h.cur hb,st h.bw hb (by have:=h.lG;have:=h.lW;have:=h.ls;omega),
  h.lq,h.lm,h.l2,h.lD,h.lL,h.lA,h.lG,h.lW,Nat.le_trans h.ls hb.size⟩
theorem InI.step {k c:Nat} {F:Nat→RawS} {v v':Value} {bs:Nat} {w w4:World} (h:InI f Q x0 ac w0 G g2 Bm WS D L A N vq k c F v bs w) (hk:k<N) (hc:c<11) (hv:Own1 1 encN w4 bs 3 v' ((rowQ f Q x0 k).take c++ [nIx Q (f (stQ Q x0 k) c)])) (hb:Below bs w w4):
  InI f Q x0 ac w0 G g2 Bm WS D L A N vq k (c+1) F v' bs (w4.setCell ⟨L,k,none⟩ v'):=by
 have hbl:∀ b,b<bs→b≠L→(w4.setCell ⟨L,k,none⟩ v').heap[b]? =w.heap[b]? :=fun b h1 h2=>(Below.heap_setCell w4 ⟨L,k,none⟩ v' b h2).trans (hb.block b h1)
 have nDL:L≠D:=h.dfa.rows.ne_box h.dfa.box (by decide)
 have nAL:A≠L:=h.dfa.acc.apart h.dfa.rows (by decide)
 have n2L:L≠g2:=h.dfa.rows.ne_box h.box (by decide)
 have nmL:Bm≠L:=h.map.ne_fn h.dfa.rows
 refine⟨own_keep h.own (fun b e=>hbl b (h.lq b e) (fun e2=>?_)),h.map.keep (hbl _ h.lm nmL),(hbl _ h.l2 (Ne.symm n2L)).trans h.box,⟨(hbl _ h.lD (Ne.symm nDL)).trans h.dfa.box,?_,h.dfa.acc.keep (hbl _ h.lA nAL),h.dfa.low,h.dfa.lowL,h.dfa.lowA⟩,fun i hi=>⟨own_keep (h.old i hi).1 (fun b e=>hbl b ((h.old i hi).2 b e) (fun e2=>?_)),(h.old i hi).2⟩,?_,?_,h.lq,h.lm,h.l2,h.lD,h.lL,h.lA,h.lG,h.lW,by rw [World.size_setCell];exact Nat.le_trans h.ls hb.size⟩
 ·subst e2
  exact(h.dfa.rows.own h.own (by decide)) e
 ·have h1:Fn L 69 N (rowF F k v) w4:=h.dfa.rows.keep (hb.block L h.lL)
  refine(h1.put hk v').congr (fun i hi=>?_)
  show(if i=k then v' else rowF F k v i)=rowF F k v' i
  unfold rowF
  by_cases e:i=k
  ·rw [if_pos e,if_neg (by omega),if_pos e]
  ·rw [if_neg e,if_neg e,if_neg e]
 ·subst e2
  exact(h.dfa.rows.own (h.old i hi).1 (by decide)) e
 ·rw [rowQ_take hc]
  have h1:Fn L 69 N (rowF F k v) w4:=h.dfa.rows.keep (hb.block L h.lL)
  exact own_keep hv (fun b e=>Below.heap_setCell w4 ⟨L,k,none⟩ v' b (fun e2=>by subst e2;exact(h1.own hv (by decide)) e))
 ·exact h.bw.trans ((hb.mono (by have:=h.lG;have:=h.lW;omega)).setCell (p:=⟨L,k,none⟩) (by have:=h.dfa.lowL;have:=h.lG;show G≤L;omega) v')
theorem InI.fin {k:Nat} {F:Nat→RawS} {v:Value} {bs:Nat} {w:World} (h:InI f Q x0 ac w0 G g2 Bm WS D L A N vq k 11 F v bs w) (hk:k<N) (b:Bool) (hb:ac k=b) (w':World) (hw:w'=w.setCell ⟨A,k,none⟩ (.bool b)):
  ∃ F',InI f Q x0 ac w0 G g2 Bm WS D L A N vq (k+1) 0 F' (.slice none 0 0) w'.heap.size w':=by
 obtain⟨a,c,hv⟩:=h.cur.slice
 have e11:(rowQ f Q x0 k).take 11=rowQ f Q x0 k:=List.take_of_length_le (Nat.le_of_eq (rowQ_len _ _ _ _))
 rw [e11,rowQ_len] at hv
 have hcur:=h.cur
 rw [e11,hv] at hcur
 subst hw
 have hbl:∀ b',b'≠A→(w.setCell ⟨A,k,none⟩ (.bool b)).heap[b']? =w.heap[b']? :=fun b' h2=>Below.heap_setCell w ⟨A,k,none⟩ _ b' h2
 have nDA:A≠D:=h.dfa.acc.ne_box h.dfa.box (by decide)
 have nAL:A≠L:=h.dfa.acc.apart h.dfa.rows (by decide)
 have n2A:A≠g2:=h.dfa.acc.ne_box h.box (by decide)
 have nmA:Bm≠A:=h.map.ne_fn h.dfa.acc
 have hsz:(w.setCell ⟨A,k,none⟩ (.bool b)).heap.size=w.heap.size:=World.size_setCell _ _ _
 have lt_:∀ {x:Nat},x<bs→x<(w.setCell ⟨A,k,none⟩ (.bool b)).heap.size:=fun {x} hx=>by rw [hsz];have:=h.ls;omega
 refine⟨fun i=>if i=k then⟨a,11,c⟩ else F i,own_keep h.own (fun b' e=>hbl b' (fun e2=>?_)),h.map.keep (hbl _ nmA),(hbl _ (Ne.symm n2A)).trans h.box,⟨(hbl _ (Ne.symm nDA)).trans h.dfa.box,?_,?_,h.dfa.low,h.dfa.lowL,h.dfa.lowA⟩,fun i hi=>?_,own1_nil _ _ _,?_,fun b' e=>lt_ (h.lq b' e),lt_ h.lm,lt_ h.l2,lt_ h.lD,lt_ h.lL,lt_ h.lA,h.lG,by rw [hsz];have:=h.lW;have:=h.ls;omega,Nat.le_refl _⟩
 ·subst e2
  exact(h.dfa.acc.own h.own (by decide)) e
 ·refine(h.dfa.rows.keep (hbl _ (Ne.symm nAL))).congr (fun i hi=>?_)
  unfold rowF
  try dsimp only
  by_cases e:i=k
  ·subst e
   rw [if_neg (by omega),if_pos rfl,if_pos (by omega),if_pos rfl,hv]
  ·rw [if_neg e,if_neg e]
   by_cases e2:i<k
   ·rw [if_pos e2,if_pos (by omega)]
   ·rw [if_neg e2,if_neg (by omega)]
    split<;>rfl
 ·refine(h.dfa.acc.put hk (.bool b)).congr (fun i hi=>?_)
  show(if i=k then Value.bool b else accF ac k i)=accF ac (k+1) i
  unfold accF
  by_cases e:i=k
  ·subst e
   rw [if_pos rfl,if_pos (by omega),hb]
  ·rw [if_neg e]
   by_cases e2:i<k
   ·rw [if_pos e2,if_pos (by omega)]
   ·rw [if_neg e2,if_neg (by omega)]
 ·skip
  by_cases e:i=k
  ·subst e
   rw [if_pos rfl]
   refine⟨own_keep (hcur.base h.lW) (fun b' e=>hbl b' (fun e2=>?_)),fun b' e=>by rw [hsz];exact(own_lt hcur b' e).2⟩
   subst e2
   exact(h.dfa.acc.own hcur (by decide)) e
  ·rw [if_neg e]
   have h1:=h.old i (by omega)
   refine⟨own_keep h1.1 (fun b' e=>hbl b' (fun e2=>?_)),fun b' e=>lt_ (h1.2 b' e)⟩
   subst e2
   exact(h.dfa.acc.own h1.1 (by decide)) e
 ·exact h.bw.setCell (p:=⟨A,k,none⟩) (by have:=h.dfa.lowA;have:=h.lG;show G≤A;omega) _
end
theorem runR_app (f:Rg→Nat→Rg) (x:Rg) (u v:List Nat):runR f x (u++v)=runR f (runR f x u) v:=by unfold runR;rw [List.foldl_append]
theorem one_found {f:Rg→Nat→Rg} {x0:Rg} {m N:Nat} {Q:List (List Nat × Rg)} (h:Found f x0 m N Q) {q r:List Nat × Rg} (hq:q∈Q) (hr:r∈Q) (e:q.2=r.2):q=r:=by
 obtain⟨i,hi,rfl⟩:=List.mem_iff_getElem.1 hq
 obtain⟨j,hj,rfl⟩:=List.mem_iff_getElem.1 hr
 have:=(List.getElem_inj (i:=i) (j:=j) (h₀:=by rw [List.length_map];exact hi) (h₁:=by rw [List.length_map];exact hj) h.nd).1 (by rw [List.getElem_map,List.getElem_map];exact e)
 subst this
 rfl
theorem found_closed {f:Rg→Nat→Rg} {x0:Rg} {m N:Nat} {Q:List (List Nat × Rg)} (h:Found f x0 m N Q) (hQ:Q.length≤N) {q:List Nat × Rg} (hq:q∈Q) {c:Nat} (hc:c<m):f q.2 c∈Q.map Prod.snd:=by
 obtain⟨h1,h2,h3⟩:=h.run q hq
 by_cases hl:q.1.length<N
 ·obtain⟨q',hq',e,_⟩:=h.all (q.1++ [c]) (fun s hs=>by
   rcases List.mem_append.1 hs with hs|hs
   ·exact h2 s hs
   ·rw [List.mem_singleton.1 hs];exact hc) (by rw [List.length_append,List.length_singleton];omega)
  rw [runR_app,h1] at e
  exact List.mem_map.2 ⟨q',hq',e⟩
 ·exfalso
  have hw:∀ i,(∀ s∈q.1.take i,s<m):=fun i s hs=>h2 s (List.mem_of_mem_take hs)
  have hin:∀ i j,i<j→j≤N→runR f x0 (q.1.take i)≠runR f x0 (q.1.take j):=fun i j hij hj e=>by
   obtain⟨q',hq',e1,e2⟩:=h.all (q.1.take i++q.1.drop j) (fun s hs=>by
    rcases List.mem_append.1 hs with hs|hs
    ·exact hw i s hs
    ·exact h2 s (List.mem_of_mem_drop hs)) (by rw [List.length_append,List.length_take,List.length_drop];omega)
   rw [runR_app,e,←runR_app,List.take_append_drop,h1] at e1
   have:=one_found h hq' hq e1
   subst this
   have hlen:q'.1.length≤(q'.1.take i++q'.1.drop j).length:=by
    rcases e2 with e2|e2
    ·exact Nat.le_of_eq (congrArg List.length e2)
    ·rcases e2 with e2|e2
     ·exact Nat.le_of_lt e2
     ·exact Nat.le_of_eq e2.1
   rw [List.length_append,List.length_take,List.length_drop] at hlen
   omega
  have hnd:((List.range (N+1)).map fun i=>runR f x0 (q.1.take i)).Nodup:=by
   rw [List.nodup_iff_pairwise_ne,List.pairwise_map]
   refine List.Pairwise.imp_of_mem (fun {a b} ha hb hab=>?_) (List.pairwise_lt_range (n:=N+1))
   exact hin a b hab (by have:=List.mem_range.1 hb;omega)
  have hsub:∀ x∈(List.range (N+1)).map fun i=>runR f x0 (q.1.take i),x∈Q.map Prod.snd:=fun x hx=>by
   obtain⟨i,hi,rfl⟩:=List.mem_map.1 hx
   obtain⟨q',hq',e1,_⟩:=h.all (q.1.take i) (hw i) (by rw [List.length_take];have:=List.mem_range.1 hi;omega)
   exact List.mem_map.2 ⟨q',hq',e1⟩
  have:=nodup_leR hnd hsub
  rw [List.length_map,List.length_range,List.length_map] at this
  omega
theorem InI.start {f:Rg→Nat→Rg} {Q:List (List Nat × Rg)} {x0:Rg} {ac:Nat→Bool} {w0:World} {G g2 Bm WS D L A N:Nat} {vq:Value} {k:Nat} {F:Nat→RawS} {bs bs':Nat} {w:World} (h:InI f Q x0 ac w0 G g2 Bm WS D L A N vq k 0 F (.slice none 0 0) bs w) (h1:bs≤bs') (h2:bs'≤w.heap.size):InI f Q x0 ac w0 G g2 Bm WS D L A N vq k 0 F (.slice none 0 0) bs' w:=
 ⟨h.own,h.map,h.box,h.dfa,fun i hi=>⟨(h.old i hi).1,fun b e=>Nat.lt_of_lt_of_le ((h.old i hi).2 b e) h1⟩,own1_nil _ _ _,h.bw,fun b e=>Nat.lt_of_lt_of_le (h.lq b e) h1,Nat.lt_of_lt_of_le h.lm h1,Nat.lt_of_lt_of_le h.l2 h1,Nat.lt_of_lt_of_le h.lD h1,Nat.lt_of_lt_of_le h.lL h1,Nat.lt_of_lt_of_le h.lA h1,h.lG,Nat.le_trans h.lW h1,h2⟩
def rawQ (f:Rg→Nat→Rg) (x0:Rg) (ac:Nat→Bool) (Q:List (List Nat × Rg)):RawD:=mkR ((List.range Q.length).map (rowQ f Q x0)) ((List.range Q.length).map ac)
section
variable {f:Rg→Nat→Rg} {x0:Rg} {ac:Nat→Bool} {Q:List (List Nat × Rg)}
theorem rawQ_len:(rawQ f x0 ac Q).nx.length=Q.length:=by
 show(List.map _ (List.map _ (List.range _))).length=_
 rw [List.length_map,List.length_map,List.length_range]
theorem rawQ_acl:(rawQ f x0 ac Q).ac.length=Q.length:=by
 show(List.map _ (List.range _)).length=_
 rw [List.length_map,List.length_range]
theorem rawQ_ok (hcl:∀ i (hi:i<Q.length) c,c<11→f (Q[i]'hi).2 c∈Q.map Prod.snd) (h0:0<Q.length) (h2:Q.length≤2000):okD (rawQ f x0 ac Q)=true:=by
 rw [okD_iff]
 refine⟨⟨by rw [rawQ_len];exact h0,by rw [rawQ_len];omega,by rw [rawQ_len,rawQ_acl],Int.le_refl _,by rw [rawQ_len];show(0:Int)<_;omega,fun l hl=>?_,fun l hl x hx=>?_⟩,by rw [rawQ_len];exact h2⟩
 ·obtain⟨l2,hl2,rfl⟩:=List.mem_map.1 (show l∈List.map _ (List.map _ (List.range _)) from hl)
  obtain⟨i,_,rfl⟩:=List.mem_map.1 hl2
  rw [List.length_map,rowQ_len]
 ·obtain⟨l2,hl2,rfl⟩:=List.mem_map.1 (show l∈List.map _ (List.map _ (List.range _)) from hl)
  obtain⟨i,hi,rfl⟩:=List.mem_map.1 hl2
  obtain⟨y,hy,rfl⟩:=List.mem_map.1 hx
  obtain⟨c,hc,rfl⟩:=List.mem_map.1 (show y∈List.map _ (List.range 11) from hy)
  have hi2:=List.mem_range.1 hi
  obtain⟨h3,_⟩:=nIx_get (hcl i hi2 c (List.mem_range.1 hc))
  rw [List.length_map] at h3
  rw [rawQ_len,stQ_get hi2]
  exact⟨Int.natCast_nonneg _,Int.ofNat_lt.2 h3⟩
theorem InI.made {w0 w:World} {G g2 Bm WS D L A bs:Nat} {vq v:Value} {F:Nat→RawS} (h:InI f Q x0 ac w0 G g2 Bm WS D L A Q.length vq Q.length 0 F v bs w) (h2:Q.length≤2000):
  RdRows w (.slice (some ⟨L,0,none⟩) Q.length Q.length) (rawQ f x0 ac Q).nx∧Rd 1 encO w (.slice (some ⟨A,0,none⟩) Q.length Q.length) (rawQ f x0 ac Q).ac:=by
 refine⟨⟨(List.range Q.length).map F,?_,by rw [rawQ_len,List.length_map,List.length_range],fun i h3 h4=>?_⟩,?_⟩
 ·refine fn_rd1 h.dfa.rows (by omega) 0 _ _ (by omega) (Nat.le_refl _) (by omega) _ (by rw [List.length_map,List.length_range]) (fun i x hx=>?_)
  obtain⟨hi,he⟩:=List.getElem?_eq_some_iff.1 hx
  rw [List.getElem_map,List.getElem_range] at he
  subst he
  rw [List.length_map,List.length_range] at hi
  rw [Nat.zero_add]
  unfold rowF
  rw [if_pos hi]
  rfl
 ·rw [List.length_map,List.length_range] at h3
  have e1:((List.range Q.length).map F)[i]'(by rw [List.length_map,List.length_range];exact h3)=F i:=by rw [List.getElem_map,List.getElem_range]
  rw [e1]
  have e2:(rawQ f x0 ac Q).nx[i]'h4=(rowQ f Q x0 i).map Int.ofNat:=by
   have h5:i<(List.map (fun x:List Nat=>List.map Int.ofNat x) (List.map (rowQ f Q x0) (List.range Q.length))).length:=h4
   show(List.map (fun x:List Nat=>List.map Int.ofNat x) (List.map (rowQ f Q x0) (List.range Q.length)))[i]'h5=_
   rw [List.getElem_map,List.getElem_map,List.getElem_range]
  rw [e2]
  exact rd_ofNat ((h.old i h3).1.rd encN_len)
 ·refine fn_rd1 h.dfa.acc (by omega) 0 _ _ (by omega) (Nat.le_refl _) (by omega) _ rawQ_acl (fun i x hx=>?_)
  obtain⟨hi,he⟩:=List.getElem?_eq_some_iff.1 hx
  rw [rawQ_acl] at hi
  have he:(List.map ac (List.range Q.length))[i]'(by rw [List.length_map,List.length_range];exact hi)=x:=he
  rw [List.getElem_map,List.getElem_range] at he
  subst he
  rw [Nat.zero_add]
  unfold accF
  rw [if_pos hi]
  rfl
end
theorem MadeD.set3 {w:World} {N LB CB AB k:Nat} {nx:Nat→Nat} {ac:Nat→Bool} (h:MadeD w N LB CB AB k nx ac) {D base:Nat} (hD:D<N) (hb:base≤N) (a b c:Value):MadeD (put3 w D a b c) base LB CB AB k nx ac:=
 ⟨Fn.put3 h.l (by have:=h.lL;omega) a b c,Fn.put3 h.c (by have:=h.lC;omega) a b c,Fn.put3 h.a (by have:=h.lA;omega) a b c,Nat.le_trans hb h.lL,Nat.le_trans hb h.lC,Nat.le_trans hb h.lA⟩
end Go.Proofs.YtobapaodpcheiaaGreatDoor
