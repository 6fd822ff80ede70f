/- What the row stands on, part 18. -/
import Derived.OneCell
import Derived.Test.YtobapaodpcheiaaGreatDoorQ17
namespace Go.Proofs.YtobapaodpcheiaaGreatDoor
open Go.RowKit
set_option linter.unusedVariables false
structure Fr (X:Nat→Prop) (w w':World):Prop where
 os:w'.os=w.os
 tape:w'.tape=w.tape
 output:w'.output=w.output
 size:w.heap.size≤w'.heap.size
 block:∀ k,k<w.heap.size→¬ X k→w'.heap[k]? =w.heap[k]?
section
variable {X Y:Nat→Prop} {w w' w2:World}
theorem Fr.refl (X:Nat→Prop) (w:World):Fr X w w:=⟨rfl,rfl,rfl,Nat.le_refl _,fun _ _ _=>rfl⟩
theorem Fr.of_below (h:Below w.heap.size w w'):Fr X w w':=⟨h.os,h.tape,h.output,h.size,fun k hk _=>h.block k hk⟩
theorem Fr.grown {row:Option Nat} (h:w.grownBy w' row) (hx:∀ k,row=some k→X k):Fr X w w':=⟨h.os,h.tape,h.output,h.size,fun k hk hn=>h.block k hk (fun e=>hn (hx k e.symm))⟩
theorem Fr.set (b i:Nat) (u:Value) (h:X b):Fr X w (w.setCell ⟨b,i,none⟩ u):=Fr.grown (grown_set w b i u) (fun k e=>by injection e with e;exact e▸h)
theorem Fr.trans (h:Fr X w w') (k:Fr Y w' w2) (hx:∀ b,b<w.heap.size→Y b→X b):Fr X w w2:=
 ⟨k.os.trans h.os,k.tape.trans h.tape,k.output.trans h.output,Nat.le_trans h.size k.size,fun b hb hn=>(k.block b (Nat.lt_of_lt_of_le hb h.size) (fun e=>hn (hx b hb e))).trans (h.block b hb hn)⟩
theorem Fr.mono (h:Fr X w w') (hx:∀ b,b<w.heap.size→X b→Y b):Fr Y w w':=(Fr.refl Y w).trans h hx
theorem Fr.below {base:Nat} (h:Fr X w w') (hb:base≤w.heap.size) (hx:∀ k,X k→base≤k):Below base w w':=⟨h.os,h.tape,h.output,h.size,fun k hk=>h.block k (by omega) (fun e=>by have:=hx k e;omega)⟩
theorem Fr.blk {B:Nat} {t:TypeId} {cs:Array Value} (h:Fr X w w') (hb:Blk B t cs w) (hn:¬ X B):Blk B t cs w':=(h.block B hb.lt hn).trans hb
theorem Fr.fn {B:Nat} {t:TypeId} {n:Nat} {f:Nat→Value} (h:Fr X w w') (hb:Fn B t n f w) (hn:¬ X B):Fn B t n f w':=by
 obtain⟨cs,h1,h2⟩:=hb
 exact⟨cs,h.blk h1 hn,h2⟩
theorem Fr.own {α:Type} {k:Nat} {enc:α→List Value} {base:Nat} {e:TypeId} {v:Value} {l:List α} (h:Fr X w w') (ho:Own1 k enc w base e v l) (hn:∀ b,v.ownBlock=some b→¬ X b):Own1 k enc w' base e v l:=by
 refine⟨ho.1,?_⟩
 rcases ho.2 with h0|⟨g,cap,cur,hv,hB,hg',hr⟩
 ·exact .inl h0
 ·exact .inr ⟨g,cap,cur,hv,hB,(h.block g (Array.getElem?_eq_some_iff.1 hg').1 (hn g (by rw [hv];rfl))).trans hg',hr⟩
end
def i32F (f:Nat→Nat):Nat→Value:=fun i=> .int .i32 (f i:Nat)
def encK (b:Bk):List Value:=[.int .i32 (b.f:Nat),.int .i32 (b.t:Nat),.int .i32 (b.k:Nat)]
def encM (x:Nat):List Value:=[.int .i32 (x:Nat)]
theorem encK_len (b:Bk):(encK b).length=3:=rfl
theorem encM_len (x:Nat):(encM x).length=1:=rfl
theorem encK_one (b:Bk):∀ u∈encK b,u.oneCell'=true:=by intro u hu;simp [encK] at hu;rcases hu with rfl|rfl|rfl<;>rfl
theorem encM_one (x:Nat):∀ u∈encM x,u.oneCell'=true:=by intro u hu;simp [encM] at hu;subst hu;rfl
theorem Tryz.infoM:(Tryz.prog.info? 21).map (fun i=>(i.zero,i.size,i.bytes))=some (some (.int .i32 0),1,4):=by kernel_rfl
theorem Tryz.infoK:(Tryz.prog.info? 188).map (fun i=>(i.zero,i.size,i.bytes))=some (some (.agg #[.int .i32 0,.int .i32 0,.int .i32 0]),3,12):=by kernel_rfl
theorem Rd.i32 {w:World} {a:Option Addr} {n c:Nat} {l:List Nat} (h:Rd 1 encM w (.slice a n c) l) (i:Nat) (hi:i<l.length):∃ b off,a=some ⟨b,off,none⟩∧w.cell? ⟨b,off+i,none⟩=some (.int .i32 (l.getD i 0:Nat)):=by
 obtain⟨b,off,h1,h2⟩:=h.one i hi rfl
 rw [getD_getA hi]
 exact⟨b,off,h1,h2⟩
structure Pa where
 p:Nat
 o:Nat
 q:Nat
 b:Nat
def PX (A:Pa) (vb vt:Value) (k:Nat):Prop:=k=A.p∨k=A.o∨k=A.q∨k=A.b∨vb.ownBlock=some k∨vt.ownBlock=some k
structure PM (w:World) (base:Nat) (A:Pa) (vb0 vt0 vb vt:Value) (n:Nat) (p:Ptn):Prop where
 kp:Blk A.p 161 #[.slice (some ⟨A.o,0,none⟩) n n,.slice (some ⟨A.q,0,none⟩) n n,.slice (some ⟨A.b,0,none⟩) n n,vb0,vt0] w
 fo:Fn A.o 21 n (i32F p.o) w
 fq:Fn A.q 21 n (i32F p.q) w
 fb:Fn A.b 21 n (i32F p.b) w
 ol:Own1 3 encK w base 188 vb p.l
 oc:Own1 1 encM w base 21 vt p.c
 oq:A.o≠A.q
 ob:A.o≠A.b
 qb:A.q≠A.b
 to_:vt.ownBlock≠some A.o
 tq:vt.ownBlock≠some A.q
 tb:vt.ownBlock≠some A.b
 lp:base≤A.p
 lo:base≤A.o
 lq:base≤A.q
 lb:base≤A.b
section
variable {w w':World} {base n:Nat} {A:Pa} {vb0 vt0 vb vt:Value} {p:Ptn}
theorem PM.px (h:PM w base A vb0 vt0 vb vt n p):∀ k,PX A vb vt k→base≤k∧k<w.heap.size:=fun k hk=>by
 rcases hk with rfl|rfl|rfl|rfl|hk|hk
 ·exact⟨h.lp,h.kp.lt⟩
 ·exact⟨h.lo,h.fo.lt⟩
 ·exact⟨h.lq,h.fq.lt⟩
 ·exact⟨h.lb,h.fb.lt⟩
 ·exact own_lt h.ol k hk
 ·exact own_lt h.oc k hk
theorem PM.ne (h:PM w base A vb0 vt0 vb vt n p):A.p≠A.o∧A.p≠A.q∧A.p≠A.b∧vb.ownBlock≠some A.p∧vb.ownBlock≠some A.o∧vb.ownBlock≠some A.q∧vb.ownBlock≠some A.b∧vt.ownBlock≠some A.p∧(∀ k,vb.ownBlock=some k→vt.ownBlock≠some k):=by
 have fp:∀ {B:Nat} {f:Nat→Value},Fn B 21 n f w→A.p≠B:=fun {B f} hf e=>by
  obtain⟨cs,h2,_⟩:=hf
  subst e
  have h3:=(show w.heap[A.p]? =_ from h.kp).symm.trans (show w.heap[A.p]? =_ from h2)
  injection h3 with h3
  injection h3 with _ h3
  exact absurd h3 (by decide)
 exact⟨fp h.fo,fp h.fq,fp h.fb,own_type h.ol h.kp (by decide),h.fo.own h.ol (by decide),h.fq.own h.ol (by decide),h.fb.own h.ol (by decide),own_type h.oc h.kp (by decide),fun k hk=>own_apart h.oc h.ol (by decide) |> fun a e=>a k e hk⟩
theorem PM.fr {X:Nat→Prop} (h:PM w base A vb0 vt0 vb vt n p) (hf:Fr X w w') (hx:∀ k,PX A vb vt k→¬ X k):PM w' base A vb0 vt0 vb vt n p:=
 ⟨hf.blk h.kp (hx _ (.inl rfl)),hf.fn h.fo (hx _ (.inr (.inl rfl))),hf.fn h.fq (hx _ (.inr (.inr (.inl rfl)))),hf.fn h.fb (hx _ (.inr (.inr (.inr (.inl rfl))))),hf.own h.ol (fun b hb=>hx b (.inr (.inr (.inr (.inr (.inl hb)))))),hf.own h.oc (fun b hb=>hx b (.inr (.inr (.inr (.inr (.inr hb)))))),h.oq,h.ob,h.qb,h.to_,h.tq,h.tb,h.lp,h.lo,h.lq,h.lb⟩
theorem PM.below (h:PM w base A vb0 vt0 vb vt n p) (hb:Below w.heap.size w w'):PM w' base A vb0 vt0 vb vt n p:=h.fr (Fr.of_below (X:=fun _=>False) hb) (fun _ _ e=>e)
theorem i32F_up (f:Nat→Nat) (i x j:Nat):updB (i32F f) i (.int .i32 (x:Nat)) j=i32F (up f i x) j:=by
 unfold updB i32F up
 by_cases h:j=i
 ·simp [h]
 ·simp [h]
theorem PM.setO (h:PM w base A vb0 vt0 vb vt n p) {i:Nat} (hi:i<n) (x:Nat):PM (w.setCell ⟨A.o,i,none⟩ (.int .i32 (x:Nat))) base A vb0 vt0 vb vt n ⟨up p.o i x,p.q,p.b,p.l,p.c⟩:=by
 have hf:Fr (fun k=>k=A.o) w (w.setCell ⟨A.o,i,none⟩ (.int .i32 (x:Nat))):=Fr.set _ _ _ rfl
 obtain⟨e1,e2,e3,e4,e5,e6,e7,e8,e9⟩:=h.ne
 exact⟨hf.blk h.kp e1,(h.fo.put hi _).congr (fun j _=>i32F_up _ _ _ _),hf.fn h.fq (Ne.symm h.oq),hf.fn h.fb (Ne.symm h.ob),hf.own h.ol (fun b hb e=>e5 (by rw [hb,e])),hf.own h.oc (fun b hb e=>h.to_ (by rw [hb,e])),h.oq,h.ob,h.qb,h.to_,h.tq,h.tb,h.lp,h.lo,h.lq,h.lb⟩
theorem PM.setQ (h:PM w base A vb0 vt0 vb vt n p) {i:Nat} (hi:i<n) (x:Nat):PM (w.setCell ⟨A.q,i,none⟩ (.int .i32 (x:Nat))) base A vb0 vt0 vb vt n ⟨p.o,up p.q i x,p.b,p.l,p.c⟩:=by
 have hf:Fr (fun k=>k=A.q) w (w.setCell ⟨A.q,i,none⟩ (.int .i32 (x:Nat))):=Fr.set _ _ _ rfl
 obtain⟨e1,e2,e3,e4,e5,e6,e7,e8,e9⟩:=h.ne
 exact⟨hf.blk h.kp e2,hf.fn h.fo h.oq,(h.fq.put hi _).congr (fun j _=>i32F_up _ _ _ _),hf.fn h.fb (Ne.symm h.qb),hf.own h.ol (fun b hb e=>e6 (by rw [hb,e])),hf.own h.oc (fun b hb e=>h.tq (by rw [hb,e])),h.oq,h.ob,h.qb,h.to_,h.tq,h.tb,h.lp,h.lo,h.lq,h.lb⟩
theorem PM.setB (h:PM w base A vb0 vt0 vb vt n p) {i:Nat} (hi:i<n) (x:Nat):PM (w.setCell ⟨A.b,i,none⟩ (.int .i32 (x:Nat))) base A vb0 vt0 vb vt n ⟨p.o,p.q,up p.b i x,p.l,p.c⟩:=by
 have hf:Fr (fun k=>k=A.b) w (w.setCell ⟨A.b,i,none⟩ (.int .i32 (x:Nat))):=Fr.set _ _ _ rfl
 obtain⟨e1,e2,e3,e4,e5,e6,e7,e8,e9⟩:=h.ne
 exact⟨hf.blk h.kp e3,hf.fn h.fo h.ob,hf.fn h.fq h.qb,(h.fb.put hi _).congr (fun j _=>i32F_up _ _ _ _),hf.own h.ol (fun b hb e=>e7 (by rw [hb,e])),hf.own h.oc (fun b hb e=>h.tb (by rw [hb,e])),h.oq,h.ob,h.qb,h.to_,h.tq,h.tb,h.lp,h.lo,h.lq,h.lb⟩
theorem encK_set:∀(l:List Bk) (i j:Nat) (b:Bk) (u:Value),j<3→(∀ b0,l[i]? =some b0→(encK b0).set j u=encK b)→i<l.length→(l.flatMap encK).set (i*3+j) u=(l.set i b).flatMap encK
 |[],i,j,b,u,_,_,h=>by simp at h
 |b0::l,0,j,b,u,hj,he,_=>by
  have e:=he b0 rfl
  rw [List.set_cons_zero,List.flatMap_cons,List.flatMap_cons,←e,Nat.zero_mul,Nat.zero_add,List.set_append_left _ _ (by rw [encK_len];exact hj)]
 |b0::l,i+1,j,b,u,hj,he,hi=>by
  have ih:=encK_set l i j b u hj (fun b1 h1=>he b1 h1) (by simpa using hi)
  rw [List.set_cons_succ,List.flatMap_cons,List.flatMap_cons,←ih,List.set_append_right _ _ (by rw [encK_len];omega),encK_len,show(i+1)*3+j - 3=i*3+j by omega]
theorem PM.bk (h:PM w base A vb0 vt0 vb vt n p) {i:Nat} (hi:i<p.l.length):∃ g c,vb= .slice (some ⟨g,0,none⟩) p.l.length c∧w.cell? ⟨g,i*3,none⟩=some (.int .i32 ((p.at_ i).f:Nat))∧w.cell? ⟨g,i*3+1,none⟩=some (.int .i32 ((p.at_ i).t:Nat))∧w.cell? ⟨g,i*3+2,none⟩=some (.int .i32 ((p.at_ i).k:Nat))∧∀ j,w.frozen? ⟨g,j,none⟩=false:=by
 have ho:=h.ol
 rcases ho.2 with⟨_,h0⟩|⟨g,cap,cur,hv,_,hg,_,_,_,htake⟩
 ·omega
 ·have hat:p.l[i]? =some (p.at_ i):=by
   unfold Ptn.at_
   rw [List.getD_eq_getElem?_getD,List.getElem?_eq_getElem hi]
   rfl
  have key:∀ j u,(encK (p.at_ i))[j]? =some u→w.cell? ⟨g,i*3+j,none⟩=some u:=fun j u hu=>by
   have h1:=flat_get encK_len p.l i (p.at_ i) hat j u hu
   have:=World.ownsRow.cellAt (w:=w) (base:=base) (e:=188) (size:=3) (g:=g) (n:=p.l.length) (cap:=cap) (xs:=p.l.flatMap encK) (by rw [←hv];exact ho) (i*3+j) (by
    have:=(List.getElem?_eq_some_iff.1 h1).1
    have h2:=ho.1
    omega)
   rw [this,h1]
  refine⟨g,cap,hv,?_,?_,?_,fun j=>?_⟩
  ·have:=key 0 (.int .i32 ((p.at_ i).f:Nat)) rfl
   rwa [Nat.add_zero] at this
  ·exact key 1 _ rfl
  ·exact key 2 _ rfl
  ·exact frozen_of_row w g j cur _ hg
theorem PM.setK (h:PM w base A vb0 vt0 vb vt n p) {i j:Nat} (hi:i<p.l.length) (hj:j<3) {g c:Nat} (hv:vb= .slice (some ⟨g,0,none⟩) p.l.length c) (b:Bk) (u:Value) (he:(encK (p.at_ i)).set j u=encK b):PM (w.setCell ⟨g,i*3+j,none⟩ u) base A vb0 vt0 vb vt n ⟨p.o,p.q,p.b,p.l.set i b,p.c⟩:=by
 have hb:vb.ownBlock=some g:=by rw [hv];rfl
 have hf:Fr (fun k=>k=g) w (w.setCell ⟨g,i*3+j,none⟩ u):=Fr.set _ _ _ rfl
 obtain⟨e1,e2,e3,e4,e5,e6,e7,e8,e9⟩:=h.ne
 have hst:=(World.ownsRow.stored (w:=w) (base:=base) (e:=188) (size:=3) (g:=g) (n:=p.l.length) (cap:=c) (xs:=p.l.flatMap encK) (by rw [←hv];exact h.ol) (i*3+j) u).1
 rw [encK_set p.l i j b u hj (fun b0 h0=>by
  have:b0=p.at_ i:=by
   unfold Ptn.at_
   rw [List.getD_eq_getElem?_getD,h0]
   rfl
  rw [this];exact he) hi,←hv] at hst
 exact⟨hf.blk h.kp (fun e=>e4 (by rw [hb,←e])),hf.fn h.fo (fun e=>e5 (by rw [hb,←e])),hf.fn h.fq (fun e=>e6 (by rw [hb,←e])),hf.fn h.fb (fun e=>e7 (by rw [hb,←e])),by unfold Own1;rw [List.length_set];exact hst,hf.own h.oc (fun b2 hb2 e=>e9 g hb (by rw [hb2,e])),h.oq,h.ob,h.qb,h.to_,h.tq,h.tb,h.lp,h.lo,h.lq,h.lb⟩
theorem PM.lieC (h:PM w base A vb0 vt0 vb vt n p) {x:Nat} {v':Value} (y:Lie 1 encM base 21 w vt (p.c++ [x]) v' w'):PM w' base A vb0 vt0 vb v' n ⟨p.o,p.q,p.b,p.l,p.c++ [x]⟩:=by
 obtain⟨e1,e2,e3,e4,e5,e6,e7,e8,e9⟩:=h.ne
 have hf:Fr (fun k=>vt.ownBlock=some k) w w':=Fr.grown y.2.2.1 (fun k e=>e)
 have hn:∀ {k},k<w.heap.size→vt.ownBlock≠some k→v'.ownBlock≠some k:=fun {k} hk h1 e=>by
  rcases y.2.2.2 k e with h2|h2
  ·exact h1 h2
  ·omega
 exact⟨hf.blk h.kp e8,hf.fn h.fo h.to_,hf.fn h.fq h.tq,hf.fn h.fb h.tb,hf.own h.ol (fun b hb=>e9 b hb),y.1,h.oq,h.ob,h.qb,hn h.fo.lt h.to_,hn h.fq.lt h.tq,hn h.fb.lt h.tb,h.lp,h.lo,h.lq,h.lb⟩
theorem PM.lieL (h:PM w base A vb0 vt0 vb vt n p) {x:Bk} {v':Value} (y:Lie 3 encK base 188 w vb (p.l++ [x]) v' w'):PM w' base A vb0 vt0 v' vt n ⟨p.o,p.q,p.b,p.l++ [x],p.c⟩:=by
 obtain⟨e1,e2,e3,e4,e5,e6,e7,e8,e9⟩:=h.ne
 have hf:Fr (fun k=>vb.ownBlock=some k) w w':=Fr.grown y.2.2.1 (fun k e=>e)
 exact⟨hf.blk h.kp e4,hf.fn h.fo e5,hf.fn h.fq e6,hf.fn h.fb e7,y.1,hf.own h.oc (fun b hb e=>e9 b e hb),h.oq,h.ob,h.qb,h.to_,h.tq,h.tb,h.lp,h.lo,h.lq,h.lb⟩
theorem PM.put (h:PM w base A vb0 vt0 vb vt n p) (i:Nat) (u:Value) (vb1 vt1:Value) (he: #[.slice (some ⟨A.o,0,none⟩) n n,.slice (some ⟨A.q,0,none⟩) n n,.slice (some ⟨A.b,0,none⟩) n n,vb0,vt0].setIfInBounds i u= #[.slice (some ⟨A.o,0,none⟩) n n,.slice (some ⟨A.q,0,none⟩) n n,.slice (some ⟨A.b,0,none⟩) n n,vb1,vt1]):PM (w.setCell ⟨A.p,i,none⟩ u) base A vb1 vt1 vb vt n p:=by
 have hf:Fr (fun k=>k=A.p) w (w.setCell ⟨A.p,i,none⟩ u):=Fr.set _ _ _ rfl
 obtain⟨e1,e2,e3,e4,e5,e6,e7,e8,e9⟩:=h.ne
 have hk:=h.kp.put i u
 rw [he] at hk
 exact⟨hk,hf.fn h.fo (Ne.symm e1),hf.fn h.fq (Ne.symm e2),hf.fn h.fb (Ne.symm e3),hf.own h.ol (fun b hb e=>e4 (by rw [hb,e])),hf.own h.oc (fun b hb e=>e8 (by rw [hb,e])),h.oq,h.ob,h.qb,h.to_,h.tq,h.tb,h.lp,h.lo,h.lq,h.lb⟩
end
def MarkR (w:World) (base:Nat) (A:Pa) (vb vt:Value) (n:Nat) (p':Ptn) (e:Ending) (w':World):Prop:=∃ vt',e= .returned (.tuple #[])∧PM w' base A vb vt' vb vt' n p'∧Fr (PX A vb vt) w w'∧(∀ k,vt'.ownBlock=some k→vt.ownBlock=some k∨w.heap.size≤k)
set_option maxRecDepth 1000000 in
set_option maxHeartbeats 16000000 in
theorem mark_any (w:World) (base:Nat) (A:Pa) (vb vt:Value) (n:Nat) (p:Ptn) (s:Nat) (h:PM w base A vb vt vb vt n p) (hp:PB n p) (hc:TC p) (hs:s<n) (hm:¬ Mk p s) (hn:n≤1000000) (hbs:base≤w.heap.size):
  Calls Tryz.prog 116 #[.pointer (some ⟨A.p,0,none⟩),.int .i32 (s:Nat)] w (MarkR w base A vb vt n (markP p s)):=by
 obtain⟨iM,hiM,hzM,hkM,hbM⟩:=info_parts Tryz.infoM
 have hb:=hp.b_ s hs
 have hl:=hp.l_ _ hb.1
 have hle:=hp.len_le
 have hq:=hp.q_ s hs
 have hcl:p.c.length≤n:=by
  have:=nodup_len (a:=p.c) (b:=List.range p.l.length) hc.nd (fun x hx=>List.mem_range.2 (hc.lt x hx))
  simp at this
  omega
 unfold Mk at hm
 obtain⟨g,c,hvb,hf0,hf1,hf2,hfz⟩:=h.bk hb.1
 obtain⟨pt,qt,hvt⟩:=h.oc.slice
 subst hvb hvt
 obtain⟨x,hx⟩:∃ x,p.q s=x:=⟨_,rfl⟩
 obtain⟨i,hi⟩:∃ i,p.b s=i:=⟨_,rfl⟩
 have HX:=Lib.hid hx
 have HI:=Lib.hid hi
 rw [hx] at hb hm hq
 rw [hi] at hb hl hf0 hf1 hf2 hm
 obtain⟨F,hF⟩:∃ F,(p.at_ i).f=F:=⟨_,rfl⟩
 obtain⟨U,hU⟩:∃ U,(p.at_ i).t=U:=⟨_,rfl⟩
 obtain⟨K,hK⟩:∃ K,(p.at_ i).k=K:=⟨_,rfl⟩
 have HF:=Lib.hid hF
 have HU:=Lib.hid hU
 have HK:=Lib.hid hK
 rw [hF] at hf0 hb hl hm
 rw [hU] at hf1 hb hl
 rw [hK] at hf2 hl hm
 have HPM:=Lib.hid h
 have HFZ:=Lib.hid hfz
 have HPB:=Lib.hid hp
 have hil:=hb.1
 have hxl:=hq.1
 obtain⟨L,hL⟩:∃ L,p.l.length=L:=⟨_,rfl⟩
 have HL:=Lib.hid hL
 obtain⟨C,hC⟩:∃ C,p.c.length=C:=⟨_,rfl⟩
 have HC:=Lib.hid hC
 rw [hL] at hil hle HPM
 rw [hC] at HPM hcl
 clear hx hi hF hU hK h hfz hp hc hq hL hC
 have u0:w.cell? ⟨A.p,0,none⟩=some (.slice (some ⟨A.o,0,none⟩) n n):=HPM.out.kp.cell 0
 have u1:w.cell? ⟨A.p,1,none⟩=some (.slice (some ⟨A.q,0,none⟩) n n):=HPM.out.kp.cell 1
 have u2:w.cell? ⟨A.p,2,none⟩=some (.slice (some ⟨A.b,0,none⟩) n n):=HPM.out.kp.cell 2
 have u3:w.cell? ⟨A.p,3,none⟩=some (.slice (some ⟨g,0,none⟩) L c):=HPM.out.kp.cell 3
 have u4:w.cell? ⟨A.p,4,none⟩=some (.slice pt C qt):=HPM.out.kp.cell 4
 have ub:w.cell? ⟨A.b,s,none⟩=some (.int .i32 (i:Nat)):=by rw [HPM.out.fb.cell hs,←HI.out];rfl
 have hs9:(s:Int)<(n:Int):=by omega
 have hi9:(i:Int)<(L:Int):=by omega
 have hLn:0<L:=by omega
 go_enter Tryz.func116,Tryz.ntmps116
 go_upto_region 0 with fail
 go_quiet (fail)
 have HBQ:=Lib.hid (below_drewN (Below.refl w.heap.size w) nq)
 obtain⟨w1,hw1⟩:∃ w1,w.drewN nq=w1:=⟨_,rfl⟩
 rw [hw1] at HBQ ⊢
 have u2:w1.cell? ⟨A.p,2,none⟩=some (.slice (some ⟨A.b,0,none⟩) n n):=by rw [←hw1];exact u2
 have u4:w1.cell? ⟨A.p,4,none⟩=some (.slice pt C qt):=by rw [←hw1];exact u4
 have ub:w1.cell? ⟨A.b,s,none⟩=some (.int .i32 (i:Nat)):=by rw [←hw1];exact ub
 have hf2:w1.cell? ⟨g,i*3+2,none⟩=some (.int .i32 (K:Nat)):=by rw [←hw1];exact hf2
 have P1:=Lib.hid (HPM.out.below HBQ.out)
 have HW:=Lib.hid hbs
 clear hw1 hf0 hf1 HPM
 go_upto_if 24 with fail
 go_cut [4] from 24 to 40 (fun v4 wx=>v4= .pointer (some ⟨g,i*3,none⟩)∧∃ vt',PM wx base A (.slice (some ⟨g,0,none⟩) L c) vt' (.slice (some ⟨g,0,none⟩) L c) vt' n ⟨p.o,p.q,p.b,p.l,(markP p s).c⟩∧Fr (PX A (.slice (some ⟨g,0,none⟩) L c) (.slice pt C qt)) w wx∧(∀ k,vt'.ownBlock=some k→(Value.slice pt C qt).ownBlock=some k∨w.heap.size≤k))
 case first=>
  by_cases h0:K=0
  ·have HCC:Hid ((markP p s).c=p.c++ [i]):=Lib.hid (by
    show(if (p.at_ (p.b s)).k=0 then p.c++ [p.b s] else p.c)=_
    rw [HI.out,HK.out,if_pos h0])
   have t:((K:Int)==0)=true:=by rw [h0];rfl
   have t':(K==0)=true:=by rw [h0];rfl
   clear h0
   go_upto_region 2 with fail
   have bd:=(Below.refl w1.heap.size w1).drew
   have hS:(fun wx:World=>wx.cell? ⟨A.p,2,none⟩=some (.slice (some ⟨A.b,0,none⟩) n n)∧wx.cell? ⟨A.p,4,none⟩=some (.slice pt C qt)∧wx.cell? ⟨A.b,s,none⟩=some (.int .i32 (i:Nat))) w1.drew:=⟨u2,u4,ub⟩
   refine region_hd 14 (fun wx:World=>wx.cell? ⟨A.p,2,none⟩=some (.slice (some ⟨A.b,0,none⟩) n n)∧wx.cell? ⟨A.p,4,none⟩=some (.slice pt C qt)∧wx.cell? ⟨A.b,s,none⟩=some (.int .i32 (i:Nat))) (by kernel_rfl) (by kernel_rfl) ?_
   refine hd_taken 0 (some 25) _ ?hdvb0 rfl rfl (by kernel_rfl) (fun _ _ _ h=>h) (Or.inl ⟨by rfl,?hdyb0⟩) hS ?hdrb0
   case hdyb0=>(intro wx hx;(try dsimp only at hx);go_simp;try with_reducible rfl)
   try simp only [Act.put,zI,zO,zS]
   refine hd_taken 1 (some 26) _ ?hdvb1 rfl rfl (by kernel_rfl) (fun _ _ _ h=>h) (Or.inl ⟨by rfl,?hdyb1⟩) hS ?hdrb1
   case hdyb1=>(intro wx hx;(try dsimp only at hx);go_simp;try with_reducible rfl)
   try simp only [Act.put,zI,zO,zS]
   refine hd_taken 2 (some 27) _ ?hdvb2 rfl rfl (by kernel_rfl) (fun _ _ _ h=>h) (Or.inl ⟨by rfl,?hdyb2⟩) hS ?hdrb2
   case hdyb2=>(intro wx hx;(try dsimp only at hx);go_simp;try with_reducible rfl)
   try simp only [Act.put,zI,zO,zS]
   refine hd_taken 3 (some 28) _ ?hdvb3 rfl rfl (by kernel_rfl) (fun _ _ _ h=>h) (Or.inl ⟨by rfl,?hdyb3⟩) hS ?hdrb3
   case hdyb3=>(intro wx hx;(try dsimp only at hx);go_simp;try with_reducible rfl)
   try simp only [Act.put,zI,zO,zS]
   refine hd_taken 4 (some 29) _ ?hdvb4 rfl rfl (by kernel_rfl) (fun _ _ _ h=>h) (Or.inl ⟨by rfl,?hdyb4⟩) hS ?hdrb4
   case hdyb4=>(intro wx hx;(try dsimp only at hx);go_simp;try with_reducible rfl)
   try simp only [Act.put,zI,zO,zS]
   refine hd_taken 5 (some 30) _ ?hdvb5 rfl rfl (by kernel_rfl) (fun _ _ _ h=>h) (Or.inl ⟨by rfl,?hdyb5⟩) hS ?hdrb5
   case hdyb5=>(intro wx hx;(try dsimp only at hx);go_simp;try with_reducible rfl)
   try simp only [Act.put,zI,zO,zS]
   refine hd_taken 6 (some 31) _ ?hdvb6 rfl rfl (by kernel_rfl) (fun _ _ _ h=>h) (Or.inl ⟨by rfl,?hdyb6⟩) hS ?hdrb6
   case hdyb6=>(intro wx hx;(try dsimp only at hx);go_simp;try with_reducible rfl)
   try simp only [Act.put,zI,zO,zS]
   refine hd_taken 7 (some 32) _ ?hdvb7 rfl rfl (by kernel_rfl) (fun _ _ _ h=>h) (Or.inl ⟨by rfl,?hdyb7⟩) hS ?hdrb7
   case hdyb7=>(intro wx hx;(try dsimp only at hx);go_simp;try with_reducible rfl)
   try simp only [Act.put,zI,zO,zS]
   refine hd_taken 8 (some 33) _ ?hdvb8 rfl rfl (by kernel_rfl) (fun _ _ _ h=>h) (Or.inl ⟨by rfl,?hdyb8⟩) hS ?hdrb8
   case hdyb8=>(intro wx hx;(try dsimp only at hx);go_simp;try with_reducible rfl)
   try simp only [Act.put,zI,zO,zS]
   refine hd_taken 9 (some 34) _ ?hdvb9 rfl rfl (by kernel_rfl) (fun _ _ _ h=>h) (Or.inl ⟨by rfl,?hdyb9⟩) hS ?hdrb9
   case hdyb9=>(intro wx hx;(try dsimp only at hx);go_simp;try with_reducible rfl)
   try simp only [Act.put,zI,zO,zS]
   refine hd_taken 10 (some 35) _ ?hdvb10 rfl rfl (by kernel_rfl) (fun _ _ _ h=>h) (Or.inl ⟨by rfl,?hdyb10⟩) hS ?hdrb10
   case hdyb10=>(intro wx hx;(try dsimp only at hx);go_simp;try with_reducible rfl)
   try simp only [Act.put,zI,zO,zS]
   refine hd_taken 11 (some 36) _ ?hdvb11 rfl rfl (by kernel_rfl) (fun _ _ _ h=>h) (Or.inl ⟨by rfl,?hdyb11⟩) hS ?hdrb11
   case hdyb11=>(intro wx hx;(try dsimp only at hx);go_simp;try with_reducible rfl)
   try simp only [Act.put,zI,zO,zS]
   have bA:=bd.alloc (Nat.le_refl _) (.cells #[.int .i32 (i:Nat)] 21)
   have k2:=(bA.cell (p:=⟨A.p,2,none⟩) (World.block_lt_of_cell? w1 _ u2)).trans u2
   have k4:=(bA.cell (p:=⟨A.p,4,none⟩) (World.block_lt_of_cell? w1 _ u4)).trans u4
   have kb:=(bA.cell (p:=⟨A.b,s,none⟩) (World.block_lt_of_cell? w1 _ ub)).trans ub
   have hS2:(fun wx:World=>wx.cell? ⟨A.p,2,none⟩=some (.slice (some ⟨A.b,0,none⟩) n n)∧wx.cell? ⟨A.p,4,none⟩=some (.slice pt C qt)∧wx.cell? ⟨A.b,s,none⟩=some (.int .i32 (i:Nat))) (w1.drew.alloc (.cells #[.int .i32 (i:Nat)] 21)):=⟨k2,k4,kb⟩
   refine hd_one 12 _ rfl (by kernel_rfl) (by decide) (fun K2 hK2=>?_)
   go_simp
   refine hK2.out _ _ hS2 ?_
   clear hK2 K2 hS
   try simp only [Act.put,zI,zO,zS]
   have PA:=P1.out.below bA
   have kA:=Blk.new w1.drew 21 #[.int .i32 (i:Nat)]
   have hcl2:p.c.length≤1000000000:=by have:=HC.out;omega
   have zA:base≤(w1.drew.alloc (.cells #[.int .i32 (i:Nat)] 21)).heap.size:=by have:=HBQ.out.size;have:=bA.size;omega
   refine hd_one 13 _ rfl (by kernel_rfl) (by decide) (fun K3 hK3=>?_)
   refine step_append_blk (w:=w1.drew.alloc (.cells #[.int .i32 (i:Nat)] 21)) (x:=i) (by rfl) _ _ 158 (by rfl) base iM _ 4 Tryz.underlying158 hiM hzM hkM hbM (by omega) rfl (by omega) encM_len encM_one _ p.c (by rfl) (by rfl) PA.oc (by rfl) kA hcl2 zA ?_
   intro v7 w7 y1
   have P7:=PA.lieC y1
   have hS7:(fun wx:World=>wx.cell? ⟨A.p,2,none⟩=some (.slice (some ⟨A.b,0,none⟩) n n)∧wx.cell? ⟨A.p,4,none⟩=some (.slice pt C qt)∧wx.cell? ⟨A.b,s,none⟩=some (.int .i32 (i:Nat))) w7:=by
    obtain⟨_,_,e3,_,_,_,_,e8,_⟩:=PA.ne
    have hf:Fr (fun k=>(Value.slice pt C qt).ownBlock=some k) (w1.drew.alloc (.cells #[.int .i32 (i:Nat)] 21)) w7:=Fr.grown y1.2.2.1 (fun k e=>e)
    exact⟨P7.kp.cell 2,P7.kp.cell 4,by rw [P7.fb.cell hs,←HI.out];rfl⟩
   refine hK3.out _ _ hS7 ?_
   have FR7:Fr (PX A (.slice (some ⟨g,0,none⟩) L c) (.slice pt C qt)) w w7:=((Fr.of_below HBQ.out).trans (Fr.of_below (X:=fun _=>False) bA) (fun _ _ e=>e.elim)).trans (Fr.grown (X:=fun k=>(Value.slice pt C qt).ownBlock=some k) y1.2.2.1 (fun k e=>e)) (fun k _ e=> .inr (.inr (.inr (.inr (.inr e)))))
   obtain⟨p7,q7,hp7⟩:=lie_at y1
   obtain⟨C7,hC7⟩:∃ C7,(p.c++ [i]).length=C7:=⟨_,rfl⟩
   rw [hC7] at hp7
   subst hp7
   have HOW:Hid (∀ k,(Value.slice p7 C7 q7).ownBlock=some k→(Value.slice pt C qt).ownBlock=some k∨w.heap.size≤k):=Lib.hid (fun k hk=>by
    rcases y1.2.2.2 k hk with e|e
    ·exact .inl e
    ·right
     have:=HBQ.out.size
     have:=bA.size
     omega)
   have kc7:w7.cell? ⟨A.p,4,none⟩=some (.slice pt C qt):=P7.kp.cell 4
   have kf7:=P7.kp.frozen 4
   have HP8:Hid (PM (w7.setCell ⟨A.p,4,none⟩ (.slice p7 C7 q7)) base A (.slice (some ⟨g,0,none⟩) L c) (.slice p7 C7 q7) (.slice (some ⟨g,0,none⟩) L c) (.slice p7 C7 q7) n ⟨p.o,p.q,p.b,p.l,p.c++ [i]⟩∧Fr (PX A (.slice (some ⟨g,0,none⟩) L c) (.slice pt C qt)) w (w7.setCell ⟨A.p,4,none⟩ (.slice p7 C7 q7))):=Lib.hid ⟨P7.put 4 _ _ _ rfl,FR7.trans (Fr.set (X:=fun k=>k=A.p) _ _ _ rfl) (fun k _ e=> .inl e)⟩
   clear hK3 K3 kA y1 hS2 bA PA P7 hS7 FR7 hC7 k2 k4 kb bd
   try simp only [Act.put,zI,zO,zS]
   refine hd_done (by kernel_rfl) ?_
   simp only [List.drop_succ_cons,List.drop_zero]
   go_wp2
   go_meet
   exact⟨rfl,_,by rw [HCC.out];exact HP8.out.1,HP8.out.2,HOW.out⟩
  ·have HCC:Hid ((markP p s).c=p.c):=Lib.hid (by
    show(if (p.at_ (p.b s)).k=0 then p.c++ [p.b s] else p.c)=_
    rw [HI.out,HK.out,if_neg h0])
   have t:((K:Int)==0)=false:=by rw [beq_eq_false_iff_ne];omega
   have t':(K==0)=false:=by rw [beq_eq_false_iff_ne];exact h0
   clear h0
   go_wp2_with fail
   go_meet
   exact⟨rfl,_,by rw [HCC.out];exact P1.out,Fr.of_below HBQ.out,fun k e=> .inl e⟩
 case rest=>
  rename World=>w2
  obtain⟨rfl,vt1,P2',F2',O2'⟩:=hcut
  have hbb:p.b s=i:=HI.out
  have hYn:F+K<n:=by omega
  obtain⟨Y,hY⟩:∃ Y,F+K=Y:=⟨_,rfl⟩
  have HY:=Lib.hid hY
  have d1:IntKind.i32.wrap ((F:Int)+(K:Int))=(Y:Int):=by rw [IntKind.wrap_i32];omega
  have d2:IntKind.i32.wrap ((K:Int)+1)=((K+1:Nat):Int):=by rw [IntKind.wrap_i32];omega
  rw [hY] at hYn
  obtain⟨T,hT⟩:∃ T,p.o Y=T:=⟨_,rfl⟩
  have HT:=Lib.hid hT
  have hTn:T<n:=by rw [←hT];exact(HPB.out.o_ Y hYn).1
  have HTN:=Lib.hid hTn
  have hx9:(x:Int)<(n:Int):=by omega
  have hY9:(Y:Int)<(n:Int):=by omega
  have hT9:(T:Int)<(n:Int):=by omega
  have hn0:0<n:=by omega
  clear hY hT hbb u2 u4 ub hf2
  have P2:=Lib.hid P2'
  have F2:=Lib.hid F2'
  have O2:=Lib.hid O2'
  obtain⟨pt2,qt2,hvt2⟩:=P2'.oc.slice
  subst hvt2
  obtain⟨C2,hC2⟩:∃ C2,(markP p s).c.length=C2:=⟨_,rfl⟩
  rw [hC2] at P2 O2
  have HBK:Hid (∀(wx:World) (P:Ptn),P.l=p.l→PM wx base A (.slice (some ⟨g,0,none⟩) L c) (.slice pt2 C2 qt2) (.slice (some ⟨g,0,none⟩) L c) (.slice pt2 C2 qt2) n P→wx.cell? ⟨g,i*3,none⟩=some (.int .i32 (F:Nat))∧wx.cell? ⟨g,i*3+2,none⟩=some (.int .i32 (K:Nat))∧wx.frozen? ⟨g,i*3+2,none⟩=false):=Lib.hid (fun wx P hP hPM=>by
   obtain⟨g',c',e1,e2,e3,e4,e5⟩:=hPM.bk (i:=i) (by rw [hP,HL.out];exact hil)
   injection e1 with e1 _ _
   injection e1 with e1
   injection e1 with e1 _
   subst e1
   have e6:P.at_ i=p.at_ i:=by unfold Ptn.at_;rw [hP]
   rw [e6,HF.out] at e2
   rw [e6,HK.out] at e4
   exact⟨e2,e4,e5 _⟩)
  clear hC2 P2' F2' O2'
  obtain⟨hf0,hf2,_⟩:=HBK.out _ ⟨p.o,p.q,p.b,p.l,(markP p s).c⟩ rfl P2.out
  have u0:w2.cell? ⟨A.p,0,none⟩=some (.slice (some ⟨A.o,0,none⟩) n n):=P2.out.kp.cell 0
  have u1:w2.cell? ⟨A.p,1,none⟩=some (.slice (some ⟨A.q,0,none⟩) n n):=P2.out.kp.cell 1
  have uq:w2.cell? ⟨A.q,s,none⟩=some (.int .i32 (x:Nat)):=by rw [P2.out.fq.cell hs];show some (Value.int .i32 (p.q s:Nat))=_;rw [HX.out]
  have uo:w2.cell? ⟨A.o,Y,none⟩=some (.int .i32 (T:Nat)):=by rw [P2.out.fo.cell hYn];show some (Value.int .i32 (p.o Y:Nat))=_;rw [HT.out]
  go_upto_region 3 with fail
  go_quiet (fail)
  go_upto_region 5 with fail
  have HQ3:=Lib.hid (below_drewN (Below.refl w2.heap.size w2) nq)
  obtain⟨w3,hw3⟩:∃ w3,w2.drewN nq=w3:=⟨_,rfl⟩
  rw [hw3] at HQ3 ⊢
  have P3:=Lib.hid (P2.out.below HQ3.out)
  have F3:=Lib.hid (F2.out.trans (Fr.of_below (X:=fun _=>False) HQ3.out) (fun _ _ e=>e.elim))
  clear hw3 hf0 hf2 u0 u1 uq uo P2 F2 HQ3
  have P3d:=Lib.hid (P3.out.below (Below.refl _ w3).drew)
  have F3d:=Lib.hid (F3.out.trans (Fr.of_below (X:=fun _=>False) (Below.refl _ w3).drew) (fun _ _ e=>e.elim))
  obtain⟨wd,hwd⟩:∃ wd,w3.drew=wd:=⟨_,rfl⟩
  rw [hwd] at P3d F3d
  have u0:wd.cell? ⟨A.p,0,none⟩=some (.slice (some ⟨A.o,0,none⟩) n n):=P3d.out.kp.cell 0
  have q4:=P3d.out.setO (i:=x) hxl T
  have c1:wd.cell? ⟨A.o,x,none⟩=some (i32F p.o x):=P3d.out.fo.cell hxl
  have z1:wd.frozen? ⟨A.o,x,none⟩=false:=P3d.out.fo.frozen x
  have q5:=q4.setO (i:=Y) hYn s
  have c2:(wd.setCell ⟨A.o,x,none⟩ (.int .i32 (T:Nat))).cell? ⟨A.o,Y,none⟩=some (i32F (up p.o x T) Y):=q4.fo.cell hYn
  have z2:(wd.setCell ⟨A.o,x,none⟩ (.int .i32 (T:Nat))).frozen? ⟨A.o,Y,none⟩=false:=q4.fo.frozen Y
  have P5:Hid (PM ((wd.setCell ⟨A.o,x,none⟩ (.int .i32 (T:Nat))).setCell ⟨A.o,Y,none⟩ (.int .i32 (s:Nat))) base A (.slice (some ⟨g,0,none⟩) L c) (.slice pt2 C2 qt2) (.slice (some ⟨g,0,none⟩) L c) (.slice pt2 C2 qt2) n ⟨up (up p.o x T) Y s,p.q,p.b,p.l,(markP p s).c⟩):=Lib.hid q5
  have F5:Hid (Fr (PX A (.slice (some ⟨g,0,none⟩) L c) (.slice pt C qt)) w ((wd.setCell ⟨A.o,x,none⟩ (.int .i32 (T:Nat))).setCell ⟨A.o,Y,none⟩ (.int .i32 (s:Nat)))):=Lib.hid ((F3d.out.trans (Fr.set (X:=fun k=>k=A.o) _ _ _ rfl) (fun k _ e=> .inr (.inl e))).trans (Fr.set (X:=fun k=>k=A.o) _ _ _ rfl) (fun k _ e=> .inr (.inl e)))
  have hS:(fun wx:World=>wx.cell? ⟨A.p,0,none⟩=some (.slice (some ⟨A.o,0,none⟩) n n)) wd:=u0
  have hS2:(fun wx:World=>wx.cell? ⟨A.p,0,none⟩=some (.slice (some ⟨A.o,0,none⟩) n n)) (wd.setCell ⟨A.o,x,none⟩ (.int .i32 (T:Nat))):=q4.kp.cell 0
  clear q4 q5
  refine region_hd 14 (fun wx:World=>wx.cell? ⟨A.p,0,none⟩=some (.slice (some ⟨A.o,0,none⟩) n n)) (by kernel_rfl) (by kernel_rfl) ?_
  rw [hwd]
  refine hd_taken 0 (some 64) _ ?hdv0 rfl rfl (by kernel_rfl) (fun _ _ _ h=>h) (Or.inl ⟨by rfl,?hdy0⟩) hS ?hdr0
  case hdy0=>(intro wx hx;(try dsimp only at hx);go_simp;try with_reducible rfl)
  try simp only [Act.put,zI,zO,zS]
  refine hd_taken 1 (some 65) _ ?hdv1 rfl rfl (by kernel_rfl) (fun _ _ _ h=>h) (Or.inl ⟨by rfl,?hdy1⟩) hS ?hdr1
  case hdy1=>(intro wx hx;(try dsimp only at hx);go_simp;try with_reducible rfl)
  try simp only [Act.put,zI,zO,zS]
  refine hd_taken 2 (some 66) _ ?hdv2 rfl rfl (by kernel_rfl) (fun _ _ _ h=>h) (Or.inl ⟨by rfl,?hdy2⟩) hS ?hdr2
  case hdy2=>(intro wx hx;(try dsimp only at hx);go_simp;try with_reducible rfl)
  try simp only [Act.put,zI,zO,zS]
  refine hd_taken 3 (some 67) _ ?hdv3 rfl rfl (by kernel_rfl) (fun _ _ _ h=>h) (Or.inl ⟨by rfl,?hdy3⟩) hS ?hdr3
  case hdy3=>(intro wx hx;(try dsimp only at hx);go_simp;try with_reducible rfl)
  try simp only [Act.put,zI,zO,zS]
  refine hd_taken 4 (some 68) _ ?hdv4 rfl rfl (by kernel_rfl) (fun _ _ _ h=>h) (Or.inl ⟨by rfl,?hdy4⟩) hS ?hdr4
  case hdy4=>(intro wx hx;(try dsimp only at hx);go_simp;try with_reducible rfl)
  try simp only [Act.put,zI,zO,zS]
  refine hd_taken 5 (some 69) _ ?hdv5 rfl rfl (by kernel_rfl) (fun _ _ _ h=>h) (Or.inl ⟨by rfl,?hdy5⟩) hS ?hdr5
  case hdy5=>(intro wx hx;(try dsimp only at hx);go_simp;try with_reducible rfl)
  try simp only [Act.put,zI,zO,zS]
  refine hd_taken 6 (some 70) _ ?hdv6 rfl rfl (by kernel_rfl) (fun _ _ _ h=>h) (Or.inl ⟨by rfl,?hdy6⟩) hS ?hdr6
  case hdy6=>(intro wx hx;(try dsimp only at hx);go_simp;try with_reducible rfl)
  try simp only [Act.put,zI,zO,zS]
  refine hd_taken 7 (some 71) _ ?hdv7 rfl rfl (by kernel_rfl) (fun _ _ _ h=>h) (Or.inl ⟨by rfl,?hdy7⟩) hS ?hdr7
  case hdy7=>(intro wx hx;(try dsimp only at hx);go_simp;try with_reducible rfl)
  try simp only [Act.put,zI,zO,zS]
  refine hd_taken 8 (some 72) _ ?hdv8 rfl rfl (by kernel_rfl) (fun _ _ _ h=>h) (Or.inl ⟨by rfl,?hdy8⟩) hS ?hdr8
  case hdy8=>(intro wx hx;(try dsimp only at hx);go_simp;try with_reducible rfl)
  try simp only [Act.put,zI,zO,zS]
  refine hd_taken 9 (some 73) _ ?hdv9 rfl rfl (by kernel_rfl) (fun _ _ _ h=>h) (Or.inl ⟨by rfl,?hdy9⟩) hS ?hdr9
  case hdy9=>(intro wx hx;(try dsimp only at hx);go_simp;try with_reducible rfl)
  try simp only [Act.put,zI,zO,zS]
  refine hd_taken 10 (some 74) _ ?hdv10 rfl rfl (by kernel_rfl) (fun _ _ _ h=>h) (Or.inl ⟨by rfl,?hdy10⟩) hS ?hdr10
  case hdy10=>(intro wx hx;(try dsimp only at hx);go_simp;try with_reducible rfl)
  try simp only [Act.put,zI,zO,zS]
  refine hd_taken 11 (some 75) _ ?hdv11 rfl rfl (by kernel_rfl) (fun _ _ _ h=>h) (Or.inl ⟨by rfl,?hdy11⟩) hS ?hdr11
  case hdy11=>(intro wx hx;(try dsimp only at hx);go_simp;try with_reducible rfl)
  try simp only [Act.put,zI,zO,zS]
  refine hd_taken 12 (some 76) _ ?hdv12 rfl rfl (by kernel_rfl) (fun _ _ _ h=>h) (Or.inl ⟨by rfl,?hdy12⟩) hS ?hdr12
  case hdy12=>(intro wx hx;(try dsimp only at hx);go_simp;try with_reducible rfl)
  try simp only [Act.put,zI,zO,zS]
  refine hd_one 13 _ rfl (by kernel_rfl) (by decide) (fun K2 hK2=>?_)
  go_simp
  refine hK2.out _ _ hS2 ?_
  obtain⟨w4,hw4⟩:∃ w4,wd.setCell ⟨A.o,x,none⟩ (.int .i32 (T:Nat))=w4:=⟨_,rfl⟩
  rw [hw4] at c2 z2 P5 F5 ⊢
  clear hK2 K2 hS c1 z1 hw4 hS2 u0
  try simp only [Act.put,zI,zO,zS]
  refine hd_done (by kernel_rfl) ?_
  simp only [List.drop_succ_cons,List.drop_zero]
  go_upto_region 6 with fail
  obtain⟨w5,hw5⟩:∃ w5,w4.setCell ⟨A.o,Y,none⟩ (.int .i32 (s:Nat))=w5:=⟨_,rfl⟩
  rw [hw5] at P5 F5 ⊢
  clear hw5 c2 z2
  have P6d:=Lib.hid (P5.out.below (Below.refl _ w5).drew)
  have F6d:=Lib.hid (F5.out.trans (Fr.of_below (X:=fun _=>False) (Below.refl _ w5).drew) (fun _ _ e=>e.elim))
  obtain⟨we,hwe⟩:∃ we,w5.drew=we:=⟨_,rfl⟩
  rw [hwe] at P6d F6d
  have u0:we.cell? ⟨A.p,1,none⟩=some (.slice (some ⟨A.q,0,none⟩) n n):=P6d.out.kp.cell 1
  have q4:=P6d.out.setQ (i:=T) HTN.out x
  have c1:we.cell? ⟨A.q,T,none⟩=some (i32F p.q T):=P6d.out.fq.cell HTN.out
  have z1:we.frozen? ⟨A.q,T,none⟩=false:=P6d.out.fq.frozen T
  have q5:=q4.setQ (i:=s) hs Y
  have c2:(we.setCell ⟨A.q,T,none⟩ (.int .i32 (x:Nat))).cell? ⟨A.q,s,none⟩=some (i32F (up p.q T x) s):=q4.fq.cell hs
  have z2:(we.setCell ⟨A.q,T,none⟩ (.int .i32 (x:Nat))).frozen? ⟨A.q,s,none⟩=false:=q4.fq.frozen s
  have P7:Hid (PM ((we.setCell ⟨A.q,T,none⟩ (.int .i32 (x:Nat))).setCell ⟨A.q,s,none⟩ (.int .i32 (Y:Nat))) base A (.slice (some ⟨g,0,none⟩) L c) (.slice pt2 C2 qt2) (.slice (some ⟨g,0,none⟩) L c) (.slice pt2 C2 qt2) n ⟨up (up p.o x T) Y s,up (up p.q T x) s Y,p.b,p.l,(markP p s).c⟩):=Lib.hid q5
  have F7:Hid (Fr (PX A (.slice (some ⟨g,0,none⟩) L c) (.slice pt C qt)) w ((we.setCell ⟨A.q,T,none⟩ (.int .i32 (x:Nat))).setCell ⟨A.q,s,none⟩ (.int .i32 (Y:Nat)))):=Lib.hid ((F6d.out.trans (Fr.set (X:=fun k=>k=A.q) _ _ _ rfl) (fun k _ e=> .inr (.inr (.inl e)))).trans (Fr.set (X:=fun k=>k=A.q) _ _ _ rfl) (fun k _ e=> .inr (.inr (.inl e))))
  have hS:(fun wx:World=>wx.cell? ⟨A.p,1,none⟩=some (.slice (some ⟨A.q,0,none⟩) n n)) we:=u0
  have hS2:(fun wx:World=>wx.cell? ⟨A.p,1,none⟩=some (.slice (some ⟨A.q,0,none⟩) n n)) (we.setCell ⟨A.q,T,none⟩ (.int .i32 (x:Nat))):=q4.kp.cell 1
  clear q4 q5
  refine region_hd 14 (fun wx:World=>wx.cell? ⟨A.p,1,none⟩=some (.slice (some ⟨A.q,0,none⟩) n n)) (by kernel_rfl) (by kernel_rfl) ?_
  rw [hwe]
  refine hd_taken 0 (some 78) _ ?hdva0 rfl rfl (by kernel_rfl) (fun _ _ _ h=>h) (Or.inl ⟨by rfl,?hdya0⟩) hS ?hdra0
  case hdya0=>(intro wx hx;(try dsimp only at hx);go_simp;try with_reducible rfl)
  try simp only [Act.put,zI,zO,zS]
  refine hd_taken 1 (some 79) _ ?hdva1 rfl rfl (by kernel_rfl) (fun _ _ _ h=>h) (Or.inl ⟨by rfl,?hdya1⟩) hS ?hdra1
  case hdya1=>(intro wx hx;(try dsimp only at hx);go_simp;try with_reducible rfl)
  try simp only [Act.put,zI,zO,zS]
  refine hd_taken 2 (some 80) _ ?hdva2 rfl rfl (by kernel_rfl) (fun _ _ _ h=>h) (Or.inl ⟨by rfl,?hdya2⟩) hS ?hdra2
  case hdya2=>(intro wx hx;(try dsimp only at hx);go_simp;try with_reducible rfl)
  try simp only [Act.put,zI,zO,zS]
  refine hd_taken 3 (some 81) _ ?hdva3 rfl rfl (by kernel_rfl) (fun _ _ _ h=>h) (Or.inl ⟨by rfl,?hdya3⟩) hS ?hdra3
  case hdya3=>(intro wx hx;(try dsimp only at hx);go_simp;try with_reducible rfl)
  try simp only [Act.put,zI,zO,zS]
  refine hd_taken 4 (some 82) _ ?hdva4 rfl rfl (by kernel_rfl) (fun _ _ _ h=>h) (Or.inl ⟨by rfl,?hdya4⟩) hS ?hdra4
  case hdya4=>(intro wx hx;(try dsimp only at hx);go_simp;try with_reducible rfl)
  try simp only [Act.put,zI,zO,zS]
  refine hd_taken 5 (some 83) _ ?hdva5 rfl rfl (by kernel_rfl) (fun _ _ _ h=>h) (Or.inl ⟨by rfl,?hdya5⟩) hS ?hdra5
  case hdya5=>(intro wx hx;(try dsimp only at hx);go_simp;try with_reducible rfl)
  try simp only [Act.put,zI,zO,zS]
  refine hd_taken 6 (some 84) _ ?hdva6 rfl rfl (by kernel_rfl) (fun _ _ _ h=>h) (Or.inl ⟨by rfl,?hdya6⟩) hS ?hdra6
  case hdya6=>(intro wx hx;(try dsimp only at hx);go_simp;try with_reducible rfl)
  try simp only [Act.put,zI,zO,zS]
  refine hd_taken 7 (some 85) _ ?hdva7 rfl rfl (by kernel_rfl) (fun _ _ _ h=>h) (Or.inl ⟨by rfl,?hdya7⟩) hS ?hdra7
  case hdya7=>(intro wx hx;(try dsimp only at hx);go_simp;try with_reducible rfl)
  try simp only [Act.put,zI,zO,zS]
  refine hd_taken 8 (some 86) _ ?hdva8 rfl rfl (by kernel_rfl) (fun _ _ _ h=>h) (Or.inl ⟨by rfl,?hdya8⟩) hS ?hdra8
  case hdya8=>(intro wx hx;(try dsimp only at hx);go_simp;try with_reducible rfl)
  try simp only [Act.put,zI,zO,zS]
  refine hd_taken 9 (some 87) _ ?hdva9 rfl rfl (by kernel_rfl) (fun _ _ _ h=>h) (Or.inl ⟨by rfl,?hdya9⟩) hS ?hdra9
  case hdya9=>(intro wx hx;(try dsimp only at hx);go_simp;try with_reducible rfl)
  try simp only [Act.put,zI,zO,zS]
  refine hd_taken 10 (some 88) _ ?hdva10 rfl rfl (by kernel_rfl) (fun _ _ _ h=>h) (Or.inl ⟨by rfl,?hdya10⟩) hS ?hdra10
  case hdya10=>(intro wx hx;(try dsimp only at hx);go_simp;try with_reducible rfl)
  try simp only [Act.put,zI,zO,zS]
  refine hd_taken 11 (some 89) _ ?hdva11 rfl rfl (by kernel_rfl) (fun _ _ _ h=>h) (Or.inl ⟨by rfl,?hdya11⟩) hS ?hdra11
  case hdya11=>(intro wx hx;(try dsimp only at hx);go_simp;try with_reducible rfl)
  try simp only [Act.put,zI,zO,zS]
  refine hd_taken 12 (some 90) _ ?hdva12 rfl rfl (by kernel_rfl) (fun _ _ _ h=>h) (Or.inl ⟨by rfl,?hdya12⟩) hS ?hdra12
  case hdya12=>(intro wx hx;(try dsimp only at hx);go_simp;try with_reducible rfl)
  try simp only [Act.put,zI,zO,zS]
  refine hd_one 13 _ rfl (by kernel_rfl) (by decide) (fun K2 hK2=>?_)
  go_simp
  refine hK2.out _ _ hS2 ?_
  obtain⟨w6,hw6⟩:∃ w6,we.setCell ⟨A.q,T,none⟩ (.int .i32 (x:Nat))=w6:=⟨_,rfl⟩
  rw [hw6] at c2 z2 P7 F7 ⊢
  clear hK2 K2 hS c1 z1 hw6 hS2 u0 hwe P6d F6d
  try simp only [Act.put,zI,zO,zS]
  refine hd_done (by kernel_rfl) ?_
  simp only [List.drop_succ_cons,List.drop_zero]
  go_upto_region 7 with fail
  obtain⟨w7,hw7⟩:∃ w7,w6.setCell ⟨A.q,s,none⟩ (.int .i32 (Y:Nat))=w7:=⟨_,rfl⟩
  rw [hw7] at P7 F7 ⊢
  clear hw7 c2 z2
  obtain⟨_,hf2,hz2⟩:=HBK.out _ ⟨up (up p.o x T) Y s,up (up p.q T x) s Y,p.b,p.l,(markP p s).c⟩ rfl P7.out
  have HP8:=Lib.hid (P7.out.setK (i:=i) (j:=2) (g:=g) (c:=c) (by show i<p.l.length;rw [HL.out];exact hil) (by omega) (by show _=Value.slice _ p.l.length _;rw [HL.out]) ⟨F,U,K+1⟩ (.int .i32 ((K+1:Nat):Int)) (by
   show(encK (p.at_ i)).set 2 _=_
   unfold encK
   rw [HF.out,HU.out]
   rfl))
  have HFIN:Hid (MarkR w base A (.slice (some ⟨g,0,none⟩) L c) (.slice pt C qt) n (markP p s) (.returned (.tuple #[])) (w7.setCell ⟨g,i*3+2,none⟩ (.int .i32 ((K+1:Nat):Int)))):=Lib.hid (by
   refine⟨_,rfl,?_,F7.out.trans (Fr.set (X:=fun k=>k=g) _ _ _ rfl) (fun k _ e=> .inr (.inr (.inr (.inr (.inl (by rw [e];rfl)))))),O2.out⟩
   have e1:(markP p s).o=up (up p.o x T) Y s:=by
    show up (up p.o (p.q s) (p.o ((p.at_ (p.b s)).f+(p.at_ (p.b s)).k))) ((p.at_ (p.b s)).f+(p.at_ (p.b s)).k) s=_
    rw [HX.out,HI.out,HF.out,HK.out,HY.out,HT.out]
   have e2:(markP p s).q=up (up p.q T x) s Y:=by
    show up (up p.q (p.o ((p.at_ (p.b s)).f+(p.at_ (p.b s)).k)) (p.q s)) s ((p.at_ (p.b s)).f+(p.at_ (p.b s)).k)=_
    rw [HX.out,HI.out,HF.out,HK.out,HY.out,HT.out]
   have e3:(markP p s).l=p.l.set i ⟨F,U,K+1⟩:=by
    show p.l.set (p.b s) ⟨(p.at_ (p.b s)).f,(p.at_ (p.b s)).t,(p.at_ (p.b s)).k+1⟩=_
    rw [HI.out,HF.out,HU.out,HK.out]
   have:=HP8.out
   rw [←e1,←e2,←e3] at this
   exact this)
  go_wp2
  (try simp only [Exit.inBlock,Exit.then])
  refine bodyPost_end (results_none rfl _ _ _) rfl ?_
  rw [show((K:Int)+1)=((K+1:Nat):Int) by omega,HL.out,HC.out]
  exact HFIN.out
theorem Tryz.elemM:Tryz.prog.elem 158=21:=by kernel_rfl
theorem cut_o (B n u v:Nat) (hu:u<v) (hv:v≤n) (wx:World):(Instr.slice 158 (.slice (some ⟨B,0,none⟩) n n) (some (.int .i32 (u:Nat))) (some (.int .i32 (v:Nat))) none).run Tryz.prog wx= .ok (.slice (some ⟨B,u,none⟩) (v - u) (n - u)) wx∧(Instr.sliceAt 158 (.slice (some ⟨B,0,none⟩) n n) (some (.int .i32 (u:Nat))) (some (.int .i32 (v:Nat))) none).run Tryz.prog wx= .ok (.slice (some ⟨B,u,none⟩) (v - u) (n - u)) wx:=by
 have ht:Tryz.prog.underlying 158=some (.slice (Tryz.prog.elem 158)):=by rw [Tryz.elemM];exact Tryz.underlying158
 have hs:(sizeOf (Tryz.prog.elem 158)).run Tryz.prog wx= .ok 1 wx:=by kernel_rfl
 have h1:=run_slice_lh (P:=Tryz.prog) (w:=wx) 158 (some ⟨B,0,none⟩) n n ht .i32 .i32 (u:Int) (v:Int) (by omega) (by omega) (by omega)
 rw [hs] at h1
 have h2:sliced (some ⟨B,0,none⟩) (u:Int).toNat (v:Int).toNat n 1= .slice (some ⟨B,u,none⟩) (v - u) (n - u):=by
  unfold sliced
  rw [Int.toNat_natCast,Int.toNat_natCast,if_neg (by omega)]
  simp [Addr.add]
  try omega
 have h3:(Instr.slice 158 (.slice (some ⟨B,0,none⟩) n n) (some (.int .i32 (u:Nat))) (some (.int .i32 (v:Nat))) none).run Tryz.prog wx= .ok (.slice (some ⟨B,u,none⟩) (v - u) (n - u)) wx:=by
  rw [h1]
  show Result.ok _ wx=_
  rw [h2]
 exact⟨h3,(run_sliceAt_slice (P:=Tryz.prog) (w:=wx) _ _ _ _ _ ht).trans h3⟩
def addB (p:Ptn) (u m L:Nat):Nat→Nat:=fun s=>if u≤p.q s∧p.q s<m then L else p.b s
theorem addB_zero (p:Ptn) (u L s:Nat):addB p u u L s=p.b s:=if_neg (by omega)
theorem addB_succ {p:Ptn} {n u m L:Nat} (hq:∀ s,s<n→p.q s<n∧p.o (p.q s)=s) (ho:∀ i,i<n→p.o i<n∧p.q (p.o i)=i) (hm:m<n) (hu:u≤m) {s:Nat} (hs:s<n):up (addB p u m L) (p.o m) L s=addB p u (m+1) L s:=by
 unfold up addB
 by_cases e:s=p.o m
 ·rw [if_pos e,if_pos]
  rw [e,(ho m hm).2]
  omega
 ·rw [if_neg e]
  have:p.q s≠m:=fun e2=>e (by rw [←e2,(hq s hs).2])
  by_cases e3:u≤p.q s∧p.q s<m
  ·rw [if_pos e3,if_pos (by omega)]
  ·rw [if_neg e3,if_neg (by omega)]
theorem PM.congrB {w:World} {base n:Nat} {A:Pa} {vb0 vt0 vb vt:Value} {p:Ptn} {f:Nat→Nat} (h:PM w base A vb0 vt0 vb vt n p) (he:∀ s,s<n→p.b s=f s):PM w base A vb0 vt0 vb vt n ⟨p.o,p.q,f,p.l,p.c⟩:=
 ⟨h.kp,h.fo,h.fq,h.fb.congr (fun i hi=>by unfold i32F;rw [he i hi]),h.ol,h.oc,h.oq,h.ob,h.qb,h.to_,h.tq,h.tb,h.lp,h.lo,h.lq,h.lb⟩
def AddR (w:World) (base:Nat) (A:Pa) (vb vt:Value) (n:Nat) (p':Ptn) (e:Ending) (w':World):Prop:=∃ vb',e= .returned (.tuple #[])∧PM w' base A vb' vt vb' vt n p'∧Fr (PX A vb vt) w w'∧(∀ k,vb'.ownBlock=some k→vb.ownBlock=some k∨w.heap.size≤k)
set_option maxRecDepth 1000000 in
set_option maxHeartbeats 16000000 in
theorem add_any (w:World) (base:Nat) (A:Pa) (vb vt:Value) (n:Nat) (p:Ptn) (u v K:Nat) (h:PM w base A vb vt vb vt n p) (hq:∀ s,s<n→p.q s<n∧p.o (p.q s)=s) (ho:∀ i,i<n→p.o i<n∧p.q (p.o i)=i) (hu:u<v) (hv:v≤n) (hl:p.l.length≤1000000) (hn:n≤1000000) (hbs:base≤w.heap.size):
  Calls Tryz.prog 126 #[.pointer (some ⟨A.p,0,none⟩),.agg #[.int .i32 (u:Nat),.int .i32 (v:Nat),.int .i32 (K:Nat)]] w (AddR w base A vb vt n ⟨p.o,p.q,addB p u v p.l.length,p.l++ [⟨u,v,K⟩],p.c⟩):=by
 obtain⟨iK,hiK,hzK,hkK,hbK⟩:=info_parts Tryz.infoK
 have BA:=(Below.refl w.heap.size w).alloc (Nat.le_refl _) (.cells #[.int .i32 (u:Nat),.int .i32 (v:Nat),.int .i32 (K:Nat)] 188)
 have k0:=Blk.new w 188 #[.int .i32 (u:Nat),.int .i32 (v:Nat),.int .i32 (K:Nat)]
 obtain⟨W0,hW0⟩:∃ W0,w.alloc (.cells #[.int .i32 (u:Nat),.int .i32 (v:Nat),.int .i32 (K:Nat)] 188)=W0:=⟨_,rfl⟩
 have PB0:=Lib.hid (h.below BA)
 have HPXW:=Lib.hid h.px
 have HBA:=Lib.hid BA
 have K0:=Lib.hid k0
 rw [hW0] at PB0 HBA K0
 obtain⟨bk,hbk⟩:∃ bk,w.heap.size=bk:=⟨_,rfl⟩
 have HBK:=Lib.hid hbk
 have HW0:=Lib.hid hW0
 rw [hbk] at K0
 have HBS:=Lib.hid hbs
 have HQ:=Lib.hid hq
 have HO:=Lib.hid ho
 obtain⟨pb,cb,hvb⟩:=h.ol.slice
 obtain⟨L,hL⟩:∃ L,p.l.length=L:=⟨_,rfl⟩
 have HL:=Lib.hid hL
 subst hvb
 rw [hL] at PB0 HPXW hl ⊢
 clear hW0 hbk h BA k0 hbs hq ho hL
 have u0:W0.cell? ⟨A.p,0,none⟩=some (.slice (some ⟨A.o,0,none⟩) n n):=PB0.out.kp.cell 0
 have k1:W0.cell? ⟨bk,0,none⟩=some (.int .i32 (u:Nat)):=K0.out.cell 0
 have k2:W0.cell? ⟨bk,1,none⟩=some (.int .i32 (v:Nat)):=K0.out.cell 1
 obtain⟨c1,c2⟩:(∀ wx,(Instr.slice 158 (.slice (some ⟨A.o,0,none⟩) n n) (some (.int .i32 (u:Nat))) (some (.int .i32 (v:Nat))) none).run Tryz.prog wx= .ok (.slice (some ⟨A.o,u,none⟩) (v - u) (n - u)) wx)∧(∀ wx,(Instr.sliceAt 158 (.slice (some ⟨A.o,0,none⟩) n n) (some (.int .i32 (u:Nat))) (some (.int .i32 (v:Nat))) none).run Tryz.prog wx= .ok (.slice (some ⟨A.o,u,none⟩) (v - u) (n - u)) wx):=⟨fun wx=>(cut_o A.o n u v hu hv wx).1,fun wx=>(cut_o A.o n u v hu hv wx).2⟩
 obtain⟨m,hm⟩:∃ m,v - u=m:=⟨_,rfl⟩
 have HM:=Lib.hid hm
 rw [hm] at c1 c2
 clear hm
 go_enter Tryz.func126,Tryz.ntmps126
 go_upto_region 1 with fail
 rw [HW0.out,HBK.out]
 clear HW0
 go_quiet (fail)
 have HBQ:=Lib.hid (below_drewN (Below.refl W0.heap.size W0) nq)
 obtain⟨w1,hw1⟩:∃ w1,W0.drewN nq=w1:=⟨_,rfl⟩
 rw [hw1] at HBQ
 have P1:=Lib.hid (PB0.out.below HBQ.out)
 have K1:=Lib.hid (Blk.below K0.out HBQ.out)
 have HB1:=Lib.hid (st HBA.out HBQ.out HBA.out.size)
 have HBN:Hid (bk<w1.heap.size):=Lib.hid K1.out.lt
 go_wp2_with fail
 rw [hw1]
 clear hw1 u0 k1 k2 c1 c2 PB0 K0 HBA HBQ
 go_loopw [16] (fun v16 wr=>∃ j:Nat,j≤m∧v16= .int .i64 (j:Nat)∧PM wr base A (.slice pb L cb) vt (.slice pb L cb) vt n ⟨p.o,p.q,addB p u (u+j) L,p.l,p.c⟩∧Fr (PX A (.slice pb L cb) vt) w wr∧Blk bk 188 #[.int .i32 (u:Nat),.int .i32 (v:Nat),.int .i32 (K:Nat)] wr) (fun v16 _=>m - (intOf v16).toNat)
 case atStart=>exact⟨0,Nat.zero_le _,rfl,P1.out.congrB (fun s hs=>(addB_zero p u L s).symm),Fr.of_below HB1.out,K1.out⟩
 case round=>
  rename World=>wz
  obtain⟨j,hj,rfl,hPM,hFr,hK⟩:=hrel
  have PZ:=Lib.hid hPM
  have FZ:=Lib.hid hFr
  have KZ:=Lib.hid hK
  clear hPM hFr hK P1 K1 HB1
  by_cases hlt:j<m
  ·have h9:(j:Int)<(m:Int):=by omega
   have hum:u+j<n:=by have:=HM.out;omega
   obtain⟨x,hx⟩:∃ x,p.o (u+j)=x:=⟨_,rfl⟩
   have HXX:=Lib.hid hx
   have hxn:x<n:=by rw [←hx];exact(HO.out _ hum).1
   have hx9:(x:Int)<(n:Int):=by omega
   have co:wz.cell? ⟨A.o,u+j,none⟩=some (.int .i32 (x:Nat)):=by rw [PZ.out.fo.cell hum];show some (Value.int .i32 (p.o (u+j):Nat))=_;rw [hx]
   clear hx
   have d1:IntKind.i32.wrap ((L:Nat):Int)=(L:Int):=by rw [IntKind.wrap_i32];omega
   obtain⟨wd,hwd⟩:∃ wd,wz.drew=wd:=⟨_,rfl⟩
   have PD:=Lib.hid (PZ.out.below (Below.refl _ wz).drew)
   have FD:=Lib.hid (FZ.out.trans (Fr.of_below (X:=fun _=>False) (Below.refl _ wz).drew) (fun _ _ e=>e.elim))
   have KD:=Lib.hid (Blk.below KZ.out (Below.refl _ wz).drew)
   rw [hwd] at PD FD KD
   have u2':wz.cell? ⟨A.p,2,none⟩=some (.slice (some ⟨A.b,0,none⟩) n n):=PZ.out.kp.cell 2
   have u3':wz.cell? ⟨A.p,3,none⟩=some (.slice pb L cb):=PZ.out.kp.cell 3
   have cb':wd.cell? ⟨A.b,x,none⟩=some (i32F (addB p u (u+j) L) x):=PD.out.fb.cell hxn
   have cz':wd.frozen? ⟨A.b,x,none⟩=false:=PD.out.fb.frozen x
   have PN:Hid (PM (wd.setCell ⟨A.b,x,none⟩ (.int .i32 (L:Nat))) base A (.slice pb L cb) vt (.slice pb L cb) vt n ⟨p.o,p.q,addB p u (u+(j+1)) L,p.l,p.c⟩):=Lib.hid ((PD.out.setB hxn L).congrB (fun s hs=>by
    have:=addB_succ (L:=L) HQ.out HO.out hum (by omega:u≤u+j) hs
    rw [HXX.out] at this
    exact this))
   have FN:Hid (Fr (PX A (.slice pb L cb) vt) w (wd.setCell ⟨A.b,x,none⟩ (.int .i32 (L:Nat)))):=Lib.hid (FD.out.trans (Fr.set (X:=fun k=>k=A.b) _ _ _ rfl) (fun k _ e=> .inr (.inr (.inr (.inl e)))))
   have KN:Hid (Blk bk 188 #[.int .i32 (u:Nat),.int .i32 (v:Nat),.int .i32 (K:Nat)] (wd.setCell ⟨A.b,x,none⟩ (.int .i32 (L:Nat)))):=Lib.hid (KD.out.far (p:=⟨A.b,x,none⟩) (fun e=>by
    have h1:=(HPXW.out A.b (.inr (.inr (.inr (.inl rfl))))).2
    have h2:=HBK.out
    have e:bk=A.b:=e
    omega) _)
   go_upto_region 4 with fail
   have hS:(fun wx:World=>wx.cell? ⟨A.p,2,none⟩=some (.slice (some ⟨A.b,0,none⟩) n n)∧wx.cell? ⟨A.p,3,none⟩=some (.slice pb L cb)) wd:=⟨PD.out.kp.cell 2,PD.out.kp.cell 3⟩
   refine region_hd 11 (fun wx:World=>wx.cell? ⟨A.p,2,none⟩=some (.slice (some ⟨A.b,0,none⟩) n n)∧wx.cell? ⟨A.p,3,none⟩=some (.slice pb L cb)) (by kernel_rfl) (by kernel_rfl) ?_
   rw [hwd]
   refine hd_taken 0 (some 20) _ ?hdv0 rfl rfl (by kernel_rfl) (fun _ _ _ h=>h) (Or.inl ⟨by rfl,?hdy0⟩) hS ?hdr0
   case hdy0=>(intro wx hx;(try dsimp only at hx);go_simp;try with_reducible rfl)
   try simp only [Act.put,zI,zO,zS]
   refine hd_taken 1 (some 21) _ ?hdv1 rfl rfl (by kernel_rfl) (fun _ _ _ h=>h) (Or.inl ⟨by rfl,?hdy1⟩) hS ?hdr1
   case hdy1=>(intro wx hx;(try dsimp only at hx);go_simp;try with_reducible rfl)
   try simp only [Act.put,zI,zO,zS]
   refine hd_taken 2 (some 22) _ ?hdv2 rfl rfl (by kernel_rfl) (fun _ _ _ h=>h) (Or.inl ⟨by rfl,?hdy2⟩) hS ?hdr2
   case hdy2=>(intro wx hx;(try dsimp only at hx);go_simp;try with_reducible rfl)
   try simp only [Act.put,zI,zO,zS]
   refine hd_taken 3 (some 23) _ ?hdv3 rfl rfl (by kernel_rfl) (fun _ _ _ h=>h) (Or.inl ⟨by rfl,?hdy3⟩) hS ?hdr3
   case hdy3=>(intro wx hx;(try dsimp only at hx);go_simp;try with_reducible rfl)
   try simp only [Act.put,zI,zO,zS]
   refine hd_taken 4 (some 24) _ ?hdv4 rfl rfl (by kernel_rfl) (fun _ _ _ h=>h) (Or.inl ⟨by rfl,?hdy4⟩) hS ?hdr4
   case hdy4=>(intro wx hx;(try dsimp only at hx);go_simp;try with_reducible rfl)
   try simp only [Act.put,zI,zO,zS]
   refine hd_taken 5 (some 25) _ ?hdv5 rfl rfl (by kernel_rfl) (fun _ _ _ h=>h) (Or.inl ⟨by rfl,?hdy5⟩) hS ?hdr5
   case hdy5=>(intro wx hx;(try dsimp only at hx);go_simp;try with_reducible rfl)
   try simp only [Act.put,zI,zO,zS]
   refine hd_taken 6 (some 26) _ ?hdv6 rfl rfl (by kernel_rfl) (fun _ _ _ h=>h) (Or.inl ⟨by rfl,?hdy6⟩) hS ?hdr6
   case hdy6=>(intro wx hx;(try dsimp only at hx);go_simp;try with_reducible rfl)
   try simp only [Act.put,zI,zO,zS]
   refine hd_taken 7 (some 27) _ ?hdv7 rfl rfl (by kernel_rfl) (fun _ _ _ h=>h) (Or.inl ⟨by rfl,?hdy7⟩) hS ?hdr7
   case hdy7=>(intro wx hx;(try dsimp only at hx);go_simp;try with_reducible rfl)
   try simp only [Act.put,zI,zO,zS]
   refine hd_taken 8 (some 28) _ ?hdv8 rfl rfl (by kernel_rfl) (fun _ _ _ h=>h) (Or.inl ⟨by rfl,?hdy8⟩) hS ?hdr8
   case hdy8=>(intro wx hx;(try dsimp only at hx);go_simp;try with_reducible rfl)
   try simp only [Act.put,zI,zO,zS]
   refine hd_taken 9 (some 29) _ ?hdv9 rfl rfl (by kernel_rfl) (fun _ _ _ h=>h) (Or.inl ⟨by rfl,?hdy9⟩) hS ?hdr9
   case hdy9=>(intro wx hx;(try dsimp only at hx);go_simp;try with_reducible rfl)
   try simp only [Act.put,zI,zO,zS]
   refine hd_taken 10 (some 30) _ ?hdv10 rfl rfl (by kernel_rfl) (fun _ _ _ h=>h) (Or.inl ⟨by rfl,?hdy10⟩) hS ?hdr10
   case hdy10=>(intro wx hx;(try dsimp only at hx);go_simp;try with_reducible rfl)
   try simp only [Act.put,zI,zO,zS]
   refine hd_done (by kernel_rfl) ?_
   simp only [List.drop_succ_cons,List.drop_zero]
   go_wp2
   go_roundw
   case measure=>simp [intOf]<;>omega
   case rel=>exact⟨j+1,by omega,by go_num,PN.out,FN.out,KN.out⟩
  ·obtain rfl:j=m:=by omega
   have h9:¬ (j:Int)<(j:Int):=by omega
   have PE:Hid (PM wz base A (.slice pb L cb) vt (.slice pb L cb) vt n ⟨p.o,p.q,addB p u v L,p.l,p.c⟩):=Lib.hid (by
    have:=PZ.out
    rw [show u+j=v by have:=HM.out;omega] at this
    exact this)
   have u3:wz.cell? ⟨A.p,3,none⟩=some (.slice pb L cb):=PE.out.kp.cell 3
   have k1:wz.cell? ⟨bk,0,none⟩=some (.int .i32 (u:Nat)):=KZ.out.cell 0
   have k2:wz.cell? ⟨bk,1,none⟩=some (.int .i32 (v:Nat)):=KZ.out.cell 1
   have k3:wz.cell? ⟨bk,2,none⟩=some (.int .i32 (K:Nat)):=KZ.out.cell 2
   go_upto_region 6 with fail
   have hS:(fun wx:World=>wx.cell? ⟨A.p,3,none⟩=some (.slice pb L cb)∧wx.cell? ⟨bk,0,none⟩=some (.int .i32 (u:Nat))∧wx.cell? ⟨bk,1,none⟩=some (.int .i32 (v:Nat))∧wx.cell? ⟨bk,2,none⟩=some (.int .i32 (K:Nat))) wz.drew:=⟨u3,k1,k2,k3⟩
   refine region_hd 8 (fun wx:World=>wx.cell? ⟨A.p,3,none⟩=some (.slice pb L cb)∧wx.cell? ⟨bk,0,none⟩=some (.int .i32 (u:Nat))∧wx.cell? ⟨bk,1,none⟩=some (.int .i32 (v:Nat))∧wx.cell? ⟨bk,2,none⟩=some (.int .i32 (K:Nat))) (by kernel_rfl) (by kernel_rfl) ?_
   refine hd_taken 0 (some 33) _ ?hdva0 rfl rfl (by kernel_rfl) (fun _ _ _ h=>h) (Or.inl ⟨by rfl,?hdya0⟩) hS ?hdra0
   case hdya0=>(intro wx hx;(try dsimp only at hx);go_simp;try with_reducible rfl)
   try simp only [Act.put,zI,zO,zS]
   refine hd_taken 1 (some 34) _ ?hdva1 rfl rfl (by kernel_rfl) (fun _ _ _ h=>h) (Or.inl ⟨by rfl,?hdya1⟩) hS ?hdra1
   case hdya1=>(intro wx hx;(try dsimp only at hx);go_simp;try with_reducible rfl)
   try simp only [Act.put,zI,zO,zS]
   refine hd_taken 2 (some 35) _ ?hdva2 rfl rfl (by kernel_rfl) (fun _ _ _ h=>h) (Or.inl ⟨by rfl,?hdya2⟩) hS ?hdra2
   case hdya2=>(intro wx hx;(try dsimp only at hx);go_simp;try with_reducible rfl)
   try simp only [Act.put,zI,zO,zS]
   refine hd_taken 3 (some 36) _ ?hdva3 rfl rfl (by kernel_rfl) (fun _ _ _ h=>h) (Or.inl ⟨by rfl,?hdya3⟩) hS ?hdra3
   case hdya3=>(intro wx hx;(try dsimp only at hx);go_simp;try with_reducible rfl)
   try simp only [Act.put,zI,zO,zS]
   refine hd_taken 4 (some 37) _ ?hdva4 rfl rfl (by kernel_rfl) (fun _ _ _ h=>h) (Or.inl ⟨by rfl,?hdya4⟩) hS ?hdra4
   case hdya4=>(intro wx hx;(try dsimp only at hx);go_simp;try with_reducible rfl)
   try simp only [Act.put,zI,zO,zS]
   refine hd_taken 5 (some 38) _ ?hdva5 rfl rfl (by kernel_rfl) (fun _ _ _ h=>h) (Or.inl ⟨by rfl,?hdya5⟩) hS ?hdra5
   case hdya5=>(intro wx hx;(try dsimp only at hx);go_simp;try with_reducible rfl)
   try simp only [Act.put,zI,zO,zS]
   have bA:=(Below.refl wz.heap.size wz).drew.alloc (Nat.le_refl _) (.cells #[.int .i32 (u:Nat),.int .i32 (v:Nat),.int .i32 (K:Nat)] 188)
   have PA:=PE.out.below bA
   have hS2:(fun wx:World=>wx.cell? ⟨A.p,3,none⟩=some (.slice pb L cb)∧wx.cell? ⟨bk,0,none⟩=some (.int .i32 (u:Nat))∧wx.cell? ⟨bk,1,none⟩=some (.int .i32 (v:Nat))∧wx.cell? ⟨bk,2,none⟩=some (.int .i32 (K:Nat))) (wz.drew.alloc (.cells #[.int .i32 (u:Nat),.int .i32 (v:Nat),.int .i32 (K:Nat)] 188)):=⟨PA.kp.cell 3,(Blk.below KZ.out bA).cell 0,(Blk.below KZ.out bA).cell 1,(Blk.below KZ.out bA).cell 2⟩
   refine hd_one 6 _ rfl (by kernel_rfl) (by decide) (fun K2 hK2=>?_)
   go_simp
   refine hK2.out _ _ hS2 ?_
   clear hK2 K2 hS
   try simp only [Act.put,zI,zO,zS]
   have kA:=Blk.new wz.drew 188 #[.int .i32 (u:Nat),.int .i32 (v:Nat),.int .i32 (K:Nat)]
   have hl2:p.l.length≤1000000000:=by have:=HL.out;omega
   have zA:base≤(wz.drew.alloc (.cells #[.int .i32 (u:Nat),.int .i32 (v:Nat),.int .i32 (K:Nat)] 188)).heap.size:=by have:=HBS.out;have:=FZ.out.size;have:=bA.size;omega
   refine hd_one 7 _ rfl (by kernel_rfl) (by decide) (fun K3 hK3=>?_)
   refine step_append_blk (w:=wz.drew.alloc (.cells #[.int .i32 (u:Nat),.int .i32 (v:Nat),.int .i32 (K:Nat)] 188)) (x:=(⟨u,v,K⟩:Bk)) (by rfl) _ _ 159 (by rfl) base iK _ 12 Tryz.underlying159 hiK hzK hkK hbK (by omega) rfl (by omega) encK_len encK_one _ p.l (by rfl) (by rfl) PA.ol (by rfl) kA hl2 zA ?_
   intro v7 w7 y1
   have P7:=PA.lieL y1
   have HPXN:Hid (∀ k,w.heap.size≤k→¬ PX A (.slice pb L cb) vt k):=Lib.hid (fun k hk e=>by have:=(HPXW.out k e).2;omega)
   have K7:Blk bk 188 #[.int .i32 (u:Nat),.int .i32 (v:Nat),.int .i32 (K:Nat)] w7:=(y1.blk (Blk.below KZ.out bA) (fun e=>HPXN.out bk (by have:=HBK.out;omega) (.inr (.inr (.inr (.inr (.inl e))))))).1
   have hS7:(fun wx:World=>wx.cell? ⟨A.p,3,none⟩=some (.slice pb L cb)∧wx.cell? ⟨bk,0,none⟩=some (.int .i32 (u:Nat))∧wx.cell? ⟨bk,1,none⟩=some (.int .i32 (v:Nat))∧wx.cell? ⟨bk,2,none⟩=some (.int .i32 (K:Nat))) w7:=⟨P7.kp.cell 3,K7.cell 0,K7.cell 1,K7.cell 2⟩
   refine hK3.out _ _ hS7 ?_
   have F7:Fr (PX A (.slice pb L cb) vt) w w7:=(FZ.out.trans (Fr.of_below (X:=fun _=>False) bA) (fun _ _ e=>e.elim)).trans (Fr.grown (X:=fun k=>(Value.slice pb L cb).ownBlock=some k) y1.2.2.1 (fun k e=>e)) (fun k _ e=> .inr (.inr (.inr (.inr (.inl e)))))
   obtain⟨p7,q7,hp7⟩:=lie_at y1
   obtain⟨L7,hL7⟩:∃ L7,(p.l++ [(⟨u,v,K⟩:Bk)]).length=L7:=⟨_,rfl⟩
   rw [hL7] at hp7
   subst hp7
   have HOW:Hid (∀ k,(Value.slice p7 L7 q7).ownBlock=some k→(Value.slice pb L cb).ownBlock=some k∨w.heap.size≤k):=Lib.hid (fun k hk=>by
    rcases y1.2.2.2 k hk with e|e
    ·exact .inl e
    ·right
     have:=FZ.out.size
     have:=bA.size
     omega)
   have kc7:w7.cell? ⟨A.p,3,none⟩=some (.slice pb L cb):=P7.kp.cell 3
   have kf7:=P7.kp.frozen 3
   have HFIN:Hid (AddR w base A (.slice pb L cb) vt n ⟨p.o,p.q,addB p u v L,p.l++ [⟨u,v,K⟩],p.c⟩ (.returned (.tuple #[])) (w7.setCell ⟨A.p,3,none⟩ (.slice p7 L7 q7))):=Lib.hid ⟨_,rfl,P7.put 3 _ _ _ rfl,F7.trans (Fr.set (X:=fun k=>k=A.p) _ _ _ rfl) (fun k _ e=> .inl e),HOW.out⟩
   clear hK3 K3 kA y1 hS2 bA PA P7 hS7 F7 hL7 K7 k1 k2 k3 u3
   try simp only [Act.put,zI,zO,zS]
   refine hd_done (by kernel_rfl) ?_
   simp only [List.drop_succ_cons,List.drop_zero]
   go_wp2
   (try simp only [Exit.inBlock,Exit.then])
   refine bodyPost_end (results_none rfl _ _ _) rfl ?_
   exact HFIN.out
end Go.Proofs.YtobapaodpcheiaaGreatDoor
