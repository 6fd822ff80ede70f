/- What the row stands on, part 13. -/
import Derived.Test.YtobapaodpcheiaaGreatDoorQ12
namespace Go.Proofs.YtobapaodpcheiaaGreatDoor
set_option linter.unusedVariables false
structure Bk where
 f:Nat
 t:Nat
 k:Nat
structure Ptn where
 o:Nat→Nat
 q:Nat→Nat
 b:Nat→Nat
 l:List Bk
 c:List Nat
def Ptn.at_ (p:Ptn) (i:Nat):Bk:=p.l.getD i ⟨0,0,0⟩
structure PB (n:Nat) (p:Ptn):Prop where
 q_:∀ s,s<n→p.q s<n∧p.o (p.q s)=s
 o_:∀ i,i<n→p.o i<n∧p.q (p.o i)=i
 l_:∀ i,i<p.l.length→(p.at_ i).f<(p.at_ i).t∧(p.at_ i).t≤n∧(p.at_ i).f+(p.at_ i).k≤(p.at_ i).t
 b_:∀ s,s<n→p.b s<p.l.length∧(p.at_ (p.b s)).f≤p.q s∧p.q s<(p.at_ (p.b s)).t
 u_:∀ i j,i<n→j<p.l.length→(p.at_ j).f≤i→i<(p.at_ j).t→p.b (p.o i)=j
structure TC (p:Ptn):Prop where
 nd:p.c.Nodup
 lt:∀ i∈p.c,i<p.l.length
 iff_:∀ i,i<p.l.length→(i∈p.c↔0<(p.at_ i).k)
def Mk (p:Ptn) (s:Nat):Prop:=p.q s<(p.at_ (p.b s)).f+(p.at_ (p.b s)).k
theorem PB.q_inj {n:Nat} {p:Ptn} (h:PB n p) {s t:Nat} (hs:s<n) (ht:t<n) (e:p.q s=p.q t):s=t:=by rw [←(h.q_ s hs).2,e,(h.q_ t ht).2]
theorem PB.len_le {n:Nat} {p:Ptn} (h:PB n p):p.l.length≤n:=by
 have hf:∀ i,i<p.l.length→(p.at_ i).f<n:=fun i hi=>by have:=h.l_ i hi;omega
 have h1:=nodup_len (a:=(List.range p.l.length).map fun i=>(p.at_ i).f) (b:=List.range n) (by
  refine List.pairwise_iff_getElem.2 (fun i j hi hj hij e=>?_)
  simp only [List.length_map,List.length_range] at hi hj
  simp only [List.getElem_map,List.getElem_range] at e
  have a1:=h.l_ i hi
  have a2:=h.l_ j hj
  have u1:=h.u_ _ i (hf i hi) hi (Nat.le_refl _) a1.1
  have u2:=h.u_ _ j (hf j hj) hj (Nat.le_refl _) a2.1
  rw [e] at u1
  omega) (fun x hx=>by
   obtain⟨i,hi,rfl⟩:=List.mem_map.1 hx
   exact List.mem_range.2 (hf i (List.mem_range.1 hi)))
 simpa using h1
theorem PB.some_ {n:Nat} {p:Ptn} (h:PB n p) {j:Nat} (hj:j<p.l.length):∃ s,s<n∧p.b s=j:=by
 have a:=h.l_ j hj
 exact⟨p.o (p.at_ j).f,(h.o_ _ (by omega)).1,h.u_ _ j (by omega) hj (Nat.le_refl _) a.1⟩
def up (f:Nat→Nat) (i x:Nat):Nat→Nat:=fun j=>if j=i then x else f j
theorem up_same (f:Nat→Nat) (i x:Nat):up f i x i=x:=if_pos rfl
theorem up_other {f:Nat→Nat} {i x j:Nat} (h:j≠i):up f i x j=f j:=if_neg h
def markP (p:Ptn) (s:Nat):Ptn:=
 let i:=p.b s
 let b:=p.at_ i
 let x:=p.q s
 let y:=b.f+b.k
 let t:=p.o y
 ⟨up (up p.o x t) y s,up (up p.q t x) s y,p.b,p.l.set i ⟨b.f,b.t,b.k+1⟩,if b.k=0 then p.c++ [i] else p.c⟩
theorem getD_set {α:Type} {l:List α} {i j:Nat} {x d:α} (hi:i<l.length):(l.set i x).getD j d=if j=i then x else l.getD j d:=by
 rw [List.getD_eq_getElem?_getD,List.getElem?_set]
 by_cases h:j=i
 ·subst h
  rw [if_pos rfl,if_pos hi,if_pos rfl]
  rfl
 ·rw [if_neg (fun e=>h e.symm),if_neg h,List.getD_eq_getElem?_getD]
section
variable {n:Nat} {p:Ptn} {s:Nat}
theorem mark_at (h:PB n p) (hs:s<n) (j:Nat):(markP p s).at_ j=if j=p.b s then⟨(p.at_ (p.b s)).f,(p.at_ (p.b s)).t,(p.at_ (p.b s)).k+1⟩ else p.at_ j:=by
 unfold Ptn.at_ markP
 dsimp only
 exact getD_set (h.b_ s hs).1
theorem mark_ft (h:PB n p) (hs:s<n) (j:Nat):((markP p s).at_ j).f=(p.at_ j).f∧((markP p s).at_ j).t=(p.at_ j).t:=by
 rw [mark_at h hs]
 by_cases e:j=p.b s
 ·subst e;rw [if_pos rfl];exact⟨rfl,rfl⟩
 ·rw [if_neg e];exact⟨rfl,rfl⟩
theorem mark_q (h:PB n p) (hs:s<n) (hm:¬ Mk p s):∀ t,t<n→(markP p s).q t=if t=s then(p.at_ (p.b s)).f+(p.at_ (p.b s)).k else if p.q t=(p.at_ (p.b s)).f+(p.at_ (p.b s)).k then p.q s else p.q t:=by
 intro t ht
 have hb:=h.b_ s hs
 unfold Mk at hm
 have hqn:=(h.q_ s hs).1
 have hy:(p.at_ (p.b s)).f+(p.at_ (p.b s)).k<n:=by omega
 show up (up p.q (p.o _) (p.q s)) s _ t=_
 by_cases e:t=s
 ·subst e
  rw [up_same,if_pos rfl]
 ·rw [up_other e,if_neg e]
  by_cases e2:p.q t=(p.at_ (p.b s)).f+(p.at_ (p.b s)).k
  ·rw [if_pos e2]
   have:t=p.o ((p.at_ (p.b s)).f+(p.at_ (p.b s)).k):=by rw [←e2,(h.q_ t ht).2]
   rw [←this,up_same]
  ·rw [if_neg e2]
   refine up_other (fun e3=>e2 ?_)
   rw [e3]
   exact(h.o_ _ hy).2
theorem mark_o (h:PB n p) (hs:s<n) (hm:¬ Mk p s):∀ i,i<n→(markP p s).o i=if i=(p.at_ (p.b s)).f+(p.at_ (p.b s)).k then s else if i=p.q s then p.o ((p.at_ (p.b s)).f+(p.at_ (p.b s)).k) else p.o i:=fun i hi=>by
 show up (up p.o (p.q s) _) _ s i=_
 by_cases e:i=(p.at_ (p.b s)).f+(p.at_ (p.b s)).k
 ·rw [e,up_same,if_pos rfl]
 ·rw [up_other e,if_neg e]
  by_cases e2:i=p.q s
  ·rw [e2,up_same,if_pos rfl]
  ·rw [up_other e2,if_neg e2]
theorem mark_pb (h:PB n p) (hs:s<n) (hm:¬ Mk p s):PB n (markP p s):=by
 have hb:=h.b_ s hs
 have hm':=hm
 unfold Mk at hm'
 have hl:=h.l_ _ hb.1
 have hy:(p.at_ (p.b s)).f+(p.at_ (p.b s)).k<n:=by omega
 have hbs:p.b (p.o ((p.at_ (p.b s)).f+(p.at_ (p.b s)).k))=p.b s:=h.u_ _ _ hy hb.1 (by omega) (by omega)
 have hll:(markP p s).l.length=p.l.length:=by show(p.l.set _ _).length=_;simp
 have hbb:(markP p s).b=p.b:=rfl
 refine⟨fun t ht=>?_,fun i hi=>?_,fun i hi=>?_,fun t ht=>?_,fun i j hi hj h1 h2=>?_⟩
 ·have hq:=h.q_ t ht
  have hqs:=h.q_ s hs
  rw [mark_q h hs hm t ht]
  by_cases e:t=s
  ·rw [if_pos e,mark_o h hs hm _ hy,if_pos rfl]
   exact⟨hy,e.symm⟩
  ·rw [if_neg e]
   by_cases e2:p.q t=(p.at_ (p.b s)).f+(p.at_ (p.b s)).k
   ·rw [if_pos e2,mark_o h hs hm _ hqs.1]
    have ne:p.q s≠(p.at_ (p.b s)).f+(p.at_ (p.b s)).k:=fun e3=>e (h.q_inj ht hs (by rw [e2,e3]))
    rw [if_neg ne,if_pos rfl,←e2]
    exact⟨hqs.1,hq.2⟩
   ·rw [if_neg e2,mark_o h hs hm _ hq.1,if_neg e2,if_neg (fun e3=>e (h.q_inj ht hs e3))]
    exact hq
 ·have ho:=h.o_ i hi
  have hoy:=h.o_ _ hy
  rw [mark_o h hs hm i hi]
  by_cases e:i=(p.at_ (p.b s)).f+(p.at_ (p.b s)).k
  ·rw [if_pos e,mark_q h hs hm s hs,if_pos rfl]
   exact⟨hs,e.symm⟩
  ·rw [if_neg e]
   by_cases e2:i=p.q s
   ·rw [if_pos e2,mark_q h hs hm _ hoy.1]
    have ne:p.o ((p.at_ (p.b s)).f+(p.at_ (p.b s)).k)≠s:=fun e3=>e (e2.trans ((congrArg p.q e3).symm.trans hoy.2))
    rw [if_neg ne,if_pos hoy.2]
    exact⟨hoy.1,e2.symm⟩
   ·rw [if_neg e2,mark_q h hs hm _ ho.1,if_neg (fun e3=>e2 (by rw [←e3];exact ho.2.symm)),if_neg (by rw [ho.2];exact e)]
    exact ho
 ·rw [hll] at hi
  have hli:=h.l_ i hi
  rw [mark_at h hs]
  by_cases e:i=p.b s
  ·rw [if_pos e]
   exact⟨hl.1,hl.2.1,by dsimp only;omega⟩
  ·rw [if_neg e]
   exact hli
 ·have hbt:=h.b_ t ht
  rw [hll,hbb,(mark_ft h hs _).1,(mark_ft h hs _).2,mark_q h hs hm t ht]
  refine⟨hbt.1,?_⟩
  by_cases e:t=s
  ·subst e
   rw [if_pos rfl]
   omega
  ·rw [if_neg e]
   by_cases e2:p.q t=(p.at_ (p.b s)).f+(p.at_ (p.b s)).k
   ·rw [if_pos e2]
    have:t=p.o ((p.at_ (p.b s)).f+(p.at_ (p.b s)).k):=by rw [←e2,(h.q_ t ht).2]
    have e3:p.b t=p.b s:=by rw [this];exact hbs
    rw [e3]
    exact hb.2
   ·rw [if_neg e2]
    exact hbt.2
 ·rw [hll] at hj
  rw [(mark_ft h hs _).1] at h1
  rw [(mark_ft h hs _).2] at h2
  rw [hbb,mark_o h hs hm i hi]
  by_cases e:i=(p.at_ (p.b s)).f+(p.at_ (p.b s)).k
  ·rw [if_pos e]
   rw [←hbs,←e]
   exact h.u_ i j hi hj h1 h2
  ·rw [if_neg e]
   by_cases e2:i=p.q s
   ·rw [if_pos e2,hbs]
    have:=h.u_ i j hi hj h1 h2
    rw [e2,(h.q_ s hs).2] at this
    exact this
   ·rw [if_neg e2]
    exact h.u_ i j hi hj h1 h2
theorem mark_mk (h:PB n p) (hs:s<n) (hm:¬ Mk p s) {t:Nat} (ht:t<n):Mk (markP p s) t↔Mk p t∨t=s:=by
 have hb:=h.b_ s hs
 have hm':=hm
 unfold Mk at hm'
 have hbb:(markP p s).b=p.b:=rfl
 unfold Mk
 rw [hbb,mark_q h hs hm t ht,mark_at h hs]
 have hy:(p.at_ (p.b s)).f+(p.at_ (p.b s)).k<n:=by have:=h.l_ _ hb.1;omega
 by_cases e:t=s
 ·subst e
  rw [if_pos rfl,if_pos rfl]
  dsimp only
  omega
 ·rw [if_neg e]
  by_cases e2:p.q t=(p.at_ (p.b s)).f+(p.at_ (p.b s)).k
  ·rw [if_pos e2]
   have:t=p.o ((p.at_ (p.b s)).f+(p.at_ (p.b s)).k):=by rw [←e2,(h.q_ t ht).2]
   have e3:p.b t=p.b s:=by rw [this];exact h.u_ _ _ hy hb.1 (by omega) (by omega)
   have ne:p.q t≠p.q s:=fun e4=>e (h.q_inj ht hs e4)
   rw [e3,if_pos rfl]
   dsimp only
   omega
  ·rw [if_neg e2]
   by_cases e3:p.b t=p.b s
   ·rw [e3,if_pos rfl]
    dsimp only
    omega
   ·rw [if_neg e3]
    omega
theorem mark_tc (h:PB n p) (hc:TC p) (hs:s<n):TC (markP p s):=by
 have hb:=h.b_ s hs
 have hll:(markP p s).l.length=p.l.length:=by show(p.l.set _ _).length=_;simp
 have hcc:(markP p s).c=if (p.at_ (p.b s)).k=0 then p.c++ [p.b s] else p.c:=rfl
 by_cases h0:(p.at_ (p.b s)).k=0
 ·rw [if_pos h0] at hcc
  have hn:p.b s ∉p.c:=fun e=>by have:=(hc.iff_ _ hb.1).1 e;omega
  refine⟨by rw [hcc];exact nodup_snoc hc.nd hn,fun i hi=>?_,fun i hi=>?_⟩
  ·rw [hll]
   rw [hcc] at hi
   rcases List.mem_append.1 hi with hi|hi
   ·exact hc.lt i hi
   ·rw [List.mem_singleton] at hi;rw [hi];exact hb.1
  ·rw [hll] at hi
   rw [hcc,mark_at h hs,List.mem_append,List.mem_singleton]
   by_cases e:i=p.b s
   ·rw [if_pos e]
    simp [e]
   ·rw [if_neg e,←hc.iff_ i hi]
    simp [e]
 ·rw [if_neg h0] at hcc
  refine⟨by rw [hcc];exact hc.nd,fun i hi=>?_,fun i hi=>?_⟩
  ·rw [hll]
   rw [hcc] at hi
   exact hc.lt i hi
  ·rw [hll] at hi
   rw [hcc,mark_at h hs]
   by_cases e:i=p.b s
   ·rw [if_pos e,e]
    have:=hc.iff_ _ hb.1
    dsimp only
    exact⟨fun _=>by omega,fun _=>this.2 (by omega)⟩
   ·rw [if_neg e]
    exact hc.iff_ i hi
end
def cutP (p:Ptn) (i u v x y:Nat):Ptn:=⟨p.o,p.q,fun s=>if u≤p.q s∧p.q s<v then p.l.length else p.b s,p.l.set i ⟨x,y,0⟩++ [⟨u,v,0⟩],p.c⟩
def clearP (p:Ptn) (i:Nat):Ptn:=⟨p.o,p.q,p.b,p.l.set i ⟨(p.at_ i).f,(p.at_ i).t,0⟩,p.c⟩
def split1 (p:Ptn) (i:Nat):Ptn:=
 let b:=p.at_ i
 if b.t - (b.f+b.k)=0 then clearP p i
 else if b.k<b.t - (b.f+b.k) then cutP p i b.f (b.f+b.k) (b.f+b.k) b.t
 else cutP p i (b.f+b.k) b.t b.f (b.f+b.k)
def Parts (b:Bk) (u v x y:Nat):Prop:=(u=b.f∧v=b.f+b.k∧x=b.f+b.k∧y=b.t)∨(u=b.f+b.k∧v=b.t∧x=b.f∧y=b.f+b.k)
section
variable {n:Nat} {p:Ptn} {i u v x y:Nat}
theorem clear_at (hi:i<p.l.length) (j:Nat):(clearP p i).at_ j=if j=i then⟨(p.at_ i).f,(p.at_ i).t,0⟩ else p.at_ j:=getD_set hi
theorem clear_len:(clearP p i).l.length=p.l.length:=by show(p.l.set _ _).length=_;simp
theorem cut_len:(cutP p i u v x y).l.length=p.l.length+1:=by show(p.l.set _ _++ [_]).length=_;simp
theorem cut_at (hi:i<p.l.length) (j:Nat):(cutP p i u v x y).at_ j=if j=i then⟨x,y,0⟩ else if j=p.l.length then⟨u,v,0⟩ else p.at_ j:=by
 show(p.l.set i _++ [_]).getD j _=_
 rcases Nat.lt_trichotomy j p.l.length with h|h|h
 ·rw [getD_app (by simpa using h),getD_set hi]
  by_cases e:j=i
  ·rw [if_pos e,if_pos e]
  ·rw [if_neg e,if_neg e,if_neg (by omega)]
   rfl
 ·have:j=(p.l.set i ⟨x,y,0⟩).length:=by simp [h]
  rw [this,getD_end,←this,if_neg (by omega),if_pos h]
 ·rw [List.getD_eq_getElem?_getD,List.getElem?_eq_none (by simp;omega),if_neg (by omega),if_neg (by omega)]
  unfold Ptn.at_
  rw [List.getD_eq_getElem?_getD,List.getElem?_eq_none (by omega)]
theorem clear_pb (h:PB n p) (hi:i<p.l.length):PB n (clearP p i):=by
 have hf:∀ j,((clearP p i).at_ j).f=(p.at_ j).f∧((clearP p i).at_ j).t=(p.at_ j).t:=fun j=>by
  rw [clear_at hi]
  by_cases e:j=i
  ·rw [if_pos e,e];exact⟨rfl,rfl⟩
  ·rw [if_neg e];exact⟨rfl,rfl⟩
 refine⟨h.q_,h.o_,fun j hj=>?_,fun s hs=>?_,fun a j ha hj h1 h2=>?_⟩
 ·rw [clear_len] at hj
  have hl:=h.l_ j hj
  rw [(hf j).1,(hf j).2]
  refine⟨hl.1,hl.2.1,?_⟩
  rw [clear_at hi]
  by_cases e:j=i
  ·rw [if_pos e];dsimp only;omega
  ·rw [if_neg e];exact hl.2.2
 ·rw [clear_len,(hf _).1,(hf _).2]
  exact h.b_ s hs
 ·rw [clear_len] at hj
  rw [(hf _).1] at h1
  rw [(hf _).2] at h2
  exact h.u_ a j ha hj h1 h2
theorem part_in (h:PB n p) (hi:i<p.l.length) {s:Nat} (hs:s<n) (h1:(p.at_ i).f≤p.q s) (h2:p.q s<(p.at_ i).t):p.b s=i:=by
 have:=h.u_ (p.q s) i (h.q_ s hs).1 hi h1 h2
 rwa [(h.q_ s hs).2] at this
theorem cut_pb (h:PB n p) (hi:i<p.l.length) (hk0:0<(p.at_ i).k) (hk1:(p.at_ i).f+(p.at_ i).k<(p.at_ i).t) (hp:Parts (p.at_ i) u v x y):PB n (cutP p i u v x y):=by
 have hli:=h.l_ i hi
 have hu:(p.at_ i).f≤u∧v≤(p.at_ i).t∧u<v∧(p.at_ i).f≤x∧y≤(p.at_ i).t∧x<y:=by rcases hp with⟨rfl,rfl,rfl,rfl⟩|⟨rfl,rfl,rfl,rfl⟩<;>omega
 have hcov:∀ a,(p.at_ i).f≤a→a<(p.at_ i).t→(u≤a∧a<v)∨(x≤a∧a<y∧¬ (u≤a∧a<v)):=by rcases hp with⟨rfl,rfl,rfl,rfl⟩|⟨rfl,rfl,rfl,rfl⟩<;>intro a _ _<;>omega
 have hdis:∀ a,x≤a→a<y→¬ (u≤a∧a<v):=by rcases hp with⟨rfl,rfl,rfl,rfl⟩|⟨rfl,rfl,rfl,rfl⟩<;>intro a _ _<;>omega
 refine⟨h.q_,h.o_,fun j hj=>?_,fun s hs=>?_,fun a j ha hj h1 h2=>?_⟩
 ·rw [cut_len] at hj
  rw [cut_at hi]
  by_cases e:j=i
  ·rw [if_pos e];dsimp only;omega
  ·rw [if_neg e]
   by_cases e2:j=p.l.length
   ·rw [if_pos e2];dsimp only;omega
   ·rw [if_neg e2]
    exact h.l_ j (by omega)
 ·have hb:=h.b_ s hs
  rw [cut_len]
  show(cutP p i u v x y).b s<p.l.length+1∧((cutP p i u v x y).at_ ((cutP p i u v x y).b s)).f≤p.q s∧p.q s<((cutP p i u v x y).at_ ((cutP p i u v x y).b s)).t
  by_cases e:u≤p.q s∧p.q s<v
  ·have e1:(cutP p i u v x y).b s=p.l.length:=if_pos e
   rw [e1,cut_at hi,if_neg (by omega),if_pos rfl]
   exact⟨by omega,e.1,e.2⟩
  ·have e1:(cutP p i u v x y).b s=p.b s:=if_neg e
   rw [e1,cut_at hi]
   by_cases e2:p.b s=i
   ·rw [if_pos e2]
    rw [e2] at hb
    have:=hcov (p.q s) hb.2.1 hb.2.2
    refine⟨by omega,?_,?_⟩<;>dsimp only<;>omega
   ·rw [if_neg e2,if_neg (by omega)]
    exact⟨by omega,hb.2⟩
 ·rw [cut_len] at hj
  rw [cut_at hi] at h1 h2
  have hq:=h.o_ a ha
  show(if u≤p.q (p.o a)∧p.q (p.o a)<v then p.l.length else p.b (p.o a))=j
  rw [hq.2]
  by_cases e:j=i
  ·rw [if_pos e] at h1 h2
   dsimp only at h1 h2
   rw [if_neg (hdis a h1 h2),e]
   exact h.u_ a i ha hi (by omega) (by omega)
  ·rw [if_neg e] at h1 h2
   by_cases e2:j=p.l.length
   ·rw [if_pos e2] at h1 h2
    dsimp only at h1 h2
    rw [if_pos ⟨h1,h2⟩,e2]
   ·rw [if_neg e2] at h1 h2
    have hb:=h.u_ a j ha (by omega) h1 h2
    by_cases e3:u≤a∧a<v
    ·exfalso
     have hb2:=h.u_ a i ha hi (by omega) (by omega)
     omega
    ·rw [if_neg e3]
     exact hb
theorem cut_b (h:PB n p) (hi:i<p.l.length) (hk0:0<(p.at_ i).k) (hk1:(p.at_ i).f+(p.at_ i).k<(p.at_ i).t) (hp:Parts (p.at_ i) u v x y) {s t:Nat} (hs:s<n) (ht:t<n):
  ((cutP p i u v x y).b s=(cutP p i u v x y).b t↔p.b s=p.b t∧(p.b s=i→(p.q s<(p.at_ i).f+(p.at_ i).k↔p.q t<(p.at_ i).f+(p.at_ i).k))):=by
 have hbs:=h.b_ s hs
 have hbt:=h.b_ t ht
 have key:∀ {a},a<n→((u≤p.q a∧p.q a<v)↔p.b a=i∧((u=(p.at_ i).f)=(p.q a<(p.at_ i).f+(p.at_ i).k))):=by
  intro a ha
  have hba:=h.b_ a ha
  have hpi:=@part_in n p i h hi a ha
  by_cases e:p.b a=i
  ·rw [e] at hba
   rcases hp with⟨rfl,rfl,rfl,rfl⟩|⟨rfl,rfl,rfl,rfl⟩
   ·simp [e];omega
   ·have:¬ ((p.at_ i).f+(p.at_ i).k=(p.at_ i).f):=by omega
    simp [e,this];omega
  ·have:¬ (u≤p.q a∧p.q a<v):=fun h5=>e (hpi (by rcases hp with⟨rfl,rfl,rfl,rfl⟩|⟨rfl,rfl,rfl,rfl⟩<;>omega) (by rcases hp with⟨rfl,rfl,rfl,rfl⟩|⟨rfl,rfl,rfl,rfl⟩<;>omega))
   simp [e,this]
 show((if u≤p.q s∧p.q s<v then p.l.length else p.b s)=(if u≤p.q t∧p.q t<v then p.l.length else p.b t))↔_
 have ks:=key hs
 have kt:=key ht
 by_cases es:u≤p.q s∧p.q s<v<;>by_cases et:u≤p.q t∧p.q t<v
 ·rw [if_pos es,if_pos et]
  have a1:=ks.1 es
  have a2:=kt.1 et
  refine⟨fun _=>⟨by rw [a1.1,a2.1],fun _=>?_⟩,fun _=>rfl⟩
  rw [←a1.2,←a2.2]
 ·rw [if_pos es,if_neg et]
  have a1:=ks.1 es
  refine⟨fun e=>by omega,fun e=>?_⟩
  exfalso
  refine et (kt.2 ⟨by rw [←e.1,a1.1],?_⟩)
  rw [a1.2]
  exact propext (e.2 a1.1)
 ·rw [if_neg es,if_pos et]
  have a2:=kt.1 et
  refine⟨fun e=>by omega,fun e=>?_⟩
  exfalso
  refine es (ks.2 ⟨by rw [e.1,a2.1],?_⟩)
  rw [a2.2]
  exact(propext (e.2 (by rw [e.1,a2.1]))).symm
 ·rw [if_neg es,if_neg et]
  refine⟨fun e=>⟨e,fun e2=>?_⟩,fun e=>e.1⟩
  have b1:¬ ((u=(p.at_ i).f)=(p.q s<(p.at_ i).f+(p.at_ i).k)):=fun h5=>es (ks.2 ⟨e2,h5⟩)
  have b2:¬ ((u=(p.at_ i).f)=(p.q t<(p.at_ i).f+(p.at_ i).k)):=fun h5=>et (kt.2 ⟨by rw [←e,e2],h5⟩)
  simp only [eq_iff_iff] at b1 b2
  by_cases c0:u=(p.at_ i).f
  ·have d1:¬ p.q s<(p.at_ i).f+(p.at_ i).k:=fun h5=>b1 ⟨fun _=>h5,fun _=>c0⟩
   have d2:¬ p.q t<(p.at_ i).f+(p.at_ i).k:=fun h5=>b2 ⟨fun _=>h5,fun _=>c0⟩
   exact⟨fun h5=>absurd h5 d1,fun h5=>absurd h5 d2⟩
  ·have d1:p.q s<(p.at_ i).f+(p.at_ i).k:=Classical.byContradiction fun h5=>b1 ⟨fun h6=>absurd h6 c0,fun h6=>absurd h6 h5⟩
   have d2:p.q t<(p.at_ i).f+(p.at_ i).k:=Classical.byContradiction fun h5=>b2 ⟨fun h6=>absurd h6 c0,fun h6=>absurd h6 h5⟩
   exact⟨fun _=>d2,fun _=>d1⟩
end
structure SIB (n:Nat) (p0 p:Ptn) (P:List Nat):Prop where
 pb:PB n p
 o_:p.o=p0.o
 q_:p.q=p0.q
 len:p0.l.length≤p.l.length
 same:∀ j,j<p0.l.length→j ∉P→p.at_ j=p0.at_ j
 zero:∀ j,j<p.l.length→(j∈P∨p0.l.length≤j)→(p.at_ j).k=0
 cls:∀ s t,s<n→t<n→(p.b s=p.b t↔p0.b s=p0.b t∧(p0.b s∈P→(Mk p0 s↔Mk p0 t)))
 new_:∀ s,s<n→p.b s=p0.b s∨p0.l.length≤p.b s
 keep:∀ s,s<n→p0.b s ∉P→p.b s=p0.b s
theorem si_start {n:Nat} {p:Ptn} (h:PB n p):SIB n p p []:=by
 refine⟨h,rfl,rfl,Nat.le_refl _,fun _ _ _=>rfl,fun j hj h2=>?_,fun s t _ _=>⟨fun e=>⟨e,fun h=>by cases h⟩,fun e=>e.1⟩,fun _ _=> .inl rfl,fun _ _ _=>rfl⟩
 rcases h2 with h2|h2
 ·cases h2
 ·omega
theorem split1_c (p:Ptn) (i:Nat):(split1 p i).c=p.c:=by
 unfold split1
 dsimp only
 split
 ·rfl
 ·split<;>rfl
theorem SIB.step {n:Nat} {p0 p:Ptn} {P:List Nat} (h:SIB n p0 p P) (h0:PB n p0) {i:Nat} (hi:i<p0.l.length) (hP:i ∉P) (hk:0<(p0.at_ i).k):SIB n p0 (split1 p i) (P++ [i]):=by
 have hat:=h.same i hi hP
 have him:i<p.l.length:=Nat.lt_of_lt_of_le hi h.len
 have hb:∀ {s},s<n→(p.b s=i↔p0.b s=i):=fun {s} hs=>by
  have h1:=h.new_ s hs
  refine⟨fun e=>?_,fun e=>?_⟩
  ·rcases h1 with h1|h1
   ·rw [←h1];exact e
   ·omega
  ·rw [h.keep s hs (by rw [e];exact hP)];exact e
 have hmk:∀ {s},s<n→p0.b s=i→(p.q s<(p.at_ i).f+(p.at_ i).k↔Mk p0 s):=fun {s} hs e=>by
  unfold Mk
  rw [e,hat,h.q_]
 have hli:=h.pb.l_ i him
 -- what the classes become
 have main:∀ p':Ptn,PB n p'→p'.o=p.o→p'.q=p.q→p.l.length≤p'.l.length→
   (∀ j,j<p.l.length→j≠i→p'.at_ j=p.at_ j)→(∀ j,j<p'.l.length→(j=i∨p.l.length≤j)→(p'.at_ j).k=0)→
   (∀ s t,s<n→t<n→(p'.b s=p'.b t↔p.b s=p.b t∧(p.b s=i→(p.q s<(p.at_ i).f+(p.at_ i).k↔p.q t<(p.at_ i).f+(p.at_ i).k))))→
   (∀ s,s<n→p'.b s=p.b s∨p.l.length≤p'.b s)→(∀ s,s<n→p.b s≠i→p'.b s=p.b s)→SIB n p0 p' (P++ [i]):=by
  intro p' hpb ho hq hlen hsame hzero hcls hnew hkeep
  refine⟨hpb,ho.trans h.o_,hq.trans h.q_,Nat.le_trans h.len hlen,fun j hj hn=>?_,fun j hj h2=>?_,fun s t hs ht=>?_,fun s hs=>?_,fun s hs hn=>?_⟩
  ·have:j ∉P∧j≠i:=by simpa using hn
   rw [hsame j (Nat.lt_of_lt_of_le hj h.len) this.2]
   exact h.same j hj this.1
  ·by_cases e:j=i∨p.l.length≤j
   ·exact hzero j hj e
   ·have e1:j≠i:=fun e2=>e (.inl e2)
    have e2:j<p.l.length:=Nat.lt_of_not_le fun e3=>e (.inr e3)
    rw [hsame j e2 e1]
    refine h.zero j e2 ?_
    rcases h2 with h2|h2
    ·simp at h2
     rcases h2 with h2|h2
     ·exact .inl h2
     ·exact absurd h2 e1
    ·exact .inr h2
  ·rw [hcls s t hs ht,h.cls s t hs ht]
   constructor
   ·rintro⟨⟨a1,a2⟩,a3⟩
    refine⟨a1,fun hm=>?_⟩
    simp at hm
    rcases hm with hm|hm
    ·exact a2 hm
    ·have:=a3 ((hb hs).2 hm)
     rw [hmk hs hm,hmk ht (by rw [←a1];exact hm)] at this
     exact this
   ·rintro⟨a1,a2⟩
    refine⟨⟨a1,fun hm=>a2 (by simp [hm])⟩,fun e=>?_⟩
    have e0:=(hb hs).1 e
    rw [hmk hs e0,hmk ht (by rw [←a1];exact e0)]
    exact a2 (by simp [e0])
  ·have hl:=h.len
   rcases hnew s hs with e|e
   ·rw [e];exact h.new_ s hs
   ·right;omega
  ·have:p0.b s ∉P∧p0.b s≠i:=by simpa using hn
   rw [hkeep s hs (fun e=>this.2 ((hb hs).1 e))]
   exact h.keep s hs this.1
 have hk':0<(p.at_ i).k:=by rw [hat];exact hk
 unfold split1
 dsimp only
 split
 ·rename_i h5
  refine main _ (clear_pb h.pb him) rfl rfl (by rw [clear_len];exact Nat.le_refl _) (fun j hj e=>by rw [clear_at him,if_neg e]) (fun j hj e=>?_) (fun s t hs ht=>?_) (fun s hs=> .inl rfl) (fun s hs _=>rfl)
  ·rw [clear_len] at hj
   rw [clear_at him,if_pos (by omega)]
  ·refine⟨fun e=>⟨e,fun e2=>?_⟩,fun e=>e.1⟩
   have b1:=h.pb.b_ s hs
   have b2:=h.pb.b_ t ht
   have e:p.b s=p.b t:=e
   rw [←e] at b2
   rw [e2] at b1 b2
   constructor<;>intro _<;>omega
 ·rename_i h5
  have hcut:∀ u v x y,Parts (p.at_ i) u v x y→SIB n p0 (cutP p i u v x y) (P++ [i]):=fun u v x y hp=>by
   refine main _ (cut_pb h.pb him hk' (by omega) hp) rfl rfl (by rw [cut_len];omega) (fun j hj e=>by rw [cut_at him,if_neg e,if_neg (by omega)]) (fun j hj e=>?_) (fun s t hs ht=>cut_b h.pb him hk' (by omega) hp hs ht) (fun s hs=>?_) (fun s hs e=>?_)
   ·rw [cut_len] at hj
    rw [cut_at him]
    by_cases e1:j=i
    ·rw [if_pos e1]
    ·rw [if_neg e1,if_pos (by omega)]
   ·show(if _ then _ else _)=_∨_≤(if _ then _ else _)
    by_cases e1:u≤p.q s∧p.q s<v
    ·rw [if_pos e1];exact .inr (Nat.le_refl _)
    ·rw [if_neg e1];exact .inl rfl
   ·show(if _ then _ else _)=_
    rw [if_neg]
    intro e1
    exact e (part_in h.pb him hs (by rcases hp with⟨rfl,rfl,rfl,rfl⟩|⟨rfl,rfl,rfl,rfl⟩<;>omega) (by rcases hp with⟨rfl,rfl,rfl,rfl⟩|⟨rfl,rfl,rfl,rfl⟩<;>omega))
  split
  ·exact hcut _ _ _ _ (.inl ⟨rfl,rfl,rfl,rfl⟩)
  ·exact hcut _ _ _ _ (.inr ⟨rfl,rfl,rfl,rfl⟩)
structure SP (n:Nat) (p0 p:Ptn):Prop where
 pb:PB n p
 tc:p.c= []
 zero:∀ j,j<p.l.length→(p.at_ j).k=0
 len:p0.l.length≤p.l.length
 cls:∀ s t,s<n→t<n→(p.b s=p.b t↔p0.b s=p0.b t∧(Mk p0 s↔Mk p0 t))
 new_:∀ s,s<n→p.b s=p0.b s∨p0.l.length≤p.b s
def noC (p:Ptn):Ptn:=⟨p.o,p.q,p.b,p.l,[]⟩
theorem SIB.done {n:Nat} {p0 p:Ptn} (h:SIB n p0 p p0.c) (h0:PB n p0) (hc:TC p0):SP n p0 (noC p):=by
 refine⟨⟨h.pb.q_,h.pb.o_,h.pb.l_,h.pb.b_,h.pb.u_⟩,rfl,fun j hj=>?_,h.len,fun s t hs ht=>?_,h.new_⟩
 ·by_cases e:j∈p0.c∨p0.l.length≤j
  ·exact h.zero j hj e
  ·have e1:j ∉p0.c:=fun e2=>e (.inl e2)
   have e2:j<p0.l.length:=Nat.lt_of_not_le fun e3=>e (.inr e3)
   show(p.at_ j).k=0
   rw [h.same j e2 e1]
   have:=mt (hc.iff_ j e2).2 e1
   omega
 ·show p.b s=p.b t↔_
  rw [h.cls s t hs ht]
  refine⟨fun e=>⟨e.1,?_⟩,fun e=>⟨e.1,fun _=>e.2⟩⟩
  by_cases hm:p0.b s∈p0.c
  ·exact e.2 hm
  ·have hbs:=h0.b_ s hs
   have hbt:=h0.b_ t ht
   have hz:=mt (hc.iff_ _ hbs.1).2 hm
   unfold Mk
   rw [←e.1] at hbt ⊢
   constructor<;>intro _<;>omega
theorem tc_nil {p:Ptn} (hc:p.c= []) (hz:∀ j,j<p.l.length→(p.at_ j).k=0):TC p:=⟨by rw [hc];exact List.nodup_nil,fun i hi=>by(rw [hc] at hi;cases hi),fun i hi=>by
 rw [hc,hz i hi]
 exact⟨fun h=>(by cases h),fun h=>(by omega)⟩⟩
theorem no_mk {n:Nat} {p:Ptn} (h:PB n p) (hz:∀ j,j<p.l.length→(p.at_ j).k=0) {s:Nat} (hs:s<n):¬ Mk p s:=fun hm=>by
 have hb:=h.b_ s hs
 unfold Mk at hm
 rw [hz _ hb.1] at hm
 omega
open Go.RowKit
def GotMin (A:Aut) (N:Nat) (e:Ending) (w':World):Prop:=∃(m:Nat) (cl:Nat→Nat) (a1:Option Addr) (c1:Nat) (a2:Option Addr) (c2:Nat) (raws:List RawS),Cls A cl∧Stop A cl m∧e= .returned (.tuple #[.agg #[.int .i64 0,.slice a1 m c1,.slice a2 m c2],.int .i64 0])∧Own1 1 encS w' N 69 (.slice a1 m c1) raws∧RowsOk w' raws (outN A cl m)∧(∀ x∈raws,∀ b,(Value.slice x.a x.n x.c).ownBlock=some b→N≤b)∧Own1 1 encO w' N 4 (.slice a2 m c2) (outF A cl m)
def GotNo (x:Int) (e:Ending):Prop:=e= .returned (.tuple #[.agg #[.int .i64 0,.slice none 0 0,.slice none 0 0],.int .i64 x])
def GotM (r:RawD) (w:World) (e:Ending) (w':World):Prop:=((okD r=false∧GotNo 1 e)∨(okD r=true∧GotMin (toA r) w.heap.size e w'))∧Below w.heap.size w w'
open Go.RowKit
structure TwoS (w:World) (base:Nat) (v u:Value) (l m:List Str):Prop where
 one:Own1 1 encT w base 9 v l
 two:Own1 1 encT w base 9 u m
 ap:Apart v u
theorem TwoS.below {w w':World} {base:Nat} {v u:Value} {l m:List Str} (h:TwoS w base v u l m) (hb:Below w.heap.size w w'):TwoS w' base v u l m:=⟨own_below h.one hb,own_below h.two hb,h.ap⟩
open Go.RowKit
theorem flat_setT:∀(m:List Str) (i:Nat) (x:Str),(m.set i x).flatMap encT=(m.flatMap encT).set i (.string (ofL x))
 |[],i,x=>by simp
 |y::m,0,x=>by simp [encT]
 |y::m,i+1,x=>by
  rw [List.set_cons_succ,List.flatMap_cons,List.flatMap_cons,flat_setT m i x]
  simp [encT]
theorem Own1.putT {w:World} {base:Nat} {e:TypeId} {g n cap:Nat} {m:List Str} (h:Own1 1 encT w base e (.slice (some ⟨g,0,none⟩) n cap) m) (i:Nat) (x:Str):
  Own1 1 encT (w.setCell ⟨g,i,none⟩ (.string (ofL x))) base e (.slice (some ⟨g,0,none⟩) n cap) (m.set i x):=by
 have hn:m.length=n:=by obtain⟨a,c,hv⟩:=h.slice;injection hv with h1 h2 h3;exact h2.symm
 have h0:=h.1
 rcases h.2 with⟨hv,_⟩|⟨g',cap',cur,hv,hB,hg,hr⟩
 ·cases hv
 ·injection hv with e1 e2 e3
  injection e1 with e1
  injection e1 with e1
  subst e1 e3
  obtain⟨r1,r2,r3,r4⟩:=hr
  have hb:Blk g e cur w:=hg
  have hb2:=hb.put i (.string (ofL x))
  refine⟨?_,.inr ⟨g,cap,_,by rw [List.length_set,hn],hB,hb2,?_⟩⟩
  ·unfold Own1 World.ownsRow at*
   rw [flat_len encT_len,List.length_set]
  ·rw [List.length_set]
   refine⟨r1,r2,by simpa using r3,?_⟩
   rw [flat_setT,←r4]
   simp [List.take_set,Array.toList_setIfInBounds]
theorem own_set {α:Type} {k:Nat} {enc:α→List Value} {w:World} {base:Nat} {e:TypeId} {v:Value} {l:List α} (h:Own1 k enc w base e v l) {p:Addr} (hp:∀ b,v.ownBlock=some b→b≠p.block) (u:Value):Own1 k enc (w.setCell p u) base e v l:=by
 refine⟨h.1,?_⟩
 rcases h.2 with h0|⟨g,cap,cur,hv,hB,hg,hr⟩
 ·exact .inl h0
 ·exact .inr ⟨g,cap,cur,hv,hB,(Below.heap_setCell w p u g (hp g (by rw [hv];rfl))).trans hg,hr⟩
open Go.RowKit
theorem TwoS.store {w:World} {base g n c n3 c3:Nat} {p3:Option Addr} {S O:List Str} (h:TwoS w base (.slice p3 n3 c3) (.slice (some ⟨g,0,none⟩) n c) S O) (k:Nat) (E:Str):TwoS (w.setCell ⟨g,k,none⟩ (.string (ofL E))) base (.slice p3 n3 c3) (.slice (some ⟨g,0,none⟩) n c) S (O.set k E):=
 ⟨own_set h.one (fun b hb e=>h.ap b hb (by rw [e];rfl)) _,h.two.putT k E,h.ap⟩
structure RoundF (l:List Rel) (n k t:Nat) (O E V VF NB:Str):Prop where
 el:E.length=n
 ok:okE k t=true
 hb:k=0→(pdS 0 n 0).take n=E
 hc:k≠0→pdS t k (n - k)=E
 nb:NB=if n=0 then [48] else [48,46]++E
 vf:vecS l NB false=VF
 vv:V=VF++(if k=0 then [48] else [])
 vl:VF.length≤1000
end Go.Proofs.YtobapaodpcheiaaGreatDoor
