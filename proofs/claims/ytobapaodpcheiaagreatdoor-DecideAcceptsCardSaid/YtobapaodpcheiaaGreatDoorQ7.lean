/- What the row stands on, part 7. -/
import Derived.Test.YtobapaodpcheiaaGreatDoorQ6
namespace Go.Proofs.YtobapaodpcheiaaGreatDoor
set_option linter.unusedVariables false
def fI (l:List Rel) (out:List Str) (s:Str):Nat:=out.findIdx fun o=>decide (vecZ l o=vecZ l s)
def stepF (l:List Rel) (b:Nat) (out:List Str) (s:Str):List Str:=
 if fI l out s<out.length then(if b≤fI l out s∧val s<val (out.getD (fI l out s) []) then out.set (fI l out s) s else out) else out++ [s]
structure FI (l:List Rel) (P:Str→Prop) (n b:Nat) (out:List Str):Prop where
 good:∀ o∈out,allD o∧o.length≤n
 low:∀ i,i<b→(out.getD i []).length<n
 high:∀ i,b≤i→i<out.length→(out.getD i []).length=n
 cov:∀ s,P s→∃ o∈out,vecZ l o=vecZ l s∧o.length≤s.length∧(o.length=s.length→val o≤val s)
 ble:b≤out.length
theorem getD_mem0 {out:List Str} {i:Nat} (h:i<out.length):out.getD i []∈out:=by
 rw [List.getD_eq_getElem?_getD,List.getElem?_eq_getElem h]
 exact List.getElem_mem h
theorem getD_set0 {out:List Str} {i k:Nat} (s:Str) (hk:k<out.length):(out.set k s).getD i []=if i=k then s else out.getD i []:=by
 rw [List.getD_eq_getElem?_getD,List.getElem?_set,List.getD_eq_getElem?_getD]
 by_cases h:k=i
 ·subst h
  rw [if_pos rfl,if_pos rfl,if_pos hk]
  rfl
 ·rw [if_neg h,if_neg (fun e=>h e.symm)]
theorem getD_app0 {out:List Str} {i:Nat} (s:Str):(out++ [s]).getD i []=if i<out.length then out.getD i [] else if i=out.length then s else []:=by
 rw [List.getD_eq_getElem?_getD,List.getD_eq_getElem?_getD]
 by_cases h:i<out.length
 ·rw [if_pos h,List.getElem?_append_left h]
 ·rw [if_neg h,List.getElem?_append_right (by omega)]
  by_cases h2:i=out.length
  ·rw [if_pos h2,h2,Nat.sub_self];rfl
  ·rw [if_neg h2,List.getElem?_eq_none (by simp;omega)];rfl
theorem fI_get {l:List Rel} {out:List Str} {s:Str} (h:fI l out s<out.length):vecZ l (out.getD (fI l out s) [])=vecZ l s:=by
 have:=List.findIdx_getElem (w:=h)
 rw [List.getD_eq_getElem?_getD,List.getElem?_eq_getElem h]
 exact of_decide_eq_true this
theorem mem_set0 {out:List Str} {k:Nat} {s x:Str} (h:x∈out.set k s):x∈out∨x=s:=List.mem_or_eq_of_mem_set h
theorem FI.step {l:List Rel} {P:Str→Prop} {n b:Nat} {out:List Str} (h:FI l P n b out) {s:Str} (hs:allD s) (hn:s.length=n):FI l (fun x=>P x∨x=s) n b (stepF l b out s):=by
 unfold stepF
 split
 ·rename_i hk
  have hc:=fI_get hk
  split
  ·rename_i hb
   have hlen:(out.getD (fI l out s) []).length=n:=h.high _ hb.1 hk
   have hset:s∈out.set (fI l out s) s:=List.mem_iff_getElem.2 ⟨fI l out s,by rw [List.length_set];exact hk,by simp⟩
   refine⟨fun o ho=>?_,fun i hi=>?_,fun i hi hl=>?_,fun x hx=>?_,by rw [List.length_set];exact h.ble⟩
   ·rcases mem_set0 ho with ho|rfl
    ·exact h.good o ho
    ·exact⟨hs,by omega⟩
   ·rw [getD_set0 s hk,if_neg (by omega)]
    exact h.low i hi
   ·rw [getD_set0 s hk]
    split
    ·exact hn
    ·exact h.high i hi (by rw [List.length_set] at hl;exact hl)
   ·rcases hx with hx|rfl
    ·obtain⟨o,h1,h2,h3,h4⟩:=h.cov x hx
     obtain⟨j,hj,rfl⟩:=List.mem_iff_getElem.1 h1
     by_cases hjk:j=fI l out s
     ·have e:out[j]=out.getD (fI l out s) []:=by rw [←hjk,List.getD_eq_getElem?_getD,List.getElem?_eq_getElem hj];rfl
      rw [e] at h2 h3 h4
      refine⟨s,hset,hc.symm.trans h2,by omega,fun e'=>?_⟩
      have:=h4 (by omega)
      omega
     ·exact⟨out[j],List.mem_iff_getElem.2 ⟨j,by rw [List.length_set];exact hj,by rw [List.getElem_set_ne (fun e=>hjk e.symm)]⟩,h2,h3,h4⟩
    ·exact⟨x,hset,rfl,Nat.le_refl _,fun _=>Nat.le_refl _⟩
  ·rename_i hb
   refine⟨h.good,h.low,h.high,fun x hx=>?_,h.ble⟩
   rcases hx with hx|rfl
   ·exact h.cov x hx
   ·have hm:=getD_mem0 hk
    refine⟨_,hm,hc,by have:=(h.good _ hm).2;omega,fun e=>?_⟩
    rcases Nat.lt_or_ge (fI l out x) b with k|k
    ·have:=h.low _ k;omega
    ·have:¬ val x<val (out.getD (fI l out x) []):=fun e2=>hb ⟨k,e2⟩
     omega
 ·refine⟨fun o ho=>?_,fun i hi=>?_,fun i hi hl=>?_,fun x hx=>?_,by rw [List.length_append];have:=h.ble;omega⟩
  ·rcases List.mem_append.1 ho with ho|ho
   ·exact h.good o ho
   ·obtain rfl:=List.mem_singleton.1 ho
    exact⟨hs,by omega⟩
  ·rw [getD_app0,if_pos (Nat.lt_of_lt_of_le hi h.ble)]
   exact h.low i hi
  ·rw [getD_app0]
   split
   ·rename_i h1;exact h.high i hi h1
   ·rw [if_pos (by rw [List.length_append,List.length_singleton] at hl;omega)]
    exact hn
  ·rcases hx with hx|rfl
   ·obtain⟨o,h1,h2⟩:=h.cov x hx
    exact⟨o,List.mem_append_left _ h1,h2⟩
   ·exact⟨x,by simp,rfl,Nat.le_refl _,fun _=>Nat.le_refl _⟩
theorem FI.fold {l:List Rel} {n b:Nat}:∀ {E:List Str} {P:Str→Prop} {out:List Str},FI l P n b out→(∀ s∈E,allD s∧s.length=n)→FI l (fun x=>P x∨x∈E) n b (E.foldl (stepF l b) out)
 |[],P,out,h,_=>⟨h.good,h.low,h.high,fun s hs=>h.cov s (by rcases hs with hs|hs;exact hs;cases hs),h.ble⟩
 |s::E,P,out,h,hE=>by
  have h1:=h.step (hE s (by simp)).1 (hE s (by simp)).2
  have h2:=FI.fold (E:=E) h1 (fun x hx=>hE x (by simp [hx]))
  exact⟨h2.good,h2.low,h2.high,fun x hx=>h2.cov x (by
   rcases hx with hx|hx
   ·exact .inl (.inl hx)
   ·rcases List.mem_cons.1 hx with rfl|hx
    ·exact .inl (.inr rfl)
    ·exact .inr hx),h2.ble⟩
def frs (l:List Rel):Nat→List Str
 |0=>[]
 |n+1=>(enF n (n+1)).foldl (stepF l (frs l n).length) (frs l n)
theorem enF_good {n:Nat} {s:Str} (h:s∈enF n (n+1)):allD s∧s.length=n:=by
 obtain⟨w,t,hw,ht,ho,rfl⟩:=enF_of h
 exact⟨strE_good (by omega),strE_len ho (by omega)⟩
theorem frs_ok (l:List Rel):∀ n,FI l (fun s=>∃ m,m<n∧s∈enF m (m+1)) n (frs l n).length (frs l n)
 |0=>⟨fun o ho=>(by cases ho),fun i hi=>(by cases hi),fun i _ hl=>(by cases hl),fun s hs=>(by obtain⟨m,hm,_⟩:=hs;omega),Nat.le_refl _⟩
 |n+1=>by
  have h0:=frs_ok l n
  have h1:FI l (fun s=>∃ m,m<n∧s∈enF m (m+1)) n (frs l n).length (frs l n):=h0
  have h2:=h1.fold (fun s hs=>enF_good hs)
  have e:(enF n (n+1)).foldl (stepF l (frs l n).length) (frs l n)=frs l (n+1):=rfl
  rw [e] at h2
  refine⟨fun o ho=>⟨(h2.good o ho).1,by have:=(h2.good o ho).2;omega⟩,fun i hi=>?_,fun i hi hl=>by omega,fun s hs=>?_,Nat.le_refl _⟩
  ·have:=(h2.good _ (getD_mem0 hi)).2
   omega
  ·obtain⟨m,hm,hs⟩:=hs
   refine h2.cov s ?_
   rcases Nat.lt_or_ge m n with k|k
   ·exact .inl ⟨m,k,hs⟩
   ·obtain rfl:m=n:=by omega
    exact .inr hs
theorem fracts_has {l:List Rel} (h:∀ r∈l,OkR r) {fr:Str} (hf:allD fr) (h6:fr.length≤6):∃ o∈frs l 7,vecZ l o=vecZ l fr∧o.length≤fr.length∧(o.length=fr.length→val o≤val fr):=by
 obtain⟨w,t,hw,ht,ho,hv,hle⟩:=fract_has h hf
 have hl:=strE_len ho hw
 obtain⟨o,h1,h2,h3,h4⟩:=(frs_ok l 7).cov _ ⟨fr.length,by omega,enF_mem (by omega) ht ho⟩
 rw [hl] at h3 h4
 exact⟨o,h1,h2.trans hv,h3,fun e=>Nat.le_trans (h4 e) hle⟩
theorem frs_good {l:List Rel} {n:Nat} {o:Str} (h:o∈frs l n):allD o∧o.length<n:=by
 have h0:=frs_ok l n
 obtain⟨i,hi,e⟩:=List.mem_iff_getElem.1 h
 have h1:=h0.low i hi
 rw [List.getD_eq_getElem?_getD,List.getElem?_eq_getElem hi,e] at h1
 exact⟨(h0.good _ h).1,h1⟩
theorem fracts_good {l:List Rel} {o:Str} (h:o∈frs l 7):allD o∧o.length≤6:=by
 have:=frs_good h
 exact⟨this.1,by omega⟩
instance decLexW:∀ v w:List Nat,Decidable (lexW v w)
 |a::v,b::w=>by
  have:=decLexW v w
  exact inferInstanceAs (Decidable (a<b∨(a=b∧lexW v w)))
 |[],_=> .isFalse (fun h=>by cases h)
 |_::_,[]=> .isFalse (fun h=>by cases h)
instance decBef (v w:List Nat):Decidable (bef v w):=inferInstanceAs (Decidable (v.length<w.length∨(v.length=w.length∧lexW v w)))
def befB (s t:Str):Bool:=decide (bef (wd0 s) (wd0 t))
theorem befB_iff {s t:Str}:befB s t=true↔befS s t:=by unfold befB befS;exact decide_eq_true_iff
def stepB (p:Str→Bool) (best:Option Str) (s:Str):Option Str:=if p s=true∧(∀ b,best=some b→befB s b=true) then some s else best
def bestOf (p:Str→Bool) (cs:List Str):Option Str:=cs.foldl (stepB p) none
structure BestI (p:Str→Bool) (cs:List Str) (o:Option Str):Prop where
 no:o=none→∀ s∈cs,p s=false
 yes:∀ b,o=some b→b∈cs∧p b=true∧∀ s∈cs,p s=true→¬ befS s b
theorem BestI.step {p:Str→Bool} {cs:List Str} {o:Option Str} (h:BestI p cs o) (s:Str):BestI p (cs++ [s]) (stepB p o s):=by
 unfold stepB
 split
 ·rename_i hp
  refine⟨fun e=>(by cases e),fun b e=>?_⟩
  injection e with e
  subst e
  refine⟨by simp,hp.1,fun x hx hpx=>?_⟩
  rcases List.mem_append.1 hx with hx|hx
  ·cases o with
   |none=>rw [h.no rfl x hx] at hpx;cases hpx
   |some b=>
    have h1:=befB_iff.1 (hp.2 b rfl)
    obtain⟨_,_,h2⟩:=h.yes b rfl
    exact fun k=>h2 x hx hpx (bef_trans k h1)
  ·obtain rfl:=List.mem_singleton.1 hx
   exact bef_irr _
 ·rename_i hp
  refine⟨fun e x hx=>?_,fun b e=>?_⟩
  ·rcases List.mem_append.1 hx with hx|hx
   ·exact h.no e x hx
   ·obtain rfl:=List.mem_singleton.1 hx
    cases hq:p x with
    |false=>rfl
    |true=>exact absurd ⟨hq,fun b e2=>by rw [e] at e2;cases e2⟩ hp
  ·obtain⟨h1,h2,h3⟩:=h.yes b e
   refine⟨List.mem_append_left _ h1,h2,fun x hx hpx=>?_⟩
   rcases List.mem_append.1 hx with hx|hx
   ·exact h3 x hx hpx
   ·obtain rfl:=List.mem_singleton.1 hx
    intro k
    refine hp ⟨hpx,fun b' e2=>?_⟩
    rw [e] at e2
    injection e2 with e2
    rw [←e2]
    exact befB_iff.2 k
theorem best_ok (p:Str→Bool):∀ cs:List Str,BestI p cs (bestOf p cs):=fun cs=>by
 unfold bestOf
 have:∀(E:List Str) (cs:List Str) (o:Option Str),BestI p cs o→BestI p (cs++E) (E.foldl (stepB p) o):=by
  intro E
  induction E with
  |nil=>intro cs o h;rw [List.append_nil];exact h
  |cons s E ih=>
   intro cs o h
   have h1:=ih _ _ (h.step s)
   rw [List.append_assoc] at h1
   exact h1
 exact this cs [] none ⟨fun _ s hs=>(by cases hs),fun b e=>(by cases e)⟩
def isU (s:Str):Prop:=∃ x,Good x∧x.neg=false∧txt x=s
def FirstN (p:Str→Bool) (s:Str):Prop:=isU s∧p s=true∧∀ t,isU t→p t=true→¬ befS t s
def NoneN (p:Str→Bool):Prop:=∀ t,isU t→p t=false
theorem txt_tx0 {x:Num} (h:x.neg=false):txt x=tx0 x.wh x.fr:=by
 unfold txt tx0
 rw [h]
 rfl
def isDP (c:UInt8):Prop:=isD c=true∨c=46
theorem isU_dp {s:Str} (h:isU s):∀ c∈s,isDP c:=by
 obtain⟨x,g,hn,rfl⟩:=h
 rw [txt_tx0 hn]
 intro c hc
 unfold tx0 at hc
 rcases List.mem_append.1 hc with hc|hc
 ·exact .inl (g.dw c hc)
 ·split at hc
  ·cases hc
  ·rcases List.mem_cons.1 hc with rfl|hc
   ·exact .inr rfl
   ·exact .inl (g.df c hc)
theorem sy0_inj {c d:UInt8} (hc:isDP c) (hd:isDP d) (h:sy0 c=sy0 d):c=d:=by
 rcases hc with hc|rfl<;>rcases hd with hd|rfl
 ·rw [sy0_digit hc,sy0_digit hd] at h
  exact dg_inj hc hd h
 ·rw [sy0_digit hc] at h
  have:=dg_le hc
  have:sy0 46=10:=rfl
  omega
 ·rw [sy0_digit hd] at h
  have:=dg_le hd
  have:sy0 46=10:=rfl
  omega
 ·rfl
theorem wd0_inj:∀ {s t:Str},(∀ c∈s,isDP c)→(∀ c∈t,isDP c)→wd0 s=wd0 t→s=t
 |[],[],_,_,_=>rfl
 |[],_::_,_,_,h=>by cases h
 |_::_,[],_,_,h=>by cases h
 |c::s,d::t,hs,ht,h=>by
  have h:sy0 c::wd0 s=sy0 d::wd0 t:=h
  injection h with h1 h2
  rw [sy0_inj (hs c (by simp)) (ht d (by simp)) h1,wd0_inj (fun x hx=>hs x (by simp [hx])) (fun x hx=>ht x (by simp [hx])) h2]
theorem FirstN.uniq {p:Str→Bool} {s t:Str} (h:FirstN p s) (k:FirstN p t):s=t:=by
 rcases bef_total (wd0 s) (wd0 t) with e|e|e
 ·exact absurd e (k.2.2 s h.1 h.2.1)
 ·exact wd0_inj (isU_dp h.1) (isU_dp k.1) e
 ·exact absurd e (h.2.2 t k.1 k.2.1)
theorem FirstN.not_none {p:Str→Bool} {s:Str} (h:FirstN p s) (k:NoneN p):False:=by
 have:=k s h.1
 rw [h.2.1] at this
 cases this
def cands (l:List Rel):List Str:=(ws l 401).flatMap fun a=>(frs l 7).map fun b=>tx0 (dtx a) b
theorem cands_good {l:List Rel} {s:Str} (h:s∈cands l):isU s:=by
 obtain⟨a,ha,h⟩:=List.mem_flatMap.1 h
 obtain⟨b,hb,rfl⟩:=List.mem_map.1 h
 have h1:=ws_lt ha
 have hd:=dtx_good (show a<1000 by omega)
 have hl:=dtx_len a
 have hf:=fracts_good hb
 exact⟨⟨false,dtx a,b⟩,⟨hd.1,hf.1,hl.1,by show(dtx a).length≤15;omega,hd.2.2,hf.2,fun e=>by cases e⟩,rfl,txt_tx0 rfl⟩
def ByCls (l:List Rel) (p:Str→Bool):Prop:=∀ x y:Num,Good x→Good y→vecW l (val x.wh)=vecW l (val y.wh)→vecZ l x.fr=vecZ l y.fr→p (txt x)=p (txt y)
theorem cands_has {l:List Rel} (h:∀ r∈l,OkR r) {p:Str→Bool} (hp:ByCls l p) {t:Str} (ht:isU t) (hpt:p t=true):∃ s∈cands l,p s=true∧¬ befS t s:=by
 obtain⟨x,g,hn,rfl⟩:=ht
 obtain⟨a,h1,h2,h3⟩:=wholes_has h (val x.wh)
 obtain⟨b,h4,h5,h6,h7⟩:=fracts_has h g.df g.few
 have ha:=ws_lt h1
 have hd:=dtx_good (show a<1000 by omega)
 have hl:=dtx_len a
 have hf:=fracts_good h4
 have gy:Good ⟨false,dtx a,b⟩:=⟨hd.1,hf.1,hl.1,by show(dtx a).length≤15;omega,hd.2.2,hf.2,fun e=>by cases e⟩
 refine⟨tx0 (dtx a) b,List.mem_flatMap.2 ⟨a,h1,List.mem_map.2 ⟨b,h4,rfl⟩⟩,?_,?_⟩
 ·have:=hp ⟨false,dtx a,b⟩ x gy g (by rw [←h3];show vecW l (val (dtx a))=_;rw [hd.2.1]) h5
  rw [txt_tx0 rfl] at this
  rw [←hpt]
  exact this
 ·rw [txt_tx0 hn]
  have hwl:(dtx a).length≤x.wh.length:=dtx_len_le (by omega) (Nat.lt_of_le_of_lt h2 (val_lt g.dw)) g.low
  exact num_order hd.1 hf.1 g.dw g.df hwl h6 (fun _=>by rw [hd.2.1];exact h2) h7
theorem first_none {l:List Rel} (h:∀ r∈l,OkR r) {p:Str→Bool} (hp:ByCls l p) (hn:bestOf p (cands l)=none):NoneN p:=fun t ht=>by
 cases hq:p t with
 |false=>rfl
 |true=>
  obtain⟨s,h1,h2,_⟩:=cands_has h hp ht hq
  rw [(best_ok p (cands l)).no hn s h1] at h2
  cases h2
theorem first_some {l:List Rel} (h:∀ r∈l,OkR r) {p:Str→Bool} (hp:ByCls l p) {b:Str} (hb:bestOf p (cands l)=some b):FirstN p b:=by
 obtain⟨h1,h2,h3⟩:=(best_ok p (cands l)).yes b hb
 refine⟨cands_good h1,h2,fun t ht hpt k=>?_⟩
 obtain⟨s,h4,h5,h6⟩:=cands_has h hp ht hpt
 have h7:=h3 s h4 h5
 rcases bef_total (wd0 t) (wd0 s) with e|e|e
 ·exact h6 e
 ·exact h7 (by unfold befS;rw [←e];exact k)
 ·exact h7 (bef_trans e k)
def cntH (l:List Cnd) (s:Str):Nat:=(l.filter fun c=>hldC s c).length
def prS (k:Nat) (n:Nat):Bool:=if k=0 then decide (0<n) else if k=1 then decide (n=0) else if k=2 then decide (n=2) else decide (n=1)
def pS (l:List Cnd) (k:Nat) (s:Str):Bool:=prS k (cntH l s)
def relsC (l:List Cnd):List Rel:=l.flatMap fun c=>c.flatMap id
theorem mem_relsC {l:List Cnd} {c:Cnd} (hc:c∈l) {k:List Rel} (hk:k∈c) {r:Rel} (hr:r∈k):r∈relsC l:=
 List.mem_flatMap.2 ⟨c,hc,List.mem_flatMap.2 ⟨k,hk,hr⟩⟩
theorem relsC_ok {l:List Cnd} (h:∀ c∈l,okC c=true):∀ r∈relsC l,OkR r:=fun r hr=>by
 obtain⟨c,hc,hr⟩:=List.mem_flatMap.1 hr
 obtain⟨k,hk,hr⟩:=List.mem_flatMap.1 hr
 exact okR_iff.1 ((okL_iff.1 ((okC_iff.1 (h c hc)).2.1 k hk)).2 r hr)
theorem filter_congr {α:Type} {f g:α→Bool}:∀ {l:List α},(∀ x∈l,f x=g x)→l.filter f=l.filter g
 |[],_=>rfl
 |a::l,h=>by rw [List.filter_cons,List.filter_cons,h a (by simp),filter_congr (fun x hx=>h x (by simp [hx]))]
theorem cntH_class {l:List Cnd} {x y:Num} (gx:Good x) (gy:Good y) (hw:vecW (relsC l) (val x.wh)=vecW (relsC l) (val y.wh)) (hf:vecZ (relsC l) x.fr=vecZ (relsC l) y.fr):cntH l (txt x)=cntH l (txt y):=by
 unfold cntH
 rw [filter_congr (fun c hc=>hldC_class (l:=relsC l) (fun k hk r hr=>mem_relsC hc hk hr) gx gy hw hf)]
theorem pS_cls (l:List Cnd) (k:Nat):ByCls (relsC l) (pS l k):=fun x y gx gy hw hf=>by
 unfold pS
 rw [cntH_class gx gy hw hf]
def firstR (l:List Cnd) (k:Nat):Option Str:=bestOf (pS l k) (cands (relsC l))
theorem firstR_none {l:List Cnd} (h:∀ c∈l,okC c=true) {k:Nat} (hn:firstR l k=none):NoneN (pS l k):=first_none (relsC_ok h) (pS_cls l k) hn
theorem firstR_some {l:List Cnd} (h:∀ c∈l,okC c=true) {k:Nat} {b:Str} (hb:firstR l k=some b):FirstN (pS l k) b:=first_some (relsC_ok h) (pS_cls l k) hb
theorem firstR_eq {l:List Cnd} (h:∀ c∈l,okC c=true) {k:Nat} {b:Str} (hb:FirstN (pS l k) b):firstR l k=some b:=by
 cases hf:firstR l k with
 |none=>exact(hb.not_none (firstR_none h hf)).elim
 |some c=>rw [hb.uniq (firstR_some h hf)]
theorem firstR_eq_none {l:List Cnd} (h:∀ c∈l,okC c=true) {k:Nat} (hb:NoneN (pS l k)):firstR l k=none:=by
 cases hf:firstR l k with
 |none=>rfl
 |some c=>exact((firstR_some h hf).not_none hb).elim
theorem isU_spl {s:Str} (h:isU s):(spl s).isSome=true:=by
 obtain⟨x,g,_,rfl⟩:=h
 rw [spl_of g]
 rfl
theorem isU_len {s:Str} (h:isU s):s.length≤22∧1≤s.length:=by
 obtain⟨x,g,hn,rfl⟩:=h
 rw [txt_tx0 hn,tx0_len]
 have:=g.low
 have:=g.high
 have:=g.few
 split<;>omega
theorem isU_iff {s:Str}:isU s↔(spl s).isSome=true∧s.head?≠some 45:=by
 constructor
 ·intro h
  refine⟨isU_spl h,fun e=>?_⟩
  cases s with
  |nil=>cases e
  |cons c s=>
   injection e with e
   rcases isU_dp h c (by simp) with k|k
   ·rw [e] at k;revert k;decide
   ·rw [e] at k;cases k
 ·rintro⟨h,k⟩
  obtain⟨x,hx⟩:=Option.isSome_iff_exists.1 h
  obtain⟨g,ht⟩:=spl_some hx
  refine⟨x,g,?_,ht⟩
  cases hn:x.neg with
  |false=>rfl
  |true=>
   exfalso
   apply k
   rw [←ht,txt_eq,hn]
   rfl
def redO (B m n:Nat):Nat:=if n<B then n else B+(n - B) % m
theorem redO_lt {B m:Nat} (hm:0<m) (n:Nat):redO B m n<B+m:=by
 unfold redO
 split
 ·omega
 ·have:=Nat.mod_lt (n - B) hm;omega
theorem redO_zero (B m:Nat):redO B m 0=0:=by
 unfold redO
 split
 ·rfl
 ·obtain rfl:B=0:=by omega
  simp
theorem wT_red {r:Rel} {B m:Nat} (h0:r.md=0→∀ s∈r.sp,s.2<(B:Int)) (h1:r.md≠0→∃ k:Nat,0<k∧r.md=(k:Int)∧k ∣m) (n:Nat):wT r (redO B m n)=wT r n:=by
 by_cases h:n<B
 ·unfold redO
  rw [if_pos h]
 ·have e0:redO B m n=B+(n - B) % m:=by unfold redO;rw [if_neg h]
  rw [e0]
  unfold wT
  by_cases hz:r.md=0
  ·rw [hz]
   unfold rem
   rw [if_pos rfl,if_pos rfl]
   have hin:∀ k:Int,(B:Int)≤k→inside r.sp k=false:=fun k hk=>by
    unfold inside
    rw [List.any_eq_false]
    intro s hs
    have:=h0 hz s hs
    simp
    intro _
    omega
   rw [hin _ (by omega),hin _ (by omega)]
  ·obtain⟨k,hk,hmd,hd⟩:=h1 hz
   rw [hmd,rem_nat _ _ hk,rem_nat _ _ hk]
   have e:n=(B+(n - B) % m)+m*((n - B) / m):=by
    have:=Nat.div_add_mod (n - B) m
    omega
   obtain⟨j,hj⟩:=hd
   have:n % k=(B+(n - B) % m) % k:=by
    conv=>lhs;rw [e]
    rw [hj,Nat.mul_assoc,Nat.add_mul_mod_self_left]
   rw [this]
def mostR (r:Rel):Nat:=r.sp.foldl (fun n s=>max n s.2.toNat) 0
theorem foldl_max_ge:∀(l:List (Int × Int)) (n:Nat),n≤l.foldl (fun n s=>max n s.2.toNat) n∧∀ s∈l,s.2.toNat≤l.foldl (fun n s=>max n s.2.toNat) n
 |[],n=>⟨Nat.le_refl _,fun s h=>by cases h⟩
 |a::l,n=>by
  obtain⟨h1,h2⟩:=foldl_max_ge l (max n a.2.toNat)
  rw [List.foldl_cons]
  refine⟨by omega,fun s hs=>?_⟩
  rcases List.mem_cons.1 hs with rfl|hs
  ·omega
  ·exact h2 s hs
theorem foldl_max_le {m:Nat}:∀(l:List (Int × Int)) (n:Nat),n≤m→(∀ s∈l,s.2.toNat≤m)→l.foldl (fun n s=>max n s.2.toNat) n≤m
 |[],n,h,_=>h
 |a::l,n,h,hl=>by
  rw [List.foldl_cons]
  exact foldl_max_le l _ (by have:=hl a (by simp);omega) (fun s hs=>hl s (by simp [hs]))
theorem mostR_ge {r:Rel}:∀ s∈r.sp,s.2.toNat≤mostR r:=(foldl_max_ge r.sp 0).2
theorem mostR_le {r:Rel} (h:OkR r):mostR r≤100:=foldl_max_le r.sp 0 (by omega) (fun s hs=>by have:=okSp_le (h.sp s hs);omega)
def redF (a b:Int) (p:Nat × Nat) (r:Rel):Nat × Nat:=
 if r.op≠a∧r.op≠b then p else if r.md=0 then(max p.1 (mostR r+1),p.2) else(p.1,p.2 / Nat.gcd p.2 r.md.toNat*r.md.toNat)
def redL (l:List Rel) (a b:Int):Nat × Nat:=l.foldl (redF a b) (0,1)
structure RedOk (P:Rel→Prop) (a b:Int) (p:Nat × Nat):Prop where
 B:p.1≤101
 pos:0<p.2
 m:p.2 ∣300
 zero_:∀ r,P r→r.op=a∨r.op=b→r.md=0→∀ s∈r.sp,s.2<(p.1:Int)
 div:∀ r,P r→r.op=a∨r.op=b→r.md≠0→∃ k:Nat,0<k∧r.md=(k:Int)∧k ∣p.2
theorem div_lcm (m n:Nat):m / Nat.gcd m n*n=Nat.lcm m n:=by
 rw [Nat.lcm,Nat.div_mul_right_comm (Nat.gcd_dvd_left m n)]
theorem RedOk.step {P:Rel→Prop} {a b:Int} {p:Nat × Nat} (h:RedOk P a b p) {r:Rel} (hr:OkR r):RedOk (fun x=>P x∨x=r) a b (redF a b p r):=by
 unfold redF
 split
 ·rename_i hn
  refine⟨h.B,h.pos,h.m,fun x hx ho=>?_,fun x hx ho=>?_⟩
  ·rcases hx with hx|rfl
   ·exact h.zero_ x hx ho
   ·rcases ho with e|e
    ·exact absurd e hn.1
    ·exact absurd e hn.2
  ·rcases hx with hx|rfl
   ·exact h.div x hx ho
   ·rcases ho with e|e
    ·exact absurd e hn.1
    ·exact absurd e hn.2
 ·split
  ·rename_i hz
   have hle:=mostR_le hr
   have hB:=h.B
   refine⟨by dsimp only;omega,h.pos,h.m,fun x hx ho hm s hs=>?_,fun x hx ho hm=>?_⟩
   ·dsimp only
    rcases hx with hx|rfl
    ·have:=h.zero_ x hx ho hm s hs
     omega
    ·have:=mostR_ge s hs
     omega
   ·rcases hx with hx|rfl
    ·exact h.div x hx ho hm
    ·exact absurd hz hm
  ·rename_i hz
   rcases okMod_div hr.md with h0|⟨k,hk,hmd,hd⟩
   ·exact absurd h0 hz
   have ek:r.md.toNat=k:=by rw [hmd];rfl
   rw [ek,div_lcm]
   refine⟨h.B,Nat.lcm_pos h.pos hk,Nat.lcm_dvd h.m hd,fun x hx ho hm s hs=>?_,fun x hx ho hm=>?_⟩
   ·rcases hx with hx|rfl
    ·exact h.zero_ x hx ho hm s hs
    ·exact absurd hm hz
   ·rcases hx with hx|rfl
    ·obtain⟨j,h1,h2,h3⟩:=h.div x hx ho hm
     exact⟨j,h1,h2,Nat.dvd_trans h3 (Nat.dvd_lcm_left _ _)⟩
    ·exact⟨k,hk,hmd,Nat.dvd_lcm_right _ _⟩
theorem RedOk.fold {a b:Int}:∀ {l:List Rel} {P:Rel→Prop} {p:Nat × Nat},RedOk P a b p→(∀ r∈l,OkR r)→RedOk (fun x=>P x∨x∈l) a b (l.foldl (redF a b) p)
 |[],P,p,h,_=>⟨h.B,h.pos,h.m,fun x hx=>h.zero_ x (by rcases hx with hx|hx;exact hx;cases hx),fun x hx=>h.div x (by rcases hx with hx|hx;exact hx;cases hx)⟩
 |r::l,P,p,h,hl=>by
  have h1:=RedOk.fold (l:=l) (h.step (hl r (by simp))) (fun x hx=>hl x (by simp [hx]))
  have hm:∀ x,P x∨x∈r::l→(P x∨x=r)∨x∈l:=fun x hx=>by
   rcases hx with hx|hx
   ·exact .inl (.inl hx)
   ·rcases List.mem_cons.1 hx with rfl|hx
    ·exact .inl (.inr rfl)
    ·exact .inr hx
  exact⟨h1.B,h1.pos,h1.m,fun x hx=>h1.zero_ x (hm x hx),fun x hx=>h1.div x (hm x hx)⟩
theorem redL_ok {l:List Rel} (h:∀ r∈l,OkR r) (a b:Int):RedOk (fun x=>x∈l) a b (redL l a b):=by
 have h0:RedOk (fun _=>False) a b (0,1):=⟨by dsimp only;omega,by dsimp only;omega,by dsimp only;decide,fun r hr=>hr.elim,fun r hr=>hr.elim⟩
 have h1:=h0.fold (l:=l) h
 exact⟨h1.B,h1.pos,h1.m,fun x hx=>h1.zero_ x (.inr hx),fun x hx=>h1.div x (.inr hx)⟩
structure St where
 ph:Nat
 wh:Nat
 tr:List Bool
 sm:Bool
 v:Nat
 w:Nat
 f:Nat
 t:Nat
deriving DecidableEq
def chrD (c:Nat):UInt8:=UInt8.ofNat (48+c)
theorem chrD_ok {c:Nat} (h:c<10):isD (chrD c)=true∧dg (chrD c)=c:=⟨(dg_of h).2,(dg_of h).1⟩
def Bad (w:List Nat):Prop:=2≤w.count 10∨w.head? =some 10
theorem Bad.snoc {w:List Nat} (h:Bad w) (c:Nat):Bad (w++ [c]):=by
 rcases h with h|h
 ·exact .inl (by rw [List.count_append];omega)
 ·cases w with
  |nil=>cases h
  |cons a w=>exact .inr h
theorem wd0_snoc {s:Str} {c:Nat} (hc:c<10):wd0 (s++ [chrD c])=wd0 s++ [c]:=by
 unfold wd0
 rw [List.map_append,List.map_cons,List.map_nil,sy0_digit (chrD_ok hc).1,(chrD_ok hc).2]
theorem allD_snoc {s:Str} (h:allD s) {c:Nat} (hc:c<10):allD (s++ [chrD c]):=allD_app.2 ⟨h,allD_cons.2 ⟨(chrD_ok hc).1,allD_nil⟩⟩
def st0:St:=⟨0,0,[],false,0,0,0,0⟩
theorem val_chr {s:Str} {c:Nat} (hc:c<10):val (s++ [chrD c])=10*val s+c:=by
 rw [val_snoc,(chrD_ok hc).2]
 omega
theorem trim_snoc {s:Str} (h:allD s) {c:Nat} (hc:c<10):trim (s++ [chrD c])=if c=0 then trim s else s++ [chrD c]:=by
 split
 ·rename_i h0
  subst h0
  exact trim_app_zs s 1
 ·rename_i h0
  refine trim_full (allD_snoc h hc) (fun _=>?_)
  rw [val_chr hc]
  omega
theorem zero_snoc {s:Str} {c:Nat} (hc:c<10):zero (s++ [chrD c])=(zero s&&decide (c=0)):=by
 rw [zero_app]
 congr 1
 by_cases h:c=0
 ·subst h;rfl
 ·rw [decide_eq_false h]
  unfold zero
  rw [List.all_cons,List.all_nil,Bool.and_true,beq_eq_false_iff_ne]
  intro e
  have:=(chrD_ok hc).2
  rw [e,dg_48] at this
  omega
end Go.Proofs.YtobapaodpcheiaaGreatDoor
