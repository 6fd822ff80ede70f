/- What the row stands on, part 15. -/
import Derived.Test.YtobapaodpcheiaaGreatDoorQ14
namespace Go.Proofs.YtobapaodpcheiaaGreatDoor
set_option linter.unusedVariables false
def wrongR:Rg:=⟨4,0,0,0,false⟩
section
variable {l:List Rel} (hok:∀ r∈l,OkR r) (h6:l.length≤60)
theorem step_wrong {p q s:Nat × Nat} (c:Nat):nxR l p q s wrongR c=wrongR:=by
 unfold nxR wrongR
 rw [if_neg (by rintro⟨_,h⟩;cases h),if_pos (.inr rfl)]
theorem step_point0 {p q s:Nat × Nat}:nxR l p q s (stRg l 0) 10=wrongR:=by
 unfold nxR
 rw [if_neg (by rintro⟨_,h⟩;cases h),if_pos (.inl rfl)]
 rfl
include hok h6 in
theorem step_pointW {p q s:Nat × Nat} (hq:q=redL l 3 4) (hs:s=redL l 5 6) (n:Nat):nxR l p q s (rgW l n) 10=rgF l (trW n) []:=by
 have h:=run_frac hok h6 (p:=p) hq hs (f0:=trW n) (fun r hr h=>by unfold trW;rw [if_neg (by omega)]) 0 [] rfl allD_nil
 rw [←h]
 show nxR l p q s (rgW l n) 10=⟨2,bitsF (trW n) l,0,0,true⟩
 unfold nxR
 rw [if_pos ⟨rfl,rfl⟩]
 rfl
theorem step_pointF {p q s:Nat × Nat} (f0:Rel→Bool) (es:Str):nxR l p q s (rgF l f0 es) 10=wrongR:=by
 unfold nxR
 rw [if_neg (by
  rintro⟨_,h⟩
  unfold rgF at h
  dsimp only at h
  split at h<;>cases h),if_pos (.inl rfl)]
 rfl
def RchR (l:List Rel) (x:Rg):Prop:=x=stRg l 0∨(∃ n,x=rgW l n)∨(∃ n es,allD es∧x=rgF l (trW n) es)∨x=wrongR
include hok h6 in
theorem reach11 {p q s:Nat × Nat} (hp:p=redL l 1 2) (hq:q=redL l 3 4) (hs:s=redL l 5 6):∀(k:Nat) (u:List Nat),u.length=k→(∀ c∈u,c<11)→RchR l (runR (nxR l p q s) (stRg l 0) u)
 |0,u,hl,_=>by
  obtain rfl:=List.length_eq_zero_iff.1 hl
  exact .inl rfl
 |k+1,u,hl,hu=>by
  have hne:u≠ []:=by intro e;rw [e] at hl;simp at hl
  obtain⟨a,c,rfl⟩:∃ a c,u=a++ [c]:=⟨u.dropLast,u.getLast hne,(List.dropLast_concat_getLast hne).symm⟩
  have hc:c<11:=hu c (by simp)
  rw [runR_snoc]
  rcases reach11 hp hq hs k a (by simpa using hl) (fun x hx=>hu x (by simp [hx])) with h|⟨n,h⟩|⟨n,es,he,h⟩|h
  ·rw [h]
   by_cases h10:c=10
   ·subst h10;exact .inr (.inr (.inr step_point0))
   ·exact .inr (.inl ⟨c,step_first hok h6 hp (by omega)⟩)
  ·rw [h]
   by_cases h10:c=10
   ·subst h10;exact .inr (.inr (.inl ⟨n,[],allD_nil,step_pointW hok h6 hq hs n⟩))
   ·exact .inr (.inl ⟨_,step_whole hok h6 hp (by omega)⟩)
  ·rw [h]
   by_cases h10:c=10
   ·subst h10;exact .inr (.inr (.inr (step_pointF _ _)))
   ·have hc9:c<10:=by omega
    exact .inr (.inr (.inl ⟨n,es++ [chrD c],allD_app.2 ⟨he,fun x hx=>by rw [List.mem_singleton.1 hx];exact(chrD_ok hc9).1⟩,step_frac hok h6 hq hs he hc9⟩))
  ·rw [h];exact .inr (.inr (.inr (step_wrong c)))
def subs {α:Type}:List α→List (List α)
 |[]=>[[]]
 |x::l=>subs l++(subs l).map (x::·)
theorem subs_len {α:Type}:∀ l:List α,(subs l).length=2 ^ l.length
 |[]=>rfl
 |x::l=>by rw [subs,List.length_append,List.length_map,subs_len l,List.length_cons,Nat.pow_succ];omega
theorem subs_filter {α:Type} (f:α→Bool):∀ l:List α,l.filter f∈subs l
 |[]=>by simp [subs]
 |x::l=>by
  rw [subs,List.filter_cons,List.mem_append]
  split
  ·exact .inr (List.mem_map.2 ⟨_,subs_filter f l,rfl⟩)
  ·exact .inl (subs_filter f l)
theorem len_flat {α β:Type} {g:α→List β} {n:Nat}:∀ {l:List α},(∀ x∈l,(g x).length=n)→(l.flatMap g).length=l.length*n
 |[],_=>by simp
 |x::l,h=>by
  rw [List.flatMap_cons,List.length_append,h x (by simp),len_flat (fun y hy=>h y (by simp [hy])),List.length_cons,Nat.add_mul,Nat.one_mul,Nat.add_comm]
def nF (l:List Rel) (a c:Nat) (s4:List Rel) (f:Nat) (s6:List Rel):Rg:=
 ⟨3,bitsF (fun r=>if r.op=1 then r.nt else if r.op=2 then wT r a else if r.op=3 then wT r c else if r.op=4 then decide (r∈s4) else if r.op=5 then wT r f else decide (r∈s6)) l,c,redO (redL l 5 6).1 (redL l 5 6).2 (10*f),false⟩
def clsN_ (p:Nat × Nat):Nat:=p.1+p.2
def ofOp (l:List Rel) (k:Int):List Rel:=l.filter fun r=>decide (r.op=k)
end
theorem nodup_leR {α:Type} [DecidableEq α]:∀ {l m:List α},l.Nodup→(∀ x∈l,x∈m)→l.length≤m.length
 |[],_,_,_=>Nat.zero_le _
 |x::l,m,hn,hs=>by
  rw [List.nodup_cons] at hn
  have hx:=hs x (by simp)
  have ih:=nodup_leR (l:=l) (m:=m.erase x) hn.2 (fun y hy=>(List.mem_erase_of_ne (fun e=>hn.1 (by rw [←e];exact hy))).2 (hs y (by simp [hy])))
  rw [List.length_erase_of_mem hx] at ih
  have:=List.length_pos_of_mem hx
  rw [List.length_cons]
  omega
def prodOn (P:Rel→Bool) (l:List Rel):Nat:=l.foldr (fun r n=>(if P r=true then siz r else 1)*n) 1
theorem prodOn_cons (P:Rel→Bool) (r:Rel) (l:List Rel):prodOn P (r::l)=(if P r=true then siz r else 1)*prodOn P l:=rfl
theorem siz0_two {r:Rel} (h:OkR r):2≤siz0 r:=by
 unfold siz0
 split
 ·omega
 ·rename_i hm
  have h1:=h.md
  unfold okMod at h1
  rw [if_neg hm] at h1
  split at h1
  ·omega
  ·split at h1
   ·omega
   ·cases h1
theorem siz_ge {r:Rel} (h:OkR r):siz0 r≤siz r:=by
 unfold siz
 split
 ·have:=siz0_two h
  exact Nat.le_mul_of_pos_left _ (by omega)
 ·exact Nat.le_refl _
theorem prodOn_pos (P:Rel→Bool):∀ {l:List Rel},(∀ r∈l,OkR r)→1≤prodOn P l
 |[],_=>Nat.le_refl _
 |r::l,h=>by
  rw [prodOn_cons]
  have h1:=prodOn_pos P (l:=l) (fun x hx=>h x (by simp [hx]))
  have h2:=siz0_two (h r (by simp))
  have h3:=siz_ge (h r (by simp))
  split
  ·exact Nat.le_trans h1 (Nat.le_mul_of_pos_left _ (by omega))
  ·rw [Nat.one_mul];exact h1
theorem redF_le {a b:Int} {p:Nat × Nat} {r:Rel} (hp:1≤p.2) (h:OkR r):clsN_ (redF a b p r)≤clsN_ p*(if r.op=a∨r.op=b then siz0 r else 1)∧1≤(redF a b p r).2:=by
 have h2:=siz0_two h
 unfold redF
 by_cases ho:r.op=a∨r.op=b
 ·rw [if_neg (by omega),if_pos ho]
  unfold clsN_
  by_cases hm:r.md=0
  ·have e:siz0 r=mostR r+2:=by unfold siz0;rw [if_pos hm]
   rw [if_pos hm,e]
   dsimp only
   refine⟨?_,hp⟩
   have h3:(p.1+p.2)*(mostR r+2)=(p.1+p.2)*(mostR r+1)+(p.1+p.2):=by rw [←Nat.mul_succ]
   have h4:mostR r+1≤(p.1+p.2)*(mostR r+1):=Nat.le_mul_of_pos_left _ (by omega)
   omega
  ·have e:siz0 r=r.md.toNat:=by unfold siz0;rw [if_neg hm]
   rw [e] at h2
   rw [if_neg hm,e]
   dsimp only
   rw [div_lcm]
   have h5:Nat.lcm p.2 r.md.toNat≤p.2*r.md.toNat:=Nat.lcm_le_mul (by omega) (by omega)
   have h6:0<Nat.lcm p.2 r.md.toNat:=Nat.lcm_pos (by omega) (by omega)
   have h7:p.1≤p.1*r.md.toNat:=Nat.le_mul_of_pos_right _ (by omega)
   rw [Nat.add_mul]
   omega
 ·rw [if_pos (by omega),if_neg ho,Nat.mul_one]
  exact⟨Nat.le_refl _,hp⟩
def cntOp (k:Int) (l:List Rel):Nat:=(ofOp l k).length
theorem cntOp_cons (k:Int) (r:Rel) (l:List Rel):cntOp k (r::l)=(if r.op=k then 1 else 0)+cntOp k l:=by
 unfold cntOp ofOp
 rw [List.filter_cons]
 by_cases h:r.op=k
 ·rw [if_pos (decide_eq_true h),if_pos h,List.length_cons];omega
 ·rw [if_neg (by rw [decide_eq_false h];decide),if_neg h];omega
theorem fold12:∀ {l:List Rel},(∀ r∈l,OkR r)→∀ p:Nat × Nat,1≤p.2→clsN_ (l.foldl (redF 1 2) p)≤clsN_ p*prodOn (fun r=>decide (r.op=1)||decide (r.op=2)) l
 |[],_,p,_=>by rw [show prodOn _ []=1 from rfl,Nat.mul_one];exact Nat.le_refl _
 |r::l,h,p,hp=>by
  have hr:=h r (by simp)
  obtain⟨h1,h2⟩:=redF_le (a:=1) (b:=2) hp hr
  have h3:=fold12 (l:=l) (fun x hx=>h x (by simp [hx])) (redF 1 2 p r) h2
  rw [List.foldl_cons,prodOn_cons]
  refine Nat.le_trans h3 ?_
  rw [←Nat.mul_assoc]
  refine Nat.mul_le_mul_right _ (Nat.le_trans h1 (Nat.mul_le_mul_left _ ?_))
  have:=siz_ge hr
  have h4:=siz0_two hr
  by_cases ho:r.op=1∨r.op=2
  ·rw [if_pos ho,if_pos (by simpa using ho)];exact this
  ·rw [if_neg ho];split<;>omega
theorem fold56:∀ {l:List Rel},(∀ r∈l,OkR r)→∀ p:Nat × Nat,1≤p.2→clsN_ (l.foldl (redF 5 6) p)*2 ^ cntOp 6 l≤clsN_ p*prodOn (fun r=>decide (r.op=5)||decide (r.op=6)) l
 |[],_,p,_=>by rw [show prodOn _ []=1 from rfl];exact Nat.le_refl _
 |r::l,h,p,hp=>by
  have hr:=h r (by simp)
  obtain⟨h1,h2⟩:=redF_le (a:=5) (b:=6) hp hr
  have h3:=fold56 (l:=l) (fun x hx=>h x (by simp [hx])) (redF 5 6 p r) h2
  rw [List.foldl_cons,prodOn_cons,cntOp_cons,Nat.pow_add,Nat.mul_left_comm]
  have h4:=siz0_two hr
  have key:2 ^ (if r.op=6 then 1 else 0)*(if r.op=5∨r.op=6 then siz0 r else 1)≤(if (decide (r.op=5)||decide (r.op=6))=true then siz r else 1):=by
   by_cases h6:r.op=6
   ·have e:siz r=siz0 r*siz0 r:=by unfold siz;rw [if_pos h6]
    rw [if_pos h6,if_pos (.inr h6),if_pos (by simp [h6]),e,Nat.pow_one]
    exact Nat.mul_le_mul_right _ h4
   ·have e:siz r=siz0 r:=by unfold siz;rw [if_neg h6]
    rw [if_neg h6,Nat.pow_zero,Nat.one_mul,e]
    by_cases h5:r.op=5
    ·rw [if_pos (.inl h5),if_pos (by simp [h5])];exact Nat.le_refl _
    ·rw [if_neg (by omega)];split<;>omega
  calc 2 ^ (if r.op=6 then 1 else 0)*(clsN_ (l.foldl (redF 5 6) (redF 5 6 p r))*2 ^ cntOp 6 l)
    ≤2 ^ (if r.op=6 then 1 else 0)*(clsN_ (redF 5 6 p r)*prodOn (fun r=>decide (r.op=5)||decide (r.op=6)) l):=Nat.mul_le_mul_left _ h3
   _≤2 ^ (if r.op=6 then 1 else 0)*(clsN_ p*(if r.op=5∨r.op=6 then siz0 r else 1)*prodOn (fun r=>decide (r.op=5)||decide (r.op=6)) l):=Nat.mul_le_mul_left _ (Nat.mul_le_mul_right _ h1)
   _=clsN_ p*((2 ^ (if r.op=6 then 1 else 0)*(if r.op=5∨r.op=6 then siz0 r else 1))*prodOn (fun r=>decide (r.op=5)||decide (r.op=6)) l):=by
    simp only [Nat.mul_assoc,Nat.mul_left_comm]
   _≤_:=Nat.mul_le_mul_left _ (Nat.mul_le_mul_right _ key)
theorem redF34 {p:Nat × Nat} {r:Rel} (h:OkR r) (hp:p.2=1):(redF 3 4 p r).2=1∧(redF 3 4 p r).1+1=if r.op=3∨r.op=4 then max (p.1+1) (siz r) else p.1+1:=by
 unfold redF
 by_cases ho:r.op=3∨r.op=4
 ·have hm:r.md=0:=by
   have h1:=h.md
   unfold okMod digs at h1
   by_cases hm:r.md=0
   ·exact hm
   ·rw [if_neg hm] at h1
    split at h1
    ·rcases ho with ho|ho<;>rw [ho] at h1<;>simp at h1
    ·split at h1
     ·rcases ho with ho|ho<;>rw [ho] at h1<;>simp at h1
     ·cases h1
  have e:siz r=mostR r+2:=by unfold siz siz0;rw [if_neg (by omega),if_pos hm]
  rw [if_neg (by omega),if_pos hm,if_pos ho,e]
  exact⟨hp,by dsimp only;omega⟩
 ·rw [if_pos (by omega),if_neg ho]
  exact⟨hp,rfl⟩
theorem fold34:∀ {l:List Rel},(∀ r∈l,OkR r)→∀ p:Nat × Nat,p.2=1→1≤p.1→((l.foldl (redF 3 4) p).1+1)*2 ^ cntOp 4 l≤(p.1+1)*prodOn (fun r=>decide (r.op=3)||decide (r.op=4)) l
 |[],_,p,_,_=>by rw [show prodOn _ []=1 from rfl];exact Nat.le_refl _
 |r::l,h,p,hp,h1p=>by
  have hr:=h r (by simp)
  obtain⟨h1,h2⟩:=redF34 (p:=p) hr hp
  have h4:=siz0_two hr
  have h5:=siz_ge hr
  have hge:1≤(redF 3 4 p r).1:=by
   have:p.1+1≤(redF 3 4 p r).1+1:=by rw [h2];split<;>omega
   omega
  have h3:=fold34 (l:=l) (fun x hx=>h x (by simp [hx])) (redF 3 4 p r) h1 hge
  rw [List.foldl_cons,prodOn_cons,cntOp_cons,Nat.pow_add,Nat.mul_left_comm]
  have key:2 ^ (if r.op=4 then 1 else 0)*((redF 3 4 p r).1+1)≤(p.1+1)*(if (decide (r.op=3)||decide (r.op=4))=true then siz r else 1):=by
   rw [h2]
   by_cases ho:r.op=3∨r.op=4
   ·rw [if_pos ho,if_pos (show(decide (r.op=3)||decide (r.op=4))=true by simpa using ho)]
    have a1:2*(p.1+1)≤(p.1+1)*siz r:=by rw [Nat.mul_comm];exact Nat.mul_le_mul_left _ (by omega)
    have a2:2*siz r≤(p.1+1)*siz r:=Nat.mul_le_mul_right _ (by omega)
    have a3:2 ^ (if r.op=4 then 1 else 0)≤2:=by split<;>decide
    have a4:2 ^ (if r.op=4 then 1 else 0)*max (p.1+1) (siz r)≤2*max (p.1+1) (siz r):=Nat.mul_le_mul_right _ a3
    omega
   ·rw [if_neg ho,if_neg (show ¬ (decide (r.op=3)||decide (r.op=4))=true by simpa using ho),if_neg (by omega),Nat.pow_zero,Nat.one_mul,Nat.mul_one]
    exact Nat.le_refl _
  calc 2 ^ (if r.op=4 then 1 else 0)*(((l.foldl (redF 3 4) (redF 3 4 p r)).1+1)*2 ^ cntOp 4 l)
    ≤2 ^ (if r.op=4 then 1 else 0)*(((redF 3 4 p r).1+1)*prodOn (fun r=>decide (r.op=3)||decide (r.op=4)) l):=Nat.mul_le_mul_left _ h3
   _=(2 ^ (if r.op=4 then 1 else 0)*((redF 3 4 p r).1+1))*prodOn (fun r=>decide (r.op=3)||decide (r.op=4)) l:=(Nat.mul_assoc ..).symm
   _≤_:=by rw [←Nat.mul_assoc];exact Nat.mul_le_mul_right _ key
theorem fold34z:∀ {l:List Rel},(∀ r∈l,OkR r)→(l.foldl (redF 3 4) (0,1)).2=1∧(l.foldl (redF 3 4) (0,1)).1+1≤prodOn (fun r=>decide (r.op=3)||decide (r.op=4)) l∧((l.foldl (redF 3 4) (0,1)).1+1)*2 ^ cntOp 4 l≤2*prodOn (fun r=>decide (r.op=3)||decide (r.op=4)) l
 |[],_=>⟨rfl,Nat.le_refl _,by decide⟩
 |r::l,h=>by
  have hr:=h r (by simp)
  have hl:∀ x∈l,OkR x:=fun x hx=>h x (by simp [hx])
  obtain⟨h1,h2⟩:=redF34 (p:=(0,1)) hr rfl
  have h4:=siz0_two hr
  have h5:=siz_ge hr
  rw [List.foldl_cons,prodOn_cons,cntOp_cons,Nat.pow_add,Nat.mul_left_comm]
  have two:∀ {m:List Rel} {p:Nat × Nat},(∀ x∈m,OkR x)→p.2=1→(m.foldl (redF 3 4) p).2=1:=fun {m}=>by
   induction m with
   |nil=>intro p _ hp;exact hp
   |cons x m ih=>intro p hm hp;exact ih (fun y hy=>hm y (by simp [hy])) (redF34 (hm x (by simp)) hp).1
  refine⟨two hl h1,?_⟩
  by_cases ho:r.op=3∨r.op=4
  ·rw [if_pos ho] at h2
   dsimp only at h2
   have e:(redF 3 4 (0,1) r).1+1=siz r:=by omega
   have h3:=fold34 hl (redF 3 4 (0,1) r) h1 (by omega)
   rw [e] at h3
   rw [if_pos (show(decide (r.op=3)||decide (r.op=4))=true by simpa using ho)]
   obtain⟨F,hF⟩:∃ F,(l.foldl (redF 3 4) (redF 3 4 (0,1) r)).1+1=F:=⟨_,rfl⟩
   obtain⟨Pw,hP⟩:∃ Pw,2 ^ cntOp 4 l=Pw:=⟨_,rfl⟩
   have hPp:1≤Pw:=by rw [←hP];exact Nat.one_le_two_pow
   obtain⟨S,hS⟩:∃ S,siz r*prodOn (fun r=>decide (r.op=3)||decide (r.op=4)) l=S:=⟨_,rfl⟩
   rw [hF,hP,hS] at h3
   rw [hF,hP,hS]
   have a3:2 ^ (if r.op=4 then 1 else 0)≤2:=by split<;>decide
   have a4:F≤F*Pw:=Nat.le_mul_of_pos_right _ (by omega)
   exact⟨by omega,Nat.mul_le_mul a3 h3⟩
  ·rw [if_neg ho] at h2
   have e:redF 3 4 (0,1) r=(0,1):=Prod.ext (by omega) h1
   obtain⟨_,i2,i3⟩:=fold34z hl
   rw [e,if_neg (show ¬ (decide (r.op=3)||decide (r.op=4))=true by simpa using ho),if_neg (by omega),Nat.one_mul,Nat.pow_zero,Nat.one_mul]
   exact⟨i2,i3⟩
theorem prod_all:∀ {l:List Rel},(∀ r∈l,OkR r)→prodOn (fun r=>decide (r.op=1)||decide (r.op=2)) l*(prodOn (fun r=>decide (r.op=3)||decide (r.op=4)) l*prodOn (fun r=>decide (r.op=5)||decide (r.op=6)) l)=prodOn (fun _=>true) l
 |[],_=>rfl
 |r::l,h=>by
  have ih:=prod_all (l:=l) (fun x hx=>h x (by simp [hx]))
  have h1:=(h r (by simp)).lo
  have h2:=(h r (by simp)).hi
  rw [prodOn_cons,prodOn_cons,prodOn_cons,prodOn_cons,←ih,if_pos rfl]
  by_cases a:r.op=1∨r.op=2
  ·rw [if_pos (by simpa using a),if_neg (by simp;omega),if_neg (by simp;omega),Nat.one_mul,Nat.one_mul,Nat.mul_assoc]
  ·rw [if_neg (by simpa using a),Nat.one_mul]
   by_cases b:r.op=3∨r.op=4
   ·rw [if_pos (by simpa using b),if_neg (by simp;omega),Nat.one_mul,Nat.mul_assoc,Nat.mul_left_comm]
   ·rw [if_neg (by simpa using b),if_pos (by simp;omega),Nat.one_mul]
    simp only [Nat.mul_left_comm]
theorem mul_ge {A R k:Nat} (hA:k≤A) (hR:1≤R):A+k*R≤A*R+k:=by
 obtain⟨a,rfl⟩:∃ a,A=k+a:=⟨A - k,by omega⟩
 obtain⟨r,rfl⟩:∃ r,R=r+1:=⟨R - 1,by omega⟩
 rw [Nat.add_mul,Nat.mul_succ a r]
 have:0≤a*r:=Nat.zero_le _
 omega
theorem few_sum {A P R c H H2 q Z k12 k34 k56:Nat} (h1:1≤A) (h2:1≤P) (h3:1≤R) (hW:A*(P*R)≤1000) (hc:c≤A) (hHc:H≤c) (hHk:H≤2 ^ k12) (hH2:H2≤H) (hk:k12+k34+k56≤6) (hA:2 ^ k12≤A)
  (hq7:q≤7) (hZ:4*Z≤7*(P*R)) (h34:k34=0→q=1∧P=1∧Z≤R) (h56:k56=0→R=1) (hP8:k34=1→P≤8):2+c+H+H*q+H2*Z≤1999:=by
 have e1:H*q≤H*7:=Nat.mul_le_mul_left _ hq7
 have e2:H2*Z≤H*Z:=Nat.mul_le_mul_right _ hH2
 have hPR:1≤P*R:=Nat.mul_le_mul h2 h3
 rcases Nat.lt_or_ge A 28 with ha|ha
 ·have e3:H*(4*Z)≤A*(7*(P*R)):=Nat.mul_le_mul (by omega) hZ
  have e4:H*(4*Z)=4*(H*Z):=Nat.mul_left_comm ..
  have e5:A*(7*(P*R))=7*(A*(P*R)):=Nat.mul_left_comm ..
  omega
 ·rcases Nat.lt_or_ge k12 5 with hk5|hk5
  ·have h16:2 ^ k12≤2 ^ 4:=Nat.pow_le_pow_right (by omega) (by omega)
   have h16':(2:Nat) ^ 4=16:=by decide
   have e3:H*(4*Z)≤16*(7*(P*R)):=Nat.mul_le_mul (by omega) hZ
   have e4:H*(4*Z)=4*(H*Z):=Nat.mul_left_comm ..
   have e6:=mul_ge ha hPR
   omega
  ·by_cases h0:k34=0
   ·obtain⟨rfl,rfl,hZR⟩:=h34 h0
    rw [Nat.one_mul] at hW hPR
    have e3:H*Z≤H*R:=Nat.mul_le_mul_left _ hZR
    have e3':H*R≤2 ^ k12*R:=Nat.mul_le_mul_right _ hHk
    have e6:=mul_ge hA h3
    have h64:2 ^ k12≤2 ^ 6:=Nat.pow_le_pow_right (by omega) (by omega)
    have h64':(2:Nat) ^ 6=64:=by decide
    omega
   ·have k5:k12=5:=by omega
    have k3:k34=1:=by omega
    have h56':=h56 (by omega)
    have hP:=hP8 k3
    subst h56' k5
    rw [Nat.mul_one] at hZ hW
    have h32:(2:Nat) ^ 5=32:=by decide
    have hZ14:Z≤14:=by omega
    have e3:H*Z≤32*14:=Nat.mul_le_mul (by omega) hZ14
    have hA1:A*1≤A*P:=Nat.mul_le_mul_left _ h2
    omega
theorem mostD_le {r:Rel} (h:OkR r) (ho:r.op=3∨r.op=4):mostR r≤6:=by
 have key:∀(l:List (Int × Int)) (n:Nat),n≤6→(∀ s∈l,s.2≤6)→l.foldl (fun n s=>max n s.2.toNat) n≤6:=fun l=>by
  induction l with
  |nil=>intro n hn _;exact hn
  |cons a l ih=>
   intro n hn hl
   rw [List.foldl_cons]
   refine ih _ ?_ (fun s hs=>hl s (by simp [hs]))
   have:=hl a (by simp)
   omega
 refine key _ _ (by omega) (fun s hs=>?_)
 have h1:=h.sp s hs
 unfold okSp okEnd at h1
 have hd:digs r.op=true:=by unfold digs;rcases ho with ho|ho<;>rw [ho]<;>rfl
 rw [hd] at h1
 simp at h1
 omega
theorem sizD_le {r:Rel} (h:OkR r) (ho:r.op=3∨r.op=4):siz r≤8:=by
 have h1:=mostD_le h ho
 obtain⟨_,h2⟩:=redF34 (p:=(0,1)) h rfl
 have h3:=siz0_two h
 have hm:r.md=0:=by
  have h1:=h.md
  unfold okMod digs at h1
  by_cases hm:r.md=0
  ·exact hm
  ·rw [if_neg hm] at h1
   split at h1
   ·rcases ho with ho|ho<;>rw [ho] at h1<;>simp at h1
   ·split at h1
    ·rcases ho with ho|ho<;>rw [ho] at h1<;>simp at h1
    ·cases h1
 unfold siz siz0
 rw [if_neg (by omega),if_pos hm]
 omega
theorem fold34m:∀ {l:List Rel},(∀ r∈l,OkR r)→∀ p:Nat × Nat,p.2=1→p.1+1≤8→(l.foldl (redF 3 4) p).1+1≤8∧p.1≤(l.foldl (redF 3 4) p).1∧((∃ r∈l,r.op=3∨r.op=4)→1≤(l.foldl (redF 3 4) p).1)
 |[],_,p,_,hp=>⟨hp,Nat.le_refl _,fun⟨r,h,_⟩=>by cases h⟩
 |r::l,h,p,h2,hp=>by
  have hr:=h r (by simp)
  obtain⟨h3,h4⟩:=redF34 (p:=p) hr h2
  have h5:2≤siz r:=Nat.le_trans (siz0_two hr) (siz_ge hr)
  have h8:(redF 3 4 p r).1+1≤8:=by
   rw [h4]
   split
   ·rename_i ho
    have:=sizD_le hr ho
    omega
   ·exact hp
  obtain⟨i1,i2,i3⟩:=fold34m (l:=l) (fun x hx=>h x (by simp [hx])) (redF 3 4 p r) h3 h8
  rw [List.foldl_cons]
  refine⟨i1,?_,fun⟨q,hq,ho⟩=>?_⟩
  ·have:p.1+1≤(redF 3 4 p r).1+1:=by rw [h4];split<;>omega
   omega
  ·rcases List.mem_cons.1 hq with rfl|hq
   ·rw [if_pos ho] at h4
    omega
   ·exact i3 ⟨q,hq,ho⟩
theorem pow_le_prod {P:Rel→Bool}:∀ {l:List Rel},(∀ r∈l,OkR r)→2 ^ (l.filter P).length≤prodOn P l
 |[],_=>Nat.le_refl _
 |r::l,h=>by
  have ih:=pow_le_prod (P:=P) (l:=l) (fun x hx=>h x (by simp [hx]))
  have h5:2≤siz r:=Nat.le_trans (siz0_two (h r (by simp))) (siz_ge (h r (by simp)))
  rw [prodOn_cons,List.filter_cons]
  split
  ·rw [List.length_cons,Nat.pow_succ,Nat.mul_comm]
   exact Nat.mul_le_mul h5 ih
  ·rw [Nat.one_mul];exact ih
theorem prod_none {P:Rel→Bool}:∀ {l:List Rel},(l.filter P).length=0→prodOn P l=1
 |[],_=>rfl
 |r::l,h=>by
  rw [List.filter_cons] at h
  by_cases hp:P r=true
  ·rw [if_pos hp] at h;simp at h
  ·rw [if_neg hp] at h
   rw [prodOn_cons,if_neg hp,Nat.one_mul]
   exact prod_none h
def hldF (l:List Rel) (P:Rel→Bool) (n:Nat):List (Rel→Bool):=if n≤2 ^ (l.filter P).length then(List.range n).map (fun a r=>wT r a) else(subs (l.filter P)).map (fun s r=>decide (r∈s))
theorem hldF_len (l:List Rel) (P:Rel→Bool) (n:Nat):(hldF l P n).length≤n∧(hldF l P n).length≤2 ^ (l.filter P).length:=by
 unfold hldF
 split
 ·rw [List.length_map,List.length_range];omega
 ·rw [List.length_map,subs_len];omega
theorem hldF_mem {l:List Rel} {P:Rel→Bool} {n m a:Nat} (ha:a<n) (h:∀ r∈l,P r=true→wT r m=wT r a):∃ g∈hldF l P n,∀ r∈l,P r=true→wT r m=g r:=by
 unfold hldF
 split
 ·exact⟨_,List.mem_map.2 ⟨a,List.mem_range.2 ha,rfl⟩,h⟩
 ·refine⟨_,List.mem_map.2 ⟨(l.filter P).filter (fun r=>wT r m),subs_filter _ _,rfl⟩,fun r hr hp=>?_⟩
  cases hg:wT r m with
  |true=>exact(decide_eq_true (List.mem_filter.2 ⟨List.mem_filter.2 ⟨hr,hp⟩,hg⟩)).symm
  |false=>exact(decide_eq_false (fun hm=>by rw [(List.mem_filter.1 hm).2] at hg;cases hg)).symm
def p12 (r:Rel):Bool:=decide (r.op=1)||decide (r.op=2)
def p2 (r:Rel):Bool:=decide (r.op=2)
theorem p12_iff {r:Rel}:p12 r=true↔r.op=1∨r.op=2:=by unfold p12;simp
def gW (g:Rel→Bool) (r:Rel):Bool:=if r.op=1∨r.op=2 then g r else wT r 0
def zG (l:List Rel) (g:Rel→Bool) (c:Nat):Rg:=⟨3,bitsF (fun r=>if r.op=1∨r.op=2 then g r else if r.op=3 then wT r c else wT r 0) l,c,0,true⟩
def nG (l:List Rel) (g:Rel→Bool) (c:Nat) (s4:List Rel) (f:Nat) (s6:List Rel):Rg:=
 ⟨3,bitsF (fun r=>if r.op=1 then r.nt else if r.op=2 then g r else if r.op=3 then wT r c else if r.op=4 then decide (r∈s4) else if r.op=5 then wT r f else decide (r∈s6)) l,c,redO (redL l 5 6).1 (redL l 5 6).2 (10*f),false⟩
def cR (l:List Rel):List Nat:=if (redL l 3 4).1=0 then [0] else(List.range (redL l 3 4).1).map (· +1)
def candS (l:List Rel):List Rg:=
 [stRg l 0,wrongR]++(List.range (clsN_ (redL l 1 2))).map (rgW l)++(hldF l p12 (clsN_ (redL l 1 2))).map (fun g=>rgF l (gW g) [])++
 (hldF l p12 (clsN_ (redL l 1 2))).flatMap (fun g=>(cR l).map (zG l g))++
 (hldF l p2 (clsN_ (redL l 1 2))).flatMap (fun g=>(cR l).flatMap fun c=>(subs (ofOp l 4)).flatMap fun s4=>(List.range (clsN_ (redL l 5 6))).flatMap fun f=>(subs (ofOp l 6)).map fun s6=>nG l g c s4 f s6)
theorem candS_len (l:List Rel):(candS l).length=2+clsN_ (redL l 1 2)+(hldF l p12 (clsN_ (redL l 1 2))).length+(hldF l p12 (clsN_ (redL l 1 2))).length*(cR l).length+(hldF l p2 (clsN_ (redL l 1 2))).length*((cR l).length*(2 ^ (ofOp l 4).length*(clsN_ (redL l 5 6)*2 ^ (ofOp l 6).length))):=by
 unfold candS
 rw [List.length_append,List.length_append,List.length_append,List.length_append,List.length_map,List.length_map,List.length_range,
  len_flat (n:=(cR l).length) (fun a _=>by rw [List.length_map]),
  len_flat (n:=(cR l).length*(2 ^ (ofOp l 4).length*(clsN_ (redL l 5 6)*2 ^ (ofOp l 6).length))) (fun a _=>by
   rw [len_flat (n:=2 ^ (ofOp l 4).length*(clsN_ (redL l 5 6)*2 ^ (ofOp l 6).length)) (fun c _=>by
    rw [len_flat (n:=clsN_ (redL l 5 6)*2 ^ (ofOp l 6).length) (fun s _=>by
     rw [len_flat (n:=2 ^ (ofOp l 6).length) (fun f _=>by rw [List.length_map,subs_len]),List.length_range]),subs_len])])]
 rfl
section
variable {l:List Rel} (hok:∀ r∈l,OkR r) (h6:l.length≤60)
include hok in
theorem cand_memS {x:Rg} (h:RchR l x):x∈candS l:=by
 have r12:=redL_ok hok 1 2
 have r34:=redL_ok hok 3 4
 have r56:=redL_ok hok 5 6
 have key:∀ n,∃ a,a<clsN_ (redL l 1 2)∧(∀ r∈l,r.op=1∨r.op=2→wT r n=wT r a)∧redO (redL l 1 2).1 (redL l 1 2).2 (10*n)=redO (redL l 1 2).1 (redL l 1 2).2 (10*a):=fun n=>
  ⟨redO (redL l 1 2).1 (redL l 1 2).2 n,redO_lt r12.pos n,fun r hr ho=>(wT_eqr r12 hr ho (eqr_red _ n)).symm,(eqr_red _ n).ten.red.symm⟩
 have hW:∀ n a,(∀ r∈l,r.op=1∨r.op=2→wT r n=wT r a)→∀ r∈l,trW n r=trW a r:=fun n a h r hr=>by
  unfold trW
  split
  ·rename_i ho;exact h r hr ho
  ·rfl
 unfold candS
 rw [List.mem_append,List.mem_append,List.mem_append,List.mem_append]
 rcases h with h|⟨n,h⟩|⟨n,es,he,h⟩|h
 ·exact .inl (.inl (.inl (.inl (by rw [h];simp))))
 ·obtain⟨a,ha,h1,h2⟩:=key n
  refine .inl (.inl (.inl (.inr (List.mem_map.2 ⟨a,List.mem_range.2 ha,?_⟩))))
  rw [h]
  unfold rgW
  rw [h2,bitsF_congr (hW n a h1)]
 ·obtain⟨a,ha,h1,h2⟩:=key n
  by_cases hes:es= []
  ·obtain⟨g,hg,h1⟩:=hldF_mem (P:=p12) ha (fun r hr hp=>h1 r hr (p12_iff.1 hp))
   refine .inl (.inl (.inr (List.mem_map.2 ⟨g,hg,?_⟩)))
   rw [h,hes]
   unfold rgF
   rw [bitsF_congr (f:=trF (gW g) []) (g:=trF (trW n) []) (fun r hr=>by
    have e:gW g r=trW n r:=by
     unfold gW trW
     split
     ·rename_i ho;exact(h1 r hr (p12_iff.2 ho)).symm
     ·rfl
    unfold trF;rw [e])]
  ·have hc:=redO_lt (B:=(redL l 3 4).1) r34.pos es.length
   have hc3:∀ r∈l,r.op=3∨r.op=4→wT r es.length=wT r (redO (redL l 3 4).1 (redL l 3 4).2 es.length):=fun r hr ho=>(wT_eqr r34 hr ho (eqr_red _ _)).symm
   have hcm:redO (redL l 3 4).1 (redL l 3 4).2 es.length∈cR l:=by
    have hlen:1≤es.length:=Nat.pos_of_ne_zero (fun e=>hes (List.length_eq_zero_iff.1 e))
    have h1':(redL l 3 4).2=1:=(fold34z hok).1
    unfold cR redO
    rw [h1',Nat.mod_one,Nat.add_zero]
    split
    ·rename_i hb
     rw [hb,if_neg (by omega)];simp
    ·rename_i hb
     split
     ·exact List.mem_map.2 ⟨es.length - 1,List.mem_range.2 (by omega),by omega⟩
     ·exact List.mem_map.2 ⟨(redL l 3 4).1 - 1,List.mem_range.2 (by omega),by omega⟩
   obtain⟨c,hcc⟩:∃ c,redO (redL l 3 4).1 (redL l 3 4).2 es.length=c:=⟨_,rfl⟩
   rw [hcc] at hc hc3 hcm
   cases hz:zero es with
   |true=>
    obtain⟨g,hg,h1⟩:=hldF_mem (P:=p12) ha (fun r hr hp=>h1 r hr (p12_iff.1 hp))
    refine .inl (.inr (List.mem_flatMap.2 ⟨g,hg,List.mem_map.2 ⟨c,hcm,?_⟩⟩))
    have hv:=(zero_iff he).1 hz
    have ht:=trim_nil_iff.2 hz
    rw [h]
    unfold rgF zG
    rw [if_neg hes,hcc,hv,Nat.mul_zero,redO_zero,hz]
    congr 1
    refine bitsF_congr fun r hr=>?_
    unfold trF trW
    rw [hz,ht,hv,if_pos rfl,val_nil]
    have ho:=hok r hr
    have o1:=ho.lo
    have o2:=ho.hi
    by_cases e1:r.op=1
    ·rw [if_pos (.inl e1),if_pos e1,if_pos (.inl e1)];exact(h1 r hr (p12_iff.2 (.inl e1))).symm
    rw [if_neg e1]
    by_cases e2:r.op=2
    ·rw [if_pos (.inr e2),if_neg (by omega),if_neg (by omega),if_neg (by omega),if_neg (by omega),if_pos (.inr e2)];exact(h1 r hr (p12_iff.2 (.inr e2))).symm
    rw [if_neg (by omega)]
    by_cases e3:r.op=3
    ·rw [if_pos e3,if_pos e3];exact(hc3 r hr (.inl e3)).symm
    rw [if_neg e3,if_neg e3]
    by_cases e4:r.op=4
    ·rw [if_pos e4];rfl
    rw [if_neg e4]
    by_cases e5:r.op=5
    ·rw [if_pos e5]
    rw [if_neg e5,if_pos (by omega)]
   |false=>
    have hf:=redO_lt (B:=(redL l 5 6).1) r56.pos (val es)
    have hf5:∀ r∈l,r.op=5∨r.op=6→wT r (val es)=wT r (redO (redL l 5 6).1 (redL l 5 6).2 (val es)):=fun r hr ho=>(wT_eqr r56 hr ho (eqr_red _ _)).symm
    have hft:redO (redL l 5 6).1 (redL l 5 6).2 (10*val es)=redO (redL l 5 6).1 (redL l 5 6).2 (10*redO (redL l 5 6).1 (redL l 5 6).2 (val es)):=(eqr_red _ _).ten.red.symm
    obtain⟨f,hff⟩:∃ f,redO (redL l 5 6).1 (redL l 5 6).2 (val es)=f:=⟨_,rfl⟩
    rw [hff] at hf hf5 hft
    obtain⟨g,hg,h1⟩:=hldF_mem (P:=p2) ha (fun r hr hp=>h1 r hr (.inr (of_decide_eq_true hp)))
    refine .inr (List.mem_flatMap.2 ⟨g,hg,List.mem_flatMap.2 ⟨c,hcm,List.mem_flatMap.2 ⟨(ofOp l 4).filter (fun r=>wT r (trim es).length),subs_filter _ _,List.mem_flatMap.2 ⟨f,List.mem_range.2 hf,List.mem_map.2 ⟨(ofOp l 6).filter (fun r=>wT r (val (trim es))),subs_filter _ _,?_⟩⟩⟩⟩⟩)
    have hm:∀(k:Int) (g:Rel→Bool),∀ r∈l,r.op=k→decide (r∈(ofOp l k).filter g)=g r:=fun k g r hr e=>by
     cases hg:g r with
     |true=>exact decide_eq_true (List.mem_filter.2 ⟨List.mem_filter.2 ⟨hr,decide_eq_true e⟩,hg⟩)
     |false=>exact decide_eq_false (fun hm=>by rw [(List.mem_filter.1 hm).2] at hg;cases hg)
    rw [h]
    unfold rgF nG
    rw [if_neg hes,hcc,hft,hz]
    congr 1
    refine bitsF_congr fun r hr=>?_
    unfold trF trW
    rw [hz]
    have ho:=hok r hr
    have o1:=ho.lo
    have o2:=ho.hi
    by_cases e1:r.op=1
    ·rw [if_pos e1,if_pos e1,if_neg (by decide)]
    rw [if_neg e1,if_neg e1]
    by_cases e2:r.op=2
    ·rw [if_pos e2,if_neg (by omega),if_neg (by omega),if_neg (by omega),if_neg (by omega),if_pos (.inr e2)];exact(h1 r hr (decide_eq_true e2)).symm
    rw [if_neg e2]
    by_cases e3:r.op=3
    ·rw [if_pos e3,if_pos e3];exact(hc3 r hr (.inl e3)).symm
    rw [if_neg e3,if_neg e3]
    by_cases e4:r.op=4
    ·rw [if_pos e4,if_pos e4];exact hm 4 _ r hr e4
    rw [if_neg e4,if_neg e4]
    by_cases e5:r.op=5
    ·rw [if_pos e5,if_pos e5];exact(hf5 r hr (.inl e5)).symm
    have e6:r.op=6:=by omega
    rw [if_neg e5,if_neg e5,if_pos e6];exact hm 6 _ r hr e6
 ·exact .inl (.inl (.inl (.inl (by rw [h];simp))))
end
def p34 (r:Rel):Bool:=decide (r.op=3)||decide (r.op=4)
def p56 (r:Rel):Bool:=decide (r.op=5)||decide (r.op=6)
theorem p34_iff {r:Rel}:p34 r=true↔r.op=3∨r.op=4:=by unfold p34;simp
theorem split_ops:∀ {l:List Rel},(∀ r∈l,OkR r)→(l.filter p12).length+(l.filter p34).length+(l.filter p56).length=l.length
 |[],_=>rfl
 |r::l,h=>by
  have ih:=split_ops (l:=l) (fun x hx=>h x (by simp [hx]))
  have h1:=(h r (by simp)).lo
  have h2:=(h r (by simp)).hi
  rw [List.filter_cons,List.filter_cons,List.filter_cons,List.length_cons]
  by_cases a:r.op=1∨r.op=2
  ·rw [if_pos (p12_iff.2 a),if_neg (by unfold p34;simp;omega),if_neg (by unfold p56;simp;omega),List.length_cons];omega
  ·rw [if_neg (fun e=>a (p12_iff.1 e))]
   by_cases b:r.op=3∨r.op=4
   ·rw [if_pos (p34_iff.2 b),if_neg (by unfold p56;simp;omega),List.length_cons];omega
   ·rw [if_neg (fun e=>b (p34_iff.1 e)),if_pos (by unfold p56;simp;omega),List.length_cons];omega
theorem prod34_le:∀ {l:List Rel},(∀ r∈l,OkR r)→prodOn p34 l≤8 ^ (l.filter p34).length
 |[],_=>Nat.le_refl _
 |r::l,h=>by
  have ih:=prod34_le (l:=l) (fun x hx=>h x (by simp [hx]))
  rw [prodOn_cons,List.filter_cons]
  split
  ·rename_i hp
   rw [List.length_cons,Nat.pow_succ,Nat.mul_comm]
   exact Nat.mul_le_mul ih (sizD_le (h r (by simp)) (p34_iff.1 hp))
  ·rw [Nat.one_mul];exact ih
theorem filter_none {P:Rel→Bool} {l:List Rel} (h:(l.filter P).length=0):∀ r∈l,P r=false:=fun r hr=>by
 cases hp:P r with
 |false=>rfl
 |true=>
  have:=List.length_pos_of_mem (List.mem_filter.2 ⟨hr,hp⟩)
  omega
theorem filter_some {P:Rel→Bool} {l:List Rel} (h:(l.filter P).length≠0):∃ r∈l,P r=true:=by
 obtain⟨r,hr⟩:=List.exists_mem_of_length_pos (Nat.pos_of_ne_zero h)
 exact⟨r,(List.mem_filter.1 hr).1,(List.mem_filter.1 hr).2⟩
theorem fold34_id:∀ {l:List Rel} (p:Nat × Nat),(∀ r∈l,p34 r=false)→l.foldl (redF 3 4) p=p
 |[],_,_=>rfl
 |r::l,p,h=>by
  have h1:=h r (by simp)
  have e:redF 3 4 p r=p:=by
   unfold redF
   have h2:¬ (r.op=3∨r.op=4):=fun e=>by rw [p34_iff.2 e] at h1;cases h1
   rw [if_pos (by omega)]
  rw [List.foldl_cons,e]
  exact fold34_id p (fun x hx=>h x (by simp [hx]))
theorem candS_few {l:List Rel} (h:∀ r∈l,OkR r) (h6:l.length≤6) (hw:prodOn (fun _=>true) l≤1000):(candS l).length≤1999:=by
 rw [candS_len]
 have e1:=prod_all h
 have b1:=fold12 h (0,1) (by decide)
 have b2:=fold34z h
 have b3:=fold56 h (0,1) (by decide)
 have b4:=fold34m h (0,1) rfl (by decide)
 rw [show clsN_ (0,1)=1 from rfl,Nat.one_mul] at b1 b3
 have b1':clsN_ (redL l 1 2)≤prodOn p12 l:=b1
 have b3':clsN_ (redL l 5 6)*2 ^ (ofOp l 6).length≤prodOn p56 l:=b3
 have b5:(redL l 3 4).1+1≤8:=b4.1
 have b2':((redL l 3 4).1+1)*2 ^ (ofOp l 4).length≤2*prodOn p34 l:=b2.2.2
 have hW:prodOn p12 l*(prodOn p34 l*prodOn p56 l)≤1000:=by rw [show prodOn p12 l*(prodOn p34 l*prodOn p56 l)=prodOn (fun _=>true) l from e1];exact hw
 have q7:(cR l).length≤7:=by
  unfold cR
  split
  ·show 1≤7;omega
  ·rw [List.length_map,List.length_range];omega
 have h34:(l.filter p34).length=0→(cR l).length=1∧prodOn p34 l=1∧(ofOp l 4).length=0:=fun e=>by
  have hn:=filter_none e
  have e2:redL l 3 4=(0,1):=fold34_id (0,1) hn
  refine⟨?_,prod_none e,?_⟩
  ·unfold cR
   rw [e2]
   rfl
  ·cases hx:(ofOp l 4).length with
   |zero=>rfl
   |succ n=>
    obtain⟨r,hr,hp⟩:=filter_some (P:=fun r=>decide (r.op=4)) (l:=l) (fun e3=>by have:(ofOp l 4).length=0:=e3;omega)
    have:=hn r hr
    rw [p34_iff.2 (.inr (of_decide_eq_true hp))] at this
    cases this
 have hZ4:4*((cR l).length*2 ^ (ofOp l 4).length)≤7*prodOn p34 l:=by
  by_cases e:(l.filter p34).length=0
  ·obtain⟨a1,a2,a3⟩:=h34 e
   rw [a1,a2,a3]
   decide
  ·obtain⟨r,hr,hp⟩:=filter_some e
   have hb:1≤(redL l 3 4).1:=b4.2.2 ⟨r,hr,p34_iff.1 hp⟩
   have hq:(cR l).length=(redL l 3 4).1:=by
    unfold cR
    rw [if_neg (by omega),List.length_map,List.length_range]
   rw [hq]
   generalize (redL l 3 4).1=b at*
   generalize 2 ^ (ofOp l 4).length=t at*
   have e8:8*(b*t)≤7*((b+1)*t):=by
    rw [←Nat.mul_assoc,←Nat.mul_assoc]
    exact Nat.mul_le_mul_right _ (by omega)
   omega
 have hp1:=pow_le_prod (P:=p12) h
 have s1:=prodOn_pos p12 h
 have s2:=prodOn_pos p34 h
 have s3:=prodOn_pos p56 h
 have hk:=split_ops h
 have hP8:=prod34_le h
 have hk2:(l.filter p2).length≤(l.filter p12).length:=by
  have:∀ l:List Rel,(l.filter p2).length≤(l.filter p12).length:=fun l=>by
   induction l with
   |nil=>exact Nat.le_refl _
   |cons r l ih=>
    rw [List.filter_cons,List.filter_cons]
    by_cases e2:p2 r=true
    ·rw [if_pos e2,if_pos (p12_iff.2 (.inr (of_decide_eq_true e2))),List.length_cons,List.length_cons];omega
    ·rw [if_neg e2]
     split
     ·rw [List.length_cons];omega
     ·exact ih
  exact this l
 obtain⟨l1,l2⟩:=hldF_len l p12 (clsN_ (redL l 1 2))
 obtain⟨l3,l4⟩:=hldF_len l p2 (clsN_ (redL l 1 2))
 have hpw:2 ^ (l.filter p2).length≤2 ^ (l.filter p12).length:=Nat.pow_le_pow_right (by omega) hk2
 have h34':(l.filter p34).length=0→(cR l).length=1∧prodOn p34 l=1∧(cR l).length*(2 ^ (ofOp l 4).length*(clsN_ (redL l 5 6)*2 ^ (ofOp l 6).length))≤prodOn p56 l:=fun e=>by
  obtain⟨a1,a2,a3⟩:=h34 e
  refine⟨a1,a2,?_⟩
  rw [a1,a3,Nat.one_mul,Nat.pow_zero,Nat.one_mul]
  exact b3'
 have hZ:4*((cR l).length*(2 ^ (ofOp l 4).length*(clsN_ (redL l 5 6)*2 ^ (ofOp l 6).length)))≤7*(prodOn p34 l*prodOn p56 l):=by
  rw [←Nat.mul_assoc (cR l).length,←Nat.mul_assoc 4,←Nat.mul_assoc 7]
  exact Nat.mul_le_mul hZ4 b3'
 have h56:(l.filter p56).length=0→prodOn p56 l=1:=prod_none
 have hP8':(l.filter p34).length=1→prodOn p34 l≤8:=fun e=>by rw [e] at hP8;exact hP8
 clear b2 b4 e1 hw b1 b3 b5 b2' hZ4 h34 hP8 b3'
 generalize (cR l).length*(2 ^ (ofOp l 4).length*(clsN_ (redL l 5 6)*2 ^ (ofOp l 6).length))=Z at*
 generalize (hldF l p12 (clsN_ (redL l 1 2))).length=H at*
 generalize (hldF l p2 (clsN_ (redL l 1 2))).length=H2 at*
 generalize clsN_ (redL l 1 2)=c at*
 generalize (cR l).length=q at*
 generalize prodOn p12 l=A at*
 generalize prodOn p34 l=P at*
 generalize prodOn p56 l=R at*
 have key:=few_sum (H:=min c (2 ^ (l.filter p12).length)) (H2:=min c (2 ^ (l.filter p12).length)) s1 s2 s3 hW b1' (Nat.min_le_left _ _) (Nat.min_le_right _ _) (Nat.le_refl _) (by rw [hk];exact h6) hp1 q7 hZ h34' h56 hP8'
 have m1:H≤min c (2 ^ (l.filter p12).length):=by omega
 have m2:H2≤min c (2 ^ (l.filter p12).length):=by omega
 have m3:=Nat.mul_le_mul_right q m1
 have m4:=Nat.mul_le_mul_right Z m2
 omega
theorem bound1000 {l:List Rel} (hok:∀ r∈l,OkR r) (h6:l.length≤6) (hw:prodOn (fun _=>true) l≤1000) (L:List Rg) (hL:L.Nodup)
  (h:∀ x∈L,∃ u:List Nat,(∀ c∈u,c<11)∧runR (nxR l (redL l 1 2) (redL l 3 4) (redL l 5 6)) (stRg l 0) u=x):L.length≤1999:=
 Nat.le_trans (nodup_leR hL fun x hx=>by
  obtain⟨u,h1,rfl⟩:=h x hx
  exact cand_memS hok (reach11 hok (by omega) rfl rfl rfl u.length u rfl h1)) (candS_few hok h6 hw)
open Go.RowKit Go.Maps
structure Fra where
 tx:Str
 hold:Nat
 kept:Nat
def encFr (x:Fra):List Value:=[.string (ofL x.tx),.int .u64 x.hold,.int .u64 x.kept]
theorem encFr_len (x:Fra):(encFr x).length=3:=rfl
theorem encFr_one (x:Fra):∀ u∈encFr x,u.oneCell'=true:=by
 intro u hu
 simp [encFr] at hu
 rcases hu with rfl|rfl|rfl<;>rfl
theorem Tryz.infoFr:(Tryz.prog.info? 117).map (fun i=>(i.zero,i.size,i.bytes))=some (some (.agg #[.string ByteArray.empty,.int .u64 0,.int .u64 0]),3,32):=by kernel_rfl
theorem Rd.fra {w:World} {a:Option Addr} {n c:Nat} {l:List Fra} (h:Rd 3 encFr w (.slice a n c) l) (i:Nat) (hi:i<l.length):∃ b off,a=some ⟨b,off,none⟩∧b<w.heap.size∧w.cell? ⟨b,off+i*3,none⟩=some (.string (ofL l[i].tx))∧w.cell? ⟨b,off+i*3+1,none⟩=some (.int .u64 l[i].hold)∧w.cell? ⟨b,off+i*3+2,none⟩=some (.int .u64 l[i].kept):=by
 obtain⟨b,off,ha,hlt,hx⟩:=h.some_ i hi
 exact⟨b,off,ha,hlt,hx 0 _ rfl,hx 1 _ rfl,hx 2 _ rfl⟩
def frOf (l:List Rel) (q:List Nat × Rg):Fra:=⟨if q.1= [] then [] else 58::chS q.1,q.2.hold,if q.2.int=true then on l 2|||on l 1 else on l 2⟩
theorem own_setNe {α:Type} {k:Nat} {enc:α→List Value} {w:World} {base g:Nat} {e:TypeId} {v:Value} {m:List α} (ho:Own1 k enc w base e v m) (hne:v.ownBlock≠some g) (i:Nat) (z:Value):Own1 k enc (w.setCell ⟨g,i,none⟩ z) base e v m:=
 own_grown ho (grown_set w g i z) (fun b hb e1=>hne (by rw [hb,e1]))
theorem on_lt {l:List Rel} (h6:l.length≤60) (o:Int):on l o<18446744073709551616:=by rw [on_bits (by omega)];exact bitsF_lt64 _ (by omega)
theorem colon_cut (wx:World):(Instr.slice 9 (.string ⟨#[48,49,50,51,52,53,54,55,56,57,58]⟩) (some (.int .i64 10)) none none).run Tryz.prog wx= .ok (.string (ofL [58])) wx:=by
 have h:=run_slice_string_from_if (P:=Tryz.prog) (w:=wx) 9 ⟨#[48,49,50,51,52,53,54,55,56,57,58]⟩ .i64 10 Tryz.underlying9
 rw [h,if_pos (by decide)]
 have e:(⟨#[48,49,50,51,52,53,54,55,56,57,58]⟩:ByteArray).extract (10:Int).toNat (⟨#[48,49,50,51,52,53,54,55,56,57,58]⟩:ByteArray).size=ofL [58]:=by decide
 rw [e]
set_option maxRecDepth 1000000 in
set_option maxHeartbeats 64000000 in
theorem fractions_any (g:Nat) (l:List Rel) (ls:List (List Nat)) (p q s:Nat × Nat) (hl:∀ r∈l,OkR r) (h6:l.length≤60) (hp:ScOk p) (hq:ScOk q) (hs:ScOk s) (w:World) (hP:RelP w g l ls p q s):
  Calls Tryz.prog 59 #[.pointer (some ⟨g,0,none⟩)] w fun e w'=>∃ v Q,e= .returned v∧Own1 3 encFr w' w.heap.size 117 v (Q.map (frOf l))∧Found (nxR l p q s) (stRg l 2) 10 6 Q∧Below w.heap.size w w':=by
 obtain⟨iF,hiF,hzF,hkF,hbF⟩:=info_parts Tryz.infoFr
 have HP:=Lib.hid hP
 have HSTA:=Lib.hid (fun wx hp'=>start_any g l ls p q s hl h6 2 wx hp')
 have HSEA:=Lib.hid (fun wx hp'=>search_any g l ls p q s hl h6 hp hq hs (stRg l 2) (stRg_ok h6 2) (by show 2≤4;omega) 10 6 2985984 (by omega) (by omega) (fun L h1 h2=>bound_frac _ _ L h1 h2) (by omega) wx hp')
 have HRK:=Lib.hid (runR_ok h6 hp hq hs (stRg_ok h6 2) (by show 2≤4;omega))
 have HBND:=Lib.hid (fun L h1 h2=>bound_frac (nxR l p q s) (stRg l 2) L h1 h2)
 have HON:=Lib.hid (fun o wx hp'=>on_any g l ls p q s h6 o wx hp')
 have HL1:=Lib.hid (on_lt h6 1)
 have HL2:=Lib.hid (on_lt h6 2)
 have HFO:Hid (∀(u:List Nat) (x1 x2 x3 x4:Nat) (x5:Bool),frOf l (u,⟨x1,x2,x3,x4,x5⟩)=⟨if u= [] then [] else 58::chS u,x2,if x5=true then on l 2|||on l 1 else on l 2⟩):=Lib.hid (fun _ _ _ _ _ _=>rfl)
 obtain⟨f,hf⟩:∃ f,nxR l p q s=f:=⟨_,rfl⟩
 obtain⟨o1,ho1⟩:∃ o,on l 1=o:=⟨_,rfl⟩
 obtain⟨o2,ho2⟩:∃ o,on l 2=o:=⟨_,rfl⟩
 have HON1:Hid (∀ wx,RelP wx g l ls p q s→Calls Tryz.prog 89 #[.pointer (some ⟨g,0,none⟩),.int .i64 1] wx fun e w'=>e= .returned (.int .u64 (o1:Nat))∧Below wx.heap.size wx w'):=Lib.hid (fun wx h=>by rw [←ho1];exact HON.out 1 wx h)
 have HON2:Hid (∀ wx,RelP wx g l ls p q s→Calls Tryz.prog 89 #[.pointer (some ⟨g,0,none⟩),.int .i64 2] wx fun e w'=>e= .returned (.int .u64 (o2:Nat))∧Below wx.heap.size wx w'):=Lib.hid (fun wx h=>by rw [←ho2];exact HON.out 2 wx h)
 rw [ho1] at HL1 HFO
 rw [ho2] at HL2 HFO
 rw [hf] at HRK HBND HSEA ⊢
 obtain⟨x0,hx0⟩:∃ x,stRg l 2=x:=⟨_,rfl⟩
 rw [hx0] at HSTA HRK HBND HSEA ⊢
 obtain⟨z1,z2,z3,z4,z5⟩:=x0
 have s2:bits .or .u64 (o2:Int) (o1:Int)=((o2|||o1:Nat):Int):=u64_or_nat o2 o1 HL2.out HL1.out
 obtain⟨o3,ho3⟩:∃ o,o2|||o1=o:=⟨_,rfl⟩
 rw [ho3] at s2 HFO
 obtain⟨G,hG⟩:∃ G,w.heap.size=G:=⟨_,rfl⟩
 have HGE:=Lib.hid hG
 rw [hG]
 clear hP hl hp hq hs hf ho1 ho2 ho3 hx0 HON hG
 go_enter Tryz.func59,Tryz.ntmps59
 go_wp2_with fail
 refine(HSTA.out w HP.out).mono ?_
 rintro e w1 ⟨rfl,b1⟩
 have B1:=Lib.hid b1
 clear b1
 go_wp2_with fail
 refine(HSEA.out w1 (HP.out.below B1.out)).mono ?_
 rintro e w2 ⟨v,Q,rfl,own2,fnd,b2⟩
 obtain⟨pq,cq,hvq⟩:=own2.slice
 subst hvq
 have B2:Hid (Below G w w2):=Lib.hid (by rw [←HGE.out];exact st B1.out b2 B1.out.size)
 have HFD:=Lib.hid fnd
 have HRQ:=Lib.hid (own2.rd encAr_len)
 have HQL:Hid (Q.length≤2985984):=Lib.hid (by
  have:=HBND.out (Q.map Prod.snd) fnd.nd (fun x hx=>by
   obtain⟨z,hz,rfl⟩:=List.mem_map.1 hx
   obtain⟨h1,h2,h3⟩:=fnd.run z hz
   exact⟨z.1,h2,h3,h1⟩)
  rwa [List.length_map] at this)
 have hql:=HQL.out
 have HZ2:Hid (G≤w2.heap.size):=Lib.hid (by have:=B2.out.size;have:=HGE.out;omega)
 clear own2 fnd b2
 go_wp2_with fail
 go_loopw [3,12] (fun v3 v12 wr=>∃ i:Nat,i≤Q.length∧v12= .int .i64 (i:Nat)∧Own1 3 encFr wr w2.heap.size 117 v3 ((Q.take i).map (frOf l))∧Below w2.heap.size w2 wr) (fun _ v12 _=>Q.length - (intOf v12).toNat)
 case atStart=>exact⟨0,Nat.zero_le _,rfl,own1_nil _ _ _,Below.refl _ _⟩
 case round=>
  obtain⟨i,hi,rfl,hown,hb⟩:=hrel
  obtain⟨p3,c3,h3⟩:=hown.slice
  subst h3
  have HO:=Lib.hid hown
  have HB:=Lib.hid hb
  have zr:=hb.size
  clear hown hb
  by_cases hlt:i<Q.length
  ·have h9:(i:Int)<(Q.length:Int):=by omega
   obtain⟨b5,f5,hp5,hl5,c0,c1,c2,c3',c4,c5⟩:=(HRQ.out.below HB.out).arr i hlt
   subst hp5
   have HRUN:=Lib.hid (HFD.out.run _ (List.getElem_mem hlt))
   have HTK:Hid ((Q.take (i+1)).map (frOf l)=(Q.take i).map (frOf l)++ [frOf l Q[i]]):=Lib.hid (by rw [List.take_succ_eq_append_getElem hlt,List.map_append];rfl)
   obtain⟨⟨u,x1,x2,x3,x4,x5⟩,hqe⟩:∃ q,Q[i]=q:=⟨_,rfl⟩
   rw [hqe] at HRUN c0 c1 c2 c3' c4 c5 HTK
   rw [HFO.out] at HTK
   dsimp only at HRUN c0 c1 c2 c3' c4 c5
   have huN:=HRUN.out.2.2
   obtain⟨U,hU⟩:∃ U,chS u=U:=⟨_,rfl⟩
   have HUL:Hid (U.length=u.length):=Lib.hid (by rw [←hU,chS_len])
   rw [hU] at c0 HTK
   obtain⟨L0,hL0⟩:∃ L0,(Q.take i).map (frOf l)=L0:=⟨_,rfl⟩
   have HLL:Hid (L0.length=i):=Lib.hid (by rw [←hL0,List.length_map,List.length_take];omega)
   rw [hL0] at HO HTK ⊢
   have kx:=Blk.new wr 100 #[.string (ofL U),.int .i64 x1,.int .u64 x2,.int .i64 x3,.int .i64 x4,.bool x5]
   have bx:=(Below.refl wr.heap.size wr).alloc (Nat.le_refl _) (.cells #[.string (ofL U),.int .i64 x1,.int .u64 x2,.int .i64 x3,.int .i64 x4,.bool x5] 100)
   obtain⟨gx,hgx⟩:∃ gx,wr.heap.size=gx:=⟨_,rfl⟩
   obtain⟨X,hX⟩:∃ X,wr.alloc (.cells #[.string (ofL U),.int .i64 x1,.int .u64 x2,.int .i64 x3,.int .i64 x4,.bool x5] 100)=X:=⟨_,rfl⟩
   have BX:=Lib.hid (st HB.out bx zr)
   have HOX:=Lib.hid (own_below HO.out bx)
   rw [hX] at kx bx BX HOX
   rw [hgx] at kx
   have HKX:=Lib.hid kx
   have HXE:=Lib.hid hX
   have HLT:Hid (∀ b,(Value.slice p3 L0.length c3).ownBlock=some b→b<gx):=Lib.hid (fun b hb=>by rw [←hgx];exact(own_lt HO.out b hb).2)
   have HPX:=Lib.hid (HP.out.below (by rw [HGE.out];exact B2.out.trans (BX.out.mono HZ2.out)))
   have HGX:Hid (w2.heap.size≤gx):=Lib.hid (by rw [←hgx];exact zr)
   have g0:X.cell? ⟨gx,0,none⟩=some (.string (ofL U)):=kx.cell 0
   clear hqe hU kx bx hX
   go_upto_region 5 with fail
   rw [HXE.out]
   try rw [hgx]
   clear hgx c0 c1 c2 c3' c4 c5 g0 hL0
   obtain⟨wd,hwd⟩:∃ wd,X.drew=wd:=⟨_,rfl⟩
   have HD:=Lib.hid hwd
   have bd:=(Below.refl X.heap.size X).drew
   rw [hwd] at bd
   have BD:=Lib.hid (st BX.out bd (by have:=BX.out.size;omega))
   have HOD:=Lib.hid (own_below HOX.out bd)
   have HKD:=Lib.hid (HKX.out.below bd)
   have HPD:=Lib.hid (HPX.out.below bd)
   clear bd hwd
   go_cut [6] from 16 to 24 (fun v6 wx=>∃ gf:Nat,v6= .pointer (some ⟨gf,0,none⟩)∧gx<gf∧Blk gf 117 #[.string (ofL U),.int .u64 x2,.int .u64 o2] wx∧Blk gx 100 #[.string (ofL U),.int .i64 x1,.int .u64 x2,.int .i64 x3,.int .i64 x4,.bool x5] wx∧Own1 3 encFr wx w2.heap.size 117 (.slice p3 L0.length c3) L0∧Below w2.heap.size w2 wx)
   case first=>
    have HSX:Hid (∀ wx,Below wd.heap.size wd wx→wx.cell? ⟨gx,0,none⟩=some (.string (ofL U))∧wx.cell? ⟨gx,2,none⟩=some (.int .u64 x2)):=Lib.hid (fun wx hb=>⟨(HKD.out.below hb).cell 0,(HKD.out.below hb).cell 2⟩)
    have hS:=HSX.out wd (Below.refl _ _)
    have HFIN:Hid (∀(wx:World) (gf:Nat),Below wd.heap.size wd wx→wd.heap.size≤gf→Blk gf 117 #[.string ⟨#[]⟩,.int .u64 0,.int .u64 0] wx→∃ gf':Nat,Value.pointer (some ⟨gf,0,none⟩)= .pointer (some ⟨gf',0,none⟩)∧gx<gf'∧Blk gf' 117 #[.string (ofL U),.int .u64 x2,.int .u64 o2] (((wx.setCell ⟨gf,0,none⟩ (.string (ofL U))).setCell ⟨gf,1,none⟩ (.int .u64 x2)).setCell ⟨gf,2,none⟩ (.int .u64 o2))∧Blk gx 100 #[.string (ofL U),.int .i64 x1,.int .u64 x2,.int .i64 x3,.int .i64 x4,.bool x5] (((wx.setCell ⟨gf,0,none⟩ (.string (ofL U))).setCell ⟨gf,1,none⟩ (.int .u64 x2)).setCell ⟨gf,2,none⟩ (.int .u64 o2))∧Own1 3 encFr (((wx.setCell ⟨gf,0,none⟩ (.string (ofL U))).setCell ⟨gf,1,none⟩ (.int .u64 x2)).setCell ⟨gf,2,none⟩ (.int .u64 o2)) w2.heap.size 117 (.slice p3 L0.length c3) L0∧Below w2.heap.size w2 (((wx.setCell ⟨gf,0,none⟩ (.string (ofL U))).setCell ⟨gf,1,none⟩ (.int .u64 x2)).setCell ⟨gf,2,none⟩ (.int .u64 o2))):=Lib.hid (fun wx gf hb hge kf=>by
     have hgx2:gx<wd.heap.size:=HKD.out.lt
     have h2:w2.heap.size≤gf:=by have:=BD.out.size;omega
     have hne:(Value.slice p3 L0.length c3).ownBlock≠some gf:=fun e=>by have:=HLT.out gf e;omega
     have hfar:gx≠gf:=by omega
     refine⟨gf,rfl,by omega,((kf.put 0 _).put 1 _).put 2 _,(((HKD.out.below hb).far (p:=⟨gf,0,none⟩) hfar _).far (p:=⟨gf,1,none⟩) hfar _).far (p:=⟨gf,2,none⟩) hfar _,own_setNe (own_setNe (own_setNe (own_below HOD.out hb) hne 0 _) hne 1 _) hne 2 _,((((st BD.out hb (by have:=BD.out.size;omega))).setCell (p:=⟨gf,0,none⟩) h2 _).setCell (p:=⟨gf,1,none⟩) h2 _).setCell (p:=⟨gf,2,none⟩) h2 _⟩)
    refine region_hd 9 (fun wx:World=>wx.cell? ⟨gx,0,none⟩=some (.string (ofL U))∧wx.cell? ⟨gx,2,none⟩=some (.int .u64 x2)) (by kernel_rfl) (by kernel_rfl) ?_
    rw [HD.out]
    refine hd_taken 0 (some 16) _ ?hdv0 rfl rfl (by kernel_rfl) (fun _ _ _ h=>h) (Or.inl ⟨by kernel_rfl,?hdy0⟩) hS ?hdr0
    case hdy0=>(intro wx hx;(try dsimp only at hx);go_simp;try with_reducible rfl)
    try simp only [Act.put,zI,zO,zS]
    refine hd_taken 1 (some 17) _ ?hdv1 rfl rfl (by kernel_rfl) (fun _ _ _ h=>h) (Or.inl ⟨by kernel_rfl,?hdy1⟩) hS ?hdr1
    case hdy1=>(intro wx hx;(try dsimp only at hx);go_simp;try with_reducible rfl)
    try simp only [Act.put,zI,zO,zS]
    refine hd_taken 2 (some 18) _ ?hdv2 rfl rfl (by kernel_rfl) (fun _ _ _ h=>h) (Or.inl ⟨by kernel_rfl,?hdy2⟩) hS ?hdr2
    case hdy2=>(intro wx hx;(try dsimp only at hx);go_simp;try with_reducible rfl)
    try simp only [Act.put,zI,zO,zS]
    refine hd_taken 3 (some 19) _ ?hdv3 rfl rfl (by kernel_rfl) (fun _ _ _ h=>h) (Or.inl ⟨by kernel_rfl,?hdy3⟩) hS ?hdr3
    case hdy3=>(intro wx hx;(try dsimp only at hx);go_simp;try with_reducible rfl)
    try simp only [Act.put,zI,zO,zS]
    refine hd_taken 4 (some 20) _ ?hdv4 rfl rfl (by kernel_rfl) (fun _ _ _ h=>h) (Or.inl ⟨by kernel_rfl,?hdy4⟩) hS ?hdr4
    case hdy4=>(intro wx hx;(try dsimp only at hx);go_simp;try with_reducible rfl)
    try simp only [Act.put,zI,zO,zS]
    refine hd_taken 5 (some 21) _ ?hdv5 rfl rfl (by kernel_rfl) (fun _ _ _ h=>h) (Or.inl ⟨by kernel_rfl,?hdy5⟩) hS ?hdr5
    case hdy5=>(intro wx hx;(try dsimp only at hx);go_simp;try with_reducible rfl)
    try simp only [Act.put,zI,zO,zS]
    refine hd_listI [6,8] (by kernel_rfl) (by decide) (by decide) (fun i hi=>?_)
    simp only [List.mem_cons,List.not_mem_nil,or_false] at hi
    rcases hi with rfl|rfl
    ·refine⟨_,rfl,fun K6 hK6=>?_⟩
     go_simp
     refine(HON2.out wd HPD.out).mono ?_
     rintro e w5 ⟨rfl,b5⟩
     try dsimp only
     refine hK6.out _ _ (HSX.out _ b5) ?_
     clear hK6 K6
     try simp only [Act.put,zI,zO,zS]
     refine hd_taken 7 (some 23) _ ?hdva7 rfl rfl (by kernel_rfl) (fun _ _ _ h=>h) (Or.inl ⟨by kernel_rfl,?hdya7⟩) (HSX.out _ b5) ?hdra7
     case hdya7=>(intro wx hx;(try dsimp only at hx);go_simp;try with_reducible rfl)
     try simp only [Act.put,zI,zO,zS]
     refine hd_one 8 _ rfl (by kernel_rfl) (by decide) (fun K8 hK8=>?_)
     go_simp
     have ba:=st b5 ((Below.refl w5.heap.size w5).alloc (Nat.le_refl _) (.cells #[.string ⟨#[]⟩,.int .u64 0,.int .u64 0] 117)) b5.size
     have ka:=Blk.new w5 117 #[.string ⟨#[]⟩,.int .u64 0,.int .u64 0]
     refine hK8.out _ _ (HSX.out _ ba) ?_
     clear hK8 K8
     try simp only [Act.put,zI,zO,zS]
     refine hd_done (by kernel_rfl) ?_
     simp only [List.drop_succ_cons,List.drop_zero]
     obtain⟨gf,hgf⟩:∃ gf,w5.heap.size=gf:=⟨_,rfl⟩
     obtain⟨wa,hwa⟩:∃ wa,w5.alloc (.cells #[.string ⟨#[]⟩,.int .u64 0,.int .u64 0] 117)=wa:=⟨_,rfl⟩
     have hge:wd.heap.size≤gf:=by rw [←hgf];exact b5.size
     rw [hgf] at ka
     rw [hwa] at ka ba
     try rw [hgf]
     try rw [hwa]
     have e0:wa.cell? ⟨gf,0,none⟩=some (.string ⟨#[]⟩):=ka.cell 0
     have e1:wa.cell? ⟨gf,1,none⟩=some (.int .u64 0):=ka.cell 1
     have e2:wa.cell? ⟨gf,2,none⟩=some (.int .u64 0):=ka.cell 2
     have f0:wa.frozen? ⟨gf,0,none⟩=false:=ka.frozen 0
     have f1:wa.frozen? ⟨gf,1,none⟩=false:=ka.frozen 1
     have f2:wa.frozen? ⟨gf,2,none⟩=false:=ka.frozen 2
     have e3:(wa.setCell ⟨gf,0,none⟩ (.string (ofL U))).cell? ⟨gf,1,none⟩=some (.int .u64 0):=(ka.put 0 _).cell 1
     have f3:(wa.setCell ⟨gf,0,none⟩ (.string (ofL U))).frozen? ⟨gf,1,none⟩=false:=(ka.put 0 _).frozen 1
     have e4:((wa.setCell ⟨gf,0,none⟩ (.string (ofL U))).setCell ⟨gf,1,none⟩ (.int .u64 x2)).cell? ⟨gf,2,none⟩=some (.int .u64 0):=((ka.put 0 _).put 1 _).cell 2
     have f4:((wa.setCell ⟨gf,0,none⟩ (.string (ofL U))).setCell ⟨gf,1,none⟩ (.int .u64 x2)).frozen? ⟨gf,2,none⟩=false:=((ka.put 0 _).put 1 _).frozen 2
     have HF:=Lib.hid (HFIN.out wa gf ba hge ka)
     clear ba ka hge HFIN hS
     go_wp2_with fail
     go_meet
     exact HF.out
    ·refine⟨_,rfl,fun K8 hK8=>?_⟩
     go_simp
     have ba:=(Below.refl wd.heap.size wd).alloc (Nat.le_refl _) (.cells #[.string ⟨#[]⟩,.int .u64 0,.int .u64 0] 117)
     have ka:=Blk.new wd 117 #[.string ⟨#[]⟩,.int .u64 0,.int .u64 0]
     refine hK8.out _ _ (HSX.out _ ba) ?_
     clear hK8 K8
     try simp only [Act.put,zI,zO,zS]
     obtain⟨gf,hgf⟩:∃ gf,wd.heap.size=gf:=⟨_,rfl⟩
     obtain⟨w5,hw5⟩:∃ wa,wd.alloc (.cells #[.string ⟨#[]⟩,.int .u64 0,.int .u64 0] 117)=wa:=⟨_,rfl⟩
     have hge:wd.heap.size≤gf:=by omega
     have HPA:=Lib.hid (HPD.out.below ba)
     rw [hgf] at ka
     rw [hw5] at ka ba HPA
     try rw [hgf]
     try rw [hw5]
     refine hd_one 6 _ rfl (by kernel_rfl) (by decide) (fun K6 hK6=>?_)
     go_simp
     refine(HON2.out w5 HPA.out).mono ?_
     rintro e wa ⟨rfl,b6⟩
     try dsimp only
     have ba:=st ba b6 ba.size
     have ka:=ka.below b6
     refine hK6.out _ _ (HSX.out _ ba) ?_
     clear hK6 K6
     try simp only [Act.put,zI,zO,zS]
     refine hd_taken 7 (some 23) _ ?hdvb7 rfl rfl (by kernel_rfl) (fun _ _ _ h=>h) (Or.inl ⟨by kernel_rfl,?hdyb7⟩) (HSX.out _ ba) ?hdrb7
     case hdyb7=>(intro wx hx;(try dsimp only at hx);go_simp;try with_reducible rfl)
     try simp only [Act.put,zI,zO,zS]
     refine hd_done (by kernel_rfl) ?_
     simp only [List.drop_succ_cons,List.drop_zero]
     have e0:wa.cell? ⟨gf,0,none⟩=some (.string ⟨#[]⟩):=ka.cell 0
     have e1:wa.cell? ⟨gf,1,none⟩=some (.int .u64 0):=ka.cell 1
     have e2:wa.cell? ⟨gf,2,none⟩=some (.int .u64 0):=ka.cell 2
     have f0:wa.frozen? ⟨gf,0,none⟩=false:=ka.frozen 0
     have f1:wa.frozen? ⟨gf,1,none⟩=false:=ka.frozen 1
     have f2:wa.frozen? ⟨gf,2,none⟩=false:=ka.frozen 2
     have e3:(wa.setCell ⟨gf,0,none⟩ (.string (ofL U))).cell? ⟨gf,1,none⟩=some (.int .u64 0):=(ka.put 0 _).cell 1
     have f3:(wa.setCell ⟨gf,0,none⟩ (.string (ofL U))).frozen? ⟨gf,1,none⟩=false:=(ka.put 0 _).frozen 1
     have e4:((wa.setCell ⟨gf,0,none⟩ (.string (ofL U))).setCell ⟨gf,1,none⟩ (.int .u64 x2)).cell? ⟨gf,2,none⟩=some (.int .u64 0):=((ka.put 0 _).put 1 _).cell 2
     have f4:((wa.setCell ⟨gf,0,none⟩ (.string (ofL U))).setCell ⟨gf,1,none⟩ (.int .u64 x2)).frozen? ⟨gf,2,none⟩=false:=((ka.put 0 _).put 1 _).frozen 2
     have HF:=Lib.hid (HFIN.out wa gf ba hge ka)
     clear ba ka hge HFIN hS
     go_wp2_with fail
     go_meet
     exact HF.out
   case rest=>
    rename World=>wc
    obtain⟨gf,rfl,hgf,kf,kx,ho,hb⟩:=hcut
    have HKF:=Lib.hid kf
    have HKX2:=Lib.hid kx
    have HO2:=Lib.hid ho
    have HB2:=Lib.hid hb
    have HGF:Hid (gx<gf∧(Value.slice p3 L0.length c3).ownBlock≠some gf∧w2.heap.size≤gf):=Lib.hid ⟨hgf,fun e=>by have:=HLT.out gf e;omega,by have:=HGX.out;omega⟩
    clear kf kx ho hb hgf HOX HKX HXE HPX HD BD HOD HKD HPD BX HO
    have c0:wc.cell? ⟨gx,0,none⟩=some (.string (ofL U)):=HKX2.out.cell 0
    by_cases hu:u= []
    ·have hU0:U= []:=List.length_eq_zero_iff.1 (by rw [HUL.out,hu];rfl)
     have HUE:=Lib.hid hu
     subst hU0
     have t0:((ofL []).toList != ([]:List UInt8))=false:=by rw [ByteArray.toList_eq];rfl
     have t1:((ofL []).toList==([]:List UInt8))=true:=by rw [ByteArray.toList_eq];rfl
     have HKF0:Hid (Blk gf 117 #[.string (ofL []),.int .u64 x2,.int .u64 o2] wc):=HKF
     clear hu
     go_upto_region 8 with fail
     clear c0 t0 t1
     have r5:wc.cell? ⟨gx,5,none⟩=some (.bool x5):=HKX2.out.cell 5
     cases x5 with
     |false=>
      have HTL:Hid ((Q.take (i+1)).map (frOf l)=L0++ [⟨[],x2,o2⟩]):=Lib.hid (by rw [HTK.out,if_pos HUE.out,if_neg (by decide)])
      have q0:wc.cell? ⟨gf,0,none⟩=some (.string (ofL ([]))):=HKF0.out.cell 0
      have q1:wc.cell? ⟨gf,1,none⟩=some (.int .u64 x2):=HKF0.out.cell 1
      have q2:wc.cell? ⟨gf,2,none⟩=some (.int .u64 o2):=HKF0.out.cell 2
      have HZW:Hid (w2.heap.size≤wc.heap.size):=Lib.hid HB2.out.size
      go_wp2_with (first|(at_builtin;refine wpList_append_lie (w0:=wc) (x:=(⟨[],x2,o2⟩:Fra)) (N:=wc.heap.size) rfl rfl _ _ 114 rfl w2.heap.size iF _ 32 Tryz.underlying114 hiF hzF hkF hbF (by omega) rfl (by omega) encFr_len encFr_one _ L0 rfl rfl HO2.out rfl (by have:=HLL.out;omega) HZW.out ?_;intro v9 w9 y9;obtain⟨p8,q8,e8⟩:=y9.1.slice;subst e8;have Y9:=Lib.hid y9;clear y9)|go_in)
      have HBF:Hid (Below w2.heap.size w2 w9):=Lib.hid (HB2.out.trans Y9.out.2.1)
      have HLF:Hid ((L0++ [(⟨[],x2,o2⟩:Fra)]).length=L0.length+1):=Lib.hid (by simp)
      go_roundw
      case measure=>simp [intOf]<;>omega
      case rel=>exact⟨i+1,by omega,by go_num,by rw [HTL.out];first|exact Y9.out.1|(have:=Y9.out.1;simpa using this),HBF.out⟩
     |true=>
      have HPW:=Lib.hid (HP.out.below (by rw [HGE.out];exact B2.out.trans (HB2.out.mono HZ2.out)))
      have BW:=(Below.refl wc.heap.size wc).drew
      have hS:(fun wx:World=>wx.cell? ⟨gf,2,none⟩=some (.int .u64 o2)) wc.drew:=HKF0.out.cell 2
      have HS2:Hid (∀ wx,Below wc.drew.heap.size wc.drew wx→wx.cell? ⟨gf,2,none⟩=some (.int .u64 o2)):=Lib.hid (fun wx hb=>((HKF0.out.below BW).below hb).cell 2)
      go_upto_region 9 with fail
      clear r5
      refine region_hd 4 (fun wx:World=>wx.cell? ⟨gf,2,none⟩=some (.int .u64 o2)) (by kernel_rfl) (by kernel_rfl) ?_
      refine hd_taken 0 (some 35) _ ?hdvc0 rfl rfl (by kernel_rfl) (fun _ _ _ h=>h) (Or.inl ⟨by kernel_rfl,?hdyc0⟩) hS ?hdrc0
      case hdyc0=>(intro wx hx;(try dsimp only at hx);go_simp;try with_reducible rfl)
      try simp only [Act.put,zI,zO,zS]
      refine hd_taken 1 (some 36) _ ?hdvc1 rfl rfl (by kernel_rfl) (fun _ _ _ h=>h) (Or.inl ⟨by kernel_rfl,?hdyc1⟩) hS ?hdrc1
      case hdyc1=>(intro wx hx;(try dsimp only at hx);go_simp;try with_reducible rfl)
      try simp only [Act.put,zI,zO,zS]
      refine hd_taken 2 (some 37) _ ?hdvc2 rfl rfl (by kernel_rfl) (fun _ _ _ h=>h) (Or.inl ⟨by kernel_rfl,?hdyc2⟩) hS ?hdrc2
      case hdyc2=>(intro wx hx;(try dsimp only at hx);go_simp;try with_reducible rfl)
      try simp only [Act.put,zI,zO,zS]
      refine hd_one 3 _ rfl (by kernel_rfl) (by decide) (fun K3 hK3=>?_)
      go_simp
      refine(HON1.out wc.drew (HPW.out.below BW)).mono ?_
      rintro e w7 ⟨rfl,b7⟩
      try dsimp only
      refine hK3.out _ _ (HS2.out _ b7) ?_
      clear hK3 K3 hS
      try simp only [Act.put,zI,zO,zS]
      refine hd_done (by kernel_rfl) ?_
      simp only [List.drop_succ_cons,List.drop_zero]
      have b8:=BW.trans b7
      have kf:=HKF0.out.below b8
      have HO7:=Lib.hid (own_setNe (own_below HO2.out b8) HGF.out.2.1 2 (.int .u64 o3))
      have KF7:Hid (Blk gf 117 #[.string (ofL ([])),.int .u64 x2,.int .u64 o3] (w7.setCell ⟨gf,2,none⟩ (.int .u64 o3))):=Lib.hid (kf.put 2 _)
      have HB7:=Lib.hid ((st HB2.out b8 HB2.out.size).setCell (p:=⟨gf,2,none⟩) HGF.out.2.2 (.int .u64 o3))
      have r2:w7.cell? ⟨gf,2,none⟩=some (.int .u64 o2):=kf.cell 2
      have r3:w7.frozen? ⟨gf,2,none⟩=false:=kf.frozen 2
      obtain⟨w8,hw8⟩:∃ w8,w7.setCell ⟨gf,2,none⟩ (.int .u64 o3)=w8:=⟨_,rfl⟩
      rw [hw8] at HO7 KF7 HB7
      clear b7 b8 kf BW HS2
      go_upto_region 10 with fail
      try rw [hw8]
      clear hw8 r2 r3
      have HTL:Hid ((Q.take (i+1)).map (frOf l)=L0++ [⟨[],x2,o3⟩]):=Lib.hid (by rw [HTK.out,if_pos HUE.out,if_pos rfl])
      have q0:w8.cell? ⟨gf,0,none⟩=some (.string (ofL ([]))):=KF7.out.cell 0
      have q1:w8.cell? ⟨gf,1,none⟩=some (.int .u64 x2):=KF7.out.cell 1
      have q2:w8.cell? ⟨gf,2,none⟩=some (.int .u64 o3):=KF7.out.cell 2
      have HZW:Hid (w2.heap.size≤w8.heap.size):=Lib.hid HB7.out.size
      go_wp2_with (first|(at_builtin;refine wpList_append_lie (w0:=w8) (x:=(⟨[],x2,o3⟩:Fra)) (N:=w8.heap.size) rfl rfl _ _ 114 rfl w2.heap.size iF _ 32 Tryz.underlying114 hiF hzF hkF hbF (by omega) rfl (by omega) encFr_len encFr_one _ L0 rfl rfl HO7.out rfl (by have:=HLL.out;omega) HZW.out ?_;intro v9 w9 y9;obtain⟨p8,q8,e8⟩:=y9.1.slice;subst e8;have Y9:=Lib.hid y9;clear y9)|go_in)
      have HBF:Hid (Below w2.heap.size w2 w9):=Lib.hid (HB7.out.trans Y9.out.2.1)
      have HLF:Hid ((L0++ [(⟨[],x2,o3⟩:Fra)]).length=L0.length+1):=Lib.hid (by simp)
      go_roundw
      case measure=>simp [intOf]<;>omega
      case rel=>exact⟨i+1,by omega,by go_num,by rw [HTL.out];first|exact Y9.out.1|(have:=Y9.out.1;simpa using this),HBF.out⟩
    ·have hU0:U≠ []:=fun e=>hu (List.length_eq_zero_iff.1 (by rw [←HUL.out,e];rfl))
     have HUE:=Lib.hid hu
     have t0:((ofL U).toList != ([]:List UInt8))=true:=by rw [bne_iff_ne];rw [ByteArray.toList_eq];exact hU0
     have t1:((ofL U).toList==([]:List UInt8))=false:=by rw [beq_eq_false_iff_ne];rw [ByteArray.toList_eq];exact hU0
     have t2:(ofL U).toList.isEmpty=false:=by rw [ByteArray.toList_eq];cases U with|nil=>exact absurd rfl hU0|cons a b=>rfl
     clear hu hU0
     go_upto_region 7 with fail
     clear t0 t1 t2 c0
     have hcut:=fun wx=>colon_cut wx
     have hadd:∀ wx,(Op.stringOp .add (ofL [58]) (ofL U)).run Tryz.prog wx= .ok (.string (ofL (58::U))) wx:=fun wx=>str_add (x:=[58]) (y:=U) (by have:=HUL.out;simp;omega) rfl wx
     have BW:=(Below.refl wc.heap.size wc).drew
     have hS:(fun wx:World=>wx.cell? ⟨gx,0,none⟩=some (.string (ofL U))) wc.drew:=HKX2.out.cell 0
     refine region_hd 3 (fun wx:World=>wx.cell? ⟨gx,0,none⟩=some (.string (ofL U))) (by kernel_rfl) (by kernel_rfl) ?_
     refine hd_taken 0 (some 27) _ ?hdvd0 rfl rfl (by kernel_rfl) (fun _ _ _ h=>h) (Or.inl ⟨by kernel_rfl,?hdyd0⟩) hS ?hdrd0
     case hdyd0=>(intro wx hx;(try dsimp only at hx);go_simp;try with_reducible rfl)
     try simp only [Act.put,zI,zO,zS]
     refine hd_taken 1 (some 28) _ ?hdvd1 rfl rfl (by kernel_rfl) (fun _ _ _ h=>h) (Or.inl ⟨by kernel_rfl,?hdyd1⟩) hS ?hdrd1
     case hdyd1=>(intro wx hx;(try dsimp only at hx);go_simp;try with_reducible rfl)
     try simp only [Act.put,zI,zO,zS]
     refine hd_taken 2 (some 29) _ ?hdvd2 rfl rfl (by kernel_rfl) (fun _ _ _ h=>h) (Or.inl ⟨by kernel_rfl,?hdyd2⟩) hS ?hdrd2
     case hdyd2=>(intro wx hx;(try dsimp only at hx);go_simp;try with_reducible rfl)
     try simp only [Act.put,zI,zO,zS]
     refine hd_done (by kernel_rfl) ?_
     simp only [List.drop_succ_cons,List.drop_zero]
     clear hS
     obtain⟨T,hT⟩:∃ T,58::U=T:=⟨_,rfl⟩
     have HTE:=Lib.hid hT
     rw [hT] at hadd
     have kf:=HKF.out.below BW
     have HO6:=Lib.hid (own_setNe (own_below HO2.out BW) HGF.out.2.1 0 (.string (ofL T)))
     have KF6:Hid (Blk gf 117 #[.string (ofL T),.int .u64 x2,.int .u64 o2] (wc.drew.setCell ⟨gf,0,none⟩ (.string (ofL T)))):=Lib.hid (kf.put 0 _)
     have KX6:=Lib.hid ((HKX2.out.below BW).far (p:=⟨gf,0,none⟩) (by show gx≠gf;have:=HGF.out.1;omega) (.string (ofL T)))
     have HB6:=Lib.hid ((st HB2.out BW HB2.out.size).setCell (p:=⟨gf,0,none⟩) HGF.out.2.2 (.string (ofL T)))
     have r2:wc.drew.cell? ⟨gf,0,none⟩=some (.string (ofL U)):=kf.cell 0
     have r3:wc.drew.frozen? ⟨gf,0,none⟩=false:=kf.frozen 0
     have r4:wc.frozen? ⟨gf,0,none⟩=false:=HKF.out.frozen 0
     obtain⟨we,hwe⟩:∃ we,wc.drew.setCell ⟨gf,0,none⟩ (.string (ofL T))=we:=⟨_,rfl⟩
     rw [hwe] at HO6 KF6 KX6 HB6
     have hwe2:(wc.setCell ⟨gf,0,none⟩ (.string (ofL T))).drew=we:=hwe
     clear kf hT BW
     go_upto_region 8 with fail
     try rw [hwe]
     try rw [hwe2]
     clear hwe hwe2 r2 r3 r4 hcut hadd
     have r5:we.cell? ⟨gx,5,none⟩=some (.bool x5):=KX6.out.cell 5
     cases x5 with
     |false=>
      have HTL:Hid ((Q.take (i+1)).map (frOf l)=L0++ [⟨T,x2,o2⟩]):=Lib.hid (by rw [HTK.out,if_neg HUE.out,HTE.out,if_neg (by decide)])
      have q0:we.cell? ⟨gf,0,none⟩=some (.string (ofL (T))):=KF6.out.cell 0
      have q1:we.cell? ⟨gf,1,none⟩=some (.int .u64 x2):=KF6.out.cell 1
      have q2:we.cell? ⟨gf,2,none⟩=some (.int .u64 o2):=KF6.out.cell 2
      have HZW:Hid (w2.heap.size≤we.heap.size):=Lib.hid HB6.out.size
      go_wp2_with (first|(at_builtin;refine wpList_append_lie (w0:=we) (x:=(⟨T,x2,o2⟩:Fra)) (N:=we.heap.size) rfl rfl _ _ 114 rfl w2.heap.size iF _ 32 Tryz.underlying114 hiF hzF hkF hbF (by omega) rfl (by omega) encFr_len encFr_one _ L0 rfl rfl HO6.out rfl (by have:=HLL.out;omega) HZW.out ?_;intro v9 w9 y9;obtain⟨p8,q8,e8⟩:=y9.1.slice;subst e8;have Y9:=Lib.hid y9;clear y9)|go_in)
      have HBF:Hid (Below w2.heap.size w2 w9):=Lib.hid (HB6.out.trans Y9.out.2.1)
      have HLF:Hid ((L0++ [(⟨T,x2,o2⟩:Fra)]).length=L0.length+1):=Lib.hid (by simp)
      go_roundw
      case measure=>simp [intOf]<;>omega
      case rel=>exact⟨i+1,by omega,by go_num,by rw [HTL.out];first|exact Y9.out.1|(have:=Y9.out.1;simpa using this),HBF.out⟩
     |true=>
      have HPW:=Lib.hid (HP.out.below (by rw [HGE.out];exact B2.out.trans (HB6.out.mono HZ2.out)))
      have BW:=(Below.refl we.heap.size we).drew
      have hS:(fun wx:World=>wx.cell? ⟨gf,2,none⟩=some (.int .u64 o2)) we.drew:=KF6.out.cell 2
      have HS2:Hid (∀ wx,Below we.drew.heap.size we.drew wx→wx.cell? ⟨gf,2,none⟩=some (.int .u64 o2)):=Lib.hid (fun wx hb=>((KF6.out.below BW).below hb).cell 2)
      go_upto_region 9 with fail
      clear r5
      refine region_hd 4 (fun wx:World=>wx.cell? ⟨gf,2,none⟩=some (.int .u64 o2)) (by kernel_rfl) (by kernel_rfl) ?_
      refine hd_taken 0 (some 35) _ ?hdve0 rfl rfl (by kernel_rfl) (fun _ _ _ h=>h) (Or.inl ⟨by kernel_rfl,?hdye0⟩) hS ?hdre0
      case hdye0=>(intro wx hx;(try dsimp only at hx);go_simp;try with_reducible rfl)
      try simp only [Act.put,zI,zO,zS]
      refine hd_taken 1 (some 36) _ ?hdve1 rfl rfl (by kernel_rfl) (fun _ _ _ h=>h) (Or.inl ⟨by kernel_rfl,?hdye1⟩) hS ?hdre1
      case hdye1=>(intro wx hx;(try dsimp only at hx);go_simp;try with_reducible rfl)
      try simp only [Act.put,zI,zO,zS]
      refine hd_taken 2 (some 37) _ ?hdve2 rfl rfl (by kernel_rfl) (fun _ _ _ h=>h) (Or.inl ⟨by kernel_rfl,?hdye2⟩) hS ?hdre2
      case hdye2=>(intro wx hx;(try dsimp only at hx);go_simp;try with_reducible rfl)
      try simp only [Act.put,zI,zO,zS]
      refine hd_one 3 _ rfl (by kernel_rfl) (by decide) (fun K3 hK3=>?_)
      go_simp
      refine(HON1.out we.drew (HPW.out.below BW)).mono ?_
      rintro e w7 ⟨rfl,b7⟩
      try dsimp only
      refine hK3.out _ _ (HS2.out _ b7) ?_
      clear hK3 K3 hS
      try simp only [Act.put,zI,zO,zS]
      refine hd_done (by kernel_rfl) ?_
      simp only [List.drop_succ_cons,List.drop_zero]
      have b8:=BW.trans b7
      have kf:=KF6.out.below b8
      have HO7:=Lib.hid (own_setNe (own_below HO6.out b8) HGF.out.2.1 2 (.int .u64 o3))
      have KF7:Hid (Blk gf 117 #[.string (ofL (T)),.int .u64 x2,.int .u64 o3] (w7.setCell ⟨gf,2,none⟩ (.int .u64 o3))):=Lib.hid (kf.put 2 _)
      have HB7:=Lib.hid ((st HB6.out b8 HB6.out.size).setCell (p:=⟨gf,2,none⟩) HGF.out.2.2 (.int .u64 o3))
      have r2:w7.cell? ⟨gf,2,none⟩=some (.int .u64 o2):=kf.cell 2
      have r3:w7.frozen? ⟨gf,2,none⟩=false:=kf.frozen 2
      obtain⟨w8,hw8⟩:∃ w8,w7.setCell ⟨gf,2,none⟩ (.int .u64 o3)=w8:=⟨_,rfl⟩
      rw [hw8] at HO7 KF7 HB7
      clear b7 b8 kf BW HS2
      go_upto_region 10 with fail
      try rw [hw8]
      clear hw8 r2 r3
      have HTL:Hid ((Q.take (i+1)).map (frOf l)=L0++ [⟨T,x2,o3⟩]):=Lib.hid (by rw [HTK.out,if_neg HUE.out,HTE.out,if_pos rfl])
      have q0:w8.cell? ⟨gf,0,none⟩=some (.string (ofL (T))):=KF7.out.cell 0
      have q1:w8.cell? ⟨gf,1,none⟩=some (.int .u64 x2):=KF7.out.cell 1
      have q2:w8.cell? ⟨gf,2,none⟩=some (.int .u64 o3):=KF7.out.cell 2
      have HZW:Hid (w2.heap.size≤w8.heap.size):=Lib.hid HB7.out.size
      go_wp2_with (first|(at_builtin;refine wpList_append_lie (w0:=w8) (x:=(⟨T,x2,o3⟩:Fra)) (N:=w8.heap.size) rfl rfl _ _ 114 rfl w2.heap.size iF _ 32 Tryz.underlying114 hiF hzF hkF hbF (by omega) rfl (by omega) encFr_len encFr_one _ L0 rfl rfl HO7.out rfl (by have:=HLL.out;omega) HZW.out ?_;intro v9 w9 y9;obtain⟨p8,q8,e8⟩:=y9.1.slice;subst e8;have Y9:=Lib.hid y9;clear y9)|go_in)
      have HBF:Hid (Below w2.heap.size w2 w9):=Lib.hid (HB7.out.trans Y9.out.2.1)
      have HLF:Hid ((L0++ [(⟨T,x2,o3⟩:Fra)]).length=L0.length+1):=Lib.hid (by simp)
      go_roundw
      case measure=>simp [intOf]<;>omega
      case rel=>exact⟨i+1,by omega,by go_num,by rw [HTL.out];first|exact Y9.out.1|(have:=Y9.out.1;simpa using this),HBF.out⟩
  ·obtain rfl:i=Q.length:=by omega
   have h9:¬ (Q.length:Int)<(Q.length:Int):=by omega
   have HOF:Hid (Own1 3 encFr wr G 117 (.slice p3 ((Q.take Q.length).map (frOf l)).length c3) (Q.map (frOf l))):=Lib.hid (by have:=HO.out.base HZ2.out;rwa [List.take_length] at this ⊢)
   have HBZ:=Lib.hid (B2.out.trans (HB.out.mono HZ2.out))
   go_wp2
   go_ret
   first|exact⟨_,Q,rfl,by simpa using HOF.out,HFD.out,HBZ.out⟩|exact⟨_,rfl,Q,by simpa using HOF.out,HFD.out,HBZ.out⟩
end Go.Proofs.YtobapaodpcheiaaGreatDoor
