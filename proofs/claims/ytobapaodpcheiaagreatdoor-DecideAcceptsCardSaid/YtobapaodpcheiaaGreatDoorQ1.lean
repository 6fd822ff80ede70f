/- What the row stands on, part 1. -/
namespace Go.Proofs.YtobapaodpcheiaaGreatDoor
set_option linter.unusedVariables false
theorem zI {α:Type} (xs:List α) (i:Nat) (a:α):xs.toArray.setIfInBounds i a=(xs.set i a).toArray:=List.setIfInBounds_toArray ..
theorem zO {α:Type} (a b:α) (l:List α):(a::l).set 0 b=b::l:=rfl
theorem zS {α:Type} (a b:α) (l:List α) (n:Nat):(a::l).set (n+1) b=a::l.set n b:=rfl
abbrev Str:=List UInt8
def isD (c:UInt8):Bool:=decide (48≤c.toNat)&&decide (c.toNat≤57)
def allD (l:Str):Prop:=∀ c∈l,isD c=true
theorem allD_nil:allD []:=fun c h=>by cases h
theorem allD_app {a b:Str}:allD (a++b)↔allD a∧allD b:=by
 unfold allD
 constructor
 ·intro h;exact⟨fun c hc=>h c (by simp [hc]),fun c hc=>h c (by simp [hc])⟩
 ·rintro⟨h1,h2⟩ c hc
  rcases List.mem_append.1 hc with h|h
  ·exact h1 c h
  ·exact h2 c h
theorem allD_cons {c:UInt8} {l:Str}:allD (c::l)↔isD c=true∧allD l:=by
 unfold allD
 simp
theorem isD_iff {c:UInt8}:isD c=true↔48≤c.toNat∧c.toNat≤57:=by unfold isD;simp
theorem allD_take {l:Str} (h:allD l) (n:Nat):allD (l.take n):=fun c hc=>h c (List.mem_of_mem_take hc)
def zs (n:Nat):Str:=List.replicate n 48
theorem zs_len (n:Nat):(zs n).length=n:=by unfold zs;simp
theorem allD_zs (n:Nat):allD (zs n):=fun c hc=>by rw [(List.mem_replicate.1 hc).2];rfl
theorem zs_succ (n:Nat):zs (n+1)=zs n++ [48]:=by unfold zs;rw [List.replicate_succ']
theorem u8_ext {a b:UInt8} (h:a.toNat=b.toNat):a=b:=UInt8.toNat_inj.1 h
def dg (c:UInt8):Nat:=c.toNat - 48
def stp (n:Nat) (c:UInt8):Nat:=n*10+dg c
theorem stp_eq (n:Nat) (c:UInt8):stp n c=n*10+dg c:=by unfold stp;with_reducible rfl
attribute [irreducible] stp
def valA (n:Nat) (l:Str):Nat:=l.foldl stp n
def val (l:Str):Nat:=valA 0 l
theorem valA_nil (n:Nat):valA n []=n:=rfl
theorem valA_cons (n:Nat) (c:UInt8) (l:Str):valA n (c::l)=valA (stp n c) l:=by unfold valA;rw [List.foldl_cons]
theorem valA_app (a b:Str) (n:Nat):valA n (a++b)=valA (valA n a) b:=List.foldl_append ..
theorem dg_48:dg 48=0:=by unfold dg;rfl
theorem valA_eq:∀(l:Str) (n:Nat),valA n l=n*10 ^ l.length+val l
 |[],n=>by simp [valA_nil,val]
 |c::l,n=>by
  have h1:=valA_eq l (stp n c)
  have h2:=valA_eq l (stp 0 c)
  have e:val (c::l)=valA (stp 0 c) l:=valA_cons 0 c l
  rw [valA_cons,h1,e,h2,List.length_cons,Nat.pow_succ,stp_eq,stp_eq]
  rw [Nat.add_mul,Nat.mul_assoc,Nat.mul_comm 10,Nat.zero_mul,Nat.zero_add]
  omega
theorem val_nil:val []=0:=rfl
theorem val_cons (c:UInt8) (l:Str):val (c::l)=dg c*10 ^ l.length+val l:=by
 have e:val (c::l)=valA (stp 0 c) l:=valA_cons 0 c l
 rw [e,valA_eq,stp_eq,Nat.zero_mul,Nat.zero_add]
theorem val_app (a b:Str):val (a++b)=val a*10 ^ b.length+val b:=by
 unfold val
 rw [valA_app]
 exact valA_eq b _
theorem val_snoc (a:Str) (c:UInt8):val (a++ [c])=val a*10+dg c:=by
 rw [val_app,val_cons,val_nil]
 simp
theorem dg_le {c:UInt8} (h:isD c=true):dg c≤9:=by rw [isD_iff] at h;unfold dg;omega
theorem val_lt:∀ {l:Str},allD l→val l<10 ^ l.length
 |[],_=>by simp [val_nil]
 |c::l,h=>by
  rw [allD_cons] at h
  have h1:=val_lt h.2
  have h2:=dg_le h.1
  rw [val_cons,List.length_cons,Nat.pow_succ]
  have:=Nat.mul_le_mul_right (10 ^ l.length) h2
  omega
theorem val_zs (n:Nat):val (zs n)=0:=by
 induction n with
 |zero=>rfl
 |succ n ih=>rw [zs_succ,val_snoc,ih,dg_48]
def zero (l:Str):Bool:=l.all (· ==48)
theorem zero_iff {l:Str} (h:allD l):zero l=true↔val l=0:=by
 induction l with
 |nil=>simp [zero,val_nil]
 |cons c l ih=>
  rw [allD_cons] at h
  have ih:=ih h.2
  have hz:zero (c::l)=(c==48&&zero l):=rfl
  rw [hz,val_cons,Bool.and_eq_true,ih,beq_iff_eq]
  have hp:0<10 ^ l.length:=Nat.pow_pos (by omega)
  constructor
  ·rintro⟨rfl,h2⟩
   rw [h2,dg_48]
   simp
  ·intro h2
   have h3:dg c*10 ^ l.length=0:=by omega
   have h4:dg c=0:=by
    rcases Nat.eq_zero_or_pos (dg c) with h5|h5
    ·exact h5
    ·have:=Nat.mul_pos h5 hp
     omega
   refine⟨?_,by omega⟩
   have h5:=isD_iff.1 h.1
   apply u8_ext
   unfold dg at h4
   show c.toNat=48
   omega
theorem zero_app (a b:Str):zero (a++b)=(zero a&&zero b):=by unfold zero;rw [List.all_append]
theorem zero_zs (n:Nat):zero (zs n)=true:=by unfold zero zs;simp
def tl (l:Str):Nat→Nat
 |0=>0
 |n+1=>if l.getD n 0==48 then tl l n else n+1
theorem tl_le (l:Str):∀ n,tl l n≤n
 |0=>Nat.le_refl _
 |n+1=>by
  rw [tl]
  split
  ·exact Nat.le_succ_of_le (tl_le l n)
  ·exact Nat.le_refl _
def trim (l:Str):Str:=l.take (tl l l.length)
theorem tl_split (l:Str):∀ n,n≤l.length→l.take n=l.take (tl l n)++zs (n - tl l n)
 |0,_=>by simp [tl,zs]
 |n+1,h=>by
  rw [tl]
  split
  ·rename_i hc
   have ih:=tl_split l n (by omega)
   have hl:=tl_le l n
   have hg:l.getD n 0=48:=by simpa using hc
   have hg2:l[n]'(by omega)=48:=by
    rw [List.getD_eq_getElem?_getD,List.getElem?_eq_getElem (by omega)] at hg
    exact hg
   rw [List.take_succ_eq_append_getElem (by omega),ih,hg2,show n+1 - tl l n=(n - tl l n)+1 by omega,zs_succ,List.append_assoc]
  ·simp [zs]
theorem trim_split (l:Str):l=trim l++zs (l.length - (trim l).length):=by
 have h:=tl_split l l.length (Nat.le_refl _)
 rw [List.take_length] at h
 have hl:(trim l).length=tl l l.length:=by unfold trim;rw [List.length_take];have:=tl_le l l.length;omega
 rw [hl]
 exact h
theorem trim_len (l:Str):(trim l).length≤l.length:=by unfold trim;rw [List.length_take];omega
theorem trim_len_eq (l:Str):(trim l).length=tl l l.length:=by unfold trim;rw [List.length_take];have:=tl_le l l.length;omega
theorem trim_allD {l:Str} (h:allD l):allD (trim l):=allD_take h _
theorem tl_last (l:Str):∀ n,tl l n=0∨l.getD (tl l n - 1) 0≠48
 |0=> .inl rfl
 |n+1=>by
  rw [tl]
  split
  ·exact tl_last l n
  ·rename_i h
   right
   simpa using h
theorem tl_stop {l:Str} {n:Nat} (h:n=0∨l.getD (n - 1) 0≠48):tl l n=n:=by
 cases n with
 |zero=>rfl
 |succ n=>
  rw [tl,if_neg]
  rcases h with h|h
  ·omega
  ·simpa using h
theorem tl_zs (a:Str):∀ n,tl (a++zs n) (a.length+n)=tl (a++zs n) a.length
 |0=>rfl
 |n+1=>by
  rw [show a.length+(n+1)=(a.length+n)+1 by omega,tl]
  have h1:(a++zs (n+1)).getD (a.length+n) 0=48:=by
   rw [List.getD_eq_getElem?_getD,List.getElem?_append_right (by omega),show a.length+n - a.length=n by omega]
   unfold zs
   rw [List.getElem?_replicate,if_pos (by omega)]
   rfl
  rw [if_pos (by rw [h1];rfl)]
  have e:∀ k m,k≤a.length+m→tl (a++zs (m+1)) k=tl (a++zs m) k:=by
   intro k m
   induction k with
   |zero=>intro _;rfl
   |succ k ih=>
    intro hk
    rw [tl,tl,ih (by omega)]
    have:(a++zs (m+1)).getD k 0=(a++zs m).getD k 0:=by
     rw [zs_succ,←List.append_assoc,List.getD_eq_getElem?_getD,List.getD_eq_getElem?_getD,List.getElem?_append_left (by rw [List.length_append,zs_len];omega)]
    rw [this]
  rw [e _ n (by omega),tl_zs a n,e _ n (by omega)]
theorem tl_app (a b:Str):∀ k,k≤a.length→tl (a++b) k=tl a k
 |0,_=>rfl
 |k+1,h=>by
  rw [tl,tl,tl_app a b k (by omega)]
  have:(a++b).getD k 0=a.getD k 0:=by
   rw [List.getD_eq_getElem?_getD,List.getD_eq_getElem?_getD,List.getElem?_append_left (by omega)]
  rw [this]
theorem trim_app_zs (a:Str) (n:Nat):trim (a++zs n)=trim a:=by
 unfold trim
 rw [List.length_append,zs_len,tl_zs,tl_app a _ _ (Nat.le_refl _),List.take_append_of_le_length (tl_le _ _)]
theorem trim_nil_iff {l:Str}:trim l= []↔zero l=true:=by
 constructor
 ·intro h
  have h2:=trim_split l
  rw [h,List.nil_append] at h2
  rw [h2]
  exact zero_zs _
 ·intro h
  have h2:l=zs l.length:=by
   unfold zero at h
   unfold zs
   rw [List.eq_replicate_iff]
   refine⟨rfl,fun b hb=>?_⟩
   have:=List.all_eq_true.1 h b hb
   simpa using this
  rw [h2]
  have:=trim_app_zs [] l.length
  rw [List.nil_append] at this
  rw [this]
  rfl
def lead:Str→Str
 |[]=>[]
 |[c]=>[c]
 |c::d::l=>if c==48 then lead (d::l) else c::d::l
def slim (l:Str):Prop:=1<l.length→l.head?≠some 48
structure Num where
 neg:Bool
 wh:Str
 fr:Str
structure Good (x:Num):Prop where
 dw:allD x.wh
 df:allD x.fr
 low:1≤x.wh.length
 high:x.wh.length≤15
 lead:slim x.wh
 few:x.fr.length≤6
 sign:x.neg=true→zero (x.wh++x.fr)=false
def txt (x:Num):Str:=(if x.neg=true then [45] else [])++(x.wh++(if x.fr= [] then [] else 46::x.fr))
def fin (neg:Bool) (w f:Str):Option Str:=if 15<(lead w).length∨6<f.length then none else some (txt ⟨neg&&!zero (lead w++f),lead w,f⟩)
def run:Nat→Str→Nat
 |0,_=>0
 |_+1,[]=>0
 |m+1,c::l=>if isD c=true then run m l+1 else 0
theorem run_le:∀(m:Nat) (l:Str),run m l≤m∧run m l≤l.length
 |0,_=>⟨Nat.le_refl _,Nat.zero_le _⟩
 |_+1,[]=>⟨Nat.zero_le _,Nat.zero_le _⟩
 |m+1,c::l=>by
  rw [run]
  split
  ·have:=run_le m l
   simp
   omega
  ·exact⟨Nat.zero_le _,Nat.zero_le _⟩
theorem run_allD:∀(m:Nat) (l:Str),allD (l.take (run m l))
 |0,_=>by simp [run,allD_nil]
 |_+1,[]=>by simp [allD_nil]
 |m+1,c::l=>by
  rw [run]
  split
  ·rename_i h
   rw [List.take_succ_cons,allD_cons]
   exact⟨h,run_allD m l⟩
  ·simp [allD_nil]
theorem run_app:∀(m:Nat) (a b:Str),allD a→a.length≤m→(∀ c,b.head? =some c→isD c=false)→run m (a++b)=a.length
 |0,a,b,_,h,_=>by
  have:a= []:=List.eq_nil_of_length_eq_zero (by omega)
  rw [this];rfl
 |m+1,[],[],_,_,_=>rfl
 |m+1,[],c::b,_,_,h=>by
  rw [List.nil_append,run,if_neg (by rw [h c rfl];simp)]
  rfl
 |m+1,c::a,b,ha,hl,h=>by
  rw [allD_cons] at ha
  rw [List.cons_append,run,if_pos ha.1,run_app m a b ha.2 (by simpa using hl) h]
  rfl
def frP (s2:Str):Str:=if s2.head? =some 46 then s2.tail.take (run 6 s2.tail) else []
def reP (s2:Str):Str:=if s2.head? =some 46 then s2.tail.drop (run 6 s2.tail) else s2
def okP (wh s2:Str):Bool:=(decide (wh.length=1)||(decide (1<wh.length)&&decide (wh.head?≠some 48)))&&(decide (s2.head?≠some 46)||decide (0<(frP s2).length))
def splU (neg:Bool) (s1:Str):Option Num:=
 let wh:=s1.take (run 15 s1)
 let s2:=s1.drop (run 15 s1)
 if okP wh s2=true∧reP s2= []∧(neg&&(zero (wh++frP s2)))=false then some ⟨neg,wh,frP s2⟩ else none
def negP (s:Str):Bool:=decide (s.head? =some 45)
def unP (s:Str):Str:=if s.head? =some 45 then s.tail else s
def spl (s:Str):Option Num:=splU (negP s) (unP s)
def tx1 (x:Num):Str:=x.wh++(if x.fr= [] then [] else 46::x.fr)
theorem txt_eq (x:Num):txt x=(if x.neg=true then [45] else [])++tx1 x:=rfl
theorem head_isD {x:Num} (g:Good x):∀ c,(tx1 x).head? =some c→isD c=true:=by
 intro c h
 have hp:=g.low
 unfold tx1 at h
 cases hw:x.wh with
 |nil=>rw [hw] at hp;simp at hp
 |cons d l=>
  rw [hw] at h
  simp at h
  subst h
  exact g.dw d (by rw [hw];simp)
theorem negP_txt {x:Num} (g:Good x):negP (txt x)=x.neg∧unP (txt x)=tx1 x:=by
 rw [txt_eq]
 cases hn:x.neg with
 |true=>exact⟨rfl,rfl⟩
 |false=>
  have h:(tx1 x).head?≠some 45:=fun h=>by
   have:=head_isD g 45 h
   exact absurd this (by decide)
  unfold negP unP
  simp [h]
theorem spl_of {x:Num} (g:Good x):spl (txt x)=some x:=by
 obtain⟨h1,h2⟩:=negP_txt g
 unfold spl
 rw [h1,h2]
 have hr:run 15 (tx1 x)=x.wh.length:=by
  refine run_app 15 _ _ g.dw g.high (fun c hc=>?_)
  split at hc
  ·cases hc
  ·simp at hc;subst hc;rfl
 have ht:(tx1 x).take x.wh.length=x.wh:=by unfold tx1;rw [List.take_left]
 have hd:(tx1 x).drop x.wh.length=if x.fr= [] then [] else 46::x.fr:=by unfold tx1;rw [List.drop_left]
 unfold splU
 simp only [hr,ht,hd]
 have hf:frP (if x.fr= [] then [] else 46::x.fr)=x.fr∧reP (if x.fr= [] then [] else 46::x.fr)= []:=by
  by_cases h0:x.fr= []
  ·rw [if_pos h0,h0];exact⟨rfl,rfl⟩
  ·rw [if_neg h0]
   have hr6:run 6 x.fr=x.fr.length:=by
    have:=run_app 6 x.fr [] g.df g.few (fun c hc=>by cases hc)
    rwa [List.append_nil] at this
   unfold frP reP
   simp [hr6]
 rw [hf.1,hf.2]
 have hok:okP x.wh (if x.fr= [] then [] else 46::x.fr)=true:=by
  unfold okP
  rw [hf.1]
  have hl:=g.low
  have a1:(decide (x.wh.length=1)||(decide (1<x.wh.length)&&decide (x.wh.head?≠some 48)))=true:=by
   rcases Nat.lt_or_ge 1 x.wh.length with h|h
   ·have:=g.lead h
    simp [h,this]
   ·have:x.wh.length=1:=by omega
    simp [this]
  rw [a1,Bool.true_and]
  by_cases h0:x.fr= []
  ·simp [h0]
  ·have:=List.length_pos_iff.2 h0
   simp [this]
 rw [if_pos]
 refine⟨hok,rfl,?_⟩
 cases hn:x.neg with
 |true=>rw [g.sign hn];rfl
 |false=>rfl
theorem tail_of {s:Str} {c:UInt8} (h:s.head? =some c):s=c::s.tail:=by
 cases s with
 |nil=>cases h
 |cons d l=>simp at h;subst h;rfl
theorem unP_eq (s:Str):s=(if negP s=true then [45] else [])++unP s:=by
 unfold negP unP
 by_cases h:s.head? =some 45
 ·simp [h]
  exact tail_of h
 ·simp [h]
theorem frP_eq (s2:Str) (h:reP s2= []):s2=(if s2.head? =some 46 then 46::frP s2 else []):=by
 unfold reP at h
 unfold frP
 by_cases h0:s2.head? =some 46
 ·rw [if_pos h0] at h ⊢
  rw [if_pos h0]
  have h2:=List.take_append_drop (run 6 s2.tail) s2.tail
  rw [h,List.append_nil] at h2
  rw [h2]
  exact tail_of h0
 ·simp [h0] at h ⊢
  exact h
theorem frP_allD (s2:Str):allD (frP s2)∧(frP s2).length≤6:=by
 unfold frP
 split
 ·refine⟨run_allD _ _,?_⟩
  have:=run_le 6 s2.tail
  rw [List.length_take];omega
 ·exact⟨allD_nil,by simp⟩
theorem spl_some {s:Str} {x:Num} (h:spl s=some x):Good x∧txt x=s:=by
 unfold spl splU at h
 dsimp only at h
 split at h
 case isFalse=>cases h
 rename_i hc
 obtain⟨h1,h2,h3⟩:=hc
 cases h
 have hr:=run_le 15 (unP s)
 unfold okP at h1
 rw [Bool.and_eq_true] at h1
 obtain⟨h4,h5⟩:=h1
 have hlen:((unP s).take (run 15 (unP s))).length=run 15 (unP s):=by rw [List.length_take];omega
 refine⟨⟨run_allD _ _,(frP_allD _).1,?_,by dsimp only;rw [hlen];exact hr.1,?_,(frP_allD _).2,?_⟩,?_⟩
 ·dsimp only
  simp only [Bool.or_eq_true,Bool.and_eq_true,decide_eq_true_eq] at h4
  omega
 ·intro hl
  dsimp only at hl ⊢
  simp only [Bool.or_eq_true,Bool.and_eq_true,decide_eq_true_eq] at h4
  rcases h4 with h4|h4
  ·omega
  ·exact h4.2
 ·intro hn
  dsimp only at hn ⊢
  rw [hn] at h3
  simpa using h3
 ·conv=>rhs;rw [unP_eq s,←List.take_append_drop (run 15 (unP s)) (unP s),frP_eq _ h2]
  unfold txt
  dsimp only
  congr 2
  by_cases h0:((unP s).drop (run 15 (unP s))).head? =some 46
  ·rw [if_pos h0]
   simp only [h0,ne_eq,not_true_eq_false,decide_false,Bool.false_or,decide_eq_true_eq] at h5
   rw [if_neg (List.ne_nil_of_length_pos h5)]
  ·rw [if_neg h0]
   have:frP ((unP s).drop (run 15 (unP s)))= []:=by unfold frP;rw [if_neg h0]
   rw [this,if_pos rfl]
theorem spl_iff {s:Str} {x:Num}:spl s=some x↔Good x∧txt x=s:=⟨spl_some,fun⟨g,h⟩=>by rw [←h];exact spl_of g⟩
def adb (l:Str):Bool:=l.all isD
theorem adb_iff {l:Str}:adb l=true↔allD l:=by unfold adb allD;rw [List.all_eq_true]
def dot (s:Str):Nat:=(s.takeWhile (· != 46)).length
def chk (neg:Bool) (wh fr:Str):Bool:=decide (1≤wh.length)&&decide (wh.length≤15)&&!(decide (1<wh.length)&&decide (wh.head? =some 48))&&decide (fr.length≤6)&&!(neg&&zero (wh++fr))
def splR (neg:Bool) (s1:Str):Option Num:=
 let wh:=s1.take (dot s1)
 let fr:=s1.drop (dot s1+1)
 if ¬ (dot s1<s1.length∧fr= [])∧adb (wh++fr)=true∧chk neg wh fr=true then some ⟨neg,wh,fr⟩ else none
theorem dot_drop (s:Str) (h:dot s<s.length):s.drop (dot s)=46::s.drop (dot s+1):=by
 induction s with
 |nil=>simp at h
 |cons c l ih=>
  unfold dot at h ⊢
  by_cases hc:c=46
  ·subst hc;simp [List.takeWhile_cons]
  ·have hc':(c != 46)=true:=by simpa using hc
   rw [List.takeWhile_cons,if_pos hc'] at h ⊢
   rw [List.length_cons,List.drop_succ_cons,List.drop_succ_cons]
   exact ih (by unfold dot;simpa using h)
theorem dot_app (a b:Str) (ha:allD a) (h:b= []∨b.head? =some 46):dot (a++b)=a.length:=by
 induction a with
 |nil=>
  rcases h with rfl|h
  ·rfl
  ·rw [tail_of h];rfl
 |cons c l ih=>
  rw [allD_cons] at ha
  have ih:=ih ha.2
  unfold dot at ih ⊢
  have hc:(c != 46)=true:=by
   rw [bne_iff_ne]
   rintro rfl
   exact absurd ha.1 (by decide)
  rw [List.cons_append,List.takeWhile_cons,if_pos hc,List.length_cons,ih,List.length_cons]
theorem splR_iff {neg:Bool} {s1:Str} {x:Num}:splR neg s1=some x↔Good x∧x.neg=neg∧tx1 x=s1:=by
 constructor
 ·intro h
  unfold splR at h
  dsimp only at h
  split at h
  case isFalse=>cases h
  rename_i hc
  obtain⟨h1,h2,h3⟩:=hc
  cases h
  rw [adb_iff,allD_app] at h2
  unfold chk at h3
  simp only [Bool.and_eq_true,decide_eq_true_eq,Bool.not_eq_true',Bool.and_eq_false_iff,decide_eq_false_iff_not] at h3
  obtain⟨⟨⟨⟨k1,k2⟩,k3⟩,k4⟩,k5⟩:=h3
  refine⟨⟨h2.1,h2.2,k1,k2,?_,k4,?_⟩,rfl,?_⟩
  ·intro hl
   rcases k3 with k3|k3
   ·exact absurd hl k3
   ·exact k3
  ·intro hn
   dsimp only at hn ⊢
   rcases k5 with k5|k5
   ·rw [k5] at hn;cases hn
   ·exact k5
  ·unfold tx1
   dsimp only
   rcases Nat.lt_or_ge (dot s1) s1.length with h0|h0
   ·rw [if_neg (fun e=>h1 ⟨h0,e⟩),←dot_drop s1 h0,List.take_append_drop]
   ·have e1:s1.drop (dot s1+1)= []:=List.drop_eq_nil_of_le (by omega)
    rw [e1,if_pos rfl,List.append_nil,List.take_of_length_le h0]
 ·rintro⟨g,rfl,rfl⟩
  have hd:dot (tx1 x)=x.wh.length:=dot_app _ _ g.dw (by split<;>simp)
  have ht:(tx1 x).take x.wh.length=x.wh:=by unfold tx1;rw [List.take_left]
  have hf:(tx1 x).drop (x.wh.length+1)=x.fr:=by
   unfold tx1
   rw [Nat.add_comm,←List.drop_drop]
   split
   ·rename_i h0
    rw [h0,List.append_nil,List.drop_eq_nil_of_le]
    rw [List.length_drop];have:=g.low;omega
   ·rename_i h0
    rw [List.drop_drop,Nat.add_comm,←List.drop_drop,List.drop_left]
    rfl
  unfold splR
  simp only [hd,ht,hf]
  rw [if_pos]
  refine⟨?_,adb_iff.2 (allD_app.2 ⟨g.dw,g.df⟩),?_⟩
  ·rintro⟨h,h0⟩
   unfold tx1 at h
   rw [if_pos h0] at h
   simp at h
  ·unfold chk
   have a1:=g.low
   have a2:=g.high
   have a3:=g.few
   have a4:(decide (1<x.wh.length)&&decide (x.wh.head? =some 48))=false:=by
    rcases Nat.lt_or_ge 1 x.wh.length with h|h
    ·have:=g.lead h
     simp [this]
    ·simp;omega
   have a5:(x.neg&&zero (x.wh++x.fr))=false:=by
    cases hn:x.neg with
    |true=>rw [g.sign hn];rfl
    |false=>rfl
   rw [a4,a5]
   simp [a1,a2,a3]
theorem spl_splR (s:Str):spl s=splR (negP s) (unP s):=by
 apply Option.ext
 intro x
 rw [spl_iff,splR_iff]
 constructor
 ·rintro⟨g,rfl⟩
  obtain⟨h1,h2⟩:=negP_txt g
  exact⟨g,h1.symm,h2.symm⟩
 ·rintro⟨g,h1,h2⟩
  refine⟨g,?_⟩
  rw [unP_eq s,txt_eq,h1,h2]
def W (x:Num):Nat:=val (x.wh++x.fr)
def mag (x:Num):Nat:=W x*10 ^ (6 - x.fr.length)
def V (x:Num):Int:=if x.neg=true then -(mag x:Int) else(mag x:Int)
theorem p10 (n:Nat):0<10 ^ n:=Nat.pow_pos (by omega)
theorem val_trim (l:Str):val l=val (trim l)*10 ^ (l.length - (trim l).length):=by
 conv=>lhs;rw [trim_split l,val_app,val_zs,zs_len]
 rfl
structure Rel where
 op:Int
 md:Int
 nt:Bool
 sp:List (Int × Int)
deriving DecidableEq
abbrev Cnd:=List (List Rel)
def digs (o:Int):Bool:=decide (o=3)||decide (o=4)
def okEnd (o n:Int):Bool:=decide (0≤n)&&decide (n≤if digs o=true then 6 else 100)
def okMod (o n:Int):Bool:=
 if n=0 then true
 else if n=10∨n=100 then !digs o
 else if n=2∨n=3∨n=4∨n=5∨n=6∨n=20∨n=25∨n=50 then decide (o=1)||decide (o=2)
 else false
def okSp (o:Int) (s:Int × Int):Bool:=okEnd o s.1&&okEnd o s.2&&decide (s.1≤s.2)
def okR (r:Rel):Bool:=decide (1≤r.op)&&decide (r.op≤6)&&okMod r.op r.md&&decide (0<r.sp.length)&&decide (r.sp.length≤4)&&r.sp.all (okSp r.op)
def okL (l:List Rel):Bool:=decide (0<l.length)&&l.all okR
def cnt (c:Cnd):Nat:=(c.map List.length).sum
def okC (c:Cnd):Bool:=decide (0<c.length)&&c.all okL&&decide (cnt c≤6)
theorem okEnd_iff {o n:Int}:okEnd o n=true↔0≤n∧n≤if digs o=true then 6 else 100:=by unfold okEnd;simp
theorem okEnd_le {o n:Int} (h:okEnd o n=true):0≤n∧n≤100:=by
 rw [okEnd_iff] at h
 refine⟨h.1,Int.le_trans h.2 ?_⟩
 split<;>omega
theorem okSp_le {o:Int} {s:Int × Int} (h:okSp o s=true):0≤s.1∧s.1≤s.2∧s.2≤100:=by
 unfold okSp at h
 simp only [Bool.and_eq_true,decide_eq_true_eq] at h
 have h1:=okEnd_le h.1.1
 have h2:=okEnd_le h.1.2
 omega
structure OkR (r:Rel):Prop where
 lo:1≤r.op
 hi:r.op≤6
 md:okMod r.op r.md=true
 some_:0<r.sp.length
 few:r.sp.length≤4
 sp:∀ s∈r.sp,okSp r.op s=true
theorem okR_iff {r:Rel}:okR r=true↔OkR r:=by
 unfold okR
 simp only [Bool.and_eq_true,decide_eq_true_eq,List.all_eq_true]
 exact⟨fun⟨⟨⟨⟨⟨h1,h2⟩,h3⟩,h4⟩,h5⟩,h6⟩=>⟨h1,h2,h3,h4,h5,h6⟩,fun h=>⟨⟨⟨⟨⟨h.lo,h.hi⟩,h.md⟩,h.some_⟩,h.few⟩,h.sp⟩⟩
theorem okMod_le {o n:Int} (h:okMod o n=true):0≤n∧n≤100:=by
 unfold okMod at h
 split at h
 ·omega
 ·split at h
  ·omega
  ·split at h
   ·omega
   ·cases h
theorem okL_iff {l:List Rel}:okL l=true↔0<l.length∧∀ r∈l,okR r=true:=by
 unfold okL
 simp only [Bool.and_eq_true,decide_eq_true_eq,List.all_eq_true]
theorem okC_iff {c:Cnd}:okC c=true↔0<c.length∧(∀ l∈c,okL l=true)∧cnt c≤6:=by
 unfold okC
 simp only [Bool.and_eq_true,decide_eq_true_eq,List.all_eq_true]
 exact⟨fun h=>⟨h.1.1,h.1.2,h.2⟩,fun h=>⟨⟨h.1,h.2.1⟩,h.2.2⟩⟩
theorem cnt_nil:cnt []=0:=rfl
theorem cnt_cons (l:List Rel) (c:Cnd):cnt (l::c)=l.length+cnt c:=rfl
theorem cnt_app (a b:Cnd):cnt (a++b)=cnt a+cnt b:=by
 induction a with
 |nil=>simp [cnt_nil]
 |cons x a ih=>rw [List.cons_append,cnt_cons,cnt_cons,ih];omega
theorem cnt_take_succ {c:Cnd} {i:Nat} (h:i<c.length):cnt (c.take (i+1))=cnt (c.take i)+c[i].length:=by
 rw [List.take_succ_eq_append_getElem h,cnt_app,cnt_cons,cnt_nil];omega
theorem cnt_take_le (c:Cnd) (i:Nat):cnt (c.take i)≤cnt c:=by
 have:=cnt_app (c.take i) (c.drop i)
 rw [List.take_append_drop] at this
 omega
theorem cnt_get {c:Cnd} {l:List Rel} (h:l∈c):l.length≤cnt c:=by
 induction c with
 |nil=>cases h
 |cons x c ih=>
  rw [cnt_cons]
  rcases List.mem_cons.1 h with rfl|h
  ·omega
  ·have:=ih h;omega
theorem len_le_cnt {c:Cnd} (h:∀ l∈c,okL l=true):c.length≤cnt c:=by
 induction c with
 |nil=>simp
 |cons x c ih=>
  rw [cnt_cons,List.length_cons]
  have h1:=(okL_iff.1 (h x (by simp))).1
  have h2:=ih (fun l hl=>h l (by simp [hl]))
  omega
def inside (sp:List (Int × Int)) (n:Int):Bool:=sp.any fun s=>decide (s.1≤n)&&decide (n≤s.2)
def rem (m n:Int):Int:=if m=0 then n else n.tmod m
def opnd (x:Num) (k:Int):Int × Int:=
 if k=1 then(if zero x.fr=true then((val x.wh:Int),0) else(0,8))
 else if k=2 then((val x.wh:Int),0)
 else if k=3 then((x.fr.length:Int),0)
 else if k=4 then(((trim x.fr).length:Int),0)
 else if k=5 then((val x.fr:Int),0)
 else if k=6 then((val (trim x.fr):Int),0)
 else(0,1)
def opR (s:Str) (k:Int):Int × Int:=match spl s with
 |none=>(0,1)
 |some x=>opnd x k
def hldO (r:Rel) (p:Int × Int):Bool:=if p.2=0 then(inside r.sp (rem r.md p.1)) != r.nt else r.nt
def hldR (s:Str) (r:Rel):Bool:=hldO r (opR s r.op)
def hldL (s:Str) (l:List Rel):Bool:=l.all (hldR s)
def hldC (s:Str) (c:Cnd):Bool:=c.any (hldL s)
def holdR (c:Cnd) (s:Str):Bool × Int:=if okC c=true∧(spl s).isSome=true then(hldC s c,0) else(false,1)
def dtx (n:Nat):Str:=if n<10 then [UInt8.ofNat (48+n)] else if n<100 then [UInt8.ofNat (48+n / 10),UInt8.ofNat (48+n % 10)] else [UInt8.ofNat (48+n / 100),UInt8.ofNat (48+n / 10 % 10),UInt8.ofNat (48+n % 10)]
theorem dtx_len (n:Nat):1≤(dtx n).length∧(dtx n).length≤3:=by
 unfold dtx
 split
 ·simp
 ·split<;>simp
theorem anyC {α:Type} {l:List α} {f g:α→Bool} (h:∀ x∈l,f x=g x):l.any f=l.any g:=by
 induction l with
 |nil=>rfl
 |cons x l ih=>rw [List.any_cons,List.any_cons,h x (by simp),ih (fun y hy=>h y (by simp [hy]))]
theorem allC {α:Type} {l:List α} {f g:α→Bool} (h:∀ x∈l,f x=g x):l.all f=l.all g:=by
 induction l with
 |nil=>rfl
 |cons x l ih=>rw [List.all_cons,List.all_cons,h x (by simp),ih (fun y hy=>h y (by simp [hy]))]
theorem opR_some {s:Str} {x:Num} (h:spl s=some x) (k:Int):opR s k=opnd x k:=by
 unfold opR
 rw [h]
end Go.Proofs.YtobapaodpcheiaaGreatDoor
