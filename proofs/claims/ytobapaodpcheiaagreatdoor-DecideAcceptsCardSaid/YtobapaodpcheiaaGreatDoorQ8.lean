/- What the row stands on, part 8. -/
import Derived.Laws.BitsAllLaws
import Derived.Test.YtobapaodpcheiaaGreatDoorQ7
namespace Go.Proofs.YtobapaodpcheiaaGreatDoor
set_option linter.unusedVariables false
def andN (a b:Nat):Nat:=a&&& (18446744073709551615 - b)
theorem high_bit {a:Nat} (ha:a<18446744073709551616) {j:Nat} (hj:64≤j):a.testBit j=false:=
 Nat.testBit_lt_two_pow (Nat.lt_of_lt_of_le (show a<2 ^ 64 from ha) (Nat.pow_le_pow_right (by omega) hj))
theorem andN_bit {a b:Nat} (ha:a<18446744073709551616) (hb:b<18446744073709551616) (j:Nat):(andN a b).testBit j=(a.testBit j&&!b.testBit j):=by
 unfold andN
 rw [Nat.testBit_and,show 18446744073709551615 - b=2 ^ 64 - (b+1) by omega,Nat.testBit_two_pow_sub_succ (show b<2 ^ 64 from hb)]
 by_cases hj:j<64
 ·rw [decide_eq_true hj,Bool.true_and]
 ·rw [high_bit ha (by omega),Bool.false_and,Bool.false_and]
theorem andN_lt {a b:Nat} (ha:a<18446744073709551616):andN a b<18446744073709551616:=Nat.lt_of_le_of_lt Nat.and_le_left ha
theorem or_lt {a b:Nat} (ha:a<18446744073709551616) (hb:b<18446744073709551616):a|||b<18446744073709551616:=Nat.or_lt_two_pow (n:=64) ha hb
theorem and_lt {a b:Nat} (ha:a<18446744073709551616):a&&& b<18446744073709551616:=Nat.lt_of_le_of_lt Nat.and_le_left ha
theorem pow_lt64 {k:Nat} (h:k<64):2 ^ k<18446744073709551616:=(Nat.pow_lt_pow_iff_right (a:=2) (n:=k) (m:=64) (by omega)).2 h
def bitsF {α:Type} (f:α→Bool):List α→Nat
 |[]=>0
 |a::l=>(if f a=true then 1 else 0)+2*bitsF f l
theorem bitsF_lt {α:Type} (f:α→Bool):∀ l:List α,bitsF f l<2 ^ l.length
 |[]=>by simp [bitsF]
 |a::l=>by
  have:=bitsF_lt f l
  rw [List.length_cons,Nat.pow_succ]
  unfold bitsF
  split<;>omega
theorem bitsF_bit {α:Type} (f:α→Bool):∀(l:List α) (j:Nat),(bitsF f l).testBit j=(match l[j]? with|some a=>f a|none=>false)
 |[],j=>by simp [bitsF]
 |a::l,0=>by
  unfold bitsF
  rw [Nat.testBit_zero]
  cases h:f a<;>simp [h]
  all_goals omega
 |a::l,j+1=>by
  unfold bitsF
  rw [Nat.testBit_succ,List.getElem?_cons_succ,←bitsF_bit f l j]
  congr 1
  split<;>omega
theorem bitsF_lt64 {α:Type} (f:α→Bool) {l:List α} (h:l.length≤64):bitsF f l<18446744073709551616:=
 Nat.lt_of_lt_of_le (bitsF_lt f l) (show 2 ^ l.length≤2 ^ 64 from Nat.pow_le_pow_right (by omega) h)
theorem eq_bits {α:Type} {f:α→Bool} {l:List α} {n:Nat} (h:∀ j,n.testBit j=(match l[j]? with|some a=>f a|none=>false)):n=bitsF f l:=
 Nat.eq_of_testBit_eq fun j=>by rw [h,bitsF_bit]
theorem bitsF_congr {α:Type} {f g:α→Bool}:∀ {l:List α},(∀ a∈l,f a=g a)→bitsF f l=bitsF g l
 |[],_=>rfl
 |a::l,h=>by
  unfold bitsF
  rw [h a (by simp),bitsF_congr (fun x hx=>h x (by simp [hx]))]
def hI (r:Rel) (v:Int):Bool:=(inside r.sp (rem r.md v)) != r.nt
theorem hI_nat (r:Rel) (n:Nat):hI r n=wT r n:=rfl
theorem hI_no {r:Rel} (h:OkR r):hI r (-1)=r.nt:=by
 have hin:inside r.sp (-1)=false:=by
  unfold inside
  rw [List.any_eq_false]
  intro s hs
  have:=okSp_le (h.sp s hs)
  simp
  omega
 unfold hI
 have:rem r.md (-1)= -1:=by
  rcases okMod_div h.md with h0|⟨k,hk,hmd,hd⟩
  ·rw [h0];rfl
  ·have hm:=h.md
   unfold rem
   rw [if_neg (by omega),hmd]
   have h2:k≠1:=by
    rintro rfl
    rw [hmd] at hm
    unfold okMod at hm
    simp at hm
   have h3:(-1:Int).tmod (k:Int)= -((1:Int).tmod (k:Int)):=Int.neg_tmod 1 k
   rw [h3,Int.tmod_eq_emod_of_nonneg (by omega)]
   have h4:(1:Int) % (k:Int)=1:=Int.emod_eq_of_lt (by omega) (by omega)
   rw [h4]
 rw [this,hin]
 cases r.nt<;>rfl
def putB (b:Bool) (h k:Nat):Nat:=if b=true then h|||2 ^ k else andN h (2 ^ k)
theorem putB_lt {b:Bool} {h k:Nat} (hh:h<18446744073709551616) (hk:k<64):putB b h k<18446744073709551616:=by
 unfold putB
 split
 ·exact or_lt hh (pow_lt64 hk)
 ·exact andN_lt hh
theorem putB_bit {b:Bool} {h k:Nat} (hh:h<18446744073709551616) (hk:k<64) (j:Nat):(putB b h k).testBit j=if j=k then b else h.testBit j:=by
 unfold putB
 split
 ·rename_i hb
  rw [Nat.testBit_or,Nat.testBit_two_pow,hb]
  by_cases h1:j=k
  ·rw [if_pos h1,decide_eq_true h1.symm,Bool.or_true]
  ·rw [if_neg h1,decide_eq_false (fun e=>h1 e.symm),Bool.or_false]
 ·rename_i hb
  rw [andN_bit hh (pow_lt64 hk),Nat.testBit_two_pow]
  by_cases h1:j=k
  ·rw [if_pos h1,decide_eq_true h1.symm,Bool.not_true,Bool.and_false]
   cases b
   ·rfl
   ·exact absurd rfl hb
  ·rw [if_neg h1,decide_eq_false (fun e=>h1 e.symm),Bool.not_false,Bool.and_true]
def updS (o v:Int) (h k:Nat) (r:Rel):Nat:=if r.op=o then putB (hI r v) h k else h
def updN (l:List Rel) (o v:Int) (h:Nat):Nat→Nat
 |0=>h
 |k+1=>match l[k]? with
  |none=>updN l o v h k
  |some r=>updS o v (updN l o v h k) k r
theorem updN_succ (l:List Rel) (o v:Int) (h:Nat) {k:Nat} (hk:k<l.length):updN l o v h (k+1)=updS o v (updN l o v h k) k l[k]:=by
 rw [updN,List.getElem?_eq_getElem hk]
theorem updN_zero (l:List Rel) (o v:Int) (h:Nat):updN l o v h 0=h:=by rw [updN]
theorem updN_ok (l:List Rel) (o v:Int) {h:Nat} (hh:h<18446744073709551616):∀ k,k≤l.length→k≤64→updN l o v h k<18446744073709551616∧∀ j,(updN l o v h k).testBit j=(match l[j]? with|some r=>if j<k∧r.op=o then hI r v else h.testBit j|none=>h.testBit j)
 |0,_,_=>by
  rw [updN_zero]
  refine⟨hh,fun j=>?_⟩
  split
  ·rw [if_neg (by omega)]
  ·rfl
 |k+1,hk,h6=>by
  obtain⟨h1,h2⟩:=updN_ok l o v hh k (by omega) (by omega)
  rw [updN_succ l o v h (by omega)]
  unfold updS
  split
  ·rename_i ho
   refine⟨putB_lt h1 (by omega),fun j=>?_⟩
   rw [putB_bit h1 (by omega),h2]
   by_cases hj:j=k
   ·subst hj
    rw [if_pos rfl,List.getElem?_eq_getElem (by omega)]
    dsimp only
    rw [if_pos ⟨by omega,ho⟩]
   ·rw [if_neg hj]
    split
    ·rename_i r hr
     by_cases hjk:j<k∧r.op=o
     ·rw [if_pos hjk,if_pos ⟨by omega,hjk.2⟩]
     ·rw [if_neg hjk,if_neg (fun e=>hjk ⟨by omega,e.2⟩)]
    ·rfl
  ·rename_i ho
   refine⟨h1,fun j=>?_⟩
   rw [h2]
   split
   ·rename_i r hr
    by_cases hjk:j<k∧r.op=o
    ·rw [if_pos hjk,if_pos ⟨by omega,hjk.2⟩]
    ·rw [if_neg hjk,if_neg]
     rintro⟨e1,e2⟩
     rcases Nat.lt_or_ge j k with h3|h3
     ·exact hjk ⟨h3,e2⟩
     ·obtain rfl:j=k:=by omega
      rw [List.getElem?_eq_getElem (by omega)] at hr
      injection hr with hr
      rw [hr] at ho
      exact ho e2
   ·rfl
def upd (l:List Rel) (o v:Int) (h:Nat):Nat:=updN l o v h l.length
theorem upd_lt {l:List Rel} (h6:l.length≤64) (o v:Int) {h:Nat} (hh:h<18446744073709551616):upd l o v h<18446744073709551616:=(updN_ok l o v hh l.length (Nat.le_refl _) h6).1
theorem upd_bits {l:List Rel} (h6:l.length≤64) (o v:Int) (f:Rel→Bool):upd l o v (bitsF f l)=bitsF (fun r=>if r.op=o then hI r v else f r) l:=by
 refine eq_bits fun j=>?_
 unfold upd
 rw [(updN_ok l o v (bitsF_lt64 f h6) l.length (Nat.le_refl _) h6).2,bitsF_bit]
 cases hj:l[j]? with
 |none=>rfl
 |some r=>
  have hlt:j<l.length:=by
   have:=List.getElem?_eq_some_iff.1 hj
   exact this.1
  dsimp only
  by_cases ho:r.op=o
  ·rw [if_pos ho,if_pos ⟨hlt,ho⟩]
  ·rw [if_neg ho,if_neg (fun e=>ho e.2)]
def onS (o:Int) (h k:Nat) (r:Rel):Nat:=if r.op=o then h|||2 ^ k else h
def onN (l:List Rel) (o:Int):Nat→Nat
 |0=>0
 |k+1=>match l[k]? with
  |none=>onN l o k
  |some r=>onS o (onN l o k) k r
theorem onN_succ (l:List Rel) (o:Int) {k:Nat} (hk:k<l.length):onN l o (k+1)=onS o (onN l o k) k l[k]:=by
 rw [onN,List.getElem?_eq_getElem hk]
theorem onN_zero (l:List Rel) (o:Int):onN l o 0=0:=by rw [onN]
theorem onN_ok (l:List Rel) (o:Int):∀ k,k≤l.length→k≤64→onN l o k<18446744073709551616∧∀ j,(onN l o k).testBit j=(match l[j]? with|some r=>decide (j<k)&&decide (r.op=o)|none=>false)
 |0,_,_=>by
  rw [onN_zero]
  refine⟨by omega,fun j=>?_⟩
  rw [Nat.zero_testBit]
  split<;>simp
 |k+1,hk,h6=>by
  obtain⟨h1,h2⟩:=onN_ok l o k (by omega) (by omega)
  rw [onN_succ l o (by omega)]
  unfold onS
  split
  ·rename_i ho
   refine⟨or_lt h1 (pow_lt64 (by omega)),fun j=>?_⟩
   rw [Nat.testBit_or,Nat.testBit_two_pow,h2]
   by_cases hj:k=j
   ·subst hj
    rw [decide_eq_true rfl,Bool.or_true,List.getElem?_eq_getElem (by omega)]
    dsimp only
    rw [decide_eq_true ho,decide_eq_true (by omega)]
    rfl
   ·rw [decide_eq_false hj,Bool.or_false]
    split
    ·have:decide (j<k)=decide (j<k+1):=by rw [decide_eq_decide];omega
     rw [this]
    ·rfl
  ·rename_i ho
   refine⟨h1,fun j=>?_⟩
   rw [h2]
   split
   ·rename_i r hr
    by_cases hj:j=k
    ·subst hj
     rw [List.getElem?_eq_getElem (by omega)] at hr
     injection hr with hr
     rw [hr] at ho
     rw [decide_eq_false ho,Bool.and_false,Bool.and_false]
    ·have:decide (j<k)=decide (j<k+1):=by rw [decide_eq_decide];omega
     rw [this]
   ·rfl
def on (l:List Rel) (o:Int):Nat:=onN l o l.length
theorem on_bits {l:List Rel} (h6:l.length≤64) (o:Int):on l o=bitsF (fun r=>decide (r.op=o)) l:=by
 refine eq_bits fun j=>?_
 unfold on
 rw [(onN_ok l o l.length (Nat.le_refl _) h6).2]
 cases hj:l[j]? with
 |none=>rfl
 |some r=>
  have:=(List.getElem?_eq_some_iff.1 hj).1
  dsimp only
  rw [decide_eq_true this,Bool.true_and]
def setsO (off:Nat):Cnd→List Nat
 |[]=>[]
 |l::c=>(2 ^ l.length - 1)*2 ^ off::setsO (off+l.length) c
def listsO (off:Nat):List Cnd→List (List Nat)
 |[]=>[]
 |c::cs=>setsO off c::listsO (off+cnt c) cs
theorem setsO_app (off:Nat):∀(a b:Cnd),setsO off (a++b)=setsO off a++setsO (off+cnt a) b
 |[],b=>by rw [cnt_nil];rfl
 |l::a,b=>by
  show _::setsO (off+l.length) (a++b)=_::(setsO (off+l.length) a++_)
  rw [setsO_app (off+l.length) a b,cnt_cons,Nat.add_assoc]
def cntA_ (cs:List Cnd):Nat:=(cs.map cnt).sum
theorem cntA_cons (c:Cnd) (cs:List Cnd):cntA_ (c::cs)=cnt c+cntA_ cs:=rfl
theorem listsO_app (off:Nat):∀(a b:List Cnd),listsO off (a++b)=listsO off a++listsO (off+cntA_ a) b
 |[],b=>by show _= []++listsO (off+0) b;rfl
 |c::a,b=>by
  show _::listsO (off+cnt c) (a++b)=_::(listsO (off+cnt c) a++_)
  rw [listsO_app (off+cnt c) a b,cntA_cons,Nat.add_assoc]
theorem flat_cnt:∀ c:Cnd,(c.flatMap id).length=cnt c
 |[]=>rfl
 |l::c=>by rw [List.flatMap_cons,List.length_append,flat_cnt c,cnt_cons];rfl
theorem rels_cnt:∀ cs:List Cnd,(relsC cs).length=cntA_ cs
 |[]=>rfl
 |c::cs=>by
  show(c.flatMap id++relsC cs).length=_
  rw [List.length_append,flat_cnt,rels_cnt cs,cntA_cons]
theorem listsO_len (off:Nat):∀ cs:List Cnd,(listsO off cs).length=cs.length
 |[]=>rfl
 |c::cs=>by show(listsO _ cs).length+1=_;rw [listsO_len];rfl
theorem setsO_len (off:Nat):∀ c:Cnd,(setsO off c).length=c.length
 |[]=>rfl
 |l::c=>by show(setsO _ c).length+1=_;rw [setsO_len];rfl
theorem run_bit (n off j:Nat):((2 ^ n - 1)*2 ^ off).testBit j=(decide (off≤j)&&decide (j<off+n)):=by
 rw [Nat.testBit_mul_two_pow,Nat.testBit_two_pow_sub_one]
 by_cases h:off≤j
 ·rw [decide_eq_true h,Bool.true_and,Bool.true_and,decide_eq_decide]
  omega
 ·rw [decide_eq_false h,Bool.false_and,Bool.false_and]
theorem run_lt {n off:Nat} (h:off+n≤64):(2 ^ n - 1)*2 ^ off<18446744073709551616:=by
 have h1:(2 ^ n - 1)*2 ^ off≤2 ^ (n+off) - 2 ^ off:=by rw [Nat.sub_mul,Nat.pow_add];simp
 have h2:2 ^ (n+off)≤2 ^ 64:=Nat.pow_le_pow_right (by omega) (by omega)
 have h3:0<2 ^ off:=Nat.pow_pos (by omega)
 have h4:(2:Nat) ^ 64=18446744073709551616:=by decide
 have h5:2 ^ off≤2 ^ (n+off):=Nat.pow_le_pow_right (by omega) (by omega)
 omega
theorem zero_iff_bits {n:Nat}:n=0↔∀ j,n.testBit j=false:=by
 constructor
 ·rintro rfl j;exact Nat.zero_testBit j
 ·intro h
  exact Nat.eq_of_testBit_eq fun j=>by rw [h,Nat.zero_testBit]
theorem run_all {pre l post:List Rel} {f:Rel→Bool} (h:(pre++(l++post)).length≤64):decide (andN ((2 ^ l.length - 1)*2 ^ pre.length) (bitsF f (pre++(l++post)))=0)=l.all f:=by
 rw [Bool.eq_iff_iff,decide_eq_true_eq,zero_iff_bits,List.all_eq_true]
 have hl:pre.length+l.length≤64:=by rw [List.length_append,List.length_append] at h;omega
 constructor
 ·intro hz r hr
  obtain⟨i,hi,rfl⟩:=List.getElem_of_mem hr
  have h1:=hz (pre.length+i)
  rw [andN_bit (run_lt hl) (bitsF_lt64 f h),run_bit,bitsF_bit,List.getElem?_append_right (by omega),show pre.length+i - pre.length=i by omega,List.getElem?_append_left hi,List.getElem?_eq_getElem hi,decide_eq_true (by omega),decide_eq_true (by omega)] at h1
  dsimp only at h1
  simpa using h1
 ·intro ha j
  rw [andN_bit (run_lt hl) (bitsF_lt64 f h),run_bit,bitsF_bit]
  by_cases h1:pre.length≤j∧j<pre.length+l.length
  ·rw [decide_eq_true h1.1,decide_eq_true h1.2,List.getElem?_append_right h1.1,List.getElem?_append_left (by omega),List.getElem?_eq_getElem (by omega)]
   dsimp only
   rw [ha _ (List.getElem_mem _)]
   rfl
  ·have:(decide (pre.length≤j)&&decide (j<pre.length+l.length))=false:=by
    rw [Bool.and_eq_false_iff,decide_eq_false_iff_not,decide_eq_false_iff_not]
    omega
   rw [this,Bool.false_and]
theorem sets_any {f:Rel→Bool} {post:List Rel}:∀(c:Cnd) (pre:List Rel),(pre++(c.flatMap id++post)).length≤64→((setsO pre.length c).any fun a=>decide (andN a (bitsF f (pre++(c.flatMap id++post)))=0))=c.any fun l=>l.all f
 |[],pre,_=>rfl
 |l::c,pre,h=>by
  have e:pre++((l::c).flatMap id++post)=pre++(l++(c.flatMap id++post)):=by rw [List.flatMap_cons,List.append_assoc];rfl
  have e2:pre++(l++(c.flatMap id++post))=(pre++l)++(c.flatMap id++post):=by rw [List.append_assoc]
  rw [e] at h ⊢
  show((decide _)||_)=_
  rw [List.any_cons,run_all h]
  congr 1
  rw [e2] at h
  have ih:=sets_any (f:=f) (post:=post) c (pre++l) h
  rw [List.length_append] at ih
  rw [e2]
  exact ih
def cndS (hold h k:Nat) (c:List Nat):Nat:=if (c.any fun a=>decide (andN a hold=0))=true then h|||2 ^ k else h
def cndN (ls:List (List Nat)) (hold:Nat):Nat→Nat
 |0=>0
 |k+1=>match ls[k]? with
  |none=>cndN ls hold k
  |some c=>cndS hold (cndN ls hold k) k c
theorem cndN_zero (ls:List (List Nat)) (hold:Nat):cndN ls hold 0=0:=by rw [cndN]
theorem cndN_succ (ls:List (List Nat)) (hold:Nat) {k:Nat} (hk:k<ls.length):cndN ls hold (k+1)=cndS hold (cndN ls hold k) k ls[k]:=by rw [cndN,List.getElem?_eq_getElem hk]
theorem cndN_ok (ls:List (List Nat)) (hold:Nat):∀ k,k≤ls.length→k≤64→cndN ls hold k<18446744073709551616∧∀ j,(cndN ls hold k).testBit j=(match ls[j]? with|some c=>decide (j<k)&&(c.any fun a=>decide (andN a hold=0))|none=>false)
 |0,_,_=>by
  rw [cndN_zero]
  refine⟨by omega,fun j=>?_⟩
  rw [Nat.zero_testBit]
  split<;>simp
 |k+1,hk,h6=>by
  obtain⟨h1,h2⟩:=cndN_ok ls hold k (by omega) (by omega)
  rw [cndN_succ ls hold (by omega)]
  unfold cndS
  split
  ·rename_i ho
   refine⟨or_lt h1 (pow_lt64 (by omega)),fun j=>?_⟩
   rw [Nat.testBit_or,Nat.testBit_two_pow,h2]
   by_cases hj:k=j
   ·subst hj
    rw [decide_eq_true rfl,Bool.or_true,List.getElem?_eq_getElem (by omega)]
    dsimp only
    rw [ho,decide_eq_true (by omega)]
    rfl
   ·rw [decide_eq_false hj,Bool.or_false]
    split
    ·have:decide (j<k)=decide (j<k+1):=by rw [decide_eq_decide];omega
     rw [this]
    ·rfl
  ·rename_i ho
   refine⟨h1,fun j=>?_⟩
   rw [h2]
   split
   ·rename_i r hr
    by_cases hj:j=k
    ·subst hj
     rw [List.getElem?_eq_getElem (by omega)] at hr
     injection hr with hr
     rw [hr] at ho
     rw [Bool.eq_false_iff.2 ho,Bool.and_false,Bool.and_false]
    ·have:decide (j<k)=decide (j<k+1):=by rw [decide_eq_decide];omega
     rw [this]
   ·rfl
theorem lists_get {f:Rel→Bool} {post:List Rel}:∀(cs:List Cnd) (pre:List Rel),(pre++(relsC cs++post)).length≤64→(listsO pre.length cs).map (fun c=>c.any fun a=>decide (andN a (bitsF f (pre++(relsC cs++post)))=0))=cs.map fun c=>c.any fun l=>l.all f
 |[],pre,_=>rfl
 |c::cs,pre,h=>by
  have e:pre++(relsC (c::cs)++post)=pre++(c.flatMap id++(relsC cs++post)):=by
   show pre++((c.flatMap id++relsC cs)++post)=_
   rw [List.append_assoc]
  have e2:pre++(c.flatMap id++(relsC cs++post))=(pre++c.flatMap id)++(relsC cs++post):=by rw [List.append_assoc]
  rw [e] at h ⊢
  rw [List.map_cons,←sets_any (f:=f) c pre h]
  show _::_=_
  congr 1
  have e3:pre.length+cnt c=(pre++c.flatMap id).length:=by rw [List.length_append,flat_cnt]
  rw [e3]
  rw [e2] at h ⊢
  exact lists_get cs (pre++c.flatMap id) h
def cnds (cs:List Cnd) (hold:Nat):Nat:=cndN (listsO 0 cs) hold cs.length
theorem cnds_bits {cs:List Cnd} (h:(relsC cs).length≤64) (hc:cs.length≤64) (f:Rel→Bool):cnds cs (bitsF f (relsC cs))=bitsF (fun c=>c.any fun l=>l.all f) cs:=by
 refine eq_bits fun j=>?_
 unfold cnds
 have hl:=listsO_len 0 cs
 rw [(cndN_ok (listsO 0 cs) _ cs.length (by omega) hc).2]
 have hg:=lists_get (f:=f) (post:=[]) cs [] (by simpa using h)
 rw [List.nil_append,List.append_nil] at hg
 have hj:=congrArg (fun z:List Bool=>z[j]?) hg
 rw [List.getElem?_map,List.getElem?_map] at hj
 cases h1:(listsO 0 cs)[j]? with
 |none=>
  have:cs[j]? =none:=by rw [List.getElem?_eq_none_iff] at h1 ⊢;omega
  rw [this]
 |some a=>
  have hlt:=(List.getElem?_eq_some_iff.1 h1).1
  have h2:cs[j]? =some cs[j]:=List.getElem?_eq_getElem (by omega)
  rw [h2]
  have h3:(listsO ([]:List Rel).length cs)[j]? =some a:=h1
  rw [h3,h2] at hj
  injection hj with hj
  dsimp only at hj ⊢
  rw [hj,decide_eq_true (by omega),Bool.true_and]
open Go.RowKit
theorem str_add {P:Program} {x y z:Str} (h:x.length+y.length≤9223372036854775807) (hz:x++y=z) (wx:World):(Op.stringOp .add (ofL x) (ofL y)).run P wx= .ok (.string (ofL z)) wx:=by
 have h2:=run_string_add_sum (P:=P) (w:=wx) (ofL x) (ofL y) (by rw [ofL_size,ofL_size];exact h)
 rw [add_two,hz] at h2
 exact h2
theorem mostR_take {sp:List (Int × Int)} {k:Nat} (h:k<sp.length):(sp.take (k+1)).foldl (fun n s=>max n s.2.toNat) 0=max ((sp.take k).foldl (fun n s=>max n s.2.toNat) 0) sp[k].2.toNat:=by
 rw [List.take_succ_eq_append_getElem h,List.foldl_append]
 rfl
set_option maxRecDepth 1000000 in
set_option maxHeartbeats 4000000 in
theorem most_any (r:Rel) (hok:OkR r) (a2:Option Addr) (c2:Nat) (w:World) (hr:Rd 2 encP w (.slice a2 r.sp.length c2) r.sp):
  Calls Tryz.prog 19 #[.agg #[.int .i64 r.op,.int .i64 r.md,.bool r.nt,.slice a2 r.sp.length c2]] w fun e w'=>e= .returned (.int .i64 (mostR r:Nat))∧Below w.heap.size w w':=by
 have HSP:Hid (∀ s∈r.sp,0≤s.2∧s.2≤100):=Lib.hid (fun s hs=>by have:=okSp_le (hok.sp s hs);omega)
 have HM:Hid (mostR r=r.sp.foldl (fun n s=>max n s.2.toNat) 0):=Lib.hid rfl
 obtain⟨o,m,nt,sp⟩:=r
 dsimp only at hr HSP HM ⊢
 have K:=Lib.hid ((Below.refl w.heap.size w).alloc (Nat.le_refl _) (.cells #[.int .i64 o,.int .i64 m,.bool nt,.slice a2 sp.length c2] 52))
 have KB:=Lib.hid (Blk.new w 52 #[.int .i64 o,.int .i64 m,.bool nt,.slice a2 sp.length c2])
 obtain⟨W,hW⟩:∃ W,w.alloc (.cells #[.int .i64 o,.int .i64 m,.bool nt,.slice a2 sp.length c2] 52)=W:=⟨_,rfl⟩
 rw [hW] at K KB
 have HW:=Lib.hid hW
 have HR:=Lib.hid (hr.below K.out)
 have e3:W.cell? ⟨w.heap.size,3,none⟩=some (.slice a2 sp.length c2):=KB.out.cell 3
 have hsl:sp.length≤9223372036854775807:=by obtain⟨_,_,e,q1,q2⟩:=hr.slice;omega
 clear hr hW hok
 go_enter Tryz.func19,Tryz.ntmps19
 go_upto_region 1 with fail
 rw [HW.out]
 go_wp2_with fail
 go_loopw [3,4] (fun v3 v4 wr=>∃ k:Nat,k≤sp.length∧v4= .int .i64 k∧v3= .int .i64 (((sp.take k).foldl (fun n s=>max n s.2.toNat) 0:Nat))∧wr=W) (fun _ v4 _=>sp.length - (intOf v4).toNat)
 case atStart=>exact⟨0,Nat.zero_le _,rfl,rfl,rfl⟩
 case round=>
  obtain⟨k,hk,rfl,rfl,hw⟩:=hrel
  obtain rfl:=hw.symm
  obtain⟨N,hN⟩:∃ N,(sp.take k).foldl (fun n s=>max n s.2.toNat) 0=N:=⟨_,rfl⟩
  have HN:=Lib.hid hN
  rw [hN]
  clear hN
  by_cases hlt:k<sp.length
  ·obtain⟨bk,off,rfl,h0,h1⟩:=HR.out.span k hlt
   have h9:(k:Int)<(sp.length:Int):=by omega
   have HST:=Lib.hid (mostR_take hlt)
   have hsp:=HSP.out sp[k] (List.getElem_mem hlt)
   obtain⟨⟨x,y⟩,hxy⟩:∃ s,sp[k]=s:=⟨_,rfl⟩
   rw [hxy] at h0 h1 HST hsp
   dsimp only at h0 h1 HST hsp
   obtain⟨Y,rfl⟩:∃ Y:Nat,y=(Y:Int):=⟨y.toNat,by omega⟩
   clear hxy
   by_cases hx:N≤Y
   ·have q1:(if (N:Int)<(Y:Int) then(Y:Int) else(N:Int))=(Y:Int):=by split<;>omega
    have HG:Hid ((sp.take (k+1)).foldl (fun n s=>max n s.2.toNat) 0=Y):=Lib.hid (by rw [HST.out,HN.out];omega)
    go_wp2
    go_roundw
    case measure=>simp [intOf];omega
    case rel=>exact⟨k+1,by omega,by go_num,by rw [HG.out]<;>go_num,(by first|rfl|trivial)⟩
   ·have q1:(if (N:Int)<(Y:Int) then(Y:Int) else(N:Int))=(N:Int):=by split<;>omega
    have HG:Hid ((sp.take (k+1)).foldl (fun n s=>max n s.2.toNat) 0=N):=Lib.hid (by rw [HST.out,HN.out];omega)
    go_wp2
    go_roundw
    case measure=>simp [intOf];omega
    case rel=>exact⟨k+1,by omega,by go_num,by rw [HG.out]<;>go_num,(by first|rfl|trivial)⟩
  ·obtain rfl:k=sp.length:=by omega
   have h3:¬ (sp.length:Int)<(sp.length:Int):=by omega
   have HG:Hid (mostR ⟨o,m,nt,sp⟩=N):=Lib.hid (by rw [HM.out,←HN.out,List.take_length])
   go_wp2
   go_ret
   exact⟨by rw [HG.out];rfl,K.out⟩
open Go.RowKit
set_option maxRecDepth 1000000 in
set_option maxHeartbeats 4000000 in
theorem greatest_any (r:Rel) (hok:OkR r) (a2:Option Addr) (c2:Nat) (w:World) (hr:Rd 2 encP w (.slice a2 r.sp.length c2) r.sp):
  Calls Tryz.prog 68 #[.agg #[.int .i64 r.op,.int .i64 r.md,.bool r.nt,.slice a2 r.sp.length c2]] w fun e w'=>e= .returned (.int .i64 (mostR r:Nat))∧Below w.heap.size w w':=by
 have HSP:Hid (∀ s∈r.sp,0≤s.2∧s.2≤100):=Lib.hid (fun s hs=>by have:=okSp_le (hok.sp s hs);omega)
 have HM:Hid (mostR r=r.sp.foldl (fun n s=>max n s.2.toNat) 0):=Lib.hid rfl
 obtain⟨o,m,nt,sp⟩:=r
 dsimp only at hr HSP HM ⊢
 have K:=Lib.hid ((Below.refl w.heap.size w).alloc (Nat.le_refl _) (.cells #[.int .i64 o,.int .i64 m,.bool nt,.slice a2 sp.length c2] 52))
 have KB:=Lib.hid (Blk.new w 52 #[.int .i64 o,.int .i64 m,.bool nt,.slice a2 sp.length c2])
 obtain⟨W,hW⟩:∃ W,w.alloc (.cells #[.int .i64 o,.int .i64 m,.bool nt,.slice a2 sp.length c2] 52)=W:=⟨_,rfl⟩
 rw [hW] at K KB
 have HW:=Lib.hid hW
 have HR:=Lib.hid (hr.below K.out)
 have e3:W.cell? ⟨w.heap.size,3,none⟩=some (.slice a2 sp.length c2):=KB.out.cell 3
 have hsl:sp.length≤9223372036854775807:=by obtain⟨_,_,e,q1,q2⟩:=hr.slice;omega
 clear hr hW hok
 go_enter Tryz.func68,Tryz.ntmps68
 go_upto_region 1 with fail
 rw [HW.out]
 go_wp2_with fail
 go_loopw [3,9] (fun v3 v9 wr=>∃ k:Nat,k≤sp.length∧v9= .int .i64 k∧v3= .int .i64 (((sp.take k).foldl (fun n s=>max n s.2.toNat) 0:Nat))∧Below W.heap.size W wr) (fun _ v9 _=>sp.length - (intOf v9).toNat)
 case atStart=>exact⟨0,Nat.zero_le _,rfl,rfl,Below.refl _ _⟩
 case round=>
  obtain⟨k,hk,rfl,rfl,hb⟩:=hrel
  have HB:=Lib.hid hb
  have zr:=hb.size
  clear hb
  obtain⟨N,hN⟩:∃ N,(sp.take k).foldl (fun n s=>max n s.2.toNat) 0=N:=⟨_,rfl⟩
  have HN:=Lib.hid hN
  rw [hN]
  clear hN
  by_cases hlt:k<sp.length
  ·obtain⟨bk,off,rfl,h0,h1⟩:=(HR.out.below HB.out).span k hlt
   have h9:(k:Int)<(sp.length:Int):=by omega
   have HST:=Lib.hid (mostR_take hlt)
   have hsp:=HSP.out sp[k] (List.getElem_mem hlt)
   obtain⟨⟨x,y⟩,hxy⟩:∃ s,sp[k]=s:=⟨_,rfl⟩
   rw [hxy] at h0 h1 HST hsp
   dsimp only at h0 h1 HST hsp
   obtain⟨Y,rfl⟩:∃ Y:Nat,y=(Y:Int):=⟨y.toNat,by omega⟩
   have HA:=Lib.hid (HB.out.alloc zr (.cells #[.int .i64 x,.int .i64 Y] 84))
   clear hxy
   by_cases hx:N≤Y
   ·have q1:(if (N:Int)<(Y:Int) then(Y:Int) else(N:Int))=(Y:Int):=by split<;>omega
    have HG:Hid ((sp.take (k+1)).foldl (fun n s=>max n s.2.toNat) 0=Y):=Lib.hid (by rw [HST.out,HN.out];omega)
    go_wp2
    go_roundw
    case measure=>simp [intOf];omega
    case rel=>exact⟨k+1,by omega,by go_num,by rw [HG.out]<;>go_num,HA.out⟩
   ·have q1:(if (N:Int)<(Y:Int) then(Y:Int) else(N:Int))=(N:Int):=by split<;>omega
    have HG:Hid ((sp.take (k+1)).foldl (fun n s=>max n s.2.toNat) 0=N):=Lib.hid (by rw [HST.out,HN.out];omega)
    go_wp2
    go_roundw
    case measure=>simp [intOf];omega
    case rel=>exact⟨k+1,by omega,by go_num,by rw [HG.out]<;>go_num,HA.out⟩
  ·obtain rfl:k=sp.length:=by omega
   have h3:¬ (sp.length:Int)<(sp.length:Int):=by omega
   have HG:Hid (mostR ⟨o,m,nt,sp⟩=N):=Lib.hid (by rw [HM.out,←HN.out,List.take_length])
   have KZ:=Lib.hid (st K.out HB.out K.out.size)
   go_wp2
   go_ret
   exact⟨by rw [HG.out];rfl,KZ.out⟩
def siz0 (r:Rel):Nat:=if r.md=0 then mostR r+2 else r.md.toNat
def siz (r:Rel):Nat:=if r.op=6 then siz0 r*siz0 r else siz0 r
theorem siz0_le {r:Rel} (h:OkR r):siz0 r≤102:=by
 have h1:=mostR_le h
 have h2:=okMod_le h.md
 unfold siz0
 split<;>omega
set_option maxRecDepth 1000000 in
set_option maxHeartbeats 4000000 in
theorem size_any (r:Rel) (hok:OkR r) (a2:Option Addr) (c2:Nat) (w:World) (hr:Rd 2 encP w (.slice a2 r.sp.length c2) r.sp):
  Calls Tryz.prog 36 #[.agg #[.int .i64 r.op,.int .i64 r.md,.bool r.nt,.slice a2 r.sp.length c2]] w fun e w'=>e= .returned (.int .i64 (siz r:Nat))∧Below w.heap.size w w':=by
 have hmd:=okMod_le hok.md
 have hS:=siz0_le hok
 have HS0:Hid (siz r=if r.op=6 then siz0 r*siz0 r else siz0 r):=Lib.hid rfl
 have HS1:Hid (siz0 r=if r.md=0 then mostR r+2 else r.md.toNat):=Lib.hid rfl
 have HGR:=Lib.hid (fun w hr=>greatest_any r hok a2 c2 w hr)
 obtain⟨o,m,nt,sp⟩:=r
 obtain⟨T,hT⟩:∃ T,siz0 ⟨o,m,nt,sp⟩=T:=⟨_,rfl⟩
 rw [hT] at HS0 HS1 hS
 obtain⟨M,hM⟩:∃ M,mostR ⟨o,m,nt,sp⟩=M:=⟨_,rfl⟩
 rw [hM] at HS1 HGR
 obtain⟨F,hF⟩:∃ F,siz ⟨o,m,nt,sp⟩=F:=⟨_,rfl⟩
 rw [hF] at HS0 ⊢
 clear hT hM hF
 dsimp only at hr HS0 HS1 HGR hmd ⊢
 obtain⟨M0,rfl⟩:∃ M0:Nat,m=(M0:Int):=⟨m.toNat,by omega⟩
 have K:=Lib.hid ((Below.refl w.heap.size w).alloc (Nat.le_refl _) (.cells #[.int .i64 o,.int .i64 M0,.bool nt,.slice a2 sp.length c2] 52))
 have KB:=Lib.hid (Blk.new w 52 #[.int .i64 o,.int .i64 M0,.bool nt,.slice a2 sp.length c2])
 obtain⟨W,hW⟩:∃ W,w.alloc (.cells #[.int .i64 o,.int .i64 M0,.bool nt,.slice a2 sp.length c2] 52)=W:=⟨_,rfl⟩
 rw [hW] at K KB
 have HW:=Lib.hid hW
 have HR:=Lib.hid (hr.below K.out)
 have e0:W.cell? ⟨w.heap.size,0,none⟩=some (.int .i64 o):=KB.out.cell 0
 have e1:W.cell? ⟨w.heap.size,1,none⟩=some (.int .i64 M0):=KB.out.cell 1
 have e2:W.cell? ⟨w.heap.size,2,none⟩=some (.bool nt):=KB.out.cell 2
 have e3:W.cell? ⟨w.heap.size,3,none⟩=some (.slice a2 sp.length c2):=KB.out.cell 3
 clear hr hW hok
 by_cases hm:M0=0
 ·have t0:((M0:Int)==0)=true:=by rw [beq_iff_eq];omega
  have hTM:T=M+2:=by rw [HS1.out,if_pos (by omega)]
  subst hTM
  by_cases ho:o=6
  ·have t1:(o==6)=true:=by rw [beq_iff_eq];exact ho
   have HF:Hid (F=(M+2)*(M+2)):=Lib.hid (by rw [HS0.out,if_pos ho])
   have hb:(M+2)*(M+2)≤102*102:=Nat.mul_le_mul hS hS
   obtain⟨Q,hQ⟩:∃ Q,(M+2)*(M+2)=Q:=⟨_,rfl⟩
   have q1:((M:Int)+2)*((M:Int)+2)=(Q:Int):=by rw [←hQ];exact_mod_cast rfl
   rw [hQ] at HF hb
   clear hQ hm ho
   go_enter Tryz.func36,Tryz.ntmps36
   go_upto_region 1 with fail
   rw [HW.out]
   go_wp2_with fail
   refine(HGR.out _ HR.out).mono ?_
   rintro e w2 ⟨rfl,b2⟩
   have HB2:=Lib.hid (st K.out b2 K.out.size)
   have f0:w2.cell? ⟨w.heap.size,0,none⟩=some (.int .i64 o):=(KB.out.below b2).cell 0
   clear b2 e0 e1 e2 e3
   go_wp2
   go_ret
   exact⟨by rw [HF.out];rfl,HB2.out⟩
  ·have t1:(o==6)=false:=by rw [beq_eq_false_iff_ne];exact ho
   have HF:Hid (F=M+2):=Lib.hid (by rw [HS0.out,if_neg ho])
   clear hm ho
   go_enter Tryz.func36,Tryz.ntmps36
   go_upto_region 1 with fail
   rw [HW.out]
   go_wp2_with fail
   refine(HGR.out _ HR.out).mono ?_
   rintro e w2 ⟨rfl,b2⟩
   have HB2:=Lib.hid (st K.out b2 K.out.size)
   have f0:w2.cell? ⟨w.heap.size,0,none⟩=some (.int .i64 o):=(KB.out.below b2).cell 0
   clear b2 e0 e1 e2 e3
   go_wp2
   go_ret
   exact⟨by rw [HF.out];rfl,HB2.out⟩
 ·have t0:((M0:Int)==0)=false:=by rw [beq_eq_false_iff_ne];omega
  have hTM:T=M0:=by rw [HS1.out,if_neg (by omega)];rfl
  subst hTM
  by_cases ho:o=6
  ·have t1:(o==6)=true:=by rw [beq_iff_eq];exact ho
   have HF:Hid (F=T*T):=Lib.hid (by rw [HS0.out,if_pos ho])
   have hb:T*T≤102*102:=Nat.mul_le_mul hS hS
   obtain⟨Q,hQ⟩:∃ Q,T*T=Q:=⟨_,rfl⟩
   have q1:(T:Int)*(T:Int)=(Q:Int):=by rw [←hQ];exact_mod_cast rfl
   rw [hQ] at HF hb
   clear hQ hm ho
   go_enter Tryz.func36,Tryz.ntmps36
   go_upto_region 1 with fail
   rw [HW.out]
   go_wp2
   go_ret
   exact⟨by rw [HF.out];rfl,K.out⟩
  ·have t1:(o==6)=false:=by rw [beq_eq_false_iff_ne];exact ho
   have HF:Hid (F=T):=Lib.hid (by rw [HS0.out,if_neg ho])
   clear hm ho
   go_enter Tryz.func36,Tryz.ntmps36
   go_upto_region 1 with fail
   rw [HW.out]
   go_wp2
   go_ret
   exact⟨by rw [HF.out];rfl,K.out⟩
set_option maxRecDepth 1000000 in
set_option maxHeartbeats 1000000 in
theorem holdsP1_any (n:Int) (s:Int × Int) (B:Nat) (W:World) (hc:W.cell? ⟨B,0,none⟩=some (.int .i64 n)) (hB:B<W.heap.size):
  Calls Tryz.prog 114 (#[.agg #[.int .i64 s.1,.int .i64 s.2]]++ #[.pointer (some ⟨B,0,none⟩)]) W fun e w'=>e= .returned (.bool (decide (s.1≤n)&&decide (n≤s.2)))∧Below W.heap.size W w':=by
 obtain⟨s1,s2⟩:=s
 have K:=Lib.hid ((Below.refl W.heap.size W).alloc (Nat.le_refl _) (.cells #[.int .i64 s1,.int .i64 s2] 84))
 have hc2:(W.alloc (.cells #[.int .i64 s1,.int .i64 s2] 84)).cell? ⟨B,0,none⟩=some (.int .i64 n):=(K.out.cell (p:=⟨B,0,none⟩) hB).trans hc
 clear hc
 by_cases h1:s1≤n
 ·have q:=decide_eq_true h1
  have HX:Hid ((decide (s1≤n)&&decide (n≤s2))=decide (n≤s2)):=Lib.hid (by rw [q];rfl)
  go_enter Tryz.func114,Tryz.ntmps114
  go_wp2
  go_ret
  exact⟨by dsimp only;first|rfl|(rw [HX.out];rfl),K.out⟩
 ·have q:=decide_eq_false h1
  have HX:Hid ((decide (s1≤n)&&decide (n≤s2))=false):=Lib.hid (by rw [q];rfl)
  go_enter Tryz.func114,Tryz.ntmps114
  go_wp2
  go_ret
  exact⟨by dsimp only;first|rfl|(rw [HX.out];rfl),K.out⟩
set_option maxRecDepth 1000000 in
set_option maxHeartbeats 4000000 in
theorem holdsP_any (r:Rel) (hok:OkR r) (n:Int) (hn: -1≤n∧n≤1000000000) (a2:Option Addr) (c2:Nat) (w:World) (hr:Rd 2 encP w (.slice a2 r.sp.length c2) r.sp):
  Calls Tryz.prog 97 #[.agg #[.int .i64 r.op,.int .i64 r.md,.bool r.nt,.slice a2 r.sp.length c2],.int .i64 n] w fun e w'=>e= .returned (.bool (hI r n))∧Below w.heap.size w w':=by
 have hmd:=okMod_le hok.md
 have HO:Hid (hI r n=(inside r.sp (rem r.md n) != r.nt)):=Lib.hid rfl
 obtain⟨o,m,nt,sp⟩:=r
 dsimp only at hr hmd HO ⊢
 obtain⟨m0,m1⟩:=hmd
 have K:=Lib.hid ((Below.refl w.heap.size w).alloc (Nat.le_refl _) (.cells #[.int .i64 o,.int .i64 m,.bool nt,.slice a2 sp.length c2] 52))
 have KB:=Lib.hid (Blk.new w 52 #[.int .i64 o,.int .i64 m,.bool nt,.slice a2 sp.length c2])
 obtain⟨w2,hw2⟩:∃ w2,w.alloc (.cells #[.int .i64 o,.int .i64 m,.bool nt,.slice a2 sp.length c2] 52)=w2:=⟨_,rfl⟩
 have hz2:w2.heap.size=w.heap.size+1:=by rw [←hw2];simp
 rw [hw2] at K KB
 have HR2:=Lib.hid (hr.below K.out)
 have KN:=Lib.hid (Blk.new w2 3 #[.int .i64 n])
 have B3:=Lib.hid (K.out.alloc K.out.size (.cells #[.int .i64 n] 3))
 have KB3:=Lib.hid (KB.out.alloc (.cells #[.int .i64 n] 3))
 have HR3:=Lib.hid (HR2.out.alloc (.cells #[.int .i64 n] 3))
 obtain⟨w3,hw3⟩:∃ w3,w2.alloc (.cells #[.int .i64 n] 3)=w3:=⟨_,rfl⟩
 rw [hz2] at KN
 rw [hw3] at KN B3 KB3 HR3
 have k1:w3.cell? ⟨w.heap.size,1,none⟩=some (.int .i64 m):=KB3.out.cell 1
 have k2:w3.cell? ⟨w.heap.size,2,none⟩=some (.bool nt):=KB3.out.cell 2
 have k3:w3.cell? ⟨w.heap.size,3,none⟩=some (.slice a2 sp.length c2):=KB3.out.cell 3
 have k4:w3.cell? ⟨w.heap.size+1,0,none⟩=some (.int .i64 n):=KN.out.cell 0
 have k5:w3.frozen? ⟨w.heap.size+1,0,none⟩=false:=KN.out.frozen 0
 have HW3:Hid ((w.alloc (.cells #[.int .i64 o,.int .i64 m,.bool nt,.slice a2 sp.length c2] 52)).alloc (.cells #[.int .i64 n] 3)=w3):=Lib.hid (by rw [hw2,hw3])
 clear hr hok
 by_cases hm:m=0
 ·subst hm
  have t1:((0:Int) != 0)=false:=rfl
  have HV:Hid (hI ⟨o,0,nt,sp⟩ n=(inside sp n != nt)):=Lib.hid HO.out
  clear HO hw3 hw2
  go_enter Tryz.func97,Tryz.ntmps97
  go_upto_region 1 with fail
  rw [HW3.out]
  go_wp2_with fail
  refine(containsSpan_any _ sp (fun s=>decide (s.1≤n)&&decide (n≤s.2)) 114 _ (enters_of Tryz.func114 (by kernel_rfl) rfl) _ HR3.out (fun W s _ hb=>by
   have kb:=KN.out.below hb
   exact holdsP1_any n s (w.heap.size+1) W (kb.cell 0) kb.lt)).mono ?_
  rintro e w4 ⟨rfl,b4⟩
  have B4:=Lib.hid (st B3.out b4 B3.out.size)
  have k6:w4.cell? ⟨w.heap.size,2,none⟩=some (.bool nt):=(KB3.out.below b4).cell 2
  clear b4
  have HI:Hid (inside sp n=sp.any fun s=>decide (s.1≤n)&&decide (n≤s.2)):=Lib.hid rfl
  obtain⟨x,hx⟩:∃ x,(sp.any fun s=>decide (s.1≤n)&&decide (n≤s.2))=x:=⟨_,rfl⟩
  rw [hx] at HI ⊢
  clear hx
  go_wp2
  go_ret
  exact⟨by rw [HV.out,HI.out];rfl,B4.out⟩
 ·have t1:(m != 0)=true:=by rw [bne_iff_ne];exact hm
  have HV:Hid (hI ⟨o,m,nt,sp⟩ n=(inside sp (n.tmod m) != nt)):=Lib.hid (by rw [HO.out];unfold rem;rw [if_neg hm])
  obtain⟨j,hj⟩:∃ j,n.tmod m=j:=⟨_,rfl⟩
  rw [hj] at HV
  have B5:=Lib.hid (B3.out.setCell (p:=⟨w.heap.size+1,0,none⟩) (Nat.le_succ _) (.int .i64 j))
  have KN5:=Lib.hid (KN.out.put 0 (.int .i64 j))
  have KB5:=Lib.hid (KB3.out.far (p:=⟨w.heap.size+1,0,none⟩) (by show w.heap.size≠w.heap.size+1;omega) (.int .i64 j))
  have HR5:=Lib.hid (HR2.out.below (((Below.refl w2.heap.size w2).alloc (Nat.le_refl _) (.cells #[.int .i64 n] 3)).setCell (p:=⟨w.heap.size+1,0,none⟩) (by show w2.heap.size≤w.heap.size+1;omega) (.int .i64 j)))
  rw [hw3] at HR5
  have k6:(w3.setCell ⟨w.heap.size+1,0,none⟩ (.int .i64 j)).cell? ⟨w.heap.size,3,none⟩=some (.slice a2 sp.length c2):=KB5.out.cell 3
  clear HO hw3 hw2
  go_enter Tryz.func97,Tryz.ntmps97
  go_upto_region 1 with fail
  rw [HW3.out]
  go_wp2_with fail
  refine(containsSpan_any _ sp (fun s=>decide (s.1≤j)&&decide (j≤s.2)) 114 _ (enters_of Tryz.func114 (by kernel_rfl) rfl) _ HR5.out (fun W s _ hb=>by
   have kb:=KN5.out.below hb
   exact holdsP1_any j s (w.heap.size+1) W (kb.cell 0) kb.lt)).mono ?_
  rintro e w4 ⟨rfl,b4⟩
  have B4:=Lib.hid (st B5.out b4 B5.out.size)
  have k7:w4.cell? ⟨w.heap.size,2,none⟩=some (.bool nt):=(KB5.out.below b4).cell 2
  clear b4
  have HI:Hid (inside sp j=sp.any fun s=>decide (s.1≤j)&&decide (j≤s.2)):=Lib.hid rfl
  obtain⟨x,hx⟩:∃ x,(sp.any fun s=>decide (s.1≤j)&&decide (j≤s.2))=x:=⟨_,rfl⟩
  rw [hx] at HI ⊢
  clear hx
  go_wp2
  go_ret
  exact⟨by rw [HV.out,HI.out];rfl,B4.out⟩
open Go.RowKit
def encU (x:Nat):List Value:=[.int .u64 (x:Int)]
theorem encU_len (x:Nat):(encU x).length=1:=rfl
theorem encU_one (x:Nat):∀ u∈encU x,u.oneCell'=true:=by intro u hu;simp [encU] at hu;subst hu;rfl
theorem Tryz.infoU:(Tryz.prog.info? 75).map (fun i=>(i.zero,i.size,i.bytes))=some (some (.int .u64 0),1,8):=by kernel_rfl
def RdSets (w:World) (v:Value) (c:List (List Nat)):Prop:=∃ raws:List RawS,Rd 1 encS w v raws∧raws.length=c.length∧∀(i:Nat) (h:i<raws.length) (h':i<c.length),Rd 1 encU w (.slice raws[i].a raws[i].n raws[i].c) c[i]
theorem RdSets.below {w w':World} {v:Value} {c:List (List Nat)} (h:RdSets w v c) (hb:Below w.heap.size w w'):RdSets w' v c:=by
 obtain⟨raws,h1,h2,h3⟩:=h
 exact⟨raws,h1.below hb,h2,fun i a b=>(h3 i a b).below hb⟩
theorem RdSets.slice {w:World} {v:Value} {l:List (List Nat)} (h:RdSets w v l):∃ a c,v= .slice a l.length c∧l.length≤c∧c≤9223372036854775807:=by
 obtain⟨raws,h1,h2,h3⟩:=h
 rw [←h2]
 exact h1.slice
theorem RdSets.at_ {w:World} {a:Option Addr} {n c:Nat} {l:List (List Nat)} (h:RdSets w (.slice a n c) l) (i:Nat) (hi:i<l.length):
  ∃ b off x1 x2,a=some ⟨b,off,none⟩∧w.cell? ⟨b,off+i,none⟩=some (.slice x1 l[i].length x2)∧Rd 1 encU w (.slice x1 l[i].length x2) l[i]:=by
 obtain⟨raws,h1,h2,h3⟩:=h
 have hi':i<raws.length:=by omega
 obtain⟨b,off,ha,_,hx⟩:=h1.some_ i hi'
 have hr:=h3 i hi' hi
 obtain⟨a2,c2,hv,_⟩:=hr.slice
 injection hv with e1 e2 e3
 have h4:=hx 0 _ rfl
 rw [e2,Nat.mul_one,Nat.add_zero] at h4
 rw [e2] at hr
 exact⟨b,off,raws[i].a,raws[i].c,ha,h4,hr⟩
theorem Rd.set_ {w:World} {a:Option Addr} {n c:Nat} {l:List Nat} (h:Rd 1 encU w (.slice a n c) l) (i:Nat) (hi:i<l.length):∃ b off,a=some ⟨b,off,none⟩∧w.cell? ⟨b,off+i,none⟩=some (.int .u64 ((l[i]:Nat):Int)):=by
 obtain⟨b,off,ha,_,hx⟩:=h.some_ i hi
 have:=hx 0 _ rfl
 rw [Nat.mul_one,Nat.add_zero] at this
 exact⟨b,off,ha,this⟩
set_option maxRecDepth 1000000 in
set_option maxHeartbeats 4000000 in
theorem firstS_any (p:Nat × Nat) (hp:p.1≤1000000∧0<p.2∧p.2≤1000000) (n:Nat) (hn:n≤1000000000) (w:World):
  Calls Tryz.prog 98 #[.agg #[.int .i64 p.1,.int .i64 p.2],.int .i64 n] w fun e w'=>e= .returned (.int .i64 (redO p.1 p.2 n:Nat))∧Below w.heap.size w w':=by
 obtain⟨B,m⟩:=p
 dsimp only at hp ⊢
 have HO:Hid (redO B m n=if n<B then n else B+(n - B) % m):=Lib.hid rfl
 obtain⟨R,hR⟩:∃ R,redO B m n=R:=⟨_,rfl⟩
 rw [hR] at HO ⊢
 clear hR
 obtain⟨hp1,hp2,hp3⟩:=hp
 have K:=Lib.hid ((Below.refl w.heap.size w).alloc (Nat.le_refl _) (.cells #[.int .i64 B,.int .i64 m] 88))
 have KB:=Lib.hid (Blk.new w 88 #[.int .i64 B,.int .i64 m])
 obtain⟨W,hW⟩:∃ W,w.alloc (.cells #[.int .i64 B,.int .i64 m] 88)=W:=⟨_,rfl⟩
 rw [hW] at K KB
 have HW:=Lib.hid hW
 have e0:W.cell? ⟨w.heap.size,0,none⟩=some (.int .i64 B):=KB.out.cell 0
 have e1:W.cell? ⟨w.heap.size,1,none⟩=some (.int .i64 m):=KB.out.cell 1
 clear hW
 by_cases h:n<B
 ·have h1:(n:Int)<(B:Int):=by omega
  have HR:Hid (R=n):=Lib.hid (by rw [HO.out,if_pos h])
  clear h
  go_enter Tryz.func98,Tryz.ntmps98
  go_upto_region 1 with fail
  rw [HW.out]
  go_wp2
  go_ret
  exact⟨by rw [HR.out];rfl,K.out⟩
 ·have h1:¬ (n:Int)<(B:Int):=by omega
  obtain⟨j,hj⟩:∃ j,(n - B) % m=j:=⟨_,rfl⟩
  have hjm:j<m:=by rw [←hj];exact Nat.mod_lt _ hp2
  have HR:Hid (R=B+j):=Lib.hid (by rw [HO.out,if_neg h,hj])
  obtain⟨d,rfl⟩:∃ d,n=B+d:=⟨n - B,by omega⟩
  have hj:d % m=j:=by rw [←hj];congr 1;omega
  have m0:((B+d:Nat):Int) - (B:Int)=(d:Int):=by omega
  have m1:(d:Int).tmod (m:Int)=(j:Int):=by rw [Int.tmod_eq_emod_of_nonneg (by omega),←hj];exact(Int.natCast_emod d m).symm
  have m2:(d:Int) % (m:Int)=(j:Int):=by rw [←hj];exact(Int.natCast_emod d m).symm
  have hm0:¬ m=0:=by omega
  have hm1:¬ (m:Int)=0:=by omega
  obtain⟨n,hn'⟩:∃ n,B+d=n:=⟨_,rfl⟩
  rw [hn'] at m0 h1 hn ⊢
  have hd:d≤1000000000:=by omega
  clear h hj hn'
  go_enter Tryz.func98,Tryz.ntmps98
  go_upto_region 1 with fail
  rw [HW.out]
  go_wp2_with fail
  go_quiet (fail)
  go_wp2
  go_ret
  exact⟨by rw [HR.out];rfl,below_drewN K.out _⟩
theorem lcm_of {a b k:Nat} (ha:0<a) (hb:0<b) (hk:0<k) (hd:b ∣k*a) (hno:∀ j,0<j→j<k→¬ b ∣j*a):k*a=Nat.lcm a b:=by
 have h1:Nat.lcm a b ∣k*a:=Nat.lcm_dvd (Nat.dvd_mul_left a k) hd
 obtain⟨j,hj⟩:=Nat.dvd_lcm_left a b
 have h2:0<Nat.lcm a b:=Nat.lcm_pos ha hb
 have hj0:0<j:=by
  rcases Nat.eq_zero_or_pos j with h|h
  ·rw [h,Nat.mul_zero] at hj;omega
  ·exact h
 have h3:Nat.lcm a b≤k*a:=Nat.le_of_dvd (Nat.mul_pos hk ha) h1
 have h4:j≤k:=by
  rw [hj,Nat.mul_comm a j] at h3
  exact Nat.le_of_mul_le_mul_right h3 ha
 rcases Nat.lt_or_ge j k with h5|h5
 ·exfalso
  refine hno j hj0 h5 ?_
  rw [Nat.mul_comm j a,←hj]
  exact Nat.dvd_lcm_right a b
 ·obtain rfl:j=k:=by omega
  rw [hj,Nat.mul_comm]
set_option maxRecDepth 1000000 in
set_option maxHeartbeats 4000000 in
theorem common_any (a b:Nat) (ha:0<a∧a≤1000) (hb:0<b∧b≤1000) (w:World):
  Calls Tryz.prog 70 #[.int .i64 a,.int .i64 b] w fun e w'=>e= .returned (.int .i64 (Nat.lcm a b:Nat))∧w'=w:=by
 obtain⟨ha0,ha1⟩:=ha
 obtain⟨hb0,hb1⟩:=hb
 have HL:=Lib.hid (fun k h1 h2 h3=>lcm_of (k:=k) ha0 hb0 h1 h2 h3)
 obtain⟨L,hL⟩:∃ L,Nat.lcm a b=L:=⟨_,rfl⟩
 have HLE:Hid (∃ k,0<k∧k≤b∧b ∣k*a):=Lib.hid ⟨b,hb0,Nat.le_refl _,Nat.dvd_mul_right b a⟩
 rw [hL] at HL ⊢
 clear hL
 go_enter Tryz.func70,Tryz.ntmps70
 go_wp2
 go_loopw [5] (fun v5 wr=>∃ k N:Nat,0<k∧k≤b∧N=k*a∧v5= .int .i64 N∧(∀ j,0<j→j<k→¬ b ∣j*a)∧wr=w) (fun v5 _=>1000001 - (intOf v5).toNat)
 case atStart=>exact⟨1,a,by omega,by omega,by omega,rfl,fun j h1 h2=>by omega,rfl⟩
 case round=>
  obtain⟨k,N,hk,hkb,hN,rfl,hno,hw⟩:=hrel
  obtain rfl:=hw.symm
  have HNO:=Lib.hid hno
  have HN:=Lib.hid hN
  have hle:N≤1000*1000:=by rw [hN];exact Nat.mul_le_mul (by omega) ha1
  have hn0:¬ b=0:=by omega
  have hn1:¬ (b:Int)=0:=by omega
  obtain⟨j,hj⟩:∃ j,N % b=j:=⟨_,rfl⟩
  have m1:(N:Int).tmod (b:Int)=(j:Int):=by rw [Int.tmod_eq_emod_of_nonneg (by omega),←hj];exact(Int.natCast_emod N b).symm
  have m2:(N:Int) % (b:Int)=(j:Int):=by rw [←hj];exact(Int.natCast_emod N b).symm
  have HJ:=Lib.hid hj
  clear hno hN hj
  by_cases h0:j=0
  ·have t0:((j:Int) != 0)=false:=by rw [bne_eq_false_iff_eq];omega
   have HV:Hid (N=L):=Lib.hid (by
    have h1:=HJ.out
    rw [h0] at h1
    have h2:=Nat.dvd_of_mod_eq_zero h1
    rw [HN.out] at h2 ⊢
    exact HL.out k hk h2 HNO.out)
   clear h0
   go_wp2
   go_ret
   exact⟨by rw [HV.out];rfl,rfl⟩
  ·have t0:((j:Int) != 0)=true:=by rw [bne_iff_ne];omega
   have HND:Hid (¬ b ∣k*a):=Lib.hid (fun hd=>h0 (by have:=Nat.mod_eq_zero_of_dvd hd;rw [←HJ.out,HN.out];exact this))
   have HKB:Hid (k<b):=Lib.hid (by
    rcases Nat.lt_or_ge k b with h|h
    ·exact h
    ·exfalso
     obtain rfl:k=b:=by omega
     exact HND.out (Nat.dvd_mul_right k a))
   clear h0
   go_wp2
   go_roundw
   case measure=>simp [intOf];omega
   case rel=>exact⟨k+1,N+a,by omega,by have:=HKB.out;omega,by rw [HN.out,Nat.add_mul,Nat.one_mul],by go_num,fun j h1 h2=>by
    rcases Nat.lt_or_ge j k with h|h
    ·exact HNO.out j h1 h
    ·obtain rfl:j=k:=by omega
     exact HND.out,(by first|rfl|trivial)⟩
theorem RdSets.alloc_ {w:World} {v:Value} {l:List (List Nat)} (h:RdSets w v l) (o:Obj):RdSets (w.alloc o) v l:=h.below ((Below.refl _ _).alloc (Nat.le_refl _) o)
structure RelP (w:World) (g:Nat) (l:List Rel) (ls:List (List Nat)) (p q s:Nat × Nat):Prop where
 blk:∃ a c b d,Blk g 90 #[.slice a l.length c,.slice b ls.length d,.int .i64 p.1,.int .i64 p.2,.int .i64 q.1,.int .i64 q.2,.int .i64 s.1,.int .i64 s.2] w∧RdRels w (.slice a l.length c) l∧RdSets w (.slice b ls.length d) ls
theorem RelP.below {w w':World} {g:Nat} {l:List Rel} {ls:List (List Nat)} {p q s:Nat × Nat} (h:RelP w g l ls p q s) (hb:Below w.heap.size w w'):RelP w' g l ls p q s:=by
 obtain⟨a,c,b,d,h1,h2,h3⟩:=h.blk
 exact⟨a,c,b,d,h1.below hb,h2.below hb,h3.below hb⟩
theorem RelP.lt {w:World} {g:Nat} {l:List Rel} {ls:List (List Nat)} {p q s:Nat × Nat} (h:RelP w g l ls p q s):g<w.heap.size:=by
 obtain⟨a,c,b,d,h1,h2,h3⟩:=h.blk
 exact h1.lt
theorem shl_nat {k:Nat} (h:k<64) {M:Nat} (hM:2 ^ k=M):IntKind.u64.wrap ((2:Int) ^ k)=(M:Int):=by
 have h1:=pow_lt64 h
 rw [hM] at h1
 have h2:((2:Int) ^ k)=(M:Int):=by rw [←hM];exact(Int.natCast_pow 2 k).symm
 rw [h2]
 simp only [IntKind.wrap,IntKind.bits,IntKind.signed]
 simp
 omega
set_option maxRecDepth 1000000 in
set_option maxHeartbeats 16000000 in
theorem update_any (g:Nat) (l:List Rel) (ls:List (List Nat)) (p q s:Nat × Nat) (hl:∀ r∈l,OkR r) (h6:l.length≤60) (h:Nat) (hh:h<18446744073709551616) (o:Int) (n:Int) (hn: -1≤n∧n≤1000000000) (w:World) (hP:RelP w g l ls p q s):
  Calls Tryz.prog 71 #[.pointer (some ⟨g,0,none⟩),.int .u64 h,.int .i64 o,.int .i64 n] w fun e w'=>e= .returned (.int .u64 (upd l o n h:Nat))∧Below w.heap.size w w':=by
 obtain⟨a,c,b,d,hB,hR,hS⟩:=hP.blk
 have e0:w.cell? ⟨g,0,none⟩=some (.slice a l.length c):=hB.cell 0
 have HU:=Lib.hid hR
 have HL:=Lib.hid hl
 have HN:=Lib.hid hn
 have HH:=Lib.hid hh
 have HZ:Hid (upd l o n h=updN l o n h l.length):=Lib.hid rfl
 clear hB hR hS hP hl hn hh
 go_enter Tryz.func71,Tryz.ntmps71
 go_wp2
 go_loopw [1,16] (fun v1 v16 wr=>∃ k:Nat,k≤l.length∧v16= .int .i64 k∧v1= .int .u64 (updN l o n h k:Nat)∧Below w.heap.size w wr) (fun _ v16 _=>l.length - (intOf v16).toNat)
 case atStart=>exact⟨0,Nat.zero_le _,rfl,rfl,Below.refl _ _⟩
 case round=>
  obtain⟨k,hk,rfl,rfl,hb⟩:=hrel
  have HB:=Lib.hid hb
  have zr:=hb.size
  clear hb
  have HLT:=Lib.hid (updN_ok l o n HH.out k hk (by omega)).1
  by_cases hlt:k<l.length
  ·have HST:=Lib.hid (updN_succ l o n h hlt)
   obtain⟨N,hN⟩:∃ N,updN l o n h k=N:=⟨_,rfl⟩
   rw [hN] at HST HLT ⊢
   obtain⟨bk,off,x1,x2,rfl,c0,c1,c2,c3,c4⟩:=(HU.out.below HB.out).at_ k hlt
   have h9:(k:Int)<(l.length:Int):=by omega
   have hok:=HL.out _ (List.getElem_mem hlt)
   obtain⟨r,hr⟩:∃ r,l[k]=r:=⟨_,rfl⟩
   rw [hr] at c0 c1 c2 c3 c4 hok HST
   have hk64:k<64:=by omega
   obtain⟨M,hM⟩:∃ M,2 ^ k=M:=⟨_,rfl⟩
   have s1:=shl_nat hk64 hM
   have HML:Hid (M<18446744073709551616):=Lib.hid (hM▸pow_lt64 hk64)
   have HUP:Hid (updS o n N k r=if r.op=o then(if hI r n=true then N|||M else andN N M) else N):=Lib.hid (by rw [←hM];rfl)
   have HK:=Lib.hid (fun w hr=>holdsP_any r hok n HN.out x1 x2 w hr)
   have HX:Hid (hI r n=hI r n):=Lib.hid rfl
   obtain⟨y,hy⟩:∃ y,hI r n=y:=⟨_,rfl⟩
   rw [hy] at HUP HK
   obtain⟨ro,rm,rn,rs⟩:=r
   dsimp only at c0 c1 c2 c3 c4 HK HUP
   have HW1:=Lib.hid (HB.out.alloc zr (.cells #[.int .i64 ro,.int .i64 rm,.bool rn,.slice x1 rs.length x2] 52))
   have HB1:=Lib.hid (Blk.new wr 52 #[.int .i64 ro,.int .i64 rm,.bool rn,.slice x1 rs.length x2])
   have HC4:=Lib.hid (c4.alloc (.cells #[.int .i64 ro,.int .i64 rm,.bool rn,.slice x1 rs.length x2] 52))
   obtain⟨W,hW⟩:∃ W,wr.alloc (.cells #[.int .i64 ro,.int .i64 rm,.bool rn,.slice x1 rs.length x2] 52)=W:=⟨_,rfl⟩
   rw [hW] at HW1 HB1 HC4
   have HWE:=Lib.hid hW
   have f0:W.cell? ⟨wr.heap.size,0,none⟩=some (.int .i64 ro):=HB1.out.cell 0
   have f1:W.cell? ⟨wr.heap.size,1,none⟩=some (.int .i64 rm):=HB1.out.cell 1
   have f2:W.cell? ⟨wr.heap.size,2,none⟩=some (.bool rn):=HB1.out.cell 2
   have f3:W.cell? ⟨wr.heap.size,3,none⟩=some (.slice x1 rs.length x2):=HB1.out.cell 3
   clear hN hr hM hy hW c4 hok
   by_cases ho:ro=o
   ·subst ho
    have t0:(ro != ro)=false:=by simp
    cases y with
    |true=>
     have s2:bits .or .u64 (N:Int) (M:Int)=((N|||M:Nat):Int):=u64_or_nat N M HLT.out HML.out
     have HG:Hid (updN l ro n h (k+1)=N|||M):=Lib.hid (by rw [HST.out,HUP.out,if_pos rfl,if_pos rfl])
     obtain⟨R,hR⟩:∃ R,N|||M=R:=⟨_,rfl⟩
     rw [hR] at s2 HG
     clear hR
     go_upto_region 5 with fail
     rw [HWE.out]
     go_wp2_with fail
     refine(HK.out _ HC4.out).mono ?_
     rintro e w2 ⟨rfl,b2⟩
     have HB2:=Lib.hid (st HW1.out b2 HW1.out.size)
     clear b2 f0 f1 f2 f3
     go_wp2
     go_roundw
     case measure=>simp [intOf];omega
     case rel=>exact⟨k+1,by omega,by go_num,by rw [HG.out],HB2.out⟩
    |false=>
     have s2:bits .andNot .u64 (N:Int) (M:Int)=((andN N M:Nat):Int):=u64_andNot_nat N M HLT.out HML.out
     have HG:Hid (updN l ro n h (k+1)=andN N M):=Lib.hid (by rw [HST.out,HUP.out,if_pos rfl,if_neg (by decide)])
     obtain⟨R,hR⟩:∃ R,andN N M=R:=⟨_,rfl⟩
     rw [hR] at s2 HG
     clear hR
     go_upto_region 5 with fail
     rw [HWE.out]
     go_wp2_with fail
     refine(HK.out _ HC4.out).mono ?_
     rintro e w2 ⟨rfl,b2⟩
     have HB2:=Lib.hid (st HW1.out b2 HW1.out.size)
     clear b2 f0 f1 f2 f3
     go_wp2
     go_roundw
     case measure=>simp [intOf];omega
     case rel=>exact⟨k+1,by omega,by go_num,by rw [HG.out],HB2.out⟩
   ·have t0:(ro != o)=true:=by rw [bne_iff_ne];exact ho
    have HG:Hid (updN l o n h (k+1)=N):=Lib.hid (by rw [HST.out,HUP.out,if_neg ho])
    clear ho
    go_upto_region 5 with fail
    rw [HWE.out]
    go_wp2
    go_roundw
    case measure=>simp [intOf];omega
    case rel=>exact⟨k+1,by omega,by go_num,by rw [HG.out],HW1.out⟩
  ·obtain rfl:k=l.length:=by omega
   have h3:¬ (l.length:Int)<(l.length:Int):=by omega
   go_wp2
   go_ret
   exact⟨by rw [HZ.out];rfl,HB.out⟩
open Go.RowKit
def RdCs (w:World) (v:Value) (c:List Cnd):Prop:=∃ raws:List RawS,Rd 1 encS w v raws∧raws.length=c.length∧∀(i:Nat) (h:i<raws.length) (h':i<c.length),RdC w (.slice raws[i].a raws[i].n raws[i].c) c[i]
theorem RdCs.below {w w':World} {v:Value} {c:List Cnd} (h:RdCs w v c) (hb:Below w.heap.size w w'):RdCs w' v c:=by
 obtain⟨raws,h1,h2,h3⟩:=h
 exact⟨raws,h1.below hb,h2,fun i a b=>(h3 i a b).below hb⟩
theorem RdCs.slice {w:World} {v:Value} {l:List Cnd} (h:RdCs w v l):∃ a c,v= .slice a l.length c∧l.length≤c∧c≤9223372036854775807:=by
 obtain⟨raws,h1,h2,h3⟩:=h
 rw [←h2]
 exact h1.slice
theorem RdCs.at_ {w:World} {a:Option Addr} {n c:Nat} {l:List Cnd} (h:RdCs w (.slice a n c) l) (i:Nat) (hi:i<l.length):
  ∃ b off x1 x2,a=some ⟨b,off,none⟩∧w.cell? ⟨b,off+i,none⟩=some (.slice x1 l[i].length x2)∧RdC w (.slice x1 l[i].length x2) l[i]:=by
 obtain⟨raws,h1,h2,h3⟩:=h
 have hi':i<raws.length:=by omega
 obtain⟨b,off,ha,_,hx⟩:=h1.some_ i hi'
 have hr:=h3 i hi' hi
 obtain⟨a2,c2,hv,_⟩:=hr.slice
 injection hv with e1 e2 e3
 have h4:=hx 0 _ rfl
 rw [e2,Nat.mul_one,Nat.add_zero] at h4
 rw [e2] at hr
 exact⟨b,off,raws[i].a,raws[i].c,ha,h4,hr⟩
set_option maxRecDepth 1000000 in
set_option maxHeartbeats 1000000 in
theorem indexSet_any (v:Value) (l:List Nat) (q:Nat→Bool) (g:Nat) (lb:Array Value) (eg:∀ args w,(callFunc g args).run Tryz.prog w= .ok (.enter g args) w) (w:World) (hv:Rd 1 encU w v l)
  (hF:∀(W:World) (m:Nat),m∈l→Below w.heap.size w W→Calls Tryz.prog g (#[.int .u64 (m:Int)]++lb) W fun e w'=>e= .returned (.bool (q m))∧Below W.heap.size W w'):
  Calls Tryz.prog 99 #[v,.func (.func g) #[] lb] w fun e w'=>(∃ r:Int,e= .returned (.int .i64 r)∧decide (0≤r)=l.any q)∧Below w.heap.size w w':=by
 obtain⟨a,c,rfl,hc1,hc2⟩:=hv.slice
 have HU:=Lib.hid hv
 have HF:=Lib.hid hF
 clear hv hF
 go_enter Tryz.func99,Tryz.ntmps99
 go_wp2
 go_loopw [8] (fun v wr=>∃ k:Nat,k≤l.length∧v= .int .i64 k∧(∀(j:Nat) (hj:j<l.length),j<k→q l[j]=false)∧Below w.heap.size w wr) (fun v _=>l.length - (intOf v).toNat)
 case atStart=>exact⟨0,Nat.zero_le _,rfl,fun j _ h=>by omega,Below.refl _ _⟩
 case round=>
  obtain⟨k,hk,rfl,hkd,hb⟩:=hrel
  have HK:=Lib.hid hkd
  have HB:=Lib.hid hb
  have zr:=hb.size
  clear hkd hb
  by_cases hlt:k<l.length
  ·obtain⟨bk,off,rfl,h0⟩:=(HU.out.below HB.out).set_ k hlt
   have h9:(k:Int)<(l.length:Int):=by omega
   have hcall:=HF.out wr l[k] (List.getElem_mem hlt) HB.out
   have HE:Hid (∀ b,q l[k]=b→l[k]=l[k]):=Lib.hid (fun _ _=>rfl)
   obtain⟨qb,hqb⟩:∃ qb,q l[k]=qb:=⟨_,rfl⟩
   have HQ:=Lib.hid hqb
   rw [hqb] at hcall
   have HC:=Lib.hid hcall
   clear hqb hcall HE
   cases qb with
   |true=>
    go_wp2_with (go_at_fn g;refine(HC.out).mono ?_;rintro e w2 ⟨rfl,b2⟩)
    have HB2:=Lib.hid (st HB.out b2 zr)
    clear b2
    go_wp2
    go_ret
    refine⟨⟨_,rfl,?_⟩,HB2.out⟩
    rw [any_hit hlt HQ.out]
    simp
   |false=>
    go_wp2_with (go_at_fn g;refine(HC.out).mono ?_;rintro e w2 ⟨rfl,b2⟩)
    have HB2:=Lib.hid (st HB.out b2 zr)
    clear b2
    go_wp2
    go_roundw
    case measure=>simp [intOf];omega
    case rel=>exact⟨k+1,by omega,by go_num,fun j hj hjk=>by
     rcases Nat.lt_or_ge j k with h|h
     ·exact HK.out j hj h
     ·obtain rfl:j=k:=by omega
      exact HQ.out,HB2.out⟩
  ·obtain rfl:k=l.length:=by omega
   have h3:¬ (l.length:Int)<(l.length:Int):=by omega
   go_wp2
   go_ret
   refine⟨⟨_,rfl,?_⟩,HB.out⟩
   rw [any_take_miss HK.out]
   rfl
set_option maxRecDepth 1000000 in
set_option maxHeartbeats 1000000 in
theorem containsSet_any (v:Value) (l:List Nat) (q:Nat→Bool) (g:Nat) (lb:Array Value) (eg:∀ args w,(callFunc g args).run Tryz.prog w= .ok (.enter g args) w) (w:World) (hv:Rd 1 encU w v l)
  (hF:∀(W:World) (m:Nat),m∈l→Below w.heap.size w W→Calls Tryz.prog g (#[.int .u64 (m:Int)]++lb) W fun e w'=>e= .returned (.bool (q m))∧Below W.heap.size W w'):
  Calls Tryz.prog 74 #[v,.func (.func g) #[] lb] w fun e w'=>e= .returned (.bool (l.any q))∧Below w.heap.size w w':=by
 obtain⟨a,c,rfl,hc1,hc2⟩:=hv.slice
 have HU:=Lib.hid hv
 have HF:=Lib.hid hF
 clear hv hF
 go_enter Tryz.func74,Tryz.ntmps74
 go_wp2_with fail
 refine(indexSet_any _ l q g lb eg _ HU.out HF.out).mono ?_
 rintro e w2 ⟨⟨r,rfl,hr⟩,b2⟩
 have HB2:=Lib.hid b2
 have HR:=Lib.hid hr
 clear b2 hr
 go_wp2
 go_ret
 exact⟨by rw [←HR.out];rfl,HB2.out⟩
set_option maxRecDepth 1000000 in
set_option maxHeartbeats 1000000 in
theorem indexCnd_any (v:Value) (l:List Cnd) (q:Cnd→Bool) (g:Nat) (lb:Array Value) (eg:∀ args w,(callFunc g args).run Tryz.prog w= .ok (.enter g args) w) (w:World) (hv:RdCs w v l)
  (hF:∀(W:World) (m:Cnd) (a2:Option Addr) (c2:Nat),m∈l→Below w.heap.size w W→RdC W (.slice a2 m.length c2) m→Calls Tryz.prog g (#[.slice a2 m.length c2]++lb) W fun e w'=>e= .returned (.bool (q m))∧Below W.heap.size W w'):
  Calls Tryz.prog 88 #[v,.func (.func g) #[] lb] w fun e w'=>(∃ r:Int,e= .returned (.int .i64 r)∧decide (0≤r)=l.any q)∧Below w.heap.size w w':=by
 obtain⟨a,c,rfl,hc1,hc2⟩:=hv.slice
 have HU:=Lib.hid hv
 have HF:=Lib.hid hF
 clear hv hF
 go_enter Tryz.func88,Tryz.ntmps88
 go_wp2
 go_loopw [8] (fun v wr=>∃ k:Nat,k≤l.length∧v= .int .i64 k∧(∀(j:Nat) (hj:j<l.length),j<k→q l[j]=false)∧Below w.heap.size w wr) (fun v _=>l.length - (intOf v).toNat)
 case atStart=>exact⟨0,Nat.zero_le _,rfl,fun j _ h=>by omega,Below.refl _ _⟩
 case round=>
  obtain⟨k,hk,rfl,hkd,hb⟩:=hrel
  have HK:=Lib.hid hkd
  have HB:=Lib.hid hb
  have zr:=hb.size
  clear hkd hb
  by_cases hlt:k<l.length
  ·obtain⟨bk,off,x1,x2,rfl,h0,h4⟩:=(HU.out.below HB.out).at_ k hlt
   have h9:(k:Int)<(l.length:Int):=by omega
   have hcall:=HF.out wr l[k] x1 x2 (List.getElem_mem hlt) HB.out h4
   have HE:Hid (∀ b,q l[k]=b→l[k]=l[k]):=Lib.hid (fun _ _=>rfl)
   obtain⟨qb,hqb⟩:∃ qb,q l[k]=qb:=⟨_,rfl⟩
   have HQ:=Lib.hid hqb
   rw [hqb] at hcall
   have HC:=Lib.hid hcall
   clear hqb hcall HE
   cases qb with
   |true=>
    go_wp2_with (go_at_fn g;refine(HC.out).mono ?_;rintro e w2 ⟨rfl,b2⟩)
    have HB2:=Lib.hid (st HB.out b2 zr)
    clear b2
    go_wp2
    go_ret
    refine⟨⟨_,rfl,?_⟩,HB2.out⟩
    rw [any_hit hlt HQ.out]
    simp
   |false=>
    go_wp2_with (go_at_fn g;refine(HC.out).mono ?_;rintro e w2 ⟨rfl,b2⟩)
    have HB2:=Lib.hid (st HB.out b2 zr)
    clear b2
    go_wp2
    go_roundw
    case measure=>simp [intOf];omega
    case rel=>exact⟨k+1,by omega,by go_num,fun j hj hjk=>by
     rcases Nat.lt_or_ge j k with h|h
     ·exact HK.out j hj h
     ·obtain rfl:j=k:=by omega
      exact HQ.out,HB2.out⟩
  ·obtain rfl:k=l.length:=by omega
   have h3:¬ (l.length:Int)<(l.length:Int):=by omega
   go_wp2
   go_ret
   refine⟨⟨_,rfl,?_⟩,HB.out⟩
   rw [any_take_miss HK.out]
   rfl
set_option maxRecDepth 1000000 in
set_option maxHeartbeats 1000000 in
theorem containsCnd_any (v:Value) (l:List Cnd) (q:Cnd→Bool) (g:Nat) (lb:Array Value) (eg:∀ args w,(callFunc g args).run Tryz.prog w= .ok (.enter g args) w) (w:World) (hv:RdCs w v l)
  (hF:∀(W:World) (m:Cnd) (a2:Option Addr) (c2:Nat),m∈l→Below w.heap.size w W→RdC W (.slice a2 m.length c2) m→Calls Tryz.prog g (#[.slice a2 m.length c2]++lb) W fun e w'=>e= .returned (.bool (q m))∧Below W.heap.size W w'):
  Calls Tryz.prog 58 #[v,.func (.func g) #[] lb] w fun e w'=>e= .returned (.bool (l.any q))∧Below w.heap.size w w':=by
 obtain⟨a,c,rfl,hc1,hc2⟩:=hv.slice
 have HU:=Lib.hid hv
 have HF:=Lib.hid hF
 clear hv hF
 go_enter Tryz.func58,Tryz.ntmps58
 go_wp2_with fail
 refine(indexCnd_any _ l q g lb eg _ HU.out HF.out).mono ?_
 rintro e w2 ⟨⟨r,rfl,hr⟩,b2⟩
 have HB2:=Lib.hid b2
 have HR:=Lib.hid hr
 clear b2 hr
 go_wp2
 go_ret
 exact⟨by rw [←HR.out];rfl,HB2.out⟩
theorem Rd.int_ {w:World} {a:Option Addr} {n c:Nat} {l:List Int} (h:Rd 1 encI w (.slice a n c) l) (i:Nat) (hi:i<l.length):∃ b off,a=some ⟨b,off,none⟩∧w.cell? ⟨b,off+i,none⟩=some (.int .i64 l[i]):=by
 obtain⟨b,off,ha,_,hx⟩:=h.some_ i hi
 have:=hx 0 _ rfl
 rw [Nat.mul_one,Nat.add_zero] at this
 exact⟨b,off,ha,this⟩
set_option maxRecDepth 1000000 in
set_option maxHeartbeats 1000000 in
theorem indexI_any (v:Value) (l:List Int) (x:Int) (w:World) (hv:Rd 1 encI w v l):
  Calls Tryz.prog 96 #[v,.int .i64 x] w fun e w'=>(∃ r:Int,e= .returned (.int .i64 r)∧decide (0≤r)=l.any (fun y=>x==y))∧w'=w:=by
 obtain⟨a,c,rfl,hc1,hc2⟩:=hv.slice
 have HU:=Lib.hid hv
 clear hv
 go_enter Tryz.func96,Tryz.ntmps96
 go_wp2
 go_loopw [8] (fun v wr=>∃ k:Nat,k≤l.length∧v= .int .i64 k∧(∀(j:Nat) (hj:j<l.length),j<k→(x==l[j])=false)∧wr=w) (fun v _=>l.length - (intOf v).toNat)
 case atStart=>exact⟨0,Nat.zero_le _,rfl,fun j _ h=>by omega,rfl⟩
 case round=>
  obtain⟨k,hk,rfl,hkd,hw⟩:=hrel
  obtain rfl:=hw.symm
  have HK:=Lib.hid hkd
  clear hkd
  by_cases hlt:k<l.length
  ·obtain⟨bk,off,rfl,h0⟩:=HU.out.int_ k hlt
   have h9:(k:Int)<(l.length:Int):=by omega
   obtain⟨qb,hqb⟩:∃ qb,(x==l[k])=qb:=⟨_,rfl⟩
   have HQ:=Lib.hid hqb
   obtain⟨y,hy⟩:∃ y,l[k]=y:=⟨_,rfl⟩
   rw [hy] at h0 hqb
   clear hy
   cases qb with
   |true=>
    go_wp2
    go_ret
    refine⟨⟨_,rfl,?_⟩,rfl⟩
    rw [any_hit (q:=fun y=>x==y) hlt HQ.out]
    simp
   |false=>
    go_wp2
    go_roundw
    case measure=>simp [intOf];omega
    case rel=>exact⟨k+1,by omega,by go_num,fun j hj hjk=>by
     rcases Nat.lt_or_ge j k with h|h
     ·exact HK.out j hj h
     ·obtain rfl:j=k:=by omega
      exact HQ.out,(by first|rfl|trivial)⟩
  ·obtain rfl:k=l.length:=by omega
   have h3:¬ (l.length:Int)<(l.length:Int):=by omega
   go_wp2
   go_ret
   refine⟨⟨_,rfl,?_⟩,rfl⟩
   rw [any_take_miss HK.out]
   rfl
set_option maxRecDepth 1000000 in
set_option maxHeartbeats 1000000 in
theorem containsI_any (v:Value) (l:List Int) (x:Int) (w:World) (hv:Rd 1 encI w v l):
  Calls Tryz.prog 69 #[v,.int .i64 x] w fun e w'=>e= .returned (.bool (l.any (fun y=>x==y)))∧w'=w:=by
 obtain⟨a,c,rfl,hc1,hc2⟩:=hv.slice
 have HU:=Lib.hid hv
 clear hv
 go_enter Tryz.func69,Tryz.ntmps69
 go_wp2_with fail
 refine(indexI_any _ l x _ HU.out).mono ?_
 rintro e w2 ⟨⟨r,rfl,hr⟩,hw2⟩
 obtain rfl:=hw2.symm
 have HR:=Lib.hid hr
 clear hr
 go_wp2
 go_ret
 exact⟨by rw [←HR.out];rfl,rfl⟩
set_option maxRecDepth 1000000 in
set_option maxHeartbeats 16000000 in
theorem on_any (g:Nat) (l:List Rel) (ls:List (List Nat)) (p q s:Nat × Nat) (h6:l.length≤60) (o:Int) (w:World) (hP:RelP w g l ls p q s):
  Calls Tryz.prog 89 #[.pointer (some ⟨g,0,none⟩),.int .i64 o] w fun e w'=>e= .returned (.int .u64 (on l o:Nat))∧Below w.heap.size w w':=by
 obtain⟨a,c,b,d,hB,hR,hS⟩:=hP.blk
 have e0:w.cell? ⟨g,0,none⟩=some (.slice a l.length c):=hB.cell 0
 have HU:=Lib.hid hR
 have HZ:Hid (on l o=onN l o l.length):=Lib.hid rfl
 clear hB hR hS hP
 go_enter Tryz.func89,Tryz.ntmps89
 go_wp2
 go_loopw [5,13] (fun v5 v13 wr=>∃ k:Nat,k≤l.length∧v13= .int .i64 k∧v5= .int .u64 (onN l o k:Nat)∧Below w.heap.size w wr) (fun _ v13 _=>l.length - (intOf v13).toNat)
 case atStart=>exact⟨0,Nat.zero_le _,rfl,rfl,Below.refl _ _⟩
 case round=>
  obtain⟨k,hk,rfl,rfl,hb⟩:=hrel
  have HB:=Lib.hid hb
  have zr:=hb.size
  clear hb
  have HLT:=Lib.hid (onN_ok l o k hk (by omega)).1
  by_cases hlt:k<l.length
  ·have HST:=Lib.hid (onN_succ l o hlt)
   obtain⟨N,hN⟩:∃ N,onN l o k=N:=⟨_,rfl⟩
   rw [hN] at HST HLT ⊢
   obtain⟨bk,off,x1,x2,rfl,c0,c1,c2,c3,c4⟩:=(HU.out.below HB.out).at_ k hlt
   have h9:(k:Int)<(l.length:Int):=by omega
   obtain⟨r,hr⟩:∃ r,l[k]=r:=⟨_,rfl⟩
   rw [hr] at c0 c1 c2 c3 c4 HST
   have hk64:k<64:=by omega
   obtain⟨M,hM⟩:∃ M,2 ^ k=M:=⟨_,rfl⟩
   have s1:=shl_nat hk64 hM
   have HML:Hid (M<18446744073709551616):=Lib.hid (hM▸pow_lt64 hk64)
   have HUP:Hid (onS o N k r=if r.op=o then N|||M else N):=Lib.hid (by rw [←hM];rfl)
   obtain⟨ro,rm,rn,rs⟩:=r
   dsimp only at c0 c1 c2 c3 HUP
   have HW1:=Lib.hid (HB.out.alloc zr (.cells #[.int .i64 ro,.int .i64 rm,.bool rn,.slice x1 rs.length x2] 52))
   have HB1:=Lib.hid (Blk.new wr 52 #[.int .i64 ro,.int .i64 rm,.bool rn,.slice x1 rs.length x2])
   obtain⟨W,hW⟩:∃ W,wr.alloc (.cells #[.int .i64 ro,.int .i64 rm,.bool rn,.slice x1 rs.length x2] 52)=W:=⟨_,rfl⟩
   rw [hW] at HW1 HB1
   have HWE:=Lib.hid hW
   have f0:W.cell? ⟨wr.heap.size,0,none⟩=some (.int .i64 ro):=HB1.out.cell 0
   clear hN hr hM hW c4
   by_cases ho:ro=o
   ·subst ho
    have t0:(ro==ro)=true:=by simp
    have s2:bits .or .u64 (N:Int) (M:Int)=((N|||M:Nat):Int):=u64_or_nat N M HLT.out HML.out
    have HG:Hid (onN l ro (k+1)=N|||M):=Lib.hid (by rw [HST.out,HUP.out,if_pos rfl])
    obtain⟨R,hR⟩:∃ R,N|||M=R:=⟨_,rfl⟩
    rw [hR] at s2 HG
    clear hR
    go_upto_region 5 with fail
    rw [HWE.out]
    go_wp2
    go_roundw
    case measure=>simp [intOf];omega
    case rel=>exact⟨k+1,by omega,by go_num,by rw [HG.out],HW1.out⟩
   ·have t0:(ro==o)=false:=by rw [beq_eq_false_iff_ne];exact ho
    have HG:Hid (onN l o (k+1)=N):=Lib.hid (by rw [HST.out,HUP.out,if_neg ho])
    clear ho
    go_upto_region 5 with fail
    rw [HWE.out]
    go_wp2
    go_roundw
    case measure=>simp [intOf];omega
    case rel=>exact⟨k+1,by omega,by go_num,by rw [HG.out],HW1.out⟩
  ·obtain rfl:k=l.length:=by omega
   have h3:¬ (l.length:Int)<(l.length:Int):=by omega
   go_wp2
   go_ret
   exact⟨by rw [HZ.out];rfl,HB.out⟩
set_option maxRecDepth 1000000 in
set_option maxHeartbeats 1000000 in
theorem cond1_any (h a:Nat) (hh:h<18446744073709551616) (ha:a<18446744073709551616) (B:Nat) (W:World) (hc:W.cell? ⟨B,0,none⟩=some (.int .u64 h)):
  Calls Tryz.prog 75 (#[.int .u64 (a:Int)]++ #[.pointer (some ⟨B,0,none⟩)]) W fun e w'=>e= .returned (.bool (decide (andN a h=0)))∧Below W.heap.size W w':=by
 have s2:bits .andNot .u64 (a:Int) (h:Int)=((andN a h:Nat):Int):=u64_andNot_nat a h ha hh
 have HX:Hid (∀ z,andN a h=z→(decide (andN a h=0)=((z:Int)==0))):=Lib.hid (fun z hz=>by rw [hz];by_cases h0:z=0<;>simp [h0])
 obtain⟨R,hR⟩:∃ R,andN a h=R:=⟨_,rfl⟩
 have HY:=Lib.hid (HX.out R hR)
 rw [hR] at s2
 clear hR HX hh ha
 go_enter Tryz.func75,Tryz.ntmps75
 go_wp2
 go_ret
 exact⟨by rw [HY.out];first|rfl|simp,Below.refl _ _⟩
set_option maxRecDepth 1000000 in
set_option maxHeartbeats 16000000 in
theorem conditions_any (g:Nat) (l:List Rel) (ls:List (List Nat)) (p q s:Nat × Nat) (h6:ls.length≤60) (hs:∀ c∈ls,∀ a∈c,a<18446744073709551616) (h:Nat) (hh:h<18446744073709551616) (w:World) (hP:RelP w g l ls p q s):
  Calls Tryz.prog 46 #[.pointer (some ⟨g,0,none⟩),.int .u64 h] w fun e w'=>e= .returned (.int .u64 (cndN ls h ls.length:Nat))∧Below w.heap.size w w':=by
 obtain⟨a,c,b,d,hB,hR,hS⟩:=hP.blk
 have HU:=Lib.hid (hS.alloc_ (.cells #[.int .u64 h] 75))
 have HBX:=Lib.hid (Blk.new w 75 #[.int .u64 h])
 have K:=Lib.hid ((Below.refl w.heap.size w).alloc (Nat.le_refl _) (.cells #[.int .u64 h] 75))
 have e1:(w.alloc (.cells #[.int .u64 h] 75)).cell? ⟨g,1,none⟩=some (.slice b ls.length d):=(hB.alloc _).cell 1
 have HH:=Lib.hid hh
 have HSS:=Lib.hid hs
 obtain⟨W,hW⟩:∃ W,w.alloc (.cells #[.int .u64 h] 75)=W:=⟨_,rfl⟩
 rw [hW] at HU HBX K e1
 have HWE:=Lib.hid hW
 clear hB hR hS hP hW hh hs
 go_enter Tryz.func46,Tryz.ntmps46
 go_upto_region 1 with fail
 rw [HWE.out]
 go_wp2_with fail
 go_loopw [5,13] (fun v5 v13 wr=>∃ k:Nat,k≤ls.length∧v13= .int .i64 k∧v5= .int .u64 (cndN ls h k:Nat)∧Below W.heap.size W wr) (fun _ v13 _=>ls.length - (intOf v13).toNat)
 case atStart=>exact⟨0,Nat.zero_le _,rfl,rfl,Below.refl _ _⟩
 case round=>
  obtain⟨k,hk,rfl,rfl,hb⟩:=hrel
  have HB:=Lib.hid hb
  have zr:=hb.size
  clear hb
  have HLT:=Lib.hid (cndN_ok ls h k hk (by omega)).1
  by_cases hlt:k<ls.length
  ·have HST:=Lib.hid (cndN_succ ls h hlt)
   obtain⟨N,hN⟩:∃ N,cndN ls h k=N:=⟨_,rfl⟩
   rw [hN] at HST HLT ⊢
   obtain⟨bk,off,x1,x2,rfl,c0,c4⟩:=(HU.out.below HB.out).at_ k hlt
   have h9:(k:Int)<(ls.length:Int):=by omega
   have HSA:=Lib.hid (HSS.out _ (List.getElem_mem hlt))
   obtain⟨r,hr⟩:∃ r,ls[k]=r:=⟨_,rfl⟩
   rw [hr] at c0 c4 HST HSA
   have hk64:k<64:=by omega
   obtain⟨M,hM⟩:∃ M,2 ^ k=M:=⟨_,rfl⟩
   have s1:=shl_nat hk64 hM
   have HML:Hid (M<18446744073709551616):=Lib.hid (hM▸pow_lt64 hk64)
   have HUP:Hid (cndS h N k r=if (r.any fun a=>decide (andN a h=0))=true then N|||M else N):=Lib.hid (by rw [←hM];rfl)
   have C4:=Lib.hid c4
   have s2:bits .or .u64 (N:Int) (M:Int)=((N|||M:Nat):Int):=u64_or_nat N M HLT.out HML.out
   obtain⟨R,hR⟩:∃ R,N|||M=R:=⟨_,rfl⟩
   rw [hR] at s2 HUP
   clear hN hr hM c4 hR
   go_wp2_with fail
   refine(containsSet_any _ r (fun a=>decide (andN a h=0)) 75 _ (enters_of Tryz.func75 (by kernel_rfl) rfl) _ C4.out (fun W2 a ha hb=>cond1_any h a HH.out (HSA.out a ha) w.heap.size W2 ((HBX.out.below (st HB.out hb HB.out.size)).cell 0))).mono ?_
   rintro e w2 ⟨rfl,b2⟩
   have HB2:=Lib.hid (st HB.out b2 HB.out.size)
   clear b2
   obtain⟨y,hy⟩:∃ y,(r.any fun a=>decide (andN a h=0))=y:=⟨_,rfl⟩
   rw [hy] at HUP ⊢
   clear hy
   cases y with
   |true=>
    have HG:Hid (cndN ls h (k+1)=R):=Lib.hid (by rw [HST.out,HUP.out,if_pos rfl])
    go_wp2
    go_roundw
    case measure=>simp [intOf];omega
    case rel=>exact⟨k+1,by omega,by go_num,by rw [HG.out],HB2.out⟩
   |false=>
    have HG:Hid (cndN ls h (k+1)=N):=Lib.hid (by rw [HST.out,HUP.out,if_neg (by decide)])
    go_wp2
    go_roundw
    case measure=>simp [intOf];omega
    case rel=>exact⟨k+1,by omega,by go_num,by rw [HG.out],HB2.out⟩
  ·obtain rfl:k=ls.length:=by omega
   have h3:¬ (ls.length:Int)<(ls.length:Int):=by omega
   have KZ:=Lib.hid (st K.out HB.out K.out.size)
   go_wp2
   go_ret
   exact⟨rfl,KZ.out⟩
end Go.Proofs.YtobapaodpcheiaaGreatDoor
