/- What the row stands on, part 27. -/
import Derived.Shelf.Strings.Replace
import Derived.Test.YtobapaodpcheiaaGreatDoorZyrp
import Derived.Test.YtobapaodpcheiaaGreatDoorQ26
namespace Go.Proofs.YtobapaodpcheiaaGreatDoor
open Go.RowKit Go.Maps
set_option linter.unusedVariables false
def ptS (s:Str):Str:=s.map (fun c=>if c=58 then 46 else c)
theorem ptS_len (s:Str):(ptS s).length=s.length:=by unfold ptS;rw [List.length_map]
theorem ptS_no:∀ {s:Str},58 ∉s→ptS s=s
 |[],_=>rfl
 |c::s,h=>by
  unfold ptS
  rw [List.map_cons,if_neg (fun e=>h (by rw [e];exact List.mem_cons_self))]
  exact congrArg (c::·) (ptS_no (s:=s) (fun hm=>h (List.mem_cons_of_mem _ hm)))
theorem ptS_append (a b:Str):ptS (a++b)=ptS a++ptS b:=by unfold ptS;rw [List.map_append]
theorem idx_colon:∀(s:Str),(Lib.index s [58]= -1∧58 ∉s)∨∃ a b,s=a++58::b∧58 ∉a∧Lib.index s [58]=(a.length:Nat)
 |[]=> .inl ⟨by decide,by simp⟩
 |c::s=>by
  by_cases hc:c=58
  ·subst hc
   refine .inr ⟨[],s,rfl,by simp,?_⟩
   have e:List.isPrefixOf [58] ((58:UInt8)::s)=true:=by simp [List.isPrefixOf]
   rw [Lib.index,if_pos e]
   rfl
  ·have e:¬ List.isPrefixOf [58] (c::s)=true:=by simp [List.isPrefixOf];exact fun h=>hc h.symm
   rcases idx_colon s with⟨h1,h2⟩|⟨a,b,h1,h2,h3⟩
   ·refine .inl ⟨?_,?_⟩
    ·rw [Lib.index,if_neg e,h1];rfl
    ·intro hm
     rcases List.mem_cons.1 hm with h|h
     ·exact hc h.symm
     ·exact h2 h
   ·refine .inr ⟨c::a,b,by rw [h1];rfl,?_,?_⟩
    ·intro hm
     rcases List.mem_cons.1 hm with h|h
     ·exact hc h.symm
     ·exact h2 h
    ·have e2:¬ (Lib.index s [58]== -1)=true:=by rw [h3,beq_iff_eq];omega
     rw [Lib.index,if_neg e,if_neg e2,h3,List.length_cons]
     omega
theorem repl_colon:∀(n:Nat) (s:Str),s.length≤n→∀ k,Lib.count s [58]≤k→Lib.replaceK [58] [46] k s=ptS s:=by
 intro n
 induction n with
 |zero=>
  intro s hs k _
  obtain rfl:s= []:=List.length_eq_zero_iff.1 (by omega)
  cases k with
  |zero=>rfl
  |succ k=>rfl
 |succ n ih=>
  intro s hs k hk
  rcases idx_colon s with⟨h1,h2⟩|⟨a,b,h1,h2,h3⟩
  ·rw [ptS_no h2]
   cases k with
   |zero=>rfl
   |succ k=>rw [Lib.replaceK,if_pos (by rw [h1];rfl)]
  ·have hc:=Lib.count_hit (sub:=[58]) (by simp) h3
   cases k with
   |zero=>omega
   |succ k=>
    rw [Lib.replaceK_hit _ _ _ _ _ h3]
    have e1:s.take a.length=a:=by rw [h1,List.take_left]
    have e2:s.drop (a.length+ [(58:UInt8)].length)=b:=by
     rw [h1,List.drop_append,List.drop_of_length_le (by simp)]
     simp
    rw [e2] at hc ⊢
    rw [e1,ih b (by rw [h1] at hs;simp at hs;omega) k (by omega),h1,ptS_append,ptS_no h2]
    have e3:ptS (58::b)=46::ptS b:=rfl
    rw [e3]
    simp
theorem replAll_colon (s:Str):Lib.replaceAll s [58] [46]=ptS s:=by
 unfold Lib.replaceAll Lib.replace
 have e:([(58:UInt8)]== [46])=false:=by decide
 rw [e]
 have e2:Lib.replaceNum s [58] (-1)=Lib.count s [58]:=by unfold Lib.replaceNum;rw [if_pos (Or.inl (by decide))]
 rw [e2]
 exact repl_colon s.length s (Nat.le_refl _) _ (Nat.le_refl _)
def stepW (p:Nat→Bool) (L:List Str) (best:Str) (k:Nat):Str:=if (decide (L.getD k []≠ [])&&(p k&&isB (L.getD k []) best))=true then L.getD k [] else best
def wheL (p:Nat→Bool) (L:List Str) (n:Nat):Str:=(List.range n).foldl (stepW p L) []
theorem wheL_succ (p:Nat→Bool) (L:List Str) (n:Nat):wheL p L (n+1)=stepW p L (wheL p L n) n:=by
 unfold wheL
 rw [List.range_succ,List.foldl_append]
 rfl
theorem wheL_len {p:Nat→Bool} {L:List Str} {m:Nat} (h:∀ x∈L,x.length≤m):∀ n,(wheL p L n).length≤m
 |0=>Nat.zero_le _
 |n+1=>by
  rw [wheL_succ]
  unfold stepW
  split
  ·rw [List.getD_eq_getElem?_getD]
   cases hx:L[n]? with
   |none=>exact Nat.zero_le _
   |some x=>exact h x (List.mem_of_getElem? hx)
  ·exact wheL_len h n
structure MaxL (w:World):Prop where
 is:∃ m:Int,w.cell? ⟨0,0,none⟩=some (.int .i64 m)
 pos:0<w.heap.size
theorem MaxL.below {w w':World} (h:MaxL w) (hb:Below w.heap.size w w'):MaxL w':=by
 obtain⟨⟨m,hm⟩,hp⟩:=h
 exact⟨⟨m,(hb.cell (p:=⟨0,0,none⟩) hp).trans hm⟩,Nat.lt_of_lt_of_le hp hb.size⟩
set_option maxRecDepth 1000000 in
set_option maxHeartbeats 4000000 in
theorem replC_any (s:Str) (hs:s.length≤1000000) (w:World) (hm:MaxL w):
  Calls Tryz.prog 61 #[.string (ofL s),.string (ofL [58]),.string (ofL [46])] w fun e w'=>e= .returned (.string (ofL (ptS s)))∧Below w.heap.size w w':=by
 obtain⟨⟨m,hm⟩,hp⟩:=hm
 have h1:=ofL_size s
 have h2:Lib.countB (ofL s) (ofL [58])≤s.length+1:=Lib.count_le s [58]
 have h3:(ofL [46]).size=1:=rfl
 refine(Tryz.strings_ReplaceAll (ofL s) (ofL [58]) (ofL [46]) m w (by omega) hm (by decide) (by rw [h3,Nat.mul_one];omega)).mono ?_
 rintro e w' ⟨rfl,hw⟩
 refine⟨?_,hw⟩
 have e1:Lib.replaceAll (ofL s).data.toList (ofL [58]).data.toList (ofL [46]).data.toList=ptS s:=replAll_colon s
 rw [e1]
 rfl
set_option maxRecDepth 1000000 in
set_option maxHeartbeats 8000000 in
theorem where_any (v:Value) (L:List Str) (p:Nat→Bool) (g:Nat) (lb:Array Value) (eg:∀ args w,(callFunc g args).run Tryz.prog w= .ok (.enter g args) w) (w:World) (hv:Rd 1 encT w v L) (hL:L.length≤1024) (hx:∀ x∈L,x.length≤1000000) (hm:MaxL w)
  (hF:∀(W:World) (c:Nat),c<L.length→Below w.heap.size w W→Calls Tryz.prog g (#[.int .u64 (c:Int)]++lb) W fun e w'=>e= .returned (.bool (p c))∧w'=W):
  Calls Tryz.prog 32 #[v,.func (.func g) #[] lb] w fun e w'=>e= .returned (.string (ofL (ptS (wheL p L L.length))))∧Below w.heap.size w w':=by
 obtain⟨a,c,rfl,hc1,hc2⟩:=hv.slice
 have HU:=Lib.hid hv
 have HF:=Lib.hid hF
 have HM:=Lib.hid hm
 have HX:=Lib.hid hx
 clear hv hF hm hx
 go_enter Tryz.func32,Tryz.ntmps32
 go_wp2
 go_loopw [5,10] (fun v5 v10 wr=>∃ k:Nat,k≤L.length∧v10= .int .i64 k∧v5= .string (ofL (wheL p L k))∧Below w.heap.size w wr) (fun _ v10 _=>L.length - (intOf v10).toNat)
 case atStart=>exact⟨0,Nat.zero_le _,rfl,rfl,Below.refl _ _⟩
 case round=>
  obtain⟨k,hk,rfl,rfl,hb⟩:=hrel
  have HB:=Lib.hid hb
  have zr:=hb.size
  clear hb
  obtain⟨O,hO⟩:∃ O,wheL p L k=O:=⟨_,rfl⟩
  have HOL:Hid (O.length≤1000000):=Lib.hid (by rw [←hO];exact wheL_len HX.out k)
  rw [hO]
  by_cases hlt:k<L.length
  ·obtain⟨bk,off,rfl,h0⟩:=(HU.out.below HB.out).str k hlt
   have h9:(k:Int)<(L.length:Int):=by omega
   have hcall:=HF.out wr k hlt HB.out
   have HST:Hid (wheL p L (k+1)=if (decide (L[k]≠ [])&&(p k&&isB L[k] O))=true then L[k] else O):=Lib.hid (by
    rw [wheL_succ,hO]
    unfold stepW
    rw [List.getD_eq_getElem?_getD,List.getElem?_eq_getElem hlt]
    rfl)
   have HNL:=Lib.hid (HX.out _ (List.getElem_mem hlt))
   obtain⟨n,hn⟩:∃ n,L[k]=n:=⟨_,rfl⟩
   rw [hn] at h0 HST HNL
   obtain⟨pb,hpb⟩:∃ pb,p k=pb:=⟨_,rfl⟩
   rw [hpb] at hcall HST
   have HC:=Lib.hid hcall
   clear hn hpb hO hcall hlt
   by_cases hn0:n= []
   ·subst hn0
    have t0:((ofL []).toList==([]:List UInt8))=true:=by rw [toL];rfl
    have HGO:Hid (wheL p L (k+1)=O):=Lib.hid (by rw [HST.out];rfl)
    go_wp2_with fail
    go_roundw
    case measure=>simp [intOf];omega
    case rel=>exact⟨k+1,by omega,by go_num,by rw [HGO.out],HB.out⟩
   ·have t0:((ofL n).toList==([]:List UInt8))=false:=by rw [beq_eq_false_iff_ne,toL];exact hn0
    have t00:(ofL n).toList.isEmpty=false:=by rw [toL];cases n with|nil=>exact absurd rfl hn0|cons x l=>rfl
    have HST2:Hid (wheL p L (k+1)=if (pb&&isB n O)=true then n else O):=Lib.hid (by rw [HST.out,decide_eq_true hn0,Bool.true_and])
    clear hn0 HST
    cases pb with
    |false=>
     have HGO:Hid (wheL p L (k+1)=O):=Lib.hid (by rw [HST2.out];rfl)
     go_wp2_with fail
     refine HC.out.mono ?_
     rintro e w2 ⟨rfl,hw2⟩
     obtain rfl:=hw2.symm
     go_wp2_with fail
     go_roundw
     case measure=>simp [intOf];omega
     case rel=>exact⟨k+1,by omega,by go_num,by rw [HGO.out],HB.out⟩
    |true=>
     have HISB:=Lib.hid (isBefore_any n O HNL.out HOL.out wr)
     obtain⟨y,hy⟩:∃ y,isB n O=y:=⟨_,rfl⟩
     rw [hy] at HISB HST2
     clear hy
     go_wp2_with fail
     refine HC.out.mono ?_
     rintro e w2 ⟨rfl,hw2⟩
     obtain rfl:=hw2.symm
     go_wp2_with fail
     refine HISB.out.mono ?_
     rintro e w3 ⟨rfl,hw3⟩
     obtain rfl:=hw3.symm
     cases y with
     |true=>
      have HGO:Hid (wheL p L (k+1)=n):=Lib.hid (by rw [HST2.out];rfl)
      go_wp2_with fail
      go_roundw
      case measure=>simp [intOf];omega
      case rel=>exact⟨k+1,by omega,by go_num,by rw [HGO.out],HB.out⟩
     |false=>
      have HGO:Hid (wheL p L (k+1)=O):=Lib.hid (by rw [HST2.out];rfl)
      go_wp2_with fail
      go_roundw
      case measure=>simp [intOf];omega
      case rel=>exact⟨k+1,by omega,by go_num,by rw [HGO.out],HB.out⟩
  ·obtain rfl:k=L.length:=by omega
   have h3:¬ (L.length:Int)<(L.length:Int):=by omega
   have HRE:=Lib.hid (replC_any O HOL.out wr (HM.out.below HB.out))
   have HO:=Lib.hid hO
   clear hO
   go_wp2_with fail
   refine HRE.out.mono ?_
   rintro e w2 ⟨rfl,hw2⟩
   have HB2:=Lib.hid (st HB.out hw2 zr)
   go_wp2
   go_ret
   exact⟨by rw [HO.out];rfl,HB2.out⟩
def okT (s:Str):Prop:=∀ c∈s,isD c=true∨c=58
def isLt (a b:Str):Bool:=decide (a.length<b.length)||(decide (a.length=b.length)&&Op.bytesLess a b)
theorem isB_eq (a b:Str):isB a b=(decide (b= [])||isLt a b):=rfl
theorem sy_pt {c:UInt8} (h:isD c=true∨c=58):sy0 (if c=58 then 46 else c)+48=c.toNat:=by
 rcases h with h|rfl
 ·have e:=isD_iff.1 h
  have hne:¬ c=58:=fun e2=>by rw [e2] at e;exact absurd e.2 (by decide)
  rw [if_neg hne,sy0_digit h]
  unfold dg
  omega
 ·rfl
theorem less_lex:∀ {a b:Str},okT a→okT b→a.length=b.length→(Op.bytesLess a b=true↔lexW (wd0 (ptS a)) (wd0 (ptS b)))
 |[],[],_,_,_=>by simp [Op.bytesLess,ptS,wd0,lexW]
 |[],_::_,_,_,h=>by simp at h
 |_::_,[],_,_,h=>by simp at h
 |c::a,d::b,ha,hb,hl=>by
  have hl':a.length=b.length:=by simpa using hl
  have ih:=less_lex (fun x hx=>ha x (by simp [hx])) (fun x hx=>hb x (by simp [hx])) hl'
  have hc:=sy_pt (ha c (by simp))
  have hd:=sy_pt (hb d (by simp))
  have hu:Op.bytesLess (c::a) (d::b)=(decide (c<d)||(c==d&&Op.bytesLess a b)):=by rw [Op.bytesLess]
  have e1:wd0 (ptS (c::a))=sy0 (if c=58 then 46 else c)::wd0 (ptS a):=rfl
  have e2:wd0 (ptS (d::b))=sy0 (if d=58 then 46 else d)::wd0 (ptS b):=rfl
  rw [hu,e1,e2,lexW,←ih,Bool.or_eq_true,Bool.and_eq_true,decide_eq_true_iff,beq_iff_eq,UInt8.lt_iff_toNat_lt]
  constructor
  ·rintro(h|⟨h,k⟩)
   ·exact .inl (by omega)
   ·subst h
    exact .inr ⟨rfl,k⟩
  ·rintro(h|⟨h,k⟩)
   ·exact .inl (by omega)
   ·exact .inr ⟨u8_ext (by omega),k⟩
theorem lt_bef {a b:Str} (ha:okT a) (hb:okT b):isLt a b=true↔befS (ptS a) (ptS b):=by
 unfold isLt befS bef
 rw [wd0_len,wd0_len,ptS_len,ptS_len,Bool.or_eq_true,Bool.and_eq_true,decide_eq_true_iff,decide_eq_true_iff]
 constructor
 ·rintro(h|⟨h,k⟩)
  ·exact .inl h
  ·exact .inr ⟨h,(less_lex ha hb h).1 k⟩
 ·rintro(h|⟨h,k⟩)
  ·exact .inl h
  ·exact .inr ⟨h,(less_lex ha hb h).2 k⟩
theorem lt_trans' {a b c:Str} (ha:okT a) (hb:okT b) (hc:okT c) (h:isLt a b=true) (k:isLt b c=true):isLt a c=true:=
 (lt_bef ha hc).2 (bef_trans ((lt_bef ha hb).1 h) ((lt_bef hb hc).1 k))
theorem lt_irr {a:Str} (ha:okT a):isLt a a=false:=by
 cases h:isLt a a with
 |false=>rfl
 |true=>exact absurd ((lt_bef ha ha).1 h) (bef_irr _)
theorem lt_not {a b c:Str} (ha:okT a) (hb:okT b) (hc:okT c) (h:isLt a b=false) (k:isLt b c=false):isLt a c=false:=by
 cases hx:isLt a c with
 |false=>rfl
 |true=>
  have h1:=(lt_bef ha hc).1 hx
  rcases bef_total (wd0 (ptS c)) (wd0 (ptS b)) with e|e|e
  ·rw [(lt_bef ha hb).2 (bef_trans h1 e)] at h;cases h
  ·rw [(lt_bef ha hb).2 (by unfold befS at h1 ⊢;rw [←e];exact h1)] at h;cases h
  ·rw [(lt_bef hb hc).2 e] at k;cases k
def KOk (N:Nat) (K:List (Nat × Str)):Prop:=∀ kv∈K,kv.1<N∧kv.2≠ []∧okT kv.2
structure FstI (N:Nat) (K:List (Nat × Str)) (L:List Str):Prop where
 len:L.length=N
 ok:∀ k,okT (L.getD k [])
 no:∀ k,L.getD k []= []→∀ t,(k,t) ∉K
 yes:∀ k,L.getD k []≠ []→(k,L.getD k [])∈K
 low:∀ k,L.getD k []≠ []→∀ t,(k,t)∈K→isLt t (L.getD k [])=false
theorem okT_nil:okT []:=fun c h=>by cases h
theorem getD_rep (N k:Nat):(List.replicate N ([]:Str)).getD k []= []:=by
 rw [List.getD_eq_getElem?_getD,List.getElem?_replicate]
 split<;>rfl
theorem fst_zero (N:Nat):FstI N [] (List.replicate N []):=
 ⟨List.length_replicate,fun k=>by rw [getD_rep];exact okT_nil,fun k _ t h=>(by cases h),fun k h=>absurd (getD_rep N k) h,fun k _ t h=>(by cases h)⟩
theorem getD_setS {L:List Str} {i k:Nat} (s:Str) (hk:k<L.length):(L.set k s).getD i []=if i=k then s else L.getD i []:=by
 rw [List.getD_eq_getElem?_getD,List.getD_eq_getElem?_getD,List.getElem?_set]
 by_cases h:k=i
 ·subst h
  rw [if_pos rfl,if_pos rfl,if_pos hk]
  rfl
 ·rw [if_neg h,if_neg (fun e=>h e.symm)]
theorem FstI.step {N:Nat} {K:List (Nat × Str)} {L:List Str} (h:FstI N K L) (hK:KOk N K) {k0:Nat} {t0:Str} (h0:k0<N) (hn:t0≠ []) (ht:okT t0):FstI N (K++ [(k0,t0)]) (updL L k0 t0):=by
 have hk0:k0<L.length:=by rw [h.len];exact h0
 have inK:∀ {k:Nat} {t:Str},(k,t)∈K++ [(k0,t0)]↔(k,t)∈K∨(k=k0∧t=t0):=fun {k t}=>by
  rw [List.mem_append,List.mem_singleton,Prod.mk.injEq]
 unfold updL
 cases hb:isB t0 (L.getD k0 []) with
 |true=>
  rw [if_pos rfl]
  refine⟨by rw [List.length_set,h.len],fun k=>?_,fun k hk t hm=>?_,fun k hk=>?_,fun k hk t hm=>?_⟩
  ·rw [getD_setS _ hk0]
   split
   ·exact ht
   ·exact h.ok k
  ·rw [getD_setS _ hk0] at hk
   split at hk
   ·exact hn hk
   ·rename_i hne
    rcases inK.1 hm with hm|hm
    ·exact h.no k hk t hm
    ·exact hne hm.1
  ·rw [getD_setS _ hk0] at hk ⊢
   split
   ·rename_i he
    exact inK.2 (.inr ⟨he,rfl⟩)
   ·rename_i hne
    rw [if_neg hne] at hk
    exact inK.2 (.inl (h.yes k hk))
  ·rw [getD_setS _ hk0] at hk ⊢
   split
   ·rename_i he
    subst he
    rcases inK.1 hm with hm|hm
    ·by_cases hz:L.getD k []= []
     ·exact absurd hm (h.no k hz t)
     ·have h1:=h.low k hz t hm
      rw [isB_eq,decide_eq_false hz,Bool.false_or] at hb
      cases hx:isLt t t0 with
      |false=>rfl
      |true=>rw [lt_trans' (hK _ hm).2.2 ht (h.ok k) hx hb] at h1;cases h1
    ·rw [hm.2]
     exact lt_irr ht
   ·rename_i hne
    rw [if_neg hne] at hk
    rcases inK.1 hm with hm|hm
    ·exact h.low k hk t hm
    ·exact absurd hm.1 hne
 |false=>
  rw [if_neg (by decide)]
  have hz:¬ L.getD k0 []= []:=fun e=>by rw [isB_eq,decide_eq_true e] at hb;cases hb
  rw [isB_eq,decide_eq_false hz,Bool.false_or] at hb
  refine⟨h.len,h.ok,fun k hk t hm=>?_,fun k hk=>inK.2 (.inl (h.yes k hk)),fun k hk t hm=>?_⟩
  ·rcases inK.1 hm with hm|hm
   ·exact h.no k hk t hm
   ·rw [hm.1] at hk
    exact hz hk
  ·rcases inK.1 hm with hm|hm
   ·exact h.low k hk t hm
   ·rw [hm.1,hm.2]
    exact hb
theorem fst_fold {N:Nat}:∀ {K2 K:List (Nat × Str)} {L:List Str},FstI N K L→KOk N K→KOk N K2→FstI N (K++K2) (K2.foldl (fun L kv=>updL L kv.1 kv.2) L)
 |[],K,L,h,_,_=>by rw [List.append_nil];exact h
 |kv::K2,K,L,h,hK,h2=>by
  obtain⟨a,b,c⟩:=h2 kv (by simp)
  have h3:=fst_fold (K2:=K2) (h.step hK a b c) (fun x hx=>by
   rcases List.mem_append.1 hx with hx|hx
   ·exact hK x hx
   ·rw [List.mem_singleton.1 hx];exact⟨a,b,c⟩) (fun x hx=>h2 x (by simp [hx]))
  rw [List.append_assoc] at h3
  exact h3
structure WheI (p:Nat→Bool) (L:List Str) (n:Nat) (W:Str):Prop where
 no:W= []→∀ k,k<n→p k=true→L.getD k []= []
 yes:W≠ []→∃ k,k<n∧p k=true∧L.getD k []=W
 low:W≠ []→∀ k,k<n→p k=true→L.getD k []≠ []→isLt (L.getD k []) W=false
theorem whe_ok (p:Nat→Bool) {L:List Str} (hok:∀ k,okT (L.getD k [])):∀ n,okT (wheL p L n)∧WheI p L n (wheL p L n)
 |0=>⟨okT_nil,fun _ k h=>(by omega),fun h=>absurd rfl h,fun h=>absurd rfl h⟩
 |n+1=>by
  obtain⟨ho,hi⟩:=whe_ok p hok n
  rw [wheL_succ]
  generalize wheL p L n=O at ho hi ⊢
  unfold stepW
  split
  ·rename_i hc
   rw [Bool.and_eq_true,Bool.and_eq_true,decide_eq_true_iff] at hc
   obtain⟨h1,h2,h3⟩:=hc
   refine⟨hok n,fun h=>absurd h h1,fun _=>⟨n,by omega,h2,rfl⟩,fun _ k hk hp hz=>?_⟩
   by_cases he:k=n
   ·rw [he];exact lt_irr (hok n)
   ·by_cases hO:O= []
    ·exact absurd (hi.no hO k (by omega) hp) hz
    ·have h4:=hi.low hO k (by omega) hp hz
     rw [isB_eq,decide_eq_false hO,Bool.false_or] at h3
     cases hx:isLt (L.getD k []) (L.getD n []) with
     |false=>rfl
     |true=>rw [lt_trans' (hok k) (hok n) ho hx h3] at h4;cases h4
  ·rename_i hc
   rw [Bool.and_eq_true,Bool.and_eq_true,decide_eq_true_iff] at hc
   refine⟨ho,fun hO k hk hp=>?_,fun hO=>?_,fun hO k hk hp hz=>?_⟩
   ·by_cases he:k=n
    ·subst he
     refine Classical.byContradiction fun hz=>hc ⟨hz,hp,?_⟩
     rw [isB_eq,decide_eq_true hO]
     rfl
    ·exact hi.no hO k (by omega) hp
   ·obtain⟨k,a,b,c⟩:=hi.yes hO
    exact⟨k,by omega,b,c⟩
   ·by_cases he:k=n
    ·subst he
     cases hx:isLt (L.getD k []) O with
     |false=>rfl
     |true=>exact absurd ⟨hz,hp,by rw [isB_eq,hx,Bool.or_true]⟩ hc
    ·exact hi.low hO k (by omega) hp hz
theorem whe_none {N:Nat} {K:List (Nat × Str)} {L:List Str} (h:FstI N K L) (hK:KOk N K) {p:Nat→Bool} (hw:wheL p L N= []):∀ kv∈K,p kv.1=false:=fun kv hm=>by
 have hi:=(whe_ok p h.ok N).2
 cases hp:p kv.1 with
 |false=>rfl
 |true=>exact absurd hm (h.no kv.1 (hi.no hw kv.1 (hK kv hm).1 hp) kv.2)
theorem whe_some {N:Nat} {K:List (Nat × Str)} {L:List Str} (h:FstI N K L) (hK:KOk N K) {p:Nat→Bool} (hw:wheL p L N≠ []):∃ k,(k,wheL p L N)∈K∧p k=true∧∀ kv∈K,p kv.1=true→isLt kv.2 (wheL p L N)=false:=by
 obtain⟨ho,hi⟩:=whe_ok p h.ok N
 obtain⟨k,a,b,c⟩:=hi.yes hw
 refine⟨k,?_,b,fun kv hm hp=>?_⟩
 ·rw [←c]
  exact h.yes k (by rw [c];exact hw)
 ·by_cases hz:L.getD kv.1 []= []
  ·exact absurd hm (h.no kv.1 hz kv.2)
  ·exact lt_not (hK kv hm).2.2 (h.ok kv.1) ho (h.low kv.1 hz kv.2 hm) (hi.low hw kv.1 (hK kv hm).1 hp hz)
def sN (cs:List Cnd) (s:Str):Nat:=bitsF (fun c=>hldC s c) cs
theorem or_bits {l:List Rel} (f g h:Rel→Bool):(bitsF f l&&& bitsF g l)|||bitsF h l=bitsF (fun r=>f r&&g r||h r) l:=by
 refine eq_bits fun j=>?_
 rw [Nat.testBit_or,Nat.testBit_and,bitsF_bit,bitsF_bit,bitsF_bit]
 cases l[j]? <;>rfl
theorem or_bits2 {l:List Rel} (f g:Rel→Bool):bitsF f l|||bitsF g l=bitsF (fun r=>f r||g r) l:=by
 refine eq_bits fun j=>?_
 rw [Nat.testBit_or,bitsF_bit,bitsF_bit]
 cases l[j]? <;>rfl
theorem tr_parts {r:Rel} (h:OkR r) (x:Num):(trW (val x.wh) r&&(decide (r.op=2)||(zero x.fr&&decide (r.op=1)))||trF trS x.fr r)=hldO r (opnd x r.op):=by
 have h1:=h.lo
 have h2:=h.hi
 rw [hld_parts]
 unfold trW trF trS isWh fT
 by_cases o1:r.op=1
 ·rw [o1]
  cases zero x.fr<;>simp
 ·by_cases o2:r.op=2
  ·rw [o2]
   simp
  ·have hf:(decide (r.op=2)||(zero x.fr&&decide (r.op=1)))=false:=by simp [o1,o2]
   rw [hf,Bool.and_false,Bool.false_or,if_neg o1]
   have hw:(decide (r.op=1)||decide (r.op=2))=false:=by simp [o1,o2]
   rw [hw]
   simp only [Bool.false_eq_true,if_false]
   unfold hldO opnd wT
   by_cases o3:r.op=3
   ·simp [o3]
   ·by_cases o4:r.op=4
    ·simp [o4]
    ·by_cases o5:r.op=5
     ·simp [o5]
     ·have o6:r.op=6:=by omega
      simp [o6]
theorem hldC_parts {x:Num} (g:Good x) (c:Cnd):hldC (txt x) c=c.any fun k=>k.all fun r=>hldO r (opnd x r.op):=by
 refine anyC (fun k hk=>allC (fun r hr=>?_))
 unfold hldR
 rw [opR_some (spl_of g)]
theorem set_parts {cs:List Cnd} (hok:∀ c∈cs,okC c=true) (h6:(relsC cs).length≤60) (h10:cs.length≤10) {x:Num} (g:Good x) {w:List Nat}:
  setN cs (rgW (relsC cs) (val x.wh)) (frOf (relsC cs) (w,rgF (relsC cs) trS x.fr))=sN cs (txt x):=by
 have e:setN cs (rgW (relsC cs) (val x.wh)) (frOf (relsC cs) (w,rgF (relsC cs) trS x.fr))=cnds cs (bitsF (fun r=>hldO r (opnd x r.op)) (relsC cs)):=by
  unfold setN cnds
  congr 1
  have e1:(frOf (relsC cs) (w,rgF (relsC cs) trS x.fr)).kept=bitsF (fun r=>decide (r.op=2)||(zero x.fr&&decide (r.op=1))) (relsC cs):=by
   show(if (rgF (relsC cs) trS x.fr).int=true then on (relsC cs) 2|||on (relsC cs) 1 else on (relsC cs) 2)=_
   by_cases hz:(rgF (relsC cs) trS x.fr).int=true
   ·rw [if_pos hz,on_bits (by omega),on_bits (by omega),or_bits2]
    have hz:zero x.fr=true:=hz
    rw [hz]
    rfl
   ·rw [if_neg hz,on_bits (by omega)]
    have hz:zero x.fr=false:=Bool.eq_false_iff.2 hz
    rw [hz]
    exact bitsF_congr fun r _=>by simp
  rw [e1]
  show(bitsF (trW (val x.wh)) (relsC cs)&&& bitsF _ (relsC cs))|||bitsF (trF trS x.fr) (relsC cs)=_
  rw [or_bits]
  exact bitsF_congr fun r hr=>tr_parts (relsC_ok hok r hr) x
 rw [e,cnds_bits (by omega) (by omega)]
 unfold sN
 exact bitsF_congr fun c _=>(hldC_parts g c).symm
def candK (cs:List Cnd) (Qw Qf:List (List Nat × Rg)):List (Nat × Str):=(Qw.drop 1).flatMap fun q=>(Qf.map (frOf (relsC cs))).map fun f=>(setN cs q.2 f,txN q.1 f)
theorem inL_fold (cs:List Cnd) (q:List Nat × Rg):∀(F:List Fra) (L:List Str),innL cs q F L=(F.map fun f=>(setN cs q.2 f,txN q.1 f)).foldl (fun L kv=>updL L kv.1 kv.2) L
 |[],L=>rfl
 |f::F,L=>inL_fold cs q F (updL L (setN cs q.2 f) (txN q.1 f))
theorem outL_fold (cs:List Cnd) (F:List Fra):∀(D:List (List Nat × Rg)) (L:List Str),outL cs F D L=(D.flatMap fun q=>F.map fun f=>(setN cs q.2 f,txN q.1 f)).foldl (fun L kv=>updL L kv.1 kv.2) L
 |[],L=>rfl
 |q::D,L=>by
  rw [List.flatMap_cons,List.foldl_append,←inL_fold]
  exact outL_fold cs F D (innL cs q F L)
theorem firL_fold (cs:List Cnd) (Qw Qf:List (List Nat × Rg)):firL cs Qw Qf=(candK cs Qw Qf).foldl (fun L kv=>updL L kv.1 kv.2) (List.replicate (2 ^ cs.length) []):=outL_fold cs _ _ _
abbrev nxC (l:List Rel):Rg→Nat→Rg:=nxR l (redL l 1 2) (redL l 3 4) (redL l 5 6)
section
variable {cs:List Cnd} (hok:∀ c∈cs,okC c=true) (h6:(relsC cs).length≤60) (h10:cs.length≤10) {Qw Qf:List (List Nat × Rg)}
 (hw:Found (nxC (relsC cs)) (stRg (relsC cs) 0) 10 15 Qw) (hf:Found (nxC (relsC cs)) (stRg (relsC cs) 2) 10 6 Qf)
include hok h6
theorem runW {u:List Nat} (hu:∀ c∈u,c<10) (hne:u≠ []):∃ ds,allD ds∧wd0 ds=u∧chS u=ds∧ds≠ []∧runR (nxC (relsC cs)) (stRg (relsC cs) 0) u=rgW (relsC cs) (val ds):=by
 obtain⟨ds,h1,h2,h3⟩:=word_digits u hu
 have hd:ds≠ []:=fun e=>hne (by rw [←h2,e];rfl)
 refine⟨ds,h1,h2,h3,hd,?_⟩
 rw [←h2]
 exact run_whole (relsC_ok hok) h6 rfl _ ds rfl h1 hd
theorem runF {u:List Nat} (hu:∀ c∈u,c<10):∃ es,allD es∧wd0 es=u∧chS u=es∧runR (nxC (relsC cs)) (stRg (relsC cs) 2) u=rgF (relsC cs) trS es:=by
 obtain⟨es,h1,h2,h3⟩:=word_digits u hu
 refine⟨es,h1,h2,h3,?_⟩
 rw [←h2,stRg_eq (relsC_ok hok) h6]
 exact run_frac (relsC_ok hok) h6 rfl rfl (fun r hr h=>by unfold trS;rw [if_neg (by omega)]) _ es rfl h1
end
theorem found_ne {f:Rg→Nat→Rg} {x0:Rg} {m N:Nat} {Q:List (List Nat × Rg)} (h:Found f x0 m N Q) {q:List Nat × Rg} (hq:q∈Q.drop 1):q∈Q∧q.1≠ []:=by
 have hm:=List.mem_of_mem_drop hq
 refine⟨hm,fun e=>?_⟩
 cases Q with
 |nil=>cases hm
 |cons a Q=>
  have h0:=h.head
  rw [List.getElem?_cons_zero] at h0
  injection h0 with h0
  have hq':q∈Q:=hq
  have h1:=(h.run q hm).1
  rw [e] at h1
  have h2:q.2=x0:=h1.symm
  have h3:=h.nd
  rw [List.map_cons,List.nodup_cons] at h3
  refine h3.1 ?_
  rw [h0]
  show x0∈_
  rw [←h2]
  exact List.mem_map.2 ⟨q,hq',rfl⟩
theorem found_one {f:Rg→Nat→Rg} {x0:Rg} {m N:Nat} {Q:List (List Nat × Rg)} (h:Found f x0 m N Q) {q r:List Nat × Rg} (hq:q∈Q) (hr:r∈Q) (e:q.2=r.2):q=r:=by
 have h3:=h.nd
 clear h
 induction Q with
 |nil=>cases hq
 |cons a Q ih=>
  rw [List.map_cons,List.nodup_cons] at h3
  rcases List.mem_cons.1 hq with h1|h1<;>rcases List.mem_cons.1 hr with h2|h2
  ·rw [h1,h2]
  ·exact absurd (List.mem_map.2 ⟨r,h2,by rw [←e,h1]⟩) h3.1
  ·exact absurd (List.mem_map.2 ⟨q,h1,by rw [e,h2]⟩) h3.1
  ·exact ih h1 h2 h3.2
theorem slim_of {ds:Str} (hd:allD ds) (h:∀ es,allD es→es≠ []→val es=val ds→es.length<ds.length→False):slim ds:=fun hl hz=>by
 cases ds with
 |nil=>simp at hl
 |cons c es=>
  simp only [List.head?_cons,Option.some.injEq] at hz
  subst hz
  have he:es≠ []:=fun e=>by rw [e] at hl;simp at hl
  refine h es (allD_cons.1 hd).2 he ?_ (by simp)
  rw [val_cons]
  have:dg 48=0:=rfl
  rw [this]
  omega
section
variable {cs:List Cnd} (hok:∀ c∈cs,okC c=true) (h6:(relsC cs).length≤60) (h10:cs.length≤10) {Qw Qf:List (List Nat × Rg)}
 (hw:Found (nxC (relsC cs)) (stRg (relsC cs) 0) 10 15 Qw) (hf:Found (nxC (relsC cs)) (stRg (relsC cs) 2) 10 6 Qf)
include hok h6 hw
theorem whole_of {q:List Nat × Rg} (hq:q∈Qw.drop 1):∃ ds,allD ds∧ds≠ []∧slim ds∧ds.length≤15∧wd0 ds=q.1∧chS q.1=ds∧q.2=rgW (relsC cs) (val ds):=by
 obtain⟨hm,hne⟩:=found_ne hw hq
 obtain⟨h1,h2,h3⟩:=hw.run q hm
 obtain⟨ds,a,b,c,d,e⟩:=runW hok h6 h2 hne
 have hlen:ds.length=q.1.length:=by rw [←b,wd0_len]
 refine⟨ds,a,d,slim_of a (fun es ha he hv hl=>?_),by omega,b,c,by rw [←h1,e]⟩
 have hdg:∀ c∈wd0 es,c<10:=fun c hc=>by
  obtain⟨x,hx,rfl⟩:=List.mem_map.1 hc
  rw [sy0_digit (ha x hx)]
  have:=dg_le (ha x hx)
  omega
 obtain⟨r,hr,h4,h5⟩:=hw.all (wd0 es) hdg (by rw [wd0_len];omega)
 have h7:runR (nxC (relsC cs)) (stRg (relsC cs) 0) (wd0 es)=rgW (relsC cs) (val es):=run_whole (relsC_ok hok) h6 rfl _ es rfl ha he
 have h8:r=q:=found_one hw hr hm (by rw [h4,h7,hv,←e,h1])
 rw [h8] at h5
 rcases h5 with h5|h5
 ·have:=congrArg List.length h5
  rw [wd0_len] at this
  omega
 ·rcases h5 with h5|h5
  ·rw [wd0_len] at h5;omega
  ·have:=h5.1;rw [wd0_len] at this;omega
theorem whole_has {wh:Str} (ha:allD wh) (hl:1≤wh.length) (h15:wh.length≤15):∃ q∈Qw.drop 1,q.2=rgW (relsC cs) (val wh)∧befE q.1 (wd0 wh):=by
 have hne:wh≠ []:=fun e=>by rw [e] at hl;simp at hl
 have hdg:∀ c∈wd0 wh,c<10:=fun c hc=>by
  obtain⟨x,hx,rfl⟩:=List.mem_map.1 hc
  rw [sy0_digit (ha x hx)]
  have:=dg_le (ha x hx)
  omega
 obtain⟨q,hq,h1,h2⟩:=hw.all (wd0 wh) hdg (by rw [wd0_len];omega)
 have h7:runR (nxC (relsC cs)) (stRg (relsC cs) 0) (wd0 wh)=rgW (relsC cs) (val wh):=run_whole (relsC_ok hok) h6 rfl _ wh rfl ha hne
 rw [h7] at h1
 refine⟨q,?_,h1,h2⟩
 cases Qw with
 |nil=>cases hq
 |cons a Q=>
  rcases List.mem_cons.1 hq with rfl|hq
  ·have h0:=hw.head
   rw [List.getElem?_cons_zero] at h0
   injection h0 with h0
   rw [h0] at h1
   have h8:(stRg (relsC cs) 0).pl=(rgW (relsC cs) (val wh)).pl:=congrArg Rg.pl h1
   exact absurd h8 (by show ¬ (0:Nat)=1;omega)
  ·exact hq
end
section
variable {cs:List Cnd} (hok:∀ c∈cs,okC c=true) (h6:(relsC cs).length≤60) (h10:cs.length≤10) {Qw Qf:List (List Nat × Rg)}
 (hw:Found (nxC (relsC cs)) (stRg (relsC cs) 0) 10 15 Qw) (hf:Found (nxC (relsC cs)) (stRg (relsC cs) 2) 10 6 Qf)
include hok h6 hf
theorem fract_of {q:List Nat × Rg} (hq:q∈Qf):∃ es,allD es∧es.length≤6∧wd0 es=q.1∧chS q.1=es∧q.2=rgF (relsC cs) trS es:=by
 obtain⟨h1,h2,h3⟩:=hf.run q hq
 obtain⟨es,a,b,c,d⟩:=runF hok h6 h2
 exact⟨es,a,by rw [←b,wd0_len] at h3;exact h3,b,c,by rw [←h1,d]⟩
theorem fract_has2 {fr:Str} (ha:allD fr) (h15:fr.length≤6):∃ q∈Qf,q.2=rgF (relsC cs) trS fr∧befE q.1 (wd0 fr):=by
 have hdg:∀ c∈wd0 fr,c<10:=fun c hc=>by
  obtain⟨x,hx,rfl⟩:=List.mem_map.1 hc
  rw [sy0_digit (ha x hx)]
  have:=dg_le (ha x hx)
  omega
 obtain⟨q,hq,h1,h2⟩:=hf.all (wd0 fr) hdg (by rw [wd0_len];omega)
 have h7:runR (nxC (relsC cs)) (stRg (relsC cs) 2) (wd0 fr)=rgF (relsC cs) trS fr:=by
  rw [stRg_eq (relsC_ok hok) h6]
  exact run_frac (relsC_ok hok) h6 rfl rfl (fun r hr h=>by unfold trS;rw [if_neg (by omega)]) _ fr rfl ha
 exact⟨q,hq,by rw [h1,h7],h2⟩
end
theorem bef_num {a wh:Str} (ha:allD a) (hw:allD wh) (h:befE (wd0 a) (wd0 wh)):a.length≤wh.length∧(a.length=wh.length→val a≤val wh):=by
 rcases h with h|h|h
 ·have hl:=congrArg List.length h
  rw [wd0_len,wd0_len] at hl
  have:a=wh:=wd0_inj (fun c hc=> .inl (ha c hc)) (fun c hc=> .inl (hw c hc)) h
  rw [this]
  exact⟨Nat.le_refl _,fun _=>Nat.le_refl _⟩
 ·rw [wd0_len,wd0_len] at h
  exact⟨by omega,fun e=>by omega⟩
 ·obtain⟨h1,h2⟩:=h
  rw [wd0_len,wd0_len] at h1
  exact⟨by omega,fun e=>Nat.le_of_lt ((lex_val ha hw e).1 h2)⟩
theorem okT_digits {s:Str} (h:allD s):okT s:=fun c hc=> .inl (h c hc)
theorem no_colon {s:Str} (h:allD s):58 ∉s:=fun hc=>absurd (h 58 hc) (by decide)
theorem txN_pt {u v:List Nat} {ds es:Str} (h1:chS u=ds) (h2:chS v=es) (hd:allD ds) (he:allD es) (hv:v= []↔es= []) {l:List Rel} {x:Rg}:ptS (txN u (frOf l (v,x)))=tx0 ds es∧okT (txN u (frOf l (v,x))):=by
 unfold txN frOf tx0
 dsimp only
 rw [h1,h2]
 by_cases hz:es= []
 ·rw [if_pos (hv.2 hz),if_pos hz]
  simp only [List.append_nil]
  exact⟨ptS_no (no_colon hd),okT_digits hd⟩
 ·rw [if_neg (fun e=>hz (hv.1 e)),if_neg hz,ptS_append,ptS_no (no_colon hd)]
  refine⟨?_,fun c hc=>?_⟩
  ·have e3:ptS (58::es)=46::ptS es:=rfl
   rw [e3,ptS_no (no_colon he)]
  ·rcases List.mem_append.1 hc with hc|hc
   ·exact .inl (hd c hc)
   ·rcases List.mem_cons.1 hc with rfl|hc
    ·exact .inr rfl
    ·exact .inl (he c hc)
section
variable {cs:List Cnd} (hok:∀ c∈cs,okC c=true) (h6:(relsC cs).length≤60) (h10:cs.length≤10) {Qw Qf:List (List Nat × Rg)}
 (hw:Found (nxC (relsC cs)) (stRg (relsC cs) 0) 10 15 Qw) (hf:Found (nxC (relsC cs)) (stRg (relsC cs) 2) 10 6 Qf)
include hok h6 h10 hw hf
theorem cand_of {kv:Nat × Str} (h:kv∈candK cs Qw Qf):∃ x:Num,Good x∧x.neg=false∧ptS kv.2=txt x∧kv.1=sN cs (txt x)∧okT kv.2∧kv.2≠ []:=by
 obtain⟨q,hq,h⟩:=List.mem_flatMap.1 h
 obtain⟨f,hfm,rfl⟩:=List.mem_map.1 h
 obtain⟨⟨v,y⟩,hr,rfl⟩:=List.mem_map.1 hfm
 obtain⟨ds,a1,a2,a3,a4,a5,a6,a7⟩:=whole_of hok h6 hw hq
 obtain⟨es,b1,b2,b3,b4,b5⟩:=fract_of hok h6 hf hr
 have g:Good ⟨false,ds,es⟩:=⟨a1,b1,by cases ds with|nil=>exact absurd rfl a2|cons c l=>show 1≤(c::l).length;simp,a4,a3,b2,fun e=>by cases e⟩
 have hp:=txN_pt (u:=q.1) (v:=v) (l:=relsC cs) (x:=y) a6 b4 a1 b1 ⟨fun e=>by rw [←b4,e];rfl,fun e=>by have:=b3;rw [e] at this;exact this.symm⟩
 refine⟨⟨false,ds,es⟩,g,rfl,by rw [txt_tx0 rfl];exact hp.1,?_,hp.2,fun e=>?_⟩
 ·show setN cs q.2 _=_
  rw [a7,show y=rgF (relsC cs) trS es from b5]
  exact set_parts hok h6 h10 g (w:=v)
 ·have h0:=hp.1
  have e2:txN q.1 (frOf (relsC cs) (v,y))= []:=e
  rw [e2] at h0
  have:=congrArg List.length h0
  rw [tx0_len] at this
  have h1:=g.low
  have e3:(ptS []).length=0:=rfl
  rw [e3] at this
  dsimp only at h1
  omega
theorem cand_has {x:Num} (g:Good x) (hn:x.neg=false):∃ kv∈candK cs Qw Qf,kv.1=sN cs (txt x)∧¬ befS (txt x) (ptS kv.2):=by
 obtain⟨q,hq,h1,h2⟩:=whole_has hok h6 hw g.dw g.low g.high
 obtain⟨⟨v,y⟩,hr,h3,h4⟩:=fract_has2 hok h6 hf g.df g.few
 obtain⟨ds,a1,a2,a3,a4,a5,a6,a7⟩:=whole_of hok h6 hw hq
 obtain⟨es,b1,b2,b3,b4,b5⟩:=fract_of hok h6 hf hr
 have hp:=txN_pt (u:=q.1) (v:=v) (l:=relsC cs) (x:=y) a6 b4 a1 b1 ⟨fun e=>by rw [←b4,e];rfl,fun e=>by have:=b3;rw [e] at this;exact this.symm⟩
 refine⟨(setN cs q.2 (frOf (relsC cs) (v,y)),txN q.1 (frOf (relsC cs) (v,y))),List.mem_flatMap.2 ⟨q,hq,List.mem_map.2 ⟨_,List.mem_map.2 ⟨_,hr,rfl⟩,rfl⟩⟩,?_,?_⟩
 ·show setN cs q.2 _=_
  rw [h1,show y=rgF (relsC cs) trS x.fr from h3]
  exact set_parts hok h6 h10 g (w:=v)
 ·show ¬ befS (txt x) (ptS (txN q.1 (frOf (relsC cs) (v,y))))
  rw [hp.1,txt_tx0 hn]
  rw [←a5] at h2
  have h4':befE v (wd0 x.fr):=h4
  rw [←show wd0 es=v from b3] at h4'
  have c1:=bef_num a1 g.dw h2
  have c2:=bef_num b1 g.df h4'
  exact num_order a1 b1 g.dw g.df c1.1 c2.1 c1.2 c2.2
theorem where_first (p:Nat→Bool):(wheL p (firL cs Qw Qf) (2 ^ cs.length)= []∧NoneN (fun s=>p (sN cs s)))∨(wheL p (firL cs Qw Qf) (2 ^ cs.length)≠ []∧FirstN (fun s=>p (sN cs s)) (ptS (wheL p (firL cs Qw Qf) (2 ^ cs.length)))):=by
 have hK:KOk (2 ^ cs.length) (candK cs Qw Qf):=fun kv hm=>by
  obtain⟨x,g,hn,h1,h2,h3,h4⟩:=cand_of hok h6 h10 hw hf hm
  exact⟨by rw [h2];exact bitsF_lt _ cs,h4,h3⟩
 have hF:FstI (2 ^ cs.length) (candK cs Qw Qf) (firL cs Qw Qf):=by
  rw [firL_fold]
  have:=fst_fold (fst_zero (2 ^ cs.length)) (fun x hx=>(by cases hx)) hK
  rw [List.nil_append] at this
  exact this
 by_cases hz:wheL p (firL cs Qw Qf) (2 ^ cs.length)= []
 ·refine .inl ⟨hz,fun t ht=>?_⟩
  obtain⟨x,g,hn,rfl⟩:=ht
  obtain⟨kv,hm,h1,_⟩:=cand_has hok h6 h10 hw hf g hn
  show p (sN cs (txt x))=false
  rw [←h1]
  exact whe_none hF hK hz kv hm
 ·obtain⟨k,h1,h2,h3⟩:=whe_some hF hK hz
  refine .inr ⟨hz,?_⟩
  generalize hW:wheL p (firL cs Qw Qf) (2 ^ cs.length)=W at h1 h2 h3 hz ⊢
  obtain⟨x,g,hn,h4,h5,h7,h8⟩:=cand_of hok h6 h10 hw hf h1
  have h4:ptS W=txt x:=h4
  have h5:k=sN cs (txt x):=h5
  have h7:okT W:=h7
  refine⟨⟨x,g,hn,h4.symm⟩,by show p (sN cs (ptS W))=true;rw [h4,←h5];exact h2,fun t ht hpt hb=>?_⟩
  obtain⟨y,gy,hny,rfl⟩:=ht
  obtain⟨kv,hm,h9,h10'⟩:=cand_has hok h6 h10 hw hf gy hny
  have h11:=h3 kv hm (by rw [h9];exact hpt)
  rcases bef_total (wd0 (txt y)) (wd0 (ptS kv.2)) with e|e|e
  ·exact h10' e
  ·have:isLt kv.2 W=true:=(lt_bef (hK kv hm).2.2 h7).2 (by unfold befS at hb ⊢;rw [←e];exact hb)
   rw [this] at h11;cases h11
  ·have:isLt kv.2 W=true:=(lt_bef (hK kv hm).2.2 h7).2 (bef_trans e hb)
   rw [this] at h11;cases h11
end
theorem FirstN.congr {p q:Str→Bool} (h:∀ s,isU s→p s=q s) {s:Str} (hf:FirstN p s):FirstN q s:=
 ⟨hf.1,by rw [←h s hf.1];exact hf.2.1,fun t ht hq=>hf.2.2 t ht (by rw [h t ht];exact hq)⟩
section
variable {cs:List Cnd} (hok:∀ c∈cs,okC c=true) (h10:cs.length≤10) {Qw Qf:List (List Nat × Rg)}
 (hw:Found (nxC (relsC cs)) (stRg (relsC cs) 0) 10 15 Qw) (hf:Found (nxC (relsC cs)) (stRg (relsC cs) 2) 10 6 Qf)
include hok h10 hw hf
theorem firL_facts:(firL cs Qw Qf).length=2 ^ cs.length∧∀ x∈firL cs Qw Qf,x.length≤1000:=by
 have h6:(relsC cs).length≤60:=by rw [rels_cnt];have:=cntS_le hok;omega
 have hK:KOk (2 ^ cs.length) (candK cs Qw Qf):=fun kv hm=>by
  obtain⟨x,g,hn,h1,h2,h3,h4⟩:=cand_of hok h6 h10 hw hf hm
  exact⟨by rw [h2];exact bitsF_lt _ cs,h4,h3⟩
 have hF:FstI (2 ^ cs.length) (candK cs Qw Qf) (firL cs Qw Qf):=by
  rw [firL_fold]
  have:=fst_fold (fst_zero (2 ^ cs.length)) (fun x hx=>(by cases hx)) hK
  rw [List.nil_append] at this
  exact this
 refine⟨hF.len,fun x hx=>?_⟩
 obtain⟨k,hk,rfl⟩:=List.getElem_of_mem hx
 have e:(firL cs Qw Qf).getD k []=(firL cs Qw Qf)[k]:=by rw [List.getD_eq_getElem?_getD,List.getElem?_eq_getElem hk];rfl
 by_cases hz:(firL cs Qw Qf)[k]= []
 ·rw [hz];exact Nat.zero_le _
 ·have h1:=hF.yes k (by rw [e];exact hz)
  rw [e] at h1
  obtain⟨x,g,hn,h2,_⟩:=cand_of hok h6 h10 hw hf h1
  have h3:=(isU_len ⟨x,g,hn,rfl⟩).1
  rw [←h2,ptS_len] at h3
  exact Nat.le_trans h3 (by omega)
end
theorem firstR_ne {cs:List Cnd} (hok:∀ c∈cs,okC c=true) (k:Nat):(firstR cs k).isSome=decide ((firstR cs k).getD []≠ []):=by
 cases h:firstR cs k with
 |none=>rfl
 |some b=>
  have h1:=(isU_len (firstR_some hok h).1).2
  have:b≠ []:=fun e=>by rw [e] at h1;simp at h1
  exact(decide_eq_true this).symm
theorem str_dec (A:Str):((ofL A).toList==([]:List UInt8))=decide (A= []):=by
 rw [toL]
 cases A<;>rfl
theorem rdCs_new (w:World) (raws:List RawS) (l:List Cnd) (hl:raws.length≤1000) (t:TypeId) (cs:Array Value) (hcs:cs=(raws.map RawS.v).toArray) (hn:raws.length=l.length)
  (h:∀(i:Nat) (h:i<raws.length) (h':i<l.length),RdC w (.slice raws[i].a raws[i].n raws[i].c) l[i]):RdCs (w.alloc (.cells cs t)) (.slice (some ⟨w.heap.size,0,none⟩) raws.length raws.length) l:=by
 have k:=Blk.new w t cs
 refine⟨raws,⟨⟨_,raws.length,rfl,Nat.le_refl _,by omega,fun _=>⟨w.heap.size,0,rfl,k.lt,fun i u hi j v hv=>?_⟩⟩,fun n c hc=>by cases hc⟩,hn,fun i h1 h2=>(h i h1 h2).below (Below.alloc (Below.refl _ _) (Nat.le_refl _) _)⟩
 have hj:j=0:=by have:=(List.getElem?_eq_some_iff.1 hv).1;simp [encS] at this;exact this
 subst hj
 simp [encS] at hv
 subst hv
 rw [k.cell,hcs]
 simp [hi,RawS.v]
theorem RdC.raw {w:World} {v:Value} {c:Cnd} (h:RdC w v c):∃ x:RawS,v= .slice x.a x.n x.c∧RdC w (.slice x.a x.n x.c) c:=by
 obtain⟨a,n,rfl,_⟩:=h.slice
 exact⟨⟨a,c.length,n⟩,rfl,h⟩
theorem rdCs_one {w:World} {v:Value} {c:Cnd} (h:RdC w v c) (t:TypeId):RdCs (w.alloc (.cells #[v] t)) (.slice (some ⟨w.heap.size,0,none⟩) 1 1) [c]:=by
 obtain⟨x,rfl,hx⟩:=h.raw
 exact rdCs_new w [x] [c] (by simp) t _ (by simp [RawS.v]) rfl (fun i h1 h2=>by
  have:i=0:=by simp at h1;exact h1
  subst this
  exact hx)
theorem MaxL.alloc {w:World} (h:MaxL w) (o:Obj):MaxL (w.alloc o):=h.below (Below.alloc (Below.refl _ _) (Nat.le_refl _) _)
theorem below_al (w:World) (o:Obj):Below w.heap.size w (w.alloc o):=Below.alloc (Below.refl _ _) (Nat.le_refl _) _
def disP (cs:List Cnd) (i j:Nat):Option Str:=firstR [cs.getD i [],cs.getD j []] 2
def NoneB (cs:List Cnd) (i j:Nat):Prop:=∀ i' j',i'<j'→j'<cs.length→(i'<i∨(i'=i∧j'<j))→disP cs i' j'=none
def DisA (cs:List Cnd) (r:Nat × Nat × Str × Nat):Prop:=
 (∃ i j W,i<j∧j<cs.length∧disP cs i j=some W∧NoneB cs i j∧r=(i,j,W,19))∨((∀ i j,i<j→j<cs.length→disP cs i j=none)∧r=(0,0,[],0))
theorem DisA.uniq {cs:List Cnd} {r t:Nat × Nat × Str × Nat} (h:DisA cs r) (k:DisA cs t):r=t:=by
 rcases h with⟨i,j,W,a1,a2,a3,a4,rfl⟩|⟨a1,rfl⟩<;>rcases k with⟨i',j',W',b1,b2,b3,b4,rfl⟩|⟨b1,rfl⟩
 ·by_cases h1:i<i'∨(i=i'∧j<j')
  ·rw [b4 i j a1 a2 h1] at a3;cases a3
  ·by_cases h2:i'<i∨(i'=i∧j'<j)
   ·rw [a4 i' j' b1 b2 h2] at b3;cases b3
   ·have e1:i=i':=by omega
    have e2:j=j':=by omega
    subst e1 e2
    rw [a3] at b3
    rw [Option.some.inj b3]
 ·rw [b1 i j a1 a2] at a3;cases a3
 ·rw [a1 i' j' b1 b2] at b3;cases b3
 ·rfl
theorem none_zero (cs:List Cnd):NoneB cs 0 0:=fun i' j' _ _ h=>by omega
theorem none_first {cs:List Cnd} {i:Nat} (h:NoneB cs i 0):NoneB cs i (i+1):=fun i' j' h1 h2 h3=>h i' j' h1 h2 (by omega)
theorem none_next {cs:List Cnd} {i j:Nat} (h:NoneB cs i j) (hn:disP cs i j=none):NoneB cs i (j+1):=fun i' j' h1 h2 h3=>by
 by_cases he:i'=i∧j'=j
 ·rw [he.1,he.2];exact hn
 ·exact h i' j' h1 h2 (by omega)
theorem none_row {cs:List Cnd} {i j:Nat} (h:NoneB cs i j) (hj:cs.length≤j):NoneB cs (i+1) 0:=fun i' j' h1 h2 h3=>h i' j' h1 h2 (by omega)
theorem none_all {cs:List Cnd} {i:Nat} (h:NoneB cs i 0) (hi:cs.length≤i):∀ i j,i<j→j<cs.length→disP cs i j=none:=fun i' j' h1 h2=>h i' j' h1 h2 (by omega)
theorem both_bits {α:Type} (f:α→Bool) (l:List α) {i j:Nat} (hij:i<j) (hj:j<l.length):decide (bitsF f l&&& (2 ^ i|||2 ^ j)=2 ^ i|||2 ^ j)=(f l[i]&&f l[j]):=by
 rw [Bool.eq_iff_iff,decide_eq_true_iff,Bool.and_eq_true]
 have hb:∀ k,(2 ^ i|||2 ^ j:Nat).testBit k=(decide (i=k)||decide (j=k)):=fun k=>by rw [Nat.testBit_or,Nat.testBit_two_pow,Nat.testBit_two_pow]
 have hi:(bitsF f l).testBit i=f l[i]:=by rw [bitsF_bit,List.getElem?_eq_getElem (show i<l.length by omega)]
 have hj':(bitsF f l).testBit j=f l[j]:=by rw [bitsF_bit,List.getElem?_eq_getElem hj]
 constructor
 ·intro h
  have h1:=congrArg (fun n=>n.testBit i) h
  have h2:=congrArg (fun n=>n.testBit j) h
  simp only [Nat.testBit_and,hb,hi,hj'] at h1 h2
  simpa using And.intro h1 h2
 ·rintro⟨h1,h2⟩
  refine Nat.eq_of_testBit_eq fun k=>?_
  rw [Nat.testBit_and,hb]
  by_cases e1:i=k
  ·subst e1;rw [hi,h1];simp
  ·by_cases e2:j=k
   ·subst e2;rw [hj',h2];simp
   ·simp [e1,e2]
theorem sN_dis {cs:List Cnd} {i j:Nat} (hij:i<j) (hj:j<cs.length) (s:Str):decide (sN cs s&&& (2 ^ i|||2 ^ j)=2 ^ i|||2 ^ j)=pS [cs.getD i [],cs.getD j []] 2 s:=by
 unfold sN
 rw [both_bits _ _ hij hj,List.getD_eq_getElem?_getD,List.getD_eq_getElem?_getD,List.getElem?_eq_getElem hj,List.getElem?_eq_getElem (show i<cs.length by omega)]
 unfold pS prS cntH
 show _=(if 2=0 then _ else _)
 cases h:hldC s cs[i]<;>cases k:hldC s cs[j]<;>simp [h,k]
section
variable {cs:List Cnd} (hok:∀ c∈cs,okC c=true) (h10:cs.length≤10) {Qw Qf:List (List Nat × Rg)}
 (hw:Found (nxC (relsC cs)) (stRg (relsC cs) 0) 10 15 Qw) (hf:Found (nxC (relsC cs)) (stRg (relsC cs) 2) 10 6 Qf)
include hok h10 hw hf
theorem where_D {i j:Nat} (hij:i<j) (hj:j<cs.length):ptS (wheL (fun n=>decide (n&&& (2 ^ i|||2 ^ j)=2 ^ i|||2 ^ j)) (firL cs Qw Qf) (firL cs Qw Qf).length)=(disP cs i j).getD []:=by
 have h6:(relsC cs).length≤60:=by rw [rels_cnt];have:=cntS_le hok;omega
 have hok2:∀ c∈ [cs.getD i [],cs.getD j []],okC c=true:=fun c hc=>by
  rcases List.mem_cons.1 hc with rfl|hc
  ·rw [List.getD_eq_getElem?_getD,List.getElem?_eq_getElem (show i<cs.length by omega)]
   exact hok _ (List.getElem_mem _)
  ·rw [List.mem_singleton.1 hc,List.getD_eq_getElem?_getD,List.getElem?_eq_getElem hj]
   exact hok _ (List.getElem_mem _)
 rw [(firL_facts hok h10 hw hf).1]
 unfold disP
 rcases where_first hok h6 h10 hw hf (fun n=>decide (n&&& (2 ^ i|||2 ^ j)=2 ^ i|||2 ^ j)) with⟨h1,h2⟩|⟨h1,h2⟩
 ·rw [h1,firstR_eq_none hok2 (k:=2) (fun t ht=>by rw [←sN_dis hij hj t];exact h2 t ht)]
  rfl
 ·rw [firstR_eq hok2 (h2.congr (fun s _=>sN_dis hij hj s))]
  rfl
end
theorem disP_ne {cs:List Cnd} (hok:∀ c∈cs,okC c=true) {i j:Nat} (hij:i<j) (hj:j<cs.length):(disP cs i j).getD []= []→disP cs i j=none:=by
 have hok2:∀ c∈ [cs.getD i [],cs.getD j []],okC c=true:=fun c hc=>by
  rcases List.mem_cons.1 hc with rfl|hc
  ·rw [List.getD_eq_getElem?_getD,List.getElem?_eq_getElem (show i<cs.length by omega)]
   exact hok _ (List.getElem_mem _)
  ·rw [List.mem_singleton.1 hc,List.getD_eq_getElem?_getD,List.getElem?_eq_getElem hj]
   exact hok _ (List.getElem_mem _)
 have h:=firstR_ne hok2 2
 unfold disP
 intro e
 rw [e] at h
 cases hx:firstR [cs.getD i [],cs.getD j []] 2 with
 |none=>rfl
 |some b=>rw [hx] at h;cases h
def encRu (x:Str × RawS):List Value:=[.string (ofL x.1),.slice x.2.a x.2.n x.2.c]
def RdRules (w:World) (v:Value) (l:List (Str × Cnd)):Prop:=∃ raws:List (Str × RawS),Rd 2 encRu w v raws∧raws.length=l.length∧∀(i:Nat) (h:i<raws.length) (h':i<l.length),RdC w (.slice raws[i].2.a raws[i].2.n raws[i].2.c) l[i].2
theorem RdRules.below {w w':World} {v:Value} {c:List (Str × Cnd)} (h:RdRules w v c) (hb:Below w.heap.size w w'):RdRules w' v c:=by
 obtain⟨raws,h1,h2,h3⟩:=h
 exact⟨raws,h1.below hb,h2,fun i a b=>(h3 i a b).below hb⟩
theorem RdRules.slice {w:World} {v:Value} {l:List (Str × Cnd)} (h:RdRules w v l):∃ a c,v= .slice a l.length c∧l.length≤c∧c≤9223372036854775807:=by
 obtain⟨raws,h1,h2,h3⟩:=h
 rw [←h2]
 exact h1.slice
theorem Rd.rule {w:World} {a:Option Addr} {n c:Nat} {l:List (Str × RawS)} (h:Rd 2 encRu w (.slice a n c) l) (i:Nat) (hi:i<l.length):∃ b off,a=some ⟨b,off,none⟩∧b<w.heap.size∧w.cell? ⟨b,off+i*2,none⟩=some (.string (ofL l[i].1))∧w.cell? ⟨b,off+i*2+1,none⟩=some (.slice l[i].2.a l[i].2.n l[i].2.c):=by
 obtain⟨b,off,ha,hlt,hx⟩:=h.some_ i hi
 subst ha
 exact⟨b,off,rfl,hlt,h.at_ i hi 0 _ rfl,h.at_ i hi 1 _ rfl⟩
theorem RdRules.at_ {w:World} {a:Option Addr} {n c:Nat} {l:List (Str × Cnd)} (h:RdRules w (.slice a n c) l) (i:Nat) (hi:i<l.length):
  ∃ b off s x1 x2,a=some ⟨b,off,none⟩∧b<w.heap.size∧w.cell? ⟨b,off+i*2,none⟩=some (.string (ofL s))∧w.cell? ⟨b,off+i*2+1,none⟩=some (.slice x1 l[i].2.length x2)∧RdC w (.slice x1 l[i].2.length x2) l[i].2:=by
 obtain⟨raws,h1,h2,h3⟩:=h
 obtain⟨b,off,ha,hlt,hc,hd⟩:=h1.rule i (by omega)
 have h4:=h3 i (by omega) hi
 obtain⟨x1,x2,hv,_⟩:=h4.slice
 injection hv with e1 e2 e3
 rw [e2] at hd h4
 exact⟨b,off,raws[i].1,raws[i].2.a,raws[i].2.c,ha,hlt,hc,hd,h4⟩
theorem results_tmp4 {fn:Func} {t u v x:Tmp} (h:fn.results= #[.tmp t,.tmp u,.tmp v,.tmp x]) (tmps:Array Value) (P:Program) (w:World):
  (results fn tmps).run P w= .ok (.tuple #[tmps.getD t undef,tmps.getD u undef,tmps.getD v undef,tmps.getD x undef]) w:=by
 simp [results,h]
theorem Tryz.infoCo:(Tryz.prog.info? 23).map (fun i=>(i.zero,i.size,i.bytes))=some (some (.slice none 0 0),1,24):=by kernel_rfl
structure GatC (w:World) (l:List (Str × Cnd)) (k:Nat) (v:Value) (wr:World):Prop where
 ex:∃ raws:List RawS,Own1 1 encS wr w.heap.size 23 v raws∧raws.length=k∧∀(i:Nat) (h:i<raws.length) (h':i<l.length),RdC w (.slice raws[i].a raws[i].n raws[i].c) l[i].2
 bw:Below w.heap.size w wr
theorem GatC.rd {w wr:World} {l:List (Str × Cnd)} {v:Value} (h:GatC w l l.length v wr):RdCs wr v (l.map Prod.snd):=by
 obtain⟨raws,h1,h2,h3⟩:=h.ex
 refine⟨raws,h1.rd encS_len,by rw [List.length_map,h2],fun i a b=>?_⟩
 have hi:i<l.length:=by rw [List.length_map] at b;exact b
 rw [List.getElem_map]
 exact(h3 i a hi).below h.bw
set_option maxRecDepth 1000000 in
set_option maxHeartbeats 16000000 in
theorem disjoint_any (rs:List (Str × Cnd)) (v:Value) (h10:rs.length≤10) (hok:∀ c∈rs.map Prod.snd,okC c=true) (w:World) (hv:RdRules w v rs) (hm:MaxL w):
  Calls Tryz.prog 12 #[v] w fun e w'=>∃ i j W er,e= .returned (.tuple #[.int .i64 (i:Nat),.int .i64 (j:Nat),.string (ofL W),.int .i64 (er:Nat)])∧DisA (rs.map Prod.snd) (i,j,W,er)∧Below w.heap.size w w':=by
 obtain⟨iC,hiC,hzC,hkC,hbC⟩:=info_parts Tryz.infoCo
 obtain⟨ac,cc,rfl,hc1,hc2⟩:=hv.slice
 have HV:=Lib.hid hv
 have HM:=Lib.hid hm
 have HOK:=Lib.hid hok
 have HLC:Hid ((rs.map Prod.snd).length=rs.length):=Lib.hid (List.length_map _)
 obtain⟨cs,hcs⟩:∃ cs,rs.map Prod.snd=cs:=⟨_,rfl⟩
 have HCS:=Lib.hid hcs
 rw [hcs] at HOK HLC ⊢
 have HN0:Hid (GatC w rs 0 (.slice none 0 0) w):=Lib.hid ⟨⟨[],own1_nil _ _ _,rfl,fun i h _=>by simp at h⟩,Below.refl _ _⟩
 clear hv hm hok hcs
 go_enter Tryz.func12,Tryz.ntmps12
 go_wp2
 go_loopw [6,13] (fun v6 v13 wr=>∃ k:Nat,k≤rs.length∧v13= .int .i64 k∧GatC w rs k v6 wr) (fun _ v13 _=>rs.length - (intOf v13).toNat)
 case atStart=>exact⟨0,Nat.zero_le _,rfl,HN0.out⟩
 case round=>
  obtain⟨k,hk,rfl,hg⟩:=hrel
  have HG:=Lib.hid hg
  clear hg HN0
  by_cases hlt:k<rs.length
  ·obtain⟨bk,off,s,x1,x2,rfl,hlb,h0,h1,hcd⟩:=HV.out.at_ k hlt
   have h0:=(HG.out.bw.cell (p:=⟨bk,off+k*2,none⟩) hlb).trans h0
   have h1:=(HG.out.bw.cell (p:=⟨bk,off+k*2+1,none⟩) hlb).trans h1
   have h9:(k:Int)<(rs.length:Int):=by omega
   obtain⟨n,hn⟩:∃ n,rs[k].2.length=n:=⟨_,rfl⟩
   rw [hn] at h1 hcd
   have HCD:=Lib.hid hcd
   obtain⟨raws,ho,hl,hr⟩:=HG.out.ex
   obtain⟨p6,c6,rfl⟩:=ho.slice
   have HO:=Lib.hid (own_below ho (below_al wr (.cells #[.string (ofL s),.slice x1 n x2] 46)))
   have HB:=Lib.hid ((HG.out.bw).trans ((below_al wr (.cells #[.string (ofL s),.slice x1 n x2] 46)).mono HG.out.bw.size))
   have HL:=Lib.hid hl
   have HR:=Lib.hid hr
   obtain⟨wb,hwb⟩:∃ wb,wr.alloc (.cells #[.string (ofL s),.slice x1 n x2] 46)=wb:=⟨_,rfl⟩
   have HWB:=Lib.hid hwb
   rw [hwb] at HO HB
   have r0:wb.cell? ⟨wr.heap.size,1,none⟩=some (.slice x1 n x2):=by
    rw [←hwb]
    exact(Blk.new wr 46 #[.string (ofL s),.slice x1 n x2]).cell 1
   have HZW:Hid (w.heap.size≤wb.heap.size):=Lib.hid HB.out.size
   clear ho hl hr hwb hcd hn hlb
   go_upto_region 5 with fail
   rw [HWB.out]
   go_wp2_with (first|(at_builtin;refine wpList_append_lie (w0:=wb) (x:=(⟨x1,n,x2⟩:RawS)) (N:=wb.heap.size) rfl rfl _ _ 26 rfl w.heap.size iC _ 24 Tryz.underlying26 hiC hzC hkC hbC (by omega) rfl (by omega) encS_len encS_one _ raws rfl rfl HO.out rfl (by have:=HL.out;omega) HZW.out ?_;intro v9 w9 y9;obtain⟨p8,q8,e8⟩:=y9.1.slice;subst e8;have Y9:=Lib.hid y9;clear y9)|go_in)
   have HGN:Hid (GatC w rs (k+1) (.slice p8 (raws++ [(⟨x1,n,x2⟩:RawS)]).length q8) w9):=Lib.hid ⟨⟨_,Y9.out.1,by rw [List.length_append,HL.out];rfl,fun i a b=>by
    rw [List.length_append] at a
    by_cases hi:i<raws.length
    ·rw [List.getElem_append_left hi]
     exact HR.out i hi b
    ·have hk':i=raws.length:=by simp at a;omega
     subst hk'
     rw [List.getElem_append_right (Nat.le_refl _)]
     have e2:rs[raws.length].2=rs[k].2:=by simp only [HL.out]
     rw [e2]
     simpa using HCD.out⟩,HB.out.trans Y9.out.2.1⟩
   go_roundw
   case measure=>simp [intOf];omega
   case rel=>exact⟨k+1,by omega,by go_num,by first|exact HGN.out|(have:=HGN.out;simpa using this)⟩
  ·obtain rfl:k=rs.length:=by omega
   have h3:¬ (rs.length:Int)<(rs.length:Int):=by omega
   have hrd:=HG.out.rd
   rw [HCS.out] at hrd
   obtain⟨p6,c6,rfl,_,_⟩:=hrd.slice
   have HRD:=Lib.hid hrd
   have HB1:=Lib.hid HG.out.bw
   have hNN:cs.length=rs.length:=HLC.out
   have HFI:=Lib.hid (firsts_any cs (.slice p6 cs.length c6) (by omega) HOK.out wr HRD.out)
   have H10:Hid (cs.length≤10):=Lib.hid (by omega)
   have t1:((0:Int) != 0)=false:=rfl
   clear hrd HG HV hNN
   go_wp2_with fail
   refine HFI.out.mono ?_
   rintro e w2 ⟨v',Qw,Qf,rfl,g1,g2,g3,g4⟩
   have HWD:=Lib.hid (fun(i j:Nat) (hij:i<j) (hj:j<cs.length)=>where_D HOK.out H10.out g2 g3 hij hj)
   have HFF:=Lib.hid (firL_facts HOK.out H10.out g2 g3)
   obtain⟨L,hL⟩:∃ L,firL cs Qw Qf=L:=⟨_,rfl⟩
   rw [hL] at HWD HFF g1
   obtain⟨pv,cv,rfl⟩:=g1.slice
   have HOL:=Lib.hid (g1.rd encT_len)
   have H2:=Lib.hid (st HB1.out g4 HB1.out.size)
   have HM2:=Lib.hid (HM.out.below H2.out)
   clear g1 g2 g3 g4 hL
   go_wp2_with fail
   go_loopw [33] (fun v33 wr=>∃ i:Nat,i≤cs.length∧v33= .int .i64 i∧NoneB cs i 0∧Below w2.heap.size w2 wr) (fun v33 _=>cs.length - (intOf v33).toNat)
   case atStart=>exact⟨0,Nat.zero_le _,rfl,none_zero cs,Below.refl _ _⟩
   case round=>
    rename World=>wi
    obtain⟨i,hi,rfl,hno,hbi⟩:=hrel
    have HNO:=Lib.hid hno
    have HBI:=Lib.hid hbi
    clear hno hbi
    by_cases hlt:i<cs.length
    ·have h9:(i:Int)<(cs.length:Int):=by omega
     have HN1:=Lib.hid (none_first HNO.out)
     go_wp2_with fail
     go_loopw [2,3] (fun v2 v3 wr=>v2= .int .i64 (i:Nat)∧∃ j:Nat,i<j∧j≤cs.length∧v3= .int .i64 j∧NoneB cs i j∧Below w2.heap.size w2 wr) (fun _ v3 _=>cs.length - (intOf v3).toNat)
     case atStart=>exact⟨rfl,i+1,by omega,by omega,by go_num,HN1.out,HBI.out⟩
     case round=>
      rename World=>wj
      obtain⟨rfl,j,hij,hj,rfl,hno,hbj⟩:=hrel
      have HNJ:=Lib.hid hno
      have HBJ:=Lib.hid hbj
      clear hno hbj
      by_cases hlj:j<cs.length
      ·have h8:(j:Int)<(cs.length:Int):=by omega
       have hi6:i<64:=by have:=H10.out;omega
       have hj6:j<64:=by have:=H10.out;omega
       obtain⟨M,hM⟩:∃ M,2 ^ i=M:=⟨_,rfl⟩
       obtain⟨N,hN⟩:∃ N,2 ^ j=N:=⟨_,rfl⟩
       have s1:=shl_nat hi6 hM
       have s2:=shl_nat hj6 hN
       have HML:Hid (M<18446744073709551616):=Lib.hid (by rw [←hM];exact pow_lt64 hi6)
       have HNL:Hid (N<18446744073709551616):=Lib.hid (by rw [←hN];exact pow_lt64 hj6)
       have s3:bits .or .u64 (M:Int) (N:Int)=((M|||N:Nat):Int):=u64_or_nat M N HML.out HNL.out
       have HRL:=Lib.hid (or_lt HML.out HNL.out)
       have HWE:=Lib.hid (HWD.out i j hij hlj)
       rw [hM,hN] at HWE
       obtain⟨R,hR⟩:∃ R,M|||N=R:=⟨_,rfl⟩
       rw [hR] at s3 HRL HWE
       have HPN:=Lib.hid (disP_ne HOK.out hij hlj)
       obtain⟨A,hA⟩:∃ A,(disP cs i j).getD []=A:=⟨_,rfl⟩
       have HA:=Lib.hid hA
       rw [hA] at HWE HPN
       have hsi:(0:Int)≤(i:Int):=by omega
       have hsj:(0:Int)≤(j:Int):=by omega
       have HX:=Lib.hid ((Blk.new wj 75 #[.int .u64 (R:Int)]).below (Below.drew (Below.refl _ _)))
       have HBX:=Lib.hid (st HBJ.out (Below.drew (below_al wj (.cells #[.int .u64 (R:Int)] 75))) HBJ.out.size)
       obtain⟨wx,hwx⟩:∃ wx,(wj.alloc (.cells #[.int .u64 (R:Int)] 75)).drew=wx:=⟨_,rfl⟩
       rw [hwx] at HX HBX
       have HWX:=Lib.hid hwx
       have HWH:=Lib.hid (where_any (.slice pv L.length cv) L (fun n=>decide (n&&& R=R)) 33 #[.pointer (some ⟨wj.heap.size,0,none⟩)] (enters_of Tryz.func33 (by kernel_rfl) rfl) wx (HOL.out.below HBX.out) (by rw [HFF.out.1];exact Nat.pow_le_pow_right (by omega) H10.out) (fun x hx=>Nat.le_trans (HFF.out.2 x hx) (by omega)) (HM2.out.below HBX.out) (fun W c hc hb=>isDis_any c R (Nat.lt_of_lt_of_le hc (by rw [HFF.out.1];exact Nat.le_trans (Nat.pow_le_pow_right (by omega) H10.out) (by omega))) HRL.out wj.heap.size W ((HX.out.below hb).cell 0)))
       rw [HWE.out] at HWH
       clear hwx
       clear hM hN hR hA
       go_upto_region 16 with fail
       go_region
       rw [HWX.out]
       go_wp2_with fail
       refine HWH.out.mono ?_
       rintro e w9 ⟨rfl,h5⟩
       have HB9:=Lib.hid (st HBX.out h5 HBX.out.size)
       clear h5
       by_cases hz:A= []
       ·have t0:((ofL A).toList==([]:List UInt8))=true:=by rw [str_dec,decide_eq_true hz]
        have HNN:=Lib.hid (none_next HNJ.out (HPN.out hz))
        clear hz
        go_wp2_with fail
        go_roundw
        case measure=>simp [intOf];omega
        case rel=>exact⟨rfl,j+1,by omega,by omega,by go_num,HNN.out,HB9.out⟩
       ·have t0:((ofL A).toList==([]:List UInt8))=false:=by rw [str_dec,decide_eq_false hz]
        have HSO:Hid (disP cs i j=some A):=Lib.hid (by
         have e1:=HA.out
         cases hx:disP cs i j with
         |none=>rw [hx] at e1;exact absurd e1.symm hz
         |some b=>rw [hx] at e1;rw [←e1];rfl)
        have HBE:=Lib.hid (st H2.out HB9.out H2.out.size)
        clear hz
        go_wp2
        (try simp only [Exit.inBlock,Exit.then])
        refine bodyPost_ret (results_tmp4 rfl _ _ _) rfl ?_
        exact⟨i,j,A,19,rfl,.inl ⟨i,j,A,hij,hlj,HSO.out,HNJ.out,rfl⟩,HBE.out⟩
      ·obtain rfl:j=cs.length:=by omega
       have h7:¬ (cs.length:Int)<(cs.length:Int):=by omega
       have HNR:=Lib.hid (none_row HNJ.out (Nat.le_refl _))
       go_wp2_with fail
       go_roundw
       case measure=>simp [intOf];omega
       case rel=>exact⟨i+1,by omega,by go_num,HNR.out,HBJ.out⟩
    ·obtain rfl:i=cs.length:=by omega
     have h7:¬ (cs.length:Int)<(cs.length:Int):=by omega
     have HNA:=Lib.hid (none_all HNO.out (Nat.le_refl _))
     have HBE:=Lib.hid (st H2.out HBI.out H2.out.size)
     go_wp2
     (try simp only [Exit.inBlock,Exit.then])
     refine bodyPost_ret (results_tmp4 rfl _ _ _) rfl ?_
     exact⟨0,0,[],0,rfl,.inr ⟨HNA.out,rfl⟩,HBE.out⟩
end Go.Proofs.YtobapaodpcheiaaGreatDoor
