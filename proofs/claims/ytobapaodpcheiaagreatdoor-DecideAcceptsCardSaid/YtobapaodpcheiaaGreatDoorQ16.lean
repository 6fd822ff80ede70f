/- What the row stands on, part 16. -/
import Derived.Test.YtobapaodpcheiaaGreatDoorQ15
namespace Go.Proofs.YtobapaodpcheiaaGreatDoor
open Go.RowKit Go.Maps
set_option linter.unusedVariables false
def isB (a b:Str):Bool:=decide (b= [])||(decide (a.length<b.length)||(decide (a.length=b.length)&&Op.bytesLess a b))
theorem toL (x:Str):(ofL x).toList=x:=by rw [ByteArray.toList_eq];rfl
set_option maxRecDepth 1000000 in
set_option maxHeartbeats 4000000 in
theorem isBefore_any (a b:Str) (ha:a.length≤1000000) (hb:b.length≤1000000) (w:World):
  Calls Tryz.prog 60 #[.string (ofL a),.string (ofL b)] w fun e w'=>e= .returned (.bool (isB a b))∧w'=w:=by
 have HV:Hid (isB a b=(decide (b= [])||(decide (a.length<b.length)||(decide (a.length=b.length)&&Op.bytesLess a b)))):=Lib.hid rfl
 obtain⟨R,hR⟩:∃ R,isB a b=R:=⟨_,rfl⟩
 rw [hR] at HV ⊢
 clear hR
 by_cases h0:b= []
 ·subst h0
  have HR:Hid (R=true):=Lib.hid (by rw [HV.out];rfl)
  have t0:((ofL []).toList==([]:List UInt8))=true:=by rw [toL];rfl
  clear HV
  go_enter Tryz.func60,Tryz.ntmps60
  go_wp2
  go_ret
  exact⟨by rw [HR.out];rfl,rfl⟩
 ·have t0:((ofL b).toList==([]:List UInt8))=false:=by rw [beq_eq_false_iff_ne,toL];exact h0
  have t00:(ofL b).toList.isEmpty=false:=by rw [toL];cases b with|nil=>exact absurd rfl h0|cons x l=>rfl
  have hsa:=ofL_size a
  have hsb:=ofL_size b
  have HTA:=Lib.hid (toL a)
  have HTB:=Lib.hid (toL b)
  by_cases h1:a.length<b.length
  ·have HR:Hid (R=true):=Lib.hid (by rw [HV.out,decide_eq_true h1];simp)
   have t1:((ofL a).size:Int)<((ofL b).size:Int):=by omega
   have d1:=decide_eq_true t1
   have d2:=decide_eq_true (show(ofL a).size<(ofL b).size by omega)
   clear HV h0 h1 hsa hsb
   go_enter Tryz.func60,Tryz.ntmps60
   go_wp2
   go_ret
   exact⟨by rw [HR.out];rfl,rfl⟩
  ·have t1:¬ ((ofL a).size:Int)<((ofL b).size:Int):=by omega
   have d1:=decide_eq_false t1
   have d2:=decide_eq_false (show ¬ (ofL a).size<(ofL b).size by omega)
   by_cases h2:a.length=b.length
   ·have HR:Hid (R=Op.bytesLess (ofL a).toList (ofL b).toList):=Lib.hid (by rw [HV.out,decide_eq_false h0,decide_eq_false h1,decide_eq_true h2,toL,toL];simp)
    have t2:(((ofL a).size:Int)==((ofL b).size:Int))=true:=by rw [beq_iff_eq];omega
    have t3:((ofL a).size==(ofL b).size)=true:=by rw [beq_iff_eq];omega
    clear HV h0 h1 h2 hsa hsb
    go_enter Tryz.func60,Tryz.ntmps60
    go_wp2
    go_ret
    exact⟨by rw [HR.out];rfl,rfl⟩
   ·have HR:Hid (R=false):=Lib.hid (by rw [HV.out,decide_eq_false h0,decide_eq_false h1,decide_eq_false h2];rfl)
    have t2:(((ofL a).size:Int)==((ofL b).size:Int))=false:=by rw [beq_eq_false_iff_ne];omega
    have t3:((ofL a).size==(ofL b).size)=false:=by rw [beq_eq_false_iff_ne];omega
    clear HV h0 h1 h2 hsa hsb
    go_enter Tryz.func60,Tryz.ntmps60
    go_wp2
    go_ret
    exact⟨by rw [HR.out];rfl,rfl⟩
set_option maxRecDepth 1000000 in
set_option maxHeartbeats 1000000 in
theorem invalid_any (c:Cnd) (a2:Option Addr) (c2:Nat) (hl:∀ l∈c,l.length≤4611686018427387904) (w:World) (hv:RdC w (.slice a2 c.length c2) c):
  Calls Tryz.prog 57 (#[.slice a2 c.length c2]++ #[]) w fun e w'=>e= .returned (.bool (!okC c))∧Below w.heap.size w w':=by
 have HV:=Lib.hid hv
 have HL:=Lib.hid hl
 clear hv hl
 go_enter Tryz.func57,Tryz.ntmps57
 go_wp2_with fail
 refine(valid_cond_any _ c w HV.out HL.out).mono ?_
 rintro e w2 ⟨rfl,b2⟩
 have B2:=Lib.hid b2
 clear b2
 obtain⟨x,hx⟩:∃ x,okC c=x:=⟨_,rfl⟩
 have HX:=Lib.hid hx
 rw [hx]
 clear hx
 go_wp2
 go_ret
 exact⟨by rw [HX.out];rfl,B2.out⟩
set_option maxRecDepth 1000000 in
theorem isDis_any (c b:Nat) (hc:c<18446744073709551616) (hb:b<18446744073709551616) (B:Nat) (w:World) (hB:w.cell? ⟨B,0,none⟩=some (.int .u64 b)):Calls Tryz.prog 33 (#[.int .u64 (c:Int)]++ #[.pointer (some ⟨B,0,none⟩)]) w fun e w'=>e= .returned (.bool (decide (c&&& b=b)))∧w'=w:=by
 have s2:bits .and .u64 (c:Int) (b:Int)=((c&&& b:Nat):Int):=u64_and_nat c b hc hb
 obtain⟨R,hR⟩:∃ R,c&&& b=R:=⟨_,rfl⟩
 rw [hR] at s2 ⊢
 have HX:Hid (decide (R=b)=((R:Int)==(b:Int))):=Lib.hid (by rw [Bool.eq_iff_iff,decide_eq_true_eq,beq_iff_eq];omega)
 clear hR hc hb
 go_enter Tryz.func33,Tryz.ntmps33
 go_wp2
 go_ret
 exact⟨by rw [HX.out];rfl,rfl⟩
theorem flat_setI:∀(m:List Str) (i:Nat) (x:Str),(m.set i x).flatMap encT=(m.flatMap encT).set i (.string (ofL x))
 |[],i,x=>by simp
 |y::m,0,x=>by simp [encT]
 |y::m,i+1,x=>by
  rw [List.set_cons_succ,List.flatMap_cons,List.flatMap_cons,flat_setI m i x]
  simp [encT]
theorem Own1.putI {w:World} {base:Nat} {e:TypeId} {g n cap:Nat} {m:List Str} (h:Own1 1 encT w base e (.slice (some ⟨g,0,none⟩) n cap) m) (i:Nat) (x:Str):
  Own1 1 encT (w.setCell ⟨g,i,none⟩ (.string (ofL x))) base e (.slice (some ⟨g,0,none⟩) n cap) (m.set i x):=by
 have hn:m.length=n:=by obtain⟨a,c,hv⟩:=h.slice;injection hv with h1 h2 h3;exact h2.symm
 have h0:=h.1
 rcases h.2 with⟨hv,_⟩|⟨g',cap',cur,hv,hB,hg,hr⟩
 ·cases hv
 ·injection hv with e1 e2 e3
  injection e1 with e1
  injection e1 with e1
  subst e1 e3
  obtain⟨r1,r2,r3,r4⟩:=hr
  have hb:Blk g e cur w:=hg
  have hb2:=hb.put i (.string (ofL x))
  refine⟨?_,.inr ⟨g,cap,_,by rw [List.length_set,hn],hB,hb2,?_⟩⟩
  ·unfold Own1 World.ownsRow at*
   rw [flat_len encT_len,List.length_set]
  ·rw [List.length_set]
   refine⟨r1,r2,by simpa using r3,?_⟩
   rw [flat_setI,←r4]
   simp [List.take_set,Array.toList_setIfInBounds]
theorem own_madeS (w:World) (base n:Nat) (hb:base≤w.heap.size) (hn:n≤1000000):Own1 1 encT (w.alloc (.cells (madeCells #[.string ByteArray.empty] n) 9)) base 9 (.slice (some ⟨w.heap.size,0,none⟩) n n) (List.replicate n []):=by
 have e1:(madeCells #[Value.string ByteArray.empty] n).toList=List.replicate n (.string ByteArray.empty):=toList_madeCells_one _ _
 have e2:(List.replicate n ([]:Str)).flatMap encT=List.replicate n (.string ByteArray.empty):=by
  induction n with
  |zero=>rfl
  |succ n ih=>rw [List.replicate_succ,List.flatMap_cons,ih (by omega) (toList_madeCells_one _ _),List.replicate_succ];rfl
 refine⟨?_,.inr ⟨w.heap.size,n,madeCells #[.string ByteArray.empty] n,by rw [List.length_replicate],hb,heap_alloc_new w _,?_⟩⟩
 ·rw [e2,List.length_replicate,List.length_replicate,Nat.mul_one]
 ·rw [List.length_replicate,e2]
  refine⟨Nat.le_refl _,by unfold maxLen;omega,?_,?_⟩
  ·rw [←Array.length_toList,e1,List.length_replicate,Nat.mul_one]
  ·rw [e1,Nat.mul_one,List.take_replicate,Nat.min_self]
def setN (cs:List Cnd) (x:Rg) (f:Fra):Nat:=cndN (listsO 0 cs) ((x.hold&&& f.kept)|||f.hold) cs.length
def txN (u:List Nat) (f:Fra):Str:=chS u++f.tx
def updL (L:List Str) (c:Nat) (n:Str):List Str:=if isB n (L.getD c [])=true then L.set c n else L
def innL (cs:List Cnd) (q:List Nat × Rg) (F:List Fra) (L:List Str):List Str:=F.foldl (fun L f=>updL L (setN cs q.2 f) (txN q.1 f)) L
def outL (cs:List Cnd) (F:List Fra) (D:List (List Nat × Rg)) (L:List Str):List Str:=D.foldl (fun L q=>innL cs q F L) L
def firL (cs:List Cnd) (Qw Qf:List (List Nat × Rg)):List Str:=outL cs (Qf.map (frOf (relsC cs))) (Qw.drop 1) (List.replicate (2 ^ cs.length) [])
theorem innL_succ (cs:List Cnd) (q:List Nat × Rg) (F:List Fra) (L:List Str) {j:Nat} (h:j<F.length):innL cs q (F.take (j+1)) L=updL (innL cs q (F.take j) L) (setN cs q.2 F[j]) (txN q.1 F[j]):=by
 unfold innL
 rw [List.take_succ_eq_append_getElem h,List.foldl_append]
 rfl
theorem outL_succ (cs:List Cnd) (F:List Fra) (D:List (List Nat × Rg)) (L:List Str) {i:Nat} (h:i<D.length):outL cs F (D.take (i+1)) L=innL cs D[i] F (outL cs F (D.take i) L):=by
 unfold outL
 rw [List.take_succ_eq_append_getElem h,List.foldl_append]
 rfl
def Sm (L:List Str):Prop:=∀ x∈L,x.length≤1000
theorem setsO_lt:∀ {off:Nat} {c:Cnd},off+cnt c≤64→∀ a∈setsO off c,a<18446744073709551616
 |off,[],_,a,h=>by cases h
 |off,l::c,hc,a,h=>by
  rw [cnt_cons] at hc
  rcases List.mem_cons.1 h with rfl|h
  ·exact run_lt (by omega)
  ·exact setsO_lt (by omega) a h
theorem listsO_lt:∀ {off:Nat} {cs:List Cnd},off+cntA_ cs≤64→∀ c∈listsO off cs,∀ a∈c,a<18446744073709551616
 |off,[],_,c,h=>by cases h
 |off,d::cs,hc,c,h=>by
  rw [cntA_cons] at hc
  rcases List.mem_cons.1 h with rfl|h
  ·exact setsO_lt (by omega)
  ·exact listsO_lt (by omega) c h
theorem cndN_lt {ls:List (List Nat)} {hold k:Nat} (hk:k≤ls.length) (h6:k≤60):cndN ls hold k<2 ^ k:=by
 obtain⟨h1,h2⟩:=cndN_ok ls hold k hk (by omega)
 refine Nat.lt_pow_two_of_testBit _ (fun j hj=>?_)
 rw [h2]
 split
 ·rw [decide_eq_false (by omega),Bool.false_and]
 ·rfl
theorem shl_int {n:Nat} (h:n≤10) {M:Nat} (hM:2 ^ n=M):IntKind.i64.wrap ((2:Int) ^ n)=(M:Int):=by
 have h1:2 ^ n≤2 ^ 10:=Nat.pow_le_pow_right (by omega) h
 have h3:(2:Nat) ^ 10=1024:=by decide
 have h2:((2:Int) ^ n)=(M:Int):=by rw [←hM];exact(Int.natCast_pow 2 n).symm
 rw [h2,IntKind.wrap_i64]
 omega
structure FW (w1 w3:World) (B n:Nat) (L:List Str) (w:World):Prop where
 own:Own1 1 encT w w1.heap.size 9 (.slice (some ⟨B,0,none⟩) n n) L
 bt:Bt w3.heap.size B w3 w
 len:L.length=n
 sm:Sm L
theorem FW.below {w1 w3 w w':World} {B n:Nat} {L:List Str} (h:FW w1 w3 B n L w) (hb:Below w.heap.size w w'):FW w1 w3 B n L w':=
 ⟨own_below h.own hb,h.bt.trans (Bt.of_below (hb.mono h.bt.size)),h.len,h.sm⟩
theorem FW.put {w1 w3 w:World} {B n:Nat} {L:List Str} (h:FW w1 w3 B n L w) (c:Nat) {x:Str} (hx:x.length≤1000):FW w1 w3 B n (L.set c x) (w.setCell ⟨B,c,none⟩ (.string (ofL x))):=
 ⟨h.own.putI c x,h.bt.trans (Bt.setCell _ _ _ c _),by rw [List.length_set];exact h.len,fun y hy=>by
  rcases List.mem_or_eq_of_mem_set hy with hy|rfl
  ·exact h.sm y hy
  ·exact hx⟩
set_option maxRecDepth 1000000 in
set_option maxHeartbeats 64000000 in
theorem firsts_any (cs:List Cnd) (v:Value) (h10:cs.length≤10) (hok:∀ c∈cs,okC c=true) (w:World) (hv:RdCs w v cs):
  Calls Tryz.prog 31 #[v] w fun e w'=>∃ v' Qw Qf,e= .returned (.tuple #[v',.int .i64 0])∧Own1 1 encT w' w.heap.size 9 v' (firL cs Qw Qf)∧Found (nxR (relsC cs) (redL (relsC cs) 1 2) (redL (relsC cs) 3 4) (redL (relsC cs) 5 6)) (stRg (relsC cs) 0) 10 15 Qw∧Found (nxR (relsC cs) (redL (relsC cs) 1 2) (redL (relsC cs) 3 4) (redL (relsC cs) 5 6)) (stRg (relsC cs) 2) 10 6 Qf∧Below w.heap.size w w':=by
 obtain⟨iT,hiT,hzT,hkT,hbT⟩:=info_parts Tryz.infoT
 obtain⟨iA,hiA,hzA,hkA,hbA⟩:=info_parts Tryz.infoAr
 obtain⟨ac,cc,rfl,hc1,hc2⟩:=hv.slice
 have HV:=Lib.hid hv
 have HRO:=Lib.hid (fun wx hx=>relationsOf_any cs hok h10 (.slice ac cs.length cc) wx hx)
 have hkr:=relsC_ok hok
 have hl6:(relsC cs).length≤60:=by rw [rels_cnt];have:=cntS_le hok;omega
 have HLSN:Hid ((listsO 0 cs).length=cs.length):=Lib.hid (listsO_len 0 cs)
 have HLS:Hid (∀ c∈listsO 0 cs,∀ a∈c,a<18446744073709551616):=Lib.hid (listsO_lt (by have:=cntS_le hok;omega))
 have HA:Hid ((cs.any fun c=>!okC c)=false):=Lib.hid (by rw [List.any_eq_false];intro c hc;rw [hok c hc];decide)
 have HSML:Hid (∀ c∈cs,∀ l∈c,l.length≤4611686018427387904):=Lib.hid (fun c hc l hl=>by
  have h1:=(okC_iff.1 (hok c hc)).2.2
  have h2:=cnt_get hl
  omega)
 have HFIR:Hid (∀ Qw Qf,firL cs Qw Qf=outL cs (Qf.map (frOf (relsC cs))) (Qw.drop 1) (List.replicate (2 ^ cs.length) [])):=Lib.hid (fun _ _=>rfl)
 have HSETB:Hid (∀ x f,setN cs x f<2 ^ cs.length):=Lib.hid (fun x f=>cndN_lt (by rw [listsO_len];exact Nat.le_refl _) (by omega))
 have HSETD:Hid (∀ x f,setN cs x f=cndN (listsO 0 cs) ((x.hold&&& f.kept)|||f.hold) cs.length):=Lib.hid (fun _ _=>rfl)
 obtain⟨l,hle⟩:∃ l,relsC cs=l:=⟨_,rfl⟩
 have HLE:=Lib.hid hle
 rw [hle] at HRO hkr hl6 HFIR
 have hs1:=scOk hkr 1 2
 have hs2:=scOk hkr 3 4
 have hs3:=scOk hkr 5 6
 have HOL:=Lib.hid hkr
 have HBW:=Lib.hid (fun L h1 h2=>bound_whole hkr hl6 (redL l 3 4) (redL l 5 6) 15 L h1 h2)
 have HFRA:=Lib.hid (fun g ls wx hp=>fractions_any g l ls (redL l 1 2) (redL l 3 4) (redL l 5 6) hkr hl6 hs1 hs2 hs3 wx hp)
 have HSTA:=Lib.hid (fun g ls wx hp=>start_any g l ls (redL l 1 2) (redL l 3 4) (redL l 5 6) hkr hl6 0 wx hp)
 have HSEA:=Lib.hid (fun g ls wx hp=>search_any g l ls (redL l 1 2) (redL l 3 4) (redL l 5 6) hkr hl6 hs1 hs2 hs3 (stRg l 0) (stRg_ok hl6 0) (by show 0≤4;omega) 10 15 403 (by omega) (by omega) (fun L h1 h2=>HBW.out L h1 h2) (by omega) wx hp)
 have HRUNOK:=Lib.hid (fun u=>runR_ok hl6 hs1 hs2 hs3 (stRg_ok hl6 0) (by show 0≤4;omega) u)
 have HRUNOK2:=Lib.hid (fun u=>runR_ok hl6 hs1 hs2 hs3 (stRg_ok hl6 2) (by show 2≤4;omega) u)
 have HON1:=Lib.hid (on_lt hl6 1)
 have HON2:=Lib.hid (on_lt hl6 2)
 obtain⟨p,hpp⟩:∃ p,redL l 1 2=p:=⟨_,rfl⟩
 obtain⟨q,hqq⟩:∃ p,redL l 3 4=p:=⟨_,rfl⟩
 obtain⟨s,hss⟩:∃ p,redL l 5 6=p:=⟨_,rfl⟩
 rw [hpp] at HRO HBW HFRA HSTA HSEA HRUNOK HRUNOK2 hs1
 rw [hqq] at HRO HBW HFRA HSTA HSEA HRUNOK HRUNOK2 hs2
 rw [hss] at HRO HBW HFRA HSTA HSEA HRUNOK HRUNOK2 hs3
 have HPE:=Lib.hid hpp
 have HQE:=Lib.hid hqq
 have HSE:=Lib.hid hss
 have HPOST:Hid (∀(v':Value) Qw Qf (w':World),Own1 1 encT w' w.heap.size 9 v' (firL cs Qw Qf)→Found (nxR l p q s) (stRg l 0) 10 15 Qw→Found (nxR l p q s) (stRg l 2) 10 6 Qf→Below w.heap.size w w'→∃ v'' Qw Qf,Ending.returned (.tuple #[v',.int .i64 0])= .returned (.tuple #[v'',.int .i64 0])∧Own1 1 encT w' w.heap.size 9 v'' (firL cs Qw Qf)∧Found (nxR (relsC cs) (redL (relsC cs) 1 2) (redL (relsC cs) 3 4) (redL (relsC cs) 5 6)) (stRg (relsC cs) 0) 10 15 Qw∧Found (nxR (relsC cs) (redL (relsC cs) 1 2) (redL (relsC cs) 3 4) (redL (relsC cs) 5 6)) (stRg (relsC cs) 2) 10 6 Qf∧Below w.heap.size w w'):=Lib.hid (fun v' Qw Qf w' h1 h2 h3 h4=>by
  rw [hle,hpp,hqq,hss]
  exact⟨v',Qw,Qf,rfl,h1,h2,h3,h4⟩)
 obtain⟨N,hN⟩:∃ N,2 ^ cs.length=N:=⟨_,rfl⟩
 have s1:=shl_int h10 hN
 have HN0:Hid (0<N∧N≤1024):=Lib.hid (by
  have h1:2 ^ cs.length≤2 ^ 10:=Nat.pow_le_pow_right (by omega) h10
  have h3:(2:Nat) ^ 10=1024:=by decide
  have h4:0<2 ^ cs.length:=Nat.pow_pos (by omega)
  omega)
 rw [hN] at HFIR HSETB
 have t0:¬ (10:Int)<(cs.length:Int):=by omega
 obtain⟨Rpost,hRp⟩:∃ Rpost:Ending→World→Prop,(fun e w'=>∃ v' Qw Qf,e=Ending.returned (.tuple #[v',.int .i64 0])∧Own1 1 encT w' w.heap.size 9 v' (firL cs Qw Qf)∧Found (nxR (relsC cs) (redL (relsC cs) 1 2) (redL (relsC cs) 3 4) (redL (relsC cs) 5 6)) (stRg (relsC cs) 0) 10 15 Qw∧Found (nxR (relsC cs) (redL (relsC cs) 1 2) (redL (relsC cs) 3 4) (redL (relsC cs) 5 6)) (stRg (relsC cs) 2) 10 6 Qf∧Below w.heap.size w w')=Rpost:=⟨_,rfl⟩
 have HRP:Hid (∀(v':Value) Qw Qf (w':World),Own1 1 encT w' w.heap.size 9 v' (firL cs Qw Qf)→Found (nxR l p q s) (stRg l 0) 10 15 Qw→Found (nxR l p q s) (stRg l 2) 10 6 Qf→Below w.heap.size w w'→Rpost (.returned (.tuple #[v',.int .i64 0])) w'):=Lib.hid (fun v' Qw Qf w' h1 h2 h3 h4=>by rw [←hRp];exact HPOST.out v' Qw Qf w' h1 h2 h3 h4)
 rw [hRp]
 clear hRp HPOST hle hpp hqq hss hN hkr hl6 hs1 hs2 hs3 hv hok h10
 go_enter Tryz.func31,Tryz.ntmps31
 go_wp2_with fail
 refine(containsCnd_any _ cs (fun c=>!okC c) 57 #[] (enters_of Tryz.func57 (by kernel_rfl) rfl) _ HV.out (fun W c a2 c2 hc hb hr=>invalid_any c a2 c2 (HSML.out c hc) W hr)).mono ?_
 rintro e w0 ⟨rfl,b0⟩
 have B0:=Lib.hid b0
 clear b0
 rw [HA.out]
 go_wp2_with fail
 refine(HRO.out w0 (HV.out.below B0.out)).mono ?_
 rintro e w1 ⟨g,rfl,hrp,b1⟩
 have HP:=Lib.hid hrp
 have B1:=Lib.hid (st B0.out b1 B0.out.size)
 clear hrp b1
 go_upto_region 5 with fail
 obtain⟨wd,hwd⟩:∃ wd,w1.drew=wd:=⟨_,rfl⟩
 have HD:=Lib.hid hwd
 have bd:Below w1.heap.size w1 wd:=by rw [←hwd];exact(Below.refl _ _).drew
 have HBD:=Lib.hid bd
 have HPD:=Lib.hid (HP.out.below bd)
 clear hwd bd
 go_cut [6,7] from 24 to 30 (fun v6 v7 wx=>∃(B:Nat) (Qf:List (List Nat × Rg)),v6= .slice (some ⟨B,0,none⟩) N N∧Own1 1 encT wx w1.heap.size 9 (.slice (some ⟨B,0,none⟩) N N) (List.replicate N [])∧Own1 3 encFr wx w1.heap.size 117 v7 (Qf.map (frOf l))∧Found (nxR l p q s) (stRg l 2) 10 6 Qf∧w1.heap.size≤B∧Below w1.heap.size w1 wx)
 case first=>
  have hmk:∀ wx:World,(Instr.makeSlice 71 (.int .i64 (N:Int)) (.int .i64 (N:Int))).run Tryz.prog wx= .ok (.slice (some ⟨wx.heap.size,0,none⟩) N N) (wx.alloc (.cells (madeCells #[.string ByteArray.empty] N) 9)):=fun wx=>make_at (P:=Tryz.prog) 71 9 (.string ByteArray.empty) 16 Tryz.underlying71 Tryz.infoT (by omega) N (by have:=HN0.out;omega) wx
  have hS:(fun _:World=>True) wd:=trivial
  have HZD:Hid (w1.heap.size≤wd.heap.size):=Lib.hid HBD.out.size
  refine region_hd 7 (fun _:World=>True) (by kernel_rfl) (by kernel_rfl) ?_
  rw [HD.out]
  refine hd_taken 0 (some 24) _ ?hdv0 rfl rfl (by kernel_rfl) (fun _ _ _ h=>h) (Or.inl ⟨by kernel_rfl,?hdy0⟩) hS ?hdr0
  case hdy0=>(intro wx hx;(try dsimp only at hx);go_simp;try with_reducible rfl)
  try simp only [Act.put,zI,zO,zS]
  refine hd_taken 1 (some 25) _ ?hdv1 rfl rfl (by kernel_rfl) (fun _ _ _ h=>h) (Or.inl ⟨by kernel_rfl,?hdy1⟩) hS ?hdr1
  case hdy1=>(intro wx hx;(try dsimp only at hx);go_simp;try with_reducible rfl)
  try simp only [Act.put,zI,zO,zS]
  refine hd_taken 2 (some 26) _ ?hdv2 rfl rfl (by kernel_rfl) (fun _ _ _ h=>h) (Or.inl ⟨by kernel_rfl,?hdy2⟩) hS ?hdr2
  case hdy2=>(intro wx hx;(try dsimp only at hx);go_simp;try with_reducible rfl)
  try simp only [Act.put,zI,zO,zS]
  refine hd_taken 4 (some 28) _ ?hdv4 rfl rfl (by kernel_rfl) (fun _ _ _ h=>h) (Or.inl ⟨by kernel_rfl,?hdy4⟩) hS ?hdr4
  case hdy4=>(intro wx hx;(try dsimp only at hx);go_simp;try with_reducible rfl)
  try simp only [Act.put,zI,zO,zS]
  refine hd_listI [3,5] (by kernel_rfl) (by decide) (by decide) (fun i hi=>?_)
  simp only [List.mem_cons,List.not_mem_nil,or_false] at hi
  rcases hi with rfl|rfl
  ·refine⟨_,rfl,fun K3 hK3=>?_⟩
   have om:=own_madeS wd w1.heap.size N HZD.out (by have:=HN0.out;omega)
   have bm:=(Below.refl wd.heap.size wd).alloc (Nat.le_refl _) (.cells (madeCells #[.string ByteArray.empty] N) 9)
   obtain⟨wm,hwm⟩:∃ wm,wd.alloc (.cells (madeCells #[.string ByteArray.empty] N) 9)=wm:=⟨_,rfl⟩
   have hmk1:=hmk wd
   rw [hwm] at om bm hmk1
   clear hmk
   go_simp
   refine hK3.out _ _ trivial ?_
   clear hK3 K3 hmk1
   try simp only [Act.put,zI,zO,zS]
   refine hd_one 5 _ rfl (by kernel_rfl) (by decide) (fun K5 hK5=>?_)
   go_simp
   refine(HFRA.out g _ wm (HPD.out.below bm)).mono ?_
   rintro e w5 ⟨v7,Qf,rfl,o7,f7,b7⟩
   try dsimp only
   refine hK5.out _ _ trivial ?_
   clear hK5 K5
   try simp only [Act.put,zI,zO,zS]
   refine hd_taken 6 (some 6) _ ?hdva6 rfl rfl (by kernel_rfl) (fun _ _ _ h=>h) (Or.inl ⟨by kernel_rfl,?hdya6⟩) trivial ?hdra6
   case hdya6=>(intro wx hx;(try dsimp only at hx);go_simp;try with_reducible rfl)
   try simp only [Act.put,zI,zO,zS]
   refine hd_done (by kernel_rfl) ?_
   simp only [List.drop_succ_cons,List.drop_zero]
   have HFIN:Hid (Own1 1 encT w5 w1.heap.size 9 (.slice (some ⟨wd.heap.size,0,none⟩) N N) (List.replicate N [])∧Own1 3 encFr w5 w1.heap.size 117 v7 (Qf.map (frOf l))∧Below w1.heap.size w1 w5):=Lib.hid ⟨own_below om b7,o7.base (by have:=HZD.out;have:=bm.size;omega),HBD.out.trans ((st bm b7 bm.size).mono HZD.out)⟩
   have HF7:=Lib.hid f7
   clear om bm o7 f7 b7 hwm
   go_wp2_with fail
   go_meet
   exact⟨_,Qf,rfl,HFIN.out.1,HFIN.out.2.1,HF7.out,HZD.out,HFIN.out.2.2⟩
  ·refine⟨_,rfl,fun K5 hK5=>?_⟩
   go_simp
   refine(HFRA.out g _ wd HPD.out).mono ?_
   rintro e w5 ⟨v7,Qf,rfl,o7,f7,b7⟩
   try dsimp only
   refine hK5.out _ _ trivial ?_
   clear hK5 K5
   try simp only [Act.put,zI,zO,zS]
   refine hd_one 3 _ rfl (by kernel_rfl) (by decide) (fun K3 hK3=>?_)
   have z5:w1.heap.size≤w5.heap.size:=by have:=HZD.out;have:=b7.size;omega
   have om:=own_madeS w5 w1.heap.size N z5 (by have:=HN0.out;omega)
   have bm:=(Below.refl w5.heap.size w5).alloc (Nat.le_refl _) (.cells (madeCells #[.string ByteArray.empty] N) 9)
   obtain⟨wm,hwm⟩:∃ wm,w5.alloc (.cells (madeCells #[.string ByteArray.empty] N) 9)=wm:=⟨_,rfl⟩
   have hmk1:=hmk w5
   rw [hwm] at om bm hmk1
   clear hmk
   go_simp
   refine hK3.out _ _ trivial ?_
   clear hK3 K3 hmk1
   try simp only [Act.put,zI,zO,zS]
   refine hd_taken 6 (some 6) _ ?hdvb6 rfl rfl (by kernel_rfl) (fun _ _ _ h=>h) (Or.inl ⟨by kernel_rfl,?hdyb6⟩) trivial ?hdrb6
   case hdyb6=>(intro wx hx;(try dsimp only at hx);go_simp;try with_reducible rfl)
   try simp only [Act.put,zI,zO,zS]
   refine hd_done (by kernel_rfl) ?_
   simp only [List.drop_succ_cons,List.drop_zero]
   have HFIN:Hid (Own1 1 encT wm w1.heap.size 9 (.slice (some ⟨w5.heap.size,0,none⟩) N N) (List.replicate N [])∧Own1 3 encFr wm w1.heap.size 117 v7 (Qf.map (frOf l))∧Below w1.heap.size w1 wm):=Lib.hid ⟨om,own_below (o7.base HZD.out) bm,HBD.out.trans ((st b7 bm b7.size).mono HZD.out)⟩
   have HF7:=Lib.hid f7
   have HZ5:=Lib.hid z5
   clear om bm o7 f7 b7 hwm z5
   go_wp2_with fail
   go_meet
   exact⟨_,Qf,rfl,HFIN.out.1,HFIN.out.2.1,HF7.out,HZ5.out,HFIN.out.2.2⟩
 case rest=>
  rename World=>w2
  obtain⟨B,Qf,rfl,hol,hof,hff,hB1,hb2⟩:=hcut
  obtain⟨pf,cf,hvf⟩:=hof.slice
  subst hvf
  have HOLs:=Lib.hid hol
  have HOF:=Lib.hid hof
  have HFF:=Lib.hid hff
  have HB1:=Lib.hid hB1
  have B2:=Lib.hid hb2
  have z2:=hb2.size
  have HP2:=Lib.hid (HP.out.below hb2)
  clear hol hof hff hB1 hb2 HD HBD HPD HFRA HRO HA HSML HV
  obtain⟨F,hF⟩:∃ F,Qf.map (frOf l)=F:=⟨_,rfl⟩
  have HFTX:Hid (∀ f∈F,f.tx.length≤100∧f.hold<18446744073709551616∧f.kept<18446744073709551616):=Lib.hid (fun f hf=>by
   rw [←hF] at hf
   obtain⟨z,hz,rfl⟩:=List.mem_map.1 hf
   obtain⟨h1,h2,h3⟩:=HFF.out.run z hz
   have h4:=(HRUNOK2.out z.1).1.hold
   rw [h1] at h4
   refine⟨?_,h4,?_⟩
   ·show(if z.1= [] then [] else 58::chS z.1:Str).length≤100
    split
    ·simp
    ·rw [List.length_cons,chS_len];omega
   ·show(if z.2.int=true then on l 2|||on l 1 else on l 2)<_
    split
    ·exact or_lt HON2.out HON1.out
    ·exact HON2.out)
  have HFE:=Lib.hid hF
  have hfl:F.length≤2985984:=by
   have:=bound_frac (nxR l p q s) (stRg l 2) (Qf.map Prod.snd) HFF.out.nd (fun x hx=>by
    obtain⟨z,hz,rfl⟩:=List.mem_map.1 hx
    obtain⟨h1,h2,h3⟩:=HFF.out.run z hz
    exact⟨z.1,h2,h3,h1⟩)
   rw [List.length_map] at this
   rw [←hF,List.length_map]
   exact this
  rw [hF] at HOF
  try rw [hF]
  clear hF
  go_wp2_with fail
  refine(HSTA.out g _ w2 HP2.out).mono ?_
  rintro e w2a ⟨rfl,b2a⟩
  have B2a:=Lib.hid b2a
  clear b2a
  go_wp2_with fail
  refine(HSEA.out g _ w2a (HP2.out.below B2a.out)).mono ?_
  rintro e w3 ⟨vq,Qw,rfl,owq,fnd,b3⟩
  obtain⟨pq,cq,hvq⟩:=owq.slice
  subst hvq
  have B3:=Lib.hid (st B2a.out b3 B2a.out.size)
  have HFD:=Lib.hid fnd
  have HQ1:Hid (1≤Qw.length):=Lib.hid (by have:=(List.getElem?_eq_some_iff.1 fnd.head).1;omega)
  have HQN:Hid (Qw.length≤403):=Lib.hid (by
   have:=HBW.out (Qw.map Prod.snd) fnd.nd (fun x hx=>by
    obtain⟨z,hz,rfl⟩:=List.mem_map.1 hx
    obtain⟨h1,h2,h3⟩:=fnd.run z hz
    exact⟨z.1,h2,h3,h1⟩)
   rwa [List.length_map] at this)
  have hol3:=own_below HOLs.out B3.out
  obtain⟨_,Lcs,hLb⟩:=own_blk hol3 B rfl
  have HFW0:Hid (FW w1 w3 B N (List.replicate N []) w3):=Lib.hid ⟨hol3,Bt.refl _ _ _,by simp,fun x hx=>by rw [List.eq_of_mem_replicate hx];simp⟩
  have HNB:Hid (∀ b,(Value.slice pq Qw.length cq).ownBlock=some b→b<w3.heap.size∧b≠B):=Lib.hid (fun b hb=>⟨(own_lt owq b hb).2,fun e=>own_type owq hLb (by decide) (by rw [←e];exact hb)⟩)
  have HNF:Hid (∀ b,(Value.slice pf F.length cf).ownBlock=some b→b<w3.heap.size∧b≠B):=Lib.hid (fun b hb=>by
   have hof3:=own_below HOF.out B3.out
   exact⟨(own_lt hof3 b hb).2,fun e=>own_type hof3 hLb (by decide) (by rw [←e];exact hb)⟩)
  have HRF:=Lib.hid ((HOF.out.below B3.out).rd encFr_len)
  obtain⟨pd,cd,hrd,hbd,hr1,hr2⟩:=Rd.tail_ (P:=Tryz.prog) (T:=93) (e:=100) (i:=iA) Tryz.underlying93 hiA hkA (owq.rd encAr_len) 1 HQ1.out
  have HR1:Hid (∀ wx,(Instr.slice 93 (.slice pq Qw.length cq) (some (.int .i64 1)) none none).run Tryz.prog wx= .ok (.slice pd (Qw.length - 1) cd) wx):=Lib.hid hr1
  have HR2:Hid (∀ wx,(Instr.sliceAt 93 (.slice pq Qw.length cq) (some (.int .i64 1)) none none).run Tryz.prog wx= .ok (.slice pd (Qw.length - 1) cd) wx):=Lib.hid hr2
  have HZ31:Hid (w1.heap.size≤w2.heap.size∧w2.heap.size≤w3.heap.size):=Lib.hid ⟨z2,B3.out.size⟩
  have HDR:Hid (∀ z∈Qw.drop 1,z.1.length≤15∧z.2.hold<18446744073709551616):=Lib.hid (fun z hz=>by
   obtain⟨h1,h2,h3⟩:=fnd.run z (List.mem_of_mem_drop hz)
   have h4:=(HRUNOK.out z.1).1.hold
   rw [h1] at h4
   exact⟨h3,h4⟩)
  obtain⟨D,hD⟩:∃ D,Qw.drop 1=D:=⟨_,rfl⟩
  have HDL:Hid (D.length=Qw.length - 1):=Lib.hid (by rw [←hD,List.length_drop])
  have HDE:=Lib.hid hD
  rw [hD] at hrd HDR
  obtain⟨nd,hnd⟩:∃ nd,Qw.length - 1=nd:=⟨_,rfl⟩
  rw [hnd] at hrd hbd HR1 HR2 HDL
  have HRD:=Lib.hid hrd
  have HBD2:=Lib.hid hbd
  have hndl:nd≤403:=by have:=HQN.out;omega
  have hr1:=HR1.out
  have hr2:=HR2.out
  have HND:=HDL.out
  clear owq fnd b3 hol3 hLb hrd hbd hD hnd
  go_wp2_with fail
  clear hr1 hr2
  go_loopw [36] (fun v36 wr=>∃ i:Nat,i≤D.length∧v36= .int .i64 (i:Nat)∧FW w1 w3 B N (outL cs F (D.take i) (List.replicate N [])) wr) (fun v36 _=>D.length - (intOf v36).toNat)
  case atStart=>exact⟨0,Nat.zero_le _,rfl,HFW0.out⟩
  case round=>
   obtain⟨i,hi,rfl,hfw⟩:=hrel
   have HFW:=Lib.hid hfw
   have zr:=hfw.bt.size
   clear hfw
   by_cases hlt:i<D.length
   ·have h9:(i:Int)<(nd:Int):=by have:=HDL.out;omega
    have hrdb:=HRD.out.bt HFW.out.bt (fun b hb=>HNB.out b (HBD2.out b hb))
    obtain⟨b5,f5,hp5,hl5,c0,c1,c2,c3',c4,c5⟩:=hrdb.arr i hlt
    subst hp5
    have HDI:=Lib.hid (HDR.out _ (List.getElem_mem hlt))
    have HTK:=Lib.hid (outL_succ cs F D (List.replicate N []) hlt)
    obtain⟨⟨u,x1,x2,x3,x4,x5⟩,hqe⟩:∃ q,D[i]=q:=⟨_,rfl⟩
    rw [hqe] at HDI c0 c1 c2 c3' c4 c5 HTK
    dsimp only at HDI c0 c1 c2 c3' c4 c5
    obtain⟨U,hU⟩:∃ U,chS u=U:=⟨_,rfl⟩
    have HUL:Hid (U.length≤15):=Lib.hid (by rw [←hU,chS_len];exact HDI.out.1)
    have HUE:=Lib.hid hU
    rw [hU] at c0
    have HINN:=Lib.hid (fun j hj=>innL_succ cs (u,⟨x1,x2,x3,x4,x5⟩) F (outL cs F (D.take i) (List.replicate N [])) (j:=j) hj)
    have HINE:Hid (innL cs (u,⟨x1,x2,x3,x4,x5⟩) (F.take F.length) (outL cs F (D.take i) (List.replicate N []))=outL cs F (D.take (i+1)) (List.replicate N [])):=Lib.hid (by rw [List.take_length,HTK.out])
    obtain⟨L0,hL0⟩:∃ L0,outL cs F (D.take i) (List.replicate N [])=L0:=⟨_,rfl⟩
    rw [hL0] at HFW HINN HINE
    try rw [hL0]
    have kx:=Blk.new wr 100 #[.string (ofL U),.int .i64 x1,.int .u64 x2,.int .i64 x3,.int .i64 x4,.bool x5]
    have bx:=(Below.refl wr.heap.size wr).alloc (Nat.le_refl _) (.cells #[.string (ofL U),.int .i64 x1,.int .u64 x2,.int .i64 x3,.int .i64 x4,.bool x5] 100)
    obtain⟨gx,hgx⟩:∃ gx,wr.heap.size=gx:=⟨_,rfl⟩
    obtain⟨X,hX⟩:∃ X,wr.alloc (.cells #[.string (ofL U),.int .i64 x1,.int .u64 x2,.int .i64 x3,.int .i64 x4,.bool x5] 100)=X:=⟨_,rfl⟩
    have HFX:=Lib.hid (HFW.out.below bx)
    rw [hX] at kx bx HFX
    rw [hgx] at kx
    have HKX:=Lib.hid kx
    have HXE:=Lib.hid hX
    have HGX:Hid (B<gx):=Lib.hid (by rw [←hgx];have:=(own_lt HFW.out.own B rfl).2;exact this)
    clear hqe hU kx bx hX hL0 hrdb
    go_upto_region 9 with fail
    rw [HXE.out]
    try rw [hgx]
    clear hgx c0 c1 c2 c3' c4 c5
    go_wp2_with fail
    go_loopw [42] (fun v42 wz=>∃ j:Nat,j≤F.length∧v42= .int .i64 (j:Nat)∧FW w1 w3 B N (innL cs (u,⟨x1,x2,x3,x4,x5⟩) (F.take j) L0) wz∧Blk gx 100 #[.string (ofL U),.int .i64 x1,.int .u64 x2,.int .i64 x3,.int .i64 x4,.bool x5] wz) (fun v42 _=>F.length - (intOf v42).toNat)
    case atStart=>exact⟨0,Nat.zero_le _,rfl,HFX.out,HKX.out⟩
    case round=>
     rename World=>wz
     obtain⟨j,hj,rfl,hfw,hkx⟩:=hrel
     have HFZ:=Lib.hid hfw
     have HKZ:=Lib.hid hkx
     have zz:=hfw.bt.size
     clear hfw hkx HFX HKX HFW HXE
     by_cases hjt:j<F.length
     ·have h8:(j:Int)<(F.length:Int):=by omega
      have hrfb:=HRF.out.bt HFZ.out.bt (fun b hb=>HNF.out b hb)
      obtain⟨b6,f6,hp6,hl6,d0,d1,d2⟩:=hrfb.fra j hjt
      subst hp6
      have HFT:=Lib.hid (HFTX.out _ (List.getElem_mem hjt))
      have HST:=Lib.hid (HINN.out j hjt)
      have HSB:=Lib.hid (HSETB.out ⟨x1,x2,x3,x4,x5⟩ F[j])
      have HSD:=Lib.hid (HSETD.out ⟨x1,x2,x3,x4,x5⟩ F[j])
      have HTX:Hid (txN u F[j]=U++F[j].tx):=Lib.hid (by unfold txN;rw [HUE.out])
      obtain⟨⟨ft,fh,fk⟩,hfe⟩:∃ f,F[j]=f:=⟨_,rfl⟩
      rw [hfe] at d0 d1 d2 HFT HST HSB HSD HTX
      dsimp only at d0 d1 d2 HFT HST HSB HSD HTX
      obtain⟨LJ,hLJ⟩:∃ LJ,innL cs (u,⟨x1,x2,x3,x4,x5⟩) (F.take j) L0=LJ:=⟨_,rfl⟩
      rw [hLJ] at HFZ HST
      try rw [hLJ]
      obtain⟨c,hc⟩:∃ c,setN cs ⟨x1,x2,x3,x4,x5⟩ ⟨ft,fh,fk⟩=c:=⟨_,rfl⟩
      rw [hc] at HST HSB HSD
      obtain⟨n,hn⟩:∃ n,txN u ⟨ft,fh,fk⟩=n:=⟨_,rfl⟩
      rw [hn] at HST HTX
      have HNL:Hid (n.length≤200):=Lib.hid (by rw [HTX.out,List.length_append];have:=HUL.out;have:=HFT.out.1;omega)
      have hadd:∀ wx,(Op.stringOp .add (ofL U) (ofL ft)).run Tryz.prog wx= .ok (.string (ofL n)) wx:=fun wx=>str_add (by have:=HUL.out;have:=HFT.out.1;omega) HTX.out.symm wx
      have a1:bits .and .u64 (x2:Int) (fk:Int)=((x2&&& fk:Nat):Int):=u64_and_nat x2 fk HDI.out.2 HFT.out.2.2
      have HAL:Hid (x2&&& fk<18446744073709551616):=Lib.hid (and_lt HDI.out.2)
      obtain⟨A,hA⟩:∃ A,x2&&& fk=A:=⟨_,rfl⟩
      rw [hA] at a1 HAL HSD
      have a2:bits .or .u64 (A:Int) (fh:Int)=((A|||fh:Nat):Int):=u64_or_nat A fh HAL.out HFT.out.2.1
      have HOL2:Hid (A|||fh<18446744073709551616):=Lib.hid (or_lt HAL.out HFT.out.2.1)
      obtain⟨O,hO⟩:∃ O,A|||fh=O:=⟨_,rfl⟩
      rw [hO] at a2 HOL2 HSD
      have kf:=Blk.new wz 117 #[.string (ofL ft),.int .u64 fh,.int .u64 fk]
      have bf:=(Below.refl wz.heap.size wz).alloc (Nat.le_refl _) (.cells #[.string (ofL ft),.int .u64 fh,.int .u64 fk] 117)
      obtain⟨gf,hgf⟩:∃ gf,wz.heap.size=gf:=⟨_,rfl⟩
      obtain⟨Y,hY⟩:∃ Y,wz.alloc (.cells #[.string (ofL ft),.int .u64 fh,.int .u64 fk] 117)=Y:=⟨_,rfl⟩
      have HFY:=Lib.hid (HFZ.out.below bf)
      have HKY:=Lib.hid (HKZ.out.below bf)
      rw [hY] at kf bf HFY HKY
      rw [hgf] at kf
      have HKF:=Lib.hid kf
      have HYE:=Lib.hid hY
      have HPY:Hid (RelP Y g l (listsO 0 cs) p q s):=Lib.hid (HP.out.below (by
       have h1:Below w1.heap.size w1 w3:=B2.out.trans (B3.out.mono HZ31.out.1)
       exact h1.trans (bt_below HFY.out.bt (by have:=HZ31.out;omega) HB1.out)))
      clear hfe hLJ hn hA hO hc kf bf hY hrfb
      go_upto_region 12 with fail
      rw [HYE.out]
      try rw [hgf]
      clear hgf d0 d1 d2
      have q2:Y.cell? ⟨gx,2,none⟩=some (.int .u64 x2):=HKY.out.cell 2
      have q0:Y.cell? ⟨gf,1,none⟩=some (.int .u64 fh):=HKF.out.cell 1
      have q1:Y.cell? ⟨gf,2,none⟩=some (.int .u64 fk):=HKF.out.cell 2
      have HCO:=Lib.hid (conditions_any g l (listsO 0 cs) p q s (by rw [HLSN.out];omega) HLS.out O HOL2.out Y HPY.out)
      rw [HLSN.out,←HSD.out] at HCO
      go_wp2_with fail
      refine HCO.out.mono ?_
      rintro e w5 ⟨rfl,b5⟩
      have HF5:=Lib.hid (HFY.out.below b5)
      have HK5:=Lib.hid (HKY.out.below b5)
      have HG5:=Lib.hid (HKF.out.below b5)
      clear b5 q0 q1 q2 HCO
      have r0:w5.cell? ⟨gx,0,none⟩=some (.string (ofL U)):=HK5.out.cell 0
      have r1:w5.cell? ⟨gf,0,none⟩=some (.string (ofL ft)):=HG5.out.cell 0
      have hcl:c<LJ.length:=by rw [HF5.out.len];exact HSB.out
      obtain⟨bL,fL,hbL,r2⟩:=(HF5.out.own.rd encT_len).str c hcl
      cases hbL
      rw [Nat.zero_add] at r2
      have HUPD:Hid (updL LJ c n=if isB n LJ[c]=true then LJ.set c n else LJ):=Lib.hid (by unfold updL;rw [List.getD_eq_getElem?_getD,List.getElem?_eq_getElem hcl];rfl)
      have HLJS:=Lib.hid (HF5.out.sm _ (List.getElem_mem hcl))
      obtain⟨o,ho⟩:∃ o,LJ[c]=o:=⟨_,rfl⟩
      rw [ho] at r2 HUPD HLJS
      have h7:(c:Int)<(N:Int):=by have:=HSB.out;omega
      have HISB:=Lib.hid (isBefore_any n o (by have:=HNL.out;omega) (by have:=HLJS.out;omega) w5)
      obtain⟨y,hy⟩:∃ y,isB n o=y:=⟨_,rfl⟩
      rw [hy] at HISB HUPD
      clear ho hy hcl
      go_wp2_with fail
      refine HISB.out.mono ?_
      rintro e w6 ⟨rfl,hw6⟩
      obtain rfl:=hw6.symm
      cases y with
      |true=>
       have r3:w5.frozen? ⟨B,c,none⟩=false:=by
        obtain⟨_,cs5,hb5⟩:=own_blk HF5.out.own B rfl
        exact hb5.frozen c
       have HGO:Hid (innL cs (u,⟨x1,x2,x3,x4,x5⟩) (F.take (j+1)) L0=LJ.set c n):=Lib.hid (by rw [HST.out,HUPD.out,if_pos rfl])
       have HFP:=Lib.hid (HF5.out.put c (x:=n) (by have:=HNL.out;omega))
       have HKP:=Lib.hid (HK5.out.far (p:=⟨B,c,none⟩) (by show gx≠B;have:=HGX.out;omega) (.string (ofL n)))
       go_wp2
       go_roundw
       case measure=>simp [intOf]<;>omega
       case rel=>exact⟨j+1,by omega,by go_num,by rw [HGO.out];exact HFP.out,HKP.out⟩
      |false=>
       have HGO:Hid (innL cs (u,⟨x1,x2,x3,x4,x5⟩) (F.take (j+1)) L0=LJ):=Lib.hid (by rw [HST.out,HUPD.out,if_neg (by decide)])
       go_wp2
       go_roundw
       case measure=>simp [intOf]<;>omega
       case rel=>exact⟨j+1,by omega,by go_num,by rw [HGO.out];exact HF5.out,HK5.out⟩
     ·obtain rfl:j=F.length:=by omega
      have h8:¬ (F.length:Int)<(F.length:Int):=by omega
      have HFN:Hid (FW w1 w3 B N (outL cs F (D.take (i+1)) (List.replicate N [])) wz):=Lib.hid (by rw [←HINE.out];exact HFZ.out)
      go_wp2
      go_roundw
      case measure=>simp [intOf]<;>omega
      case rel=>exact⟨i+1,by omega,by go_num,HFN.out⟩
   ·obtain rfl:i=D.length:=by omega
    have h9:¬ ((D.length:Nat):Int)<(nd:Int):=by have:=HDL.out;omega
    have HEND:=Lib.hid (HRP.out (.slice (some ⟨B,0,none⟩) N N) Qw Qf wr (by
     have h1:=HFW.out.own
     rw [List.take_length] at h1
     rw [HFIR.out,HFE.out,HDE.out]
     exact h1.base B1.out.size) HFD.out HFF.out (by
     have h1:Below w1.heap.size w1 w3:=B2.out.trans (B3.out.mono HZ31.out.1)
     exact st B1.out (h1.trans (bt_below HFW.out.bt (by have:=HZ31.out;omega) HB1.out)) B1.out.size))
    go_wp2
    exact HEND.out
end Go.Proofs.YtobapaodpcheiaaGreatDoor
