/- What the row stands on, part 6. -/
import Derived.SizedLaws
import Derived.Test.YtobapaodpcheiaaGreatDoorQ5
namespace Go.Proofs.YtobapaodpcheiaaGreatDoor
open Go.RowKit
set_option linter.unusedVariables false
theorem one_of {α:Type} {l:List α} {n i:Nat} {v:α} (h:(l.drop i).take 1= [v]):l[i]? =some v:=by
 have:=congrArg (fun r:List α=>r[0]?) h
 simpa [List.getElem?_take,List.getElem?_drop] using this
theorem rd_of_row {α:Type} {k:Nat} {enc:α→List Value} {w:World} {a:Addr} {len cap:Nat} (Z:Nat→α) (hk:0<k) (henc:∀ x,(enc x).length=k) (hl:len≤cap) (hc:cap≤maxLen)
  (h:∀ i,i<len→∀(j:Nat) (v:Value),(enc (Z i))[j]? =some v→w.cell? (a.add (i*k+j))=some v):
  Rd k enc w (.slice (some a) len cap) ((List.range len).map Z):=by
 have hM:maxLen=9223372036854775807:=by decide
 have hlen:((List.range len).map Z).length=len:=by simp
 refine⟨⟨_,cap,by rw [hlen],by omega,by omega,fun hne=>?_⟩,fun n c hc=>by cases hc⟩
 have hpos:0<len:=by rw [←hlen];exact List.length_pos_iff.2 hne
 have h00:=h 0 hpos 0 _ (List.getElem?_eq_getElem (by rw [henc];exact hk))
 obtain⟨b,off,sp⟩:=a
 have hspot:sp=none:=by simpa [Addr.add] using World.cell?_spot h00
 subst hspot
 refine⟨b,off,rfl,?_,fun i u hi j v hv=>?_⟩
 ·rw [add_off] at h00
  exact World.block_lt_of_cell? w _ h00
 ·have hil:=(List.getElem?_eq_some_iff.1 hi).1
  rw [hlen] at hil
  simp [List.getElem?_range hil] at hi
  subst hi
  have q:=h i hil j v hv
  rw [add_off,←Nat.add_assoc] at q
  exact q
section
variable {H:Type} {enc:TypeId × Value→H} {P:Program} {w:World} {base:Nat} {spare:Nat→Bool} {held:Bool}
theorem spans_of {t e:TypeId} {f0 f1:Field} {fuel:Nat} {cs:List Value} {x:DataW H × List MemPlace}
  (ht:P.underlying t=some (.slice e)) (he:P.underlying e=some (.struct #[f0,f1])) (hce:P.cellsOf e=2) (o0:f0.offset=0) (o1:f1.offset=1)
  (c0:P.cellsOf f0.type=1) (c1:P.cellsOf f1.type=1) (k0:P.underlying f0.type=some (.int .i64)) (k1:P.underlying f1.type=some (.int .i64))
  (h:DataW.trod enc P w base spare held fuel t cs=some x):∃ a len cap sp,cs= [.slice a len cap]∧Rd 2 encP w (.slice a len cap) sp:=by
 rcases Go.Deep.open_slice ht h with⟨h0,_⟩|⟨a,len,cap,m,n,D,Pl,hcs,hb,hl,hm,hmm,_,hx⟩
 ·exact⟨none,0,0,[],h0,rd_nil w⟩
 have hlm:len≤m:=by rw [hmm];split<;>omega
 have each:∀ i,i<m→∃ z:Int × Int,w.cell? (a.add (i*2))=some (.int .i64 z.1)∧w.cell? (a.add (i*2+1))=some (.int .i64 z.2):=fun i hi=>by
  obtain⟨cs',hc,htr⟩:=hx i hi
  rw [hce] at hc
  obtain⟨_,hcl,hat⟩:=World.cells?_some hc
  obtain⟨y0,y1,n2,_,_,h0,h1⟩:=Go.ChangeShapes.trod_struct2 he htr
  rw [o0,c0] at h0
  rw [o1,c1] at h1
  obtain⟨z0,e0,_,w0⟩:=DataW.trod_int k0 h0
  obtain⟨z1,e1,_,w1⟩:=DataW.trod_int k1 h1
  have g0:=hat 0 (by omega)
  have g1:=hat 1 (by omega)
  rw [Go.Deep.add_add,one_of (n:=0) e0] at g0
  rw [Go.Deep.add_add,one_of (n:=0) e1] at g1
  exact⟨(z0,z1),g0,g1⟩
 obtain⟨Z,hZ⟩:=Go.Deep.choose_lt each
 refine⟨some a,len,cap,(List.range len).map Z,hcs,rd_of_row Z (by omega) (fun x=>rfl) hl hm fun i hi j v hv=>?_⟩
 obtain⟨q0,q1⟩:=hZ i (by omega)
 have hj:j<2:=(List.getElem?_eq_some_iff.1 hv).1
 obtain rfl|rfl:j=0∨j=1:=by omega
 ·simp [encP] at hv
  subst hv
  exact q0
 ·simp [encP] at hv
  subst hv
  exact q1
theorem trod_struct4 {t:TypeId} {f0 f1 f2 f3:Field} {fuel:Nat} {cs:List Value} {x:DataW H × List MemPlace} (ht:P.underlying t=some (.struct #[f0,f1,f2,f3])) (h:DataW.trod enc P w base spare held fuel t cs=some x):
  ∃ y0 y1 y2 y3 n,DataW.trod enc P w base spare held n f0.type ((cs.drop f0.offset).take (P.cellsOf f0.type))=some y0∧
   DataW.trod enc P w base spare held n f1.type ((cs.drop f1.offset).take (P.cellsOf f1.type))=some y1∧DataW.trod enc P w base spare held n f2.type ((cs.drop f2.offset).take (P.cellsOf f2.type))=some y2∧
   DataW.trod enc P w base spare held n f3.type ((cs.drop f3.offset).take (P.cellsOf f3.type))=some y3:=by
 obtain⟨xs,n,_,rfl,hl,hlen,hf⟩:=DataW.trod_struct ht h
 match xs,hlen with
 |[y0,y1,y2,y3],_=>exact⟨y0,y1,y2,y3,n,by simpa using hf 0 f0 rfl,by simpa using hf 1 f1 rfl,by simpa using hf 2 f2 rfl,by simpa using hf 3 f3 rfl⟩
structure RelTypes (P:Program) (t tS eS:TypeId) (f0 f1 f2 f3 g0 g1:Field):Prop where
 t_:P.underlying t=some (.struct #[f0,f1,f2,f3])
 cells:P.cellsOf t=4
 o0:f0.offset=0
 o1:f1.offset=1
 o2:f2.offset=2
 o3:f3.offset=3
 c0:P.cellsOf f0.type=1
 c1:P.cellsOf f1.type=1
 c2:P.cellsOf f2.type=1
 c3:P.cellsOf f3.type=1
 k0:P.underlying f0.type=some (.int .i64)
 k1:P.underlying f1.type=some (.int .i64)
 k2:P.underlying f2.type=some .bool
 k3:P.underlying f3.type=some (.slice eS)
 s_:P.underlying eS=some (.struct #[g0,g1])
 sc:P.cellsOf eS=2
 p0:g0.offset=0
 p1:g1.offset=1
 d0:P.cellsOf g0.type=1
 d1:P.cellsOf g1.type=1
 j0:P.underlying g0.type=some (.int .i64)
 j1:P.underlying g1.type=some (.int .i64)
variable {t tS eS:TypeId} {f0 f1 f2 f3 g0 g1:Field}
theorem rel_of {fuel:Nat} {cs:List Value} {x:DataW H × List MemPlace} (T:RelTypes P t tS eS f0 f1 f2 f3 g0 g1) (h:DataW.trod enc P w base spare held fuel t cs=some x):
  ∃ z:RawR × Rel,RdRel w z.1 z.2∧∀(j:Nat) (v:Value),(encR z.1)[j]? =some v→cs[j]? =some v:=by
 obtain⟨y0,y1,y2,y3,n,h0,h1,h2,h3⟩:=trod_struct4 T.t_ h
 rw [T.o0,T.c0] at h0
 rw [T.o1,T.c1] at h1
 rw [T.o2,T.c2] at h2
 rw [T.o3,T.c3] at h3
 obtain⟨z0,e0,_,_⟩:=DataW.trod_int T.k0 h0
 obtain⟨z1,e1,_,_⟩:=DataW.trod_int T.k1 h1
 obtain⟨z2,e2,_⟩:=DataW.trod_bool T.k2 h2
 obtain⟨a,len,cap,sp,e3,hsp⟩:=spans_of T.k3 T.s_ T.sc T.p0 T.p1 T.d0 T.d1 T.j0 T.j1 h3
 refine⟨(⟨z0,z1,z2,a,len,cap⟩,⟨z0,z1,z2,sp⟩),⟨rfl,rfl,rfl,hsp⟩,fun j v hv=>?_⟩
 have hj:j<4:=(List.getElem?_eq_some_iff.1 hv).1
 obtain rfl|rfl|rfl|rfl:j=0∨j=1∨j=2∨j=3:=by omega
 ·simp [encR] at hv
  subst hv
  exact one_of (n:=0) e0
 ·simp [encR] at hv
  subst hv
  exact one_of (n:=0) e1
 ·simp [encR] at hv
  subst hv
  exact one_of (n:=0) e2
 ·simp [encR] at hv
  subst hv
  exact one_of (n:=0) e3
instance:Inhabited RawR:=⟨⟨0,0,false,none,0,0⟩⟩
instance:Inhabited Rel:=⟨⟨0,0,false,[]⟩⟩
instance:Inhabited RawS:=⟨⟨none,0,0⟩⟩
theorem rels_of {tL:TypeId} {fuel:Nat} {cs:List Value} {x:DataW H × List MemPlace} (T:RelTypes P t tS eS f0 f1 f2 f3 g0 g1) (hL:P.underlying tL=some (.slice t)) (hb1:0<P.bytesOf t) (h:DataW.trod enc P w base spare held fuel tL cs=some x)
  (hw:∀ k∈x.1.weights P tL,k≤reachBytes):∃(z:RawS) (l:List Rel),cs= [.slice z.a z.n z.c]∧RdRels w (.slice z.a z.n z.c) l∧l.length≤140737488355328:=by
 have hM:maxLen=9223372036854775807:=by decide
 rcases Go.Deep.open_slice hL h with⟨h0,_⟩|⟨a,len,cap,m,n,D,Pl,hcs,hb,hl,hm,hmm,hxe,hx⟩
 ·exact⟨⟨none,0,0⟩,[],h0,rdRels_nil w,by simp⟩
 have hlm:len≤m:=by rw [hmm];split<;>omega
 have each:∀ i,i<m→∃ z:RawR × Rel,RdRel w z.1 z.2∧∀(j:Nat) (v:Value),(encR z.1)[j]? =some v→w.cell? (a.add (i*4+j))=some v:=fun i hi=>by
  obtain⟨cs',hc,htr⟩:=hx i hi
  rw [T.cells] at hc
  obtain⟨_,hcl,hat⟩:=World.cells?_some hc
  obtain⟨z,hz,hzc⟩:=rel_of T htr
  refine⟨z,hz,fun j v hv=>?_⟩
  have hj:j<4:=(List.getElem?_eq_some_iff.1 hv).1
  have g:=hat j (by omega)
  rw [Go.Deep.add_add,hzc j v hv] at g
  exact g
 obtain⟨Z,hZ⟩:=Go.Deep.choose_lt each
 have hlen:len≤140737488355328:=by
  have h1:=hw ((len+(m - len))*P.bytesOf t) (by rw [hxe];simp [DataW.weights,hL])
  have h2:len*1≤(len+(m - len))*P.bytesOf t:=Nat.mul_le_mul (by omega) hb1
  have h3:reachBytes≤140737488355328:=by decide
  omega
 refine⟨⟨some a,len,cap⟩,(List.range len).map fun i=>(Z i).2,hcs,⟨(List.range len).map fun i=>(Z i).1,rd_of_row (fun i=>(Z i).1) (by omega) encR_len hl hm fun i (hi:i<len) j v hv=>(hZ i (by omega)).2 j v hv,by simp,fun i h1 h2=>?_⟩,by simp;exact hlen⟩
 have hi:i<len:=by simpa using h1
 rw [List.getElem_map,List.getElem_map,List.getElem_range]
 exact(hZ i (by omega)).1
theorem weights_all {e:TypeId} {d:DataW H}:∀(l:List (DataW H)),d∈l→∀ k∈d.weights P e,k∈DataW.weightsAll P e l
 |[],h,_,_=>by cases h
 |x::l,h,k,hk=>by
  simp only [DataW.weightsAll,List.mem_append]
  rcases List.mem_cons.1 h with rfl|h
  ·exact .inl hk
  ·exact .inr (weights_all l h k hk)
theorem cond_of {tC tL:TypeId} {fuel:Nat} {cs:List Value} {x:DataW H × List MemPlace} (T:RelTypes P t tS eS f0 f1 f2 f3 g0 g1) (hL:P.underlying tL=some (.slice t)) (hC:P.underlying tC=some (.slice tL)) (hcL:P.cellsOf tL=1) (hb1:0<P.bytesOf t) (h:DataW.trod enc P w base spare held fuel tC cs=some x)
  (hw:∀ k∈x.1.weights P tC,k≤reachBytes):∃(z:RawS) (c:Cnd),cs= [.slice z.a z.n z.c]∧RdC w (.slice z.a z.n z.c) c∧∀ l∈c,l.length≤140737488355328:=by
 rcases Go.Deep.open_slice hC h with⟨h0,_⟩|⟨a,len,cap,m,n,D,Pl,hcs,hb,hl,hm,hmm,hxe,hx⟩
 ·exact⟨⟨none,0,0⟩,[],h0,rdC_nil w,fun l h=>by cases h⟩
 have hlm:len≤m:=by rw [hmm];split<;>omega
 have each:∀ i,i<len→∃ z:RawS × List Rel,w.cell? (a.add i)=some (.slice z.1.a z.1.n z.1.c)∧RdRels w (.slice z.1.a z.1.n z.1.c) z.2∧z.2.length≤140737488355328:=fun i hi=>by
  obtain⟨cs',hc,htr⟩:=hx i (by omega)
  rw [hcL,Nat.mul_one] at hc
  obtain⟨_,hcl,hat⟩:=World.cells?_some hc
  obtain⟨z,l,he,hz,hzl⟩:=rels_of T hL hb1 htr (fun k hk=>hw k (by
   rw [hxe]
   have h1:k∈DataW.weightsAll P tL ((List.range len).map D):=weights_all _ (List.mem_map.2 ⟨i,List.mem_range.2 hi,rfl⟩) k hk
   simp only [DataW.weights,hC,List.mem_cons,List.mem_append]
   exact .inr (.inl h1)))
  have g:=hat 0 (by omega)
  rw [Go.Deep.add_add,Nat.add_zero,he] at g
  exact⟨(z,l),g,hz,hzl⟩
 obtain⟨Z,hZ⟩:=Go.Deep.choose_lt each
 refine⟨⟨some a,len,cap⟩,(List.range len).map fun i=>(Z i).2,hcs,⟨(List.range len).map fun i=>(Z i).1,rd_of_row (fun i=>(Z i).1) (by omega) encS_len hl hm fun i hi j v hv=>?_,by simp,fun i h1 h2=>?_⟩,fun l hl=>?_⟩
 ·have hj:j<1:=(List.getElem?_eq_some_iff.1 hv).1
  obtain rfl:j=0:=by omega
  simp [encS] at hv
  subst hv
  rw [Nat.mul_one,Nat.add_zero]
  exact(hZ i hi).1
 ·have hi:i<len:=by simpa using h1
  simp only [List.getElem_map,List.getElem_range]
  exact(hZ i hi).2.1
 ·obtain⟨i,hi,rfl⟩:=List.mem_map.1 hl
  exact(hZ i (List.mem_range.1 hi)).2.2
end
theorem relTypes:∃ f0 f1 f2 f3 g0 g1,RelTypes Tryz.prog 52 50 84 f0 f1 f2 f3 g0 g1:=⟨_,_,_,_,_,_,⟨Tryz.underlying52,by kernel_rfl,rfl,rfl,rfl,rfl,by kernel_rfl,by kernel_rfl,by kernel_rfl,by kernel_rfl,Tryz.underlying3,Tryz.underlying3,Tryz.underlying4,Tryz.underlying50,Tryz.underlying84,by kernel_rfl,rfl,rfl,by kernel_rfl,by kernel_rfl,Tryz.underlying3,Tryz.underlying3⟩⟩
theorem condIn_of {H:Type} {enc:TypeId × Value→H} {w:World} {base:Nat} {spare:Nat→Bool} {held:Bool} {fuel:Nat} {cs:List Value} {x:DataW H × List MemPlace} (h:DataW.trod enc Tryz.prog w base spare held fuel 23 cs=some x)
  (hw:∀ k∈x.1.weights Tryz.prog 23,k≤reachBytes):∃(z:RawS) (c:Cnd),cs= [.slice z.a z.n z.c]∧RdC w (.slice z.a z.n z.c) c∧∀ l∈c,l.length≤140737488355328:=
 let ⟨_,_,_,_,_,_,T⟩:=relTypes
 cond_of T Tryz.underlying48 Tryz.underlying23 (by kernel_rfl) (of_decide_eq_true (by kernel_rfl)) h hw
structure Aut where
 n:Nat
 s0:Nat
 d:Nat→Nat→Nat
 f:Nat→Bool
structure Aut.Ok (A:Aut):Prop where
 st:A.s0<A.n
 go:∀ s c,s<A.n→c<11→A.d s c<A.n
def Aut.run (A:Aut) (s:Nat) (w:List Nat):Nat:=w.foldl A.d s
def Aut.acc (A:Aut) (s:Nat) (w:List Nat):Bool:=A.f (A.run s w)
def word (w:List Nat):Prop:=∀ c∈w,c<11
theorem word_nil:word []:=fun c h=>by cases h
theorem word_cons {c:Nat} {w:List Nat}:word (c::w)↔c<11∧word w:=by
 unfold word
 simp
theorem Aut.run_app (A:Aut) (s:Nat) (v w:List Nat):A.run s (v++w)=A.run (A.run s v) w:=List.foldl_append ..
theorem Aut.Ok.run_lt {A:Aut} (h:A.Ok):∀(w:List Nat) (s:Nat),s<A.n→word w→A.run s w<A.n
 |[],s,hs,_=>hs
 |c::w,s,hs,hw=>by
  rw [word_cons] at hw
  exact h.run_lt w _ (h.go s c hs hw.1) hw.2
def Eqv (A B:Aut) (s t:Nat):Prop:=∀ w,word w→A.acc s w=B.acc t w
theorem Eqv.refl (A:Aut) (s:Nat):Eqv A A s s:=fun _ _=>rfl
theorem Eqv.symm {A B:Aut} {s t:Nat} (h:Eqv A B s t):Eqv B A t s:=fun w hw=>(h w hw).symm
theorem Eqv.trans {A B C:Aut} {s t u:Nat} (h:Eqv A B s t) (k:Eqv B C t u):Eqv A C s u:=fun w hw=>(h w hw).trans (k w hw)
theorem Eqv.f {A B:Aut} {s t:Nat} (h:Eqv A B s t):A.f s=B.f t:=h [] word_nil
theorem Eqv.step {A B:Aut} {s t:Nat} (h:Eqv A B s t) {c:Nat} (hc:c<11):Eqv A B (A.d s c) (B.d t c):=fun w hw=>h (c::w) (word_cons.2 ⟨hc,hw⟩)
theorem eqv_bisim {A B:Aut} (R:Nat→Nat→Prop) (hf:∀ s t,R s t→A.f s=B.f t) (hd:∀ s t c,R s t→c<11→R (A.d s c) (B.d t c)):∀ s t,R s t→Eqv A B s t:=by
 intro s t h w
 induction w generalizing s t with
 |nil=>intro _;exact hf s t h
 |cons c w ih=>
  intro hw
  rw [word_cons] at hw
  exact ih _ _ (hd s t c h hw.1) hw.2
def idx (l:List Nat) (x:Nat):Nat:=l.findIdx (· ==x)
theorem idx_le (l:List Nat) (x:Nat):idx l x≤l.length:=List.findIdx_le_length
theorem idx_lt {l:List Nat} {x:Nat}:idx l x<l.length↔x∈l:=by
 unfold idx
 rw [List.findIdx_lt_length]
 simp
theorem idx_get {l:List Nat} {x:Nat} (h:idx l x<l.length):l[idx l x]=x:=by
 have:=List.findIdx_getElem (xs:=l) (p:=(· ==x)) (w:=h)
 exact beq_iff_eq.1 this
theorem idx_not {l:List Nat} {x:Nat} (h:x ∉l):idx l x=l.length:=by
 have h1:=idx_le l x
 have h2:=mt idx_lt.1 h
 omega
theorem idx_first {l:List Nat} {x i:Nat} (h:i<l.length) (h1:l[i]=x) (h2:∀(j:Nat) (hj:j<l.length),j<i→l[j]≠x):idx l x=i:=by
 have hm:idx l x<l.length:=idx_lt.2 (by rw [←h1];exact List.getElem_mem h)
 rcases Nat.lt_trichotomy (idx l x) i with h3|h3|h3
 ·exact absurd (idx_get hm) (h2 _ hm h3)
 ·exact h3
 ·have:=List.not_of_lt_findIdx (xs:=l) (p:=(· ==x)) (i:=i) h3
  simp [h1] at this
def add (cl:Nat→Nat) (fd:List Nat) (t:Nat):List Nat:=if idx (fd.map cl) (cl t)<fd.length then fd else fd++ [t]
def rowStp (A:Aut) (cl:Nat→Nat) (s c:Nat) (p:List Nat × List Nat):List Nat × List Nat:=(p.1++ [idx (p.2.map cl) (cl (A.d s c))],add cl p.2 (A.d s c))
def rowK (A:Aut) (cl:Nat→Nat) (fd:List Nat) (s:Nat):Nat→List Nat × List Nat
 |0=>([],fd)
 |c+1=>rowStp A cl s c (rowK A cl fd s c)
theorem rowK_succ (A:Aut) (cl:Nat→Nat) (fd:List Nat) (s c:Nat):rowK A cl fd s (c+1)=rowStp A cl s c (rowK A cl fd s c):=rfl
def fdK (A:Aut) (cl:Nat→Nat):Nat→List Nat
 |0=>[A.s0]
 |i+1=>(rowK A cl (fdK A cl i) ((fdK A cl i).getD i 0) 11).2
theorem fdK_zero (A:Aut) (cl:Nat→Nat):fdK A cl 0= [A.s0]:=by rw [fdK]
theorem fdK_succ (A:Aut) (cl:Nat→Nat) (i:Nat):fdK A cl (i+1)=(rowK A cl (fdK A cl i) ((fdK A cl i).getD i 0) 11).2:=by rw [fdK]
def rowsK (A:Aut) (cl:Nat→Nat) (i:Nat):List Nat:=(rowK A cl (fdK A cl i) ((fdK A cl i).getD i 0) 11).1
def Stop (A:Aut) (cl:Nat→Nat) (m:Nat):Prop:=(∀ j,j<m→j<(fdK A cl j).length)∧(fdK A cl m).length=m
def outN (A:Aut) (cl:Nat→Nat) (m:Nat):List (List Nat):=(List.range m).map (rowsK A cl)
def outF (A:Aut) (cl:Nat→Nat) (m:Nat):List Bool:=(List.range m).map fun i=>A.f ((fdK A cl m).getD i 0)
theorem add_preA (cl:Nat→Nat) (fd:List Nat) (t:Nat):fd<+:add cl fd t:=by
 unfold add
 split
 ·exact List.prefix_refl _
 ·exact List.prefix_append _ _
theorem rowK_pre (A:Aut) (cl:Nat→Nat) (fd:List Nat) (s:Nat):∀ c,fd<+:(rowK A cl fd s c).2
 |0=>List.prefix_refl _
 |c+1=>(rowK_pre A cl fd s c).trans (add_preA cl _ _)
theorem fdK_pre (A:Aut) (cl:Nat→Nat) (i:Nat):fdK A cl i<+:fdK A cl (i+1):=by
 rw [fdK_succ]
 exact rowK_pre A cl _ _ 11
theorem fdK_pre_le (A:Aut) (cl:Nat→Nat) {i j:Nat} (h:i≤j):fdK A cl i<+:fdK A cl j:=by
 induction h with
 |refl=>exact List.prefix_refl _
 |step _ ih=>exact ih.trans (fdK_pre A cl _)
theorem rowK_len (A:Aut) (cl:Nat→Nat) (fd:List Nat) (s:Nat):∀ c,(rowK A cl fd s c).1.length=c
 |0=>rfl
 |c+1=>by
  show((rowK A cl fd s c).1++_).length=_
  rw [List.length_append,rowK_len A cl fd s c]
  rfl
theorem pre_getD {a b:List Nat} (h:a<+:b) {i:Nat} (hi:i<a.length):b.getD i 0=a.getD i 0:=by
 obtain⟨c,rfl⟩:=h
 rw [List.getD_eq_getElem?_getD,List.getD_eq_getElem?_getD,List.getElem?_append_left hi]
structure FdOk (A:Aut) (cl:Nat→Nat) (fd:List Nat):Prop where
 lt:∀ s∈fd,s<A.n
 nd:(fd.map cl).Nodup
theorem nodup_snoc {l:List Nat} {x:Nat} (h:l.Nodup) (hx:x ∉l):(l++ [x]).Nodup:=by
 rw [List.nodup_append]
 exact⟨h,by simp,fun a ha b hb e=>hx (by simp at hb;subst hb;subst e;exact ha)⟩
theorem FdOk.add {A:Aut} {cl:Nat→Nat} {fd:List Nat} (h:FdOk A cl fd) {t:Nat} (ht:t<A.n):FdOk A cl (add cl fd t):=by
 unfold Go.Proofs.YtobapaodpcheiaaGreatDoor.add
 split
 ·exact h
 ·rename_i hn
  refine⟨fun s hs=>?_,?_⟩
  ·rcases List.mem_append.1 hs with hs|hs
   ·exact h.lt s hs
   ·simp at hs
    subst hs
    exact ht
  ·rw [List.map_append,List.map_singleton]
   refine nodup_snoc h.nd (fun hm=>hn ?_)
   have:=idx_lt.2 hm
   rwa [List.length_map] at this
theorem FdOk.row {A:Aut} {cl:Nat→Nat} (hA:A.Ok) {fd:List Nat} (h:FdOk A cl fd) {s:Nat} (hs:s<A.n):∀ c,c≤11→FdOk A cl (rowK A cl fd s c).2
 |0,_=>h
 |c+1,hc=>(FdOk.row hA h hs c (by omega)).add (hA.go s c hs (by omega))
theorem getD_mem {l:List Nat} {i:Nat} (h:i<l.length):l.getD i 0∈l:=by
 rw [List.getD_eq_getElem?_getD,List.getElem?_eq_getElem h]
 exact List.getElem_mem h
theorem getD_getA {l:List Nat} {i:Nat} (h:i<l.length):l.getD i 0=l[i]:=by
 rw [List.getD_eq_getElem?_getD,List.getElem?_eq_getElem h]
 rfl
theorem fdK_ok {A:Aut} (cl:Nat→Nat) (hA:A.Ok):∀ i,(∀ j,j<i→j<(fdK A cl j).length)→FdOk A cl (fdK A cl i)
 |0,_=>⟨fun s hs=>by simp [fdK] at hs;subst hs;exact hA.st,by simp [fdK]⟩
 |i+1,h=>by
  have h1:=fdK_ok cl hA i (fun j hj=>h j (by omega))
  rw [fdK_succ]
  exact FdOk.row hA h1 (h1.lt _ (getD_mem (h i (by omega)))) 11 (Nat.le_refl _)
theorem nodup_len:∀ {a b:List Nat},a.Nodup→(∀ x∈a,x∈b)→a.length≤b.length
 |[],_,_,_=>Nat.zero_le _
 |x::a,b,h,hs=>by
  rw [List.nodup_cons] at h
  have hx:=hs x (by simp)
  have:=nodup_len (b:=b.erase x) h.2 (fun y hy=>(List.mem_erase_of_ne (by intro e;subst e;exact h.1 hy)).2 (hs y (by simp [hy])))
  rw [List.length_erase_of_mem hx] at this
  have h1:=List.length_pos_of_mem hx
  rw [List.length_cons]
  omega
theorem nodup_of_map {f:Nat→Nat}:∀ {l:List Nat},(l.map f).Nodup→l.Nodup
 |[],_=>List.nodup_nil
 |x::l,h=>by
  rw [List.map_cons,List.nodup_cons] at h
  rw [List.nodup_cons]
  exact⟨fun hx=>h.1 (List.mem_map.2 ⟨x,hx,rfl⟩),nodup_of_map h.2⟩
theorem FdOk.len {A:Aut} {cl:Nat→Nat} {fd:List Nat} (h:FdOk A cl fd):fd.length≤A.n:=by
 have:=nodup_len (b:=List.range A.n) (nodup_of_map h.nd) (fun x hx=>List.mem_range.2 (h.lt x hx))
 rwa [List.length_range] at this
theorem nodup_get {l:List Nat} (h:l.Nodup) {i j:Nat} (hi:i<l.length) (hj:j<l.length) (e:l[i]=l[j]):i=j:=by
 have hp:=List.pairwise_iff_getElem.1 h
 rcases Nat.lt_trichotomy i j with k|k|k
 ·exact absurd e (hp i j hi hj k)
 ·exact k
 ·exact absurd e.symm (hp j i hj hi k)
theorem rowK_entry {A:Aut} {cl:Nat→Nat} {fd:List Nat} {s:Nat}:∀ {c k:Nat},k<c→(rowK A cl fd s c).1.getD k 0<(rowK A cl fd s c).2.length∧cl ((rowK A cl fd s c).2.getD ((rowK A cl fd s c).1.getD k 0) 0)=cl (A.d s k)
 |0,k,h=>by omega
 |c+1,k,h=>by
  have hlen:=rowK_len A cl fd s c
  have e0:(rowK A cl fd s (c+1)).1=(rowK A cl fd s c).1++ [idx ((rowK A cl fd s c).2.map cl) (cl (A.d s c))]:=rfl
  have f0:(rowK A cl fd s (c+1)).2=add cl (rowK A cl fd s c).2 (A.d s c):=rfl
  rw [e0,f0]
  have hpre:=add_preA cl (rowK A cl fd s c).2 (A.d s c)
  have h3:=hpre.length_le
  by_cases hk:k<c
  ·obtain⟨h1,h2⟩:=rowK_entry (A:=A) (cl:=cl) (fd:=fd) (s:=s) hk
   have e1:((rowK A cl fd s c).1++ [idx ((rowK A cl fd s c).2.map cl) (cl (A.d s c))]).getD k 0=(rowK A cl fd s c).1.getD k 0:=by
    rw [List.getD_eq_getElem?_getD,List.getElem?_append_left (by omega),←List.getD_eq_getElem?_getD]
   rw [e1,pre_getD hpre h1]
   exact⟨by omega,h2⟩
  ·obtain rfl:k=c:=by omega
   have e1:((rowK A cl fd s k).1++ [idx ((rowK A cl fd s k).2.map cl) (cl (A.d s k))]).getD k 0=idx ((rowK A cl fd s k).2.map cl) (cl (A.d s k)):=by
    rw [List.getD_eq_getElem?_getD,List.getElem?_append_right (by omega),hlen,Nat.sub_self]
    rfl
   rw [e1]
   generalize (rowK A cl fd s k).2=F
   by_cases hi:idx (F.map cl) (cl (A.d s k))<F.length
   ·have e2:add cl F (A.d s k)=F:=by unfold add;rw [if_pos hi]
    rw [e2,getD_getA hi]
    refine⟨hi,?_⟩
    have:=idx_get (l:=F.map cl) (x:=cl (A.d s k)) (by rw [List.length_map];exact hi)
    rwa [List.getElem_map] at this
   ·have e2:add cl F (A.d s k)=F++ [A.d s k]:=by unfold add;rw [if_neg hi]
    have e3:idx (F.map cl) (cl (A.d s k))=F.length:=by
     have:=idx_le (F.map cl) (cl (A.d s k))
     rw [List.length_map] at this
     omega
    rw [e2,e3]
    exact⟨by simp,by simp [List.getD_eq_getElem?_getD]⟩
def mkA (nx:List (List Nat)) (ac:List Bool):Aut:=⟨nx.length,0,fun s c=>(nx.getD s []).getD c 0,fun s=>ac.getD s false⟩
def minA (A:Aut) (cl:Nat→Nat) (m:Nat):Aut:=mkA (outN A cl m) (outF A cl m)
theorem minA_n (A:Aut) (cl:Nat→Nat) (m:Nat):(minA A cl m).n=m:=by
 show(outN A cl m).length=m
 unfold outN
 simp
theorem outN_get (A:Aut) (cl:Nat→Nat) {m i:Nat} (h:i<m):(outN A cl m).getD i []=rowsK A cl i:=by
 unfold outN
 rw [List.getD_eq_getElem?_getD,List.getElem?_map,List.getElem?_range h]
 rfl
theorem minA_d (A:Aut) (cl:Nat→Nat) {m i:Nat} (h:i<m) (c:Nat):(minA A cl m).d i c=(rowsK A cl i).getD c 0:=by
 show((outN A cl m).getD i []).getD c 0=_
 rw [outN_get A cl h]
theorem minA_f (A:Aut) (cl:Nat→Nat) {m i:Nat} (h:i<m):(minA A cl m).f i=A.f ((fdK A cl m).getD i 0):=by
 show(outF A cl m).getD i false=_
 unfold outF
 rw [List.getD_eq_getElem?_getD,List.getElem?_map,List.getElem?_range h]
 rfl
def Snd (A:Aut) (cl:Nat→Nat):Prop:=∀ s t,s<A.n→t<A.n→cl s=cl t→Eqv A A s t
def Cls (A:Aut) (cl:Nat→Nat):Prop:=∀ s t,s<A.n→t<A.n→(cl s=cl t↔Eqv A A s t)
theorem Cls.snd {A:Aut} {cl:Nat→Nat} (h:Cls A cl):Snd A cl:=fun s t hs ht e=>(h s t hs ht).1 e
section
variable {A:Aut} {cl:Nat→Nat} {m:Nat}
theorem Stop.ok (h:Stop A cl m) (hA:A.Ok):FdOk A cl (fdK A cl m):=fdK_ok cl hA m h.1
theorem Stop.le (h:Stop A cl m) (hA:A.Ok):m≤A.n:=by
 have:=(h.ok hA).len
 rw [h.2] at this
 exact this
theorem Stop.pos (h:Stop A cl m):0<m:=by
 have h1:=(fdK_pre_le A cl (Nat.zero_le m)).length_le
 rw [h.2] at h1
 exact h1
theorem Stop.step (h:Stop A cl m) {i c:Nat} (hi:i<m) (hc:c<11):(minA A cl m).d i c<m∧cl ((fdK A cl m).getD ((minA A cl m).d i c) 0)=cl (A.d ((fdK A cl m).getD i 0) c):=by
 rw [minA_d A cl hi]
 obtain⟨h1,h2⟩:=rowK_entry (A:=A) (cl:=cl) (fd:=fdK A cl i) (s:=(fdK A cl i).getD i 0) hc
 have hp:fdK A cl (i+1)<+:fdK A cl m:=fdK_pre_le A cl hi
 have hp0:fdK A cl i<+:fdK A cl m:=fdK_pre_le A cl (Nat.le_of_lt hi)
 rw [←fdK_succ] at h1 h2
 have er:rowsK A cl i=(rowK A cl (fdK A cl i) ((fdK A cl i).getD i 0) 11).1:=by unfold rowsK;with_reducible rfl
 rw [←er] at h1 h2
 have h3:=h1
 have h4:=hp.length_le
 rw [h.2] at h4
 refine⟨by omega,?_⟩
 rw [pre_getD hp h3,pre_getD hp0 (h.1 i hi)]
 exact h2
theorem Stop.minOk (h:Stop A cl m):(minA A cl m).Ok:=
 ⟨by rw [minA_n];exact h.pos,fun s c hs hc=>by rw [minA_n] at hs ⊢;exact(h.step hs hc).1⟩
theorem Stop.eqv (h:Stop A cl m) (hA:A.Ok) (hS:Snd A cl) {i:Nat} (hi:i<m):Eqv (minA A cl m) A i ((fdK A cl m).getD i 0):=by
 have hok:=h.ok hA
 have hl:∀ j,j<m→(fdK A cl m).getD j 0<A.n:=fun j hj=>hok.lt _ (getD_mem (by rw [h.2];exact hj))
 refine eqv_bisim (fun j s=>j<m∧s<A.n∧Eqv A A ((fdK A cl m).getD j 0) s) (fun j s hj=>?_) (fun j s c hj hc=>?_) i _ ⟨hi,hl i hi,Eqv.refl _ _⟩
 ·rw [minA_f A cl hj.1]
  exact hj.2.2.f
 ·obtain⟨h1,h2⟩:=h.step hj.1 hc
  exact⟨h1,hA.go s c hj.2.1 hc,(hS _ _ (hl _ h1) (hA.go _ c (hl j hj.1) hc) h2).trans (hj.2.2.step hc)⟩
theorem fdK_start (A:Aut) (cl:Nat→Nat) (m:Nat):(fdK A cl m).getD 0 0=A.s0:=by
 rw [pre_getD (fdK_pre_le A cl (Nat.zero_le m)) (by simp [fdK])]
 rfl
theorem Stop.start (h:Stop A cl m) (hA:A.Ok) (hS:Snd A cl):Eqv (minA A cl m) A 0 A.s0:=by
 have:=h.eqv hA hS h.pos
 rw [fdK_start] at this
 exact this
theorem Stop.apart (h:Stop A cl m) (hA:A.Ok) (hC:Cls A cl) {i j:Nat} (hi:i<m) (hj:j<m) (he:Eqv (minA A cl m) (minA A cl m) i j):i=j:=by
 have hok:=h.ok hA
 have h1:=((h.eqv hA hC.snd hi).symm.trans he).trans (h.eqv hA hC.snd hj)
 have hi':i<(fdK A cl m).length:=by rw [h.2];exact hi
 have hj':j<(fdK A cl m).length:=by rw [h.2];exact hj
 have h2:=(hC _ _ (hok.lt _ (getD_mem hi')) (hok.lt _ (getD_mem hj'))).2 h1
 rw [getD_getA hi',getD_getA hj'] at h2
 exact nodup_get hok.nd (by rw [List.length_map];exact hi') (by rw [List.length_map];exact hj') (by rw [List.getElem_map,List.getElem_map];exact h2)
end
section
variable {A B:Aut} {ca cb:Nat→Nat}
def Par (A B:Aut):List Nat→List Nat→Prop
 |[],[]=>True
 |a::l,b::k=>(Eqv A B a b∧a<A.n∧b<B.n)∧Par A B l k
 |_,_=>False
theorem Par.len:∀ {a b:List Nat},Par A B a b→a.length=b.length
 |[],[],_=>rfl
 |_::_,_::_,h=>by rw [List.length_cons,List.length_cons,Par.len h.2]
 |[],_::_,h=>by cases h
 |_::_,[],h=>by cases h
theorem Par.snoc:∀ {a b:List Nat},Par A B a b→∀ {x y:Nat},Eqv A B x y∧x<A.n∧y<B.n→Par A B (a++ [x]) (b++ [y])
 |[],[],_,_,_,hx=>⟨hx,trivial⟩
 |_::_,_::_,h,_,_,hx=>⟨h.1,Par.snoc h.2 hx⟩
 |[],_::_,h,_,_,_=>by cases h
 |_::_,[],h,_,_,_=>by cases h
theorem Par.get:∀ {a b:List Nat},Par A B a b→∀ {i:Nat},i<a.length→Eqv A B (a.getD i 0) (b.getD i 0)∧a.getD i 0<A.n∧b.getD i 0<B.n
 |[],[],_,i,hi=>by simp at hi
 |_::_,_::_,h,0,_=>h.1
 |_::_,_::_,h,i+1,hi=>Par.get h.2 (i:=i) (by simpa using hi)
 |[],_::_,h,_,_=>by cases h
 |_::_,[],h,_,_=>by cases h
theorem idx_par (ha:Cls A ca) (hb:Cls B cb):∀ {a b:List Nat},Par A B a b→∀ {s t:Nat},Eqv A B s t→s<A.n→t<B.n→idx (a.map ca) (ca s)=idx (b.map cb) (cb t)
 |[],[],_,_,_,_,_,_=>rfl
 |x::a,y::b,h,s,t,he,hs,ht=>by
  have ih:=idx_par ha hb h.2 he hs ht
  unfold idx at ih ⊢
  rw [List.map_cons,List.map_cons,List.findIdx_cons,List.findIdx_cons,ih]
  have e:(ca x==ca s)=(cb y==cb t):=by
   rw [Bool.eq_iff_iff,beq_iff_eq,beq_iff_eq,ha x s h.1.2.1 hs,hb y t h.1.2.2 ht]
   exact⟨fun k=>(h.1.1.symm.trans k).trans he,fun k=>(h.1.1.trans k).trans he.symm⟩
  rw [e]
 |[],_::_,h,_,_,_,_,_=>by cases h
 |_::_,[],h,_,_,_,_,_=>by cases h
theorem Par.add (ha:Cls A ca) (hb:Cls B cb) {a b:List Nat} (h:Par A B a b) {s t:Nat} (he:Eqv A B s t) (hs:s<A.n) (ht:t<B.n):Par A B (add ca a s) (add cb b t):=by
 unfold Go.Proofs.YtobapaodpcheiaaGreatDoor.add
 rw [idx_par ha hb h he hs ht,h.len]
 split
 ·exact h
 ·exact h.snoc ⟨he,hs,ht⟩
theorem row_par (hA:A.Ok) (hB:B.Ok) (ha:Cls A ca) (hb:Cls B cb) {a b:List Nat} (h:Par A B a b) {s t:Nat} (he:Eqv A B s t) (hs:s<A.n) (ht:t<B.n):
  ∀ c,c≤11→(rowK A ca a s c).1=(rowK B cb b t c).1∧Par A B (rowK A ca a s c).2 (rowK B cb b t c).2
 |0,_=>⟨rfl,h⟩
 |c+1,hc=>by
  obtain⟨h1,h2⟩:=row_par hA hB ha hb h he hs ht c (by omega)
  rw [rowK_succ,rowK_succ]
  have k1:=hA.go s c hs (by omega)
  have k2:=hB.go t c ht (by omega)
  have k3:=he.step (c:=c) (by omega)
  refine⟨?_,(show Par A B (add ca _ _) (add cb _ _) from h2.add ha hb k3 k1 k2)⟩
  unfold rowStp
  dsimp only
  rw [h1,idx_par ha hb h2 k3 k1 k2]
theorem par_one {x y:Nat} (h:Eqv A B x y∧x<A.n∧y<B.n):Par A B [x] [y]:=⟨h,trivial⟩
theorem fd_par (hA:A.Ok) (hB:B.Ok) (ha:Cls A ca) (hb:Cls B cb) (h0:Eqv A B A.s0 B.s0) (i:Nat) (h:∀ j,j<i→j<(fdK A ca j).length):Par A B (fdK A ca i) (fdK B cb i):=by
 induction i with
 |zero=>
  rw [fdK_zero,fdK_zero]
  exact par_one ⟨h0,hA.st,hB.st⟩
 |succ i ih=>
  have hi:=h i (Nat.lt_succ_self i)
  have hq:=ih (fun j hj=>h j (Nat.lt_succ_of_lt hj))
  clear ih h
  have g:=hq.get (i:=i) hi
  have r:=row_par hA hB ha hb hq g.1 g.2.1 g.2.2 11 (Nat.le_refl _)
  generalize hX:rowK A ca (fdK A ca i) ((fdK A ca i).getD i 0) 11=X at r
  generalize hY:rowK B cb (fdK B cb i) ((fdK B cb i).getD i 0) 11=Y at r
  rw [fdK_succ,fdK_succ,hX,hY]
  exact r.2
theorem canon (hA:A.Ok) (hB:B.Ok) (ha:Cls A ca) (hb:Cls B cb) (h0:Eqv A B A.s0 B.s0) {m k:Nat} (hm:Stop A ca m) (hk:Stop B cb k):m=k∧outN A ca m=outN B cb k∧outF A ca m=outF B cb k:=by
 have hp:∀ i,i≤m→Par A B (fdK A ca i) (fdK B cb i):=fun i hi=>fd_par hA hB ha hb h0 i (fun j hj=>hm.1 j (by omega))
 have e:m=k:=by
  rcases Nat.lt_trichotomy m k with h|h|h
  ·have h1:=hk.1 m h
   rw [←(hp m (Nat.le_refl _)).len,hm.2] at h1
   omega
  ·exact h
  ·have h1:=hm.1 k h
   rw [(hp k (Nat.le_of_lt h)).len,hk.2] at h1
   omega
 subst e
 refine⟨rfl,?_,?_⟩
 ·unfold outN
  refine List.map_congr_left fun i hi=>?_
  have hi':=List.mem_range.1 hi
  obtain⟨h1,h2,h3⟩:=(hp i (Nat.le_of_lt hi')).get (hm.1 i hi')
  unfold rowsK
  exact(row_par hA hB ha hb (hp i (Nat.le_of_lt hi')) h1 h2 h3 11 (Nat.le_refl _)).1
 ·unfold outF
  refine List.map_congr_left fun i hi=>?_
  have hi':=List.mem_range.1 hi
  exact((hp m (Nat.le_refl _)).get (by rw [hm.2];exact hi')).1.f
end
def Er (A:Aut) (r s t:Nat):Prop:=∀ w,word w→w.length≤r→A.acc s w=A.acc t w
theorem Er.refl (A:Aut) (r s:Nat):Er A r s s:=fun _ _ _=>rfl
theorem Er.symm {A:Aut} {r s t:Nat} (h:Er A r s t):Er A r t s:=fun w a b=>(h w a b).symm
theorem Er.trans {A:Aut} {r s t u:Nat} (h:Er A r s t) (k:Er A r t u):Er A r s u:=fun w a b=>(h w a b).trans (k w a b)
theorem Er.le {A:Aut} {r q s t:Nat} (h:Er A r s t) (hq:q≤r):Er A q s t:=fun w a b=>h w a (by omega)
theorem Eqv.er {A:Aut} {s t:Nat} (h:Eqv A A s t) (r:Nat):Er A r s t:=fun w hw _=>h w hw
structure OfOk (A:Aut) (r:Nat) (of:List Nat):Prop where
 len:of.length=A.n
 eq:∀ s t,s<A.n→t<A.n→(of.getD s 0=of.getD t 0↔Er A r s t)
structure OfOnto (A:Aut) (of:List Nat) (m:Nat):Prop where
 lt:∀ s,s<A.n→of.getD s 0<m
 all:∀ v,v<m→∃ s,s<A.n∧of.getD s 0=v
structure Ref (A:Aut) (r:Nat) (of:List Nat) (i:Nat) (next first:List Nat):Prop where
 len:next.length=i
 lt:∀ s∈first,s<i
 cls:∀ s,s<i→next.getD s 0<first.length∧Er A (r+1) s (first.getD (next.getD s 0) 0)
 rep:∀ j,j<first.length→next.getD (first.getD j 0) 0=j
 apart:∀ j k,j<first.length→k<first.length→Er A (r+1) (first.getD j 0) (first.getD k 0)→j=k
theorem Ref.start (A:Aut) (r:Nat) (of:List Nat):Ref A r of 0 [] []:=
 ⟨rfl,fun s h=>(by cases h),fun s h=>(by omega),fun j h=>(by simp at h),fun j k h _ _=>(by simp at h)⟩
theorem getD_snoc {l:List Nat} {x i:Nat} (h:i<l.length):(l++ [x]).getD i 0=l.getD i 0:=by
 rw [List.getD_eq_getElem?_getD,List.getElem?_append_left h,←List.getD_eq_getElem?_getD]
theorem getD_last {l:List Nat} {x:Nat}:(l++ [x]).getD l.length 0=x:=by
 rw [List.getD_eq_getElem?_getD,List.getElem?_append_right (Nat.le_refl _),Nat.sub_self]
 rfl
theorem Ref.old {A:Aut} {r:Nat} {of:List Nat} {i:Nat} {next first:List Nat} (h:Ref A r of i next first) {n:Nat} (hn:n<first.length) (he:Er A (r+1) i (first.getD n 0)):Ref A r of (i+1) (next++ [n]) first:=by
 have hl:=h.len
 refine⟨by rw [List.length_append,hl];rfl,fun s hs=>by have:=h.lt s hs;omega,fun s hs=>?_,fun j hj=>?_,h.apart⟩
 ·rcases Nat.lt_or_ge s i with k|k
  ·rw [getD_snoc (by omega)]
   exact h.cls s k
  ·obtain rfl:s=next.length:=by omega
   rw [getD_last]
   rw [←hl] at he
   exact⟨hn,he⟩
 ·have:=h.lt _ (getD_mem hj)
  rw [getD_snoc (by omega)]
  exact h.rep j hj
theorem Ref.new_ {A:Aut} {r:Nat} {of:List Nat} {i:Nat} {next first:List Nat} (h:Ref A r of i next first) (he:∀ j,j<first.length→¬ Er A (r+1) i (first.getD j 0)):Ref A r of (i+1) (next++ [first.length]) (first++ [i]):=by
 have hl:=h.len
 have hfl:(first++ [i]).length=first.length+1:=by rw [List.length_append];rfl
 refine⟨by rw [List.length_append,hl];rfl,fun s hs=>?_,fun s hs=>?_,fun j hj=>?_,fun j k hj hk e=>?_⟩
 ·rcases List.mem_append.1 hs with hs|hs
  ·have:=h.lt s hs;omega
  ·simp at hs;omega
 ·rcases Nat.lt_or_ge s i with k|k
  ·obtain⟨h1,h2⟩:=h.cls s k
   rw [getD_snoc (by omega),getD_snoc h1]
   exact⟨by omega,h2⟩
  ·obtain rfl:s=next.length:=by omega
   rw [getD_last,getD_last]
   subst hl
   exact⟨by omega,Er.refl _ _ _⟩
 ·rcases Nat.lt_or_ge j first.length with k|k
  ·have:=h.lt _ (getD_mem k)
   rw [getD_snoc k,getD_snoc (by omega)]
   exact h.rep j k
  ·obtain rfl:j=first.length:=by omega
   rw [getD_last]
   subst hl
   rw [getD_last]
 ·rcases Nat.lt_or_ge j first.length with a|a
  ·rcases Nat.lt_or_ge k first.length with b|b
   ·rw [getD_snoc a,getD_snoc b] at e
    exact h.apart j k a b e
   ·obtain rfl:k=first.length:=by omega
    rw [getD_snoc a,getD_last] at e
    exact absurd e.symm (he j a)
  ·obtain rfl:j=first.length:=by omega
   rcases Nat.lt_or_ge k first.length with b|b
   ·rw [getD_last,getD_snoc b] at e
    exact absurd e (he k b)
   ·omega
theorem Ref.done {A:Aut} {r:Nat} {of:List Nat} {next first:List Nat} (h:Ref A r of A.n next first):OfOk A (r+1) next∧OfOnto A next first.length:=by
 refine⟨⟨h.len,fun s t hs ht=>⟨fun e=>?_,fun e=>?_⟩⟩,fun s hs=>(h.cls s hs).1,fun v hv=>⟨first.getD v 0,h.lt _ (getD_mem hv),h.rep v hv⟩⟩
 ·have h1:=(h.cls s hs).2
  rw [e] at h1
  exact h1.trans (h.cls t ht).2.symm
 ·exact h.apart _ _ (h.cls s hs).1 (h.cls t ht).1 (((h.cls s hs).2.symm.trans e).trans (h.cls t ht).2)
theorem Ref.le {A:Aut} {r:Nat} {of:List Nat} {i:Nat} {next first:List Nat} (h:Ref A r of i next first):first.length≤i:=by
 have hn:first.Nodup:=by
  unfold List.Nodup
  rw [List.pairwise_iff_getElem]
  intro a b ha hb hab e
  have h1:=h.rep a ha
  have h2:=h.rep b hb
  rw [getD_getA ha,e,←getD_getA hb,h2] at h1
  omega
 have:=nodup_len (b:=List.range i) hn (fun x hx=>List.mem_range.2 (h.lt x hx))
 rwa [List.length_range] at this
section
variable {A B:Aut} {g:Bool→Bool→Bool}
end
def lexW:List Nat→List Nat→Prop
 |a::v,b::w=>a<b∨(a=b∧lexW v w)
 |_,_=>False
def bef (v w:List Nat):Prop:=v.length<w.length∨(v.length=w.length∧lexW v w)
theorem lexW_irr:∀ w:List Nat,¬ lexW w w
 |[],h=>h
 |a::w,h=>by
  rcases h with h|⟨_,h⟩
  ·omega
  ·exact lexW_irr w h
theorem lexW_trans:∀ {u v w:List Nat},lexW u v→lexW v w→lexW u w
 |_::_,_::_,_::_,h,k=>by
  rcases h with h|⟨rfl,h⟩<;>rcases k with k|⟨rfl,k⟩
  ·exact .inl (by omega)
  ·exact .inl h
  ·exact .inl k
  ·exact .inr ⟨rfl,lexW_trans h k⟩
 |[],_,_,h,_=>by cases h
 |_::_,[],_,h,_=>by cases h
 |_::_,_::_,[],_,k=>by cases k
theorem lexW_total:∀ {v w:List Nat},v.length=w.length→lexW v w∨v=w∨lexW w v
 |[],[],_=> .inr (.inl rfl)
 |a::v,b::w,h=>by
  rw [List.length_cons,List.length_cons] at h
  rcases Nat.lt_trichotomy a b with k|k|k
  ·exact .inl (.inl k)
  ·subst k
   rcases lexW_total (v:=v) (w:=w) (by omega) with h1|h1|h1
   ·exact .inl (.inr ⟨rfl,h1⟩)
   ·exact .inr (.inl (by rw [h1]))
   ·exact .inr (.inr (.inr ⟨rfl,h1⟩))
  ·exact .inr (.inr (.inl k))
 |[],_::_,h=>by simp at h
 |_::_,[],h=>by simp at h
theorem lexW_snoc:∀ {v w:List Nat},lexW v w→∀(c d:Nat),v.length=w.length→lexW (v++ [c]) (w++ [d])
 |_::_,_::_,h,c,d,e=>by
  rcases h with h|⟨rfl,h⟩
  ·exact .inl h
  ·exact .inr ⟨rfl,lexW_snoc h c d (by simpa using e)⟩
 |[],_,h,_,_,_=>by cases h
 |_::_,[],h,_,_,_=>by cases h
theorem lexW_last:∀(v:List Nat) {c d:Nat},c<d→lexW (v++ [c]) (v++ [d])
 |[],c,d,h=> .inl h
 |a::v,c,d,h=> .inr ⟨rfl,lexW_last v h⟩
theorem bef_irr (w:List Nat):¬ bef w w:=fun h=>by
 rcases h with h|⟨_,h⟩
 ·omega
 ·exact lexW_irr w h
theorem bef_trans {u v w:List Nat} (h:bef u v) (k:bef v w):bef u w:=by
 rcases h with h|⟨h,h'⟩<;>rcases k with k|⟨k,k'⟩
 ·exact .inl (by omega)
 ·exact .inl (by omega)
 ·exact .inl (by omega)
 ·exact .inr ⟨by omega,lexW_trans h' k'⟩
theorem bef_total (v w:List Nat):bef v w∨v=w∨bef w v:=by
 rcases Nat.lt_trichotomy v.length w.length with h|h|h
 ·exact .inl (.inl h)
 ·rcases lexW_total h with k|k|k
  ·exact .inl (.inr ⟨h,k⟩)
  ·exact .inr (.inl k)
  ·exact .inr (.inr (.inr ⟨h.symm,k⟩))
 ·exact .inr (.inr (.inl h))
theorem bef_snoc {v w:List Nat} (h:bef v w) (c d:Nat):bef (v++ [c]) (w++ [d]):=by
 rcases h with h|⟨h,k⟩
 ·exact .inl (by simp;omega)
 ·exact .inr ⟨by simp [h],lexW_snoc k c d h⟩
theorem bef_last (v:List Nat) {c d:Nat} (h:c<d):bef (v++ [c]) (v++ [d]):= .inr ⟨by simp,lexW_last v h⟩
theorem bef_longer (v:List Nat) (c:Nat):bef v (v++ [c]):= .inl (by simp)
def befE (v w:List Nat):Prop:=v=w∨bef v w
theorem befE.trans {u v w:List Nat} (h:befE u v) (k:befE v w):befE u w:=by
 rcases h with rfl|h
 ·exact k
 ·rcases k with rfl|k
  ·exact .inr h
  ·exact .inr (bef_trans h k)
theorem befE.snoc {v w:List Nat} (h:befE v w) (c:Nat):befE (v++ [c]) (w++ [c]):=by
 rcases h with rfl|h
 ·exact .inl rfl
 ·exact .inr (bef_snoc h c c)
theorem befE_not {v w:List Nat} (h:befE v w) (k:bef w v):False:=by
 rcases h with rfl|h
 ·exact bef_irr _ k
 ·exact bef_irr _ (bef_trans h k)
def First (A:Aut) (w:List Nat):Prop:=word w∧A.acc A.s0 w=true∧∀ v,word v→bef v w→A.acc A.s0 v=false
def Never (A:Aut):Prop:=∀ v,word v→A.acc A.s0 v=false
theorem First.uniq {A:Aut} {v w:List Nat} (h:First A v) (k:First A w):v=w:=by
 rcases bef_total v w with e|e|e
 ·have:=k.2.2 v h.1 e
  rw [h.2.1] at this
  cases this
 ·exact e
 ·have:=h.2.2 w k.1 e
  rw [k.2.1] at this
  cases this
structure Srch (A:Aut) (i c:Nat) (F:List Nat) (W:List (List Nat)):Prop where
 len:W.length=F.length
 le:i≤F.length
 some_:0<F.length
 zero:W.getD 0 []= []
 run:∀ j,j<F.length→word (W.getD j [])∧A.run A.s0 (W.getD j [])=F.getD j 0
 nd:∀ j k,j<F.length→k<F.length→F.getD j 0=F.getD k 0→j=k
 inc:∀ j k,j<k→k<F.length→bef (W.getD j []) (W.getD k [])
 from_:∀ k,k<F.length→W.getD k []= []∨∃ j e,W.getD k []=W.getD j []++ [e]∧(j<i∨(j=i∧e<c∧j<F.length))
 all:∀ j e,(j<i∧e<11)∨(j=i∧e<c)→j<F.length→∃ k,k<F.length∧F.getD k 0=A.d (F.getD j 0) e∧befE (W.getD k []) (W.getD j []++ [e])
theorem Srch.next {A:Aut} {i:Nat} {F:List Nat} {W:List (List Nat)} (h:Srch A i 11 F W) (hi:i<F.length):Srch A (i+1) 0 F W:=by
 refine⟨h.len,hi,h.some_,h.zero,h.run,h.nd,h.inc,fun k hk=>?_,fun j e he hj=>?_⟩
 ·rcases h.from_ k hk with h1|⟨j,e,h1,h2⟩
  ·exact .inl h1
  ·exact .inr ⟨j,e,h1,.inl (by omega)⟩
 ·exact h.all j e (by omega) hj
theorem Srch.old {A:Aut} {i c:Nat} {F:List Nat} {W:List (List Nat)} (h:Srch A i c F W) (hi:i<F.length) {k:Nat} (hk:k<F.length) (e:F.getD k 0=A.d (F.getD i 0) c):Srch A i (c+1) F W:=by
 refine⟨h.len,h.le,h.some_,h.zero,h.run,h.nd,h.inc,fun k hk=>?_,fun j x he hj=>?_⟩
 ·rcases h.from_ k hk with h1|⟨j,e,h1,h2⟩
  ·exact .inl h1
  ·exact .inr ⟨j,e,h1,by omega⟩
 ·by_cases hx:j=i∧x=c
  ·obtain⟨rfl,rfl⟩:=hx
   refine⟨k,hk,e,.inr ?_⟩
   rcases h.from_ k hk with h1|⟨j',e',h1,h2⟩
   ·rw [h1]
    exact .inl (by simp)
   ·rw [h1]
    rcases h2 with h2|⟨rfl,h2,_⟩
    ·exact bef_snoc (h.inc j' j h2 hi) _ _
    ·exact bef_last _ h2
  ·exact h.all j x (by omega) hj
theorem getD_app {α:Type} {l m:List α} {x:α} {i:Nat} (h:i<l.length):(l++m).getD i x=l.getD i x:=by
 rw [List.getD_eq_getElem?_getD,List.getElem?_append_left h,←List.getD_eq_getElem?_getD]
theorem getD_end {α:Type} {l:List α} {x y:α}:(l++ [y]).getD l.length x=y:=by
 rw [List.getD_eq_getElem?_getD,List.getElem?_append_right (Nat.le_refl _),Nat.sub_self]
 rfl
theorem Srch.new_ {A:Aut} {i c:Nat} {F:List Nat} {W:List (List Nat)} (h:Srch A i c F W) (hi:i<F.length) (hc:c<11) (e:∀ k,k<F.length→F.getD k 0≠A.d (F.getD i 0) c):Srch A i (c+1) (F++ [A.d (F.getD i 0) c]) (W++ [W.getD i []++ [c]]):=by
 have hl:=h.len
 have oF:∀ {j},j<F.length→(F++ [A.d (F.getD i 0) c]).getD j 0=F.getD j 0:=fun hj=>getD_app hj
 have oW:∀ {j},j<F.length→(W++ [W.getD i []++ [c]]).getD j []=W.getD j []:=fun hj=>getD_app (by omega)
 have nF:(F++ [A.d (F.getD i 0) c]).getD F.length 0=A.d (F.getD i 0) c:=getD_end
 have nW:(W++ [W.getD i []++ [c]]).getD F.length []=W.getD i []++ [c]:=by rw [←hl];exact getD_end
 have sp:∀ {j},j<(F++ [A.d (F.getD i 0) c]).length→j<F.length∨j=F.length:=fun hj=>by simp at hj;omega
 have lt:∀ {j},j<F.length→j<(F++ [A.d (F.getD i 0) c]).length:=fun hj=>by simp;omega
 have hp:=h.some_
 refine⟨by simp [hl],by simp;omega,by simp,by rw [oW hp];exact h.zero,fun j hj=>?_,fun j k hj hk he=>?_,fun j k hjk hk=>?_,fun k hk=>?_,fun j x he hj=>?_⟩
 ·rcases sp hj with hj|rfl
  ·rw [oF hj,oW hj]
   exact h.run j hj
  ·rw [nF,nW]
   obtain⟨h1,h2⟩:=h.run i hi
   refine⟨fun y hy=>?_,?_⟩
   ·rcases List.mem_append.1 hy with hy|hy
    ·exact h1 y hy
    ·rw [List.mem_singleton] at hy
     omega
   ·rw [Aut.run_app,h2]
    rfl
 ·rcases sp hj with hj|rfl<;>rcases sp hk with hk|rfl
  ·rw [oF hj,oF hk] at he
   exact h.nd j k hj hk he
  ·rw [oF hj,nF] at he
   exact absurd he (e j hj)
  ·rw [oF hk,nF] at he
   exact absurd he.symm (e k hk)
  ·rfl
 ·rcases sp hk with hk|rfl
  ·rw [oW (by omega),oW hk]
   exact h.inc j k hjk hk
  ·rw [nW,oW hjk]
   rcases h.from_ j hjk with h1|⟨j',e',h1,h2⟩
   ·rw [h1]
    exact .inl (by simp)
   ·rw [h1]
    rcases h2 with h2|⟨rfl,h2,_⟩
    ·exact bef_snoc (h.inc j' i h2 hi) _ _
    ·exact bef_last _ h2
 ·rcases sp hk with hk|rfl
  ·rw [oW hk]
   rcases h.from_ k hk with h1|⟨j',e',h1,h2⟩
   ·exact .inl h1
   ·have hj':j'<F.length:=by omega
    exact .inr ⟨j',e',by rw [oW hj'];exact h1,by simp;omega⟩
  ·rw [nW]
   exact .inr ⟨i,c,by rw [oW hi],.inr ⟨rfl,by omega,lt hi⟩⟩
 ·have hjF:j<F.length:=by omega
  rw [oF hjF,oW hjF]
  by_cases hx:j=i∧x=c
  ·obtain⟨rfl,rfl⟩:=hx
   exact⟨F.length,by simp,nF,by rw [nW];exact .inl rfl⟩
  ·obtain⟨k,h1,h2,h3⟩:=h.all j x (by omega) hjF
   exact⟨k,lt h1,by rw [oF h1];exact h2,by rw [oW h1];exact h3⟩
theorem Srch.each {A:Aut} {i:Nat} {F:List Nat} {W:List (List Nat)} (h:Srch A i 0 F W):∀ v:List Nat,word v.reverse→∃ j,j<F.length∧befE (W.getD j []) v.reverse∧(A.run A.s0 v.reverse=F.getD j 0∨i≤j)
 |[],_=>by
  refine⟨0,h.some_,.inl h.zero,.inl ?_⟩
  have:=(h.run 0 h.some_).2
  rw [h.zero] at this
  exact this
 |c::v,hw=>by
  rw [List.reverse_cons] at hw ⊢
  have hv:word v.reverse:=fun x hx=>hw x (List.mem_append.2 (.inl hx))
  have hc:c<11:=hw c (by simp)
  obtain⟨j,h1,h2,h3⟩:=h.each v hv
  by_cases hj:i≤j
  ·exact⟨j,h1,h2.trans (.inr (bef_longer _ c)),.inr hj⟩
  ·have h4:A.run A.s0 v.reverse=F.getD j 0:=by
    rcases h3 with h3|h3
    ·exact h3
    ·exact absurd h3 hj
   obtain⟨k,k1,k2,k3⟩:=h.all j c (.inl ⟨by omega,hc⟩) h1
   refine⟨k,k1,k3.trans (h2.snoc c),.inl ?_⟩
   rw [Aut.run_app,h4,k2]
   rfl
theorem Srch.first {A:Aut} {i:Nat} {F:List Nat} {W:List (List Nat)} (h:Srch A i 0 F W) (hi:i<F.length) (hf:A.f (F.getD i 0)=true) (hn:∀ j,j<i→A.f (F.getD j 0)=false):First A (W.getD i []):=by
 obtain⟨h1,h2⟩:=h.run i hi
 refine⟨h1,by show A.f (A.run A.s0 _)=true;rw [h2];exact hf,fun v hv hb=>?_⟩
 obtain⟨j,k1,k2,k3⟩:=h.each v.reverse (by rw [List.reverse_reverse];exact hv)
 rw [List.reverse_reverse] at k2 k3
 by_cases hj:i≤j
 ·exfalso
  have:befE (W.getD i []) (W.getD j []):=by
   rcases Nat.lt_or_ge i j with h3|h3
   ·exact .inr (h.inc i j h3 k1)
   ·rw [show j=i by omega]
    exact .inl rfl
  exact befE_not (this.trans k2) hb
 ·rcases k3 with k3|k3
  ·show A.f (A.run A.s0 v)=false
   rw [k3]
   exact hn j (by omega)
  ·omega
theorem Srch.len_le {A:Aut} (hA:A.Ok) {i c:Nat} {F:List Nat} {W:List (List Nat)} (h:Srch A i c F W):F.length≤A.n:=by
 have hnd:F.Nodup:=List.pairwise_iff_getElem.2 (fun a b ha hb hab e=>by
  have:=h.nd a b ha hb (by rw [getD_getA ha,getD_getA hb];exact e)
  omega)
 have:=nodup_len (b:=List.range A.n) hnd (fun x hx=>by
  obtain⟨j,hj,e⟩:=List.getElem_of_mem hx
  have h2:=h.run j hj
  rw [getD_getA hj,e] at h2
  rw [List.mem_range,←h2.2]
  exact hA.run_lt _ _ hA.st h2.1)
 rwa [List.length_range] at this
theorem First.eqv {A B:Aut} (h:Eqv A B A.s0 B.s0) {w:List Nat} (k:First A w):First B w:=⟨k.1,by rw [←h w k.1];exact k.2.1,fun v hv hb=>by rw [←h v hv];exact k.2.2 v hv hb⟩
theorem Never.eqv {A B:Aut} (h:Eqv A B A.s0 B.s0) (k:Never A):Never B:=fun v hv=>by rw [←h v hv];exact k v hv
def sy0 (c:UInt8):Nat:=if c=46 then 10 else dg c
def wd0 (s:Str):List Nat:=s.map sy0
def befS (s t:Str):Prop:=bef (wd0 s) (wd0 t)
theorem wd0_len (s:Str):(wd0 s).length=s.length:=List.length_map _
theorem sy0_digit {c:UInt8} (h:isD c=true):sy0 c=dg c:=by
 unfold sy0
 rw [if_neg]
 rintro rfl
 revert h
 decide
theorem dg_inj {c d:UInt8} (hc:isD c=true) (hd:isD d=true) (h:dg c=dg d):c=d:=by
 have e1:=isD_iff.1 hc
 have e2:=isD_iff.1 hd
 apply u8_ext
 unfold dg at h
 omega
theorem lex_val:∀ {a b:Str},allD a→allD b→a.length=b.length→(lexW (wd0 a) (wd0 b)↔val a<val b)
 |[],[],_,_,_=>by
  rw [val_nil]
  constructor
  ·intro h;cases h
  ·intro h;omega
 |c::a,d::b,ha,hb,hl=>by
  rw [allD_cons] at ha hb
  have hl':a.length=b.length:=by simpa using hl
  have ih:=lex_val ha.2 hb.2 hl'
  have h1:=val_lt ha.2
  have h2:=val_lt hb.2
  rw [val_cons,val_cons,hl']
  rw [hl'] at h1
  show(sy0 c<sy0 d∨(sy0 c=sy0 d∧lexW (wd0 a) (wd0 b)))↔_
  rw [sy0_digit ha.1,sy0_digit hb.1,ih]
  constructor
  ·rintro(h|⟨h,k⟩)
   ·have:=Nat.mul_le_mul_right (10 ^ b.length) h
    rw [Nat.succ_mul] at this
    omega
   ·rw [h];omega
  ·intro h
   rcases Nat.lt_trichotomy (dg c) (dg d) with k|k|k
   ·exact .inl k
   ·rw [k] at h
    exact .inr ⟨k,by omega⟩
   ·exfalso
    have:=Nat.mul_le_mul_right (10 ^ b.length) k
    rw [Nat.succ_mul] at this
    omega
 |[],_::_,_,_,h=>by simp at h
 |_::_,[],_,_,h=>by simp at h
theorem lex_app:∀ {u u' v v':List Nat},u.length=u'.length→lexW (u++v) (u'++v')→lexW u u'∨(u=u'∧lexW v v')
 |[],[],_,_,_,h=> .inr ⟨rfl,h⟩
 |a::u,b::u',v,v',hl,h=>by
  rcases h with h|⟨rfl,h⟩
  ·exact .inl (.inl h)
  ·rcases lex_app (by simpa using hl) h with k|⟨rfl,k⟩
   ·exact .inl (.inr ⟨rfl,k⟩)
   ·exact .inr ⟨rfl,k⟩
 |[],_::_,_,_,h,_=>by simp at h
 |_::_,[],_,_,h,_=>by simp at h
def tx0 (wh fr:Str):Str:=wh++(if fr= [] then [] else 46::fr)
theorem tx0_len (wh fr:Str):(tx0 wh fr).length=wh.length+(if fr.length=0 then 0 else fr.length+1):=by
 unfold tx0
 rw [List.length_append]
 cases fr with
 |nil=>rfl
 |cons c l=>simp
theorem num_order {a b wh fr:Str} (ha:allD a) (hb:allD b) (hw:allD wh) (hf:allD fr) (h1:a.length≤wh.length) (h2:b.length≤fr.length) (h3:a.length=wh.length→val a≤val wh) (h4:b.length=fr.length→val b≤val fr):¬ befS (tx0 wh fr) (tx0 a b):=by
 intro h
 unfold befS bef at h
 rw [wd0_len,wd0_len,tx0_len,tx0_len] at h
 rcases h with h|⟨h,k⟩
 ·split at h<;>split at h<;>omega
 ·have e1:wh.length=a.length:=by split at h<;>split at h<;>omega
  have e2:fr.length=b.length:=by split at h<;>split at h<;>omega
  have k':lexW (wd0 wh++wd0 (if fr= [] then [] else 46::fr)) (wd0 a++wd0 (if b= [] then [] else 46::b)):=by
   have e:∀ x y:Str,wd0 (tx0 x y)=wd0 x++wd0 (if y= [] then [] else 46::y):=fun x y=>List.map_append
   rw [←e,←e]
   exact k
  rcases lex_app (by rw [wd0_len,wd0_len,e1]) k' with k|⟨_,k⟩
  ·have:=(lex_val hw ha e1).1 k
   have:=h3 e1.symm
   omega
  ·cases fr with
   |nil=>cases k
   |cons c fr=>
    cases b with
    |nil=>simp at e2
    |cons d b=>
     have k:sy0 46<sy0 46∨(sy0 46=sy0 46∧lexW (wd0 (c::fr)) (wd0 (d::b))):=k
     rcases k with k|⟨_,k⟩
     ·omega
     ·have:=(lex_val hf hb e2).1 k
      have:=h4 e2.symm
      omega
theorem dg_of {n:Nat} (h:n<10):dg (UInt8.ofNat (48+n))=n∧isD (UInt8.ofNat (48+n))=true:=by
 have:(UInt8.ofNat (48+n)).toNat=48+n:=by
  rw [UInt8.toNat_ofNat']
  omega
 constructor
 ·unfold dg;omega
 ·rw [isD_iff];omega
theorem dtx_good {n:Nat} (h:n<1000):allD (dtx n)∧val (dtx n)=n∧slim (dtx n):=by
 unfold dtx
 split
 ·rename_i h1
  have a:=dg_of h1
  refine⟨allD_cons.2 ⟨a.2,allD_nil⟩,?_,fun k=>?_⟩
  ·rw [val_cons,val_nil,a.1];simp
  ·simp at k
 ·split
  ·rename_i h1 h2
   have a:=dg_of (show n / 10<10 by omega)
   have b:=dg_of (show n % 10<10 by omega)
   refine⟨allD_cons.2 ⟨a.2,allD_cons.2 ⟨b.2,allD_nil⟩⟩,?_,fun _ e=>?_⟩
   ·rw [val_cons,val_cons,val_nil,a.1,b.1];simp;omega
   ·injection e with e
    rw [e,dg_48] at a
    omega
  ·rename_i h1 h2
   have a:=dg_of (show n / 100<10 by omega)
   have b:=dg_of (show n / 10 % 10<10 by omega)
   have c:=dg_of (show n % 10<10 by omega)
   refine⟨allD_cons.2 ⟨a.2,allD_cons.2 ⟨b.2,allD_cons.2 ⟨c.2,allD_nil⟩⟩⟩,?_,fun _ e=>?_⟩
   ·rw [val_cons,val_cons,val_cons,val_nil,a.1,b.1,c.1];simp;omega
   ·injection e with e
    rw [e,dg_48] at a
    omega
theorem dtx_len_le {n m:Nat} (hn:n<1000) (h:n<10 ^ m) (hm:1≤m):(dtx n).length≤m:=by
 have e:(dtx n).length=if n<10 then 1 else if n<100 then 2 else 3:=by
  unfold dtx
  split
  ·rfl
  ·split<;>rfl
 rw [e]
 rcases Nat.lt_or_ge m 3 with k|k
 ·rcases Nat.lt_or_ge m 2 with k2|k2
  ·obtain rfl:m=1:=by omega
   have:n<10:=by simpa using h
   rw [if_pos this]
   exact Nat.le_refl _
  ·obtain rfl:m=2:=by omega
   have:n<100:=by simpa using h
   rw [if_pos this]
   split<;>omega
 ·split
  ·omega
  ·split<;>omega
def isWh (r:Rel):Bool:=decide (r.op=1)||decide (r.op=2)
def wT (r:Rel) (n:Nat):Bool:=(inside r.sp (rem r.md (n:Int))) != r.nt
theorem inside_big {r:Rel} (h:OkR r) {n:Int} (hn:100<n):inside r.sp n=false:=by
 unfold inside
 rw [List.any_eq_false]
 intro s hs
 have:=okSp_le (h.sp s hs)
 simp
 intro _
 omega
theorem okMod_div {o m:Int} (h:okMod o m=true):m=0∨∃ k:Nat,0<k∧m=(k:Int)∧k ∣300:=by
 unfold okMod at h
 split at h
 ·exact .inl (by assumption)
 ·split at h
  ·rename_i h1 h2
   rcases h2 with rfl|rfl
   ·exact .inr ⟨10,by omega,rfl,by decide⟩
   ·exact .inr ⟨100,by omega,rfl,by decide⟩
  ·split at h
   ·rename_i h1 h2 h3
    rcases h3 with rfl|rfl|rfl|rfl|rfl|rfl|rfl|rfl
    ·exact .inr ⟨2,by omega,rfl,by decide⟩
    ·exact .inr ⟨3,by omega,rfl,by decide⟩
    ·exact .inr ⟨4,by omega,rfl,by decide⟩
    ·exact .inr ⟨5,by omega,rfl,by decide⟩
    ·exact .inr ⟨6,by omega,rfl,by decide⟩
    ·exact .inr ⟨20,by omega,rfl,by decide⟩
    ·exact .inr ⟨25,by omega,rfl,by decide⟩
    ·exact .inr ⟨50,by omega,rfl,by decide⟩
   ·cases h
theorem rem_nat (k n:Nat) (hk:0<k):rem (k:Int) (n:Int)=((n % k:Nat):Int):=by
 unfold rem
 rw [if_neg (by omega),Int.tmod_eq_emod_of_nonneg (by omega)]
 exact(Int.natCast_emod n k).symm
theorem wT_far {r:Rel} (h:OkR r) {n m:Nat} (hn:100<n) (hm:100<m) (e:n % 300=m % 300):wT r n=wT r m:=by
 unfold wT
 rcases okMod_div h.md with h0|⟨k,hk,hmd,hd⟩
 ·rw [h0]
  unfold rem
  rw [if_pos rfl,if_pos rfl,inside_big h (by omega),inside_big h (by omega)]
 ·rw [hmd,rem_nat _ _ hk,rem_nat _ _ hk]
  have:n % k=m % k:=by
   rw [←Nat.mod_mod_of_dvd n hd,←Nat.mod_mod_of_dvd m hd,e]
  rw [this]
def cls1 (n:Nat):Nat:=if n≤400 then n else 101+(n - 101) % 300
theorem cls1_le (n:Nat):cls1 n≤n∧cls1 n≤400:=by
 unfold cls1
 split<;>omega
theorem wT_cls {r:Rel} (h:OkR r) (n:Nat):wT r (cls1 n)=wT r n:=by
 unfold cls1
 split
 ·rfl
 ·exact wT_far h (by omega) (by omega) (by omega)
def vecW (l:List Rel) (n:Nat):List Bool:=(l.filter isWh).map fun r=>wT r n
theorem vecW_cls {l:List Rel} (h:∀ r∈l,OkR r) (n:Nat):vecW l (cls1 n)=vecW l n:=by
 unfold vecW
 refine List.map_congr_left (fun r hr=>wT_cls (h r (List.mem_filter.1 hr).1) n)
def newW (l:List Rel) (n:Nat):Bool:=(List.range n).all fun m=>decide (vecW l m≠vecW l n)
def ws (l:List Rel) (k:Nat):List Nat:=(List.range k).filter (newW l)
theorem ws_has (l:List Rel) {k:Nat}:∀ N,N<k→∃ a∈ws l k,a≤N∧vecW l a=vecW l N:=fun N=>by
 induction N using Nat.strongRecOn with
 |ind N ih=>
  intro hN
  by_cases h:newW l N=true
  ·exact⟨N,List.mem_filter.2 ⟨List.mem_range.2 hN,h⟩,Nat.le_refl _,rfl⟩
  ·unfold newW at h
   rw [List.all_eq_true] at h
   have:∃ m,m<N∧vecW l m=vecW l N:=by
    refine Classical.byContradiction fun hc=>h fun m hm=>?_
    rw [List.mem_range] at hm
    exact decide_eq_true (fun e=>hc ⟨m,hm,e⟩)
   obtain⟨m,hm,e⟩:=this
   obtain⟨a,h1,h2,h3⟩:=ih m hm (by omega)
   exact⟨a,h1,by omega,h3.trans e⟩
theorem ws_lt {l:List Rel} {k a:Nat} (h:a∈ws l k):a<k:=List.mem_range.1 (List.mem_filter.1 h).1
theorem wholes_has {l:List Rel} (h:∀ r∈l,OkR r) (n:Nat):∃ a∈ws l 401,a≤n∧vecW l a=vecW l n:=by
 have hc:=cls1_le n
 obtain⟨a,h1,h2,h3⟩:=ws_has l (k:=401) (cls1 n) (by omega)
 exact⟨a,h1,by omega,h3.trans (vecW_cls h n)⟩
def fT (r:Rel) (fr:Str):Bool:=hldO r (opnd ⟨false,[48],fr⟩ r.op)
def vecF (l:List Rel) (fr:Str):List Bool:=(l.filter fun r=>!isWh r).map fun r=>fT r fr
def vecZ (l:List Rel) (fr:Str):List Bool:=vecF l fr++(if zero fr=true then [false] else [])
theorem vecF_len (l:List Rel) (a b:Str):(vecF l a).length=(vecF l b).length:=by unfold vecF;rw [List.length_map,List.length_map]
theorem vecZ_iff {l:List Rel} {a b:Str}:vecZ l a=vecZ l b↔vecF l a=vecF l b∧zero a=zero b:=by
 unfold vecZ
 constructor
 ·intro h
  have h1:=congrArg List.length h
  rw [List.length_append,List.length_append,vecF_len l a b] at h1
  have hz:zero a=zero b:=by
   revert h1
   cases zero a<;>cases zero b<;>simp
  refine⟨?_,hz⟩
  rw [hz] at h
  exact List.append_cancel_right h
 ·rintro⟨h,k⟩
  rw [h,k]
theorem hld_parts (x:Num) (r:Rel):hldO r (opnd x r.op)=if isWh r=true then(if r.op=1∧zero x.fr=false then r.nt else wT r (val x.wh)) else fT r x.fr:=by
 unfold isWh fT wT hldO opnd
 by_cases h1:r.op=1
 ·rw [h1]
  simp
  cases zero x.fr<;>simp
 ·by_cases h2:r.op=2
  ·rw [h2];simp
  ·simp [h1,h2]
theorem map_mem {α β:Type} {f g:α→β}:∀ {l:List α},l.map f=l.map g→∀ r∈l,f r=g r
 |[],_,r,h=>by cases h
 |a::l,e,r,h=>by
  rw [List.map_cons,List.map_cons] at e
  injection e with e1 e2
  rcases List.mem_cons.1 h with rfl|h
  ·exact e1
  ·exact map_mem e2 r h
theorem hldR_class {l:List Rel} {x y:Num} (gx:Good x) (gy:Good y) (hw:vecW l (val x.wh)=vecW l (val y.wh)) (hf:vecZ l x.fr=vecZ l y.fr):∀ r∈l,hldR (txt x) r=hldR (txt y) r:=fun r hr=>by
 obtain⟨h1,h2⟩:=vecZ_iff.1 hf
 unfold hldR
 rw [opR_some (spl_of gx),opR_some (spl_of gy),hld_parts,hld_parts,h2]
 cases hk:isWh r with
 |true=>
  have:=map_mem hw r (List.mem_filter.2 ⟨hr,hk⟩)
  simp only [if_true]
  rw [this]
 |false=>
  have:=map_mem h1 r (List.mem_filter.2 ⟨hr,by rw [hk];rfl⟩)
  simp only [Bool.false_eq_true,if_false]
  exact this
theorem hldC_class {l:List Rel} {c:Cnd} (hc:∀ k∈c,∀ r∈k,r∈l) {x y:Num} (gx:Good x) (gy:Good y) (hw:vecW l (val x.wh)=vecW l (val y.wh)) (hf:vecZ l x.fr=vecZ l y.fr):hldC (txt x) c=hldC (txt y) c:=by
 have h:=hldR_class gx gy hw hf
 exact anyC (fun k hk=>allC (fun r hr=>h r (hc k hk r hr)))
def cls2 (t:Nat):Nat:=if t≤200 then t else 101+(t - 101) % 100
theorem cls2_le (t:Nat):cls2 t≤t∧cls2 t≤200:=by unfold cls2;split<;>omega
theorem cls2_mod (t:Nat):cls2 t % 100=t % 100:=by unfold cls2;split<;>omega
theorem cls2_big {t:Nat} (h:cls2 t≠t):100<cls2 t∧100<t:=by unfold cls2 at h ⊢;split at h<;>split<;>omega
theorem okMod_part {o m:Int} (h:okMod o m=true) (h1:o≠1) (h2:o≠2):m=0∨m=10∨m=100:=by
 unfold okMod at h
 split at h
 ·exact .inl (by assumption)
 ·split at h
  ·rename_i h3;exact .inr h3
  ·split at h
   ·simp [h1,h2] at h
   ·cases h
theorem part_same {r:Rel} (h:OkR r) (h1:r.op≠1) (h2:r.op≠2) {a b:Nat} (e:a % 100=b % 100) (hb:a≠b→100<a∧100<b):inside r.sp (rem r.md (a:Int))=inside r.sp (rem r.md (b:Int)):=by
 rcases okMod_part h.md h1 h2 with k|k|k
 ·rw [k]
  unfold rem
  rw [if_pos rfl,if_pos rfl]
  by_cases hab:a=b
  ·rw [hab]
  ·have:=hb hab
   rw [inside_big h (by omega),inside_big h (by omega)]
 ·have k':r.md=((10:Nat):Int):=k
  rw [k',rem_nat _ _ (by omega),rem_nat _ _ (by omega),show a % 10=b % 10 by omega]
 ·have k':r.md=((100:Nat):Int):=k
  rw [k',rem_nat _ _ (by omega),rem_nat _ _ (by omega),e]
def strE (n w t:Nat):Str:=if w=0 then zs n else zs (w - (dtx t).length)++dtx t++zs (n - w)
def okE (w t:Nat):Bool:=decide ((t % 10=0)↔(w=0))&&decide (w=0→t=0)&&decide ((dtx t).length≤max w 1)
def enT (n w k:Nat):List Str:=((List.range k).filter (okE w)).map (strE n w)
def enF (n k:Nat):List Str:=(List.range k).flatMap fun w=>enT n w 300
theorem okE_iff {w t:Nat}:okE w t=true↔((t % 10=0)↔(w=0))∧(w=0→t=0)∧(dtx t).length≤max w 1:=by
 unfold okE
 rw [Bool.and_eq_true,Bool.and_eq_true,decide_eq_true_eq,decide_eq_true_eq,decide_eq_true_eq,and_assoc]
theorem strE_len {n w t:Nat} (h:okE w t=true) (hw:w≤n):(strE n w t).length=n:=by
 unfold strE
 split
 ·exact zs_len n
 ·have:=(okE_iff.1 h).2.2
  rw [List.length_append,List.length_append,zs_len,zs_len]
  omega
theorem strE_good {n w t:Nat} (ht:t<1000):allD (strE n w t):=by
 unfold strE
 split
 ·exact allD_zs n
 ·exact allD_app.2 ⟨allD_app.2 ⟨allD_zs _,(dtx_good ht).1⟩,allD_zs _⟩
theorem val_app_zs (a:Str) (k:Nat):val (a++zs k)=val a*10 ^ k:=by rw [val_app,val_zs,zs_len,Nat.add_zero]
theorem val_zs_app (a:Str) (k:Nat):val (zs k++a)=val a:=by rw [val_app,val_zs,Nat.zero_mul,Nat.zero_add]
theorem strE_val {n w t:Nat} (ht:t<1000) (h:okE w t=true):val (strE n w t)=t*10 ^ (n - w):=by
 unfold strE
 split
 ·rename_i h0
  rw [val_zs,(okE_iff.1 h).2.1 h0,Nat.zero_mul]
 ·rw [val_app_zs,val_zs_app,(dtx_good ht).2.1]
theorem last_mod:∀ {u:Str},allD u→u≠ []→(val u % 10≠0↔u.getD (u.length - 1) 0≠48):=fun {u} hu hne=>by
 obtain⟨a,c,rfl⟩:∃ a c,u=a++ [c]:=⟨u.dropLast,u.getLast hne,(List.dropLast_concat_getLast hne).symm⟩
 have hc:=(allD_app.1 hu).2 c (by simp)
 have h9:=dg_le hc
 rw [val_snoc,List.getD_eq_getElem?_getD,List.length_append,List.getElem?_append_right (by simp)]
 simp
 have e:dg c % 10=dg c:=by omega
 rw [e]
 constructor
 ·rintro h rfl
  exact h dg_48
 ·intro h h0
  apply h
  exact dg_inj hc (by decide) (by rw [h0,dg_48])
theorem trim_full {u:Str} (hu:allD u) (h:u≠ []→val u % 10≠0):trim u=u:=by
 unfold trim
 rw [tl_stop,List.take_length]
 by_cases hne:u= []
 ·exact .inl (by rw [hne];rfl)
 ·exact .inr ((last_mod hu hne).1 (h hne))
theorem strE_trim {n w t:Nat} (ht:t<1000) (h:okE w t=true) (hw:w≤n):(trim (strE n w t)).length=w∧val (trim (strE n w t))=t∧(zero (strE n w t)=true↔w=0):=by
 have ho:=okE_iff.1 h
 unfold strE
 split
 ·rename_i h0
  have hz:=zero_zs n
  have h1:=trim_nil_iff.2 hz
  rw [h1]
  refine⟨h0.symm,?_,fun _=>h0,fun _=>hz⟩
  rw [val_nil,ho.2.1 h0]
 ·rename_i h0
  have hd:=dtx_good ht
  have hu:allD (zs (w - (dtx t).length)++dtx t):=allD_app.2 ⟨allD_zs _,hd.1⟩
  have hv:val (zs (w - (dtx t).length)++dtx t)=t:=by rw [val_zs_app,hd.2.1]
  have hl:(zs (w - (dtx t).length)++dtx t).length=w:=by rw [List.length_append,zs_len];omega
  have h10:t % 10≠0:=fun e=>h0 (ho.1.1 e)
  rw [trim_app_zs,trim_full hu (fun _=>by rw [hv];exact h10)]
  refine⟨hl,hv,fun e=>?_,fun e=>absurd e h0⟩
  exfalso
  rw [zero_app,Bool.and_eq_true] at e
  have:=(zero_iff hu).1 e.1
  omega
theorem trim_mod {fr:Str} (hf:allD fr):trim fr≠ []→val (trim fr) % 10≠0:=fun hne=>by
 rw [last_mod (trim_allD hf) hne]
 have h:=tl_last fr fr.length
 rw [←trim_len_eq] at h
 rcases h with h|h
 ·exact absurd (List.length_eq_zero_iff.1 h) hne
 ·have hp:=List.length_pos_iff.2 hne
  have e:(trim fr).getD ((trim fr).length - 1) 0=fr.getD ((trim fr).length - 1) 0:=by
   have h2:=trim_split fr
   have h3:=congrArg (fun z=>z.getD ((trim fr).length - 1) 0) h2
   rw [h3,List.getD_eq_getElem?_getD,List.getD_eq_getElem?_getD,List.getElem?_append_left (by omega)]
  rw [e]
  exact h
theorem fT_same {r:Rel} (h:OkR r) (hw:isWh r=false) {a b:Str} (ha:allD a) (hb:allD b) (e1:a.length=b.length) (e2:(trim a).length=(trim b).length) (e3:val (trim a) % 100=val (trim b) % 100) (e4:val (trim a)≠val (trim b)→100<val (trim a)∧100<val (trim b)):fT r a=fT r b:=by
 unfold isWh at hw
 rw [Bool.or_eq_false_iff,decide_eq_false_iff_not,decide_eq_false_iff_not] at hw
 unfold fT opnd hldO
 rw [if_neg hw.1,if_neg hw.2,if_neg hw.1,if_neg hw.2,e1,e2]
 by_cases h3:r.op=3
 ·rw [if_pos h3,if_pos h3]
 ·rw [if_neg h3,if_neg h3]
  by_cases h4:r.op=4
  ·rw [if_pos h4,if_pos h4]
  ·rw [if_neg h4,if_neg h4]
   by_cases h5:r.op=5
   ·rw [if_pos h5,if_pos h5]
    dsimp only
    have k1:=val_trim a
    have k2:=val_trim b
    rw [e1,e2] at k1
    have:=part_same h hw.1 hw.2 (a:=val a) (b:=val b) (by rw [k1,k2,Nat.mul_mod,e3,←Nat.mul_mod]) (fun hne=>by
     have h6:val (trim a)≠val (trim b):=fun e=>hne (by rw [k1,k2,e])
     have h7:=e4 h6
     have hp:=p10 (b.length - (trim b).length)
     have h8:=Nat.mul_le_mul_left (val (trim a)) hp
     have h9:=Nat.mul_le_mul_left (val (trim b)) hp
     rw [k1,k2]
     omega)
    rw [this]
   ·rw [if_neg h5,if_neg h5]
    by_cases h6:r.op=6
    ·rw [if_pos h6,if_pos h6]
     dsimp only
     rw [part_same h hw.1 hw.2 e3 e4]
    ·rw [if_neg h6,if_neg h6]
theorem fract_has {l:List Rel} (h:∀ r∈l,OkR r) {fr:Str} (hf:allD fr):∃ w t,w≤fr.length∧t<300∧okE w t=true∧vecZ l (strE fr.length w t)=vecZ l fr∧val (strE fr.length w t)≤val fr:=by
 have hc:=cls2_le (val (trim fr))
 have hm:=cls2_mod (val (trim fr))
 have hwl:=trim_len fr
 have hta:=trim_allD hf
 have hlt:=val_lt hta
 have hz:=trim_nil_iff (l:=fr)
 have hok:okE (trim fr).length (cls2 (val (trim fr)))=true:=by
  rw [okE_iff]
  by_cases he:trim fr= []
  ·rw [he]
   refine⟨by simp [cls2,val_nil],fun _=>by simp [cls2,val_nil],by simp [cls2,val_nil];decide⟩
  ·have h1:=trim_mod hf he
   have h2:=List.length_pos_iff.2 he
   refine⟨⟨fun e=>by omega,fun e=>by omega⟩,fun e=>by omega,?_⟩
   have:=dtx_len_le (n:=cls2 (val (trim fr))) (m:=(trim fr).length) (by omega) (by omega) h2
   omega
 have ht:cls2 (val (trim fr))<1000:=by omega
 have hs:=strE_trim (n:=fr.length) ht hok hwl
 refine⟨(trim fr).length,cls2 (val (trim fr)),hwl,by omega,hok,vecZ_iff.2 ⟨?_,?_⟩,?_⟩
 ·unfold vecF
  refine List.map_congr_left (fun r hr=>?_)
  obtain⟨h1,h2⟩:=List.mem_filter.1 hr
  refine fT_same (h r h1) (by simpa using h2) (strE_good ht) hf (strE_len hok hwl) hs.1 (by rw [hs.2.1,hm]) (fun hne=>?_)
  rw [hs.2.1] at hne ⊢
  exact cls2_big hne
 ·have h1:zero fr=true↔(trim fr).length=0:=by rw [←hz,List.length_eq_zero_iff]
  have h2:=hs.2.2
  cases e1:zero (strE fr.length (trim fr).length (cls2 (val (trim fr))))<;>cases e2:zero fr
  ·rfl
  ·rw [e1] at h2;have:=h2.2 (h1.1 e2);cases this
  ·have:=h1.2 (h2.1 e1);rw [e2] at this;cases this
  ·rfl
 ·rw [strE_val ht hok,val_trim fr]
  exact Nat.mul_le_mul_right _ hc.1
theorem enF_mem {n k w t:Nat} (hw:w<k) (ht:t<300) (h:okE w t=true):strE n w t∈enF n k:=
 List.mem_flatMap.2 ⟨w,List.mem_range.2 hw,List.mem_map.2 ⟨t,List.mem_filter.2 ⟨List.mem_range.2 ht,h⟩,rfl⟩⟩
theorem enF_of {n k:Nat} {s:Str} (h:s∈enF n k):∃ w t,w<k∧t<300∧okE w t=true∧s=strE n w t:=by
 obtain⟨w,h1,h2⟩:=List.mem_flatMap.1 h
 obtain⟨t,h3,rfl⟩:=List.mem_map.1 h2
 obtain⟨h4,h5⟩:=List.mem_filter.1 h3
 exact⟨w,t,List.mem_range.1 h1,List.mem_range.1 h4,h5,rfl⟩
end Go.Proofs.YtobapaodpcheiaaGreatDoor
