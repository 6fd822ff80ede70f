/- What the row stands on, part 11. -/
import Derived.Deep.AppendLies
import Derived.Test.YtobapaodpcheiaaGreatDoorQ10
namespace Go.Proofs.YtobapaodpcheiaaGreatDoor
open Go.RowKit
set_option linter.unusedVariables false
def Apart (v u:Value):Prop:=∀ b,v.ownBlock=some b→u.ownBlock≠some b
theorem Apart.symm {v u:Value} (h:Apart v u):Apart u v:=fun b hb e=>h b e hb
section
variable {α:Type} {k:Nat} {enc:α→List Value} {w w':World} {base:Nat} {e:TypeId} {v:Value} {l:List α}
theorem own_grown {row:Option Nat} (h:Own1 k enc w base e v l) (hg:w.grownBy w' row) (hne:∀ g,v.ownBlock=some g→row≠some g):Own1 k enc w' base e v l:=by
 refine⟨h.1,?_⟩
 rcases h.2 with h0|⟨g,cap,cur,hv,hB,hg',hr⟩
 ·exact .inl h0
 ·exact .inr ⟨g,cap,cur,hv,hB,(hg.block g (Array.getElem?_eq_some_iff.1 hg').1 (fun e=>hne g (by rw [hv];rfl) e.symm)).trans hg',hr⟩
theorem own_lt (h:Own1 k enc w base e v l):∀ b,v.ownBlock=some b→base≤b∧b<w.heap.size:=h.lt_
theorem own_blk (h:Own1 k enc w base e v l):∀ g,v.ownBlock=some g→base≤g∧∃ cs,Blk g e cs w:=by
 intro g hg
 rcases h.2 with⟨rfl,_⟩|⟨g',cap,cur,rfl,hB,hg',_⟩
 ·cases hg
 ·cases hg
  exact⟨hB,cur,hg'⟩
theorem own_type {B:Nat} {t:TypeId} {cs:Array Value} (h:Own1 k enc w base e v l) (hb:Blk B t cs w) (hne:t≠e):v.ownBlock≠some B:=by
 intro hv
 obtain⟨_,cs',h2⟩:=own_blk h B hv
 have:(some (Obj.cells cs t (0,0)):Option Obj)=some (Obj.cells cs' e (0,0)):=by rw [←show w.heap[B]? =_ from hb,←show w.heap[B]? =_ from h2]
 injection this with this
 injection this with _ h4
 exact hne h4
end
section
variable {α:Type} {k:Nat} {enc:α→List Value}
variable {P:Program} {ops:Array Oper} {rest:List Oper} {o:Oper} {a:Act} {Q:Exit→Act→World→Prop}
def Lie (k:Nat) (enc:α→List Value) (base:Nat) (e:TypeId) (w0:World) (v:Value) (l:List α) (v':Value) (w':World):Prop:=
 Own1 k enc w' base e v' l∧Below base w0 w'∧w0.grownBy w' v.ownBlock∧∀ b,v'.ownBlock=some b→v.ownBlock=some b∨w0.heap.size≤b
theorem wpList_append_lie {w0:World} {e:TypeId} {cs:Array Value} {x:α} {N:Nat} (hN:w0.heap.size=N) (hgd:o.guard=none) (s y:Operand) (t:TypeId)
  (ho:o.op= .call {callee:= .builtin .append,args:=#[s,y],argTypes:=#[t,t]})
  (base:Nat) (i:TypeInfo) (z:Value) (by_:Nat) (ht:P.underlying t=some (.slice e)) (hi:P.info? e=some i) (hz:i.zero=some z) (hsize:i.size=k) (hby:i.bytes=by_) (hb64:by_≤64) (hzs:z.cells.size=k) (hk0:0<k)
  (hk:∀ x:α,(enc x).length=k) (h1c:∀ x:α,∀ u∈enc x,u.oneCell'=true)
  (v:Value) (l:List α) (hcs:cs.toList=enc x) (hs:a.eval s=v) (hown:Own1 k enc w0 base e v l) (hx:a.eval y= .slice (some ⟨N,0,none⟩) 1 1)
  (hl:l.length≤1000000000) (hbase:base≤N)
  (h:∀ v' w',Lie k enc base e w0 v (l++ [x]) v' w'→wpList P ops Q rest (a.put o.dst v') w'):wpList P ops Q (o::rest) a (w0.alloc (.cells cs e)):=by
 subst hN
 refine wpList_append_lies (w:=w0.alloc (.cells cs e)) hgd s y t ho base e i z k by_ ht hi hz hsize hby hzs hk0 v l.length (l.flatMap enc) hs (World.ownsRow.alloc hown _) ⟨w0.heap.size,0,none⟩ 1 1 cs.toList hx (by rw [hcs,hk,Nat.one_mul]) (cells_new _ _ _) (fun u hu=>h1c x u (by rw [←hcs];exact hu)) (by omega) (by unfold maxLen;omega) (Nat.le_trans (Nat.mul_le_mul_left _ hb64) (by omega)) (by simp;omega) _ rfl ?_
 intro g cap w' h2 h3 h4 h5
 refine h _ w' ⟨?_,((Below.refl base w0).alloc hbase _).grown h3 (by simp;omega) (fun j e=>(World.ownsRow.lt hown j e).1),(World.grownBy_alloc _ _ _).trans h3,fun b hb=>?_⟩
 ·unfold Own1
  rw [List.flatMap_append,List.length_append,List.flatMap_cons,List.flatMap_nil,List.append_nil,←hcs]
  exact h2
 ·have hgb:g=b:=by
   have:(some g:Option Nat)=some b:=hb
   injection this
  subst hgb
  rcases h4 with h4|h4
  ·exact .inl h4
  ·right
   rw [h4]
   simp
end
section
variable {α β:Type} {k k':Nat} {enc:α→List Value} {enc':β→List Value} {w0 w':World} {base base':Nat} {e e':TypeId} {v v' u:Value} {l:List α} {m:List β}
theorem Lie.blk {B:Nat} {t:TypeId} {cs:Array Value} (h:Lie k enc base e w0 v l v' w') (hb:Blk B t cs w0) (hne:v.ownBlock≠some B):Blk B t cs w'∧v'.ownBlock≠some B:=by
 obtain⟨_,_,h3,h4⟩:=h
 refine⟨(h3.block B hb.lt (fun e=>hne e.symm)).trans hb,fun hv=>?_⟩
 rcases h4 B hv with h5|h5
 ·exact hne h5
 ·have:=hb.lt
  omega
end
def bit (b:Bool):Nat:=if b=true then 1 else 0
theorem rd_grown {α:Type} {k:Nat} {enc:α→List Value} {w w':World} {v:Value} {l:List α} {row:Option Nat} (h:Rd k enc w v l) (hg:w.grownBy w' row) (hne:∀ b,v.ownBlock=some b→row≠some b):Rd k enc w' v l:=by
 obtain⟨⟨a,c,rfl,h1,h2,hx⟩,hn⟩:=h
 refine⟨⟨a,c,rfl,h1,h2,fun hl=>?_⟩,hn⟩
 obtain⟨b,off,ha,hlt,hc⟩:=hx hl
 subst ha
 exact⟨b,off,rfl,Nat.lt_of_lt_of_le hlt hg.size,fun i x hi j u hu=>(World.cell?_of_block (w:=w) (a:=⟨b,off+i*k+j,none⟩) (hg.block b hlt (fun e=>hne b rfl e.symm))).trans (hc i x hi j u hu)⟩
structure RowsOk (w:World) (raws:List RawS) (l:List (List Nat)):Prop where
 len:raws.length=l.length
 rd:∀(i:Nat) (h:i<raws.length) (h':i<l.length),Rd 1 encN w (.slice raws[i].a raws[i].n raws[i].c) l[i]
 lt:∀ x∈raws,∀ b,(Value.slice x.a x.n x.c).ownBlock=some b→b<w.heap.size
def ApR (raws:List RawS) (v:Value):Prop:=∀ x∈raws,Apart v (.slice x.a x.n x.c)
theorem RowsOk.below {w w':World} {raws:List RawS} {l:List (List Nat)} (h:RowsOk w raws l) (hb:Below w.heap.size w w'):RowsOk w' raws l:=
 ⟨h.len,fun i a b=>(h.rd i a b).below hb,fun x hx b hb'=>Nat.lt_of_lt_of_le (h.lt x hx b hb') hb.size⟩
theorem RowsOk.grown {w w':World} {raws:List RawS} {l:List (List Nat)} {row:Option Nat} (h:RowsOk w raws l) (hg:w.grownBy w' row) (hne:∀ x∈raws,∀ b,(Value.slice x.a x.n x.c).ownBlock=some b→row≠some b):RowsOk w' raws l:=
 ⟨h.len,fun i a b=>rd_grown (h.rd i a b) hg (hne _ (List.getElem_mem a)),fun x hx b hb'=>Nat.lt_of_lt_of_le (h.lt x hx b hb') hg.size⟩
section
variable {α:Type} {k:Nat} {enc:α→List Value} {w0 w':World} {base:Nat} {e:TypeId} {v v':Value} {l:List α}
theorem Lie.rows (h:Lie k enc base e w0 v l v' w') {raws:List RawS} {m:List (List Nat)} (hr:RowsOk w0 raws m) (ha:ApR raws v):RowsOk w' raws m∧ApR raws v':=by
 obtain⟨_,_,h3,h4⟩:=h
 refine⟨hr.grown h3 (fun x hx b hb e=>ha x hx b e hb),fun x hx b hb hx'=>?_⟩
 rcases h4 b hb with h5|h5
 ·exact ha x hx b h5 hx'
 ·have:=hr.lt x hx b hx'
  omega
theorem Lie.kind (h:Lie k enc base e w0 v l v' w') (hv:Own1 k enc w0 base e v []∨∃ l0,Own1 k enc w0 base e v l0) {β:Type} {k':Nat} {enc':β→List Value} {base':Nat} {e':TypeId} {u:Value} {m:List β} (ho:Own1 k' enc' w0 base' e' u m) (hne:e'≠e):Own1 k' enc' w' base' e' u m:=by
 refine own_grown ho h.2.2.1 (fun g hg e1=>?_)
 obtain⟨_,cs,hb⟩:=own_blk ho g hg
 rcases hv with hv|⟨l0,hv⟩
 ·exact own_type hv hb hne e1
 ·exact own_type hv hb hne e1
end
theorem own_apart {α β:Type} {k k':Nat} {enc:α→List Value} {enc':β→List Value} {w:World} {base base':Nat} {e e':TypeId} {v u:Value} {l:List α} {m:List β} (h:Own1 k enc w base e v l) (ho:Own1 k' enc' w base' e' u m) (hne:e'≠e):Apart v u:=fun b hb hu=>by
 obtain⟨_,cs,hb2⟩:=own_blk ho b hu
 exact own_type h hb2 hne hb
def RowsLo (base gout:Nat) (raws:List RawS):Prop:=∀ x∈raws,∀ b,(Value.slice x.a x.n x.c).ownBlock=some b→base≤b∧b≠gout
structure MS1 (w:World) (base gout:Nat) (v4 v5 v8 vN vF:Value) (f4 f5 f8:List Nat) (rawsN raws:List RawS) (l:List (List Nat)) (acc:List Bool):Prop where
 o4:Own1 1 encN w base 3 v4 f4
 o5:Own1 1 encN w base 3 v5 f5
 o8:Own1 1 encN w base 3 v8 f8
 a45:Apart v4 v5
 a48:Apart v4 v8
 a58:Apart v5 v8
 rows:RowsOk w raws l
 rlo:RowsLo base gout raws
 r4:ApR raws v4
 r5:ApR raws v5
 r8:ApR raws v8
 rN:ApR raws vN
 rF:ApR raws vF
 oN:Own1 1 encS w base 69 vN rawsN
 oF:Own1 1 encO w base 4 vF acc
section
variable {w w':World} {base gout:Nat} {v4 v5 v8 vN vF u:Value} {f4 f5 f8:List Nat} {rawsN raws:List RawS} {l:List (List Nat)} {acc:List Bool} {x:Nat}
theorem MS1.below (h:MS1 w base gout v4 v5 v8 vN vF f4 f5 f8 rawsN raws l acc) (hb:Below w.heap.size w w'):MS1 w' base gout v4 v5 v8 vN vF f4 f5 f8 rawsN raws l acc:=
 ⟨own_below h.o4 hb,own_below h.o5 hb,own_below h.o8 hb,h.a45,h.a48,h.a58,h.rows.below hb,h.rlo,h.r4,h.r5,h.r8,h.rN,h.rF,own_below h.oN hb,own_below h.oF hb⟩
theorem MS1.gN (h:MS1 w base gout v4 v5 v8 vN vF f4 f5 f8 rawsN raws l acc) {X:RawS} (y:Lie 1 encS base 69 w vN (rawsN++ [X]) u w'):MS1 w' base gout v4 v5 v8 u vF f4 f5 f8 (rawsN++ [X]) raws l acc:=by
 obtain⟨s1,s2⟩:=y.rows h.rows h.rN
 exact⟨y.kind (.inr ⟨_,h.oN⟩) h.o4 (by decide),y.kind (.inr ⟨_,h.oN⟩) h.o5 (by decide),y.kind (.inr ⟨_,h.oN⟩) h.o8 (by decide),h.a45,h.a48,h.a58,s1,h.rlo,h.r4,h.r5,h.r8,s2,h.rF,y.1,y.kind (.inr ⟨_,h.oN⟩) h.oF (by decide)⟩
theorem MS1.gF (h:MS1 w base gout v4 v5 v8 vN vF f4 f5 f8 rawsN raws l acc) {X:Bool} (y:Lie 1 encO base 4 w vF (acc++ [X]) u w'):MS1 w' base gout v4 v5 v8 vN u f4 f5 f8 rawsN raws l (acc++ [X]):=by
 obtain⟨s1,s2⟩:=y.rows h.rows h.rF
 exact⟨y.kind (.inr ⟨_,h.oF⟩) h.o4 (by decide),y.kind (.inr ⟨_,h.oF⟩) h.o5 (by decide),y.kind (.inr ⟨_,h.oF⟩) h.o8 (by decide),h.a45,h.a48,h.a58,s1,h.rlo,h.r4,h.r5,h.r8,h.rN,s2,y.kind (.inr ⟨_,h.oF⟩) h.oN (by decide),y.1⟩
theorem grown_set (w:World) (G i:Nat) (u:Value):w.grownBy (w.setCell ⟨G,i,none⟩ u) (some G):=⟨rfl,rfl,rfl,by simp [World.setCell],fun k _ hk=>Below.heap_setCell _ _ _ _ (fun e=>hk (by rw [e]))⟩
theorem RowsOk.snoc (h:RowsOk w raws l) {p:Option Addr} {q:Nat} {m:List Nat} (hr:Rd 1 encN w (.slice p m.length q) m) (hlt:∀ b,(Value.slice p m.length q).ownBlock=some b→b<w.heap.size):RowsOk w (raws++ [⟨p,m.length,q⟩]) (l++ [m]):=by
 refine⟨by simp [h.len],fun i a b=>?_,fun x hx=>?_⟩
 ·rcases Nat.lt_or_ge i raws.length with h1|h1
  ·have h2:i<l.length:=by have:=h.len;omega
   simpa [List.getElem_append,h1,h2] using h.rd i h1 h2
  ·have h2:¬ i<l.length:=by have:=h.len;omega
   have h3:¬ i<raws.length:=by omega
   simpa [List.getElem_append,h3,h2] using hr
 ·rcases List.mem_append.1 hx with h1|h1
  ·exact h.lt x h1
  ·rw [List.mem_singleton] at h1
   subst h1
   exact hlt
end
section
variable {α:Type} {k:Nat} {enc:α→List Value}
variable {P:Program} {ops:Array Oper} {o:Oper} {a:Act} {K:Act→World→Prop} {Q:Exit→Act→World→Prop} {E:Prop}
theorem step_append_blk {w:World} {e:TypeId} {cs:Array Value} {x:α} {N:Nat} (hgd:o.guard=none) (s y:Operand) (t:TypeId)
  (ho:o.op= .call {callee:= .builtin .append,args:=#[s,y],argTypes:=#[t,t]})
  (base:Nat) (i:TypeInfo) (z:Value) (by_:Nat) (ht:P.underlying t=some (.slice e)) (hi:P.info? e=some i) (hz:i.zero=some z) (hsize:i.size=k) (hby:i.bytes=by_) (hb64:by_≤64) (hzs:z.cells.size=k) (hk0:0<k)
  (hk:∀ x:α,(enc x).length=k) (h1c:∀ x:α,∀ u∈enc x,u.oneCell'=true)
  (v:Value) (l:List α) (hcs:cs.toList=enc x) (hs:a.eval s=v) (hown:Own1 k enc w base e v l) (hx:a.eval y= .slice (some ⟨N,0,none⟩) 1 1) (hN:Blk N e cs w)
  (hl:l.length≤1000000000) (hbase:base≤w.heap.size)
  (h:∀ v' w',Lie k enc base e w v (l++ [x]) v' w'→K (a.put o.dst v') w'):if Region.wanted o (yielded ops a.tmps)=true then Oper.wp P o a w K Q else E:=by
 refine step_append_lies w hgd s y t ho base e i z k by_ ht hi hz hsize hby hzs hk0 v l.length (l.flatMap enc) hs hown ⟨N,0,none⟩ 1 1 cs.toList hx (by rw [hcs,hk,Nat.one_mul]) (fun j u hj=>?_) (fun u hu=>h1c x u (by rw [←hcs];exact hu)) (by omega) (by unfold maxLen;omega) (Nat.le_trans (Nat.mul_le_mul_left _ hb64) (by omega)) hbase _ rfl ?_
 ·rw [add_off,hN.cell,Nat.zero_add,←Array.getElem?_toList]
  exact hj
 ·intro g cap w' h2 h3 h4 h5
  refine h _ w' ⟨?_,(Below.refl base w).grown h3 hbase (fun j e=>(World.ownsRow.lt hown j e).1),h3,fun b hb=>?_⟩
  ·unfold Own1
   rw [List.flatMap_append,List.length_append,List.flatMap_cons,List.flatMap_nil,List.append_nil,←hcs]
   exact h2
  ·have hgb:g=b:=by
    have:(some g:Option Nat)=some b:=hb
    injection this
   subst hgb
   rcases h4 with h4|h4
   ·exact .inl h4
   ·exact .inr (by omega)
end
theorem put3_grown (W:World) (B:Nat) (a b c:Value):W.grownBy (put3 W B a b c) (some B):=((grown_set W B 0 a).trans (grown_set _ B 1 b)).trans (grown_set _ B 2 c)
theorem outN_succ (A:Aut) (cl:Nat→Nat) (i:Nat):outN A cl (i+1)=outN A cl i++ [rowsK A cl i]:=by
 unfold outN
 rw [List.range_succ,List.map_append,List.map_singleton]
theorem outF_pre {A:Aut} {fd F:List Nat} {i:Nat} (hp:fd<+:F) (hi:i<fd.length):((List.range (i+1)).map fun j=>A.f (F.getD j 0))=((List.range i).map fun j=>A.f (fd.getD j 0))++ [A.f (fd.getD i 0)]:=by
 rw [List.range_succ,List.map_append,List.map_singleton,pre_getD hp hi]
 congr 1
 refine List.map_congr_left fun j hj=>?_
 rw [pre_getD hp (by have:=List.mem_range.1 hj;omega)]
theorem outF_succ {A:Aut} {cl:Nat→Nat} {i:Nat} (h:i<(fdK A cl i).length):outF A cl (i+1)=outF A cl i++ [A.f ((fdK A cl i).getD i 0)]:=by
 have hp:=fdK_pre A cl i
 unfold outF
 generalize fdK A cl (i+1)=F at hp ⊢
 exact outF_pre hp h
theorem outN_len (A:Aut) (cl:Nat→Nat) (m:Nat):(outN A cl m).length=m:=by unfold outN;simp
theorem outF_len (A:Aut) (cl:Nat→Nat) (m:Nat):(outF A cl m).length=m:=by unfold outF;simp
theorem row_len_le {A:Aut} {cl:Nat→Nat} (hA:A.Ok) {fd:List Nat} (h:FdOk A cl fd) {s:Nat} (hs:s<A.n) {c:Nat} (hc:c≤11):(rowK A cl fd s c).2.length≤A.n:=(FdOk.row hA h hs c hc).len
section
variable {α:Type} {k:Nat} {enc:α→List Value}
variable {P:Program} {ops:Array Oper} {rest:List Oper} {o:Oper} {a:Act} {Q:Exit→Act→World→Prop}
theorem wpList_append_lieN {w:World} {e:TypeId} (hgd:o.guard=none) (s y:Operand) (t:TypeId)
  (ho:o.op= .call {callee:= .builtin .append,args:=#[s,y],argTypes:=#[t,t]})
  (base:Nat) (i:TypeInfo) (z:Value) (by_:Nat) (ht:P.underlying t=some (.slice e)) (hi:P.info? e=some i) (hz:i.zero=some z) (hsize:i.size=k) (hby:i.bytes=by_) (hb64:by_≤64) (hzs:z.cells.size=k) (hk0:0<k)
  (hk:∀ x:α,(enc x).length=k) (h1c:∀ x:α,∀ u∈enc x,u.oneCell'=true)
  (v:Value) (l r:List α) (ad:Option Addr) (c n:Nat) (hn:r.length=n) (hs:a.eval s=v) (hown:Own1 k enc w base e v l) (hx:a.eval y= .slice ad n c) (hu:Rd k enc w (.slice ad n c) r) (h0:0<n)
  (hl:l.length+n≤1000000000) (hbase:base≤w.heap.size)
  (h:∀ v' w',Lie k enc base e w v (l++r) v' w'→wpList P ops Q rest (a.put o.dst v') w'):wpList P ops Q (o::rest) a w:=by
 subst hn
 obtain⟨⟨ad',c',hv,hc1,hc2,hc⟩,hn⟩:=hu
 cases hv
 obtain⟨b,off,hb,_,hcc⟩:=hc (by intro e;rw [e] at h0;simp at h0)
 subst hb
 refine wpList_append_lies (w:=w) hgd s y t ho base e i z k by_ ht hi hz hsize hby hzs hk0 v l.length (l.flatMap enc) hs hown ⟨b,off,none⟩ r.length c (r.flatMap enc) hx (flat_len hk r) ?_ ?_ (by omega) (by unfold maxLen;omega) (Nat.le_trans (Nat.mul_le_mul_left _ hb64) (by omega)) hbase _ rfl ?_
 ·intro j u hj
  obtain⟨i',x,jj,h1,h2,h3⟩:=flat_inv hk r j u hj
  rw [add_off,h3,←Nat.add_assoc]
  exact hcc i' x h1 jj u h2
 ·intro u hu
  obtain⟨x,_,hx⟩:=List.mem_flatMap.1 hu
  exact h1c x u hx
 ·intro g cap w' h2 h3 h4 h5
  refine h _ w' ⟨?_,(Below.refl base w).grown h3 hbase (fun j e=>(World.ownsRow.lt hown j e).1),h3,fun b hb=>?_⟩
  ·unfold Own1
   rw [List.flatMap_append,List.length_append]
   exact h2
  ·have hgb:g=b:=by
    have:(some g:Option Nat)=some b:=hb
    injection this
   subst hgb
   rcases h4 with h4|h4
   ·exact .inl h4
   ·exact .inr (by omega)
end
theorem Tryz.infoR:(Tryz.prog.info? 52).map (fun i=>(i.zero,i.size,i.bytes))=some (some (.agg #[.int .i64 0,.int .i64 0,.bool false,.slice none 0 0]),4,48):=by kernel_rfl
theorem Tryz.infoSS:(Tryz.prog.info? 91).map (fun i=>(i.zero,i.size,i.bytes))=some (some (.slice none 0 0),1,24):=by kernel_rfl
structure RO (w:World) (G:Nat) (z1 z2 z3 z4 z5 z6 va vl:Value) (raws:List RawR) (lraws:List RawS) (rs:List Rel) (ls:List (List Nat)) (w':World):Prop where
 ko:Blk G 90 #[va,vl,z1,z2,z3,z4,z5,z6] w'
 oa:Own1 4 encR w' (G+1) 52 va raws
 la:raws.length=rs.length
 ra:∀(i:Nat) (h:i<raws.length) (h':i<rs.length),RdRel w raws[i] rs[i]
 ol:Own1 1 encS w' (G+1) 91 vl lraws
 ll:lraws.length=ls.length
 rl:∀(i:Nat) (h:i<lraws.length) (h':i<ls.length),Own1 1 encU w' (G+1) 75 (.slice lraws[i].a lraws[i].n lraws[i].c) ls[i]
 bw:Below G w w'
section
variable {w w' w'':World} {G:Nat} {va vl u v6 z1 z2 z3 z4 z5 z6:Value} {raws:List RawR} {lraws:List RawS} {rs:List Rel} {ls:List (List Nat)} {cur:List Nat}
theorem RO.below (h:RO w G z1 z2 z3 z4 z5 z6 va vl raws lraws rs ls w') (hb:Below w'.heap.size w' w''):RO w G z1 z2 z3 z4 z5 z6 va vl raws lraws rs ls w'':=
 ⟨Blk.below h.ko hb,own_below h.oa hb,h.la,h.ra,own_below h.ol hb,h.ll,fun i a b=>own_below (h.rl i a b) hb,st h.bw hb (by have:=h.ko.lt;omega)⟩
theorem RO.lt (h:RO w G z1 z2 z3 z4 z5 z6 va vl raws lraws rs ls w'):G+1≤w'.heap.size:=h.ko.lt
theorem RO.gS (h:RO w G z1 z2 z3 z4 z5 z6 va vl raws lraws rs ls w') (o6:Own1 1 encU w' (G+1) 75 v6 cur) (ap:ApR lraws v6) {m:List Nat} (y:Lie 1 encU (G+1) 75 w' v6 m u w''):RO w G z1 z2 z3 z4 z5 z6 va vl raws lraws rs ls w''∧ApR lraws u:=by
 refine⟨⟨(y.blk h.ko (own_type o6 h.ko (by decide))).1,y.kind (.inr ⟨_,o6⟩) h.oa (by decide),h.la,h.ra,y.kind (.inr ⟨_,o6⟩) h.ol (by decide),h.ll,fun i a b=>own_grown (h.rl i a b) y.2.2.1 (fun g hg e1=>ap _ (List.getElem_mem a) g e1 hg),h.bw.trans (y.2.1.mono (by omega))⟩,fun x hx b hb hx'=>?_⟩
 rcases y.2.2.2 b hb with h5|h5
 ·exact ap x hx b h5 hx'
 ·obtain⟨i,hi,rfl⟩:=List.getElem_of_mem hx
  have:=(own_lt (h.rl i hi (by rw [←h.ll];exact hi)) b hx').2
  omega
theorem own_setG {α:Type} {k:Nat} {enc:α→List Value} {e t:TypeId} {v:Value} {m:List α} {cs:Array Value} {base:Nat} (ho:Own1 k enc w base e v m) (kb:Blk G t cs w) (hne:t≠e) (i:Nat) (z:Value):Own1 k enc (w.setCell ⟨G,i,none⟩ z) base e v m:=
 own_grown ho (grown_set w G i z) (fun g hg e1=>by
  injection e1 with e1
  exact own_type ho kb hne (by rw [e1];exact hg))
theorem RO.gA (h:RO w G z1 z2 z3 z4 z5 z6 va vl raws lraws rs ls w') {new:List RawR} {nr:List Rel} (hn:new.length=nr.length) (hr:∀(i:Nat) (h:i<new.length) (h':i<nr.length),RdRel w new[i] nr[i]) (y:Lie 4 encR (G+1) 52 w' va (raws++new) u w''):RO w G z1 z2 z3 z4 z5 z6 u vl (raws++new) lraws (rs++nr) ls (w''.setCell ⟨G,0,none⟩ u):=by
 have ko:=(y.blk h.ko (own_type h.oa h.ko (by decide))).1
 have hs:∀(i:Nat) (h1:i<(raws++new).length) (h2:i<(rs++nr).length),RdRel w (raws++new)[i] (rs++nr)[i]:=fun i h1 h2=>by
  have hla:=h.la
  rcases Nat.lt_or_ge i raws.length with h3|h3
  ·rw [List.getElem_append_left h3,List.getElem_append_left (by omega)]
   exact h.ra i h3 (by omega)
  ·rw [List.getElem_append_right h3,List.getElem_append_right (by omega)]
   have e:i - rs.length=i - raws.length:=by omega
   simp only [e]
   exact hr _ (by rw [List.length_append] at h1;omega) (by rw [List.length_append] at h1;omega)
 exact⟨ko.put 0 u,own_setG y.1 ko (by decide) 0 u,by rw [List.length_append,List.length_append,h.la,hn],hs,own_setG (y.kind (.inr ⟨_,h.oa⟩) h.ol (by decide)) ko (by decide) 0 u,h.ll,fun i a b=>own_setG (y.kind (.inr ⟨_,h.oa⟩) (h.rl i a b) (by decide)) ko (by decide) 0 u,(h.bw.trans (y.2.1.mono (by omega))).setCell (p:=⟨G,0,none⟩) (Nat.le_refl _) u⟩
theorem RO.gA6 (h:RO w G z1 z2 z3 z4 z5 z6 va vl raws lraws rs ls w') {new:List RawR} (y:Lie 4 encR (G+1) 52 w' va (raws++new) u w'') (o6:Own1 1 encU w' (G+1) 75 v6 cur):Own1 1 encU (w''.setCell ⟨G,0,none⟩ u) (G+1) 75 v6 cur:=
 own_setG (y.kind (.inr ⟨_,h.oa⟩) o6 (by decide)) (y.blk h.ko (own_type h.oa h.ko (by decide))).1 (by decide) 0 u
theorem RO.gL (h:RO w G z1 z2 z3 z4 z5 z6 va vl raws lraws rs ls w') {X:RawS} (o6:Own1 1 encU w' (G+1) 75 (.slice X.a X.n X.c) cur) (y:Lie 1 encS (G+1) 91 w' vl (lraws++ [X]) u w''):RO w G z1 z2 z3 z4 z5 z6 va u raws (lraws++ [X]) rs (ls++ [cur]) (w''.setCell ⟨G,1,none⟩ u):=by
 have ko:=(y.blk h.ko (own_type h.ol h.ko (by decide))).1
 have hs:∀(i:Nat) (h1:i<(lraws++ [X]).length) (h2:i<(ls++ [cur]).length),Own1 1 encU (w''.setCell ⟨G,1,none⟩ u) (G+1) 75 (.slice (lraws++ [X])[i].a (lraws++ [X])[i].n (lraws++ [X])[i].c) (ls++ [cur])[i]:=fun i h1 h2=>by
  have hla:=h.ll
  rcases Nat.lt_or_ge i lraws.length with h3|h3
  ·rw [List.getElem_append_left h3,List.getElem_append_left (by omega)]
   exact own_setG (y.kind (.inr ⟨_,h.ol⟩) (h.rl i h3 (by omega)) (by decide)) ko (by decide) 1 u
  ·have e:i - ls.length=0:=by rw [List.length_append,List.length_singleton] at h2;omega
   have e2:i - lraws.length=0:=by omega
   rw [List.getElem_append_right h3,List.getElem_append_right (by omega)]
   simp only [e,e2]
   exact own_setG (y.kind (.inr ⟨_,h.ol⟩) o6 (by decide)) ko (by decide) 1 u
 exact⟨ko.put 1 u,own_setG (y.kind (.inr ⟨_,h.ol⟩) h.oa (by decide)) ko (by decide) 1 u,h.la,h.ra,own_setG y.1 ko (by decide) 1 u,by rw [List.length_append,List.length_append,h.ll];rfl,hs,(h.bw.trans (y.2.1.mono (by omega))).setCell (p:=⟨G,1,none⟩) (Nat.le_refl _) u⟩
theorem RO.g2 (h:RO w G z1 z2 z3 z4 z5 z6 va vl raws lraws rs ls w') (y1 y2:Value):RO w G y1 y2 z3 z4 z5 z6 va vl raws lraws rs ls ((w'.setCell ⟨G,2,none⟩ y1).setCell ⟨G,3,none⟩ y2):=
 ⟨(h.ko.put 2 y1).put 3 y2,own_setG (own_setG h.oa h.ko (by decide) 2 y1) (h.ko.put 2 y1) (by decide) 3 y2,h.la,h.ra,own_setG (own_setG h.ol h.ko (by decide) 2 y1) (h.ko.put 2 y1) (by decide) 3 y2,h.ll,fun i a b=>own_setG (own_setG (h.rl i a b) h.ko (by decide) 2 y1) (h.ko.put 2 y1) (by decide) 3 y2,(h.bw.setCell (p:=⟨G,2,none⟩) (Nat.le_refl _) y1).setCell (p:=⟨G,3,none⟩) (Nat.le_refl _) y2⟩
theorem RO.g4 (h:RO w G z1 z2 z3 z4 z5 z6 va vl raws lraws rs ls w') (y1 y2:Value):RO w G z1 z2 y1 y2 z5 z6 va vl raws lraws rs ls ((w'.setCell ⟨G,4,none⟩ y1).setCell ⟨G,5,none⟩ y2):=
 ⟨(h.ko.put 4 y1).put 5 y2,own_setG (own_setG h.oa h.ko (by decide) 4 y1) (h.ko.put 4 y1) (by decide) 5 y2,h.la,h.ra,own_setG (own_setG h.ol h.ko (by decide) 4 y1) (h.ko.put 4 y1) (by decide) 5 y2,h.ll,fun i a b=>own_setG (own_setG (h.rl i a b) h.ko (by decide) 4 y1) (h.ko.put 4 y1) (by decide) 5 y2,(h.bw.setCell (p:=⟨G,4,none⟩) (Nat.le_refl _) y1).setCell (p:=⟨G,5,none⟩) (Nat.le_refl _) y2⟩
theorem RO.g6 (h:RO w G z1 z2 z3 z4 z5 z6 va vl raws lraws rs ls w') (y1 y2:Value):RO w G z1 z2 z3 z4 y1 y2 va vl raws lraws rs ls ((w'.setCell ⟨G,6,none⟩ y1).setCell ⟨G,7,none⟩ y2):=
 ⟨(h.ko.put 6 y1).put 7 y2,own_setG (own_setG h.oa h.ko (by decide) 6 y1) (h.ko.put 6 y1) (by decide) 7 y2,h.la,h.ra,own_setG (own_setG h.ol h.ko (by decide) 6 y1) (h.ko.put 6 y1) (by decide) 7 y2,h.ll,fun i a b=>own_setG (own_setG (h.rl i a b) h.ko (by decide) 6 y1) (h.ko.put 6 y1) (by decide) 7 y2,(h.bw.setCell (p:=⟨G,6,none⟩) (Nat.le_refl _) y1).setCell (p:=⟨G,7,none⟩) (Nat.le_refl _) y2⟩
theorem RO.relP {p q s:Nat × Nat} (hw:w.heap.size=G) (h:RO w G (.int .i64 p.1) (.int .i64 p.2) (.int .i64 q.1) (.int .i64 q.2) (.int .i64 s.1) (.int .i64 s.2) va vl raws lraws rs ls w'):RelP w' G rs ls p q s:=by
 obtain⟨pa,ca,rfl⟩:=h.oa.slice
 obtain⟨pl,cl,rfl⟩:=h.ol.slice
 have hk:=h.ko
 have o1:=h.oa.rd encR_len
 have o2:=h.ol.rd encS_len
 rw [h.la] at hk o1
 rw [h.ll] at hk o2
 exact⟨pa,ca,pl,cl,hk,⟨raws,o1,h.la,fun i a b=>(h.ra i a b).below (by rw [hw];exact h.bw)⟩,⟨lraws,o2,h.ll,fun i a b=>(h.rl i a b).rd encU_len⟩⟩
theorem RO.nil (w:World) (hG:w.heap.size=G):RO w G (.int .i64 0) (.int .i64 0) (.int .i64 0) (.int .i64 0) (.int .i64 0) (.int .i64 0) (.slice none 0 0) (.slice none 0 0) [] [] [] [] (w.alloc (.cells #[.slice none 0 0,.slice none 0 0,.int .i64 0,.int .i64 0,.int .i64 0,.int .i64 0,.int .i64 0,.int .i64 0] 90)):=by
 subst hG
 exact⟨Blk.new _ _ _,own1_nil _ _ _,rfl,fun i h _=>by simp at h,own1_nil _ _ _,rfl,fun i h _=>by simp at h,(Below.refl _ _).alloc (Nat.le_refl _) _⟩
end
theorem relsC_take {cs:List Cnd} {k:Nat} (h:k<cs.length):relsC (cs.take (k+1))=relsC (cs.take k)++cs[k].flatMap id:=by
 unfold relsC
 rw [List.take_succ_eq_append_getElem h,List.flatMap_append]
 simp
theorem listsO_take {cs:List Cnd} {k:Nat} (h:k<cs.length):listsO 0 (cs.take (k+1))=listsO 0 (cs.take k)++ [setsO (cntA_ (cs.take k)) cs[k]]:=by
 rw [List.take_succ_eq_append_getElem h,listsO_app,Nat.zero_add]
 rfl
theorem flat_take {c:Cnd} {j:Nat} (h:j<c.length):(c.take (j+1)).flatMap id=(c.take j).flatMap id++c[j]:=by
 rw [List.take_succ_eq_append_getElem h,List.flatMap_append]
 simp
theorem setsO_take {c:Cnd} {j:Nat} (off:Nat) (h:j<c.length):setsO off (c.take (j+1))=setsO off (c.take j)++ [(2 ^ c[j].length - 1)*2 ^ (off+cnt (c.take j))]:=by
 rw [List.take_succ_eq_append_getElem h,setsO_app]
 rfl
theorem cntS_le {cs:List Cnd} (h:∀ c∈cs,okC c=true):cntA_ cs≤6*cs.length:=by
 induction cs with
 |nil=>simp [cntA_]
 |cons c cs ih=>
  have h1:=(okC_iff.1 (h c (by simp))).2.2
  have h2:=ih (fun x hx=>h x (by simp [hx]))
  rw [cntA_cons,List.length_cons]
  omega
theorem cntA_take {cs:List Cnd} {k:Nat} (h:k<cs.length):cntA_ (cs.take (k+1))=cntA_ (cs.take k)+cnt cs[k]:=by
 rw [List.take_succ_eq_append_getElem h]
 unfold cntA_
 rw [List.map_append,List.sum_append]
 simp
theorem cntA_take_le (cs:List Cnd) (k:Nat):cntA_ (cs.take k)≤cntA_ cs:=by
 have:cntA_ cs=cntA_ (cs.take k)+cntA_ (cs.drop k):=by
  conv=>lhs;rw [←List.take_append_drop k cs]
  unfold cntA_
  rw [List.map_append,List.sum_append]
 omega
theorem rdI2 (w:World) (x y:Int):Rd 1 encI (w.alloc (.cells #[.int .i64 x,.int .i64 y] 3)) (.slice (some ⟨w.heap.size,0,none⟩) 2 2) [x,y]:=rd_ints w [x,y] (by simp) 3 _ rfl
theorem wrap_u64 {n:Nat} (h:n<18446744073709551616):IntKind.u64.wrap (n:Int)=(n:Int):=by
 simp only [IntKind.wrap,IntKind.bits,IntKind.signed]
 simp
 omega
set_option maxRecDepth 1000000 in
set_option maxHeartbeats 64000000 in
theorem relationsOf_any (cs:List Cnd) (hok:∀ c∈cs,okC c=true) (hn:cs.length≤10) (v:Value) (w:World) (hv:RdCs w v cs):
  Calls Tryz.prog 20 #[v] w fun e w'=>∃ G,e= .returned (.pointer (some ⟨G,0,none⟩))∧RelP w' G (relsC cs) (listsO 0 cs) (redL (relsC cs) 1 2) (redL (relsC cs) 3 4) (redL (relsC cs) 5 6)∧Below w.heap.size w w':=by
 obtain⟨iU,hiU,hzU,hkU,hbU⟩:=info_parts Tryz.infoU
 obtain⟨iR,hiR,hzR,hkR,hbR⟩:=info_parts Tryz.infoR
 obtain⟨iS,hiS,hzS,hkS,hbS⟩:=info_parts Tryz.infoSS
 obtain⟨ac,cc,rfl,hc1,hc2⟩:=hv.slice
 have HU:=Lib.hid hv
 have HOK:=Lib.hid hok
 have HTOT:=Lib.hid (cntS_le hok)
 obtain⟨G,hG⟩:∃ G,w.heap.size=G:=⟨_,rfl⟩
 have HRO:=Lib.hid (RO.nil w hG)
 obtain⟨W,hW⟩:∃ W,w.alloc (.cells #[.slice none 0 0,.slice none 0 0,.int .i64 0,.int .i64 0,.int .i64 0,.int .i64 0,.int .i64 0,.int .i64 0] 90)=W:=⟨_,rfl⟩
 rw [hW] at HRO
 have HWE:=Lib.hid hW
 have HGE:=Lib.hid hG
 clear hv hok hW
 go_enter Tryz.func20,Tryz.ntmps20
 go_upto_region 2 with fail
 rw [HWE.out]
 try rw [hG]
 clear hG
 go_wp2_with fail
 go_loopw [13] (fun v13 wr=>∃ k va vl raws lraws,k≤cs.length∧v13= .int .i64 (k:Nat)∧RO w G (.int .i64 0) (.int .i64 0) (.int .i64 0) (.int .i64 0) (.int .i64 0) (.int .i64 0) va vl raws lraws (relsC (cs.take k)) (listsO 0 (cs.take k)) wr) (fun v13 _=>cs.length - (intOf v13).toNat)
 case atStart=>exact⟨0,_,_,_,_,Nat.zero_le _,rfl,HRO.out⟩
 case round=>
  obtain⟨k,va,vl,raws,lraws,hk,rfl,hro⟩:=hrel
  have HR:=Lib.hid hro
  clear hro HRO
  by_cases hlt:k<cs.length
  ·obtain⟨bk,off,x1,x2,rfl,c0,hcd⟩:=HU.out.at_ k hlt
   have c0:=(HR.out.bw.cell (p:=⟨bk,off+k,none⟩) (by rw [←HGE.out];exact World.block_lt_of_cell? _ _ c0)).trans c0
   have h9:(k:Int)<(cs.length:Int):=by omega
   have HT1:=Lib.hid (relsC_take hlt)
   have HT2:=Lib.hid (listsO_take hlt)
   have HT3:=Lib.hid (cntA_take hlt)
   have HLE:=Lib.hid (cntA_take_le cs (k+1))
   have hokc:=okC_iff.1 (HOK.out _ (List.getElem_mem hlt))
   obtain⟨c,hc⟩:∃ c,cs[k]=c:=⟨_,rfl⟩
   rw [hc] at c0 hcd HT1 HT2 HT3 hokc
   have HOC:=Lib.hid hokc
   have HCD:=Lib.hid hcd
   have HCL:=Lib.hid (len_le_cnt hokc.2.1)
   have HC0:Hid (c.length≤6):=Lib.hid (by have:=HCL.out;have:=HOC.out.2.2;omega)
   have hc6:=HC0.out
   clear hc hcd hokc
   go_wp2_with fail
   go_loopw [6,19] (fun v6 v19 wr=>∃ j va raws cur,j≤c.length∧v19= .int .i64 (j:Nat)∧RO w G (.int .i64 0) (.int .i64 0) (.int .i64 0) (.int .i64 0) (.int .i64 0) (.int .i64 0) va vl raws lraws (relsC (cs.take k)++(c.take j).flatMap id) (listsO 0 (cs.take k)) wr∧cur=setsO (cntA_ (cs.take k)) (c.take j)∧Own1 1 encU wr (G+1) 75 v6 cur∧ApR lraws v6) (fun _ v19 _=>c.length - (intOf v19).toNat)
   case atStart=>
    refine⟨0,va,raws,[],Nat.zero_le _,rfl,?_,rfl,own1_nil _ _ _,fun x _ b hb=>by cases hb⟩
    have:=HR.out
    simpa using this
   case round=>
    rename World=>w1
    obtain⟨j,va1,raws1,cur,hj,rfl,hro,hcur,ho6,hap⟩:=hrel
    obtain⟨p6,c6,h6⟩:=ho6.slice
    subst h6
    obtain⟨pa,ca,ha⟩:=hro.oa.slice
    subst ha
    have HRJ:=Lib.hid hro
    have HO6:=Lib.hid ho6
    have HAP:=Lib.hid hap
    have HCUR:=Lib.hid hcur
    clear hro ho6 hap hcur HR
    by_cases hlj:j<c.length
    ·obtain⟨bj,offj,y1,y2,rfl,d0,hrd⟩:=HCD.out.at_ j hlj
     have d0:=(HRJ.out.bw.cell (p:=⟨bj,offj+j,none⟩) (by rw [←HGE.out];exact World.block_lt_of_cell? _ _ d0)).trans d0
     have h8:(j:Int)<(c.length:Int):=by omega
     have HS1:=Lib.hid (flat_take hlj)
     have HS2:=Lib.hid (setsO_take (cntA_ (cs.take k)) hlj)
     have HS3:=Lib.hid (cnt_take_succ hlj)
     have HS4:=Lib.hid (cnt_take_le c (j+1))
     have hln:=(okL_iff.1 (HOC.out.2.1 _ (List.getElem_mem hlj))).1
     obtain⟨l,hl⟩:∃ l,c[j]=l:=⟨_,rfl⟩
     rw [hl] at d0 hrd HS1 HS2 HS3 hln
     have HLN:Hid (raws1.length=cntA_ (cs.take k)+cnt (c.take j)):=Lib.hid (by rw [HRJ.out.la,List.length_append,rels_cnt,flat_cnt])
     obtain⟨rw1,hq1,hq2,hq3⟩:=hrd
     have HQ1:=Lib.hid hq1
     have HQ2:=Lib.hid hq2
     have HQ3:=Lib.hid hq3
     obtain⟨n,hn0⟩:∃ n,l.length=n:=⟨_,rfl⟩
     obtain⟨F,hF⟩:∃ F,raws1.length=F:=⟨_,rfl⟩
     have HN0:=Lib.hid hn0
     have HFE:=Lib.hid hF
     have hb1:F+n≤60:=by
      have q1:=HLN.out;have q2:=HS3.out;have q3:=HS4.out;have q4:=HT3.out;have q5:=HLE.out;have q6:=HTOT.out
      omega
     rw [hn0] at d0 hln HQ1
     rw [hF] at HRJ
     have HM:Hid (2 ^ n - 1<18446744073709551616):=Lib.hid (by have:=pow_lt64 (show n<64 by omega);omega)
     have HRL:=Lib.hid (run_lt (show F+n≤64 by omega))
     obtain⟨M,hM⟩:∃ M,2 ^ n=M:=⟨_,rfl⟩
     have s1:=shl_nat (show n<64 by omega) hM
     have hM0:0<M:=by rw [←hM];exact Nat.pow_pos (by omega)
     obtain⟨M1,hM1⟩:∃ M1,M - 1=M1:=⟨_,rfl⟩
     have s2:IntKind.u64.wrap ((M:Int) - 1)=(M1:Int):=by
      have e:(M:Int) - 1=(M1:Int):=by omega
      rw [e]
      exact wrap_u64 (by rw [←hM1,←hM];exact HM.out)
     obtain⟨R,hR⟩:∃ R,M1*2 ^ F=R:=⟨_,rfl⟩
     have s3:IntKind.u64.wrap ((M1:Int)*(2:Int) ^ F)=(R:Int):=by
      have e:(M1:Int)*(2:Int) ^ F=(R:Int):=by rw [←hR,Int.natCast_mul,Int.natCast_pow];rfl
      rw [e]
      exact wrap_u64 (by rw [←hR,←hM1,←hM];exact HRL.out)
     have HCN:Hid (setsO (cntA_ (cs.take k)) (c.take (j+1))=cur++ [R]):=Lib.hid (by rw [HS2.out,←HCUR.out,HN0.out,hM,hM1,←HLN.out,HFE.out,hR])
     have HRN:Hid (relsC (cs.take k)++(c.take (j+1)).flatMap id=(relsC (cs.take k)++(c.take j).flatMap id)++l):=Lib.hid (by rw [HS1.out,List.append_assoc])
     have HCB:Hid (cur.length≤6):=Lib.hid (by rw [HCUR.out,setsO_len,List.length_take];omega)
     have e0:w1.cell? ⟨G,0,none⟩=some (.slice pa F ca):=HRJ.out.ko.cell 0
     have hzz:G+1≤w1.heap.size:=HRJ.out.lt
     have HZZ:=Lib.hid hzz
     clear hl hq1 hq2 hq3 hn0 hF hM hM1 hR
     go_upto_region 9 with fail
     have hS:(fun wx:World=>wx.cell? ⟨G,0,none⟩=some (.slice pa F ca)) w1.drew:=e0
     refine region_hd 12 (fun wx:World=>wx.cell? ⟨G,0,none⟩=some (.slice pa F ca)) (by kernel_rfl) (by kernel_rfl) ?_
     refine hd_taken 0 (some 23) _ ?hdv0 rfl rfl (by kernel_rfl) (fun _ _ _ h=>h) (Or.inl ⟨by kernel_rfl,?hdy0⟩) hS ?hdr0
     case hdy0=>(intro wx hx;(try dsimp only at hx);go_simp;try with_reducible rfl)
     try simp only [Act.put,zI,zO,zS]
     refine hd_taken 1 (some 24) _ ?hdv1 rfl rfl (by kernel_rfl) (fun _ _ _ h=>h) (Or.inl ⟨by kernel_rfl,?hdy1⟩) hS ?hdr1
     case hdy1=>(intro wx hx;(try dsimp only at hx);go_simp;try with_reducible rfl)
     try simp only [Act.put,zI,zO,zS]
     refine hd_taken 2 (some 25) _ ?hdv2 rfl rfl (by kernel_rfl) (fun _ _ _ h=>h) (Or.inl ⟨by kernel_rfl,?hdy2⟩) hS ?hdr2
     case hdy2=>(intro wx hx;(try dsimp only at hx);go_simp;try with_reducible rfl)
     try simp only [Act.put,zI,zO,zS]
     refine hd_taken 3 (some 26) _ ?hdv3 rfl rfl (by kernel_rfl) (fun _ _ _ h=>h) (Or.inl ⟨by kernel_rfl,?hdy3⟩) hS ?hdr3
     case hdy3=>(intro wx hx;(try dsimp only at hx);go_simp;try with_reducible rfl)
     try simp only [Act.put,zI,zO,zS]
     refine hd_taken 4 (some 27) _ ?hdv4 rfl rfl (by kernel_rfl) (fun _ _ _ h=>h) (Or.inl ⟨by kernel_rfl,?hdy4⟩) hS ?hdr4
     case hdy4=>(intro wx hx;(try dsimp only at hx);go_simp;try with_reducible rfl)
     try simp only [Act.put,zI,zO,zS]
     refine hd_taken 5 (some 28) _ ?hdv5 rfl rfl (by kernel_rfl) (fun _ _ _ h=>h) (Or.inl ⟨by kernel_rfl,?hdy5⟩) hS ?hdr5
     case hdy5=>(intro wx hx;(try dsimp only at hx);go_simp;try with_reducible rfl)
     try simp only [Act.put,zI,zO,zS]
     refine hd_taken 6 (some 29) _ ?hdv6 rfl rfl (by kernel_rfl) (fun _ _ _ h=>h) (Or.inl ⟨by kernel_rfl,?hdy6⟩) hS ?hdr6
     case hdy6=>(intro wx hx;(try dsimp only at hx);go_simp;try with_reducible rfl)
     try simp only [Act.put,zI,zO,zS]
     refine hd_taken 7 (some 30) _ ?hdv7 rfl rfl (by kernel_rfl) (fun _ _ _ h=>h) (Or.inl ⟨by kernel_rfl,?hdy7⟩) hS ?hdr7
     case hdy7=>(intro wx hx;(try dsimp only at hx);go_simp;try with_reducible rfl)
     try simp only [Act.put,zI,zO,zS]
     refine hd_taken 8 (some 31) _ ?hdv8 rfl rfl (by kernel_rfl) (fun _ _ _ h=>h) (Or.inl ⟨by kernel_rfl,?hdy8⟩) hS ?hdr8
     case hdy8=>(intro wx hx;(try dsimp only at hx);go_simp;try with_reducible rfl)
     try simp only [Act.put,zI,zO,zS]
     refine hd_taken 9 (some 32) _ ?hdv9 rfl rfl (by kernel_rfl) (fun _ _ _ h=>h) (Or.inl ⟨by kernel_rfl,?hdy9⟩) hS ?hdr9
     case hdy9=>(intro wx hx;(try dsimp only at hx);go_simp;try with_reducible rfl)
     try simp only [Act.put,zI,zO,zS]
     refine hd_taken 10 (some 33) _ ?hdv10 rfl rfl (by kernel_rfl) (fun _ _ _ h=>h) (Or.inl ⟨by kernel_rfl,?hdy10⟩) hS ?hdr10
     case hdy10=>(intro wx hx;(try dsimp only at hx);go_simp;try with_reducible rfl)
     try simp only [Act.put,zI,zO,zS]
     have hS2:(fun wx:World=>wx.cell? ⟨G,0,none⟩=some (.slice pa F ca)) (w1.drew.alloc (.cells #[.int .u64 (R:Int)] 75)):=((HRJ.out.below ((Below.refl w1.heap.size w1).drew)).below ((Below.refl w1.drew.heap.size w1.drew).alloc (Nat.le_refl _) _)).ko.cell 0
     refine hd_one 11 _ rfl (by kernel_rfl) (by decide) (fun K11 hK11=>?_)
     go_simp
     refine hK11.out _ _ hS2 ?_
     clear hK11 K11 hS2
     try simp only [Act.put,zI,zO,zS]
     refine hd_done (by kernel_rfl) ?_
     simp only [List.drop_succ_cons,List.drop_zero]
     clear hS
     have O6:=Lib.hid (HO6.out.below ((Below.refl w1.heap.size w1).drew))
     go_wp2_with (first|(at_builtin;refine wpList_append_lie (w0:=w1.drew) (x:=R) (N:=w1.heap.size) (by simp) rfl _ _ 91 rfl (G+1) iU _ 8 Tryz.underlying91 hiU hzU hkU hbU (by omega) rfl (by omega) encU_len encU_one _ cur rfl rfl O6.out rfl (by have:=HCB.out;omega) (by simpa using HZZ.out) ?_;intro v9 w9 y9;obtain⟨p9,q9,e9⟩:=y9.1.slice;subst e9;have Y9:=Lib.hid y9;clear y9;have HR9:=Lib.hid ((HRJ.out.below ((Below.refl w1.heap.size w1).drew)).gS O6.out HAP.out Y9.out);have e1:w9.cell? ⟨G,0,none⟩=some (.slice pa F ca):=HR9.out.1.ko.cell 0;have e2:w9.frozen? ⟨G,0,none⟩=false:=HR9.out.1.ko.frozen 0)|(at_builtin;refine wpList_append_lieN rfl _ _ 48 rfl (G+1) iR _ 48 Tryz.underlying48 hiR hzR hkR hbR (by omega) rfl (by omega) encR_len encR_one _ raws1 rw1 y1 y2 n (by rw [HQ2.out,HN0.out]) rfl HR9.out.1.oa rfl (HQ1.out.below (by rw [HGE.out];exact HR9.out.1.bw)) (by omega) (by rw [HFE.out];omega) HR9.out.1.lt ?_;intro v8 w8 y8;obtain⟨p8,q8,e8⟩:=y8.1.slice;subst e8;have Y8:=Lib.hid y8;have b8:=(y8.blk HR9.out.1.ko (own_type HR9.out.1.oa HR9.out.1.ko (by decide))).1;clear y8;have f1:w8.cell? ⟨G,0,none⟩=some (.slice pa F ca):=b8.cell 0;have f2:w8.frozen? ⟨G,0,none⟩=false:=b8.frozen 0;clear b8)|go_in)
     have hrx:=HR9.out.1.gA HQ2.out HQ3.out Y8.out
     have hox:=HR9.out.1.gA6 Y8.out Y9.out.1
     have hax:=HR9.out.2
     simp only [List.length_append,List.length_singleton] at hrx hox hax
     have HAX:=Lib.hid hax
     have HRX:=Lib.hid hrx
     have HOX:=Lib.hid hox
     clear hrx hox hax
     go_roundw
     case measure=>simp [intOf];omega
     case rel=>exact⟨j+1,_,_,_,by omega,by go_num,by rw [HRN.out];exact HRX.out,HCN.out.symm,HOX.out,HAX.out⟩
    ·obtain rfl:j=c.length:=by omega
     have h8:¬ (c.length:Int)<(c.length:Int):=by omega
     have HCE:Hid (cur=setsO (cntA_ (cs.take k)) c):=Lib.hid (by rw [HCUR.out,List.take_length])
     have HRE:Hid (relsC (cs.take k)++(c.take c.length).flatMap id=relsC (cs.take (k+1))):=Lib.hid (by rw [HT1.out,List.take_length])
     have HLL:Hid (lraws.length=k):=Lib.hid (by rw [HRJ.out.ll,listsO_len,List.length_take];omega)
     obtain⟨pl,cl,hl⟩:=HRJ.out.ol.slice
     subst hl
     have e1:w1.cell? ⟨G,1,none⟩=some (.slice pl lraws.length cl):=HRJ.out.ko.cell 1
     have hzz:G+1≤w1.heap.size:=HRJ.out.lt
     have HZZ:=Lib.hid hzz
     have HOL:=Lib.hid HRJ.out.ol
     have HC6:Hid (cur.length≤6):=Lib.hid (by rw [HCE.out,setsO_len];exact HC0.out)
     go_wp2_with (first|(at_builtin;refine wpList_append_lie (w0:=w1) (x:=(⟨p6,cur.length,c6⟩:RawS)) (N:=w1.heap.size) rfl rfl _ _ 86 rfl (G+1) iS _ 24 Tryz.underlying86 hiS hzS hkS hbS (by omega) rfl (by omega) encS_len encS_one _ lraws rfl rfl HOL.out rfl (by have:=HLL.out;omega) HZZ.out ?_;intro v8 w8 y8;obtain⟨p8,q8,e8⟩:=y8.1.slice;subst e8;have Y8:=Lib.hid y8;have b8:=(y8.blk HRJ.out.ko (own_type HOL.out HRJ.out.ko (by decide))).1;clear y8;have f1:w8.cell? ⟨G,1,none⟩=some (.slice pl lraws.length cl):=b8.cell 1;have f2:w8.frozen? ⟨G,1,none⟩=false:=b8.frozen 1;clear b8)|go_in)
     have hrx:=HRJ.out.gL HO6.out Y8.out
     simp only [List.length_append,List.length_singleton] at hrx
     rw [HRE.out,HCE.out,←HT2.out] at hrx
     have HRX:=Lib.hid hrx
     clear hrx
     go_roundw
     case measure=>simp [intOf];omega
     case rel=>exact⟨k+1,_,_,_,_,by omega,by go_num,HRX.out⟩
  ·obtain rfl:k=cs.length:=by omega
   have h3:¬ (cs.length:Int)<(cs.length:Int):=by omega
   have HR0:Hid (RO w G (.int .i64 0) (.int .i64 0) (.int .i64 0) (.int .i64 0) (.int .i64 0) (.int .i64 0) va vl raws lraws (relsC cs) (listsO 0 cs) wr):=Lib.hid (by have:=HR.out;rwa [List.take_length] at this)
   have HRK:Hid (∀ r∈relsC cs,OkR r):=Lib.hid (relsC_ok HOK.out)
   have HRN:Hid ((relsC cs).length≤60):=Lib.hid (by rw [rels_cnt];have:=HTOT.out;omega)
   have HL12:=Lib.hid (redL_ok HRK.out 1 2)
   have HL34:=Lib.hid (redL_ok HRK.out 3 4)
   have HL56:=Lib.hid (redL_ok HRK.out 5 6)
   obtain⟨⟨L1,P1⟩,hq1⟩:∃ z,redL (relsC cs) 1 2=z:=⟨_,rfl⟩
   obtain⟨⟨L2,P2⟩,hq2⟩:∃ z,redL (relsC cs) 3 4=z:=⟨_,rfl⟩
   obtain⟨⟨L3,P3⟩,hq3⟩:∃ z,redL (relsC cs) 5 6=z:=⟨_,rfl⟩
   have HQ1:=Lib.hid hq1
   have HQ2:=Lib.hid hq2
   have HQ3:=Lib.hid hq3
   have HSC:Hid (∀(wx:World) (p q s:Nat × Nat) (x y:Int),RelP wx G (relsC cs) (listsO 0 cs) p q s→Calls Tryz.prog 42 #[.pointer (some ⟨G,0,none⟩),.slice (some ⟨wx.heap.size,0,none⟩) 2 2] (wx.alloc (.cells #[.int .i64 x,.int .i64 y] 3)) fun e w'=>e= .returned (.agg #[.int .i64 (redL (relsC cs) x y).1,.int .i64 (redL (relsC cs) x y).2])∧Below wx.heap.size wx w'):=Lib.hid (fun wx p q s x y hp=>by
    have b1:=(Below.refl wx.heap.size wx).alloc (Nat.le_refl _) (.cells #[.int .i64 x,.int .i64 y] 3)
    refine(scaleOf_any G (relsC cs) (listsO 0 cs) p q s HRK.out HRN.out x y _ _ (hp.below b1) (rdI2 wx x y)).mono ?_
    rintro e w2 ⟨rfl,b2⟩
    exact⟨rfl,st b1 b2 b1.size⟩)
   clear HR hq1 hq2 hq3
   go_wp2_with fail
   refine(HSC.out wr (0,0) (0,0) (0,0) 1 2 (HR0.out.relP HGE.out)).mono ?_
   rw [HQ1.out]
   rintro e w1 ⟨rfl,b1⟩
   have HR1:=Lib.hid (HR0.out.below b1)
   clear b1
   have k0:w1.cell? ⟨G,2,none⟩=some (.int .i64 0):=HR1.out.ko.cell 2
   have k1:w1.cell? ⟨G,3,none⟩=some (.int .i64 0):=HR1.out.ko.cell 3
   have k2:w1.frozen? ⟨G,2,none⟩=false:=HR1.out.ko.frozen 2
   have k3:w1.frozen? ⟨G,3,none⟩=false:=HR1.out.ko.frozen 3
   have k4:(w1.setCell ⟨G,2,none⟩ (.int .i64 L1)).cell? ⟨G,3,none⟩=some (.int .i64 0):=(HR1.out.ko.put 2 _).cell 3
   have k5:(w1.setCell ⟨G,2,none⟩ (.int .i64 L1)).frozen? ⟨G,3,none⟩=false:=(HR1.out.ko.put 2 _).frozen 3
   have HR2:=Lib.hid (HR1.out.g2 (.int .i64 L1) (.int .i64 P1))
   obtain⟨w2,hw2⟩:∃ w2,(w1.setCell ⟨G,2,none⟩ (.int .i64 L1)).setCell ⟨G,3,none⟩ (.int .i64 P1)=w2:=⟨_,rfl⟩
   rw [hw2] at HR2
   go_upto_region 15 with fail
   try rw [hw2]
   clear hw2 k0 k1 k2 k3 k4 k5
   go_wp2_with fail
   refine(HSC.out w2 (L1,P1) (0,0) (0,0) 3 4 (HR2.out.relP HGE.out)).mono ?_
   rw [HQ2.out]
   rintro e w3 ⟨rfl,b3⟩
   have HR3:=Lib.hid (HR2.out.below b3)
   clear b3
   have k0:w3.cell? ⟨G,4,none⟩=some (.int .i64 0):=HR3.out.ko.cell 4
   have k1:w3.cell? ⟨G,5,none⟩=some (.int .i64 0):=HR3.out.ko.cell 5
   have k2:w3.frozen? ⟨G,4,none⟩=false:=HR3.out.ko.frozen 4
   have k3:w3.frozen? ⟨G,5,none⟩=false:=HR3.out.ko.frozen 5
   have k4:(w3.setCell ⟨G,4,none⟩ (.int .i64 L2)).cell? ⟨G,5,none⟩=some (.int .i64 0):=(HR3.out.ko.put 4 _).cell 5
   have k5:(w3.setCell ⟨G,4,none⟩ (.int .i64 L2)).frozen? ⟨G,5,none⟩=false:=(HR3.out.ko.put 4 _).frozen 5
   have HR4:=Lib.hid (HR3.out.g4 (.int .i64 L2) (.int .i64 P2))
   obtain⟨w4,hw4⟩:∃ w4,(w3.setCell ⟨G,4,none⟩ (.int .i64 L2)).setCell ⟨G,5,none⟩ (.int .i64 P2)=w4:=⟨_,rfl⟩
   rw [hw4] at HR4
   go_upto_region 16 with fail
   try rw [hw4]
   clear hw4 k0 k1 k2 k3 k4 k5
   go_wp2_with fail
   refine(HSC.out w4 (L1,P1) (L2,P2) (0,0) 5 6 (HR4.out.relP HGE.out)).mono ?_
   rw [HQ3.out]
   rintro e w5 ⟨rfl,b5⟩
   have HR5:=Lib.hid (HR4.out.below b5)
   clear b5
   have k0:w5.cell? ⟨G,6,none⟩=some (.int .i64 0):=HR5.out.ko.cell 6
   have k1:w5.cell? ⟨G,7,none⟩=some (.int .i64 0):=HR5.out.ko.cell 7
   have k2:w5.frozen? ⟨G,6,none⟩=false:=HR5.out.ko.frozen 6
   have k3:w5.frozen? ⟨G,7,none⟩=false:=HR5.out.ko.frozen 7
   have k4:(w5.setCell ⟨G,6,none⟩ (.int .i64 L3)).cell? ⟨G,7,none⟩=some (.int .i64 0):=(HR5.out.ko.put 6 _).cell 7
   have k5:(w5.setCell ⟨G,6,none⟩ (.int .i64 L3)).frozen? ⟨G,7,none⟩=false:=(HR5.out.ko.put 6 _).frozen 7
   have HR6:=Lib.hid (HR5.out.g6 (.int .i64 L3) (.int .i64 P3))
   go_wp2
   go_ret
   exact⟨G,rfl,by rw [HQ1.out,HQ2.out,HQ3.out];exact HR6.out.relP (p:=(L1,P1)) (q:=(L2,P2)) (s:=(L3,P3)) HGE.out,by rw [HGE.out];exact HR6.out.bw⟩
structure Rg where
 pl:Nat
 hold:Nat
 cnt:Nat
 ten:Nat
 int:Bool
deriving DecidableEq
def encRg (x:Rg):List Value:=[.int .i64 x.pl,.int .u64 x.hold,.int .i64 x.cnt,.int .i64 x.ten,.bool x.int]
def stRg (l:List Rel) (place:Nat):Rg:=⟨place,upd l 6 0 (upd l 5 0 (upd l 4 0 (upd l 3 0 0))),0,0,true⟩
def nxW (l:List Rel) (p:Nat × Nat) (x:Rg) (d:Nat):Rg:=⟨1,upd l 2 (x.ten+d:Nat) (upd l 1 (x.ten+d:Nat) x.hold),x.cnt,redO p.1 p.2 (10*(x.ten+d)),x.int⟩
def nxF0 (l:List Rel) (q s:Nat × Nat) (x:Rg) (d:Nat):Rg:=⟨3,upd l 5 (x.ten+d:Nat) (upd l 3 (redO q.1 q.2 (x.cnt+1):Nat) x.hold),redO q.1 q.2 (x.cnt+1),redO s.1 s.2 (10*(x.ten+d)),x.int⟩
def nxF1 (l:List Rel) (y:Rg) (n:Nat):Rg:=⟨3,upd l 6 n (upd l 4 y.cnt (upd l 1 (-1) y.hold)),y.cnt,y.ten,false⟩
def nxF (l:List Rel) (q s:Nat × Nat) (x:Rg) (d:Nat):Rg:=if d=0 then nxF0 l q s x d else nxF1 l (nxF0 l q s x d) (x.ten+d)
def nxR (l:List Rel) (p q s:Nat × Nat) (x:Rg) (d:Nat):Rg:=
 if d=10∧x.pl=1 then⟨2,x.hold,x.cnt,0,x.int⟩ else if d=10∨x.pl=4 then⟨4,0,0,0,false⟩ else if x.pl=0∨x.pl=1 then nxW l p x d else nxF l q s x d
structure ScOk (p:Nat × Nat):Prop where
 lo:p.1≤101
 pos:0<p.2
 hi:p.2≤300
theorem scOk {l:List Rel} (h:∀ r∈l,OkR r) (a b:Int):ScOk (redL l a b):=by
 have:=redL_ok h a b
 exact⟨this.B,this.pos,le300 this.m⟩
theorem ScOk.lt {p:Nat × Nat} (h:ScOk p) (n:Nat):redO p.1 p.2 n≤400:=by
 have h1:=redO_lt (B:=p.1) h.pos n
 have:=h.lo
 have:=h.hi
 omega
structure RgOk (x:Rg):Prop where
 hold:x.hold<18446744073709551616
 cnt:x.cnt≤1000
 ten:x.ten≤1000
theorem stRg_ok {l:List Rel} (h6:l.length≤60) (place:Nat):RgOk (stRg l place):=
 ⟨upd_lt (by omega) _ _ (upd_lt (by omega) _ _ (upd_lt (by omega) _ _ (upd_lt (by omega) _ _ (by omega)))),by show 0≤1000;omega,by show 0≤1000;omega⟩
theorem nxR_ok {l:List Rel} (h6:l.length≤60) {p q s:Nat × Nat} (hp:ScOk p) (hq:ScOk q) (hs:ScOk s) {x:Rg} (h:RgOk x) (d:Nat):RgOk (nxR l p q s x d):=by
 have u:∀ o v h,h<18446744073709551616→upd l o v h<18446744073709551616:=fun o v h hh=>upd_lt (by omega) o v hh
 have hw:=hp.lt (10*(x.ten+d))
 have hc:=hq.lt (x.cnt+1)
 have hf:=hs.lt (10*(x.ten+d))
 unfold nxR
 split
 ·exact⟨h.hold,h.cnt,by show 0≤1000;omega⟩
 ·split
  ·exact⟨by show 0<_;omega,by show 0≤1000;omega,by show 0≤1000;omega⟩
  ·split
   ·exact⟨u _ _ _ (u _ _ _ h.hold),h.cnt,by show redO _ _ _≤1000;omega⟩
   ·unfold nxF
    split
    ·exact⟨u _ _ _ (u _ _ _ h.hold),by show redO _ _ _≤1000;omega,by show redO _ _ _≤1000;omega⟩
    ·exact⟨u _ _ _ (u _ _ _ (u _ _ _ (u _ _ _ (u _ _ _ h.hold)))),by show redO _ _ _≤1000;omega,by show redO _ _ _≤1000;omega⟩
def put5 (W:World) (B:Nat) (a b c d e:Value):World:=((((W.setCell ⟨B,0,none⟩ a).setCell ⟨B,1,none⟩ b).setCell ⟨B,2,none⟩ c).setCell ⟨B,3,none⟩ d).setCell ⟨B,4,none⟩ e
theorem put5_ok {w W:World} {B n:Nat} {t:TypeId} {a b c d e a' b' c' d' e':Value} (h:Blk B t #[a,b,c,d,e] W) (hw:Below n w W) (hn:n≤B):Blk B t #[a',b',c',d',e'] (put5 W B a' b' c' d' e')∧Below n w (put5 W B a' b' c' d' e'):=
 ⟨((((h.put 0 a').put 1 b').put 2 c').put 3 d').put 4 e',((((hw.setCell (p:=⟨B,0,none⟩) hn a').setCell (p:=⟨B,1,none⟩) hn b').setCell (p:=⟨B,2,none⟩) hn c').setCell (p:=⟨B,3,none⟩) hn d').setCell (p:=⟨B,4,none⟩) hn e'⟩
theorem resRgS {W:World} {tm:Array Value} {B:Nat} {t:TypeId} {a b c d e:Value} (t2:tm[4]?.getD undef= .pointer (some ⟨B,0,none⟩)) (h:Blk B t #[a,b,c,d,e] W):
  (results Tryz.f44 tm).run Tryz.prog W= .ok (.agg #[a,b,c,d,e]) W:=by
 have a0:W.cell? ⟨B,0,none⟩=some a:=h.cell 0
 have a1:W.cell? ⟨B,1,none⟩=some b:=h.cell 1
 have a2:W.cell? ⟨B,2,none⟩=some c:=h.cell 2
 have a3:W.cell? ⟨B,3,none⟩=some d:=h.cell 3
 have a4:W.cell? ⟨B,4,none⟩=some e:=h.cell 4
 simp [results,Tryz.f44,go_sem,t2,a0,a1,a2,a3,a4]
theorem resRgW {W:World} {tm:Array Value} {B:Nat} {t:TypeId} {a b c d e:Value} (t2:tm[6]?.getD undef= .pointer (some ⟨B,0,none⟩)) (h:Blk B t #[a,b,c,d,e] W):
  (results Tryz.f72 tm).run Tryz.prog W= .ok (.agg #[a,b,c,d,e]) W:=by
 have a0:W.cell? ⟨B,0,none⟩=some a:=h.cell 0
 have a1:W.cell? ⟨B,1,none⟩=some b:=h.cell 1
 have a2:W.cell? ⟨B,2,none⟩=some c:=h.cell 2
 have a3:W.cell? ⟨B,3,none⟩=some d:=h.cell 3
 have a4:W.cell? ⟨B,4,none⟩=some e:=h.cell 4
 simp [results,Tryz.f72,go_sem,t2,a0,a1,a2,a3,a4]
theorem resRgF {W:World} {tm:Array Value} {B:Nat} {t:TypeId} {a b c d e:Value} (t2:tm[6]?.getD undef= .pointer (some ⟨B,0,none⟩)) (h:Blk B t #[a,b,c,d,e] W):
  (results Tryz.f73 tm).run Tryz.prog W= .ok (.agg #[a,b,c,d,e]) W:=by
 have a0:W.cell? ⟨B,0,none⟩=some a:=h.cell 0
 have a1:W.cell? ⟨B,1,none⟩=some b:=h.cell 1
 have a2:W.cell? ⟨B,2,none⟩=some c:=h.cell 2
 have a3:W.cell? ⟨B,3,none⟩=some d:=h.cell 3
 have a4:W.cell? ⟨B,4,none⟩=some e:=h.cell 4
 simp [results,Tryz.f73,go_sem,t2,a0,a1,a2,a3,a4]
theorem resRgN {W:World} {tm:Array Value} {B:Nat} {t:TypeId} {a b c d e:Value} (t2:tm[6]?.getD undef= .pointer (some ⟨B,0,none⟩)) (h:Blk B t #[a,b,c,d,e] W):
  (results Tryz.f45 tm).run Tryz.prog W= .ok (.agg #[a,b,c,d,e]) W:=by
 have a0:W.cell? ⟨B,0,none⟩=some a:=h.cell 0
 have a1:W.cell? ⟨B,1,none⟩=some b:=h.cell 1
 have a2:W.cell? ⟨B,2,none⟩=some c:=h.cell 2
 have a3:W.cell? ⟨B,3,none⟩=some d:=h.cell 3
 have a4:W.cell? ⟨B,4,none⟩=some e:=h.cell 4
 simp [results,Tryz.f45,go_sem,t2,a0,a1,a2,a3,a4]
set_option maxRecDepth 1000000 in
set_option maxHeartbeats 16000000 in
theorem start_any (g:Nat) (l:List Rel) (ls:List (List Nat)) (p q s:Nat × Nat) (hl:∀ r∈l,OkR r) (h6:l.length≤60) (place:Nat) (w:World) (hP:RelP w g l ls p q s):
  Calls Tryz.prog 44 #[.pointer (some ⟨g,0,none⟩),.int .i64 place] w fun e w'=>e= .returned (.agg (encRg (stRg l place)).toArray)∧Below w.heap.size w w':=by
 have HP:=Lib.hid hP
 have HL:=Lib.hid hl
 have KA:=(Below.refl w.heap.size w).alloc (Nat.le_refl _) (.cells #[.int .i64 0,.int .u64 0,.int .i64 0,.int .i64 0,.bool false] 96)
 have KB:=KA.alloc KA.size (.cells #[.int .i64 place,.int .u64 0,.int .i64 0,.int .i64 0,.bool true] 96)
 have k4:=(Blk.new w 96 #[.int .i64 0,.int .u64 0,.int .i64 0,.int .i64 0,.bool false]).alloc (.cells #[.int .i64 place,.int .u64 0,.int .i64 0,.int .i64 0,.bool true] 96)
 have k5:=Blk.new (w.alloc (.cells #[.int .i64 0,.int .u64 0,.int .i64 0,.int .i64 0,.bool false] 96)) 96 #[.int .i64 place,.int .u64 0,.int .i64 0,.int .i64 0,.bool true]
 rw [World.size_alloc] at k5
 obtain⟨W,hW⟩:∃ W,(w.alloc (.cells #[.int .i64 0,.int .u64 0,.int .i64 0,.int .i64 0,.bool false] 96)).alloc (.cells #[.int .i64 place,.int .u64 0,.int .i64 0,.int .i64 0,.bool true] 96)=W:=⟨_,rfl⟩
 have zW:W.heap.size=w.heap.size+2:=by rw [←hW];simp
 rw [hW] at KB k4 k5
 obtain⟨G,hG⟩:∃ G,w.heap.size=G:=⟨_,rfl⟩
 rw [hG] at k4 k5 zW
 have k6:=rd_ints W [3,4,5,6] (by simp) 3 _ rfl
 have b7:=(Below.refl W.heap.size W).alloc (Nat.le_refl _) (.cells ([(3:Int),4,5,6].map fun x=>Value.int .i64 x).toArray 3)
 have HWE:=Lib.hid hW
 have HGE:=Lib.hid hG
 have HZW:=Lib.hid zW
 obtain⟨V,hV⟩:∃ V,W.alloc (.cells ([(3:Int),4,5,6].map fun x=>Value.int .i64 x).toArray 3)=V:=⟨_,rfl⟩
 rw [hV] at k6 b7
 have HK:=Lib.hid (st KB b7 KB.size)
 have HK4:=Lib.hid (k4.below b7)
 have HK5:=Lib.hid (k5.below b7)
 have HV6:=Lib.hid k6
 have HVE:Hid (W.alloc (.cells #[.int .i64 3,.int .i64 4,.int .i64 5,.int .i64 6] 3)=V):=Lib.hid hV
 have zV:V.heap.size=G+3:=by rw [←hV];simp [zW]
 have HZV:=Lib.hid zV
 clear hP hl KA KB k4 k5 hW k6 b7 hV zV
 go_enter Tryz.func44,Tryz.ntmps44
 go_upto_region 2 with fail
 rw [HWE.out]
 try rw [hG]
 clear hG
 go_upto_region 3 with fail
 go_wp2_with fail
 try rw [HVE.out]
 try rw [zW]
 go_loopw [12] (fun v12 wr=>∃(k H:Nat),k≤4∧v12= .int .i64 (k:Nat)∧H<18446744073709551616∧Hid ([3,4,5,6].foldl (fun h (o:Int)=>upd l o 0 h) 0=([3,4,5,6].drop k).foldl (fun h (o:Int)=>upd l o 0 h) H)∧Bt V.heap.size (G+1) V wr∧Blk (G+1) 96 #[.int .i64 place,.int .u64 H,.int .i64 0,.int .i64 0,.bool true] wr) (fun v12 _=>4 - (intOf v12).toNat)
 case atStart=>exact⟨0,0,by omega,rfl,by omega,Lib.hid rfl,Bt.refl _ _ _,HK5.out⟩
 case round=>
  obtain⟨k,H,hk,rfl,hH,HF,hb,hs5⟩:=hrel
  have HB:=Lib.hid hb
  have H5:=Lib.hid hs5
  have zr:=hb.size
  have HBW:Hid (Below w.heap.size w wr):=Lib.hid (HK.out.trans (bt_below hb (by have:=HGE.out;have:=HZV.out;omega) (by have:=HGE.out;omega)))
  clear hb hs5
  by_cases hlt:k<4
  ·have h9:(k:Int)<4:=by omega
   have hv6:=HV6.out
   obtain⟨bi,oi,hbi,ci⟩:=hv6.int_ k (by simpa using hlt)
   cases hbi
   have hne:W.heap.size≠G+1:=by rw [HZW.out];omega
   have ci':wr.cell? ⟨W.heap.size,0+k,none⟩=some (.int .i64 ([(3:Int),4,5,6][k]'(by simpa using hlt))):=(World.cell?_of_block (w:=V) (a:=⟨W.heap.size,0+k,none⟩) (HB.out.block W.heap.size (World.block_lt_of_cell? _ _ ci) hne)).trans ci
   have HFD:Hid (([3,4,5,6].drop k).foldl (fun h (o:Int)=>upd l o 0 h) H=([3,4,5,6].drop (k+1)).foldl (fun h (o:Int)=>upd l o 0 h) (upd l ([(3:Int),4,5,6][k]'(by simpa using hlt)) 0 H)):=Lib.hid (by rw [List.drop_eq_getElem_cons (by simpa using hlt),List.foldl_cons])
   obtain⟨o,ho⟩:∃ o,[(3:Int),4,5,6][k]'(by simpa using hlt)=o:=⟨_,rfl⟩
   rw [ho] at ci' HFD
   rw [Nat.zero_add,HZW.out] at ci'
   have HU:=Lib.hid (fun wx hb=>update_any g l ls p q s HL.out h6 H hH o 0 ⟨by omega,by omega⟩ wx (HP.out.below hb))
   have HUL:=Lib.hid (upd_lt (l:=l) (by omega) o 0 hH)
   obtain⟨H',hH'⟩:∃ H',upd l o 0 H=H':=⟨_,rfl⟩
   rw [hH'] at HFD HU HUL
   have c1:wr.cell? ⟨G+1,1,none⟩=some (.int .u64 H):=H5.out.cell 1
   clear ho hv6 ci hne hH'
   go_wp2_with fail
   refine(HU.out _ HBW.out).mono ?_
   rintro e w2 ⟨rfl,b2⟩
   have H52:=Lib.hid (H5.out.below b2)
   have HB2:=Lib.hid (HB.out.trans (Bt.of_below (b2.mono zr)))
   have c2:w2.cell? ⟨G+1,1,none⟩=some (.int .u64 H):=H52.out.cell 1
   have c3:w2.frozen? ⟨G+1,1,none⟩=false:=H52.out.frozen 1
   clear b2
   go_wp2
   go_roundw
   case measure=>simp [intOf]<;>omega
   case rel=>exact⟨k+1,H',by omega,by go_num,HUL.out,Lib.hid (HF.out.trans HFD.out),HB2.out.trans (Bt.setCell _ _ _ 1 _),H52.out.put 1 _⟩
  ·obtain rfl:k=4:=by omega
   have h3:¬ ((4:Nat):Int)<4:=by omega
   have HV:Hid (stRg l place=⟨place,H,0,0,true⟩):=Lib.hid (by unfold stRg;congr 1)
   have k4:=HK4.out.bt HB.out (by rw [HZV.out];omega) (by omega)
   have s0:wr.cell? ⟨G+1,0,none⟩=some (.int .i64 place):=H5.out.cell 0
   have s1:wr.cell? ⟨G+1,1,none⟩=some (.int .u64 H):=H5.out.cell 1
   have s2:wr.cell? ⟨G+1,2,none⟩=some (.int .i64 0):=H5.out.cell 2
   have s3:wr.cell? ⟨G+1,3,none⟩=some (.int .i64 0):=H5.out.cell 3
   have s4:wr.cell? ⟨G+1,4,none⟩=some (.bool true):=H5.out.cell 4
   have z00:wr.cell? ⟨G,0,none⟩=some (.int .i64 0):=(k4).cell 0
   have zf00:wr.frozen? ⟨G,0,none⟩=false:=(k4).frozen 0
   have z01:wr.cell? ⟨G,1,none⟩=some (.int .u64 0):=(k4).cell 1
   have zf01:wr.frozen? ⟨G,1,none⟩=false:=(k4).frozen 1
   have z02:wr.cell? ⟨G,2,none⟩=some (.int .i64 0):=(k4).cell 2
   have zf02:wr.frozen? ⟨G,2,none⟩=false:=(k4).frozen 2
   have z03:wr.cell? ⟨G,3,none⟩=some (.int .i64 0):=(k4).cell 3
   have zf03:wr.frozen? ⟨G,3,none⟩=false:=(k4).frozen 3
   have z04:wr.cell? ⟨G,4,none⟩=some (.bool false):=(k4).cell 4
   have zf04:wr.frozen? ⟨G,4,none⟩=false:=(k4).frozen 4
   have z11:(wr.setCell ⟨G,0,none⟩ (.int .i64 place)).cell? ⟨G,1,none⟩=some (.int .u64 0):=((k4).put 0 (.int .i64 place)).cell 1
   have zf11:(wr.setCell ⟨G,0,none⟩ (.int .i64 place)).frozen? ⟨G,1,none⟩=false:=((k4).put 0 (.int .i64 place)).frozen 1
   have z22:((wr.setCell ⟨G,0,none⟩ (.int .i64 place)).setCell ⟨G,1,none⟩ (.int .u64 H)).cell? ⟨G,2,none⟩=some (.int .i64 0):=(((k4).put 0 (.int .i64 place)).put 1 (.int .u64 H)).cell 2
   have zf22:((wr.setCell ⟨G,0,none⟩ (.int .i64 place)).setCell ⟨G,1,none⟩ (.int .u64 H)).frozen? ⟨G,2,none⟩=false:=(((k4).put 0 (.int .i64 place)).put 1 (.int .u64 H)).frozen 2
   have z33:(((wr.setCell ⟨G,0,none⟩ (.int .i64 place)).setCell ⟨G,1,none⟩ (.int .u64 H)).setCell ⟨G,2,none⟩ (.int .i64 0)).cell? ⟨G,3,none⟩=some (.int .i64 0):=((((k4).put 0 (.int .i64 place)).put 1 (.int .u64 H)).put 2 (.int .i64 0)).cell 3
   have zf33:(((wr.setCell ⟨G,0,none⟩ (.int .i64 place)).setCell ⟨G,1,none⟩ (.int .u64 H)).setCell ⟨G,2,none⟩ (.int .i64 0)).frozen? ⟨G,3,none⟩=false:=((((k4).put 0 (.int .i64 place)).put 1 (.int .u64 H)).put 2 (.int .i64 0)).frozen 3
   have z44:((((wr.setCell ⟨G,0,none⟩ (.int .i64 place)).setCell ⟨G,1,none⟩ (.int .u64 H)).setCell ⟨G,2,none⟩ (.int .i64 0)).setCell ⟨G,3,none⟩ (.int .i64 0)).cell? ⟨G,4,none⟩=some (.bool false):=(((((k4).put 0 (.int .i64 place)).put 1 (.int .u64 H)).put 2 (.int .i64 0)).put 3 (.int .i64 0)).cell 4
   have zf44:((((wr.setCell ⟨G,0,none⟩ (.int .i64 place)).setCell ⟨G,1,none⟩ (.int .u64 H)).setCell ⟨G,2,none⟩ (.int .i64 0)).setCell ⟨G,3,none⟩ (.int .i64 0)).frozen? ⟨G,4,none⟩=false:=(((((k4).put 0 (.int .i64 place)).put 1 (.int .u64 H)).put 2 (.int .i64 0)).put 3 (.int .i64 0)).frozen 4
   have HFIN:Hid (Blk G 96 #[.int .i64 place,.int .u64 H,.int .i64 0,.int .i64 0,.bool true] (put5 wr G (.int .i64 place) (.int .u64 H) (.int .i64 0) (.int .i64 0) (.bool true))∧Below w.heap.size w (put5 wr G (.int .i64 place) (.int .u64 H) (.int .i64 0) (.int .i64 0) (.bool true))):=Lib.hid (put5_ok k4 HBW.out (by rw [HGE.out];exact Nat.le_refl _))
   clear k4 hk
   go_wp2
   exact bodyPost_ret (v:= .agg #[.int .i64 place,.int .u64 H,.int .i64 0,.int .i64 0,.bool true]) (resRgS rfl HFIN.out.1) rfl ⟨by rw [HV.out];rfl,HFIN.out.2⟩
end Go.Proofs.YtobapaodpcheiaaGreatDoor
