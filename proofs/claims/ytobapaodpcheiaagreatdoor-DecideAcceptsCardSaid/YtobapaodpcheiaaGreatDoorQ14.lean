/- What the row stands on, part 14. -/
import Derived.Maps.OwnSet
import Derived.DeepKeys4
import Derived.Test.YtobapaodpcheiaaGreatDoorQ13
namespace Go.Proofs.YtobapaodpcheiaaGreatDoor
open Go.RowKit Go.Maps Go.WideMaps
set_option linter.unusedVariables false
def chS (w:List Nat):Str:=w.map fun c=>UInt8.ofNat (48+c)
theorem chS_len (w:List Nat):(chS w).length=w.length:=List.length_map _
theorem chS_snoc (w:List Nat) (c:Nat):chS (w++ [c])=chS w++ [UInt8.ofNat (48+c)]:=by unfold chS;rw [List.map_append];rfl
def encAr (x:List Nat × Rg):List Value:= .string (ofL (chS x.1))::encRg x.2
theorem encAr_len (x:List Nat × Rg):(encAr x).length=6:=rfl
theorem encAr_one (x:List Nat × Rg):∀ u∈encAr x,u.oneCell'=true:=by
 intro u hu
 simp [encAr,encRg] at hu
 rcases hu with rfl|rfl|rfl|rfl|rfl|rfl<;>rfl
theorem Tryz.infoAr:(Tryz.prog.info? 100).map (fun i=>(i.zero,i.size,i.bytes))=some (some (.agg #[.string ByteArray.empty,.int .i64 0,.int .u64 0,.int .i64 0,.int .i64 0,.bool false]),6,56):=by kernel_rfl
theorem Rd.arr {w:World} {a:Option Addr} {n c:Nat} {l:List (List Nat × Rg)} (h:Rd 6 encAr w (.slice a n c) l) (i:Nat) (hi:i<l.length):∃ b off,a=some ⟨b,off,none⟩∧b<w.heap.size∧w.cell? ⟨b,off+i*6,none⟩=some (.string (ofL (chS l[i].1)))∧w.cell? ⟨b,off+i*6+1,none⟩=some (.int .i64 l[i].2.pl)∧w.cell? ⟨b,off+i*6+2,none⟩=some (.int .u64 l[i].2.hold)∧w.cell? ⟨b,off+i*6+3,none⟩=some (.int .i64 l[i].2.cnt)∧w.cell? ⟨b,off+i*6+4,none⟩=some (.int .i64 l[i].2.ten)∧w.cell? ⟨b,off+i*6+5,none⟩=some (.bool l[i].2.int):=by
 obtain⟨b,off,ha,hlt,hx⟩:=h.some_ i hi
 exact⟨b,off,ha,hlt,hx 0 _ rfl,hx 1 _ rfl,hx 2 _ rfl,hx 3 _ rfl,hx 4 _ rfl,hx 5 _ rfl⟩
theorem own_arr (w:World) (base:Nat) (hb:base≤w.heap.size) (x:List Nat × Rg):Own1 6 encAr (w.alloc (.cells (encAr x).toArray 100)) base 100 (.slice (some ⟨w.heap.size,0,none⟩) 1 1) [x]:=
 ⟨by rfl,.inr ⟨w.heap.size,1,(encAr x).toArray,rfl,hb,heap_alloc_new w _,Nat.le_refl _,by decide,rfl,rfl⟩⟩
def rgV (x:Rg):Value:= .agg (encRg x).toArray
theorem rgV_inj (x y:Rg) (h:rgV x=rgV y):x=y:=by
 obtain⟨x1,x2,x3,x4,x5⟩:=x
 obtain⟨y1,y2,y3,y4,y5⟩:=y
 unfold rgV encRg at h
 simp at h
 obtain⟨h1,h2,h3,h4,h5⟩:=h
 simp only [Rg.mk.injEq]
 exact⟨by omega,by omega,by omega,by omega,h5⟩
theorem keyedRg:Keyed Tryz.prog 96:=Keyed.of_law (deep_law_laid (by kernel_rfl) (m:=2) (by omega) (of_decide_eq_true (by kernel_rfl)) (by kernel_rfl) (by kernel_rfl))
theorem litsI {d n:Nat} (h:n≤1000000000):Tryz.prog.keyLits (d+1) 3 [.int .i64 (n:Int)]=some [.int .i64 (n:Int)]:=by
 have:(Lit.int .i64 (n:Int)).wf=true:=WalkArith.wf_i64 ⟨by omega,by omega⟩
 simp only [Program.keyLits,Tryz.underlying3,this,and_self,if_true]
theorem litsU {d n:Nat} (h:n<18446744073709551616):Tryz.prog.keyLits (d+1) 75 [.int .u64 (n:Int)]=some [.int .u64 (n:Int)]:=by
 have:(Lit.int .u64 (n:Int)).wf=true:=WalkArith.wf_u64 ⟨by omega,by omega⟩
 simp only [Program.keyLits,Tryz.underlying75,this,and_self,if_true]
theorem litsB {d:Nat} (b:Bool):Tryz.prog.keyLits (d+1) 4 [.bool b]=some [.bool b]:=by
 simp only [Program.keyLits,Tryz.underlying4]
theorem rgV_key {x:Rg} (hx:RgOk x) (hp:x.pl≤10):∃ l,keyOf Tryz.prog 96 (rgV x)=some l:=by
 obtain⟨x1,x2,x3,x4,x5⟩:=x
 obtain⟨h2,h3,h4⟩:=hx
 dsimp only at h2 h3 h4 hp
 have hd:Tryz.prog.types.size=(Tryz.prog.types.size - 1)+1:=by kernel_rfl
 have hc:Tryz.prog.cellsOf 96=5:=by kernel_rfl
 have hi:Tryz.prog.cellsOf 3=1:=by kernel_rfl
 have hu:Tryz.prog.cellsOf 75=1:=by kernel_rfl
 have hb:Tryz.prog.cellsOf 4=1:=by kernel_rfl
 have hk:Tryz.prog.keyType 96=true:=by kernel_rfl
 have hf:(rgV ⟨x1,x2,x3,x4,x5⟩).formed Tryz.prog 96=true:=by
  simp [rgV,encRg,Value.formed,Tryz.underlying96,hc]
 have hl:Tryz.prog.keyLits (Tryz.prog.types.size+1) 96 (rgV ⟨x1,x2,x3,x4,x5⟩).cells.toList=some [.int .i64 (x1:Int),.int .u64 (x2:Int),.int .i64 (x3:Int),.int .i64 (x4:Int),.bool x5]:=by
  rw [hd]
  have e1:=litsI (d:=Tryz.prog.types.size - 1) (n:=x1) (by omega)
  have e2:=litsU (d:=Tryz.prog.types.size - 1) h2
  have e3:=litsI (d:=Tryz.prog.types.size - 1) (n:=x3) (by omega)
  have e4:=litsI (d:=Tryz.prog.types.size - 1) (n:=x4) (by omega)
  have e5:=litsB (d:=Tryz.prog.types.size - 1) x5
  show Tryz.prog.keyLits (_+1) 96 [.int .i64 (x1:Int),.int .u64 (x2:Int),.int .i64 (x3:Int),.int .i64 (x4:Int),.bool x5]=_
  unfold Program.keyLits
  simp only [Tryz.underlying96,hc,hi,hu,hb,List.length_cons,List.length_nil,Nat.zero_add,Nat.reduceAdd]
  rw [if_pos ⟨trivial,by kernel_rfl⟩]
  simp only [List.mapM_cons,List.mapM_nil,List.drop_zero,List.drop_succ_cons,List.take_succ_cons,List.take_zero,hi,hu,hb,e1,e2,e3,e4,e5,Option.bind_eq_bind,Option.bind_some,Option.pure_def,Option.map_some]
  rfl
 refine⟨.string (keyBytes [.int .i64 (x1:Int),.int .u64 (x2:Int),.int .i64 (x3:Int),.int .i64 (x4:Int),.bool x5]),?_⟩
 unfold keyOf
 simp only [Tryz.underlying96,hk,hf,Bool.and_self,if_true,hl,Option.map_some]
theorem plainElem_bool_inv {H:Type} {P:Program} {e:TypeId} (he:P.underlying e=some .bool) {v:Value} {z:DataW H × List MemPlace} (h:plainElem P e v=some z):∃ a,v= .bool a∧z=(.lit (.bool a),[]):=by
 unfold plainElem at h
 rw [he] at h
 cases v<;>simp at h
 exact⟨_,rfl,h.symm⟩
def MapB (w:World) (B n:Nat) (fd:List Rg):Prop:=
 ∃ D:DataW Unit,w.ownsMap Tryz.prog 96 (plainElem Tryz.prog 4) B n D∧IsMap D∧∀ x l,keyOf Tryz.prog 96 (rgV x)=some l→Maps.has D l=decide (x∈fd)∧(x∈fd→D.atKey l (.lit (.bool false))= .lit (.bool true))
section
variable {w w':World} {B n:Nat} {fd:List Rg}
theorem MapB.lt (h:MapB w B n fd):B<w.heap.size:=by
 obtain⟨D,h,_⟩:=h
 exact h.lt
theorem MapB.kept {row:Option Nat} (h:MapB w B n fd) (hg:w.grownBy w' row) (hne:some B≠row):MapB w' B n fd:=by
 obtain⟨D,h,h2⟩:=h
 exact⟨D,h.kept hg hne,h2⟩
theorem grown_of_belowM (h:Below w.heap.size w w'):w.grownBy w' none:=⟨h.os,h.tape,h.output,h.size,fun k hk _=>h.block k hk⟩
theorem MapB.below (h:MapB w B n fd) (hb:Below w.heap.size w w'):MapB w' B n fd:=h.kept (grown_of_belowM hb) (by simp)
theorem MapB.mono {m:Nat} (h:MapB w B n fd) (hn:n≤m):MapB w B m fd:=by
 obtain⟨D,h,h2⟩:=h
 exact⟨D,h.mono hn,h2⟩
theorem mapB_made (w:World):MapB (w.alloc (.map #[] 0)) w.heap.size 0 []:=
 ⟨.map [],World.ownsMap_made _ _ _ _,isMap_empty,fun x l _=>⟨by simp [Maps.has_eq],fun h=>by cases h⟩⟩
set_option maxRecDepth 100000 in
theorem MapB.look (h:MapB w B n fd) {x:Rg} {l:Lit} (hk:keyOf Tryz.prog 96 (rgV x)=some l):
  (Instr.lookup 129 (.map (some B)) (rgV x) false).run Tryz.prog w= .ok (.bool (decide (x∈fd))) w:=by
 obtain⟨D,h,hD,h2⟩:=h
 obtain⟨v,ps,hrun,hv⟩:=h.lookup keyedRg Tryz.underlying129 (z:= .bool false) (by have:=Tryz.zeroValue4 (w:=w);exact this) (plainElem_bool Tryz.underlying4 false) hk
 obtain⟨h3,h4⟩:=h2 x l hk
 obtain⟨c,rfl,hc⟩:=plainElem_bool_inv Tryz.underlying4 hv
 have hc1:=congrArg Prod.fst hc
 dsimp only at hc1
 by_cases hx:x∈fd
 ·rw [h4 hx] at hc1
  injection hc1 with hc1
  injection hc1 with hc1
  rw [←hc1] at hrun
  rw [decide_eq_true hx]
  exact hrun
 ·have h5:Maps.has D l=false:=by rw [h3];exact decide_eq_false hx
  rw [atKey_of_not_has h5] at hc1
  injection hc1 with hc1
  injection hc1 with hc1
  rw [←hc1] at hrun
  rw [decide_eq_false hx]
  exact hrun
theorem MapB.put (h:MapB w B n fd) (hn:n≤2000000000) {x:Rg} {l:Lit} (hk:keyOf Tryz.prog 96 (rgV x)=some l):
  ∃ w',(Instr.mapUpdate 129 (.map (some B)) (rgV x) (.bool true)).run Tryz.prog w= .ok () w'∧MapB w' B (n+1) (fd++ [x])∧w.grownBy w' (some B):=by
 obtain⟨D,h,hD,h2⟩:=h
 obtain⟨w',hrun,hown,hg⟩:=h.update keyedRg Tryz.underlying129 (by unfold maxLen;omega) hk (d:= .lit (.bool true)) (ps:=[]) (plainElem_bool Tryz.underlying4 true)
 refine⟨w',hrun,⟨_,hown,hD.put _ _,fun y m hm=>?_⟩,hg⟩
 by_cases hy:y=x
 ·subst hy
  rw [hk] at hm
  cases hm
  exact⟨by rw [has_put_same hD (keyedRg.key hk)];simp,fun _=>by rw [atKey_put_same hD (keyedRg.key hk)]⟩
 ·have hne:m≠l:=fun e=>hy (rgV_inj _ _ (keyedRg.inj hm (e▸hk)))
  obtain⟨h3,h4⟩:=h2 y m hm
  refine⟨by rw [has_put_other hne,h3,decide_eq_decide];simp [hy],fun hmem=>?_⟩
  have:y∈fd:=by simpa [hy] using hmem
  rw [atKey_put_other hne,h4 this]
end
theorem own_mapB {α:Type} {k:Nat} {enc:α→List Value} {w w':World} {base B n:Nat} {e:TypeId} {f:List Rg} {v:Value} {m:List α} (h:Own1 k enc w base e v m) (hm:MapB w B n f) (hg:w.grownBy w' (some B)):Own1 k enc w' base e v m:=
 own_grown h hg (fun b hb e1=>by
  injection e1 with e1
  subst e1
  obtain⟨_,cs,hc⟩:=own_blk h B hb
  obtain⟨D,⟨es,clock,h2,_⟩,_⟩:=hm
  rw [show w.heap[B]? =_ from hc] at h2
  cases h2)
theorem blk_mapB {w w':World} {B n:Nat} {t:TypeId} {f:List Rg} {b:Nat} {cs:Array Value} (h:Blk b t cs w) (hm:MapB w B n f) (hg:w.grownBy w' (some B)):Blk b t cs w':=
 (hg.block b h.lt (fun e1=>by
  injection e1 with e1
  subst e1
  obtain⟨D,⟨es,clock,h2,_⟩,_⟩:=hm
  rw [show w.heap[b]? =_ from h] at h2
  cases h2)).trans h
theorem MapB.own {α:Type} {k:Nat} {enc:α→List Value} {w w':World} {base B n:Nat} {e:TypeId} {f:List Rg} {v:Value} {m:List α} (hm:MapB w B n f) (h:Own1 k enc w base e v m) (hg:w.grownBy w' v.ownBlock):MapB w' B n f:=
 hm.kept hg (fun e1=>by
  obtain⟨_,cs,hc⟩:=own_blk h B e1.symm
  obtain⟨D,⟨es,clock,h2,_⟩,_⟩:=hm
  rw [show w.heap[B]? =_ from hc] at h2
  cases h2)
structure SW (w:World) (base Bm:Nat) (v:Value) (Q:List (List Nat × Rg)) (w':World):Prop where
 own:Own1 6 encAr w' base 100 v Q
 map:MapB w' Bm Q.length (Q.map Prod.snd)
 low:base≤Bm
 bw:Below base w w'
theorem SW.below {w w' w'':World} {base Bm:Nat} {v:Value} {Q:List (List Nat × Rg)} (h:SW w base Bm v Q w') (hb:Below w'.heap.size w' w''):SW w base Bm v Q w'':=
 ⟨own_below h.own hb,h.map.below hb,h.low,st h.bw hb (by have:=h.map.lt;have:=h.low;omega)⟩
def runR (f:Rg→Nat→Rg) (x:Rg) (w:List Nat):Rg:=w.foldl f x
theorem runR_snoc (f:Rg→Nat→Rg) (x:Rg) (w:List Nat) (c:Nat):runR f x (w++ [c])=f (runR f x w) c:=by unfold runR;rw [List.foldl_append];rfl
structure SI (f:Rg→Nat→Rg) (x0:Rg) (m N:Nat) (Q:List (List Nat × Rg)) (i c:Nat):Prop where
 head:Q[0]? =some ([],x0)
 nd:(Q.map Prod.snd).Nodup
 run:∀ q∈Q,runR f x0 q.1=q.2∧(∀ s∈q.1,s<m)∧q.1.length≤N
 srt:∀(a b:Nat) (hab:a<b) (hb:b<Q.length),bef (Q[a]'(by omega)).1 Q[b].1
 clo:∀ a (ha:a<Q.length) s,s<m→(a<i∨(a=i∧s<c))→∃ q∈Q,q.2=f Q[a].2 s∧befE q.1 (Q[a].1++ [s])
 org:∀ b (hb:b<Q.length),0<b→∃ a s,∃ ha:a<b,(a<i∨(a=i∧s<c))∧Q[b].1=(Q[a]'(by omega)).1++ [s]
section
variable {f:Rg→Nat→Rg} {x0:Rg} {m N:Nat} {Q:List (List Nat × Rg)} {i c:Nat}
theorem nodup_snocR {α:Type} {l:List α} {x:α} (h:l.Nodup) (hx:x ∉l):(l++ [x]).Nodup:=by
 rw [List.nodup_append]
 exact⟨h,by simp,fun a ha b hb e=>hx (by rw [List.mem_singleton] at hb;rw [←hb,←e];exact ha)⟩
theorem SI.start (f:Rg→Nat→Rg) (x0:Rg) (m N:Nat):SI f x0 m N [([],x0)] 0 0:=by
 refine⟨rfl,by simp,fun q hq=>?_,fun a b h hb=>by simp at hb;omega,fun a ha s hs h=>by omega,fun b hb h=>by simp at hb;omega⟩
 rw [List.mem_singleton] at hq
 subst hq
 exact⟨rfl,fun s hs=>(by cases hs),Nat.zero_le _⟩
theorem SI.upper (h:SI f x0 m N Q i c) (hi:i<Q.length):∀ q∈Q,bef q.1 (Q[i].1++ [c]):=by
 intro q hq
 obtain⟨b,hb,rfl⟩:=List.getElem_of_mem hq
 by_cases h0:b=0
 ·subst h0
  have e:Q[0]=([],x0):=by
   have:=h.head
   rw [List.getElem?_eq_getElem hb] at this
   injection this
  rw [e]
  exact .inl (by simp)
 ·obtain⟨a,s,ha,h1,h2⟩:=h.org b hb (by omega)
  rw [h2]
  rcases h1 with h1|⟨h1,h3⟩
  ·exact bef_snoc (h.srt a i h1 hi) s c
  ·subst h1
   exact bef_last _ h3
theorem SI.known (h:SI f x0 m N Q i c) (hi:i<Q.length) (hk:f Q[i].2 c∈Q.map Prod.snd):SI f x0 m N Q i (c+1):=by
 refine⟨h.head,h.nd,h.run,h.srt,fun a ha s hs hh=>?_,fun b hb h0=>?_⟩
 ·rcases hh with hh|⟨rfl,hh⟩
  ·exact h.clo a ha s hs (.inl hh)
  ·rcases Nat.lt_or_ge s c with h1|h1
   ·exact h.clo a ha s hs (.inr ⟨rfl,h1⟩)
   ·obtain rfl:s=c:=by omega
    obtain⟨q,hq,e⟩:=List.mem_map.1 hk
    exact⟨q,hq,e,.inr (h.upper hi q hq)⟩
 ·obtain⟨a,s,ha,h1,h2⟩:=h.org b hb h0
  exact⟨a,s,ha,by omega,h2⟩
theorem SI.new (h:SI f x0 m N Q i c) (hi:i<Q.length) (hc:c<m) (hN:Q[i].1.length<N) (hk:f Q[i].2 c ∉Q.map Prod.snd):SI f x0 m N (Q++ [(Q[i].1++ [c],f Q[i].2 c)]) i (c+1):=by
 have hup:=h.upper hi
 have hri:=h.run Q[i] (List.getElem_mem hi)
 refine⟨?_,?_,fun q hq=>?_,fun a b hab hb=>?_,fun a ha s hs hh=>?_,fun b hb h0=>?_⟩
 ·rw [List.getElem?_append_left (by omega)];exact h.head
 ·rw [List.map_append]
  exact nodup_snocR h.nd hk
 ·rcases List.mem_append.1 hq with hq|hq
  ·exact h.run q hq
  ·rw [List.mem_singleton] at hq
   subst hq
   refine⟨by rw [runR_snoc,hri.1],fun s hs=>?_,by rw [List.length_append,List.length_singleton];omega⟩
   rcases List.mem_append.1 hs with hs|hs
   ·exact hri.2.1 s hs
   ·rw [List.mem_singleton] at hs;omega
 ·rcases Nat.lt_or_ge b Q.length with h1|h1
  ·rw [List.getElem_append_left h1,List.getElem_append_left (by omega)]
   exact h.srt a b hab h1
  ·have hb':b=Q.length:=by rw [List.length_append,List.length_singleton] at hb;omega
   subst hb'
   rw [List.getElem_append_left hab]
   simp only [List.getElem_append_right (Nat.le_refl _),Nat.sub_self,List.getElem_cons_zero]
   exact hup _ (List.getElem_mem hab)
 ·rcases Nat.lt_or_ge a Q.length with h1|h1
  ·rw [List.getElem_append_left h1]
   have old:(a<i∨(a=i∧s<c))→∃ q∈Q++ [(Q[i].1++ [c],f Q[i].2 c)],q.2=f Q[a].2 s∧befE q.1 (Q[a].1++ [s]):=fun hx=>by
    obtain⟨q,hq,e⟩:=h.clo a h1 s hs hx
    exact⟨q,List.mem_append_left _ hq,e⟩
   rcases hh with hh|⟨rfl,hh⟩
   ·exact old (.inl hh)
   ·rcases Nat.lt_or_ge s c with h2|h2
    ·exact old (.inr ⟨rfl,h2⟩)
    ·obtain rfl:s=c:=by omega
     exact⟨_,List.mem_append_right _ (List.mem_singleton.2 rfl),rfl,.inl rfl⟩
  ·omega
 ·rcases Nat.lt_or_ge b Q.length with h1|h1
  ·obtain⟨a,s,ha,h2,h3⟩:=h.org b h1 h0
   refine⟨a,s,ha,by omega,?_⟩
   rw [List.getElem_append_left h1,List.getElem_append_left (by omega)]
   exact h3
  ·have hb':b=Q.length:=by rw [List.length_append,List.length_singleton] at hb;omega
   subst hb'
   refine⟨i,c,hi,.inr ⟨rfl,by omega⟩,?_⟩
   rw [List.getElem_append_left hi]
   simp only [List.getElem_append_right (Nat.le_refl _),Nat.sub_self,List.getElem_cons_zero]
theorem SI.next (h:SI f x0 m N Q i m):SI f x0 m N Q (i+1) 0:=
 ⟨h.head,h.nd,h.run,h.srt,fun a ha s hs hh=>h.clo a ha s hs (by omega),fun b hb h0=>by
  obtain⟨a,s,ha,h1,h2⟩:=h.org b hb h0
  exact⟨a,s,ha,by omega,h2⟩⟩
structure Found (f:Rg→Nat→Rg) (x0:Rg) (m N:Nat) (Q:List (List Nat × Rg)):Prop where
 head:Q[0]? =some ([],x0)
 nd:(Q.map Prod.snd).Nodup
 run:∀ q∈Q,runR f x0 q.1=q.2∧(∀ s∈q.1,s<m)∧q.1.length≤N
 all:∀ w:List Nat,(∀ s∈w,s<m)→w.length≤N→∃ q∈Q,q.2=runR f x0 w∧befE q.1 w
theorem SI.found (h:SI f x0 m N Q i 0) (hi:i≤Q.length) (hend:∀ hlt:i<Q.length,Q[i].1.length=N):Found f x0 m N Q:=by
 refine⟨h.head,h.nd,h.run,fun w=>?_⟩
 have key:∀(n:Nat) (w:List Nat),w.length=n→(∀ s∈w,s<m)→w.length≤N→∃ q∈Q,q.2=runR f x0 w∧befE q.1 w:=by
  intro n
  induction n with
  |zero=>
   intro w hw _ _
   obtain rfl:=List.length_eq_zero_iff.1 hw
   exact⟨([],x0),List.mem_of_getElem? h.head,rfl,.inl rfl⟩
  |succ n ih=>
   intro w hw hs hN
   obtain⟨u,s,rfl⟩:∃ u s,w=u++ [s]:=⟨w.dropLast,w.getLast (by intro e;rw [e] at hw;simp at hw),(List.dropLast_concat_getLast _).symm⟩
   rw [List.length_append,List.length_singleton] at hw hN
   obtain⟨q,hq,e1,e2⟩:=ih u (by omega) (fun x hx=>hs x (List.mem_append_left _ hx)) (by omega)
   obtain⟨a,ha,rfl⟩:=List.getElem_of_mem hq
   have hlen:Q[a].1.length≤u.length:=by
    rcases e2 with e2|e2
    ·rw [e2];exact Nat.le_refl _
    ·rcases e2 with e2|e2<;>omega
   have hai:a<i:=by
    rcases Nat.lt_or_ge a i with h1|h1
    ·exact h1
    ·exfalso
     have h2:=hend (by omega)
     rcases Nat.lt_or_ge i a with h3|h3
     ·have:=h.srt i a h3 ha
      rcases this with h4|h4<;>omega
     ·obtain rfl:a=i:=by omega
      omega
   obtain⟨q',hq',e3,e4⟩:=h.clo a ha s (hs s (by simp)) (.inl hai)
   exact⟨q',hq',by rw [e3,e1,runR_snoc],e4.trans (e2.snoc s)⟩
 exact key w.length w rfl
theorem SI.len {B:Nat} (h:SI f x0 m N Q i c) (hB:∀ L:List Rg,L.Nodup→(∀ x∈L,∃ w:List Nat,(∀ s∈w,s<m)∧w.length≤N∧runR f x0 w=x)→L.length≤B):Q.length≤B:=by
 have:=hB (Q.map Prod.snd) h.nd (fun x hx=>by
  obtain⟨q,hq,rfl⟩:=List.mem_map.1 hx
  obtain⟨h1,h2,h3⟩:=h.run q hq
  exact⟨q.1,h2,h3,h1⟩)
 rwa [List.length_map] at this
end
open Go.RowKit Go.Maps
section
variable {P:Program} {ops:Array Oper} {Q:Exit→Act→World→Prop} {S:World→Prop}
theorem hd_listI {n:Nat} {t:List Oper} {f:Nat} {listed:Array Bool} {a:Act} {w:World} (is:List Nat) (hr:Region.ready .any ops listed=is) (hne:is≠ []) (hin:is.all (fun i=>decide (i<n))=true)
  (h:∀ i∈is,∃ oi,ops[i]? =some oi∧∀ K':Act→World→Prop,Shut (∀ a w,S w→HdG P ops Q S n t f (listed.setIfInBounds i true) a w→K' a w)→if Region.wanted oi (yielded ops a.tmps)=true then Oper.wp P oi a w K' Q else K' (a.put oi.dst undef) w):HdG P ops Q S n t (f+1) listed a w:=fun inv=>by
 refine⟨by rw [hr];exact hne,fun j hj=>?_⟩
 have hj0:=hj
 rw [hr] at hj
 obtain⟨oi,h1,h2⟩:=h j hj
 have hjn:j<n:=by have:=List.all_eq_true.1 hin j hj;simpa using this
 exact⟨hjn,hd_step h1 h2 (inv.set hj0 hjn)⟩
end
theorem nxR_pl (l:List Rel) (p q s:Nat × Nat) (x:Rg) (d:Nat):(nxR l p q s x d).pl≤4:=by
 unfold nxR
 split
 ·show 2≤4;omega
 ·split
  ·show 4≤4;omega
  ·split
   ·show 1≤4;omega
   ·unfold nxF
    split
    ·show 3≤4;omega
    ·show 3≤4;omega
theorem runR_ok {l:List Rel} (h6:l.length≤60) {p q s:Nat × Nat} (hp:ScOk p) (hq:ScOk q) (hs:ScOk s) {x0:Rg} (hx:RgOk x0) (hpl:x0.pl≤4):∀ w:List Nat,RgOk (runR (nxR l p q s) x0 w)∧(runR (nxR l p q s) x0 w).pl≤4:=by
 intro w
 unfold runR
 induction w generalizing x0 with
 |nil=>exact⟨hx,hpl⟩
 |cons c w ih=>exact ih (nxR_ok h6 hp hq hs hx c) (nxR_pl l p q s x0 c)
theorem char_cut {c:Nat} (hc:c<11) (wx:World):(Instr.slice 9 (.string ⟨#[48,49,50,51,52,53,54,55,56,57,58]⟩) (some (.int .i64 (c:Int))) (some (.int .i64 ((c:Int)+1))) none).run Tryz.prog wx= .ok (.string (ofL [UInt8.ofNat (48+c)])) wx:=by
 have h:=run_slice_string (P:=Tryz.prog) (w:=wx) 9 ⟨#[48,49,50,51,52,53,54,55,56,57,58]⟩ .i64 .i64 (c:Int) ((c:Int)+1) Tryz.underlying9 (by omega) (by omega) (by show(c:Int)+1≤11;omega)
 have e:(⟨#[48,49,50,51,52,53,54,55,56,57,58]⟩:ByteArray).extract (c:Int).toNat ((c:Int)+1).toNat=ofL [UInt8.ofNat (48+c)]:=by
  have e1:((c:Int)+1).toNat=c+1:=by omega
  rw [Int.toNat_natCast,e1]
  have:∀ k:Fin 11,(⟨#[48,49,50,51,52,53,54,55,56,57,58]⟩:ByteArray).extract k.val (k.val+1)=ofL [UInt8.ofNat (48+k.val)]:=by decide+kernel
  exact this ⟨c,hc⟩
 rw [e] at h
 exact h
set_option maxRecDepth 1000000 in
set_option maxHeartbeats 64000000 in
theorem search_any (g:Nat) (l:List Rel) (ls:List (List Nat)) (p q s:Nat × Nat) (hl:∀ r∈l,OkR r) (h6:l.length≤60) (hp:ScOk p) (hq:ScOk q) (hs:ScOk s) (x0:Rg) (hx:RgOk x0) (hpl:x0.pl≤4) (m N B:Nat) (hm:m≤11) (hN:N≤100000) (hB:∀ L:List Rg,L.Nodup→(∀ x∈L,∃ u:List Nat,(∀ c∈u,c<m)∧u.length≤N∧runR (nxR l p q s) x0 u=x)→L.length≤B) (hB2:B≤10000000) (w:World) (hP:RelP w g l ls p q s):
  Calls Tryz.prog 43 #[.pointer (some ⟨g,0,none⟩),.agg (encRg x0).toArray,.int .i64 m,.int .i64 N] w fun e w'=>∃ v Q,e= .returned v∧Own1 6 encAr w' w.heap.size 100 v Q∧Found (nxR l p q s) x0 m N Q∧Below w.heap.size w w':=by
 obtain⟨iA,hiA,hzA,hkA,hbA⟩:=info_parts Tryz.infoAr
 have hmm:=@run_makeMap Tryz.prog
 have HP:=Lib.hid hP
 have HB0:=Lib.hid hB
 have HNX:=Lib.hid (fun x hx d hd wx hp'=>nextR_any g l ls p q s hl h6 hp hq hs x hx d hd wx hp')
 have HRK:=Lib.hid (runR_ok h6 hp hq hs hx hpl)
 have HK0:=Lib.hid (rgV_key hx (by omega))
 obtain⟨f,hf⟩:∃ f,nxR l p q s=f:=⟨_,rfl⟩
 have HST:=Lib.hid (SI.start f x0 m N)
 have HNX:Hid (∀(x:Rg) (_:RgOk x) (d:Nat) (_:d≤10) (wx:World),RelP wx g l ls p q s→Calls Tryz.prog 45 #[.pointer (some ⟨g,0,none⟩),.agg (encRg x).toArray,.int .i64 d] wx fun e w'=>e= .returned (.agg (encRg (f x d)).toArray)∧Below wx.heap.size wx w'):=Lib.hid (fun x hx d hd wx hp'=>by rw [←hf];exact HNX.out x hx d hd wx hp')
 rw [hf] at HB0 HRK ⊢
 obtain⟨z1,z2,z3,z4,z5⟩:=x0
 have KA:=(Below.refl w.heap.size w).alloc (Nat.le_refl _) (.cells #[.int .i64 z1,.int .u64 z2,.int .i64 z3,.int .i64 z4,.bool z5] 96)
 have k4:=Blk.new w 96 #[.int .i64 z1,.int .u64 z2,.int .i64 z3,.int .i64 z4,.bool z5]
 obtain⟨W,hW⟩:∃ W,w.alloc (.cells #[.int .i64 z1,.int .u64 z2,.int .i64 z3,.int .i64 z4,.bool z5] 96)=W:=⟨_,rfl⟩
 rw [hW] at KA k4
 obtain⟨G,hG⟩:∃ G,w.heap.size=G:=⟨_,rfl⟩
 have HGE:=Lib.hid hG
 rw [hG] at k4 KA ⊢
 have HWE:=Lib.hid hW
 have KX:=Lib.hid KA
 have K4:=Lib.hid k4
 clear hP hB hf hl hp hq hs hx KA k4 hW hpl
 change Calls Tryz.prog 43 #[.pointer (some ⟨g,0,none⟩),.agg #[.int .i64 z1,.int .u64 z2,.int .i64 z3,.int .i64 z4,.bool z5],.int .i64 m,.int .i64 N] w _
 go_enter Tryz.func43,Tryz.ntmps43
 go_upto_region 1 with fail
 rw [HWE.out]
 try rw [hG]
 clear hG
 obtain⟨wd,hwd⟩:∃ wd,W.drew=wd:=⟨_,rfl⟩
 have KXD:Hid (Below G w wd):=Lib.hid (by rw [←hwd];exact KX.out.drew)
 have K4D:Hid (Blk G 96 #[.int .i64 z1,.int .u64 z2,.int .i64 z3,.int .i64 z4,.bool z5] wd):=Lib.hid (by rw [←hwd];exact K4.out.below (Below.refl _ _).drew)
 have HD:=Lib.hid hwd
 clear hwd
 go_cut [9,10] from 15 to 21 (fun v9 v10 wx=>∃ Bm:Nat,v10= .map (some Bm)∧SW w G Bm v9 [([],(⟨z1,z2,z3,z4,z5⟩:Rg))] wx)
 case first=>
  obtain⟨lk,hlk⟩:=HK0.out
  have HLK:=Lib.hid hlk
  clear hlk
  have hzG:G+1≤wd.heap.size:=K4D.out.lt
  have SX:∀ wx:World,Below wd.heap.size wd wx→wx.cell? ⟨G,0,none⟩=some (.int .i64 z1)∧wx.cell? ⟨G,1,none⟩=some (.int .u64 z2)∧wx.cell? ⟨G,2,none⟩=some (.int .i64 z3)∧wx.cell? ⟨G,3,none⟩=some (.int .i64 z4)∧wx.cell? ⟨G,4,none⟩=some (.bool z5):=fun wx hb=>⟨(K4D.out.below hb).cell 0,(K4D.out.below hb).cell 1,(K4D.out.below hb).cell 2,(K4D.out.below hb).cell 3,(K4D.out.below hb).cell 4⟩
  have HSX:=Lib.hid SX
  have hS:=SX wd (Below.refl _ _)
  clear SX
  refine region_hd 8 (fun wx:World=>wx.cell? ⟨G,0,none⟩=some (.int .i64 z1)∧wx.cell? ⟨G,1,none⟩=some (.int .u64 z2)∧wx.cell? ⟨G,2,none⟩=some (.int .i64 z3)∧wx.cell? ⟨G,3,none⟩=some (.int .i64 z4)∧wx.cell? ⟨G,4,none⟩=some (.bool z5)) (by kernel_rfl) (by kernel_rfl) ?_
  rw [HD.out]
  refine hd_taken 0 (some 15) _ ?hdv0 rfl rfl (by kernel_rfl) (fun _ _ _ h=>h) (Or.inl ⟨by kernel_rfl,?hdy0⟩) hS ?hdr0
  case hdy0=>(intro wx hx;(try dsimp only at hx);go_simp;try with_reducible rfl)
  try simp only [Act.put,zI,zO,zS]
  refine hd_taken 1 (some 16) _ ?hdv1 rfl rfl (by kernel_rfl) (fun _ _ _ h=>h) (Or.inl ⟨by kernel_rfl,?hdy1⟩) hS ?hdr1
  case hdy1=>(intro wx hx;(try dsimp only at hx);go_simp;try with_reducible rfl)
  try simp only [Act.put,zI,zO,zS]
  refine hd_taken 4 (some 19) _ ?hdv4 rfl rfl (by kernel_rfl) (fun _ _ _ h=>h) (Or.inl ⟨by kernel_rfl,?hdy4⟩) hS ?hdr4
  case hdy4=>(intro wx hx;(try dsimp only at hx);go_simp;try with_reducible rfl)
  try simp only [Act.put,zI,zO,zS]
  refine hd_listI [2,3] (by kernel_rfl) (by decide) (by decide) (fun i hi=>?_)
  simp only [List.mem_cons,List.not_mem_nil,or_false] at hi
  rcases hi with rfl|rfl
  ·refine⟨_,rfl,fun K2 hK2=>?_⟩
   go_simp
   have oarr:=own_arr wd G (by first|omega|(have:=ba1.size;omega)|(have:=bput.size;omega)) (([],⟨z1,z2,z3,z4,z5⟩):List Nat × Rg)
   have ba1:=(Below.refl wd.heap.size wd).alloc (Nat.le_refl _) (.cells #[.string {data:=#[]},.int .i64 z1,.int .u64 z2,.int .i64 z3,.int .i64 z4,.bool z5] 100)
   change Own1 6 encAr (wd.alloc (.cells #[.string {data:=#[]},.int .i64 z1,.int .u64 z2,.int .i64 z3,.int .i64 z4,.bool z5] 100)) G 100 _ _ at oarr
   obtain⟨a1,ha1⟩:∃ wx,wd.alloc (.cells #[.string {data:=#[]},.int .i64 z1,.int .u64 z2,.int .i64 z3,.int .i64 z4,.bool z5] 100)=wx:=⟨_,rfl⟩
   rw [ha1] at oarr ba1
   try rw [ha1]
   clear ha1
   refine hK2.out _ _ (HSX.out _ ba1) ?_
   try simp only [Act.put,zI,zO,zS]
   refine hd_taken 7 (some 9) _ ?hdvb7 rfl rfl (by kernel_rfl) (fun _ _ _ h=>h) (Or.inl ⟨by kernel_rfl,?hdyb7⟩) (HSX.out _ ba1) ?hdrb7
   case hdyb7=>(intro wx hx;(try dsimp only at hx);go_simp;try with_reducible rfl)
   try simp only [Act.put,zI,zO,zS]
   refine hd_one 3 _ rfl (by kernel_rfl) (by decide) (fun K3 hK3=>?_)
   go_simp
   have mmade:=mapB_made a1
   have ba2:=(Below.refl a1.heap.size a1).alloc (Nat.le_refl _) (.map #[] 0)
   obtain⟨a2,ha2⟩:∃ wx,a1.alloc (.map #[] 0)=wx:=⟨_,rfl⟩
   obtain⟨Ba1,hBa1⟩:∃ b,a1.heap.size=b:=⟨_,rfl⟩
   rw [hBa1] at mmade
   try rw [hBa1]
   have la1:wd.heap.size≤Ba1:=by rw [←hBa1];exact ba1.size
   rw [ha2] at mmade ba2
   try rw [ha2]
   clear ha2
   refine hK3.out _ _ (HSX.out _ (st ba1 ba2 ba1.size)) ?_
   try simp only [Act.put,zI,zO,zS]
   refine hd_one 5 _ rfl (by kernel_rfl) (by decide) (fun K5 hK5=>?_)
   obtain⟨w5,hmput,mput,gput⟩:=mmade.put (by omega) HLK.out
   simp only [rgV,encRg,List.nil_append] at hmput mput
   go_simp
   have bput:Below wd.heap.size wd w5:=(st ba1 ba2 ba1.size).grown gput (st ba1 ba2 ba1.size).size (fun k e=>by injection e with e;omega)
   refine hK5.out _ _ (HSX.out _ bput) ?_
   try simp only [Act.put,zI,zO,zS]
   refine hd_taken 6 (some 20) _ ?hdve6 rfl rfl (by kernel_rfl) (fun _ _ _ h=>h) (Or.inl ⟨by kernel_rfl,?hdye6⟩) (HSX.out _ bput) ?hdre6
   case hdye6=>(intro wx hx;(try dsimp only at hx);go_simp;try with_reducible rfl)
   try simp only [Act.put,zI,zO,zS]
   refine hd_done (by kernel_rfl) ?_
   simp only [List.drop_succ_cons,List.drop_zero]
   have HFIN:Hid (SW w G Ba1 (.slice (some ⟨wd.heap.size,0,none⟩) 1 1) [([],(⟨z1,z2,z3,z4,z5⟩:Rg))] w5):=Lib.hid ⟨own_mapB (own_below oarr ba2) mmade gput,mput,by omega,KXD.out.trans (bput.mono (by omega))⟩
   clear ba1 ba2 oarr mmade gput mput bput hmput
   go_wp2_with fail
   go_meet
   exact⟨_,rfl,HFIN.out⟩
  ·refine⟨_,rfl,fun K3 hK3=>?_⟩
   go_simp
   have mmade:=mapB_made wd
   have ba1:=(Below.refl wd.heap.size wd).alloc (Nat.le_refl _) (.map #[] 0)
   obtain⟨a1,ha1⟩:∃ wx,wd.alloc (.map #[] 0)=wx:=⟨_,rfl⟩
   rw [ha1] at mmade ba1
   try rw [ha1]
   clear ha1
   refine hK3.out _ _ (HSX.out _ ba1) ?_
   try simp only [Act.put,zI,zO,zS]
   refine hd_listI [2,5] (by kernel_rfl) (by decide) (by decide) (fun i hi=>?_)
   simp only [List.mem_cons,List.not_mem_nil,or_false] at hi
   rcases hi with rfl|rfl
   ·refine⟨_,rfl,fun K2 hK2=>?_⟩
    go_simp
    have oarr:=own_arr a1 G (by first|omega|(have:=ba1.size;omega)|(have:=bput.size;omega)) (([],⟨z1,z2,z3,z4,z5⟩):List Nat × Rg)
    have ba2:=(Below.refl a1.heap.size a1).alloc (Nat.le_refl _) (.cells #[.string {data:=#[]},.int .i64 z1,.int .u64 z2,.int .i64 z3,.int .i64 z4,.bool z5] 100)
    change Own1 6 encAr (a1.alloc (.cells #[.string {data:=#[]},.int .i64 z1,.int .u64 z2,.int .i64 z3,.int .i64 z4,.bool z5] 100)) G 100 _ _ at oarr
    obtain⟨a2,ha2⟩:∃ wx,a1.alloc (.cells #[.string {data:=#[]},.int .i64 z1,.int .u64 z2,.int .i64 z3,.int .i64 z4,.bool z5] 100)=wx:=⟨_,rfl⟩
    obtain⟨Ba1,hBa1⟩:∃ b,a1.heap.size=b:=⟨_,rfl⟩
    rw [hBa1] at oarr
    try rw [hBa1]
    rw [ha2] at oarr ba2
    try rw [ha2]
    clear ha2
    refine hK2.out _ _ (HSX.out _ (st ba1 ba2 ba1.size)) ?_
    try simp only [Act.put,zI,zO,zS]
    refine hd_taken 7 (some 9) _ ?hdvc7 rfl rfl (by kernel_rfl) (fun _ _ _ h=>h) (Or.inl ⟨by kernel_rfl,?hdyc7⟩) (HSX.out _ (st ba1 ba2 ba1.size)) ?hdrc7
    case hdyc7=>(intro wx hx;(try dsimp only at hx);go_simp;try with_reducible rfl)
    try simp only [Act.put,zI,zO,zS]
    refine hd_one 5 _ rfl (by kernel_rfl) (by decide) (fun K5 hK5=>?_)
    have mmade:=mmade.below ba2
    obtain⟨w5,hmput,mput,gput⟩:=mmade.put (by omega) HLK.out
    simp only [rgV,encRg,List.nil_append] at hmput mput
    go_simp
    have bput:Below wd.heap.size wd w5:=(st ba1 ba2 ba1.size).grown gput (st ba1 ba2 ba1.size).size (fun k e=>by injection e with e;omega)
    refine hK5.out _ _ (HSX.out _ bput) ?_
    try simp only [Act.put,zI,zO,zS]
    refine hd_taken 6 (some 20) _ ?hdvf6 rfl rfl (by kernel_rfl) (fun _ _ _ h=>h) (Or.inl ⟨by kernel_rfl,?hdyf6⟩) (HSX.out _ bput) ?hdrf6
    case hdyf6=>(intro wx hx;(try dsimp only at hx);go_simp;try with_reducible rfl)
    try simp only [Act.put,zI,zO,zS]
    refine hd_done (by kernel_rfl) ?_
    simp only [List.drop_succ_cons,List.drop_zero]
    have HFIN:Hid (SW w G wd.heap.size (.slice (some ⟨Ba1,0,none⟩) 1 1) [([],(⟨z1,z2,z3,z4,z5⟩:Rg))] w5):=Lib.hid ⟨own_mapB oarr mmade gput,mput,by omega,KXD.out.trans (bput.mono (by omega))⟩
    clear ba1 ba2 oarr mmade gput mput bput hmput
    go_wp2_with fail
    go_meet
    exact⟨_,rfl,HFIN.out⟩
   ·refine⟨_,rfl,fun K5 hK5=>?_⟩
    obtain⟨w5,hmput,mput,gput⟩:=mmade.put (by omega) HLK.out
    simp only [rgV,encRg,List.nil_append] at hmput mput
    go_simp
    have bput:Below wd.heap.size wd w5:=ba1.grown gput ba1.size (fun k e=>by injection e with e;omega)
    refine hK5.out _ _ (HSX.out _ bput) ?_
    try simp only [Act.put,zI,zO,zS]
    refine hd_taken 6 (some 20) _ ?hdvg6 rfl rfl (by kernel_rfl) (fun _ _ _ h=>h) (Or.inl ⟨by kernel_rfl,?hdyg6⟩) (HSX.out _ bput) ?hdrg6
    case hdyg6=>(intro wx hx;(try dsimp only at hx);go_simp;try with_reducible rfl)
    try simp only [Act.put,zI,zO,zS]
    refine hd_one 2 _ rfl (by kernel_rfl) (by decide) (fun K2 hK2=>?_)
    go_simp
    have oarr:=own_arr w5 G (by first|omega|(have:=ba1.size;omega)|(have:=bput.size;omega)) (([],⟨z1,z2,z3,z4,z5⟩):List Nat × Rg)
    have ba3:=(Below.refl w5.heap.size w5).alloc (Nat.le_refl _) (.cells #[.string {data:=#[]},.int .i64 z1,.int .u64 z2,.int .i64 z3,.int .i64 z4,.bool z5] 100)
    change Own1 6 encAr (w5.alloc (.cells #[.string {data:=#[]},.int .i64 z1,.int .u64 z2,.int .i64 z3,.int .i64 z4,.bool z5] 100)) G 100 _ _ at oarr
    obtain⟨a3,ha3⟩:∃ wx,w5.alloc (.cells #[.string {data:=#[]},.int .i64 z1,.int .u64 z2,.int .i64 z3,.int .i64 z4,.bool z5] 100)=wx:=⟨_,rfl⟩
    obtain⟨Bw5,hBw5⟩:∃ b,w5.heap.size=b:=⟨_,rfl⟩
    rw [hBw5] at oarr
    try rw [hBw5]
    rw [ha3] at oarr ba3
    try rw [ha3]
    clear ha3
    refine hK2.out _ _ (HSX.out _ (st bput ba3 bput.size)) ?_
    try simp only [Act.put,zI,zO,zS]
    refine hd_taken 7 (some 9) _ ?hdvd7 rfl rfl (by kernel_rfl) (fun _ _ _ h=>h) (Or.inl ⟨by kernel_rfl,?hdyd7⟩) (HSX.out _ (st bput ba3 bput.size)) ?hdrd7
    case hdyd7=>(intro wx hx;(try dsimp only at hx);go_simp;try with_reducible rfl)
    try simp only [Act.put,zI,zO,zS]
    refine hd_done (by kernel_rfl) ?_
    simp only [List.drop_succ_cons,List.drop_zero]
    have HFIN:Hid (SW w G wd.heap.size (.slice (some ⟨Bw5,0,none⟩) 1 1) [([],(⟨z1,z2,z3,z4,z5⟩:Rg))] a3):=Lib.hid ⟨oarr,mput.below ba3,by omega,KXD.out.trans ((st bput ba3 bput.size).mono (by omega))⟩
    clear ba1 ba3 oarr mmade gput mput bput hmput
    go_wp2_with fail
    go_meet
    exact⟨_,rfl,HFIN.out⟩
 case rest=>
  rename World=>w1
  obtain⟨Bm,rfl,hsw⟩:=hcut
  have HSW:=Lib.hid hsw
  have HBM:=Lib.hid hsw.low
  clear hsw KXD K4D HD HK0 hmm
  go_wp2_with fail
  go_loopw [9,11] (fun v9 v11 wr=>∃(i:Nat) (Q:List (List Nat × Rg)),i≤Q.length∧v11= .int .i64 (i:Nat)∧SW w G Bm v9 Q wr∧SI f (⟨z1,z2,z3,z4,z5⟩:Rg) m N Q i 0) (fun _ v11 _=>B+1 - (intOf v11).toNat)
  case atStart=>exact⟨0,_,Nat.zero_le _,rfl,HSW.out,HST.out⟩
  case round=>
   obtain⟨i,Q,hi,rfl,hsw,hsi⟩:=hrel
   obtain⟨p9,q9,h9⟩:=hsw.own.slice
   subst h9
   have HW:=Lib.hid hsw
   have HI:=Lib.hid hsi
   have HII:=Lib.hid hsi
   have hQB:=hsi.len HB0.out
   have zG:G≤wr.heap.size:=by have:=hsw.map.lt;have:=hsw.low;omega
   clear hsw hsi HSW HST
   by_cases hlt:i<Q.length
   ·have h3:(i:Int)<(Q.length:Int):=by omega
    obtain⟨b5,o5,hp5,hl5,c0,c1,c2,c3,c4,c5⟩:=(HW.out.own.rd encAr_len).arr i hlt
    subst hp5
    have HRUN:=Lib.hid (HI.out.run _ (List.getElem_mem hlt))
    obtain⟨⟨u,x1,x2,x3,x4,x5⟩,hqe⟩:∃ q,Q[i]=q:=⟨_,rfl⟩
    have HQI:Hid (Q[i]? =some (u,⟨x1,x2,x3,x4,x5⟩)):=Lib.hid (by rw [List.getElem?_eq_getElem hlt,hqe])
    rw [hqe] at HRUN c0 c1 c2 c3 c4 c5
    dsimp only at HRUN c0 c1 c2 c3 c4 c5
    have HXO:Hid (RgOk ⟨x1,x2,x3,x4,x5⟩∧x1≤4):=Lib.hid (by have:=HRK.out u;rw [HRUN.out.1] at this;exact this)
    have huN:=HRUN.out.2.2
    have HEND:Hid (u.length=N→Found f ⟨z1,z2,z3,z4,z5⟩ m N Q):=Lib.hid (fun e=>HI.out.found hi (fun hlt'=>by rw [hqe];exact e))
    obtain⟨U,hU⟩:∃ U,chS u=U:=⟨_,rfl⟩
    have HUL:Hid ((ofL U).size=u.length):=Lib.hid (by rw [←hU,ofL_size,chS_len])
    have HU:=Lib.hid hU
    rw [hU] at c0
    have kx:=Blk.new wr 100 #[.string (ofL U),.int .i64 x1,.int .u64 x2,.int .i64 x3,.int .i64 x4,.bool x5]
    have bx:=(Below.refl wr.heap.size wr).alloc (Nat.le_refl _) (.cells #[.string (ofL U),.int .i64 x1,.int .u64 x2,.int .i64 x3,.int .i64 x4,.bool x5] 100)
    obtain⟨gx,hgx⟩:∃ gx,wr.heap.size=gx:=⟨_,rfl⟩
    obtain⟨X,hX⟩:∃ X,wr.alloc (.cells #[.string (ofL U),.int .i64 x1,.int .u64 x2,.int .i64 x3,.int .i64 x4,.bool x5] 100)=X:=⟨_,rfl⟩
    have HWX:=Lib.hid (HW.out.below bx)
    rw [hX] at kx bx HWX
    rw [hgx] at kx
    have HKX:=Lib.hid kx
    have HXE:=Lib.hid hX
    have HNE:Hid ((Value.slice (some ⟨b5,o5,none⟩) Q.length q9).ownBlock≠some gx):=Lib.hid (fun e=>by have:=(own_lt HW.out.own gx e).2;omega)
    have HGX:Hid (G≤gx):=Lib.hid (by rw [←hgx];exact zG)
    have g0:X.cell? ⟨gx,0,none⟩=some (.string (ofL U)):=kx.cell 0
    clear hqe hU kx bx hX HI HW
    go_upto_region 6 with fail
    rw [HXE.out]
    try rw [hgx]
    clear hgx c0 c1 c2 c3 c4 c5
    by_cases huN2:u.length=N
    ·have t0:(((ofL U).size:Int)==(N:Int))=true:=by have:=HUL.out;rw [beq_iff_eq];omega
     have HF:=Lib.hid (HEND.out huN2)
     clear huN2
     go_wp2
     go_ret
     exact⟨_,Q,rfl,HWX.out.own,HF.out,HWX.out.bw⟩
    ·have t0:(((ofL U).size:Int)==(N:Int))=false:=by have:=HUL.out;rw [beq_eq_false_iff_ne];omega
     have HUN:Hid (u.length<N):=Lib.hid (by omega)
     have HI:=HII
     clear huN2 HEND
     go_wp2_with fail
     clear g0
     go_loopw [9,37] (fun v9 v37 wz=>∃(c:Nat) (Q:List (List Nat × Rg)),c≤m∧v37= .int .i64 (c:Nat)∧i<Q.length∧Q[i]? =some (u,⟨x1,x2,x3,x4,x5⟩)∧SW w G Bm v9 Q wz∧SI f (⟨z1,z2,z3,z4,z5⟩:Rg) m N Q i c∧v9.ownBlock≠some gx∧Blk gx 100 #[.string (ofL U),.int .i64 x1,.int .u64 x2,.int .i64 x3,.int .i64 x4,.bool x5] wz) (fun _ v37 _=>m - (intOf v37).toNat)
     case atStart=>exact⟨0,Q,Nat.zero_le _,rfl,hlt,HQI.out,HWX.out,HI.out,HNE.out,HKX.out⟩
     case round=>
      rename World=>wz
      obtain⟨c,Q2,hc,rfl,hlt2,hq2,hsw,hsi,hne,hkx⟩:=hrel
      obtain⟨p9,q9,h9⟩:=hsw.own.slice
      subst h9
      have HW2:=Lib.hid hsw
      have HI2:=Lib.hid hsi
      have HK2:=Lib.hid hkx
      have HQ2:=Lib.hid hq2
      have HNE2:=Lib.hid hne
      have zG2:G≤wz.heap.size:=by have:=hsw.map.lt;have:=hsw.low;omega
      have hQB2:=hsi.len HB0.out
      clear hsw hsi hkx hq2 hne HWX HKX HI HQI
      by_cases hcm:c<m
      ·have h4:(c:Int)<(m:Int):=by omega
       have HNXC:=Lib.hid (HNX.out ⟨x1,x2,x3,x4,x5⟩ HXO.out.1 c (by omega) wz (HP.out.below (by rw [HGE.out];exact HW2.out.bw)))
       have HYO:Hid (RgOk (f ⟨x1,x2,x3,x4,x5⟩ c)∧(f ⟨x1,x2,x3,x4,x5⟩ c).pl≤4):=Lib.hid (by
        have:=HRK.out (u++ [c])
        rw [runR_snoc,HRUN.out.1] at this
        exact this)
       have HGE2:Hid (Q2[i]=(u,(⟨x1,x2,x3,x4,x5⟩:Rg))):=Lib.hid (by have:=HQ2.out;rw [List.getElem?_eq_getElem hlt2] at this;injection this)
       have HKN:Hid (f ⟨x1,x2,x3,x4,x5⟩ c∈Q2.map Prod.snd→SI f ⟨z1,z2,z3,z4,z5⟩ m N Q2 i (c+1)):=Lib.hid (fun hk=>HI2.out.known hlt2 (by rw [HGE2.out];exact hk))
       have HNW:Hid (f ⟨x1,x2,x3,x4,x5⟩ c ∉Q2.map Prod.snd→SI f ⟨z1,z2,z3,z4,z5⟩ m N (Q2++ [(u++ [c],f ⟨x1,x2,x3,x4,x5⟩ c)]) i (c+1)):=Lib.hid (fun hk=>by
        have:=HI2.out.new hlt2 hcm (by rw [HGE2.out];exact HUN.out) (by rw [HGE2.out];exact hk)
        rw [HGE2.out] at this
        exact this)
       have HLK:=Lib.hid (rgV_key HYO.out.1 (by have:=HYO.out.2;omega))
       obtain⟨⟨y1,y2,y3,y4,y5⟩,hy⟩:∃ y,f ⟨x1,x2,x3,x4,x5⟩ c=y:=⟨_,rfl⟩
       rw [hy] at HNXC HKN HNW HLK
       have k0:wz.cell? ⟨gx,0,none⟩=some (.string (ofL U)):=HK2.out.cell 0
       have k1:wz.cell? ⟨gx,1,none⟩=some (.int .i64 x1):=HK2.out.cell 1
       have k2:wz.cell? ⟨gx,2,none⟩=some (.int .u64 x2):=HK2.out.cell 2
       have k3:wz.cell? ⟨gx,3,none⟩=some (.int .i64 x3):=HK2.out.cell 3
       have k4:wz.cell? ⟨gx,4,none⟩=some (.int .i64 x4):=HK2.out.cell 4
       have k5:wz.cell? ⟨gx,5,none⟩=some (.bool x5):=HK2.out.cell 5
       clear hy HYO
       go_wp2_with fail
       refine HNXC.out.mono ?_
       rintro e w2 ⟨rfl,b2⟩
       try dsimp only [encRg]
       have b3:=st b2 ((Below.refl w2.heap.size w2).alloc (Nat.le_refl _) (.cells #[.int .i64 y1,.int .u64 y2,.int .i64 y3,.int .i64 y4,.bool y5] 96)) b2.size
       have ky:=Blk.new w2 96 #[.int .i64 y1,.int .u64 y2,.int .i64 y3,.int .i64 y4,.bool y5]
       have hzx:gx<w2.heap.size:=Nat.lt_of_lt_of_le HK2.out.lt b2.size
       have hz2:=b2.size
       obtain⟨gy,hgy⟩:∃ gy,w2.heap.size=gy:=⟨_,rfl⟩
       rw [hgy] at ky hzx hz2
       obtain⟨Y,hY⟩:∃ Y,w2.alloc (.cells #[.int .i64 y1,.int .u64 y2,.int .i64 y3,.int .i64 y4,.bool y5] 96)=Y:=⟨_,rfl⟩
       rw [hY] at b3 ky
       have HW3:=Lib.hid (HW2.out.below b3)
       have HK3:=Lib.hid (HK2.out.below b3)
       have HKY:=Lib.hid ky
       have HYE:=Lib.hid hY
       have HZ3:=Lib.hid (⟨hzx,hz2⟩:gx<gy∧wz.heap.size≤gy)
       clear b2 b3 ky hY k0 k1 k2 k3 k4 k5 hzx hz2
       go_upto_region 11 with fail
       rw [HYE.out]
       try rw [hgy]
       clear hgy
       have f0:Y.cell? ⟨gy,0,none⟩=some (.int .i64 y1):=HKY.out.cell 0
       have f1:Y.cell? ⟨gy,1,none⟩=some (.int .u64 y2):=HKY.out.cell 1
       have f2:Y.cell? ⟨gy,2,none⟩=some (.int .i64 y3):=HKY.out.cell 2
       have f3:Y.cell? ⟨gy,3,none⟩=some (.int .i64 y4):=HKY.out.cell 3
       have f4:Y.cell? ⟨gy,4,none⟩=some (.bool y5):=HKY.out.cell 4
       obtain⟨lk,hlk⟩:=HLK.out
       have hlook:=HW3.out.map.look hlk
       simp only [rgV,encRg] at hlook
       by_cases hmem:(⟨y1,y2,y3,y4,y5⟩:Rg)∈Q2.map Prod.snd
       ·have e1:decide ((⟨y1,y2,y3,y4,y5⟩:Rg)∈Q2.map Prod.snd)=true:=decide_eq_true hmem
        rw [e1] at hlook
        have HS:=Lib.hid (HKN.out hmem)
        clear e1 hmem hlk HKN HNW
        go_wp2
        go_roundw
        case measure=>simp [intOf]<;>omega
        case rel=>exact⟨c+1,Q2,by omega,by go_num,hlt2,HQ2.out,HW3.out,HS.out,HNE2.out,HK3.out⟩
       ·have e1:decide ((⟨y1,y2,y3,y4,y5⟩:Rg)∈Q2.map Prod.snd)=false:=decide_eq_false hmem
        rw [e1] at hlook
        have HS:=Lib.hid (HNW.out hmem)
        obtain⟨w5,hput,mput,gput⟩:=HW3.out.map.put (by omega) hlk
        simp only [rgV,encRg] at hput
        have HO5:=Lib.hid (own_mapB HW3.out.own HW3.out.map gput)
        have HK5:=Lib.hid (blk_mapB HK3.out HW3.out.map gput)
        have HY5:=Lib.hid (blk_mapB HKY.out HW3.out.map gput)
        have HB5:Hid (Below G w w5):=Lib.hid (HW3.out.bw.grown gput (by have:=HW3.out.map.lt;have:=HBM.out;omega) (fun k e=>by injection e with e;have:=HBM.out;omega))
        have HM5:=Lib.hid mput
        have hz5:=gput.size
        clear e1 hmem hlk HKN HNW mput gput
        go_upto_region 13 with fail
        clear f0 f1 f2 f3 f4 hlook hput
        obtain⟨C,hC⟩:∃ C,UInt8.ofNat (48+c)=C:=⟨_,rfl⟩
        have hcut:=fun wx=>char_cut (show c<11 by omega) wx
        rw [hC] at hcut
        have hwr:IntKind.i64.wrap ((c:Int)+1)=(c:Int)+1:=by rw [IntKind.wrap_i64];omega
        have hadd:∀ wx,(Op.stringOp .add (ofL U) (ofL [C])).run Tryz.prog wx= .ok (.string (ofL (U++ [C]))) wx:=fun wx=>str_add (y:=[C]) (by have:=ofL_size U;have:=HUL.out;simp;omega) rfl wx
        have HENC:Hid (encAr (u++ [c],(⟨y1,y2,y3,y4,y5⟩:Rg))= [.string (ofL (U++ [C])),.int .i64 y1,.int .u64 y2,.int .i64 y3,.int .i64 y4,.bool y5]):=Lib.hid (by unfold encAr;rw [chS_snoc,HU.out,hC];rfl)
        clear hC
        obtain⟨V,hV⟩:∃ V,U++ [C]=V:=⟨_,rfl⟩
        rw [hV] at hadd HENC
        clear hV
        have HSX:Hid (∀ wx,Below w5.heap.size w5 wx→wx.cell? ⟨gx,0,none⟩=some (.string (ofL U))∧wx.cell? ⟨gy,0,none⟩=some (.int .i64 y1)∧wx.cell? ⟨gy,1,none⟩=some (.int .u64 y2)∧wx.cell? ⟨gy,2,none⟩=some (.int .i64 y3)∧wx.cell? ⟨gy,3,none⟩=some (.int .i64 y4)∧wx.cell? ⟨gy,4,none⟩=some (.bool y5)):=Lib.hid (fun wx hb=>⟨(HK5.out.below hb).cell 0,(HY5.out.below hb).cell 0,(HY5.out.below hb).cell 1,(HY5.out.below hb).cell 2,(HY5.out.below hb).cell 3,(HY5.out.below hb).cell 4⟩)
        have hS:=HSX.out w5.drew (Below.refl _ _).drew
        refine region_hd 11 (fun wx:World=>wx.cell? ⟨gx,0,none⟩=some (.string (ofL U))∧wx.cell? ⟨gy,0,none⟩=some (.int .i64 y1)∧wx.cell? ⟨gy,1,none⟩=some (.int .u64 y2)∧wx.cell? ⟨gy,2,none⟩=some (.int .i64 y3)∧wx.cell? ⟨gy,3,none⟩=some (.int .i64 y4)∧wx.cell? ⟨gy,4,none⟩=some (.bool y5)) (by kernel_rfl) (by kernel_rfl) ?_
        refine hd_taken 0 (some 51) _ ?hdva0 rfl rfl (by kernel_rfl) (fun _ _ _ h=>h) (Or.inl ⟨by kernel_rfl,?hdya0⟩) hS ?hdra0
        case hdya0=>(intro wx hx;(try dsimp only at hx);go_simp;try with_reducible rfl)
        try simp only [Act.put,zI,zO,zS]
        refine hd_taken 1 (some 52) _ ?hdva1 rfl rfl (by kernel_rfl) (fun _ _ _ h=>h) (Or.inl ⟨by kernel_rfl,?hdya1⟩) hS ?hdra1
        case hdya1=>(intro wx hx;(try dsimp only at hx);go_simp;try with_reducible rfl)
        try simp only [Act.put,zI,zO,zS]
        refine hd_taken 2 (some 53) _ ?hdva2 rfl rfl (by kernel_rfl) (fun _ _ _ h=>h) (Or.inl ⟨by kernel_rfl,?hdya2⟩) hS ?hdra2
        case hdya2=>(intro wx hx;(try dsimp only at hx);go_simp;try with_reducible rfl)
        try simp only [Act.put,zI,zO,zS]
        refine hd_taken 3 (some 54) _ ?hdva3 rfl rfl (by kernel_rfl) (fun _ _ _ h=>h) (Or.inl ⟨by kernel_rfl,?hdya3⟩) hS ?hdra3
        case hdya3=>(intro wx hx;(try dsimp only at hx);go_simp;try with_reducible rfl)
        try simp only [Act.put,zI,zO,zS]
        refine hd_taken 4 (some 55) _ ?hdva4 rfl rfl (by kernel_rfl) (fun _ _ _ h=>h) (Or.inl ⟨by kernel_rfl,?hdya4⟩) hS ?hdra4
        case hdya4=>(intro wx hx;(try dsimp only at hx);go_simp;try with_reducible rfl)
        try simp only [Act.put,zI,zO,zS]
        refine hd_taken 5 (some 56) _ ?hdva5 rfl rfl (by kernel_rfl) (fun _ _ _ h=>h) (Or.inl ⟨by kernel_rfl,?hdya5⟩) hS ?hdra5
        case hdya5=>(intro wx hx;(try dsimp only at hx);go_simp;try with_reducible rfl)
        try simp only [Act.put,zI,zO,zS]
        refine hd_taken 6 (some 57) _ ?hdva6 rfl rfl (by kernel_rfl) (fun _ _ _ h=>h) (Or.inl ⟨by kernel_rfl,?hdya6⟩) hS ?hdra6
        case hdya6=>(intro wx hx;(try dsimp only at hx);go_simp;try with_reducible rfl)
        try simp only [Act.put,zI,zO,zS]
        refine hd_taken 7 (some 58) _ ?hdva7 rfl rfl (by kernel_rfl) (fun _ _ _ h=>h) (Or.inl ⟨by kernel_rfl,?hdya7⟩) hS ?hdra7
        case hdya7=>(intro wx hx;(try dsimp only at hx);go_simp;try with_reducible rfl)
        try simp only [Act.put,zI,zO,zS]
        refine hd_taken 8 (some 59) _ ?hdva8 rfl rfl (by kernel_rfl) (fun _ _ _ h=>h) (Or.inl ⟨by kernel_rfl,?hdya8⟩) hS ?hdra8
        case hdya8=>(intro wx hx;(try dsimp only at hx);go_simp;try with_reducible rfl)
        try simp only [Act.put,zI,zO,zS]
        refine hd_taken 9 (some 60) _ ?hdva9 rfl rfl (by kernel_rfl) (fun _ _ _ h=>h) (Or.inl ⟨by kernel_rfl,?hdya9⟩) hS ?hdra9
        case hdya9=>(intro wx hx;(try dsimp only at hx);go_simp;try with_reducible rfl)
        try simp only [Act.put,zI,zO,zS]
        have b9:=(Below.refl w5.heap.size w5).drew.alloc (Nat.le_refl _) (.cells #[.string (ofL V),.int .i64 y1,.int .u64 y2,.int .i64 y3,.int .i64 y4,.bool y5] 100)
        refine hd_one 10 _ rfl (by kernel_rfl) (by decide) (fun K10 hK10=>?_)
        go_simp
        refine hK10.out _ _ (HSX.out _ b9) ?_
        clear hK10 K10 hS
        try simp only [Act.put,zI,zO,zS]
        refine hd_done (by kernel_rfl) ?_
        simp only [List.drop_succ_cons,List.drop_zero]
        have O5:=Lib.hid (own_below HO5.out (Below.refl w5.heap.size w5).drew)
        have HZ5:Hid (G≤w5.heap.size):=Lib.hid (by have:=HM5.out.lt;have:=HBM.out;omega)
        clear b9
        go_wp2_with (first|(at_builtin;refine wpList_append_lie (w0:=w5.drew) (x:=(u++ [c],(⟨y1,y2,y3,y4,y5⟩:Rg))) (N:=w5.heap.size) (by simp) rfl _ _ 93 rfl G iA _ 56 Tryz.underlying93 hiA hzA hkA hbA (by omega) rfl (by omega) encAr_len encAr_one _ Q2 HENC.out.symm rfl O5.out rfl (by omega) HZ5.out ?_;intro v9 w9 y9;obtain⟨p8,q8,e8⟩:=y9.1.slice;subst e8;have Y9:=Lib.hid y9;clear y9)|go_in)
        have b10:=(Below.refl w5.heap.size w5).drew
        have hk9:=Y9.out.blk (HK5.out.below b10) HNE2.out
        have hm9:=(HM5.out.below b10).own O5.out Y9.out.2.2.1
        have e9:(Q2++ [(u++ [c],(⟨y1,y2,y3,y4,y5⟩:Rg))]).map Prod.snd=Q2.map Prod.snd++ [⟨y1,y2,y3,y4,y5⟩]:=by simp
        have hsw9:SW w G Bm (.slice p8 (Q2++ [(u++ [c],(⟨y1,y2,y3,y4,y5⟩:Rg))]).length q8) (Q2++ [(u++ [c],(⟨y1,y2,y3,y4,y5⟩:Rg))]) w9:=⟨Y9.out.1,by rw [e9,List.length_append,List.length_singleton];exact hm9,HBM.out,(HB5.out.trans (b10.mono HZ5.out)).trans Y9.out.2.1⟩
        have HQ9:Hid ((Q2++ [(u++ [c],(⟨y1,y2,y3,y4,y5⟩:Rg))])[i]? =some (u,⟨x1,x2,x3,x4,x5⟩)):=Lib.hid (by rw [List.getElem?_append_left hlt2];exact HQ2.out)
        have HL9:Hid ((Q2++ [(u++ [c],(⟨y1,y2,y3,y4,y5⟩:Rg))]).length=Q2.length+1):=Lib.hid (by simp)
        rw [HL9.out] at hsw9 hk9
        have HSW9:=Lib.hid hsw9
        have HK9:=Lib.hid hk9.1
        have HNE9:=Lib.hid hk9.2
        clear hsw9 hk9 hm9 e9 b10
        try rw [HL9.out]
        go_wp2_with fail
        go_roundw
        case measure=>simp [intOf]<;>omega
        case rel=>exact⟨c+1,_,by omega,by go_num,by rw [HL9.out];omega,HQ9.out,by first|exact HSW9.out|(simpa using HSW9.out),HS.out,by first|exact HNE9.out|(simpa using HNE9.out),HK9.out⟩
      ·obtain rfl:c=m:=by omega
       have h4:¬ (c:Int)<(c:Int):=by omega
       have HS:=Lib.hid HI2.out.next
       go_wp2
       go_roundw
       case measure=>simp [intOf]<;>omega
       case rel=>exact⟨i+1,Q2,by omega,by go_num,HW2.out,HS.out⟩
   ·obtain rfl:i=Q.length:=by omega
    have h3:¬ (Q.length:Int)<(Q.length:Int):=by omega
    have HF:=Lib.hid (HI.out.found (Nat.le_refl _) (fun h=>by omega))
    go_wp2
    go_ret
    first|exact⟨_,Q,rfl,HW.out.own,HF.out,HW.out.bw⟩|exact⟨_,rfl,Q,HW.out.own,HF.out,HW.out.bw⟩
def Eqr (p:Nat × Nat) (a b:Nat):Prop:=a=b∨∃ j k r,p.1≤r∧a=r+p.2*j∧b=r+p.2*k
theorem Eqr.refl (p:Nat × Nat) (a:Nat):Eqr p a a:= .inl rfl
theorem eqr_red (p:Nat × Nat) (n:Nat):Eqr p (redO p.1 p.2 n) n:=by
 by_cases h:n<p.1
 ·left
  unfold redO
  rw [if_pos h]
 ·right
  refine⟨0,(n - p.1) / p.2,redO p.1 p.2 n,?_,by simp,?_⟩
  ·unfold redO
   rw [if_neg h]
   exact Nat.le_add_right _ _
  ·unfold redO
   rw [if_neg h]
   have:=Nat.mod_add_div (n - p.1) p.2
   omega
theorem Eqr.add {p:Nat × Nat} {a b:Nat} (h:Eqr p a b) (c:Nat):Eqr p (a+c) (b+c):=by
 rcases h with rfl|⟨j,k,r,h1,rfl,rfl⟩
 ·exact .inl rfl
 ·exact .inr ⟨j,k,r+c,by omega,by omega,by omega⟩
theorem Eqr.ten {p:Nat × Nat} {a b:Nat} (h:Eqr p a b):Eqr p (10*a) (10*b):=by
 rcases h with rfl|⟨j,k,r,h1,rfl,rfl⟩
 ·exact .inl rfl
 ·exact .inr ⟨10*j,10*k,10*r,by omega,by rw [Nat.mul_add,Nat.mul_left_comm],by rw [Nat.mul_add,Nat.mul_left_comm]⟩
theorem Eqr.red {p:Nat × Nat} {a b:Nat} (h:Eqr p a b):redO p.1 p.2 a=redO p.1 p.2 b:=by
 rcases h with rfl|⟨j,k,r,h1,rfl,rfl⟩
 ·rfl
 ·have e:∀ i,redO p.1 p.2 (r+p.2*i)=p.1+(r - p.1) % p.2:=fun i=>by
   unfold redO
   rw [if_neg (by have:=Nat.zero_le (p.2*i);omega),show r+p.2*i - p.1=(r - p.1)+p.2*i by omega,Nat.add_mul_mod_self_left]
  rw [e,e]
theorem wT_eqr {l:List Rel} {a b:Int} {p:Nat × Nat} (h:RedOk (fun x=>x∈l) a b p) {r:Rel} (hr:r∈l) (ho:r.op=a∨r.op=b) {m n:Nat} (he:Eqr p m n):wT r m=wT r n:=by
 rw [←wT_red (h.zero_ r hr ho) (h.div r hr ho) m,he.red,wT_red (h.zero_ r hr ho) (h.div r hr ho)]
def trW (n:Nat) (r:Rel):Bool:=if r.op=1∨r.op=2 then wT r n else wT r 0
def trS (r:Rel):Bool:=if r.op=1∨r.op=2 then false else wT r 0
section
variable {l:List Rel} (hok:∀ r∈l,OkR r) (h6:l.length≤60)
include hok h6
theorem stRg_eq (place:Nat):stRg l place=⟨place,bitsF trS l,0,0,true⟩:=by
 unfold stRg
 have e0:(0:Nat)=bitsF (fun _=>false) l:=eq_bits (f:=fun _=>false) (l:=l) (n:=0) (fun j=>by rw [Nat.zero_testBit];split<;>rfl)
 rw [Rg.mk.injEq]
 refine⟨rfl,?_,rfl,rfl,rfl⟩
 conv=>lhs;rw [e0]
 have hz:bitsF (fun _:Rel=>false) l=0:=e0.symm
 rw [upd_bits (by omega),upd_bits (by omega),upd_bits (by omega),upd_bits (by omega)]
 refine bitsF_congr fun r hr=>?_
 have h:=hok r hr
 have h1:=h.lo
 have h2:=h.hi
 unfold trS
 have hw:hI r 0=wT r 0:=hI_nat r 0
 by_cases h12:r.op=1∨r.op=2
 ·rw [if_pos h12,if_neg (by omega),if_neg (by omega),if_neg (by omega),if_neg (by omega)]
 ·rw [if_neg h12,hw]
  by_cases h3:r.op=6
  ·rw [if_pos h3]
  ·rw [if_neg h3]
   by_cases h4:r.op=5
   ·rw [if_pos h4]
   ·rw [if_neg h4]
    by_cases h5:r.op=4
    ·rw [if_pos h5]
    ·rw [if_neg h5,if_pos (by omega)]
theorem nxW_eq {x:Rg} {f:Rel→Bool} {n m c:Nat} (hh:x.hold=bitsF f l) (hf:∀ r∈l,r.op≠1→r.op≠2→f r=wT r 0) (he:Eqr (redL l 1 2) (x.ten+c) m):nxW l (redL l 1 2) x c=⟨1,bitsF (trW m) l,x.cnt,redO (redL l 1 2).1 (redL l 1 2).2 (10*m),x.int⟩:=by
 unfold nxW
 rw [Rg.mk.injEq]
 refine⟨rfl,?_,rfl,he.ten.red,rfl⟩
 rw [hh,upd_bits (by omega),upd_bits (by omega)]
 refine bitsF_congr fun r hr=>?_
 have hr0:=redL_ok hok 1 2
 unfold trW
 by_cases h2:r.op=2
 ·rw [if_pos h2,if_pos (.inr h2),hI_nat]
  exact wT_eqr hr0 hr (.inr h2) he
 ·rw [if_neg h2]
  by_cases h1:r.op=1
  ·rw [if_pos h1,if_pos (.inl h1),hI_nat]
   exact wT_eqr hr0 hr (.inl h1) he
  ·rw [if_neg h1,if_neg (by omega)]
   exact hf r hr h1 h2
def rgW (l:List Rel) (n:Nat):Rg:=⟨1,bitsF (trW n) l,0,redO (redL l 1 2).1 (redL l 1 2).2 (10*n),true⟩
theorem step_first {p q s:Nat × Nat} (hp:p=redL l 1 2) {c:Nat} (hc:c<10):nxR l p q s (stRg l 0) c=rgW l c:=by
 subst hp
 unfold nxR
 rw [stRg_eq hok h6,if_neg (fun h=>by omega),if_neg (fun h=>by rcases h with h|h;omega;exact absurd (show(0:Nat)=4 from h) (by decide)),if_pos (.inl rfl)]
 rw [nxW_eq hok h6 (f:=trS) (n:=0) (m:=c) rfl (fun r hr h1 h2=>by unfold trS;rw [if_neg (by omega)]) (by rw [Nat.zero_add];exact Eqr.refl _ _)]
 rfl
theorem step_whole {p q s:Nat × Nat} (hp:p=redL l 1 2) {n c:Nat} (hc:c<10):nxR l p q s (rgW l n) c=rgW l (10*n+c):=by
 subst hp
 unfold nxR rgW
 rw [if_neg (fun h=>by omega),if_neg (fun h=>by rcases h with h|h;omega;exact absurd (show(1:Nat)=4 from h) (by decide)),if_pos (.inr rfl)]
 rw [nxW_eq hok h6 (f:=trW n) (n:=0) (m:=10*n+c) rfl (fun r hr h1 h2=>by unfold trW;rw [if_neg (by omega)]) ((eqr_red _ _).add c)]
theorem run_whole {p q s:Nat × Nat} (hp:p=redL l 1 2):∀(k:Nat) (ds:Str),ds.length=k→allD ds→ds≠ []→runR (nxR l p q s) (stRg l 0) (wd0 ds)=rgW l (val ds)
 |0,ds,hl,_,hne=>absurd (List.length_eq_zero_iff.1 hl) hne
 |k+1,ds,hl,hd,hne=>by
  obtain⟨a,ch,rfl⟩:∃ a c,ds=a++ [c]:=⟨ds.dropLast,ds.getLast hne,(List.dropLast_concat_getLast hne).symm⟩
  have hch:=(allD_app.1 hd).2 ch (by simp)
  have hda:=(allD_app.1 hd).1
  have hc9:=dg_le hch
  obtain⟨c,hc,rfl⟩:∃ c,c<10∧ch=chrD c:=⟨dg ch,by omega,dg_inj hch (chrD_ok (by omega)).1 (chrD_ok (by omega)).2.symm⟩
  rw [wd0_snoc hc,runR_snoc,val_chr hc]
  by_cases ha:a= []
  ·subst ha
   rw [val_nil]
   have e:runR (nxR l p q s) (stRg l 0) (wd0 [])=stRg l 0:=rfl
   rw [e,step_first hok h6 hp hc,Nat.mul_zero,Nat.zero_add]
  ·rw [run_whole hp k a (by simpa using hl) hda ha,step_whole hok h6 hp hc]
def trF (f0:Rel→Bool) (es:Str) (r:Rel):Bool:=
 if r.op=1 then(if zero es=true then f0 r else r.nt) else if r.op=3 then wT r es.length else if r.op=4 then wT r (trim es).length else if r.op=5 then wT r (val es) else if r.op=6 then wT r (val (trim es)) else f0 r
def rgF (l:List Rel) (f0:Rel→Bool) (es:Str):Rg:=⟨if es= [] then 2 else 3,bitsF (trF f0 es) l,redO (redL l 3 4).1 (redL l 3 4).2 es.length,redO (redL l 5 6).1 (redL l 5 6).2 (10*val es),zero es⟩
omit h6 in
theorem trF_nil {f0:Rel→Bool} (hf:∀ r∈l,3≤r.op→f0 r=wT r 0):∀ r∈l,trF f0 [] r=f0 r:=fun r hr=>by
 have h:=hok r hr
 have h1:=h.lo
 have h2:=h.hi
 unfold trF
 have e1:zero ([]:Str)=true:=rfl
 have e2:trim ([]:Str)= []:=rfl
 have e3:([]:Str).length=0:=rfl
 rw [e2,e3,val_nil]
 by_cases o1:r.op=1
 ·rw [if_pos o1,if_pos e1]
 ·rw [if_neg o1]
  by_cases o2:r.op=2
  ·rw [if_neg (by omega),if_neg (by omega),if_neg (by omega),if_neg (by omega)]
  ·rw [hf r hr (by omega)]
   by_cases o3:r.op=3
   ·rw [if_pos o3]
   ·rw [if_neg o3]
    by_cases o4:r.op=4
    ·rw [if_pos o4]
    ·rw [if_neg o4]
     by_cases o5:r.op=5
     ·rw [if_pos o5]
     ·rw [if_neg o5,if_pos (by omega)]
theorem step_frac {p q s:Nat × Nat} (hq:q=redL l 3 4) (hs:s=redL l 5 6) {f0:Rel→Bool} {es:Str} (he:allD es) {c:Nat} (hc:c<10):nxR l p q s (rgF l f0 es) c=rgF l f0 (es++ [chrD c]):=by
 subst hq hs
 have hpl:(rgF l f0 es).pl=2∨(rgF l f0 es).pl=3:=by
  unfold rgF
  dsimp only
  split
  ·exact .inl rfl
  ·exact .inr rfl
 unfold nxR
 rw [if_neg (fun h=>by omega),if_neg (fun h=>by omega),if_neg (by omega)]
 have hcnt:Eqr (redL l 3 4) ((rgF l f0 es).cnt+1) ((es++ [chrD c]).length):=by
  rw [List.length_append,List.length_singleton]
  exact(eqr_red _ _).add 1
 have hten:Eqr (redL l 5 6) ((rgF l f0 es).ten+c) (val (es++ [chrD c])):=by
  rw [val_chr hc]
  exact(eqr_red _ _).add c
 have hne:es++ [chrD c]≠ []:=by simp
 have r34:=redL_ok hok 3 4
 have r56:=redL_ok hok 5 6
 have w34:∀ r∈l,r.op=3∨r.op=4→wT r (redO (redL l 3 4).1 (redL l 3 4).2 ((rgF l f0 es).cnt+1))=wT r ((es++ [chrD c]).length):=fun r hr ho=>by
  rw [hcnt.red]
  exact wT_eqr r34 hr ho (eqr_red _ _)
 have w56:∀ r∈l,r.op=5∨r.op=6→wT r ((rgF l f0 es).ten+c)=wT r (val (es++ [chrD c])):=fun r hr ho=>wT_eqr r56 hr ho hten
 unfold nxF
 by_cases h0:c=0
 ·rw [if_pos h0]
  unfold nxF0
  have hz:zero (es++ [chrD c])=zero es:=by rw [zero_snoc hc,decide_eq_true h0,Bool.and_true]
  have ht:trim (es++ [chrD c])=trim es:=by rw [trim_snoc he hc,if_pos h0]
  have hR:rgF l f0 (es++ [chrD c])=⟨3,bitsF (trF f0 (es++ [chrD c])) l,redO (redL l 3 4).1 (redL l 3 4).2 (es++ [chrD c]).length,redO (redL l 5 6).1 (redL l 5 6).2 (10*val (es++ [chrD c])),zero (es++ [chrD c])⟩:=by unfold rgF;rw [if_neg hne]
  rw [hR,Rg.mk.injEq]
  refine⟨rfl,?_,hcnt.red,hten.ten.red,hz.symm⟩
  have hh:(rgF l f0 es).hold=bitsF (trF f0 es) l:=rfl
  rw [hh,upd_bits (by omega),upd_bits (by omega)]
  refine bitsF_congr fun r hr=>?_
  unfold trF
  rw [hz,ht]
  by_cases o5:r.op=5
  ·have a1:¬ r.op=1:=by omega
   have a3:¬ r.op=3:=by omega
   have a4:¬ r.op=4:=by omega
   simp only [if_neg a1,if_neg a3,if_neg a4,if_pos o5,hI_nat]
   exact w56 r hr (.inl o5)
  ·by_cases o3:r.op=3
   ·have a1:¬ r.op=1:=by omega
    simp only [if_neg a1,if_pos o3,if_neg o5,hI_nat]
    exact w34 r hr (.inl o3)
   ·simp only [if_neg o5,if_neg o3]
 ·rw [if_neg h0]
  unfold nxF1 nxF0
  have hz:zero (es++ [chrD c])=false:=by rw [zero_snoc hc,decide_eq_false h0,Bool.and_false]
  have ht:trim (es++ [chrD c])=es++ [chrD c]:=by rw [trim_snoc he hc,if_neg h0]
  have hR:rgF l f0 (es++ [chrD c])=⟨3,bitsF (trF f0 (es++ [chrD c])) l,redO (redL l 3 4).1 (redL l 3 4).2 (es++ [chrD c]).length,redO (redL l 5 6).1 (redL l 5 6).2 (10*val (es++ [chrD c])),zero (es++ [chrD c])⟩:=by unfold rgF;rw [if_neg hne]
  rw [hR,Rg.mk.injEq]
  refine⟨rfl,?_,hcnt.red,hten.ten.red,hz.symm⟩
  dsimp only
  have hh:(rgF l f0 es).hold=bitsF (trF f0 es) l:=rfl
  rw [hh,upd_bits (by omega),upd_bits (by omega),upd_bits (by omega),upd_bits (by omega),upd_bits (by omega)]
  refine bitsF_congr fun r hr=>?_
  unfold trF
  rw [hz,ht]
  by_cases o6:r.op=6
  ·have a1:¬ r.op=1:=by omega
   have a3:¬ r.op=3:=by omega
   have a4:¬ r.op=4:=by omega
   have a5:¬ r.op=5:=by omega
   simp only [if_neg a1,if_neg a3,if_neg a4,if_neg a5,if_pos o6,hI_nat]
   exact w56 r hr (.inr o6)
  ·by_cases o4:r.op=4
   ·have a1:¬ r.op=1:=by omega
    have a3:¬ r.op=3:=by omega
    simp only [if_neg a1,if_neg a3,if_pos o4,if_neg o6,hI_nat]
    exact w34 r hr (.inr o4)
   ·by_cases o1:r.op=1
    ·simp only [if_neg o6,if_neg o4,if_pos o1]
     exact hI_no (hok r hr)
    ·by_cases o5:r.op=5
     ·have a3:¬ r.op=3:=by omega
      simp only [if_neg o1,if_neg o6,if_neg o4,if_pos o5,if_neg a3,hI_nat]
      exact w56 r hr (.inl o5)
     ·by_cases o3:r.op=3
      ·simp only [if_neg o1,if_neg o6,if_neg o4,if_neg o5,if_pos o3,hI_nat]
       exact w34 r hr (.inl o3)
      ·simp only [if_neg o1,if_neg o6,if_neg o4,if_neg o5,if_neg o3]
theorem run_frac {p q s:Nat × Nat} (hq:q=redL l 3 4) (hs:s=redL l 5 6) {f0:Rel→Bool} (hf:∀ r∈l,3≤r.op→f0 r=wT r 0):∀(k:Nat) (es:Str),es.length=k→allD es→runR (nxR l p q s) ⟨2,bitsF f0 l,0,0,true⟩ (wd0 es)=rgF l f0 es
 |0,es,hl,_=>by
  obtain rfl:=List.length_eq_zero_iff.1 hl
  have e:runR (nxR l p q s) ⟨2,bitsF f0 l,0,0,true⟩ (wd0 [])=⟨2,bitsF f0 l,0,0,true⟩:=rfl
  rw [e]
  unfold rgF
  rw [if_pos rfl,val_nil,Nat.mul_zero,List.length_nil,redO_zero,redO_zero,bitsF_congr (trF_nil hok hf)]
  rfl
 |k+1,es,hl,hd=>by
  have hne:es≠ []:=by intro e;rw [e] at hl;simp at hl
  obtain⟨a,ch,rfl⟩:∃ a c,es=a++ [c]:=⟨es.dropLast,es.getLast hne,(List.dropLast_concat_getLast hne).symm⟩
  have hch:=(allD_app.1 hd).2 ch (by simp)
  have hda:=(allD_app.1 hd).1
  have hc9:=dg_le hch
  obtain⟨c,hc,rfl⟩:∃ c,c<10∧ch=chrD c:=⟨dg ch,by omega,dg_inj hch (chrD_ok (by omega)).1 (chrD_ok (by omega)).2.symm⟩
  rw [wd0_snoc hc,runR_snoc,run_frac hq hs hf k a (by simpa using hl) hda,step_frac hok h6 hq hs hda hc]
end
theorem bound_code {α:Type} {n:Nat} (R:α→Nat→Prop) (hinj:∀ x y k,R x k→R y k→x=y):∀ L:List α,L.Nodup→(∀ x∈L,∃ k,k<n∧R x k)→L.length≤n:=by
 intro L hL hR
 have:∃ K:List Nat,K.length=L.length∧K.Nodup∧(∀ k∈K,k<n)∧∀ k∈K,∃ x∈L,R x k:=by
  induction L with
  |nil=>exact⟨[],rfl,List.nodup_nil,fun k h=>(by cases h),fun k h=>(by cases h)⟩
  |cons a L ih=>
   rw [List.nodup_cons] at hL
   obtain⟨K,h1,h2,h3,h4⟩:=ih hL.2 (fun x hx=>hR x (by simp [hx]))
   obtain⟨k,hk,hak⟩:=hR a (by simp)
   refine⟨k::K,by simp [h1],?_,fun j hj=>?_,fun j hj=>?_⟩
   ·rw [List.nodup_cons]
    refine⟨fun hm=>?_,h2⟩
    obtain⟨x,hx,hxk⟩:=h4 k hm
    exact hL.1 (hinj a x k hak hxk▸hx)
   ·rcases List.mem_cons.1 hj with rfl|hj
    ·exact hk
    ·exact h3 j hj
   ·rcases List.mem_cons.1 hj with rfl|hj
    ·exact⟨a,by simp,hak⟩
    ·obtain⟨x,hx,hxk⟩:=h4 j hj
     exact⟨x,by simp [hx],hxk⟩
 obtain⟨K,h1,h2,h3,_⟩:=this
 have h4:=nodup_len h2 (b:=List.range n) (fun x hx=>List.mem_range.2 (h3 x hx))
 rw [List.length_range] at h4
 omega
def codeW:List Nat→Nat
 |[]=>0
 |c::w=>(c+1)+12*codeW w
theorem codeW_lt:∀ {w:List Nat},(∀ c∈w,c<10)→codeW w<12 ^ w.length
 |[],_=>by simp [codeW]
 |c::w,h=>by
  have h1:=codeW_lt (w:=w) (fun x hx=>h x (by simp [hx]))
  have h2:=h c (by simp)
  rw [List.length_cons,Nat.pow_succ]
  unfold codeW
  omega
theorem codeW_inj:∀ {v w:List Nat},(∀ c∈v,c<10)→(∀ c∈w,c<10)→codeW v=codeW w→v=w
 |[],[],_,_,_=>rfl
 |[],d::w,_,_,h=>by unfold codeW at h;omega
 |c::v,[],_,_,h=>by unfold codeW at h;omega
 |c::v,d::w,hv,hw,h=>by
  have h1:=hv c (by simp)
  have h2:=hw d (by simp)
  unfold codeW at h
  have e1:c=d:=by omega
  have e2:=codeW_inj (v:=v) (w:=w) (fun x hx=>hv x (by simp [hx])) (fun x hx=>hw x (by simp [hx])) (by omega)
  rw [e1,e2]
theorem bound_frac (f:Rg→Nat→Rg) (x0:Rg) (L:List Rg) (hL:L.Nodup) (h:∀ x∈L,∃ u:List Nat,(∀ c∈u,c<10)∧u.length≤6∧runR f x0 u=x):L.length≤2985984:=by
 refine bound_code (fun x k=>∃ u:List Nat,(∀ c∈u,c<10)∧runR f x0 u=x∧codeW u=k) (fun x y k hx hy=>?_) L hL (fun x hx=>?_)
 ·obtain⟨u,h1,h2,h3⟩:=hx
  obtain⟨v,h4,h5,h6⟩:=hy
  rw [←h2,←h5,codeW_inj h1 h4 (h3.trans h6.symm)]
 ·obtain⟨u,h1,h2,h3⟩:=h x hx
  refine⟨codeW u,?_,u,h1,h3,rfl⟩
  have h4:=codeW_lt h1
  have h5:12 ^ u.length≤12 ^ 6:=Nat.pow_le_pow_right (by omega) h2
  have h6:(12:Nat) ^ 6=2985984:=by decide
  omega
theorem word_digits:∀(u:List Nat),(∀ c∈u,c<10)→∃ ds,allD ds∧wd0 ds=u∧chS u=ds
 |[],_=>⟨[],allD_nil,rfl,rfl⟩
 |c::u,h=>by
  obtain⟨ds,h1,h2,h3⟩:=word_digits u (fun x hx=>h x (by simp [hx]))
  have hc:=chrD_ok (h c (by simp))
  refine⟨chrD c::ds,allD_cons.2 ⟨hc.1,h1⟩,?_,?_⟩
  ·show sy0 (chrD c)::wd0 ds=_
   rw [sy0_digit hc.1,hc.2,h2]
  ·show chrD c::chS u=_
   rw [h3]
theorem rgW_small {l:List Rel} (hok:∀ r∈l,OkR r) (n:Nat):∃ m,m≤401∧rgW l n=rgW l m:=by
 have ho:=redL_ok hok 1 2
 refine⟨redO (redL l 1 2).1 (redL l 1 2).2 n,?_,?_⟩
 ·have h1:=redO_lt (B:=(redL l 1 2).1) ho.pos n
  have h2:=ho.B
  have h3:=le300 ho.m
  omega
 ·have he:=eqr_red (redL l 1 2) n
  unfold rgW
  rw [he.ten.red,bitsF_congr (f:=trW n) (g:=trW (redO (redL l 1 2).1 (redL l 1 2).2 n))]
  intro r hr
  unfold trW
  split
  ·rename_i h
   exact(wT_eqr ho hr h he).symm
  ·rfl
theorem bound_whole {l:List Rel} (hok:∀ r∈l,OkR r) (h6:l.length≤60) (q s:Nat × Nat) (N:Nat) (L:List Rg) (hL:L.Nodup) (h:∀ x∈L,∃ u:List Nat,(∀ c∈u,c<10)∧u.length≤N∧runR (nxR l (redL l 1 2) q s) (stRg l 0) u=x):L.length≤403:=by
 refine bound_code (fun x k=>(k=0∧x=stRg l 0)∨(∃ m,k=m+1∧x=rgW l m)) (fun x y k hx hy=>?_) L hL (fun x hx=>?_)
 ·rcases hx with⟨h1,h2⟩|⟨m,h1,h2⟩<;>rcases hy with⟨h3,h4⟩|⟨n,h3,h4⟩
  ·rw [h2,h4]
  ·omega
  ·omega
  ·rw [h2,h4,show m=n by omega]
 ·obtain⟨u,h1,h2,rfl⟩:=h x hx
  obtain⟨ds,h3,rfl,_⟩:=word_digits u h1
  by_cases hd:ds= []
  ·subst hd
   exact⟨0,by omega,.inl ⟨rfl,rfl⟩⟩
  ·rw [run_whole hok h6 rfl ds.length ds rfl h3 hd]
   obtain⟨m,hm,e⟩:=rgW_small hok (val ds)
   exact⟨m+1,by omega,.inr ⟨m,rfl,e⟩⟩
end Go.Proofs.YtobapaodpcheiaaGreatDoor
