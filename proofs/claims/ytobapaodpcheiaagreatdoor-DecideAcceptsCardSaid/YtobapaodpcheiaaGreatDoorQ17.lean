/- What the row stands on, part 17. -/
import Derived.Deep.MidRow
import Derived.Great.BuildSlice
import Derived.Test.YtobapaodpcheiaaGreatDoorQ16
namespace Go.Proofs.YtobapaodpcheiaaGreatDoor
open Go.RowKit Go.Maps
set_option linter.unusedVariables false
def encG (x:List Nat):List Value:=(List.range 11).map fun c=> .int .i32 (x.getD c 0:Nat)
theorem encG_len (x:List Nat):(encG x).length=11:=by unfold encG;simp
theorem encG_one (x:List Nat):∀ u∈encG x,u.oneCell'=true:=by
 intro u hu
 obtain⟨c,_,rfl⟩:=List.mem_map.1 hu
 rfl
theorem encG_get (x:List Nat) {c:Nat} (hc:c<11):(encG x)[c]? =some (.int .i32 (x.getD c 0:Nat)):=by
 unfold encG
 rw [List.getElem?_map,List.getElem?_range hc]
 rfl
theorem encG_snoc (x:List Nat) (y:Nat) (hx:x.length<11):(encG x).toArray.setIfInBounds x.length (.int .i32 (y:Nat))=(encG (x++ [y])).toArray:=by
 rw [List.setIfInBounds_toArray]
 congr 1
 refine List.ext_getElem? fun j=>?_
 rw [List.getElem?_set,encG_len]
 by_cases hj:x.length=j
 ·subst hj
  rw [if_pos rfl,if_pos hx,encG_get _ hx,List.getD_eq_getElem?_getD,List.getElem?_append_right (Nat.le_refl _),Nat.sub_self]
  rfl
 ·rw [if_neg hj]
  rcases Nat.lt_or_ge j 11 with h|h
  ·rw [encG_get _ h,encG_get _ h,List.getD_eq_getElem?_getD,List.getD_eq_getElem?_getD]
   rcases Nat.lt_or_ge j x.length with h1|h1
   ·rw [List.getElem?_append_left h1]
   ·rw [List.getElem?_eq_none h1,List.getElem?_eq_none (by rw [List.length_append,List.length_singleton];omega)]
  ·rw [List.getElem?_eq_none (by rw [encG_len];exact h),List.getElem?_eq_none (by rw [encG_len];exact h)]
theorem Tryz.infoG:(Tryz.prog.info? 163).map (fun i=>(i.zero,i.size,i.bytes))=some (some (.agg (encG []).toArray),11,44):=by kernel_rfl
theorem Rd.row {w:World} {a:Option Addr} {n c:Nat} {l:List (List Nat)} (h:Rd 11 encG w (.slice a n c) l) (i:Nat) (hi:i<l.length):∃ b off,a=some ⟨b,off,none⟩∧w.rangeAt b (off+i*11) (encG l[i]):=by
 obtain⟨b,off,ha,_,hx⟩:=h.some_ i hi
 exact⟨b,off,ha,fun j u hu=>hx j u hu⟩
theorem load_row {w:World} {b o:Nat} {x:List Nat} (h:w.rangeAt b o (encG x)):(Instr.loadAt 163 (.pointer (some ⟨b,o,none⟩))).run Tryz.prog w= .ok (.agg (encG x).toArray) w:=
 run_loadAt_mid w b o 163 (encG x) _ h Tryz.underlying163 rfl (by rw [encG_len];kernel_rfl)
theorem fill_row (x:List Nat):Instr.fill (fun i=>some (i*11,11)) ((Array.range (1*11)).map ((Value.agg (encG []).toArray).cells[· % (Value.agg (encG []).toArray).cells.size]!)) [(0,.agg (encG x).toArray)]=some (encG x).toArray:=by kernel_rfl
theorem wpList_row {ops:Array Oper} {rest:List Oper} {o:Oper} {a:Act} {w:World} {Q:Exit→Act→World→Prop} (x:List Nat) (y:Operand) (hg:o.guard=none) (ho:o.op= .buildSlice 132 1 #[(0,y)]) (hy:a.eval y= .agg (encG x).toArray)
  (h:wpList Tryz.prog ops Q rest (a.put o.dst (.slice (some ⟨w.heap.size,0,none⟩) 1 1)) (w.alloc (.cells (encG x).toArray 163))):wpList Tryz.prog ops Q (o::rest) a w:=by
 obtain⟨iG,hiG,hzG,hkG,hbG⟩:=info_parts Tryz.infoG
 refine wpList_buildSlice hg 132 163 1 #[(0,y)] ho (encG x).toArray iG _ Tryz.underlying132 hiG hzG (by rw [hkG];omega) (by rw [hkG];omega) ?_ h
 rw [hkG]
 simp only [List.map_toArray,List.map_cons,List.map_nil,hy]
 exact fill_row x
def MapIs (w:World) (K:TypeId) (B n:Nat) (kv:Nat→Value) (fd:List Nat):Prop:=
 ∃ D:DataW Unit,w.ownsMap Tryz.prog K (plainElem Tryz.prog 21) B n D∧IsMap D∧∀ x l,keyOf Tryz.prog K (kv x)=some l→Maps.has D l=decide (x∈fd)∧(x∈fd→D.atKey l (.lit (.int .i32 0))= .lit (.int .i32 (idx fd x:Nat)))
theorem MapIs.lt {w:World} {K:TypeId} {B n:Nat} {kv:Nat→Value} {fd:List Nat} (h:MapIs w K B n kv fd):B<w.heap.size:=by
 obtain⟨D,h,_⟩:=h
 exact h.lt
theorem MapIs.kept {w w':World} {K:TypeId} {B n:Nat} {kv:Nat→Value} {fd:List Nat} {row:Option Nat} (h:MapIs w K B n kv fd) (hg:w.grownBy w' row) (hne:some B≠row):MapIs w' K B n kv fd:=by
 obtain⟨D,h,h2⟩:=h
 exact⟨D,h.kept hg hne,h2⟩
theorem grown_of_below {w w':World} (h:Below w.heap.size w w'):w.grownBy w' none:=⟨h.os,h.tape,h.output,h.size,fun k hk _=>h.block k hk⟩
theorem MapIs.below {w w':World} {K:TypeId} {B n:Nat} {kv:Nat→Value} {fd:List Nat} (h:MapIs w K B n kv fd) (hb:Below w.heap.size w w'):MapIs w' K B n kv fd:=h.kept (grown_of_below hb) (by simp)
theorem MapIs.mono {w:World} {K:TypeId} {B n m:Nat} {kv:Nat→Value} {fd:List Nat} (h:MapIs w K B n kv fd) (hn:n≤m):MapIs w K B m kv fd:=by
 obtain⟨D,h,h2⟩:=h
 exact⟨D,h.mono hn,h2⟩
theorem mapIs_made (w:World) (K:TypeId) (kv:Nat→Value):MapIs (w.alloc (.map #[] 0)) K w.heap.size 0 kv []:=
 ⟨.map [],World.ownsMap_made _ _ _ _,isMap_empty,fun x l _=>⟨by simp [Maps.has_eq],fun h=>by cases h⟩⟩
section
variable {w:World} {T K:TypeId} {B n:Nat} {kv:Nat→Value} {fd:List Nat}
theorem idx_snoc_old {fd:List Nat} {x y:Nat} (h:x∈fd):idx (fd++ [y]) x=idx fd x:=by
 have h1:=idx_lt.2 h
 refine idx_first (by rw [List.length_append];omega) ?_ (fun j hj hlt=>?_)
 ·rw [List.getElem_append_left h1];exact idx_get h1
 ·rw [List.getElem_append_left (by omega)]
  have:=List.not_of_lt_findIdx (xs:=fd) (p:=(· ==x)) (i:=j) hlt
  simpa using this
theorem idx_snoc_new {fd:List Nat} {y:Nat} (h:y ∉fd):idx (fd++ [y]) y=fd.length:=by
 refine idx_first (by rw [List.length_append,List.length_singleton];omega) (by simp) (fun j hj hlt=>?_)
 rw [List.getElem_append_left (by omega)]
 intro e
 exact h (e▸List.getElem_mem _)
theorem i32_wf {n:Nat} (h:n≤2000000000):(Lit.int .i32 (n:Int)).wf=true:=WalkArith.wf_i32 ⟨by omega,by omega⟩
theorem MapIs.look (h:MapIs w K B n kv fd) (L:Keyed Tryz.prog K) (ht:Tryz.prog.underlying T=some (.map K 21)) (hz:∀ wx,(zeroValue 21).run Tryz.prog wx= .ok (.int .i32 0) wx) {x:Nat} {l:Lit} (hk:keyOf Tryz.prog K (kv x)=some l):
  ∃ c:Nat,(Instr.lookup T (.map (some B)) (kv x) true).run Tryz.prog w= .ok (.tuple #[.int .i32 (c:Int),.bool (decide (x∈fd))]) w∧(x∈fd→c=idx fd x):=by
 obtain⟨D,h,hD,h2⟩:=h
 obtain⟨v,ps,hrun,hv⟩:=h.look_ok L ht (hz w) (zd:= .lit (.int .i32 0)) (zp:=[]) (plainElem_int Tryz.underlying21 (by decide)) hk
 obtain⟨h3,h4⟩:=h2 x l hk
 rw [h3] at hrun
 obtain⟨c,rfl,hc,hw⟩:=plainElem_int_inv Tryz.underlying21 hv
 have hc1:=congrArg Prod.fst hc
 dsimp only at hc1
 by_cases hx:x∈fd
 ·rw [h4 hx] at hc1
  injection hc1 with hc1
  injection hc1 with _ hc1
  subst hc1
  exact⟨idx fd x,hrun,fun _=>rfl⟩
 ·have h5:Maps.has D l=false:=by rw [h3];exact decide_eq_false hx
  rw [atKey_of_not_has h5] at hc1
  injection hc1 with hc1
  injection hc1 with _ hc1
  subst hc1
  exact⟨0,hrun,fun e=>absurd e hx⟩
theorem MapIs.put (h:MapIs w K B n kv fd) (L:Keyed Tryz.prog K) (hinj:∀ x y,kv x=kv y→x=y) (ht:Tryz.prog.underlying T=some (.map K 21)) (hn:n≤2000000000) (hlen:fd.length≤2000000000) {x:Nat} {l:Lit} (hk:keyOf Tryz.prog K (kv x)=some l) (hx:x ∉fd):
  ∃ w',(Instr.mapUpdate T (.map (some B)) (kv x) (.int .i32 (fd.length:Nat))).run Tryz.prog w= .ok () w'∧MapIs w' K B (n+1) kv (fd++ [x])∧w.grownBy w' (some B):=by
 obtain⟨D,h,hD,h2⟩:=h
 obtain⟨w',hrun,hown,hg⟩:=h.update L ht (by unfold maxLen;omega) hk (d:= .lit (.int .i32 (fd.length:Nat))) (ps:=[]) (plainElem_int Tryz.underlying21 (i32_wf hlen))
 refine⟨w',hrun,⟨_,hown,hD.put _ _,fun y m hm=>?_⟩,hg⟩
 by_cases hy:y=x
 ·subst hy
  rw [hk] at hm
  cases hm
  exact⟨by rw [has_put_same hD (L.key hk)];simp,fun _=>by rw [atKey_put_same hD (L.key hk),idx_snoc_new hx]⟩
 ·have hne:m≠l:=fun e=>hy (hinj _ _ (L.inj hm (e▸hk)))
  obtain⟨h3,h4⟩:=h2 y m hm
  refine⟨by rw [has_put_other hne,h3,decide_eq_decide];simp [hy],fun hmem=>?_⟩
  have:y∈fd:=by simpa [hy] using hmem
  rw [atKey_put_other hne,h4 this,idx_snoc_old this]
end
set_option maxRecDepth 1000000 in
theorem step1_any (r:RawD) (ok:DOk r) (g:Nat) (a1:Option Addr) (c1:Nat) (a2:Option Addr) (c2:Nat) (w:World) (K:Blk g 35 #[.int .i64 r.st,.slice a1 r.nx.length c1,.slice a2 r.ac.length c2] w) (hN:RdRows w (.slice a1 r.nx.length c1) r.nx) (s c:Nat) (hs:s<r.nx.length) (hc:c<11):
  Calls Tryz.prog 101 #[.int .i64 (s:Int),.int .i64 (c:Int),.pointer (some ⟨g,0,none⟩)] w fun e w'=>e= .returned (.int .i64 ((toA r).d s c:Nat))∧w'=w:=by
 have f1:w.cell? ⟨g,1,none⟩=some (.slice a1 r.nx.length c1):=K.cell 1
 obtain⟨b,off,b',off',x2,rfl,g0,g1⟩:=ok.cells hN hs hc
 have h8:(c:Int)<11:=by omega
 have h7:(s:Int)<(r.nx.length:Int):=by omega
 clear hN K
 go_enter Tryz.func101,Tryz.ntmps101
 go_wp2
 go_ret
 exact⟨rfl,rfl⟩
set_option maxRecDepth 1000000 in
theorem acc1_any (r:RawD) (ok:DOk r) (g:Nat) (a1:Option Addr) (c1:Nat) (a2:Option Addr) (c2:Nat) (w:World) (K:Blk g 35 #[.int .i64 r.st,.slice a1 r.nx.length c1,.slice a2 r.ac.length c2] w) (hF:Rd 1 encO w (.slice a2 r.ac.length c2) r.ac) (s:Nat) (hs:s<r.nx.length):
  Calls Tryz.prog 102 #[.int .i64 (s:Int),.pointer (some ⟨g,0,none⟩)] w fun e w'=>e= .returned (.bool ((toA r).f s))∧w'=w:=by
 have f2:w.cell? ⟨g,2,none⟩=some (.slice a2 r.ac.length c2):=K.cell 2
 have hs2:s<r.ac.length:=by rw [ok.ac];exact hs
 obtain⟨b,off,rfl,g0⟩:=hF.boo s hs2
 have h7:(s:Int)<(r.ac.length:Int):=by omega
 have HV:Hid (r.ac.getD s false=(toA r).f s):=Lib.hid rfl
 obtain⟨z,hz⟩:∃ z,r.ac.getD s false=z:=⟨_,rfl⟩
 rw [hz] at g0 HV
 clear hF K hz
 go_enter Tryz.func102,Tryz.ntmps102
 go_wp2
 go_ret
 exact⟨by rw [←HV.out];rfl,rfl⟩
open Go.RowKit Go.Maps Go.WideMaps
def MapN (w:World) (B n:Nat) (fd:List Rg):Prop:=
 ∃ D:DataW Unit,w.ownsMap Tryz.prog 96 (plainElem Tryz.prog 3) B n D∧IsMap D∧∀ x l,keyOf Tryz.prog 96 (rgV x)=some l→Maps.has D l=decide (x∈fd)∧∀(i:Nat) (h:i<fd.length),fd[i]=x→D.atKey l (.lit (.int .i64 0))= .lit (.int .i64 (i:Nat))
section
variable {w w':World} {B n:Nat} {fd:List Rg}
theorem MapN.lt (h:MapN w B n fd):B<w.heap.size:=by
 obtain⟨D,h,_⟩:=h
 exact h.lt
theorem MapN.kept {row:Option Nat} (h:MapN w B n fd) (hg:w.grownBy w' row) (hne:some B≠row):MapN w' B n fd:=by
 obtain⟨D,h,h2⟩:=h
 exact⟨D,h.kept hg hne,h2⟩
theorem MapN.below (h:MapN w B n fd) (hb:Below w.heap.size w w'):MapN w' B n fd:=h.kept (grown_of_belowM hb) (by simp)
theorem mapN_made (w:World):MapN (w.alloc (.map #[] 0)) w.heap.size 0 []:=
 ⟨.map [],World.ownsMap_made _ _ _ _,isMap_empty,fun x l _=>⟨by simp [Maps.has_eq],fun i h=>by cases h⟩⟩
theorem i64_wfN {n:Nat} (h:n≤2000000000):(Lit.int .i64 (n:Int)).wf=true:=WalkArith.wf_i64 ⟨by omega,by omega⟩
set_option maxRecDepth 100000 in
theorem MapN.look (h:MapN w B n fd) {x:Rg} {l:Lit} (hk:keyOf Tryz.prog 96 (rgV x)=some l) {i:Nat} (hi:i<fd.length) (hx:fd[i]=x):
  (Instr.lookup 98 (.map (some B)) (rgV x) false).run Tryz.prog w= .ok (.int .i64 (i:Nat)) w:=by
 obtain⟨D,h,hD,h2⟩:=h
 obtain⟨v,ps,hrun,hv⟩:=h.lookup keyedRg Tryz.underlying98 (z:= .int .i64 0) (by have:=Tryz.zeroValue3 (w:=w);exact this) (plainElem_int Tryz.underlying3 (by decide)) hk
 obtain⟨h3,h4⟩:=h2 x l hk
 obtain⟨c,rfl,hc,_⟩:=plainElem_int_inv Tryz.underlying3 hv
 have hc1:=congrArg Prod.fst hc
 dsimp only at hc1
 rw [h4 i hi hx] at hc1
 injection hc1 with hc1
 injection hc1 with _ hc1
 rw [←hc1] at hrun
 exact hrun
theorem MapN.put (h:MapN w B n fd) (hn:n≤2000000000) (hlen:fd.length≤2000000000) {x:Rg} {l:Lit} (hk:keyOf Tryz.prog 96 (rgV x)=some l) (hx:x ∉fd):
  ∃ w',(Instr.mapUpdate 98 (.map (some B)) (rgV x) (.int .i64 (fd.length:Nat))).run Tryz.prog w= .ok () w'∧MapN w' B (n+1) (fd++ [x])∧w.grownBy w' (some B):=by
 obtain⟨D,h,hD,h2⟩:=h
 obtain⟨w',hrun,hown,hg⟩:=h.update keyedRg Tryz.underlying98 (by unfold maxLen;omega) hk (d:= .lit (.int .i64 (fd.length:Nat))) (ps:=[]) (plainElem_int Tryz.underlying3 (i64_wfN hlen))
 refine⟨w',hrun,⟨_,hown,hD.put _ _,fun y m hm=>?_⟩,hg⟩
 by_cases hy:y=x
 ·subst hy
  rw [hk] at hm
  cases hm
  refine⟨by rw [has_put_same hD (keyedRg.key hk)];simp,fun i hi e=>?_⟩
  have hi2:i=fd.length:=by
   rw [List.length_append,List.length_singleton] at hi
   rcases Nat.lt_or_ge i fd.length with h5|h5
   ·rw [List.getElem_append_left h5] at e
    exact absurd (e▸List.getElem_mem h5) hx
   ·omega
  rw [atKey_put_same hD (keyedRg.key hk),hi2]
 ·have hne:m≠l:=fun e=>hy (rgV_inj _ _ (keyedRg.inj hm (e▸hk)))
  obtain⟨h3,h4⟩:=h2 y m hm
  refine⟨by rw [has_put_other hne,h3,decide_eq_decide];simp [hy],fun i hi e=>?_⟩
  rw [atKey_put_other hne]
  rw [List.length_append,List.length_singleton] at hi
  rcases Nat.lt_or_ge i fd.length with h5|h5
  ·rw [List.getElem_append_left h5] at e
   exact h4 i h5 e
  ·exfalso
   have:i=fd.length:=by omega
   subst this
   simp at e
   exact hy e.symm
end
theorem own_mapN {α:Type} {k:Nat} {enc:α→List Value} {w w':World} {base B n:Nat} {e:TypeId} {f:List Rg} {v:Value} {m:List α} (h:Own1 k enc w base e v m) (hm:MapN w B n f) (hg:w.grownBy w' (some B)):Own1 k enc w' base e v m:=
 own_grown h hg (fun b hb e1=>by
  injection e1 with e1
  subst e1
  obtain⟨_,cs,hc⟩:=own_blk h B hb
  obtain⟨D,⟨es,clock,h2,_⟩,_⟩:=hm
  rw [show w.heap[B]? =_ from hc] at h2
  cases h2)
theorem blk_mapN {w w':World} {B n:Nat} {t:TypeId} {f:List Rg} {b:Nat} {cs:Array Value} (h:Blk b t cs w) (hm:MapN w B n f) (hg:w.grownBy w' (some B)):Blk b t cs w':=
 (hg.block b h.lt (fun e1=>by
  injection e1 with e1
  subst e1
  obtain⟨D,⟨es,clock,h2,_⟩,_⟩:=hm
  rw [show w.heap[b]? =_ from h] at h2
  cases h2)).trans h
open Go.RowKit
def Fn (B:Nat) (t:TypeId) (n:Nat) (f:Nat→Value) (w:World):Prop:=∃ cs:Array Value,Blk B t cs w∧cs.size=n∧∀ i,i<n→cs[i]? =some (f i)
def updB (f:Nat→Value) (i:Nat) (u:Value):Nat→Value:=fun j=>if j=i then u else f j
section
variable {B:Nat} {t:TypeId} {n:Nat} {f:Nat→Value} {w w':World}
theorem Fn.lt (h:Fn B t n f w):B<w.heap.size:=by
 obtain⟨cs,h,_⟩:=h
 exact h.lt
theorem Fn.cell (h:Fn B t n f w) {i:Nat} (hi:i<n):w.cell? ⟨B,i,none⟩=some (f i):=by
 obtain⟨cs,h,_,hc⟩:=h
 rw [h.cell]
 exact hc i hi
theorem Fn.frozen (h:Fn B t n f w) (i:Nat):w.frozen? ⟨B,i,none⟩=false:=by
 obtain⟨cs,h,_⟩:=h
 exact h.frozen i
theorem Fn.below (h:Fn B t n f w) (hb:Below w.heap.size w w'):Fn B t n f w':=by
 obtain⟨cs,h,h2⟩:=h
 exact⟨cs,Blk.below h hb,h2⟩
theorem Fn.belowAt {m:Nat} (h:Fn B t n f w) (hb:Below m w w') (hm:B<m):Fn B t n f w':=by
 obtain⟨cs,h,h2⟩:=h
 exact⟨cs,Blk.belowAt h hb hm,h2⟩
theorem Fn.grown {row:Option Nat} (h:Fn B t n f w) (hg:w.grownBy w' row) (hne:row≠some B):Fn B t n f w':=by
 obtain⟨cs,h,h2⟩:=h
 exact⟨cs,(hg.block B h.lt (fun e=>hne e.symm)).trans h,h2⟩
theorem Fn.put (h:Fn B t n f w) {i:Nat} (hi:i<n) (u:Value):Fn B t n (updB f i u) (w.setCell ⟨B,i,none⟩ u):=by
 obtain⟨cs,h,h2,h3⟩:=h
 refine⟨cs.setIfInBounds i u,h.put i u,by simp [h2],fun j hj=>?_⟩
 rw [Array.getElem?_setIfInBounds]
 unfold updB
 by_cases e:i=j
 ·subst e
  simp [h2,hi]
 ·rw [if_neg e,if_neg (fun e2=>e e2.symm)]
  exact h3 j hj
theorem Fn.congr {g:Nat→Value} (h:Fn B t n f w) (he:∀ i,i<n→f i=g i):Fn B t n g w:=by
 obtain⟨cs,h,h2,h3⟩:=h
 exact⟨cs,h,h2,fun i hi=>by rw [h3 i hi,he i hi]⟩
theorem Fn.apart {B':Nat} {t':TypeId} {n':Nat} {f':Nat→Value} (h:Fn B t n f w) (h':Fn B' t' n' f' w) (hne:t≠t'):B≠B':=fun e=>by
 subst e
 obtain⟨cs,h1,_⟩:=h
 obtain⟨cs',h2,_⟩:=h'
 have h3:=(show w.heap[B]? =_ from h1).symm.trans (show w.heap[B]? =_ from h2)
 injection h3 with h3
 injection h3 with _ h3
 exact hne h3
theorem Fn.own {α:Type} {k:Nat} {enc:α→List Value} {base:Nat} {e:TypeId} {v:Value} {l:List α} (h:Fn B t n f w) (ho:Own1 k enc w base e v l) (hne:t≠e):v.ownBlock≠some B:=by
 obtain⟨cs,h,_⟩:=h
 exact own_type ho h hne
end
theorem fn_made (w:World) (t:TypeId) (z:Array Value) (n:Nat) (hz:0<z.size):Fn w.heap.size t n (fun i=>z[i % z.size]!) (w.alloc (.cells (madeCells z n) t)):=
 ⟨madeCells z n,Blk.new w t _,size_madeCells z n,fun i hi=>by simp [madeCells,hi]⟩
theorem make_fn {P:Program} (T e:TypeId) (z:Value) (k by_:Nat) (ht:P.underlying T=some (.slice e)) (hi:(P.info? e).map (fun i=>(i.zero,i.size,i.bytes))=some (some z,k,by_)) (hk:k≤11) (hb:by_≤64) (n:Nat) (hn:n≤1000000) (w:World):
  (Instr.makeSlice T (.int .i64 (n:Int)) (.int .i64 (n:Int))).run P w= .ok (.slice (some ⟨w.heap.size,0,none⟩) n n) (w.alloc (.cells (madeCells z.cells (n*k)) e)):=by
 obtain⟨i0,h1,h2,h3,h4⟩:=info_parts hi
 have hbb:(i0.bytes:Int)*(n:Int)≤281474976710656:=by
  rw [h4]
  have:=Nat.mul_le_mul hb hn
  have e:((by_:Int)*(n:Int))=((by_*n:Nat):Int):=by simp
  rw [e]
  omega
 have hkk:=Nat.mul_le_mul hn hk
 have:=run_makeSlice (P:=P) (w:=w) T e i0 z ht h1 h2 .i64 .i64 (n:Int) (n:Int) (by omega) (Int.le_refl _) (by rw [h3];simp;omega) hbb (by omega)
 rw [h3] at this
 simpa using this
theorem index_row (x:List Nat) {c:Nat} (hc:c<11) (w:World):(Instr.index 163 (.agg (encG x).toArray) (.int .i64 (c:Int))).run Tryz.prog w= .ok (.int .i32 (x.getD c 0:Nat)) w:=by
 have h1:(isAgg 21).run Tryz.prog w= .ok false w:=by kernel_rfl
 have h2:(sizeOf 21).run Tryz.prog w= .ok 1 w:=by kernel_rfl
 have h3:(encG x)[c]? =some (.int .i32 (x.getD c 0:Nat)):=encG_get x hc
 have h4:(0:Int)≤(c:Int)∧(c:Int)<11:=by omega
 simp [Instr.index,asIntOf,run_underlying Tryz.underlying163,part,Sem.run_bind,h1,h2,h3,h4,Result.andThen]
 exact fun h=>absurd h (by omega)
section
variable {ops:Array Oper} {rest:List Oper} {o:Oper} {a:Act} {w:World} {Q:Exit→Act→World→Prop}
theorem wpList_load_row (x:List Nat) (b off:Nat) (y:Operand) (hg:o.guard=none) (ho:o.op= .load 163 y) (hy:a.eval y= .pointer (some ⟨b,off,none⟩)) (hr:w.rangeAt b off (encG x))
  (h:wpList Tryz.prog ops Q rest (a.put o.dst (.agg (encG x).toArray)) w):wpList Tryz.prog ops Q (o::rest) a w:=
 wpList_load_mid hg 163 y ho b off hy (encG x) _ hr Tryz.underlying163 rfl (by rw [encG_len];kernel_rfl) h
theorem wpList_store_row (x:List Nat) (b:Nat) (cs:Array Value) (hb:Blk b 163 cs w) (hcs:cs.size=11) (y z:Operand) (hg:o.guard=none) (ho:o.op= .store 163 y z) (hy:a.eval y= .pointer (some ⟨b,0,none⟩)) (hz:a.eval z= .agg (encG x).toArray)
  (h:∀ w',Blk b 163 (encG x).toArray w'→w.grownBy w' (some b)→wpList Tryz.prog ops Q rest (a.put o.dst undef) w'):wpList Tryz.prog ops Q (o::rest) a w:=by
 have hthere:w.there b 0 (encG x).toArray.size:=fun j hj=>by
  rw [List.size_toArray,encG_len] at hj
  rw [Nat.zero_add,hb.cell,hb.frozen]
  exact⟨by rw [Array.getElem?_eq_getElem (by omega)];rfl,rfl⟩
 refine wpList_store_mid hg 163 y z ho b 0 (encG x).toArray hy hz hthere (by rw [List.size_toArray,encG_len];kernel_rfl) (all_oneCell_toArray (encG_one x)) ?_
 have key:∀(l:List Value) (o:Nat) (W:World) (cs:Array Value),Blk b 163 cs W→o+l.length≤cs.size→Blk b 163 ((cs.toList.take o++l++cs.toList.drop (o+l.length)).toArray) (W.setCells b o l)∧W.grownBy (W.setCells b o l) (some b):=by
  intro l
  induction l with
  |nil=>
   intro o W cs hk _
   refine⟨?_,?_⟩
   ·simpa [World.setCells] using hk
   ·exact World.grownBy.refl _ _
  |cons v r ih=>
   intro o W cs hk hl
   rw [List.length_cons] at hl
   obtain⟨h1,h2⟩:=ih (o+1) (W.setCell ⟨b,o,none⟩ v) (cs.setIfInBounds o v) (hk.put o v) (by simp;omega)
   refine⟨?_,(grown_set W b o v).trans h2⟩
   rw [World.setCells]
   have e:(((cs.setIfInBounds o v).toList.take (o+1)++r++(cs.setIfInBounds o v).toList.drop (o+1+r.length)).toArray)=((cs.toList.take o++v::r++cs.toList.drop (o+(v::r).length)).toArray):=by
    congr 1
    rw [Array.toList_setIfInBounds,List.length_cons,List.drop_set_of_lt (by omega),show o+1+r.length=o+(r.length+1) by omega]
    have h3:(cs.toList.set o v).take (o+1)=cs.toList.take o++ [v]:=by
     have ho:o<(cs.toList.set o v).length:=by simp;omega
     rw [List.take_succ_eq_append_getElem ho,List.take_set_of_le (Nat.le_refl _)]
     simp
    rw [h3]
    simp
   rw [←e]
   exact h1
 obtain⟨h1,h2⟩:=key (encG x) 0 w cs hb (by rw [encG_len];omega)
 have e:((cs.toList.take 0++encG x++cs.toList.drop (0+(encG x).length)).toArray)=(encG x).toArray:=by
  rw [encG_len,List.drop_eq_nil_of_le (by simp;omega)]
  simp
 rw [e] at h1
 exact h _ h1 h2
end
end Go.Proofs.YtobapaodpcheiaaGreatDoor
