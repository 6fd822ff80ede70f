/- What the row stands on, part 2. -/
import Derived.Test.YtobapaodpcheiaaGreatDoorChecked
import Derived.WalkKit
import Derived.WalkLawsBesides
import Derived.WalkSpells
import Derived.Below
import Derived.Lib.Hide
import Derived.LoopTactic
import Derived.Lib.OthersKept
import Derived.Deep.QuietTactic
import Derived.BigQuiet
import Derived.OwnWalk
import Derived.Maps.AppendAt
import Derived.WalkSmall
import Derived.Laws.OwnMore
import Derived.Laws.AppendOwnNone
import Derived.Lib.AppendStr
import Derived.Deep.RegionWith
import Derived.Deep.RegionHeld3
import Derived.Outline
import Derived.RangeFuncNested
import Derived.RangeFuncBound
import Derived.RangeFuncCalls
import Derived.RangeFuncLeaves
import Derived.RangeFuncBox
import Derived.Shelf.Abstract
import Derived.Shelf.RegionOpen
import Derived.OwnWalkIn
import Derived.TacticsInMore
import Derived.LoopNIn
import Derived.LoopIn
import Derived.Sort.QuietIn
import Derived.StillTailTactics
import Derived.Laws.IdiomCopy
import Derived.IntWalk
import Derived.Deep.RegionLaw
import Derived.Deep.CutRange
import Derived.OpenShut
import Derived.WideShapes
import Derived.Laws.StructEq
import Derived.Deep.Strs
import Derived.ChangeSame
import Derived.Laws.IdiomStrings
import Derived.Test.YtobapaodpcheiaaGreatDoorQ1
namespace Go.Proofs.YtobapaodpcheiaaGreatDoor
open Go.RowKit Go.Shelf
set_option linter.unusedVariables false
attribute [local go_sem] Oper.semAt_some
def ofL (x:List UInt8):ByteArray:=⟨x.toArray⟩
theorem ofL_list (x:List UInt8):(ofL x).data.toList=x:=rfl
theorem ofL_size (x:List UInt8):(ofL x).size=x.length:=by show x.toArray.size=_;simp
theorem of_data (B:ByteArray):ofL B.data.toList=B:=by cases B;simp [ofL]
theorem add_off (g o k:Nat):(⟨g,o,none⟩:Addr).add k=⟨g,o+k,none⟩:=by unfold Addr.add;split<;>simp_all
theorem val_int {k:IntKind} {a b:Int} (h:a=b):Value.int k a= .int k b:=by rw [h]
theorem st {b:Nat} {w w1 w2:World} (h:Below b w w1) (h2:Below w1.heap.size w1 w2) (hs:b≤w1.heap.size):Below b w w2:=h.trans (h2.mono hs)
def encT (x:List UInt8):List Value:=[.string (ofL x)]
def encP (p:Int × Int):List Value:=[.int .i64 p.1,.int .i64 p.2]
section
variable {α:Type}
structure Rd (k:Nat) (enc:α→List Value) (w:World) (v:Value) (l:List α):Prop where
 form:∃ a c,v= .slice a l.length c∧l.length≤c∧c≤9223372036854775807∧(l≠ []→∃ b off,a=some ⟨b,off,none⟩∧b<w.heap.size∧∀ i x,l[i]? =some x→∀ j u,(enc x)[j]? =some u→w.cell? ⟨b,off+i*k+j,none⟩=some u)
 nil_:∀ n c,v= .slice none n c→c=0
variable {k:Nat} {enc:α→List Value}
theorem Rd.below {w w':World} {v:Value} {l:List α} (h:Rd k enc w v l) (hb:Below w.heap.size w w'):Rd k enc w' v l:=by
 obtain⟨⟨a,c,hv,h1,h2,hx⟩,hn⟩:=h
 refine⟨⟨a,c,hv,h1,h2,fun hne=>?_⟩,hn⟩
 obtain⟨b,off,ha,hlt,hc⟩:=hx hne
 exact⟨b,off,ha,Nat.lt_of_lt_of_le hlt hb.size,fun i x hi j u hu=>(hb.cell (p:=⟨b,off+i*k+j,none⟩) hlt).trans (hc i x hi j u hu)⟩
theorem Rd.drewN {w:World} {v:Value} {l:List α} (h:Rd k enc w v l) (n:Nat):Rd k enc (w.drewN n) v l:=h.below (below_drewN (Below.refl _ _) n)
theorem Rd.alloc {w:World} {v:Value} {l:List α} (h:Rd k enc w v l) (o:Obj):Rd k enc (w.alloc o) v l:=h.below ((Below.refl _ _).alloc (Nat.le_refl _) o)
theorem Rd.slice {w:World} {v:Value} {l:List α} (h:Rd k enc w v l):∃ a c,v= .slice a l.length c∧l.length≤c∧c≤9223372036854775807:=by
 obtain⟨⟨a,c,hv,h1,h2,_⟩,_⟩:=h
 exact⟨a,c,hv,h1,h2⟩
theorem rd_nil (w:World):Rd k enc w (.slice none 0 0) ([]:List α):=⟨⟨_,0,rfl,by simp,by omega,fun h=>absurd rfl h⟩,fun n c hc=>by injection hc with _ _ h3;exact h3.symm⟩
theorem Rd.some_ {w:World} {a:Option Addr} {n c:Nat} {l:List α} (h:Rd k enc w (.slice a n c) l) (i:Nat) (hi:i<l.length):∃ b off,a=some ⟨b,off,none⟩∧b<w.heap.size∧∀ j u,(enc l[i])[j]? =some u→w.cell? ⟨b,off+i*k+j,none⟩=some u:=by
 obtain⟨⟨a',c',hv,_,_,hx⟩,_⟩:=h
 injection hv with e1 e2 e3
 subst e1
 obtain⟨b,off,rfl,hb,hc⟩:=hx (List.ne_nil_of_length_pos (by omega))
 exact⟨b,off,rfl,hb,hc i _ (List.getElem?_eq_getElem hi)⟩
theorem Rd.at_ {w:World} {b off n c:Nat} {l:List α} (h:Rd k enc w (.slice (some ⟨b,off,none⟩) n c) l) (i:Nat) (hi:i<l.length):∀ j u,(enc l[i])[j]? =some u→w.cell? ⟨b,off+i*k+j,none⟩=some u:=by
 obtain⟨b',off',e,_,h⟩:=h.some_ i hi
 cases e
 exact h
theorem Rd.len {w:World} {a:Option Addr} {n c:Nat} {l:List α} (h:Rd k enc w (.slice a n c) l):l.length=n:=by
 obtain⟨⟨a',c',hv,_,_,hx⟩,_⟩:=h
 injection hv with e1 e2 e3
 exact e2.symm
theorem flat_len (hk:∀ x:α,(enc x).length=k):∀ l:List α,(l.flatMap enc).length=l.length*k
 |[]=>by simp
 |x::l=>by rw [List.flatMap_cons,List.length_append,flat_len hk l,hk,List.length_cons,Nat.add_mul];omega
theorem flat_get (hk:∀ x:α,(enc x).length=k):∀(l:List α) (i:Nat) (x:α),l[i]? =some x→∀ j u,(enc x)[j]? =some u→(l.flatMap enc)[i*k+j]? =some u
 |[],i,x,h,_,_,_=>by simp at h
 |y::l,0,x,h,j,u,hu=>by
  simp at h
  subst h
  rw [List.flatMap_cons,Nat.zero_mul,Nat.zero_add,List.getElem?_append_left (List.getElem?_eq_some_iff.1 hu).1]
  exact hu
 |y::l,i+1,x,h,j,u,hu=>by
  have h':l[i]? =some x:=by simpa using h
  have:=flat_get hk l i x h' j u hu
  rw [List.flatMap_cons,List.getElem?_append_right (by rw [hk,Nat.add_mul];omega),hk]
  rw [show(i+1)*k+j - k=i*k+j by rw [Nat.add_mul];omega]
  exact this
def Own1 (k:Nat) (enc:α→List Value) (w:World) (base:Nat) (e:TypeId) (v:Value) (l:List α):Prop:=w.ownsRow base e k v l.length (l.flatMap enc)
theorem own_below {w w':World} {base n:Nat} {e:TypeId} {size:Nat} {v:Value} {xs:List Value} (h:w.ownsRow base e size v n xs) (hb:Below w.heap.size w w'):w'.ownsRow base e size v n xs:=by
 refine⟨h.1,?_⟩
 rcases h.2 with h0|⟨g,cap,cur,hv,hB,hg,hr⟩
 ·exact .inl h0
 ·exact .inr ⟨g,cap,cur,hv,hB,(hb.block g (Array.getElem?_eq_some_iff.1 hg).1).trans hg,hr⟩
theorem own_base {w:World} {base base' n:Nat} {e:TypeId} {size:Nat} {v:Value} {xs:List Value} (h:w.ownsRow base e size v n xs) (hb:base'≤base):w.ownsRow base' e size v n xs:=by
 refine⟨h.1,?_⟩
 rcases h.2 with h0|⟨g,cap,cur,hv,hB,hg,hr⟩
 ·exact .inl h0
 ·exact .inr ⟨g,cap,cur,hv,Nat.le_trans hb hB,hg,hr⟩
theorem Own1.below {w w':World} {base:Nat} {e:TypeId} {v:Value} {l:List α} (h:Own1 k enc w base e v l) (hb:Below w.heap.size w w'):Own1 k enc w' base e v l:=own_below h hb
theorem Own1.base {w:World} {base base':Nat} {e:TypeId} {v:Value} {l:List α} (h:Own1 k enc w base e v l) (hb:base'≤base):Own1 k enc w base' e v l:=own_base h hb
theorem own1_nil (w:World) (base:Nat) (e:TypeId):Own1 k enc w base e (.slice none 0 0) ([]:List α):=World.ownsRow_nil _ _ _ _
theorem Own1.rd {w:World} {base:Nat} {e:TypeId} {v:Value} {l:List α} (h:Own1 k enc w base e v l) (hk:∀ x:α,(enc x).length=k):Rd k enc w v l:=by
 rcases h.2 with⟨rfl,h0⟩|⟨g,cap,cur,rfl,hb,hg,hnc,hcap,hsz,hr⟩
 ·have:l= []:=List.eq_nil_of_length_eq_zero h0
  subst this
  exact rd_nil w
 ·refine⟨⟨_,cap,rfl,hnc,by(have hm:maxLen=9223372036854775807:=by decide);omega,fun hne=>⟨g,0,rfl,(Array.getElem?_eq_some_iff.1 hg).1,fun i x hi j u hu=>?_⟩⟩,fun n c hc=>by injection hc with h1 _ _;cases h1⟩
  have h1:=flat_get hk l i x hi j u hu
  have h2:=(List.getElem?_eq_some_iff.1 h1).1
  rw [flat_len hk] at h2
  rw [←hr,List.getElem?_take,if_pos h2] at h1
  show w.cell? ⟨g,0+i*k+j,none⟩=_
  rw [Nat.zero_add]
  simpa [World.cell?,hg] using h1
theorem Own1.slice {w:World} {base:Nat} {e:TypeId} {v:Value} {l:List α} (h:Own1 k enc w base e v l):∃ a c,v= .slice a l.length c:=by
 rcases h.2 with⟨rfl,h0⟩|⟨g,cap,cur,rfl,_⟩
 ·exact⟨none,0,by rw [h0]⟩
 ·exact⟨_,_,rfl⟩
theorem Rd.take {w:World} {a:Option Addr} {n c:Nat} {l:List α} (h:Rd k enc w (.slice a n c) l) (m:Nat) (hm:m≤l.length):Rd k enc w (.slice a m c) (l.take m):=by
 obtain⟨⟨a',c',hv,h1,h2,hx⟩,hn⟩:=h
 injection hv with e1 e2 e3
 subst e1
 subst e3
 have hlen:(l.take m).length=m:=by rw [List.length_take];omega
 refine⟨⟨a,c,by rw [hlen],by omega,h2,fun hne=>?_⟩,fun n' c' hc=>hn n c' (by injection hc with q1 q2 q3;rw [q1,q3])⟩
 have hpos:0<m:=by rw [←hlen];exact List.length_pos_iff.2 hne
 obtain⟨b,off,ha,hb,hc⟩:=hx (List.ne_nil_of_length_pos (by omega))
 refine⟨b,off,ha,hb,fun i x hi=>hc i x ?_⟩
 rw [List.getElem?_take] at hi
 split at hi
 ·exact hi
 ·cases hi
def cutV (a:Option Addr) (m n c k:Nat):Value:= .slice (if c=m then a else a.map (·.add (m*k))) (n - m) (c - m)
theorem Rd.cut {w:World} {a:Option Addr} {n c:Nat} {l:List α} (h:Rd k enc w (.slice a n c) l) (m:Nat) (hm:m≤l.length):Rd k enc w (cutV a m n c k) (l.drop m):=by
 obtain⟨⟨a',c',hv,h1,h2,hx⟩,hn⟩:=h
 injection hv with e1 e2 e3
 subst e1
 subst e2
 subst e3
 have hlen:(l.drop m).length=l.length - m:=by rw [List.length_drop]
 refine⟨⟨_,c - m,by rw [hlen];rfl,by omega,by omega,fun hne=>?_⟩,fun n' c' hc=>?_⟩
 ·have hpos:0<l.length - m:=by rw [←hlen];exact List.length_pos_iff.2 hne
  obtain⟨b,off,ha,hb,hc⟩:=hx (List.ne_nil_of_length_pos (by omega))
  subst ha
  rw [if_neg (by omega)]
  refine⟨b,off+m*k,by show some (Addr.add _ _)=_;rw [add_off],hb,fun i x hi j u hu=>?_⟩
  rw [List.getElem?_drop] at hi
  have:=hc (m+i) x hi j u hu
  rw [Nat.add_mul] at this
  rw [show off+m*k+i*k+j=off+(m*k+i*k)+j by omega]
  exact this
 ·injection hc with q1 q2 q3
  cases a with
  |none=>have:=hn _ _ rfl;omega
  |some y=>split at q1<;>cases q1
end
def Blk (B:Nat) (t:TypeId) (cs:Array Value) (W:World):Prop:=W.heap[B]? =some (.cells cs t (0,0))
theorem Blk.lt {B:Nat} {t:TypeId} {cs:Array Value} {W:World} (h:Blk B t cs W):B<W.heap.size:=(Array.getElem?_eq_some_iff.1 h).1
theorem Blk.cell {B:Nat} {t:TypeId} {cs:Array Value} {W:World} (h:Blk B t cs W) (i:Nat):W.cell? ⟨B,i,none⟩=cs[i]? :=by simp [World.cell?,show W.heap[B]? =_ from h]
theorem Blk.frozen {B:Nat} {t:TypeId} {cs:Array Value} {W:World} (h:Blk B t cs W) (i:Nat):W.frozen? ⟨B,i,none⟩=false:=by simp [World.frozen?,show W.heap[B]? =_ from h]
theorem Blk.new (W:World) (t:TypeId) (cs:Array Value):Blk W.heap.size t cs (W.alloc (.cells cs t)):=heap_alloc_new W _
theorem Blk.alloc {B:Nat} {t:TypeId} {cs:Array Value} {W:World} (h:Blk B t cs W) (o:Obj):Blk B t cs (W.alloc o):=(Below.heap_alloc W o B h.lt).trans h
theorem Blk.below {B:Nat} {t:TypeId} {cs:Array Value} {W W':World} (h:Blk B t cs W) (hb:Below W.heap.size W W'):Blk B t cs W':=(hb.block B h.lt).trans h
theorem Blk.belowAt {B n:Nat} {t:TypeId} {cs:Array Value} {W W':World} (h:Blk B t cs W) (hb:Below n W W') (hn:B<n):Blk B t cs W':=(hb.block B hn).trans h
theorem Blk.far {B:Nat} {t:TypeId} {cs:Array Value} {W:World} (h:Blk B t cs W) {p:Addr} (hp:B≠p.block) (u:Value):Blk B t cs (W.setCell p u):=(Below.heap_setCell W p u B hp).trans h
theorem Blk.put {B:Nat} {t:TypeId} {cs:Array Value} {W:World} (h:Blk B t cs W) (i:Nat) (u:Value):Blk B t (cs.setIfInBounds i u) (W.setCell ⟨B,i,none⟩ u):=by
 unfold Blk at h ⊢
 simp [World.setCell,Array.getElem?_modify,h]
structure But (g:Nat) (w w':World):Prop where
 os:w'.os=w.os
 tape:w'.tape=w.tape
 output:w'.output=w.output
 size:w.heap.size≤w'.heap.size
 block:∀ k,k<w.heap.size→k≠g→w'.heap[k]? =w.heap[k]?
theorem But.refl (g:Nat) (w:World):But g w w:=⟨rfl,rfl,rfl,Nat.le_refl _,fun _ _ _=>rfl⟩
theorem But.trans {g:Nat} {a b c:World} (h:But g a b) (k:But g b c):But g a c:=
 ⟨k.os.trans h.os,k.tape.trans h.tape,k.output.trans h.output,Nat.le_trans h.size k.size,fun i hi hg=>(k.block i (Nat.lt_of_lt_of_le hi h.size) hg).trans (h.block i hi hg)⟩
theorem But.of_below {g:Nat} {w w':World} (h:Below w.heap.size w w'):But g w w':=⟨h.os,h.tape,h.output,h.size,fun k hk _=>h.block k hk⟩
theorem But.setCell (g:Nat) (w:World) (i:Nat) (u:Value):But g w (w.setCell ⟨g,i,none⟩ u):=
 ⟨rfl,rfl,rfl,by simp [World.setCell],fun k hk hg=>Below.heap_setCell _ _ _ _ hg⟩
theorem But.alloc {g:Nat} {a b:World} (h:But g a b) (o:Obj):But g a (b.alloc o):=h.trans (But.of_below ((Below.refl _ _).alloc (Nat.le_refl _) _))
theorem But.drewN {g:Nat} {a b:World} (h:But g a b) (n:Nat):But g a (b.drewN n):=h.trans (But.of_below (below_drewN (Below.refl _ _) n))
theorem But.below {g B:Nat} {w w':World} (h:But g w w') (h1:B≤g) (h2:B≤w.heap.size):Below B w w':=⟨h.os,h.tape,h.output,h.size,fun k hk=>h.block k (by omega) (by omega)⟩
theorem Blk.but {B g:Nat} {t:TypeId} {cs:Array Value} {W W':World} (h:Blk B t cs W) (hb:But g W W') (hne:B≠g):Blk B t cs W':=(hb.block B h.lt hne).trans h
section
variable {α:Type} {k:Nat} {enc:α→List Value}
theorem Rd.but {g:Nat} {w w':World} {v:Value} {l:List α} (h:Rd k enc w v l) (hb:But g w w') (hne:∀ b,v.ownBlock=some b→b≠g):Rd k enc w' v l:=by
 obtain⟨⟨a,c,rfl,h1,h2,hx⟩,hn⟩:=h
 refine⟨⟨a,c,rfl,h1,h2,fun hl=>?_⟩,hn⟩
 obtain⟨b,off,ha,hlt,hc⟩:=hx hl
 subst ha
 exact⟨b,off,rfl,Nat.lt_of_lt_of_le hlt hb.size,fun i x hi j u hu=>(World.cell?_of_block (w:=w) (a:=⟨b,off+i*k+j,none⟩) (hb.block b hlt (hne b rfl))).trans (hc i x hi j u hu)⟩
end
theorem cells_new (w:World) (cs:Array Value) (t:TypeId):∀ j u,cs.toList[j]? =some u→(w.alloc (.cells cs t)).cell? ((⟨w.heap.size,0,none⟩:Addr).add j)=some u:=by
 intro j u h
 rw [add_off,(Blk.new w t cs).cell,Nat.zero_add,←Array.getElem?_toList]
 exact h
section
variable {α:Type} {k:Nat} {enc:α→List Value}
variable {P:Program} {ops:Array Oper} {rest:List Oper} {o:Oper} {a:Act} {Q:Exit→Act→World→Prop}
end
theorem encT_len (x:List UInt8):(encT x).length=1:=rfl
theorem encP_len (x:Int × Int):(encP x).length=2:=rfl
theorem encP_one (x:Int × Int):∀ u∈encP x,u.oneCell'=true:=by intro u hu;simp [encP] at hu;rcases hu with rfl|rfl<;>rfl
theorem Tryz.infoT:(Tryz.prog.info? 9).map (fun i=>(i.zero,i.size,i.bytes))=some (some (.string ByteArray.empty),1,16):=by kernel_rfl
theorem Rd.str {w:World} {a:Option Addr} {n c:Nat} {l:List (List UInt8)} (h:Rd 1 encT w (.slice a n c) l) (i:Nat) (hi:i<l.length):∃ b off,a=some ⟨b,off,none⟩∧w.cell? ⟨b,off+i,none⟩=some (.string (ofL (l[i]))):=by
 obtain⟨b,off,ha,_,hx⟩:=h.some_ i hi
 refine⟨b,off,ha,?_⟩
 have:=hx 0 _ rfl
 simpa using this
structure Bt (n C:Nat) (w w':World):Prop where
 os:w'.os=w.os
 tape:w'.tape=w.tape
 output:w'.output=w.output
 size:w.heap.size≤w'.heap.size
 block:∀ k,k<n→k≠C→w'.heap[k]? =w.heap[k]?
theorem Bt.refl (n C:Nat) (w:World):Bt n C w w:=⟨rfl,rfl,rfl,Nat.le_refl _,fun _ _ _=>rfl⟩
theorem Bt.trans {n C:Nat} {A B D:World} (h:Bt n C A B) (k:Bt n C B D):Bt n C A D:=
 ⟨k.os.trans h.os,k.tape.trans h.tape,k.output.trans h.output,Nat.le_trans h.size k.size,fun i hi hc=>(k.block i hi hc).trans (h.block i hi hc)⟩
theorem Bt.of_below {n C:Nat} {w w':World} (h:Below n w w'):Bt n C w w':=⟨h.os,h.tape,h.output,h.size,fun k hk _=>h.block k hk⟩
theorem Bt.setCell (n C:Nat) (w:World) (i:Nat) (u:Value):Bt n C w (w.setCell ⟨C,i,none⟩ u):=
 ⟨rfl,rfl,rfl,by simp [World.setCell],fun k hk hg=>Below.heap_setCell _ _ _ _ hg⟩
theorem Bt.but {n C:Nat} {w w':World} (h:Bt n C w w') (hn:w.heap.size≤n):But C w w':=⟨h.os,h.tape,h.output,h.size,fun k hk hc=>h.block k (by omega) hc⟩
theorem Bt.mono {n m C:Nat} {w w':World} (h:Bt n C w w') (hn:m≤n):Bt m C w w':=⟨h.os,h.tape,h.output,h.size,fun k hk hc=>h.block k (by omega) hc⟩
theorem Blk.bt {B n C:Nat} {t:TypeId} {cs:Array Value} {W W':World} (h:Blk B t cs W) (hb:Bt n C W W') (hn:B<n) (hne:B≠C):Blk B t cs W':=(hb.block B hn hne).trans h
theorem Rd.bt {α:Type} {k:Nat} {enc:α→List Value} {n C:Nat} {w w':World} {v:Value} {l:List α} (h:Rd k enc w v l) (hb:Bt n C w w') (hne:∀ b,v.ownBlock=some b→b<n∧b≠C):Rd k enc w' v l:=by
 obtain⟨⟨a,c,rfl,h1,h2,hx⟩,hn⟩:=h
 refine⟨⟨a,c,rfl,h1,h2,fun hl=>?_⟩,hn⟩
 obtain⟨b,off,ha,hlt,hc⟩:=hx hl
 subst ha
 obtain⟨h3,h4⟩:=hne b rfl
 exact⟨b,off,rfl,Nat.lt_of_lt_of_le hlt hb.size,fun i x hi j u hu=>(World.cell?_of_block (w:=w) (a:=⟨b,off+i*k+j,none⟩) (hb.block b h3 h4)).trans (hc i x hi j u hu)⟩
theorem cut_run {P:Program} {T e:TypeId} {i:TypeInfo} (hT:P.underlying T=some (.slice e)) (he:P.info? e=some i) {k:Nat} (hi:i.size=k) (a:Option Addr) (n c m:Nat) (hm:m≤n) (w:World):
  (Instr.slice T (.slice a n c) (some (.int .i64 (m:Int))) none none).run P w= .ok (cutV a m n c k) w∧(Instr.sliceAt T (.slice a n c) (some (.int .i64 (m:Int))) none none).run P w= .ok (cutV a m n c k) w:=by
 have hE:P.elem T=e:=by unfold Program.elem;rw [hT]
 have h1:(Instr.slice T (.slice a n c) (some (.int .i64 (m:Int))) none none).run P w= .ok (cutV a m n c k) w:=by
  rw [run_slice_l (P:=P) (w:=w) T a n c (by rw [hT,hE]) .i64 m (by omega) (by omega)]
  rw [hE]
  simp [sizeOf,typeInfo,he,hi,Result.andThen,cutV,sliced]
 refine⟨h1,?_⟩
 rw [run_sliceAt_slice (P:=P) (w:=w) T _ _ _ _ (by rw [hT,hE])]
 exact h1
theorem Rd.from_ {P:Program} {α:Type} {k:Nat} {enc:α→List Value} {T e:TypeId} {i:TypeInfo} (hT:P.underlying T=some (.slice e)) (he:P.info? e=some i) (hi:i.size=k) {w:World} {a:Option Addr} {n c:Nat} {l:List α} (h:Rd k enc w (.slice a n c) l) (m:Nat) (hm:m≤l.length):
  ∃ a2 c2,Rd k enc w (.slice a2 (l.drop m).length c2) (l.drop m)∧(∀ wx,(Instr.slice T (.slice a n c) (some (.int .i64 (m:Int))) none none).run P wx= .ok (.slice a2 (l.drop m).length c2) wx)∧(∀ wx,(Instr.sliceAt T (.slice a n c) (some (.int .i64 (m:Int))) none none).run P wx= .ok (.slice a2 (l.drop m).length c2) wx):=by
 have hc:=h.cut m hm
 have hn:=h.len
 obtain⟨a2,c2,hv,_⟩:=hc.slice
 rw [hv] at hc
 refine⟨a2,c2,hc,fun wx=>?_,fun wx=>?_⟩
 ·rw [(cut_run hT he hi a n c m (by omega) wx).1,hv]
 ·rw [(cut_run hT he hi a n c m (by omega) wx).2,hv]
section
variable {α:Type} {k:Nat} {enc:α→List Value}
variable {P:Program} {ops:Array Oper} {rest:List Oper} {o:Oper} {a:Act} {Q:Exit→Act→World→Prop}
end
theorem make_at {P:Program} (t e:TypeId) (z:Value) (by_:Nat) (ht:P.underlying t=some (.slice e)) (hi:(P.info? e).map (fun i=>(i.zero,i.size,i.bytes))=some (some z,1,by_)) (hb:by_≤64) (n:Nat) (hn:n≤10000000) (w:World):
  (Instr.makeSlice t (.int .i64 (n:Int)) (.int .i64 (n:Int))).run P w= .ok (.slice (some ⟨w.heap.size,0,none⟩) n n) (w.alloc (.cells (madeCells z.cells n) e)):=by
 obtain⟨i0,h1,h2,h3,h4⟩:=info_parts hi
 have hbb:(i0.bytes:Int)*(n:Int)≤281474976710656:=by
  rw [h4]
  have:=Nat.mul_le_mul hb hn
  have e:((by_:Int)*(n:Int))=((by_*n:Nat):Int):=by simp
  rw [e]
  omega
 have:=run_makeSlice (P:=P) (w:=w) t e i0 z ht h1 h2 .i64 .i64 (n:Int) (n:Int) (by omega) (Int.le_refl _) (by rw [h3];simp;omega) hbb (by omega)
 rw [h3] at this
 simpa using this
section
variable {F:Fence} {n:Nat} {P:Program} {ops:Array Oper} {md:Region.Mode}
end
section
variable {F:Fence} {n:Nat} {P:Program} {ops:Array Oper} {md:Region.Mode} {w:World}
end
section
variable {P:Program} {ops:Array Oper} {w:World}
end
section
variable {α:Type} {k:Nat} {enc:α→List Value}
variable {P:Program} {ops:Array Oper} {o:Oper} {a:Act} {K:Act→World→Prop} {Q:Exit→Act→World→Prop} {E:Prop}
theorem step_append_at {w0:World} {e:TypeId} {cs:Array Value} {x:α} {N:Nat} (hN:w0.heap.size=N) (hgd:o.guard=none) (s y:Operand) (t:TypeId)
  (ho:o.op= .call {callee:= .builtin .append,args:=#[s,y],argTypes:=#[t,t]})
  (base:Nat) (i:TypeInfo) (z:Value) (by_:Nat) (ht:P.underlying t=some (.slice e)) (hi:P.info? e=some i) (hz:i.zero=some z) (hsize:i.size=k) (hby:i.bytes=by_) (hb64:by_≤64) (hzs:z.cells.size=k) (hk0:0<k)
  (hk:∀ x:α,(enc x).length=k) (h1c:∀ x:α,∀ u∈enc x,u.oneCell'=true)
  (v:Value) (l:List α) (hcs:cs.toList=enc x) (hs:a.eval s=v) (hown:Own1 k enc w0 base e v l) (hx:a.eval y= .slice (some ⟨N,0,none⟩) 1 1)
  (hl:l.length≤1000000000) (hbase:base≤N)
  (h:∀ v' w',Own1 k enc w' base e v' (l++ [x])∧Below base w0 w'→K (a.put o.dst v') w'):if Region.wanted o (yielded ops a.tmps)=true then Oper.wp P o a (w0.alloc (.cells cs e)) K Q else E:=by
 have hw:Region.wanted o (yielded ops a.tmps)=true:=by simp [Region.wanted,hgd]
 rw [if_pos hw]
 subst hN
 refine wp_append_own _ s y t ho base e i z k by_ ht hi hz hsize hby hzs hk0 v l.length (l.flatMap enc) hs (World.ownsRow.alloc hown _) ⟨w0.heap.size,0,none⟩ 1 1 cs.toList hx (by rw [hcs,hk,Nat.one_mul]) (cells_new _ _ _) (fun u hu=>h1c x u (by rw [←hcs];exact hu)) (by unfold maxLen;omega) (Nat.le_trans (Nat.mul_le_mul_left _ hb64) (by omega)) (by simp;omega) ?_
 intro v' w' h2 h3 _
 refine h v' w' ⟨?_,(((Below.refl base w0).alloc hbase _).grown h3 (by simp;omega) (fun j e=>(World.ownsRow.lt hown j e).1))⟩
 unfold Own1
 rw [List.flatMap_append,List.length_append,List.flatMap_cons,List.flatMap_nil,List.append_nil,←hcs]
 exact h2
end
section
variable {α:Type} {k:Nat} {enc:α→List Value}
theorem flat_inv (hk:∀ x:α,(enc x).length=k):∀(l:List α) (j:Nat) (u:Value),(l.flatMap enc)[j]? =some u→∃ i x jj,l[i]? =some x∧(enc x)[jj]? =some u∧j=i*k+jj
 |[],j,u,h=>by simp at h
 |y::l,j,u,h=>by
  rw [List.flatMap_cons] at h
  rcases Nat.lt_or_ge j (enc y).length with hj|hj
  ·rw [List.getElem?_append_left hj] at h
   exact⟨0,y,j,rfl,h,by simp⟩
  ·rw [List.getElem?_append_right hj,hk] at h
   obtain⟨i,x,jj,h1,h2,h3⟩:=flat_inv hk l _ u h
   exact⟨i+1,x,jj,by simpa using h1,h2,by rw [hk] at hj;rw [Nat.add_mul];omega⟩
variable {P:Program} {ops:Array Oper} {rest:List Oper} {o:Oper} {a:Act} {Q:Exit→Act→World→Prop}
theorem wpList_append_rd {w:World} {e:TypeId} (hgd:o.guard=none) (s y:Operand) (t:TypeId)
  (ho:o.op= .call {callee:= .builtin .append,args:=#[s,y],argTypes:=#[t,t]})
  (base:Nat) (i:TypeInfo) (z:Value) (by_:Nat) (ht:P.underlying t=some (.slice e)) (hi:P.info? e=some i) (hz:i.zero=some z) (hsize:i.size=k) (hby:i.bytes=by_) (hb64:by_≤64) (hzs:z.cells.size=k) (hk0:0<k)
  (hk:∀ x:α,(enc x).length=k) (h1c:∀ x:α,∀ u∈enc x,u.oneCell'=true)
  (v:Value) (l r:List α) (u:Value) (hs:a.eval s=v) (hown:Own1 k enc w base e v l) (hx:a.eval y=u) (hu:Rd k enc w u r)
  (hl:l.length+r.length≤1000000000) (hbase:base≤w.heap.size)
  (h:∀ v' w',Own1 k enc w' base e v' (l++r)→Below base w w'→wpList P ops Q rest (a.put o.dst v') w'):wpList P ops Q (o::rest) a w:=by
 obtain⟨⟨ad,c,rfl,hc1,hc2,hc⟩,hn⟩:=hu
 rcases ad with _|ad
 ·have hr:r= []:=by
   rcases Classical.em (r= []) with h0|h0
   ·exact h0
   ·obtain⟨b,off,hb,_⟩:=hc h0
    cases hb
  subst hr
  have hc0:=hn _ _ rfl
  subst hc0
  refine wpList_append_own_none hgd s y t ho base e i k ht hi v l.length (l.flatMap enc) hs hown hx ?_
  exact h v w (by simpa using hown) (Below.refl _ _)
 ·refine wpList_append_own w hgd s y t ho base e i z k by_ ht hi hz hsize hby hzs hk0 v l.length (l.flatMap enc) hs hown ad r.length c (r.flatMap enc) hx (flat_len hk r) ?_ ?_ (by unfold maxLen;omega) (Nat.le_trans (Nat.mul_le_mul_left _ hb64) (by omega)) hbase ?_
  ·intro j u hj
   obtain⟨i',x,jj,h1,h2,h3⟩:=flat_inv hk r j u hj
   obtain⟨b,off,hb,_,hcc⟩:=hc (fun e=>by rw [e] at h1;simp at h1)
   cases hb
   rw [add_off,h3,←Nat.add_assoc]
   exact hcc i' x h1 jj u h2
  ·intro u hu
   obtain⟨x,_,hx⟩:=List.mem_flatMap.1 hu
   exact h1c x u hx
  ·intro v' w' h2 h3 _
   refine h v' w' ?_ ((Below.refl base w).grown h3 hbase (fun j e=>(World.ownsRow.lt hown j e).1))
   unfold Own1
   rw [List.flatMap_append,List.length_append]
   exact h2
end
section
variable {α:Type} {k:Nat} {enc:α→List Value}
variable {P:Program} {ops:Array Oper} {o:Oper} {a:Act} {K:Act→World→Prop} {Q:Exit→Act→World→Prop} {E:Prop}
end
theorem Rd.belowAt {α:Type} {k:Nat} {enc:α→List Value} {n:Nat} {w w':World} {v:Value} {l:List α} (h:Rd k enc w v l) (hb:Below n w w') (hne:∀ b,v.ownBlock=some b→b<n):Rd k enc w' v l:=
 h.bt (C:=n) (Bt.of_below hb) (fun b e=>⟨hne b e,by have:=hne b e;omega⟩)
theorem own_but {α:Type} {k:Nat} {enc:α→List Value} {C:Nat} {w w':World} {base:Nat} {e:TypeId} {v:Value} {l:List α} (h:Own1 k enc w base e v l) (hb:But C w w') (hC:C<base):Own1 k enc w' base e v l:=by
 refine⟨h.1,?_⟩
 rcases h.2 with h0|⟨g,cap,cur,hv,hB,hg,hr⟩
 ·exact .inl h0
 ·exact .inr ⟨g,cap,cur,hv,hB,(hb.block g (Array.getElem?_eq_some_iff.1 hg).1 (by omega)).trans hg,hr⟩
theorem Own1.lt_ {α:Type} {k:Nat} {enc:α→List Value} {w:World} {base:Nat} {e:TypeId} {v:Value} {l:List α} (h:Own1 k enc w base e v l):∀ b,v.ownBlock=some b→base≤b∧b<w.heap.size:=World.ownsRow.lt h
theorem But.then_ {g:Nat} {w W W':World} (h:But g w W) (b:Below w.heap.size W W'):But g w W':=
 ⟨b.os.trans h.os,b.tape.trans h.tape,b.output.trans h.output,Nat.le_trans h.size b.size,fun k hk hg=>(b.block k hk).trans (h.block k hk hg)⟩
section
variable {P:Program} {ops:Array Oper} {w:World}
end
theorem cutV_block {a:Option Addr} {m n c k b:Nat} (n' c':Nat) (h:(cutV a m n c k).ownBlock=some b):(Value.slice a n' c').ownBlock=some b:=by
 cases a with
 |none=>unfold cutV at h;split at h<;>simp [Value.ownBlock] at h
 |some x=>
  unfold cutV at h
  split at h
  ·simpa [Value.ownBlock] using h
  ·obtain⟨x1,x2,x3⟩:=x
   unfold Addr.add at h
   simp [Value.ownBlock] at h ⊢
   split at h<;>simpa using h
theorem Rd.tail_ {P:Program} {α:Type} {k:Nat} {enc:α→List Value} {T e:TypeId} {i:TypeInfo} (hT:P.underlying T=some (.slice e)) (he:P.info? e=some i) (hi:i.size=k) {w:World} {a:Option Addr} {n c:Nat} {l:List α} (h:Rd k enc w (.slice a n c) l) (lo:Nat) (h1:lo≤l.length):
  ∃ a2 c2,Rd k enc w (.slice a2 (l.length - lo) c2) (l.drop lo)∧(∀ b,(Value.slice a2 (l.length - lo) c2).ownBlock=some b→(Value.slice a n c).ownBlock=some b)∧(∀ wx,(Instr.slice T (.slice a n c) (some (.int .i64 (lo:Int))) none none).run P wx= .ok (.slice a2 (l.length - lo) c2) wx)∧(∀ wx,(Instr.sliceAt T (.slice a n c) (some (.int .i64 (lo:Int))) none none).run P wx= .ok (.slice a2 (l.length - lo) c2) wx):=by
 have hn:=h.len
 have hc:=h.cut lo h1
 obtain⟨a2,c2,hv2,_⟩:=hc.slice
 rw [List.length_drop] at hv2
 rw [hv2] at hc
 exact⟨a2,c2,hc,fun b hb=>cutV_block (k:=k) (m:=lo) (n:=n) n c (by rw [hv2];exact hb),fun wx=>by rw [(cut_run hT he hi a n c lo (by omega) wx).1,hv2],fun wx=>by rw [(cut_run hT he hi a n c lo (by omega) wx).2,hv2]⟩
def encB (c:UInt8):List Value:=[.int .u8 (c.toNat:Int)]
abbrev RdB (w:World) (v:Value) (l:List UInt8):Prop:=Rd 1 encB w v l
theorem Rd.byte {w:World} {a:Option Addr} {n c:Nat} {l:List UInt8} (h:Rd 1 encB w (.slice a n c) l) (i:Nat) (hi:i<l.length):∃ b off,a=some ⟨b,off,none⟩∧w.cell? ⟨b,off+i,none⟩=some (.int .u8 ((l[i]).toNat:Int)):=by
 obtain⟨b,off,ha,_,hx⟩:=h.some_ i hi
 refine⟨b,off,ha,?_⟩
 have:=hx 0 _ rfl
 simpa using this
def nbV (w:World) (e:TypeId) (s:ByteArray):Value:= .slice (some ⟨w.heap.size,0,none⟩) s.size (grownCap w s.size 0 e)
def nbW (w:World) (e:TypeId) (s:ByteArray):World:=w.drew.alloc (.cells (bytesRow s (grownCap w s.size 0 e)) e ((bytesRow s (grownCap w s.size 0 e)).size,(bytesRow s (grownCap w s.size 0 e)).size+1))
theorem conv_nb {P:Program} {S D e:TypeId} (hs:P.underlying S=some .string) (hd:P.underlying D=some (.slice e)) (he:P.underlying e=some (.int .u8)) (s:ByteArray) (w:World):
  (convert S D (.string s)).run P w= .ok (nbV w e s) (nbW w e s):=run_bytes_of_string w S D e s hs hd he
theorem nb_below (w:World) (e:TypeId) (s:ByteArray):Below w.heap.size w (nbW w e s):=(Below.refl _ w).drew.alloc (Nat.le_refl _) _
theorem nb_rd (w:World) (e:TypeId) (s:ByteArray) (hs:s.size≤1000000):Rd 1 encB (nbW w e s) (nbV w e s) s.data.toList:=by
 have hl:s.data.toList.length=s.size:=Array.length_toList
 have h1:=grownCap_ge w s.size 0 e
 have h2:=grownCap_le_maxLen w s.size 0 e (by(have hm:maxLen=9223372036854775807:=by decide);omega)
 have hm:maxLen=9223372036854775807:=by decide
 refine⟨⟨some ⟨w.heap.size,0,none⟩,grownCap w s.size 0 e,by rw [hl];rfl,by omega,by omega,fun _=>⟨w.heap.size,0,rfl,by simp [nbW],fun i x hi j u hu=>?_⟩⟩,fun n c hc=>by unfold nbV at hc;injection hc with q1 _ _;cases q1⟩
 have hj:j=0:=by have:=(List.getElem?_eq_some_iff.1 hu).1;simp [encB] at this;exact this
 subst hj
 simp [encB] at hu
 subst hu
 obtain⟨hil,hx⟩:=List.getElem?_eq_some_iff.1 hi
 have hil2:i<s.data.size:=by rw [←Array.length_toList];exact hil
 have hb:=bytesRow_at s (grownCap w s.size 0 e) i hil2
 have hw:(nbW w e s).heap[w.heap.size]? =some (.cells (bytesRow s (grownCap w s.size 0 e)) e ((bytesRow s (grownCap w s.size 0 e)).size,(bytesRow s (grownCap w s.size 0 e)).size+1)):=heap_alloc_new w.drew _
 simp only [World.cell?,hw,Nat.zero_add,Nat.mul_one,Nat.add_zero]
 rw [←hx]
 simpa using hb
open Go.RowKit
theorem len_data (s:ByteArray):s.data.toList.length=s.size:=Array.length_toList
theorem ext_of (s:ByteArray) (a b:Nat):s.extract a b=ofL ((s.data.toList.drop a).take (b - a)):=by
 have h:(s.extract a b).data.toList=(s.data.toList.drop a).take (b - a):=by simp [List.extract]
 rw [←h,of_data]
theorem run_go {m n:Nat} {l:Str} (h1:n<m) (h2:n<l.length) (h3:isD l[n]=true):run (m - n) (l.drop n)=run (m - (n+1)) (l.drop (n+1))+1:=by
 rw [List.drop_eq_getElem_cons h2,show m - n=(m - (n+1))+1 by omega,run,if_pos h3]
theorem run_stop {m n:Nat} {l:Str} (h:m≤n∨l.length≤n∨∃ h2:n<l.length,isD l[n]=false):run (m - n) (l.drop n)=0:=by
 rcases h with h|h|⟨h2,h⟩
 ·rw [show m - n=0 by omega];rfl
 ·rw [List.drop_eq_nil_of_le h];cases m - n<;>rfl
 ·rw [List.drop_eq_getElem_cons h2]
  cases m - n with
  |zero=>rfl
  |succ k=>rw [run,if_neg (by rw [h];simp)]
theorem u8_lt (c:UInt8):c.toNat<256:=c.toNat_lt
theorem mn2 {P:Program} {a b M:Int} (h:(if b<a then b else a)=M) (ts:Array TypeId) (t:TypeId) (wz:World):(Builtin.min_ ts t #[.int .i64 a,.int .i64 b]).run P wz= .ok (.int .i64 M) wz:=by rw [run_min_int2,h]
def CutPost (s:Str) (m:Nat) (w:World) (e:Ending) (w':World):Prop:=∃ v,e= .returned (.tuple #[v,.string (ofL (s.drop (run m s)))])∧RdB w' v (s.take (run m s))∧(∀ b,v.ownBlock=some b→w.heap.size≤b)∧Below w.heap.size w w'
set_option maxRecDepth 1000000 in
set_option maxHeartbeats 2000000 in
theorem cutDigits_any (s:ByteArray) (m:Nat) (hs:s.size≤9223372036854775807) (hm:m≤15) (w:World):
  Calls Tryz.prog 82 #[.string s,.int .i64 (m:Int)] w (CutPost s.data.toList m w):=by
 obtain⟨M,hM⟩:∃ M,min s.size m=M:=⟨_,rfl⟩
 have mn:∀(ts:Array TypeId) (t:TypeId) (wz:World),(Builtin.min_ ts t #[.int .i64 (s.size:Int),.int .i64 (m:Int)]).run Tryz.prog wz= .ok (.int .i64 (M:Int)) wz:=mn2 (by split<;>omega)
 have HM:=Lib.hid hM
 clear hM
 go_enter Tryz.func82,Tryz.ntmps82
 go_wp2
 go_loop [6] (fun v6=>∃ n:Nat,n≤m∧n≤s.size∧v6= .int .i64 n∧n+run (m - n) (s.data.toList.drop n)=run m s.data.toList) (fun v6=>m - (intOf v6).toNat)
 case atStart=>exact⟨0,Nat.zero_le _,Nat.zero_le _,rfl,by rw [Nat.zero_add];rfl⟩
 case round=>
  obtain⟨n,hn,hns,rfl,hrun⟩:=hrel
  have HR:=Lib.hid hrun
  clear hrun
  have stop:(m≤n∨s.data.toList.length≤n∨∃ h2:n<s.data.toList.length,isD s.data.toList[n]=false)→Hid (n=run m s.data.toList):=fun h=>Lib.hid (by
   have e:=HR.out
   rw [run_stop h] at e
   exact e)
  have fin:Hid (n=run m s.data.toList)→CutPost s.data.toList m w (.returned (.tuple #[nbV w.drew 5 (s.extract 0 n),.string (s.extract n s.size)])) (nbW w.drew 5 (s.extract 0 n)):=fun h=>by
   have e1:=ext_of s 0 n
   have e2:=ext_of s n s.size
   have hl:=len_data s
   have e3:(s.extract 0 n).data.toList=s.data.toList.take n:=by rw [e1,ofL_list];simp
   have hR:=nb_rd w.drew 5 (s.extract 0 n) (by simp;omega)
   rw [e3] at hR
   have hn:=h.out
   refine⟨nbV w.drew 5 (s.extract 0 n),?_,by rw [←hn];exact hR,(fun b hb=>by cases hb;exact Nat.le_refl _),(Below.refl w.heap.size w).drew.trans (nb_below w.drew _ _)⟩
   rw [e2,←hn,List.take_of_length_le (by rw [List.length_drop];omega)]
  have HC:=fun wx=>conv_nb (P:=Tryz.prog) (S:=9) (D:=104) (e:=5) Tryz.underlying9 Tryz.underlying104 Tryz.underlying5 (s.extract 0 n) wx
  have g1:(n:Int)≤(s.size:Int):=by omega
  have g2:(0:Int)≤(n:Int):=by omega
  have HF:=Lib.hid fin
  clear fin
  by_cases h1:n<M
  ·have q1:(n:Int)<(M:Int):=by omega
   have h2:n<s.size:=by have:=HM.out;omega
   have h0:n<m:=by have:=HM.out;omega
   have q2:(n:Int)<(s.size:Int):=by omega
   have hl:n<s.data.toList.length:=by rw [len_data];exact h2
   by_cases h3:isD (s.data.toList[n])=true
   ·have HG:=Lib.hid (run_go h0 hl h3)
    have h4:=isD_iff.1 h3
    have t1:decide ((48:Int)≤((s[n]'h2).toNat:Int))=true:=by rw [decide_eq_true_eq];exact Int.ofNat_le.2 h4.1
    have t2:decide (((s[n]'h2).toNat:Int)≤57)=true:=by rw [decide_eq_true_eq];exact Int.ofNat_le.2 h4.2
    clear h3 h4 stop HC hl
    go_wp2
    go_round
    case rel=>exact⟨n+1,h0,h2,by go_num,by rw [←HR.out,HG.out];omega⟩
    case measure=>simp [intOf];omega
   ·have HS:=stop (.inr (.inr ⟨hl,by simpa using h3⟩))
    have h4:(s.data.toList[n]).toNat<48∨57<(s.data.toList[n]).toNat:=by
     rw [isD_iff] at h3;omega
    clear h3 stop
    rcases h4 with h4|h4
    ·have t1:decide ((48:Int)≤((s[n]'h2).toNat:Int))=false:=by rw [decide_eq_false_iff_not];intro h;exact absurd (Int.ofNat_le.1 h) (Nat.not_le.2 h4)
     clear h4 hl
     go_wp2_with (go_region)
     go_ret2
     exact HF.out HS
    ·have t1:decide ((48:Int)≤((s[n]'h2).toNat:Int))=true:=by rw [decide_eq_true_eq];exact Int.ofNat_le.2 (Nat.le_of_lt (Nat.lt_of_le_of_lt (by decide) h4))
     have t2:decide (((s[n]'h2).toNat:Int)≤57)=false:=by rw [decide_eq_false_iff_not];intro h;exact absurd (Int.ofNat_le.1 h) (Nat.not_le.2 h4)
     clear h4 hl
     go_wp2_with (go_region)
     go_ret2
     exact HF.out HS
  ·have q1:¬ (n:Int)<(M:Int):=by omega
   have HS:=stop (by have h8:=len_data s;have:=HM.out;rcases Nat.lt_or_ge n m with h9|h9;exact .inr (.inl (by omega));exact .inl h9)
   clear stop
   go_wp2_with (go_region)
   go_ret2
   exact HF.out HS
end Go.Proofs.YtobapaodpcheiaaGreatDoor
