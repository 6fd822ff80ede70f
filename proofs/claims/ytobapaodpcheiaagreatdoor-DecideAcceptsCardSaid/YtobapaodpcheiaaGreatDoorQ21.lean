/- What the row stands on, part 21. -/
import Derived.Test.YtobapaodpcheiaaGreatDoorQ20
namespace Go.Proofs.YtobapaodpcheiaaGreatDoor
open Go.RowKit
set_option linter.unusedVariables false
def prv (G:Aut) (c t:Nat):Nat→Int
 |0=> -1
 |s+1=>if G.d s c=t then(s:Int) else prv G c t s
theorem prv_succ (G:Aut) (c t s:Nat):prv G c t (s+1)=if G.d s c=t then(s:Int) else prv G c t s:=rfl
def i32Z (f:Nat→Int):Nat→Value:=fun i=> .int .i32 (f i)
theorem i32Z_upd (f:Nat→Int) (i:Nat) (x:Int) (j:Nat):updB (i32Z f) i (.int .i32 x) j=i32Z (fun k=>if k=i then x else f k) j:=by
 unfold updB i32Z
 by_cases h:j=i
 ·simp [h]
 ·simp [h]
def negT (m:Nat):Nat→Int:=fun k=>if k<m then -1 else 0
theorem negT_succ (m k:Nat):(if k=m then(-1:Int) else negT m k)=negT (m+1) k:=by
 unfold negT
 by_cases e:k=m
 ·rw [if_pos e,if_pos (by omega)]
 ·by_cases h:k<m
  ·rw [if_neg e,if_pos h,if_pos (by omega)]
  ·rw [if_neg e,if_neg h,if_neg (by omega)]
def fsT (G:Aut) (s c:Nat):Nat→Int:=fun k=>prv G (k % 11) (k / 11) (if k % 11<c then s+1 else s)
theorem fsT_succ (G:Aut) (s c k:Nat) (hc:c<11):(if k=G.d s c*11+c then(s:Int) else fsT G s c k)=fsT G s (c+1) k:=by
 unfold fsT
 by_cases e:k=G.d s c*11+c
 ·have h1:k % 11=c:=by omega
  have h2:k / 11=G.d s c:=by omega
  rw [if_pos e,h1,h2,if_pos (by omega),prv_succ,if_pos rfl]
 ·rw [if_neg e]
  by_cases h1:k % 11=c
  ·rw [h1,if_neg (by omega),if_pos (by omega),prv_succ,if_neg (by omega)]
  ·by_cases h2:k % 11<c
   ·rw [if_pos h2,if_pos (by omega)]
   ·rw [if_neg h2,if_neg (by omega)]
theorem fsT_row (G:Aut) (s k:Nat):fsT G s 11 k=fsT G (s+1) 0 k:=by
 unfold fsT
 rw [if_pos (by omega),if_neg (by omega)]
theorem fsT_at (G:Aut) (s c t:Nat) (hc:c<11):fsT G s c (t*11+c)=prv G c t s:=by
 unfold fsT
 rw [show(t*11+c) % 11=c by omega,show(t*11+c) / 11=t by omega,if_neg (by omega)]
theorem negT_fsT (G:Aut) (n k:Nat) (hk:k<n*11):negT (n*11) k=fsT G 0 0 k:=by
 unfold negT fsT
 rw [if_pos hk,if_neg (by omega)]
 rfl
def VoOk (G:Aut) (s c:Nat) (vo:Nat→Int):Prop:=∀ s' c',c'<11→(s'<s∨(s'=s∧c'<c))→vo (s'*11+c')=prv G c' (G.d s' c') s'
theorem VoOk.put {G:Aut} {s c:Nat} {vo:Nat→Int} (h:VoOk G s c vo) (hc:c<11):VoOk G s (c+1) (fun k=>if k=s*11+c then prv G c (G.d s c) s else vo k):=fun s' c' hc' hs=>by
 by_cases e:s'*11+c'=s*11+c
 ·have e1:s'=s:=by omega
  have e2:c'=c:=by omega
  subst e1 e2
  exact if_pos rfl
 ·show(if s'*11+c'=s*11+c then _ else _)=_
  rw [if_neg e]
  refine h s' c' hc' ?_
  rcases hs with hs|⟨hs,hs2⟩
  ·exact .inl hs
  ·subst hs
   exact .inr ⟨rfl,by omega⟩
theorem VoOk.next {G:Aut} {s:Nat} {vo:Nat→Int} (h:VoOk G s 11 vo):VoOk G (s+1) 0 vo:=fun s' c' hc' hs=>h s' c' hc' (by omega)
def RevR (G:Aut) (n:Nat) (w:World) (e:Ending) (w':World):Prop:=∃(fb ob:Nat) (vo:Nat→Int),e= .returned (.agg #[.slice (some ⟨fb,0,none⟩) n n,.slice (some ⟨ob,0,none⟩) n n])∧Fn fb 163 (n*11) (i32Z (fsT G n 0)) w'∧Fn ob 163 (n*11) (i32Z vo) w'∧VoOk G n 0 vo∧w.heap.size≤fb∧w.heap.size≤ob∧Below w.heap.size w w'
theorem resRV {W:World} {tm:Array Value} {B:Nat} {t:TypeId} {a b:Value} (t2:tm[2]?.getD undef= .pointer (some ⟨B,0,none⟩)) (h:Blk B t #[a,b] W):
  (results Tryz.f118 tm).run Tryz.prog W= .ok (.agg #[a,b]) W:=by
 have a0:W.cell? ⟨B,0,none⟩=some a:=h.cell 0
 have a1:W.cell? ⟨B,1,none⟩=some b:=h.cell 1
 simp [results,Tryz.f118,go_sem,t2,a0,a1]
set_option maxRecDepth 1000000 in
set_option maxHeartbeats 32000000 in
theorem reversed_any (G:Aut) (n:Nat) (h0:0<n) (hn:n≤1000000) (l:List (List Nat)) (hl:l.length=n) (hd:∀ s c,s<n→c<11→(l.getD s []).getD c 0=G.d s c) (hdn:∀ s c,s<n→c<11→G.d s c<n) (a1:Option Addr) (c1:Nat) (x2:Option Addr) (n2 y2:Nat) (w:World) (hR:Rd 11 encG w (.slice a1 n c1) l):
  Calls Tryz.prog 118 #[.agg #[.slice a1 n c1,.slice x2 n2 y2]] w (RevR G n w):=by
 have hmk:∀ wx:World,(Instr.makeSlice 132 (.int .i64 (n:Int)) (.int .i64 (n:Int))).run Tryz.prog wx= .ok (.slice (some ⟨wx.heap.size,0,none⟩) n n) (wx.alloc (.cells (madeCells (encG []).toArray (n*11)) 163)):=fun wx=>make_fn (P:=Tryz.prog) 132 163 _ 11 44 Tryz.underlying132 Tryz.infoG (by omega) (by omega) n hn wx
 have HFN:Hid (∀ wx:World,Fn wx.heap.size 163 (n*11) (i32Z (negT 0)) (wx.alloc (.cells (madeCells (encG []).toArray (n*11)) 163))):=Lib.hid (fun wx=>(fn_made wx 163 (encG []).toArray (n*11) (by rw [List.size_toArray,encG_len];omega)).congr (fun i hi=>by
  have h1:i % 11<11:=by omega
  have h2:(encG [])[i % 11]? =some (.int .i32 0):=encG_get [] h1
  rw [List.size_toArray,encG_len]
  unfold i32Z negT
  rw [if_neg (by omega)]
  rw [getElem!_def,List.getElem?_toArray,h2]))
 have BA:=((Below.refl w.heap.size w).alloc (Nat.le_refl _) (.cells #[.slice a1 n c1,.slice x2 n2 y2] 134))
 have BB:=BA.alloc BA.size (.cells #[.slice none 0 0,.slice none 0 0] 182)
 have k0:=(Blk.new w 134 #[.slice a1 n c1,.slice x2 n2 y2]).alloc (.cells #[.slice none 0 0,.slice none 0 0] 182)
 have k2:=Blk.new (w.alloc (.cells #[.slice a1 n c1,.slice x2 n2 y2] 134)) 182 #[.slice none 0 0,.slice none 0 0]
 rw [World.size_alloc] at k2
 obtain⟨W0,hW0⟩:∃ W0,(w.alloc (.cells #[.slice a1 n c1,.slice x2 n2 y2] 134)).alloc (.cells #[.slice none 0 0,.slice none 0 0] 182)=W0:=⟨_,rfl⟩
 rw [hW0] at BB k0 k2
 have HR:=Lib.hid (hR.below BB)
 have HW0:=Lib.hid hW0
 obtain⟨g,hg⟩:∃ g,w.heap.size=g:=⟨_,rfl⟩
 have HG:=Lib.hid hg
 rw [hg] at k0 k2
 have K0:=Lib.hid k0
 have K2:=Lib.hid k2
 have HBB:=Lib.hid BB
 have HD:=Lib.hid hd
 have HDN:=Lib.hid hdn
 have HL:=Lib.hid hl
 have m0:W0.cell? ⟨g,0,none⟩=some (.slice a1 n c1):=k0.cell 0
 clear hR BA BB k0 k2 hW0 hg hd hdn hl
 go_enter Tryz.func118,Tryz.ntmps118
 go_upto_region 1 with fail
 rw [HW0.out,HG.out]
 obtain⟨wd,hwd⟩:∃ wd,W0.drew=wd:=⟨_,rfl⟩
 have HBD:Hid (Below W0.heap.size W0 wd):=Lib.hid (by rw [←hwd];exact(Below.refl _ W0).drew)
 have HDW:=Lib.hid hwd
 have m0d:wd.cell? ⟨g,0,none⟩=some (.slice a1 n c1):=by rw [←hwd];exact m0
 clear hwd HW0
 go_cut [3] from 10 to 18 (fun v3 wx=>∃ fb ob nb:Nat,v3= .pointer (some ⟨nb,0,none⟩)∧Fn fb 163 (n*11) (i32Z (negT 0)) wx∧Fn ob 163 (n*11) (i32Z (negT 0)) wx∧Blk nb 182 #[.slice (some ⟨fb,0,none⟩) n n,.slice (some ⟨ob,0,none⟩) n n] wx∧fb≠ob∧W0.heap.size≤fb∧W0.heap.size≤ob∧W0.heap.size≤nb∧Below W0.heap.size W0 wx)
 case first=>
  have hS:(fun wx:World=>wx.cell? ⟨g,0,none⟩=some (.slice a1 n c1)) wd:=m0d
  refine region_hd 10 (fun wx:World=>wx.cell? ⟨g,0,none⟩=some (.slice a1 n c1)) (by kernel_rfl) (by kernel_rfl) ?_
  rw [HDW.out]
  refine hd_taken 0 (some 10) _ ?hdva0 rfl rfl (by kernel_rfl) (fun _ _ _ h=>h) (Or.inl ⟨by rfl,?hdya0⟩) hS ?hdra0
  case hdya0=>(intro wx hx;(try dsimp only at hx);go_simp;try with_reducible rfl)
  try simp only [Act.put,zI,zO,zS]
  refine hd_taken 1 (some 11) _ ?hdva1 rfl rfl (by kernel_rfl) (fun _ _ _ h=>h) (Or.inl ⟨by rfl,?hdya1⟩) hS ?hdra1
  case hdya1=>(intro wx hx;(try dsimp only at hx);go_simp;try with_reducible rfl)
  try simp only [Act.put,zI,zO,zS]
  refine hd_taken 2 (some 12) _ ?hdva2 rfl rfl (by kernel_rfl) (fun _ _ _ h=>h) (Or.inl ⟨by rfl,?hdya2⟩) hS ?hdra2
  case hdya2=>(intro wx hx;(try dsimp only at hx);go_simp;try with_reducible rfl)
  try simp only [Act.put,zI,zO,zS]
  refine hd_taken 4 (some 14) _ ?hdva4 rfl rfl (by kernel_rfl) (fun _ _ _ h=>h) (Or.inl ⟨by rfl,?hdya4⟩) hS ?hdra4
  case hdya4=>(intro wx hx;(try dsimp only at hx);go_simp;try with_reducible rfl)
  try simp only [Act.put,zI,zO,zS]
  refine hd_taken 5 (some 15) _ ?hdva5 rfl rfl (by kernel_rfl) (fun _ _ _ h=>h) (Or.inl ⟨by rfl,?hdya5⟩) hS ?hdra5
  case hdya5=>(intro wx hx;(try dsimp only at hx);go_simp;try with_reducible rfl)
  try simp only [Act.put,zI,zO,zS]
  refine hd_taken 6 (some 16) _ ?hdva6 rfl rfl (by kernel_rfl) (fun _ _ _ h=>h) (Or.inl ⟨by rfl,?hdya6⟩) hS ?hdra6
  case hdya6=>(intro wx hx;(try dsimp only at hx);go_simp;try with_reducible rfl)
  try simp only [Act.put,zI,zO,zS]
  clear m0d
  have HB0:=HBD
  refine hd_list [3,7,9] (by kernel_rfl) (by decide) (by decide) (fun i hi=>?_)
  simp only [List.mem_cons,List.not_mem_nil,or_false] at hi
  rcases hi with rfl|rfl|rfl
  ·refine⟨_,rfl,fun K3 hK3=>?_⟩
   go_simp
   obtain⟨w3x,hw3⟩:∃ wx,wd.alloc (.cells (madeCells (encG []).toArray (n*11)) 163)=wx:=⟨_,rfl⟩
   have b3:=(Below.refl wd.heap.size wd).alloc (Nat.le_refl _) (.cells (madeCells (encG []).toArray (n*11)) 163)
   have f3:=HFN.out wd
   rw [hw3] at b3 f3 ⊢
   obtain⟨B3,hB3⟩:∃ B,wd.heap.size=B:=⟨_,rfl⟩
   have L3:Hid (W0.heap.size≤B3):=Lib.hid (by have:=HB0.out.size;omega)
   have HB3:=Lib.hid (HB0.out.trans (b3.mono HB0.out.size))
   have hS3:(fun wx:World=>wx.cell? ⟨g,0,none⟩=some (.slice a1 n c1)) w3x:=(b3.cell (p:=⟨g,0,none⟩) (World.block_lt_of_cell? _ _ hS)).trans hS
   rw [hB3] at f3 ⊢
   have F3:=Lib.hid f3
   clear hw3 b3 f3 hB3
   refine hK3.out _ _ hS3 ?_
   clear hK3 K3
   try simp only [Act.put,zI,zO,zS]
   refine hd_list [7,9] (by kernel_rfl) (by decide) (by decide) (fun i hi=>?_)
   simp only [List.mem_cons,List.not_mem_nil,or_false] at hi
   rcases hi with rfl|rfl
   ·refine⟨_,rfl,fun K7 hK7=>?_⟩
    go_simp
    obtain⟨w7x,hw7⟩:∃ wx,w3x.alloc (.cells (madeCells (encG []).toArray (n*11)) 163)=wx:=⟨_,rfl⟩
    have b7:=(Below.refl w3x.heap.size w3x).alloc (Nat.le_refl _) (.cells (madeCells (encG []).toArray (n*11)) 163)
    have f7:=HFN.out w3x
    rw [hw7] at b7 f7 ⊢
    obtain⟨B7,hB7⟩:∃ B,w3x.heap.size=B:=⟨_,rfl⟩
    have N37:Hid (B3≠B7):=Lib.hid (by have:=F3.out.lt;omega)
    have L7:Hid (W0.heap.size≤B7):=Lib.hid (by have:=HB3.out.size;omega)
    have HB7:=Lib.hid (HB3.out.trans (b7.mono HB3.out.size))
    have hS7:(fun wx:World=>wx.cell? ⟨g,0,none⟩=some (.slice a1 n c1)) w7x:=(b7.cell (p:=⟨g,0,none⟩) (World.block_lt_of_cell? _ _ hS3)).trans hS3
    have F3:=Lib.hid (F3.out.below b7)
    rw [hB7] at f7 ⊢
    have F7:=Lib.hid f7
    clear hw7 b7 f7 hB7 hS3
    refine hK7.out _ _ hS7 ?_
    clear hK7 K7
    try simp only [Act.put,zI,zO,zS]
    refine hd_taken 8 (some 18) _ ?hdvb8 rfl rfl (by kernel_rfl) (fun _ _ _ h=>h) (Or.inl ⟨by rfl,?hdyb8⟩) hS7 ?hdrb8
    case hdyb8=>(intro wx hx;(try dsimp only at hx);go_simp;try with_reducible rfl)
    try simp only [Act.put,zI,zO,zS]
    refine hd_list [9] (by kernel_rfl) (by decide) (by decide) (fun i hi=>?_)
    simp only [List.mem_cons,List.not_mem_nil,or_false] at hi
    subst hi
    refine⟨_,rfl,fun K9 hK9=>?_⟩
    go_simp
    obtain⟨w9x,hw9⟩:∃ wx,w7x.alloc (.cells #[.slice none 0 0,.slice none 0 0] 182)=wx:=⟨_,rfl⟩
    have b9:=(Below.refl w7x.heap.size w7x).alloc (Nat.le_refl _) (.cells #[.slice none 0 0,.slice none 0 0] 182)
    have f9:=Blk.new w7x 182 #[.slice none 0 0,.slice none 0 0]
    rw [hw9] at b9 f9 ⊢
    obtain⟨B9,hB9⟩:∃ B,w7x.heap.size=B:=⟨_,rfl⟩
    have L9:Hid (W0.heap.size≤B9):=Lib.hid (by have:=HB7.out.size;omega)
    have HB9:=Lib.hid (HB7.out.trans (b9.mono HB7.out.size))
    have hS9:(fun wx:World=>wx.cell? ⟨g,0,none⟩=some (.slice a1 n c1)) w9x:=(b9.cell (p:=⟨g,0,none⟩) (World.block_lt_of_cell? _ _ hS7)).trans hS7
    have F3:=Lib.hid (F3.out.below b9)
    have F7:=Lib.hid (F7.out.below b9)
    rw [hB9] at f9 ⊢
    have F9:=Lib.hid f9
    clear hw9 b9 f9 hB9 hS7
    refine hK9.out _ _ hS9 ?_
    clear hK9 K9
    try simp only [Act.put,zI,zO,zS]
    refine hd_done (by kernel_rfl) ?_
    simp only [List.drop_succ_cons,List.drop_zero]
    have e0:=F9.out.cell 0
    have e1:=F9.out.cell 1
    have ef:=F9.out.frozen
    have HQ:=Lib.hid (And.intro (F3.out.grown ((grown_set w9x B9 0 (.slice (some ⟨B3,0,none⟩) n n)).trans (grown_set _ B9 1 (.slice (some ⟨B7,0,none⟩) n n))) (fun e=>(by injection e with e;subst e;obtain⟨cs,h2,_⟩:=F3.out;have h3:=(show w9x.heap[B9]? =_ from F9.out).symm.trans (show w9x.heap[B9]? =_ from h2);injection h3 with h3;injection h3 with _ h3;exact absurd h3 (by decide)))) (And.intro (F7.out.grown ((grown_set w9x B9 0 (.slice (some ⟨B3,0,none⟩) n n)).trans (grown_set _ B9 1 (.slice (some ⟨B7,0,none⟩) n n))) (fun e=>(by injection e with e;subst e;obtain⟨cs,h2,_⟩:=F7.out;have h3:=(show w9x.heap[B9]? =_ from F9.out).symm.trans (show w9x.heap[B9]? =_ from h2);injection h3 with h3;injection h3 with _ h3;exact absurd h3 (by decide)))) (And.intro ((F9.out.put 0 (.slice (some ⟨B3,0,none⟩) n n)).put 1 (.slice (some ⟨B7,0,none⟩) n n)) ((HB9.out.setCell (p:=⟨B9,0,none⟩) L9.out (.slice (some ⟨B3,0,none⟩) n n)).setCell (p:=⟨B9,1,none⟩) L9.out (.slice (some ⟨B7,0,none⟩) n n)))))
    go_wp2
    go_meet
    exact⟨_,_,_,rfl,HQ.out.1,HQ.out.2.1,HQ.out.2.2.1,N37.out,L3.out,L7.out,L9.out,HQ.out.2.2.2⟩
   ·refine⟨_,rfl,fun K9 hK9=>?_⟩
    go_simp
    obtain⟨w9x,hw9⟩:∃ wx,w3x.alloc (.cells #[.slice none 0 0,.slice none 0 0] 182)=wx:=⟨_,rfl⟩
    have b9:=(Below.refl w3x.heap.size w3x).alloc (Nat.le_refl _) (.cells #[.slice none 0 0,.slice none 0 0] 182)
    have f9:=Blk.new w3x 182 #[.slice none 0 0,.slice none 0 0]
    rw [hw9] at b9 f9 ⊢
    obtain⟨B9,hB9⟩:∃ B,w3x.heap.size=B:=⟨_,rfl⟩
    have L9:Hid (W0.heap.size≤B9):=Lib.hid (by have:=HB3.out.size;omega)
    have HB9:=Lib.hid (HB3.out.trans (b9.mono HB3.out.size))
    have hS9:(fun wx:World=>wx.cell? ⟨g,0,none⟩=some (.slice a1 n c1)) w9x:=(b9.cell (p:=⟨g,0,none⟩) (World.block_lt_of_cell? _ _ hS3)).trans hS3
    have F3:=Lib.hid (F3.out.below b9)
    rw [hB9] at f9 ⊢
    have F9:=Lib.hid f9
    clear hw9 b9 f9 hB9 hS3
    refine hK9.out _ _ hS9 ?_
    clear hK9 K9
    try simp only [Act.put,zI,zO,zS]
    refine hd_list [7] (by kernel_rfl) (by decide) (by decide) (fun i hi=>?_)
    simp only [List.mem_cons,List.not_mem_nil,or_false] at hi
    subst hi
    refine⟨_,rfl,fun K7 hK7=>?_⟩
    go_simp
    obtain⟨w7x,hw7⟩:∃ wx,w9x.alloc (.cells (madeCells (encG []).toArray (n*11)) 163)=wx:=⟨_,rfl⟩
    have b7:=(Below.refl w9x.heap.size w9x).alloc (Nat.le_refl _) (.cells (madeCells (encG []).toArray (n*11)) 163)
    have f7:=HFN.out w9x
    rw [hw7] at b7 f7 ⊢
    obtain⟨B7,hB7⟩:∃ B,w9x.heap.size=B:=⟨_,rfl⟩
    have N37:Hid (B3≠B7):=Lib.hid (by have:=F3.out.lt;omega)
    have L7:Hid (W0.heap.size≤B7):=Lib.hid (by have:=HB9.out.size;omega)
    have HB7:=Lib.hid (HB9.out.trans (b7.mono HB9.out.size))
    have hS7:(fun wx:World=>wx.cell? ⟨g,0,none⟩=some (.slice a1 n c1)) w7x:=(b7.cell (p:=⟨g,0,none⟩) (World.block_lt_of_cell? _ _ hS9)).trans hS9
    have F3:=Lib.hid (F3.out.below b7)
    have F9:=Lib.hid (Blk.below F9.out b7)
    rw [hB7] at f7 ⊢
    have F7:=Lib.hid f7
    clear hw7 b7 f7 hB7 hS9
    refine hK7.out _ _ hS7 ?_
    clear hK7 K7
    try simp only [Act.put,zI,zO,zS]
    refine hd_taken 8 (some 18) _ ?hdvc8 rfl rfl (by kernel_rfl) (fun _ _ _ h=>h) (Or.inl ⟨by rfl,?hdyc8⟩) hS7 ?hdrc8
    case hdyc8=>(intro wx hx;(try dsimp only at hx);go_simp;try with_reducible rfl)
    try simp only [Act.put,zI,zO,zS]
    refine hd_done (by kernel_rfl) ?_
    simp only [List.drop_succ_cons,List.drop_zero]
    have e0:=F9.out.cell 0
    have e1:=F9.out.cell 1
    have ef:=F9.out.frozen
    have HQ:=Lib.hid (And.intro (F3.out.grown ((grown_set w7x B9 0 (.slice (some ⟨B3,0,none⟩) n n)).trans (grown_set _ B9 1 (.slice (some ⟨B7,0,none⟩) n n))) (fun e=>(by injection e with e;subst e;obtain⟨cs,h2,_⟩:=F3.out;have h3:=(show w7x.heap[B9]? =_ from F9.out).symm.trans (show w7x.heap[B9]? =_ from h2);injection h3 with h3;injection h3 with _ h3;exact absurd h3 (by decide)))) (And.intro (F7.out.grown ((grown_set w7x B9 0 (.slice (some ⟨B3,0,none⟩) n n)).trans (grown_set _ B9 1 (.slice (some ⟨B7,0,none⟩) n n))) (fun e=>(by injection e with e;subst e;obtain⟨cs,h2,_⟩:=F7.out;have h3:=(show w7x.heap[B9]? =_ from F9.out).symm.trans (show w7x.heap[B9]? =_ from h2);injection h3 with h3;injection h3 with _ h3;exact absurd h3 (by decide)))) (And.intro ((F9.out.put 0 (.slice (some ⟨B3,0,none⟩) n n)).put 1 (.slice (some ⟨B7,0,none⟩) n n)) ((HB7.out.setCell (p:=⟨B9,0,none⟩) L9.out (.slice (some ⟨B3,0,none⟩) n n)).setCell (p:=⟨B9,1,none⟩) L9.out (.slice (some ⟨B7,0,none⟩) n n)))))
    go_wp2
    go_meet
    exact⟨_,_,_,rfl,HQ.out.1,HQ.out.2.1,HQ.out.2.2.1,N37.out,L3.out,L7.out,L9.out,HQ.out.2.2.2⟩
  ·refine⟨_,rfl,fun K7 hK7=>?_⟩
   go_simp
   obtain⟨w7x,hw7⟩:∃ wx,wd.alloc (.cells (madeCells (encG []).toArray (n*11)) 163)=wx:=⟨_,rfl⟩
   have b7:=(Below.refl wd.heap.size wd).alloc (Nat.le_refl _) (.cells (madeCells (encG []).toArray (n*11)) 163)
   have f7:=HFN.out wd
   rw [hw7] at b7 f7 ⊢
   obtain⟨B7,hB7⟩:∃ B,wd.heap.size=B:=⟨_,rfl⟩
   have L7:Hid (W0.heap.size≤B7):=Lib.hid (by have:=HB0.out.size;omega)
   have HB7:=Lib.hid (HB0.out.trans (b7.mono HB0.out.size))
   have hS7:(fun wx:World=>wx.cell? ⟨g,0,none⟩=some (.slice a1 n c1)) w7x:=(b7.cell (p:=⟨g,0,none⟩) (World.block_lt_of_cell? _ _ hS)).trans hS
   rw [hB7] at f7 ⊢
   have F7:=Lib.hid f7
   clear hw7 b7 f7 hB7
   refine hK7.out _ _ hS7 ?_
   clear hK7 K7
   try simp only [Act.put,zI,zO,zS]
   refine hd_list [3,9] (by kernel_rfl) (by decide) (by decide) (fun i hi=>?_)
   simp only [List.mem_cons,List.not_mem_nil,or_false] at hi
   rcases hi with rfl|rfl
   ·refine⟨_,rfl,fun K3 hK3=>?_⟩
    go_simp
    obtain⟨w3x,hw3⟩:∃ wx,w7x.alloc (.cells (madeCells (encG []).toArray (n*11)) 163)=wx:=⟨_,rfl⟩
    have b3:=(Below.refl w7x.heap.size w7x).alloc (Nat.le_refl _) (.cells (madeCells (encG []).toArray (n*11)) 163)
    have f3:=HFN.out w7x
    rw [hw3] at b3 f3 ⊢
    obtain⟨B3,hB3⟩:∃ B,w7x.heap.size=B:=⟨_,rfl⟩
    have N37:Hid (B3≠B7):=Lib.hid (by have:=F7.out.lt;omega)
    have L3:Hid (W0.heap.size≤B3):=Lib.hid (by have:=HB7.out.size;omega)
    have HB3:=Lib.hid (HB7.out.trans (b3.mono HB7.out.size))
    have hS3:(fun wx:World=>wx.cell? ⟨g,0,none⟩=some (.slice a1 n c1)) w3x:=(b3.cell (p:=⟨g,0,none⟩) (World.block_lt_of_cell? _ _ hS7)).trans hS7
    have F7:=Lib.hid (F7.out.below b3)
    rw [hB3] at f3 ⊢
    have F3:=Lib.hid f3
    clear hw3 b3 f3 hB3 hS7
    refine hK3.out _ _ hS3 ?_
    clear hK3 K3
    try simp only [Act.put,zI,zO,zS]
    refine hd_taken 8 (some 18) _ ?hdvd8 rfl rfl (by kernel_rfl) (fun _ _ _ h=>h) (Or.inl ⟨by rfl,?hdyd8⟩) hS3 ?hdrd8
    case hdyd8=>(intro wx hx;(try dsimp only at hx);go_simp;try with_reducible rfl)
    try simp only [Act.put,zI,zO,zS]
    refine hd_list [9] (by kernel_rfl) (by decide) (by decide) (fun i hi=>?_)
    simp only [List.mem_cons,List.not_mem_nil,or_false] at hi
    subst hi
    refine⟨_,rfl,fun K9 hK9=>?_⟩
    go_simp
    obtain⟨w9x,hw9⟩:∃ wx,w3x.alloc (.cells #[.slice none 0 0,.slice none 0 0] 182)=wx:=⟨_,rfl⟩
    have b9:=(Below.refl w3x.heap.size w3x).alloc (Nat.le_refl _) (.cells #[.slice none 0 0,.slice none 0 0] 182)
    have f9:=Blk.new w3x 182 #[.slice none 0 0,.slice none 0 0]
    rw [hw9] at b9 f9 ⊢
    obtain⟨B9,hB9⟩:∃ B,w3x.heap.size=B:=⟨_,rfl⟩
    have L9:Hid (W0.heap.size≤B9):=Lib.hid (by have:=HB3.out.size;omega)
    have HB9:=Lib.hid (HB3.out.trans (b9.mono HB3.out.size))
    have hS9:(fun wx:World=>wx.cell? ⟨g,0,none⟩=some (.slice a1 n c1)) w9x:=(b9.cell (p:=⟨g,0,none⟩) (World.block_lt_of_cell? _ _ hS3)).trans hS3
    have F7:=Lib.hid (F7.out.below b9)
    have F3:=Lib.hid (F3.out.below b9)
    rw [hB9] at f9 ⊢
    have F9:=Lib.hid f9
    clear hw9 b9 f9 hB9 hS3
    refine hK9.out _ _ hS9 ?_
    clear hK9 K9
    try simp only [Act.put,zI,zO,zS]
    refine hd_done (by kernel_rfl) ?_
    simp only [List.drop_succ_cons,List.drop_zero]
    have e0:=F9.out.cell 0
    have e1:=F9.out.cell 1
    have ef:=F9.out.frozen
    have HQ:=Lib.hid (And.intro (F3.out.grown ((grown_set w9x B9 0 (.slice (some ⟨B3,0,none⟩) n n)).trans (grown_set _ B9 1 (.slice (some ⟨B7,0,none⟩) n n))) (fun e=>(by injection e with e;subst e;obtain⟨cs,h2,_⟩:=F3.out;have h3:=(show w9x.heap[B9]? =_ from F9.out).symm.trans (show w9x.heap[B9]? =_ from h2);injection h3 with h3;injection h3 with _ h3;exact absurd h3 (by decide)))) (And.intro (F7.out.grown ((grown_set w9x B9 0 (.slice (some ⟨B3,0,none⟩) n n)).trans (grown_set _ B9 1 (.slice (some ⟨B7,0,none⟩) n n))) (fun e=>(by injection e with e;subst e;obtain⟨cs,h2,_⟩:=F7.out;have h3:=(show w9x.heap[B9]? =_ from F9.out).symm.trans (show w9x.heap[B9]? =_ from h2);injection h3 with h3;injection h3 with _ h3;exact absurd h3 (by decide)))) (And.intro ((F9.out.put 0 (.slice (some ⟨B3,0,none⟩) n n)).put 1 (.slice (some ⟨B7,0,none⟩) n n)) ((HB9.out.setCell (p:=⟨B9,0,none⟩) L9.out (.slice (some ⟨B3,0,none⟩) n n)).setCell (p:=⟨B9,1,none⟩) L9.out (.slice (some ⟨B7,0,none⟩) n n)))))
    go_wp2
    go_meet
    exact⟨_,_,_,rfl,HQ.out.1,HQ.out.2.1,HQ.out.2.2.1,N37.out,L3.out,L7.out,L9.out,HQ.out.2.2.2⟩
   ·refine⟨_,rfl,fun K9 hK9=>?_⟩
    go_simp
    obtain⟨w9x,hw9⟩:∃ wx,w7x.alloc (.cells #[.slice none 0 0,.slice none 0 0] 182)=wx:=⟨_,rfl⟩
    have b9:=(Below.refl w7x.heap.size w7x).alloc (Nat.le_refl _) (.cells #[.slice none 0 0,.slice none 0 0] 182)
    have f9:=Blk.new w7x 182 #[.slice none 0 0,.slice none 0 0]
    rw [hw9] at b9 f9 ⊢
    obtain⟨B9,hB9⟩:∃ B,w7x.heap.size=B:=⟨_,rfl⟩
    have L9:Hid (W0.heap.size≤B9):=Lib.hid (by have:=HB7.out.size;omega)
    have HB9:=Lib.hid (HB7.out.trans (b9.mono HB7.out.size))
    have hS9:(fun wx:World=>wx.cell? ⟨g,0,none⟩=some (.slice a1 n c1)) w9x:=(b9.cell (p:=⟨g,0,none⟩) (World.block_lt_of_cell? _ _ hS7)).trans hS7
    have F7:=Lib.hid (F7.out.below b9)
    rw [hB9] at f9 ⊢
    have F9:=Lib.hid f9
    clear hw9 b9 f9 hB9 hS7
    refine hK9.out _ _ hS9 ?_
    clear hK9 K9
    try simp only [Act.put,zI,zO,zS]
    refine hd_list [3] (by kernel_rfl) (by decide) (by decide) (fun i hi=>?_)
    simp only [List.mem_cons,List.not_mem_nil,or_false] at hi
    subst hi
    refine⟨_,rfl,fun K3 hK3=>?_⟩
    go_simp
    obtain⟨w3x,hw3⟩:∃ wx,w9x.alloc (.cells (madeCells (encG []).toArray (n*11)) 163)=wx:=⟨_,rfl⟩
    have b3:=(Below.refl w9x.heap.size w9x).alloc (Nat.le_refl _) (.cells (madeCells (encG []).toArray (n*11)) 163)
    have f3:=HFN.out w9x
    rw [hw3] at b3 f3 ⊢
    obtain⟨B3,hB3⟩:∃ B,w9x.heap.size=B:=⟨_,rfl⟩
    have N37:Hid (B3≠B7):=Lib.hid (by have:=F7.out.lt;omega)
    have L3:Hid (W0.heap.size≤B3):=Lib.hid (by have:=HB9.out.size;omega)
    have HB3:=Lib.hid (HB9.out.trans (b3.mono HB9.out.size))
    have hS3:(fun wx:World=>wx.cell? ⟨g,0,none⟩=some (.slice a1 n c1)) w3x:=(b3.cell (p:=⟨g,0,none⟩) (World.block_lt_of_cell? _ _ hS9)).trans hS9
    have F7:=Lib.hid (F7.out.below b3)
    have F9:=Lib.hid (Blk.below F9.out b3)
    rw [hB3] at f3 ⊢
    have F3:=Lib.hid f3
    clear hw3 b3 f3 hB3 hS9
    refine hK3.out _ _ hS3 ?_
    clear hK3 K3
    try simp only [Act.put,zI,zO,zS]
    refine hd_taken 8 (some 18) _ ?hdve8 rfl rfl (by kernel_rfl) (fun _ _ _ h=>h) (Or.inl ⟨by rfl,?hdye8⟩) hS3 ?hdre8
    case hdye8=>(intro wx hx;(try dsimp only at hx);go_simp;try with_reducible rfl)
    try simp only [Act.put,zI,zO,zS]
    refine hd_done (by kernel_rfl) ?_
    simp only [List.drop_succ_cons,List.drop_zero]
    have e0:=F9.out.cell 0
    have e1:=F9.out.cell 1
    have ef:=F9.out.frozen
    have HQ:=Lib.hid (And.intro (F3.out.grown ((grown_set w3x B9 0 (.slice (some ⟨B3,0,none⟩) n n)).trans (grown_set _ B9 1 (.slice (some ⟨B7,0,none⟩) n n))) (fun e=>(by injection e with e;subst e;obtain⟨cs,h2,_⟩:=F3.out;have h3:=(show w3x.heap[B9]? =_ from F9.out).symm.trans (show w3x.heap[B9]? =_ from h2);injection h3 with h3;injection h3 with _ h3;exact absurd h3 (by decide)))) (And.intro (F7.out.grown ((grown_set w3x B9 0 (.slice (some ⟨B3,0,none⟩) n n)).trans (grown_set _ B9 1 (.slice (some ⟨B7,0,none⟩) n n))) (fun e=>(by injection e with e;subst e;obtain⟨cs,h2,_⟩:=F7.out;have h3:=(show w3x.heap[B9]? =_ from F9.out).symm.trans (show w3x.heap[B9]? =_ from h2);injection h3 with h3;injection h3 with _ h3;exact absurd h3 (by decide)))) (And.intro ((F9.out.put 0 (.slice (some ⟨B3,0,none⟩) n n)).put 1 (.slice (some ⟨B7,0,none⟩) n n)) ((HB3.out.setCell (p:=⟨B9,0,none⟩) L9.out (.slice (some ⟨B3,0,none⟩) n n)).setCell (p:=⟨B9,1,none⟩) L9.out (.slice (some ⟨B7,0,none⟩) n n)))))
    go_wp2
    go_meet
    exact⟨_,_,_,rfl,HQ.out.1,HQ.out.2.1,HQ.out.2.2.1,N37.out,L3.out,L7.out,L9.out,HQ.out.2.2.2⟩
  ·refine⟨_,rfl,fun K9 hK9=>?_⟩
   go_simp
   obtain⟨w9x,hw9⟩:∃ wx,wd.alloc (.cells #[.slice none 0 0,.slice none 0 0] 182)=wx:=⟨_,rfl⟩
   have b9:=(Below.refl wd.heap.size wd).alloc (Nat.le_refl _) (.cells #[.slice none 0 0,.slice none 0 0] 182)
   have f9:=Blk.new wd 182 #[.slice none 0 0,.slice none 0 0]
   rw [hw9] at b9 f9 ⊢
   obtain⟨B9,hB9⟩:∃ B,wd.heap.size=B:=⟨_,rfl⟩
   have L9:Hid (W0.heap.size≤B9):=Lib.hid (by have:=HB0.out.size;omega)
   have HB9:=Lib.hid (HB0.out.trans (b9.mono HB0.out.size))
   have hS9:(fun wx:World=>wx.cell? ⟨g,0,none⟩=some (.slice a1 n c1)) w9x:=(b9.cell (p:=⟨g,0,none⟩) (World.block_lt_of_cell? _ _ hS)).trans hS
   rw [hB9] at f9 ⊢
   have F9:=Lib.hid f9
   clear hw9 b9 f9 hB9
   refine hK9.out _ _ hS9 ?_
   clear hK9 K9
   try simp only [Act.put,zI,zO,zS]
   refine hd_list [3,7] (by kernel_rfl) (by decide) (by decide) (fun i hi=>?_)
   simp only [List.mem_cons,List.not_mem_nil,or_false] at hi
   rcases hi with rfl|rfl
   ·refine⟨_,rfl,fun K3 hK3=>?_⟩
    go_simp
    obtain⟨w3x,hw3⟩:∃ wx,w9x.alloc (.cells (madeCells (encG []).toArray (n*11)) 163)=wx:=⟨_,rfl⟩
    have b3:=(Below.refl w9x.heap.size w9x).alloc (Nat.le_refl _) (.cells (madeCells (encG []).toArray (n*11)) 163)
    have f3:=HFN.out w9x
    rw [hw3] at b3 f3 ⊢
    obtain⟨B3,hB3⟩:∃ B,w9x.heap.size=B:=⟨_,rfl⟩
    have L3:Hid (W0.heap.size≤B3):=Lib.hid (by have:=HB9.out.size;omega)
    have HB3:=Lib.hid (HB9.out.trans (b3.mono HB9.out.size))
    have hS3:(fun wx:World=>wx.cell? ⟨g,0,none⟩=some (.slice a1 n c1)) w3x:=(b3.cell (p:=⟨g,0,none⟩) (World.block_lt_of_cell? _ _ hS9)).trans hS9
    have F9:=Lib.hid (Blk.below F9.out b3)
    rw [hB3] at f3 ⊢
    have F3:=Lib.hid f3
    clear hw3 b3 f3 hB3 hS9
    refine hK3.out _ _ hS3 ?_
    clear hK3 K3
    try simp only [Act.put,zI,zO,zS]
    refine hd_list [7] (by kernel_rfl) (by decide) (by decide) (fun i hi=>?_)
    simp only [List.mem_cons,List.not_mem_nil,or_false] at hi
    subst hi
    refine⟨_,rfl,fun K7 hK7=>?_⟩
    go_simp
    obtain⟨w7x,hw7⟩:∃ wx,w3x.alloc (.cells (madeCells (encG []).toArray (n*11)) 163)=wx:=⟨_,rfl⟩
    have b7:=(Below.refl w3x.heap.size w3x).alloc (Nat.le_refl _) (.cells (madeCells (encG []).toArray (n*11)) 163)
    have f7:=HFN.out w3x
    rw [hw7] at b7 f7 ⊢
    obtain⟨B7,hB7⟩:∃ B,w3x.heap.size=B:=⟨_,rfl⟩
    have N37:Hid (B3≠B7):=Lib.hid (by have:=F3.out.lt;omega)
    have L7:Hid (W0.heap.size≤B7):=Lib.hid (by have:=HB3.out.size;omega)
    have HB7:=Lib.hid (HB3.out.trans (b7.mono HB3.out.size))
    have hS7:(fun wx:World=>wx.cell? ⟨g,0,none⟩=some (.slice a1 n c1)) w7x:=(b7.cell (p:=⟨g,0,none⟩) (World.block_lt_of_cell? _ _ hS3)).trans hS3
    have F9:=Lib.hid (Blk.below F9.out b7)
    have F3:=Lib.hid (F3.out.below b7)
    rw [hB7] at f7 ⊢
    have F7:=Lib.hid f7
    clear hw7 b7 f7 hB7 hS3
    refine hK7.out _ _ hS7 ?_
    clear hK7 K7
    try simp only [Act.put,zI,zO,zS]
    refine hd_taken 8 (some 18) _ ?hdvf8 rfl rfl (by kernel_rfl) (fun _ _ _ h=>h) (Or.inl ⟨by rfl,?hdyf8⟩) hS7 ?hdrf8
    case hdyf8=>(intro wx hx;(try dsimp only at hx);go_simp;try with_reducible rfl)
    try simp only [Act.put,zI,zO,zS]
    refine hd_done (by kernel_rfl) ?_
    simp only [List.drop_succ_cons,List.drop_zero]
    have e0:=F9.out.cell 0
    have e1:=F9.out.cell 1
    have ef:=F9.out.frozen
    have HQ:=Lib.hid (And.intro (F3.out.grown ((grown_set w7x B9 0 (.slice (some ⟨B3,0,none⟩) n n)).trans (grown_set _ B9 1 (.slice (some ⟨B7,0,none⟩) n n))) (fun e=>(by injection e with e;subst e;obtain⟨cs,h2,_⟩:=F3.out;have h3:=(show w7x.heap[B9]? =_ from F9.out).symm.trans (show w7x.heap[B9]? =_ from h2);injection h3 with h3;injection h3 with _ h3;exact absurd h3 (by decide)))) (And.intro (F7.out.grown ((grown_set w7x B9 0 (.slice (some ⟨B3,0,none⟩) n n)).trans (grown_set _ B9 1 (.slice (some ⟨B7,0,none⟩) n n))) (fun e=>(by injection e with e;subst e;obtain⟨cs,h2,_⟩:=F7.out;have h3:=(show w7x.heap[B9]? =_ from F9.out).symm.trans (show w7x.heap[B9]? =_ from h2);injection h3 with h3;injection h3 with _ h3;exact absurd h3 (by decide)))) (And.intro ((F9.out.put 0 (.slice (some ⟨B3,0,none⟩) n n)).put 1 (.slice (some ⟨B7,0,none⟩) n n)) ((HB7.out.setCell (p:=⟨B9,0,none⟩) L9.out (.slice (some ⟨B3,0,none⟩) n n)).setCell (p:=⟨B9,1,none⟩) L9.out (.slice (some ⟨B7,0,none⟩) n n)))))
    go_wp2
    go_meet
    exact⟨_,_,_,rfl,HQ.out.1,HQ.out.2.1,HQ.out.2.2.1,N37.out,L3.out,L7.out,L9.out,HQ.out.2.2.2⟩
   ·refine⟨_,rfl,fun K7 hK7=>?_⟩
    go_simp
    obtain⟨w7x,hw7⟩:∃ wx,w9x.alloc (.cells (madeCells (encG []).toArray (n*11)) 163)=wx:=⟨_,rfl⟩
    have b7:=(Below.refl w9x.heap.size w9x).alloc (Nat.le_refl _) (.cells (madeCells (encG []).toArray (n*11)) 163)
    have f7:=HFN.out w9x
    rw [hw7] at b7 f7 ⊢
    obtain⟨B7,hB7⟩:∃ B,w9x.heap.size=B:=⟨_,rfl⟩
    have L7:Hid (W0.heap.size≤B7):=Lib.hid (by have:=HB9.out.size;omega)
    have HB7:=Lib.hid (HB9.out.trans (b7.mono HB9.out.size))
    have hS7:(fun wx:World=>wx.cell? ⟨g,0,none⟩=some (.slice a1 n c1)) w7x:=(b7.cell (p:=⟨g,0,none⟩) (World.block_lt_of_cell? _ _ hS9)).trans hS9
    have F9:=Lib.hid (Blk.below F9.out b7)
    rw [hB7] at f7 ⊢
    have F7:=Lib.hid f7
    clear hw7 b7 f7 hB7 hS9
    refine hK7.out _ _ hS7 ?_
    clear hK7 K7
    try simp only [Act.put,zI,zO,zS]
    refine hd_list [3] (by kernel_rfl) (by decide) (by decide) (fun i hi=>?_)
    simp only [List.mem_cons,List.not_mem_nil,or_false] at hi
    subst hi
    refine⟨_,rfl,fun K3 hK3=>?_⟩
    go_simp
    obtain⟨w3x,hw3⟩:∃ wx,w7x.alloc (.cells (madeCells (encG []).toArray (n*11)) 163)=wx:=⟨_,rfl⟩
    have b3:=(Below.refl w7x.heap.size w7x).alloc (Nat.le_refl _) (.cells (madeCells (encG []).toArray (n*11)) 163)
    have f3:=HFN.out w7x
    rw [hw3] at b3 f3 ⊢
    obtain⟨B3,hB3⟩:∃ B,w7x.heap.size=B:=⟨_,rfl⟩
    have N37:Hid (B3≠B7):=Lib.hid (by have:=F7.out.lt;omega)
    have L3:Hid (W0.heap.size≤B3):=Lib.hid (by have:=HB7.out.size;omega)
    have HB3:=Lib.hid (HB7.out.trans (b3.mono HB7.out.size))
    have hS3:(fun wx:World=>wx.cell? ⟨g,0,none⟩=some (.slice a1 n c1)) w3x:=(b3.cell (p:=⟨g,0,none⟩) (World.block_lt_of_cell? _ _ hS7)).trans hS7
    have F9:=Lib.hid (Blk.below F9.out b3)
    have F7:=Lib.hid (F7.out.below b3)
    rw [hB3] at f3 ⊢
    have F3:=Lib.hid f3
    clear hw3 b3 f3 hB3 hS7
    refine hK3.out _ _ hS3 ?_
    clear hK3 K3
    try simp only [Act.put,zI,zO,zS]
    refine hd_taken 8 (some 18) _ ?hdvg8 rfl rfl (by kernel_rfl) (fun _ _ _ h=>h) (Or.inl ⟨by rfl,?hdyg8⟩) hS3 ?hdrg8
    case hdyg8=>(intro wx hx;(try dsimp only at hx);go_simp;try with_reducible rfl)
    try simp only [Act.put,zI,zO,zS]
    refine hd_done (by kernel_rfl) ?_
    simp only [List.drop_succ_cons,List.drop_zero]
    have e0:=F9.out.cell 0
    have e1:=F9.out.cell 1
    have ef:=F9.out.frozen
    have HQ:=Lib.hid (And.intro (F3.out.grown ((grown_set w3x B9 0 (.slice (some ⟨B3,0,none⟩) n n)).trans (grown_set _ B9 1 (.slice (some ⟨B7,0,none⟩) n n))) (fun e=>(by injection e with e;subst e;obtain⟨cs,h2,_⟩:=F3.out;have h3:=(show w3x.heap[B9]? =_ from F9.out).symm.trans (show w3x.heap[B9]? =_ from h2);injection h3 with h3;injection h3 with _ h3;exact absurd h3 (by decide)))) (And.intro (F7.out.grown ((grown_set w3x B9 0 (.slice (some ⟨B3,0,none⟩) n n)).trans (grown_set _ B9 1 (.slice (some ⟨B7,0,none⟩) n n))) (fun e=>(by injection e with e;subst e;obtain⟨cs,h2,_⟩:=F7.out;have h3:=(show w3x.heap[B9]? =_ from F9.out).symm.trans (show w3x.heap[B9]? =_ from h2);injection h3 with h3;injection h3 with _ h3;exact absurd h3 (by decide)))) (And.intro ((F9.out.put 0 (.slice (some ⟨B3,0,none⟩) n n)).put 1 (.slice (some ⟨B7,0,none⟩) n n)) ((HB3.out.setCell (p:=⟨B9,0,none⟩) L9.out (.slice (some ⟨B3,0,none⟩) n n)).setCell (p:=⟨B9,1,none⟩) L9.out (.slice (some ⟨B7,0,none⟩) n n)))))
    go_wp2
    go_meet
    exact⟨_,_,_,rfl,HQ.out.1,HQ.out.2.1,HQ.out.2.2.1,N37.out,L3.out,L7.out,L9.out,HQ.out.2.2.2⟩
 case rest=>
  rename World=>w1
  obtain⟨fb,ob,nb,rfl,hf,ho,hk,hfo,lf,lo,ln,hb⟩:=hcut
  have F1:=Lib.hid hf
  have O1:=Lib.hid ho
  have KN1:=Lib.hid hk
  have B1:=Lib.hid hb
  have HG0:=Lib.hid (Nat.lt_trans (Nat.lt_succ_self g) K2.out.lt)
  have mk0:w1.cell? ⟨nb,0,none⟩=some (.slice (some ⟨fb,0,none⟩) n n):=hk.cell 0
  clear hf ho hk hb m0 m0d
  go_wp2_with fail
  go_loopw [22] (fun v22 wr=>∃ t:Nat,t≤n∧v22= .int .i64 (t:Nat)∧Fn fb 163 (n*11) (i32Z (negT (t*11))) wr∧Fn ob 163 (n*11) (i32Z (negT 0)) wr∧Blk nb 182 #[.slice (some ⟨fb,0,none⟩) n n,.slice (some ⟨ob,0,none⟩) n n] wr∧Below W0.heap.size W0 wr) (fun v22 _=>n - (intOf v22).toNat)
  case atStart=>exact⟨0,Nat.zero_le _,rfl,by rw [Nat.zero_mul];exact F1.out,O1.out,KN1.out,B1.out⟩
  case round=>
   rename World=>w2
   obtain⟨t,ht,rfl,hf,ho,hk,hb⟩:=hrel
   have F2:=Lib.hid hf
   have O2:=Lib.hid ho
   have KN2:=Lib.hid hk
   have B2:=Lib.hid hb
   clear hf ho hk hb mk0 F1 O1 KN1 B1
   by_cases hlt:t<n
   ·have h9:(t:Int)<(n:Int):=by omega
    go_wp2_with fail
    go_loopw [25] (fun v25 wr=>∃ c:Nat,c≤11∧v25= .int .i64 (c:Nat)∧Fn fb 163 (n*11) (i32Z (negT (t*11+c))) wr∧Fn ob 163 (n*11) (i32Z (negT 0)) wr∧Blk nb 182 #[.slice (some ⟨fb,0,none⟩) n n,.slice (some ⟨ob,0,none⟩) n n] wr∧Below W0.heap.size W0 wr) (fun v25 _=>11 - (intOf v25).toNat)
    case atStart=>exact⟨0,by omega,rfl,F2.out,O2.out,KN2.out,B2.out⟩
    case round=>
     rename World=>w3
     obtain⟨c,hc,rfl,hf,ho,hk,hb⟩:=hrel
     have F3:=Lib.hid hf
     have O3:=Lib.hid ho
     have KN3:=Lib.hid hk
     have B3:=Lib.hid hb
     clear hf ho hk hb F2 O2 KN2 B2
     by_cases hct:c<11
     ·have h9c:(c:Int)<11:=by omega
      have mk:w3.cell? ⟨nb,0,none⟩=some (.slice (some ⟨fb,0,none⟩) n n):=KN3.out.cell 0
      have cc:w3.cell? ⟨fb,t*11+c,none⟩=some (i32Z (negT (t*11+c)) (t*11+c)):=F3.out.cell (by omega)
      have cz:=F3.out.frozen (t*11+c)
      have HN:=Lib.hid (And.intro ((F3.out.put (i:=t*11+c) (by omega) (.int .i32 (-1))).congr (g:=i32Z (negT (t*11+(c+1)))) (fun k hk=>by rw [i32Z_upd];show Value.int .i32 (if k=t*11+c then -1 else negT (t*11+c) k)=_;rw [negT_succ];rfl)) (And.intro (O3.out.grown (grown_set w3 fb (t*11+c) (.int .i32 (-1))) (fun e=>hfo (by injection e))) (And.intro (KN3.out.far (p:=⟨fb,t*11+c,none⟩) (fun e=>(by
       obtain⟨cs,h2,_⟩:=F3.out
       have e:nb=fb:=e
       subst e
       have h3:=(show w3.heap[nb]? =_ from KN3.out).symm.trans (show w3.heap[nb]? =_ from h2)
       injection h3 with h3
       injection h3 with _ h3
       exact absurd h3 (by decide))) (.int .i32 (-1))) (B3.out.setCell (p:=⟨fb,t*11+c,none⟩) lf (.int .i32 (-1))))))
      go_wp2_with fail
      go_roundw
      case measure=>simp [intOf]<;>omega
      case rel=>exact⟨c+1,by omega,by go_num,HN.out.1,HN.out.2.1,HN.out.2.2.1,HN.out.2.2.2⟩
     ·have hc11:c=11:=by omega
      subst hc11
      have h9c:¬ (11:Int)<11:=by omega
      go_wp2_with fail
      go_roundw
      case measure=>simp [intOf]<;>omega
      case rel=>exact⟨t+1,by omega,by go_num,by rw [Nat.add_mul,Nat.one_mul];exact F3.out,O3.out,KN3.out,B3.out⟩
   ·obtain rfl:t=n:=by omega
    have h9:¬ (t:Int)<(t:Int):=by omega
    have F3:Hid (Fn fb 163 (t*11) (i32Z (fsT G 0 0)) w2):=Lib.hid (F2.out.congr (fun k hk=>by unfold i32Z;rw [negT_fsT G t k hk]))
    have m0:w2.cell? ⟨g,0,none⟩=some (.slice a1 t c1):=(Blk.belowAt K0.out B2.out K0.out.lt).cell 0
    have HF3:Hid (fb≠nb∧ob≠nb):=Lib.hid ⟨fun e=>(by
      obtain⟨cs,h2,_⟩:=F3.out
      subst e
      have h3:=(show w2.heap[fb]? =_ from KN2.out).symm.trans (show w2.heap[fb]? =_ from h2)
      injection h3 with h3
      injection h3 with _ h3
      exact absurd h3 (by decide)),fun e=>(by
      obtain⟨cs,h2,_⟩:=O2.out
      subst e
      have h3:=(show w2.heap[ob]? =_ from KN2.out).symm.trans (show w2.heap[ob]? =_ from h2)
      injection h3 with h3
      injection h3 with _ h3
      exact absurd h3 (by decide))⟩
    go_wp2_with fail
    go_loopw [39] (fun v39 wr=>∃(s:Nat) (vo:Nat→Int),s≤t∧v39= .int .i64 (s:Nat)∧Fn fb 163 (t*11) (i32Z (fsT G s 0)) wr∧Fn ob 163 (t*11) (i32Z vo) wr∧VoOk G s 0 vo∧Blk nb 182 #[.slice (some ⟨fb,0,none⟩) t t,.slice (some ⟨ob,0,none⟩) t t] wr∧Below W0.heap.size W0 wr) (fun v39 _=>t - (intOf v39).toNat)
    case atStart=>exact⟨0,_,Nat.zero_le _,rfl,F3.out,O2.out,fun s' c' _ hs=>by omega,KN2.out,B2.out⟩
    case round=>
     rename World=>w4
     obtain⟨s,vo,hs,rfl,hf,ho,hvo,hk,hb⟩:=hrel
     have F4:=Lib.hid hf
     have O4:=Lib.hid ho
     have V4:=Lib.hid hvo
     have KN4:=Lib.hid hk
     have B4:=Lib.hid hb
     have z4:=hb.size
     clear hf ho hvo hk hb m0 F3 O2 KN2 B2
     by_cases hlt:s<t
     ·have h9:(s:Int)<(t:Int):=by omega
      obtain⟨b,off,rfl,hrow⟩:=(HR.out.below B4.out).row s (by rw [HL.out];exact hlt)
      obtain⟨x,hx⟩:∃ x,l[s]'(by rw [HL.out];exact hlt)=x:=⟨_,rfl⟩
      have HX:Hid (∀ c,c<11→x.getD c 0=G.d s c):=Lib.hid (fun c hc=>by
       rw [←HD.out s c hlt hc,List.getD_eq_getElem?_getD (l:=l),List.getElem?_eq_getElem (by rw [HL.out];exact hlt),hx]
       rfl)
      rw [hx] at hrow
      have HROW:=Lib.hid hrow
      clear hx hrow
      obtain⟨rb,hrb⟩:∃ rb,w4.heap.size=rb:=⟨_,rfl⟩
      have bn:=(Below.refl w4.heap.size w4).alloc (Nat.le_refl _) (.cells (encG []).toArray 163)
      have kn:=Blk.new w4 163 (encG []).toArray
      have hfl:=F4.out.lt
      have hol:=O4.out.lt
      have hnl:=KN4.out.lt
      have HZ:Hid (Obj.cells (encG []).toArray 163= .cells #[.int .i32 0,.int .i32 0,.int .i32 0,.int .i32 0,.int .i32 0,.int .i32 0,.int .i32 0,.int .i32 0,.int .i32 0,.int .i32 0,.int .i32 0] 163):=Lib.hid rfl
      rw [hrb] at kn
      rw [HZ.out] at kn bn
      have KN:=Lib.hid kn
      have BN:=Lib.hid bn
      have HRB:=Lib.hid hrb
      rw [hrb] at hfl hol hnl z4
      clear bn kn HZ hrb
      go_upto_region 13 with fail
      refine wp_region_lit ?_
      refine wpList_plain rfl fun K0 hK0=>?_
      have hSh:=Lib.hid hK0
      clear hK0
      go_simp
      refine hSh.out _ _ ?_
      clear hSh K0
      try simp only [Act.put,zI,zO,zS]
      refine wpList_plain rfl fun K0 hK0=>?_
      have hSh:=Lib.hid hK0
      clear hK0
      go_simp
      refine hSh.out _ _ ?_
      clear hSh K0
      try simp only [Act.put,zI,zO,zS]
      refine wpList_load_row x b (off+s*11) _ rfl rfl rfl HROW.out ?_
      try simp only [Act.put,zI,zO,zS]
      refine wpList_plain rfl fun K0 hK0=>?_
      have hSh:=Lib.hid hK0
      clear hK0
      go_simp
      refine hSh.out _ _ ?_
      clear hSh K0
      try simp only [Act.put,zI,zO,zS]
      rw [HRB.out]
      refine wpList_plain rfl fun K0 hK0=>?_
      have hSh:=Lib.hid hK0
      clear hK0
      go_simp
      refine hSh.out _ _ ?_
      clear hSh K0
      try simp only [Act.put,zI,zO,zS]
      refine wpList_store_row x rb _ KN.out (by rw [List.size_toArray,encG_len]) _ _ rfl rfl rfl rfl ?_
      intro w5 k5 g5
      try simp only [Act.put,zI,zO,zS]
      go_upto_region 14 with fail
      refine wp_region_lit ?_
      refine wpList_load_row x rb 0 _ rfl rfl rfl (fun j v hv=>by rw [k5.cell,List.getElem?_toArray,Nat.zero_add];exact hv) ?_
      try simp only [Act.put,zI,zO,zS]
      have F5:=Lib.hid ((F4.out.below BN.out).grown g5 (by intro e;injection e with e;omega))
      have O5:=Lib.hid ((O4.out.below BN.out).grown g5 (by intro e;injection e with e;omega))
      have KN5:Hid (Blk nb 182 #[.slice (some ⟨fb,0,none⟩) t t,.slice (some ⟨ob,0,none⟩) t t] w5):=Lib.hid ((g5.block nb (Nat.lt_of_lt_of_le KN4.out.lt BN.out.size) (by intro e;injection e with e;omega)).trans (Blk.below KN4.out BN.out))
      have B5:=Lib.hid ((B4.out.trans (BN.out.mono (by have:=HRB.out;omega))).grown g5 (by have:=HRB.out;have:=BN.out.size;omega) (fun k e=>by injection e with e;omega))
      clear k5 g5 KN F4 O4 KN4 B4 BN
      go_wp2_with fail
      go_loopw [45] (fun v45 wr=>∃(c:Nat) (vo:Nat→Int),c≤11∧v45= .int .i64 (c:Nat)∧Fn fb 163 (t*11) (i32Z (fsT G s c)) wr∧Fn ob 163 (t*11) (i32Z vo) wr∧VoOk G s c vo∧Blk nb 182 #[.slice (some ⟨fb,0,none⟩) t t,.slice (some ⟨ob,0,none⟩) t t] wr∧Below W0.heap.size W0 wr) (fun v45 _=>11 - (intOf v45).toNat)
      case atStart=>exact⟨0,vo,by omega,rfl,F5.out,O5.out,V4.out,KN5.out,B5.out⟩
      case round=>
       rename World=>w6
       obtain⟨c,vo,hc,rfl,hf,ho,hvo,hk,hb⟩:=hrel
       have F6:=Lib.hid hf
       have O6:=Lib.hid ho
       have V6:=Lib.hid hvo
       have KN6:=Lib.hid hk
       have B6:=Lib.hid hb
       clear hf ho hvo hk hb F5 O5 V4 KN5 B5
       by_cases hct:c<11
       ·have h9c:(c:Int)<11:=by omega
        have hix:=index_row x hct w6
        rw [HX.out c hct] at hix
        have hTn:=HDN.out s c hlt hct
        obtain⟨T,hT⟩:∃ T,G.d s c=T:=⟨_,rfl⟩
        have HT:=Lib.hid hT
        rw [hT] at hix hTn
        clear hT
        have hT9:(T:Int)<(t:Int):=by omega
        obtain⟨y,hy⟩:∃ y,fsT G s c (T*11+c)=y:=⟨_,rfl⟩
        have HY:Hid (prv G c (G.d s c) s=y):=Lib.hid (by rw [←hy,HT.out,fsT_at G s c T hct])
        obtain⟨we,hwe⟩:∃ we,w6.drew=we:=⟨_,rfl⟩
        have F7:=Lib.hid (F6.out.below (Below.refl _ w6).drew)
        have O7:=Lib.hid (O6.out.below (Below.refl _ w6).drew)
        have KN7:=Lib.hid (Blk.below KN6.out (Below.refl _ w6).drew)
        have B7:=Lib.hid (B6.out.drew)
        rw [hwe] at F7 O7 KN7 B7
        have cf:we.cell? ⟨fb,T*11+c,none⟩=some (.int .i32 y):=by rw [F7.out.cell (by omega),←hy];rfl
        have co:we.cell? ⟨ob,s*11+c,none⟩=some (i32Z vo (s*11+c)):=O7.out.cell (by omega)
        have cz:=O7.out.frozen (s*11+c)
        have hS:(fun wx:World=>wx.cell? ⟨nb,0,none⟩=some (.slice (some ⟨fb,0,none⟩) t t)∧wx.cell? ⟨nb,1,none⟩=some (.slice (some ⟨ob,0,none⟩) t t)∧wx.cell? ⟨fb,T*11+c,none⟩=some (.int .i32 y)) we:=⟨KN7.out.cell 0,KN7.out.cell 1,cf⟩
        clear hy
        go_upto_region 17 with fail
        refine region_hd 12 (fun wx:World=>wx.cell? ⟨nb,0,none⟩=some (.slice (some ⟨fb,0,none⟩) t t)∧wx.cell? ⟨nb,1,none⟩=some (.slice (some ⟨ob,0,none⟩) t t)∧wx.cell? ⟨fb,T*11+c,none⟩=some (.int .i32 y)) (by kernel_rfl) (by kernel_rfl) ?_
        rw [hwe]
        refine hd_taken 0 (some 49) _ ?hdv0 rfl rfl (by kernel_rfl) (fun _ _ _ h=>h) (Or.inl ⟨by rfl,?hdy0⟩) hS ?hdr0
        case hdy0=>(intro wx hx;(try dsimp only at hx);go_simp;try with_reducible rfl)
        try simp only [Act.put,zI,zO,zS]
        refine hd_taken 1 (some 50) _ ?hdv1 rfl rfl (by kernel_rfl) (fun _ _ _ h=>h) (Or.inl ⟨by rfl,?hdy1⟩) hS ?hdr1
        case hdy1=>(intro wx hx;(try dsimp only at hx);go_simp;try with_reducible rfl)
        try simp only [Act.put,zI,zO,zS]
        refine hd_taken 2 (some 51) _ ?hdv2 rfl rfl (by kernel_rfl) (fun _ _ _ h=>h) (Or.inl ⟨by rfl,?hdy2⟩) hS ?hdr2
        case hdy2=>(intro wx hx;(try dsimp only at hx);go_simp;try with_reducible rfl)
        try simp only [Act.put,zI,zO,zS]
        refine hd_taken 3 (some 52) _ ?hdv3 rfl rfl (by kernel_rfl) (fun _ _ _ h=>h) (Or.inl ⟨by rfl,?hdy3⟩) hS ?hdr3
        case hdy3=>(intro wx hx;(try dsimp only at hx);go_simp;try with_reducible rfl)
        try simp only [Act.put,zI,zO,zS]
        refine hd_taken 4 (some 53) _ ?hdv4 rfl rfl (by kernel_rfl) (fun _ _ _ h=>h) (Or.inl ⟨by rfl,?hdy4⟩) hS ?hdr4
        case hdy4=>(intro wx hx;(try dsimp only at hx);go_simp;try with_reducible rfl)
        try simp only [Act.put,zI,zO,zS]
        refine hd_taken 5 (some 54) _ ?hdv5 rfl rfl (by kernel_rfl) (fun _ _ _ h=>h) (Or.inl ⟨by rfl,?hdy5⟩) hS ?hdr5
        case hdy5=>(intro wx hx;(try dsimp only at hx);go_simp;try with_reducible rfl)
        try simp only [Act.put,zI,zO,zS]
        refine hd_taken 6 (some 55) _ ?hdv6 rfl rfl (by kernel_rfl) (fun _ _ _ h=>h) (Or.inl ⟨by rfl,?hdy6⟩) hS ?hdr6
        case hdy6=>(intro wx hx;(try dsimp only at hx);go_simp;try with_reducible rfl)
        try simp only [Act.put,zI,zO,zS]
        refine hd_taken 7 (some 56) _ ?hdv7 rfl rfl (by kernel_rfl) (fun _ _ _ h=>h) (Or.inl ⟨by rfl,?hdy7⟩) hS ?hdr7
        case hdy7=>(intro wx hx;(try dsimp only at hx);go_simp;try with_reducible rfl)
        try simp only [Act.put,zI,zO,zS]
        refine hd_taken 8 (some 57) _ ?hdv8 rfl rfl (by kernel_rfl) (fun _ _ _ h=>h) (Or.inl ⟨by rfl,?hdy8⟩) hS ?hdr8
        case hdy8=>(intro wx hx;(try dsimp only at hx);go_simp;try with_reducible rfl)
        try simp only [Act.put,zI,zO,zS]
        refine hd_taken 9 (some 58) _ ?hdv9 rfl rfl (by kernel_rfl) (fun _ _ _ h=>h) (Or.inl ⟨by rfl,?hdy9⟩) hS ?hdr9
        case hdy9=>(intro wx hx;(try dsimp only at hx);go_simp;try with_reducible rfl)
        try simp only [Act.put,zI,zO,zS]
        refine hd_taken 10 (some 59) _ ?hdv10 rfl rfl (by kernel_rfl) (fun _ _ _ h=>h) (Or.inl ⟨by rfl,?hdy10⟩) hS ?hdr10
        case hdy10=>(intro wx hx;(try dsimp only at hx);go_simp;try with_reducible rfl)
        try simp only [Act.put,zI,zO,zS]
        refine hd_taken 11 (some 60) _ ?hdv11 rfl rfl (by kernel_rfl) (fun _ _ _ h=>h) (Or.inl ⟨by rfl,?hdy11⟩) hS ?hdr11
        case hdy11=>(intro wx hx;(try dsimp only at hx);go_simp;try with_reducible rfl)
        try simp only [Act.put,zI,zO,zS]
        refine hd_done (by kernel_rfl) ?_
        simp only [List.drop_succ_cons,List.drop_zero]
        have gs:=grown_set we ob (s*11+c) (.int .i32 y)
        have F8:=Lib.hid (F7.out.grown gs (fun e=>hfo (by injection e with e;exact e.symm)))
        have O8:=Lib.hid ((O7.out.put (i:=s*11+c) (by omega) (.int .i32 y)).congr (g:=i32Z (fun k=>if k=s*11+c then y else vo k)) (fun k hk=>i32Z_upd _ _ _ _))
        have KN8:Hid (Blk nb 182 #[.slice (some ⟨fb,0,none⟩) t t,.slice (some ⟨ob,0,none⟩) t t] (we.setCell ⟨ob,s*11+c,none⟩ (.int .i32 y))):=Lib.hid (KN7.out.far (p:=⟨ob,s*11+c,none⟩) (fun e=>HF3.out.2 e.symm) _)
        have B8:=Lib.hid (B7.out.setCell (p:=⟨ob,s*11+c,none⟩) lo (.int .i32 y))
        have V8:Hid (VoOk G s (c+1) (fun k=>if k=s*11+c then y else vo k)):=Lib.hid (by rw [←HY.out];exact V6.out.put hct)
        go_upto_region 18 with fail
        obtain⟨w8,hw8⟩:∃ w8,we.setCell ⟨ob,s*11+c,none⟩ (.int .i32 y)=w8:=⟨_,rfl⟩
        rw [hw8] at F8 O8 KN8 B8 ⊢
        clear hw8 gs cf co cz hS F7 O7 KN7 B7 F6 O6 KN6 B6 hwe
        have d1:IntKind.i32.wrap ((s:Nat):Int)=(s:Int):=by rw [IntKind.wrap_i32];omega
        have cc:w8.cell? ⟨fb,T*11+c,none⟩=some (i32Z (fsT G s c) (T*11+c)):=F8.out.cell (by omega)
        have cz8:=F8.out.frozen (T*11+c)
        have mk8:w8.cell? ⟨nb,0,none⟩=some (.slice (some ⟨fb,0,none⟩) t t):=KN8.out.cell 0
        have F9:=Lib.hid ((F8.out.put (i:=T*11+c) (by omega) (.int .i32 (s:Nat))).congr (g:=i32Z (fsT G s (c+1))) (fun k hk=>by
         rw [i32Z_upd]
         show Value.int .i32 (if k=T*11+c then(s:Int) else fsT G s c k)=_
         rw [←HT.out,fsT_succ G s c k hct]
         rfl))
        have O9:=Lib.hid (O8.out.grown (grown_set w8 fb (T*11+c) (.int .i32 (s:Nat))) (fun e=>hfo (by injection e)))
        have KN9:Hid (Blk nb 182 #[.slice (some ⟨fb,0,none⟩) t t,.slice (some ⟨ob,0,none⟩) t t] (w8.setCell ⟨fb,T*11+c,none⟩ (.int .i32 (s:Nat)))):=Lib.hid (KN8.out.far (p:=⟨fb,T*11+c,none⟩) (fun e=>HF3.out.1 e.symm) _)
        have B9:=Lib.hid (B8.out.setCell (p:=⟨fb,T*11+c,none⟩) lf (.int .i32 (s:Nat)))
        go_wp2_with fail
        go_roundw
        case measure=>simp [intOf]<;>omega
        case rel=>exact⟨c+1,_,by omega,by go_num,F9.out,O9.out,V8.out,KN9.out,B9.out⟩
       ·have hc11:c=11:=by omega
        subst hc11
        have h9c:¬ (11:Int)<11:=by omega
        have F7:Hid (Fn fb 163 (t*11) (i32Z (fsT G (s+1) 0)) w6):=Lib.hid (F6.out.congr (fun k _=>by unfold i32Z;rw [fsT_row]))
        go_wp2_with fail
        go_roundw
        case measure=>simp [intOf]<;>omega
        case rel=>exact⟨s+1,vo,by omega,by go_num,F7.out,O6.out,V6.out.next,KN6.out,B6.out⟩
     ·obtain rfl:s=t:=by omega
      have h9:¬ (s:Int)<(s:Int):=by omega
      have q0:=KN4.out.cell 0
      have q1:=KN4.out.cell 1
      replace q0:w4.cell? ⟨nb,0,none⟩=some (.slice (some ⟨fb,0,none⟩) s s):=q0
      replace q1:w4.cell? ⟨nb,1,none⟩=some (.slice (some ⟨ob,0,none⟩) s s):=q1
      have K24:=Blk.belowAt K2.out B4.out K2.out.lt
      have e0:=K24.cell 0
      have e1:=K24.cell 1
      have ef:=K24.frozen
      have hgg:∀ b,W0.heap.size≤b→(some (g+1):Option Nat)≠some b:=fun b hb e=>by injection e with e;have:=K2.out.lt;omega
      have gs:=(grown_set w4 (g+1) 0 (.slice (some ⟨fb,0,none⟩) s s)).trans (grown_set _ (g+1) 1 (.slice (some ⟨ob,0,none⟩) s s))
      have HFIN:Hid (Blk (g+1) 182 #[.slice (some ⟨fb,0,none⟩) s s,.slice (some ⟨ob,0,none⟩) s s] ((w4.setCell ⟨g+1,0,none⟩ (.slice (some ⟨fb,0,none⟩) s s)).setCell ⟨g+1,1,none⟩ (.slice (some ⟨ob,0,none⟩) s s))∧RevR G s w (.returned (.agg #[.slice (some ⟨fb,0,none⟩) s s,.slice (some ⟨ob,0,none⟩) s s])) ((w4.setCell ⟨g+1,0,none⟩ (.slice (some ⟨fb,0,none⟩) s s)).setCell ⟨g+1,1,none⟩ (.slice (some ⟨ob,0,none⟩) s s))):=Lib.hid ⟨(K24.put 0 _).put 1 _,fb,ob,vo,rfl,F4.out.grown gs (hgg fb lf),O4.out.grown gs (hgg ob lo),V4.out,by have:=HBB.out.size;omega,by have:=HBB.out.size;omega,((HBB.out.trans (B4.out.mono HBB.out.size)).setCell (p:=⟨g+1,0,none⟩) (by show w.heap.size≤g+1;have:=HG.out;omega) _).setCell (p:=⟨g+1,1,none⟩) (by show w.heap.size≤g+1;have:=HG.out;omega) _⟩
      clear gs hgg
      go_wp2
      exact bodyPost_ret (v:= .agg #[.slice (some ⟨fb,0,none⟩) s s,.slice (some ⟨ob,0,none⟩) s s]) (resRV rfl HFIN.out.1) rfl HFIN.out.2
structure RI (G:Aut) (i:Nat) (P:Ptn):Prop where
 pb:PB G.n P
 c0:P.c= []
 k0:∀ j,j<P.l.length→(P.at_ j).k=0
 coarse:∀ s t,s<G.n→t<G.n→Eqv G G s t→P.b s=P.b t
 fine:∀ s t,s<G.n→t<G.n→P.b s=P.b t→G.f s=G.f t
 stab:∀ s t c,s<G.n→t<G.n→c<11→P.b s=P.b t→P.b (G.d s c)=P.b (G.d t c)∨i≤P.b (G.d s c)∨i≤P.b (G.d t c)
theorem RI.tc {G:Aut} {i:Nat} {P:Ptn} (h:RI G i P):TC P:=tc_nil h.c0 h.k0
theorem RI.cls {G:Aut} (hG:G.Ok) {i:Nat} {P:Ptn} (h:RI G i P) (hi:P.l.length≤i):Cls G P.b:=fun s t hs ht=>by
 refine⟨fun e=>?_,h.coarse s t hs ht⟩
 refine eqv_bisim (fun s t=>s<G.n∧t<G.n∧P.b s=P.b t) (fun s t k=>h.fine s t k.1 k.2.1 k.2.2) (fun s t c k hc=>?_) s t ⟨hs,ht,e⟩
 have g1:=hG.go s c k.1 hc
 have g2:=hG.go t c k.2.1 hc
 have b1:=(h.pb.b_ _ g1).1
 have b2:=(h.pb.b_ _ g2).1
 refine⟨g1,g2,?_⟩
 rcases h.stab s t c k.1 k.2.1 hc k.2.2 with e|e|e
 ·exact e
 ·omega
 ·omega
structure RJ (G:Aut) (i c:Nat) (P Q:Ptn):Prop where
 pb:PB G.n Q
 c0:Q.c= []
 k0:∀ j,j<Q.l.length→(Q.at_ j).k=0
 coarse:∀ s t,s<G.n→t<G.n→Eqv G G s t→Q.b s=Q.b t
 len:P.l.length≤Q.l.length
 ref_:∀ s t,s<G.n→t<G.n→Q.b s=Q.b t→P.b s=P.b t
 new_:∀ s,s<G.n→Q.b s=P.b s∨P.l.length≤Q.b s
 div:∀ s t c',s<G.n→t<G.n→c'<c→Q.b s=Q.b t→(P.b (G.d s c')=i↔P.b (G.d t c')=i)
theorem RJ.tc {G:Aut} {i c:Nat} {P Q:Ptn} (h:RJ G i c P Q):TC Q:=tc_nil h.c0 h.k0
theorem RI.use {G:Aut} {i:Nat} {P:Ptn} (h:RI G i P):RJ G i 0 P P:=⟨h.pb,h.c0,h.k0,h.coarse,Nat.le_refl _,fun _ _ _ _ e=>e,fun _ _=> .inl rfl,fun _ _ _ _ _ hc=>by omega⟩
theorem RJ.step {G:Aut} (hG:G.Ok) {i c:Nat} {P Q R S:Ptn} (h:RJ G i c P Q) (hc:c<11) (hP:RI G i P) (hR:R.b=Q.b) (hl:R.l.length=Q.l.length) (hm:∀ s,s<G.n→(Mk R s↔P.b (G.d s c)=i)) (hs:SP G.n R S):RJ G i (c+1) P S:=by
 refine⟨hs.pb,hs.tc,hs.zero,fun s t h1 h2 e=>?_,by have:=hs.len;have:=h.len;omega,fun s t h1 h2 e=>?_,fun s h1=>?_,fun s t c' h1 h2 hc' e=>?_⟩
 ·refine(hs.cls s t h1 h2).2 ⟨by rw [hR];exact h.coarse s t h1 h2 e,?_⟩
  rw [hm s h1,hm t h2,hP.coarse _ _ (hG.go s c h1 hc) (hG.go t c h2 hc) (e.step hc)]
 ·have:=(hs.cls s t h1 h2).1 e
  rw [hR] at this
  exact h.ref_ s t h1 h2 this.1
 ·rcases hs.new_ s h1 with e|e
  ·rw [e,hR];exact h.new_ s h1
  ·right;have:=h.len;omega
 ·have:=(hs.cls s t h1 h2).1 e
  rw [hR] at this
  rcases Nat.lt_or_ge c' c with h5|h5
  ·exact h.div s t c' h1 h2 h5 this.1
  ·obtain rfl:c'=c:=by omega
   rw [←hm s h1,←hm t h2]
   exact this.2
theorem RJ.done {G:Aut} (hG:G.Ok) {i:Nat} {P Q:Ptn} (h:RJ G i 11 P Q) (hP:RI G i P) (hi:i<P.l.length):RI G (i+1) Q:=by
 refine⟨h.pb,h.c0,h.k0,h.coarse,fun s t h1 h2 e=>hP.fine s t h1 h2 (h.ref_ s t h1 h2 e),fun s t c h1 h2 hc e=>?_⟩
 have g1:=hG.go s c h1 hc
 have g2:=hG.go t c h2 hc
 by_cases a1:i+1≤Q.b (G.d s c)
 ·exact .inr (.inl a1)
 by_cases a2:i+1≤Q.b (G.d t c)
 ·exact .inr (.inr a2)
 left
 have e1:Q.b (G.d s c)=P.b (G.d s c):=by rcases h.new_ _ g1 with k|k<;>omega
 have e2:Q.b (G.d t c)=P.b (G.d t c):=by rcases h.new_ _ g2 with k|k<;>omega
 have dv:=h.div s t c h1 h2 hc e
 rw [e1,e2]
 rcases hP.stab s t c h1 h2 hc (h.ref_ s t h1 h2 e) with k|k|k
 ·exact k
 ·have:P.b (G.d s c)=i:=by omega
  rw [this,dv.1 this]
 ·have:P.b (G.d t c)=i:=by omega
  rw [this,dv.2 this]
structure R0 (G:Aut) (m:Nat) (P:Ptn):Prop where
 pb:PB G.n P
 tc:TC P
 b0:P.b=fun _=>0
 l1:P.l.length=1
 mk_:∀ s,s<G.n→(Mk P s↔s<m∧G.f s=true)
theorem r0_start (G:Aut) (h0:0<G.n):R0 G 0 (ptn0 G.n):=by
 have hat:∀ j,j<1→(ptn0 G.n).at_ j=⟨0,G.n,0⟩:=fun j hj=>by
  obtain rfl:j=0:=by omega
  rfl
 have hpb:PB G.n (ptn0 G.n):=by
  refine⟨fun s hs=>⟨hs,rfl⟩,fun i hi=>⟨hi,rfl⟩,fun i hi=>?_,fun s hs=>?_,fun i j hi hj _ _=>?_⟩
  ·rw [hat i hi];exact⟨h0,Nat.le_refl _,by simp⟩
  ·show 0<1∧((ptn0 G.n).at_ 0).f≤s∧s<((ptn0 G.n).at_ 0).t
   rw [hat 0 (by omega)]
   exact⟨by omega,Nat.zero_le _,hs⟩
  ·have hj:j<1:=hj
   show 0=j
   omega
 have hz:∀ j,j<(ptn0 G.n).l.length→((ptn0 G.n).at_ j).k=0:=fun j hj=>by rw [hat j hj]
 exact⟨hpb,tc_nil rfl hz,rfl,rfl,fun s hs=>⟨fun h=>absurd h (no_mk hpb hz hs),fun h=>by omega⟩⟩
theorem R0.skip {G:Aut} {m:Nat} {P:Ptn} (h:R0 G m P) (hf:G.f m=false):R0 G (m+1) P:=⟨h.pb,h.tc,h.b0,h.l1,fun s hs=>by
 rw [h.mk_ s hs]
 constructor
 ·rintro⟨a,b⟩;exact⟨by omega,b⟩
 ·rintro⟨a,b⟩
  rcases Nat.lt_or_ge s m with k|k
  ·exact⟨k,b⟩
  ·obtain rfl:s=m:=by omega
   rw [hf] at b;cases b⟩
theorem R0.no {G:Aut} {m:Nat} {P:Ptn} (h:R0 G m P) (hm:m<G.n):¬ Mk P m:=fun e=>by have:=((h.mk_ m hm).1 e).1;omega
theorem mark_len {n:Nat} {p:Ptn} {s:Nat} (hp:PB n p):(markP p s).l.length=p.l.length:=by show(p.l.set _ _).length=_;simp
theorem R0.take {G:Aut} {m:Nat} {P:Ptn} (h:R0 G m P) (hm:m<G.n) (hf:G.f m=true):R0 G (m+1) (markP P m):=by
 have hn:=h.no hm
 refine⟨mark_pb h.pb hm hn,mark_tc h.pb h.tc hm,h.b0,(mark_len h.pb).trans h.l1,fun s hs=>?_⟩
 rw [mark_mk h.pb hm hn hs,h.mk_ s hs]
 constructor
 ·rintro(⟨a,b⟩|rfl)
  ·exact⟨by omega,b⟩
  ·exact⟨by omega,hf⟩
 ·rintro⟨a,b⟩
  rcases Nat.lt_or_ge s m with k|k
  ·exact .inl ⟨k,b⟩
  ·exact .inr (by omega)
theorem R0.done {G:Aut} {P S:Ptn} (h:R0 G G.n P) (hs:SP G.n P S):RI G 1 S:=by
 have hb:∀ s t,s<G.n→t<G.n→(S.b s=S.b t↔G.f s=G.f t):=fun s t h1 h2=>by
  rw [hs.cls s t h1 h2,h.b0,h.mk_ s h1,h.mk_ t h2]
  cases G.f s<;>cases G.f t<;>simp [h1,h2]
 refine⟨hs.pb,hs.tc,hs.zero,fun s t h1 h2 e=>(hb s t h1 h2).2 e.f,fun s t h1 h2 e=>(hb s t h1 h2).1 e,fun s t c h1 h2 hc e=>?_⟩
 omega
theorem prv_cases (G:Aut) (c t:Nat):∀ m,(prv G c t m= -1∧∀ s,s<m→G.d s c≠t)∨∃ x,x<m∧prv G c t m=(x:Int)∧G.d x c=t∧∀ s,x<s→s<m→G.d s c≠t
 |0=> .inl ⟨rfl,fun s hs=>by omega⟩
 |m+1=>by
  rw [prv_succ]
  by_cases e:G.d m c=t
  ·rw [if_pos e]
   exact .inr ⟨m,by omega,rfl,e,fun s h1 h2=>by omega⟩
  ·rw [if_neg e]
   rcases prv_cases G c t m with⟨h1,h2⟩|⟨x,h1,h2,h3,h4⟩
   ·refine .inl ⟨h1,fun s hs=>?_⟩
    rcases Nat.lt_or_ge s m with k|k
    ·exact h2 s k
    ·rw [show s=m by omega];exact e
   ·refine .inr ⟨x,by omega,h2,h3,fun s a b=>?_⟩
    rcases Nat.lt_or_ge s m with k|k
    ·exact h4 s a k
    ·rw [show s=m by omega];exact e
structure RK (G:Aut) (T:List Nat) (c j m:Nat) (Q R:Ptn):Prop where
 pb:PB G.n R
 tc:TC R
 b0:R.b=Q.b
 l0:R.l.length=Q.l.length
 mk_:∀ s,s<G.n→(Mk R s↔G.d s c∈T.take j∨(∃ t,T[j]? =some t∧G.d s c=t∧m≤s))
theorem RJ.start {G:Aut} {i c:Nat} {P Q:Ptn} (h:RJ G i c P Q) (T:List Nat):RK G T c 0 G.n Q Q:=⟨h.pb,h.tc,rfl,rfl,fun s hs=>⟨fun e=>absurd e (no_mk h.pb h.k0 hs),fun e=>by
 rcases e with e|⟨t,_,_,e⟩
 ·simp at e
 ·omega⟩⟩
section
variable {G:Aut} {T:List Nat} {c j m:Nat} {Q R:Ptn}
theorem RK.no (h:RK G T c j m Q R) (hT:T.Nodup) {x t:Nat} (hj:T[j]? =some t) (hx:x<G.n) (hxm:x<m) (hd:G.d x c=t):¬ Mk R x:=fun e=>by
 have hjl:=(List.getElem?_eq_some_iff.1 hj).1
 have hje:=(List.getElem?_eq_some_iff.1 hj).2
 rcases(h.mk_ x hx).1 e with e1|⟨t',h1,h2,h3⟩
 ·rw [hd] at e1
  obtain⟨k,hk,e2⟩:=List.getElem_of_mem e1
  rw [List.length_take] at hk
  rw [List.getElem_take,←hje] at e2
  have:=(List.getElem_inj hT).1 e2
  omega
 ·omega
theorem RK.mark (h:RK G T c j m Q R) (hT:T.Nodup) {x t:Nat} (hj:T[j]? =some t) (hx:x<G.n) (hxm:x<m) (hd:G.d x c=t) (hn:∀ s,x<s→s<m→G.d s c≠t):RK G T c j x Q (markP R x):=by
 have hno:=h.no hT hj hx hxm hd
 refine⟨mark_pb h.pb hx hno,mark_tc h.pb h.tc hx,h.b0,(mark_len h.pb).trans h.l0,fun s hs=>?_⟩
 rw [mark_mk h.pb hx hno hs,h.mk_ s hs]
 constructor
 ·rintro((e|⟨t',h1,h2,h3⟩)|rfl)
  ·exact .inl e
  ·exact .inr ⟨t',h1,h2,by omega⟩
  ·exact .inr ⟨t,hj,hd,Nat.le_refl _⟩
 ·rintro(e|⟨t',h1,h2,h3⟩)
  ·exact .inl (.inl e)
  ·rw [hj] at h1
   injection h1 with h1
   subst h1
   rcases Nat.lt_trichotomy s x with k|k|k
   ·omega
   ·exact .inr k
   ·rcases Nat.lt_or_ge s m with k2|k2
    ·exact absurd h2 (hn s k k2)
    ·exact .inl (.inr ⟨t,hj,h2,k2⟩)
theorem RK.next (h:RK G T c j m Q R) {t:Nat} (hj:T[j]? =some t) (hn:∀ s,s<m→G.d s c≠t):RK G T c (j+1) G.n Q R:=by
 have hjl:=(List.getElem?_eq_some_iff.1 hj).1
 have hje:=(List.getElem?_eq_some_iff.1 hj).2
 refine⟨h.pb,h.tc,h.b0,h.l0,fun s hs=>?_⟩
 rw [h.mk_ s hs,List.take_succ_eq_append_getElem hjl,hje,List.mem_append,List.mem_singleton]
 constructor
 ·rintro(e|⟨t',h1,h2,h3⟩)
  ·exact .inl (.inl e)
  ·rw [hj] at h1
   injection h1 with h1
   exact .inl (.inr (by rw [h2,h1]))
 ·rintro((e|e)|⟨t',h1,h2,h3⟩)
  ·exact .inl e
  ·refine .inr ⟨t,hj,e,?_⟩
   rcases Nat.lt_or_ge s m with k|k
   ·exact absurd e (hn s k)
   ·exact k
  ·omega
theorem RK.all (h:RK G T c T.length m Q R) (s:Nat) (hs:s<G.n):Mk R s↔G.d s c∈T:=by
 rw [h.mk_ s hs,List.take_length]
 constructor
 ·rintro(e|⟨t,h1,_⟩)
  ·exact e
  ·rw [List.getElem?_eq_none (Nat.le_refl _)] at h1;cases h1
 ·exact .inl
end
theorem stL_mem {n:Nat} {p:Ptn} (h:PB n p) {i:Nat} (hi:i<p.l.length) (t:Nat):t∈stL p i↔t<n∧p.b t=i:=by
 have hl:=h.l_ i hi
 unfold stL
 rw [List.mem_map]
 constructor
 ·rintro⟨j,hj,rfl⟩
  rw [List.mem_range] at hj
  exact⟨(h.o_ _ (by omega)).1,h.u_ _ _ (by omega) hi (by omega) (by omega)⟩
 ·rintro⟨ht,e⟩
  have hb:=h.b_ t ht
  rw [e] at hb
  exact⟨p.q t - (p.at_ i).f,List.mem_range.2 (by omega),by rw [show(p.at_ i).f+(p.q t - (p.at_ i).f)=p.q t by omega];exact(h.q_ t ht).2⟩
theorem stL_nodup {n:Nat} {p:Ptn} (h:PB n p) {i:Nat} (hi:i<p.l.length):(stL p i).Nodup:=by
 have hl:=h.l_ i hi
 unfold stL
 refine List.pairwise_iff_getElem.2 (fun a b ha hb hab e=>?_)
 simp only [List.length_map,List.length_range] at ha hb
 simp only [List.getElem_map,List.getElem_range] at e
 have h1:=(h.o_ ((p.at_ i).f+a) (by omega)).2
 have h2:=(h.o_ ((p.at_ i).f+b) (by omega)).2
 rw [e,h2] at h1
 omega
theorem stL_len {n:Nat} {p:Ptn} (h:PB n p) {i:Nat} (hi:i<p.l.length):(stL p i).length≤n:=by
 have hl:=h.l_ i hi
 unfold stL
 simp
 omega
end Go.Proofs.YtobapaodpcheiaaGreatDoor
