/- What the row stands on, part 20. -/
import Derived.Test.YtobapaodpcheiaaGreatDoorQ19
namespace Go.Proofs.YtobapaodpcheiaaGreatDoor
open Go.RowKit
set_option linter.unusedVariables false
section
variable {P:Program} {ops:Array Oper} {Q:Exit→Act→World→Prop} {S:World→Prop}
theorem hd_list {n:Nat} {t:List Oper} {f:Nat} {listed:Array Bool} {a:Act} {w:World} (is:List Nat) (hr:Region.ready .any ops listed=is) (hne:is≠ []) (hin:is.all (fun i=>decide (i<n))=true)
  (h:∀ i∈is,∃ oi,ops[i]? =some oi∧∀ K':Act→World→Prop,Shut (∀ a w,S w→HdG P ops Q S n t f (listed.setIfInBounds i true) a w→K' a w)→if Region.wanted oi (yielded ops a.tmps)=true then Oper.wp P oi a w K' Q else K' (a.put oi.dst undef) w):HdG P ops Q S n t (f+1) listed a w:=fun inv=>by
 refine⟨by rw [hr];exact hne,fun j hj=>?_⟩
 have hj0:=hj
 rw [hr] at hj
 obtain⟨oi,h1,h2⟩:=h j hj
 have hjn:j<n:=by have:=List.all_eq_true.1 hin j hj;simpa using this
 exact⟨hjn,hd_step h1 h2 (inv.set hj0 hjn)⟩
end
theorem PM.congr {w:World} {base n:Nat} {A:Pa} {vb0 vt0 vb vt:Value} {p:Ptn} {o q b:Nat→Nat} (h:PM w base A vb0 vt0 vb vt n p) (h1:∀ s,s<n→p.o s=o s) (h2:∀ s,s<n→p.q s=q s) (h3:∀ s,s<n→p.b s=b s):PM w base A vb0 vt0 vb vt n ⟨o,q,b,p.l,p.c⟩:=
 ⟨h.kp,h.fo.congr (fun i hi=>by unfold i32F;rw [h1 i hi]),h.fq.congr (fun i hi=>by unfold i32F;rw [h2 i hi]),h.fb.congr (fun i hi=>by unfold i32F;rw [h3 i hi]),h.ol,h.oc,h.oq,h.ob,h.qb,h.to_,h.tq,h.tb,h.lp,h.lo,h.lq,h.lb⟩
def upTo (k:Nat):Nat→Nat:=fun i=>if i<k then i else 0
theorem upTo_succ (k i:Nat):up (upTo k) k k i=upTo (k+1) i:=by
 unfold up upTo
 by_cases e:i=k
 ·subst e;simp
 ·by_cases h:i<k
  ·rw [if_neg e,if_pos h,if_pos (by omega)]
  ·rw [if_neg e,if_neg h,if_neg (by omega)]
def ptn0 (n:Nat):Ptn:=⟨fun i=>i,fun i=>i,fun _=>0,[⟨0,n,0⟩],[]⟩
def WholeR (n:Nat) (w:World) (e:Ending) (w':World):Prop:=∃ A vb vt,e= .returned (.pointer (some ⟨A.p,0,none⟩))∧PM w' w.heap.size A vb vt vb vt n (ptn0 n)∧Below w.heap.size w w'
set_option maxRecDepth 1000000 in
set_option maxHeartbeats 32000000 in
theorem whole_any (n:Nat) (h0:0<n) (hn:n≤1000000) (w:World):Calls Tryz.prog 115 #[.int .i64 (n:Nat)] w (WholeR n w):=by
 have hmk:∀ wx:World,(Instr.makeSlice 158 (.int .i64 (n:Int)) (.int .i64 (n:Int))).run Tryz.prog wx= .ok (.slice (some ⟨wx.heap.size,0,none⟩) n n) (wx.alloc (.cells (madeCells #[.int .i32 0] n) 21)):=fun wx=>by
  have:=make_fn (P:=Tryz.prog) 158 21 _ 1 4 Tryz.underlying158 Tryz.infoM (by omega) (by omega) n hn wx
  rw [Nat.mul_one] at this
  exact this
 have HFN:Hid (∀ wx:World,Fn wx.heap.size 21 n (i32F fun _=>0) (wx.alloc (.cells (madeCells #[.int .i32 0] n) 21))):=Lib.hid (fun wx=>(fn_made wx 21 #[.int .i32 0] n (by decide)).congr (fun i hi=>by simp [i32F,Nat.mod_one]))
 have d1:IntKind.i32.wrap ((n:Nat):Int)=(n:Int):=by rw [IntKind.wrap_i32];omega
 go_enter Tryz.func115,Tryz.ntmps115
 go_upto_region 1 with fail
 obtain⟨wd,hwd⟩:∃ wd,w.drew=wd:=⟨_,rfl⟩
 have HBD:Hid (Below w.heap.size w wd):=Lib.hid (by rw [←hwd];exact(Below.refl _ w).drew)
 have HD:=Lib.hid hwd
 clear hwd
 go_cut [3] from 5 to 16 (fun v3 wx=>∃(A:Pa) (vb:Value),v3= .pointer (some ⟨A.p,0,none⟩)∧PM wx w.heap.size A vb (.slice none 0 0) vb (.slice none 0 0) n ⟨fun _=>0,fun _=>0,fun _=>0,[⟨0,n,0⟩],[]⟩∧Below w.heap.size w wx)
 case first=>
  have hS:(fun _:World=>True) wd:=trivial
  have HFIN:Hid (∀(W:World) (B1 B3 B5 B9:Nat),Fn B1 21 n (i32F fun _=>0) W→Fn B3 21 n (i32F fun _=>0) W→Fn B5 21 n (i32F fun _=>0) W→Blk B9 188 #[.int .i32 0,.int .i32 (n:Nat),.int .i32 0] W→B1≠B3→B1≠B5→B3≠B5→w.heap.size≤B1→w.heap.size≤B3→w.heap.size≤B5→w.heap.size≤B9→Below w.heap.size w W→PM (W.alloc (.cells #[.slice (some ⟨B1,0,none⟩) n n,.slice (some ⟨B3,0,none⟩) n n,.slice (some ⟨B5,0,none⟩) n n,.slice (some ⟨B9,0,none⟩) 1 1,.slice none 0 0] 161)) w.heap.size ⟨W.heap.size,B1,B3,B5⟩ (.slice (some ⟨B9,0,none⟩) 1 1) (.slice none 0 0) (.slice (some ⟨B9,0,none⟩) 1 1) (.slice none 0 0) n ⟨fun _=>0,fun _=>0,fun _=>0,[⟨0,n,0⟩],[]⟩∧Below w.heap.size w (W.alloc (.cells #[.slice (some ⟨B1,0,none⟩) n n,.slice (some ⟨B3,0,none⟩) n n,.slice (some ⟨B5,0,none⟩) n n,.slice (some ⟨B9,0,none⟩) 1 1,.slice none 0 0] 161))):=Lib.hid (fun W B1 B3 B5 B9 f1 f3 f5 f9 e1 e2 e3 l1 l3 l5 l9 hb=>by
   have bA:=(Below.refl W.heap.size W).alloc (Nat.le_refl _) (.cells #[.slice (some ⟨B1,0,none⟩) n n,.slice (some ⟨B3,0,none⟩) n n,.slice (some ⟨B5,0,none⟩) n n,.slice (some ⟨B9,0,none⟩) 1 1,.slice none 0 0] 161)
   refine⟨⟨Blk.new W _ _,f1.below bA,f3.below bA,f5.below bA,?_,own1_nil _ _ _,e1,e2,e3,?_,?_,?_,hb.size,l1,l3,l5⟩,hb.trans (bA.mono hb.size)⟩
   ·exact⟨rfl,.inr ⟨B9,1,#[.int .i32 0,.int .i32 (n:Nat),.int .i32 0],rfl,l9,Blk.below f9 bA,Nat.le_refl _,by decide,rfl,rfl⟩⟩
   ·intro e;cases e
   ·intro e;cases e
   ·intro e;cases e)
  refine region_hd 10 (fun _:World=>True) (by kernel_rfl) (by kernel_rfl) ?_
  rw [HD.out]
  refine hd_taken 0 (some 5) _ ?hdv0 rfl rfl (by kernel_rfl) (fun _ _ _ h=>h) (Or.inl ⟨by rfl,?hdy0⟩) hS ?hdr0
  case hdy0=>(intro wx hx;(try dsimp only at hx);go_simp;try with_reducible rfl)
  try simp only [Act.put,zI,zO,zS]
  refine hd_taken 2 (some 7) _ ?hdv2 rfl rfl (by kernel_rfl) (fun _ _ _ h=>h) (Or.inl ⟨by rfl,?hdy2⟩) hS ?hdr2
  case hdy2=>(intro wx hx;(try dsimp only at hx);go_simp;try with_reducible rfl)
  try simp only [Act.put,zI,zO,zS]
  refine hd_taken 4 (some 9) _ ?hdv4 rfl rfl (by kernel_rfl) (fun _ _ _ h=>h) (Or.inl ⟨by rfl,?hdy4⟩) hS ?hdr4
  case hdy4=>(intro wx hx;(try dsimp only at hx);go_simp;try with_reducible rfl)
  try simp only [Act.put,zI,zO,zS]
  refine hd_taken 6 (some 11) _ ?hdv6 rfl rfl (by kernel_rfl) (fun _ _ _ h=>h) (Or.inl ⟨by rfl,?hdy6⟩) hS ?hdr6
  case hdy6=>(intro wx hx;(try dsimp only at hx);go_simp;try with_reducible rfl)
  try simp only [Act.put,zI,zO,zS]
  refine hd_taken 7 (some 12) _ ?hdv7 rfl rfl (by kernel_rfl) (fun _ _ _ h=>h) (Or.inl ⟨by rfl,?hdy7⟩) hS ?hdr7
  case hdy7=>(intro wx hx;(try dsimp only at hx);go_simp;try with_reducible rfl)
  try simp only [Act.put,zI,zO,zS]
  refine hd_taken 8 (some 13) _ ?hdv8 rfl rfl (by kernel_rfl) (fun _ _ _ h=>h) (Or.inl ⟨by rfl,?hdy8⟩) hS ?hdr8
  case hdy8=>(intro wx hx;(try dsimp only at hx);go_simp;try with_reducible rfl)
  try simp only [Act.put,zI,zO,zS]
  have HB0:=HBD
  refine hd_list [1,3,5,9] (by kernel_rfl) (by decide) (by decide) (fun i hi=>?_)
  simp only [List.mem_cons,List.not_mem_nil,or_false] at hi
  rcases hi with rfl|rfl|rfl|rfl
  ·refine⟨_,rfl,fun K1 hK1=>?_⟩
   go_simp
   obtain⟨w1x,hw1⟩:∃ wx,wd.alloc (.cells (madeCells #[.int .i32 0] n) 21)=wx:=⟨_,rfl⟩
   have b1:=(Below.refl wd.heap.size wd).alloc (Nat.le_refl _) (.cells (madeCells #[.int .i32 0] n) 21)
   have f1:=HFN.out wd
   rw [hw1] at b1 f1 ⊢
   obtain⟨B1,hB1⟩:∃ B,wd.heap.size=B:=⟨_,rfl⟩
   have L1:Hid (w.heap.size≤B1):=Lib.hid (by have:=HB0.out.size;omega)
   have HB1:=Lib.hid (HB0.out.trans (b1.mono HB0.out.size))
   rw [hB1] at f1 ⊢
   have F1:=Lib.hid f1
   clear hw1 b1 f1 hB1
   refine hK1.out _ _ trivial ?_
   clear hK1 K1
   try simp only [Act.put,zI,zO,zS]
   refine hd_list [3,5,9] (by kernel_rfl) (by decide) (by decide) (fun i hi=>?_)
   simp only [List.mem_cons,List.not_mem_nil,or_false] at hi
   rcases hi with rfl|rfl|rfl
   ·refine⟨_,rfl,fun K3 hK3=>?_⟩
    go_simp
    obtain⟨w3x,hw3⟩:∃ wx,w1x.alloc (.cells (madeCells #[.int .i32 0] n) 21)=wx:=⟨_,rfl⟩
    have b3:=(Below.refl w1x.heap.size w1x).alloc (Nat.le_refl _) (.cells (madeCells #[.int .i32 0] n) 21)
    have f3:=HFN.out w1x
    rw [hw3] at b3 f3 ⊢
    obtain⟨B3,hB3⟩:∃ B,w1x.heap.size=B:=⟨_,rfl⟩
    have N13:Hid (B1≠B3):=Lib.hid (by have:=F1.out.lt;omega)
    have L3:Hid (w.heap.size≤B3):=Lib.hid (by have:=HB1.out.size;omega)
    have HB3:=Lib.hid (HB1.out.trans (b3.mono HB1.out.size))
    have F1:=Lib.hid (F1.out.below b3)
    rw [hB3] at f3 ⊢
    have F3:=Lib.hid f3
    clear hw3 b3 f3 hB3
    refine hK3.out _ _ trivial ?_
    clear hK3 K3
    try simp only [Act.put,zI,zO,zS]
    refine hd_list [5,9] (by kernel_rfl) (by decide) (by decide) (fun i hi=>?_)
    simp only [List.mem_cons,List.not_mem_nil,or_false] at hi
    rcases hi with rfl|rfl
    ·refine⟨_,rfl,fun K5 hK5=>?_⟩
     go_simp
     obtain⟨w5x,hw5⟩:∃ wx,w3x.alloc (.cells (madeCells #[.int .i32 0] n) 21)=wx:=⟨_,rfl⟩
     have b5:=(Below.refl w3x.heap.size w3x).alloc (Nat.le_refl _) (.cells (madeCells #[.int .i32 0] n) 21)
     have f5:=HFN.out w3x
     rw [hw5] at b5 f5 ⊢
     obtain⟨B5,hB5⟩:∃ B,w3x.heap.size=B:=⟨_,rfl⟩
     have N15:Hid (B1≠B5):=Lib.hid (by have:=F1.out.lt;omega)
     have N35:Hid (B3≠B5):=Lib.hid (by have:=F3.out.lt;omega)
     have L5:Hid (w.heap.size≤B5):=Lib.hid (by have:=HB3.out.size;omega)
     have HB5:=Lib.hid (HB3.out.trans (b5.mono HB3.out.size))
     have F1:=Lib.hid (F1.out.below b5)
     have F3:=Lib.hid (F3.out.below b5)
     rw [hB5] at f5 ⊢
     have F5:=Lib.hid f5
     clear hw5 b5 f5 hB5
     refine hK5.out _ _ trivial ?_
     clear hK5 K5
     try simp only [Act.put,zI,zO,zS]
     refine hd_list [9] (by kernel_rfl) (by decide) (by decide) (fun i hi=>?_)
     simp only [List.mem_cons,List.not_mem_nil,or_false] at hi
     subst hi
     refine⟨_,rfl,fun K9 hK9=>?_⟩
     go_simp
     obtain⟨w9x,hw9⟩:∃ wx,w5x.alloc (.cells #[.int .i32 0,.int .i32 (n:Nat),.int .i32 0] 188)=wx:=⟨_,rfl⟩
     have b9:=(Below.refl w5x.heap.size w5x).alloc (Nat.le_refl _) (.cells #[.int .i32 0,.int .i32 (n:Nat),.int .i32 0] 188)
     have f9:=Blk.new w5x 188 #[.int .i32 0,.int .i32 (n:Nat),.int .i32 0]
     rw [hw9] at b9 f9 ⊢
     obtain⟨B9,hB9⟩:∃ B,w5x.heap.size=B:=⟨_,rfl⟩
     have L9:Hid (w.heap.size≤B9):=Lib.hid (by have:=HB5.out.size;omega)
     have HB9:=Lib.hid (HB5.out.trans (b9.mono HB5.out.size))
     have F1:=Lib.hid (F1.out.below b9)
     have F3:=Lib.hid (F3.out.below b9)
     have F5:=Lib.hid (F5.out.below b9)
     rw [hB9] at f9 ⊢
     have F9:=Lib.hid f9
     clear hw9 b9 f9 hB9
     refine hK9.out _ _ trivial ?_
     clear hK9 K9
     try simp only [Act.put,zI,zO,zS]
     refine hd_done (by kernel_rfl) ?_
     simp only [List.drop_succ_cons,List.drop_zero]
     have HQ:=Lib.hid (HFIN.out w9x B1 B3 B5 B9 F1.out F3.out F5.out F9.out N13.out N15.out N35.out L1.out L3.out L5.out L9.out HB9.out)
     go_wp2
     go_meet
     exact⟨⟨_,_,_,_⟩,_,rfl,HQ.out.1,HQ.out.2⟩
    ·refine⟨_,rfl,fun K9 hK9=>?_⟩
     go_simp
     obtain⟨w9x,hw9⟩:∃ wx,w3x.alloc (.cells #[.int .i32 0,.int .i32 (n:Nat),.int .i32 0] 188)=wx:=⟨_,rfl⟩
     have b9:=(Below.refl w3x.heap.size w3x).alloc (Nat.le_refl _) (.cells #[.int .i32 0,.int .i32 (n:Nat),.int .i32 0] 188)
     have f9:=Blk.new w3x 188 #[.int .i32 0,.int .i32 (n:Nat),.int .i32 0]
     rw [hw9] at b9 f9 ⊢
     obtain⟨B9,hB9⟩:∃ B,w3x.heap.size=B:=⟨_,rfl⟩
     have L9:Hid (w.heap.size≤B9):=Lib.hid (by have:=HB3.out.size;omega)
     have HB9:=Lib.hid (HB3.out.trans (b9.mono HB3.out.size))
     have F1:=Lib.hid (F1.out.below b9)
     have F3:=Lib.hid (F3.out.below b9)
     rw [hB9] at f9 ⊢
     have F9:=Lib.hid f9
     clear hw9 b9 f9 hB9
     refine hK9.out _ _ trivial ?_
     clear hK9 K9
     try simp only [Act.put,zI,zO,zS]
     refine hd_list [5] (by kernel_rfl) (by decide) (by decide) (fun i hi=>?_)
     simp only [List.mem_cons,List.not_mem_nil,or_false] at hi
     subst hi
     refine⟨_,rfl,fun K5 hK5=>?_⟩
     go_simp
     obtain⟨w5x,hw5⟩:∃ wx,w9x.alloc (.cells (madeCells #[.int .i32 0] n) 21)=wx:=⟨_,rfl⟩
     have b5:=(Below.refl w9x.heap.size w9x).alloc (Nat.le_refl _) (.cells (madeCells #[.int .i32 0] n) 21)
     have f5:=HFN.out w9x
     rw [hw5] at b5 f5 ⊢
     obtain⟨B5,hB5⟩:∃ B,w9x.heap.size=B:=⟨_,rfl⟩
     have N15:Hid (B1≠B5):=Lib.hid (by have:=F1.out.lt;omega)
     have N35:Hid (B3≠B5):=Lib.hid (by have:=F3.out.lt;omega)
     have L5:Hid (w.heap.size≤B5):=Lib.hid (by have:=HB9.out.size;omega)
     have HB5:=Lib.hid (HB9.out.trans (b5.mono HB9.out.size))
     have F1:=Lib.hid (F1.out.below b5)
     have F3:=Lib.hid (F3.out.below b5)
     have F9:=Lib.hid (Blk.below F9.out b5)
     rw [hB5] at f5 ⊢
     have F5:=Lib.hid f5
     clear hw5 b5 f5 hB5
     refine hK5.out _ _ trivial ?_
     clear hK5 K5
     try simp only [Act.put,zI,zO,zS]
     refine hd_done (by kernel_rfl) ?_
     simp only [List.drop_succ_cons,List.drop_zero]
     have HQ:=Lib.hid (HFIN.out w5x B1 B3 B5 B9 F1.out F3.out F5.out F9.out N13.out N15.out N35.out L1.out L3.out L5.out L9.out HB5.out)
     go_wp2
     go_meet
     exact⟨⟨_,_,_,_⟩,_,rfl,HQ.out.1,HQ.out.2⟩
   ·refine⟨_,rfl,fun K5 hK5=>?_⟩
    go_simp
    obtain⟨w5x,hw5⟩:∃ wx,w1x.alloc (.cells (madeCells #[.int .i32 0] n) 21)=wx:=⟨_,rfl⟩
    have b5:=(Below.refl w1x.heap.size w1x).alloc (Nat.le_refl _) (.cells (madeCells #[.int .i32 0] n) 21)
    have f5:=HFN.out w1x
    rw [hw5] at b5 f5 ⊢
    obtain⟨B5,hB5⟩:∃ B,w1x.heap.size=B:=⟨_,rfl⟩
    have N15:Hid (B1≠B5):=Lib.hid (by have:=F1.out.lt;omega)
    have L5:Hid (w.heap.size≤B5):=Lib.hid (by have:=HB1.out.size;omega)
    have HB5:=Lib.hid (HB1.out.trans (b5.mono HB1.out.size))
    have F1:=Lib.hid (F1.out.below b5)
    rw [hB5] at f5 ⊢
    have F5:=Lib.hid f5
    clear hw5 b5 f5 hB5
    refine hK5.out _ _ trivial ?_
    clear hK5 K5
    try simp only [Act.put,zI,zO,zS]
    refine hd_list [3,9] (by kernel_rfl) (by decide) (by decide) (fun i hi=>?_)
    simp only [List.mem_cons,List.not_mem_nil,or_false] at hi
    rcases hi with rfl|rfl
    ·refine⟨_,rfl,fun K3 hK3=>?_⟩
     go_simp
     obtain⟨w3x,hw3⟩:∃ wx,w5x.alloc (.cells (madeCells #[.int .i32 0] n) 21)=wx:=⟨_,rfl⟩
     have b3:=(Below.refl w5x.heap.size w5x).alloc (Nat.le_refl _) (.cells (madeCells #[.int .i32 0] n) 21)
     have f3:=HFN.out w5x
     rw [hw3] at b3 f3 ⊢
     obtain⟨B3,hB3⟩:∃ B,w5x.heap.size=B:=⟨_,rfl⟩
     have N13:Hid (B1≠B3):=Lib.hid (by have:=F1.out.lt;omega)
     have N35:Hid (B3≠B5):=Lib.hid (by have:=F5.out.lt;omega)
     have L3:Hid (w.heap.size≤B3):=Lib.hid (by have:=HB5.out.size;omega)
     have HB3:=Lib.hid (HB5.out.trans (b3.mono HB5.out.size))
     have F1:=Lib.hid (F1.out.below b3)
     have F5:=Lib.hid (F5.out.below b3)
     rw [hB3] at f3 ⊢
     have F3:=Lib.hid f3
     clear hw3 b3 f3 hB3
     refine hK3.out _ _ trivial ?_
     clear hK3 K3
     try simp only [Act.put,zI,zO,zS]
     refine hd_list [9] (by kernel_rfl) (by decide) (by decide) (fun i hi=>?_)
     simp only [List.mem_cons,List.not_mem_nil,or_false] at hi
     subst hi
     refine⟨_,rfl,fun K9 hK9=>?_⟩
     go_simp
     obtain⟨w9x,hw9⟩:∃ wx,w3x.alloc (.cells #[.int .i32 0,.int .i32 (n:Nat),.int .i32 0] 188)=wx:=⟨_,rfl⟩
     have b9:=(Below.refl w3x.heap.size w3x).alloc (Nat.le_refl _) (.cells #[.int .i32 0,.int .i32 (n:Nat),.int .i32 0] 188)
     have f9:=Blk.new w3x 188 #[.int .i32 0,.int .i32 (n:Nat),.int .i32 0]
     rw [hw9] at b9 f9 ⊢
     obtain⟨B9,hB9⟩:∃ B,w3x.heap.size=B:=⟨_,rfl⟩
     have L9:Hid (w.heap.size≤B9):=Lib.hid (by have:=HB3.out.size;omega)
     have HB9:=Lib.hid (HB3.out.trans (b9.mono HB3.out.size))
     have F1:=Lib.hid (F1.out.below b9)
     have F5:=Lib.hid (F5.out.below b9)
     have F3:=Lib.hid (F3.out.below b9)
     rw [hB9] at f9 ⊢
     have F9:=Lib.hid f9
     clear hw9 b9 f9 hB9
     refine hK9.out _ _ trivial ?_
     clear hK9 K9
     try simp only [Act.put,zI,zO,zS]
     refine hd_done (by kernel_rfl) ?_
     simp only [List.drop_succ_cons,List.drop_zero]
     have HQ:=Lib.hid (HFIN.out w9x B1 B3 B5 B9 F1.out F3.out F5.out F9.out N13.out N15.out N35.out L1.out L3.out L5.out L9.out HB9.out)
     go_wp2
     go_meet
     exact⟨⟨_,_,_,_⟩,_,rfl,HQ.out.1,HQ.out.2⟩
    ·refine⟨_,rfl,fun K9 hK9=>?_⟩
     go_simp
     obtain⟨w9x,hw9⟩:∃ wx,w5x.alloc (.cells #[.int .i32 0,.int .i32 (n:Nat),.int .i32 0] 188)=wx:=⟨_,rfl⟩
     have b9:=(Below.refl w5x.heap.size w5x).alloc (Nat.le_refl _) (.cells #[.int .i32 0,.int .i32 (n:Nat),.int .i32 0] 188)
     have f9:=Blk.new w5x 188 #[.int .i32 0,.int .i32 (n:Nat),.int .i32 0]
     rw [hw9] at b9 f9 ⊢
     obtain⟨B9,hB9⟩:∃ B,w5x.heap.size=B:=⟨_,rfl⟩
     have L9:Hid (w.heap.size≤B9):=Lib.hid (by have:=HB5.out.size;omega)
     have HB9:=Lib.hid (HB5.out.trans (b9.mono HB5.out.size))
     have F1:=Lib.hid (F1.out.below b9)
     have F5:=Lib.hid (F5.out.below b9)
     rw [hB9] at f9 ⊢
     have F9:=Lib.hid f9
     clear hw9 b9 f9 hB9
     refine hK9.out _ _ trivial ?_
     clear hK9 K9
     try simp only [Act.put,zI,zO,zS]
     refine hd_list [3] (by kernel_rfl) (by decide) (by decide) (fun i hi=>?_)
     simp only [List.mem_cons,List.not_mem_nil,or_false] at hi
     subst hi
     refine⟨_,rfl,fun K3 hK3=>?_⟩
     go_simp
     obtain⟨w3x,hw3⟩:∃ wx,w9x.alloc (.cells (madeCells #[.int .i32 0] n) 21)=wx:=⟨_,rfl⟩
     have b3:=(Below.refl w9x.heap.size w9x).alloc (Nat.le_refl _) (.cells (madeCells #[.int .i32 0] n) 21)
     have f3:=HFN.out w9x
     rw [hw3] at b3 f3 ⊢
     obtain⟨B3,hB3⟩:∃ B,w9x.heap.size=B:=⟨_,rfl⟩
     have N13:Hid (B1≠B3):=Lib.hid (by have:=F1.out.lt;omega)
     have N35:Hid (B3≠B5):=Lib.hid (by have:=F5.out.lt;omega)
     have L3:Hid (w.heap.size≤B3):=Lib.hid (by have:=HB9.out.size;omega)
     have HB3:=Lib.hid (HB9.out.trans (b3.mono HB9.out.size))
     have F1:=Lib.hid (F1.out.below b3)
     have F5:=Lib.hid (F5.out.below b3)
     have F9:=Lib.hid (Blk.below F9.out b3)
     rw [hB3] at f3 ⊢
     have F3:=Lib.hid f3
     clear hw3 b3 f3 hB3
     refine hK3.out _ _ trivial ?_
     clear hK3 K3
     try simp only [Act.put,zI,zO,zS]
     refine hd_done (by kernel_rfl) ?_
     simp only [List.drop_succ_cons,List.drop_zero]
     have HQ:=Lib.hid (HFIN.out w3x B1 B3 B5 B9 F1.out F3.out F5.out F9.out N13.out N15.out N35.out L1.out L3.out L5.out L9.out HB3.out)
     go_wp2
     go_meet
     exact⟨⟨_,_,_,_⟩,_,rfl,HQ.out.1,HQ.out.2⟩
   ·refine⟨_,rfl,fun K9 hK9=>?_⟩
    go_simp
    obtain⟨w9x,hw9⟩:∃ wx,w1x.alloc (.cells #[.int .i32 0,.int .i32 (n:Nat),.int .i32 0] 188)=wx:=⟨_,rfl⟩
    have b9:=(Below.refl w1x.heap.size w1x).alloc (Nat.le_refl _) (.cells #[.int .i32 0,.int .i32 (n:Nat),.int .i32 0] 188)
    have f9:=Blk.new w1x 188 #[.int .i32 0,.int .i32 (n:Nat),.int .i32 0]
    rw [hw9] at b9 f9 ⊢
    obtain⟨B9,hB9⟩:∃ B,w1x.heap.size=B:=⟨_,rfl⟩
    have L9:Hid (w.heap.size≤B9):=Lib.hid (by have:=HB1.out.size;omega)
    have HB9:=Lib.hid (HB1.out.trans (b9.mono HB1.out.size))
    have F1:=Lib.hid (F1.out.below b9)
    rw [hB9] at f9 ⊢
    have F9:=Lib.hid f9
    clear hw9 b9 f9 hB9
    refine hK9.out _ _ trivial ?_
    clear hK9 K9
    try simp only [Act.put,zI,zO,zS]
    refine hd_list [3,5] (by kernel_rfl) (by decide) (by decide) (fun i hi=>?_)
    simp only [List.mem_cons,List.not_mem_nil,or_false] at hi
    rcases hi with rfl|rfl
    ·refine⟨_,rfl,fun K3 hK3=>?_⟩
     go_simp
     obtain⟨w3x,hw3⟩:∃ wx,w9x.alloc (.cells (madeCells #[.int .i32 0] n) 21)=wx:=⟨_,rfl⟩
     have b3:=(Below.refl w9x.heap.size w9x).alloc (Nat.le_refl _) (.cells (madeCells #[.int .i32 0] n) 21)
     have f3:=HFN.out w9x
     rw [hw3] at b3 f3 ⊢
     obtain⟨B3,hB3⟩:∃ B,w9x.heap.size=B:=⟨_,rfl⟩
     have N13:Hid (B1≠B3):=Lib.hid (by have:=F1.out.lt;omega)
     have L3:Hid (w.heap.size≤B3):=Lib.hid (by have:=HB9.out.size;omega)
     have HB3:=Lib.hid (HB9.out.trans (b3.mono HB9.out.size))
     have F1:=Lib.hid (F1.out.below b3)
     have F9:=Lib.hid (Blk.below F9.out b3)
     rw [hB3] at f3 ⊢
     have F3:=Lib.hid f3
     clear hw3 b3 f3 hB3
     refine hK3.out _ _ trivial ?_
     clear hK3 K3
     try simp only [Act.put,zI,zO,zS]
     refine hd_list [5] (by kernel_rfl) (by decide) (by decide) (fun i hi=>?_)
     simp only [List.mem_cons,List.not_mem_nil,or_false] at hi
     subst hi
     refine⟨_,rfl,fun K5 hK5=>?_⟩
     go_simp
     obtain⟨w5x,hw5⟩:∃ wx,w3x.alloc (.cells (madeCells #[.int .i32 0] n) 21)=wx:=⟨_,rfl⟩
     have b5:=(Below.refl w3x.heap.size w3x).alloc (Nat.le_refl _) (.cells (madeCells #[.int .i32 0] n) 21)
     have f5:=HFN.out w3x
     rw [hw5] at b5 f5 ⊢
     obtain⟨B5,hB5⟩:∃ B,w3x.heap.size=B:=⟨_,rfl⟩
     have N15:Hid (B1≠B5):=Lib.hid (by have:=F1.out.lt;omega)
     have N35:Hid (B3≠B5):=Lib.hid (by have:=F3.out.lt;omega)
     have L5:Hid (w.heap.size≤B5):=Lib.hid (by have:=HB3.out.size;omega)
     have HB5:=Lib.hid (HB3.out.trans (b5.mono HB3.out.size))
     have F1:=Lib.hid (F1.out.below b5)
     have F9:=Lib.hid (Blk.below F9.out b5)
     have F3:=Lib.hid (F3.out.below b5)
     rw [hB5] at f5 ⊢
     have F5:=Lib.hid f5
     clear hw5 b5 f5 hB5
     refine hK5.out _ _ trivial ?_
     clear hK5 K5
     try simp only [Act.put,zI,zO,zS]
     refine hd_done (by kernel_rfl) ?_
     simp only [List.drop_succ_cons,List.drop_zero]
     have HQ:=Lib.hid (HFIN.out w5x B1 B3 B5 B9 F1.out F3.out F5.out F9.out N13.out N15.out N35.out L1.out L3.out L5.out L9.out HB5.out)
     go_wp2
     go_meet
     exact⟨⟨_,_,_,_⟩,_,rfl,HQ.out.1,HQ.out.2⟩
    ·refine⟨_,rfl,fun K5 hK5=>?_⟩
     go_simp
     obtain⟨w5x,hw5⟩:∃ wx,w9x.alloc (.cells (madeCells #[.int .i32 0] n) 21)=wx:=⟨_,rfl⟩
     have b5:=(Below.refl w9x.heap.size w9x).alloc (Nat.le_refl _) (.cells (madeCells #[.int .i32 0] n) 21)
     have f5:=HFN.out w9x
     rw [hw5] at b5 f5 ⊢
     obtain⟨B5,hB5⟩:∃ B,w9x.heap.size=B:=⟨_,rfl⟩
     have N15:Hid (B1≠B5):=Lib.hid (by have:=F1.out.lt;omega)
     have L5:Hid (w.heap.size≤B5):=Lib.hid (by have:=HB9.out.size;omega)
     have HB5:=Lib.hid (HB9.out.trans (b5.mono HB9.out.size))
     have F1:=Lib.hid (F1.out.below b5)
     have F9:=Lib.hid (Blk.below F9.out b5)
     rw [hB5] at f5 ⊢
     have F5:=Lib.hid f5
     clear hw5 b5 f5 hB5
     refine hK5.out _ _ trivial ?_
     clear hK5 K5
     try simp only [Act.put,zI,zO,zS]
     refine hd_list [3] (by kernel_rfl) (by decide) (by decide) (fun i hi=>?_)
     simp only [List.mem_cons,List.not_mem_nil,or_false] at hi
     subst hi
     refine⟨_,rfl,fun K3 hK3=>?_⟩
     go_simp
     obtain⟨w3x,hw3⟩:∃ wx,w5x.alloc (.cells (madeCells #[.int .i32 0] n) 21)=wx:=⟨_,rfl⟩
     have b3:=(Below.refl w5x.heap.size w5x).alloc (Nat.le_refl _) (.cells (madeCells #[.int .i32 0] n) 21)
     have f3:=HFN.out w5x
     rw [hw3] at b3 f3 ⊢
     obtain⟨B3,hB3⟩:∃ B,w5x.heap.size=B:=⟨_,rfl⟩
     have N13:Hid (B1≠B3):=Lib.hid (by have:=F1.out.lt;omega)
     have N35:Hid (B3≠B5):=Lib.hid (by have:=F5.out.lt;omega)
     have L3:Hid (w.heap.size≤B3):=Lib.hid (by have:=HB5.out.size;omega)
     have HB3:=Lib.hid (HB5.out.trans (b3.mono HB5.out.size))
     have F1:=Lib.hid (F1.out.below b3)
     have F9:=Lib.hid (Blk.below F9.out b3)
     have F5:=Lib.hid (F5.out.below b3)
     rw [hB3] at f3 ⊢
     have F3:=Lib.hid f3
     clear hw3 b3 f3 hB3
     refine hK3.out _ _ trivial ?_
     clear hK3 K3
     try simp only [Act.put,zI,zO,zS]
     refine hd_done (by kernel_rfl) ?_
     simp only [List.drop_succ_cons,List.drop_zero]
     have HQ:=Lib.hid (HFIN.out w3x B1 B3 B5 B9 F1.out F3.out F5.out F9.out N13.out N15.out N35.out L1.out L3.out L5.out L9.out HB3.out)
     go_wp2
     go_meet
     exact⟨⟨_,_,_,_⟩,_,rfl,HQ.out.1,HQ.out.2⟩
  ·refine⟨_,rfl,fun K3 hK3=>?_⟩
   go_simp
   obtain⟨w3x,hw3⟩:∃ wx,wd.alloc (.cells (madeCells #[.int .i32 0] n) 21)=wx:=⟨_,rfl⟩
   have b3:=(Below.refl wd.heap.size wd).alloc (Nat.le_refl _) (.cells (madeCells #[.int .i32 0] n) 21)
   have f3:=HFN.out wd
   rw [hw3] at b3 f3 ⊢
   obtain⟨B3,hB3⟩:∃ B,wd.heap.size=B:=⟨_,rfl⟩
   have L3:Hid (w.heap.size≤B3):=Lib.hid (by have:=HB0.out.size;omega)
   have HB3:=Lib.hid (HB0.out.trans (b3.mono HB0.out.size))
   rw [hB3] at f3 ⊢
   have F3:=Lib.hid f3
   clear hw3 b3 f3 hB3
   refine hK3.out _ _ trivial ?_
   clear hK3 K3
   try simp only [Act.put,zI,zO,zS]
   refine hd_list [1,5,9] (by kernel_rfl) (by decide) (by decide) (fun i hi=>?_)
   simp only [List.mem_cons,List.not_mem_nil,or_false] at hi
   rcases hi with rfl|rfl|rfl
   ·refine⟨_,rfl,fun K1 hK1=>?_⟩
    go_simp
    obtain⟨w1x,hw1⟩:∃ wx,w3x.alloc (.cells (madeCells #[.int .i32 0] n) 21)=wx:=⟨_,rfl⟩
    have b1:=(Below.refl w3x.heap.size w3x).alloc (Nat.le_refl _) (.cells (madeCells #[.int .i32 0] n) 21)
    have f1:=HFN.out w3x
    rw [hw1] at b1 f1 ⊢
    obtain⟨B1,hB1⟩:∃ B,w3x.heap.size=B:=⟨_,rfl⟩
    have N13:Hid (B1≠B3):=Lib.hid (by have:=F3.out.lt;omega)
    have L1:Hid (w.heap.size≤B1):=Lib.hid (by have:=HB3.out.size;omega)
    have HB1:=Lib.hid (HB3.out.trans (b1.mono HB3.out.size))
    have F3:=Lib.hid (F3.out.below b1)
    rw [hB1] at f1 ⊢
    have F1:=Lib.hid f1
    clear hw1 b1 f1 hB1
    refine hK1.out _ _ trivial ?_
    clear hK1 K1
    try simp only [Act.put,zI,zO,zS]
    refine hd_list [5,9] (by kernel_rfl) (by decide) (by decide) (fun i hi=>?_)
    simp only [List.mem_cons,List.not_mem_nil,or_false] at hi
    rcases hi with rfl|rfl
    ·refine⟨_,rfl,fun K5 hK5=>?_⟩
     go_simp
     obtain⟨w5x,hw5⟩:∃ wx,w1x.alloc (.cells (madeCells #[.int .i32 0] n) 21)=wx:=⟨_,rfl⟩
     have b5:=(Below.refl w1x.heap.size w1x).alloc (Nat.le_refl _) (.cells (madeCells #[.int .i32 0] n) 21)
     have f5:=HFN.out w1x
     rw [hw5] at b5 f5 ⊢
     obtain⟨B5,hB5⟩:∃ B,w1x.heap.size=B:=⟨_,rfl⟩
     have N35:Hid (B3≠B5):=Lib.hid (by have:=F3.out.lt;omega)
     have N15:Hid (B1≠B5):=Lib.hid (by have:=F1.out.lt;omega)
     have L5:Hid (w.heap.size≤B5):=Lib.hid (by have:=HB1.out.size;omega)
     have HB5:=Lib.hid (HB1.out.trans (b5.mono HB1.out.size))
     have F3:=Lib.hid (F3.out.below b5)
     have F1:=Lib.hid (F1.out.below b5)
     rw [hB5] at f5 ⊢
     have F5:=Lib.hid f5
     clear hw5 b5 f5 hB5
     refine hK5.out _ _ trivial ?_
     clear hK5 K5
     try simp only [Act.put,zI,zO,zS]
     refine hd_list [9] (by kernel_rfl) (by decide) (by decide) (fun i hi=>?_)
     simp only [List.mem_cons,List.not_mem_nil,or_false] at hi
     subst hi
     refine⟨_,rfl,fun K9 hK9=>?_⟩
     go_simp
     obtain⟨w9x,hw9⟩:∃ wx,w5x.alloc (.cells #[.int .i32 0,.int .i32 (n:Nat),.int .i32 0] 188)=wx:=⟨_,rfl⟩
     have b9:=(Below.refl w5x.heap.size w5x).alloc (Nat.le_refl _) (.cells #[.int .i32 0,.int .i32 (n:Nat),.int .i32 0] 188)
     have f9:=Blk.new w5x 188 #[.int .i32 0,.int .i32 (n:Nat),.int .i32 0]
     rw [hw9] at b9 f9 ⊢
     obtain⟨B9,hB9⟩:∃ B,w5x.heap.size=B:=⟨_,rfl⟩
     have L9:Hid (w.heap.size≤B9):=Lib.hid (by have:=HB5.out.size;omega)
     have HB9:=Lib.hid (HB5.out.trans (b9.mono HB5.out.size))
     have F3:=Lib.hid (F3.out.below b9)
     have F1:=Lib.hid (F1.out.below b9)
     have F5:=Lib.hid (F5.out.below b9)
     rw [hB9] at f9 ⊢
     have F9:=Lib.hid f9
     clear hw9 b9 f9 hB9
     refine hK9.out _ _ trivial ?_
     clear hK9 K9
     try simp only [Act.put,zI,zO,zS]
     refine hd_done (by kernel_rfl) ?_
     simp only [List.drop_succ_cons,List.drop_zero]
     have HQ:=Lib.hid (HFIN.out w9x B1 B3 B5 B9 F1.out F3.out F5.out F9.out N13.out N15.out N35.out L1.out L3.out L5.out L9.out HB9.out)
     go_wp2
     go_meet
     exact⟨⟨_,_,_,_⟩,_,rfl,HQ.out.1,HQ.out.2⟩
    ·refine⟨_,rfl,fun K9 hK9=>?_⟩
     go_simp
     obtain⟨w9x,hw9⟩:∃ wx,w1x.alloc (.cells #[.int .i32 0,.int .i32 (n:Nat),.int .i32 0] 188)=wx:=⟨_,rfl⟩
     have b9:=(Below.refl w1x.heap.size w1x).alloc (Nat.le_refl _) (.cells #[.int .i32 0,.int .i32 (n:Nat),.int .i32 0] 188)
     have f9:=Blk.new w1x 188 #[.int .i32 0,.int .i32 (n:Nat),.int .i32 0]
     rw [hw9] at b9 f9 ⊢
     obtain⟨B9,hB9⟩:∃ B,w1x.heap.size=B:=⟨_,rfl⟩
     have L9:Hid (w.heap.size≤B9):=Lib.hid (by have:=HB1.out.size;omega)
     have HB9:=Lib.hid (HB1.out.trans (b9.mono HB1.out.size))
     have F3:=Lib.hid (F3.out.below b9)
     have F1:=Lib.hid (F1.out.below b9)
     rw [hB9] at f9 ⊢
     have F9:=Lib.hid f9
     clear hw9 b9 f9 hB9
     refine hK9.out _ _ trivial ?_
     clear hK9 K9
     try simp only [Act.put,zI,zO,zS]
     refine hd_list [5] (by kernel_rfl) (by decide) (by decide) (fun i hi=>?_)
     simp only [List.mem_cons,List.not_mem_nil,or_false] at hi
     subst hi
     refine⟨_,rfl,fun K5 hK5=>?_⟩
     go_simp
     obtain⟨w5x,hw5⟩:∃ wx,w9x.alloc (.cells (madeCells #[.int .i32 0] n) 21)=wx:=⟨_,rfl⟩
     have b5:=(Below.refl w9x.heap.size w9x).alloc (Nat.le_refl _) (.cells (madeCells #[.int .i32 0] n) 21)
     have f5:=HFN.out w9x
     rw [hw5] at b5 f5 ⊢
     obtain⟨B5,hB5⟩:∃ B,w9x.heap.size=B:=⟨_,rfl⟩
     have N35:Hid (B3≠B5):=Lib.hid (by have:=F3.out.lt;omega)
     have N15:Hid (B1≠B5):=Lib.hid (by have:=F1.out.lt;omega)
     have L5:Hid (w.heap.size≤B5):=Lib.hid (by have:=HB9.out.size;omega)
     have HB5:=Lib.hid (HB9.out.trans (b5.mono HB9.out.size))
     have F3:=Lib.hid (F3.out.below b5)
     have F1:=Lib.hid (F1.out.below b5)
     have F9:=Lib.hid (Blk.below F9.out b5)
     rw [hB5] at f5 ⊢
     have F5:=Lib.hid f5
     clear hw5 b5 f5 hB5
     refine hK5.out _ _ trivial ?_
     clear hK5 K5
     try simp only [Act.put,zI,zO,zS]
     refine hd_done (by kernel_rfl) ?_
     simp only [List.drop_succ_cons,List.drop_zero]
     have HQ:=Lib.hid (HFIN.out w5x B1 B3 B5 B9 F1.out F3.out F5.out F9.out N13.out N15.out N35.out L1.out L3.out L5.out L9.out HB5.out)
     go_wp2
     go_meet
     exact⟨⟨_,_,_,_⟩,_,rfl,HQ.out.1,HQ.out.2⟩
   ·refine⟨_,rfl,fun K5 hK5=>?_⟩
    go_simp
    obtain⟨w5x,hw5⟩:∃ wx,w3x.alloc (.cells (madeCells #[.int .i32 0] n) 21)=wx:=⟨_,rfl⟩
    have b5:=(Below.refl w3x.heap.size w3x).alloc (Nat.le_refl _) (.cells (madeCells #[.int .i32 0] n) 21)
    have f5:=HFN.out w3x
    rw [hw5] at b5 f5 ⊢
    obtain⟨B5,hB5⟩:∃ B,w3x.heap.size=B:=⟨_,rfl⟩
    have N35:Hid (B3≠B5):=Lib.hid (by have:=F3.out.lt;omega)
    have L5:Hid (w.heap.size≤B5):=Lib.hid (by have:=HB3.out.size;omega)
    have HB5:=Lib.hid (HB3.out.trans (b5.mono HB3.out.size))
    have F3:=Lib.hid (F3.out.below b5)
    rw [hB5] at f5 ⊢
    have F5:=Lib.hid f5
    clear hw5 b5 f5 hB5
    refine hK5.out _ _ trivial ?_
    clear hK5 K5
    try simp only [Act.put,zI,zO,zS]
    refine hd_list [1,9] (by kernel_rfl) (by decide) (by decide) (fun i hi=>?_)
    simp only [List.mem_cons,List.not_mem_nil,or_false] at hi
    rcases hi with rfl|rfl
    ·refine⟨_,rfl,fun K1 hK1=>?_⟩
     go_simp
     obtain⟨w1x,hw1⟩:∃ wx,w5x.alloc (.cells (madeCells #[.int .i32 0] n) 21)=wx:=⟨_,rfl⟩
     have b1:=(Below.refl w5x.heap.size w5x).alloc (Nat.le_refl _) (.cells (madeCells #[.int .i32 0] n) 21)
     have f1:=HFN.out w5x
     rw [hw1] at b1 f1 ⊢
     obtain⟨B1,hB1⟩:∃ B,w5x.heap.size=B:=⟨_,rfl⟩
     have N13:Hid (B1≠B3):=Lib.hid (by have:=F3.out.lt;omega)
     have N15:Hid (B1≠B5):=Lib.hid (by have:=F5.out.lt;omega)
     have L1:Hid (w.heap.size≤B1):=Lib.hid (by have:=HB5.out.size;omega)
     have HB1:=Lib.hid (HB5.out.trans (b1.mono HB5.out.size))
     have F3:=Lib.hid (F3.out.below b1)
     have F5:=Lib.hid (F5.out.below b1)
     rw [hB1] at f1 ⊢
     have F1:=Lib.hid f1
     clear hw1 b1 f1 hB1
     refine hK1.out _ _ trivial ?_
     clear hK1 K1
     try simp only [Act.put,zI,zO,zS]
     refine hd_list [9] (by kernel_rfl) (by decide) (by decide) (fun i hi=>?_)
     simp only [List.mem_cons,List.not_mem_nil,or_false] at hi
     subst hi
     refine⟨_,rfl,fun K9 hK9=>?_⟩
     go_simp
     obtain⟨w9x,hw9⟩:∃ wx,w1x.alloc (.cells #[.int .i32 0,.int .i32 (n:Nat),.int .i32 0] 188)=wx:=⟨_,rfl⟩
     have b9:=(Below.refl w1x.heap.size w1x).alloc (Nat.le_refl _) (.cells #[.int .i32 0,.int .i32 (n:Nat),.int .i32 0] 188)
     have f9:=Blk.new w1x 188 #[.int .i32 0,.int .i32 (n:Nat),.int .i32 0]
     rw [hw9] at b9 f9 ⊢
     obtain⟨B9,hB9⟩:∃ B,w1x.heap.size=B:=⟨_,rfl⟩
     have L9:Hid (w.heap.size≤B9):=Lib.hid (by have:=HB1.out.size;omega)
     have HB9:=Lib.hid (HB1.out.trans (b9.mono HB1.out.size))
     have F3:=Lib.hid (F3.out.below b9)
     have F5:=Lib.hid (F5.out.below b9)
     have F1:=Lib.hid (F1.out.below b9)
     rw [hB9] at f9 ⊢
     have F9:=Lib.hid f9
     clear hw9 b9 f9 hB9
     refine hK9.out _ _ trivial ?_
     clear hK9 K9
     try simp only [Act.put,zI,zO,zS]
     refine hd_done (by kernel_rfl) ?_
     simp only [List.drop_succ_cons,List.drop_zero]
     have HQ:=Lib.hid (HFIN.out w9x B1 B3 B5 B9 F1.out F3.out F5.out F9.out N13.out N15.out N35.out L1.out L3.out L5.out L9.out HB9.out)
     go_wp2
     go_meet
     exact⟨⟨_,_,_,_⟩,_,rfl,HQ.out.1,HQ.out.2⟩
    ·refine⟨_,rfl,fun K9 hK9=>?_⟩
     go_simp
     obtain⟨w9x,hw9⟩:∃ wx,w5x.alloc (.cells #[.int .i32 0,.int .i32 (n:Nat),.int .i32 0] 188)=wx:=⟨_,rfl⟩
     have b9:=(Below.refl w5x.heap.size w5x).alloc (Nat.le_refl _) (.cells #[.int .i32 0,.int .i32 (n:Nat),.int .i32 0] 188)
     have f9:=Blk.new w5x 188 #[.int .i32 0,.int .i32 (n:Nat),.int .i32 0]
     rw [hw9] at b9 f9 ⊢
     obtain⟨B9,hB9⟩:∃ B,w5x.heap.size=B:=⟨_,rfl⟩
     have L9:Hid (w.heap.size≤B9):=Lib.hid (by have:=HB5.out.size;omega)
     have HB9:=Lib.hid (HB5.out.trans (b9.mono HB5.out.size))
     have F3:=Lib.hid (F3.out.below b9)
     have F5:=Lib.hid (F5.out.below b9)
     rw [hB9] at f9 ⊢
     have F9:=Lib.hid f9
     clear hw9 b9 f9 hB9
     refine hK9.out _ _ trivial ?_
     clear hK9 K9
     try simp only [Act.put,zI,zO,zS]
     refine hd_list [1] (by kernel_rfl) (by decide) (by decide) (fun i hi=>?_)
     simp only [List.mem_cons,List.not_mem_nil,or_false] at hi
     subst hi
     refine⟨_,rfl,fun K1 hK1=>?_⟩
     go_simp
     obtain⟨w1x,hw1⟩:∃ wx,w9x.alloc (.cells (madeCells #[.int .i32 0] n) 21)=wx:=⟨_,rfl⟩
     have b1:=(Below.refl w9x.heap.size w9x).alloc (Nat.le_refl _) (.cells (madeCells #[.int .i32 0] n) 21)
     have f1:=HFN.out w9x
     rw [hw1] at b1 f1 ⊢
     obtain⟨B1,hB1⟩:∃ B,w9x.heap.size=B:=⟨_,rfl⟩
     have N13:Hid (B1≠B3):=Lib.hid (by have:=F3.out.lt;omega)
     have N15:Hid (B1≠B5):=Lib.hid (by have:=F5.out.lt;omega)
     have L1:Hid (w.heap.size≤B1):=Lib.hid (by have:=HB9.out.size;omega)
     have HB1:=Lib.hid (HB9.out.trans (b1.mono HB9.out.size))
     have F3:=Lib.hid (F3.out.below b1)
     have F5:=Lib.hid (F5.out.below b1)
     have F9:=Lib.hid (Blk.below F9.out b1)
     rw [hB1] at f1 ⊢
     have F1:=Lib.hid f1
     clear hw1 b1 f1 hB1
     refine hK1.out _ _ trivial ?_
     clear hK1 K1
     try simp only [Act.put,zI,zO,zS]
     refine hd_done (by kernel_rfl) ?_
     simp only [List.drop_succ_cons,List.drop_zero]
     have HQ:=Lib.hid (HFIN.out w1x B1 B3 B5 B9 F1.out F3.out F5.out F9.out N13.out N15.out N35.out L1.out L3.out L5.out L9.out HB1.out)
     go_wp2
     go_meet
     exact⟨⟨_,_,_,_⟩,_,rfl,HQ.out.1,HQ.out.2⟩
   ·refine⟨_,rfl,fun K9 hK9=>?_⟩
    go_simp
    obtain⟨w9x,hw9⟩:∃ wx,w3x.alloc (.cells #[.int .i32 0,.int .i32 (n:Nat),.int .i32 0] 188)=wx:=⟨_,rfl⟩
    have b9:=(Below.refl w3x.heap.size w3x).alloc (Nat.le_refl _) (.cells #[.int .i32 0,.int .i32 (n:Nat),.int .i32 0] 188)
    have f9:=Blk.new w3x 188 #[.int .i32 0,.int .i32 (n:Nat),.int .i32 0]
    rw [hw9] at b9 f9 ⊢
    obtain⟨B9,hB9⟩:∃ B,w3x.heap.size=B:=⟨_,rfl⟩
    have L9:Hid (w.heap.size≤B9):=Lib.hid (by have:=HB3.out.size;omega)
    have HB9:=Lib.hid (HB3.out.trans (b9.mono HB3.out.size))
    have F3:=Lib.hid (F3.out.below b9)
    rw [hB9] at f9 ⊢
    have F9:=Lib.hid f9
    clear hw9 b9 f9 hB9
    refine hK9.out _ _ trivial ?_
    clear hK9 K9
    try simp only [Act.put,zI,zO,zS]
    refine hd_list [1,5] (by kernel_rfl) (by decide) (by decide) (fun i hi=>?_)
    simp only [List.mem_cons,List.not_mem_nil,or_false] at hi
    rcases hi with rfl|rfl
    ·refine⟨_,rfl,fun K1 hK1=>?_⟩
     go_simp
     obtain⟨w1x,hw1⟩:∃ wx,w9x.alloc (.cells (madeCells #[.int .i32 0] n) 21)=wx:=⟨_,rfl⟩
     have b1:=(Below.refl w9x.heap.size w9x).alloc (Nat.le_refl _) (.cells (madeCells #[.int .i32 0] n) 21)
     have f1:=HFN.out w9x
     rw [hw1] at b1 f1 ⊢
     obtain⟨B1,hB1⟩:∃ B,w9x.heap.size=B:=⟨_,rfl⟩
     have N13:Hid (B1≠B3):=Lib.hid (by have:=F3.out.lt;omega)
     have L1:Hid (w.heap.size≤B1):=Lib.hid (by have:=HB9.out.size;omega)
     have HB1:=Lib.hid (HB9.out.trans (b1.mono HB9.out.size))
     have F3:=Lib.hid (F3.out.below b1)
     have F9:=Lib.hid (Blk.below F9.out b1)
     rw [hB1] at f1 ⊢
     have F1:=Lib.hid f1
     clear hw1 b1 f1 hB1
     refine hK1.out _ _ trivial ?_
     clear hK1 K1
     try simp only [Act.put,zI,zO,zS]
     refine hd_list [5] (by kernel_rfl) (by decide) (by decide) (fun i hi=>?_)
     simp only [List.mem_cons,List.not_mem_nil,or_false] at hi
     subst hi
     refine⟨_,rfl,fun K5 hK5=>?_⟩
     go_simp
     obtain⟨w5x,hw5⟩:∃ wx,w1x.alloc (.cells (madeCells #[.int .i32 0] n) 21)=wx:=⟨_,rfl⟩
     have b5:=(Below.refl w1x.heap.size w1x).alloc (Nat.le_refl _) (.cells (madeCells #[.int .i32 0] n) 21)
     have f5:=HFN.out w1x
     rw [hw5] at b5 f5 ⊢
     obtain⟨B5,hB5⟩:∃ B,w1x.heap.size=B:=⟨_,rfl⟩
     have N35:Hid (B3≠B5):=Lib.hid (by have:=F3.out.lt;omega)
     have N15:Hid (B1≠B5):=Lib.hid (by have:=F1.out.lt;omega)
     have L5:Hid (w.heap.size≤B5):=Lib.hid (by have:=HB1.out.size;omega)
     have HB5:=Lib.hid (HB1.out.trans (b5.mono HB1.out.size))
     have F3:=Lib.hid (F3.out.below b5)
     have F9:=Lib.hid (Blk.below F9.out b5)
     have F1:=Lib.hid (F1.out.below b5)
     rw [hB5] at f5 ⊢
     have F5:=Lib.hid f5
     clear hw5 b5 f5 hB5
     refine hK5.out _ _ trivial ?_
     clear hK5 K5
     try simp only [Act.put,zI,zO,zS]
     refine hd_done (by kernel_rfl) ?_
     simp only [List.drop_succ_cons,List.drop_zero]
     have HQ:=Lib.hid (HFIN.out w5x B1 B3 B5 B9 F1.out F3.out F5.out F9.out N13.out N15.out N35.out L1.out L3.out L5.out L9.out HB5.out)
     go_wp2
     go_meet
     exact⟨⟨_,_,_,_⟩,_,rfl,HQ.out.1,HQ.out.2⟩
    ·refine⟨_,rfl,fun K5 hK5=>?_⟩
     go_simp
     obtain⟨w5x,hw5⟩:∃ wx,w9x.alloc (.cells (madeCells #[.int .i32 0] n) 21)=wx:=⟨_,rfl⟩
     have b5:=(Below.refl w9x.heap.size w9x).alloc (Nat.le_refl _) (.cells (madeCells #[.int .i32 0] n) 21)
     have f5:=HFN.out w9x
     rw [hw5] at b5 f5 ⊢
     obtain⟨B5,hB5⟩:∃ B,w9x.heap.size=B:=⟨_,rfl⟩
     have N35:Hid (B3≠B5):=Lib.hid (by have:=F3.out.lt;omega)
     have L5:Hid (w.heap.size≤B5):=Lib.hid (by have:=HB9.out.size;omega)
     have HB5:=Lib.hid (HB9.out.trans (b5.mono HB9.out.size))
     have F3:=Lib.hid (F3.out.below b5)
     have F9:=Lib.hid (Blk.below F9.out b5)
     rw [hB5] at f5 ⊢
     have F5:=Lib.hid f5
     clear hw5 b5 f5 hB5
     refine hK5.out _ _ trivial ?_
     clear hK5 K5
     try simp only [Act.put,zI,zO,zS]
     refine hd_list [1] (by kernel_rfl) (by decide) (by decide) (fun i hi=>?_)
     simp only [List.mem_cons,List.not_mem_nil,or_false] at hi
     subst hi
     refine⟨_,rfl,fun K1 hK1=>?_⟩
     go_simp
     obtain⟨w1x,hw1⟩:∃ wx,w5x.alloc (.cells (madeCells #[.int .i32 0] n) 21)=wx:=⟨_,rfl⟩
     have b1:=(Below.refl w5x.heap.size w5x).alloc (Nat.le_refl _) (.cells (madeCells #[.int .i32 0] n) 21)
     have f1:=HFN.out w5x
     rw [hw1] at b1 f1 ⊢
     obtain⟨B1,hB1⟩:∃ B,w5x.heap.size=B:=⟨_,rfl⟩
     have N13:Hid (B1≠B3):=Lib.hid (by have:=F3.out.lt;omega)
     have N15:Hid (B1≠B5):=Lib.hid (by have:=F5.out.lt;omega)
     have L1:Hid (w.heap.size≤B1):=Lib.hid (by have:=HB5.out.size;omega)
     have HB1:=Lib.hid (HB5.out.trans (b1.mono HB5.out.size))
     have F3:=Lib.hid (F3.out.below b1)
     have F9:=Lib.hid (Blk.below F9.out b1)
     have F5:=Lib.hid (F5.out.below b1)
     rw [hB1] at f1 ⊢
     have F1:=Lib.hid f1
     clear hw1 b1 f1 hB1
     refine hK1.out _ _ trivial ?_
     clear hK1 K1
     try simp only [Act.put,zI,zO,zS]
     refine hd_done (by kernel_rfl) ?_
     simp only [List.drop_succ_cons,List.drop_zero]
     have HQ:=Lib.hid (HFIN.out w1x B1 B3 B5 B9 F1.out F3.out F5.out F9.out N13.out N15.out N35.out L1.out L3.out L5.out L9.out HB1.out)
     go_wp2
     go_meet
     exact⟨⟨_,_,_,_⟩,_,rfl,HQ.out.1,HQ.out.2⟩
  ·refine⟨_,rfl,fun K5 hK5=>?_⟩
   go_simp
   obtain⟨w5x,hw5⟩:∃ wx,wd.alloc (.cells (madeCells #[.int .i32 0] n) 21)=wx:=⟨_,rfl⟩
   have b5:=(Below.refl wd.heap.size wd).alloc (Nat.le_refl _) (.cells (madeCells #[.int .i32 0] n) 21)
   have f5:=HFN.out wd
   rw [hw5] at b5 f5 ⊢
   obtain⟨B5,hB5⟩:∃ B,wd.heap.size=B:=⟨_,rfl⟩
   have L5:Hid (w.heap.size≤B5):=Lib.hid (by have:=HB0.out.size;omega)
   have HB5:=Lib.hid (HB0.out.trans (b5.mono HB0.out.size))
   rw [hB5] at f5 ⊢
   have F5:=Lib.hid f5
   clear hw5 b5 f5 hB5
   refine hK5.out _ _ trivial ?_
   clear hK5 K5
   try simp only [Act.put,zI,zO,zS]
   refine hd_list [1,3,9] (by kernel_rfl) (by decide) (by decide) (fun i hi=>?_)
   simp only [List.mem_cons,List.not_mem_nil,or_false] at hi
   rcases hi with rfl|rfl|rfl
   ·refine⟨_,rfl,fun K1 hK1=>?_⟩
    go_simp
    obtain⟨w1x,hw1⟩:∃ wx,w5x.alloc (.cells (madeCells #[.int .i32 0] n) 21)=wx:=⟨_,rfl⟩
    have b1:=(Below.refl w5x.heap.size w5x).alloc (Nat.le_refl _) (.cells (madeCells #[.int .i32 0] n) 21)
    have f1:=HFN.out w5x
    rw [hw1] at b1 f1 ⊢
    obtain⟨B1,hB1⟩:∃ B,w5x.heap.size=B:=⟨_,rfl⟩
    have N15:Hid (B1≠B5):=Lib.hid (by have:=F5.out.lt;omega)
    have L1:Hid (w.heap.size≤B1):=Lib.hid (by have:=HB5.out.size;omega)
    have HB1:=Lib.hid (HB5.out.trans (b1.mono HB5.out.size))
    have F5:=Lib.hid (F5.out.below b1)
    rw [hB1] at f1 ⊢
    have F1:=Lib.hid f1
    clear hw1 b1 f1 hB1
    refine hK1.out _ _ trivial ?_
    clear hK1 K1
    try simp only [Act.put,zI,zO,zS]
    refine hd_list [3,9] (by kernel_rfl) (by decide) (by decide) (fun i hi=>?_)
    simp only [List.mem_cons,List.not_mem_nil,or_false] at hi
    rcases hi with rfl|rfl
    ·refine⟨_,rfl,fun K3 hK3=>?_⟩
     go_simp
     obtain⟨w3x,hw3⟩:∃ wx,w1x.alloc (.cells (madeCells #[.int .i32 0] n) 21)=wx:=⟨_,rfl⟩
     have b3:=(Below.refl w1x.heap.size w1x).alloc (Nat.le_refl _) (.cells (madeCells #[.int .i32 0] n) 21)
     have f3:=HFN.out w1x
     rw [hw3] at b3 f3 ⊢
     obtain⟨B3,hB3⟩:∃ B,w1x.heap.size=B:=⟨_,rfl⟩
     have N35:Hid (B3≠B5):=Lib.hid (by have:=F5.out.lt;omega)
     have N13:Hid (B1≠B3):=Lib.hid (by have:=F1.out.lt;omega)
     have L3:Hid (w.heap.size≤B3):=Lib.hid (by have:=HB1.out.size;omega)
     have HB3:=Lib.hid (HB1.out.trans (b3.mono HB1.out.size))
     have F5:=Lib.hid (F5.out.below b3)
     have F1:=Lib.hid (F1.out.below b3)
     rw [hB3] at f3 ⊢
     have F3:=Lib.hid f3
     clear hw3 b3 f3 hB3
     refine hK3.out _ _ trivial ?_
     clear hK3 K3
     try simp only [Act.put,zI,zO,zS]
     refine hd_list [9] (by kernel_rfl) (by decide) (by decide) (fun i hi=>?_)
     simp only [List.mem_cons,List.not_mem_nil,or_false] at hi
     subst hi
     refine⟨_,rfl,fun K9 hK9=>?_⟩
     go_simp
     obtain⟨w9x,hw9⟩:∃ wx,w3x.alloc (.cells #[.int .i32 0,.int .i32 (n:Nat),.int .i32 0] 188)=wx:=⟨_,rfl⟩
     have b9:=(Below.refl w3x.heap.size w3x).alloc (Nat.le_refl _) (.cells #[.int .i32 0,.int .i32 (n:Nat),.int .i32 0] 188)
     have f9:=Blk.new w3x 188 #[.int .i32 0,.int .i32 (n:Nat),.int .i32 0]
     rw [hw9] at b9 f9 ⊢
     obtain⟨B9,hB9⟩:∃ B,w3x.heap.size=B:=⟨_,rfl⟩
     have L9:Hid (w.heap.size≤B9):=Lib.hid (by have:=HB3.out.size;omega)
     have HB9:=Lib.hid (HB3.out.trans (b9.mono HB3.out.size))
     have F5:=Lib.hid (F5.out.below b9)
     have F1:=Lib.hid (F1.out.below b9)
     have F3:=Lib.hid (F3.out.below b9)
     rw [hB9] at f9 ⊢
     have F9:=Lib.hid f9
     clear hw9 b9 f9 hB9
     refine hK9.out _ _ trivial ?_
     clear hK9 K9
     try simp only [Act.put,zI,zO,zS]
     refine hd_done (by kernel_rfl) ?_
     simp only [List.drop_succ_cons,List.drop_zero]
     have HQ:=Lib.hid (HFIN.out w9x B1 B3 B5 B9 F1.out F3.out F5.out F9.out N13.out N15.out N35.out L1.out L3.out L5.out L9.out HB9.out)
     go_wp2
     go_meet
     exact⟨⟨_,_,_,_⟩,_,rfl,HQ.out.1,HQ.out.2⟩
    ·refine⟨_,rfl,fun K9 hK9=>?_⟩
     go_simp
     obtain⟨w9x,hw9⟩:∃ wx,w1x.alloc (.cells #[.int .i32 0,.int .i32 (n:Nat),.int .i32 0] 188)=wx:=⟨_,rfl⟩
     have b9:=(Below.refl w1x.heap.size w1x).alloc (Nat.le_refl _) (.cells #[.int .i32 0,.int .i32 (n:Nat),.int .i32 0] 188)
     have f9:=Blk.new w1x 188 #[.int .i32 0,.int .i32 (n:Nat),.int .i32 0]
     rw [hw9] at b9 f9 ⊢
     obtain⟨B9,hB9⟩:∃ B,w1x.heap.size=B:=⟨_,rfl⟩
     have L9:Hid (w.heap.size≤B9):=Lib.hid (by have:=HB1.out.size;omega)
     have HB9:=Lib.hid (HB1.out.trans (b9.mono HB1.out.size))
     have F5:=Lib.hid (F5.out.below b9)
     have F1:=Lib.hid (F1.out.below b9)
     rw [hB9] at f9 ⊢
     have F9:=Lib.hid f9
     clear hw9 b9 f9 hB9
     refine hK9.out _ _ trivial ?_
     clear hK9 K9
     try simp only [Act.put,zI,zO,zS]
     refine hd_list [3] (by kernel_rfl) (by decide) (by decide) (fun i hi=>?_)
     simp only [List.mem_cons,List.not_mem_nil,or_false] at hi
     subst hi
     refine⟨_,rfl,fun K3 hK3=>?_⟩
     go_simp
     obtain⟨w3x,hw3⟩:∃ wx,w9x.alloc (.cells (madeCells #[.int .i32 0] n) 21)=wx:=⟨_,rfl⟩
     have b3:=(Below.refl w9x.heap.size w9x).alloc (Nat.le_refl _) (.cells (madeCells #[.int .i32 0] n) 21)
     have f3:=HFN.out w9x
     rw [hw3] at b3 f3 ⊢
     obtain⟨B3,hB3⟩:∃ B,w9x.heap.size=B:=⟨_,rfl⟩
     have N35:Hid (B3≠B5):=Lib.hid (by have:=F5.out.lt;omega)
     have N13:Hid (B1≠B3):=Lib.hid (by have:=F1.out.lt;omega)
     have L3:Hid (w.heap.size≤B3):=Lib.hid (by have:=HB9.out.size;omega)
     have HB3:=Lib.hid (HB9.out.trans (b3.mono HB9.out.size))
     have F5:=Lib.hid (F5.out.below b3)
     have F1:=Lib.hid (F1.out.below b3)
     have F9:=Lib.hid (Blk.below F9.out b3)
     rw [hB3] at f3 ⊢
     have F3:=Lib.hid f3
     clear hw3 b3 f3 hB3
     refine hK3.out _ _ trivial ?_
     clear hK3 K3
     try simp only [Act.put,zI,zO,zS]
     refine hd_done (by kernel_rfl) ?_
     simp only [List.drop_succ_cons,List.drop_zero]
     have HQ:=Lib.hid (HFIN.out w3x B1 B3 B5 B9 F1.out F3.out F5.out F9.out N13.out N15.out N35.out L1.out L3.out L5.out L9.out HB3.out)
     go_wp2
     go_meet
     exact⟨⟨_,_,_,_⟩,_,rfl,HQ.out.1,HQ.out.2⟩
   ·refine⟨_,rfl,fun K3 hK3=>?_⟩
    go_simp
    obtain⟨w3x,hw3⟩:∃ wx,w5x.alloc (.cells (madeCells #[.int .i32 0] n) 21)=wx:=⟨_,rfl⟩
    have b3:=(Below.refl w5x.heap.size w5x).alloc (Nat.le_refl _) (.cells (madeCells #[.int .i32 0] n) 21)
    have f3:=HFN.out w5x
    rw [hw3] at b3 f3 ⊢
    obtain⟨B3,hB3⟩:∃ B,w5x.heap.size=B:=⟨_,rfl⟩
    have N35:Hid (B3≠B5):=Lib.hid (by have:=F5.out.lt;omega)
    have L3:Hid (w.heap.size≤B3):=Lib.hid (by have:=HB5.out.size;omega)
    have HB3:=Lib.hid (HB5.out.trans (b3.mono HB5.out.size))
    have F5:=Lib.hid (F5.out.below b3)
    rw [hB3] at f3 ⊢
    have F3:=Lib.hid f3
    clear hw3 b3 f3 hB3
    refine hK3.out _ _ trivial ?_
    clear hK3 K3
    try simp only [Act.put,zI,zO,zS]
    refine hd_list [1,9] (by kernel_rfl) (by decide) (by decide) (fun i hi=>?_)
    simp only [List.mem_cons,List.not_mem_nil,or_false] at hi
    rcases hi with rfl|rfl
    ·refine⟨_,rfl,fun K1 hK1=>?_⟩
     go_simp
     obtain⟨w1x,hw1⟩:∃ wx,w3x.alloc (.cells (madeCells #[.int .i32 0] n) 21)=wx:=⟨_,rfl⟩
     have b1:=(Below.refl w3x.heap.size w3x).alloc (Nat.le_refl _) (.cells (madeCells #[.int .i32 0] n) 21)
     have f1:=HFN.out w3x
     rw [hw1] at b1 f1 ⊢
     obtain⟨B1,hB1⟩:∃ B,w3x.heap.size=B:=⟨_,rfl⟩
     have N15:Hid (B1≠B5):=Lib.hid (by have:=F5.out.lt;omega)
     have N13:Hid (B1≠B3):=Lib.hid (by have:=F3.out.lt;omega)
     have L1:Hid (w.heap.size≤B1):=Lib.hid (by have:=HB3.out.size;omega)
     have HB1:=Lib.hid (HB3.out.trans (b1.mono HB3.out.size))
     have F5:=Lib.hid (F5.out.below b1)
     have F3:=Lib.hid (F3.out.below b1)
     rw [hB1] at f1 ⊢
     have F1:=Lib.hid f1
     clear hw1 b1 f1 hB1
     refine hK1.out _ _ trivial ?_
     clear hK1 K1
     try simp only [Act.put,zI,zO,zS]
     refine hd_list [9] (by kernel_rfl) (by decide) (by decide) (fun i hi=>?_)
     simp only [List.mem_cons,List.not_mem_nil,or_false] at hi
     subst hi
     refine⟨_,rfl,fun K9 hK9=>?_⟩
     go_simp
     obtain⟨w9x,hw9⟩:∃ wx,w1x.alloc (.cells #[.int .i32 0,.int .i32 (n:Nat),.int .i32 0] 188)=wx:=⟨_,rfl⟩
     have b9:=(Below.refl w1x.heap.size w1x).alloc (Nat.le_refl _) (.cells #[.int .i32 0,.int .i32 (n:Nat),.int .i32 0] 188)
     have f9:=Blk.new w1x 188 #[.int .i32 0,.int .i32 (n:Nat),.int .i32 0]
     rw [hw9] at b9 f9 ⊢
     obtain⟨B9,hB9⟩:∃ B,w1x.heap.size=B:=⟨_,rfl⟩
     have L9:Hid (w.heap.size≤B9):=Lib.hid (by have:=HB1.out.size;omega)
     have HB9:=Lib.hid (HB1.out.trans (b9.mono HB1.out.size))
     have F5:=Lib.hid (F5.out.below b9)
     have F3:=Lib.hid (F3.out.below b9)
     have F1:=Lib.hid (F1.out.below b9)
     rw [hB9] at f9 ⊢
     have F9:=Lib.hid f9
     clear hw9 b9 f9 hB9
     refine hK9.out _ _ trivial ?_
     clear hK9 K9
     try simp only [Act.put,zI,zO,zS]
     refine hd_done (by kernel_rfl) ?_
     simp only [List.drop_succ_cons,List.drop_zero]
     have HQ:=Lib.hid (HFIN.out w9x B1 B3 B5 B9 F1.out F3.out F5.out F9.out N13.out N15.out N35.out L1.out L3.out L5.out L9.out HB9.out)
     go_wp2
     go_meet
     exact⟨⟨_,_,_,_⟩,_,rfl,HQ.out.1,HQ.out.2⟩
    ·refine⟨_,rfl,fun K9 hK9=>?_⟩
     go_simp
     obtain⟨w9x,hw9⟩:∃ wx,w3x.alloc (.cells #[.int .i32 0,.int .i32 (n:Nat),.int .i32 0] 188)=wx:=⟨_,rfl⟩
     have b9:=(Below.refl w3x.heap.size w3x).alloc (Nat.le_refl _) (.cells #[.int .i32 0,.int .i32 (n:Nat),.int .i32 0] 188)
     have f9:=Blk.new w3x 188 #[.int .i32 0,.int .i32 (n:Nat),.int .i32 0]
     rw [hw9] at b9 f9 ⊢
     obtain⟨B9,hB9⟩:∃ B,w3x.heap.size=B:=⟨_,rfl⟩
     have L9:Hid (w.heap.size≤B9):=Lib.hid (by have:=HB3.out.size;omega)
     have HB9:=Lib.hid (HB3.out.trans (b9.mono HB3.out.size))
     have F5:=Lib.hid (F5.out.below b9)
     have F3:=Lib.hid (F3.out.below b9)
     rw [hB9] at f9 ⊢
     have F9:=Lib.hid f9
     clear hw9 b9 f9 hB9
     refine hK9.out _ _ trivial ?_
     clear hK9 K9
     try simp only [Act.put,zI,zO,zS]
     refine hd_list [1] (by kernel_rfl) (by decide) (by decide) (fun i hi=>?_)
     simp only [List.mem_cons,List.not_mem_nil,or_false] at hi
     subst hi
     refine⟨_,rfl,fun K1 hK1=>?_⟩
     go_simp
     obtain⟨w1x,hw1⟩:∃ wx,w9x.alloc (.cells (madeCells #[.int .i32 0] n) 21)=wx:=⟨_,rfl⟩
     have b1:=(Below.refl w9x.heap.size w9x).alloc (Nat.le_refl _) (.cells (madeCells #[.int .i32 0] n) 21)
     have f1:=HFN.out w9x
     rw [hw1] at b1 f1 ⊢
     obtain⟨B1,hB1⟩:∃ B,w9x.heap.size=B:=⟨_,rfl⟩
     have N15:Hid (B1≠B5):=Lib.hid (by have:=F5.out.lt;omega)
     have N13:Hid (B1≠B3):=Lib.hid (by have:=F3.out.lt;omega)
     have L1:Hid (w.heap.size≤B1):=Lib.hid (by have:=HB9.out.size;omega)
     have HB1:=Lib.hid (HB9.out.trans (b1.mono HB9.out.size))
     have F5:=Lib.hid (F5.out.below b1)
     have F3:=Lib.hid (F3.out.below b1)
     have F9:=Lib.hid (Blk.below F9.out b1)
     rw [hB1] at f1 ⊢
     have F1:=Lib.hid f1
     clear hw1 b1 f1 hB1
     refine hK1.out _ _ trivial ?_
     clear hK1 K1
     try simp only [Act.put,zI,zO,zS]
     refine hd_done (by kernel_rfl) ?_
     simp only [List.drop_succ_cons,List.drop_zero]
     have HQ:=Lib.hid (HFIN.out w1x B1 B3 B5 B9 F1.out F3.out F5.out F9.out N13.out N15.out N35.out L1.out L3.out L5.out L9.out HB1.out)
     go_wp2
     go_meet
     exact⟨⟨_,_,_,_⟩,_,rfl,HQ.out.1,HQ.out.2⟩
   ·refine⟨_,rfl,fun K9 hK9=>?_⟩
    go_simp
    obtain⟨w9x,hw9⟩:∃ wx,w5x.alloc (.cells #[.int .i32 0,.int .i32 (n:Nat),.int .i32 0] 188)=wx:=⟨_,rfl⟩
    have b9:=(Below.refl w5x.heap.size w5x).alloc (Nat.le_refl _) (.cells #[.int .i32 0,.int .i32 (n:Nat),.int .i32 0] 188)
    have f9:=Blk.new w5x 188 #[.int .i32 0,.int .i32 (n:Nat),.int .i32 0]
    rw [hw9] at b9 f9 ⊢
    obtain⟨B9,hB9⟩:∃ B,w5x.heap.size=B:=⟨_,rfl⟩
    have L9:Hid (w.heap.size≤B9):=Lib.hid (by have:=HB5.out.size;omega)
    have HB9:=Lib.hid (HB5.out.trans (b9.mono HB5.out.size))
    have F5:=Lib.hid (F5.out.below b9)
    rw [hB9] at f9 ⊢
    have F9:=Lib.hid f9
    clear hw9 b9 f9 hB9
    refine hK9.out _ _ trivial ?_
    clear hK9 K9
    try simp only [Act.put,zI,zO,zS]
    refine hd_list [1,3] (by kernel_rfl) (by decide) (by decide) (fun i hi=>?_)
    simp only [List.mem_cons,List.not_mem_nil,or_false] at hi
    rcases hi with rfl|rfl
    ·refine⟨_,rfl,fun K1 hK1=>?_⟩
     go_simp
     obtain⟨w1x,hw1⟩:∃ wx,w9x.alloc (.cells (madeCells #[.int .i32 0] n) 21)=wx:=⟨_,rfl⟩
     have b1:=(Below.refl w9x.heap.size w9x).alloc (Nat.le_refl _) (.cells (madeCells #[.int .i32 0] n) 21)
     have f1:=HFN.out w9x
     rw [hw1] at b1 f1 ⊢
     obtain⟨B1,hB1⟩:∃ B,w9x.heap.size=B:=⟨_,rfl⟩
     have N15:Hid (B1≠B5):=Lib.hid (by have:=F5.out.lt;omega)
     have L1:Hid (w.heap.size≤B1):=Lib.hid (by have:=HB9.out.size;omega)
     have HB1:=Lib.hid (HB9.out.trans (b1.mono HB9.out.size))
     have F5:=Lib.hid (F5.out.below b1)
     have F9:=Lib.hid (Blk.below F9.out b1)
     rw [hB1] at f1 ⊢
     have F1:=Lib.hid f1
     clear hw1 b1 f1 hB1
     refine hK1.out _ _ trivial ?_
     clear hK1 K1
     try simp only [Act.put,zI,zO,zS]
     refine hd_list [3] (by kernel_rfl) (by decide) (by decide) (fun i hi=>?_)
     simp only [List.mem_cons,List.not_mem_nil,or_false] at hi
     subst hi
     refine⟨_,rfl,fun K3 hK3=>?_⟩
     go_simp
     obtain⟨w3x,hw3⟩:∃ wx,w1x.alloc (.cells (madeCells #[.int .i32 0] n) 21)=wx:=⟨_,rfl⟩
     have b3:=(Below.refl w1x.heap.size w1x).alloc (Nat.le_refl _) (.cells (madeCells #[.int .i32 0] n) 21)
     have f3:=HFN.out w1x
     rw [hw3] at b3 f3 ⊢
     obtain⟨B3,hB3⟩:∃ B,w1x.heap.size=B:=⟨_,rfl⟩
     have N35:Hid (B3≠B5):=Lib.hid (by have:=F5.out.lt;omega)
     have N13:Hid (B1≠B3):=Lib.hid (by have:=F1.out.lt;omega)
     have L3:Hid (w.heap.size≤B3):=Lib.hid (by have:=HB1.out.size;omega)
     have HB3:=Lib.hid (HB1.out.trans (b3.mono HB1.out.size))
     have F5:=Lib.hid (F5.out.below b3)
     have F9:=Lib.hid (Blk.below F9.out b3)
     have F1:=Lib.hid (F1.out.below b3)
     rw [hB3] at f3 ⊢
     have F3:=Lib.hid f3
     clear hw3 b3 f3 hB3
     refine hK3.out _ _ trivial ?_
     clear hK3 K3
     try simp only [Act.put,zI,zO,zS]
     refine hd_done (by kernel_rfl) ?_
     simp only [List.drop_succ_cons,List.drop_zero]
     have HQ:=Lib.hid (HFIN.out w3x B1 B3 B5 B9 F1.out F3.out F5.out F9.out N13.out N15.out N35.out L1.out L3.out L5.out L9.out HB3.out)
     go_wp2
     go_meet
     exact⟨⟨_,_,_,_⟩,_,rfl,HQ.out.1,HQ.out.2⟩
    ·refine⟨_,rfl,fun K3 hK3=>?_⟩
     go_simp
     obtain⟨w3x,hw3⟩:∃ wx,w9x.alloc (.cells (madeCells #[.int .i32 0] n) 21)=wx:=⟨_,rfl⟩
     have b3:=(Below.refl w9x.heap.size w9x).alloc (Nat.le_refl _) (.cells (madeCells #[.int .i32 0] n) 21)
     have f3:=HFN.out w9x
     rw [hw3] at b3 f3 ⊢
     obtain⟨B3,hB3⟩:∃ B,w9x.heap.size=B:=⟨_,rfl⟩
     have N35:Hid (B3≠B5):=Lib.hid (by have:=F5.out.lt;omega)
     have L3:Hid (w.heap.size≤B3):=Lib.hid (by have:=HB9.out.size;omega)
     have HB3:=Lib.hid (HB9.out.trans (b3.mono HB9.out.size))
     have F5:=Lib.hid (F5.out.below b3)
     have F9:=Lib.hid (Blk.below F9.out b3)
     rw [hB3] at f3 ⊢
     have F3:=Lib.hid f3
     clear hw3 b3 f3 hB3
     refine hK3.out _ _ trivial ?_
     clear hK3 K3
     try simp only [Act.put,zI,zO,zS]
     refine hd_list [1] (by kernel_rfl) (by decide) (by decide) (fun i hi=>?_)
     simp only [List.mem_cons,List.not_mem_nil,or_false] at hi
     subst hi
     refine⟨_,rfl,fun K1 hK1=>?_⟩
     go_simp
     obtain⟨w1x,hw1⟩:∃ wx,w3x.alloc (.cells (madeCells #[.int .i32 0] n) 21)=wx:=⟨_,rfl⟩
     have b1:=(Below.refl w3x.heap.size w3x).alloc (Nat.le_refl _) (.cells (madeCells #[.int .i32 0] n) 21)
     have f1:=HFN.out w3x
     rw [hw1] at b1 f1 ⊢
     obtain⟨B1,hB1⟩:∃ B,w3x.heap.size=B:=⟨_,rfl⟩
     have N15:Hid (B1≠B5):=Lib.hid (by have:=F5.out.lt;omega)
     have N13:Hid (B1≠B3):=Lib.hid (by have:=F3.out.lt;omega)
     have L1:Hid (w.heap.size≤B1):=Lib.hid (by have:=HB3.out.size;omega)
     have HB1:=Lib.hid (HB3.out.trans (b1.mono HB3.out.size))
     have F5:=Lib.hid (F5.out.below b1)
     have F9:=Lib.hid (Blk.below F9.out b1)
     have F3:=Lib.hid (F3.out.below b1)
     rw [hB1] at f1 ⊢
     have F1:=Lib.hid f1
     clear hw1 b1 f1 hB1
     refine hK1.out _ _ trivial ?_
     clear hK1 K1
     try simp only [Act.put,zI,zO,zS]
     refine hd_done (by kernel_rfl) ?_
     simp only [List.drop_succ_cons,List.drop_zero]
     have HQ:=Lib.hid (HFIN.out w1x B1 B3 B5 B9 F1.out F3.out F5.out F9.out N13.out N15.out N35.out L1.out L3.out L5.out L9.out HB1.out)
     go_wp2
     go_meet
     exact⟨⟨_,_,_,_⟩,_,rfl,HQ.out.1,HQ.out.2⟩
  ·refine⟨_,rfl,fun K9 hK9=>?_⟩
   go_simp
   obtain⟨w9x,hw9⟩:∃ wx,wd.alloc (.cells #[.int .i32 0,.int .i32 (n:Nat),.int .i32 0] 188)=wx:=⟨_,rfl⟩
   have b9:=(Below.refl wd.heap.size wd).alloc (Nat.le_refl _) (.cells #[.int .i32 0,.int .i32 (n:Nat),.int .i32 0] 188)
   have f9:=Blk.new wd 188 #[.int .i32 0,.int .i32 (n:Nat),.int .i32 0]
   rw [hw9] at b9 f9 ⊢
   obtain⟨B9,hB9⟩:∃ B,wd.heap.size=B:=⟨_,rfl⟩
   have L9:Hid (w.heap.size≤B9):=Lib.hid (by have:=HB0.out.size;omega)
   have HB9:=Lib.hid (HB0.out.trans (b9.mono HB0.out.size))
   rw [hB9] at f9 ⊢
   have F9:=Lib.hid f9
   clear hw9 b9 f9 hB9
   refine hK9.out _ _ trivial ?_
   clear hK9 K9
   try simp only [Act.put,zI,zO,zS]
   refine hd_list [1,3,5] (by kernel_rfl) (by decide) (by decide) (fun i hi=>?_)
   simp only [List.mem_cons,List.not_mem_nil,or_false] at hi
   rcases hi with rfl|rfl|rfl
   ·refine⟨_,rfl,fun K1 hK1=>?_⟩
    go_simp
    obtain⟨w1x,hw1⟩:∃ wx,w9x.alloc (.cells (madeCells #[.int .i32 0] n) 21)=wx:=⟨_,rfl⟩
    have b1:=(Below.refl w9x.heap.size w9x).alloc (Nat.le_refl _) (.cells (madeCells #[.int .i32 0] n) 21)
    have f1:=HFN.out w9x
    rw [hw1] at b1 f1 ⊢
    obtain⟨B1,hB1⟩:∃ B,w9x.heap.size=B:=⟨_,rfl⟩
    have L1:Hid (w.heap.size≤B1):=Lib.hid (by have:=HB9.out.size;omega)
    have HB1:=Lib.hid (HB9.out.trans (b1.mono HB9.out.size))
    have F9:=Lib.hid (Blk.below F9.out b1)
    rw [hB1] at f1 ⊢
    have F1:=Lib.hid f1
    clear hw1 b1 f1 hB1
    refine hK1.out _ _ trivial ?_
    clear hK1 K1
    try simp only [Act.put,zI,zO,zS]
    refine hd_list [3,5] (by kernel_rfl) (by decide) (by decide) (fun i hi=>?_)
    simp only [List.mem_cons,List.not_mem_nil,or_false] at hi
    rcases hi with rfl|rfl
    ·refine⟨_,rfl,fun K3 hK3=>?_⟩
     go_simp
     obtain⟨w3x,hw3⟩:∃ wx,w1x.alloc (.cells (madeCells #[.int .i32 0] n) 21)=wx:=⟨_,rfl⟩
     have b3:=(Below.refl w1x.heap.size w1x).alloc (Nat.le_refl _) (.cells (madeCells #[.int .i32 0] n) 21)
     have f3:=HFN.out w1x
     rw [hw3] at b3 f3 ⊢
     obtain⟨B3,hB3⟩:∃ B,w1x.heap.size=B:=⟨_,rfl⟩
     have N13:Hid (B1≠B3):=Lib.hid (by have:=F1.out.lt;omega)
     have L3:Hid (w.heap.size≤B3):=Lib.hid (by have:=HB1.out.size;omega)
     have HB3:=Lib.hid (HB1.out.trans (b3.mono HB1.out.size))
     have F9:=Lib.hid (Blk.below F9.out b3)
     have F1:=Lib.hid (F1.out.below b3)
     rw [hB3] at f3 ⊢
     have F3:=Lib.hid f3
     clear hw3 b3 f3 hB3
     refine hK3.out _ _ trivial ?_
     clear hK3 K3
     try simp only [Act.put,zI,zO,zS]
     refine hd_list [5] (by kernel_rfl) (by decide) (by decide) (fun i hi=>?_)
     simp only [List.mem_cons,List.not_mem_nil,or_false] at hi
     subst hi
     refine⟨_,rfl,fun K5 hK5=>?_⟩
     go_simp
     obtain⟨w5x,hw5⟩:∃ wx,w3x.alloc (.cells (madeCells #[.int .i32 0] n) 21)=wx:=⟨_,rfl⟩
     have b5:=(Below.refl w3x.heap.size w3x).alloc (Nat.le_refl _) (.cells (madeCells #[.int .i32 0] n) 21)
     have f5:=HFN.out w3x
     rw [hw5] at b5 f5 ⊢
     obtain⟨B5,hB5⟩:∃ B,w3x.heap.size=B:=⟨_,rfl⟩
     have N15:Hid (B1≠B5):=Lib.hid (by have:=F1.out.lt;omega)
     have N35:Hid (B3≠B5):=Lib.hid (by have:=F3.out.lt;omega)
     have L5:Hid (w.heap.size≤B5):=Lib.hid (by have:=HB3.out.size;omega)
     have HB5:=Lib.hid (HB3.out.trans (b5.mono HB3.out.size))
     have F9:=Lib.hid (Blk.below F9.out b5)
     have F1:=Lib.hid (F1.out.below b5)
     have F3:=Lib.hid (F3.out.below b5)
     rw [hB5] at f5 ⊢
     have F5:=Lib.hid f5
     clear hw5 b5 f5 hB5
     refine hK5.out _ _ trivial ?_
     clear hK5 K5
     try simp only [Act.put,zI,zO,zS]
     refine hd_done (by kernel_rfl) ?_
     simp only [List.drop_succ_cons,List.drop_zero]
     have HQ:=Lib.hid (HFIN.out w5x B1 B3 B5 B9 F1.out F3.out F5.out F9.out N13.out N15.out N35.out L1.out L3.out L5.out L9.out HB5.out)
     go_wp2
     go_meet
     exact⟨⟨_,_,_,_⟩,_,rfl,HQ.out.1,HQ.out.2⟩
    ·refine⟨_,rfl,fun K5 hK5=>?_⟩
     go_simp
     obtain⟨w5x,hw5⟩:∃ wx,w1x.alloc (.cells (madeCells #[.int .i32 0] n) 21)=wx:=⟨_,rfl⟩
     have b5:=(Below.refl w1x.heap.size w1x).alloc (Nat.le_refl _) (.cells (madeCells #[.int .i32 0] n) 21)
     have f5:=HFN.out w1x
     rw [hw5] at b5 f5 ⊢
     obtain⟨B5,hB5⟩:∃ B,w1x.heap.size=B:=⟨_,rfl⟩
     have N15:Hid (B1≠B5):=Lib.hid (by have:=F1.out.lt;omega)
     have L5:Hid (w.heap.size≤B5):=Lib.hid (by have:=HB1.out.size;omega)
     have HB5:=Lib.hid (HB1.out.trans (b5.mono HB1.out.size))
     have F9:=Lib.hid (Blk.below F9.out b5)
     have F1:=Lib.hid (F1.out.below b5)
     rw [hB5] at f5 ⊢
     have F5:=Lib.hid f5
     clear hw5 b5 f5 hB5
     refine hK5.out _ _ trivial ?_
     clear hK5 K5
     try simp only [Act.put,zI,zO,zS]
     refine hd_list [3] (by kernel_rfl) (by decide) (by decide) (fun i hi=>?_)
     simp only [List.mem_cons,List.not_mem_nil,or_false] at hi
     subst hi
     refine⟨_,rfl,fun K3 hK3=>?_⟩
     go_simp
     obtain⟨w3x,hw3⟩:∃ wx,w5x.alloc (.cells (madeCells #[.int .i32 0] n) 21)=wx:=⟨_,rfl⟩
     have b3:=(Below.refl w5x.heap.size w5x).alloc (Nat.le_refl _) (.cells (madeCells #[.int .i32 0] n) 21)
     have f3:=HFN.out w5x
     rw [hw3] at b3 f3 ⊢
     obtain⟨B3,hB3⟩:∃ B,w5x.heap.size=B:=⟨_,rfl⟩
     have N13:Hid (B1≠B3):=Lib.hid (by have:=F1.out.lt;omega)
     have N35:Hid (B3≠B5):=Lib.hid (by have:=F5.out.lt;omega)
     have L3:Hid (w.heap.size≤B3):=Lib.hid (by have:=HB5.out.size;omega)
     have HB3:=Lib.hid (HB5.out.trans (b3.mono HB5.out.size))
     have F9:=Lib.hid (Blk.below F9.out b3)
     have F1:=Lib.hid (F1.out.below b3)
     have F5:=Lib.hid (F5.out.below b3)
     rw [hB3] at f3 ⊢
     have F3:=Lib.hid f3
     clear hw3 b3 f3 hB3
     refine hK3.out _ _ trivial ?_
     clear hK3 K3
     try simp only [Act.put,zI,zO,zS]
     refine hd_done (by kernel_rfl) ?_
     simp only [List.drop_succ_cons,List.drop_zero]
     have HQ:=Lib.hid (HFIN.out w3x B1 B3 B5 B9 F1.out F3.out F5.out F9.out N13.out N15.out N35.out L1.out L3.out L5.out L9.out HB3.out)
     go_wp2
     go_meet
     exact⟨⟨_,_,_,_⟩,_,rfl,HQ.out.1,HQ.out.2⟩
   ·refine⟨_,rfl,fun K3 hK3=>?_⟩
    go_simp
    obtain⟨w3x,hw3⟩:∃ wx,w9x.alloc (.cells (madeCells #[.int .i32 0] n) 21)=wx:=⟨_,rfl⟩
    have b3:=(Below.refl w9x.heap.size w9x).alloc (Nat.le_refl _) (.cells (madeCells #[.int .i32 0] n) 21)
    have f3:=HFN.out w9x
    rw [hw3] at b3 f3 ⊢
    obtain⟨B3,hB3⟩:∃ B,w9x.heap.size=B:=⟨_,rfl⟩
    have L3:Hid (w.heap.size≤B3):=Lib.hid (by have:=HB9.out.size;omega)
    have HB3:=Lib.hid (HB9.out.trans (b3.mono HB9.out.size))
    have F9:=Lib.hid (Blk.below F9.out b3)
    rw [hB3] at f3 ⊢
    have F3:=Lib.hid f3
    clear hw3 b3 f3 hB3
    refine hK3.out _ _ trivial ?_
    clear hK3 K3
    try simp only [Act.put,zI,zO,zS]
    refine hd_list [1,5] (by kernel_rfl) (by decide) (by decide) (fun i hi=>?_)
    simp only [List.mem_cons,List.not_mem_nil,or_false] at hi
    rcases hi with rfl|rfl
    ·refine⟨_,rfl,fun K1 hK1=>?_⟩
     go_simp
     obtain⟨w1x,hw1⟩:∃ wx,w3x.alloc (.cells (madeCells #[.int .i32 0] n) 21)=wx:=⟨_,rfl⟩
     have b1:=(Below.refl w3x.heap.size w3x).alloc (Nat.le_refl _) (.cells (madeCells #[.int .i32 0] n) 21)
     have f1:=HFN.out w3x
     rw [hw1] at b1 f1 ⊢
     obtain⟨B1,hB1⟩:∃ B,w3x.heap.size=B:=⟨_,rfl⟩
     have N13:Hid (B1≠B3):=Lib.hid (by have:=F3.out.lt;omega)
     have L1:Hid (w.heap.size≤B1):=Lib.hid (by have:=HB3.out.size;omega)
     have HB1:=Lib.hid (HB3.out.trans (b1.mono HB3.out.size))
     have F9:=Lib.hid (Blk.below F9.out b1)
     have F3:=Lib.hid (F3.out.below b1)
     rw [hB1] at f1 ⊢
     have F1:=Lib.hid f1
     clear hw1 b1 f1 hB1
     refine hK1.out _ _ trivial ?_
     clear hK1 K1
     try simp only [Act.put,zI,zO,zS]
     refine hd_list [5] (by kernel_rfl) (by decide) (by decide) (fun i hi=>?_)
     simp only [List.mem_cons,List.not_mem_nil,or_false] at hi
     subst hi
     refine⟨_,rfl,fun K5 hK5=>?_⟩
     go_simp
     obtain⟨w5x,hw5⟩:∃ wx,w1x.alloc (.cells (madeCells #[.int .i32 0] n) 21)=wx:=⟨_,rfl⟩
     have b5:=(Below.refl w1x.heap.size w1x).alloc (Nat.le_refl _) (.cells (madeCells #[.int .i32 0] n) 21)
     have f5:=HFN.out w1x
     rw [hw5] at b5 f5 ⊢
     obtain⟨B5,hB5⟩:∃ B,w1x.heap.size=B:=⟨_,rfl⟩
     have N35:Hid (B3≠B5):=Lib.hid (by have:=F3.out.lt;omega)
     have N15:Hid (B1≠B5):=Lib.hid (by have:=F1.out.lt;omega)
     have L5:Hid (w.heap.size≤B5):=Lib.hid (by have:=HB1.out.size;omega)
     have HB5:=Lib.hid (HB1.out.trans (b5.mono HB1.out.size))
     have F9:=Lib.hid (Blk.below F9.out b5)
     have F3:=Lib.hid (F3.out.below b5)
     have F1:=Lib.hid (F1.out.below b5)
     rw [hB5] at f5 ⊢
     have F5:=Lib.hid f5
     clear hw5 b5 f5 hB5
     refine hK5.out _ _ trivial ?_
     clear hK5 K5
     try simp only [Act.put,zI,zO,zS]
     refine hd_done (by kernel_rfl) ?_
     simp only [List.drop_succ_cons,List.drop_zero]
     have HQ:=Lib.hid (HFIN.out w5x B1 B3 B5 B9 F1.out F3.out F5.out F9.out N13.out N15.out N35.out L1.out L3.out L5.out L9.out HB5.out)
     go_wp2
     go_meet
     exact⟨⟨_,_,_,_⟩,_,rfl,HQ.out.1,HQ.out.2⟩
    ·refine⟨_,rfl,fun K5 hK5=>?_⟩
     go_simp
     obtain⟨w5x,hw5⟩:∃ wx,w3x.alloc (.cells (madeCells #[.int .i32 0] n) 21)=wx:=⟨_,rfl⟩
     have b5:=(Below.refl w3x.heap.size w3x).alloc (Nat.le_refl _) (.cells (madeCells #[.int .i32 0] n) 21)
     have f5:=HFN.out w3x
     rw [hw5] at b5 f5 ⊢
     obtain⟨B5,hB5⟩:∃ B,w3x.heap.size=B:=⟨_,rfl⟩
     have N35:Hid (B3≠B5):=Lib.hid (by have:=F3.out.lt;omega)
     have L5:Hid (w.heap.size≤B5):=Lib.hid (by have:=HB3.out.size;omega)
     have HB5:=Lib.hid (HB3.out.trans (b5.mono HB3.out.size))
     have F9:=Lib.hid (Blk.below F9.out b5)
     have F3:=Lib.hid (F3.out.below b5)
     rw [hB5] at f5 ⊢
     have F5:=Lib.hid f5
     clear hw5 b5 f5 hB5
     refine hK5.out _ _ trivial ?_
     clear hK5 K5
     try simp only [Act.put,zI,zO,zS]
     refine hd_list [1] (by kernel_rfl) (by decide) (by decide) (fun i hi=>?_)
     simp only [List.mem_cons,List.not_mem_nil,or_false] at hi
     subst hi
     refine⟨_,rfl,fun K1 hK1=>?_⟩
     go_simp
     obtain⟨w1x,hw1⟩:∃ wx,w5x.alloc (.cells (madeCells #[.int .i32 0] n) 21)=wx:=⟨_,rfl⟩
     have b1:=(Below.refl w5x.heap.size w5x).alloc (Nat.le_refl _) (.cells (madeCells #[.int .i32 0] n) 21)
     have f1:=HFN.out w5x
     rw [hw1] at b1 f1 ⊢
     obtain⟨B1,hB1⟩:∃ B,w5x.heap.size=B:=⟨_,rfl⟩
     have N13:Hid (B1≠B3):=Lib.hid (by have:=F3.out.lt;omega)
     have N15:Hid (B1≠B5):=Lib.hid (by have:=F5.out.lt;omega)
     have L1:Hid (w.heap.size≤B1):=Lib.hid (by have:=HB5.out.size;omega)
     have HB1:=Lib.hid (HB5.out.trans (b1.mono HB5.out.size))
     have F9:=Lib.hid (Blk.below F9.out b1)
     have F3:=Lib.hid (F3.out.below b1)
     have F5:=Lib.hid (F5.out.below b1)
     rw [hB1] at f1 ⊢
     have F1:=Lib.hid f1
     clear hw1 b1 f1 hB1
     refine hK1.out _ _ trivial ?_
     clear hK1 K1
     try simp only [Act.put,zI,zO,zS]
     refine hd_done (by kernel_rfl) ?_
     simp only [List.drop_succ_cons,List.drop_zero]
     have HQ:=Lib.hid (HFIN.out w1x B1 B3 B5 B9 F1.out F3.out F5.out F9.out N13.out N15.out N35.out L1.out L3.out L5.out L9.out HB1.out)
     go_wp2
     go_meet
     exact⟨⟨_,_,_,_⟩,_,rfl,HQ.out.1,HQ.out.2⟩
   ·refine⟨_,rfl,fun K5 hK5=>?_⟩
    go_simp
    obtain⟨w5x,hw5⟩:∃ wx,w9x.alloc (.cells (madeCells #[.int .i32 0] n) 21)=wx:=⟨_,rfl⟩
    have b5:=(Below.refl w9x.heap.size w9x).alloc (Nat.le_refl _) (.cells (madeCells #[.int .i32 0] n) 21)
    have f5:=HFN.out w9x
    rw [hw5] at b5 f5 ⊢
    obtain⟨B5,hB5⟩:∃ B,w9x.heap.size=B:=⟨_,rfl⟩
    have L5:Hid (w.heap.size≤B5):=Lib.hid (by have:=HB9.out.size;omega)
    have HB5:=Lib.hid (HB9.out.trans (b5.mono HB9.out.size))
    have F9:=Lib.hid (Blk.below F9.out b5)
    rw [hB5] at f5 ⊢
    have F5:=Lib.hid f5
    clear hw5 b5 f5 hB5
    refine hK5.out _ _ trivial ?_
    clear hK5 K5
    try simp only [Act.put,zI,zO,zS]
    refine hd_list [1,3] (by kernel_rfl) (by decide) (by decide) (fun i hi=>?_)
    simp only [List.mem_cons,List.not_mem_nil,or_false] at hi
    rcases hi with rfl|rfl
    ·refine⟨_,rfl,fun K1 hK1=>?_⟩
     go_simp
     obtain⟨w1x,hw1⟩:∃ wx,w5x.alloc (.cells (madeCells #[.int .i32 0] n) 21)=wx:=⟨_,rfl⟩
     have b1:=(Below.refl w5x.heap.size w5x).alloc (Nat.le_refl _) (.cells (madeCells #[.int .i32 0] n) 21)
     have f1:=HFN.out w5x
     rw [hw1] at b1 f1 ⊢
     obtain⟨B1,hB1⟩:∃ B,w5x.heap.size=B:=⟨_,rfl⟩
     have N15:Hid (B1≠B5):=Lib.hid (by have:=F5.out.lt;omega)
     have L1:Hid (w.heap.size≤B1):=Lib.hid (by have:=HB5.out.size;omega)
     have HB1:=Lib.hid (HB5.out.trans (b1.mono HB5.out.size))
     have F9:=Lib.hid (Blk.below F9.out b1)
     have F5:=Lib.hid (F5.out.below b1)
     rw [hB1] at f1 ⊢
     have F1:=Lib.hid f1
     clear hw1 b1 f1 hB1
     refine hK1.out _ _ trivial ?_
     clear hK1 K1
     try simp only [Act.put,zI,zO,zS]
     refine hd_list [3] (by kernel_rfl) (by decide) (by decide) (fun i hi=>?_)
     simp only [List.mem_cons,List.not_mem_nil,or_false] at hi
     subst hi
     refine⟨_,rfl,fun K3 hK3=>?_⟩
     go_simp
     obtain⟨w3x,hw3⟩:∃ wx,w1x.alloc (.cells (madeCells #[.int .i32 0] n) 21)=wx:=⟨_,rfl⟩
     have b3:=(Below.refl w1x.heap.size w1x).alloc (Nat.le_refl _) (.cells (madeCells #[.int .i32 0] n) 21)
     have f3:=HFN.out w1x
     rw [hw3] at b3 f3 ⊢
     obtain⟨B3,hB3⟩:∃ B,w1x.heap.size=B:=⟨_,rfl⟩
     have N35:Hid (B3≠B5):=Lib.hid (by have:=F5.out.lt;omega)
     have N13:Hid (B1≠B3):=Lib.hid (by have:=F1.out.lt;omega)
     have L3:Hid (w.heap.size≤B3):=Lib.hid (by have:=HB1.out.size;omega)
     have HB3:=Lib.hid (HB1.out.trans (b3.mono HB1.out.size))
     have F9:=Lib.hid (Blk.below F9.out b3)
     have F5:=Lib.hid (F5.out.below b3)
     have F1:=Lib.hid (F1.out.below b3)
     rw [hB3] at f3 ⊢
     have F3:=Lib.hid f3
     clear hw3 b3 f3 hB3
     refine hK3.out _ _ trivial ?_
     clear hK3 K3
     try simp only [Act.put,zI,zO,zS]
     refine hd_done (by kernel_rfl) ?_
     simp only [List.drop_succ_cons,List.drop_zero]
     have HQ:=Lib.hid (HFIN.out w3x B1 B3 B5 B9 F1.out F3.out F5.out F9.out N13.out N15.out N35.out L1.out L3.out L5.out L9.out HB3.out)
     go_wp2
     go_meet
     exact⟨⟨_,_,_,_⟩,_,rfl,HQ.out.1,HQ.out.2⟩
    ·refine⟨_,rfl,fun K3 hK3=>?_⟩
     go_simp
     obtain⟨w3x,hw3⟩:∃ wx,w5x.alloc (.cells (madeCells #[.int .i32 0] n) 21)=wx:=⟨_,rfl⟩
     have b3:=(Below.refl w5x.heap.size w5x).alloc (Nat.le_refl _) (.cells (madeCells #[.int .i32 0] n) 21)
     have f3:=HFN.out w5x
     rw [hw3] at b3 f3 ⊢
     obtain⟨B3,hB3⟩:∃ B,w5x.heap.size=B:=⟨_,rfl⟩
     have N35:Hid (B3≠B5):=Lib.hid (by have:=F5.out.lt;omega)
     have L3:Hid (w.heap.size≤B3):=Lib.hid (by have:=HB5.out.size;omega)
     have HB3:=Lib.hid (HB5.out.trans (b3.mono HB5.out.size))
     have F9:=Lib.hid (Blk.below F9.out b3)
     have F5:=Lib.hid (F5.out.below b3)
     rw [hB3] at f3 ⊢
     have F3:=Lib.hid f3
     clear hw3 b3 f3 hB3
     refine hK3.out _ _ trivial ?_
     clear hK3 K3
     try simp only [Act.put,zI,zO,zS]
     refine hd_list [1] (by kernel_rfl) (by decide) (by decide) (fun i hi=>?_)
     simp only [List.mem_cons,List.not_mem_nil,or_false] at hi
     subst hi
     refine⟨_,rfl,fun K1 hK1=>?_⟩
     go_simp
     obtain⟨w1x,hw1⟩:∃ wx,w3x.alloc (.cells (madeCells #[.int .i32 0] n) 21)=wx:=⟨_,rfl⟩
     have b1:=(Below.refl w3x.heap.size w3x).alloc (Nat.le_refl _) (.cells (madeCells #[.int .i32 0] n) 21)
     have f1:=HFN.out w3x
     rw [hw1] at b1 f1 ⊢
     obtain⟨B1,hB1⟩:∃ B,w3x.heap.size=B:=⟨_,rfl⟩
     have N15:Hid (B1≠B5):=Lib.hid (by have:=F5.out.lt;omega)
     have N13:Hid (B1≠B3):=Lib.hid (by have:=F3.out.lt;omega)
     have L1:Hid (w.heap.size≤B1):=Lib.hid (by have:=HB3.out.size;omega)
     have HB1:=Lib.hid (HB3.out.trans (b1.mono HB3.out.size))
     have F9:=Lib.hid (Blk.below F9.out b1)
     have F5:=Lib.hid (F5.out.below b1)
     have F3:=Lib.hid (F3.out.below b1)
     rw [hB1] at f1 ⊢
     have F1:=Lib.hid f1
     clear hw1 b1 f1 hB1
     refine hK1.out _ _ trivial ?_
     clear hK1 K1
     try simp only [Act.put,zI,zO,zS]
     refine hd_done (by kernel_rfl) ?_
     simp only [List.drop_succ_cons,List.drop_zero]
     have HQ:=Lib.hid (HFIN.out w1x B1 B3 B5 B9 F1.out F3.out F5.out F9.out N13.out N15.out N35.out L1.out L3.out L5.out L9.out HB1.out)
     go_wp2
     go_meet
     exact⟨⟨_,_,_,_⟩,_,rfl,HQ.out.1,HQ.out.2⟩
 case rest=>
  rename World=>w1
  obtain⟨A,vb,rfl,hPM,hB⟩:=hcut
  have P1:=Lib.hid hPM
  have B1:=Lib.hid hB
  clear hPM hB HFN hmk HD HBD
  go_wp2_with fail
  go_loopw [19] (fun v19 wr=>∃ s:Nat,s≤n∧v19= .int .i32 (s:Nat)∧PM wr w.heap.size A vb (.slice none 0 0) vb (.slice none 0 0) n ⟨upTo s,upTo s,fun _=>0,[⟨0,n,0⟩],[]⟩∧Below w.heap.size w wr) (fun v19 _=>n - (intOf v19).toNat)
  case atStart=>exact⟨0,Nat.zero_le _,rfl,P1.out.congr (fun s _=>by unfold upTo;simp) (fun s _=>by unfold upTo;simp) (fun s _=>rfl),B1.out⟩
  case round=>
   rename World=>wz
   obtain⟨s,hs,rfl,hPM,hB⟩:=hrel
   have PZ:=Lib.hid hPM
   have BZ:=Lib.hid hB
   clear hPM hB P1 B1
   by_cases hlt:s<n
   ·have h9:(s:Int)<(n:Int):=by omega
    have d2:IntKind.i32.wrap ((s:Int)+1)=((s+1:Nat):Int):=by rw [IntKind.wrap_i32];omega
    have PD:=Lib.hid (PZ.out.below (Below.refl _ wz).drew)
    have BD:=Lib.hid (BZ.out.drew)
    obtain⟨we,hwe⟩:∃ we,wz.drew=we:=⟨_,rfl⟩
    rw [hwe] at PD BD
    have q4:=PD.out.setO (i:=s) hlt s
    have c1:we.cell? ⟨A.o,s,none⟩=some (i32F (upTo s) s):=PD.out.fo.cell hlt
    have z1:we.frozen? ⟨A.o,s,none⟩=false:=PD.out.fo.frozen s
    have q5:=q4.setQ (i:=s) hlt s
    have c2:(we.setCell ⟨A.o,s,none⟩ (.int .i32 (s:Nat))).cell? ⟨A.q,s,none⟩=some (i32F (upTo s) s):=q4.fq.cell hlt
    have z2:(we.setCell ⟨A.o,s,none⟩ (.int .i32 (s:Nat))).frozen? ⟨A.q,s,none⟩=false:=q4.fq.frozen s
    have BN:Hid (Below w.heap.size w ((we.setCell ⟨A.o,s,none⟩ (.int .i32 (s:Nat))).setCell ⟨A.q,s,none⟩ (.int .i32 (s:Nat)))):=Lib.hid ((BD.out.setCell (p:=⟨A.o,s,none⟩) PD.out.lo _).setCell (p:=⟨A.q,s,none⟩) PD.out.lq _)
    have PN:=Lib.hid (q5.congr (o:=upTo (s+1)) (q:=upTo (s+1)) (b:=fun _=>0) (fun i _=>upTo_succ s i) (fun i _=>upTo_succ s i) (fun i _=>rfl))
    have hS:(fun wx:World=>wx.cell? ⟨A.p,0,none⟩=some (.slice (some ⟨A.o,0,none⟩) n n)∧wx.cell? ⟨A.p,1,none⟩=some (.slice (some ⟨A.q,0,none⟩) n n)) we:=⟨PD.out.kp.cell 0,PD.out.kp.cell 1⟩
    have hS2:(fun wx:World=>wx.cell? ⟨A.p,0,none⟩=some (.slice (some ⟨A.o,0,none⟩) n n)∧wx.cell? ⟨A.p,1,none⟩=some (.slice (some ⟨A.q,0,none⟩) n n)) (we.setCell ⟨A.o,s,none⟩ (.int .i32 (s:Nat))):=⟨q4.kp.cell 0,q4.kp.cell 1⟩
    clear q4 q5
    go_upto_region 5 with fail
    refine region_hd 14 (fun wx:World=>wx.cell? ⟨A.p,0,none⟩=some (.slice (some ⟨A.o,0,none⟩) n n)∧wx.cell? ⟨A.p,1,none⟩=some (.slice (some ⟨A.q,0,none⟩) n n)) (by kernel_rfl) (by kernel_rfl) ?_
    rw [hwe]
    refine hd_taken 0 (some 22) _ ?hdva0 rfl rfl (by kernel_rfl) (fun _ _ _ h=>h) (Or.inl ⟨by rfl,?hdya0⟩) hS ?hdra0
    case hdya0=>(intro wx hx;(try dsimp only at hx);go_simp;try with_reducible rfl)
    try simp only [Act.put,zI,zO,zS]
    refine hd_taken 1 (some 23) _ ?hdva1 rfl rfl (by kernel_rfl) (fun _ _ _ h=>h) (Or.inl ⟨by rfl,?hdya1⟩) hS ?hdra1
    case hdya1=>(intro wx hx;(try dsimp only at hx);go_simp;try with_reducible rfl)
    try simp only [Act.put,zI,zO,zS]
    refine hd_taken 2 (some 24) _ ?hdva2 rfl rfl (by kernel_rfl) (fun _ _ _ h=>h) (Or.inl ⟨by rfl,?hdya2⟩) hS ?hdra2
    case hdya2=>(intro wx hx;(try dsimp only at hx);go_simp;try with_reducible rfl)
    try simp only [Act.put,zI,zO,zS]
    refine hd_taken 3 (some 25) _ ?hdva3 rfl rfl (by kernel_rfl) (fun _ _ _ h=>h) (Or.inl ⟨by rfl,?hdya3⟩) hS ?hdra3
    case hdya3=>(intro wx hx;(try dsimp only at hx);go_simp;try with_reducible rfl)
    try simp only [Act.put,zI,zO,zS]
    refine hd_taken 4 (some 26) _ ?hdva4 rfl rfl (by kernel_rfl) (fun _ _ _ h=>h) (Or.inl ⟨by rfl,?hdya4⟩) hS ?hdra4
    case hdya4=>(intro wx hx;(try dsimp only at hx);go_simp;try with_reducible rfl)
    try simp only [Act.put,zI,zO,zS]
    refine hd_taken 5 (some 27) _ ?hdva5 rfl rfl (by kernel_rfl) (fun _ _ _ h=>h) (Or.inl ⟨by rfl,?hdya5⟩) hS ?hdra5
    case hdya5=>(intro wx hx;(try dsimp only at hx);go_simp;try with_reducible rfl)
    try simp only [Act.put,zI,zO,zS]
    refine hd_taken 6 (some 28) _ ?hdva6 rfl rfl (by kernel_rfl) (fun _ _ _ h=>h) (Or.inl ⟨by rfl,?hdya6⟩) hS ?hdra6
    case hdya6=>(intro wx hx;(try dsimp only at hx);go_simp;try with_reducible rfl)
    try simp only [Act.put,zI,zO,zS]
    refine hd_taken 7 (some 29) _ ?hdva7 rfl rfl (by kernel_rfl) (fun _ _ _ h=>h) (Or.inl ⟨by rfl,?hdya7⟩) hS ?hdra7
    case hdya7=>(intro wx hx;(try dsimp only at hx);go_simp;try with_reducible rfl)
    try simp only [Act.put,zI,zO,zS]
    refine hd_taken 8 (some 30) _ ?hdva8 rfl rfl (by kernel_rfl) (fun _ _ _ h=>h) (Or.inl ⟨by rfl,?hdya8⟩) hS ?hdra8
    case hdya8=>(intro wx hx;(try dsimp only at hx);go_simp;try with_reducible rfl)
    try simp only [Act.put,zI,zO,zS]
    refine hd_taken 9 (some 31) _ ?hdva9 rfl rfl (by kernel_rfl) (fun _ _ _ h=>h) (Or.inl ⟨by rfl,?hdya9⟩) hS ?hdra9
    case hdya9=>(intro wx hx;(try dsimp only at hx);go_simp;try with_reducible rfl)
    try simp only [Act.put,zI,zO,zS]
    refine hd_taken 10 (some 32) _ ?hdva10 rfl rfl (by kernel_rfl) (fun _ _ _ h=>h) (Or.inl ⟨by rfl,?hdya10⟩) hS ?hdra10
    case hdya10=>(intro wx hx;(try dsimp only at hx);go_simp;try with_reducible rfl)
    try simp only [Act.put,zI,zO,zS]
    refine hd_taken 11 (some 33) _ ?hdva11 rfl rfl (by kernel_rfl) (fun _ _ _ h=>h) (Or.inl ⟨by rfl,?hdya11⟩) hS ?hdra11
    case hdya11=>(intro wx hx;(try dsimp only at hx);go_simp;try with_reducible rfl)
    try simp only [Act.put,zI,zO,zS]
    refine hd_taken 12 (some 34) _ ?hdva12 rfl rfl (by kernel_rfl) (fun _ _ _ h=>h) (Or.inl ⟨by rfl,?hdya12⟩) hS ?hdra12
    case hdya12=>(intro wx hx;(try dsimp only at hx);go_simp;try with_reducible rfl)
    try simp only [Act.put,zI,zO,zS]
    refine hd_one 13 _ rfl (by kernel_rfl) (by decide) (fun K2 hK2=>?_)
    go_simp
    refine hK2.out _ _ hS2 ?_
    obtain⟨w6,hw6⟩:∃ w6,we.setCell ⟨A.o,s,none⟩ (.int .i32 (s:Nat))=w6:=⟨_,rfl⟩
    rw [hw6] at c2 z2 PN BN ⊢
    clear hK2 K2 hS c1 z1 hw6 hS2 hwe PD BD
    try simp only [Act.put,zI,zO,zS]
    refine hd_done (by kernel_rfl) ?_
    simp only [List.drop_succ_cons,List.drop_zero]
    go_wp2
    go_roundw
    case measure=>simp [intOf]<;>omega
    case rel=>exact⟨s+1,by omega,by go_num,PN.out,BN.out⟩
   ·obtain rfl:s=n:=by omega
    have h9:¬ (s:Int)<(s:Int):=by omega
    have HQ:Hid (WholeR s w (.returned (.pointer (some ⟨A.p,0,none⟩))) wz):=Lib.hid ⟨A,vb,_,rfl,PZ.out.congr (fun i hi=>if_pos hi) (fun i hi=>if_pos hi) (fun _ _=>rfl),BZ.out⟩
    go_wp2_with fail
    go_ret
    exact HQ.out
end Go.Proofs.YtobapaodpcheiaaGreatDoor
