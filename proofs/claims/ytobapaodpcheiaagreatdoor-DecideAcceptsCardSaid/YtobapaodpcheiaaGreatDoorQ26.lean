/- What the row stands on, part 26. -/
import Derived.Test.YtobapaodpcheiaaGreatDoorQ25
namespace Go.Proofs.YtobapaodpcheiaaGreatDoor
open Go.RowKit Go.Maps
set_option linter.unusedVariables false
structure NumI (w0:World) (base g2 Bm:Nat) (v:Value) (Q:List (List Nat × Rg)) (k:Nat) (w:World):Prop where
 own:Own1 6 encAr w base 100 v Q
 map:MapN w Bm k ((Q.map Prod.snd).take k)
 box:Blk g2 35 #[.int .i64 0,.slice none 0 0,.slice none 0 0] w
 low:base≤Bm
 g2l:base≤g2
 bw:Below base w0 w
theorem NumI.below {w0 w w':World} {base g2 Bm:Nat} {v:Value} {Q:List (List Nat × Rg)} {k:Nat} (h:NumI w0 base g2 Bm v Q k w) (hb:Below w.heap.size w w'):NumI w0 base g2 Bm v Q k w':=
 ⟨own_below h.own hb,h.map.below hb,h.box.below hb,h.low,h.g2l,st h.bw hb (by have:=h.map.lt;have:=h.low;omega)⟩
def accN (ls:List (List Nat)) (x:Rg):Bool:=(decide (x.pl=1)||decide (x.pl=3))&&decide (cndN ls x.hold ls.length=1)
def AutP (ls:List (List Nat)) (f:Rg→Nat→Rg) (x0:Rg) (w:World) (e:Ending) (w':World):Prop:=
 ∃ Q:List (List Nat × Rg),Found f x0 11 2000 Q∧Q.length≤2000∧GotP (toA (rawQ f x0 (fun i=>accN ls (stQ Q x0 i)) Q)) w.heap.size Q.length e w'∧Below w.heap.size w w'
set_option maxRecDepth 1000000 in
set_option maxHeartbeats 64000000 in
theorem automaton_any (g:Nat) (l:List Rel) (ls:List (List Nat)) (p q s:Nat × Nat) (hl:∀ r∈l,OkR r) (h6:l.length≤60) (hp:ScOk p) (hq:ScOk q) (hs:ScOk s) (hls:ls.length≤60) (hss:∀ c∈ls,∀ a∈c,a<18446744073709551616) (B:Nat) (hB2:B<2000)
  (hB:∀ L:List Rg,L.Nodup→(∀ x∈L,∃ u:List Nat,(∀ c∈u,c<11)∧u.length≤2000∧runR (nxR l p q s) (stRg l 0) u=x)→L.length≤B) (w:World) (hP:RelP w g l ls p q s):
  Calls Tryz.prog 21 #[.pointer (some ⟨g,0,none⟩)] w (AutP ls (nxR l p q s) (stRg l 0) w):=by
 have hmm:=@run_makeMap Tryz.prog
 have HP:=Lib.hid hP
 have HX0:=Lib.hid (stRg_ok h6 0)
 have HB:=Lib.hid hB
 have BA:=(Below.refl w.heap.size w).alloc (Nat.le_refl _) (.cells #[.int .i64 0,.slice none 0 0,.slice none 0 0] 35)
 have KA:=Blk.new w 35 #[.int .i64 0,.slice none 0 0,.slice none 0 0]
 have HST:=Lib.hid (start_any g l ls p q s hl h6 0 _ (hP.below BA))
 have HSE:=Lib.hid (fun wx (h:RelP wx g l ls p q s)=>search_any g l ls p q s hl h6 hp hq hs (stRg l 0) (stRg_ok h6 0) (by show 0≤4;omega) 11 2000 B (by omega) (by omega) hB (by omega) wx h)
 have HCO:=Lib.hid (fun h hh wx (hx:RelP wx g l ls p q s)=>conditions_any g l ls p q s hls hss h hh wx hx)
 have HNX:=Lib.hid (fun x hx d hd wx hp'=>nextR_any g l ls p q s hl h6 hp hq hs x hx d hd wx hp')
 have HRK:=Lib.hid (runR_ok h6 hp hq hs (stRg_ok h6 0) (by show 0≤4;omega))
 obtain⟨f,hf⟩:∃ f,nxR l p q s=f:=⟨_,rfl⟩
 have HNX:Hid (∀(x:Rg) (_:RgOk x) (d:Nat) (_:d≤10) (wx:World),RelP wx g l ls p q s→Calls Tryz.prog 45 #[.pointer (some ⟨g,0,none⟩),.agg (encRg x).toArray,.int .i64 d] wx fun e w'=>e= .returned (.agg (encRg (f x d)).toArray)∧Below wx.heap.size wx w'):=Lib.hid (fun x hx d hd wx hp'=>by rw [←hf];exact HNX.out x hx d hd wx hp')
 rw [hf] at HB HRK HSE ⊢
 obtain⟨x0,hx0⟩:∃ x0,stRg l 0=x0:=⟨_,rfl⟩
 rw [hx0] at HB HRK HSE HST HX0 ⊢
 obtain⟨W0,hW0⟩:∃ W0,w.alloc (.cells #[.int .i64 0,.slice none 0 0,.slice none 0 0] 35)=W0:=⟨_,rfl⟩
 obtain⟨G,hG⟩:∃ G,w.heap.size=G:=⟨_,rfl⟩
 rw [hW0,hG] at BA KA
 rw [hW0] at HST
 have HBA:=Lib.hid BA
 have HKA:=Lib.hid KA
 have HW0:=Lib.hid hW0
 have HG:=Lib.hid hG
 have HGW:Hid (g<G):=Lib.hid (by rw [←hG];exact hP.lt)
 clear hP hl hp hq hs hls hss hf hx0 BA KA hB hW0 hG
 go_enter Tryz.func21,Tryz.ntmps21
 go_upto_region 1 with fail
 rw [HW0.out,HG.out]
 go_wp2_with fail
 refine HST.out.mono ?_
 rintro e w1 ⟨rfl,b1⟩
 have B1:=Lib.hid (st HBA.out b1 (by have:=HKA.out.lt;omega))
 have K1:=Lib.hid (HKA.out.below b1)
 have HPG:Hid (∀ wx,Below G w wx→RelP wx g l ls p q s):=Lib.hid (fun wx hb=>HP.out.below (by rw [HG.out];exact hb))
 clear b1 HST
 go_wp2_with fail
 refine(HSE.out _ (HPG.out _ B1.out)).mono ?_
 rintro e w2 ⟨v,Q,rfl,ho,hfo,b2⟩
 have hGs:G≤w1.heap.size:=by have:=K1.out.lt;omega
 have HO:=Lib.hid (ho.base hGs)
 have HFO:=Lib.hid hfo
 have B2:=Lib.hid (B1.out.trans (b2.mono hGs))
 have K2:=Lib.hid (K1.out.below b2)
 have HQB:Hid (Q.length≤B):=Lib.hid (by
  have:=HB.out (Q.map Prod.snd) hfo.nd (fun x hx=>by
   obtain⟨y,hy,rfl⟩:=List.mem_map.1 hx
   have:=hfo.run y hy
   exact⟨y.1,this.2.1,this.2.2,this.1⟩)
  rwa [List.length_map] at this)
 have HQ0:Hid (0<Q.length):=Lib.hid (by
  have:=hfo.head
  exact(List.getElem?_eq_some_iff.1 this).1)
 have HRG:Hid (∀ i (h:i<Q.length),RgOk (Q[i]'h).2∧(Q[i]'h).2.pl≤4):=Lib.hid (fun i h=>by
  have h1:=hfo.run _ (List.getElem_mem h)
  have h2:=HRK.out (Q[i]'h).1
  rw [h1.1] at h2
  exact h2)
 obtain⟨pv,cv,rfl⟩:=ho.slice
 obtain⟨N,hN⟩:∃ N,Q.length=N:=⟨_,rfl⟩
 have HN:=Lib.hid hN
 rw [hN] at HO HQB HQ0
 clear ho hfo b2 hGs HSE hN
 rw [HN.out]
 go_wp2_with fail
 have HM0:=Lib.hid (mapN_made w2)
 have BM:=Lib.hid ((Below.refl w2.heap.size w2).alloc (Nat.le_refl _) (.map #[] 0))
 obtain⟨W3,hW3⟩:∃ W3,w2.alloc (.map #[] 0)=W3:=⟨_,rfl⟩
 obtain⟨Bm,hBm⟩:∃ Bm,w2.heap.size=Bm:=⟨_,rfl⟩
 rw [hW3] at HM0 BM ⊢
 rw [hBm] at HM0 ⊢
 have HI0:Hid (NumI w G G Bm (.slice pv N cv) Q 0 W3):=Lib.hid ⟨own_below HO.out BM.out,HM0.out,K2.out.below BM.out,by rw [←hBm];have:=K2.out.lt;omega,Nat.le_refl _,st B2.out BM.out (by have:=K2.out.lt;omega)⟩
 clear B2 K2 K1 B1 HKA HBA HM0 hW3 hBm
 have hNB:N≤B:=HQB.out
 go_wp2_with fail
 go_loopw [20] (fun x wr=>∃ k:Nat,k≤N∧x= .int .i64 k∧NumI w G G Bm (.slice pv N cv) Q k wr) (fun x _=>N - (intOf x).toNat)
 case atStart=>exact⟨0,Nat.zero_le _,rfl,HI0.out⟩
 case round=>
  rename World=>wr
  obtain⟨k,hk,rfl,hni⟩:=hrel
  have HNI:=Lib.hid hni
  clear hni HI0
  by_cases hlt:k<N
  ·have t0:decide ((k:Int)<(N:Int))=true:=decide_eq_true (by omega)
   have t0':(k:Int)<(N:Int):=by omega
   have hkQ:k<Q.length:=by rw [HN.out];exact hlt
   obtain⟨b5,o5,rfl,hl5,c0,c1,c2,c3,c4,c5⟩:=(HNI.out.own.rd encAr_len).arr k hkQ
   have HKE:=Lib.hid (rgV_key (HRG.out k hkQ).1 (by have:=(HRG.out k hkQ).2;omega))
   have HNM:Hid ((Q[k]'hkQ).2 ∉(Q.map Prod.snd).take k):=Lib.hid (fun hm=>by
    have hnd:=HFO.out.nd
    obtain⟨j,hj,e⟩:=List.mem_iff_getElem.1 hm
    rw [List.length_take,List.length_map] at hj
    have hjk:=Nat.lt_of_lt_of_le hj (Nat.min_le_left _ _)
    rw [List.getElem_take] at e
    have:=(List.getElem_inj (i:=j) (j:=k) (h₀:=by rw [List.length_map];omega) (h₁:=by rw [List.length_map];exact hkQ) hnd).1 (by rw [e,List.getElem_map])
    omega)
   have HTK:Hid ((Q.map Prod.snd).take (k+1)=(Q.map Prod.snd).take k++ [(Q[k]'hkQ).2]):=Lib.hid (by
    rw [List.take_succ_eq_append_getElem (by rw [List.length_map];exact hkQ),List.getElem_map])
   have HTL:Hid (((Q.map Prod.snd).take k).length=k):=Lib.hid (by rw [List.length_take,List.length_map];exact Nat.min_eq_left (Nat.le_of_lt hkQ))
   obtain⟨⟨u,x1,x2,x3,x4,x5⟩,hqe⟩:∃ q,Q[k]'hkQ=q:=⟨_,rfl⟩
   rw [hqe] at HKE HNM HTK c0 c1 c2 c3 c4 c5
   dsimp only at HKE HNM HTK c0 c1 c2 c3 c4 c5
   have bx:=(Below.refl wr.heap.size wr).alloc (Nat.le_refl _) (.cells #[.string (ofL (chS u)),.int .i64 x1,.int .u64 x2,.int .i64 x3,.int .i64 x4,.bool x5] 100)
   have kx:=Blk.new wr 100 #[.string (ofL (chS u)),.int .i64 x1,.int .u64 x2,.int .i64 x3,.int .i64 x4,.bool x5]
   obtain⟨gx,hgx⟩:∃ gx,wr.heap.size=gx:=⟨_,rfl⟩
   obtain⟨X,hX⟩:∃ X,wr.alloc (.cells #[.string (ofL (chS u)),.int .i64 x1,.int .u64 x2,.int .i64 x3,.int .i64 x4,.bool x5] 100)=X:=⟨_,rfl⟩
   have HNX2:=Lib.hid (HNI.out.below bx)
   rw [hX] at bx kx HNX2
   rw [hgx] at kx
   have HKX:=Lib.hid kx
   have HXE:=Lib.hid hX
   obtain⟨lk,hlk⟩:=HKE.out
   obtain⟨w5,hput,mput,gput⟩:=HNX2.out.map.put (by have:=HQB.out;omega) (by rw [HTL.out];have:=HQB.out;omega) hlk HNM.out
   rw [HTL.out] at hput
   simp only [rgV,encRg] at hput
   have HI5:Hid (NumI w G G Bm (.slice (some ⟨b5,o5,none⟩) N cv) Q (k+1) w5):=Lib.hid ⟨own_mapN HNX2.out.own HNX2.out.map gput,by rw [HTK.out];exact mput,blk_mapN HNX2.out.box HNX2.out.map gput,HNX2.out.low,HNX2.out.g2l,HNX2.out.bw.grown gput (by have:=HNX2.out.map.lt;have:=HNX2.out.low;omega) (fun j e=>by injection e with e;have:=HNX2.out.low;omega)⟩
   have g1:X.cell? ⟨gx,1,none⟩=some (.int .i64 x1):=HKX.out.cell 1
   have g2_:X.cell? ⟨gx,2,none⟩=some (.int .u64 x2):=HKX.out.cell 2
   have g3:X.cell? ⟨gx,3,none⟩=some (.int .i64 x3):=HKX.out.cell 3
   have g4:X.cell? ⟨gx,4,none⟩=some (.int .i64 x4):=HKX.out.cell 4
   have g5:X.cell? ⟨gx,5,none⟩=some (.bool x5):=HKX.out.cell 5
   clear hqe kx bx hX mput gput hlk HKE HNM HTK hkQ
   go_upto_region 6 with fail
   rw [HXE.out]
   try rw [hgx]
   clear hgx c0 c1 c2 c3 c4 c5
   go_wp2
   go_roundw
   case measure=>simp [intOf];omega
   case rel=>exact⟨k+1,by omega,by go_num,HI5.out⟩
  ·obtain rfl:k=N:=by omega
   have t0:decide ((k:Int)<(k:Int))=false:=decide_eq_false (by omega)
   have t0':¬ (k:Int)<(k:Int):=by omega
   obtain⟨WS,hWS⟩:∃ n,wr.heap.size=n:=⟨_,rfl⟩
   have HWS:=Lib.hid hWS
   clear hWS
   have hmk1:∀ wx:World,(Instr.makeSlice 32 (.int .i64 (k:Int)) (.int .i64 (k:Int))).run Tryz.prog wx= .ok (.slice (some ⟨wx.heap.size,0,none⟩) k k) (wx.alloc (.cells (madeCells #[.slice none 0 0] k) 69)):=fun wx=>by
    have:=make_fn (P:=Tryz.prog) 32 69 _ 1 24 Tryz.underlying32 Tryz.infoRow (by omega) (by omega) k (by omega) wx
    rw [Nat.mul_one] at this
    exact this
   have hmk2:∀ wx:World,(Instr.makeSlice 33 (.int .i64 (k:Int)) (.int .i64 (k:Int))).run Tryz.prog wx= .ok (.slice (some ⟨wx.heap.size,0,none⟩) k k) (wx.alloc (.cells (madeCells #[.bool false] k) 4)):=fun wx=>by
    have:=make_fn (P:=Tryz.prog) 33 4 _ 1 1 Tryz.underlying33 Tryz.infoO (by omega) (by omega) k (by omega) wx
    rw [Nat.mul_one] at this
    exact this
   have HFL:Hid (∀ wx:World,Fn wx.heap.size 69 k nilF (wx.alloc (.cells (madeCells #[.slice none 0 0] k) 69))):=Lib.hid (fun wx=>(fn_made wx 69 #[.slice none 0 0] k (by decide)).congr (fun i hi=>by simp [nilF,Nat.mod_one]))
   have HFA:Hid (∀ wx:World,Fn wx.heap.size 4 k falF (wx.alloc (.cells (madeCells #[.bool false] k) 4))):=Lib.hid (fun wx=>(fn_made wx 4 #[.bool false] k (by decide)).congr (fun i hi=>by simp [falF,Nat.mod_one]))
   go_upto_region 8 with fail
   go_cut [8] from 30 to 37 (fun v8 wx=>∃ D L A:Nat,v8= .pointer (some ⟨D,0,none⟩)∧DfaS wx D L A k nilF falF WS∧Below WS wr wx)
   case first=>
    obtain⟨wd,hwd⟩:∃ wd,wr.drew=wd:=⟨_,rfl⟩
    have HB:Hid (Below WS wr wd):=Lib.hid (by rw [←HWS.out,←hwd];exact(Below.refl _ wr).drew)
    have HD:=Lib.hid hwd
    clear hwd
    refine region_hd 8 (fun _:World=>True) (by kernel_rfl) (by kernel_rfl) ?_
    rw [HD.out]
    refine hd_taken 0 (some 30) _ ?hdvq0 rfl rfl (by kernel_rfl) (fun _ _ _ h=>h) (Or.inl ⟨by kernel_rfl,?hdyq0⟩) trivial ?hdrq0
    case hdyq0=>(intro wx hx;(try dsimp only at hx);go_simp;try with_reducible rfl)
    try simp only [Act.put,zI,zO,zS]
    refine hd_taken 1 (some 31) _ ?hdvq1 rfl rfl (by kernel_rfl) (fun _ _ _ h=>h) (Or.inl ⟨by kernel_rfl,?hdyq1⟩) trivial ?hdrq1
    case hdyq1=>(intro wx hx;(try dsimp only at hx);go_simp;try with_reducible rfl)
    try simp only [Act.put,zI,zO,zS]
    refine hd_taken 3 (some 33) _ ?hdvq3 rfl rfl (by kernel_rfl) (fun _ _ _ h=>h) (Or.inl ⟨by kernel_rfl,?hdyq3⟩) trivial ?hdrq3
    case hdyq3=>(intro wx hx;(try dsimp only at hx);go_simp;try with_reducible rfl)
    try simp only [Act.put,zI,zO,zS]
    refine hd_taken 4 (some 34) _ ?hdvq4 rfl rfl (by kernel_rfl) (fun _ _ _ h=>h) (Or.inl ⟨by kernel_rfl,?hdyq4⟩) trivial ?hdrq4
    case hdyq4=>(intro wx hx;(try dsimp only at hx);go_simp;try with_reducible rfl)
    try simp only [Act.put,zI,zO,zS]
    refine hd_listI [2,5,7] (by kernel_rfl) (by decide) (by decide) (fun i hi=>?_)
    simp only [List.mem_cons,List.not_mem_nil,or_false] at hi
    rcases hi with rfl|rfl|rfl
    ·refine⟨_,rfl,fun K2 hK2=>?_⟩
     go_simp
     obtain⟨x2,hx2⟩:∃ wx,wd.alloc (.cells (madeCells #[.slice none 0 0] k) 69)=wx:=⟨_,rfl⟩
     have b2:=(Below.refl wd.heap.size wd).alloc (Nat.le_refl _) (.cells (madeCells #[.slice none 0 0] k) 69)
     have f2:=HFL.out wd
     rw [hx2] at b2 f2 ⊢
     obtain⟨B2,hB2⟩:∃ B,wd.heap.size=B:=⟨_,rfl⟩
     have L2:Hid (WS≤B2):=Lib.hid (by have:=HB.out.size;have:=HWS.out;omega)
     have HB:=Lib.hid (HB.out.trans (b2.mono (by have:=HB.out.size;have:=HWS.out;omega)))
     rw [hB2] at f2 ⊢
     have F2:=Lib.hid f2
     clear hx2 b2 f2 hB2
     refine hK2.out _ _ trivial ?_
     clear hK2 K2
     try simp only [Act.put,zI,zO,zS]
     refine hd_listI [5,7] (by kernel_rfl) (by decide) (by decide) (fun i hi=>?_)
     simp only [List.mem_cons,List.not_mem_nil,or_false] at hi
     rcases hi with rfl|rfl
     ·refine⟨_,rfl,fun K5 hK5=>?_⟩
      go_simp
      obtain⟨x5,hx5⟩:∃ wx,x2.alloc (.cells (madeCells #[.bool false] k) 4)=wx:=⟨_,rfl⟩
      have b5:=(Below.refl x2.heap.size x2).alloc (Nat.le_refl _) (.cells (madeCells #[.bool false] k) 4)
      have f5:=HFA.out x2
      rw [hx5] at b5 f5 ⊢
      obtain⟨B5,hB5⟩:∃ B,x2.heap.size=B:=⟨_,rfl⟩
      have L5:Hid (WS≤B5):=Lib.hid (by have:=HB.out.size;have:=HWS.out;omega)
      have HB:=Lib.hid (HB.out.trans (b5.mono (by have:=HB.out.size;have:=HWS.out;omega)))
      have F2:=Lib.hid (F2.out.below b5)
      rw [hB5] at f5 ⊢
      have F5:=Lib.hid f5
      clear hx5 b5 f5 hB5
      refine hK5.out _ _ trivial ?_
      clear hK5 K5
      try simp only [Act.put,zI,zO,zS]
      refine hd_taken 6 (some 36) _ ?hdvr16 rfl rfl (by kernel_rfl) (fun _ _ _ h=>h) (Or.inl ⟨by kernel_rfl,?hdyr16⟩) trivial ?hdrr16
      case hdyr16=>(intro wx hx;(try dsimp only at hx);go_simp;try with_reducible rfl)
      try simp only [Act.put,zI,zO,zS]
      refine hd_listI [7] (by kernel_rfl) (by decide) (by decide) (fun i hi=>?_)
      simp only [List.mem_cons,List.not_mem_nil,or_false] at hi
      subst hi
      refine⟨_,rfl,fun K7 hK7=>?_⟩
      go_simp
      obtain⟨x7,hx7⟩:∃ wx,x5.alloc (.cells #[.int .i64 0,.slice none 0 0,.slice none 0 0] 35)=wx:=⟨_,rfl⟩
      have b7:=(Below.refl x5.heap.size x5).alloc (Nat.le_refl _) (.cells #[.int .i64 0,.slice none 0 0,.slice none 0 0] 35)
      have f7:=Blk.new x5 35 #[.int .i64 0,.slice none 0 0,.slice none 0 0]
      rw [hx7] at b7 f7 ⊢
      obtain⟨B7,hB7⟩:∃ B,x5.heap.size=B:=⟨_,rfl⟩
      have L7:Hid (WS≤B7):=Lib.hid (by have:=HB.out.size;have:=HWS.out;omega)
      have HB:=Lib.hid (HB.out.trans (b7.mono (by have:=HB.out.size;have:=HWS.out;omega)))
      have F2:=Lib.hid (F2.out.below b7)
      have F5:=Lib.hid (F5.out.below b7)
      rw [hB7] at f7 ⊢
      have F7:=Lib.hid f7
      clear hx7 b7 f7 hB7
      refine hK7.out _ _ trivial ?_
      clear hK7 K7
      try simp only [Act.put,zI,zO,zS]
      refine hd_done (by kernel_rfl) ?_
      simp only [List.drop_succ_cons,List.drop_zero]
      have d0:x7.cell? ⟨B7,0,none⟩=some (.int .i64 0):=F7.out.cell 0
      have fz0:x7.frozen? ⟨B7,0,none⟩=false:=F7.out.frozen 0
      have d1:x7.cell? ⟨B7,1,none⟩=some (.slice none 0 0):=F7.out.cell 1
      have fz1:x7.frozen? ⟨B7,1,none⟩=false:=F7.out.frozen 1
      have d2:x7.cell? ⟨B7,2,none⟩=some (.slice none 0 0):=F7.out.cell 2
      have fz2:x7.frozen? ⟨B7,2,none⟩=false:=F7.out.frozen 2
      have HZ:=Lib.hid (dfa_leaf HB.out F7.out F2.out F5.out L7.out L2.out L5.out)
      clear HB F7 F2 F5 L7 L2 L5
      go_wp2_with fail
      go_meet
      exact⟨B7,B2,B5,rfl,HZ.out.1,HZ.out.2⟩
     ·refine⟨_,rfl,fun K7 hK7=>?_⟩
      go_simp
      obtain⟨x7,hx7⟩:∃ wx,x2.alloc (.cells #[.int .i64 0,.slice none 0 0,.slice none 0 0] 35)=wx:=⟨_,rfl⟩
      have b7:=(Below.refl x2.heap.size x2).alloc (Nat.le_refl _) (.cells #[.int .i64 0,.slice none 0 0,.slice none 0 0] 35)
      have f7:=Blk.new x2 35 #[.int .i64 0,.slice none 0 0,.slice none 0 0]
      rw [hx7] at b7 f7 ⊢
      obtain⟨B7,hB7⟩:∃ B,x2.heap.size=B:=⟨_,rfl⟩
      have L7:Hid (WS≤B7):=Lib.hid (by have:=HB.out.size;have:=HWS.out;omega)
      have HB:=Lib.hid (HB.out.trans (b7.mono (by have:=HB.out.size;have:=HWS.out;omega)))
      have F2:=Lib.hid (F2.out.below b7)
      rw [hB7] at f7 ⊢
      have F7:=Lib.hid f7
      clear hx7 b7 f7 hB7
      refine hK7.out _ _ trivial ?_
      clear hK7 K7
      try simp only [Act.put,zI,zO,zS]
      refine hd_listI [5] (by kernel_rfl) (by decide) (by decide) (fun i hi=>?_)
      simp only [List.mem_cons,List.not_mem_nil,or_false] at hi
      subst hi
      refine⟨_,rfl,fun K5 hK5=>?_⟩
      go_simp
      obtain⟨x5,hx5⟩:∃ wx,x7.alloc (.cells (madeCells #[.bool false] k) 4)=wx:=⟨_,rfl⟩
      have b5:=(Below.refl x7.heap.size x7).alloc (Nat.le_refl _) (.cells (madeCells #[.bool false] k) 4)
      have f5:=HFA.out x7
      rw [hx5] at b5 f5 ⊢
      obtain⟨B5,hB5⟩:∃ B,x7.heap.size=B:=⟨_,rfl⟩
      have L5:Hid (WS≤B5):=Lib.hid (by have:=HB.out.size;have:=HWS.out;omega)
      have HB:=Lib.hid (HB.out.trans (b5.mono (by have:=HB.out.size;have:=HWS.out;omega)))
      have F2:=Lib.hid (F2.out.below b5)
      have F7:=Lib.hid (F7.out.below b5)
      rw [hB5] at f5 ⊢
      have F5:=Lib.hid f5
      clear hx5 b5 f5 hB5
      refine hK5.out _ _ trivial ?_
      clear hK5 K5
      try simp only [Act.put,zI,zO,zS]
      refine hd_taken 6 (some 36) _ ?hdvr26 rfl rfl (by kernel_rfl) (fun _ _ _ h=>h) (Or.inl ⟨by kernel_rfl,?hdyr26⟩) trivial ?hdrr26
      case hdyr26=>(intro wx hx;(try dsimp only at hx);go_simp;try with_reducible rfl)
      try simp only [Act.put,zI,zO,zS]
      refine hd_done (by kernel_rfl) ?_
      simp only [List.drop_succ_cons,List.drop_zero]
      have d0:x5.cell? ⟨B7,0,none⟩=some (.int .i64 0):=F7.out.cell 0
      have fz0:x5.frozen? ⟨B7,0,none⟩=false:=F7.out.frozen 0
      have d1:x5.cell? ⟨B7,1,none⟩=some (.slice none 0 0):=F7.out.cell 1
      have fz1:x5.frozen? ⟨B7,1,none⟩=false:=F7.out.frozen 1
      have d2:x5.cell? ⟨B7,2,none⟩=some (.slice none 0 0):=F7.out.cell 2
      have fz2:x5.frozen? ⟨B7,2,none⟩=false:=F7.out.frozen 2
      have HZ:=Lib.hid (dfa_leaf HB.out F7.out F2.out F5.out L7.out L2.out L5.out)
      clear HB F7 F2 F5 L7 L2 L5
      go_wp2_with fail
      go_meet
      exact⟨B7,B2,B5,rfl,HZ.out.1,HZ.out.2⟩
    ·refine⟨_,rfl,fun K5 hK5=>?_⟩
     go_simp
     obtain⟨x5,hx5⟩:∃ wx,wd.alloc (.cells (madeCells #[.bool false] k) 4)=wx:=⟨_,rfl⟩
     have b5:=(Below.refl wd.heap.size wd).alloc (Nat.le_refl _) (.cells (madeCells #[.bool false] k) 4)
     have f5:=HFA.out wd
     rw [hx5] at b5 f5 ⊢
     obtain⟨B5,hB5⟩:∃ B,wd.heap.size=B:=⟨_,rfl⟩
     have L5:Hid (WS≤B5):=Lib.hid (by have:=HB.out.size;have:=HWS.out;omega)
     have HB:=Lib.hid (HB.out.trans (b5.mono (by have:=HB.out.size;have:=HWS.out;omega)))
     rw [hB5] at f5 ⊢
     have F5:=Lib.hid f5
     clear hx5 b5 f5 hB5
     refine hK5.out _ _ trivial ?_
     clear hK5 K5
     try simp only [Act.put,zI,zO,zS]
     refine hd_listI [2,7] (by kernel_rfl) (by decide) (by decide) (fun i hi=>?_)
     simp only [List.mem_cons,List.not_mem_nil,or_false] at hi
     rcases hi with rfl|rfl
     ·refine⟨_,rfl,fun K2 hK2=>?_⟩
      go_simp
      obtain⟨x2,hx2⟩:∃ wx,x5.alloc (.cells (madeCells #[.slice none 0 0] k) 69)=wx:=⟨_,rfl⟩
      have b2:=(Below.refl x5.heap.size x5).alloc (Nat.le_refl _) (.cells (madeCells #[.slice none 0 0] k) 69)
      have f2:=HFL.out x5
      rw [hx2] at b2 f2 ⊢
      obtain⟨B2,hB2⟩:∃ B,x5.heap.size=B:=⟨_,rfl⟩
      have L2:Hid (WS≤B2):=Lib.hid (by have:=HB.out.size;have:=HWS.out;omega)
      have HB:=Lib.hid (HB.out.trans (b2.mono (by have:=HB.out.size;have:=HWS.out;omega)))
      have F5:=Lib.hid (F5.out.below b2)
      rw [hB2] at f2 ⊢
      have F2:=Lib.hid f2
      clear hx2 b2 f2 hB2
      refine hK2.out _ _ trivial ?_
      clear hK2 K2
      try simp only [Act.put,zI,zO,zS]
      refine hd_taken 6 (some 36) _ ?hdvr36 rfl rfl (by kernel_rfl) (fun _ _ _ h=>h) (Or.inl ⟨by kernel_rfl,?hdyr36⟩) trivial ?hdrr36
      case hdyr36=>(intro wx hx;(try dsimp only at hx);go_simp;try with_reducible rfl)
      try simp only [Act.put,zI,zO,zS]
      refine hd_listI [7] (by kernel_rfl) (by decide) (by decide) (fun i hi=>?_)
      simp only [List.mem_cons,List.not_mem_nil,or_false] at hi
      subst hi
      refine⟨_,rfl,fun K7 hK7=>?_⟩
      go_simp
      obtain⟨x7,hx7⟩:∃ wx,x2.alloc (.cells #[.int .i64 0,.slice none 0 0,.slice none 0 0] 35)=wx:=⟨_,rfl⟩
      have b7:=(Below.refl x2.heap.size x2).alloc (Nat.le_refl _) (.cells #[.int .i64 0,.slice none 0 0,.slice none 0 0] 35)
      have f7:=Blk.new x2 35 #[.int .i64 0,.slice none 0 0,.slice none 0 0]
      rw [hx7] at b7 f7 ⊢
      obtain⟨B7,hB7⟩:∃ B,x2.heap.size=B:=⟨_,rfl⟩
      have L7:Hid (WS≤B7):=Lib.hid (by have:=HB.out.size;have:=HWS.out;omega)
      have HB:=Lib.hid (HB.out.trans (b7.mono (by have:=HB.out.size;have:=HWS.out;omega)))
      have F5:=Lib.hid (F5.out.below b7)
      have F2:=Lib.hid (F2.out.below b7)
      rw [hB7] at f7 ⊢
      have F7:=Lib.hid f7
      clear hx7 b7 f7 hB7
      refine hK7.out _ _ trivial ?_
      clear hK7 K7
      try simp only [Act.put,zI,zO,zS]
      refine hd_done (by kernel_rfl) ?_
      simp only [List.drop_succ_cons,List.drop_zero]
      have d0:x7.cell? ⟨B7,0,none⟩=some (.int .i64 0):=F7.out.cell 0
      have fz0:x7.frozen? ⟨B7,0,none⟩=false:=F7.out.frozen 0
      have d1:x7.cell? ⟨B7,1,none⟩=some (.slice none 0 0):=F7.out.cell 1
      have fz1:x7.frozen? ⟨B7,1,none⟩=false:=F7.out.frozen 1
      have d2:x7.cell? ⟨B7,2,none⟩=some (.slice none 0 0):=F7.out.cell 2
      have fz2:x7.frozen? ⟨B7,2,none⟩=false:=F7.out.frozen 2
      have HZ:=Lib.hid (dfa_leaf HB.out F7.out F2.out F5.out L7.out L2.out L5.out)
      clear HB F7 F2 F5 L7 L2 L5
      go_wp2_with fail
      go_meet
      exact⟨B7,B2,B5,rfl,HZ.out.1,HZ.out.2⟩
     ·refine⟨_,rfl,fun K7 hK7=>?_⟩
      go_simp
      obtain⟨x7,hx7⟩:∃ wx,x5.alloc (.cells #[.int .i64 0,.slice none 0 0,.slice none 0 0] 35)=wx:=⟨_,rfl⟩
      have b7:=(Below.refl x5.heap.size x5).alloc (Nat.le_refl _) (.cells #[.int .i64 0,.slice none 0 0,.slice none 0 0] 35)
      have f7:=Blk.new x5 35 #[.int .i64 0,.slice none 0 0,.slice none 0 0]
      rw [hx7] at b7 f7 ⊢
      obtain⟨B7,hB7⟩:∃ B,x5.heap.size=B:=⟨_,rfl⟩
      have L7:Hid (WS≤B7):=Lib.hid (by have:=HB.out.size;have:=HWS.out;omega)
      have HB:=Lib.hid (HB.out.trans (b7.mono (by have:=HB.out.size;have:=HWS.out;omega)))
      have F5:=Lib.hid (F5.out.below b7)
      rw [hB7] at f7 ⊢
      have F7:=Lib.hid f7
      clear hx7 b7 f7 hB7
      refine hK7.out _ _ trivial ?_
      clear hK7 K7
      try simp only [Act.put,zI,zO,zS]
      refine hd_listI [2] (by kernel_rfl) (by decide) (by decide) (fun i hi=>?_)
      simp only [List.mem_cons,List.not_mem_nil,or_false] at hi
      subst hi
      refine⟨_,rfl,fun K2 hK2=>?_⟩
      go_simp
      obtain⟨x2,hx2⟩:∃ wx,x7.alloc (.cells (madeCells #[.slice none 0 0] k) 69)=wx:=⟨_,rfl⟩
      have b2:=(Below.refl x7.heap.size x7).alloc (Nat.le_refl _) (.cells (madeCells #[.slice none 0 0] k) 69)
      have f2:=HFL.out x7
      rw [hx2] at b2 f2 ⊢
      obtain⟨B2,hB2⟩:∃ B,x7.heap.size=B:=⟨_,rfl⟩
      have L2:Hid (WS≤B2):=Lib.hid (by have:=HB.out.size;have:=HWS.out;omega)
      have HB:=Lib.hid (HB.out.trans (b2.mono (by have:=HB.out.size;have:=HWS.out;omega)))
      have F5:=Lib.hid (F5.out.below b2)
      have F7:=Lib.hid (F7.out.below b2)
      rw [hB2] at f2 ⊢
      have F2:=Lib.hid f2
      clear hx2 b2 f2 hB2
      refine hK2.out _ _ trivial ?_
      clear hK2 K2
      try simp only [Act.put,zI,zO,zS]
      refine hd_taken 6 (some 36) _ ?hdvr46 rfl rfl (by kernel_rfl) (fun _ _ _ h=>h) (Or.inl ⟨by kernel_rfl,?hdyr46⟩) trivial ?hdrr46
      case hdyr46=>(intro wx hx;(try dsimp only at hx);go_simp;try with_reducible rfl)
      try simp only [Act.put,zI,zO,zS]
      refine hd_done (by kernel_rfl) ?_
      simp only [List.drop_succ_cons,List.drop_zero]
      have d0:x2.cell? ⟨B7,0,none⟩=some (.int .i64 0):=F7.out.cell 0
      have fz0:x2.frozen? ⟨B7,0,none⟩=false:=F7.out.frozen 0
      have d1:x2.cell? ⟨B7,1,none⟩=some (.slice none 0 0):=F7.out.cell 1
      have fz1:x2.frozen? ⟨B7,1,none⟩=false:=F7.out.frozen 1
      have d2:x2.cell? ⟨B7,2,none⟩=some (.slice none 0 0):=F7.out.cell 2
      have fz2:x2.frozen? ⟨B7,2,none⟩=false:=F7.out.frozen 2
      have HZ:=Lib.hid (dfa_leaf HB.out F7.out F2.out F5.out L7.out L2.out L5.out)
      clear HB F7 F2 F5 L7 L2 L5
      go_wp2_with fail
      go_meet
      exact⟨B7,B2,B5,rfl,HZ.out.1,HZ.out.2⟩
    ·refine⟨_,rfl,fun K7 hK7=>?_⟩
     go_simp
     obtain⟨x7,hx7⟩:∃ wx,wd.alloc (.cells #[.int .i64 0,.slice none 0 0,.slice none 0 0] 35)=wx:=⟨_,rfl⟩
     have b7:=(Below.refl wd.heap.size wd).alloc (Nat.le_refl _) (.cells #[.int .i64 0,.slice none 0 0,.slice none 0 0] 35)
     have f7:=Blk.new wd 35 #[.int .i64 0,.slice none 0 0,.slice none 0 0]
     rw [hx7] at b7 f7 ⊢
     obtain⟨B7,hB7⟩:∃ B,wd.heap.size=B:=⟨_,rfl⟩
     have L7:Hid (WS≤B7):=Lib.hid (by have:=HB.out.size;have:=HWS.out;omega)
     have HB:=Lib.hid (HB.out.trans (b7.mono (by have:=HB.out.size;have:=HWS.out;omega)))
     rw [hB7] at f7 ⊢
     have F7:=Lib.hid f7
     clear hx7 b7 f7 hB7
     refine hK7.out _ _ trivial ?_
     clear hK7 K7
     try simp only [Act.put,zI,zO,zS]
     refine hd_listI [2,5] (by kernel_rfl) (by decide) (by decide) (fun i hi=>?_)
     simp only [List.mem_cons,List.not_mem_nil,or_false] at hi
     rcases hi with rfl|rfl
     ·refine⟨_,rfl,fun K2 hK2=>?_⟩
      go_simp
      obtain⟨x2,hx2⟩:∃ wx,x7.alloc (.cells (madeCells #[.slice none 0 0] k) 69)=wx:=⟨_,rfl⟩
      have b2:=(Below.refl x7.heap.size x7).alloc (Nat.le_refl _) (.cells (madeCells #[.slice none 0 0] k) 69)
      have f2:=HFL.out x7
      rw [hx2] at b2 f2 ⊢
      obtain⟨B2,hB2⟩:∃ B,x7.heap.size=B:=⟨_,rfl⟩
      have L2:Hid (WS≤B2):=Lib.hid (by have:=HB.out.size;have:=HWS.out;omega)
      have HB:=Lib.hid (HB.out.trans (b2.mono (by have:=HB.out.size;have:=HWS.out;omega)))
      have F7:=Lib.hid (F7.out.below b2)
      rw [hB2] at f2 ⊢
      have F2:=Lib.hid f2
      clear hx2 b2 f2 hB2
      refine hK2.out _ _ trivial ?_
      clear hK2 K2
      try simp only [Act.put,zI,zO,zS]
      refine hd_listI [5] (by kernel_rfl) (by decide) (by decide) (fun i hi=>?_)
      simp only [List.mem_cons,List.not_mem_nil,or_false] at hi
      subst hi
      refine⟨_,rfl,fun K5 hK5=>?_⟩
      go_simp
      obtain⟨x5,hx5⟩:∃ wx,x2.alloc (.cells (madeCells #[.bool false] k) 4)=wx:=⟨_,rfl⟩
      have b5:=(Below.refl x2.heap.size x2).alloc (Nat.le_refl _) (.cells (madeCells #[.bool false] k) 4)
      have f5:=HFA.out x2
      rw [hx5] at b5 f5 ⊢
      obtain⟨B5,hB5⟩:∃ B,x2.heap.size=B:=⟨_,rfl⟩
      have L5:Hid (WS≤B5):=Lib.hid (by have:=HB.out.size;have:=HWS.out;omega)
      have HB:=Lib.hid (HB.out.trans (b5.mono (by have:=HB.out.size;have:=HWS.out;omega)))
      have F7:=Lib.hid (F7.out.below b5)
      have F2:=Lib.hid (F2.out.below b5)
      rw [hB5] at f5 ⊢
      have F5:=Lib.hid f5
      clear hx5 b5 f5 hB5
      refine hK5.out _ _ trivial ?_
      clear hK5 K5
      try simp only [Act.put,zI,zO,zS]
      refine hd_taken 6 (some 36) _ ?hdvr56 rfl rfl (by kernel_rfl) (fun _ _ _ h=>h) (Or.inl ⟨by kernel_rfl,?hdyr56⟩) trivial ?hdrr56
      case hdyr56=>(intro wx hx;(try dsimp only at hx);go_simp;try with_reducible rfl)
      try simp only [Act.put,zI,zO,zS]
      refine hd_done (by kernel_rfl) ?_
      simp only [List.drop_succ_cons,List.drop_zero]
      have d0:x5.cell? ⟨B7,0,none⟩=some (.int .i64 0):=F7.out.cell 0
      have fz0:x5.frozen? ⟨B7,0,none⟩=false:=F7.out.frozen 0
      have d1:x5.cell? ⟨B7,1,none⟩=some (.slice none 0 0):=F7.out.cell 1
      have fz1:x5.frozen? ⟨B7,1,none⟩=false:=F7.out.frozen 1
      have d2:x5.cell? ⟨B7,2,none⟩=some (.slice none 0 0):=F7.out.cell 2
      have fz2:x5.frozen? ⟨B7,2,none⟩=false:=F7.out.frozen 2
      have HZ:=Lib.hid (dfa_leaf HB.out F7.out F2.out F5.out L7.out L2.out L5.out)
      clear HB F7 F2 F5 L7 L2 L5
      go_wp2_with fail
      go_meet
      exact⟨B7,B2,B5,rfl,HZ.out.1,HZ.out.2⟩
     ·refine⟨_,rfl,fun K5 hK5=>?_⟩
      go_simp
      obtain⟨x5,hx5⟩:∃ wx,x7.alloc (.cells (madeCells #[.bool false] k) 4)=wx:=⟨_,rfl⟩
      have b5:=(Below.refl x7.heap.size x7).alloc (Nat.le_refl _) (.cells (madeCells #[.bool false] k) 4)
      have f5:=HFA.out x7
      rw [hx5] at b5 f5 ⊢
      obtain⟨B5,hB5⟩:∃ B,x7.heap.size=B:=⟨_,rfl⟩
      have L5:Hid (WS≤B5):=Lib.hid (by have:=HB.out.size;have:=HWS.out;omega)
      have HB:=Lib.hid (HB.out.trans (b5.mono (by have:=HB.out.size;have:=HWS.out;omega)))
      have F7:=Lib.hid (F7.out.below b5)
      rw [hB5] at f5 ⊢
      have F5:=Lib.hid f5
      clear hx5 b5 f5 hB5
      refine hK5.out _ _ trivial ?_
      clear hK5 K5
      try simp only [Act.put,zI,zO,zS]
      refine hd_listI [2] (by kernel_rfl) (by decide) (by decide) (fun i hi=>?_)
      simp only [List.mem_cons,List.not_mem_nil,or_false] at hi
      subst hi
      refine⟨_,rfl,fun K2 hK2=>?_⟩
      go_simp
      obtain⟨x2,hx2⟩:∃ wx,x5.alloc (.cells (madeCells #[.slice none 0 0] k) 69)=wx:=⟨_,rfl⟩
      have b2:=(Below.refl x5.heap.size x5).alloc (Nat.le_refl _) (.cells (madeCells #[.slice none 0 0] k) 69)
      have f2:=HFL.out x5
      rw [hx2] at b2 f2 ⊢
      obtain⟨B2,hB2⟩:∃ B,x5.heap.size=B:=⟨_,rfl⟩
      have L2:Hid (WS≤B2):=Lib.hid (by have:=HB.out.size;have:=HWS.out;omega)
      have HB:=Lib.hid (HB.out.trans (b2.mono (by have:=HB.out.size;have:=HWS.out;omega)))
      have F7:=Lib.hid (F7.out.below b2)
      have F5:=Lib.hid (F5.out.below b2)
      rw [hB2] at f2 ⊢
      have F2:=Lib.hid f2
      clear hx2 b2 f2 hB2
      refine hK2.out _ _ trivial ?_
      clear hK2 K2
      try simp only [Act.put,zI,zO,zS]
      refine hd_taken 6 (some 36) _ ?hdvr66 rfl rfl (by kernel_rfl) (fun _ _ _ h=>h) (Or.inl ⟨by kernel_rfl,?hdyr66⟩) trivial ?hdrr66
      case hdyr66=>(intro wx hx;(try dsimp only at hx);go_simp;try with_reducible rfl)
      try simp only [Act.put,zI,zO,zS]
      refine hd_done (by kernel_rfl) ?_
      simp only [List.drop_succ_cons,List.drop_zero]
      have d0:x2.cell? ⟨B7,0,none⟩=some (.int .i64 0):=F7.out.cell 0
      have fz0:x2.frozen? ⟨B7,0,none⟩=false:=F7.out.frozen 0
      have d1:x2.cell? ⟨B7,1,none⟩=some (.slice none 0 0):=F7.out.cell 1
      have fz1:x2.frozen? ⟨B7,1,none⟩=false:=F7.out.frozen 1
      have d2:x2.cell? ⟨B7,2,none⟩=some (.slice none 0 0):=F7.out.cell 2
      have fz2:x2.frozen? ⟨B7,2,none⟩=false:=F7.out.frozen 2
      have HZ:=Lib.hid (dfa_leaf HB.out F7.out F2.out F5.out L7.out L2.out L5.out)
      clear HB F7 F2 F5 L7 L2 L5
      go_wp2_with fail
      go_meet
      exact⟨B7,B2,B5,rfl,HZ.out.1,HZ.out.2⟩
   case rest=>
    rename World=>wq
    obtain⟨D,L,A,rfl,hd,hbq⟩:=hcut
    have hbq':Below wr.heap.size wr wq:=by rw [HWS.out];exact hbq
    have HE:Hid (InI f Q x0 (fun i=>accN ls (stQ Q x0 i)) w G G Bm WS D L A k (.slice pv k cv) 0 0 (fun _=>⟨none,0,0⟩) (.slice none 0 0) wq.heap.size wq):=Lib.hid (by
     have z1:=HNI.out.map.lt
     have z2:=HNI.out.low
     have z3:=HWS.out
     have z4:=hbq'.size
     have hm:=HNI.out.map.below hbq'
     rw [List.take_of_length_le (by rw [List.length_map,HN.out];exact Nat.le_refl _)] at hm
     refine⟨own_below HNI.out.own hbq',hm,HNI.out.box.below hbq',⟨hd.box,hd.rows.congr (fun i hi=>?_),hd.acc.congr (fun i hi=>?_),hd.low,hd.lowL,hd.lowA⟩,fun i hi=>absurd hi (by omega),own1_nil _ _ _,st HNI.out.bw hbq' (by omega),fun b e=>(own_lt (own_below HNI.out.own hbq') b e).2,hm.lt,(HNI.out.box.below hbq').lt,hd.box.lt,hd.rows.lt,hd.acc.lt,by omega,by omega,Nat.le_refl _⟩
     ·show nilF i=rowF _ 0 _ i
      unfold rowF nilF
      rw [if_neg (by omega)]
      split<;>rfl
     ·show falF i=accF _ 0 i
      unfold accF falF
      rw [if_neg (by omega)])
    have HCL:Hid (∀ i (hi:i<Q.length) c,c<11→f (Q[i]'hi).2 c∈Q.map Prod.snd):=Lib.hid (fun i hi c hc=>found_closed HFO.out (by have:=HQB.out;have:=HN.out;omega) (List.getElem_mem hi) hc)
    clear hd hbq hbq' HNI HWS HFL HFA hmk1 hmk2
    go_wp2_with fail
    go_loopw [39] (fun x wr=>∃(i bs:Nat) (F:Nat→RawS),i≤k∧x= .int .i64 i∧InI f Q x0 (fun i=>accN ls (stQ Q x0 i)) w G G Bm WS D L A k (.slice pv k cv) i 0 F (.slice none 0 0) bs wr) (fun x _=>k - (intOf x).toNat)
    case atStart=>exact⟨0,_,_,Nat.zero_le _,rfl,HE.out⟩
    case round=>
     rename World=>wo
     obtain⟨i,bs,F,hi,rfl,hni⟩:=hrel
     have HII:=Lib.hid hni
     clear hni HE
     by_cases hlt:i<k
     ·have t1:decide ((i:Int)<(k:Int))=true:=decide_eq_true (by omega)
      have t1':(i:Int)<(k:Int):=by omega
      have hkQ:i<Q.length:=by rw [HN.out];exact hlt
      obtain⟨b5,o5,rfl,hl5,c0,c1,c2,c3,c4,c5⟩:=(HII.out.own.rd encAr_len).arr i hkQ
      have HRI:=Lib.hid (HRG.out i hkQ)
      have HCI:=Lib.hid (HCL.out i hkQ)
      have HSQ:=Lib.hid (stQ_get (x0:=x0) hkQ)
      obtain⟨⟨u,x1,x2,x3,x4,x5⟩,hqe⟩:∃ q,Q[i]'hkQ=q:=⟨_,rfl⟩
      rw [hqe] at HRI HCI HSQ c0 c1 c2 c3 c4 c5
      dsimp only at HRI HCI HSQ c0 c1 c2 c3 c4 c5
      have bx:=(Below.refl wo.heap.size wo).alloc (Nat.le_refl _) (.cells #[.string (ofL (chS u)),.int .i64 x1,.int .u64 x2,.int .i64 x3,.int .i64 x4,.bool x5] 100)
      have kx:=Blk.new wo 100 #[.string (ofL (chS u)),.int .i64 x1,.int .u64 x2,.int .i64 x3,.int .i64 x4,.bool x5]
      obtain⟨gx,hgx⟩:∃ gx,wo.heap.size=gx:=⟨_,rfl⟩
      obtain⟨X,hX⟩:∃ X,wo.alloc (.cells #[.string (ofL (chS u)),.int .i64 x1,.int .u64 x2,.int .i64 x3,.int .i64 x4,.bool x5] 100)=X:=⟨_,rfl⟩
      have hix:=HII.out.below bx
      rw [hX] at bx kx hix
      rw [hgx] at kx
      have HKX:=Lib.hid kx
      obtain⟨BS,hBS⟩:∃ BS,X.heap.size=BS:=⟨_,rfl⟩
      have HGX:Hid (gx<BS):=Lib.hid (by rw [←hBS];exact kx.lt)
      have HIX:=Lib.hid (hix.start (bs':=BS) (by rw [←hBS];exact hix.ls) (by rw [hBS];exact Nat.le_refl _))
      have HXE:=Lib.hid hX
      clear hqe kx bx hX hix hBS
      go_upto_region 11 with fail
      go_upto_region 12 with fail
      rw [HXE.out]
      try rw [hgx]
      clear hgx c0 c1 c2 c3 c4 c5 HXE
      go_wp2_with fail
      go_loopw [44] (fun x wr=>∃(c:Nat) (v:Value),c≤11∧x= .int .i64 c∧InI f Q x0 (fun i=>accN ls (stQ Q x0 i)) w G G Bm WS D L A k (.slice (some ⟨b5,o5,none⟩) k cv) i c F v BS wr∧Blk gx 100 #[.string (ofL (chS u)),.int .i64 x1,.int .u64 x2,.int .i64 x3,.int .i64 x4,.bool x5] wr) (fun x _=>11 - (intOf x).toNat)
      case atStart=>exact⟨0,_,Nat.zero_le _,rfl,HIX.out,HKX.out⟩
      case round=>
       rename World=>w5
       obtain⟨c,v,hc,rfl,hni,hkx⟩:=hrel
       have HI:=Lib.hid hni
       have HK:=Lib.hid hkx
       clear hni hkx HIX HKX
       by_cases hct:c<11
       ·have t2:decide ((c:Int)<11)=true:=decide_eq_true (by omega)
        have t2':(c:Int)<11:=by omega
        have HNC:Hid (∀ wx,Below G w wx→Calls Tryz.prog 45 #[.pointer (some ⟨g,0,none⟩),.agg (encRg ⟨x1,x2,x3,x4,x5⟩).toArray,.int .i64 c] wx fun e w'=>e= .returned (.agg (encRg (f ⟨x1,x2,x3,x4,x5⟩ c)).toArray)∧Below wx.heap.size wx w'):=Lib.hid (fun wx hb=>HNX.out _ HRI.out.1 c (by omega) wx (HPG.out wx hb))
        have HY2:=Lib.hid (nIx_get (HCI.out c hct))
        have HYK:Hid (∃ lk,keyOf Tryz.prog 96 (rgV (f ⟨x1,x2,x3,x4,x5⟩ c))=some lk):=Lib.hid (by
         obtain⟨hy1,hy2⟩:=HY2.out
         have h1:=HRG.out _ (by rw [List.length_map] at hy1;exact hy1)
         rw [List.getElem_map] at hy2
         rw [hy2] at h1
         exact rgV_key h1.1 (by have:=h1.2;omega))
        have HTK:Hid ((rowQ f Q x0 i).take c++ [nIx Q (f (stQ Q x0 i) c)]=(rowQ f Q x0 i).take c++ [nIx Q (f ⟨x1,x2,x3,x4,x5⟩ c)]):=Lib.hid (by rw [HSQ.out])
        obtain⟨y,hy⟩:∃ y,f (⟨x1,x2,x3,x4,x5⟩:Rg) c=y:=⟨_,rfl⟩
        rw [hy] at HNC HYK HTK HY2
        obtain⟨y1,y2,y3,y4,y5⟩:=y
        have HNC:Hid (∀ wx,Below G w wx→Calls Tryz.prog 45 #[.pointer (some ⟨g,0,none⟩),.agg #[.int .i64 x1,.int .u64 x2,.int .i64 x3,.int .i64 x4,.bool x5],.int .i64 c] wx fun e w'=>e= .returned (.agg #[.int .i64 y1,.int .u64 y2,.int .i64 y3,.int .i64 y4,.bool y5])∧Below wx.heap.size wx w'):=HNC
        obtain⟨lk,hlk⟩:=HYK.out
        obtain⟨nx,hnx⟩:∃ nx,nIx Q (⟨y1,y2,y3,y4,y5⟩:Rg)=nx:=⟨_,rfl⟩
        rw [hnx] at HTK HY2
        have HLK:=Lib.hid hlk
        clear hy hlk hnx HYK
        obtain⟨vp,vc,hv⟩:=HI.out.cur.slice
        obtain⟨vn,hvn⟩:∃ vn,((rowQ f Q x0 i).take c).length=vn:=⟨_,rfl⟩
        rw [hvn] at hv
        subst hv
        have HVN:=Lib.hid hvn
        clear hvn
        have HSX:Hid (∀ wx,Below BS w5 wx→wx.cell? ⟨D,1,none⟩=some (.slice (some ⟨L,0,none⟩) k k)∧wx.cell? ⟨L,i,none⟩=some (.slice vp vn vc)∧wx.frozen? ⟨L,i,none⟩=false∧wx.cell? ⟨gx,1,none⟩=some (.int .i64 x1)∧wx.cell? ⟨gx,2,none⟩=some (.int .u64 x2)∧wx.cell? ⟨gx,3,none⟩=some (.int .i64 x3)∧wx.cell? ⟨gx,4,none⟩=some (.int .i64 x4)∧wx.cell? ⟨gx,5,none⟩=some (.bool x5)):=Lib.hid (fun wx hb=>by
         have k1:Blk D 35 _ wx:=(hb.block D HI.out.lD).trans HI.out.dfa.box
         have k2:=HI.out.dfa.rows.keep (hb.block L HI.out.lL)
         have k3:Blk gx 100 _ wx:=(hb.block gx HGX.out).trans HK.out
         have k4:=k2.cell hlt
         rw [rowF_self] at k4
         exact⟨k1.cell 1,k4,k2.frozen i,k3.cell 1,k3.cell 2,k3.cell 3,k3.cell 4,k3.cell 5⟩)
        go_upto_region 15 with fail
        have hS:=HSX.out w5.drew (Below.refl _ _).drew
        refine region_hd 18 (fun wx:World=>wx.cell? ⟨D,1,none⟩=some (.slice (some ⟨L,0,none⟩) k k)∧wx.cell? ⟨L,i,none⟩=some (.slice vp vn vc)∧wx.frozen? ⟨L,i,none⟩=false∧wx.cell? ⟨gx,1,none⟩=some (.int .i64 x1)∧wx.cell? ⟨gx,2,none⟩=some (.int .u64 x2)∧wx.cell? ⟨gx,3,none⟩=some (.int .i64 x3)∧wx.cell? ⟨gx,4,none⟩=some (.int .i64 x4)∧wx.cell? ⟨gx,5,none⟩=some (.bool x5)) (by kernel_rfl) (by kernel_rfl) ?_
        refine hd_taken 0 (some 47) _ ?hdva0 rfl rfl (by kernel_rfl) (fun _ _ _ h=>h) (Or.inl ⟨by kernel_rfl,?hdya0⟩) hS ?hdra0
        case hdya0=>(intro wx hx;(try dsimp only at hx);go_simp;try with_reducible rfl)
        try simp only [Act.put,zI,zO,zS]
        refine hd_taken 1 (some 48) _ ?hdva1 rfl rfl (by kernel_rfl) (fun _ _ _ h=>h) (Or.inl ⟨by kernel_rfl,?hdya1⟩) hS ?hdra1
        case hdya1=>(intro wx hx;(try dsimp only at hx);go_simp;try with_reducible rfl)
        try simp only [Act.put,zI,zO,zS]
        refine hd_taken 2 (some 49) _ ?hdva2 rfl rfl (by kernel_rfl) (fun _ _ _ h=>h) (Or.inl ⟨by kernel_rfl,?hdya2⟩) hS ?hdra2
        case hdya2=>(intro wx hx;(try dsimp only at hx);go_simp;try with_reducible rfl)
        try simp only [Act.put,zI,zO,zS]
        refine hd_taken 3 (some 50) _ ?hdva3 rfl rfl (by kernel_rfl) (fun _ _ _ h=>h) (Or.inl ⟨by kernel_rfl,?hdya3⟩) hS ?hdra3
        case hdya3=>(intro wx hx;(try dsimp only at hx);go_simp;try with_reducible rfl)
        try simp only [Act.put,zI,zO,zS]
        refine hd_taken 4 (some 51) _ ?hdva4 rfl rfl (by kernel_rfl) (fun _ _ _ h=>h) (Or.inl ⟨by kernel_rfl,?hdya4⟩) hS ?hdra4
        case hdya4=>(intro wx hx;(try dsimp only at hx);go_simp;try with_reducible rfl)
        try simp only [Act.put,zI,zO,zS]
        refine hd_taken 5 (some 52) _ ?hdva5 rfl rfl (by kernel_rfl) (fun _ _ _ h=>h) (Or.inl ⟨by kernel_rfl,?hdya5⟩) hS ?hdra5
        case hdya5=>(intro wx hx;(try dsimp only at hx);go_simp;try with_reducible rfl)
        try simp only [Act.put,zI,zO,zS]
        refine hd_taken 6 (some 53) _ ?hdva6 rfl rfl (by kernel_rfl) (fun _ _ _ h=>h) (Or.inl ⟨by kernel_rfl,?hdya6⟩) hS ?hdra6
        case hdya6=>(intro wx hx;(try dsimp only at hx);go_simp;try with_reducible rfl)
        try simp only [Act.put,zI,zO,zS]
        refine hd_taken 7 (some 54) _ ?hdva7 rfl rfl (by kernel_rfl) (fun _ _ _ h=>h) (Or.inl ⟨by kernel_rfl,?hdya7⟩) hS ?hdra7
        case hdya7=>(intro wx hx;(try dsimp only at hx);go_simp;try with_reducible rfl)
        try simp only [Act.put,zI,zO,zS]
        refine hd_taken 8 (some 55) _ ?hdva8 rfl rfl (by kernel_rfl) (fun _ _ _ h=>h) (Or.inl ⟨by kernel_rfl,?hdya8⟩) hS ?hdra8
        case hdya8=>(intro wx hx;(try dsimp only at hx);go_simp;try with_reducible rfl)
        try simp only [Act.put,zI,zO,zS]
        refine hd_taken 9 (some 56) _ ?hdva9 rfl rfl (by kernel_rfl) (fun _ _ _ h=>h) (Or.inl ⟨by kernel_rfl,?hdya9⟩) hS ?hdra9
        case hdya9=>(intro wx hx;(try dsimp only at hx);go_simp;try with_reducible rfl)
        try simp only [Act.put,zI,zO,zS]
        refine hd_taken 10 (some 57) _ ?hdva10 rfl rfl (by kernel_rfl) (fun _ _ _ h=>h) (Or.inl ⟨by kernel_rfl,?hdya10⟩) hS ?hdra10
        case hdya10=>(intro wx hx;(try dsimp only at hx);go_simp;try with_reducible rfl)
        try simp only [Act.put,zI,zO,zS]
        refine hd_taken 11 (some 58) _ ?hdva11 rfl rfl (by kernel_rfl) (fun _ _ _ h=>h) (Or.inl ⟨by kernel_rfl,?hdya11⟩) hS ?hdra11
        case hdya11=>(intro wx hx;(try dsimp only at hx);go_simp;try with_reducible rfl)
        try simp only [Act.put,zI,zO,zS]
        refine hd_taken 12 (some 59) _ ?hdva12 rfl rfl (by kernel_rfl) (fun _ _ _ h=>h) (Or.inl ⟨by kernel_rfl,?hdya12⟩) hS ?hdra12
        case hdya12=>(intro wx hx;(try dsimp only at hx);go_simp;try with_reducible rfl)
        try simp only [Act.put,zI,zO,zS]
        obtain⟨iI,hiI,hzI,hkI,hbI⟩:=info_parts Tryz.infoI
        refine hd_one 13 _ rfl (by kernel_rfl) (by decide) (fun K13 hK13=>?_)
        go_simp
        refine(HNC.out _ HI.out.bw.drew).mono ?_
        rintro e w6 ⟨rfl,b6⟩
        try dsimp only
        have HB6:Hid (Below w5.heap.size w5 w6):=Lib.hid (st (Below.refl w5.heap.size w5).drew b6 (Nat.le_refl _))
        have HB6':Hid (Below BS w5 w6):=Lib.hid (HB6.out.mono HI.out.ls)
        refine hK13.out _ _ (HSX.out _ HB6'.out) ?_
        clear hK13 K13 b6 hS
        try simp only [Act.put,zI,zO,zS]
        have hlook:(Instr.lookup 98 (.map (some Bm)) (.agg #[.int .i64 y1,.int .u64 y2,.int .i64 y3,.int .i64 y4,.bool y5]) false).run Tryz.prog w6= .ok (.int .i64 (nx:Nat)) w6:=by
         obtain⟨hh,he⟩:=HY2.out
         exact(HI.out.map.below HB6.out).look HLK.out hh he
        refine hd_one 14 _ rfl (by kernel_rfl) (by decide) (fun K14 hK14=>?_)
        go_simp
        refine hK14.out _ _ (HSX.out _ HB6'.out) ?_
        clear hK14 K14 hlook
        try simp only [Act.put,zI,zO,zS]
        refine hd_one 15 _ rfl (by kernel_rfl) (by decide) (fun K15 hK15=>?_)
        go_simp
        refine hK15.out _ _ (HSX.out _ (HB6'.out.alloc (Nat.le_trans HI.out.ls HB6.out.size) _)) ?_
        clear hK15 K15
        try simp only [Act.put,zI,zO,zS]
        refine hd_one 16 _ rfl (by kernel_rfl) (by decide) (fun K16 hK16=>?_)
        refine step_append_at (w0:=w6) (x:=nx) (N:=w6.heap.size) rfl rfl _ _ 69 rfl BS iI _ 8 Tryz.underlying69 hiI hzI hkI hbI (by omega) rfl (by omega) encN_len encN_one _ ((rowQ f Q x0 i).take c) rfl rfl (own_below HI.out.cur HB6.out) rfl (by rw [List.length_take,rowQ_len];omega) (Nat.le_trans HI.out.ls HB6.out.size) ?_
        intro v9 w7 y9
        obtain⟨p8,q8,e8⟩:=y9.1.slice
        obtain⟨n8,hn8⟩:∃ n,((rowQ f Q x0 i).take c++ [nx]).length=n:=⟨_,rfl⟩
        rw [hn8] at e8
        subst e8
        have HO9:=Lib.hid y9.1
        have HB9:=Lib.hid (HB6'.out.trans y9.2)
        refine hK16.out _ _ (HSX.out _ HB9.out) ?_
        clear hK16 K16 y9 hn8
        try simp only [Act.put,zI,zO,zS]
        have hS:=HSX.out w7 HB9.out
        refine hd_taken 17 (some 64) _ ?hdvb17 rfl rfl (by kernel_rfl) (fun _ _ _ h=>h) (Or.inl ⟨by kernel_rfl,?hdyb17⟩) hS ?hdrb17
        case hdyb17=>(intro wx hx;(try dsimp only at hx);go_simp;try with_reducible rfl)
        try simp only [Act.put,zI,zO,zS]
        refine hd_done (by kernel_rfl) ?_
        simp only [List.drop_succ_cons,List.drop_zero]
        have r1:w7.cell? ⟨L,i,none⟩=some (.slice vp vn vc):=hS.2.1
        have r2:w7.frozen? ⟨L,i,none⟩=false:=hS.2.2.1
        have hst:=HI.out.step hlt hct (v':= .slice p8 n8 q8) (by rw [HTK.out];exact HO9.out) HB9.out
        have HK8:Hid (Blk gx 100 #[.string (ofL (chS u)),.int .i64 x1,.int .u64 x2,.int .i64 x3,.int .i64 x4,.bool x5] (w7.setCell ⟨L,i,none⟩ (.slice p8 n8 q8))):=Lib.hid ((Below.heap_setCell w7 ⟨L,i,none⟩ _ gx (HI.out.dfa.rows.ne_box HK.out (by decide)).symm).trans ((HB9.out.block gx HGX.out).trans HK.out))
        obtain⟨w8,hw8⟩:∃ w8,w7.setCell ⟨L,i,none⟩ (.slice p8 n8 q8)=w8:=⟨_,rfl⟩
        rw [hw8] at hst HK8
        have HS8:=Lib.hid hst
        clear hS hst HI HK HB6 HB6' HO9 HB9 HLK HY2
        go_wp2_with fail
        try rw [hw8]
        go_roundw
        case measure=>simp [intOf];omega
        case rel=>exact⟨c+1,_,by omega,by go_num,HS8.out,HK8.out⟩
       ·obtain rfl:c=11:=by omega
        have HSX2:Hid (∀ wx,Below BS w5 wx→wx.cell? ⟨D,2,none⟩=some (.slice (some ⟨A,0,none⟩) k k)∧wx.cell? ⟨A,i,none⟩=some (.bool false)∧wx.frozen? ⟨A,i,none⟩=false∧wx.cell? ⟨gx,1,none⟩=some (.int .i64 x1)∧wx.cell? ⟨gx,2,none⟩=some (.int .u64 x2)):=Lib.hid (fun wx hb=>by
         have k1:Blk D 35 _ wx:=(hb.block D HI.out.lD).trans HI.out.dfa.box
         have k2:=HI.out.dfa.acc.keep (hb.block A HI.out.lA)
         have k3:Blk gx 100 _ wx:=(hb.block gx HGX.out).trans HK.out
         have k4:=k2.cell hlt
         rw [accF_self] at k4
         exact⟨k1.cell 2,k4,k2.frozen i,k3.cell 1,k3.cell 2⟩)
        have g1:w5.cell? ⟨gx,1,none⟩=some (.int .i64 x1):=HK.out.cell 1
        have HACI:Hid (accN ls (stQ Q x0 i)=((decide (x1=1)||decide (x1=3))&&decide (cndN ls x2 ls.length=1))):=Lib.hid (by rw [HSQ.out];rfl)
        have HCN:=Lib.hid (fun wx hb=>HCO.out x2 HRI.out.1.hold wx (HPG.out wx hb))
        obtain⟨z,hz0⟩:∃ z,cndN ls x2 ls.length=z:=⟨_,rfl⟩
        rw [hz0] at HACI HCN
        clear hz0
        go_upto_region 17 with fail
        by_cases hx1:x1=1
        ·have k1:(x1:Int)=1:=by omega
         have k1':decide ((x1:Int)=1)=true:=decide_eq_true k1
         go_upto_region 18 with fail
         by_cases hz:z=1
         ·have k2:(z:Int)=1:=by omega
          have k2':decide ((z:Int)=1)=true:=decide_eq_true k2
          have hS:=HSX2.out w5.drew (Below.refl _ _).drew
          go_upto_region 18 with fail
          refine region_hd 13 (fun wx:World=>wx.cell? ⟨D,2,none⟩=some (.slice (some ⟨A,0,none⟩) k k)∧wx.cell? ⟨A,i,none⟩=some (.bool false)∧wx.frozen? ⟨A,i,none⟩=false∧wx.cell? ⟨gx,1,none⟩=some (.int .i64 x1)∧wx.cell? ⟨gx,2,none⟩=some (.int .u64 x2)) (by kernel_rfl) (by kernel_rfl) ?_
          refine hd_taken 0 (some 76) _ ?hdvca0 rfl rfl (by kernel_rfl) (fun _ _ _ h=>h) (Or.inl ⟨by kernel_rfl,?hdyca0⟩) hS ?hdrca0
          case hdyca0=>(intro wx hx;(try dsimp only at hx);go_simp;try with_reducible rfl)
          try simp only [Act.put,zI,zO,zS]
          refine hd_taken 1 (some 77) _ ?hdvca1 rfl rfl (by kernel_rfl) (fun _ _ _ h=>h) (Or.inl ⟨by kernel_rfl,?hdyca1⟩) hS ?hdrca1
          case hdyca1=>(intro wx hx;(try dsimp only at hx);go_simp;try with_reducible rfl)
          try simp only [Act.put,zI,zO,zS]
          refine hd_taken 2 (some 78) _ ?hdvca2 rfl rfl (by kernel_rfl) (fun _ _ _ h=>h) (Or.inl ⟨by kernel_rfl,?hdyca2⟩) hS ?hdrca2
          case hdyca2=>(intro wx hx;(try dsimp only at hx);go_simp;try with_reducible rfl)
          try simp only [Act.put,zI,zO,zS]
          refine hd_taken 3 (some 79) _ ?hdvca3 rfl rfl (by kernel_rfl) (fun _ _ _ h=>h) (Or.inl ⟨by kernel_rfl,?hdyca3⟩) hS ?hdrca3
          case hdyca3=>(intro wx hx;(try dsimp only at hx);go_simp;try with_reducible rfl)
          try simp only [Act.put,zI,zO,zS]
          refine hd_taken 4 (some 80) _ ?hdvca4 rfl rfl (by kernel_rfl) (fun _ _ _ h=>h) (Or.inl ⟨by kernel_rfl,?hdyca4⟩) hS ?hdrca4
          case hdyca4=>(intro wx hx;(try dsimp only at hx);go_simp;try with_reducible rfl)
          try simp only [Act.put,zI,zO,zS]
          refine hd_taken 5 (some 81) _ ?hdvca5 rfl rfl (by kernel_rfl) (fun _ _ _ h=>h) (Or.inl ⟨by kernel_rfl,?hdyca5⟩) hS ?hdrca5
          case hdyca5=>(intro wx hx;(try dsimp only at hx);go_simp;try with_reducible rfl)
          try simp only [Act.put,zI,zO,zS]
          refine hd_taken 6 (some 82) _ ?hdvca6 rfl rfl (by kernel_rfl) (fun _ _ _ h=>h) (Or.inl ⟨by kernel_rfl,?hdyca6⟩) hS ?hdrca6
          case hdyca6=>(intro wx hx;(try dsimp only at hx);go_simp;try with_reducible rfl)
          try simp only [Act.put,zI,zO,zS]
          refine hd_taken 7 (some 83) _ ?hdvca7 rfl rfl (by kernel_rfl) (fun _ _ _ h=>h) (Or.inl ⟨by kernel_rfl,?hdyca7⟩) hS ?hdrca7
          case hdyca7=>(intro wx hx;(try dsimp only at hx);go_simp;try with_reducible rfl)
          try simp only [Act.put,zI,zO,zS]
          refine hd_taken 8 (some 84) _ ?hdvca8 rfl rfl (by kernel_rfl) (fun _ _ _ h=>h) (Or.inl ⟨by kernel_rfl,?hdyca8⟩) hS ?hdrca8
          case hdyca8=>(intro wx hx;(try dsimp only at hx);go_simp;try with_reducible rfl)
          try simp only [Act.put,zI,zO,zS]
          refine hd_one 9 _ rfl (by kernel_rfl) (by decide) (fun K9 hK9=>?_)
          go_simp
          refine(HCN.out _ HI.out.bw.drew).mono ?_
          rintro e w6 ⟨rfl,b6⟩
          try dsimp only
          have HB6:Hid (Below w5.heap.size w5 w6):=Lib.hid (st (Below.refl w5.heap.size w5).drew b6 (Nat.le_refl _))
          have HB7:=Lib.hid (HB6.out.mono HI.out.ls)
          refine hK9.out _ _ (HSX2.out _ HB7.out) ?_
          clear hK9 K9 b6 hS
          try simp only [Act.put,zI,zO,zS]
          have hS:=HSX2.out w6 HB7.out
          refine hd_taken 10 (some 86) _ ?hdvcaq10 rfl rfl (by kernel_rfl) (fun _ _ _ h=>h) (Or.inl ⟨by kernel_rfl,?hdycaq10⟩) hS ?hdrcaq10
          case hdycaq10=>(intro wx hx;(try dsimp only at hx);go_simp;try with_reducible rfl)
          try simp only [Act.put,zI,zO,zS]
          refine hd_taken 11 (some 87) _ ?hdvcaq11 rfl rfl (by kernel_rfl) (fun _ _ _ h=>h) (Or.inl ⟨by kernel_rfl,?hdycaq11⟩) hS ?hdrcaq11
          case hdycaq11=>(intro wx hx;(try dsimp only at hx);go_simp;try with_reducible rfl)
          try simp only [Act.put,zI,zO,zS]
          refine hd_taken 12 (some 88) _ ?hdvcaq12 rfl rfl (by kernel_rfl) (fun _ _ _ h=>h) (Or.inl ⟨by kernel_rfl,?hdycaq12⟩) hS ?hdrcaq12
          case hdycaq12=>(intro wx hx;(try dsimp only at hx);go_simp;try with_reducible rfl)
          try simp only [Act.put,zI,zO,zS]
          refine hd_done (by kernel_rfl) ?_
          simp only [List.drop_succ_cons,List.drop_zero]
          have r1:w6.cell? ⟨A,i,none⟩=some (.bool false):=hS.2.1
          have r2:w6.frozen? ⟨A,i,none⟩=false:=hS.2.2.1
          obtain⟨F9,hF9⟩:=(HI.out.below HB6.out).fin hlt true (HACI.out.trans (by simp [hz,hx1])) _ rfl
          obtain⟨w8,hw8⟩:∃ w8,w6.setCell ⟨A,i,none⟩ (.bool true)=w8:=⟨_,rfl⟩
          rw [hw8] at hF9
          have HF9:=Lib.hid hF9
          clear hS hF9 HB6 HI HK HACI
          go_wp2_with fail
          try rw [hw8]
          go_roundw
          case measure=>simp [intOf];omega
          case rel=>exact⟨i+1,_,_,by omega,by go_num,HF9.out⟩
         ·have k2:¬ (z:Int)=1:=by omega
          have k2':decide ((z:Int)=1)=false:=decide_eq_false k2
          have k2q:((z:Int)==1)=false:=by simpa using k2
          have hS:=HSX2.out w5.drew (Below.refl _ _).drew
          go_upto_region 18 with fail
          refine region_hd 13 (fun wx:World=>wx.cell? ⟨D,2,none⟩=some (.slice (some ⟨A,0,none⟩) k k)∧wx.cell? ⟨A,i,none⟩=some (.bool false)∧wx.frozen? ⟨A,i,none⟩=false∧wx.cell? ⟨gx,1,none⟩=some (.int .i64 x1)∧wx.cell? ⟨gx,2,none⟩=some (.int .u64 x2)) (by kernel_rfl) (by kernel_rfl) ?_
          refine hd_taken 0 (some 76) _ ?hdvcb0 rfl rfl (by kernel_rfl) (fun _ _ _ h=>h) (Or.inl ⟨by kernel_rfl,?hdycb0⟩) hS ?hdrcb0
          case hdycb0=>(intro wx hx;(try dsimp only at hx);go_simp;try with_reducible rfl)
          try simp only [Act.put,zI,zO,zS]
          refine hd_taken 1 (some 77) _ ?hdvcb1 rfl rfl (by kernel_rfl) (fun _ _ _ h=>h) (Or.inl ⟨by kernel_rfl,?hdycb1⟩) hS ?hdrcb1
          case hdycb1=>(intro wx hx;(try dsimp only at hx);go_simp;try with_reducible rfl)
          try simp only [Act.put,zI,zO,zS]
          refine hd_taken 2 (some 78) _ ?hdvcb2 rfl rfl (by kernel_rfl) (fun _ _ _ h=>h) (Or.inl ⟨by kernel_rfl,?hdycb2⟩) hS ?hdrcb2
          case hdycb2=>(intro wx hx;(try dsimp only at hx);go_simp;try with_reducible rfl)
          try simp only [Act.put,zI,zO,zS]
          refine hd_taken 3 (some 79) _ ?hdvcb3 rfl rfl (by kernel_rfl) (fun _ _ _ h=>h) (Or.inl ⟨by kernel_rfl,?hdycb3⟩) hS ?hdrcb3
          case hdycb3=>(intro wx hx;(try dsimp only at hx);go_simp;try with_reducible rfl)
          try simp only [Act.put,zI,zO,zS]
          refine hd_taken 4 (some 80) _ ?hdvcb4 rfl rfl (by kernel_rfl) (fun _ _ _ h=>h) (Or.inl ⟨by kernel_rfl,?hdycb4⟩) hS ?hdrcb4
          case hdycb4=>(intro wx hx;(try dsimp only at hx);go_simp;try with_reducible rfl)
          try simp only [Act.put,zI,zO,zS]
          refine hd_taken 5 (some 81) _ ?hdvcb5 rfl rfl (by kernel_rfl) (fun _ _ _ h=>h) (Or.inl ⟨by kernel_rfl,?hdycb5⟩) hS ?hdrcb5
          case hdycb5=>(intro wx hx;(try dsimp only at hx);go_simp;try with_reducible rfl)
          try simp only [Act.put,zI,zO,zS]
          refine hd_taken 6 (some 82) _ ?hdvcb6 rfl rfl (by kernel_rfl) (fun _ _ _ h=>h) (Or.inl ⟨by kernel_rfl,?hdycb6⟩) hS ?hdrcb6
          case hdycb6=>(intro wx hx;(try dsimp only at hx);go_simp;try with_reducible rfl)
          try simp only [Act.put,zI,zO,zS]
          refine hd_taken 7 (some 83) _ ?hdvcb7 rfl rfl (by kernel_rfl) (fun _ _ _ h=>h) (Or.inl ⟨by kernel_rfl,?hdycb7⟩) hS ?hdrcb7
          case hdycb7=>(intro wx hx;(try dsimp only at hx);go_simp;try with_reducible rfl)
          try simp only [Act.put,zI,zO,zS]
          refine hd_taken 8 (some 84) _ ?hdvcb8 rfl rfl (by kernel_rfl) (fun _ _ _ h=>h) (Or.inl ⟨by kernel_rfl,?hdycb8⟩) hS ?hdrcb8
          case hdycb8=>(intro wx hx;(try dsimp only at hx);go_simp;try with_reducible rfl)
          try simp only [Act.put,zI,zO,zS]
          refine hd_one 9 _ rfl (by kernel_rfl) (by decide) (fun K9 hK9=>?_)
          go_simp
          refine(HCN.out _ HI.out.bw.drew).mono ?_
          rintro e w6 ⟨rfl,b6⟩
          try dsimp only
          have HB6:Hid (Below w5.heap.size w5 w6):=Lib.hid (st (Below.refl w5.heap.size w5).drew b6 (Nat.le_refl _))
          have HB7:=Lib.hid (HB6.out.mono HI.out.ls)
          refine hK9.out _ _ (HSX2.out _ HB7.out) ?_
          clear hK9 K9 b6 hS
          try simp only [Act.put,zI,zO,zS]
          have hS:=HSX2.out w6 HB7.out
          refine hd_taken 10 (some 86) _ ?hdvcbq10 rfl rfl (by kernel_rfl) (fun _ _ _ h=>h) (Or.inl ⟨by kernel_rfl,?hdycbq10⟩) hS ?hdrcbq10
          case hdycbq10=>(intro wx hx;(try dsimp only at hx);go_simp;try with_reducible rfl)
          try simp only [Act.put,zI,zO,zS]
          refine hd_taken 11 (some 87) _ ?hdvcbq11 rfl rfl (by kernel_rfl) (fun _ _ _ h=>h) (Or.inl ⟨by kernel_rfl,?hdycbq11⟩) hS ?hdrcbq11
          case hdycbq11=>(intro wx hx;(try dsimp only at hx);go_simp;try with_reducible rfl)
          try simp only [Act.put,zI,zO,zS]
          refine hd_taken 12 (some 88) _ ?hdvcbq12 rfl rfl (by kernel_rfl) (fun _ _ _ h=>h) (Or.inl ⟨by kernel_rfl,?hdycbq12⟩) hS ?hdrcbq12
          case hdycbq12=>(intro wx hx;(try dsimp only at hx);go_simp;try with_reducible rfl)
          try simp only [Act.put,zI,zO,zS]
          refine hd_done (by kernel_rfl) ?_
          simp only [List.drop_succ_cons,List.drop_zero]
          have r1:w6.cell? ⟨A,i,none⟩=some (.bool false):=hS.2.1
          have r2:w6.frozen? ⟨A,i,none⟩=false:=hS.2.2.1
          obtain⟨F9,hF9⟩:=(HI.out.below HB6.out).fin hlt false (HACI.out.trans (by simp [hz,hx1])) _ rfl
          obtain⟨w8,hw8⟩:∃ w8,w6.setCell ⟨A,i,none⟩ (.bool false)=w8:=⟨_,rfl⟩
          rw [hw8] at hF9
          have HF9:=Lib.hid hF9
          clear hS hF9 HB6 HI HK HACI
          go_wp2_with fail
          try rw [hw8]
          go_roundw
          case measure=>simp [intOf];omega
          case rel=>exact⟨i+1,_,_,by omega,by go_num,HF9.out⟩
        ·have k1:¬ (x1:Int)=1:=by omega
         have k1':decide ((x1:Int)=1)=false:=decide_eq_false k1
         have k1q:((x1:Int)==1)=false:=by simpa using k1
         by_cases hx3:x1=3
         ·have k3:(x1:Int)=3:=by omega
          have k3':decide ((x1:Int)=3)=true:=decide_eq_true k3
          go_upto_region 18 with fail
          by_cases hz:z=1
          ·have k2:(z:Int)=1:=by omega
           have k2':decide ((z:Int)=1)=true:=decide_eq_true k2
           have hS:=HSX2.out w5.drew (Below.refl _ _).drew
           go_upto_region 18 with fail
           refine region_hd 13 (fun wx:World=>wx.cell? ⟨D,2,none⟩=some (.slice (some ⟨A,0,none⟩) k k)∧wx.cell? ⟨A,i,none⟩=some (.bool false)∧wx.frozen? ⟨A,i,none⟩=false∧wx.cell? ⟨gx,1,none⟩=some (.int .i64 x1)∧wx.cell? ⟨gx,2,none⟩=some (.int .u64 x2)) (by kernel_rfl) (by kernel_rfl) ?_
           refine hd_taken 0 (some 76) _ ?hdvea0 rfl rfl (by kernel_rfl) (fun _ _ _ h=>h) (Or.inl ⟨by kernel_rfl,?hdyea0⟩) hS ?hdrea0
           case hdyea0=>(intro wx hx;(try dsimp only at hx);go_simp;try with_reducible rfl)
           try simp only [Act.put,zI,zO,zS]
           refine hd_taken 1 (some 77) _ ?hdvea1 rfl rfl (by kernel_rfl) (fun _ _ _ h=>h) (Or.inl ⟨by kernel_rfl,?hdyea1⟩) hS ?hdrea1
           case hdyea1=>(intro wx hx;(try dsimp only at hx);go_simp;try with_reducible rfl)
           try simp only [Act.put,zI,zO,zS]
           refine hd_taken 2 (some 78) _ ?hdvea2 rfl rfl (by kernel_rfl) (fun _ _ _ h=>h) (Or.inl ⟨by kernel_rfl,?hdyea2⟩) hS ?hdrea2
           case hdyea2=>(intro wx hx;(try dsimp only at hx);go_simp;try with_reducible rfl)
           try simp only [Act.put,zI,zO,zS]
           refine hd_taken 3 (some 79) _ ?hdvea3 rfl rfl (by kernel_rfl) (fun _ _ _ h=>h) (Or.inl ⟨by kernel_rfl,?hdyea3⟩) hS ?hdrea3
           case hdyea3=>(intro wx hx;(try dsimp only at hx);go_simp;try with_reducible rfl)
           try simp only [Act.put,zI,zO,zS]
           refine hd_taken 4 (some 80) _ ?hdvea4 rfl rfl (by kernel_rfl) (fun _ _ _ h=>h) (Or.inl ⟨by kernel_rfl,?hdyea4⟩) hS ?hdrea4
           case hdyea4=>(intro wx hx;(try dsimp only at hx);go_simp;try with_reducible rfl)
           try simp only [Act.put,zI,zO,zS]
           refine hd_taken 5 (some 81) _ ?hdvea5 rfl rfl (by kernel_rfl) (fun _ _ _ h=>h) (Or.inl ⟨by kernel_rfl,?hdyea5⟩) hS ?hdrea5
           case hdyea5=>(intro wx hx;(try dsimp only at hx);go_simp;try with_reducible rfl)
           try simp only [Act.put,zI,zO,zS]
           refine hd_taken 6 (some 82) _ ?hdvea6 rfl rfl (by kernel_rfl) (fun _ _ _ h=>h) (Or.inl ⟨by kernel_rfl,?hdyea6⟩) hS ?hdrea6
           case hdyea6=>(intro wx hx;(try dsimp only at hx);go_simp;try with_reducible rfl)
           try simp only [Act.put,zI,zO,zS]
           refine hd_taken 7 (some 83) _ ?hdvea7 rfl rfl (by kernel_rfl) (fun _ _ _ h=>h) (Or.inl ⟨by kernel_rfl,?hdyea7⟩) hS ?hdrea7
           case hdyea7=>(intro wx hx;(try dsimp only at hx);go_simp;try with_reducible rfl)
           try simp only [Act.put,zI,zO,zS]
           refine hd_taken 8 (some 84) _ ?hdvea8 rfl rfl (by kernel_rfl) (fun _ _ _ h=>h) (Or.inl ⟨by kernel_rfl,?hdyea8⟩) hS ?hdrea8
           case hdyea8=>(intro wx hx;(try dsimp only at hx);go_simp;try with_reducible rfl)
           try simp only [Act.put,zI,zO,zS]
           refine hd_one 9 _ rfl (by kernel_rfl) (by decide) (fun K9 hK9=>?_)
           go_simp
           refine(HCN.out _ HI.out.bw.drew).mono ?_
           rintro e w6 ⟨rfl,b6⟩
           try dsimp only
           have HB6:Hid (Below w5.heap.size w5 w6):=Lib.hid (st (Below.refl w5.heap.size w5).drew b6 (Nat.le_refl _))
           have HB7:=Lib.hid (HB6.out.mono HI.out.ls)
           refine hK9.out _ _ (HSX2.out _ HB7.out) ?_
           clear hK9 K9 b6 hS
           try simp only [Act.put,zI,zO,zS]
           have hS:=HSX2.out w6 HB7.out
           refine hd_taken 10 (some 86) _ ?hdveaq10 rfl rfl (by kernel_rfl) (fun _ _ _ h=>h) (Or.inl ⟨by kernel_rfl,?hdyeaq10⟩) hS ?hdreaq10
           case hdyeaq10=>(intro wx hx;(try dsimp only at hx);go_simp;try with_reducible rfl)
           try simp only [Act.put,zI,zO,zS]
           refine hd_taken 11 (some 87) _ ?hdveaq11 rfl rfl (by kernel_rfl) (fun _ _ _ h=>h) (Or.inl ⟨by kernel_rfl,?hdyeaq11⟩) hS ?hdreaq11
           case hdyeaq11=>(intro wx hx;(try dsimp only at hx);go_simp;try with_reducible rfl)
           try simp only [Act.put,zI,zO,zS]
           refine hd_taken 12 (some 88) _ ?hdveaq12 rfl rfl (by kernel_rfl) (fun _ _ _ h=>h) (Or.inl ⟨by kernel_rfl,?hdyeaq12⟩) hS ?hdreaq12
           case hdyeaq12=>(intro wx hx;(try dsimp only at hx);go_simp;try with_reducible rfl)
           try simp only [Act.put,zI,zO,zS]
           refine hd_done (by kernel_rfl) ?_
           simp only [List.drop_succ_cons,List.drop_zero]
           have r1:w6.cell? ⟨A,i,none⟩=some (.bool false):=hS.2.1
           have r2:w6.frozen? ⟨A,i,none⟩=false:=hS.2.2.1
           obtain⟨F9,hF9⟩:=(HI.out.below HB6.out).fin hlt true (HACI.out.trans (by simp [hz,hx3])) _ rfl
           obtain⟨w8,hw8⟩:∃ w8,w6.setCell ⟨A,i,none⟩ (.bool true)=w8:=⟨_,rfl⟩
           rw [hw8] at hF9
           have HF9:=Lib.hid hF9
           clear hS hF9 HB6 HI HK HACI
           go_wp2_with fail
           try rw [hw8]
           go_roundw
           case measure=>simp [intOf];omega
           case rel=>exact⟨i+1,_,_,by omega,by go_num,HF9.out⟩
          ·have k2:¬ (z:Int)=1:=by omega
           have k2':decide ((z:Int)=1)=false:=decide_eq_false k2
           have k2q:((z:Int)==1)=false:=by simpa using k2
           have hS:=HSX2.out w5.drew (Below.refl _ _).drew
           go_upto_region 18 with fail
           refine region_hd 13 (fun wx:World=>wx.cell? ⟨D,2,none⟩=some (.slice (some ⟨A,0,none⟩) k k)∧wx.cell? ⟨A,i,none⟩=some (.bool false)∧wx.frozen? ⟨A,i,none⟩=false∧wx.cell? ⟨gx,1,none⟩=some (.int .i64 x1)∧wx.cell? ⟨gx,2,none⟩=some (.int .u64 x2)) (by kernel_rfl) (by kernel_rfl) ?_
           refine hd_taken 0 (some 76) _ ?hdveb0 rfl rfl (by kernel_rfl) (fun _ _ _ h=>h) (Or.inl ⟨by kernel_rfl,?hdyeb0⟩) hS ?hdreb0
           case hdyeb0=>(intro wx hx;(try dsimp only at hx);go_simp;try with_reducible rfl)
           try simp only [Act.put,zI,zO,zS]
           refine hd_taken 1 (some 77) _ ?hdveb1 rfl rfl (by kernel_rfl) (fun _ _ _ h=>h) (Or.inl ⟨by kernel_rfl,?hdyeb1⟩) hS ?hdreb1
           case hdyeb1=>(intro wx hx;(try dsimp only at hx);go_simp;try with_reducible rfl)
           try simp only [Act.put,zI,zO,zS]
           refine hd_taken 2 (some 78) _ ?hdveb2 rfl rfl (by kernel_rfl) (fun _ _ _ h=>h) (Or.inl ⟨by kernel_rfl,?hdyeb2⟩) hS ?hdreb2
           case hdyeb2=>(intro wx hx;(try dsimp only at hx);go_simp;try with_reducible rfl)
           try simp only [Act.put,zI,zO,zS]
           refine hd_taken 3 (some 79) _ ?hdveb3 rfl rfl (by kernel_rfl) (fun _ _ _ h=>h) (Or.inl ⟨by kernel_rfl,?hdyeb3⟩) hS ?hdreb3
           case hdyeb3=>(intro wx hx;(try dsimp only at hx);go_simp;try with_reducible rfl)
           try simp only [Act.put,zI,zO,zS]
           refine hd_taken 4 (some 80) _ ?hdveb4 rfl rfl (by kernel_rfl) (fun _ _ _ h=>h) (Or.inl ⟨by kernel_rfl,?hdyeb4⟩) hS ?hdreb4
           case hdyeb4=>(intro wx hx;(try dsimp only at hx);go_simp;try with_reducible rfl)
           try simp only [Act.put,zI,zO,zS]
           refine hd_taken 5 (some 81) _ ?hdveb5 rfl rfl (by kernel_rfl) (fun _ _ _ h=>h) (Or.inl ⟨by kernel_rfl,?hdyeb5⟩) hS ?hdreb5
           case hdyeb5=>(intro wx hx;(try dsimp only at hx);go_simp;try with_reducible rfl)
           try simp only [Act.put,zI,zO,zS]
           refine hd_taken 6 (some 82) _ ?hdveb6 rfl rfl (by kernel_rfl) (fun _ _ _ h=>h) (Or.inl ⟨by kernel_rfl,?hdyeb6⟩) hS ?hdreb6
           case hdyeb6=>(intro wx hx;(try dsimp only at hx);go_simp;try with_reducible rfl)
           try simp only [Act.put,zI,zO,zS]
           refine hd_taken 7 (some 83) _ ?hdveb7 rfl rfl (by kernel_rfl) (fun _ _ _ h=>h) (Or.inl ⟨by kernel_rfl,?hdyeb7⟩) hS ?hdreb7
           case hdyeb7=>(intro wx hx;(try dsimp only at hx);go_simp;try with_reducible rfl)
           try simp only [Act.put,zI,zO,zS]
           refine hd_taken 8 (some 84) _ ?hdveb8 rfl rfl (by kernel_rfl) (fun _ _ _ h=>h) (Or.inl ⟨by kernel_rfl,?hdyeb8⟩) hS ?hdreb8
           case hdyeb8=>(intro wx hx;(try dsimp only at hx);go_simp;try with_reducible rfl)
           try simp only [Act.put,zI,zO,zS]
           refine hd_one 9 _ rfl (by kernel_rfl) (by decide) (fun K9 hK9=>?_)
           go_simp
           refine(HCN.out _ HI.out.bw.drew).mono ?_
           rintro e w6 ⟨rfl,b6⟩
           try dsimp only
           have HB6:Hid (Below w5.heap.size w5 w6):=Lib.hid (st (Below.refl w5.heap.size w5).drew b6 (Nat.le_refl _))
           have HB7:=Lib.hid (HB6.out.mono HI.out.ls)
           refine hK9.out _ _ (HSX2.out _ HB7.out) ?_
           clear hK9 K9 b6 hS
           try simp only [Act.put,zI,zO,zS]
           have hS:=HSX2.out w6 HB7.out
           refine hd_taken 10 (some 86) _ ?hdvebq10 rfl rfl (by kernel_rfl) (fun _ _ _ h=>h) (Or.inl ⟨by kernel_rfl,?hdyebq10⟩) hS ?hdrebq10
           case hdyebq10=>(intro wx hx;(try dsimp only at hx);go_simp;try with_reducible rfl)
           try simp only [Act.put,zI,zO,zS]
           refine hd_taken 11 (some 87) _ ?hdvebq11 rfl rfl (by kernel_rfl) (fun _ _ _ h=>h) (Or.inl ⟨by kernel_rfl,?hdyebq11⟩) hS ?hdrebq11
           case hdyebq11=>(intro wx hx;(try dsimp only at hx);go_simp;try with_reducible rfl)
           try simp only [Act.put,zI,zO,zS]
           refine hd_taken 12 (some 88) _ ?hdvebq12 rfl rfl (by kernel_rfl) (fun _ _ _ h=>h) (Or.inl ⟨by kernel_rfl,?hdyebq12⟩) hS ?hdrebq12
           case hdyebq12=>(intro wx hx;(try dsimp only at hx);go_simp;try with_reducible rfl)
           try simp only [Act.put,zI,zO,zS]
           refine hd_done (by kernel_rfl) ?_
           simp only [List.drop_succ_cons,List.drop_zero]
           have r1:w6.cell? ⟨A,i,none⟩=some (.bool false):=hS.2.1
           have r2:w6.frozen? ⟨A,i,none⟩=false:=hS.2.2.1
           obtain⟨F9,hF9⟩:=(HI.out.below HB6.out).fin hlt false (HACI.out.trans (by simp [hz,hx3])) _ rfl
           obtain⟨w8,hw8⟩:∃ w8,w6.setCell ⟨A,i,none⟩ (.bool false)=w8:=⟨_,rfl⟩
           rw [hw8] at hF9
           have HF9:=Lib.hid hF9
           clear hS hF9 HB6 HI HK HACI
           go_wp2_with fail
           try rw [hw8]
           go_roundw
           case measure=>simp [intOf];omega
           case rel=>exact⟨i+1,_,_,by omega,by go_num,HF9.out⟩
         ·have k3:¬ (x1:Int)=3:=by omega
          have k3':decide ((x1:Int)=3)=false:=decide_eq_false k3
          have k3q:((x1:Int)==3)=false:=by simpa using k3
          go_upto_region 18 with fail
          have hS:=HSX2.out w5.drew (Below.refl _ _).drew
          go_upto_region 18 with fail
          refine region_hd 13 (fun wx:World=>wx.cell? ⟨D,2,none⟩=some (.slice (some ⟨A,0,none⟩) k k)∧wx.cell? ⟨A,i,none⟩=some (.bool false)∧wx.frozen? ⟨A,i,none⟩=false∧wx.cell? ⟨gx,1,none⟩=some (.int .i64 x1)∧wx.cell? ⟨gx,2,none⟩=some (.int .u64 x2)) (by kernel_rfl) (by kernel_rfl) ?_
          refine hd_taken 0 (some 76) _ ?hdvd0 rfl rfl (by kernel_rfl) (fun _ _ _ h=>h) (Or.inl ⟨by kernel_rfl,?hdyd0⟩) hS ?hdrd0
          case hdyd0=>(intro wx hx;(try dsimp only at hx);go_simp;try with_reducible rfl)
          try simp only [Act.put,zI,zO,zS]
          refine hd_taken 1 (some 77) _ ?hdvd1 rfl rfl (by kernel_rfl) (fun _ _ _ h=>h) (Or.inl ⟨by kernel_rfl,?hdyd1⟩) hS ?hdrd1
          case hdyd1=>(intro wx hx;(try dsimp only at hx);go_simp;try with_reducible rfl)
          try simp only [Act.put,zI,zO,zS]
          refine hd_taken 2 (some 78) _ ?hdvd2 rfl rfl (by kernel_rfl) (fun _ _ _ h=>h) (Or.inl ⟨by kernel_rfl,?hdyd2⟩) hS ?hdrd2
          case hdyd2=>(intro wx hx;(try dsimp only at hx);go_simp;try with_reducible rfl)
          try simp only [Act.put,zI,zO,zS]
          refine hd_taken 3 (some 79) _ ?hdvd3 rfl rfl (by kernel_rfl) (fun _ _ _ h=>h) (Or.inl ⟨by kernel_rfl,?hdyd3⟩) hS ?hdrd3
          case hdyd3=>(intro wx hx;(try dsimp only at hx);go_simp;try with_reducible rfl)
          try simp only [Act.put,zI,zO,zS]
          refine hd_taken 4 (some 80) _ ?hdvd4 rfl rfl (by kernel_rfl) (fun _ _ _ h=>h) (Or.inl ⟨by kernel_rfl,?hdyd4⟩) hS ?hdrd4
          case hdyd4=>(intro wx hx;(try dsimp only at hx);go_simp;try with_reducible rfl)
          try simp only [Act.put,zI,zO,zS]
          refine hd_taken 5 (some 81) _ undef rfl rfl (by kernel_rfl) (fun _ _ _ h=>h) (Or.inr ⟨by rfl,rfl⟩) hS ?_
          try simp only [Act.put,zI,zO,zS]
          refine hd_taken 6 (some 82) _ undef rfl rfl (by kernel_rfl) (fun _ _ _ h=>h) (Or.inr ⟨by rfl,rfl⟩) hS ?_
          try simp only [Act.put,zI,zO,zS]
          refine hd_taken 7 (some 83) _ undef rfl rfl (by kernel_rfl) (fun _ _ _ h=>h) (Or.inr ⟨by rfl,rfl⟩) hS ?_
          try simp only [Act.put,zI,zO,zS]
          refine hd_taken 8 (some 84) _ undef rfl rfl (by kernel_rfl) (fun _ _ _ h=>h) (Or.inr ⟨by rfl,rfl⟩) hS ?_
          try simp only [Act.put,zI,zO,zS]
          refine hd_taken 9 (some 85) _ undef rfl rfl (by kernel_rfl) (fun _ _ _ h=>h) (Or.inr ⟨by rfl,rfl⟩) hS ?_
          try simp only [Act.put,zI,zO,zS]
          refine hd_taken 10 (some 86) _ undef rfl rfl (by kernel_rfl) (fun _ _ _ h=>h) (Or.inr ⟨by rfl,rfl⟩) hS ?_
          try simp only [Act.put,zI,zO,zS]
          refine hd_taken 11 (some 87) _ ?hdvdq11 rfl rfl (by kernel_rfl) (fun _ _ _ h=>h) (Or.inl ⟨by kernel_rfl,?hdydq11⟩) hS ?hdrdq11
          case hdydq11=>(intro wx hx;(try dsimp only at hx);go_simp;try with_reducible rfl)
          try simp only [Act.put,zI,zO,zS]
          refine hd_taken 12 (some 88) _ ?hdvdq12 rfl rfl (by kernel_rfl) (fun _ _ _ h=>h) (Or.inl ⟨by kernel_rfl,?hdydq12⟩) hS ?hdrdq12
          case hdydq12=>(intro wx hx;(try dsimp only at hx);go_simp;try with_reducible rfl)
          try simp only [Act.put,zI,zO,zS]
          obtain⟨w6,hw6⟩:∃ w6,w5.drew=w6:=⟨_,rfl⟩
          have HB6:Hid (Below w5.heap.size w5 w6):=Lib.hid (by rw [←hw6];exact(Below.refl w5.heap.size w5).drew)
          rw [hw6] at hS ⊢
          clear hw6
          refine hd_done (by kernel_rfl) ?_
          simp only [List.drop_succ_cons,List.drop_zero]
          have r1:w6.cell? ⟨A,i,none⟩=some (.bool false):=hS.2.1
          have r2:w6.frozen? ⟨A,i,none⟩=false:=hS.2.2.1
          obtain⟨F9,hF9⟩:=(HI.out.below HB6.out).fin hlt false (HACI.out.trans (by simp [hx1,hx3])) _ rfl
          obtain⟨w8,hw8⟩:∃ w8,w6.setCell ⟨A,i,none⟩ (.bool false)=w8:=⟨_,rfl⟩
          rw [hw8] at hF9
          have HF9:=Lib.hid hF9
          clear hS hF9 HB6 HI HK HACI
          go_wp2_with fail
          try rw [hw8]
          go_roundw
          case measure=>simp [intOf];omega
          case rel=>exact⟨i+1,_,_,by omega,by go_num,HF9.out⟩
     ·obtain rfl:i=k:=by omega
      have t1:decide ((i:Int)<(i:Int))=false:=decide_eq_false (by omega)
      have t1':¬ (i:Int)<(i:Int):=by omega
      have d0:wo.cell? ⟨D,0,none⟩=some (.int .i64 0):=HII.out.dfa.box.cell 0
      have d1:wo.cell? ⟨D,1,none⟩=some (.slice (some ⟨L,0,none⟩) i i):=HII.out.dfa.box.cell 1
      have d2:wo.cell? ⟨D,2,none⟩=some (.slice (some ⟨A,0,none⟩) i i):=HII.out.dfa.box.cell 2
      have hQi:=HN.out
      have hQ2:Q.length≤2000:=by have:=HQB.out;omega
      have HOK:=Lib.hid (rawQ_ok (x0:=x0) (ac:=fun i=>accN ls (stQ Q x0 i)) HCL.out (by have:=HQ0.out;omega) hQ2)
      have hraw:=HII.out
      rw [←hQi] at hraw
      obtain⟨hm1,hm2⟩:=hraw.made hQ2
      have HMI:Hid (Calls Tryz.prog 47 #[.agg #[.int .i64 0,.slice (some ⟨L,0,none⟩) i i,.slice (some ⟨A,0,none⟩) i i]] wo (GotQ (rawQ f x0 (fun i=>accN ls (stQ Q x0 i)) Q) wo)):=Lib.hid (by
       have:=minP_any (rawQ f x0 (fun i=>accN ls (stQ Q x0 i)) Q) (some ⟨L,0,none⟩) i (some ⟨A,0,none⟩) i wo (by rw [rawQ_len,←hQi];exact hm1) (by rw [rawQ_acl,←hQi];exact hm2)
       rw [rawQ_len,rawQ_acl,hQi] at this
       exact this)
      have HBX:=Lib.hid HII.out.box
      have HBW:=Lib.hid HII.out.bw
      have HQ2:=Lib.hid hQ2
      clear hraw hm1 hm2 hQi hQ2 HII
      go_wp2_with fail
      refine HMI.out.mono ?_
      rintro e w9 ⟨hq,b9⟩
      rcases hq with⟨hq,_⟩|⟨_,Gm,cl,kk,LB,CB,AB,hG,heq,hcl,hst,hkn,rfl,hmd⟩
      ·rw [HOK.out] at hq
       cases hq
      have HB9:=Lib.hid (HBX.out.below b9)
      have HGQ:Hid (Gm.Ok∧Eqv Gm (toA (rawQ f x0 (fun i=>accN ls (stQ Q x0 i)) Q)) Gm.s0 (toA (rawQ f x0 (fun i=>accN ls (stQ Q x0 i)) Q)).s0∧Cls Gm cl∧Stop Gm cl kk∧kk≤Q.length):=Lib.hid ⟨hG,heq,hcl,hst,by rw [←rawQ_len];exact hkn⟩
      have HMD:=Lib.hid (hmd.set3 (D:=G) (base:=G) HBX.out.lt (Nat.le_of_lt HBX.out.lt) (.int .i64 0) (.slice (some ⟨LB,0,none⟩) kk kk) (.slice (some ⟨AB,0,none⟩) kk kk))
      have hpt:=put3_ok (n:=G) (a':= .int .i64 0) (b':= .slice (some ⟨LB,0,none⟩) kk kk) (c':= .slice (some ⟨AB,0,none⟩) kk kk) HB9.out (Nat.le_refl _)
      have HPT:=Lib.hid hpt.1
      have HEB:=Lib.hid ((HBW.out.trans (b9.mono (by have:=HBX.out.lt;omega))).trans hpt.2)
      have d0:w9.cell? ⟨G,0,none⟩=some (.int .i64 0):=HB9.out.cell 0
      have fz0:w9.frozen? ⟨G,0,none⟩=false:=HB9.out.frozen 0
      have d1:w9.cell? ⟨G,1,none⟩=some (.slice none 0 0):=HB9.out.cell 1
      have fz1:w9.frozen? ⟨G,1,none⟩=false:=HB9.out.frozen 1
      have d2:w9.cell? ⟨G,2,none⟩=some (.slice none 0 0):=HB9.out.cell 2
      have fz2:w9.frozen? ⟨G,2,none⟩=false:=HB9.out.frozen 2
      clear hG heq hcl hst hkn hmd hpt b9 HMI HBX HBW
      go_wp2_with fail
      exact bodyPost_ret (v:= .tuple #[.agg #[.int .i64 0,.slice (some ⟨LB,0,none⟩) kk kk,.slice (some ⟨AB,0,none⟩) kk kk],.int .i64 0]) (resP3 rfl rfl rfl rfl rfl HPT.out) rfl ⟨Q,HFO.out,HQ2.out,⟨Gm,cl,kk,LB,CB,AB,HGQ.out.1,HGQ.out.2.1,HGQ.out.2.2.1,HGQ.out.2.2.2.1,HGQ.out.2.2.2.2,rfl,by rw [HG.out];exact HMD.out⟩,by rw [HG.out];exact HEB.out⟩
end Go.Proofs.YtobapaodpcheiaaGreatDoor
