/- What the row stands on, part 3. -/
import Derived.BigRegion
import Derived.Deep.DeepCutAuto
import Derived.Test.YtobapaodpcheiaaGreatDoorQ2
namespace Go.Proofs.YtobapaodpcheiaaGreatDoor
open Go.RowKit
set_option linter.unusedVariables false
theorem getD_get {l:Str} {i:Nat} (h:i<l.length):l.getD i 0=l[i]:=by
 rw [List.getD_eq_getElem?_getD,List.getElem?_eq_getElem h];rfl
theorem tl_yes {l:Str} {p:Nat} (h:p<l.length) (h2:l[p]=48):tl l (p+1)=tl l p:=by rw [tl,if_pos (by rw [getD_get h,h2];rfl)]
theorem tl_no {l:Str} {p:Nat} (h:p<l.length) (h2:l[p]≠48):tl l (p+1)=p+1:=by rw [tl,if_neg (by rw [getD_get h];simpa using h2)]
theorem u8_eq48 (c:UInt8):c=48↔(c.toNat:Int)=48:=by
 constructor
 ·rintro rfl;rfl
 ·intro h;exact u8_ext (by show c.toNat=48;omega)
set_option maxRecDepth 1000000 in
set_option maxHeartbeats 2000000 in
theorem trimEnd_any (a:Option Addr) (n c:Nat) (l:Str) (w:World) (hv:RdB w (.slice a n c) l) (hl:l.length≤1000):
  Calls Tryz.prog 85 #[.slice a n c] w fun e w'=>e= .returned (.slice a (trim l).length c)∧w'=w:=by
 have hn:=hv.len
 obtain⟨_,_,hs,hc1,hc2⟩:=hv.slice
 cases hs
 have HV:=Lib.hid hv
 clear hv hn
 go_enter Tryz.func85,Tryz.ntmps85
 go_wp2
 go_loop [3] (fun v3=>∃ k:Nat,k≤l.length∧v3= .int .i64 k∧tl l k=tl l l.length) (fun v3=>(intOf v3).toNat)
 case atStart=>exact⟨l.length,Nat.le_refl _,rfl,rfl⟩
 case round=>
  obtain⟨k,hk,rfl,htl⟩:=hrel
  have HT:=Lib.hid htl
  clear htl
  have g1:(k:Int)≤(c:Int):=by omega
  rcases k with _|p
  ·have HF:Hid (0=(trim l).length):=Lib.hid (by rw [trim_len_eq,←HT.out];rfl)
   clear HT g1 hk
   go_wp2
   go_ret
   exact⟨by rw [←HF.out];rfl,rfl⟩
  ·obtain⟨b,off,rfl,hx⟩:=HV.out.byte p hk
   have hy:=u8_eq48 (l[p])
   have hb1:=u8_lt (l[p])
   obtain⟨x,hxx⟩:∃ x:Int,((l[p]).toNat:Int)=x:=⟨_,rfl⟩
   rw [hxx] at hx hy
   clear hxx hb1
   by_cases h0:x=48
   ·have HT2:=Lib.hid (tl_yes hk (hy.2 h0))
    subst h0
    clear hy
    go_wp2
    go_round
    case rel=>exact⟨p,Nat.le_of_succ_le hk,by go_num,by rw [←HT2.out,HT.out]⟩
    case measure=>simp [intOf]
   ·have HT2:=Lib.hid (tl_no hk (fun e=>h0 (hy.1 e)))
    have HF:Hid (p+1=(trim l).length):=Lib.hid (by rw [trim_len_eq,←HT.out,HT2.out])
    have g2:(p:Int)+1≤(c:Int):=by omega
    have t1:(x==48)=false:=by rw [beq_eq_false_iff_ne];exact h0
    clear h0 HT HT2 hy
    go_wp2
    go_ret
    exact⟨by rw [←HF.out];show Ending.returned (Value.slice _ ((p:Int)+1).toNat c)=_;rw [show((p:Int)+1).toNat=p+1 by omega],rfl⟩
theorem val_take {l:Str} {k:Nat} (h:k<l.length):val (l.take (k+1))=val (l.take k)*10+dg l[k]:=by
 rw [List.take_succ_eq_append_getElem h,val_snoc]
set_option maxRecDepth 1000000 in
set_option maxHeartbeats 2000000 in
theorem integer_any (v:Value) (l:Str) (w:World) (hv:RdB w v l) (hd:allD l) (hl:l.length≤15):
  Calls Tryz.prog 86 #[v] w fun e w'=>e= .returned (.int .i64 (val l:Int))∧w'=w:=by
 obtain⟨a,c,rfl,hc1,hc2⟩:=hv.slice
 have HV:=Lib.hid hv
 have HD:=Lib.hid hd
 clear hv hd
 go_enter Tryz.func86,Tryz.ntmps86
 go_wp2
 go_loop [3,8] (fun v3 v8=>∃ k:Nat,k≤l.length∧v8= .int .i64 k∧v3= .int .i64 (val (l.take k):Int)) (fun _ v8=>l.length - (intOf v8).toNat)
 case atStart=>exact⟨0,Nat.zero_le _,rfl,rfl⟩
 case round=>
  obtain⟨k,hk,rfl,rfl⟩:=hrel
  by_cases hlt:k<l.length
  ·obtain⟨b,off,rfl,hx⟩:=HV.out.byte k hlt
   have h1:=val_take hlt
   have h2:val (l.take k)<10 ^ 15:=Nat.lt_of_lt_of_le (val_lt (allD_take HD.out k)) (Nat.pow_le_pow_right (by omega) (by rw [List.length_take];omega))
   have h3:=isD_iff.1 (HD.out _ (List.getElem_mem hlt))
   obtain⟨x,hxx⟩:∃ x:Nat,(l[k]).toNat=x:=⟨_,rfl⟩
   obtain⟨N,hN⟩:∃ N:Nat,val (l.take k)=N:=⟨_,rfl⟩
   have h4:val (l.take (k+1))=N*10+(x - 48):=by rw [h1,hN];unfold dg;rw [hxx]
   rw [hxx] at hx h3
   rw [hN] at h2 ⊢
   have H4:=Lib.hid h4
   obtain⟨h5,h6⟩:=h3
   have h7:N<1000000000000000:=h2
   have q1:(48:Int)≤(x:Int):=by omega
   have q2:(x:Int)≤57:=by omega
   have q3:(k:Int)<(l.length:Int):=by omega
   clear h1 h2 h4 hxx hN h5 h6
   go_wp2
   go_round
   case rel=>exact⟨k+1,hlt,by go_num,by rw [H4.out];exact val_int (by omega)⟩
   case measure=>simp [intOf];omega
  ·obtain rfl:k=l.length:=by omega
   have q3:¬ (l.length:Int)<(l.length:Int):=by omega
   go_wp2
   go_ret
   exact⟨rfl,rfl⟩
theorem trim_zero (l:Str):(((trim l).length:Int)==0)=zero l:=by
 rw [Bool.eq_iff_iff,beq_iff_eq]
 rw [←trim_nil_iff]
 constructor
 ·intro h;exact List.eq_nil_of_length_eq_zero (by omega)
 ·intro h;rw [h];rfl
set_option maxRecDepth 1000000 in
set_option maxHeartbeats 2000000 in
theorem isZero_any (b:Bool) (a1:Option Addr) (n1 c1:Nat) (wh:Str) (a2:Option Addr) (n2 c2:Nat) (fr:Str) (w:World) (h1:RdB w (.slice a1 n1 c1) wh) (h2:RdB w (.slice a2 n2 c2) fr) (l1:wh.length≤1000) (l2:fr.length≤1000):
  Calls Tryz.prog 83 #[.agg #[.bool b,.slice a1 n1 c1,.slice a2 n2 c2]] w fun e w'=>e= .returned (.bool (zero (wh++fr)))∧Below w.heap.size w w':=by
 have R1:=Lib.hid (h1.alloc (.cells #[.bool b,.slice a1 n1 c1,.slice a2 n2 c2] 106))
 have R2:=Lib.hid (h2.alloc (.cells #[.bool b,.slice a1 n1 c1,.slice a2 n2 c2] 106))
 have HB:=Lib.hid ((Below.refl w.heap.size w).alloc (Nat.le_refl _) (.cells #[.bool b,.slice a1 n1 c1,.slice a2 n2 c2] 106))
 clear h1 h2
 have z1:=trim_zero wh
 have z2:=trim_zero fr
 have HZ:=Lib.hid (zero_app wh fr)
 go_enter Tryz.func83,Tryz.ntmps83
 go_wp2_with fail
 refine(trimEnd_any a1 n1 c1 wh _ R1.out l1).mono ?_
 rintro e w' ⟨rfl,hw'⟩
 obtain rfl:=hw'.symm
 cases hz:zero wh with
 |false=>
  rw [hz] at z1 HZ
  clear z2 hz
  go_wp2
  go_ret
  exact⟨by rw [HZ.out];rfl,HB.out⟩
 |true=>
  rw [hz] at z1 HZ
  clear hz
  go_wp2_with fail
  refine(trimEnd_any a2 n2 c2 fr _ R2.out l2).mono ?_
  rintro e w' ⟨rfl,hw'⟩
  obtain rfl:=hw'.symm
  obtain⟨zb,hzb⟩:∃ zb,zero fr=zb:=⟨_,rfl⟩
  rw [hzb] at z2 HZ
  clear hzb
  go_wp2
  go_ret
  exact⟨by rw [HZ.out,Bool.true_and];rfl,HB.out⟩
def RdN (w:World) (u:Value) (x:Num):Prop:=∃ a1 c1 a2 c2,u= .agg #[.bool x.neg,.slice a1 x.wh.length c1,.slice a2 x.fr.length c2]∧RdB w (.slice a1 x.wh.length c1) x.wh∧RdB w (.slice a2 x.fr.length c2) x.fr
theorem RdN.below {w w':World} {u:Value} {x:Num} (h:RdN w u x) (hb:Below w.heap.size w w'):RdN w' u x:=by
 obtain⟨a1,c1,a2,c2,h0,h1,h2⟩:=h
 exact⟨a1,c1,a2,c2,h0,h1.below hb,h2.below hb⟩
def put3 (W:World) (B:Nat) (a b c:Value):World:=((W.setCell ⟨B,0,none⟩ a).setCell ⟨B,1,none⟩ b).setCell ⟨B,2,none⟩ c
theorem put3_ok {W:World} {B n:Nat} {t:TypeId} {a b c a' b' c':Value} (h:Blk B t #[a,b,c] W) (hn:n≤B):Blk B t #[a',b',c'] (put3 W B a' b' c')∧Below n W (put3 W B a' b' c'):=by
 refine⟨?_,(((Below.refl n W).setCell hn a').setCell hn b').setCell hn c'⟩
 exact((h.put 0 a').put 1 b').put 2 c'
theorem Blk.drew {B:Nat} {t:TypeId} {cs:Array Value} {W:World} (h:Blk B t cs W):Blk B t cs W.drew:=h
theorem Blk.drewN {B:Nat} {t:TypeId} {cs:Array Value} {W:World} (h:Blk B t cs W) (n:Nat):Blk B t cs (W.drewN n):=h.below (below_drewN (Below.refl _ _) n)
theorem rdN_zero (w:World):RdN w (.agg #[.bool false,.slice none 0 0,.slice none 0 0]) ⟨false,[],[]⟩:=⟨none,0,none,0,rfl,rd_nil w,rd_nil w⟩
def SplPost (s:Str) (w:World) (e:Ending) (w':World):Prop:=∃ u ok x,e= .returned (.tuple #[u,.bool ok])∧RdN w' u x∧(ok=true→spl s=some x)∧(ok=false→spl s=none)∧Below w.heap.size w w'
theorem res29 {W:World} {tm:Array Value} {B:Nat} {t:TypeId} {a b c d:Value} (t2:tm[2]?.getD undef= .pointer (some ⟨B,0,none⟩)) (t3:tm[3]?.getD undef=d) (h:Blk B t #[a,b,c] W):
  (results Tryz.f49 tm).run Tryz.prog W= .ok (.tuple #[.agg #[a,b,c],d]) W:=by
 have a0:W.cell? ⟨B,0,none⟩=some a:=h.cell 0
 have a1:W.cell? ⟨B,1,none⟩=some b:=h.cell 1
 have a2:W.cell? ⟨B,2,none⟩=some c:=h.cell 2
 simp [results,Tryz.f49,go_sem,t2,t3,a0,a1,a2]
theorem head_data {s:ByteArray} (h:0<s.size):s.data.toList.head? =some (s[0]'h):=by
 have hl:0<s.data.toList.length:=by rw [len_data];exact h
 rw [List.head?_eq_getElem?,List.getElem?_eq_getElem hl]
 rfl
theorem data_nil {s:ByteArray} (h:s.size=0):s.data.toList= []:=List.eq_nil_of_length_eq_zero (by rw [len_data];exact h)
theorem u8_eq (c d:UInt8):c=d↔(c.toNat:Int)=(d.toNat:Int):=by
 constructor
 ·rintro rfl;rfl
 ·intro h;exact u8_ext (by omega)
theorem neg_cons {l:Str} (h:negP l=true):l=45::unP l:=by
 have:=unP_eq l
 rw [h] at this
 exact this
set_option maxRecDepth 1000000 in
set_option maxHeartbeats 4000000 in
theorem split_any (s:ByteArray) (hs:s.size≤9223372036854775807) (w:World):Calls Tryz.prog 49 #[.string s] w (SplPost s.data.toList w):=by
 have HB:=Lib.hid (((Below.refl w.heap.size w).alloc (Nat.le_refl _) (.cells #[.bool false,.slice none 0 0,.slice none 0 0] 106)).alloc (by simp) (.cells #[.bool false,.slice none 0 0,.slice none 0 0] 106))
 have K1:=Lib.hid ((Blk.new w 106 #[.bool false,.slice none 0 0,.slice none 0 0]).alloc (.cells #[.bool false,.slice none 0 0,.slice none 0 0] 106))
 have K2:=Lib.hid (Blk.new (w.alloc (.cells #[.bool false,.slice none 0 0,.slice none 0 0] 106)) 106 #[.bool false,.slice none 0 0,.slice none 0 0])
 go_enter Tryz.func49,Tryz.ntmps49
 go_upto_region 2 with fail
 obtain⟨W0,hW0⟩:∃ W0,(w.alloc (.cells #[.bool false,.slice none 0 0,.slice none 0 0] 106)).alloc (.cells #[.bool false,.slice none 0 0,.slice none 0 0] 106)=W0:=⟨_,rfl⟩
 rw [hW0] at K1 K2 HB ⊢
 rw [World.size_alloc] at K2
 obtain⟨B0,hB0⟩:∃ B0,w.heap.size=B0:=⟨_,rfl⟩
 have HB0:=Lib.hid hB0
 rw [hB0] at K1 K2 ⊢
 have HW0:=Lib.hid hW0
 clear hW0 hB0
 obtain⟨l,hl⟩:∃ l,s.data.toList=l:=⟨_,rfl⟩
 have HL:=Lib.hid hl
 obtain⟨nb,hnb⟩:∃ nb,negP l=nb:=⟨_,rfl⟩
 have HNB:=Lib.hid hnb
 clear hl hnb
 go_cut [12] from 6 to 12 (fun v12 wx=>v12= .bool nb∧wx=W0)
 case first=>
  by_cases h0:s.size=0
  ·have e1:(s.toList==([]:List UInt8))=true:=by rw [ByteArray.toList_eq,data_nil h0];rfl
   have e2:Hid (nb=false):=Lib.hid (by rw [←HNB.out,←HL.out,data_nil h0];rfl)
   go_wp2_with fail
   go_meet
   exact⟨by rw [e2.out],rfl⟩
  ·have h1:0<s.size:=by omega
   have e1:(s.toList==([]:List UInt8))=false:=by rw [ByteArray.toList_eq,beq_eq_false_iff_ne];intro e;have:=len_data s;rw [e] at this;simp at this;omega
   have e2:Hid (((s[0]'h1).toNat:Int)=45↔nb=true):=Lib.hid (by
    rw [←HNB.out,←HL.out]
    unfold negP
    rw [head_data h1,decide_eq_true_eq,Option.some_inj]
    exact(u8_eq (s[0]'h1) 45).symm)
   clear h0
   by_cases h2:((s[0]'h1).toNat:Int)=45
   ·have e3:=e2.out.1 h2
    have e4:(((s[0]'h1).toNat:Int)==45)=true:=by rw [beq_iff_eq];exact h2
    clear h2
    go_wp2_with fail
    go_meet
    exact⟨by rw [e3],rfl⟩
   ·have e3:nb=false:=by cases h:nb with|false=>rfl|true=>exact absurd (e2.out.2 h) h2
    have e4:(((s[0]'h1).toNat:Int)==45)=false:=by rw [beq_eq_false_iff_ne];exact h2
    clear h2
    go_wp2_with fail
    go_meet
    exact⟨by rw [e3],rfl⟩
 case rest=>
  obtain⟨rfl,hwc⟩:=hcut
  obtain rfl:=hwc.symm
  go_upto_if 12 with fail
  have zw:=HB.out.size
  go_cut [0] from 13 to 15 (fun v0 wx=>v0= .string (ofL (unP l))∧Blk (B0+1) 106 #[.bool nb,.slice none 0 0,.slice none 0 0] wx∧Blk B0 106 #[.bool false,.slice none 0 0,.slice none 0 0] wx∧Below w.heap.size w wx)
  case first=>
   cases nb with
   |false=>
    go_wp2_with fail
    go_meet
    refine⟨?_,K2.out,K1.out,HB.out⟩
    have e1:unP l=l:=by
     have:=unP_eq l
     rw [HNB.out] at this
     exact this.symm
    rw [e1,←HL.out,of_data]
   |true=>
    have h1:1≤s.size:=by rw [←len_data,HL.out,neg_cons HNB.out];simp
    have q1:(1:Int)≤(s.size:Int):=by omega
    have x0:W0.cell? ⟨B0+1,0,none⟩=some (.bool false):=K2.out.cell 0
    have x1:W0.drew.cell? ⟨B0+1,0,none⟩=some (.bool false):=K2.out.cell 0
    have xf:W0.frozen? ⟨B0+1,0,none⟩=false:=K2.out.frozen 0
    have xg:W0.drew.frozen? ⟨B0+1,0,none⟩=false:=K2.out.frozen 0
    go_wp2_with fail
    go_region
    all_goals go_wp2_with fail
    all_goals go_meet
    refine⟨?_,(K2.out.put 0 (.bool true)).drew,(K1.out.far (p:=⟨B0+1,0,none⟩) (by show B0≠B0+1;omega) _).drew,(HB.out.setCell (p:=⟨B0+1,0,none⟩) (by have:=HB0.out;show w.heap.size≤B0+1;omega) _).drew⟩
    have e1:s.data.toList=45::unP l:=HL.out.trans (neg_cons HNB.out)
    have e2:s.size=(unP l).length+1:=by rw [←len_data,e1,List.length_cons]
    rw [ext_of,e1,e2,List.drop_succ_cons,List.drop_zero,List.take_of_length_le (by omega)]
  case rest=>
   obtain⟨rfl,k2,k1,hb⟩:=hcut
   have hul:(unP l).length≤9223372036854775807:=by
    have e:=congrArg List.length (unP_eq l)
    rw [List.length_append] at e
    have:=len_data s
    rw [HL.out] at this
    omega
   have HU:=Lib.hid hul
   clear K1 K2 HB zw HW0
   have K1:=Lib.hid k1
   have K2:=Lib.hid k2
   have HB:=Lib.hid hb
   clear k1 k2 hb
   obtain⟨t,ht⟩:∃ t,ofL (unP l)=t:=⟨_,rfl⟩
   have ht2:t.data.toList=unP l:=by rw [←ht];rfl
   have HT:=Lib.hid ht2
   have hts:t.size≤9223372036854775807:=by rw [←len_data,ht2];exact HU.out
   rw [ht]
   clear ht ht2
   go_wp2_with fail
   refine(cutDigits_any t 15 hts (by omega) _).mono ?_
   rintro e w1 ⟨va,rfl,hra,hown,hb1⟩
   rw [HT.out] at hra ⊢
   obtain⟨wh,hwh⟩:∃ wh,(unP l).take (run 15 (unP l))=wh:=⟨_,rfl⟩
   obtain⟨s2,hs2⟩:∃ s2,(unP l).drop (run 15 (unP l))=s2:=⟨_,rfl⟩
   rw [hwh] at hra
   rw [hs2]
   have HWH:=Lib.hid (And.intro hwh hs2)
   clear hwh hs2
   obtain⟨a1,c1,rfl,_,_⟩:=hra.slice
   have J1:=Lib.hid (K1.out.below hb1)
   have J2:=Lib.hid (K2.out.below hb1)
   have HB1:=Lib.hid (st HB.out hb1 HB.out.size)
   have HNE:Hid (∀ b,(Value.slice a1 wh.length c1).ownBlock=some b→b≠B0+1):=Lib.hid (fun b e=>by have:=hown b e;have:=K2.out.lt;omega)
   have HNF:Hid (∀ b,(Value.slice a1 wh.length c1).ownBlock=some b→b≠B0):=Lib.hid (fun b e=>by have:=hown b e;have:=K2.out.lt;omega)
   have RA:=Lib.hid hra
   clear hra hb1 K1 K2 HB hown
   have x1:w1.cell? ⟨B0+1,1,none⟩=some (.slice none 0 0):=J2.out.cell 1
   have xf:w1.frozen? ⟨B0+1,1,none⟩=false:=J2.out.frozen 1
   go_upto_region 5 with fail
   have hwn:w1.heap.size=w1.heap.size:=rfl
   have J3:=Lib.hid (J2.out.put 1 (.slice a1 wh.length c1))
   have J4:=Lib.hid (J1.out.far (p:=⟨B0+1,1,none⟩) (by show B0≠B0+1;omega) (.slice a1 wh.length c1))
   have HB2:=Lib.hid (HB1.out.setCell (p:=⟨B0+1,1,none⟩) (by have:=HB0.out;show w.heap.size≤B0+1;omega) (.slice a1 wh.length c1))
   have RA2:=Lib.hid (RA.out.but (But.setCell (B0+1) w1 1 (.slice a1 wh.length c1)) HNE.out)
   obtain⟨W2,hW2⟩:∃ W2,w1.setCell ⟨B0+1,1,none⟩ (.slice a1 wh.length c1)=W2:=⟨_,rfl⟩
   rw [hW2] at J3 J4 HB2 RA2 ⊢
   have HW2:=Lib.hid hW2
   have J3':Blk (B0+1) 106 #[.bool nb,.slice a1 wh.length c1,.slice none 0 0] W2:=J3.out
   clear hW2 J1 J2 HB1 x1 xf RA J3
   have J3:=Lib.hid J3'
   clear J3'
   have x1:W2.cell? ⟨B0+1,1,none⟩=some (.slice a1 wh.length c1):=J3.out.cell 1
   obtain⟨ok1,hok1⟩:∃ ok1,(decide (wh.length=1)||(decide (1<wh.length)&&decide (wh.head?≠some 48)))=ok1:=⟨_,rfl⟩
   have HOK:=Lib.hid hok1
   clear hok1
   obtain⟨N,hN⟩:∃ N,wh.length=N:=⟨_,rfl⟩
   have HN:=Lib.hid hN
   rw [hN] at x1 J3 RA2 HNE HNF ⊢
   clear hN
   go_cut [5] from 22 to 38 (fun v5 wx=>v5= .bool ok1∧wx=W2)
   case first=>
    by_cases h1:N=1
    ·have e1:Hid (ok1=true):=Lib.hid (by rw [←HOK.out,HN.out,h1];rfl)
     have q1:((N:Int)==1)=true:=by rw [beq_iff_eq];omega
     clear h1
     go_wp2_with fail
     go_meet
     exact⟨by rw [e1.out],rfl⟩
    ·have q1:((N:Int)==1)=false:=by rw [beq_eq_false_iff_ne];omega
     by_cases h2:1<N
     ·have q2:(1:Int)<(N:Int):=by omega
      obtain⟨bb,off,rfl,hx⟩:=RA2.out.byte 0 (by rw [HN.out];omega)
      rw [Nat.add_zero] at hx
      have hh:wh.head? =some (wh[0]'(by rw [HN.out];omega)):=by rw [List.head?_eq_getElem?,List.getElem?_eq_getElem]
      have hy:=u8_eq48 (wh[0]'(by rw [HN.out];omega))
      obtain⟨y,hyy⟩:∃ y,wh[0]'(by rw [HN.out];omega)=y:=⟨_,rfl⟩
      rw [hyy] at hh hx hy
      obtain⟨x,hxx⟩:∃ x:Int,(y.toNat:Int)=x:=⟨_,rfl⟩
      rw [hxx] at hx hy
      have e1:Hid (ok1= !(x==48)):=Lib.hid (by
       rw [←HOK.out,HN.out,hh]
       have:(decide (some y≠some 48))= !(x==48):=by
        rw [Bool.eq_iff_iff,decide_eq_true_eq,Bool.not_eq_true',beq_eq_false_iff_ne]
        exact not_congr (by rw [Option.some_inj];exact hy)
       rw [this]
       simp [h1,h2])
      clear hh hxx hyy hy h1 h2
      by_cases h4:x=48
      ·have q3:(x==48)=true:=by rw [beq_iff_eq];exact h4
       subst h4
       go_wp2_with fail
       go_meet
       exact⟨by rw [e1.out];rfl,rfl⟩
      ·have q3:(x==48)=false:=by rw [beq_eq_false_iff_ne];exact h4
       clear h4
       go_wp2_with fail
       go_meet
       exact⟨by rw [e1.out];rfl,rfl⟩
     ·have q2:¬ (1:Int)<(N:Int):=by omega
      have e1:Hid (ok1=false):=Lib.hid (by rw [←HOK.out,HN.out];simp [h1,h2])
      clear h1 h2
      go_wp2_with fail
      go_meet
      exact⟨by rw [e1.out],rfl⟩
   case rest=>
    obtain⟨rfl,hwc⟩:=hcut
    obtain rfl:=hwc.symm
    clear x1
    go_upto_region 6 with fail
    obtain⟨t2,ht2⟩:∃ t2,ofL s2=t2:=⟨_,rfl⟩
    have HT2:Hid (t2.data.toList=s2):=Lib.hid (by rw [←ht2];rfl)
    have hs2l:s2.length≤9223372036854775807:=by
     have:=HU.out
     rw [←HWH.out.2,List.length_drop]
     omega
    have hts2:t2.size≤9223372036854775807:=by rw [←len_data,HT2.out];exact hs2l
    rw [ht2]
    clear ht2 hs2l
    obtain⟨db,hdb⟩:∃ db,decide (s2.head? =some 46)=db:=⟨_,rfl⟩
    have HDB:=Lib.hid hdb
    clear hdb
    go_cut [45] from 39 to 45 (fun v45 wx=>v45= .bool db∧wx=W2)
    case first=>
     by_cases h0:t2.size=0
     ·have e1:(t2.toList==([]:List UInt8))=true:=by rw [ByteArray.toList_eq,data_nil h0];rfl
      have e2:Hid (db=false):=Lib.hid (by rw [←HDB.out,←HT2.out,data_nil h0];rfl)
      go_wp2_with fail
      go_meet
      exact⟨by rw [e2.out],rfl⟩
     ·have h1:0<t2.size:=by omega
      have e1:(t2.toList==([]:List UInt8))=false:=by rw [ByteArray.toList_eq,beq_eq_false_iff_ne];intro e;have:=len_data t2;rw [e] at this;simp at this;omega
      have e2:Hid (((t2[0]'h1).toNat:Int)=46↔db=true):=Lib.hid (by
       rw [←HDB.out,←HT2.out,head_data h1,decide_eq_true_eq,Option.some_inj]
       exact(u8_eq (t2[0]'h1) 46).symm)
      clear h0
      by_cases h2:((t2[0]'h1).toNat:Int)=46
      ·have e3:=e2.out.1 h2
       have e4:(((t2[0]'h1).toNat:Int)==46)=true:=by rw [beq_iff_eq];exact h2
       clear h2
       go_wp2_with fail
       go_meet
       exact⟨by rw [e3],rfl⟩
      ·have e3:db=false:=by cases h:db with|false=>rfl|true=>exact absurd (e2.out.2 h) h2
       have e4:(((t2[0]'h1).toNat:Int)==46)=false:=by rw [beq_eq_false_iff_ne];exact h2
       clear h2
       go_wp2_with fail
       go_meet
       exact⟨by rw [e3],rfl⟩
    case rest=>
     obtain⟨rfl,hwc⟩:=hcut
     obtain rfl:=hwc.symm
     go_upto_if 45 with fail
     go_cut [0,5] from 46 to 59 (fun v0 v5 wx=>v0= .string (ofL (reP s2))∧v5= .bool (okP wh s2)∧RdB wx (.slice a1 N c1) wh∧(∃ a2 c2,RdB wx (.slice a2 (frP s2).length c2) (frP s2)∧(∀ b,(Value.slice a2 (frP s2).length c2).ownBlock=some b→b≠B0)∧Blk (B0+1) 106 #[.bool nb,.slice a1 N c1,.slice a2 (frP s2).length c2] wx)∧Blk B0 106 #[.bool false,.slice none 0 0,.slice none 0 0] wx∧Below w.heap.size w wx)
     case first=>
      cases db with
      |false=>
       have hno:s2.head?≠some 46:=by have:=HDB.out;rw [decide_eq_false_iff_not] at this;exact this
       have e1:frP s2= []:=by unfold frP;rw [if_neg hno]
       have e2:reP s2=s2:=by unfold reP;rw [if_neg hno]
       have e3:okP wh s2=ok1:=by unfold okP;rw [HOK.out];simp [hno]
       have HE:=Lib.hid (And.intro e1 (And.intro e2 e3))
       clear hno e1 e2 e3
       go_wp2_with fail
       go_meet
       refine⟨?_,?_,RA2.out,⟨none,0,?_,(fun b e=>by cases e),?_⟩,J4.out,HB2.out⟩
       ·rw [HE.out.2.1,←HT2.out,of_data]
       ·rw [HE.out.2.2]
       ·rw [HE.out.1];exact rd_nil _
       ·rw [HE.out.1];exact J3.out
      |true=>
       have hyes:s2.head? =some 46:=of_decide_eq_true HDB.out
       have hs2e:=tail_of hyes
       have HS2:=Lib.hid hs2e
       have h1:1≤t2.size:=by rw [←len_data,HT2.out,hs2e];simp
       have q1:(1:Int)≤(t2.size:Int):=by omega
       have e1:frP s2=s2.tail.take (run 6 s2.tail):=by unfold frP;rw [if_pos hyes]
       have e2:reP s2=s2.tail.drop (run 6 s2.tail):=by unfold reP;rw [if_pos hyes]
       have e3:okP wh s2=(ok1&&decide (0<(frP s2).length)):=by unfold okP;rw [HOK.out];simp [hyes]
       have HE:=Lib.hid (And.intro e1 (And.intro e2 e3))
       have hx:(t2.extract 1 t2.size).data.toList=s2.tail:=by
        rw [ext_of,ofL_list,HT2.out,List.take_of_length_le (by rw [←HT2.out,List.length_drop,len_data];omega),List.drop_one]
       have HX:=Lib.hid hx
       have hxs:(t2.extract 1 t2.size).size≤9223372036854775807:=by simp;omega
       clear hyes hs2e e1 e2 e3 hx
       go_wp2_with fail
       refine(cutDigits_any _ 6 hxs (by omega) _).mono ?_
       rintro e w3 ⟨vf,rfl,hrf,hown,hb3⟩
       rw [HX.out] at hrf ⊢
       obtain⟨a2,c2,hvf,_,_⟩:=hrf.slice
       subst hvf
       have HFE:=Lib.hid (HE.out.1.symm)
       rw [←HE.out.1] at hrf hown ⊢
       have HREP:Hid (reP s2=s2.tail.drop (run 6 s2.tail)):=Lib.hid HE.out.2.1
       rw [←HREP.out]
       have HOP:Hid (okP wh s2=(ok1&&decide (0<(frP s2).length))):=Lib.hid HE.out.2.2
       obtain⟨M,hM⟩:∃ M,(frP s2).length=M:=⟨_,rfl⟩
       rw [hM] at hrf hown HOP ⊢
       have HM:=Lib.hid hM
       have J5:=Lib.hid (J3.out.below hb3)
       have x2:w3.cell? ⟨B0+1,2,none⟩=some (.slice none 0 0):=J5.out.cell 2
       have xf:w3.frozen? ⟨B0+1,2,none⟩=false:=J5.out.frozen 2
       have JX:Hid (Blk (B0+1) 106 #[.bool nb,.slice a1 N c1,.slice a2 M c2] (w3.setCell ⟨B0+1,2,none⟩ (.slice a2 M c2))):=Lib.hid (J5.out.put 2 (.slice a2 M c2))
       have JY:=Lib.hid ((J4.out.below hb3).far (p:=⟨B0+1,2,none⟩) (by show B0≠B0+1;omega) (.slice a2 M c2))
       have HBX:=Lib.hid ((st HB2.out hb3 HB2.out.size).setCell (p:=⟨B0+1,2,none⟩) (by have:=HB0.out;show w.heap.size≤B0+1;omega) (.slice a2 M c2))
       have RX:=Lib.hid ((RA2.out.below hb3).but (But.setCell (B0+1) w3 2 (.slice a2 M c2)) HNE.out)
       have RY:=Lib.hid (hrf.but (But.setCell (B0+1) w3 2 (.slice a2 M c2)) (fun b e=>by have:=hown b e;have:=J3.out.lt;omega))
       have HNG:Hid (∀ b,(Value.slice a2 (frP s2).length c2).ownBlock=some b→b≠B0):=Lib.hid (fun b e=>by have:=hown b (by rw [←hM];exact e);have:=J3.out.lt;omega)
       clear hrf hown hM hb3 HE
       have y2:(w3.setCell ⟨B0+1,2,none⟩ (.slice a2 M c2)).cell? ⟨B0+1,2,none⟩=some (.slice a2 M c2):=JX.out.cell 2
       have fin:∀ vb:Bool,vb=(ok1&&decide (0<M))→Hid (Value.bool vb= .bool (okP wh s2)):=fun vb h=>Lib.hid (by rw [HOP.out,h])
       cases ok1 with
       |false=>
        have H9:=fin false rfl
        clear fin
        go_wp2_with fail
        go_meet
        refine⟨rfl,H9.out,RX.out,⟨a2,c2,?_,HNG.out,?_⟩,JY.out,HBX.out⟩
        ·rw [HM.out];exact RY.out
        ·rw [HM.out];exact JX.out
       |true=>
        by_cases hM0:0<M
        ·have q2:(0:Int)<(M:Int):=by omega
         have H9:=fin true (by simp [hM0])
         clear fin
         go_wp2_with fail
         go_meet
         refine⟨rfl,H9.out,RX.out,⟨a2,c2,?_,HNG.out,?_⟩,JY.out,HBX.out⟩
         ·rw [HM.out];exact RY.out
         ·rw [HM.out];exact JX.out
        ·have q2:¬ (0:Int)<(M:Int):=by omega
         have H9:=fin false (by simp [hM0])
         clear fin
         go_wp2_with fail
         go_meet
         refine⟨rfl,H9.out,RX.out,⟨a2,c2,?_,HNG.out,?_⟩,JY.out,HBX.out⟩
         ·rw [HM.out];exact RY.out
         ·rw [HM.out];exact JX.out
     case rest=>
      obtain⟨rfl,rfl,ra,⟨a2,c2,rf,hg,k2⟩,k1,hb⟩:=hcut
      clear J3 J4 RA2 HB2
      obtain⟨M,hM⟩:∃ M,(frP s2).length=M:=⟨_,rfl⟩
      rw [hM] at rf k2 hg
      have HNG:=Lib.hid hg
      have HM:=Lib.hid hM
      have RA:=Lib.hid ra
      have RF:=Lib.hid rf
      have K2:=Lib.hid k2
      have K1:=Lib.hid k1
      have HB:=Lib.hid hb
      clear hM ra rf k2 k1 hb hg
      have HSP:Hid (spl l=if okP wh s2=true∧reP s2= []∧(nb&&zero (wh++frP s2))=false then some ⟨nb,wh,frP s2⟩ else none):=Lib.hid (by
       unfold spl splU
       dsimp only
       rw [HNB.out,HWH.out.1,HWH.out.2])
      obtain⟨t3,ht3⟩:∃ t3,ofL (reP s2)=t3:=⟨_,rfl⟩
      have HT3:Hid (t3.data.toList=reP s2):=Lib.hid (by rw [←ht3];rfl)
      rw [ht3]
      clear ht3
      obtain⟨okb,hok⟩:∃ okb,okP wh s2=okb:=⟨_,rfl⟩
      rw [hok] at HSP ⊢
      clear hok
      rename World=>wc
      have x0:wc.cell? ⟨B0+1,0,none⟩=some (.bool nb):=K2.out.cell 0
      have x1:wc.cell? ⟨B0+1,1,none⟩=some (.slice a1 N c1):=K2.out.cell 1
      have x2:wc.cell? ⟨B0+1,2,none⟩=some (.slice a2 M c2):=K2.out.cell 2
      have y0:wc.cell? ⟨B0,0,none⟩=some (.bool false):=K1.out.cell 0
      have y1:wc.cell? ⟨B0,1,none⟩=some (.slice none 0 0):=K1.out.cell 1
      have y2:wc.cell? ⟨B0,2,none⟩=some (.slice none 0 0):=K1.out.cell 2
      have yf:=K1.out.frozen
      have HFIN:Hid (∀ w3,But B0 wc w3→RdN w3 (.agg #[.bool nb,.slice a1 N c1,.slice a2 M c2]) ⟨nb,wh,frP s2⟩):=Lib.hid (fun w3 hb=>by
       refine⟨a1,c1,a2,c2,?_,?_,?_⟩
       ·dsimp only;rw [HN.out,HM.out]
       ·dsimp only;rw [HN.out];exact RA.out.but hb HNF.out
       ·dsimp only;rw [HM.out];exact RF.out.but hb HNG.out)
      cases okb with
      |false=>
       have HNO:Hid (spl l=none):=Lib.hid (by rw [HSP.out,if_neg (by simp)])
       go_wp2
       obtain⟨p1,p2⟩:=put3_ok (n:=w.heap.size) (a':= .bool false) (b':= .slice none 0 0) (c':= .slice none 0 0) K1.out (by have:=HB0.out;omega)
       exact bodyPost_ret (v:= .tuple #[.agg #[.bool false,.slice none 0 0,.slice none 0 0],.bool false]) (res29 rfl rfl p1) rfl ⟨_,false,⟨false,[],[]⟩,rfl,rdN_zero _,(fun h=>by cases h),(fun _=>by rw [HL.out];exact HNO.out),HB.out.trans p2⟩
      |true=>
       by_cases h3:t3.size=0
       ·have e1:(t3.toList==([]:List UInt8))=true:=by rw [ByteArray.toList_eq,data_nil h3];rfl
        have hre:reP s2= []:=by rw [←HT3.out,data_nil h3]
        have HSQ:Hid (spl l=if (nb&&zero (wh++frP s2))=false then some ⟨nb,wh,frP s2⟩ else none):=Lib.hid (by rw [HSP.out];simp [hre])
        clear h3 hre
        cases nb with
        |false=>
         have HYES:Hid (spl l=some ⟨false,wh,frP s2⟩):=Lib.hid (by rw [HSQ.out];rfl)
         go_wp2
         obtain⟨p1,p2⟩:=put3_ok (n:=w.heap.size) (a':= .bool false) (b':= .slice a1 N c1) (c':= .slice a2 M c2) K1.out (by have:=HB0.out;omega)
         have S1:=HFIN.out _ (((But.setCell B0 _ 0 (.bool false)).trans (But.setCell B0 _ 1 (.slice a1 N c1))).trans (But.setCell B0 _ 2 (.slice a2 M c2)))
         exact bodyPost_ret (v:= .tuple #[.agg #[.bool false,.slice a1 N c1,.slice a2 M c2],.bool true]) (res29 rfl rfl p1) rfl ⟨_,true,⟨false,wh,frP s2⟩,rfl,S1,(fun _=>by rw [HL.out];exact HYES.out),(fun h=>by cases h),HB.out.trans p2⟩
        |true=>
         go_wp2_with fail
         refine(isZero_any true a1 N c1 wh a2 M c2 (frP s2) _ RA.out RF.out (by have:=(run_le 15 (unP l)).1;rw [←HWH.out.1,List.length_take];omega) (by have:=(frP_allD s2).2;omega)).mono ?_
         rintro e w5 ⟨rfl,b5⟩
         have L1:=Lib.hid (K1.out.below b5)
         have L2:=Lib.hid (K2.out.below b5)
         have HB5:=Lib.hid (st HB.out b5 HB.out.size)
         have HBU:=Lib.hid (But.of_below (g:=B0) b5)
         clear b5 x0 x1 x2 y0 y1 y2 yf
         have x0:w5.cell? ⟨B0+1,0,none⟩=some (.bool true):=L2.out.cell 0
         have x1:w5.cell? ⟨B0+1,1,none⟩=some (.slice a1 N c1):=L2.out.cell 1
         have x2:w5.cell? ⟨B0+1,2,none⟩=some (.slice a2 M c2):=L2.out.cell 2
         have y0:w5.cell? ⟨B0,0,none⟩=some (.bool false):=L1.out.cell 0
         have y1:w5.cell? ⟨B0,1,none⟩=some (.slice none 0 0):=L1.out.cell 1
         have y2:w5.cell? ⟨B0,2,none⟩=some (.slice none 0 0):=L1.out.cell 2
         have yf:=L1.out.frozen
         cases hz:zero (wh++frP s2) with
         |true=>
          have HNO:Hid (spl l=none):=Lib.hid (by rw [HSQ.out,hz];rfl)
          clear hz
          go_wp2
          obtain⟨p1,p2⟩:=put3_ok (n:=w.heap.size) (a':= .bool false) (b':= .slice none 0 0) (c':= .slice none 0 0) L1.out (by have:=HB0.out;omega)
          exact bodyPost_ret (v:= .tuple #[.agg #[.bool false,.slice none 0 0,.slice none 0 0],.bool false]) (res29 rfl rfl p1) rfl ⟨_,false,⟨false,[],[]⟩,rfl,rdN_zero _,(fun h=>by cases h),(fun _=>by rw [HL.out];exact HNO.out),HB5.out.trans p2⟩
         |false=>
          have HYES:Hid (spl l=some ⟨true,wh,frP s2⟩):=Lib.hid (by rw [HSQ.out,hz];rfl)
          clear hz
          go_wp2
          obtain⟨p1,p2⟩:=put3_ok (n:=w.heap.size) (a':= .bool true) (b':= .slice a1 N c1) (c':= .slice a2 M c2) L1.out (by have:=HB0.out;omega)
          have S1:=HFIN.out _ ((HBU.out.trans (But.setCell B0 _ 0 (.bool true))).trans (But.setCell B0 _ 1 (.slice a1 N c1))|>.trans (But.setCell B0 _ 2 (.slice a2 M c2)))
          exact bodyPost_ret (v:= .tuple #[.agg #[.bool true,.slice a1 N c1,.slice a2 M c2],.bool true]) (res29 rfl rfl p1) rfl ⟨_,true,⟨true,wh,frP s2⟩,rfl,S1,(fun _=>by rw [HL.out];exact HYES.out),(fun h=>by cases h),HB5.out.trans p2⟩
       ·have e1:(t3.toList==([]:List UInt8))=false:=by rw [ByteArray.toList_eq,beq_eq_false_iff_ne];intro e;have:=len_data t3;rw [e] at this;simp at this;omega
        have HNO:Hid (spl l=none):=Lib.hid (by
         rw [HSP.out,if_neg]
         rintro⟨_,h,_⟩
         rw [←HT3.out] at h
         have:=len_data t3
         rw [h] at this
         simp at this
         omega)
        clear h3
        go_wp2
        obtain⟨p1,p2⟩:=put3_ok (n:=w.heap.size) (a':= .bool false) (b':= .slice none 0 0) (c':= .slice none 0 0) K1.out (by have:=HB0.out;omega)
        exact bodyPost_ret (v:= .tuple #[.agg #[.bool false,.slice none 0 0,.slice none 0 0],.bool false]) (res29 rfl rfl p1) rfl ⟨_,false,⟨false,[],[]⟩,rfl,rdN_zero _,(fun h=>by cases h),(fun _=>by rw [HL.out];exact HNO.out),HB.out.trans p2⟩
theorem trim_gt (l:Str):decide (0<((trim l).length:Int))= !zero l:=by
 rw [Bool.eq_iff_iff,decide_eq_true_eq,Bool.not_eq_true']
 have h:=trim_nil_iff (l:=l)
 constructor
 ·intro h1
  cases hz:zero l with
  |false=>rfl
  |true=>rw [h.2 hz] at h1;simp at h1
 ·intro h1
  have:trim l≠ []:=fun e=>by rw [h.1 e] at h1;cases h1
  have:=List.length_pos_iff.2 this
  omega
set_option maxRecDepth 1000000 in
set_option maxHeartbeats 2000000 in
theorem valid_any (s:ByteArray) (hs:s.size≤9223372036854775807) (w:World):Calls Tryz.prog 23 #[.string s] w fun e w'=>e= .returned (.bool (spl s.data.toList).isSome)∧Below w.heap.size w w':=by
 go_enter Tryz.func23,Tryz.ntmps23
 go_wp2_with fail
 refine(split_any s hs _).mono ?_
 rintro e w1 ⟨u,ok,x,rfl,⟨a1,c1,a2,c2,rfl,ra,rf⟩,hy,hn,b1⟩
 have HB:=Lib.hid (b1.alloc b1.size (.cells #[.bool x.neg,.slice a1 x.wh.length c1,.slice a2 x.fr.length c2] 106))
 have HV:Hid (ok=(spl s.data.toList).isSome):=Lib.hid (by
  cases ok with
  |true=>rw [hy rfl];rfl
  |false=>rw [hn rfl];rfl)
 clear ra rf hy hn b1
 go_wp2
 go_ret
 exact⟨by rw [←HV.out];rfl,HB.out⟩
theorem trim_rd {w:World} {a2:Option Addr} {n c2:Nat} {fr:Str} (rf:RdB w (.slice a2 n c2) fr):RdB w (.slice a2 (trim fr).length c2) (trim fr):=by
 have T:=rf.take (trim fr).length (trim_len _)
 have e:fr.take (trim fr).length=trim fr:=by
  conv=>lhs;arg 2;rw [trim_split fr]
  rw [List.take_left]
 rw [e] at T
 exact T
def OpPost (s:Str) (k:Int) (w:World) (e:Ending) (w':World):Prop:=e= .returned (.tuple #[.int .i64 (opR s k).1,.int .i64 (opR s k).2])∧Below w.heap.size w w'
set_option maxRecDepth 1000000 in
set_option maxHeartbeats 8000000 in
theorem operand_any (s:ByteArray) (k:Int) (hs:s.size≤9223372036854775807) (w:World):Calls Tryz.prog 53 #[.string s,.int .i64 k] w (OpPost s.data.toList k w):=by
 go_enter Tryz.func53,Tryz.ntmps53
 go_wp2_with fail
 refine(split_any s hs _).mono ?_
 rintro e w1 ⟨u,ok,x,rfl,⟨a1,c1,a2,c2,rfl,ra,rf⟩,hy,hn,b1⟩
 have HB:=Lib.hid (b1.alloc b1.size (.cells #[.bool x.neg,.slice a1 x.wh.length c1,.slice a2 x.fr.length c2] 106))
 have RA:=Lib.hid (ra.alloc (.cells #[.bool x.neg,.slice a1 x.wh.length c1,.slice a2 x.fr.length c2] 106))
 have RF:=Lib.hid (rf.alloc (.cells #[.bool x.neg,.slice a1 x.wh.length c1,.slice a2 x.fr.length c2] 106))
 clear ra rf b1
 cases ok with
 |false=>
  have HV:Hid (opR s.data.toList k=(0,1)):=Lib.hid (by unfold opR;rw [hn rfl])
  clear hy hn
  go_wp2
  go_ret2
  exact⟨by rw [HV.out];rfl,HB.out⟩
 |true=>
  have HY:=Lib.hid (hy rfl)
  have HG:=Lib.hid (spl_some HY.out).1
  clear hy hn
  have z2:=trim_gt x.fr
  have RT:=Lib.hid (trim_rd RF.out)
  have l1:=HG.out.high
  have l2:=HG.out.few
  have l3:=trim_len x.fr
  have HO:=Lib.hid (opR_some HY.out k)
  go_wp2_with fail
  refine(trimEnd_any a2 x.fr.length c2 x.fr _ RF.out (by omega)).mono ?_
  rintro e w' ⟨rfl,hw'⟩
  obtain rfl:=hw'.symm
  by_cases k1:k=1
  ·subst k1
   cases hz:zero x.fr with
   |false=>
    rw [hz] at z2
    have z3:0<((trim x.fr).length:Int):=of_decide_eq_true z2
    have HV:Hid (opR s.data.toList 1=(0,8)):=Lib.hid (by rw [HO.out];unfold opnd;rw [if_pos rfl,hz];rfl)
    clear hz z2
    go_wp2
    go_ret2
    exact⟨by rw [HV.out];rfl,HB.out⟩
   |true=>
    rw [hz] at z2
    have z3:¬ 0<((trim x.fr).length:Int):=of_decide_eq_false z2
    have HV:Hid (opR s.data.toList 1=((val x.wh:Int),0)):=Lib.hid (by rw [HO.out];unfold opnd;rw [if_pos rfl,hz];rfl)
    clear hz z2
    go_wp2_with fail
    refine(integer_any _ x.wh _ RA.out HG.out.dw (by omega)).mono ?_
    rintro e w' ⟨rfl,hw'⟩
    obtain rfl:=hw'.symm
    go_wp2
    go_ret2
    exact⟨by rw [HV.out];rfl,HB.out⟩
  have t1:(k==1)=false:=by rw [beq_eq_false_iff_ne];exact k1
  clear z2
  by_cases k2:k=2
  ·subst k2
   have HV:Hid (opR s.data.toList 2=((val x.wh:Int),0)):=Lib.hid (by rw [HO.out];unfold opnd;rw [if_neg (by decide)];rw [if_pos rfl])
   clear k1
   go_wp2_with fail
   refine(integer_any _ (x.wh) _ RA.out HG.out.dw (by omega)).mono ?_
   rintro e w' ⟨rfl,hw'⟩
   obtain rfl:=hw'.symm
   go_wp2
   go_ret2
   exact⟨by rw [HV.out];rfl,HB.out⟩
  have t2:(k==2)=false:=by rw [beq_eq_false_iff_ne];exact k2
  by_cases k3:k=3
  ·subst k3
   have HV:Hid (opR s.data.toList 3=((x.fr.length:Int),0)):=Lib.hid (by rw [HO.out];unfold opnd;rw [if_neg (by decide)];rw [if_neg (by decide)];rw [if_pos rfl])
   clear k1 k2
   go_wp2
   go_ret2
   exact⟨by rw [HV.out];rfl,HB.out⟩
  have t3:(k==3)=false:=by rw [beq_eq_false_iff_ne];exact k3
  by_cases k4:k=4
  ·subst k4
   have HV:Hid (opR s.data.toList 4=(((trim x.fr).length:Int),0)):=Lib.hid (by rw [HO.out];unfold opnd;rw [if_neg (by decide)];rw [if_neg (by decide)];rw [if_neg (by decide)];rw [if_pos rfl])
   clear k1 k2 k3
   go_wp2
   go_ret2
   exact⟨by rw [HV.out];rfl,HB.out⟩
  have t4:(k==4)=false:=by rw [beq_eq_false_iff_ne];exact k4
  by_cases k5:k=5
  ·subst k5
   have HV:Hid (opR s.data.toList 5=((val x.fr:Int),0)):=Lib.hid (by rw [HO.out];unfold opnd;rw [if_neg (by decide)];rw [if_neg (by decide)];rw [if_neg (by decide)];rw [if_neg (by decide)];rw [if_pos rfl])
   clear k1 k2 k3 k4
   go_wp2_with fail
   refine(integer_any _ (x.fr) _ RF.out HG.out.df (by omega)).mono ?_
   rintro e w' ⟨rfl,hw'⟩
   obtain rfl:=hw'.symm
   go_wp2
   go_ret2
   exact⟨by rw [HV.out];rfl,HB.out⟩
  have t5:(k==5)=false:=by rw [beq_eq_false_iff_ne];exact k5
  by_cases k6:k=6
  ·subst k6
   have HV:Hid (opR s.data.toList 6=((val (trim x.fr):Int),0)):=Lib.hid (by rw [HO.out];unfold opnd;rw [if_neg (by decide)];rw [if_neg (by decide)];rw [if_neg (by decide)];rw [if_neg (by decide)];rw [if_neg (by decide)];rw [if_pos rfl])
   clear k1 k2 k3 k4 k5
   go_wp2_with fail
   refine(integer_any _ (trim x.fr) _ RT.out (trim_allD HG.out.df) (by omega)).mono ?_
   rintro e w' ⟨rfl,hw'⟩
   obtain rfl:=hw'.symm
   go_wp2
   go_ret2
   exact⟨by rw [HV.out];rfl,HB.out⟩
  have t6:(k==6)=false:=by rw [beq_eq_false_iff_ne];exact k6
  have HV:Hid (opR s.data.toList k=(0,1)):=Lib.hid (by rw [HO.out];unfold opnd;rw [if_neg k1,if_neg k2,if_neg k3,if_neg k4,if_neg k5,if_neg k6])
  clear k1 k2 k3 k4 k5 k6
  go_wp2
  go_ret2
  exact⟨by rw [HV.out];rfl,HB.out⟩
structure RawR where
 op:Int
 md:Int
 nt:Bool
 a:Option Addr
 n:Nat
 c:Nat
def RawR.v (x:RawR):Value:= .slice x.a x.n x.c
def encR (x:RawR):List Value:=[.int .i64 x.op,.int .i64 x.md,.bool x.nt,.slice x.a x.n x.c]
theorem encR_len (x:RawR):(encR x).length=4:=rfl
theorem encR_one (x:RawR):∀ u∈encR x,u.oneCell'=true:=by
 intro u hu
 simp [encR] at hu
 rcases hu with rfl|rfl|rfl|rfl<;>rfl
structure RawS where
 a:Option Addr
 n:Nat
 c:Nat
def RawS.v (x:RawS):Value:= .slice x.a x.n x.c
def encS (x:RawS):List Value:=[.slice x.a x.n x.c]
theorem encS_len (x:RawS):(encS x).length=1:=rfl
theorem encS_one (x:RawS):∀ u∈encS x,u.oneCell'=true:=by
 intro u hu
 simp [encS] at hu
 subst hu
 rfl
structure RdRel (w:World) (x:RawR) (r:Rel):Prop where
 op:x.op=r.op
 md:x.md=r.md
 nt:x.nt=r.nt
 sp:Rd 2 encP w (.slice x.a x.n x.c) r.sp
theorem RdRel.below {w w':World} {x:RawR} {r:Rel} (h:RdRel w x r) (hb:Below w.heap.size w w'):RdRel w' x r:=⟨h.op,h.md,h.nt,h.sp.below hb⟩
theorem RdRel.len {w:World} {x:RawR} {r:Rel} (h:RdRel w x r):x.n=r.sp.length:=h.sp.len.symm
theorem RdRel.slice {w:World} {x:RawR} {r:Rel} (h:RdRel w x r):Rd 2 encP w (.slice x.a r.sp.length x.c) r.sp:=by
 have:=h.sp
 rw [h.len] at this
 exact this
theorem RdRel.enc {w:World} {x:RawR} {r:Rel} (h:RdRel w x r):encR x= [.int .i64 r.op,.int .i64 r.md,.bool r.nt,.slice x.a r.sp.length x.c]:=by
 unfold encR
 rw [h.op,h.md,h.nt,h.len]
def RdRels (w:World) (v:Value) (l:List Rel):Prop:=∃ raws:List RawR,Rd 4 encR w v raws∧raws.length=l.length∧∀(i:Nat) (h:i<raws.length) (h':i<l.length),RdRel w raws[i] l[i]
theorem RdRels.below {w w':World} {v:Value} {l:List Rel} (h:RdRels w v l) (hb:Below w.heap.size w w'):RdRels w' v l:=by
 obtain⟨raws,h1,h2,h3⟩:=h
 exact⟨raws,h1.below hb,h2,fun i a b=>(h3 i a b).below hb⟩
theorem RdRels.slice {w:World} {v:Value} {l:List Rel} (h:RdRels w v l):∃ a c,v= .slice a l.length c∧l.length≤c∧c≤9223372036854775807:=by
 obtain⟨raws,h1,h2,h3⟩:=h
 rw [←h2]
 exact h1.slice
def RdC (w:World) (v:Value) (c:Cnd):Prop:=∃ raws:List RawS,Rd 1 encS w v raws∧raws.length=c.length∧∀(i:Nat) (h:i<raws.length) (h':i<c.length),RdRels w (.slice raws[i].a raws[i].n raws[i].c) c[i]
theorem RdC.below {w w':World} {v:Value} {c:Cnd} (h:RdC w v c) (hb:Below w.heap.size w w'):RdC w' v c:=by
 obtain⟨raws,h1,h2,h3⟩:=h
 exact⟨raws,h1.below hb,h2,fun i a b=>(h3 i a b).below hb⟩
theorem RdC.slice {w:World} {v:Value} {l:Cnd} (h:RdC w v l):∃ a c,v= .slice a l.length c∧l.length≤c∧c≤9223372036854775807:=by
 obtain⟨raws,h1,h2,h3⟩:=h
 rw [←h2]
 exact h1.slice
theorem rdRels_nil (w:World):RdRels w (.slice none 0 0) []:=⟨[],rd_nil w,rfl,fun i h _=>by simp at h⟩
theorem rdC_nil (w:World):RdC w (.slice none 0 0) []:=⟨[],rd_nil w,rfl,fun i h _=>by simp at h⟩
theorem RdRels.at_ {w:World} {a:Option Addr} {n c:Nat} {l:List Rel} (h:RdRels w (.slice a n c) l) (i:Nat) (hi:i<l.length):
  ∃ b off x1 x2,a=some ⟨b,off,none⟩∧w.cell? ⟨b,off+i*4,none⟩=some (.int .i64 l[i].op)∧w.cell? ⟨b,off+i*4+1,none⟩=some (.int .i64 l[i].md)∧w.cell? ⟨b,off+i*4+2,none⟩=some (.bool l[i].nt)∧w.cell? ⟨b,off+i*4+3,none⟩=some (.slice x1 l[i].sp.length x2)∧Rd 2 encP w (.slice x1 l[i].sp.length x2) l[i].sp:=by
 obtain⟨raws,h1,h2,h3⟩:=h
 have hi':i<raws.length:=by omega
 obtain⟨b,off,ha,_,hx⟩:=h1.some_ i hi'
 have hr:=h3 i hi' hi
 rw [hr.enc] at hx
 exact⟨b,off,raws[i].a,raws[i].c,ha,hx 0 _ rfl,hx 1 _ rfl,hx 2 _ rfl,hx 3 _ rfl,hr.slice⟩
theorem RdC.at_ {w:World} {a:Option Addr} {n c:Nat} {l:Cnd} (h:RdC w (.slice a n c) l) (i:Nat) (hi:i<l.length):
  ∃ b off x1 x2,a=some ⟨b,off,none⟩∧w.cell? ⟨b,off+i,none⟩=some (.slice x1 l[i].length x2)∧RdRels w (.slice x1 l[i].length x2) l[i]:=by
 obtain⟨raws,h1,h2,h3⟩:=h
 have hi':i<raws.length:=by omega
 obtain⟨b,off,ha,_,hx⟩:=h1.some_ i hi'
 have hr:=h3 i hi' hi
 obtain⟨a2,c2,hv,_⟩:=hr.slice
 injection hv with e1 e2 e3
 have h4:=hx 0 _ rfl
 rw [e2,Nat.mul_one,Nat.add_zero] at h4
 rw [e2] at hr
 exact⟨b,off,raws[i].a,raws[i].c,ha,h4,hr⟩
theorem RdRels.len {w:World} {a:Option Addr} {n c:Nat} {l:List Rel} (h:RdRels w (.slice a n c) l):n=l.length:=by
 obtain⟨raws,h1,h2,h3⟩:=h
 rw [←h2,h1.len]
theorem RdC.len {w:World} {a:Option Addr} {n c:Nat} {l:Cnd} (h:RdC w (.slice a n c) l):n=l.length:=by
 obtain⟨raws,h1,h2,h3⟩:=h
 rw [←h2,h1.len]
theorem Rd.span {w:World} {a:Option Addr} {n c:Nat} {l:List (Int × Int)} (h:Rd 2 encP w (.slice a n c) l) (i:Nat) (hi:i<l.length):∃ b off,a=some ⟨b,off,none⟩∧w.cell? ⟨b,off+i*2,none⟩=some (.int .i64 l[i].1)∧w.cell? ⟨b,off+i*2+1,none⟩=some (.int .i64 l[i].2):=by
 obtain⟨b,off,ha,_,hx⟩:=h.some_ i hi
 exact⟨b,off,ha,hx 0 _ rfl,hx 1 _ rfl⟩
theorem digs_false {o:Int} (h3:o≠3) (h4:o≠4):digs o=false:=by unfold digs;simp [h3,h4]
set_option maxRecDepth 1000000 in
theorem countsDigits_any (o:Int) (w:World):Calls Tryz.prog 105 #[.int .i64 o] w fun e w'=>e= .returned (.bool (digs o))∧w'=w:=by
 by_cases h3:o=3
 ·subst h3
  go_enter Tryz.func105,Tryz.ntmps105
  go_wp2
  go_ret
  exact⟨rfl,rfl⟩
 ·have t3:(o==3)=false:=by rw [beq_eq_false_iff_ne];exact h3
  by_cases h4:o=4
  ·subst h4
   clear h3 t3
   go_enter Tryz.func105,Tryz.ntmps105
   go_wp2
   go_ret
   exact⟨rfl,rfl⟩
  ·have t4:(o==4)=false:=by rw [beq_eq_false_iff_ne];exact h4
   have H:=Lib.hid (digs_false h3 h4)
   clear h3 h4
   go_enter Tryz.func105,Tryz.ntmps105
   go_wp2
   go_ret
   exact⟨by rw [H.out];rfl,rfl⟩
set_option maxRecDepth 1000000 in
set_option maxHeartbeats 1000000 in
theorem isEnd_any (o n:Int) (w:World):Calls Tryz.prog 81 #[.int .i64 o,.int .i64 n] w fun e w'=>e= .returned (.bool (okEnd o n))∧w'=w:=by
 have HE:Hid (okEnd o n=(decide (0≤n)&&decide (n≤if digs o=true then 6 else 100))):=Lib.hid rfl
 go_enter Tryz.func81,Tryz.ntmps81
 go_wp2_with fail
 refine(countsDigits_any o _).mono ?_
 rintro e w' ⟨rfl,hw'⟩
 obtain rfl:=hw'.symm
 obtain⟨d,hd⟩:∃ d,digs o=d:=⟨_,rfl⟩
 rw [hd] at HE ⊢
 clear hd
 cases d with
 |false=>
  by_cases h0:0≤n
  ·have q:=decide_eq_true h0
   have HX:Hid (okEnd o n=decide (n≤100)):=Lib.hid (by rw [HE.out,q];rfl)
   clear HE
   go_wp2
   go_ret
   exact⟨by rw [HX.out];rfl,rfl⟩
  ·have q:=decide_eq_false h0
   have HX:Hid (okEnd o n=false):=Lib.hid (by rw [HE.out,q];rfl)
   clear HE
   go_wp2
   go_ret
   exact⟨by rw [HX.out];rfl,rfl⟩
 |true=>
  by_cases h0:0≤n
  ·have q:=decide_eq_true h0
   have HX:Hid (okEnd o n=decide (n≤6)):=Lib.hid (by rw [HE.out,q];rfl)
   clear HE
   go_wp2
   go_ret
   exact⟨by rw [HX.out];rfl,rfl⟩
  ·have q:=decide_eq_false h0
   have HX:Hid (okEnd o n=false):=Lib.hid (by rw [HE.out,q];rfl)
   clear HE
   go_wp2
   go_ret
   exact⟨by rw [HX.out];rfl,rfl⟩
set_option maxRecDepth 1000000 in
set_option maxHeartbeats 4000000 in
theorem isMod_any (o n:Int) (w:World):Calls Tryz.prog 78 #[.int .i64 o,.int .i64 n] w fun e w'=>e= .returned (.bool (okMod o n))∧w'=w:=by
 by_cases h0:n=0
 ·subst h0
  go_enter Tryz.func78,Tryz.ntmps78
  go_wp2
  go_ret
  exact⟨rfl,rfl⟩
 have t0:(n==0)=false:=by rw [beq_eq_false_iff_ne];exact h0
 by_cases h10:n=10
 ·subst h10
  clear h0 t0
  have HX:Hid (okMod o 10= !digs o):=Lib.hid rfl
  go_enter Tryz.func78,Tryz.ntmps78
  go_wp2_with fail
  refine(countsDigits_any o _).mono ?_
  rintro e w' ⟨rfl,hw'⟩
  obtain rfl:=hw'.symm
  go_wp2
  go_ret
  exact⟨by rw [HX.out];rfl,rfl⟩
 have t10:(n==10)=false:=by rw [beq_eq_false_iff_ne];exact h10
 by_cases h100:n=100
 ·subst h100
  clear h0 t0 h10 t10
  have HX:Hid (okMod o 100= !digs o):=Lib.hid rfl
  go_enter Tryz.func78,Tryz.ntmps78
  go_wp2_with fail
  refine(countsDigits_any o _).mono ?_
  rintro e w' ⟨rfl,hw'⟩
  obtain rfl:=hw'.symm
  go_wp2
  go_ret
  exact⟨by rw [HX.out];rfl,rfl⟩
 have t100:(n==100)=false:=by rw [beq_eq_false_iff_ne];exact h100
 by_cases h2:n=2
 ·subst h2
  clear h0 t0 h10 t10 h100 t100
  have HX:Hid (okMod o 2=(decide (o=1)||decide (o=2))):=Lib.hid rfl
  by_cases o1:o=1
  ·subst o1
   go_enter Tryz.func78,Tryz.ntmps78
   go_wp2
   go_ret
   exact⟨by rw [HX.out];rfl,rfl⟩
  ·have s1:(o==1)=false:=by rw [beq_eq_false_iff_ne];exact o1
   have HY:Hid (okMod o 2=decide (o=2)):=Lib.hid (by rw [HX.out,decide_eq_false o1];rfl)
   clear HX o1
   by_cases o2:o=2
   ·subst o2
    go_enter Tryz.func78,Tryz.ntmps78
    go_wp2
    go_ret
    exact⟨by rw [HY.out];rfl,rfl⟩
   ·have s2:(o==2)=false:=by rw [beq_eq_false_iff_ne];exact o2
    have HZ:Hid (okMod o 2=false):=Lib.hid (by rw [HY.out,decide_eq_false o2])
    clear HY o2
    go_enter Tryz.func78,Tryz.ntmps78
    go_wp2
    go_ret
    exact⟨by rw [HZ.out];rfl,rfl⟩
 have t2:(n==2)=false:=by rw [beq_eq_false_iff_ne];exact h2
 by_cases h3:n=3
 ·subst h3
  clear h0 t0 h10 t10 h100 t100 h2 t2
  have HX:Hid (okMod o 3=(decide (o=1)||decide (o=2))):=Lib.hid rfl
  by_cases o1:o=1
  ·subst o1
   go_enter Tryz.func78,Tryz.ntmps78
   go_wp2
   go_ret
   exact⟨by rw [HX.out];rfl,rfl⟩
  ·have s1:(o==1)=false:=by rw [beq_eq_false_iff_ne];exact o1
   have HY:Hid (okMod o 3=decide (o=2)):=Lib.hid (by rw [HX.out,decide_eq_false o1];rfl)
   clear HX o1
   by_cases o2:o=2
   ·subst o2
    go_enter Tryz.func78,Tryz.ntmps78
    go_wp2
    go_ret
    exact⟨by rw [HY.out];rfl,rfl⟩
   ·have s2:(o==2)=false:=by rw [beq_eq_false_iff_ne];exact o2
    have HZ:Hid (okMod o 3=false):=Lib.hid (by rw [HY.out,decide_eq_false o2])
    clear HY o2
    go_enter Tryz.func78,Tryz.ntmps78
    go_wp2
    go_ret
    exact⟨by rw [HZ.out];rfl,rfl⟩
 have t3:(n==3)=false:=by rw [beq_eq_false_iff_ne];exact h3
 by_cases h4:n=4
 ·subst h4
  clear h0 t0 h10 t10 h100 t100 h2 t2 h3 t3
  have HX:Hid (okMod o 4=(decide (o=1)||decide (o=2))):=Lib.hid rfl
  by_cases o1:o=1
  ·subst o1
   go_enter Tryz.func78,Tryz.ntmps78
   go_wp2
   go_ret
   exact⟨by rw [HX.out];rfl,rfl⟩
  ·have s1:(o==1)=false:=by rw [beq_eq_false_iff_ne];exact o1
   have HY:Hid (okMod o 4=decide (o=2)):=Lib.hid (by rw [HX.out,decide_eq_false o1];rfl)
   clear HX o1
   by_cases o2:o=2
   ·subst o2
    go_enter Tryz.func78,Tryz.ntmps78
    go_wp2
    go_ret
    exact⟨by rw [HY.out];rfl,rfl⟩
   ·have s2:(o==2)=false:=by rw [beq_eq_false_iff_ne];exact o2
    have HZ:Hid (okMod o 4=false):=Lib.hid (by rw [HY.out,decide_eq_false o2])
    clear HY o2
    go_enter Tryz.func78,Tryz.ntmps78
    go_wp2
    go_ret
    exact⟨by rw [HZ.out];rfl,rfl⟩
 have t4:(n==4)=false:=by rw [beq_eq_false_iff_ne];exact h4
 by_cases h5:n=5
 ·subst h5
  clear h0 t0 h10 t10 h100 t100 h2 t2 h3 t3 h4 t4
  have HX:Hid (okMod o 5=(decide (o=1)||decide (o=2))):=Lib.hid rfl
  by_cases o1:o=1
  ·subst o1
   go_enter Tryz.func78,Tryz.ntmps78
   go_wp2
   go_ret
   exact⟨by rw [HX.out];rfl,rfl⟩
  ·have s1:(o==1)=false:=by rw [beq_eq_false_iff_ne];exact o1
   have HY:Hid (okMod o 5=decide (o=2)):=Lib.hid (by rw [HX.out,decide_eq_false o1];rfl)
   clear HX o1
   by_cases o2:o=2
   ·subst o2
    go_enter Tryz.func78,Tryz.ntmps78
    go_wp2
    go_ret
    exact⟨by rw [HY.out];rfl,rfl⟩
   ·have s2:(o==2)=false:=by rw [beq_eq_false_iff_ne];exact o2
    have HZ:Hid (okMod o 5=false):=Lib.hid (by rw [HY.out,decide_eq_false o2])
    clear HY o2
    go_enter Tryz.func78,Tryz.ntmps78
    go_wp2
    go_ret
    exact⟨by rw [HZ.out];rfl,rfl⟩
 have t5:(n==5)=false:=by rw [beq_eq_false_iff_ne];exact h5
 by_cases h6:n=6
 ·subst h6
  clear h0 t0 h10 t10 h100 t100 h2 t2 h3 t3 h4 t4 h5 t5
  have HX:Hid (okMod o 6=(decide (o=1)||decide (o=2))):=Lib.hid rfl
  by_cases o1:o=1
  ·subst o1
   go_enter Tryz.func78,Tryz.ntmps78
   go_wp2
   go_ret
   exact⟨by rw [HX.out];rfl,rfl⟩
  ·have s1:(o==1)=false:=by rw [beq_eq_false_iff_ne];exact o1
   have HY:Hid (okMod o 6=decide (o=2)):=Lib.hid (by rw [HX.out,decide_eq_false o1];rfl)
   clear HX o1
   by_cases o2:o=2
   ·subst o2
    go_enter Tryz.func78,Tryz.ntmps78
    go_wp2
    go_ret
    exact⟨by rw [HY.out];rfl,rfl⟩
   ·have s2:(o==2)=false:=by rw [beq_eq_false_iff_ne];exact o2
    have HZ:Hid (okMod o 6=false):=Lib.hid (by rw [HY.out,decide_eq_false o2])
    clear HY o2
    go_enter Tryz.func78,Tryz.ntmps78
    go_wp2
    go_ret
    exact⟨by rw [HZ.out];rfl,rfl⟩
 have t6:(n==6)=false:=by rw [beq_eq_false_iff_ne];exact h6
 by_cases h20:n=20
 ·subst h20
  clear h0 t0 h10 t10 h100 t100 h2 t2 h3 t3 h4 t4 h5 t5 h6 t6
  have HX:Hid (okMod o 20=(decide (o=1)||decide (o=2))):=Lib.hid rfl
  by_cases o1:o=1
  ·subst o1
   go_enter Tryz.func78,Tryz.ntmps78
   go_wp2
   go_ret
   exact⟨by rw [HX.out];rfl,rfl⟩
  ·have s1:(o==1)=false:=by rw [beq_eq_false_iff_ne];exact o1
   have HY:Hid (okMod o 20=decide (o=2)):=Lib.hid (by rw [HX.out,decide_eq_false o1];rfl)
   clear HX o1
   by_cases o2:o=2
   ·subst o2
    go_enter Tryz.func78,Tryz.ntmps78
    go_wp2
    go_ret
    exact⟨by rw [HY.out];rfl,rfl⟩
   ·have s2:(o==2)=false:=by rw [beq_eq_false_iff_ne];exact o2
    have HZ:Hid (okMod o 20=false):=Lib.hid (by rw [HY.out,decide_eq_false o2])
    clear HY o2
    go_enter Tryz.func78,Tryz.ntmps78
    go_wp2
    go_ret
    exact⟨by rw [HZ.out];rfl,rfl⟩
 have t20:(n==20)=false:=by rw [beq_eq_false_iff_ne];exact h20
 by_cases h25:n=25
 ·subst h25
  clear h0 t0 h10 t10 h100 t100 h2 t2 h3 t3 h4 t4 h5 t5 h6 t6 h20 t20
  have HX:Hid (okMod o 25=(decide (o=1)||decide (o=2))):=Lib.hid rfl
  by_cases o1:o=1
  ·subst o1
   go_enter Tryz.func78,Tryz.ntmps78
   go_wp2
   go_ret
   exact⟨by rw [HX.out];rfl,rfl⟩
  ·have s1:(o==1)=false:=by rw [beq_eq_false_iff_ne];exact o1
   have HY:Hid (okMod o 25=decide (o=2)):=Lib.hid (by rw [HX.out,decide_eq_false o1];rfl)
   clear HX o1
   by_cases o2:o=2
   ·subst o2
    go_enter Tryz.func78,Tryz.ntmps78
    go_wp2
    go_ret
    exact⟨by rw [HY.out];rfl,rfl⟩
   ·have s2:(o==2)=false:=by rw [beq_eq_false_iff_ne];exact o2
    have HZ:Hid (okMod o 25=false):=Lib.hid (by rw [HY.out,decide_eq_false o2])
    clear HY o2
    go_enter Tryz.func78,Tryz.ntmps78
    go_wp2
    go_ret
    exact⟨by rw [HZ.out];rfl,rfl⟩
 have t25:(n==25)=false:=by rw [beq_eq_false_iff_ne];exact h25
 by_cases h50:n=50
 ·subst h50
  clear h0 t0 h10 t10 h100 t100 h2 t2 h3 t3 h4 t4 h5 t5 h6 t6 h20 t20 h25 t25
  have HX:Hid (okMod o 50=(decide (o=1)||decide (o=2))):=Lib.hid rfl
  by_cases o1:o=1
  ·subst o1
   go_enter Tryz.func78,Tryz.ntmps78
   go_wp2
   go_ret
   exact⟨by rw [HX.out];rfl,rfl⟩
  ·have s1:(o==1)=false:=by rw [beq_eq_false_iff_ne];exact o1
   have HY:Hid (okMod o 50=decide (o=2)):=Lib.hid (by rw [HX.out,decide_eq_false o1];rfl)
   clear HX o1
   by_cases o2:o=2
   ·subst o2
    go_enter Tryz.func78,Tryz.ntmps78
    go_wp2
    go_ret
    exact⟨by rw [HY.out];rfl,rfl⟩
   ·have s2:(o==2)=false:=by rw [beq_eq_false_iff_ne];exact o2
    have HZ:Hid (okMod o 50=false):=Lib.hid (by rw [HY.out,decide_eq_false o2])
    clear HY o2
    go_enter Tryz.func78,Tryz.ntmps78
    go_wp2
    go_ret
    exact⟨by rw [HZ.out];rfl,rfl⟩
 have t50:(n==50)=false:=by rw [beq_eq_false_iff_ne];exact h50
 have HX:Hid (okMod o n=false):=Lib.hid (by unfold okMod;rw [if_neg h0,if_neg (by omega),if_neg (by omega)])
 clear h0 h10 h100 h2 h3 h4 h5 h6 h20 h25 h50
 go_enter Tryz.func78,Tryz.ntmps78
 go_wp2
 go_ret
 exact⟨by rw [HX.out];rfl,rfl⟩
end Go.Proofs.YtobapaodpcheiaaGreatDoor
