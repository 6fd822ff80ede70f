/- What the row stands on, part 5. -/
import Derived.Test.YtobapaodpcheiaaGreatDoorQ4
namespace Go.Proofs.YtobapaodpcheiaaGreatDoor
open Go.RowKit
set_option linter.unusedVariables false
theorem of_ext {a b:ByteArray} (h:a.data.toList=b.data.toList):a=b:=by rw [←of_data a,←of_data b,h]
theorem add_two (x y:Str):ofL x++ofL y=ofL (x++y):=of_ext (by simp [ofL])
theorem dig_all {l:Str} (h:∀ i (h:i<l.length),isD l[i]=true):adb l=true:=by
 rw [adb_iff]
 intro c hc
 obtain⟨i,hi,rfl⟩:=List.mem_iff_getElem.1 hc
 exact h i hi
theorem dig_not {l:Str} {i:Nat} (h:i<l.length) (h2:isD l[i]=false):adb l=false:=by
 cases hb:adb l with
 |false=>rfl
 |true=>rw [adb_iff] at hb;rw [hb _ (List.getElem_mem h)] at h2;cases h2
theorem zero_all {l:Str} (h:∀ i (h:i<l.length),l[i]=48):zero l=true:=by
 unfold zero
 rw [List.all_eq_true]
 intro c hc
 obtain⟨i,hi,rfl⟩:=List.mem_iff_getElem.1 hc
 rw [h i hi];rfl
theorem zero_not {l:Str} {i:Nat} (h:i<l.length) (h2:l[i]≠48):zero l=false:=by
 cases hb:zero l with
 |false=>rfl
 |true=>
  unfold zero at hb
  rw [List.all_eq_true] at hb
  have:=hb _ (List.getElem_mem h)
  exact absurd (by simpa using this) h2
set_option maxRecDepth 1000000 in
set_option maxHeartbeats 2000000 in
theorem digits_any (s:ByteArray) (hs:s.size≤9223372036854775807) (w:World):Calls Tryz.prog 40 #[.string s] w fun e w'=>e= .returned (.bool (adb s.data.toList))∧w'=w:=by
 have hs':(s.size:Int)≤9223372036854775807:=by omega
 go_enter Tryz.func40,Tryz.ntmps40
 go_wp2
 go_loop [3] (fun i=>∃ k:Nat,k≤s.size∧i= .int .i64 k∧∀ i (h:i<s.data.toList.length),i<k→isD s.data.toList[i]=true) (fun i=>s.size - (intOf i).toNat)
 case atStart=>exact⟨0,Nat.zero_le _,rfl,fun i h hi=>by omega⟩
 case round=>
  obtain⟨k,hk,rfl,hall⟩:=hrel
  have HA:=Lib.hid hall
  clear hall
  by_cases hlt:k<s.size
  ·have hlt':(k:Int)<(s.size:Int):=by omega
   have hl:k<s.data.toList.length:=by rw [len_data];exact hlt
   by_cases h3:isD (s.data.toList[k])=true
   ·have H3:=Lib.hid h3
    have h4:=isD_iff.1 h3
    have t1:decide (((s[k]'hlt).toNat:Int)<48)=false:=by rw [decide_eq_false_iff_not];intro h;exact absurd (Int.ofNat_lt.1 h) (Nat.not_lt.2 h4.1)
    have t2:decide (57<((s[k]'hlt).toNat:Int))=false:=by rw [decide_eq_false_iff_not];intro h;exact absurd (Int.ofNat_lt.1 h) (Nat.not_lt.2 h4.2)
    clear h3 h4
    go_wp2
    go_round
    case rel=>exact⟨k+1,by omega,by go_num,fun i h h1=>by
     rcases Nat.lt_or_ge i k with h3|h3
     ·exact HA.out i h h3
     ·obtain rfl:i=k:=by omega
      exact H3.out⟩
    case measure=>simp [intOf];omega
   ·have HF:=Lib.hid (dig_not hl (by simpa using h3))
    have h4:(s.data.toList[k]).toNat<48∨57<(s.data.toList[k]).toNat:=by
     rw [isD_iff] at h3;omega
    clear h3
    rcases h4 with h4|h4
    ·have t1:decide (((s[k]'hlt).toNat:Int)<48)=true:=by rw [decide_eq_true_eq];exact Int.ofNat_lt.2 h4
     clear h4 hl
     go_wp2
     go_ret
     exact⟨by rw [HF.out];rfl,rfl⟩
    ·have t1:decide (((s[k]'hlt).toNat:Int)<48)=false:=by rw [decide_eq_false_iff_not];intro h;exact absurd (Nat.lt_trans (Int.ofNat_lt.1 h) (by decide:48<57)) (Nat.not_lt.2 (Nat.le_of_lt h4))
     have t2:decide (57<((s[k]'hlt).toNat:Int))=true:=by rw [decide_eq_true_eq];exact Int.ofNat_lt.2 h4
     clear h4 hl
     go_wp2
     go_ret
     exact⟨by rw [HF.out];rfl,rfl⟩
  ·have hlt':¬ (k:Int)<(s.size:Int):=by omega
   have HF:=Lib.hid (dig_all (fun i h=>HA.out i h (by rw [len_data] at h;omega)))
   go_wp2
   go_ret
   exact⟨by rw [HF.out];rfl,rfl⟩
set_option maxRecDepth 1000000 in
set_option maxHeartbeats 2000000 in
theorem zero_any (s:ByteArray) (hs:s.size≤9223372036854775807) (w:World):Calls Tryz.prog 41 #[.string s] w fun e w'=>e= .returned (.bool (zero s.data.toList))∧w'=w:=by
 have hs':(s.size:Int)≤9223372036854775807:=by omega
 go_enter Tryz.func41,Tryz.ntmps41
 go_wp2
 go_loop [3] (fun i=>∃ k:Nat,k≤s.size∧i= .int .i64 k∧∀ i (h:i<s.data.toList.length),i<k→s.data.toList[i]=48) (fun i=>s.size - (intOf i).toNat)
 case atStart=>exact⟨0,Nat.zero_le _,rfl,fun i h hi=>by omega⟩
 case round=>
  obtain⟨k,hk,rfl,hall⟩:=hrel
  have HA:=Lib.hid hall
  clear hall
  by_cases hlt:k<s.size
  ·have hlt':(k:Int)<(s.size:Int):=by omega
   have hl:k<s.data.toList.length:=by rw [len_data];exact hlt
   by_cases h3:s.data.toList[k]=48
   ·have H3:=Lib.hid h3
    have t1:(((s[k]'hlt).toNat:Int)==48)=true:=by rw [beq_iff_eq];exact(u8_eq48 _).1 h3
    clear h3
    go_wp2
    go_round
    case rel=>exact⟨k+1,by omega,by go_num,fun i h h1=>by
     rcases Nat.lt_or_ge i k with h3|h3
     ·exact HA.out i h h3
     ·obtain rfl:i=k:=by omega
      exact H3.out⟩
    case measure=>simp [intOf];omega
   ·have HF:=Lib.hid (zero_not hl h3)
    have t1:(((s[k]'hlt).toNat:Int)==48)=false:=by rw [beq_eq_false_iff_ne];exact fun h=>h3 ((u8_eq48 _).2 h)
    clear h3
    go_wp2
    go_ret
    exact⟨by rw [HF.out];rfl,rfl⟩
  ·have hlt':¬ (k:Int)<(s.size:Int):=by omega
   have HF:=Lib.hid (zero_all (fun i h=>HA.out i h (by rw [len_data] at h;omega)))
   go_wp2
   go_ret
   exact⟨by rw [HF.out];rfl,rfl⟩
set_option maxRecDepth 1000000 in
set_option maxHeartbeats 2000000 in
theorem value_any (s:ByteArray) (hd:allD s.data.toList) (hs:s.size≤15) (w:World):Calls Tryz.prog 95 #[.string s] w fun e w'=>e= .returned (.int .i64 (val s.data.toList:Int))∧w'=w:=by
 obtain⟨l,hll⟩:∃ l,s.data.toList=l:=⟨_,rfl⟩
 have HL:=Lib.hid hll
 rw [hll] at hd ⊢
 have HD:=Lib.hid hd
 clear hd hll
 go_enter Tryz.func95,Tryz.ntmps95
 go_wp2
 go_loop [3,4] (fun v3 v4=>∃ k:Nat,k≤s.size∧v4= .int .i64 k∧v3= .int .i64 (val (l.take k):Int)) (fun _ v4=>s.size - (intOf v4).toNat)
 case atStart=>exact⟨0,Nat.zero_le _,rfl,rfl⟩
 case round=>
  obtain⟨k,hk,rfl,rfl⟩:=hrel
  have hsl:l.length=s.size:=by rw [←HL.out,len_data]
  by_cases hlt:k<s.size
  ·have hlt':(k:Int)<(s.size:Int):=by omega
   have hl:k<l.length:=by omega
   have h1:=val_take hl
   have h2:val (l.take k)<10 ^ 15:=Nat.lt_of_lt_of_le (val_lt (allD_take HD.out k)) (Nat.pow_le_pow_right (by omega) (by rw [List.length_take];omega))
   have h3:=isD_iff.1 (HD.out _ (List.getElem_mem hl))
   have hx:(l[k]).toNat=(s[k]'hlt).toNat:=by
    have:l[k]=s[k]'hlt:=by
     have e:=HL.out
     subst e
     rfl
    rw [this]
   rw [hx] at h3
   have h4:val (l.take (k+1))=val (l.take k)*10+((s[k]'hlt).toNat - 48):=by rw [h1];unfold dg;rw [hx]
   obtain⟨N,hN⟩:∃ N:Nat,val (l.take k)=N:=⟨_,rfl⟩
   rw [hN] at h2 h4 ⊢
   have H4:=Lib.hid h4
   obtain⟨h5,h6⟩:=h3
   have h7:N<1000000000000000:=h2
   have q1:(48:Int)≤((s[k]'hlt).toNat:Int):=Int.ofNat_le.2 h5
   have q2:((s[k]'hlt).toNat:Int)≤57:=Int.ofNat_le.2 h6
   clear h1 h2 h4 hx hN h5 h6 hl hsl
   go_wp2
   go_round
   case rel=>exact⟨k+1,hlt,by go_num,by rw [H4.out];exact val_int (by omega)⟩
   case measure=>simp [intOf];omega
  ·obtain rfl:k=s.size:=by omega
   have hlt':¬ (s.size:Int)<(s.size:Int):=by omega
   have HE:Hid (l.take s.size=l):=Lib.hid (List.take_of_length_le (by omega))
   clear hsl
   rw [HE.out]
   go_wp2
   go_ret
   exact⟨rfl,rfl⟩
def refN (x:Num):Value:= .agg #[.bool x.neg,.string (ofL x.wh),.string (ofL x.fr)]
def RSplPost (s:Str) (w:World) (e:Ending) (w':World):Prop:=∃ ok x,e= .returned (.tuple #[refN x,.bool ok])∧(ok=true→spl s=some x)∧(ok=false→spl s=none)∧Below w.heap.size w w'
theorem res32 {W:World} {tm:Array Value} {B:Nat} {t:TypeId} {a b c d:Value} (t2:tm[2]?.getD undef= .pointer (some ⟨B,0,none⟩)) (t3:tm[3]?.getD undef=d) (h:Blk B t #[a,b,c] W):
  (results Tryz.f17 tm).run Tryz.prog W= .ok (.tuple #[.agg #[a,b,c],d]) W:=by
 have a0:W.cell? ⟨B,0,none⟩=some a:=h.cell 0
 have a1:W.cell? ⟨B,1,none⟩=some b:=h.cell 1
 have a2:W.cell? ⟨B,2,none⟩=some c:=h.cell 2
 simp [results,Tryz.f17,go_sem,t2,t3,a0,a1,a2]
theorem dot_at {l:Str} {k:Nat} (hk:k≤l.length) (h1:∀ i (h:i<l.length),i<k→l[i]≠46) (h2:∀ h:k<l.length,l[k]=46):dot l=k:=by
 induction l generalizing k with
 |nil=>simp at hk;subst hk;rfl
 |cons c l ih=>
  unfold dot
  rcases k with _|k
  ·have:c=46:=h2 (by simp)
   subst this
   rfl
  ·have hc:(c != 46)=true:=by rw [bne_iff_ne];exact h1 0 (by simp) (by omega)
   rw [List.takeWhile_cons,if_pos hc,List.length_cons]
   have:=ih (k:=k) (by simpa using hk) (fun i h hi=>by have:=h1 (i+1) (by simpa using h) (by omega);simpa using this) (fun h=>by have:=h2 (by simpa using h);simpa using this)
   unfold dot at this
   rw [this]
set_option maxRecDepth 1000000 in
set_option maxHeartbeats 8000000 in
theorem refSplit_any (s:ByteArray) (hs:s.size≤9223372036854775807) (w:World):Calls Tryz.prog 17 #[.string s] w (RSplPost s.data.toList w):=by
 have HB:=Lib.hid (((Below.refl w.heap.size w).alloc (Nat.le_refl _) (.cells #[.bool false,.string (ofL []),.string (ofL [])] 54)).alloc (by simp) (.cells #[.bool false,.string (ofL []),.string (ofL [])] 54))
 have K1:=Lib.hid ((Blk.new w 54 #[.bool false,.string (ofL []),.string (ofL [])]).alloc (.cells #[.bool false,.string (ofL []),.string (ofL [])] 54))
 have K2:=Lib.hid (Blk.new (w.alloc (.cells #[.bool false,.string (ofL []),.string (ofL [])] 54)) 54 #[.bool false,.string (ofL []),.string (ofL [])])
 go_enter Tryz.func17,Tryz.ntmps17
 go_upto_region 2 with fail
 obtain⟨W0,hW0⟩:∃ W0,(w.alloc (.cells #[.bool false,.string (ofL []),.string (ofL [])] 54)).alloc (.cells #[.bool false,.string (ofL []),.string (ofL [])] 54)=W0:=⟨_,rfl⟩
 have hW0':(w.alloc (.cells #[.bool false,.string {data:=#[]},.string {data:=#[]}] 54)).alloc (.cells #[.bool false,.string {data:=#[]},.string {data:=#[]}] 54)=W0:=hW0
 rw [hW0']
 rw [hW0] at K1 K2 HB
 rw [World.size_alloc] at K2
 obtain⟨B0,hB0⟩:∃ B0,w.heap.size=B0:=⟨_,rfl⟩
 have HB0:=Lib.hid hB0
 rw [hB0] at K1 K2 ⊢
 have HW0:=Lib.hid hW0
 clear hW0 hW0' hB0
 obtain⟨l,hl⟩:∃ l,s.data.toList=l:=⟨_,rfl⟩
 have HL:=Lib.hid hl
 obtain⟨nb,hnb⟩:∃ nb,negP l=nb:=⟨_,rfl⟩
 have HNB:=Lib.hid hnb
 clear hl hnb
 have hs':(s.size:Int)≤9223372036854775807:=by omega
 go_cut [13] from 6 to 13 (fun v13 wx=>v13= .bool nb∧wx=W0)
 case first=>
  by_cases h0:s.size=0
  ·have q1:¬ (0:Int)<(s.size:Int):=by omega
   have e2:Hid (nb=false):=Lib.hid (by rw [←HNB.out,←HL.out,data_nil h0];rfl)
   clear h0
   go_wp2_with fail
   go_meet
   exact⟨by rw [e2.out],rfl⟩
  ·have h1:0<s.size:=by omega
   have q1:(0:Int)<(s.size:Int):=by omega
   have e2:Hid (((s[0]'h1).toNat:Int)=45↔nb=true):=Lib.hid (by
    rw [←HNB.out,←HL.out]
    unfold negP
    rw [head_data h1,decide_eq_true_eq,Option.some_inj]
    exact(u8_eq (s[0]'h1) 45).symm)
   clear h0
   by_cases h2:((s[0]'h1).toNat:Int)=45
   ·have e3:=e2.out.1 h2
    have e4:(((s[0]'h1).toNat:Int)==45)=true:=by rw [beq_iff_eq];exact h2
    clear h2
    go_wp2_with fail
    go_meet
    exact⟨by rw [e3],rfl⟩
   ·have e3:nb=false:=by cases h:nb with|false=>rfl|true=>exact absurd (e2.out.2 h) h2
    have e4:(((s[0]'h1).toNat:Int)==45)=false:=by rw [beq_eq_false_iff_ne];exact h2
    clear h2
    go_wp2_with fail
    go_meet
    exact⟨by rw [e3],rfl⟩
 case rest=>
  obtain⟨rfl,hwc⟩:=hcut
  obtain rfl:=hwc.symm
  go_upto_if 13 with fail
  have zw:=HB.out.size
  go_cut [0] from 14 to 16 (fun v0 wx=>v0= .string (ofL (unP l))∧Blk (B0+1) 54 #[.bool nb,.string (ofL []),.string (ofL [])] wx∧Blk B0 54 #[.bool false,.string (ofL []),.string (ofL [])] wx∧Below w.heap.size w wx)
  case first=>
   cases nb with
   |false=>
    go_wp2_with fail
    go_meet
    refine⟨?_,K2.out,K1.out,HB.out⟩
    have e1:unP l=l:=by
     have:=unP_eq l
     rw [HNB.out] at this
     exact this.symm
    rw [e1,←HL.out,of_data]
   |true=>
    have h1:1≤s.size:=by rw [←len_data,HL.out,neg_cons HNB.out];simp
    have q1:(1:Int)≤(s.size:Int):=by omega
    have x0:W0.cell? ⟨B0+1,0,none⟩=some (.bool false):=K2.out.cell 0
    have x1:W0.drew.cell? ⟨B0+1,0,none⟩=some (.bool false):=K2.out.cell 0
    have xf:W0.frozen? ⟨B0+1,0,none⟩=false:=K2.out.frozen 0
    have xg:W0.drew.frozen? ⟨B0+1,0,none⟩=false:=K2.out.frozen 0
    go_wp2_with fail
    go_region
    all_goals go_wp2_with fail
    all_goals go_meet
    refine⟨?_,(K2.out.put 0 (.bool true)).drew,(K1.out.far (p:=⟨B0+1,0,none⟩) (by show B0≠B0+1;omega) _).drew,(HB.out.setCell (p:=⟨B0+1,0,none⟩) (by have:=HB0.out;show w.heap.size≤B0+1;omega) _).drew⟩
    have e1:s.data.toList=45::unP l:=HL.out.trans (neg_cons HNB.out)
    have e2:s.size=(unP l).length+1:=by rw [←len_data,e1,List.length_cons]
    rw [ext_of,e1,e2,List.drop_succ_cons,List.drop_zero,List.take_of_length_le (by omega)]
  case rest=>
   obtain⟨rfl,k2,k1,hb⟩:=hcut
   have hul:(unP l).length≤9223372036854775807:=by
    have e:=congrArg List.length (unP_eq l)
    rw [List.length_append] at e
    have:=len_data s
    rw [HL.out] at this
    omega
   clear K1 K2 HB zw HW0
   have K1:=Lib.hid k1
   have K2:=Lib.hid k2
   have HB:=Lib.hid hb
   clear k1 k2 hb
   obtain⟨t,ht⟩:∃ t,ofL (unP l)=t:=⟨_,rfl⟩
   have ht2:t.data.toList=unP l:=by rw [←ht];rfl
   have HT:=Lib.hid ht2
   have hts:t.size≤9223372036854775807:=by rw [←len_data,ht2];exact hul
   have hts':(t.size:Int)≤9223372036854775807:=by omega
   rw [ht]
   clear ht ht2 hul
   rename World=>wc
   go_wp2
   go_loop [5] (fun v5=>∃ k:Nat,k≤t.size∧v5= .int .i64 k∧∀ i (h:i<t.data.toList.length),i<k→t.data.toList[i]≠46) (fun v5=>t.size - (intOf v5).toNat)
   case atStart=>exact⟨0,Nat.zero_le _,rfl,fun i h hi=>by omega⟩
   case round=>
    obtain⟨k,hk,rfl,hall⟩:=hrel
    have HA:=Lib.hid hall
    clear hall
    have x1:wc.cell? ⟨B0+1,1,none⟩=some (.string (ofL [])):=K2.out.cell 1
    have x2:wc.cell? ⟨B0+1,2,none⟩=some (.string (ofL [])):=K2.out.cell 2
    have xf:=K2.out.frozen
    by_cases hlt:k<t.size
    ·have hlt':(k:Int)<(t.size:Int):=by omega
     have hl:k<t.data.toList.length:=by rw [len_data];exact hlt
     by_cases h3:t.data.toList[k]=46
     ·have t1:(((t[k]'hlt).toNat:Int) != 46)=false:=by rw [bne_eq_false_iff_eq];exact(u8_eq _ 46).1 h3
      have hdot:dot (unP l)=k:=by rw [←HT.out];exact dot_at (by rw [len_data];omega) HA.out (fun _=>h3)
      have g1:(k:Int)≤(t.size:Int):=by omega
      have g2:(k:Int)+1≤(t.size:Int):=by omega
      have hul:(unP l).length=t.size:=by rw [←HT.out,len_data]
      obtain⟨wh,hwh⟩:∃ wh,(unP l).take k=wh:=⟨_,rfl⟩
      obtain⟨fr,hfr⟩:∃ fr,(unP l).drop (k+1)=fr:=⟨_,rfl⟩
      have hx1:t.extract 0 k=ofL wh:=by rw [ext_of,HT.out,←hwh];simp
      have hx2:t.extract (k+1) t.size=ofL fr:=by rw [ext_of,HT.out,←hfr,List.take_of_length_le (by rw [List.length_drop];omega)]
      have HSP:Hid (spl l=if ¬ (fr= [])∧adb (wh++fr)=true∧chk nb wh fr=true then some ⟨nb,wh,fr⟩ else none):=Lib.hid (by
       rw [spl_splR,HNB.out]
       unfold splR
       dsimp only
       rw [hdot,hwh,hfr]
       have:k<(unP l).length:=by omega
       simp only [this,true_and])
      have hlen:wh.length+fr.length≤9223372036854775807:=by rw [←hwh,←hfr,List.length_take,List.length_drop];omega
      have hfl:fr.length=t.size - (k+1):=by rw [←hfr,List.length_drop,hul]
      have HFL:=Lib.hid hfl
      have HLEN:=Lib.hid hlen
      have L1:=Lib.hid ((K1.out.far (p:=⟨B0+1,1,none⟩) (by show B0≠B0+1;omega) (.string (ofL wh))).far (p:=⟨B0+1,2,none⟩) (by show B0≠B0+1;omega) (.string (ofL fr)))
      have L2:Hid (Blk (B0+1) 54 #[.bool nb,.string (ofL wh),.string (ofL fr)] ((wc.setCell ⟨B0+1,1,none⟩ (.string (ofL wh))).setCell ⟨B0+1,2,none⟩ (.string (ofL fr)))):=Lib.hid ((K2.out.put 1 (.string (ofL wh))).put 2 (.string (ofL fr)))
      have HBX:=Lib.hid ((HB.out.setCell (p:=⟨B0+1,1,none⟩) (by have:=HB0.out;show w.heap.size≤B0+1;omega) (.string (ofL wh))).setCell (p:=⟨B0+1,2,none⟩) (by have:=HB0.out;show w.heap.size≤B0+1;omega) (.string (ofL fr)))
      clear h3 hdot hwh hfr hul hl hlen hfl
      obtain⟨N1,hN1⟩:∃ N,(ofL wh).size=N:=⟨_,rfl⟩
      obtain⟨N2,hN2⟩:∃ N,(ofL fr).size=N:=⟨_,rfl⟩
      go_upto_region 10 with fail
      obtain⟨WW,hWW⟩:∃ WW,(wc.setCell ⟨B0+1,1,none⟩ (.string (ofL wh))).setCell ⟨B0+1,2,none⟩ (.string (ofL fr))=WW:=⟨_,rfl⟩
      rw [hWW] at L1 L2 HBX ⊢
      clear hWW x1 x2 xf hx1 hx2 K1 K2 HB HA
      have x0:WW.cell? ⟨B0+1,0,none⟩=some (.bool nb):=L2.out.cell 0
      have x1:WW.cell? ⟨B0+1,1,none⟩=some (.string (ofL wh)):=L2.out.cell 1
      have x2:WW.cell? ⟨B0+1,2,none⟩=some (.string (ofL fr)):=L2.out.cell 2
      have y0:WW.cell? ⟨B0,0,none⟩=some (.bool false):=L1.out.cell 0
      have y1:WW.cell? ⟨B0,1,none⟩=some (.string (ofL [])):=L1.out.cell 1
      have y2:WW.cell? ⟨B0,2,none⟩=some (.string (ofL [])):=L1.out.cell 2
      have yf:=L1.out.frozen
      by_cases hf0:fr= []
      ·have HNO:Hid (spl l=none):=Lib.hid (by rw [HSP.out,if_neg (fun h=>h.1 hf0)])
       have hz:N2=0:=by rw [←hN2,hf0];rfl
       clear hf0
       go_wp2
       obtain⟨p1,p2⟩:=put3_ok (n:=w.heap.size) (a':= .bool false) (b':= .string (ofL [])) (c':= .string (ofL [])) L1.out (by have:=HB0.out;omega)
       exact bodyPost_ret (v:= .tuple #[.agg #[.bool false,.string (ofL []),.string (ofL [])],.bool false]) (res32 rfl rfl p1) rfl ⟨false,⟨false,[],[]⟩,rfl,(fun h=>by cases h),(fun _=>by rw [HL.out];exact HNO.out),HBX.out.trans p2⟩
      ·have hz:(N2:Int)≠0:=by rw [←hN2,ofL_size];have:=List.length_pos_iff.2 hf0;omega
       have hz2:((N2:Int)==0)=false:=by rw [beq_eq_false_iff_ne];exact hz
       have HSPX:Hid (spl l=if adb (wh++fr)=true∧chk nb wh fr=true then some ⟨nb,wh,fr⟩ else none):=Lib.hid (by rw [HSP.out];simp only [hf0,not_false_eq_true,true_and])
       clear hz hf0
       obtain⟨bad,hbad⟩:∃ bad,(!(adb (wh++fr)&&chk nb wh fr))=bad:=⟨_,rfl⟩
       have HBAD:=Lib.hid hbad
       clear hbad
       go_upto_region 12 with fail
       go_cut [95] from 47 to 95 (fun v95 wx=>v95= .bool bad∧wx=WW)
       case first=>
        have hcat:ofL wh++ofL fr=ofL (wh++fr):=add_two wh fr
        have hsz:N1+N2≤9223372036854775807:=by rw [←hN1,←hN2,ofL_size,ofL_size];exact HLEN.out
        have HW1:Hid (wh.length=N1):=Lib.hid (by rw [←hN1,ofL_size])
        have HW2:Hid (fr.length=N2):=Lib.hid (by rw [←hN2,ofL_size])
        have hD:=digits_any (ofL (wh++fr)) (by rw [ofL_size,List.length_append];exact HLEN.out)
        have hZ:=zero_any (ofL (wh++fr)) (by rw [ofL_size,List.length_append];exact HLEN.out)
        rw [ofL_list] at hD hZ
        have HD:=Lib.hid hD
        have HZ:=Lib.hid hZ
        have HC:Hid (chk nb wh fr=(decide (1≤N1)&&decide (N1≤15)&&!(decide (1<N1)&&decide (wh.head? =some 48))&&decide (N2≤6)&&!(nb&&zero (wh++fr)))):=Lib.hid (by rw [←HW1.out,←HW2.out];rfl)
        clear hD hZ
        go_wp2_with fail
        refine(HD.out _).mono ?_
        rintro e w5 ⟨rfl,hw5⟩
        obtain rfl:=hw5.symm
        cases hadb:adb (wh++fr) with
        |false=>
         have HV:Hid (true=bad):=Lib.hid (by rw [←HBAD.out,hadb];rfl)
         clear hadb
         go_wp2_with fail
         go_meet
         exact⟨by rw [HV.out],rfl⟩
        |true=>
         have HBD:Hid (bad= !chk nb wh fr):=Lib.hid (by rw [←HBAD.out,hadb,Bool.true_and])
         clear hadb
         rw [HC.out] at HBD
         by_cases a1:N1<1
         ·have q1:decide ((N1:Int)<1)=true:=decide_eq_true (by omega)
          have HV:Hid (true=bad):=Lib.hid (by rw [HBD.out,decide_eq_false (show ¬ 1≤N1 by omega)];rfl)
          clear a1
          go_wp2_with fail
          go_meet
          exact⟨by rw [HV.out],rfl⟩
         have q1:decide ((N1:Int)<1)=false:=decide_eq_false (by omega)
         by_cases a2:15<N1
         ·have q2:decide ((15:Int)<(N1:Int))=true:=decide_eq_true (by omega)
          have HV:Hid (true=bad):=Lib.hid (by rw [HBD.out,decide_eq_false (show ¬ N1≤15 by omega),Bool.and_false];rfl)
          clear a1 a2
          go_wp2_with fail
          go_meet
          exact⟨by rw [HV.out],rfl⟩
         have q2:decide ((15:Int)<(N1:Int))=false:=decide_eq_false (by omega)
         rw [decide_eq_true (show 1≤N1 by omega),decide_eq_true (show N1≤15 by omega)] at HBD
         have h0w:0<(ofL wh).size:=by rw [hN1];omega
         have HH:Hid (wh.head? =some ((ofL wh)[0]'h0w)):=Lib.hid (by have h:=head_data h0w;rw [ofL_list] at h;exact h)
         rw [HH.out] at HBD
         obtain⟨y,hy⟩:∃ y,(ofL wh)[0]'h0w=y:=⟨_,rfl⟩
         have HY:=Lib.hid hy
         have e48:decide (some y=some 48)=(((y.toNat:Int))==48):=by
          rw [Bool.eq_iff_iff,decide_eq_true_eq,beq_iff_eq,Option.some_inj]
          exact u8_eq48 y
         rw [hy,e48] at HBD
         clear e48 a2
         by_cases a3:1<N1∧(y.toNat:Int)=48
         ·obtain⟨a3,a4⟩:=a3
          have q3:decide ((1:Int)<(N1:Int))=true:=decide_eq_true (by omega)
          have q4:((y.toNat:Int)==48)=true:=by rw [beq_iff_eq];exact a4
          have HV:Hid (true=bad):=Lib.hid (by rw [HBD.out,decide_eq_true a3,q4];rfl)
          clear a1 a3 a4
          go_wp2_with fail
          go_meet
          exact⟨by rw [HV.out],rfl⟩
         have HBE:Hid (bad= !(decide (N2≤6)&&!(nb&&zero (wh++fr)))):=Lib.hid (by
          rw [HBD.out]
          have:(decide (1<N1)&&((y.toNat:Int)==48))=false:=by
           rw [Bool.and_eq_false_iff,decide_eq_false_iff_not,beq_eq_false_iff_ne]
           rcases Nat.lt_or_ge 1 N1 with h|h
           ·exact .inr (fun e=>a3 ⟨h,e⟩)
           ·exact .inl (by omega)
          rw [this]
          rfl)
         have go:∀(P:Prop),(1<N1→(((y.toNat:Int)==48)=false)→P)→(¬ 1<N1→P)→P:=fun P h1 h2=>by
          rcases Nat.lt_or_ge 1 N1 with h|h
          ·exact h1 h (by rw [beq_eq_false_iff_ne];exact fun e=>a3 ⟨h,e⟩)
          ·exact h2 (by omega)
         clear a3 HBD
         refine go _ ?_ ?_
         ·intro a4 a5
          have q3:decide ((1:Int)<(N1:Int))=true:=decide_eq_true (by omega)
          clear a1 a4 go
          by_cases a6:6<N2
          ·have q6:decide ((6:Int)<(N2:Int))=true:=decide_eq_true (by omega)
           have HV:Hid (true=bad):=Lib.hid (by rw [HBE.out,decide_eq_false (show ¬ N2≤6 by omega)];rfl)
           clear a6
           go_wp2_with fail
           go_meet
           exact⟨by rw [HV.out],rfl⟩
          have q6:decide ((6:Int)<(N2:Int))=false:=decide_eq_false (by omega)
          rw [decide_eq_true (show N2≤6 by omega),Bool.true_and] at HBE
          clear a6
          cases nb with
          |false=>
           have HV:Hid (false=bad):=Lib.hid (by rw [HBE.out];rfl)
           go_wp2_with fail
           go_meet
           exact⟨by rw [HV.out],rfl⟩
          |true=>
           have HV:Hid (zero (wh++fr)=bad):=Lib.hid (by rw [HBE.out,Bool.true_and,Bool.not_not])
           go_wp2_with fail
           refine(HZ.out _).mono ?_
           rintro e w6 ⟨rfl,hw6⟩
           obtain rfl:=hw6.symm
           rw [HV.out]
           go_wp2_with fail
           go_meet
           exact⟨rfl,rfl⟩
         ·intro a4
          have q3:decide ((1:Int)<(N1:Int))=false:=decide_eq_false (by omega)
          clear a1 a4 go
          by_cases a6:6<N2
          ·have q6:decide ((6:Int)<(N2:Int))=true:=decide_eq_true (by omega)
           have HV:Hid (true=bad):=Lib.hid (by rw [HBE.out,decide_eq_false (show ¬ N2≤6 by omega)];rfl)
           clear a6
           go_wp2_with fail
           go_meet
           exact⟨by rw [HV.out],rfl⟩
          have q6:decide ((6:Int)<(N2:Int))=false:=decide_eq_false (by omega)
          rw [decide_eq_true (show N2≤6 by omega),Bool.true_and] at HBE
          clear a6
          cases nb with
          |false=>
           have HV:Hid (false=bad):=Lib.hid (by rw [HBE.out];rfl)
           go_wp2_with fail
           go_meet
           exact⟨by rw [HV.out],rfl⟩
          |true=>
           have HV:Hid (zero (wh++fr)=bad):=Lib.hid (by rw [HBE.out,Bool.true_and,Bool.not_not])
           go_wp2_with fail
           refine(HZ.out _).mono ?_
           rintro e w6 ⟨rfl,hw6⟩
           obtain rfl:=hw6.symm
           rw [HV.out]
           go_wp2_with fail
           go_meet
           exact⟨rfl,rfl⟩
       case rest=>
        obtain⟨rfl,hwc⟩:=hcut
        obtain rfl:=hwc.symm
        cases bad with
        |true=>
         have HNO:Hid (spl l=none):=Lib.hid (by
          have h:=HBAD.out
          rw [HSPX.out,if_neg]
          rintro⟨h1,h2⟩
          rw [h1,h2] at h
          cases h)
         go_wp2
         obtain⟨p1,p2⟩:=put3_ok (n:=w.heap.size) (a':= .bool false) (b':= .string (ofL [])) (c':= .string (ofL [])) L1.out (by have:=HB0.out;omega)
         exact bodyPost_ret (v:= .tuple #[.agg #[.bool false,.string (ofL []),.string (ofL [])],.bool false]) (res32 rfl rfl p1) rfl ⟨false,⟨false,[],[]⟩,rfl,(fun h=>by cases h),(fun _=>by rw [HL.out];exact HNO.out),HBX.out.trans p2⟩
        |false=>
         have HYES:Hid (spl l=some ⟨nb,wh,fr⟩):=Lib.hid (by
          have h:=HBAD.out
          rw [Bool.not_eq_false',Bool.and_eq_true] at h
          rw [HSPX.out,if_pos h])
         go_wp2
         obtain⟨p1,p2⟩:=put3_ok (n:=w.heap.size) (a':= .bool nb) (b':= .string (ofL wh)) (c':= .string (ofL fr)) L1.out (by have:=HB0.out;omega)
         exact bodyPost_ret (v:= .tuple #[.agg #[.bool nb,.string (ofL wh),.string (ofL fr)],.bool true]) (res32 rfl rfl p1) rfl ⟨true,⟨nb,wh,fr⟩,rfl,(fun _=>by rw [HL.out];exact HYES.out),(fun h=>by cases h),HBX.out.trans p2⟩
     ·have H3:=Lib.hid h3
      have t1:(((t[k]'hlt).toNat:Int) != 46)=true:=by rw [bne_iff_ne];exact fun h=>h3 ((u8_eq _ 46).2 h)
      clear h3
      go_wp2
      go_round
      case rel=>exact⟨k+1,by omega,by go_num,fun i h h1=>by
       rcases Nat.lt_or_ge i k with h3|h3
       ·exact HA.out i h h3
       ·obtain rfl:i=k:=by omega
        exact H3.out⟩
      case measure=>simp [intOf];omega
    ·have hkt:k=t.size:=by omega
     have hul:(unP l).length=t.size:=by rw [←HT.out,len_data]
     have hdot:dot (unP l)=k:=by rw [←HT.out];exact dot_at (by rw [len_data];omega) HA.out (fun h=>by rw [len_data] at h;omega)
     have hlt':¬ (k:Int)<(t.size:Int):=by omega
     have g1:(k:Int)≤(t.size:Int):=by omega
     obtain⟨wh,hwh⟩:∃ wh,(unP l).take k=wh:=⟨_,rfl⟩
     obtain⟨fr,hfr⟩:∃ fr:Str,[]=fr:=⟨_,rfl⟩
     have hx1:t.extract 0 k=ofL wh:=by rw [ext_of,HT.out,←hwh];simp
     have HSPX:Hid (spl l=if adb (wh++fr)=true∧chk nb wh fr=true then some ⟨nb,wh,fr⟩ else none):=Lib.hid (by
      rw [spl_splR,HNB.out]
      unfold splR
      dsimp only
      rw [hdot,hwh,List.drop_eq_nil_of_le (show(unP l).length≤k+1 by omega)]
      have:¬ k<(unP l).length:=by omega
      simp only [this,false_and,not_false_eq_true,true_and]
      rw [hfr])
     have hlen:wh.length+fr.length≤9223372036854775807:=by rw [←hwh,←hfr,List.length_take];simp;omega
     have HLEN:=Lib.hid hlen
     have L1:=Lib.hid (K1.out.far (p:=⟨B0+1,1,none⟩) (by show B0≠B0+1;omega) (.string (ofL wh)))
     have L2:Hid (Blk (B0+1) 54 #[.bool nb,.string (ofL wh),.string (ofL fr)] (wc.setCell ⟨B0+1,1,none⟩ (.string (ofL wh)))):=Lib.hid (by rw [←hfr];exact K2.out.put 1 (.string (ofL wh)))
     have HBX:=Lib.hid (HB.out.setCell (p:=⟨B0+1,1,none⟩) (by have:=HB0.out;show w.heap.size≤B0+1;omega) (.string (ofL wh)))
     clear hkt hdot hwh hfr hul hlen
     obtain⟨N1,hN1⟩:∃ N,(ofL wh).size=N:=⟨_,rfl⟩
     obtain⟨N2,hN2⟩:∃ N,(ofL fr).size=N:=⟨_,rfl⟩
     go_upto_region 8 with fail
     obtain⟨WW,hWW⟩:∃ WW,wc.setCell ⟨B0+1,1,none⟩ (.string (ofL wh))=WW:=⟨_,rfl⟩
     rw [hWW] at L1 L2 HBX ⊢
     clear hWW x1 x2 xf hx1 K1 K2 HB HA
     have x0:WW.cell? ⟨B0+1,0,none⟩=some (.bool nb):=L2.out.cell 0
     have x1:WW.cell? ⟨B0+1,1,none⟩=some (.string (ofL wh)):=L2.out.cell 1
     have x2:WW.cell? ⟨B0+1,2,none⟩=some (.string (ofL fr)):=L2.out.cell 2
     have y0:WW.cell? ⟨B0,0,none⟩=some (.bool false):=L1.out.cell 0
     have y1:WW.cell? ⟨B0,1,none⟩=some (.string (ofL [])):=L1.out.cell 1
     have y2:WW.cell? ⟨B0,2,none⟩=some (.string (ofL [])):=L1.out.cell 2
     have yf:=L1.out.frozen
     obtain⟨bad,hbad⟩:∃ bad,(!(adb (wh++fr)&&chk nb wh fr))=bad:=⟨_,rfl⟩
     have HBAD:=Lib.hid hbad
     clear hbad
     go_upto_region 12 with fail
     go_cut [95] from 47 to 95 (fun v95 wx=>v95= .bool bad∧wx=WW)
     case first=>
      have hcat:ofL wh++ofL fr=ofL (wh++fr):=add_two wh fr
      have hsz:N1+N2≤9223372036854775807:=by rw [←hN1,←hN2,ofL_size,ofL_size];exact HLEN.out
      have HW1:Hid (wh.length=N1):=Lib.hid (by rw [←hN1,ofL_size])
      have HW2:Hid (fr.length=N2):=Lib.hid (by rw [←hN2,ofL_size])
      have hD:=digits_any (ofL (wh++fr)) (by rw [ofL_size,List.length_append];exact HLEN.out)
      have hZ:=zero_any (ofL (wh++fr)) (by rw [ofL_size,List.length_append];exact HLEN.out)
      rw [ofL_list] at hD hZ
      have HD:=Lib.hid hD
      have HZ:=Lib.hid hZ
      have HC:Hid (chk nb wh fr=(decide (1≤N1)&&decide (N1≤15)&&!(decide (1<N1)&&decide (wh.head? =some 48))&&decide (N2≤6)&&!(nb&&zero (wh++fr)))):=Lib.hid (by rw [←HW1.out,←HW2.out];rfl)
      clear hD hZ
      go_wp2_with fail
      refine(HD.out _).mono ?_
      rintro e w5 ⟨rfl,hw5⟩
      obtain rfl:=hw5.symm
      cases hadb:adb (wh++fr) with
      |false=>
       have HV:Hid (true=bad):=Lib.hid (by rw [←HBAD.out,hadb];rfl)
       clear hadb
       go_wp2_with fail
       go_meet
       exact⟨by rw [HV.out],rfl⟩
      |true=>
       have HBD:Hid (bad= !chk nb wh fr):=Lib.hid (by rw [←HBAD.out,hadb,Bool.true_and])
       clear hadb
       rw [HC.out] at HBD
       by_cases a1:N1<1
       ·have q1:decide ((N1:Int)<1)=true:=decide_eq_true (by omega)
        have HV:Hid (true=bad):=Lib.hid (by rw [HBD.out,decide_eq_false (show ¬ 1≤N1 by omega)];rfl)
        clear a1
        go_wp2_with fail
        go_meet
        exact⟨by rw [HV.out],rfl⟩
       have q1:decide ((N1:Int)<1)=false:=decide_eq_false (by omega)
       by_cases a2:15<N1
       ·have q2:decide ((15:Int)<(N1:Int))=true:=decide_eq_true (by omega)
        have HV:Hid (true=bad):=Lib.hid (by rw [HBD.out,decide_eq_false (show ¬ N1≤15 by omega),Bool.and_false];rfl)
        clear a1 a2
        go_wp2_with fail
        go_meet
        exact⟨by rw [HV.out],rfl⟩
       have q2:decide ((15:Int)<(N1:Int))=false:=decide_eq_false (by omega)
       rw [decide_eq_true (show 1≤N1 by omega),decide_eq_true (show N1≤15 by omega)] at HBD
       have h0w:0<(ofL wh).size:=by rw [hN1];omega
       have HH:Hid (wh.head? =some ((ofL wh)[0]'h0w)):=Lib.hid (by have h:=head_data h0w;rw [ofL_list] at h;exact h)
       rw [HH.out] at HBD
       obtain⟨y,hy⟩:∃ y,(ofL wh)[0]'h0w=y:=⟨_,rfl⟩
       have HY:=Lib.hid hy
       have e48:decide (some y=some 48)=(((y.toNat:Int))==48):=by
        rw [Bool.eq_iff_iff,decide_eq_true_eq,beq_iff_eq,Option.some_inj]
        exact u8_eq48 y
       rw [hy,e48] at HBD
       clear e48 a2
       by_cases a3:1<N1∧(y.toNat:Int)=48
       ·obtain⟨a3,a4⟩:=a3
        have q3:decide ((1:Int)<(N1:Int))=true:=decide_eq_true (by omega)
        have q4:((y.toNat:Int)==48)=true:=by rw [beq_iff_eq];exact a4
        have HV:Hid (true=bad):=Lib.hid (by rw [HBD.out,decide_eq_true a3,q4];rfl)
        clear a1 a3 a4
        go_wp2_with fail
        go_meet
        exact⟨by rw [HV.out],rfl⟩
       have HBE:Hid (bad= !(decide (N2≤6)&&!(nb&&zero (wh++fr)))):=Lib.hid (by
        rw [HBD.out]
        have:(decide (1<N1)&&((y.toNat:Int)==48))=false:=by
         rw [Bool.and_eq_false_iff,decide_eq_false_iff_not,beq_eq_false_iff_ne]
         rcases Nat.lt_or_ge 1 N1 with h|h
         ·exact .inr (fun e=>a3 ⟨h,e⟩)
         ·exact .inl (by omega)
        rw [this]
        rfl)
       have go:∀(P:Prop),(1<N1→(((y.toNat:Int)==48)=false)→P)→(¬ 1<N1→P)→P:=fun P h1 h2=>by
        rcases Nat.lt_or_ge 1 N1 with h|h
        ·exact h1 h (by rw [beq_eq_false_iff_ne];exact fun e=>a3 ⟨h,e⟩)
        ·exact h2 (by omega)
       clear a3 HBD
       refine go _ ?_ ?_
       ·intro a4 a5
        have q3:decide ((1:Int)<(N1:Int))=true:=decide_eq_true (by omega)
        clear a1 a4 go
        by_cases a6:6<N2
        ·have q6:decide ((6:Int)<(N2:Int))=true:=decide_eq_true (by omega)
         have HV:Hid (true=bad):=Lib.hid (by rw [HBE.out,decide_eq_false (show ¬ N2≤6 by omega)];rfl)
         clear a6
         go_wp2_with fail
         go_meet
         exact⟨by rw [HV.out],rfl⟩
        have q6:decide ((6:Int)<(N2:Int))=false:=decide_eq_false (by omega)
        rw [decide_eq_true (show N2≤6 by omega),Bool.true_and] at HBE
        clear a6
        cases nb with
        |false=>
         have HV:Hid (false=bad):=Lib.hid (by rw [HBE.out];rfl)
         go_wp2_with fail
         go_meet
         exact⟨by rw [HV.out],rfl⟩
        |true=>
         have HV:Hid (zero (wh++fr)=bad):=Lib.hid (by rw [HBE.out,Bool.true_and,Bool.not_not])
         go_wp2_with fail
         refine(HZ.out _).mono ?_
         rintro e w6 ⟨rfl,hw6⟩
         obtain rfl:=hw6.symm
         rw [HV.out]
         go_wp2_with fail
         go_meet
         exact⟨rfl,rfl⟩
       ·intro a4
        have q3:decide ((1:Int)<(N1:Int))=false:=decide_eq_false (by omega)
        clear a1 a4 go
        by_cases a6:6<N2
        ·have q6:decide ((6:Int)<(N2:Int))=true:=decide_eq_true (by omega)
         have HV:Hid (true=bad):=Lib.hid (by rw [HBE.out,decide_eq_false (show ¬ N2≤6 by omega)];rfl)
         clear a6
         go_wp2_with fail
         go_meet
         exact⟨by rw [HV.out],rfl⟩
        have q6:decide ((6:Int)<(N2:Int))=false:=decide_eq_false (by omega)
        rw [decide_eq_true (show N2≤6 by omega),Bool.true_and] at HBE
        clear a6
        cases nb with
        |false=>
         have HV:Hid (false=bad):=Lib.hid (by rw [HBE.out];rfl)
         go_wp2_with fail
         go_meet
         exact⟨by rw [HV.out],rfl⟩
        |true=>
         have HV:Hid (zero (wh++fr)=bad):=Lib.hid (by rw [HBE.out,Bool.true_and,Bool.not_not])
         go_wp2_with fail
         refine(HZ.out _).mono ?_
         rintro e w6 ⟨rfl,hw6⟩
         obtain rfl:=hw6.symm
         rw [HV.out]
         go_wp2_with fail
         go_meet
         exact⟨rfl,rfl⟩
     case rest=>
      obtain⟨rfl,hwc⟩:=hcut
      obtain rfl:=hwc.symm
      cases bad with
      |true=>
       have HNO:Hid (spl l=none):=Lib.hid (by
        have h:=HBAD.out
        rw [HSPX.out,if_neg]
        rintro⟨h1,h2⟩
        rw [h1,h2] at h
        cases h)
       go_wp2
       obtain⟨p1,p2⟩:=put3_ok (n:=w.heap.size) (a':= .bool false) (b':= .string (ofL [])) (c':= .string (ofL [])) L1.out (by have:=HB0.out;omega)
       exact bodyPost_ret (v:= .tuple #[.agg #[.bool false,.string (ofL []),.string (ofL [])],.bool false]) (res32 rfl rfl p1) rfl ⟨false,⟨false,[],[]⟩,rfl,(fun h=>by cases h),(fun _=>by rw [HL.out];exact HNO.out),HBX.out.trans p2⟩
      |false=>
       have HYES:Hid (spl l=some ⟨nb,wh,fr⟩):=Lib.hid (by
        have h:=HBAD.out
        rw [Bool.not_eq_false',Bool.and_eq_true] at h
        rw [HSPX.out,if_pos h])
       go_wp2
       obtain⟨p1,p2⟩:=put3_ok (n:=w.heap.size) (a':= .bool nb) (b':= .string (ofL wh)) (c':= .string (ofL fr)) L1.out (by have:=HB0.out;omega)
       exact bodyPost_ret (v:= .tuple #[.agg #[.bool nb,.string (ofL wh),.string (ofL fr)],.bool true]) (res32 rfl rfl p1) rfl ⟨true,⟨nb,wh,fr⟩,rfl,(fun _=>by rw [HL.out];exact HYES.out),(fun h=>by cases h),HBX.out.trans p2⟩
set_option maxRecDepth 1000000 in
set_option maxHeartbeats 2000000 in
theorem refValid_any (s:ByteArray) (hs:s.size≤9223372036854775807) (w:World):Calls Tryz.prog 7 #[.string s] w fun e w'=>e= .returned (.bool (spl s.data.toList).isSome)∧Below w.heap.size w w':=by
 go_enter Tryz.func7,Tryz.ntmps7
 go_wp2_with fail
 refine(refSplit_any s hs _).mono ?_
 rintro e w1 ⟨ok,x,rfl,hy,hn,b1⟩
 have HV:Hid (ok=(spl s.data.toList).isSome):=Lib.hid (by
  cases ok with
  |true=>rw [hy rfl];rfl
  |false=>rw [hn rfl];rfl)
 have HB:=Lib.hid (b1.alloc b1.size (.cells #[.bool x.neg,.string (ofL x.wh),.string (ofL x.fr)] 54))
 clear hy hn b1
 unfold refN
 go_wp2
 go_ret
 exact⟨by rw [←HV.out];rfl,HB.out⟩
theorem cell_later {w w':World} {p:Addr} {u:Value} (h:w.cell? p=some u) (hb:Below w.heap.size w w'):w'.cell? p=some u:=(hb.cell (World.block_lt_of_cell? w p h)).trans h
theorem okL_bad {l:List Rel} {j:Nat} (hj:j<l.length) (h:okR l[j]=false):okL l=false:=by
 unfold okL
 rw [all_bad hj h,Bool.and_false]
theorem okL_good {l:List Rel} (h0:l.length≠0) (h:∀(j:Nat) (hj:j<l.length),j<l.length→okR l[j]=true):okL l=true:=by
 rw [okL_all h0]
 exact all_good h
set_option maxRecDepth 1000000 in
set_option maxHeartbeats 8000000 in
theorem refValidC_any (v:Value) (c:Cnd) (w:World) (hv:RdC w v c) (hl:cnt c≤4611686018427387904):
  Calls Tryz.prog 6 #[v] w fun e w'=>e= .returned (.bool (okC c))∧Below w.heap.size w w':=by
 obtain⟨a,cp,rfl,hc1,hc2⟩:=hv.slice
 have HU:=Lib.hid hv
 clear hv
 go_enter Tryz.func6,Tryz.ntmps6
 go_wp2
 go_loopw [3,4] (fun v3 v4 wr=>∃ k:Nat,k≤c.length∧v4= .int .i64 k∧v3= .int .i64 (cnt (c.take k):Nat)∧(∀ l∈c.take k,okL l=true)∧Below w.heap.size w wr) (fun _ v4 _=>c.length - (intOf v4).toNat)
 case atStart=>exact⟨0,Nat.zero_le _,rfl,rfl,fun l h=>by simp at h,Below.refl _ _⟩
 case round=>
  obtain⟨k,hk,rfl,rfl,hok,hb⟩:=hrel
  have HK:=Lib.hid hok
  have HB:=Lib.hid hb
  have zr:=hb.size
  clear hok hb
  by_cases hlt:k<c.length
  ·obtain⟨bk,off,x1,x2,rfl,h0,h4⟩:=(HU.out.below HB.out).at_ k hlt
   have h9:(k:Int)<(c.length:Int):=by omega
   have HS:=Lib.hid (cnt_take_succ hlt)
   have HT:=Lib.hid (List.take_succ_eq_append_getElem hlt)
   have HBAD:=Lib.hid (okC_bad (c:=c) hlt)
   have H4:=Lib.hid h4
   have hcl:=cnt_take_le c (k+1)
   rw [HS.out] at hcl
   obtain⟨m,hm⟩:∃ m,c[k]=m:=⟨_,rfl⟩
   rw [hm] at h0 HS HT HBAD H4 hcl
   clear h4 hm
   obtain⟨N,hN⟩:∃ N,cnt (c.take k)=N:=⟨_,rfl⟩
   rw [hN] at HS hcl ⊢
   clear hN
   by_cases hz:m.length=0
   ·have t0:((m.length:Int)==0)=true:=by rw [beq_iff_eq];omega
    have HV:=Lib.hid (HBAD.out (okL_nil hz))
    clear hz
    go_wp2
    go_ret
    exact⟨by rw [HV.out];rfl,HB.out⟩
   have t0:((m.length:Int)==0)=false:=by rw [beq_eq_false_iff_ne];omega
   have t0':(m.length==0)=false:=by rw [beq_eq_false_iff_ne];omega
   have HZ:=Lib.hid hz
   have H0:=Lib.hid h0
   clear hz
   go_wp2
   go_loopw [3,5] (fun v3 v5 wz=>∃ j:Nat,j≤m.length∧v5= .int .i64 j∧v3= .int .i64 (N+j:Nat)∧(∀(i:Nat) (hi:i<m.length),i<j→okR m[i]=true)∧Below wr.heap.size wr wz) (fun _ v5 _=>m.length - (intOf v5).toNat)
   case atStart=>exact⟨0,Nat.zero_le _,rfl,by simp,fun i _ h=>by omega,Below.refl _ _⟩
   case round=>
    obtain⟨j,hj,rfl,rfl,hjk,hbz⟩:=hrel
    have HJ:=Lib.hid hjk
    have HBZ:=Lib.hid hbz
    have h0z:=cell_later H0.out hbz
    clear hjk hbz h0
    by_cases hjt:j<m.length
    ·obtain⟨bm,om,y1,y2,rfl,g0,g1,g2,g3,g4⟩:=(H4.out.below HBZ.out).at_ j hjt
     have h8:(j:Int)<(m.length:Int):=by omega
     have G4:=Lib.hid g4
     have HBADL:=Lib.hid (okL_bad (l:=m) hjt)
     clear g4
     obtain⟨r,hr⟩:∃ r,m[j]=r:=⟨_,rfl⟩
     have HR:=Lib.hid hr
     rw [hr] at g0 g1 g2 g3 G4 HBADL
     clear hr
     go_wp2_with fail
     refine(proper_any r y1 y2 _ G4.out).mono ?_
     rintro e w2 ⟨rfl,b2⟩
     have HB2:=Lib.hid (st HBZ.out b2 HBZ.out.size)
     clear b2
     obtain⟨b,hbb⟩:∃ b,okR r=b:=⟨_,rfl⟩
     have HQ:=Lib.hid hbb
     rw [hbb]
     clear hbb
     cases b with
     |false=>
      have HV:=Lib.hid (HBAD.out (HBADL.out HQ.out))
      go_wp2
      go_ret
      exact⟨by rw [HV.out];rfl,st HB.out HB2.out zr⟩
     |true=>
      go_wp2
      go_roundw
      case measure=>simp [intOf];omega
      case rel=>exact⟨j+1,by omega,by go_num,by go_num,fun i hi hij=>by
       rcases Nat.lt_or_ge i j with h|h
       ·exact HJ.out i hi h
       ·obtain rfl:i=j:=by omega
        rw [HR.out];exact HQ.out,HB2.out⟩
    ·obtain rfl:j=m.length:=by omega
     have h3:¬ (m.length:Int)<(m.length:Int):=by omega
     have HG:=Lib.hid (okL_good HZ.out HJ.out)
     go_wp2
     go_roundw
     case measure=>simp [intOf];omega
     case rel=>exact⟨k+1,by omega,by go_num,by rw [HS.out],fun l hl=>by
      rw [HT.out] at hl
      rcases List.mem_append.1 hl with h|h
      ·exact HK.out l h
      ·simp at h;subst h;exact HG.out,st HB.out HBZ.out zr⟩
  ·obtain rfl:k=c.length:=by omega
   have h3:¬ (c.length:Int)<(c.length:Int):=by omega
   obtain⟨N,hN⟩:∃ N,cnt (c.take c.length)=N:=⟨_,rfl⟩
   rw [hN]
   have HN:Hid (cnt c=N):=Lib.hid (by rw [←hN,List.take_length])
   have HA:Hid (∀ l∈c,okL l=true):=Lib.hid (by
    have h1:=HK.out
    rw [List.take_length] at h1
    exact h1)
   clear hN
   by_cases h0:0<c.length
   ·have t0:(0:Int)<(c.length:Int):=by omega
    by_cases h6:N≤6
    ·have HW:Hid (okC c=true):=Lib.hid (okC_iff.2 ⟨h0,HA.out,by rw [HN.out];exact h6⟩)
     have t6:(N:Int)≤6:=by omega
     go_wp2
     go_ret
     exact⟨by rw [HW.out];rfl,HB.out⟩
    ·have HW:Hid (okC c=false):=Lib.hid (okC_many (k:=c.length) (by rw [List.take_length,HN.out];omega))
     have t6:¬ (N:Int)≤6:=by omega
     go_wp2
     go_ret
     exact⟨by rw [HW.out];rfl,HB.out⟩
   ·have t0:¬ (0:Int)<(c.length:Int):=by omega
    have HW:Hid (okC c=false):=Lib.hid (by unfold okC;rw [decide_eq_false h0];rfl)
    go_wp2
    go_ret
    exact⟨by rw [HW.out];rfl,HB.out⟩
end Go.Proofs.YtobapaodpcheiaaGreatDoor
