/- What the row stands on, part 4. -/
import Derived.Test.YtobapaodpcheiaaGreatDoorQ3
namespace Go.Proofs.YtobapaodpcheiaaGreatDoor
open Go.RowKit
set_option linter.unusedVariables false
theorem any_take_miss {α:Type} {l:List α} {q:α→Bool} (h:∀(j:Nat) (hj:j<l.length),j<l.length→q l[j]=false):l.any q=false:=by
 rw [List.any_eq_false]
 intro x hx
 obtain⟨j,hj,rfl⟩:=List.getElem_of_mem hx
 rw [h j hj hj];simp
theorem any_hit {α:Type} {l:List α} {q:α→Bool} {j:Nat} (hj:j<l.length) (h:q l[j]=true):l.any q=true:=List.any_eq_true.2 ⟨_,List.getElem_mem hj,h⟩
set_option maxRecDepth 1000000 in
set_option maxHeartbeats 1000000 in
theorem indexSpan_any (v:Value) (l:List (Int × Int)) (q:Int × Int→Bool) (g:Nat) (lb:Array Value) (eg:∀ args w,(callFunc g args).run Tryz.prog w= .ok (.enter g args) w) (w:World) (hv:Rd 2 encP w v l)
  (hF:∀(W:World) (s:Int × Int),s∈l→Below w.heap.size w W→Calls Tryz.prog g (#[.agg #[.int .i64 s.1,.int .i64 s.2]]++lb) W fun e w'=>e= .returned (.bool (q s))∧Below W.heap.size W w'):
  Calls Tryz.prog 87 #[v,.func (.func g) #[] lb] w fun e w'=>(∃ r:Int,e= .returned (.int .i64 r)∧decide (0≤r)=l.any q)∧Below w.heap.size w w':=by
 obtain⟨a,c,rfl,hc1,hc2⟩:=hv.slice
 have HU:=Lib.hid hv
 have HF:=Lib.hid hF
 clear hv hF
 go_enter Tryz.func87,Tryz.ntmps87
 go_wp2
 go_loopw [8] (fun v wr=>∃ k:Nat,k≤l.length∧v= .int .i64 k∧(∀(j:Nat) (hj:j<l.length),j<k→q l[j]=false)∧Below w.heap.size w wr) (fun v _=>l.length - (intOf v).toNat)
 case atStart=>exact⟨0,Nat.zero_le _,rfl,fun j _ h=>by omega,Below.refl _ _⟩
 case round=>
  obtain⟨k,hk,rfl,hkd,hb⟩:=hrel
  have HK:=Lib.hid hkd
  have HB:=Lib.hid hb
  have zr:=hb.size
  clear hkd hb
  by_cases hlt:k<l.length
  ·obtain⟨bk,off,rfl,h0,h1⟩:=(HU.out.below HB.out).span k hlt
   have h9:(k:Int)<(l.length:Int):=by omega
   have hcall:=HF.out wr l[k] (List.getElem_mem hlt) HB.out
   have HE:Hid (∀ b,q l[k]=b→l[k]=l[k]):=Lib.hid (fun _ _=>rfl)
   obtain⟨qb,hqb⟩:∃ qb,q l[k]=qb:=⟨_,rfl⟩
   have HQ:=Lib.hid hqb
   rw [hqb] at hcall
   have HC:=Lib.hid hcall
   clear hqb hcall HE
   cases qb with
   |true=>
    go_wp2_with (go_at_fn g;refine(HC.out).mono ?_;rintro e w2 ⟨rfl,b2⟩)
    have HB2:=Lib.hid (st HB.out b2 zr)
    clear b2
    go_wp2
    go_ret
    refine⟨⟨_,rfl,?_⟩,HB2.out⟩
    rw [any_hit hlt HQ.out]
    simp
   |false=>
    go_wp2_with (go_at_fn g;refine(HC.out).mono ?_;rintro e w2 ⟨rfl,b2⟩)
    have HB2:=Lib.hid (st HB.out b2 zr)
    clear b2
    go_wp2
    go_roundw
    case measure=>simp [intOf];omega
    case rel=>exact⟨k+1,by omega,by go_num,fun j hj hjk=>by
     rcases Nat.lt_or_ge j k with h|h
     ·exact HK.out j hj h
     ·obtain rfl:j=k:=by omega
      exact HQ.out,HB2.out⟩
  ·obtain rfl:k=l.length:=by omega
   have h3:¬ (l.length:Int)<(l.length:Int):=by omega
   go_wp2
   go_ret
   refine⟨⟨_,rfl,?_⟩,HB.out⟩
   rw [any_take_miss HK.out]
   rfl
set_option maxRecDepth 1000000 in
set_option maxHeartbeats 1000000 in
theorem containsSpan_any (v:Value) (l:List (Int × Int)) (q:Int × Int→Bool) (g:Nat) (lb:Array Value) (eg:∀ args w,(callFunc g args).run Tryz.prog w= .ok (.enter g args) w) (w:World) (hv:Rd 2 encP w v l)
  (hF:∀(W:World) (s:Int × Int),s∈l→Below w.heap.size w W→Calls Tryz.prog g (#[.agg #[.int .i64 s.1,.int .i64 s.2]]++lb) W fun e w'=>e= .returned (.bool (q s))∧Below W.heap.size W w'):
  Calls Tryz.prog 54 #[v,.func (.func g) #[] lb] w fun e w'=>e= .returned (.bool (l.any q))∧Below w.heap.size w w':=by
 obtain⟨a,c,rfl,hc1,hc2⟩:=hv.slice
 have HU:=Lib.hid hv
 have HF:=Lib.hid hF
 clear hv hF
 go_enter Tryz.func54,Tryz.ntmps54
 go_wp2_with fail
 refine(indexSpan_any _ l q g lb eg _ HU.out HF.out).mono ?_
 rintro e w2 ⟨⟨r,rfl,hr⟩,b2⟩
 have HB2:=Lib.hid b2
 have HR:=Lib.hid hr
 clear b2 hr
 go_wp2
 go_ret
 exact⟨by rw [←HR.out];rfl,HB2.out⟩
set_option maxRecDepth 1000000 in
set_option maxHeartbeats 1000000 in
theorem indexRel_any (v:Value) (l:List Rel) (q:Rel→Bool) (g:Nat) (lb:Array Value) (eg:∀ args w,(callFunc g args).run Tryz.prog w= .ok (.enter g args) w) (w:World) (hv:RdRels w v l)
  (hF:∀(W:World) (r:Rel) (a2:Option Addr) (c2:Nat),r∈l→Below w.heap.size w W→Rd 2 encP W (.slice a2 r.sp.length c2) r.sp→Calls Tryz.prog g (#[.agg #[.int .i64 r.op,.int .i64 r.md,.bool r.nt,.slice a2 r.sp.length c2]]++lb) W fun e w'=>e= .returned (.bool (q r))∧Below W.heap.size W w'):
  Calls Tryz.prog 84 #[v,.func (.func g) #[] lb] w fun e w'=>(∃ r:Int,e= .returned (.int .i64 r)∧decide (0≤r)=l.any q)∧Below w.heap.size w w':=by
 obtain⟨a,c,rfl,hc1,hc2⟩:=hv.slice
 have HU:=Lib.hid hv
 have HF:=Lib.hid hF
 clear hv hF
 go_enter Tryz.func84,Tryz.ntmps84
 go_wp2
 go_loopw [8] (fun v wr=>∃ k:Nat,k≤l.length∧v= .int .i64 k∧(∀(j:Nat) (hj:j<l.length),j<k→q l[j]=false)∧Below w.heap.size w wr) (fun v _=>l.length - (intOf v).toNat)
 case atStart=>exact⟨0,Nat.zero_le _,rfl,fun j _ h=>by omega,Below.refl _ _⟩
 case round=>
  obtain⟨k,hk,rfl,hkd,hb⟩:=hrel
  have HK:=Lib.hid hkd
  have HB:=Lib.hid hb
  have zr:=hb.size
  clear hkd hb
  by_cases hlt:k<l.length
  ·obtain⟨bk,off,x1,x2,rfl,h0,h1,h2,h3,h4⟩:=(HU.out.below HB.out).at_ k hlt
   have h9:(k:Int)<(l.length:Int):=by omega
   have hcall:=HF.out wr l[k] x1 x2 (List.getElem_mem hlt) HB.out h4
   have HE:Hid (∀ b,q l[k]=b→l[k]=l[k]):=Lib.hid (fun _ _=>rfl)
   obtain⟨qb,hqb⟩:∃ qb,q l[k]=qb:=⟨_,rfl⟩
   have HQ:=Lib.hid hqb
   rw [hqb] at hcall
   have HC:=Lib.hid hcall
   clear hqb hcall HE
   cases qb with
   |true=>
    go_wp2_with (go_at_fn g;refine(HC.out).mono ?_;rintro e w2 ⟨rfl,b2⟩)
    have HB2:=Lib.hid (st HB.out b2 zr)
    clear b2
    go_wp2
    go_ret
    refine⟨⟨_,rfl,?_⟩,HB2.out⟩
    rw [any_hit hlt HQ.out]
    simp
   |false=>
    go_wp2_with (go_at_fn g;refine(HC.out).mono ?_;rintro e w2 ⟨rfl,b2⟩)
    have HB2:=Lib.hid (st HB.out b2 zr)
    clear b2
    go_wp2
    go_roundw
    case measure=>simp [intOf];omega
    case rel=>exact⟨k+1,by omega,by go_num,fun j hj hjk=>by
     rcases Nat.lt_or_ge j k with h|h
     ·exact HK.out j hj h
     ·obtain rfl:j=k:=by omega
      exact HQ.out,HB2.out⟩
  ·obtain rfl:k=l.length:=by omega
   have h3:¬ (l.length:Int)<(l.length:Int):=by omega
   go_wp2
   go_ret
   refine⟨⟨_,rfl,?_⟩,HB.out⟩
   rw [any_take_miss HK.out]
   rfl
set_option maxRecDepth 1000000 in
set_option maxHeartbeats 1000000 in
theorem containsRel_any (v:Value) (l:List Rel) (q:Rel→Bool) (g:Nat) (lb:Array Value) (eg:∀ args w,(callFunc g args).run Tryz.prog w= .ok (.enter g args) w) (w:World) (hv:RdRels w v l)
  (hF:∀(W:World) (r:Rel) (a2:Option Addr) (c2:Nat),r∈l→Below w.heap.size w W→Rd 2 encP W (.slice a2 r.sp.length c2) r.sp→Calls Tryz.prog g (#[.agg #[.int .i64 r.op,.int .i64 r.md,.bool r.nt,.slice a2 r.sp.length c2]]++lb) W fun e w'=>e= .returned (.bool (q r))∧Below W.heap.size W w'):
  Calls Tryz.prog 51 #[v,.func (.func g) #[] lb] w fun e w'=>e= .returned (.bool (l.any q))∧Below w.heap.size w w':=by
 obtain⟨a,c,rfl,hc1,hc2⟩:=hv.slice
 have HU:=Lib.hid hv
 have HF:=Lib.hid hF
 clear hv hF
 go_enter Tryz.func51,Tryz.ntmps51
 go_wp2_with fail
 refine(indexRel_any _ l q g lb eg _ HU.out HF.out).mono ?_
 rintro e w2 ⟨⟨r,rfl,hr⟩,b2⟩
 have HB2:=Lib.hid b2
 have HR:=Lib.hid hr
 clear b2 hr
 go_wp2
 go_ret
 exact⟨by rw [←HR.out];rfl,HB2.out⟩
set_option maxRecDepth 1000000 in
set_option maxHeartbeats 1000000 in
theorem indexLst_any (v:Value) (l:Cnd) (q:List Rel→Bool) (g:Nat) (lb:Array Value) (eg:∀ args w,(callFunc g args).run Tryz.prog w= .ok (.enter g args) w) (w:World) (hv:RdC w v l)
  (hF:∀(W:World) (m:List Rel) (a2:Option Addr) (c2:Nat),m∈l→Below w.heap.size w W→RdRels W (.slice a2 m.length c2) m→Calls Tryz.prog g (#[.slice a2 m.length c2]++lb) W fun e w'=>e= .returned (.bool (q m))∧Below W.heap.size W w'):
  Calls Tryz.prog 50 #[v,.func (.func g) #[] lb] w fun e w'=>(∃ r:Int,e= .returned (.int .i64 r)∧decide (0≤r)=l.any q)∧Below w.heap.size w w':=by
 obtain⟨a,c,rfl,hc1,hc2⟩:=hv.slice
 have HU:=Lib.hid hv
 have HF:=Lib.hid hF
 clear hv hF
 go_enter Tryz.func50,Tryz.ntmps50
 go_wp2
 go_loopw [8] (fun v wr=>∃ k:Nat,k≤l.length∧v= .int .i64 k∧(∀(j:Nat) (hj:j<l.length),j<k→q l[j]=false)∧Below w.heap.size w wr) (fun v _=>l.length - (intOf v).toNat)
 case atStart=>exact⟨0,Nat.zero_le _,rfl,fun j _ h=>by omega,Below.refl _ _⟩
 case round=>
  obtain⟨k,hk,rfl,hkd,hb⟩:=hrel
  have HK:=Lib.hid hkd
  have HB:=Lib.hid hb
  have zr:=hb.size
  clear hkd hb
  by_cases hlt:k<l.length
  ·obtain⟨bk,off,x1,x2,rfl,h0,h4⟩:=(HU.out.below HB.out).at_ k hlt
   have h9:(k:Int)<(l.length:Int):=by omega
   have hcall:=HF.out wr l[k] x1 x2 (List.getElem_mem hlt) HB.out h4
   have HE:Hid (∀ b,q l[k]=b→l[k]=l[k]):=Lib.hid (fun _ _=>rfl)
   obtain⟨qb,hqb⟩:∃ qb,q l[k]=qb:=⟨_,rfl⟩
   have HQ:=Lib.hid hqb
   rw [hqb] at hcall
   have HC:=Lib.hid hcall
   clear hqb hcall HE
   cases qb with
   |true=>
    go_wp2_with (go_at_fn g;refine(HC.out).mono ?_;rintro e w2 ⟨rfl,b2⟩)
    have HB2:=Lib.hid (st HB.out b2 zr)
    clear b2
    go_wp2
    go_ret
    refine⟨⟨_,rfl,?_⟩,HB2.out⟩
    rw [any_hit hlt HQ.out]
    simp
   |false=>
    go_wp2_with (go_at_fn g;refine(HC.out).mono ?_;rintro e w2 ⟨rfl,b2⟩)
    have HB2:=Lib.hid (st HB.out b2 zr)
    clear b2
    go_wp2
    go_roundw
    case measure=>simp [intOf];omega
    case rel=>exact⟨k+1,by omega,by go_num,fun j hj hjk=>by
     rcases Nat.lt_or_ge j k with h|h
     ·exact HK.out j hj h
     ·obtain rfl:j=k:=by omega
      exact HQ.out,HB2.out⟩
  ·obtain rfl:k=l.length:=by omega
   have h3:¬ (l.length:Int)<(l.length:Int):=by omega
   go_wp2
   go_ret
   refine⟨⟨_,rfl,?_⟩,HB.out⟩
   rw [any_take_miss HK.out]
   rfl
set_option maxRecDepth 1000000 in
set_option maxHeartbeats 1000000 in
theorem containsLst_any (v:Value) (l:Cnd) (q:List Rel→Bool) (g:Nat) (lb:Array Value) (eg:∀ args w,(callFunc g args).run Tryz.prog w= .ok (.enter g args) w) (w:World) (hv:RdC w v l)
  (hF:∀(W:World) (m:List Rel) (a2:Option Addr) (c2:Nat),m∈l→Below w.heap.size w W→RdRels W (.slice a2 m.length c2) m→Calls Tryz.prog g (#[.slice a2 m.length c2]++lb) W fun e w'=>e= .returned (.bool (q m))∧Below W.heap.size W w'):
  Calls Tryz.prog 24 #[v,.func (.func g) #[] lb] w fun e w'=>e= .returned (.bool (l.any q))∧Below w.heap.size w w':=by
 obtain⟨a,c,rfl,hc1,hc2⟩:=hv.slice
 have HU:=Lib.hid hv
 have HF:=Lib.hid hF
 clear hv hF
 go_enter Tryz.func24,Tryz.ntmps24
 go_wp2_with fail
 refine(indexLst_any _ l q g lb eg _ HU.out HF.out).mono ?_
 rintro e w2 ⟨⟨r,rfl,hr⟩,b2⟩
 have HB2:=Lib.hid b2
 have HR:=Lib.hid hr
 clear b2 hr
 go_wp2
 go_ret
 exact⟨by rw [←HR.out];rfl,HB2.out⟩
theorem not_any_not {α:Type} (l:List α) (q:α→Bool):(!l.any fun x=>!q x)=l.all q:=by
 induction l with
 |nil=>rfl
 |cons x l ih=>simp only [List.any_cons,List.all_cons];rw [←ih];cases q x<;>simp
set_option maxRecDepth 1000000 in
set_option maxHeartbeats 1000000 in
theorem allSpan1_any (s:Int × Int) (b:Bool) (B:Nat) (g:Nat) (lb:Array Value) (eg:∀ args w,(callFunc g args).run Tryz.prog w= .ok (.enter g args) w) (W:World) (hc:W.cell? ⟨B,0,none⟩=some (.func (.func g) #[] lb)) (hB:B<W.heap.size)
  (hF:∀ W1,Below W.heap.size W W1→Calls Tryz.prog g (#[.agg #[.int .i64 s.1,.int .i64 s.2]]++lb) W1 fun e w'=>e= .returned (.bool b)∧Below W1.heap.size W1 w'):
  Calls Tryz.prog 106 (#[.agg #[.int .i64 s.1,.int .i64 s.2]]++ #[.pointer (some ⟨B,0,none⟩)]) W fun e w'=>e= .returned (.bool (!b))∧Below W.heap.size W w':=by
 have K:=Lib.hid ((Below.refl W.heap.size W).alloc (Nat.le_refl _) (.cells #[.int .i64 s.1,.int .i64 s.2] 84))
 have HF:=Lib.hid (hF _ K.out)
 have hc2:(W.alloc (.cells #[.int .i64 s.1,.int .i64 s.2] 84)).cell? ⟨B,0,none⟩=some (.func (.func g) #[] lb):=(K.out.cell (p:=⟨B,0,none⟩) hB).trans hc
 clear hF
 go_enter Tryz.func106,Tryz.ntmps106
 go_wp2_with (go_at_fn g;refine(HF.out).mono ?_;rintro e w2 ⟨rfl,b2⟩)
 have HB2:=Lib.hid (st K.out b2 K.out.size)
 clear b2
 go_wp2
 go_ret
 exact⟨rfl,HB2.out⟩
set_option maxRecDepth 1000000 in
set_option maxHeartbeats 1000000 in
theorem allSpan_any (v:Value) (l:List (Int × Int)) (q:Int × Int→Bool) (g:Nat) (lb:Array Value) (eg:∀ args w,(callFunc g args).run Tryz.prog w= .ok (.enter g args) w) (w:World) (hv:Rd 2 encP w v l)
  (hF:∀(W:World) (s:Int × Int),s∈l→Below w.heap.size w W→Calls Tryz.prog g (#[.agg #[.int .i64 s.1,.int .i64 s.2]]++lb) W fun e w'=>e= .returned (.bool (q s))∧Below W.heap.size W w'):
  Calls Tryz.prog 79 #[v,.func (.func g) #[] lb] w fun e w'=>e= .returned (.bool (l.all q))∧Below w.heap.size w w':=by
 obtain⟨a,c,rfl,hc1,hc2⟩:=hv.slice
 have K:=Lib.hid ((Below.refl w.heap.size w).alloc (Nat.le_refl _) (.cells #[.func (.func g) #[] lb] 112))
 have HU:=Lib.hid (hv.below K.out)
 have HF:=Lib.hid hF
 have KB:=Lib.hid (Blk.new w 112 #[.func (.func g) #[] lb])
 have HL:=Lib.hid (not_any_not l q)
 clear hv hF
 have zz:(w.alloc (.cells #[.func (.func g) #[] lb] 112)).heap.size=w.heap.size+1:=by simp
 have HG:Hid (∀(W:World) (s:Int × Int),s∈l→Below (w.alloc (.cells #[.func (.func g) #[] lb] 112)).heap.size (w.alloc (.cells #[.func (.func g) #[] lb] 112)) W→Calls Tryz.prog 106 (#[.agg #[.int .i64 s.1,.int .i64 s.2]]++ #[.pointer (some ⟨w.heap.size,0,none⟩)]) W fun e w'=>e= .returned (.bool (!q s))∧Below W.heap.size W w'):=Lib.hid (fun W s hs hb=>by
  have hb0:Below w.heap.size w W:=K.out.trans (hb.mono (by omega))
  have kb:Blk w.heap.size 112 #[.func (.func g) #[] lb] W:=KB.out.below hb
  have hz:=hb0.size
  exact allSpan1_any s (q s) w.heap.size g lb eg W (kb.cell 0) kb.lt (fun W1 hbb=>HF.out W1 s hs (hb0.trans (hbb.mono (by omega)))))
 clear zz
 go_enter Tryz.func79,Tryz.ntmps79
 go_wp2_with fail
 refine(containsSpan_any _ l (fun x=>!q x) 106 _ (enters_of Tryz.func106 (by kernel_rfl) rfl) _ HU.out HG.out).mono ?_
 rintro e w2 ⟨rfl,b2⟩
 have HB2:=Lib.hid (st K.out b2 K.out.size)
 clear b2
 go_wp2
 go_ret
 exact⟨by rw [←HL.out];rfl,HB2.out⟩
set_option maxRecDepth 1000000 in
set_option maxHeartbeats 1000000 in
theorem allRel1_any (r:Rel) (a2:Option Addr) (c2:Nat) (b:Bool) (B:Nat) (g:Nat) (lb:Array Value) (eg:∀ args w,(callFunc g args).run Tryz.prog w= .ok (.enter g args) w) (W:World) (hc:W.cell? ⟨B,0,none⟩=some (.func (.func g) #[] lb)) (hB:B<W.heap.size)
  (hF:∀ W1,Below W.heap.size W W1→Calls Tryz.prog g (#[.agg #[.int .i64 r.op,.int .i64 r.md,.bool r.nt,.slice a2 r.sp.length c2]]++lb) W1 fun e w'=>e= .returned (.bool b)∧Below W1.heap.size W1 w'):
  Calls Tryz.prog 52 (#[.agg #[.int .i64 r.op,.int .i64 r.md,.bool r.nt,.slice a2 r.sp.length c2]]++ #[.pointer (some ⟨B,0,none⟩)]) W fun e w'=>e= .returned (.bool (!b))∧Below W.heap.size W w':=by
 have K:=Lib.hid ((Below.refl W.heap.size W).alloc (Nat.le_refl _) (.cells #[.int .i64 r.op,.int .i64 r.md,.bool r.nt,.slice a2 r.sp.length c2] 52))
 have HF:=Lib.hid (hF _ K.out)
 have hc2:(W.alloc (.cells #[.int .i64 r.op,.int .i64 r.md,.bool r.nt,.slice a2 r.sp.length c2] 52)).cell? ⟨B,0,none⟩=some (.func (.func g) #[] lb):=(K.out.cell (p:=⟨B,0,none⟩) hB).trans hc
 clear hF
 go_enter Tryz.func52,Tryz.ntmps52
 go_wp2_with (go_at_fn g;refine(HF.out).mono ?_;rintro e w2 ⟨rfl,b2⟩)
 have HB2:=Lib.hid (st K.out b2 K.out.size)
 clear b2
 go_wp2
 go_ret
 exact⟨rfl,HB2.out⟩
set_option maxRecDepth 1000000 in
set_option maxHeartbeats 1000000 in
theorem allRel_any (v:Value) (l:List Rel) (q:Rel→Bool) (g:Nat) (lb:Array Value) (eg:∀ args w,(callFunc g args).run Tryz.prog w= .ok (.enter g args) w) (w:World) (hv:RdRels w v l)
  (hF:∀(W:World) (r:Rel) (a2:Option Addr) (c2:Nat),r∈l→Below w.heap.size w W→Rd 2 encP W (.slice a2 r.sp.length c2) r.sp→Calls Tryz.prog g (#[.agg #[.int .i64 r.op,.int .i64 r.md,.bool r.nt,.slice a2 r.sp.length c2]]++lb) W fun e w'=>e= .returned (.bool (q r))∧Below W.heap.size W w'):
  Calls Tryz.prog 26 #[v,.func (.func g) #[] lb] w fun e w'=>e= .returned (.bool (l.all q))∧Below w.heap.size w w':=by
 obtain⟨a,c,rfl,hc1,hc2⟩:=hv.slice
 have K:=Lib.hid ((Below.refl w.heap.size w).alloc (Nat.le_refl _) (.cells #[.func (.func g) #[] lb] 49))
 have HU:=Lib.hid (hv.below K.out)
 have HF:=Lib.hid hF
 have KB:=Lib.hid (Blk.new w 49 #[.func (.func g) #[] lb])
 have HL:=Lib.hid (not_any_not l q)
 clear hv hF
 have zz:(w.alloc (.cells #[.func (.func g) #[] lb] 49)).heap.size=w.heap.size+1:=by simp
 have HG:Hid (∀(W:World) (r:Rel) (a2:Option Addr) (c2:Nat),r∈l→Below (w.alloc (.cells #[.func (.func g) #[] lb] 49)).heap.size (w.alloc (.cells #[.func (.func g) #[] lb] 49)) W→Rd 2 encP W (.slice a2 r.sp.length c2) r.sp→Calls Tryz.prog 52 (#[.agg #[.int .i64 r.op,.int .i64 r.md,.bool r.nt,.slice a2 r.sp.length c2]]++ #[.pointer (some ⟨w.heap.size,0,none⟩)]) W fun e w'=>e= .returned (.bool (!q r))∧Below W.heap.size W w'):=Lib.hid (fun W r a2 c2 hs hb hrd=>by
  have hb0:Below w.heap.size w W:=K.out.trans (hb.mono (by omega))
  have kb:Blk w.heap.size 49 #[.func (.func g) #[] lb] W:=KB.out.below hb
  have hz:=hb0.size
  exact allRel1_any r a2 c2 (q r) w.heap.size g lb eg W (kb.cell 0) kb.lt (fun W1 hbb=>HF.out W1 r a2 c2 hs (hb0.trans (hbb.mono (by omega))) (hrd.below hbb)))
 clear zz
 go_enter Tryz.func26,Tryz.ntmps26
 go_wp2_with fail
 refine(containsRel_any _ l (fun x=>!q x) 52 _ (enters_of Tryz.func52 (by kernel_rfl) rfl) _ HU.out HG.out).mono ?_
 rintro e w2 ⟨rfl,b2⟩
 have HB2:=Lib.hid (st K.out b2 K.out.size)
 clear b2
 go_wp2
 go_ret
 exact⟨by rw [←HL.out];rfl,HB2.out⟩
set_option maxRecDepth 1000000 in
set_option maxHeartbeats 2000000 in
theorem isValid1_any (o:Int) (s:Int × Int) (B:Nat) (W:World) (hc:W.cell? ⟨B,0,none⟩=some (.int .i64 o)) (hB:B<W.heap.size):
  Calls Tryz.prog 80 (#[.agg #[.int .i64 s.1,.int .i64 s.2]]++ #[.pointer (some ⟨B,0,none⟩)]) W fun e w'=>e= .returned (.bool (okSp o s))∧Below W.heap.size W w':=by
 obtain⟨s1,s2⟩:=s
 have K:=Lib.hid ((Below.refl W.heap.size W).alloc (Nat.le_refl _) (.cells #[.int .i64 s1,.int .i64 s2] 84))
 have hc2:(W.alloc (.cells #[.int .i64 s1,.int .i64 s2] 84)).cell? ⟨B,0,none⟩=some (.int .i64 o):=(K.out.cell (p:=⟨B,0,none⟩) hB).trans hc
 have HX:Hid (okSp o (s1,s2)=(okEnd o s1&&okEnd o s2&&decide (s1≤s2))):=Lib.hid rfl
 clear hc
 go_enter Tryz.func80,Tryz.ntmps80
 go_wp2_with fail
 refine(isEnd_any o s1 _).mono ?_
 rintro e w' ⟨rfl,hw'⟩
 obtain rfl:=hw'.symm
 obtain⟨b1,hb1⟩:∃ b,okEnd o s1=b:=⟨_,rfl⟩
 rw [hb1] at HX ⊢
 clear hb1
 cases b1 with
 |false=>
  go_wp2
  go_ret
  exact⟨by rw [HX.out];rfl,K.out⟩
 |true=>
  go_wp2_with fail
  refine(isEnd_any o s2 _).mono ?_
  rintro e w' ⟨rfl,hw'⟩
  obtain rfl:=hw'.symm
  obtain⟨b2,hb2⟩:∃ b,okEnd o s2=b:=⟨_,rfl⟩
  rw [hb2] at HX ⊢
  clear hb2
  cases b2 with
  |false=>
   go_wp2
   go_ret
   exact⟨by rw [HX.out];rfl,K.out⟩
  |true=>
   go_wp2
   go_ret
   exact⟨by rw [HX.out];rfl,K.out⟩
set_option maxRecDepth 1000000 in
set_option maxHeartbeats 4000000 in
theorem isValid_any (r:Rel) (a2:Option Addr) (c2:Nat) (w:World) (hr:Rd 2 encP w (.slice a2 r.sp.length c2) r.sp):
  Calls Tryz.prog 48 #[.agg #[.int .i64 r.op,.int .i64 r.md,.bool r.nt,.slice a2 r.sp.length c2]] w fun e w'=>e= .returned (.bool (okR r))∧Below w.heap.size w w':=by
 obtain⟨o,m,nt,sp⟩:=r
 dsimp only at hr ⊢
 have HX:Hid (okR ⟨o,m,nt,sp⟩=(decide (1≤o)&&decide (o≤6)&&okMod o m&&decide (0<sp.length)&&decide (sp.length≤4)&&sp.all (okSp o))):=Lib.hid rfl
 have K:=Lib.hid ((Below.refl w.heap.size w).alloc (Nat.le_refl _) (.cells #[.int .i64 o,.int .i64 m,.bool nt,.slice a2 sp.length c2] 52))
 have KB:=Lib.hid (Blk.new w 52 #[.int .i64 o,.int .i64 m,.bool nt,.slice a2 sp.length c2])
 have HR:=Lib.hid (hr.below K.out)
 clear hr
 by_cases h1:o<1
 ·have HY:Hid (okR ⟨o,m,nt,sp⟩=false):=Lib.hid (by rw [HX.out,decide_eq_false (by omega)];rfl)
  clear HX
  go_enter Tryz.func48,Tryz.ntmps48
  go_wp2
  go_ret
  exact⟨by rw [HY.out];rfl,K.out⟩
 have h1':decide (1≤o)=true:=decide_eq_true (by omega)
 by_cases h2:6<o
 ·have HY:Hid (okR ⟨o,m,nt,sp⟩=false):=Lib.hid (by rw [HX.out,h1',decide_eq_false (by omega)];rfl)
  clear HX h1'
  go_enter Tryz.func48,Tryz.ntmps48
  go_wp2
  go_ret
  exact⟨by rw [HY.out];rfl,K.out⟩
 have h2':decide (o≤6)=true:=decide_eq_true (by omega)
 rw [h1',h2'] at HX
 clear h1' h2'
 go_enter Tryz.func48,Tryz.ntmps48
 go_wp2_with fail
 refine(isMod_any o m _).mono ?_
 rintro e w' ⟨rfl,hw'⟩
 obtain rfl:=hw'.symm
 clear h1 h2
 obtain⟨b1,hb1⟩:∃ b,okMod o m=b:=⟨_,rfl⟩
 rw [hb1] at HX ⊢
 clear hb1
 cases b1 with
 |false=>
  have HY:Hid (okR ⟨o,m,nt,sp⟩=false):=Lib.hid (by rw [HX.out];rfl)
  clear HX
  go_wp2
  go_ret
  exact⟨by rw [HY.out];rfl,K.out⟩
 |true=>
  by_cases h3:sp.length=0
  ·have HY:Hid (okR ⟨o,m,nt,sp⟩=false):=Lib.hid (by rw [HX.out,decide_eq_false (by omega:¬ 0<sp.length)];rfl)
   have t3:((sp.length:Int)==0)=true:=by rw [beq_iff_eq];omega
   clear HX h3
   go_wp2
   go_ret
   exact⟨by rw [HY.out];rfl,K.out⟩
  have t3:((sp.length:Int)==0)=false:=by rw [beq_eq_false_iff_ne];omega
  have t3':(sp.length==0)=false:=by rw [beq_eq_false_iff_ne];omega
  by_cases h4:4<sp.length
  ·have HY:Hid (okR ⟨o,m,nt,sp⟩=false):=Lib.hid (by rw [HX.out,decide_eq_true (by omega:0<sp.length),decide_eq_false (by omega:¬ sp.length≤4)];rfl)
   have t4:(4:Int)<(sp.length:Int):=by omega
   clear HX h3
   go_wp2
   go_ret
   exact⟨by rw [HY.out];rfl,K.out⟩
  have t4:¬ (4:Int)<(sp.length:Int):=by omega
  have HY:Hid (okR ⟨o,m,nt,sp⟩=sp.all (okSp o)):=Lib.hid (by rw [HX.out,decide_eq_true (by omega:0<sp.length),decide_eq_true (by omega:sp.length≤4)];simp)
  have HG:Hid (∀(W:World) (s:Int × Int),s∈sp→Below (w.alloc (.cells #[.int .i64 o,.int .i64 m,.bool nt,.slice a2 sp.length c2] 52)).heap.size (w.alloc (.cells #[.int .i64 o,.int .i64 m,.bool nt,.slice a2 sp.length c2] 52)) W→Calls Tryz.prog 80 (#[.agg #[.int .i64 s.1,.int .i64 s.2]]++ #[.pointer (some ⟨w.heap.size,0,none⟩)]) W fun e w'=>e= .returned (.bool (okSp o s))∧Below W.heap.size W w'):=Lib.hid (fun W s _ hb=>by
   have kb:=KB.out.below hb
   exact isValid1_any o s w.heap.size W (kb.cell 0) kb.lt)
  clear HX h3 h4 KB
  go_wp2_with fail
  refine(allSpan_any _ sp (okSp o) 80 _ (enters_of Tryz.func80 (by kernel_rfl) rfl) _ HR.out HG.out).mono ?_
  rintro e w2 ⟨rfl,b2⟩
  have HB2:=Lib.hid (st K.out b2 K.out.size)
  clear b2
  rw [←HY.out]
  go_wp2
  go_ret
  exact⟨rfl,HB2.out⟩
theorem okC_bad {c:Cnd} {k:Nat} (hk:k<c.length) (h:okL c[k]=false):okC c=false:=by
 cases hc:okC c with
 |false=>rfl
 |true=>
  have:=(okC_iff.1 hc).2.1 _ (List.getElem_mem hk)
  rw [h] at this
  cases this
theorem okC_many {c:Cnd} {k:Nat} (h:6<cnt (c.take k)):okC c=false:=by
 cases hc:okC c with
 |false=>rfl
 |true=>
  have:=(okC_iff.1 hc).2.2
  have:=cnt_take_le c k
  omega
theorem okC_end {c:Cnd} (h1:∀ l∈c,okL l=true) (h2:cnt c≤6):okC c=decide (0<c.length):=by
 cases h:decide (0<c.length) with
 |false=>
  unfold okC
  rw [h];rfl
 |true=>exact okC_iff.2 ⟨of_decide_eq_true h,h1,h2⟩
theorem okL_nil {l:List Rel} (h:l.length=0):okL l=false:=by unfold okL;rw [decide_eq_false (by omega)];rfl
theorem okL_all {l:List Rel} (h:l.length≠0):okL l=l.all okR:=by unfold okL;rw [decide_eq_true (by omega)];rfl
set_option maxRecDepth 1000000 in
set_option maxHeartbeats 4000000 in
theorem valid_cond_any (v:Value) (c:Cnd) (w:World) (hv:RdC w v c) (hl:∀ l∈c,l.length≤4611686018427387904):
  Calls Tryz.prog 22 #[v] w fun e w'=>e= .returned (.bool (okC c))∧Below w.heap.size w w':=by
 obtain⟨a,cp,rfl,hc1,hc2⟩:=hv.slice
 have HU:=Lib.hid hv
 have HL:=Lib.hid hl
 clear hv hl
 go_enter Tryz.func22,Tryz.ntmps22
 go_wp2
 go_loopw [3,8] (fun v3 v8 wr=>∃ k:Nat,k≤c.length∧v8= .int .i64 k∧v3= .int .i64 (cnt (c.take k):Nat)∧cnt (c.take k)≤6∧(∀ l∈c.take k,okL l=true)∧Below w.heap.size w wr) (fun _ v8 _=>c.length - (intOf v8).toNat)
 case atStart=>exact⟨0,Nat.zero_le _,rfl,rfl,Nat.zero_le _,fun l h=>by simp at h,Below.refl _ _⟩
 case round=>
  obtain⟨k,hk,rfl,rfl,h6,hok,hb⟩:=hrel
  have HK:=Lib.hid hok
  have HB:=Lib.hid hb
  have zr:=hb.size
  clear hok hb
  by_cases hlt:k<c.length
  ·obtain⟨bk,off,x1,x2,rfl,h0,h4⟩:=(HU.out.below HB.out).at_ k hlt
   have h9:(k:Int)<(c.length:Int):=by omega
   have hln:=HL.out _ (List.getElem_mem hlt)
   have HS:=Lib.hid (cnt_take_succ hlt)
   have HT:=Lib.hid (List.take_succ_eq_append_getElem hlt)
   have HBAD:=Lib.hid (okC_bad (c:=c) hlt)
   have H4:=Lib.hid h4
   obtain⟨m,hm⟩:∃ m,c[k]=m:=⟨_,rfl⟩
   rw [hm] at h0 hln HS HT HBAD H4
   clear h4 hm
   obtain⟨N,hN⟩:∃ N,cnt (c.take k)=N:=⟨_,rfl⟩
   rw [hN] at h6 HS ⊢
   clear hN
   by_cases hz:m.length=0
   ·have t0:((m.length:Int)==0)=true:=by rw [beq_iff_eq];omega
    have HV:=Lib.hid (HBAD.out (okL_nil hz))
    clear hz
    go_wp2
    go_ret
    exact⟨by rw [HV.out];rfl,HB.out⟩
   have t0:((m.length:Int)==0)=false:=by rw [beq_eq_false_iff_ne];omega
   have t0':(m.length==0)=false:=by rw [beq_eq_false_iff_ne];omega
   by_cases h7:6<N+m.length
   ·have t1:(6:Int)<(N:Int)+(m.length:Int):=by omega
    have HV:Hid (okC c=false):=Lib.hid (okC_many (k:=k+1) (by rw [HS.out];exact h7))
    clear hz
    go_wp2
    go_ret
    exact⟨by rw [HV.out];rfl,HB.out⟩
   have t1:¬ (6:Int)<(N:Int)+(m.length:Int):=by omega
   have HA:=Lib.hid (okL_all (l:=m) hz)
   clear hz
   go_wp2_with fail
   refine(allRel_any _ m okR 48 #[] (enters_of Tryz.func48 (by kernel_rfl) rfl) _ H4.out (fun W r a2 c2 _ _ hr=>isValid_any r a2 c2 W hr)).mono ?_
   rintro e w2 ⟨rfl,b2⟩
   have HB2:=Lib.hid (st HB.out b2 zr)
   clear b2
   rw [←HA.out]
   obtain⟨b,hbb⟩:∃ b,okL m=b:=⟨_,rfl⟩
   have HQ:=Lib.hid hbb
   rw [hbb]
   clear hbb
   cases b with
   |false=>
    have HV:=Lib.hid (HBAD.out HQ.out)
    go_wp2
    go_ret
    exact⟨by rw [HV.out];rfl,HB2.out⟩
   |true=>
    go_wp2
    go_roundw
    case measure=>simp [intOf];omega
    case rel=>exact⟨k+1,by omega,by go_num,by rw [HS.out];simp,by rw [HS.out];omega,fun l hl=>by
     rw [HT.out] at hl
     rcases List.mem_append.1 hl with h|h
     ·exact HK.out l h
     ·simp at h;subst h;exact HQ.out,HB2.out⟩
  ·obtain rfl:k=c.length:=by omega
   have h3:¬ (c.length:Int)<(c.length:Int):=by omega
   have HV:Hid (okC c=decide (0<c.length)):=Lib.hid (by
    have h1:=HK.out
    rw [List.take_length] at h1 h6
    exact okC_end h1 h6)
   by_cases h0:0<c.length
   ·have t0:(0:Int)<(c.length:Int):=by omega
    have HW:Hid (okC c=true):=Lib.hid (by rw [HV.out];exact decide_eq_true h0)
    clear h6
    go_wp2
    go_ret
    exact⟨by rw [HW.out];rfl,HB.out⟩
   ·have t0:¬ (0:Int)<(c.length:Int):=by omega
    have HW:Hid (okC c=false):=Lib.hid (by rw [HV.out];exact decide_eq_false h0)
    clear h6
    go_wp2
    go_ret
    exact⟨by rw [HW.out];rfl,HB.out⟩
theorem opR_fits (s:Str) (k:Int):0≤(opR s k).1∧(opR s k).1<1000000000000000:=by
 unfold opR
 split
 ·exact⟨by decide,by decide⟩
 ·rename_i x h
  have g:=(spl_some h).1
  have p:∀ l:Str,allD l→l.length≤15→(0:Int)≤(val l:Int)∧(val l:Int)<1000000000000000:=fun l h1 h2=>by
   have h3:=val_lt h1
   have h4:10 ^ l.length≤10 ^ 15:=Nat.pow_le_pow_right (by omega) h2
   have h5:(10:Nat) ^ 15=1000000000000000:=by decide
   omega
  have q1:=p x.wh g.dw g.high
  have q2:=p x.fr g.df (by have:=g.few;omega)
  have q3:=p (trim x.fr) (trim_allD g.df) (by have:=g.few;have:=trim_len x.fr;omega)
  have q4:=g.few
  have q5:=trim_len x.fr
  unfold opnd
  repeat' split
  all_goals first|exact q1|exact q2|exact q3|(dsimp only;omega)
set_option maxRecDepth 1000000 in
set_option maxHeartbeats 1000000 in
theorem holds1_any (n:Int) (s:Int × Int) (B:Nat) (W:World) (hc:W.cell? ⟨B,0,none⟩=some (.int .i64 n)) (hB:B<W.heap.size):
  Calls Tryz.prog 55 (#[.agg #[.int .i64 s.1,.int .i64 s.2]]++ #[.pointer (some ⟨B,0,none⟩)]) W fun e w'=>e= .returned (.bool (decide (s.1≤n)&&decide (n≤s.2)))∧Below W.heap.size W w':=by
 obtain⟨s1,s2⟩:=s
 have K:=Lib.hid ((Below.refl W.heap.size W).alloc (Nat.le_refl _) (.cells #[.int .i64 s1,.int .i64 s2] 84))
 have hc2:(W.alloc (.cells #[.int .i64 s1,.int .i64 s2] 84)).cell? ⟨B,0,none⟩=some (.int .i64 n):=(K.out.cell (p:=⟨B,0,none⟩) hB).trans hc
 clear hc
 by_cases h1:s1≤n
 ·have q:=decide_eq_true h1
  have HX:Hid ((decide (s1≤n)&&decide (n≤s2))=decide (n≤s2)):=Lib.hid (by rw [q];rfl)
  go_enter Tryz.func55,Tryz.ntmps55
  go_wp2
  go_ret
  exact⟨by dsimp only;first|rfl|(rw [HX.out];rfl),K.out⟩
 ·have q:=decide_eq_false h1
  have HX:Hid ((decide (s1≤n)&&decide (n≤s2))=false):=Lib.hid (by rw [q];rfl)
  go_enter Tryz.func55,Tryz.ntmps55
  go_wp2
  go_ret
  exact⟨by dsimp only;first|rfl|(rw [HX.out];rfl),K.out⟩
theorem hld_err {s:Str} {r:Rel} (h:(opR s r.op).2≠0):hldR s r=r.nt:=by unfold hldR hldO;rw [if_neg h]
theorem hld_ok {s:Str} {r:Rel} (h:(opR s r.op).2=0):hldR s r=(inside r.sp (rem r.md (opR s r.op).1) != r.nt):=by unfold hldR hldO;rw [if_pos h]
set_option maxRecDepth 1000000 in
set_option maxHeartbeats 4000000 in
theorem holds_any (r:Rel) (a2:Option Addr) (c2:Nat) (s:ByteArray) (hs:s.size≤1000) (hok:0≤r.md∧r.md≤100) (w:World) (hr:Rd 2 encP w (.slice a2 r.sp.length c2) r.sp):
  Calls Tryz.prog 28 #[.agg #[.int .i64 r.op,.int .i64 r.md,.bool r.nt,.slice a2 r.sp.length c2],.string s] w fun e w'=>e= .returned (.bool (hldR s.data.toList r))∧Below w.heap.size w w':=by
 have HE:=Lib.hid (hld_err (s:=s.data.toList) (r:=r))
 have HO:=Lib.hid (hld_ok (s:=s.data.toList) (r:=r))
 obtain⟨o,m,nt,sp⟩:=r
 dsimp only at hr hok HE HO ⊢
 obtain⟨m0,m1⟩:=hok
 have K:=Lib.hid ((Below.refl w.heap.size w).alloc (Nat.le_refl _) (.cells #[.int .i64 o,.int .i64 m,.bool nt,.slice a2 sp.length c2] 52))
 have KB:=Lib.hid (Blk.new w 52 #[.int .i64 o,.int .i64 m,.bool nt,.slice a2 sp.length c2])
 have HR:=Lib.hid hr
 have HF:=Lib.hid (opR_fits s.data.toList o)
 clear hr
 go_enter Tryz.func28,Tryz.ntmps28
 go_wp2_with fail
 refine(operand_any s o (Nat.le_trans hs (by decide)) _).mono ?_
 rintro e w2 ⟨rfl,b2⟩
 have B2:=Lib.hid (st K.out b2 K.out.size)
 have KB2:=Lib.hid (KB.out.below b2)
 have HR2:=Lib.hid (HR.out.below B2.out)
 obtain⟨⟨n,er⟩,hp⟩:∃ p,opR s.data.toList o=p:=⟨_,rfl⟩
 rw [hp] at HE HO HF ⊢
 have n0:=HF.out.1
 have n1:=HF.out.2
 dsimp only at n0 n1 HE HO ⊢
 clear hp b2 HF
 have KN:=Lib.hid (Blk.new w2 3 #[.int .i64 n])
 have B3:=Lib.hid (B2.out.alloc B2.out.size (.cells #[.int .i64 n] 3))
 have KB3:=Lib.hid (KB2.out.alloc (.cells #[.int .i64 n] 3))
 have HR3:=Lib.hid (HR2.out.alloc (.cells #[.int .i64 n] 3))
 obtain⟨w3,hw3⟩:∃ w3,w2.alloc (.cells #[.int .i64 n] 3)=w3:=⟨_,rfl⟩
 have zz:=B2.out.size
 rw [hw3] at KN B3 KB3 HR3
 have k1:w3.cell? ⟨w.heap.size,1,none⟩=some (.int .i64 m):=KB3.out.cell 1
 have k2:w3.cell? ⟨w.heap.size,2,none⟩=some (.bool nt):=KB3.out.cell 2
 have k3:w3.cell? ⟨w.heap.size,3,none⟩=some (.slice a2 sp.length c2):=KB3.out.cell 3
 have k4:w3.cell? ⟨w2.heap.size,0,none⟩=some (.int .i64 n):=KN.out.cell 0
 have k5:w3.frozen? ⟨w2.heap.size,0,none⟩=false:=KN.out.frozen 0
 by_cases he:er=0
 ·subst he
  have t0:((0:Int) != 0)=false:=rfl
  by_cases hm:m=0
  ·subst hm
   have t1:((0:Int)==0)=true:=rfl
   have HV:Hid (hldR s.data.toList ⟨o,0,nt,sp⟩=(inside sp n != nt)):=Lib.hid (HO.out rfl)
   clear HE HO
   go_wp2_with fail
   refine(containsSpan_any _ sp (fun s=>decide (s.1≤n)&&decide (n≤s.2)) 55 _ (enters_of Tryz.func55 (by kernel_rfl) rfl) _ HR3.out (fun W s _ hb=>by
    have kb:=KN.out.below hb
    exact holds1_any n s w2.heap.size W (kb.cell 0) kb.lt)).mono ?_
   rintro e w4 ⟨rfl,b4⟩
   have B4:=Lib.hid (st B3.out b4 B3.out.size)
   have k6:w4.cell? ⟨w.heap.size,2,none⟩=some (.bool nt):=(KB3.out.below b4).cell 2
   clear b4
   have HI:Hid (inside sp n=sp.any fun s=>decide (s.1≤n)&&decide (n≤s.2)):=Lib.hid rfl
   obtain⟨x,hx⟩:∃ x,(sp.any fun s=>decide (s.1≤n)&&decide (n≤s.2))=x:=⟨_,rfl⟩
   rw [hx] at HI ⊢
   clear hx
   go_wp2
   go_ret
   exact⟨by rw [HV.out,HI.out];rfl,B4.out⟩
  ·have t1:(m==0)=false:=by rw [beq_eq_false_iff_ne];exact hm
   have HV:Hid (hldR s.data.toList ⟨o,m,nt,sp⟩=(inside sp (n.tmod m) != nt)):=Lib.hid (by rw [HO.out rfl];unfold rem;rw [if_neg hm])
   obtain⟨j,hj⟩:∃ j,n.tmod m=j:=⟨_,rfl⟩
   rw [hj] at HV
   have B5:=Lib.hid (B3.out.setCell (p:=⟨w2.heap.size,0,none⟩) zz (.int .i64 j))
   have KN5:=Lib.hid (KN.out.put 0 (.int .i64 j))
   have KB5:=Lib.hid (KB3.out.far (p:=⟨w2.heap.size,0,none⟩) (by have:=KB2.out.lt;show w.heap.size≠w2.heap.size;omega) (.int .i64 j))
   have HR5:=Lib.hid (HR2.out.below (((Below.refl w2.heap.size w2).alloc (Nat.le_refl _) (.cells #[.int .i64 n] 3)).setCell (p:=⟨w2.heap.size,0,none⟩) (Nat.le_refl _) (.int .i64 j)))
   rw [hw3] at HR5
   have k6:(w3.setCell ⟨w2.heap.size,0,none⟩ (.int .i64 j)).cell? ⟨w.heap.size,3,none⟩=some (.slice a2 sp.length c2):=KB5.out.cell 3
   clear HE HO
   go_wp2_with fail
   refine(containsSpan_any _ sp (fun s=>decide (s.1≤j)&&decide (j≤s.2)) 55 _ (enters_of Tryz.func55 (by kernel_rfl) rfl) _ HR5.out (fun W s _ hb=>by
    have kb:=KN5.out.below hb
    exact holds1_any j s w2.heap.size W (kb.cell 0) kb.lt)).mono ?_
   rintro e w4 ⟨rfl,b4⟩
   have B4:=Lib.hid (st B5.out b4 B5.out.size)
   have k7:w4.cell? ⟨w.heap.size,2,none⟩=some (.bool nt):=(KB5.out.below b4).cell 2
   clear b4
   have HI:Hid (inside sp j=sp.any fun s=>decide (s.1≤j)&&decide (j≤s.2)):=Lib.hid rfl
   obtain⟨x,hx⟩:∃ x,(sp.any fun s=>decide (s.1≤j)&&decide (j≤s.2))=x:=⟨_,rfl⟩
   rw [hx] at HI ⊢
   clear hx
   go_wp2
   go_ret
   exact⟨by rw [HV.out,HI.out];rfl,B4.out⟩
 ·have t0:(er==0)=false:=by rw [beq_eq_false_iff_ne];exact he
  have HV:=Lib.hid (HE.out he)
  clear HE HO he
  go_wp2
  go_ret
  exact⟨by rw [HV.out];rfl,B3.out⟩
set_option maxRecDepth 1000000 in
set_option maxHeartbeats 1000000 in
theorem holds11_any (r:Rel) (a2:Option Addr) (c2:Nat) (s:ByteArray) (hs:s.size≤1000) (hok:0≤r.md∧r.md≤100) (B:Nat) (W:World) (hr:Rd 2 encP W (.slice a2 r.sp.length c2) r.sp) (hc:W.cell? ⟨B,0,none⟩=some (.string s)) (hB:B<W.heap.size):
  Calls Tryz.prog 27 (#[.agg #[.int .i64 r.op,.int .i64 r.md,.bool r.nt,.slice a2 r.sp.length c2]]++ #[.pointer (some ⟨B,0,none⟩)]) W fun e w'=>e= .returned (.bool (hldR s.data.toList r))∧Below W.heap.size W w':=by
 have K:=Lib.hid ((Below.refl W.heap.size W).alloc (Nat.le_refl _) (.cells #[.int .i64 r.op,.int .i64 r.md,.bool r.nt,.slice a2 r.sp.length c2] 52))
 have hc2:(W.alloc (.cells #[.int .i64 r.op,.int .i64 r.md,.bool r.nt,.slice a2 r.sp.length c2] 52)).cell? ⟨B,0,none⟩=some (.string s):=(K.out.cell (p:=⟨B,0,none⟩) hB).trans hc
 have HR:=Lib.hid (hr.below K.out)
 clear hc hr
 go_enter Tryz.func27,Tryz.ntmps27
 go_wp2_with fail
 refine(holds_any r a2 c2 s hs hok _ HR.out).mono ?_
 rintro e w2 ⟨rfl,b2⟩
 have B2:=Lib.hid (st K.out b2 K.out.size)
 clear b2
 go_wp2
 go_ret
 exact⟨rfl,B2.out⟩
set_option maxRecDepth 1000000 in
set_option maxHeartbeats 1000000 in
theorem holds1f_any (m:List Rel) (a2:Option Addr) (c2:Nat) (s:ByteArray) (hs:s.size≤1000) (hok:∀ r∈m,0≤r.md∧r.md≤100) (B:Nat) (W:World) (hr:RdRels W (.slice a2 m.length c2) m) (hc:W.cell? ⟨B,0,none⟩=some (.string s)) (hB:B<W.heap.size):
  Calls Tryz.prog 25 (#[.slice a2 m.length c2]++ #[.pointer (some ⟨B,0,none⟩)]) W fun e w'=>e= .returned (.bool (hldL s.data.toList m))∧Below W.heap.size W w':=by
 have HR:=Lib.hid hr
 have HC:=Lib.hid hc
 have HO:=Lib.hid hok
 have HX:Hid (hldL s.data.toList m=m.all (hldR s.data.toList)):=Lib.hid rfl
 clear hc hr hok
 go_enter Tryz.func25,Tryz.ntmps25
 go_wp2_with fail
 refine(allRel_any _ m (hldR s.data.toList) 27 _ (enters_of Tryz.func27 (by kernel_rfl) rfl) _ HR.out (fun W1 r a3 c3 hm hb h3=>holds11_any r a3 c3 s hs (HO.out r hm) B W1 h3 ((hb.cell (p:=⟨B,0,none⟩) hB).trans HC.out) (Nat.lt_of_lt_of_le hB hb.size))).mono ?_
 rintro e w2 ⟨rfl,b2⟩
 have B2:=Lib.hid b2
 clear b2
 go_wp2
 go_ret
 exact⟨by rw [HX.out];rfl,B2.out⟩
theorem okC_md {c:Cnd} (h:okC c=true):∀ m∈c,∀ r∈m,0≤r.md∧r.md≤100:=by
 intro m hm r hr
 have h1:=(okL_iff.1 ((okC_iff.1 h).2.1 m hm)).2 r hr
 exact okMod_le (okR_iff.1 h1).md
set_option maxRecDepth 1000000 in
set_option maxHeartbeats 2000000 in
theorem holdsC_any (v:Value) (c:Cnd) (s:ByteArray) (hs:s.size≤1000) (w:World) (hv:RdC w v c) (hl:∀ l∈c,l.length≤4611686018427387904):
  Calls Tryz.prog 10 #[v,.string s] w fun e w'=>e= .returned (.tuple #[.bool (holdR c s.data.toList).1,.int .i64 (holdR c s.data.toList).2])∧Below w.heap.size w w':=by
 obtain⟨a,cp,rfl,hc1,hc2⟩:=hv.slice
 have K:=Lib.hid ((Below.refl w.heap.size w).alloc (Nat.le_refl _) (.cells #[.string s] 9))
 have KB:=Lib.hid (Blk.new w 9 #[.string s])
 have HV:=Lib.hid (hv.below K.out)
 clear hv
 go_enter Tryz.func10,Tryz.ntmps10
 go_wp2_with fail
 refine(valid_cond_any _ c _ HV.out hl).mono ?_
 rintro e w2 ⟨rfl,b2⟩
 have B2:=Lib.hid (st K.out b2 K.out.size)
 have KB2:=Lib.hid (KB.out.below b2)
 have HV2:=Lib.hid (HV.out.below b2)
 have k0:w2.cell? ⟨w.heap.size,0,none⟩=some (.string s):=KB2.out.cell 0
 clear b2
 obtain⟨b,hb⟩:∃ b,okC c=b:=⟨_,rfl⟩
 have HB:=Lib.hid hb
 rw [hb]
 clear hb
 cases b with
 |false=>
  have HX:Hid (holdR c s.data.toList=(false,1)):=Lib.hid (by unfold holdR;rw [HB.out,if_neg (by simp)])
  go_wp2
  go_ret2
  exact⟨by rw [HX.out];rfl,B2.out⟩
 |true=>
  go_wp2_with fail
  refine(valid_any s (Nat.le_trans hs (by decide)) _).mono ?_
  rintro e w3 ⟨rfl,b3⟩
  have B3:=Lib.hid (st B2.out b3 B2.out.size)
  have KB3:=Lib.hid (KB2.out.below b3)
  have HV3:=Lib.hid (HV2.out.below b3)
  clear b3 k0
  obtain⟨b,hb⟩:∃ b,(spl s.data.toList).isSome=b:=⟨_,rfl⟩
  have HS:=Lib.hid hb
  rw [hb]
  clear hb
  cases b with
  |false=>
   have HX:Hid (holdR c s.data.toList=(false,1)):=Lib.hid (by unfold holdR;rw [HS.out,if_neg (by simp)])
   go_wp2
   go_ret2
   exact⟨by rw [HX.out];rfl,B3.out⟩
  |true=>
   have HX:Hid (holdR c s.data.toList=(hldC s.data.toList c,0)):=Lib.hid (by unfold holdR;rw [HS.out,HB.out,if_pos (by simp)])
   have HY:Hid (hldC s.data.toList c=c.any (hldL s.data.toList)):=Lib.hid rfl
   go_wp2_with fail
   refine(containsLst_any _ c (hldL s.data.toList) 25 _ (enters_of Tryz.func25 (by kernel_rfl) rfl) _ HV3.out (fun W1 m a3 c3 hm hb h3=>holds1f_any m a3 c3 s hs (okC_md HB.out m hm) w.heap.size W1 h3 ((KB3.out.below hb).cell 0) (KB3.out.below hb).lt)).mono ?_
   rintro e w4 ⟨rfl,b4⟩
   have B4:=Lib.hid (st B3.out b4 B3.out.size)
   clear b4
   go_wp2
   go_ret2
   exact⟨by rw [HX.out,HY.out];rfl,B4.out⟩
def FewPost (c:Cnd) (w:World) (e:Ending) (w':World):Prop:=(∃ b,e= .returned (.bool b)∧(b=true→c.length≤30))∧w'=w
def FewRel (n:Nat) (w:World) (v3 v4:Value) (wr:World):Prop:=∃(k:Nat) (x:Int),k≤n∧v4= .int .i64 k∧v3= .int .i64 x∧wr=w
set_option maxRecDepth 1000000 in
set_option maxHeartbeats 2000000 in
theorem few_any (v:Value) (c:Cnd) (w:World) (hv:RdC w v c):
  Calls Tryz.prog 15 #[v] w (FewPost c w):=by
 obtain⟨a,cp,rfl,hc1,hc2⟩:=hv.slice
 have HU:=Lib.hid hv
 clear hv
 go_enter Tryz.func15,Tryz.ntmps15
 go_wp2
 go_loopw [3,4] (fun v3 v4 wr=>FewRel c.length w v3 v4 wr) (fun _ v4 _=>c.length - (intOf v4).toNat)
 case atStart=>exact⟨0,0,Nat.zero_le _,rfl,rfl,rfl⟩
 case round=>
  obtain⟨k,x,hk,rfl,rfl,hw⟩:=hrel
  obtain rfl:=hw.symm
  by_cases hlt:k<c.length
  ·obtain⟨bk,off,x1,x2,rfl,h0,h4⟩:=HU.out.at_ k hlt
   have h9:(k:Int)<(c.length:Int):=by omega
   obtain⟨m,hm⟩:∃ m,c[k]=m:=⟨_,rfl⟩
   rw [hm] at h0 h4
   clear hm
   have hmb:m.length≤9223372036854775807:=by obtain⟨_,_,_,q1,q2⟩:=h4.slice;omega
   have H4:=Lib.hid h4
   clear h4
   go_wp2
   go_loopw [3,5] (fun v3 v5 wr=>FewRel m.length w v3 v5 wr) (fun _ v5 _=>m.length - (intOf v5).toNat)
   case atStart=>exact⟨0,_,Nat.zero_le _,rfl,rfl,rfl⟩
   case round=>
    obtain⟨j,x,hj,rfl,rfl,hw⟩:=hrel
    obtain rfl:=hw.symm
    by_cases hjt:j<m.length
    ·obtain⟨bm,om,y1,y2,rfl,g0,g1,g2,g3,g4⟩:=H4.out.at_ j hjt
     have h9:(j:Int)<(m.length:Int):=by omega
     clear g0 g1 g2 g4
     obtain⟨n,hn⟩:∃ n,m[j].sp.length=n:=⟨_,rfl⟩
     rw [hn] at g3
     clear hn
     go_wp2
     go_roundw
     case measure=>simp [intOf];omega
     case rel=>exact⟨j+1,_,by omega,by go_num,rfl,rfl⟩
    ·obtain rfl:j=m.length:=by omega
     have h3:¬ (m.length:Int)<(m.length:Int):=by omega
     by_cases h80:80<x
     ·go_wp2
      go_ret
      exact⟨⟨false,rfl,fun h=>by cases h⟩,rfl⟩
     ·go_wp2
      go_roundw
      case measure=>simp [intOf];omega
      case rel=>exact⟨k+1,_,by omega,by go_num,rfl,rfl⟩
  ·obtain rfl:k=c.length:=by omega
   have h3:¬ (c.length:Int)<(c.length:Int):=by omega
   by_cases h30:c.length≤30
   ·have t:(c.length:Int)≤30:=by omega
    go_wp2
    go_ret
    exact⟨⟨true,rfl,fun _=>h30⟩,rfl⟩
   ·have t:¬ (c.length:Int)≤30:=by omega
    go_wp2
    go_ret
    exact⟨⟨false,rfl,fun h=>by cases h⟩,rfl⟩
def encI (x:Int):List Value:=[.int .i64 x]
theorem rd_ints (w:World) (l:List Int) (hl:l.length≤1000) (t:TypeId) (cs:Array Value) (hcs:cs=(l.map fun x=>Value.int .i64 x).toArray):Rd 1 encI (w.alloc (.cells cs t)) (.slice (some ⟨w.heap.size,0,none⟩) l.length l.length) l:=by
 have k:=Blk.new w t cs
 refine⟨⟨_,l.length,rfl,Nat.le_refl _,by omega,fun _=>⟨w.heap.size,0,rfl,k.lt,fun i u hi j v hv=>?_⟩⟩,fun n c hc=>by cases hc⟩
 have hj:j=0:=by have:=(List.getElem?_eq_some_iff.1 hv).1;simp [encI] at this;exact this
 subst hj
 simp [encI] at hv
 subst hv
 rw [k.cell,hcs]
 simp [hi]
def modsL (o:Int):List Int:=if o=1∨o=2 then [2,3,4,5,6,10,20,25,50,100] else if o=5∨o=6 then [10,100] else []
theorem mods_ok {o m:Int} (h1:1≤o) (h6:o≤6) (hm:m≠0):(modsL o).any (fun x=>x==m)=okMod o m:=by
 rw [Bool.eq_iff_iff]
 obtain rfl|rfl|rfl|rfl|rfl|rfl:o=1∨o=2∨o=3∨o=4∨o=5∨o=6:=by omega
 all_goals
  unfold okMod modsL
  rw [if_neg hm]
  simp [digs]
  try omega
set_option maxRecDepth 1000000 in
set_option maxHeartbeats 1000000 in
theorem mods_any (o:Int) (w:World):Calls Tryz.prog 38 #[.int .i64 o] w fun e w'=>(∃ v,e= .returned v∧Rd 1 encI w' v (modsL o))∧Below w.heap.size w w':=by
 have H10:=Lib.hid (rd_ints w [2,3,4,5,6,10,20,25,50,100] (by simp) 3 _ rfl)
 have H2:=Lib.hid (rd_ints w [10,100] (by simp) 3 _ rfl)
 by_cases h1:o=1
 ·subst h1
  go_enter Tryz.func38,Tryz.ntmps38
  go_wp2
  go_ret
  exact⟨⟨_,rfl,H10.out⟩,(Below.refl _ w).alloc (Nat.le_refl _) _⟩
 have t1:(o==1)=false:=by rw [beq_eq_false_iff_ne];exact h1
 by_cases h2:o=2
 ·subst h2
  clear h1 t1
  go_enter Tryz.func38,Tryz.ntmps38
  go_wp2
  go_ret
  exact⟨⟨_,rfl,H10.out⟩,(Below.refl _ w).alloc (Nat.le_refl _) _⟩
 have t2:(o==2)=false:=by rw [beq_eq_false_iff_ne];exact h2
 by_cases h5:o=5
 ·subst h5
  clear h1 t1 h2 t2
  go_enter Tryz.func38,Tryz.ntmps38
  go_wp2
  go_ret
  exact⟨⟨_,rfl,H2.out⟩,(Below.refl _ w).alloc (Nat.le_refl _) _⟩
 have t5:(o==5)=false:=by rw [beq_eq_false_iff_ne];exact h5
 by_cases h6:o=6
 ·subst h6
  clear h1 t1 h2 t2 h5 t5
  go_enter Tryz.func38,Tryz.ntmps38
  go_wp2
  go_ret
  exact⟨⟨_,rfl,H2.out⟩,(Below.refl _ w).alloc (Nat.le_refl _) _⟩
 have t6:(o==6)=false:=by rw [beq_eq_false_iff_ne];exact h6
 have HM:Hid (modsL o= []):=Lib.hid (by unfold modsL;rw [if_neg (by omega),if_neg (by omega)])
 clear h1 h2 h5 h6
 go_enter Tryz.func38,Tryz.ntmps38
 go_wp2
 go_ret
 exact⟨⟨_,rfl,by rw [HM.out];exact rd_nil _⟩,Below.refl _ _⟩
theorem Rd.int {w:World} {a:Option Addr} {n c:Nat} {l:List Int} (h:Rd 1 encI w (.slice a n c) l) (i:Nat) (hi:i<l.length):∃ b off,a=some ⟨b,off,none⟩∧w.cell? ⟨b,off+i,none⟩=some (.int .i64 l[i]):=by
 obtain⟨b,off,ha,_,hx⟩:=h.some_ i hi
 have:=hx 0 _ rfl
 rw [Nat.mul_one,Nat.add_zero] at this
 exact⟨b,off,ha,this⟩
set_option maxRecDepth 1000000 in
set_option maxHeartbeats 1000000 in
theorem has_any (v:Value) (l:List Int) (n:Int) (w:World) (hv:Rd 1 encI w v l):Calls Tryz.prog 37 #[v,.int .i64 n] w fun e w'=>e= .returned (.bool (l.any fun x=>x==n))∧w'=w:=by
 obtain⟨a,cp,rfl,hc1,hc2⟩:=hv.slice
 have HU:=Lib.hid hv
 clear hv
 go_enter Tryz.func37,Tryz.ntmps37
 go_wp2
 go_loopw [5] (fun v wr=>∃ k:Nat,k≤l.length∧v= .int .i64 k∧(∀(j:Nat) (hj:j<l.length),j<k→(l[j]==n)=false)∧wr=w) (fun v _=>l.length - (intOf v).toNat)
 case atStart=>exact⟨0,Nat.zero_le _,rfl,fun j _ h=>by omega,rfl⟩
 case round=>
  obtain⟨k,hk,rfl,hkd,hw⟩:=hrel
  obtain rfl:=hw.symm
  have HK:=Lib.hid hkd
  clear hkd
  by_cases hlt:k<l.length
  ·obtain⟨bk,off,rfl,h0⟩:=HU.out.int k hlt
   have h9:(k:Int)<(l.length:Int):=by omega
   obtain⟨x,hx⟩:∃ x,(l[k]==n)=x:=⟨_,rfl⟩
   have HX:=Lib.hid hx
   cases x with
   |true=>
    go_wp2
    go_ret
    exact⟨by rw [any_hit (q:=fun x=>x==n) hlt HX.out];rfl,rfl⟩
   |false=>
    go_wp2
    go_roundw
    case measure=>simp [intOf];omega
    case rel=>exact⟨k+1,by omega,by go_num,fun j hj hjk=>by
     rcases Nat.lt_or_ge j k with h|h
     ·exact HK.out j hj h
     ·obtain rfl:j=k:=by omega
      exact HX.out,(by first|rfl|trivial)⟩
  ·obtain rfl:k=l.length:=by omega
   have h3:¬ (l.length:Int)<(l.length:Int):=by omega
   go_wp2
   go_ret
   exact⟨by rw [any_take_miss (q:=fun x=>x==n) HK.out];rfl,rfl⟩
def bnd (o:Int):Int:=if digs o=true then 6 else 100
set_option maxRecDepth 1000000 in
theorem bound_any (o:Int) (w:World):Calls Tryz.prog 39 #[.int .i64 o] w fun e w'=>e= .returned (.int .i64 (bnd o))∧w'=w:=by
 by_cases h3:o=3
 ·subst h3
  go_enter Tryz.func39,Tryz.ntmps39
  go_wp2
  go_ret
  exact⟨rfl,rfl⟩
 ·have t3:(o==3)=false:=by rw [beq_eq_false_iff_ne];exact h3
  by_cases h4:o=4
  ·subst h4
   clear h3 t3
   go_enter Tryz.func39,Tryz.ntmps39
   go_wp2
   go_ret
   exact⟨rfl,rfl⟩
  ·have t4:(o==4)=false:=by rw [beq_eq_false_iff_ne];exact h4
   have H:Hid (bnd o=100):=Lib.hid (by unfold bnd;rw [digs_false h3 h4];rfl)
   clear h3 h4
   go_enter Tryz.func39,Tryz.ntmps39
   go_wp2
   go_ret
   exact⟨by rw [H.out];rfl,rfl⟩
set_option maxRecDepth 1000000 in
set_option maxHeartbeats 16000000 in
theorem proper_noMod (o m:Int) (nt:Bool) (a2:Option Addr) (N c2:Nat) (w:World) (h1:¬ o<1) (h2:¬ 6<o) (hm:m≠0) (hx:okMod o m=false):
  Calls Tryz.prog 16 #[.agg #[.int .i64 o,.int .i64 m,.bool nt,.slice a2 N c2]] w fun e w'=>e= .returned (.bool false)∧Below w.heap.size w w':=by
 have K:=Lib.hid ((Below.refl w.heap.size w).alloc (Nat.le_refl _) (.cells #[.int .i64 o,.int .i64 m,.bool nt,.slice a2 N c2] 52))
 have KB:=Lib.hid (Blk.new w 52 #[.int .i64 o,.int .i64 m,.bool nt,.slice a2 N c2])
 obtain⟨w1,hw1⟩:∃ w1,w.alloc (.cells #[.int .i64 o,.int .i64 m,.bool nt,.slice a2 N c2] 52)=w1:=⟨_,rfl⟩
 have HMO:=Lib.hid (mods_ok (o:=o) (m:=m) (by omega) (by omega) hm)
 rw [hx] at HMO
 have d1:=decide_eq_false h1
 have d2:=decide_eq_false h2
 have dm:(m==0)=false:=by rw [beq_eq_false_iff_ne];exact hm
 have dm':(m != 0)=true:=by rw [bne_iff_ne];exact hm
 clear hm hx
 go_enter Tryz.func16,Tryz.ntmps16
 go_upto_region 1 with fail
 rw [hw1] at K KB
 try rw [hw1]
 clear hw1
 have HCE:Hid (∀ wx,Below w1.heap.size w1 wx→wx.cell? ⟨w.heap.size,0,none⟩=some (.int .i64 o)∧wx.cell? ⟨w.heap.size,1,none⟩=some (.int .i64 m)∧wx.cell? ⟨w.heap.size,3,none⟩=some (.slice a2 (N) c2)):=Lib.hid (fun wx hb=>⟨(KB.out.below hb).cell 0,(KB.out.below hb).cell 1,(KB.out.below hb).cell 3⟩)
 obtain⟨k0,k1,k3⟩:=HCE.out w1.drew (Below.refl _ _).drew
 first|(go_region_with (first|(go_at_call 38;refine(mods_any o _).mono ?_;rintro e w5 ⟨⟨v5,rfl,r5⟩,b5⟩;have B5:Below w1.heap.size w1 w5:=(Below.refl _ w1).drew.trans b5;have R5:=Lib.hid r5;obtain⟨k5,k6,k7⟩:=HCE.out _ B5;clear b5 r5)|(go_at_call 37;refine(has_any _ _ m _ R5.out).mono ?_;rw [HMO.out];rintro e w' ⟨rfl,hw'⟩;obtain rfl:=hw'.symm)))|fail
 all_goals
  go_wp2
  go_ret
  exact⟨rfl,st K.out B5 K.out.size⟩
set_option maxRecDepth 1000000 in
set_option maxHeartbeats 16000000 in
theorem proper_noSpan (o m:Int) (nt:Bool) (a2:Option Addr) (N c2:Nat) (w:World) (h1:¬ o<1) (h2:¬ 6<o) (hm:m≠0) (hx:okMod o m=true) (hN:N=0):
  Calls Tryz.prog 16 #[.agg #[.int .i64 o,.int .i64 m,.bool nt,.slice a2 N c2]] w fun e w'=>e= .returned (.bool false)∧Below w.heap.size w w':=by
 have K:=Lib.hid ((Below.refl w.heap.size w).alloc (Nat.le_refl _) (.cells #[.int .i64 o,.int .i64 m,.bool nt,.slice a2 N c2] 52))
 have KB:=Lib.hid (Blk.new w 52 #[.int .i64 o,.int .i64 m,.bool nt,.slice a2 N c2])
 obtain⟨w1,hw1⟩:∃ w1,w.alloc (.cells #[.int .i64 o,.int .i64 m,.bool nt,.slice a2 N c2] 52)=w1:=⟨_,rfl⟩
 have HMO:=Lib.hid (mods_ok (o:=o) (m:=m) (by omega) (by omega) hm)
 rw [hx] at HMO
 have d1:=decide_eq_false h1
 have d2:=decide_eq_false h2
 have dm:(m==0)=false:=by rw [beq_eq_false_iff_ne];exact hm
 have dm':(m != 0)=true:=by rw [bne_iff_ne];exact hm
 subst hN
 have d3:decide (((0:Nat):Int)<1)=true:=rfl
 clear hm hx
 go_enter Tryz.func16,Tryz.ntmps16
 go_upto_region 1 with fail
 rw [hw1] at K KB
 try rw [hw1]
 clear hw1
 have HCE:Hid (∀ wx,Below w1.heap.size w1 wx→wx.cell? ⟨w.heap.size,0,none⟩=some (.int .i64 o)∧wx.cell? ⟨w.heap.size,1,none⟩=some (.int .i64 m)∧wx.cell? ⟨w.heap.size,3,none⟩=some (.slice a2 (0) c2)):=Lib.hid (fun wx hb=>⟨(KB.out.below hb).cell 0,(KB.out.below hb).cell 1,(KB.out.below hb).cell 3⟩)
 obtain⟨k0,k1,k3⟩:=HCE.out w1.drew (Below.refl _ _).drew
 first|(go_region_with (first|(go_at_call 38;refine(mods_any o _).mono ?_;rintro e w5 ⟨⟨v5,rfl,r5⟩,b5⟩;have B5:Below w1.heap.size w1 w5:=(Below.refl _ w1).drew.trans b5;have R5:=Lib.hid r5;obtain⟨k5,k6,k7⟩:=HCE.out _ B5;clear b5 r5)|(go_at_call 37;refine(has_any _ _ m _ R5.out).mono ?_;rw [HMO.out];rintro e w' ⟨rfl,hw'⟩;obtain rfl:=hw'.symm)))|fail
 all_goals
  go_wp2
  go_ret
  exact⟨rfl,st K.out B5 K.out.size⟩
set_option maxRecDepth 1000000 in
set_option maxHeartbeats 16000000 in
theorem proper_manySpans (o m:Int) (nt:Bool) (a2:Option Addr) (N c2:Nat) (w:World) (h1:¬ o<1) (h2:¬ 6<o) (hm:m≠0) (hx:okMod o m=true) (hN:4<N):
  Calls Tryz.prog 16 #[.agg #[.int .i64 o,.int .i64 m,.bool nt,.slice a2 N c2]] w fun e w'=>e= .returned (.bool false)∧Below w.heap.size w w':=by
 have K:=Lib.hid ((Below.refl w.heap.size w).alloc (Nat.le_refl _) (.cells #[.int .i64 o,.int .i64 m,.bool nt,.slice a2 N c2] 52))
 have KB:=Lib.hid (Blk.new w 52 #[.int .i64 o,.int .i64 m,.bool nt,.slice a2 N c2])
 obtain⟨w1,hw1⟩:∃ w1,w.alloc (.cells #[.int .i64 o,.int .i64 m,.bool nt,.slice a2 N c2] 52)=w1:=⟨_,rfl⟩
 have HMO:=Lib.hid (mods_ok (o:=o) (m:=m) (by omega) (by omega) hm)
 rw [hx] at HMO
 have d1:=decide_eq_false h1
 have d2:=decide_eq_false h2
 have dm:(m==0)=false:=by rw [beq_eq_false_iff_ne];exact hm
 have dm':(m != 0)=true:=by rw [bne_iff_ne];exact hm
 have d3:decide ((N:Int)<1)=false:=decide_eq_false (by omega)
 have d3':decide (N<1)=false:=decide_eq_false (by omega)
 have d4:decide ((4:Int)<(N:Int))=true:=decide_eq_true (by omega)
 have d4':decide (4<N)=true:=decide_eq_true hN
 clear hm hx
 go_enter Tryz.func16,Tryz.ntmps16
 go_upto_region 1 with fail
 rw [hw1] at K KB
 try rw [hw1]
 clear hw1
 have HCE:Hid (∀ wx,Below w1.heap.size w1 wx→wx.cell? ⟨w.heap.size,0,none⟩=some (.int .i64 o)∧wx.cell? ⟨w.heap.size,1,none⟩=some (.int .i64 m)∧wx.cell? ⟨w.heap.size,3,none⟩=some (.slice a2 (N) c2)):=Lib.hid (fun wx hb=>⟨(KB.out.below hb).cell 0,(KB.out.below hb).cell 1,(KB.out.below hb).cell 3⟩)
 obtain⟨k0,k1,k3⟩:=HCE.out w1.drew (Below.refl _ _).drew
 first|(go_region_with (first|(go_at_call 38;refine(mods_any o _).mono ?_;rintro e w5 ⟨⟨v5,rfl,r5⟩,b5⟩;have B5:Below w1.heap.size w1 w5:=(Below.refl _ w1).drew.trans b5;have R5:=Lib.hid r5;obtain⟨k5,k6,k7⟩:=HCE.out _ B5;clear b5 r5)|(go_at_call 37;refine(has_any _ _ m _ R5.out).mono ?_;rw [HMO.out];rintro e w' ⟨rfl,hw'⟩;obtain rfl:=hw'.symm)))|fail
 all_goals
  go_wp2
  go_ret
  exact⟨rfl,st K.out B5 K.out.size⟩
theorem okSp_eq (o:Int) (s:Int × Int):okSp o s=(!(decide (s.1<0)||decide (s.2<s.1)||decide (bnd o<s.2))):=by
 unfold okSp okEnd bnd
 rw [Bool.eq_iff_iff]
 simp only [Bool.and_eq_true,decide_eq_true_eq,Bool.not_eq_true',Bool.or_eq_false_iff,decide_eq_false_iff_not]
 split<;>omega
def hdOk (o m:Int) (N:Nat):Bool:=decide (1≤o)&&decide (o≤6)&&okMod o m&&decide (0<N)&&decide (N≤4)
theorem okR_hd (o m:Int) (nt:Bool) (sp:List (Int × Int)):okR ⟨o,m,nt,sp⟩=(hdOk o m sp.length&&sp.all (okSp o)):=rfl
theorem all_bad {α:Type} {l:List α} {q:α→Bool} {j:Nat} (hj:j<l.length) (h:q l[j]=false):l.all q=false:=by
 rw [List.all_eq_false]
 exact⟨_,List.getElem_mem hj,by rw [h];simp⟩
theorem all_good {α:Type} {l:List α} {q:α→Bool} (h:∀(j:Nat) (hj:j<l.length),j<l.length→q l[j]=true):l.all q=true:=by
 rw [List.all_eq_true]
 intro x hx
 obtain⟨j,hj,rfl⟩:=List.getElem_of_mem hx
 exact h j hj hj
set_option maxRecDepth 1000000 in
set_option maxHeartbeats 8000000 in
theorem proper_bad (o m:Int) (nt:Bool) (a2:Option Addr) (N c2:Nat) (w:World) (hb:hdOk o m N=false):
  Calls Tryz.prog 16 #[.agg #[.int .i64 o,.int .i64 m,.bool nt,.slice a2 N c2]] w fun e w'=>e= .returned (.bool false)∧Below w.heap.size w w':=by
 by_cases h1:o<1
 ·have d1:=decide_eq_true h1
  clear hb
  have K:=Lib.hid ((Below.refl w.heap.size w).alloc (Nat.le_refl _) (.cells #[.int .i64 o,.int .i64 m,.bool nt,.slice a2 N c2] 52))
  go_enter Tryz.func16,Tryz.ntmps16
  go_wp2_with fail
  go_big_quiet (fail)
  go_wp2
  go_ret
  exact⟨rfl,below_drewN K.out _⟩
 by_cases h2:6<o
 ·have d1:=decide_eq_false h1
  have d2:=decide_eq_true h2
  clear hb
  have K:=Lib.hid ((Below.refl w.heap.size w).alloc (Nat.le_refl _) (.cells #[.int .i64 o,.int .i64 m,.bool nt,.slice a2 N c2] 52))
  go_enter Tryz.func16,Tryz.ntmps16
  go_wp2_with fail
  go_big_quiet (fail)
  go_wp2
  go_ret
  exact⟨rfl,below_drewN K.out _⟩
 by_cases hm:m=0
 ·have dm:(m==0)=true:=by rw [beq_iff_eq];exact hm
  have dm':(m != 0)=false:=by rw [bne_eq_false_iff_eq];exact hm
  have d1:=decide_eq_false h1
  have d2:=decide_eq_false h2
  have hb2:(decide (0<N)&&decide (N≤4))=false:=by
   unfold hdOk at hb
   rw [decide_eq_true (by omega:1≤o),decide_eq_true (by omega:o≤6),show okMod o m=true by unfold okMod;rw [if_pos hm]] at hb
   simpa using hb
  clear hb
  have K:=Lib.hid ((Below.refl w.heap.size w).alloc (Nat.le_refl _) (.cells #[.int .i64 o,.int .i64 m,.bool nt,.slice a2 N c2] 52))
  by_cases h3:N=0
  ·subst h3
   have d3:decide (((0:Nat):Int)<1)=true:=rfl
   clear hb2 hm
   go_enter Tryz.func16,Tryz.ntmps16
   go_wp2_with fail
   go_big_quiet (fail)
   go_wp2
   go_ret
   exact⟨rfl,below_drewN K.out _⟩
  ·have h4:4<N:=by
    rcases Nat.lt_or_ge 4 N with h|h
    ·exact h
    ·exfalso
     rw [decide_eq_true (by omega:0<N),decide_eq_true h] at hb2
     cases hb2
   have d3:decide ((N:Int)<1)=false:=decide_eq_false (by omega)
   have d3':decide (N<1)=false:=decide_eq_false (by omega)
   have d4:decide ((4:Int)<(N:Int))=true:=decide_eq_true (by omega)
   have d4':decide (4<N)=true:=decide_eq_true h4
   clear hb2 hm
   go_enter Tryz.func16,Tryz.ntmps16
   go_wp2_with fail
   go_big_quiet (fail)
   go_wp2
   go_ret
   exact⟨rfl,below_drewN K.out _⟩
 ·cases hx:okMod o m with
  |false=>exact proper_noMod o m nt a2 N c2 w h1 h2 hm hx
  |true=>
   by_cases h3:N=0
   ·exact proper_noSpan o m nt a2 N c2 w h1 h2 hm hx h3
   ·refine proper_manySpans o m nt a2 N c2 w h1 h2 hm hx ?_
    unfold hdOk at hb
    rw [decide_eq_true (by omega:1≤o),decide_eq_true (by omega:o≤6),hx,decide_eq_true (by omega:0<N)] at hb
    rcases Nat.lt_or_ge 4 N with h|h
    ·exact h
    ·rw [decide_eq_true h] at hb
     cases hb
set_option maxRecDepth 1000000 in
set_option maxHeartbeats 8000000 in
theorem proper_any (r:Rel) (a2:Option Addr) (c2:Nat) (w:World) (hr:Rd 2 encP w (.slice a2 r.sp.length c2) r.sp):
  Calls Tryz.prog 16 #[.agg #[.int .i64 r.op,.int .i64 r.md,.bool r.nt,.slice a2 r.sp.length c2]] w fun e w'=>e= .returned (.bool (okR r))∧Below w.heap.size w w':=by
 obtain⟨o,m,nt,sp⟩:=r
 dsimp only at hr ⊢
 have HX:=Lib.hid (okR_hd o m nt sp)
 cases hhd:hdOk o m sp.length with
 |false=>
  refine(proper_bad o m nt a2 sp.length c2 w hhd).mono ?_
  rintro e w' ⟨rfl,b⟩
  exact⟨by rw [HX.out,hhd];rfl,b⟩
 |true=>
  have HY:Hid (okR ⟨o,m,nt,sp⟩=sp.all (okSp o)):=Lib.hid (by rw [HX.out,hhd];rfl)
  have HH:(1≤o∧o≤6)∧okMod o m=true∧0<sp.length∧sp.length≤4:=by
   unfold hdOk at hhd
   simp only [Bool.and_eq_true,decide_eq_true_eq] at hhd
   exact⟨hhd.1.1.1,hhd.1.1.2,hhd.1.2,hhd.2⟩
  obtain⟨⟨h1,h2⟩,hx,h3,h4⟩:=HH
  have K:=Lib.hid ((Below.refl w.heap.size w).alloc (Nat.le_refl _) (.cells #[.int .i64 o,.int .i64 m,.bool nt,.slice a2 sp.length c2] 52))
  have KB:=Lib.hid (Blk.new w 52 #[.int .i64 o,.int .i64 m,.bool nt,.slice a2 sp.length c2])
  have HR:=Lib.hid (hr.below K.out)
  clear hr hhd HX
  obtain⟨N,hN⟩:∃ N,sp.length=N:=⟨_,rfl⟩
  have HN:=Lib.hid hN
  rw [hN] at K KB HR h3 h4 ⊢
  clear hN
  obtain⟨w1,hw1⟩:∃ w1,w.alloc (.cells #[.int .i64 o,.int .i64 m,.bool nt,.slice a2 N c2] 52)=w1:=⟨_,rfl⟩
  have d1:=decide_eq_false (show ¬ o<1 by omega)
  have d2:=decide_eq_false (show ¬ 6<o by omega)
  have d3:decide ((N:Int)<1)=false:=decide_eq_false (by omega)
  have d3':decide (N<1)=false:=decide_eq_false (by omega)
  have d4:decide ((4:Int)<(N:Int))=false:=decide_eq_false (by omega)
  have d4':decide (4<N)=false:=decide_eq_false (by omega)
  go_enter Tryz.func16,Tryz.ntmps16
  go_upto_region 1 with fail
  rw [hw1] at K KB HR
  try rw [hw1]
  clear hw1
  have HCE:Hid (∀ wx,Below w1.heap.size w1 wx→wx.cell? ⟨w.heap.size,0,none⟩=some (.int .i64 o)∧wx.cell? ⟨w.heap.size,1,none⟩=some (.int .i64 m)∧wx.cell? ⟨w.heap.size,3,none⟩=some (.slice a2 N c2)):=Lib.hid (fun wx hb=>⟨(KB.out.below hb).cell 0,(KB.out.below hb).cell 1,(KB.out.below hb).cell 3⟩)
  obtain⟨k0,k1,k3⟩:=HCE.out w1 (Below.refl _ _)
  go_cut [38] from 5 to 38 (fun v38 wx=>v38= .bool false∧Below w1.heap.size w1 wx)
  case first=>
   by_cases hm:m=0
   ·have dm:(m==0)=true:=by rw [beq_iff_eq];exact hm
    have dm':(m != 0)=false:=by rw [bne_eq_false_iff_eq];exact hm
    clear hm hx
    go_big_quiet (fail)
    go_wp2_with fail
    go_meet
    exact⟨rfl,below_drewN (Below.refl _ _) _⟩
   ·have dm:(m==0)=false:=by rw [beq_eq_false_iff_ne];exact hm
    have dm':(m != 0)=true:=by rw [bne_iff_ne];exact hm
    have HMO:=Lib.hid (mods_ok (o:=o) (m:=m) (by omega) (by omega) hm)
    rw [hx] at HMO
    clear hm hx
    go_region_held3 (fun wx=>wx.cell? ⟨w.heap.size,0,none⟩=some (.int .i64 o)∧wx.cell? ⟨w.heap.size,1,none⟩=some (.int .i64 m)∧wx.cell? ⟨w.heap.size,3,none⟩=some (.slice a2 N c2)) (first|exact HCE.out _ B5|exact HCE.out _ (Below.refl _ _).drew) (first|(go_at_call 38;refine(mods_any o _).mono ?_;rintro e w5 ⟨⟨v5,rfl,r5⟩,b5⟩;have B5:Below w1.heap.size w1 w5:=(Below.refl _ w1).drew.trans b5;have R5:=Lib.hid r5;clear b5 r5)|(go_at_call 37;refine(has_any _ _ m _ R5.out).mono ?_;rw [HMO.out];rintro e w' ⟨rfl,hw'⟩;obtain rfl:=hw'.symm))
    all_goals
     go_wp2_with fail
     go_meet
     exact⟨rfl,B5⟩
  case rest=>
   obtain⟨rfl,hwc⟩:=hcut
   rename World=>wc
   have HWC:=Lib.hid hwc
   clear hwc hx k0 k1 k3 d1 d2 d3 d3' d4 d4'
   go_upto_if 38 with fail
   go_wp2_with fail
   go_loopw [3] (fun v3 wr=>∃ k:Nat,k≤sp.length∧v3= .int .i64 k∧(∀(j:Nat) (hj:j<sp.length),j<k→okSp o sp[j]=true)∧Below w1.heap.size w1 wr) (fun v3 _=>sp.length - (intOf v3).toNat)
   case atStart=>exact⟨0,Nat.zero_le _,rfl,fun j _ h=>by omega,HWC.out⟩
   case round=>
    obtain⟨k,hk,rfl,hkd,hb⟩:=hrel
    have HK:=Lib.hid hkd
    have HB:=Lib.hid hb
    have zr:=hb.size
    obtain⟨q0,q1,q3⟩:=HCE.out wr hb
    clear hkd hb
    by_cases hlt:k<sp.length
    ·obtain⟨bk,off,rfl,g0,g1⟩:=(HR.out.below HB.out).span k hlt
     have h9:(k:Int)<(N:Int):=by have:=HN.out;omega
     have HE:=Lib.hid (okSp_eq o sp[k])
     have HBAD:=Lib.hid (all_bad (q:=okSp o) hlt)
     obtain⟨⟨x,y⟩,hxy⟩:∃ s,sp[k]=s:=⟨_,rfl⟩
     have HXY:=Lib.hid hxy
     rw [hxy] at g0 g1 HE HBAD
     dsimp only at g0 g1 HE
     clear hxy
     have B6:=Lib.hid (HB.out.alloc zr (.cells #[.int .i64 x,.int .i64 y] 84))
     have p0:(wr.alloc (.cells #[.int .i64 x,.int .i64 y] 84)).cell? ⟨w.heap.size,0,none⟩=some (.int .i64 o):=(HCE.out _ B6.out).1
     by_cases hx0:x<0
     ·have e1:=decide_eq_true hx0
      have HV:Hid (okR ⟨o,m,nt,sp⟩=false):=Lib.hid (by rw [HY.out];exact HBAD.out (by rw [HE.out,e1];rfl))
      clear hx0
      go_wp2_with fail
      go_big_quiet (fail)
      go_wp2
      go_ret
      exact⟨by rw [HV.out];rfl,K.out.trans (below_drewN (B6.out.mono K.out.size) _)⟩
     have e1:=decide_eq_false hx0
     by_cases hyx:y<x
     ·have e2:=decide_eq_true hyx
      have HV:Hid (okR ⟨o,m,nt,sp⟩=false):=Lib.hid (by rw [HY.out];exact HBAD.out (by rw [HE.out,e1,e2];rfl))
      clear hx0 hyx
      go_wp2_with fail
      go_big_quiet (fail)
      go_wp2
      go_ret
      exact⟨by rw [HV.out];rfl,K.out.trans (below_drewN (B6.out.mono K.out.size) _)⟩
     have e2:=decide_eq_false hyx
     have HE2:Hid (okSp o (x,y)= !decide (bnd o<y)):=Lib.hid (by rw [HE.out,e1,e2];rfl)
     obtain⟨bd,hbd⟩:∃ bd,bnd o=bd:=⟨_,rfl⟩
     have HBC:Hid (∀ wx,Calls Tryz.prog 39 #[.int .i64 o] wx fun e w'=>e= .returned (.int .i64 bd)∧w'=wx):=Lib.hid (fun wx=>(bound_any o wx).mono (fun _ _ h=>⟨by rw [←hbd];exact h.1,h.2⟩))
     rw [hbd] at HE2
     clear hbd hx0 hyx
     by_cases hyb:bd<y
     ·have e3:=decide_eq_true hyb
      have HV:Hid (okR ⟨o,m,nt,sp⟩=false):=Lib.hid (by rw [HY.out];exact HBAD.out (by rw [HE2.out,e3];rfl))
      clear hyb
      go_wp2_with fail
      go_quiet ((go_at_call 39;exact Calls.quiet_of_same (HBC.out _)))
      go_wp2
      go_ret
      exact⟨by rw [HV.out];rfl,K.out.trans (below_drewN (B6.out.mono K.out.size) _)⟩
     ·have e3:=decide_eq_false hyb
      have HG:Hid (okSp o (x,y)=true):=Lib.hid (by rw [HE2.out,e3];rfl)
      clear hyb
      go_wp2_with fail
      go_quiet ((go_at_call 39;exact Calls.quiet_of_same (HBC.out _)))
      go_wp2
      go_roundw
      case measure=>simp [intOf];have:=HN.out;omega
      case rel=>exact⟨k+1,by omega,by go_num,fun j hj hjk=>by
       rcases Nat.lt_or_ge j k with h|h
       ·exact HK.out j hj h
       ·obtain rfl:j=k:=by omega
        rw [HXY.out];exact HG.out,below_drewN B6.out _⟩
    ·obtain rfl:k=sp.length:=by omega
     have h3:¬ (sp.length:Int)<(N:Int):=by have:=HN.out;omega
     have HV:Hid (okR ⟨o,m,nt,sp⟩=true):=Lib.hid (by rw [HY.out];exact all_good HK.out)
     go_wp2
     go_ret
     exact⟨by rw [HV.out];rfl,K.out.trans (HB.out.mono K.out.size)⟩
end Go.Proofs.YtobapaodpcheiaaGreatDoor
