/- The row of DecideAccepts, from its walk: for every input the law returns true, and each argument reads afterwards as it read before. No further condition. -/
import Derived.Test.YtobapaodpcheiaaGreatDoorRows
import Derived.Test.YtobapaodpcheiaaGreatDoorCards
import Derived.Test.YtobapaodpcheiaaGreatDoorTie
import Derived.SevenTiedAt
import Derived.LaidMore
import Derived.Stop.Joined
import Derived.WalkKit
import Derived.ProofKit
import Derived.OpenShut
import Derived.ShutString
import Derived.ChangeOld
import Derived.Below
import Derived.Test.YtobapaodpcheiaaGreatDoorQ31
namespace Go.Proofs.YtobapaodpcheiaaGreatDoor.decideAccepts
open Go.ChangeShapes Go.WideShapes Go.ChangeAt Go.RowKit
open Go.ChangeMaps (open_string shut_string)
set_option linter.unusedVariables false
theorem own:ownKnob Tryz.prog.godebug=none:=by kernel_rfl
theorem laidOut:laidOutB Tryz.prog=true:=by kernel_rfl
set_option maxRecDepth 100000 in
theorem lifted (os:Os) (started:os.Started) (H:Type) (enc:TypeId × Value→H):
  ReturnsInHanded {} Tryz.checked os 3 .any (fun w args=>(Rows.decideAcceptsSpec.pre enc Tryz.prog Tryz.f3 [] false w args∧laidMetH Tryz.prog laidL w)∧sizedMet enc Tryz.prog Tryz.f3 (OpenSpec.ofChange Rows.decideAcceptsSpec) false w args) (Rows.decideAcceptsSpec.post enc Tryz.prog Tryz.f3 false true false false):=by
 refine handed_laid (C:=Tryz.checked) (X:=fun w _=>laidMetH Tryz.prog laidL w) (fun _ _ _ hh h=>h.of_heap hh) own started (by kernel_rfl) Tryz.func3
  (ChangeSpec.witness_shaped (enc:=enc) (C:=Tryz.checked) (os:=os) (X:=fun w _=>laidMetH Tryz.prog laidL w) false (World.laidAll Tryz.prog os laidL) #[.slice none 0 0,.string ByteArray.empty,.int .u8 0] 8 (World.laidAll_os _ _ _) (door_shaped os _) (by kernel_rfl) (by kernel_rfl) (by kernel_rfl) (door_met os _)) ?_
 intro W base args ds gs before hval0 hW hcnd hsz hsh hL _
 have hval:∀(j:Nat) t v,Tryz.f3.params[j]? =some t→args[j]? =some v→Value.okWide Tryz.prog W .any base t v:=hval0
 have hW':=hW
 obtain⟨p,q,hA0,hV,rfl,hfz,hnd⟩:=hW
 have hA:DataW.TrodAll enc Tryz.prog W 0 (fun _=>true) true Tryz.f3.params.toList args.toList ds p:=hA0
 rw [Tryz.params3] at hA hval
 obtain⟨v0,vs0,d0,ds0,p0,q0,hargs,rfl,rfl,h0,r0⟩:=trodAll_cons hA
 obtain⟨v1,vs1,d1,ds1,p1,q1,rfl,rfl,rfl,h1,r1⟩:=trodAll_cons r0
 obtain⟨v2,vs2,d2,ds2,p2,q2,rfl,rfl,rfl,h2,r2⟩:=trodAll_cons r1
 obtain⟨rfl,rfl,rfl⟩:=trodAll_nil r2
 obtain rfl:args= #[v0,v1,v2]:=by cases args;simp_all
 obtain⟨rfl,rfl⟩:=trodVars_none hV
 obtain⟨a0,len0,cap0,rfl⟩:=okWide_slice Tryz.underlying23 (hval 0 23 v0 rfl rfl)
 have k0:=h0
 have lt0:∀ x∈p0,x.block<W.heap.size:=by obtain⟨m,hm⟩:=k0;exact DataW.trod_lt m _ _ _ hm
 obtain⟨z0,w0,l0⟩:∃ c:Cnd,RdC W (.slice a0 len0 cap0) c∧∀ l∈c,l.length≤140737488355328:=by
  obtain⟨fuel,hf⟩:=h0
  obtain⟨z,c,hcs,hz,hl⟩:=condIn_of hf (fun k hk=>by have:=List.all_eq_true.1 hsz k (DataW.weights_mem_each (j:=0) (t:=23) (d:=d0) (by kernel_rfl) rfl k hk);simpa using this)
  simp [Value.cells] at hcs
  obtain⟨rfl,rfl,rfl⟩:=hcs
  exact⟨c,hz,hl⟩
 obtain⟨a1,rfl,rfl,rfl,w1⟩:=open_string Tryz.underlying9 (hval 1 9 v1 rfl rfl) h1
 obtain⟨a2,rfl,rfl,rfl,w2⟩:=open_int Tryz.underlying5 (hval 2 5 v2 rfl rfl) h2
 clear hA0 hval0
 refine(decideAccepts_in z0 _ a1 a2 W w0 l0 w1 w2 (env_of hsh)).mono fun e W' ⟨he,bel⟩=>?_
 subst he
 exact⟨_,rfl,_,_,_,[],_,[],hW',trodAll_mk1 (shut_bool Tryz.underlying4 _),(trodAll_cons_mk (Below.trod laidOut (by kernel_rfl) (of_decide_eq_true (by kernel_rfl)) k0 bel lt0) (trodAll_cons_mk (shut_string Tryz.underlying9 w1) (trodAll_cons_mk (shut_int Tryz.underlying5 w2) trodAll_mk0))),rfl,bel.frame _,fun h=>by cases h⟩
set_option maxRecDepth 100000 in
theorem closedF:joinedFacts Tryz.pinned.checked.prog 3 Tryz.f3 Rows.decideAcceptsSpec Rows.decideAcceptsRow=true:=by kernel_rfl
theorem nameF:Tryz.pinned.checked.prog.funcNamed Rows.decideAcceptsRow.func=some 3:=by kernel_rfl
theorem instF:Tryz.f3.isInstance Tryz.pinned.checked.prog Rows.decideAcceptsRow.origin Rows.decideAcceptsRow.targs:=of_decide_eq_true (by kernel_rfl)
theorem wrapF:Tryz.f3.isWrapper Tryz.pinned.checked.prog Rows.decideAcceptsRow.wrapper Rows.decideAcceptsRow.mainSum:=by unfold Func.isWrapper;first|(rw [if_pos (by decide+kernel)];kernel_rfl)|(rw [if_neg (by decide+kernel)];exact⟨rfl,rfl⟩)
theorem over:Rows.decideAcceptsRow.holds Tryz.pinned (OpenSpec.ofChange Rows.decideAcceptsSpec):=
 OpenClaim.holds_of_wide 3 Tryz.f3 rfl rfl rfl rfl rfl rfl rfl ⟨rfl,rfl,rfl,rfl,rfl⟩ rfl rfl rfl rfl rfl nameF Tryz.func3 closedF instF wrapF
  (fun os started H enc _=>lifted os started H enc)
theorem textF:Rows.decideAcceptsRow.wfByText (OpenSpec.ofChange Rows.decideAcceptsSpec)=true:=by kernel_rfl
theorem looksF:Rows.decideAcceptsCard.stood.looks=Tryz.pinned.checked.prog.looks []:=by kernel_rfl
theorem goesF:false=Rows.decideAcceptsRow.goesBy Tryz.pinned.checked.prog:=by kernel_rfl
theorem mainF:Tryz.pinned.checked.prog.mainIs=some (Rows.decideAcceptsCard.stood.harness.1,Rows.decideAcceptsCard.stood.harness.2.toList):=by kernel_rfl
theorem proved:Rows.DecideAcceptsCardSaid:=
 Claim7.holds_tied_plain_at .later [] [.data,.pinned] true Rows.decideAcceptsCard.stood.harness Rows.decideAcceptsCard.stood.looks
  over (fun _ h=>by cases h) textF (fun _ h=>by cases h) decideAccepts_row_tie rfl ⟨rfl,rfl⟩ mainF rfl
  (fun f fn hf hfn=>by
   obtain rfl:f=3:=Option.some.inj (nameF.symm.trans hf) |>.symm
   obtain rfl:fn=Tryz.f3:=(Option.some.inj (Tryz.func3.symm.trans hfn)).symm
   exact⟨looksF,fun j t ht=>by
    rw [Tryz.params3] at ht
    have hm:t∈ [23,9,5]:=by simpa using Array.mem_of_getElem? ht
    have hall:([23,9,5].all fun u=>!Tryz.prog.wantsStandIn u)=true:=by kernel_rfl
    exact(show Tryz.prog.wantsStandIn t=false by simpa using List.all_eq_true.1 hall t hm)⟩)
  goesF
#print axioms proved
end Go.Proofs.YtobapaodpcheiaaGreatDoor.decideAccepts
