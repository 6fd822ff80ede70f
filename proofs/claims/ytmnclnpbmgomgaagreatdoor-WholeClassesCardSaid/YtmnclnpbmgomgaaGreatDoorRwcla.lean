/- The row of WholeClasses, from its walk: for every input the law returns true, and each argument reads afterwards as it read before. No further condition. -/
import Derived.Test.YtmnclnpbmgomgaaGreatDoorRows
import Derived.Test.YtmnclnpbmgomgaaGreatDoorCards
import Derived.Test.YtmnclnpbmgomgaaGreatDoorTie
import Derived.SevenTiedAt
import Derived.LaidMore
import Derived.Stop.Joined
import Derived.WalkKit
import Derived.ProofKit
import Derived.OpenShut
import Derived.ShutString
import Derived.ChangeOld
import Derived.Below
import Derived.Test.YtmnclnpbmgomgaaGreatDoorQ32
namespace Go.Proofs.YtmnclnpbmgomgaaGreatDoor.wholeClasses
open Go.ChangeShapes Go.WideShapes Go.ChangeAt Go.RowKit
open Go.ChangeMaps (open_string shut_string)
set_option linter.unusedVariables false
theorem own:ownKnob Tryz.prog.godebug=none:=by kernel_rfl
theorem laidOut:laidOutB Tryz.prog=true:=by kernel_rfl
set_option maxRecDepth 100000 in
theorem lifted (os:Os) (started:os.Started) (H:Type) (enc:TypeId × Value→H):
  ReturnsInHanded {} Tryz.checked os 9 .any (fun w args=>(Rows.wholeClassesSpec.pre enc Tryz.prog Tryz.f9 [] false w args∧laidMetH Tryz.prog laidL w)∧sizedMet enc Tryz.prog Tryz.f9 (OpenSpec.ofChange Rows.wholeClassesSpec) false w args) (Rows.wholeClassesSpec.post enc Tryz.prog Tryz.f9 false true false false):=by
 refine handed_laid (C:=Tryz.checked) (X:=fun w _=>laidMetH Tryz.prog laidL w) (fun _ _ _ hh h=>h.of_heap hh) own started (by kernel_rfl) Tryz.func9
  (ChangeSpec.witness_shaped (enc:=enc) (C:=Tryz.checked) (os:=os) (X:=fun w _=>laidMetH Tryz.prog laidL w) false (World.laidAll Tryz.prog os laidL) #[.slice none 0 0,.string ByteArray.empty] 8 (World.laidAll_os _ _ _) (door_shaped os _) (by kernel_rfl) (by kernel_rfl) (by kernel_rfl) (door_met os _)) ?_
 intro W base args ds gs before hval0 hW hcnd hsz hsh hL _
 have hval:∀(j:Nat) t v,Tryz.f9.params[j]? =some t→args[j]? =some v→Value.okWide Tryz.prog W .any base t v:=hval0
 have hW':=hW
 obtain⟨p,q,hA0,hV,rfl,hfz,hnd⟩:=hW
 have hA:DataW.TrodAll enc Tryz.prog W 0 (fun _=>true) true Tryz.f9.params.toList args.toList ds p:=hA0
 rw [Tryz.params9] at hA hval
 obtain⟨v0,vs0,d0,ds0,p0,q0,hargs,rfl,rfl,h0,r0⟩:=trodAll_cons hA
 obtain⟨v1,vs1,d1,ds1,p1,q1,rfl,rfl,rfl,h1,r1⟩:=trodAll_cons r0
 obtain⟨rfl,rfl,rfl⟩:=trodAll_nil r1
 obtain rfl:args= #[v0,v1]:=by cases args;simp_all
 obtain⟨rfl,rfl⟩:=trodVars_none hV
 obtain⟨a0,len0,cap0,rfl⟩:=okWide_slice Tryz.underlying22 (hval 0 22 v0 rfl rfl)
 have k0:=h0
 have lt0:∀ x∈p0,x.block<W.heap.size:=by obtain⟨m,hm⟩:=k0;exact DataW.trod_lt m _ _ _ hm
 obtain⟨z0,w0,l0⟩:∃ c:Rus,RdRus W (.slice a0 len0 cap0) c∧RusR c:=by
  obtain⟨fuel,hf⟩:=h0
  obtain⟨z,c,hcs,hz,hl⟩:=rules14_in hf (fun k hk=>by have:=List.all_eq_true.1 hsz k (DataW.weights_mem_each (j:=0) (t:=22) (d:=d0) (by kernel_rfl) rfl k hk);simpa using this)
  simp [Value.cells] at hcs
  obtain⟨rfl,rfl,rfl⟩:=hcs
  exact⟨c,hz,hl⟩
 obtain⟨a1,rfl,rfl,rfl,w1⟩:=open_string Tryz.underlying9 (hval 1 9 v1 rfl rfl) h1
 clear hA0 hval0
 refine(wholeClasses_in z0 _ a1 W w0 l0 w1 ⟨clG_of hL,maxL_of hsh⟩).mono fun e W' ⟨he,bel⟩=>?_
 subst he
 exact⟨_,rfl,_,_,_,[],_,[],hW',trodAll_mk1 (shut_bool Tryz.underlying4 _),(trodAll_cons_mk (Below.trod laidOut (by kernel_rfl) (of_decide_eq_true (by kernel_rfl)) k0 bel lt0) (trodAll_cons_mk (shut_string Tryz.underlying9 w1) trodAll_mk0)),rfl,bel.frame _,fun h=>by cases h⟩
set_option maxRecDepth 100000 in
theorem closedF:joinedFacts Tryz.pinned.checked.prog 9 Tryz.f9 Rows.wholeClassesSpec Rows.wholeClassesRow=true:=by kernel_rfl
theorem nameF:Tryz.pinned.checked.prog.funcNamed Rows.wholeClassesRow.func=some 9:=by kernel_rfl
theorem instF:Tryz.f9.isInstance Tryz.pinned.checked.prog Rows.wholeClassesRow.origin Rows.wholeClassesRow.targs:=of_decide_eq_true (by kernel_rfl)
theorem wrapF:Tryz.f9.isWrapper Tryz.pinned.checked.prog Rows.wholeClassesRow.wrapper Rows.wholeClassesRow.mainSum:=by unfold Func.isWrapper;first|(rw [if_pos (by decide+kernel)];kernel_rfl)|(rw [if_neg (by decide+kernel)];exact⟨rfl,rfl⟩)
theorem over:Rows.wholeClassesRow.holds Tryz.pinned (OpenSpec.ofChange Rows.wholeClassesSpec):=
 OpenClaim.holds_of_wide 9 Tryz.f9 rfl rfl rfl rfl rfl rfl rfl ⟨rfl,rfl,rfl,rfl,rfl⟩ rfl rfl rfl rfl rfl nameF Tryz.func9 closedF instF wrapF
  (fun os started H enc _=>lifted os started H enc)
theorem textF:Rows.wholeClassesRow.wfByText (OpenSpec.ofChange Rows.wholeClassesSpec)=true:=by kernel_rfl
theorem looksF:Rows.wholeClassesCard.stood.looks=Tryz.pinned.checked.prog.looks []:=by kernel_rfl
theorem goesF:false=Rows.wholeClassesRow.goesBy Tryz.pinned.checked.prog:=by kernel_rfl
theorem mainF:Tryz.pinned.checked.prog.mainIs=some (Rows.wholeClassesCard.stood.harness.1,Rows.wholeClassesCard.stood.harness.2.toList):=by kernel_rfl
theorem proved:Rows.WholeClassesCardSaid:=
 Claim7.holds_tied_plain_at .later [] [.data,.data,.pinned] true Rows.wholeClassesCard.stood.harness Rows.wholeClassesCard.stood.looks
  over (fun _ h=>by cases h) textF (fun _ h=>by cases h) wholeClasses_row_tie rfl ⟨rfl,rfl⟩ mainF rfl
  (fun f fn hf hfn=>by
   obtain rfl:f=9:=Option.some.inj (nameF.symm.trans hf) |>.symm
   obtain rfl:fn=Tryz.f9:=(Option.some.inj (Tryz.func9.symm.trans hfn)).symm
   exact⟨looksF,fun j t ht=>by
    rw [Tryz.params9] at ht
    have hm:t∈ [22,9]:=by simpa using Array.mem_of_getElem? ht
    have hall:([22,9].all fun u=>!Tryz.prog.wantsStandIn u)=true:=by kernel_rfl
    exact(show Tryz.prog.wantsStandIn t=false by simpa using List.all_eq_true.1 hall t hm)⟩)
  goesF
#print axioms proved
end Go.Proofs.YtmnclnpbmgomgaaGreatDoor.wholeClasses
