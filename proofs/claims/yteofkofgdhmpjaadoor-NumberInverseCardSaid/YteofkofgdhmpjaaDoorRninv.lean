/- The row of NumberInverse, from its walk: for every input the law returns true, and each argument reads afterwards as it read before. No further condition. -/
import Derived.Test.YteofkofgdhmpjaaDoorRows
import Derived.Test.YteofkofgdhmpjaaDoorNwf
import Derived.Test.YteofkofgdhmpjaaDoorNwz
import Derived.Test.YteofkofgdhmpjaaDoorCards
import Derived.Test.YteofkofgdhmpjaaDoorTie
import Derived.SevenTiedAt
import Derived.LaidMore
import Derived.Stop.Joined
import Derived.WalkKit
import Derived.ProofKit
import Derived.OpenShut
import Derived.ShutString
import Derived.ChangeOld
import Derived.Below
namespace Go.Proofs.YteofkofgdhmpjaaDoor.numberInverse
open Go.ChangeShapes Go.WideShapes Go.ChangeAt Go.RowKit
open Go.ChangeMaps (open_string shut_string)
set_option linter.unusedVariables false
theorem own : ownKnob Tryd.prog.godebug = none := by kernel_rfl
theorem laidOut : laidOutB Tryd.prog = true := by kernel_rfl
set_option maxRecDepth 100000 in
theorem lifted (os : Os) (started : os.Started) (H : Type) (enc : TypeId × Value → H) :
    ReturnsInHanded {} Tryd.checked os 4 .any (fun w args => (Rows.numberInverseSpec.pre enc Tryd.prog Tryd.f4 [] false w args ∧ laidMetH Tryd.prog laidL w) ∧ sizedMet enc Tryd.prog Tryd.f4 (OpenSpec.ofChange Rows.numberInverseSpec) false w args) (Rows.numberInverseSpec.post enc Tryd.prog Tryd.f4 false true false false) := by
  refine handed_laid (C := Tryd.checked) (X := fun w _ => laidMetH Tryd.prog laidL w) (fun _ _ _ hh h => h.of_heap hh) own started (by kernel_rfl) Tryd.func4
    (ChangeSpec.witness_shaped (enc := enc) (C := Tryd.checked) (os := os) (X := fun w _ => laidMetH Tryd.prog laidL w) false (World.laidAll Tryd.prog os laidL) #[.agg #[.string ByteArray.empty, .string ByteArray.empty, .string ByteArray.empty, .string ByteArray.empty, .int .i64 0, .int .i64 0], .string ByteArray.empty] 8 (World.laidAll_os _ _ _) (door_shaped os _) (by kernel_rfl) (by kernel_rfl) (by kernel_rfl) (door_met os _)) ?_
  intro W base args ds gs before hval0 hW hcnd hsz hsh hL _
  have hval : ∀ (j : Nat) t v, Tryd.f4.params[j]? = some t → args[j]? = some v → Value.okWide Tryd.prog W .any base t v := hval0
  have hW' := hW
  obtain ⟨p, q, hA0, hV, rfl, hfz, hnd⟩ := hW
  have hA : DataW.TrodAll enc Tryd.prog W 0 (fun _ => true) true Tryd.f4.params.toList args.toList ds p := hA0
  rw [Tryd.params4] at hA hval
  obtain ⟨v0, vs0, d0, ds0, p0, q0, hargs, rfl, rfl, h0, r0⟩ := trodAll_cons hA
  obtain ⟨v1, vs1, d1, ds1, p1, q1, rfl, rfl, rfl, h1, r1⟩ := trodAll_cons r0
  obtain ⟨rfl, rfl, rfl⟩ := trodAll_nil r1
  obtain rfl : args = #[v0, v1] := by cases args; simp_all
  obtain ⟨rfl, rfl⟩ := trodVars_none hV
  have k0 := h0
  have lt0 : ∀ x ∈ p0, x.block < W.heap.size := by obtain ⟨m, hm⟩ := k0; exact DataW.trod_lt m _ _ _ hm
  obtain ⟨z0, rfl, w0⟩ := symArg_of (hval 0 23 v0 rfl rfl) h0
  obtain ⟨a1, rfl, rfl, rfl, w1⟩ := open_string Tryd.underlying9 (hval 1 9 v1 rfl rfl) h1
  clear hA0 hval0
  refine (numberInverse_in z0 a1 W w0 w1 (env_of hsh)).mono fun e W' ⟨he, bel⟩ => ?_
  subst he
  exact ⟨_, rfl, _, _, _, [], _, [], hW', trodAll_mk1 (shut_bool Tryd.underlying4 _), (trodAll_cons_mk (Below.trod laidOut (by kernel_rfl) (of_decide_eq_true (by kernel_rfl)) k0 bel lt0) (trodAll_cons_mk (shut_string Tryd.underlying9 w1) trodAll_mk0)), rfl, bel.frame _, fun h => by cases h⟩

set_option maxRecDepth 100000 in
theorem closedF : joinedFacts Tryd.pinned.checked.prog 4 Tryd.f4 Rows.numberInverseSpec Rows.numberInverseRow = true := by kernel_rfl
theorem nameF : Tryd.pinned.checked.prog.funcNamed Rows.numberInverseRow.func = some 4 := by kernel_rfl
theorem instF : Tryd.f4.isInstance Tryd.pinned.checked.prog Rows.numberInverseRow.origin Rows.numberInverseRow.targs := of_decide_eq_true (by kernel_rfl)
theorem wrapF : Tryd.f4.isWrapper Tryd.pinned.checked.prog Rows.numberInverseRow.wrapper Rows.numberInverseRow.mainSum := by unfold Func.isWrapper; first | (rw [if_pos (by decide +kernel)]; kernel_rfl) | (rw [if_neg (by decide +kernel)]; exact ⟨rfl, rfl⟩)
theorem over : Rows.numberInverseRow.holds Tryd.pinned (OpenSpec.ofChange Rows.numberInverseSpec) :=
  OpenClaim.holds_of_wide 4 Tryd.f4 rfl rfl rfl rfl rfl rfl rfl ⟨rfl, rfl, rfl, rfl, rfl⟩ rfl rfl rfl rfl rfl nameF Tryd.func4 closedF instF wrapF
    (fun os started H enc _ => lifted os started H enc)
theorem textF : Rows.numberInverseRow.wfByText (OpenSpec.ofChange Rows.numberInverseSpec) = true := by kernel_rfl
theorem looksF : Rows.numberInverseCard.stood.looks = Tryd.pinned.checked.prog.looks [] := by kernel_rfl
theorem goesF : false = Rows.numberInverseRow.goesBy Tryd.pinned.checked.prog := by kernel_rfl
theorem mainF : Tryd.pinned.checked.prog.mainIs = some (Rows.numberInverseCard.stood.harness.1, Rows.numberInverseCard.stood.harness.2.toList) := by kernel_rfl
theorem proved : Rows.NumberInverseCardSaid :=
  Claim7.holds_tied_plain_at .later [] [.data, .pinned] true Rows.numberInverseCard.stood.harness Rows.numberInverseCard.stood.looks
    over (fun _ h => by cases h) textF (fun _ h => by cases h) numberInverse_row_tie rfl ⟨rfl, rfl⟩ mainF rfl
    (fun f fn hf hfn => by
      obtain rfl : f = 4 := Option.some.inj (nameF.symm.trans hf) |>.symm
      obtain rfl : fn = Tryd.f4 := (Option.some.inj (Tryd.func4.symm.trans hfn)).symm
      exact ⟨looksF, fun j t ht => by
        rw [Tryd.params4] at ht
        have hm : t ∈ [23, 9] := by simpa using Array.mem_of_getElem? ht
        have hall : ([23, 9].all fun u => !Tryd.prog.wantsStandIn u) = true := by kernel_rfl
        exact (show Tryd.prog.wantsStandIn t = false by simpa using List.all_eq_true.1 hall t hm)⟩)
    goesF
#print axioms proved
end Go.Proofs.YteofkofgdhmpjaaDoor.numberInverse
