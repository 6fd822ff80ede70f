/- The row of TableParts, from its walk: for every input the law returns true, and each argument reads afterwards as it read before. No further condition. -/
import Derived.Test.YtpmmchppfmojhaaGreatDoorRows
import Derived.Test.YtpmmchppfmojhaaGreatDoorCards
import Derived.Test.YtpmmchppfmojhaaGreatDoorTie
import Derived.SevenTiedAt
import Derived.LaidMore
import Derived.Stop.Joined
import Derived.SizedLaws
import Derived.WalkKit
import Derived.ProofKit
import Derived.OpenShut
import Derived.ShutString
import Derived.ChangeOld
import Derived.Below
import Derived.Test.YtpmmchppfmojhaaGreatDoorQ31
namespace Go.Proofs.YtpmmchppfmojhaaGreatDoor.tableParts
open Go.ChangeShapes Go.WideShapes Go.ChangeAt Go.RowKit
open Go.ChangeMaps (open_string shut_string)
set_option linter.unusedVariables false
theorem own : ownKnob Tryz.prog.godebug = none := by kernel_rfl
theorem laidOut : laidOutB Tryz.prog = true := by kernel_rfl
set_option maxRecDepth 100000 in
theorem lifted (os : Os) (started : os.Started) (H : Type) (enc : TypeId × Value → H) :
    ReturnsInHanded {} Tryz.checked os 7 .any (fun w args => (Rows.tablePartsSpec.pre enc Tryz.prog Tryz.f7 [] false w args ∧ laidMetH Tryz.prog laidL w) ∧ sizedMet enc Tryz.prog Tryz.f7 (OpenSpec.ofChange Rows.tablePartsSpec) false w args) (Rows.tablePartsSpec.post enc Tryz.prog Tryz.f7 false true false false) := by
  refine returnsInHanded_of_change_and (C := Tryz.checked) (X := fun w _ => laidMetH Tryz.prog laidL w) (fun _ _ _ hh h => h.of_heap hh) own started (by kernel_rfl) Tryz.func7
    (ChangeSpec.witness_shaped (enc := enc) (C := Tryz.checked) (os := os) (X := fun w _ => laidMetH Tryz.prog laidL w) false (World.laidAll Tryz.prog os laidL) #[.string ByteArray.empty, .string ByteArray.empty] 8 (World.laidAll_os _ _ _) (door_shaped os _) (by kernel_rfl) (by kernel_rfl) (by kernel_rfl) (door_met os _)) ?_
  intro W base args ds gs before hval0 hW hcnd hsz hL _
  have hval : ∀ (j : Nat) t v, Tryz.f7.params[j]? = some t → args[j]? = some v → Value.okWide Tryz.prog W .any base t v := hval0
  have hW' := hW
  obtain ⟨p, q, hA0, hV, rfl, hfz, hnd⟩ := hW
  have hA : DataW.TrodAll enc Tryz.prog W 0 (fun _ => true) true Tryz.f7.params.toList args.toList ds p := hA0
  rw [Tryz.params7] at hA hval
  obtain ⟨v0, vs0, d0, ds0, p0, q0, hargs, rfl, rfl, h0, r0⟩ := trodAll_cons hA
  obtain ⟨v1, vs1, d1, ds1, p1, q1, rfl, rfl, rfl, h1, r1⟩ := trodAll_cons r0
  obtain ⟨rfl, rfl, rfl⟩ := trodAll_nil r1
  obtain rfl : args = #[v0, v1] := by cases args; simp_all
  obtain ⟨rfl, rfl⟩ := trodVars_none hV
  obtain ⟨a0, rfl, rfl, rfl, w0⟩ := open_string Tryz.underlying9 (hval 0 9 v0 rfl rfl) h0
  have y0 : a0.size ≤ 140737488355328 := by have hh1 := List.all_eq_true.1 hsz _ (DataW.weights_mem_each (j := 0) (t := 9) (d := .lit (.string a0.data.toList)) (by kernel_rfl) rfl a0.data.toList.length (by simp [DataW.weights])); have hh2 : a0.data.toList.length ≤ reachBytes := (by simpa using hh1); have hh3 : reachBytes ≤ 140737488355328 := (by decide); have hh4 : a0.data.toList.length = a0.size := (by simp); omega
  obtain ⟨a1, rfl, rfl, rfl, w1⟩ := open_string Tryz.underlying9 (hval 1 9 v1 rfl rfl) h1
  have y1 : a1.size ≤ 140737488355328 := by have hh1 := List.all_eq_true.1 hsz _ (DataW.weights_mem_each (j := 1) (t := 9) (d := .lit (.string a1.data.toList)) (by kernel_rfl) rfl a1.data.toList.length (by simp [DataW.weights])); have hh2 : a1.data.toList.length ≤ reachBytes := (by simpa using hh1); have hh3 : reachBytes ≤ 140737488355328 := (by decide); have hh4 : a1.data.toList.length = a1.size := (by simp); omega
  clear hA0 hval0
  simp only [List.append_nil] at hW'
  refine (tableParts_walk parC a0.data.toList a1.data.toList y0 y1 W (env_of hL)).mono fun e W' ⟨he, bel⟩ => ?_
  subst he
  exact ⟨_, rfl, _, _, _, [], [], [], hW', trodAll_mk1 (shut_bool Tryz.underlying4 _), (trodAll_cons_mk (shut_string Tryz.underlying9 w0) (trodAll_cons_mk (shut_string Tryz.underlying9 w1) trodAll_mk0)), rfl, bel.frame _, fun h => by cases h⟩

set_option maxRecDepth 100000 in
theorem closedF : joinedFacts Tryz.pinned.checked.prog 7 Tryz.f7 Rows.tablePartsSpec Rows.tablePartsRow = true := by kernel_rfl
theorem nameF : Tryz.pinned.checked.prog.funcNamed Rows.tablePartsRow.func = some 7 := by kernel_rfl
theorem instF : Tryz.f7.isInstance Tryz.pinned.checked.prog Rows.tablePartsRow.origin Rows.tablePartsRow.targs := of_decide_eq_true (by kernel_rfl)
theorem wrapF : Tryz.f7.isWrapper Tryz.pinned.checked.prog Rows.tablePartsRow.wrapper Rows.tablePartsRow.mainSum := by unfold Func.isWrapper; first | (rw [if_pos (by decide +kernel)]; kernel_rfl) | (rw [if_neg (by decide +kernel)]; exact ⟨rfl, rfl⟩)
theorem over : Rows.tablePartsRow.holds Tryz.pinned (OpenSpec.ofChange Rows.tablePartsSpec) :=
  OpenClaim.holds_of_wide 7 Tryz.f7 rfl rfl rfl rfl rfl rfl rfl ⟨rfl, rfl, rfl, rfl, rfl⟩ rfl rfl rfl rfl rfl nameF Tryz.func7 closedF instF wrapF
    (fun os started H enc _ => lifted os started H enc)
theorem textF : Rows.tablePartsRow.wfByText (OpenSpec.ofChange Rows.tablePartsSpec) = true := by kernel_rfl
theorem looksF : Rows.tablePartsCard.stood.looks = Tryz.pinned.checked.prog.looks [] := by kernel_rfl
theorem goesF : false = Rows.tablePartsRow.goesBy Tryz.pinned.checked.prog := by kernel_rfl
theorem mainF : Tryz.pinned.checked.prog.mainIs = some (Rows.tablePartsCard.stood.harness.1, Rows.tablePartsCard.stood.harness.2.toList) := by kernel_rfl
theorem proved : Rows.TablePartsCardSaid :=
  Claim7.holds_tied_plain_at .later [] [.data, .data, .data, .data, .sentinel, .sentinel, .pinned] true Rows.tablePartsCard.stood.harness Rows.tablePartsCard.stood.looks
    over (fun _ h => by cases h) textF (fun _ h => by cases h) tableParts_row_tie rfl ⟨rfl, rfl⟩ mainF rfl
    (fun f fn hf hfn => by
      obtain rfl : f = 7 := Option.some.inj (nameF.symm.trans hf) |>.symm
      obtain rfl : fn = Tryz.f7 := (Option.some.inj (Tryz.func7.symm.trans hfn)).symm
      exact ⟨looksF, fun j t ht => by
        rw [Tryz.params7] at ht
        have hm : t ∈ [9, 9] := by simpa using Array.mem_of_getElem? ht
        have hall : ([9, 9].all fun u => !Tryz.prog.wantsStandIn u) = true := by kernel_rfl
        exact (show Tryz.prog.wantsStandIn t = false by simpa using List.all_eq_true.1 hall t hm)⟩)
    goesF
#print axioms proved
end Go.Proofs.YtpmmchppfmojhaaGreatDoor.tableParts
