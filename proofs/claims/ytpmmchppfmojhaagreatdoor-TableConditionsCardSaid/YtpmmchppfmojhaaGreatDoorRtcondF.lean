/- A closed fact of the row of TableConditions: a text of its own, for the kernel's memory. -/
import Derived.Test.YtpmmchppfmojhaaGreatDoorRows
import Derived.Test.YtpmmchppfmojhaaGreatDoorCards
import Derived.Test.YtpmmchppfmojhaaGreatDoorTie
import Derived.SevenTiedAt
import Derived.LaidMore
import Derived.Stop.Joined
import Derived.SizedLaws
import Derived.WalkKit
import Derived.ProofKit
import Derived.OpenShut
import Derived.ShutString
import Derived.ChangeOld
import Derived.Below
namespace Go.Proofs.YtpmmchppfmojhaaGreatDoor.tableConditions
open Go.ChangeShapes Go.WideShapes Go.ChangeAt Go.RowKit
set_option linter.unusedVariables false
theorem laidF : laidOutB Tryz.pinned.checked.prog = true := by kernel_rfl
theorem mapsF : mapsRowed Tryz.pinned.checked.prog = true := by kernel_rfl
theorem inPlaceF : (Rows.tableConditionsRow.inPlace == Tryz.pinned.checked.prog.inPlace 9) = true := by kernel_rfl
theorem unfF : (Rows.tableConditionsRow.unfollowed == Tryz.pinned.checked.prog.unfollowed 9) = true := by kernel_rfl
theorem recF : (Rows.tableConditionsRow.recurses == Tryz.pinned.checked.prog.recurses 9) = true := by kernel_rfl
theorem namedF : (Rows.tableConditionsRow.named == Tryz.pinned.checked.prog.varsNamed 9) = true := by kernel_rfl
theorem plainF : (Rows.tableConditionsRow.plainKeys == Tryz.pinned.checked.prog.plainKeys) = true := by kernel_rfl
theorem heardF : Tryz.pinned.checked.prog.stopsHeard = true := by kernel_rfl
theorem mayF : Tryz.pinned.checked.prog.mayEnter = true := by kernel_rfl
theorem liftF : (Rows.tableConditionsRow.lifted == Tryz.pinned.checked.prog.liftsFinal) = true := by kernel_rfl
theorem makeF : (Tryz.pinned.checked.prog.make == some Rows.tableConditionsRow.make) = true := by kernel_rfl
set_option maxRecDepth 100000 in
theorem closedF : joinedFacts Tryz.pinned.checked.prog 9 Tryz.f9 Rows.tableConditionsSpec Rows.tableConditionsRow = true := by
  unfold joinedFacts
  rw [laidF, mapsF, inPlaceF, unfF, recF, namedF, plainF, heardF, mayF, liftF, makeF]
  kernel_rfl
end Go.Proofs.YtpmmchppfmojhaaGreatDoor.tableConditions
