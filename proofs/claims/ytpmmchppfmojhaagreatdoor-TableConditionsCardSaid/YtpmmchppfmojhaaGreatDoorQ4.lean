/- What the row stands on, part 4. -/
import Derived.LoopTactic
import Derived.Deep.RegionWith
import Derived.BigQuiet
import Derived.Deep.RegionHeld3
import Derived.Outline
import Derived.Test.YtpmmchppfmojhaaGreatDoorQ3

/- The contract of Next: the first element of a string that is not empty, and its width. -/
namespace Go.Proofs.YtpmmchppfmojhaaGreatDoor
open Go.RowKit
set_option linter.unusedVariables false

theorem len_data (s : ByteArray) : s.data.toList.length = s.size := Array.length_toList
theorem toList_ext (s : ByteArray) (k : Nat) : (s.extract 0 k).toList = s.data.toList.take k := by
  rw [ByteArray.toList_eq]; simp
end Go.Proofs.YtpmmchppfmojhaaGreatDoor


