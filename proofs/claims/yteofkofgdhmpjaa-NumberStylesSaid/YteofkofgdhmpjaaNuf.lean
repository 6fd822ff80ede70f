/- Of the reference of layer 15: Sound, Format. -/
import Derived.Test.YteofkofgdhmpjaaNue
namespace Go.Proofs.Yteofkofgdhmpjaa
open Go.RowKit
set_option linter.unusedVariables false

theorem souR_eq (x : SyN) : souR x = !(decide (x.mi = []) || decide (x.de = []) || comB (x.mi ++ (x.de ++ x.gr)) digT || comB x.de x.gr || begB x.de x.mi || begB x.mi x.de || !(decide (x.gr = []) || (!begB x.gr x.mi && !begB x.mi x.gr))) := rfl
end Go.Proofs.Yteofkofgdhmpjaa
