/- Of the reference: Integer, Operand. -/
import Derived.Test.YteofkofgdhmpjaaDoorKs
namespace Go.Proofs.YteofkofgdhmpjaaDoor
open Go.RowKit
set_option linter.unusedVariables false

end Go.Proofs.YteofkofgdhmpjaaDoor
