/- Of the reference: Integer, Operand. -/
import Derived.Test.YteofkofgdhmpjaaKs
namespace Go.Proofs.Yteofkofgdhmpjaa
open Go.RowKit
set_option linter.unusedVariables false

end Go.Proofs.Yteofkofgdhmpjaa
