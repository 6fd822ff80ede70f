/- Of the program: Operand. -/
import Derived.Test.YteofkofgdhmpjaaDoorKi
namespace Go.Proofs.YteofkofgdhmpjaaDoor
open Go.RowKit
set_option linter.unusedVariables false

theorem trim_rd {w : World} {a2 : Option Addr} {n c2 : Nat} {fr : Str} (rf : RdB w (.slice a2 n c2) fr) : RdB w (.slice a2 (trim fr).length c2) (trim fr) := by
  have T := rf.take (trim fr).length (trim_len _)
  have e : fr.take (trim fr).length = trim fr := by
    conv => lhs; arg 2; rw [trim_split fr]
    rw [List.take_left]
  rw [e] at T
  exact T
theorem opR_some {s : Str} {x : Num} (h : spl s = some x) (k : Int) : opR s k = opnd x k := by unfold opR; rw [h]
def OpPost (s : Str) (k : Int) (w : World) (e : Ending) (w' : World) : Prop := e = .returned (.tuple #[.int .i64 (opR s k).1, .int .i64 (opR s k).2]) ∧ Below w.heap.size w w'
end Go.Proofs.YteofkofgdhmpjaaDoor
