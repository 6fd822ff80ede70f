/-
  No cell of these rows narrows 'for every input' (looked for: loops, veiled, ifaces, maps, wideKeys, modest, calm, conditions, laid).
  DERIVED. THE GIVEN ROWS OF THIS SEAT. 9 by the template 'for every input the law returns true; each argument reads behind the call as it read before'; 0 by the template 'total and deterministic' (their statements: YtkgjadblfldjnaaTotals.lean).
  GIVEN WITH THE SEED: the statements are not yours to turn. If you find one false, say at which input.
  Laid BY PROGRAM, IN A SANDBOX (cutbox-rows.mjs): the forced cells as the released guide's own fill.sh prints them over the translation 0a87695d4ff17877… (all of the seat's roots in one cut). By AI agents, Wed Nov 11 2026. No macro, syntax, notation, axiom, sorry.
-/
import Derived.Test.YtkgjadblfldjnaaChecked
import GoSem.Claim
import GoSem.ClaimJoined
import GoSem.ClaimMapViews
import Derived.JoinedTies
import Derived.KernelRfl
namespace Go.Proofs.Ytkgjadblfldjnaa
/- THE CELL 'sum', in the pinned program and in every row, IS THE sha256 OF THE DUMP (.gsa) THAT YtkgjadblfldjnaaProg.lean LOADS. Nothing in Lean hashes anything: it is a label: what it is worth is what the hold of that sum in a sandbox is worth. -/
noncomputable def Try.pinned : Pinned := { name := "ytkgjadblfldjnaa", sum := "0a87695d4ff1787766c40c5455485b51d8d626e8ef02443f98a08cc08004f792", checked := Try.checked }
namespace Rows
def none {H : Type} : Left H := { results := [], args := [] }

/-- 'calquelaw07.DecimalValid': WHATEVER THE INPUT: true; the input reads as it did. -/
def decimalValidSpec : ChangeSpec := { name := "decimalValid", fn := fun _ => fun
  | [d] => { results := [.lit (.bool true)], args := [d] }
  | _ => none }
def decimalValidRow : OpenClaim := { program := "ytkgjadblfldjnaa", sum := "0a87695d4ff1787766c40c5455485b51d8d626e8ef02443f98a08cc08004f792", func := "calque/calquelaw07.DecimalValid", spec := "decimalValid", apart := false }
def DecimalValidSaid : Prop := decimalValidRow.holds Try.pinned (OpenSpec.ofChange decimalValidSpec)

/-- ITS FALSE NEIGHBOUR: 'it returns false'. Refute it at one input. -/
def decimalValidWrong : ChangeSpec := { name := "decimalValid", fn := fun _ => fun
  | [d] => { results := [.lit (.bool false)], args := [d] }
  | _ => none }
def DecimalValidWrongFalsely : Prop := decimalValidRow.holds Try.pinned (OpenSpec.ofChange decimalValidWrong)

/-- 'calquelaw07.DecimalOperands': WHATEVER THE INPUT: true; the input reads as it did. -/
def decimalOperandsSpec : ChangeSpec := { name := "decimalOperands", fn := fun _ => fun
  | [d1, d2] => { results := [.lit (.bool true)], args := [d1, d2] }
  | _ => none }
def decimalOperandsRow : OpenClaim := { program := "ytkgjadblfldjnaa", sum := "0a87695d4ff1787766c40c5455485b51d8d626e8ef02443f98a08cc08004f792", func := "calque/calquelaw07.DecimalOperands", spec := "decimalOperands", apart := false }
def DecimalOperandsSaid : Prop := decimalOperandsRow.holds Try.pinned (OpenSpec.ofChange decimalOperandsSpec)

/-- ITS FALSE NEIGHBOUR: 'it returns false'. Refute it at one input. -/
def decimalOperandsWrong : ChangeSpec := { name := "decimalOperands", fn := fun _ => fun
  | [d1, d2] => { results := [.lit (.bool false)], args := [d1, d2] }
  | _ => none }
def DecimalOperandsWrongFalsely : Prop := decimalOperandsRow.holds Try.pinned (OpenSpec.ofChange decimalOperandsWrong)

/-- 'calquelaw07.DecimalCompare': WHATEVER THE INPUT: true; the input reads as it did. -/
def decimalCompareSpec : ChangeSpec := { name := "decimalCompare", fn := fun _ => fun
  | [d1, d2] => { results := [.lit (.bool true)], args := [d1, d2] }
  | _ => none }
def decimalCompareRow : OpenClaim := { program := "ytkgjadblfldjnaa", sum := "0a87695d4ff1787766c40c5455485b51d8d626e8ef02443f98a08cc08004f792", func := "calque/calquelaw07.DecimalCompare", spec := "decimalCompare", apart := false }
def DecimalCompareSaid : Prop := decimalCompareRow.holds Try.pinned (OpenSpec.ofChange decimalCompareSpec)

/-- ITS FALSE NEIGHBOUR: 'it returns false'. Refute it at one input. -/
def decimalCompareWrong : ChangeSpec := { name := "decimalCompare", fn := fun _ => fun
  | [d1, d2] => { results := [.lit (.bool false)], args := [d1, d2] }
  | _ => none }
def DecimalCompareWrongFalsely : Prop := decimalCompareRow.holds Try.pinned (OpenSpec.ofChange decimalCompareWrong)

/-- 'calquelaw07.DecimalOrder': WHATEVER THE INPUT: true; the input reads as it did. -/
def decimalOrderSpec : ChangeSpec := { name := "decimalOrder", fn := fun _ => fun
  | [d1, d2, d3] => { results := [.lit (.bool true)], args := [d1, d2, d3] }
  | _ => none }
def decimalOrderRow : OpenClaim := { program := "ytkgjadblfldjnaa", sum := "0a87695d4ff1787766c40c5455485b51d8d626e8ef02443f98a08cc08004f792", func := "calque/calquelaw07.DecimalOrder", spec := "decimalOrder", apart := false }
def DecimalOrderSaid : Prop := decimalOrderRow.holds Try.pinned (OpenSpec.ofChange decimalOrderSpec)

/-- ITS FALSE NEIGHBOUR: 'it returns false'. Refute it at one input. -/
def decimalOrderWrong : ChangeSpec := { name := "decimalOrder", fn := fun _ => fun
  | [d1, d2, d3] => { results := [.lit (.bool false)], args := [d1, d2, d3] }
  | _ => none }
def DecimalOrderWrongFalsely : Prop := decimalOrderRow.holds Try.pinned (OpenSpec.ofChange decimalOrderWrong)

/-- 'calquelaw07.DecimalShift': WHATEVER THE INPUT: true; the input reads as it did. -/
def decimalShiftSpec : ChangeSpec := { name := "decimalShift", fn := fun _ => fun
  | [d1, d2] => { results := [.lit (.bool true)], args := [d1, d2] }
  | _ => none }
def decimalShiftRow : OpenClaim := { program := "ytkgjadblfldjnaa", sum := "0a87695d4ff1787766c40c5455485b51d8d626e8ef02443f98a08cc08004f792", func := "calque/calquelaw07.DecimalShift", spec := "decimalShift", apart := false }
def DecimalShiftSaid : Prop := decimalShiftRow.holds Try.pinned (OpenSpec.ofChange decimalShiftSpec)

/-- ITS FALSE NEIGHBOUR: 'it returns false'. Refute it at one input. -/
def decimalShiftWrong : ChangeSpec := { name := "decimalShift", fn := fun _ => fun
  | [d1, d2] => { results := [.lit (.bool false)], args := [d1, d2] }
  | _ => none }
def DecimalShiftWrongFalsely : Prop := decimalShiftRow.holds Try.pinned (OpenSpec.ofChange decimalShiftWrong)

/-- 'calquelaw07.DecimalBack': WHATEVER THE INPUT: true; the input reads as it did. -/
def decimalBackSpec : ChangeSpec := { name := "decimalBack", fn := fun _ => fun
  | [d1, d2] => { results := [.lit (.bool true)], args := [d1, d2] }
  | _ => none }
def decimalBackRow : OpenClaim := { program := "ytkgjadblfldjnaa", sum := "0a87695d4ff1787766c40c5455485b51d8d626e8ef02443f98a08cc08004f792", func := "calque/calquelaw07.DecimalBack", spec := "decimalBack", apart := false }
def DecimalBackSaid : Prop := decimalBackRow.holds Try.pinned (OpenSpec.ofChange decimalBackSpec)

/-- ITS FALSE NEIGHBOUR: 'it returns false'. Refute it at one input. -/
def decimalBackWrong : ChangeSpec := { name := "decimalBack", fn := fun _ => fun
  | [d1, d2] => { results := [.lit (.bool false)], args := [d1, d2] }
  | _ => none }
def DecimalBackWrongFalsely : Prop := decimalBackRow.holds Try.pinned (OpenSpec.ofChange decimalBackWrong)

/-- 'calquelaw07.DecimalRound': WHATEVER THE INPUT: true; the input reads as it did. -/
def decimalRoundSpec : ChangeSpec := { name := "decimalRound", fn := fun _ => fun
  | [d1, d2] => { results := [.lit (.bool true)], args := [d1, d2] }
  | _ => none }
def decimalRoundRow : OpenClaim := { program := "ytkgjadblfldjnaa", sum := "0a87695d4ff1787766c40c5455485b51d8d626e8ef02443f98a08cc08004f792", func := "calque/calquelaw07.DecimalRound", spec := "decimalRound", recurses := true, apart := false }
def DecimalRoundSaid : Prop := decimalRoundRow.holds Try.pinned (OpenSpec.ofChange decimalRoundSpec)

/-- ITS FALSE NEIGHBOUR: 'it returns false'. Refute it at one input. -/
def decimalRoundWrong : ChangeSpec := { name := "decimalRound", fn := fun _ => fun
  | [d1, d2] => { results := [.lit (.bool false)], args := [d1, d2] }
  | _ => none }
def DecimalRoundWrongFalsely : Prop := decimalRoundRow.holds Try.pinned (OpenSpec.ofChange decimalRoundWrong)

/-- 'calquelaw07.DecimalNearest': WHATEVER THE INPUT: true; the input reads as it did. -/
def decimalNearestSpec : ChangeSpec := { name := "decimalNearest", fn := fun _ => fun
  | [d1, d2] => { results := [.lit (.bool true)], args := [d1, d2] }
  | _ => none }
def decimalNearestRow : OpenClaim := { program := "ytkgjadblfldjnaa", sum := "0a87695d4ff1787766c40c5455485b51d8d626e8ef02443f98a08cc08004f792", func := "calque/calquelaw07.DecimalNearest", spec := "decimalNearest", apart := false }
def DecimalNearestSaid : Prop := decimalNearestRow.holds Try.pinned (OpenSpec.ofChange decimalNearestSpec)

/-- ITS FALSE NEIGHBOUR: 'it returns false'. Refute it at one input. -/
def decimalNearestWrong : ChangeSpec := { name := "decimalNearest", fn := fun _ => fun
  | [d1, d2] => { results := [.lit (.bool false)], args := [d1, d2] }
  | _ => none }
def DecimalNearestWrongFalsely : Prop := decimalNearestRow.holds Try.pinned (OpenSpec.ofChange decimalNearestWrong)

/-- 'calquelaw07.DecimalNormal': WHATEVER THE INPUT: true; the input reads as it did. -/
def decimalNormalSpec : ChangeSpec := { name := "decimalNormal", fn := fun _ => fun
  | [d1, d2] => { results := [.lit (.bool true)], args := [d1, d2] }
  | _ => none }
def decimalNormalRow : OpenClaim := { program := "ytkgjadblfldjnaa", sum := "0a87695d4ff1787766c40c5455485b51d8d626e8ef02443f98a08cc08004f792", func := "calque/calquelaw07.DecimalNormal", spec := "decimalNormal", apart := false }
def DecimalNormalSaid : Prop := decimalNormalRow.holds Try.pinned (OpenSpec.ofChange decimalNormalSpec)

/-- ITS FALSE NEIGHBOUR: 'it returns false'. Refute it at one input. -/
def decimalNormalWrong : ChangeSpec := { name := "decimalNormal", fn := fun _ => fun
  | [d1, d2] => { results := [.lit (.bool false)], args := [d1, d2] }
  | _ => none }
def DecimalNormalWrongFalsely : Prop := decimalNormalRow.holds Try.pinned (OpenSpec.ofChange decimalNormalWrong)

/- THE SECOND FORM. 'bulk': how many values and letters a reading holds, each counted each time it is reached (what is shared counts as often as it is met; a slice's spare places count too). A statement '..UptoSaid' is the law's where the arguments, and the package variables that the reading takes, are together of bulk at most 1048576: NARROWER than '..Said'. Prove '..Said' where nothing that the law and all that it calls make is longer than what came in: it says more and counts as full. Else prove '..UptoSaid'. A law counts once. -/
mutual
def uptoBulk {H : Type} : DataW H → Nat
  | .lit (.string bytes) => bytes.length + 1
  | .lit _ => 1
  | .nil => 1
  | .ptr d => uptoBulk d + 1
  | .slice elems spare => uptoBulkAll elems + uptoBulkAll spare + 1
  | .agg parts => uptoBulkAll parts + 1
  | .iface _ d => uptoBulk d + 1
  | .map entries => uptoBulkEntries entries + 1
  | .held _ => 1
def uptoBulkAll {H : Type} : List (DataW H) → Nat
  | [] => 0
  | d :: r => uptoBulk d + uptoBulkAll r
def uptoBulkEntries {H : Type} : List (Lit × DataW H) → Nat
  | [] => 0
  | x :: r => uptoBulkEntry x + uptoBulkEntries r
def uptoBulkEntry {H : Type} : Lit × DataW H → Nat
  | (.string bytes, d) => bytes.length + uptoBulk d + 1
  | (_, d) => uptoBulk d + 1
 end
def uptoSmall : (H : Type) → List (DataW H) → Bool := fun _ ds => decide (uptoBulkAll ds ≤ 1048576)
def OpenSpec.upto (s : _root_.Go.ChangeSpec) : _root_.Go.OpenSpec := { _root_.Go.OpenSpec.ofChange s with cond := some uptoSmall }

/-- 'calquelaw07.DecimalValid', WHERE WHAT IT READS IS OF BULK AT MOST 1048576: true; the input reads as it did. -/
def decimalValidUptoRow : OpenClaim := { program := "ytkgjadblfldjnaa", sum := "0a87695d4ff1787766c40c5455485b51d8d626e8ef02443f98a08cc08004f792", func := "calque/calquelaw07.DecimalValid", spec := "decimalValid", apart := false, narrowed := true }
def DecimalValidUptoSaid : Prop := decimalValidUptoRow.holds Try.pinned (OpenSpec.upto decimalValidSpec)

/-- 'calquelaw07.DecimalOperands', WHERE WHAT IT READS IS OF BULK AT MOST 1048576: true; the input reads as it did. -/
def decimalOperandsUptoRow : OpenClaim := { program := "ytkgjadblfldjnaa", sum := "0a87695d4ff1787766c40c5455485b51d8d626e8ef02443f98a08cc08004f792", func := "calque/calquelaw07.DecimalOperands", spec := "decimalOperands", apart := false, narrowed := true }
def DecimalOperandsUptoSaid : Prop := decimalOperandsUptoRow.holds Try.pinned (OpenSpec.upto decimalOperandsSpec)

/-- 'calquelaw07.DecimalCompare', WHERE WHAT IT READS IS OF BULK AT MOST 1048576: true; the input reads as it did. -/
def decimalCompareUptoRow : OpenClaim := { program := "ytkgjadblfldjnaa", sum := "0a87695d4ff1787766c40c5455485b51d8d626e8ef02443f98a08cc08004f792", func := "calque/calquelaw07.DecimalCompare", spec := "decimalCompare", apart := false, narrowed := true }
def DecimalCompareUptoSaid : Prop := decimalCompareUptoRow.holds Try.pinned (OpenSpec.upto decimalCompareSpec)

/-- 'calquelaw07.DecimalOrder', WHERE WHAT IT READS IS OF BULK AT MOST 1048576: true; the input reads as it did. -/
def decimalOrderUptoRow : OpenClaim := { program := "ytkgjadblfldjnaa", sum := "0a87695d4ff1787766c40c5455485b51d8d626e8ef02443f98a08cc08004f792", func := "calque/calquelaw07.DecimalOrder", spec := "decimalOrder", apart := false, narrowed := true }
def DecimalOrderUptoSaid : Prop := decimalOrderUptoRow.holds Try.pinned (OpenSpec.upto decimalOrderSpec)

/-- 'calquelaw07.DecimalShift', WHERE WHAT IT READS IS OF BULK AT MOST 1048576: true; the input reads as it did. -/
def decimalShiftUptoRow : OpenClaim := { program := "ytkgjadblfldjnaa", sum := "0a87695d4ff1787766c40c5455485b51d8d626e8ef02443f98a08cc08004f792", func := "calque/calquelaw07.DecimalShift", spec := "decimalShift", apart := false, narrowed := true }
def DecimalShiftUptoSaid : Prop := decimalShiftUptoRow.holds Try.pinned (OpenSpec.upto decimalShiftSpec)

/-- 'calquelaw07.DecimalBack', WHERE WHAT IT READS IS OF BULK AT MOST 1048576: true; the input reads as it did. -/
def decimalBackUptoRow : OpenClaim := { program := "ytkgjadblfldjnaa", sum := "0a87695d4ff1787766c40c5455485b51d8d626e8ef02443f98a08cc08004f792", func := "calque/calquelaw07.DecimalBack", spec := "decimalBack", apart := false, narrowed := true }
def DecimalBackUptoSaid : Prop := decimalBackUptoRow.holds Try.pinned (OpenSpec.upto decimalBackSpec)

/-- 'calquelaw07.DecimalRound', WHERE WHAT IT READS IS OF BULK AT MOST 1048576: true; the input reads as it did. -/
def decimalRoundUptoRow : OpenClaim := { program := "ytkgjadblfldjnaa", sum := "0a87695d4ff1787766c40c5455485b51d8d626e8ef02443f98a08cc08004f792", func := "calque/calquelaw07.DecimalRound", spec := "decimalRound", recurses := true, apart := false, narrowed := true }
def DecimalRoundUptoSaid : Prop := decimalRoundUptoRow.holds Try.pinned (OpenSpec.upto decimalRoundSpec)

/-- 'calquelaw07.DecimalNearest', WHERE WHAT IT READS IS OF BULK AT MOST 1048576: true; the input reads as it did. -/
def decimalNearestUptoRow : OpenClaim := { program := "ytkgjadblfldjnaa", sum := "0a87695d4ff1787766c40c5455485b51d8d626e8ef02443f98a08cc08004f792", func := "calque/calquelaw07.DecimalNearest", spec := "decimalNearest", apart := false, narrowed := true }
def DecimalNearestUptoSaid : Prop := decimalNearestUptoRow.holds Try.pinned (OpenSpec.upto decimalNearestSpec)

/-- 'calquelaw07.DecimalNormal', WHERE WHAT IT READS IS OF BULK AT MOST 1048576: true; the input reads as it did. -/
def decimalNormalUptoRow : OpenClaim := { program := "ytkgjadblfldjnaa", sum := "0a87695d4ff1787766c40c5455485b51d8d626e8ef02443f98a08cc08004f792", func := "calque/calquelaw07.DecimalNormal", spec := "decimalNormal", apart := false, narrowed := true }
def DecimalNormalUptoSaid : Prop := decimalNormalUptoRow.holds Try.pinned (OpenSpec.upto decimalNormalSpec)

end Rows
end Go.Proofs.Ytkgjadblfldjnaa
