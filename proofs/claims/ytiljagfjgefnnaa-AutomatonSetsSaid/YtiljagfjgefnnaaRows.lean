/-
  No cell of these rows narrows 'for every input' (looked for: loops, veiled, ifaces, maps, wideKeys, modest, calm, conditions, laid).
  DERIVED. THE GIVEN ROWS OF THIS SEAT. 8 by the template 'for every input the law returns true; each argument reads behind the call as it read before'; 0 by the template 'total and deterministic' (their statements: YtiljagfjgefnnaaTotals.lean).
  GIVEN WITH THE SEED: the statements are not yours to turn. If you find one false, say at which input.
  Laid BY PROGRAM, IN A SANDBOX (cutbox-rows.mjs): the forced cells as the released guide's own fill.sh prints them over the translation fddf71b36797fcf9… (all of the seat's roots in one cut). By AI agents, Wed Nov 11 2026. No macro, syntax, notation, axiom, sorry.
-/
import Derived.Test.YtiljagfjgefnnaaChecked
import GoSem.Claim
import GoSem.ClaimJoined
import GoSem.ClaimMapViews
import Derived.JoinedTies
import Derived.KernelRfl
namespace Go.Proofs.Ytiljagfjgefnnaa
/- THE CELL 'sum', in the pinned program and in every row, IS THE sha256 OF THE DUMP (.gsa) THAT YtiljagfjgefnnaaProg.lean LOADS. Nothing in Lean hashes anything: it is a label: what it is worth is what the hold of that sum in a sandbox is worth. -/
noncomputable def Try.pinned : Pinned := { name := "ytiljagfjgefnnaa", sum := "fddf71b36797fcf9cbf5e2e9084cc4fe75f0a13b8520731e59ec0c851b9ab3ac", checked := Try.checked }
namespace Rows
def none {H : Type} : Left H := { results := [], args := [] }

/-- 'calquelaw09.AutomatonRun': WHATEVER THE INPUT: true; the input reads as it did. -/
def automatonRunSpec : ChangeSpec := { name := "automatonRun", fn := fun _ => fun
  | [d1, d2] => { results := [.lit (.bool true)], args := [d1, d2] }
  | _ => none }
def automatonRunRow : OpenClaim := { program := "ytiljagfjgefnnaa", sum := "fddf71b36797fcf9cbf5e2e9084cc4fe75f0a13b8520731e59ec0c851b9ab3ac", func := "calque/calquelaw09.AutomatonRun", spec := "automatonRun", unfollowed := true, recurses := true, plainKeys := false, apart := false }
def AutomatonRunSaid : Prop := automatonRunRow.holds Try.pinned (OpenSpec.ofChange automatonRunSpec)

/-- ITS FALSE NEIGHBOUR: 'it returns false'. Refute it at one input. -/
def automatonRunWrong : ChangeSpec := { name := "automatonRun", fn := fun _ => fun
  | [d1, d2] => { results := [.lit (.bool false)], args := [d1, d2] }
  | _ => none }
def AutomatonRunWrongFalsely : Prop := automatonRunRow.holds Try.pinned (OpenSpec.ofChange automatonRunWrong)

/-- 'calquelaw09.AutomatonMinimal': WHATEVER THE INPUT: true; the input reads as it did. -/
def automatonMinimalSpec : ChangeSpec := { name := "automatonMinimal", fn := fun _ => fun
  | [d1, d2] => { results := [.lit (.bool true)], args := [d1, d2] }
  | _ => none }
def automatonMinimalRow : OpenClaim := { program := "ytiljagfjgefnnaa", sum := "fddf71b36797fcf9cbf5e2e9084cc4fe75f0a13b8520731e59ec0c851b9ab3ac", func := "calque/calquelaw09.AutomatonMinimal", spec := "automatonMinimal", unfollowed := true, recurses := true, plainKeys := false, apart := false }
def AutomatonMinimalSaid : Prop := automatonMinimalRow.holds Try.pinned (OpenSpec.ofChange automatonMinimalSpec)

/-- ITS FALSE NEIGHBOUR: 'it returns false'. Refute it at one input. -/
def automatonMinimalWrong : ChangeSpec := { name := "automatonMinimal", fn := fun _ => fun
  | [d1, d2] => { results := [.lit (.bool false)], args := [d1, d2] }
  | _ => none }
def AutomatonMinimalWrongFalsely : Prop := automatonMinimalRow.holds Try.pinned (OpenSpec.ofChange automatonMinimalWrong)

/-- 'calquelaw09.AutomatonSets': WHATEVER THE INPUT: true; the input reads as it did. -/
def automatonSetsSpec : ChangeSpec := { name := "automatonSets", fn := fun _ => fun
  | [d1, d2] => { results := [.lit (.bool true)], args := [d1, d2] }
  | _ => none }
def automatonSetsRow : OpenClaim := { program := "ytiljagfjgefnnaa", sum := "fddf71b36797fcf9cbf5e2e9084cc4fe75f0a13b8520731e59ec0c851b9ab3ac", func := "calque/calquelaw09.AutomatonSets", spec := "automatonSets", unfollowed := true, recurses := true, plainKeys := false, apart := false }
def AutomatonSetsSaid : Prop := automatonSetsRow.holds Try.pinned (OpenSpec.ofChange automatonSetsSpec)

/-- ITS FALSE NEIGHBOUR: 'it returns false'. Refute it at one input. -/
def automatonSetsWrong : ChangeSpec := { name := "automatonSets", fn := fun _ => fun
  | [d1, d2] => { results := [.lit (.bool false)], args := [d1, d2] }
  | _ => none }
def AutomatonSetsWrongFalsely : Prop := automatonSetsRow.holds Try.pinned (OpenSpec.ofChange automatonSetsWrong)

/-- 'calquelaw09.AutomatonWords': WHATEVER THE INPUT: true; the input reads as it did. -/
def automatonWordsSpec : ChangeSpec := { name := "automatonWords", fn := fun _ => fun
  | [d1, d2, d3] => { results := [.lit (.bool true)], args := [d1, d2, d3] }
  | _ => none }
def automatonWordsRow : OpenClaim := { program := "ytiljagfjgefnnaa", sum := "fddf71b36797fcf9cbf5e2e9084cc4fe75f0a13b8520731e59ec0c851b9ab3ac", func := "calque/calquelaw09.AutomatonWords", spec := "automatonWords", unfollowed := true, recurses := true, plainKeys := false, apart := false }
def AutomatonWordsSaid : Prop := automatonWordsRow.holds Try.pinned (OpenSpec.ofChange automatonWordsSpec)

/-- ITS FALSE NEIGHBOUR: 'it returns false'. Refute it at one input. -/
def automatonWordsWrong : ChangeSpec := { name := "automatonWords", fn := fun _ => fun
  | [d1, d2, d3] => { results := [.lit (.bool false)], args := [d1, d2, d3] }
  | _ => none }
def AutomatonWordsWrongFalsely : Prop := automatonWordsRow.holds Try.pinned (OpenSpec.ofChange automatonWordsWrong)

/-- 'calquelaw09.AutomatonMorgan': WHATEVER THE INPUT: true; the input reads as it did. -/
def automatonMorganSpec : ChangeSpec := { name := "automatonMorgan", fn := fun _ => fun
  | [d1, d2] => { results := [.lit (.bool true)], args := [d1, d2] }
  | _ => none }
def automatonMorganRow : OpenClaim := { program := "ytiljagfjgefnnaa", sum := "fddf71b36797fcf9cbf5e2e9084cc4fe75f0a13b8520731e59ec0c851b9ab3ac", func := "calque/calquelaw09.AutomatonMorgan", spec := "automatonMorgan", unfollowed := true, recurses := true, plainKeys := false, apart := false }
def AutomatonMorganSaid : Prop := automatonMorganRow.holds Try.pinned (OpenSpec.ofChange automatonMorganSpec)

/-- ITS FALSE NEIGHBOUR: 'it returns false'. Refute it at one input. -/
def automatonMorganWrong : ChangeSpec := { name := "automatonMorgan", fn := fun _ => fun
  | [d1, d2] => { results := [.lit (.bool false)], args := [d1, d2] }
  | _ => none }
def AutomatonMorganWrongFalsely : Prop := automatonMorganRow.holds Try.pinned (OpenSpec.ofChange automatonMorganWrong)

/-- 'calquelaw09.AutomatonSame': WHATEVER THE INPUT: true; the input reads as it did. -/
def automatonSameSpec : ChangeSpec := { name := "automatonSame", fn := fun _ => fun
  | [d1, d2, d3] => { results := [.lit (.bool true)], args := [d1, d2, d3] }
  | _ => none }
def automatonSameRow : OpenClaim := { program := "ytiljagfjgefnnaa", sum := "fddf71b36797fcf9cbf5e2e9084cc4fe75f0a13b8520731e59ec0c851b9ab3ac", func := "calque/calquelaw09.AutomatonSame", spec := "automatonSame", unfollowed := true, recurses := true, plainKeys := false, apart := false }
def AutomatonSameSaid : Prop := automatonSameRow.holds Try.pinned (OpenSpec.ofChange automatonSameSpec)

/-- ITS FALSE NEIGHBOUR: 'it returns false'. Refute it at one input. -/
def automatonSameWrong : ChangeSpec := { name := "automatonSame", fn := fun _ => fun
  | [d1, d2, d3] => { results := [.lit (.bool false)], args := [d1, d2, d3] }
  | _ => none }
def AutomatonSameWrongFalsely : Prop := automatonSameRow.holds Try.pinned (OpenSpec.ofChange automatonSameWrong)

/-- 'calquelaw09.AutomatonShortest': WHATEVER THE INPUT: true; the input reads as it did. -/
def automatonShortestSpec : ChangeSpec := { name := "automatonShortest", fn := fun _ => fun
  | [d1, d2] => { results := [.lit (.bool true)], args := [d1, d2] }
  | _ => none }
def automatonShortestRow : OpenClaim := { program := "ytiljagfjgefnnaa", sum := "fddf71b36797fcf9cbf5e2e9084cc4fe75f0a13b8520731e59ec0c851b9ab3ac", func := "calque/calquelaw09.AutomatonShortest", spec := "automatonShortest", unfollowed := true, recurses := true, plainKeys := false, apart := false }
def AutomatonShortestSaid : Prop := automatonShortestRow.holds Try.pinned (OpenSpec.ofChange automatonShortestSpec)

/-- ITS FALSE NEIGHBOUR: 'it returns false'. Refute it at one input. -/
def automatonShortestWrong : ChangeSpec := { name := "automatonShortest", fn := fun _ => fun
  | [d1, d2] => { results := [.lit (.bool false)], args := [d1, d2] }
  | _ => none }
def AutomatonShortestWrongFalsely : Prop := automatonShortestRow.holds Try.pinned (OpenSpec.ofChange automatonShortestWrong)

/-- 'calquelaw09.AutomatonCount': WHATEVER THE INPUT: true; the input reads as it did. -/
def automatonCountSpec : ChangeSpec := { name := "automatonCount", fn := fun _ => fun
  | [d1, d2] => { results := [.lit (.bool true)], args := [d1, d2] }
  | _ => none }
def automatonCountRow : OpenClaim := { program := "ytiljagfjgefnnaa", sum := "fddf71b36797fcf9cbf5e2e9084cc4fe75f0a13b8520731e59ec0c851b9ab3ac", func := "calque/calquelaw09.AutomatonCount", spec := "automatonCount", unfollowed := true, recurses := true, plainKeys := false, apart := false }
def AutomatonCountSaid : Prop := automatonCountRow.holds Try.pinned (OpenSpec.ofChange automatonCountSpec)

/-- ITS FALSE NEIGHBOUR: 'it returns false'. Refute it at one input. -/
def automatonCountWrong : ChangeSpec := { name := "automatonCount", fn := fun _ => fun
  | [d1, d2] => { results := [.lit (.bool false)], args := [d1, d2] }
  | _ => none }
def AutomatonCountWrongFalsely : Prop := automatonCountRow.holds Try.pinned (OpenSpec.ofChange automatonCountWrong)

/- THE SECOND FORM. 'bulk': how many values and letters a reading holds, each counted each time it is reached (what is shared counts as often as it is met; a slice's spare places count too). A statement '..UptoSaid' is the law's where the arguments, and the package variables that the reading takes, are together of bulk at most 1048576: NARROWER than '..Said'. Prove '..Said' where nothing that the law and all that it calls make is longer than what came in: it says more and counts as full. Else prove '..UptoSaid'. A law counts once. -/
mutual
def uptoBulk {H : Type} : DataW H → Nat
  | .lit (.string bytes) => bytes.length + 1
  | .lit _ => 1
  | .nil => 1
  | .ptr d => uptoBulk d + 1
  | .slice elems spare => uptoBulkAll elems + uptoBulkAll spare + 1
  | .agg parts => uptoBulkAll parts + 1
  | .iface _ d => uptoBulk d + 1
  | .map entries => uptoBulkEntries entries + 1
  | .held _ => 1
def uptoBulkAll {H : Type} : List (DataW H) → Nat
  | [] => 0
  | d :: r => uptoBulk d + uptoBulkAll r
def uptoBulkEntries {H : Type} : List (Lit × DataW H) → Nat
  | [] => 0
  | x :: r => uptoBulkEntry x + uptoBulkEntries r
def uptoBulkEntry {H : Type} : Lit × DataW H → Nat
  | (.string bytes, d) => bytes.length + uptoBulk d + 1
  | (_, d) => uptoBulk d + 1
 end
def uptoSmall : (H : Type) → List (DataW H) → Bool := fun _ ds => decide (uptoBulkAll ds ≤ 1048576)
def OpenSpec.upto (s : _root_.Go.ChangeSpec) : _root_.Go.OpenSpec := { _root_.Go.OpenSpec.ofChange s with cond := some uptoSmall }

/-- 'calquelaw09.AutomatonRun', WHERE WHAT IT READS IS OF BULK AT MOST 1048576: true; the input reads as it did. -/
def automatonRunUptoRow : OpenClaim := { program := "ytiljagfjgefnnaa", sum := "fddf71b36797fcf9cbf5e2e9084cc4fe75f0a13b8520731e59ec0c851b9ab3ac", func := "calque/calquelaw09.AutomatonRun", spec := "automatonRun", unfollowed := true, recurses := true, plainKeys := false, apart := false, narrowed := true }
def AutomatonRunUptoSaid : Prop := automatonRunUptoRow.holds Try.pinned (OpenSpec.upto automatonRunSpec)

/-- 'calquelaw09.AutomatonMinimal', WHERE WHAT IT READS IS OF BULK AT MOST 1048576: true; the input reads as it did. -/
def automatonMinimalUptoRow : OpenClaim := { program := "ytiljagfjgefnnaa", sum := "fddf71b36797fcf9cbf5e2e9084cc4fe75f0a13b8520731e59ec0c851b9ab3ac", func := "calque/calquelaw09.AutomatonMinimal", spec := "automatonMinimal", unfollowed := true, recurses := true, plainKeys := false, apart := false, narrowed := true }
def AutomatonMinimalUptoSaid : Prop := automatonMinimalUptoRow.holds Try.pinned (OpenSpec.upto automatonMinimalSpec)

/-- 'calquelaw09.AutomatonSets', WHERE WHAT IT READS IS OF BULK AT MOST 1048576: true; the input reads as it did. -/
def automatonSetsUptoRow : OpenClaim := { program := "ytiljagfjgefnnaa", sum := "fddf71b36797fcf9cbf5e2e9084cc4fe75f0a13b8520731e59ec0c851b9ab3ac", func := "calque/calquelaw09.AutomatonSets", spec := "automatonSets", unfollowed := true, recurses := true, plainKeys := false, apart := false, narrowed := true }
def AutomatonSetsUptoSaid : Prop := automatonSetsUptoRow.holds Try.pinned (OpenSpec.upto automatonSetsSpec)

/-- 'calquelaw09.AutomatonWords', WHERE WHAT IT READS IS OF BULK AT MOST 1048576: true; the input reads as it did. -/
def automatonWordsUptoRow : OpenClaim := { program := "ytiljagfjgefnnaa", sum := "fddf71b36797fcf9cbf5e2e9084cc4fe75f0a13b8520731e59ec0c851b9ab3ac", func := "calque/calquelaw09.AutomatonWords", spec := "automatonWords", unfollowed := true, recurses := true, plainKeys := false, apart := false, narrowed := true }
def AutomatonWordsUptoSaid : Prop := automatonWordsUptoRow.holds Try.pinned (OpenSpec.upto automatonWordsSpec)

/-- 'calquelaw09.AutomatonMorgan', WHERE WHAT IT READS IS OF BULK AT MOST 1048576: true; the input reads as it did. -/
def automatonMorganUptoRow : OpenClaim := { program := "ytiljagfjgefnnaa", sum := "fddf71b36797fcf9cbf5e2e9084cc4fe75f0a13b8520731e59ec0c851b9ab3ac", func := "calque/calquelaw09.AutomatonMorgan", spec := "automatonMorgan", unfollowed := true, recurses := true, plainKeys := false, apart := false, narrowed := true }
def AutomatonMorganUptoSaid : Prop := automatonMorganUptoRow.holds Try.pinned (OpenSpec.upto automatonMorganSpec)

/-- 'calquelaw09.AutomatonSame', WHERE WHAT IT READS IS OF BULK AT MOST 1048576: true; the input reads as it did. -/
def automatonSameUptoRow : OpenClaim := { program := "ytiljagfjgefnnaa", sum := "fddf71b36797fcf9cbf5e2e9084cc4fe75f0a13b8520731e59ec0c851b9ab3ac", func := "calque/calquelaw09.AutomatonSame", spec := "automatonSame", unfollowed := true, recurses := true, plainKeys := false, apart := false, narrowed := true }
def AutomatonSameUptoSaid : Prop := automatonSameUptoRow.holds Try.pinned (OpenSpec.upto automatonSameSpec)

/-- 'calquelaw09.AutomatonShortest', WHERE WHAT IT READS IS OF BULK AT MOST 1048576: true; the input reads as it did. -/
def automatonShortestUptoRow : OpenClaim := { program := "ytiljagfjgefnnaa", sum := "fddf71b36797fcf9cbf5e2e9084cc4fe75f0a13b8520731e59ec0c851b9ab3ac", func := "calque/calquelaw09.AutomatonShortest", spec := "automatonShortest", unfollowed := true, recurses := true, plainKeys := false, apart := false, narrowed := true }
def AutomatonShortestUptoSaid : Prop := automatonShortestUptoRow.holds Try.pinned (OpenSpec.upto automatonShortestSpec)

/-- 'calquelaw09.AutomatonCount', WHERE WHAT IT READS IS OF BULK AT MOST 1048576: true; the input reads as it did. -/
def automatonCountUptoRow : OpenClaim := { program := "ytiljagfjgefnnaa", sum := "fddf71b36797fcf9cbf5e2e9084cc4fe75f0a13b8520731e59ec0c851b9ab3ac", func := "calque/calquelaw09.AutomatonCount", spec := "automatonCount", unfollowed := true, recurses := true, plainKeys := false, apart := false, narrowed := true }
def AutomatonCountUptoSaid : Prop := automatonCountUptoRow.holds Try.pinned (OpenSpec.upto automatonCountSpec)

end Rows
end Go.Proofs.Ytiljagfjgefnnaa
