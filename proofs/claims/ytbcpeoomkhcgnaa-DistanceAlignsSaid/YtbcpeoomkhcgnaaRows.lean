/-
  No cell of these rows narrows 'for every input' (looked for: loops, veiled, ifaces, maps, wideKeys, modest, calm, conditions, laid).
  DERIVED. THE GIVEN ROWS OF THIS SEAT. 7 by the template 'for every input the law returns true; each argument reads behind the call as it read before'; 0 by the template 'total and deterministic' (their statements: YtbcpeoomkhcgnaaTotals.lean).
  GIVEN WITH THE SEED: the statements are not yours to turn. If you find one false, say at which input.
  Laid BY PROGRAM, IN A SANDBOX (cutbox-rows.mjs): the forced cells as the released guide's own fill.sh prints them over the translation f1c57ad10bb1a60d… (all of the seat's roots in one cut). By AI agents, Wed Nov 11 2026. No macro, syntax, notation, axiom, sorry.
-/
import Derived.Test.YtbcpeoomkhcgnaaChecked
import GoSem.Claim
import GoSem.ClaimJoined
import GoSem.ClaimMapViews
import Derived.JoinedTies
import Derived.KernelRfl
namespace Go.Proofs.Ytbcpeoomkhcgnaa
/- THE CELL 'sum', in the pinned program and in every row, IS THE sha256 OF THE DUMP (.gsa) THAT YtbcpeoomkhcgnaaProg.lean LOADS. Nothing in Lean hashes anything: it is a label: what it is worth is what the hold of that sum in a sandbox is worth. -/
noncomputable def Try.pinned : Pinned := { name := "ytbcpeoomkhcgnaa", sum := "f1c57ad10bb1a60daee93cebfe3c8924ce2094ebe4ccb200c2c514549fef809c", checked := Try.checked }
namespace Rows
def none {H : Type} : Left H := { results := [], args := [] }

/-- 'calquelaw06.DistanceWords': WHATEVER THE INPUT: true; the input reads as it did. -/
def distanceWordsSpec : ChangeSpec := { name := "distanceWords", fn := fun _ => fun
  | [d] => { results := [.lit (.bool true)], args := [d] }
  | _ => none }
def distanceWordsRow : OpenClaim := { program := "ytbcpeoomkhcgnaa", sum := "f1c57ad10bb1a60daee93cebfe3c8924ce2094ebe4ccb200c2c514549fef809c", func := "calque/calquelaw06.DistanceWords", spec := "distanceWords", unfollowed := true, recurses := true, apart := false }
def DistanceWordsSaid : Prop := distanceWordsRow.holds Try.pinned (OpenSpec.ofChange distanceWordsSpec)

/-- ITS FALSE NEIGHBOUR: 'it returns false'. Refute it at one input. -/
def distanceWordsWrong : ChangeSpec := { name := "distanceWords", fn := fun _ => fun
  | [d] => { results := [.lit (.bool false)], args := [d] }
  | _ => none }
def DistanceWordsWrongFalsely : Prop := distanceWordsRow.holds Try.pinned (OpenSpec.ofChange distanceWordsWrong)

/-- 'calquelaw06.DistanceParts': WHATEVER THE INPUT: true; the input reads as it did. -/
def distancePartsSpec : ChangeSpec := { name := "distanceParts", fn := fun _ => fun
  | [d1, d2] => { results := [.lit (.bool true)], args := [d1, d2] }
  | _ => none }
def distancePartsRow : OpenClaim := { program := "ytbcpeoomkhcgnaa", sum := "f1c57ad10bb1a60daee93cebfe3c8924ce2094ebe4ccb200c2c514549fef809c", func := "calque/calquelaw06.DistanceParts", spec := "distanceParts", unfollowed := true, recurses := true, apart := false }
def DistancePartsSaid : Prop := distancePartsRow.holds Try.pinned (OpenSpec.ofChange distancePartsSpec)

/-- ITS FALSE NEIGHBOUR: 'it returns false'. Refute it at one input. -/
def distancePartsWrong : ChangeSpec := { name := "distanceParts", fn := fun _ => fun
  | [d1, d2] => { results := [.lit (.bool false)], args := [d1, d2] }
  | _ => none }
def DistancePartsWrongFalsely : Prop := distancePartsRow.holds Try.pinned (OpenSpec.ofChange distancePartsWrong)

/-- 'calquelaw06.DistanceLists': WHATEVER THE INPUT: true; the input reads as it did. -/
def distanceListsSpec : ChangeSpec := { name := "distanceLists", fn := fun _ => fun
  | [d1, d2] => { results := [.lit (.bool true)], args := [d1, d2] }
  | _ => none }
def distanceListsRow : OpenClaim := { program := "ytbcpeoomkhcgnaa", sum := "f1c57ad10bb1a60daee93cebfe3c8924ce2094ebe4ccb200c2c514549fef809c", func := "calque/calquelaw06.DistanceLists", spec := "distanceLists", unfollowed := true, recurses := true, apart := false }
def DistanceListsSaid : Prop := distanceListsRow.holds Try.pinned (OpenSpec.ofChange distanceListsSpec)

/-- ITS FALSE NEIGHBOUR: 'it returns false'. Refute it at one input. -/
def distanceListsWrong : ChangeSpec := { name := "distanceLists", fn := fun _ => fun
  | [d1, d2] => { results := [.lit (.bool false)], args := [d1, d2] }
  | _ => none }
def DistanceListsWrongFalsely : Prop := distanceListsRow.holds Try.pinned (OpenSpec.ofChange distanceListsWrong)

/-- 'calquelaw06.DistanceAligns': WHATEVER THE INPUT: true; the input reads as it did. -/
def distanceAlignsSpec : ChangeSpec := { name := "distanceAligns", fn := fun _ => fun
  | [d1, d2] => { results := [.lit (.bool true)], args := [d1, d2] }
  | _ => none }
def distanceAlignsRow : OpenClaim := { program := "ytbcpeoomkhcgnaa", sum := "f1c57ad10bb1a60daee93cebfe3c8924ce2094ebe4ccb200c2c514549fef809c", func := "calque/calquelaw06.DistanceAligns", spec := "distanceAligns", unfollowed := true, recurses := true, apart := false }
def DistanceAlignsSaid : Prop := distanceAlignsRow.holds Try.pinned (OpenSpec.ofChange distanceAlignsSpec)

/-- ITS FALSE NEIGHBOUR: 'it returns false'. Refute it at one input. -/
def distanceAlignsWrong : ChangeSpec := { name := "distanceAligns", fn := fun _ => fun
  | [d1, d2] => { results := [.lit (.bool false)], args := [d1, d2] }
  | _ => none }
def DistanceAlignsWrongFalsely : Prop := distanceAlignsRow.holds Try.pinned (OpenSpec.ofChange distanceAlignsWrong)

/-- 'calquelaw06.DistanceLeast': WHATEVER THE INPUT: true; the input reads as it did. -/
def distanceLeastSpec : ChangeSpec := { name := "distanceLeast", fn := fun _ => fun
  | [d1, d2, d3] => { results := [.lit (.bool true)], args := [d1, d2, d3] }
  | _ => none }
def distanceLeastRow : OpenClaim := { program := "ytbcpeoomkhcgnaa", sum := "f1c57ad10bb1a60daee93cebfe3c8924ce2094ebe4ccb200c2c514549fef809c", func := "calque/calquelaw06.DistanceLeast", spec := "distanceLeast", unfollowed := true, recurses := true, apart := false }
def DistanceLeastSaid : Prop := distanceLeastRow.holds Try.pinned (OpenSpec.ofChange distanceLeastSpec)

/-- ITS FALSE NEIGHBOUR: 'it returns false'. Refute it at one input. -/
def distanceLeastWrong : ChangeSpec := { name := "distanceLeast", fn := fun _ => fun
  | [d1, d2, d3] => { results := [.lit (.bool false)], args := [d1, d2, d3] }
  | _ => none }
def DistanceLeastWrongFalsely : Prop := distanceLeastRow.holds Try.pinned (OpenSpec.ofChange distanceLeastWrong)

/-- 'calquelaw06.DistanceMetric': WHATEVER THE INPUT: true; the input reads as it did. -/
def distanceMetricSpec : ChangeSpec := { name := "distanceMetric", fn := fun _ => fun
  | [d1, d2, d3] => { results := [.lit (.bool true)], args := [d1, d2, d3] }
  | _ => none }
def distanceMetricRow : OpenClaim := { program := "ytbcpeoomkhcgnaa", sum := "f1c57ad10bb1a60daee93cebfe3c8924ce2094ebe4ccb200c2c514549fef809c", func := "calque/calquelaw06.DistanceMetric", spec := "distanceMetric", unfollowed := true, recurses := true, apart := false }
def DistanceMetricSaid : Prop := distanceMetricRow.holds Try.pinned (OpenSpec.ofChange distanceMetricSpec)

/-- ITS FALSE NEIGHBOUR: 'it returns false'. Refute it at one input. -/
def distanceMetricWrong : ChangeSpec := { name := "distanceMetric", fn := fun _ => fun
  | [d1, d2, d3] => { results := [.lit (.bool false)], args := [d1, d2, d3] }
  | _ => none }
def DistanceMetricWrongFalsely : Prop := distanceMetricRow.holds Try.pinned (OpenSpec.ofChange distanceMetricWrong)

/-- 'calquelaw06.DistanceGrows': WHATEVER THE INPUT: true; the input reads as it did. -/
def distanceGrowsSpec : ChangeSpec := { name := "distanceGrows", fn := fun _ => fun
  | [d1, d2, d3] => { results := [.lit (.bool true)], args := [d1, d2, d3] }
  | _ => none }
def distanceGrowsRow : OpenClaim := { program := "ytbcpeoomkhcgnaa", sum := "f1c57ad10bb1a60daee93cebfe3c8924ce2094ebe4ccb200c2c514549fef809c", func := "calque/calquelaw06.DistanceGrows", spec := "distanceGrows", unfollowed := true, recurses := true, apart := false }
def DistanceGrowsSaid : Prop := distanceGrowsRow.holds Try.pinned (OpenSpec.ofChange distanceGrowsSpec)

/-- ITS FALSE NEIGHBOUR: 'it returns false'. Refute it at one input. -/
def distanceGrowsWrong : ChangeSpec := { name := "distanceGrows", fn := fun _ => fun
  | [d1, d2, d3] => { results := [.lit (.bool false)], args := [d1, d2, d3] }
  | _ => none }
def DistanceGrowsWrongFalsely : Prop := distanceGrowsRow.holds Try.pinned (OpenSpec.ofChange distanceGrowsWrong)

/- THE SECOND FORM. 'bulk': how many values and letters a reading holds, each counted each time it is reached (what is shared counts as often as it is met; a slice's spare places count too). A statement '..UptoSaid' is the law's where the arguments, and the package variables that the reading takes, are together of bulk at most 1048576: NARROWER than '..Said'. Prove '..Said' where nothing that the law and all that it calls make is longer than what came in: it says more and counts as full. Else prove '..UptoSaid'. A law counts once. -/
mutual
def uptoBulk {H : Type} : DataW H → Nat
  | .lit (.string bytes) => bytes.length + 1
  | .lit _ => 1
  | .nil => 1
  | .ptr d => uptoBulk d + 1
  | .slice elems spare => uptoBulkAll elems + uptoBulkAll spare + 1
  | .agg parts => uptoBulkAll parts + 1
  | .iface _ d => uptoBulk d + 1
  | .map entries => uptoBulkEntries entries + 1
  | .held _ => 1
def uptoBulkAll {H : Type} : List (DataW H) → Nat
  | [] => 0
  | d :: r => uptoBulk d + uptoBulkAll r
def uptoBulkEntries {H : Type} : List (Lit × DataW H) → Nat
  | [] => 0
  | x :: r => uptoBulkEntry x + uptoBulkEntries r
def uptoBulkEntry {H : Type} : Lit × DataW H → Nat
  | (.string bytes, d) => bytes.length + uptoBulk d + 1
  | (_, d) => uptoBulk d + 1
 end
def uptoSmall : (H : Type) → List (DataW H) → Bool := fun _ ds => decide (uptoBulkAll ds ≤ 1048576)
def OpenSpec.upto (s : _root_.Go.ChangeSpec) : _root_.Go.OpenSpec := { _root_.Go.OpenSpec.ofChange s with cond := some uptoSmall }

/-- 'calquelaw06.DistanceWords', WHERE WHAT IT READS IS OF BULK AT MOST 1048576: true; the input reads as it did. -/
def distanceWordsUptoRow : OpenClaim := { program := "ytbcpeoomkhcgnaa", sum := "f1c57ad10bb1a60daee93cebfe3c8924ce2094ebe4ccb200c2c514549fef809c", func := "calque/calquelaw06.DistanceWords", spec := "distanceWords", unfollowed := true, recurses := true, apart := false, narrowed := true }
def DistanceWordsUptoSaid : Prop := distanceWordsUptoRow.holds Try.pinned (OpenSpec.upto distanceWordsSpec)

/-- 'calquelaw06.DistanceParts', WHERE WHAT IT READS IS OF BULK AT MOST 1048576: true; the input reads as it did. -/
def distancePartsUptoRow : OpenClaim := { program := "ytbcpeoomkhcgnaa", sum := "f1c57ad10bb1a60daee93cebfe3c8924ce2094ebe4ccb200c2c514549fef809c", func := "calque/calquelaw06.DistanceParts", spec := "distanceParts", unfollowed := true, recurses := true, apart := false, narrowed := true }
def DistancePartsUptoSaid : Prop := distancePartsUptoRow.holds Try.pinned (OpenSpec.upto distancePartsSpec)

/-- 'calquelaw06.DistanceLists', WHERE WHAT IT READS IS OF BULK AT MOST 1048576: true; the input reads as it did. -/
def distanceListsUptoRow : OpenClaim := { program := "ytbcpeoomkhcgnaa", sum := "f1c57ad10bb1a60daee93cebfe3c8924ce2094ebe4ccb200c2c514549fef809c", func := "calque/calquelaw06.DistanceLists", spec := "distanceLists", unfollowed := true, recurses := true, apart := false, narrowed := true }
def DistanceListsUptoSaid : Prop := distanceListsUptoRow.holds Try.pinned (OpenSpec.upto distanceListsSpec)

/-- 'calquelaw06.DistanceAligns', WHERE WHAT IT READS IS OF BULK AT MOST 1048576: true; the input reads as it did. -/
def distanceAlignsUptoRow : OpenClaim := { program := "ytbcpeoomkhcgnaa", sum := "f1c57ad10bb1a60daee93cebfe3c8924ce2094ebe4ccb200c2c514549fef809c", func := "calque/calquelaw06.DistanceAligns", spec := "distanceAligns", unfollowed := true, recurses := true, apart := false, narrowed := true }
def DistanceAlignsUptoSaid : Prop := distanceAlignsUptoRow.holds Try.pinned (OpenSpec.upto distanceAlignsSpec)

/-- 'calquelaw06.DistanceLeast', WHERE WHAT IT READS IS OF BULK AT MOST 1048576: true; the input reads as it did. -/
def distanceLeastUptoRow : OpenClaim := { program := "ytbcpeoomkhcgnaa", sum := "f1c57ad10bb1a60daee93cebfe3c8924ce2094ebe4ccb200c2c514549fef809c", func := "calque/calquelaw06.DistanceLeast", spec := "distanceLeast", unfollowed := true, recurses := true, apart := false, narrowed := true }
def DistanceLeastUptoSaid : Prop := distanceLeastUptoRow.holds Try.pinned (OpenSpec.upto distanceLeastSpec)

/-- 'calquelaw06.DistanceMetric', WHERE WHAT IT READS IS OF BULK AT MOST 1048576: true; the input reads as it did. -/
def distanceMetricUptoRow : OpenClaim := { program := "ytbcpeoomkhcgnaa", sum := "f1c57ad10bb1a60daee93cebfe3c8924ce2094ebe4ccb200c2c514549fef809c", func := "calque/calquelaw06.DistanceMetric", spec := "distanceMetric", unfollowed := true, recurses := true, apart := false, narrowed := true }
def DistanceMetricUptoSaid : Prop := distanceMetricUptoRow.holds Try.pinned (OpenSpec.upto distanceMetricSpec)

/-- 'calquelaw06.DistanceGrows', WHERE WHAT IT READS IS OF BULK AT MOST 1048576: true; the input reads as it did. -/
def distanceGrowsUptoRow : OpenClaim := { program := "ytbcpeoomkhcgnaa", sum := "f1c57ad10bb1a60daee93cebfe3c8924ce2094ebe4ccb200c2c514549fef809c", func := "calque/calquelaw06.DistanceGrows", spec := "distanceGrows", unfollowed := true, recurses := true, apart := false, narrowed := true }
def DistanceGrowsUptoSaid : Prop := distanceGrowsUptoRow.holds Try.pinned (OpenSpec.upto distanceGrowsSpec)

end Rows
end Go.Proofs.Ytbcpeoomkhcgnaa
