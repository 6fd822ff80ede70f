/-
  No cell of these rows narrows 'for every input' (looked for: loops, veiled, ifaces, maps, wideKeys, modest, calm, conditions, laid).
  DERIVED. THE GIVEN ROWS OF THIS SEAT. 7 by the template 'for every input the law returns true; each argument reads behind the call as it read before'; 0 by the template 'total and deterministic' (their statements: YtglllbodhdgahaaTotals.lean).
  GIVEN WITH THE SEED: the statements are not yours to turn. If you find one false, say at which input.
  Laid BY PROGRAM, IN A SANDBOX (cutbox-rows.mjs): the forced cells as the released guide's own fill.sh prints them over the translation ea721739714dc1f4… (all of the seat's roots in one cut). By AI agents, Wed Nov 11 2026. No macro, syntax, notation, axiom, sorry.
-/
import Derived.Test.YtglllbodhdgahaaChecked
import GoSem.Claim
import GoSem.ClaimJoined
import GoSem.ClaimMapViews
import Derived.JoinedTies
import Derived.KernelRfl
namespace Go.Proofs.Ytglllbodhdgahaa
/- THE CELL 'sum', in the pinned program and in every row, IS THE sha256 OF THE DUMP (.gsa) THAT YtglllbodhdgahaaProg.lean LOADS. Nothing in Lean hashes anything: it is a label: what it is worth is what the hold of that sum in a sandbox is worth. -/
noncomputable def Try.pinned : Pinned := { name := "ytglllbodhdgahaa", sum := "ea721739714dc1f4acb4468d32ef80750df60d655392a4f406ac8859f5ed8d49", checked := Try.checked }
namespace Rows
def none {H : Type} : Left H := { results := [], args := [] }

/-- 'calquelaw04.PackWrites': WHATEVER THE INPUT: true; the input reads as it did. -/
def packWritesSpec : ChangeSpec := { name := "packWrites", fn := fun _ => fun
  | [d1, d2, d3] => { results := [.lit (.bool true)], args := [d1, d2, d3] }
  | _ => none }
def packWritesRow : OpenClaim := { program := "ytglllbodhdgahaa", sum := "ea721739714dc1f4acb4468d32ef80750df60d655392a4f406ac8859f5ed8d49", func := "calque/calquelaw04.PackWrites", spec := "packWrites", apart := false }
def PackWritesSaid : Prop := packWritesRow.holds Try.pinned (OpenSpec.ofChange packWritesSpec)

/-- ITS FALSE NEIGHBOUR: 'it returns false'. Refute it at one input. -/
def packWritesWrong : ChangeSpec := { name := "packWrites", fn := fun _ => fun
  | [d1, d2, d3] => { results := [.lit (.bool false)], args := [d1, d2, d3] }
  | _ => none }
def PackWritesWrongFalsely : Prop := packWritesRow.holds Try.pinned (OpenSpec.ofChange packWritesWrong)

/-- 'calquelaw04.PackReads': WHATEVER THE INPUT: true; the input reads as it did. -/
def packReadsSpec : ChangeSpec := { name := "packReads", fn := fun _ => fun
  | [d1, d2] => { results := [.lit (.bool true)], args := [d1, d2] }
  | _ => none }
def packReadsRow : OpenClaim := { program := "ytglllbodhdgahaa", sum := "ea721739714dc1f4acb4468d32ef80750df60d655392a4f406ac8859f5ed8d49", func := "calque/calquelaw04.PackReads", spec := "packReads", unfollowed := true, recurses := true, apart := false }
def PackReadsSaid : Prop := packReadsRow.holds Try.pinned (OpenSpec.ofChange packReadsSpec)

/-- ITS FALSE NEIGHBOUR: 'it returns false'. Refute it at one input. -/
def packReadsWrong : ChangeSpec := { name := "packReads", fn := fun _ => fun
  | [d1, d2] => { results := [.lit (.bool false)], args := [d1, d2] }
  | _ => none }
def PackReadsWrongFalsely : Prop := packReadsRow.holds Try.pinned (OpenSpec.ofChange packReadsWrong)

/-- 'calquelaw04.PackInverse': WHATEVER THE INPUT: true; the input reads as it did. -/
def packInverseSpec : ChangeSpec := { name := "packInverse", fn := fun _ => fun
  | [d1, d2, d3] => { results := [.lit (.bool true)], args := [d1, d2, d3] }
  | _ => none }
def packInverseRow : OpenClaim := { program := "ytglllbodhdgahaa", sum := "ea721739714dc1f4acb4468d32ef80750df60d655392a4f406ac8859f5ed8d49", func := "calque/calquelaw04.PackInverse", spec := "packInverse", unfollowed := true, recurses := true, apart := false }
def PackInverseSaid : Prop := packInverseRow.holds Try.pinned (OpenSpec.ofChange packInverseSpec)

/-- ITS FALSE NEIGHBOUR: 'it returns false'. Refute it at one input. -/
def packInverseWrong : ChangeSpec := { name := "packInverse", fn := fun _ => fun
  | [d1, d2, d3] => { results := [.lit (.bool false)], args := [d1, d2, d3] }
  | _ => none }
def PackInverseWrongFalsely : Prop := packInverseRow.holds Try.pinned (OpenSpec.ofChange packInverseWrong)

/-- 'calquelaw04.PackCanonical': WHATEVER THE INPUT: true; the input reads as it did. -/
def packCanonicalSpec : ChangeSpec := { name := "packCanonical", fn := fun _ => fun
  | [d] => { results := [.lit (.bool true)], args := [d] }
  | _ => none }
def packCanonicalRow : OpenClaim := { program := "ytglllbodhdgahaa", sum := "ea721739714dc1f4acb4468d32ef80750df60d655392a4f406ac8859f5ed8d49", func := "calque/calquelaw04.PackCanonical", spec := "packCanonical", unfollowed := true, recurses := true, apart := false }
def PackCanonicalSaid : Prop := packCanonicalRow.holds Try.pinned (OpenSpec.ofChange packCanonicalSpec)

/-- ITS FALSE NEIGHBOUR: 'it returns false'. Refute it at one input. -/
def packCanonicalWrong : ChangeSpec := { name := "packCanonical", fn := fun _ => fun
  | [d] => { results := [.lit (.bool false)], args := [d] }
  | _ => none }
def PackCanonicalWrongFalsely : Prop := packCanonicalRow.holds Try.pinned (OpenSpec.ofChange packCanonicalWrong)

/-- 'calquelaw04.PackPrefix': WHATEVER THE INPUT: true; the input reads as it did. -/
def packPrefixSpec : ChangeSpec := { name := "packPrefix", fn := fun _ => fun
  | [d1, d2, d3] => { results := [.lit (.bool true)], args := [d1, d2, d3] }
  | _ => none }
def packPrefixRow : OpenClaim := { program := "ytglllbodhdgahaa", sum := "ea721739714dc1f4acb4468d32ef80750df60d655392a4f406ac8859f5ed8d49", func := "calque/calquelaw04.PackPrefix", spec := "packPrefix", unfollowed := true, recurses := true, apart := false }
def PackPrefixSaid : Prop := packPrefixRow.holds Try.pinned (OpenSpec.ofChange packPrefixSpec)

/-- ITS FALSE NEIGHBOUR: 'it returns false'. Refute it at one input. -/
def packPrefixWrong : ChangeSpec := { name := "packPrefix", fn := fun _ => fun
  | [d1, d2, d3] => { results := [.lit (.bool false)], args := [d1, d2, d3] }
  | _ => none }
def PackPrefixWrongFalsely : Prop := packPrefixRow.holds Try.pinned (OpenSpec.ofChange packPrefixWrong)

/-- 'calquelaw04.PackBounds': WHATEVER THE INPUT: true; the input reads as it did. -/
def packBoundsSpec : ChangeSpec := { name := "packBounds", fn := fun _ => fun
  | [d1, d2, d3] => { results := [.lit (.bool true)], args := [d1, d2, d3] }
  | _ => none }
def packBoundsRow : OpenClaim := { program := "ytglllbodhdgahaa", sum := "ea721739714dc1f4acb4468d32ef80750df60d655392a4f406ac8859f5ed8d49", func := "calque/calquelaw04.PackBounds", spec := "packBounds", apart := false }
def PackBoundsSaid : Prop := packBoundsRow.holds Try.pinned (OpenSpec.ofChange packBoundsSpec)

/-- ITS FALSE NEIGHBOUR: 'it returns false'. Refute it at one input. -/
def packBoundsWrong : ChangeSpec := { name := "packBounds", fn := fun _ => fun
  | [d1, d2, d3] => { results := [.lit (.bool false)], args := [d1, d2, d3] }
  | _ => none }
def PackBoundsWrongFalsely : Prop := packBoundsRow.holds Try.pinned (OpenSpec.ofChange packBoundsWrong)

/-- 'calquelaw04.PackNil': WHATEVER THE INPUT: true; the input reads as it did. -/
def packNilSpec : ChangeSpec := { name := "packNil", fn := fun _ => fun
  | [d1, d2] => { results := [.lit (.bool true)], args := [d1, d2] }
  | _ => none }
def packNilRow : OpenClaim := { program := "ytglllbodhdgahaa", sum := "ea721739714dc1f4acb4468d32ef80750df60d655392a4f406ac8859f5ed8d49", func := "calque/calquelaw04.PackNil", spec := "packNil", unfollowed := true, recurses := true, apart := false }
def PackNilSaid : Prop := packNilRow.holds Try.pinned (OpenSpec.ofChange packNilSpec)

/-- ITS FALSE NEIGHBOUR: 'it returns false'. Refute it at one input. -/
def packNilWrong : ChangeSpec := { name := "packNil", fn := fun _ => fun
  | [d1, d2] => { results := [.lit (.bool false)], args := [d1, d2] }
  | _ => none }
def PackNilWrongFalsely : Prop := packNilRow.holds Try.pinned (OpenSpec.ofChange packNilWrong)

/- THE SECOND FORM. 'bulk': how many values and letters a reading holds, each counted each time it is reached (what is shared counts as often as it is met; a slice's spare places count too). A statement '..UptoSaid' is the law's where the arguments, and the package variables that the reading takes, are together of bulk at most 1048576: NARROWER than '..Said'. Prove '..Said' where nothing that the law and all that it calls make is longer than what came in: it says more and counts as full. Else prove '..UptoSaid'. A law counts once. -/
mutual
def uptoBulk {H : Type} : DataW H → Nat
  | .lit (.string bytes) => bytes.length + 1
  | .lit _ => 1
  | .nil => 1
  | .ptr d => uptoBulk d + 1
  | .slice elems spare => uptoBulkAll elems + uptoBulkAll spare + 1
  | .agg parts => uptoBulkAll parts + 1
  | .iface _ d => uptoBulk d + 1
  | .map entries => uptoBulkEntries entries + 1
  | .held _ => 1
def uptoBulkAll {H : Type} : List (DataW H) → Nat
  | [] => 0
  | d :: r => uptoBulk d + uptoBulkAll r
def uptoBulkEntries {H : Type} : List (Lit × DataW H) → Nat
  | [] => 0
  | x :: r => uptoBulkEntry x + uptoBulkEntries r
def uptoBulkEntry {H : Type} : Lit × DataW H → Nat
  | (.string bytes, d) => bytes.length + uptoBulk d + 1
  | (_, d) => uptoBulk d + 1
 end
def uptoSmall : (H : Type) → List (DataW H) → Bool := fun _ ds => decide (uptoBulkAll ds ≤ 1048576)
def OpenSpec.upto (s : _root_.Go.ChangeSpec) : _root_.Go.OpenSpec := { _root_.Go.OpenSpec.ofChange s with cond := some uptoSmall }

/-- 'calquelaw04.PackWrites', WHERE WHAT IT READS IS OF BULK AT MOST 1048576: true; the input reads as it did. -/
def packWritesUptoRow : OpenClaim := { program := "ytglllbodhdgahaa", sum := "ea721739714dc1f4acb4468d32ef80750df60d655392a4f406ac8859f5ed8d49", func := "calque/calquelaw04.PackWrites", spec := "packWrites", apart := false, narrowed := true }
def PackWritesUptoSaid : Prop := packWritesUptoRow.holds Try.pinned (OpenSpec.upto packWritesSpec)

/-- 'calquelaw04.PackReads', WHERE WHAT IT READS IS OF BULK AT MOST 1048576: true; the input reads as it did. -/
def packReadsUptoRow : OpenClaim := { program := "ytglllbodhdgahaa", sum := "ea721739714dc1f4acb4468d32ef80750df60d655392a4f406ac8859f5ed8d49", func := "calque/calquelaw04.PackReads", spec := "packReads", unfollowed := true, recurses := true, apart := false, narrowed := true }
def PackReadsUptoSaid : Prop := packReadsUptoRow.holds Try.pinned (OpenSpec.upto packReadsSpec)

/-- 'calquelaw04.PackInverse', WHERE WHAT IT READS IS OF BULK AT MOST 1048576: true; the input reads as it did. -/
def packInverseUptoRow : OpenClaim := { program := "ytglllbodhdgahaa", sum := "ea721739714dc1f4acb4468d32ef80750df60d655392a4f406ac8859f5ed8d49", func := "calque/calquelaw04.PackInverse", spec := "packInverse", unfollowed := true, recurses := true, apart := false, narrowed := true }
def PackInverseUptoSaid : Prop := packInverseUptoRow.holds Try.pinned (OpenSpec.upto packInverseSpec)

/-- 'calquelaw04.PackCanonical', WHERE WHAT IT READS IS OF BULK AT MOST 1048576: true; the input reads as it did. -/
def packCanonicalUptoRow : OpenClaim := { program := "ytglllbodhdgahaa", sum := "ea721739714dc1f4acb4468d32ef80750df60d655392a4f406ac8859f5ed8d49", func := "calque/calquelaw04.PackCanonical", spec := "packCanonical", unfollowed := true, recurses := true, apart := false, narrowed := true }
def PackCanonicalUptoSaid : Prop := packCanonicalUptoRow.holds Try.pinned (OpenSpec.upto packCanonicalSpec)

/-- 'calquelaw04.PackPrefix', WHERE WHAT IT READS IS OF BULK AT MOST 1048576: true; the input reads as it did. -/
def packPrefixUptoRow : OpenClaim := { program := "ytglllbodhdgahaa", sum := "ea721739714dc1f4acb4468d32ef80750df60d655392a4f406ac8859f5ed8d49", func := "calque/calquelaw04.PackPrefix", spec := "packPrefix", unfollowed := true, recurses := true, apart := false, narrowed := true }
def PackPrefixUptoSaid : Prop := packPrefixUptoRow.holds Try.pinned (OpenSpec.upto packPrefixSpec)

/-- 'calquelaw04.PackBounds', WHERE WHAT IT READS IS OF BULK AT MOST 1048576: true; the input reads as it did. -/
def packBoundsUptoRow : OpenClaim := { program := "ytglllbodhdgahaa", sum := "ea721739714dc1f4acb4468d32ef80750df60d655392a4f406ac8859f5ed8d49", func := "calque/calquelaw04.PackBounds", spec := "packBounds", apart := false, narrowed := true }
def PackBoundsUptoSaid : Prop := packBoundsUptoRow.holds Try.pinned (OpenSpec.upto packBoundsSpec)

/-- 'calquelaw04.PackNil', WHERE WHAT IT READS IS OF BULK AT MOST 1048576: true; the input reads as it did. -/
def packNilUptoRow : OpenClaim := { program := "ytglllbodhdgahaa", sum := "ea721739714dc1f4acb4468d32ef80750df60d655392a4f406ac8859f5ed8d49", func := "calque/calquelaw04.PackNil", spec := "packNil", unfollowed := true, recurses := true, apart := false, narrowed := true }
def PackNilUptoSaid : Prop := packNilUptoRow.holds Try.pinned (OpenSpec.upto packNilSpec)

end Rows
end Go.Proofs.Ytglllbodhdgahaa
