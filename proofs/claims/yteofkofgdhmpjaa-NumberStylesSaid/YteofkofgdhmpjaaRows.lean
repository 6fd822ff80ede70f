/-
  No cell of these rows narrows 'for every input' (looked for: loops, veiled, ifaces, maps, wideKeys, modest, calm, conditions, laid).
  DERIVED. THE GIVEN ROWS OF THIS SEAT. 3 by the template 'for every input the law returns true; each argument reads behind the call as it read before'; 0 by the template 'total and deterministic' (their statements: YteofkofgdhmpjaaTotals.lean).
  GIVEN WITH THE SEED: the statements are not yours to turn. If you find one false, say at which input.
  Laid BY PROGRAM, IN A SANDBOX (cutbox-rows.mjs): the forced cells as the released guide's own fill.sh prints them over the translation 54b44394bec29925… (all of the seat's roots in one cut). By AI agents, Wed Nov 11 2026. No macro, syntax, notation, axiom, sorry.
-/
import Derived.Test.YteofkofgdhmpjaaChecked
import GoSem.Claim
import GoSem.ClaimJoined
import GoSem.ClaimMapViews
import Derived.JoinedTies
import Derived.KernelRfl
namespace Go.Proofs.Yteofkofgdhmpjaa
/- THE CELL 'sum', in the pinned program and in every row, IS THE sha256 OF THE DUMP (.gsa) THAT YteofkofgdhmpjaaProg.lean LOADS. Nothing in Lean hashes anything: it is a label: what it is worth is what the hold of that sum in a sandbox is worth. -/
noncomputable def Try.pinned : Pinned := { name := "yteofkofgdhmpjaa", sum := "54b44394bec2992533ddcf445304831bd82b9eec31b284683af5b617bb531e23", checked := Try.checked }
namespace Rows
def none {H : Type} : Left H := { results := [], args := [] }

/-- 'calquelaw15.NumberFormat': WHATEVER THE INPUT: true; the input reads as it did. -/
def numberFormatSpec : ChangeSpec := { name := "numberFormat", fn := fun _ => fun
  | [d1, d2, d3] => { results := [.lit (.bool true)], args := [d1, d2, d3] }
  | _ => none }
def numberFormatRow : OpenClaim := { program := "yteofkofgdhmpjaa", sum := "54b44394bec2992533ddcf445304831bd82b9eec31b284683af5b617bb531e23", func := "calque/calquelaw15.NumberFormat", spec := "numberFormat", inPlace := ["internal/bytealg.IndexByteString", "internal/bytealg.IndexString", "internal/abi.NoEscape", "internal/bytealg.MakeNoZero"], recurses := true, named := ["internal/bytealg.MaxLen"], apart := false }
def NumberFormatSaid : Prop := numberFormatRow.holds Try.pinned (OpenSpec.ofChange numberFormatSpec)

/-- ITS FALSE NEIGHBOUR: 'it returns false'. Refute it at one input. -/
def numberFormatWrong : ChangeSpec := { name := "numberFormat", fn := fun _ => fun
  | [d1, d2, d3] => { results := [.lit (.bool false)], args := [d1, d2, d3] }
  | _ => none }
def NumberFormatWrongFalsely : Prop := numberFormatRow.holds Try.pinned (OpenSpec.ofChange numberFormatWrong)

/-- 'calquelaw15.NumberGroup': WHATEVER THE INPUT: true; the input reads as it did. -/
def numberGroupSpec : ChangeSpec := { name := "numberGroup", fn := fun _ => fun
  | [d1, d2] => { results := [.lit (.bool true)], args := [d1, d2] }
  | _ => none }
def numberGroupRow : OpenClaim := { program := "yteofkofgdhmpjaa", sum := "54b44394bec2992533ddcf445304831bd82b9eec31b284683af5b617bb531e23", func := "calque/calquelaw15.NumberGroup", spec := "numberGroup", inPlace := ["internal/bytealg.IndexByteString", "internal/bytealg.IndexString", "internal/abi.NoEscape", "internal/bytealg.MakeNoZero"], named := ["internal/bytealg.MaxLen"], apart := false }
def NumberGroupSaid : Prop := numberGroupRow.holds Try.pinned (OpenSpec.ofChange numberGroupSpec)

/-- ITS FALSE NEIGHBOUR: 'it returns false'. Refute it at one input. -/
def numberGroupWrong : ChangeSpec := { name := "numberGroup", fn := fun _ => fun
  | [d1, d2] => { results := [.lit (.bool false)], args := [d1, d2] }
  | _ => none }
def NumberGroupWrongFalsely : Prop := numberGroupRow.holds Try.pinned (OpenSpec.ofChange numberGroupWrong)

/-- 'calquelaw15.NumberStyles': WHATEVER THE INPUT: true; the input reads as it did. -/
def numberStylesSpec : ChangeSpec := { name := "numberStyles", fn := fun _ => fun
  | [d1, d2] => { results := [.lit (.bool true)], args := [d1, d2] }
  | _ => none }
def numberStylesRow : OpenClaim := { program := "yteofkofgdhmpjaa", sum := "54b44394bec2992533ddcf445304831bd82b9eec31b284683af5b617bb531e23", func := "calque/calquelaw15.NumberStyles", spec := "numberStyles", inPlace := ["internal/bytealg.IndexByteString", "internal/bytealg.IndexString", "internal/abi.NoEscape", "internal/bytealg.MakeNoZero"], recurses := true, named := ["internal/bytealg.MaxLen"], apart := false }
def NumberStylesSaid : Prop := numberStylesRow.holds Try.pinned (OpenSpec.ofChange numberStylesSpec)

/-- ITS FALSE NEIGHBOUR: 'it returns false'. Refute it at one input. -/
def numberStylesWrong : ChangeSpec := { name := "numberStyles", fn := fun _ => fun
  | [d1, d2] => { results := [.lit (.bool false)], args := [d1, d2] }
  | _ => none }
def NumberStylesWrongFalsely : Prop := numberStylesRow.holds Try.pinned (OpenSpec.ofChange numberStylesWrong)

/- THE SECOND FORM. 'bulk': how many values and letters a reading holds, each counted each time it is reached (what is shared counts as often as it is met; a slice's spare places count too). A statement '..UptoSaid' is the law's where the arguments, and the package variables that the reading takes, are together of bulk at most 1048576: NARROWER than '..Said'. Prove '..Said' where nothing that the law and all that it calls make is longer than what came in: it says more and counts as full. Else prove '..UptoSaid'. A law counts once. -/
mutual
def uptoBulk {H : Type} : DataW H → Nat
  | .lit (.string bytes) => bytes.length + 1
  | .lit _ => 1
  | .nil => 1
  | .ptr d => uptoBulk d + 1
  | .slice elems spare => uptoBulkAll elems + uptoBulkAll spare + 1
  | .agg parts => uptoBulkAll parts + 1
  | .iface _ d => uptoBulk d + 1
  | .map entries => uptoBulkEntries entries + 1
  | .held _ => 1
def uptoBulkAll {H : Type} : List (DataW H) → Nat
  | [] => 0
  | d :: r => uptoBulk d + uptoBulkAll r
def uptoBulkEntries {H : Type} : List (Lit × DataW H) → Nat
  | [] => 0
  | x :: r => uptoBulkEntry x + uptoBulkEntries r
def uptoBulkEntry {H : Type} : Lit × DataW H → Nat
  | (.string bytes, d) => bytes.length + uptoBulk d + 1
  | (_, d) => uptoBulk d + 1
 end
def uptoSmall : (H : Type) → List (DataW H) → Bool := fun _ ds => decide (uptoBulkAll ds ≤ 1048576)
def OpenSpec.upto (s : _root_.Go.ChangeSpec) : _root_.Go.OpenSpec := { _root_.Go.OpenSpec.ofChange s with cond := some uptoSmall }

/-- 'calquelaw15.NumberFormat', WHERE WHAT IT READS IS OF BULK AT MOST 1048576: true; the input reads as it did. -/
def numberFormatUptoRow : OpenClaim := { program := "yteofkofgdhmpjaa", sum := "54b44394bec2992533ddcf445304831bd82b9eec31b284683af5b617bb531e23", func := "calque/calquelaw15.NumberFormat", spec := "numberFormat", inPlace := ["internal/bytealg.IndexByteString", "internal/bytealg.IndexString", "internal/abi.NoEscape", "internal/bytealg.MakeNoZero"], recurses := true, named := ["internal/bytealg.MaxLen"], apart := false, narrowed := true }
def NumberFormatUptoSaid : Prop := numberFormatUptoRow.holds Try.pinned (OpenSpec.upto numberFormatSpec)

/-- 'calquelaw15.NumberGroup', WHERE WHAT IT READS IS OF BULK AT MOST 1048576: true; the input reads as it did. -/
def numberGroupUptoRow : OpenClaim := { program := "yteofkofgdhmpjaa", sum := "54b44394bec2992533ddcf445304831bd82b9eec31b284683af5b617bb531e23", func := "calque/calquelaw15.NumberGroup", spec := "numberGroup", inPlace := ["internal/bytealg.IndexByteString", "internal/bytealg.IndexString", "internal/abi.NoEscape", "internal/bytealg.MakeNoZero"], named := ["internal/bytealg.MaxLen"], apart := false, narrowed := true }
def NumberGroupUptoSaid : Prop := numberGroupUptoRow.holds Try.pinned (OpenSpec.upto numberGroupSpec)

/-- 'calquelaw15.NumberStyles', WHERE WHAT IT READS IS OF BULK AT MOST 1048576: true; the input reads as it did. -/
def numberStylesUptoRow : OpenClaim := { program := "yteofkofgdhmpjaa", sum := "54b44394bec2992533ddcf445304831bd82b9eec31b284683af5b617bb531e23", func := "calque/calquelaw15.NumberStyles", spec := "numberStyles", inPlace := ["internal/bytealg.IndexByteString", "internal/bytealg.IndexString", "internal/abi.NoEscape", "internal/bytealg.MakeNoZero"], recurses := true, named := ["internal/bytealg.MaxLen"], apart := false, narrowed := true }
def NumberStylesUptoSaid : Prop := numberStylesUptoRow.holds Try.pinned (OpenSpec.upto numberStylesSpec)

end Rows
end Go.Proofs.Yteofkofgdhmpjaa
