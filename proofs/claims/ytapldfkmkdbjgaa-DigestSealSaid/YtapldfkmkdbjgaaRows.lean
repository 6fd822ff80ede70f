/-
  No cell of these rows narrows 'for every input' (looked for: loops, veiled, ifaces, maps, wideKeys, modest, calm, conditions, laid).
  DERIVED. THE GIVEN ROWS OF THIS SEAT. 7 by the template 'for every input the law returns true; each argument reads behind the call as it read before'; 0 by the template 'total and deterministic' (their statements: YtapldfkmkdbjgaaTotals.lean).
  GIVEN WITH THE SEED: the statements are not yours to turn. If you find one false, say at which input.
  Laid BY PROGRAM, IN A SANDBOX (cutbox-rows.mjs): the forced cells as the released guide's own fill.sh prints them over the translation 083424b5d62aaea8… (all of the seat's roots in one cut). By AI agents, Wed Nov 11 2026. No macro, syntax, notation, axiom, sorry.
-/
import Derived.Test.YtapldfkmkdbjgaaChecked
import GoSem.Claim
import GoSem.ClaimJoined
import GoSem.ClaimMapViews
import Derived.JoinedTies
import Derived.KernelRfl
namespace Go.Proofs.Ytapldfkmkdbjgaa
/- THE CELL 'sum', in the pinned program and in every row, IS THE sha256 OF THE DUMP (.gsa) THAT YtapldfkmkdbjgaaProg.lean LOADS. Nothing in Lean hashes anything: it is a label: what it is worth is what the hold of that sum in a sandbox is worth. -/
noncomputable def Try.pinned : Pinned := { name := "ytapldfkmkdbjgaa", sum := "083424b5d62aaea81bade970f9392bbe0799e9d8aa05641c60ba7065d20fba01", checked := Try.checked }
namespace Rows
def none {H : Type} : Left H := { results := [], args := [] }

/-- 'calquelaw03.DigestSum': WHATEVER THE INPUT: true; the input reads as it did. -/
def digestSumSpec : ChangeSpec := { name := "digestSum", fn := fun _ => fun
  | [d1, d2] => { results := [.lit (.bool true)], args := [d1, d2] }
  | _ => none }
def digestSumRow : OpenClaim := { program := "ytapldfkmkdbjgaa", sum := "083424b5d62aaea81bade970f9392bbe0799e9d8aa05641c60ba7065d20fba01", func := "calque/calquelaw03.DigestSum", spec := "digestSum", apart := false }
def DigestSumSaid : Prop := digestSumRow.holds Try.pinned (OpenSpec.ofChange digestSumSpec)

/-- ITS FALSE NEIGHBOUR: 'it returns false'. Refute it at one input. -/
def digestSumWrong : ChangeSpec := { name := "digestSum", fn := fun _ => fun
  | [d1, d2] => { results := [.lit (.bool false)], args := [d1, d2] }
  | _ => none }
def DigestSumWrongFalsely : Prop := digestSumRow.holds Try.pinned (OpenSpec.ofChange digestSumWrong)

/-- 'calquelaw03.DigestOne': WHATEVER THE INPUT: true; the input reads as it did. -/
def digestOneSpec : ChangeSpec := { name := "digestOne", fn := fun _ => fun
  | [d1, d2, d3] => { results := [.lit (.bool true)], args := [d1, d2, d3] }
  | _ => none }
def digestOneRow : OpenClaim := { program := "ytapldfkmkdbjgaa", sum := "083424b5d62aaea81bade970f9392bbe0799e9d8aa05641c60ba7065d20fba01", func := "calque/calquelaw03.DigestOne", spec := "digestOne", apart := false }
def DigestOneSaid : Prop := digestOneRow.holds Try.pinned (OpenSpec.ofChange digestOneSpec)

/-- ITS FALSE NEIGHBOUR: 'it returns false'. Refute it at one input. -/
def digestOneWrong : ChangeSpec := { name := "digestOne", fn := fun _ => fun
  | [d1, d2, d3] => { results := [.lit (.bool false)], args := [d1, d2, d3] }
  | _ => none }
def DigestOneWrongFalsely : Prop := digestOneRow.holds Try.pinned (OpenSpec.ofChange digestOneWrong)

/-- 'calquelaw03.DigestJoins': WHATEVER THE INPUT: true; the input reads as it did. -/
def digestJoinsSpec : ChangeSpec := { name := "digestJoins", fn := fun _ => fun
  | [d1, d2, d3] => { results := [.lit (.bool true)], args := [d1, d2, d3] }
  | _ => none }
def digestJoinsRow : OpenClaim := { program := "ytapldfkmkdbjgaa", sum := "083424b5d62aaea81bade970f9392bbe0799e9d8aa05641c60ba7065d20fba01", func := "calque/calquelaw03.DigestJoins", spec := "digestJoins", apart := false }
def DigestJoinsSaid : Prop := digestJoinsRow.holds Try.pinned (OpenSpec.ofChange digestJoinsSpec)

/-- ITS FALSE NEIGHBOUR: 'it returns false'. Refute it at one input. -/
def digestJoinsWrong : ChangeSpec := { name := "digestJoins", fn := fun _ => fun
  | [d1, d2, d3] => { results := [.lit (.bool false)], args := [d1, d2, d3] }
  | _ => none }
def DigestJoinsWrongFalsely : Prop := digestJoinsRow.holds Try.pinned (OpenSpec.ofChange digestJoinsWrong)

/-- 'calquelaw03.DigestSeal': WHATEVER THE INPUT: true; the input reads as it did. -/
def digestSealSpec : ChangeSpec := { name := "digestSeal", fn := fun _ => fun
  | [d1, d2] => { results := [.lit (.bool true)], args := [d1, d2] }
  | _ => none }
def digestSealRow : OpenClaim := { program := "ytapldfkmkdbjgaa", sum := "083424b5d62aaea81bade970f9392bbe0799e9d8aa05641c60ba7065d20fba01", func := "calque/calquelaw03.DigestSeal", spec := "digestSeal", apart := false }
def DigestSealSaid : Prop := digestSealRow.holds Try.pinned (OpenSpec.ofChange digestSealSpec)

/-- ITS FALSE NEIGHBOUR: 'it returns false'. Refute it at one input. -/
def digestSealWrong : ChangeSpec := { name := "digestSeal", fn := fun _ => fun
  | [d1, d2] => { results := [.lit (.bool false)], args := [d1, d2] }
  | _ => none }
def DigestSealWrongFalsely : Prop := digestSealRow.holds Try.pinned (OpenSpec.ofChange digestSealWrong)

/-- 'calquelaw03.DigestOpen': WHATEVER THE INPUT: true; the input reads as it did. -/
def digestOpenSpec : ChangeSpec := { name := "digestOpen", fn := fun _ => fun
  | [d1, d2] => { results := [.lit (.bool true)], args := [d1, d2] }
  | _ => none }
def digestOpenRow : OpenClaim := { program := "ytapldfkmkdbjgaa", sum := "083424b5d62aaea81bade970f9392bbe0799e9d8aa05641c60ba7065d20fba01", func := "calque/calquelaw03.DigestOpen", spec := "digestOpen", apart := false }
def DigestOpenSaid : Prop := digestOpenRow.holds Try.pinned (OpenSpec.ofChange digestOpenSpec)

/-- ITS FALSE NEIGHBOUR: 'it returns false'. Refute it at one input. -/
def digestOpenWrong : ChangeSpec := { name := "digestOpen", fn := fun _ => fun
  | [d1, d2] => { results := [.lit (.bool false)], args := [d1, d2] }
  | _ => none }
def DigestOpenWrongFalsely : Prop := digestOpenRow.holds Try.pinned (OpenSpec.ofChange digestOpenWrong)

/-- 'calquelaw03.DigestDamage': WHATEVER THE INPUT: true; the input reads as it did. -/
def digestDamageSpec : ChangeSpec := { name := "digestDamage", fn := fun _ => fun
  | [d1, d2, d3] => { results := [.lit (.bool true)], args := [d1, d2, d3] }
  | _ => none }
def digestDamageRow : OpenClaim := { program := "ytapldfkmkdbjgaa", sum := "083424b5d62aaea81bade970f9392bbe0799e9d8aa05641c60ba7065d20fba01", func := "calque/calquelaw03.DigestDamage", spec := "digestDamage", apart := false }
def DigestDamageSaid : Prop := digestDamageRow.holds Try.pinned (OpenSpec.ofChange digestDamageSpec)

/-- ITS FALSE NEIGHBOUR: 'it returns false'. Refute it at one input. -/
def digestDamageWrong : ChangeSpec := { name := "digestDamage", fn := fun _ => fun
  | [d1, d2, d3] => { results := [.lit (.bool false)], args := [d1, d2, d3] }
  | _ => none }
def DigestDamageWrongFalsely : Prop := digestDamageRow.holds Try.pinned (OpenSpec.ofChange digestDamageWrong)

/-- 'calquelaw03.DigestParse': WHATEVER THE INPUT: true; the input reads as it did. -/
def digestParseSpec : ChangeSpec := { name := "digestParse", fn := fun _ => fun
  | [d1, d2] => { results := [.lit (.bool true)], args := [d1, d2] }
  | _ => none }
def digestParseRow : OpenClaim := { program := "ytapldfkmkdbjgaa", sum := "083424b5d62aaea81bade970f9392bbe0799e9d8aa05641c60ba7065d20fba01", func := "calque/calquelaw03.DigestParse", spec := "digestParse", apart := false }
def DigestParseSaid : Prop := digestParseRow.holds Try.pinned (OpenSpec.ofChange digestParseSpec)

/-- ITS FALSE NEIGHBOUR: 'it returns false'. Refute it at one input. -/
def digestParseWrong : ChangeSpec := { name := "digestParse", fn := fun _ => fun
  | [d1, d2] => { results := [.lit (.bool false)], args := [d1, d2] }
  | _ => none }
def DigestParseWrongFalsely : Prop := digestParseRow.holds Try.pinned (OpenSpec.ofChange digestParseWrong)

/- THE SECOND FORM. 'bulk': how many values and letters a reading holds, each counted each time it is reached (what is shared counts as often as it is met; a slice's spare places count too). A statement '..UptoSaid' is the law's where the arguments, and the package variables that the reading takes, are together of bulk at most 1048576: NARROWER than '..Said'. Prove '..Said' where nothing that the law and all that it calls make is longer than what came in: it says more and counts as full. Else prove '..UptoSaid'. A law counts once. -/
mutual
def uptoBulk {H : Type} : DataW H → Nat
  | .lit (.string bytes) => bytes.length + 1
  | .lit _ => 1
  | .nil => 1
  | .ptr d => uptoBulk d + 1
  | .slice elems spare => uptoBulkAll elems + uptoBulkAll spare + 1
  | .agg parts => uptoBulkAll parts + 1
  | .iface _ d => uptoBulk d + 1
  | .map entries => uptoBulkEntries entries + 1
  | .held _ => 1
def uptoBulkAll {H : Type} : List (DataW H) → Nat
  | [] => 0
  | d :: r => uptoBulk d + uptoBulkAll r
def uptoBulkEntries {H : Type} : List (Lit × DataW H) → Nat
  | [] => 0
  | x :: r => uptoBulkEntry x + uptoBulkEntries r
def uptoBulkEntry {H : Type} : Lit × DataW H → Nat
  | (.string bytes, d) => bytes.length + uptoBulk d + 1
  | (_, d) => uptoBulk d + 1
 end
def uptoSmall : (H : Type) → List (DataW H) → Bool := fun _ ds => decide (uptoBulkAll ds ≤ 1048576)
def OpenSpec.upto (s : _root_.Go.ChangeSpec) : _root_.Go.OpenSpec := { _root_.Go.OpenSpec.ofChange s with cond := some uptoSmall }

/-- 'calquelaw03.DigestSum', WHERE WHAT IT READS IS OF BULK AT MOST 1048576: true; the input reads as it did. -/
def digestSumUptoRow : OpenClaim := { program := "ytapldfkmkdbjgaa", sum := "083424b5d62aaea81bade970f9392bbe0799e9d8aa05641c60ba7065d20fba01", func := "calque/calquelaw03.DigestSum", spec := "digestSum", apart := false, narrowed := true }
def DigestSumUptoSaid : Prop := digestSumUptoRow.holds Try.pinned (OpenSpec.upto digestSumSpec)

/-- 'calquelaw03.DigestOne', WHERE WHAT IT READS IS OF BULK AT MOST 1048576: true; the input reads as it did. -/
def digestOneUptoRow : OpenClaim := { program := "ytapldfkmkdbjgaa", sum := "083424b5d62aaea81bade970f9392bbe0799e9d8aa05641c60ba7065d20fba01", func := "calque/calquelaw03.DigestOne", spec := "digestOne", apart := false, narrowed := true }
def DigestOneUptoSaid : Prop := digestOneUptoRow.holds Try.pinned (OpenSpec.upto digestOneSpec)

/-- 'calquelaw03.DigestJoins', WHERE WHAT IT READS IS OF BULK AT MOST 1048576: true; the input reads as it did. -/
def digestJoinsUptoRow : OpenClaim := { program := "ytapldfkmkdbjgaa", sum := "083424b5d62aaea81bade970f9392bbe0799e9d8aa05641c60ba7065d20fba01", func := "calque/calquelaw03.DigestJoins", spec := "digestJoins", apart := false, narrowed := true }
def DigestJoinsUptoSaid : Prop := digestJoinsUptoRow.holds Try.pinned (OpenSpec.upto digestJoinsSpec)

/-- 'calquelaw03.DigestSeal', WHERE WHAT IT READS IS OF BULK AT MOST 1048576: true; the input reads as it did. -/
def digestSealUptoRow : OpenClaim := { program := "ytapldfkmkdbjgaa", sum := "083424b5d62aaea81bade970f9392bbe0799e9d8aa05641c60ba7065d20fba01", func := "calque/calquelaw03.DigestSeal", spec := "digestSeal", apart := false, narrowed := true }
def DigestSealUptoSaid : Prop := digestSealUptoRow.holds Try.pinned (OpenSpec.upto digestSealSpec)

/-- 'calquelaw03.DigestOpen', WHERE WHAT IT READS IS OF BULK AT MOST 1048576: true; the input reads as it did. -/
def digestOpenUptoRow : OpenClaim := { program := "ytapldfkmkdbjgaa", sum := "083424b5d62aaea81bade970f9392bbe0799e9d8aa05641c60ba7065d20fba01", func := "calque/calquelaw03.DigestOpen", spec := "digestOpen", apart := false, narrowed := true }
def DigestOpenUptoSaid : Prop := digestOpenUptoRow.holds Try.pinned (OpenSpec.upto digestOpenSpec)

/-- 'calquelaw03.DigestDamage', WHERE WHAT IT READS IS OF BULK AT MOST 1048576: true; the input reads as it did. -/
def digestDamageUptoRow : OpenClaim := { program := "ytapldfkmkdbjgaa", sum := "083424b5d62aaea81bade970f9392bbe0799e9d8aa05641c60ba7065d20fba01", func := "calque/calquelaw03.DigestDamage", spec := "digestDamage", apart := false, narrowed := true }
def DigestDamageUptoSaid : Prop := digestDamageUptoRow.holds Try.pinned (OpenSpec.upto digestDamageSpec)

/-- 'calquelaw03.DigestParse', WHERE WHAT IT READS IS OF BULK AT MOST 1048576: true; the input reads as it did. -/
def digestParseUptoRow : OpenClaim := { program := "ytapldfkmkdbjgaa", sum := "083424b5d62aaea81bade970f9392bbe0799e9d8aa05641c60ba7065d20fba01", func := "calque/calquelaw03.DigestParse", spec := "digestParse", apart := false, narrowed := true }
def DigestParseUptoSaid : Prop := digestParseUptoRow.holds Try.pinned (OpenSpec.upto digestParseSpec)

end Rows
end Go.Proofs.Ytapldfkmkdbjgaa
