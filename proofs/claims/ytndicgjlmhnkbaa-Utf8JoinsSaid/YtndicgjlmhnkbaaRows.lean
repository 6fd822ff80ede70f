/-
  No cell of these rows narrows 'for every input' (looked for: loops, veiled, ifaces, maps, wideKeys, modest, calm, conditions, laid).
  DERIVED. THE GIVEN ROWS OF THIS SEAT. 8 by the template 'for every input the law returns true; each argument reads behind the call as it read before'; 0 by the template 'total and deterministic' (their statements: YtndicgjlmhnkbaaTotals.lean).
  GIVEN WITH THE SEED: the statements are not yours to turn. If you find one false, say at which input.
  Laid BY PROGRAM, IN A SANDBOX (cutbox-rows.mjs): the forced cells as the released guide's own fill.sh prints them over the translation 15101b8cbefe4fa9… (all of the seat's roots in one cut). By AI agents, Wed Nov 11 2026. No macro, syntax, notation, axiom, sorry.
-/
import Derived.Test.YtndicgjlmhnkbaaChecked
import GoSem.Claim
import GoSem.ClaimJoined
import GoSem.ClaimMapViews
import Derived.JoinedTies
import Derived.KernelRfl
namespace Go.Proofs.Ytndicgjlmhnkbaa
/- THE CELL 'sum', in the pinned program and in every row, IS THE sha256 OF THE DUMP (.gsa) THAT YtndicgjlmhnkbaaProg.lean LOADS. Nothing in Lean hashes anything: it is a label: what it is worth is what the hold of that sum in a sandbox is worth. -/
noncomputable def Try.pinned : Pinned := { name := "ytndicgjlmhnkbaa", sum := "15101b8cbefe4fa9b258e57b95cd6fa8f0ab4c6ba5e6199271acf829778ef419", checked := Try.checked }
namespace Rows
def none {H : Type} : Left H := { results := [], args := [] }

/-- 'calquelaw01.Utf8Decode': WHATEVER THE INPUT: true; the input reads as it did. -/
def utf8DecodeSpec : ChangeSpec := { name := "utf8Decode", fn := fun _ => fun
  | [d] => { results := [.lit (.bool true)], args := [d] }
  | _ => none }
def utf8DecodeRow : OpenClaim := { program := "ytndicgjlmhnkbaa", sum := "15101b8cbefe4fa9b258e57b95cd6fa8f0ab4c6ba5e6199271acf829778ef419", func := "calque/calquelaw01.Utf8Decode", spec := "utf8Decode", unfollowed := true, recurses := true, apart := false }
def Utf8DecodeSaid : Prop := utf8DecodeRow.holds Try.pinned (OpenSpec.ofChange utf8DecodeSpec)

/-- ITS FALSE NEIGHBOUR: 'it returns false'. Refute it at one input. -/
def utf8DecodeWrong : ChangeSpec := { name := "utf8Decode", fn := fun _ => fun
  | [d] => { results := [.lit (.bool false)], args := [d] }
  | _ => none }
def Utf8DecodeWrongFalsely : Prop := utf8DecodeRow.holds Try.pinned (OpenSpec.ofChange utf8DecodeWrong)

/-- 'calquelaw01.Utf8Encode': WHATEVER THE INPUT: true; the input reads as it did. -/
def utf8EncodeSpec : ChangeSpec := { name := "utf8Encode", fn := fun _ => fun
  | [d] => { results := [.lit (.bool true)], args := [d] }
  | _ => none }
def utf8EncodeRow : OpenClaim := { program := "ytndicgjlmhnkbaa", sum := "15101b8cbefe4fa9b258e57b95cd6fa8f0ab4c6ba5e6199271acf829778ef419", func := "calque/calquelaw01.Utf8Encode", spec := "utf8Encode", unfollowed := true, recurses := true, apart := false }
def Utf8EncodeSaid : Prop := utf8EncodeRow.holds Try.pinned (OpenSpec.ofChange utf8EncodeSpec)

/-- ITS FALSE NEIGHBOUR: 'it returns false'. Refute it at one input. -/
def utf8EncodeWrong : ChangeSpec := { name := "utf8Encode", fn := fun _ => fun
  | [d] => { results := [.lit (.bool false)], args := [d] }
  | _ => none }
def Utf8EncodeWrongFalsely : Prop := utf8EncodeRow.holds Try.pinned (OpenSpec.ofChange utf8EncodeWrong)

/-- 'calquelaw01.Utf8Inverse': WHATEVER THE INPUT: true; the input reads as it did. -/
def utf8InverseSpec : ChangeSpec := { name := "utf8Inverse", fn := fun _ => fun
  | [d] => { results := [.lit (.bool true)], args := [d] }
  | _ => none }
def utf8InverseRow : OpenClaim := { program := "ytndicgjlmhnkbaa", sum := "15101b8cbefe4fa9b258e57b95cd6fa8f0ab4c6ba5e6199271acf829778ef419", func := "calque/calquelaw01.Utf8Inverse", spec := "utf8Inverse", unfollowed := true, recurses := true, apart := false }
def Utf8InverseSaid : Prop := utf8InverseRow.holds Try.pinned (OpenSpec.ofChange utf8InverseSpec)

/-- ITS FALSE NEIGHBOUR: 'it returns false'. Refute it at one input. -/
def utf8InverseWrong : ChangeSpec := { name := "utf8Inverse", fn := fun _ => fun
  | [d] => { results := [.lit (.bool false)], args := [d] }
  | _ => none }
def Utf8InverseWrongFalsely : Prop := utf8InverseRow.holds Try.pinned (OpenSpec.ofChange utf8InverseWrong)

/-- 'calquelaw01.Utf8Joins': WHATEVER THE INPUT: true; the input reads as it did. -/
def utf8JoinsSpec : ChangeSpec := { name := "utf8Joins", fn := fun _ => fun
  | [d1, d2] => { results := [.lit (.bool true)], args := [d1, d2] }
  | _ => none }
def utf8JoinsRow : OpenClaim := { program := "ytndicgjlmhnkbaa", sum := "15101b8cbefe4fa9b258e57b95cd6fa8f0ab4c6ba5e6199271acf829778ef419", func := "calque/calquelaw01.Utf8Joins", spec := "utf8Joins", unfollowed := true, recurses := true, apart := false }
def Utf8JoinsSaid : Prop := utf8JoinsRow.holds Try.pinned (OpenSpec.ofChange utf8JoinsSpec)

/-- ITS FALSE NEIGHBOUR: 'it returns false'. Refute it at one input. -/
def utf8JoinsWrong : ChangeSpec := { name := "utf8Joins", fn := fun _ => fun
  | [d1, d2] => { results := [.lit (.bool false)], args := [d1, d2] }
  | _ => none }
def Utf8JoinsWrongFalsely : Prop := utf8JoinsRow.holds Try.pinned (OpenSpec.ofChange utf8JoinsWrong)

/-- 'calquelaw01.Utf8At': WHATEVER THE INPUT: true; the input reads as it did. -/
def utf8AtSpec : ChangeSpec := { name := "utf8At", fn := fun _ => fun
  | [d1, d2] => { results := [.lit (.bool true)], args := [d1, d2] }
  | _ => none }
def utf8AtRow : OpenClaim := { program := "ytndicgjlmhnkbaa", sum := "15101b8cbefe4fa9b258e57b95cd6fa8f0ab4c6ba5e6199271acf829778ef419", func := "calque/calquelaw01.Utf8At", spec := "utf8At", unfollowed := true, recurses := true, apart := false }
def Utf8AtSaid : Prop := utf8AtRow.holds Try.pinned (OpenSpec.ofChange utf8AtSpec)

/-- ITS FALSE NEIGHBOUR: 'it returns false'. Refute it at one input. -/
def utf8AtWrong : ChangeSpec := { name := "utf8At", fn := fun _ => fun
  | [d1, d2] => { results := [.lit (.bool false)], args := [d1, d2] }
  | _ => none }
def Utf8AtWrongFalsely : Prop := utf8AtRow.holds Try.pinned (OpenSpec.ofChange utf8AtWrong)

/-- 'calquelaw01.Utf8Offset': WHATEVER THE INPUT: true; the input reads as it did. -/
def utf8OffsetSpec : ChangeSpec := { name := "utf8Offset", fn := fun _ => fun
  | [d1, d2, d3] => { results := [.lit (.bool true)], args := [d1, d2, d3] }
  | _ => none }
def utf8OffsetRow : OpenClaim := { program := "ytndicgjlmhnkbaa", sum := "15101b8cbefe4fa9b258e57b95cd6fa8f0ab4c6ba5e6199271acf829778ef419", func := "calque/calquelaw01.Utf8Offset", spec := "utf8Offset", unfollowed := true, recurses := true, apart := false }
def Utf8OffsetSaid : Prop := utf8OffsetRow.holds Try.pinned (OpenSpec.ofChange utf8OffsetSpec)

/-- ITS FALSE NEIGHBOUR: 'it returns false'. Refute it at one input. -/
def utf8OffsetWrong : ChangeSpec := { name := "utf8Offset", fn := fun _ => fun
  | [d1, d2, d3] => { results := [.lit (.bool false)], args := [d1, d2, d3] }
  | _ => none }
def Utf8OffsetWrongFalsely : Prop := utf8OffsetRow.holds Try.pinned (OpenSpec.ofChange utf8OffsetWrong)

/-- 'calquelaw01.Utf8Positions': WHATEVER THE INPUT: true; the input reads as it did. -/
def utf8PositionsSpec : ChangeSpec := { name := "utf8Positions", fn := fun _ => fun
  | [d] => { results := [.lit (.bool true)], args := [d] }
  | _ => none }
def utf8PositionsRow : OpenClaim := { program := "ytndicgjlmhnkbaa", sum := "15101b8cbefe4fa9b258e57b95cd6fa8f0ab4c6ba5e6199271acf829778ef419", func := "calque/calquelaw01.Utf8Positions", spec := "utf8Positions", unfollowed := true, recurses := true, apart := false }
def Utf8PositionsSaid : Prop := utf8PositionsRow.holds Try.pinned (OpenSpec.ofChange utf8PositionsSpec)

/-- ITS FALSE NEIGHBOUR: 'it returns false'. Refute it at one input. -/
def utf8PositionsWrong : ChangeSpec := { name := "utf8Positions", fn := fun _ => fun
  | [d] => { results := [.lit (.bool false)], args := [d] }
  | _ => none }
def Utf8PositionsWrongFalsely : Prop := utf8PositionsRow.holds Try.pinned (OpenSpec.ofChange utf8PositionsWrong)

/-- 'calquelaw01.Utf8First': WHATEVER THE INPUT: true; the input reads as it did. -/
def utf8FirstSpec : ChangeSpec := { name := "utf8First", fn := fun _ => fun
  | [d1, d2] => { results := [.lit (.bool true)], args := [d1, d2] }
  | _ => none }
def utf8FirstRow : OpenClaim := { program := "ytndicgjlmhnkbaa", sum := "15101b8cbefe4fa9b258e57b95cd6fa8f0ab4c6ba5e6199271acf829778ef419", func := "calque/calquelaw01.Utf8First", spec := "utf8First", unfollowed := true, recurses := true, apart := false }
def Utf8FirstSaid : Prop := utf8FirstRow.holds Try.pinned (OpenSpec.ofChange utf8FirstSpec)

/-- ITS FALSE NEIGHBOUR: 'it returns false'. Refute it at one input. -/
def utf8FirstWrong : ChangeSpec := { name := "utf8First", fn := fun _ => fun
  | [d1, d2] => { results := [.lit (.bool false)], args := [d1, d2] }
  | _ => none }
def Utf8FirstWrongFalsely : Prop := utf8FirstRow.holds Try.pinned (OpenSpec.ofChange utf8FirstWrong)

/- THE SECOND FORM. 'bulk': how many values and letters a reading holds, each counted each time it is reached (what is shared counts as often as it is met; a slice's spare places count too). A statement '..UptoSaid' is the law's where the arguments, and the package variables that the reading takes, are together of bulk at most 1048576: NARROWER than '..Said'. Prove '..Said' where nothing that the law and all that it calls make is longer than what came in: it says more and counts as full. Else prove '..UptoSaid'. A law counts once. -/
mutual
def uptoBulk {H : Type} : DataW H → Nat
  | .lit (.string bytes) => bytes.length + 1
  | .lit _ => 1
  | .nil => 1
  | .ptr d => uptoBulk d + 1
  | .slice elems spare => uptoBulkAll elems + uptoBulkAll spare + 1
  | .agg parts => uptoBulkAll parts + 1
  | .iface _ d => uptoBulk d + 1
  | .map entries => uptoBulkEntries entries + 1
  | .held _ => 1
def uptoBulkAll {H : Type} : List (DataW H) → Nat
  | [] => 0
  | d :: r => uptoBulk d + uptoBulkAll r
def uptoBulkEntries {H : Type} : List (Lit × DataW H) → Nat
  | [] => 0
  | x :: r => uptoBulkEntry x + uptoBulkEntries r
def uptoBulkEntry {H : Type} : Lit × DataW H → Nat
  | (.string bytes, d) => bytes.length + uptoBulk d + 1
  | (_, d) => uptoBulk d + 1
 end
def uptoSmall : (H : Type) → List (DataW H) → Bool := fun _ ds => decide (uptoBulkAll ds ≤ 1048576)
def OpenSpec.upto (s : _root_.Go.ChangeSpec) : _root_.Go.OpenSpec := { _root_.Go.OpenSpec.ofChange s with cond := some uptoSmall }

/-- 'calquelaw01.Utf8Decode', WHERE WHAT IT READS IS OF BULK AT MOST 1048576: true; the input reads as it did. -/
def utf8DecodeUptoRow : OpenClaim := { program := "ytndicgjlmhnkbaa", sum := "15101b8cbefe4fa9b258e57b95cd6fa8f0ab4c6ba5e6199271acf829778ef419", func := "calque/calquelaw01.Utf8Decode", spec := "utf8Decode", unfollowed := true, recurses := true, apart := false, narrowed := true }
def Utf8DecodeUptoSaid : Prop := utf8DecodeUptoRow.holds Try.pinned (OpenSpec.upto utf8DecodeSpec)

/-- 'calquelaw01.Utf8Encode', WHERE WHAT IT READS IS OF BULK AT MOST 1048576: true; the input reads as it did. -/
def utf8EncodeUptoRow : OpenClaim := { program := "ytndicgjlmhnkbaa", sum := "15101b8cbefe4fa9b258e57b95cd6fa8f0ab4c6ba5e6199271acf829778ef419", func := "calque/calquelaw01.Utf8Encode", spec := "utf8Encode", unfollowed := true, recurses := true, apart := false, narrowed := true }
def Utf8EncodeUptoSaid : Prop := utf8EncodeUptoRow.holds Try.pinned (OpenSpec.upto utf8EncodeSpec)

/-- 'calquelaw01.Utf8Inverse', WHERE WHAT IT READS IS OF BULK AT MOST 1048576: true; the input reads as it did. -/
def utf8InverseUptoRow : OpenClaim := { program := "ytndicgjlmhnkbaa", sum := "15101b8cbefe4fa9b258e57b95cd6fa8f0ab4c6ba5e6199271acf829778ef419", func := "calque/calquelaw01.Utf8Inverse", spec := "utf8Inverse", unfollowed := true, recurses := true, apart := false, narrowed := true }
def Utf8InverseUptoSaid : Prop := utf8InverseUptoRow.holds Try.pinned (OpenSpec.upto utf8InverseSpec)

/-- 'calquelaw01.Utf8Joins', WHERE WHAT IT READS IS OF BULK AT MOST 1048576: true; the input reads as it did. -/
def utf8JoinsUptoRow : OpenClaim := { program := "ytndicgjlmhnkbaa", sum := "15101b8cbefe4fa9b258e57b95cd6fa8f0ab4c6ba5e6199271acf829778ef419", func := "calque/calquelaw01.Utf8Joins", spec := "utf8Joins", unfollowed := true, recurses := true, apart := false, narrowed := true }
def Utf8JoinsUptoSaid : Prop := utf8JoinsUptoRow.holds Try.pinned (OpenSpec.upto utf8JoinsSpec)

/-- 'calquelaw01.Utf8At', WHERE WHAT IT READS IS OF BULK AT MOST 1048576: true; the input reads as it did. -/
def utf8AtUptoRow : OpenClaim := { program := "ytndicgjlmhnkbaa", sum := "15101b8cbefe4fa9b258e57b95cd6fa8f0ab4c6ba5e6199271acf829778ef419", func := "calque/calquelaw01.Utf8At", spec := "utf8At", unfollowed := true, recurses := true, apart := false, narrowed := true }
def Utf8AtUptoSaid : Prop := utf8AtUptoRow.holds Try.pinned (OpenSpec.upto utf8AtSpec)

/-- 'calquelaw01.Utf8Offset', WHERE WHAT IT READS IS OF BULK AT MOST 1048576: true; the input reads as it did. -/
def utf8OffsetUptoRow : OpenClaim := { program := "ytndicgjlmhnkbaa", sum := "15101b8cbefe4fa9b258e57b95cd6fa8f0ab4c6ba5e6199271acf829778ef419", func := "calque/calquelaw01.Utf8Offset", spec := "utf8Offset", unfollowed := true, recurses := true, apart := false, narrowed := true }
def Utf8OffsetUptoSaid : Prop := utf8OffsetUptoRow.holds Try.pinned (OpenSpec.upto utf8OffsetSpec)

/-- 'calquelaw01.Utf8Positions', WHERE WHAT IT READS IS OF BULK AT MOST 1048576: true; the input reads as it did. -/
def utf8PositionsUptoRow : OpenClaim := { program := "ytndicgjlmhnkbaa", sum := "15101b8cbefe4fa9b258e57b95cd6fa8f0ab4c6ba5e6199271acf829778ef419", func := "calque/calquelaw01.Utf8Positions", spec := "utf8Positions", unfollowed := true, recurses := true, apart := false, narrowed := true }
def Utf8PositionsUptoSaid : Prop := utf8PositionsUptoRow.holds Try.pinned (OpenSpec.upto utf8PositionsSpec)

/-- 'calquelaw01.Utf8First', WHERE WHAT IT READS IS OF BULK AT MOST 1048576: true; the input reads as it did. -/
def utf8FirstUptoRow : OpenClaim := { program := "ytndicgjlmhnkbaa", sum := "15101b8cbefe4fa9b258e57b95cd6fa8f0ab4c6ba5e6199271acf829778ef419", func := "calque/calquelaw01.Utf8First", spec := "utf8First", unfollowed := true, recurses := true, apart := false, narrowed := true }
def Utf8FirstUptoSaid : Prop := utf8FirstUptoRow.holds Try.pinned (OpenSpec.upto utf8FirstSpec)

end Rows
end Go.Proofs.Ytndicgjlmhnkbaa
