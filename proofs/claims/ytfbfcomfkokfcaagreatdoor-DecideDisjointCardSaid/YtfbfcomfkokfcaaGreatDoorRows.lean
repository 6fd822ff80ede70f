/-
  NARROWER THAN 'FOR EVERY INPUT', by the rows' own cells (each row's printed sentence says how): DecideAutomaton: laid · DecideAccepts: laid · DecideSatisfiable: laid · DecideTotal: laid · DecideDisjoint: laid · DecideEquivalent: laid · DecideSets: laid · DecideIntegers: laid.
  DERIVED. THE GIVEN ROWS OF THIS SEAT. 8 by the template 'for every input the law returns true; each argument reads behind the call as it read before'; 0 by the template 'total and deterministic' (their statements: YtfbfcomfkokfcaaGreatDoorTotals.lean).
  GIVEN WITH THE SEED: the statements are not yours to turn. If you find one false, say at which input.
  Laid BY PROGRAM, IN A SANDBOX (cutbox-rows.mjs): the forced cells as the released guide's own fill.sh prints them over the translation 8d890e6dd420a93c… (all of the seat's roots in one cut). By AI agents, Wed Nov 11 2026. No macro, syntax, notation, axiom, sorry.
-/
import Derived.Test.YtfbfcomfkokfcaaGreatDoorChecked
import GoSem.PinnedTables
import GoSem.Claim
import GoSem.ClaimJoined
import GoSem.ClaimMapViews
import Derived.JoinedTies
import Derived.KernelRfl
namespace Go.Proofs.YtfbfcomfkokfcaaGreatDoor
/- THE CELL 'sum', in the pinned program and in every row, IS THE sha256 OF THE DUMP (.gsa) THAT YtfbfcomfkokfcaaGreatDoorProg.lean LOADS. Nothing in Lean hashes anything: it is a label: what it is worth is what the hold of that sum in a sandbox is worth. -/
noncomputable def Tryz.pinned : Pinned := { name := "ytfbfcomfkokfcaagreatdoor", sum := "8d890e6dd420a93cafe2382e8e282042cdd3052f0b692699c8a947f354a259d8", checked := Tryz.checked }
namespace Rows
def none {H : Type} : Left H := { results := [], args := [] }

/- WHAT THE LISTED PACKAGE-LEVEL VARIABLES READ AS WHEN THE CALL BEGINS. Each datum BY PROGRAM (the guide's laid-datum.mjs) off the statement by which the dump's own 'gosem.cut.vars' lays the variable. In a bare row this is a premise. The card (YtfbfcomfkokfcaaGreatDoorCards.lean) ties it to the program's text. -/
def laid_unicode_utf8_acceptRanges {H : Type} : DataW H := .agg [.agg [.lit (.int .u8 128), .lit (.int .u8 191)], .agg [.lit (.int .u8 160), .lit (.int .u8 191)], .agg [.lit (.int .u8 128), .lit (.int .u8 159)], .agg [.lit (.int .u8 144), .lit (.int .u8 191)], .agg [.lit (.int .u8 128), .lit (.int .u8 143)], .agg [.lit (.int .u8 0), .lit (.int .u8 0)], .agg [.lit (.int .u8 0), .lit (.int .u8 0)], .agg [.lit (.int .u8 0), .lit (.int .u8 0)], .agg [.lit (.int .u8 0), .lit (.int .u8 0)], .agg [.lit (.int .u8 0), .lit (.int .u8 0)], .agg [.lit (.int .u8 0), .lit (.int .u8 0)], .agg [.lit (.int .u8 0), .lit (.int .u8 0)], .agg [.lit (.int .u8 0), .lit (.int .u8 0)], .agg [.lit (.int .u8 0), .lit (.int .u8 0)], .agg [.lit (.int .u8 0), .lit (.int .u8 0)], .agg [.lit (.int .u8 0), .lit (.int .u8 0)]]
/-- One of Go's own tables, pinned by name: the form's constant. -/
def laid_unicode_utf8_first : DataW Unit := Go.Pinned.utf8First

/-- 'calquelaw10.DecideAutomaton': WHATEVER THE INPUT: true; the input reads as it did. -/
def decideAutomatonSpec : ChangeSpec := { name := "decideAutomaton", fn := fun _ => fun
  | [d] => { results := [.lit (.bool true)], args := [d] }
  | _ => none }
def decideAutomatonRow : OpenClaim := { program := "ytfbfcomfkokfcaagreatdoor", sum := "8d890e6dd420a93cafe2382e8e282042cdd3052f0b692699c8a947f354a259d8", func := "calque/calquelaw10.DecideAutomaton", spec := "decideAutomaton", inPlace := ["internal/bytealg.CountString", "internal/bytealg.IndexByteString", "internal/bytealg.IndexString", "internal/abi.NoEscape", "internal/bytealg.MakeNoZero"], unfollowed := true, recurses := true, named := ["internal/bytealg.MaxLen", "unicode/utf8.first", "unicode/utf8.acceptRanges"], plainKeys := false, apart := false, laid := [("unicode/utf8.acceptRanges", laid_unicode_utf8_acceptRanges), ("unicode/utf8.first", laid_unicode_utf8_first)] }
def DecideAutomatonSaid : Prop := decideAutomatonRow.holds Tryz.pinned (OpenSpec.ofChange decideAutomatonSpec)

/-- ITS FALSE NEIGHBOUR: 'it returns false'. Refute it at one input. -/
def decideAutomatonWrong : ChangeSpec := { name := "decideAutomaton", fn := fun _ => fun
  | [d] => { results := [.lit (.bool false)], args := [d] }
  | _ => none }
def DecideAutomatonWrongFalsely : Prop := decideAutomatonRow.holds Tryz.pinned (OpenSpec.ofChange decideAutomatonWrong)

/-- 'calquelaw10.DecideAccepts': WHATEVER THE INPUT: true; the input reads as it did. -/
def decideAcceptsSpec : ChangeSpec := { name := "decideAccepts", fn := fun _ => fun
  | [d1, d2, d3] => { results := [.lit (.bool true)], args := [d1, d2, d3] }
  | _ => none }
def decideAcceptsRow : OpenClaim := { program := "ytfbfcomfkokfcaagreatdoor", sum := "8d890e6dd420a93cafe2382e8e282042cdd3052f0b692699c8a947f354a259d8", func := "calque/calquelaw10.DecideAccepts", spec := "decideAccepts", inPlace := ["internal/bytealg.CountString", "internal/bytealg.IndexByteString", "internal/bytealg.IndexString", "internal/abi.NoEscape", "internal/bytealg.MakeNoZero"], unfollowed := true, recurses := true, named := ["internal/bytealg.MaxLen", "unicode/utf8.first", "unicode/utf8.acceptRanges"], plainKeys := false, apart := false, laid := [("unicode/utf8.acceptRanges", laid_unicode_utf8_acceptRanges), ("unicode/utf8.first", laid_unicode_utf8_first)] }
def DecideAcceptsSaid : Prop := decideAcceptsRow.holds Tryz.pinned (OpenSpec.ofChange decideAcceptsSpec)

/-- ITS FALSE NEIGHBOUR: 'it returns false'. Refute it at one input. -/
def decideAcceptsWrong : ChangeSpec := { name := "decideAccepts", fn := fun _ => fun
  | [d1, d2, d3] => { results := [.lit (.bool false)], args := [d1, d2, d3] }
  | _ => none }
def DecideAcceptsWrongFalsely : Prop := decideAcceptsRow.holds Tryz.pinned (OpenSpec.ofChange decideAcceptsWrong)

/-- 'calquelaw10.DecideSatisfiable': WHATEVER THE INPUT: true; the input reads as it did. -/
def decideSatisfiableSpec : ChangeSpec := { name := "decideSatisfiable", fn := fun _ => fun
  | [d1, d2] => { results := [.lit (.bool true)], args := [d1, d2] }
  | _ => none }
def decideSatisfiableRow : OpenClaim := { program := "ytfbfcomfkokfcaagreatdoor", sum := "8d890e6dd420a93cafe2382e8e282042cdd3052f0b692699c8a947f354a259d8", func := "calque/calquelaw10.DecideSatisfiable", spec := "decideSatisfiable", inPlace := ["internal/bytealg.CountString", "internal/bytealg.IndexByteString", "internal/bytealg.IndexString", "internal/abi.NoEscape", "internal/bytealg.MakeNoZero"], unfollowed := true, recurses := true, named := ["internal/bytealg.MaxLen", "unicode/utf8.first", "unicode/utf8.acceptRanges"], plainKeys := false, apart := false, laid := [("unicode/utf8.acceptRanges", laid_unicode_utf8_acceptRanges), ("unicode/utf8.first", laid_unicode_utf8_first)] }
def DecideSatisfiableSaid : Prop := decideSatisfiableRow.holds Tryz.pinned (OpenSpec.ofChange decideSatisfiableSpec)

/-- ITS FALSE NEIGHBOUR: 'it returns false'. Refute it at one input. -/
def decideSatisfiableWrong : ChangeSpec := { name := "decideSatisfiable", fn := fun _ => fun
  | [d1, d2] => { results := [.lit (.bool false)], args := [d1, d2] }
  | _ => none }
def DecideSatisfiableWrongFalsely : Prop := decideSatisfiableRow.holds Tryz.pinned (OpenSpec.ofChange decideSatisfiableWrong)

/-- 'calquelaw10.DecideTotal': WHATEVER THE INPUT: true; the input reads as it did. -/
def decideTotalSpec : ChangeSpec := { name := "decideTotal", fn := fun _ => fun
  | [d1, d2] => { results := [.lit (.bool true)], args := [d1, d2] }
  | _ => none }
def decideTotalRow : OpenClaim := { program := "ytfbfcomfkokfcaagreatdoor", sum := "8d890e6dd420a93cafe2382e8e282042cdd3052f0b692699c8a947f354a259d8", func := "calque/calquelaw10.DecideTotal", spec := "decideTotal", inPlace := ["internal/bytealg.CountString", "internal/bytealg.IndexByteString", "internal/bytealg.IndexString", "internal/abi.NoEscape", "internal/bytealg.MakeNoZero"], unfollowed := true, recurses := true, named := ["internal/bytealg.MaxLen", "unicode/utf8.first", "unicode/utf8.acceptRanges"], plainKeys := false, apart := false, laid := [("unicode/utf8.acceptRanges", laid_unicode_utf8_acceptRanges), ("unicode/utf8.first", laid_unicode_utf8_first)] }
def DecideTotalSaid : Prop := decideTotalRow.holds Tryz.pinned (OpenSpec.ofChange decideTotalSpec)

/-- ITS FALSE NEIGHBOUR: 'it returns false'. Refute it at one input. -/
def decideTotalWrong : ChangeSpec := { name := "decideTotal", fn := fun _ => fun
  | [d1, d2] => { results := [.lit (.bool false)], args := [d1, d2] }
  | _ => none }
def DecideTotalWrongFalsely : Prop := decideTotalRow.holds Tryz.pinned (OpenSpec.ofChange decideTotalWrong)

/-- 'calquelaw10.DecideDisjoint': WHATEVER THE INPUT: true; the input reads as it did. -/
def decideDisjointSpec : ChangeSpec := { name := "decideDisjoint", fn := fun _ => fun
  | [d1, d2] => { results := [.lit (.bool true)], args := [d1, d2] }
  | _ => none }
def decideDisjointRow : OpenClaim := { program := "ytfbfcomfkokfcaagreatdoor", sum := "8d890e6dd420a93cafe2382e8e282042cdd3052f0b692699c8a947f354a259d8", func := "calque/calquelaw10.DecideDisjoint", spec := "decideDisjoint", inPlace := ["internal/bytealg.CountString", "internal/bytealg.IndexByteString", "internal/bytealg.IndexString", "internal/abi.NoEscape", "internal/bytealg.MakeNoZero"], unfollowed := true, recurses := true, named := ["internal/bytealg.MaxLen", "unicode/utf8.first", "unicode/utf8.acceptRanges"], plainKeys := false, apart := false, laid := [("unicode/utf8.acceptRanges", laid_unicode_utf8_acceptRanges), ("unicode/utf8.first", laid_unicode_utf8_first)] }
def DecideDisjointSaid : Prop := decideDisjointRow.holds Tryz.pinned (OpenSpec.ofChange decideDisjointSpec)

/-- ITS FALSE NEIGHBOUR: 'it returns false'. Refute it at one input. -/
def decideDisjointWrong : ChangeSpec := { name := "decideDisjoint", fn := fun _ => fun
  | [d1, d2] => { results := [.lit (.bool false)], args := [d1, d2] }
  | _ => none }
def DecideDisjointWrongFalsely : Prop := decideDisjointRow.holds Tryz.pinned (OpenSpec.ofChange decideDisjointWrong)

/-- 'calquelaw10.DecideEquivalent': WHATEVER THE INPUT: true; the input reads as it did. -/
def decideEquivalentSpec : ChangeSpec := { name := "decideEquivalent", fn := fun _ => fun
  | [d1, d2, d3] => { results := [.lit (.bool true)], args := [d1, d2, d3] }
  | _ => none }
def decideEquivalentRow : OpenClaim := { program := "ytfbfcomfkokfcaagreatdoor", sum := "8d890e6dd420a93cafe2382e8e282042cdd3052f0b692699c8a947f354a259d8", func := "calque/calquelaw10.DecideEquivalent", spec := "decideEquivalent", inPlace := ["internal/bytealg.CountString", "internal/bytealg.IndexByteString", "internal/bytealg.IndexString", "internal/abi.NoEscape", "internal/bytealg.MakeNoZero"], unfollowed := true, recurses := true, named := ["internal/bytealg.MaxLen", "unicode/utf8.first", "unicode/utf8.acceptRanges"], plainKeys := false, apart := false, laid := [("unicode/utf8.acceptRanges", laid_unicode_utf8_acceptRanges), ("unicode/utf8.first", laid_unicode_utf8_first)] }
def DecideEquivalentSaid : Prop := decideEquivalentRow.holds Tryz.pinned (OpenSpec.ofChange decideEquivalentSpec)

/-- ITS FALSE NEIGHBOUR: 'it returns false'. Refute it at one input. -/
def decideEquivalentWrong : ChangeSpec := { name := "decideEquivalent", fn := fun _ => fun
  | [d1, d2, d3] => { results := [.lit (.bool false)], args := [d1, d2, d3] }
  | _ => none }
def DecideEquivalentWrongFalsely : Prop := decideEquivalentRow.holds Tryz.pinned (OpenSpec.ofChange decideEquivalentWrong)

/-- 'calquelaw10.DecideSets': WHATEVER THE INPUT: true; the input reads as it did. -/
def decideSetsSpec : ChangeSpec := { name := "decideSets", fn := fun _ => fun
  | [d1, d2] => { results := [.lit (.bool true)], args := [d1, d2] }
  | _ => none }
def decideSetsRow : OpenClaim := { program := "ytfbfcomfkokfcaagreatdoor", sum := "8d890e6dd420a93cafe2382e8e282042cdd3052f0b692699c8a947f354a259d8", func := "calque/calquelaw10.DecideSets", spec := "decideSets", inPlace := ["internal/bytealg.CountString", "internal/bytealg.IndexByteString", "internal/bytealg.IndexString", "internal/abi.NoEscape", "internal/bytealg.MakeNoZero"], unfollowed := true, recurses := true, named := ["internal/bytealg.MaxLen", "unicode/utf8.first", "unicode/utf8.acceptRanges"], plainKeys := false, apart := false, laid := [("unicode/utf8.acceptRanges", laid_unicode_utf8_acceptRanges), ("unicode/utf8.first", laid_unicode_utf8_first)] }
def DecideSetsSaid : Prop := decideSetsRow.holds Tryz.pinned (OpenSpec.ofChange decideSetsSpec)

/-- ITS FALSE NEIGHBOUR: 'it returns false'. Refute it at one input. -/
def decideSetsWrong : ChangeSpec := { name := "decideSets", fn := fun _ => fun
  | [d1, d2] => { results := [.lit (.bool false)], args := [d1, d2] }
  | _ => none }
def DecideSetsWrongFalsely : Prop := decideSetsRow.holds Tryz.pinned (OpenSpec.ofChange decideSetsWrong)

/-- 'calquelaw10.DecideIntegers': WHATEVER THE INPUT: true; the input reads as it did. -/
def decideIntegersSpec : ChangeSpec := { name := "decideIntegers", fn := fun _ => fun
  | [d1, d2, d3] => { results := [.lit (.bool true)], args := [d1, d2, d3] }
  | _ => none }
def decideIntegersRow : OpenClaim := { program := "ytfbfcomfkokfcaagreatdoor", sum := "8d890e6dd420a93cafe2382e8e282042cdd3052f0b692699c8a947f354a259d8", func := "calque/calquelaw10.DecideIntegers", spec := "decideIntegers", inPlace := ["internal/bytealg.CountString", "internal/bytealg.IndexByteString", "internal/bytealg.IndexString", "internal/abi.NoEscape", "internal/bytealg.MakeNoZero"], unfollowed := true, recurses := true, named := ["internal/bytealg.MaxLen", "unicode/utf8.first", "unicode/utf8.acceptRanges"], plainKeys := false, apart := false, laid := [("unicode/utf8.acceptRanges", laid_unicode_utf8_acceptRanges), ("unicode/utf8.first", laid_unicode_utf8_first)] }
def DecideIntegersSaid : Prop := decideIntegersRow.holds Tryz.pinned (OpenSpec.ofChange decideIntegersSpec)

/-- ITS FALSE NEIGHBOUR: 'it returns false'. Refute it at one input. -/
def decideIntegersWrong : ChangeSpec := { name := "decideIntegers", fn := fun _ => fun
  | [d1, d2, d3] => { results := [.lit (.bool false)], args := [d1, d2, d3] }
  | _ => none }
def DecideIntegersWrongFalsely : Prop := decideIntegersRow.holds Tryz.pinned (OpenSpec.ofChange decideIntegersWrong)

/- THE SECOND FORM. 'bulk': how many values and letters a reading holds, each counted each time it is reached (what is shared counts as often as it is met; a slice's spare places count too). A statement '..UptoSaid' is the law's where the arguments, and the package variables that the reading takes, are together of bulk at most 1048576: NARROWER than '..Said'. Prove '..Said' where nothing that the law and all that it calls make is longer than what came in: it says more and counts as full. Else prove '..UptoSaid'. A law counts once. -/
mutual
def uptoBulk {H : Type} : DataW H → Nat
  | .lit (.string bytes) => bytes.length + 1
  | .lit _ => 1
  | .nil => 1
  | .ptr d => uptoBulk d + 1
  | .slice elems spare => uptoBulkAll elems + uptoBulkAll spare + 1
  | .agg parts => uptoBulkAll parts + 1
  | .iface _ d => uptoBulk d + 1
  | .map entries => uptoBulkEntries entries + 1
  | .held _ => 1
def uptoBulkAll {H : Type} : List (DataW H) → Nat
  | [] => 0
  | d :: r => uptoBulk d + uptoBulkAll r
def uptoBulkEntries {H : Type} : List (Lit × DataW H) → Nat
  | [] => 0
  | x :: r => uptoBulkEntry x + uptoBulkEntries r
def uptoBulkEntry {H : Type} : Lit × DataW H → Nat
  | (.string bytes, d) => bytes.length + uptoBulk d + 1
  | (_, d) => uptoBulk d + 1
 end
def uptoSmall : (H : Type) → List (DataW H) → Bool := fun _ ds => decide (uptoBulkAll ds ≤ 1048576)
def OpenSpec.upto (s : _root_.Go.ChangeSpec) : _root_.Go.OpenSpec := { _root_.Go.OpenSpec.ofChange s with cond := some uptoSmall }

/-- 'calquelaw10.DecideAutomaton', WHERE WHAT IT READS IS OF BULK AT MOST 1048576: true; the input reads as it did. -/
def decideAutomatonUptoRow : OpenClaim := { program := "ytfbfcomfkokfcaagreatdoor", sum := "8d890e6dd420a93cafe2382e8e282042cdd3052f0b692699c8a947f354a259d8", func := "calque/calquelaw10.DecideAutomaton", spec := "decideAutomaton", inPlace := ["internal/bytealg.CountString", "internal/bytealg.IndexByteString", "internal/bytealg.IndexString", "internal/abi.NoEscape", "internal/bytealg.MakeNoZero"], unfollowed := true, recurses := true, named := ["internal/bytealg.MaxLen", "unicode/utf8.first", "unicode/utf8.acceptRanges"], plainKeys := false, apart := false, laid := [("unicode/utf8.acceptRanges", laid_unicode_utf8_acceptRanges), ("unicode/utf8.first", laid_unicode_utf8_first)], narrowed := true }
def DecideAutomatonUptoSaid : Prop := decideAutomatonUptoRow.holds Tryz.pinned (OpenSpec.upto decideAutomatonSpec)

/-- 'calquelaw10.DecideAccepts', WHERE WHAT IT READS IS OF BULK AT MOST 1048576: true; the input reads as it did. -/
def decideAcceptsUptoRow : OpenClaim := { program := "ytfbfcomfkokfcaagreatdoor", sum := "8d890e6dd420a93cafe2382e8e282042cdd3052f0b692699c8a947f354a259d8", func := "calque/calquelaw10.DecideAccepts", spec := "decideAccepts", inPlace := ["internal/bytealg.CountString", "internal/bytealg.IndexByteString", "internal/bytealg.IndexString", "internal/abi.NoEscape", "internal/bytealg.MakeNoZero"], unfollowed := true, recurses := true, named := ["internal/bytealg.MaxLen", "unicode/utf8.first", "unicode/utf8.acceptRanges"], plainKeys := false, apart := false, laid := [("unicode/utf8.acceptRanges", laid_unicode_utf8_acceptRanges), ("unicode/utf8.first", laid_unicode_utf8_first)], narrowed := true }
def DecideAcceptsUptoSaid : Prop := decideAcceptsUptoRow.holds Tryz.pinned (OpenSpec.upto decideAcceptsSpec)

/-- 'calquelaw10.DecideSatisfiable', WHERE WHAT IT READS IS OF BULK AT MOST 1048576: true; the input reads as it did. -/
def decideSatisfiableUptoRow : OpenClaim := { program := "ytfbfcomfkokfcaagreatdoor", sum := "8d890e6dd420a93cafe2382e8e282042cdd3052f0b692699c8a947f354a259d8", func := "calque/calquelaw10.DecideSatisfiable", spec := "decideSatisfiable", inPlace := ["internal/bytealg.CountString", "internal/bytealg.IndexByteString", "internal/bytealg.IndexString", "internal/abi.NoEscape", "internal/bytealg.MakeNoZero"], unfollowed := true, recurses := true, named := ["internal/bytealg.MaxLen", "unicode/utf8.first", "unicode/utf8.acceptRanges"], plainKeys := false, apart := false, laid := [("unicode/utf8.acceptRanges", laid_unicode_utf8_acceptRanges), ("unicode/utf8.first", laid_unicode_utf8_first)], narrowed := true }
def DecideSatisfiableUptoSaid : Prop := decideSatisfiableUptoRow.holds Tryz.pinned (OpenSpec.upto decideSatisfiableSpec)

/-- 'calquelaw10.DecideTotal', WHERE WHAT IT READS IS OF BULK AT MOST 1048576: true; the input reads as it did. -/
def decideTotalUptoRow : OpenClaim := { program := "ytfbfcomfkokfcaagreatdoor", sum := "8d890e6dd420a93cafe2382e8e282042cdd3052f0b692699c8a947f354a259d8", func := "calque/calquelaw10.DecideTotal", spec := "decideTotal", inPlace := ["internal/bytealg.CountString", "internal/bytealg.IndexByteString", "internal/bytealg.IndexString", "internal/abi.NoEscape", "internal/bytealg.MakeNoZero"], unfollowed := true, recurses := true, named := ["internal/bytealg.MaxLen", "unicode/utf8.first", "unicode/utf8.acceptRanges"], plainKeys := false, apart := false, laid := [("unicode/utf8.acceptRanges", laid_unicode_utf8_acceptRanges), ("unicode/utf8.first", laid_unicode_utf8_first)], narrowed := true }
def DecideTotalUptoSaid : Prop := decideTotalUptoRow.holds Tryz.pinned (OpenSpec.upto decideTotalSpec)

/-- 'calquelaw10.DecideDisjoint', WHERE WHAT IT READS IS OF BULK AT MOST 1048576: true; the input reads as it did. -/
def decideDisjointUptoRow : OpenClaim := { program := "ytfbfcomfkokfcaagreatdoor", sum := "8d890e6dd420a93cafe2382e8e282042cdd3052f0b692699c8a947f354a259d8", func := "calque/calquelaw10.DecideDisjoint", spec := "decideDisjoint", inPlace := ["internal/bytealg.CountString", "internal/bytealg.IndexByteString", "internal/bytealg.IndexString", "internal/abi.NoEscape", "internal/bytealg.MakeNoZero"], unfollowed := true, recurses := true, named := ["internal/bytealg.MaxLen", "unicode/utf8.first", "unicode/utf8.acceptRanges"], plainKeys := false, apart := false, laid := [("unicode/utf8.acceptRanges", laid_unicode_utf8_acceptRanges), ("unicode/utf8.first", laid_unicode_utf8_first)], narrowed := true }
def DecideDisjointUptoSaid : Prop := decideDisjointUptoRow.holds Tryz.pinned (OpenSpec.upto decideDisjointSpec)

/-- 'calquelaw10.DecideEquivalent', WHERE WHAT IT READS IS OF BULK AT MOST 1048576: true; the input reads as it did. -/
def decideEquivalentUptoRow : OpenClaim := { program := "ytfbfcomfkokfcaagreatdoor", sum := "8d890e6dd420a93cafe2382e8e282042cdd3052f0b692699c8a947f354a259d8", func := "calque/calquelaw10.DecideEquivalent", spec := "decideEquivalent", inPlace := ["internal/bytealg.CountString", "internal/bytealg.IndexByteString", "internal/bytealg.IndexString", "internal/abi.NoEscape", "internal/bytealg.MakeNoZero"], unfollowed := true, recurses := true, named := ["internal/bytealg.MaxLen", "unicode/utf8.first", "unicode/utf8.acceptRanges"], plainKeys := false, apart := false, laid := [("unicode/utf8.acceptRanges", laid_unicode_utf8_acceptRanges), ("unicode/utf8.first", laid_unicode_utf8_first)], narrowed := true }
def DecideEquivalentUptoSaid : Prop := decideEquivalentUptoRow.holds Tryz.pinned (OpenSpec.upto decideEquivalentSpec)

/-- 'calquelaw10.DecideSets', WHERE WHAT IT READS IS OF BULK AT MOST 1048576: true; the input reads as it did. -/
def decideSetsUptoRow : OpenClaim := { program := "ytfbfcomfkokfcaagreatdoor", sum := "8d890e6dd420a93cafe2382e8e282042cdd3052f0b692699c8a947f354a259d8", func := "calque/calquelaw10.DecideSets", spec := "decideSets", inPlace := ["internal/bytealg.CountString", "internal/bytealg.IndexByteString", "internal/bytealg.IndexString", "internal/abi.NoEscape", "internal/bytealg.MakeNoZero"], unfollowed := true, recurses := true, named := ["internal/bytealg.MaxLen", "unicode/utf8.first", "unicode/utf8.acceptRanges"], plainKeys := false, apart := false, laid := [("unicode/utf8.acceptRanges", laid_unicode_utf8_acceptRanges), ("unicode/utf8.first", laid_unicode_utf8_first)], narrowed := true }
def DecideSetsUptoSaid : Prop := decideSetsUptoRow.holds Tryz.pinned (OpenSpec.upto decideSetsSpec)

/-- 'calquelaw10.DecideIntegers', WHERE WHAT IT READS IS OF BULK AT MOST 1048576: true; the input reads as it did. -/
def decideIntegersUptoRow : OpenClaim := { program := "ytfbfcomfkokfcaagreatdoor", sum := "8d890e6dd420a93cafe2382e8e282042cdd3052f0b692699c8a947f354a259d8", func := "calque/calquelaw10.DecideIntegers", spec := "decideIntegers", inPlace := ["internal/bytealg.CountString", "internal/bytealg.IndexByteString", "internal/bytealg.IndexString", "internal/abi.NoEscape", "internal/bytealg.MakeNoZero"], unfollowed := true, recurses := true, named := ["internal/bytealg.MaxLen", "unicode/utf8.first", "unicode/utf8.acceptRanges"], plainKeys := false, apart := false, laid := [("unicode/utf8.acceptRanges", laid_unicode_utf8_acceptRanges), ("unicode/utf8.first", laid_unicode_utf8_first)], narrowed := true }
def DecideIntegersUptoSaid : Prop := decideIntegersUptoRow.holds Tryz.pinned (OpenSpec.upto decideIntegersSpec)

end Rows
end Go.Proofs.YtfbfcomfkokfcaaGreatDoor
