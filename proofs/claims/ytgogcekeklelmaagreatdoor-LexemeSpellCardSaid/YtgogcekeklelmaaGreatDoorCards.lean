/-
  DERIVED. GIVEN WITH THE SEED: THE CARDS: each row of YtgogcekeklelmaaGreatDoorRows.lean that lists a variable, with what it lists TIED to the program's text (the seventh form; the later family's looks); each row that meets fmt, with fmt's text TOLD by the authors' own Lean function (tested against real Go, not proved from fmt's source: count such statements apart). THE CARD IS WHAT COUNTS. Prove the row's statement (the work); the ties are given (YtgogcekeklelmaaGreatDoorTie.lean); close each card by the builder's one call (the guide's Derived/Test/ToyasCard.lean, 'card_holds'). Laid BY PROGRAM, IN A SANDBOX (cutbox-door.mjs). By AI agents, Wed Nov 11 2026. No macro, syntax, notation, axiom, sorry.
-/
import Derived.Test.YtgogcekeklelmaaGreatDoorRows
import GoSem.ClaimSeven
namespace Go.Proofs.YtgogcekeklelmaaGreatDoor
namespace Rows

/-- THE TIED CARD OF 'calquelaw11.LexemeSpell'. -/
def lexemeSpellCard : Claim7 := { stood := { row := lexemeSpellRow, standIns := [], harness := (true, "0aab9e5236d505424930babbbd80599c535ac5ddc31760def0f5d4447adbd340"), looks := true }, kinds := [], alts := [], laidByText := true, laidKinds := [.data, .data, .data, .sentinel, .sentinel], laidTests := true, laidLooks := .later }
def LexemeSpellCardSaid : Prop := Claim7.holds Tryz.pinned (.plain (OpenSpec.ofChange lexemeSpellSpec)) lexemeSpellCard

/-- THE SECOND FORM's CARD OF 'calquelaw11.LexemeSpell'. -/
def lexemeSpellUptoCard : Claim7 := { stood := { row := lexemeSpellUptoRow, standIns := [], harness := (true, "0aab9e5236d505424930babbbd80599c535ac5ddc31760def0f5d4447adbd340"), looks := true }, kinds := [], alts := [], laidByText := true, laidKinds := [.data, .data, .data, .sentinel, .sentinel], laidTests := true, laidLooks := .later }
def LexemeSpellUptoCardSaid : Prop := Claim7.holds Tryz.pinned (.plain (OpenSpec.upto lexemeSpellSpec)) lexemeSpellUptoCard
end Rows
end Go.Proofs.YtgogcekeklelmaaGreatDoor
