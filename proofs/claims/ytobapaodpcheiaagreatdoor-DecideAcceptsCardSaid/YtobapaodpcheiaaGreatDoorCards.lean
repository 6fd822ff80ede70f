/-
  DERIVED. GIVEN WITH THE SEED: THE CARDS: each row of YtobapaodpcheiaaGreatDoorRows.lean that lists a variable, with what it lists TIED to the program's text (the seventh form; the later family's looks); each row that meets fmt, with fmt's text TOLD by the authors' own Lean function (tested against real Go, not proved from fmt's source: count such statements apart). THE CARD IS WHAT COUNTS. Prove the row's statement (the work); the ties are given (YtobapaodpcheiaaGreatDoorTie.lean); close each card by the builder's one call (the guide's Derived/Test/ToyasCard.lean, 'card_holds'). Laid BY PROGRAM, IN A SANDBOX (cutbox-door.mjs). By AI agents, Wed Nov 11 2026. No macro, syntax, notation, axiom, sorry.
-/
import Derived.Test.YtobapaodpcheiaaGreatDoorRows
import GoSem.ClaimSeven
namespace Go.Proofs.YtobapaodpcheiaaGreatDoor
namespace Rows

/-- THE TIED CARD OF 'calquelaw10.DecideAccepts'. -/
def decideAcceptsCard : Claim7 := { stood := { row := decideAcceptsRow, standIns := [], harness := (true, "e6efdbe1369160265ab01ba78f4cc5c48cb4724ec1640b8d8315d31d5d9035fe"), looks := false }, kinds := [], alts := [], laidByText := true, laidKinds := [.data, .pinned], laidTests := true, laidLooks := .later }
def DecideAcceptsCardSaid : Prop := Claim7.holds Tryz.pinned (.plain (OpenSpec.ofChange decideAcceptsSpec)) decideAcceptsCard

/-- THE SECOND FORM's CARD OF 'calquelaw10.DecideAccepts'. -/
def decideAcceptsUptoCard : Claim7 := { stood := { row := decideAcceptsUptoRow, standIns := [], harness := (true, "e6efdbe1369160265ab01ba78f4cc5c48cb4724ec1640b8d8315d31d5d9035fe"), looks := false }, kinds := [], alts := [], laidByText := true, laidKinds := [.data, .pinned], laidTests := true, laidLooks := .later }
def DecideAcceptsUptoCardSaid : Prop := Claim7.holds Tryz.pinned (.plain (OpenSpec.upto decideAcceptsSpec)) decideAcceptsUptoCard
end Rows
end Go.Proofs.YtobapaodpcheiaaGreatDoor
