/-
  DERIVED. GIVEN WITH THE SEED: THE CARDS: each row of YteofkofgdhmpjaaDoorRows.lean that lists a variable, with what it lists TIED to the program's text (the seventh form; the later family's looks); each row that meets fmt, with fmt's text TOLD by the authors' own Lean function (tested against real Go, not proved from fmt's source: count such statements apart). THE CARD IS WHAT COUNTS. Prove the row's statement (the work); the ties are given (YteofkofgdhmpjaaDoorTie.lean); close each card by the builder's one call (the guide's Derived/Test/ToyasCard.lean, 'card_holds'). Laid BY PROGRAM, IN A SANDBOX (cutbox-door.mjs). By AI agents, Wed Nov 11 2026. No macro, syntax, notation, axiom, sorry.
-/
import Derived.Test.YteofkofgdhmpjaaDoorRows
import GoSem.ClaimSeven
namespace Go.Proofs.YteofkofgdhmpjaaDoor
namespace Rows

/-- THE TIED CARD OF 'calquelaw15.NumberParse'. -/
def numberParseCard : Claim7 := { stood := { row := numberParseRow, standIns := [], harness := (true, "af136467e8f30fc48c5a242ea0af40b7f061e23f1996e3df6fd5516b763796a9"), looks := false }, kinds := [], alts := [], laidByText := true, laidKinds := [.data, .pinned], laidTests := true, laidLooks := .later }
def NumberParseCardSaid : Prop := Claim7.holds Tryd.pinned (.plain (OpenSpec.ofChange numberParseSpec)) numberParseCard

/-- THE TIED CARD OF 'calquelaw15.NumberInverse'. -/
def numberInverseCard : Claim7 := { stood := { row := numberInverseRow, standIns := [], harness := (true, "af136467e8f30fc48c5a242ea0af40b7f061e23f1996e3df6fd5516b763796a9"), looks := false }, kinds := [], alts := [], laidByText := true, laidKinds := [.data, .pinned], laidTests := true, laidLooks := .later }
def NumberInverseCardSaid : Prop := Claim7.holds Tryd.pinned (.plain (OpenSpec.ofChange numberInverseSpec)) numberInverseCard

/-- THE SECOND FORM's CARD OF 'calquelaw15.NumberParse'. -/
def numberParseUptoCard : Claim7 := { stood := { row := numberParseUptoRow, standIns := [], harness := (true, "af136467e8f30fc48c5a242ea0af40b7f061e23f1996e3df6fd5516b763796a9"), looks := false }, kinds := [], alts := [], laidByText := true, laidKinds := [.data, .pinned], laidTests := true, laidLooks := .later }
def NumberParseUptoCardSaid : Prop := Claim7.holds Tryd.pinned (.plain (OpenSpec.upto numberParseSpec)) numberParseUptoCard

/-- THE SECOND FORM's CARD OF 'calquelaw15.NumberInverse'. -/
def numberInverseUptoCard : Claim7 := { stood := { row := numberInverseUptoRow, standIns := [], harness := (true, "af136467e8f30fc48c5a242ea0af40b7f061e23f1996e3df6fd5516b763796a9"), looks := false }, kinds := [], alts := [], laidByText := true, laidKinds := [.data, .pinned], laidTests := true, laidLooks := .later }
def NumberInverseUptoCardSaid : Prop := Claim7.holds Tryd.pinned (.plain (OpenSpec.upto numberInverseSpec)) numberInverseUptoCard
end Rows
end Go.Proofs.YteofkofgdhmpjaaDoor
