/-
  DERIVED. GIVEN WITH THE SEED: THE CARDS: each row of YtgogcekeklelmaaDoorRows.lean that lists a variable, with what it lists TIED to the program's text (the seventh form; the later family's looks); each row that meets fmt, with fmt's text TOLD by the authors' own Lean function (tested against real Go, not proved from fmt's source: count such statements apart). THE CARD IS WHAT COUNTS. Prove the row's statement (the work); the ties are given (YtgogcekeklelmaaDoorTie.lean); close each card by the builder's one call (the guide's Derived/Test/ToyasCard.lean, 'card_holds'). Laid BY PROGRAM, IN A SANDBOX (cutbox-door.mjs). By AI agents, Wed Nov 11 2026. No macro, syntax, notation, axiom, sorry.
-/
import Derived.Test.YtgogcekeklelmaaDoorRows
import GoSem.ClaimSeven
namespace Go.Proofs.YtgogcekeklelmaaDoor
namespace Rows

/-- THE TIED CARD OF 'calquelaw11.LexemeTokens'. -/
def lexemeTokensCard : Claim7 := { stood := { row := lexemeTokensRow, standIns := [], harness := (true, "c96f4671b41476d72051b963c395aa84e5d5c691a4c2577467d434ed41d1de21"), looks := true }, kinds := [], alts := [], laidByText := true, laidKinds := [.data, .data, .data, .sentinel, .sentinel], laidTests := true, laidLooks := .later }
def LexemeTokensCardSaid : Prop := Claim7.holds Tryd.pinned (.plain (OpenSpec.ofChange lexemeTokensSpec)) lexemeTokensCard

/-- THE TIED CARD OF 'calquelaw11.LexemeInverse'. -/
def lexemeInverseCard : Claim7 := { stood := { row := lexemeInverseRow, standIns := [], harness := (true, "c96f4671b41476d72051b963c395aa84e5d5c691a4c2577467d434ed41d1de21"), looks := true }, kinds := [], alts := [], laidByText := true, laidKinds := [.data, .data, .data, .sentinel, .sentinel], laidTests := true, laidLooks := .later }
def LexemeInverseCardSaid : Prop := Claim7.holds Tryd.pinned (.plain (OpenSpec.ofChange lexemeInverseSpec)) lexemeInverseCard

/-- THE TIED CARD OF 'calquelaw11.LexemePlaces'. -/
def lexemePlacesCard : Claim7 := { stood := { row := lexemePlacesRow, standIns := [], harness := (true, "c96f4671b41476d72051b963c395aa84e5d5c691a4c2577467d434ed41d1de21"), looks := true }, kinds := [], alts := [], laidByText := true, laidKinds := [.data, .data, .data, .sentinel, .sentinel], laidTests := true, laidLooks := .later }
def LexemePlacesCardSaid : Prop := Claim7.holds Tryd.pinned (.plain (OpenSpec.ofChange lexemePlacesSpec)) lexemePlacesCard

/-- THE TIED CARD OF 'calquelaw11.LexemeBlanks'. -/
def lexemeBlanksCard : Claim7 := { stood := { row := lexemeBlanksRow, standIns := [], harness := (true, "c96f4671b41476d72051b963c395aa84e5d5c691a4c2577467d434ed41d1de21"), looks := true }, kinds := [], alts := [], laidByText := true, laidKinds := [.data, .data, .data, .sentinel, .sentinel], laidTests := true, laidLooks := .later }
def LexemeBlanksCardSaid : Prop := Claim7.holds Tryd.pinned (.plain (OpenSpec.ofChange lexemeBlanksSpec)) lexemeBlanksCard

/-- THE SECOND FORM's CARD OF 'calquelaw11.LexemeTokens'. -/
def lexemeTokensUptoCard : Claim7 := { stood := { row := lexemeTokensUptoRow, standIns := [], harness := (true, "c96f4671b41476d72051b963c395aa84e5d5c691a4c2577467d434ed41d1de21"), looks := true }, kinds := [], alts := [], laidByText := true, laidKinds := [.data, .data, .data, .sentinel, .sentinel], laidTests := true, laidLooks := .later }
def LexemeTokensUptoCardSaid : Prop := Claim7.holds Tryd.pinned (.plain (OpenSpec.upto lexemeTokensSpec)) lexemeTokensUptoCard

/-- THE SECOND FORM's CARD OF 'calquelaw11.LexemeInverse'. -/
def lexemeInverseUptoCard : Claim7 := { stood := { row := lexemeInverseUptoRow, standIns := [], harness := (true, "c96f4671b41476d72051b963c395aa84e5d5c691a4c2577467d434ed41d1de21"), looks := true }, kinds := [], alts := [], laidByText := true, laidKinds := [.data, .data, .data, .sentinel, .sentinel], laidTests := true, laidLooks := .later }
def LexemeInverseUptoCardSaid : Prop := Claim7.holds Tryd.pinned (.plain (OpenSpec.upto lexemeInverseSpec)) lexemeInverseUptoCard

/-- THE SECOND FORM's CARD OF 'calquelaw11.LexemePlaces'. -/
def lexemePlacesUptoCard : Claim7 := { stood := { row := lexemePlacesUptoRow, standIns := [], harness := (true, "c96f4671b41476d72051b963c395aa84e5d5c691a4c2577467d434ed41d1de21"), looks := true }, kinds := [], alts := [], laidByText := true, laidKinds := [.data, .data, .data, .sentinel, .sentinel], laidTests := true, laidLooks := .later }
def LexemePlacesUptoCardSaid : Prop := Claim7.holds Tryd.pinned (.plain (OpenSpec.upto lexemePlacesSpec)) lexemePlacesUptoCard

/-- THE SECOND FORM's CARD OF 'calquelaw11.LexemeBlanks'. -/
def lexemeBlanksUptoCard : Claim7 := { stood := { row := lexemeBlanksUptoRow, standIns := [], harness := (true, "c96f4671b41476d72051b963c395aa84e5d5c691a4c2577467d434ed41d1de21"), looks := true }, kinds := [], alts := [], laidByText := true, laidKinds := [.data, .data, .data, .sentinel, .sentinel], laidTests := true, laidLooks := .later }
def LexemeBlanksUptoCardSaid : Prop := Claim7.holds Tryd.pinned (.plain (OpenSpec.upto lexemeBlanksSpec)) lexemeBlanksUptoCard
end Rows
end Go.Proofs.YtgogcekeklelmaaDoor
