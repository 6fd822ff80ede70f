/-
  DERIVED. GIVEN WITH THE SEED: THE CARDS: each row of YtfbfcomfkokfcaaGreatDoorRows.lean that lists a variable, with what it lists TIED to the program's text (the seventh form; the later family's looks); each row that meets fmt, with fmt's text TOLD by the authors' own Lean function (tested against real Go, not proved from fmt's source: count such statements apart). THE CARD IS WHAT COUNTS. Prove the row's statement (the work); the ties are given (YtfbfcomfkokfcaaGreatDoorTie.lean); close each card by the builder's one call (the guide's Derived/Test/ToyasCard.lean, 'card_holds'). Laid BY PROGRAM, IN A SANDBOX (cutbox-door.mjs). By AI agents, Wed Nov 11 2026. No macro, syntax, notation, axiom, sorry.
-/
import Derived.Test.YtfbfcomfkokfcaaGreatDoorRows
import GoSem.ClaimSeven
namespace Go.Proofs.YtfbfcomfkokfcaaGreatDoor
namespace Rows

/-- THE TIED CARD OF 'calquelaw10.DecideAutomaton'. -/
def decideAutomatonCard : Claim7 := { stood := { row := decideAutomatonRow, standIns := [], harness := (true, "d4c546e3ef9cbd7c08cd1103d28a7cc031ff9e5513b1fe3ea390105a96433d6c"), looks := false }, kinds := [], alts := [], laidByText := true, laidKinds := [.data, .pinned], laidTests := true, laidLooks := .later }
def DecideAutomatonCardSaid : Prop := Claim7.holds Tryz.pinned (.plain (OpenSpec.ofChange decideAutomatonSpec)) decideAutomatonCard

/-- THE TIED CARD OF 'calquelaw10.DecideAccepts'. -/
def decideAcceptsCard : Claim7 := { stood := { row := decideAcceptsRow, standIns := [], harness := (true, "d4c546e3ef9cbd7c08cd1103d28a7cc031ff9e5513b1fe3ea390105a96433d6c"), looks := false }, kinds := [], alts := [], laidByText := true, laidKinds := [.data, .pinned], laidTests := true, laidLooks := .later }
def DecideAcceptsCardSaid : Prop := Claim7.holds Tryz.pinned (.plain (OpenSpec.ofChange decideAcceptsSpec)) decideAcceptsCard

/-- THE TIED CARD OF 'calquelaw10.DecideSatisfiable'. -/
def decideSatisfiableCard : Claim7 := { stood := { row := decideSatisfiableRow, standIns := [], harness := (true, "d4c546e3ef9cbd7c08cd1103d28a7cc031ff9e5513b1fe3ea390105a96433d6c"), looks := false }, kinds := [], alts := [], laidByText := true, laidKinds := [.data, .pinned], laidTests := true, laidLooks := .later }
def DecideSatisfiableCardSaid : Prop := Claim7.holds Tryz.pinned (.plain (OpenSpec.ofChange decideSatisfiableSpec)) decideSatisfiableCard

/-- THE TIED CARD OF 'calquelaw10.DecideTotal'. -/
def decideTotalCard : Claim7 := { stood := { row := decideTotalRow, standIns := [], harness := (true, "d4c546e3ef9cbd7c08cd1103d28a7cc031ff9e5513b1fe3ea390105a96433d6c"), looks := false }, kinds := [], alts := [], laidByText := true, laidKinds := [.data, .pinned], laidTests := true, laidLooks := .later }
def DecideTotalCardSaid : Prop := Claim7.holds Tryz.pinned (.plain (OpenSpec.ofChange decideTotalSpec)) decideTotalCard

/-- THE TIED CARD OF 'calquelaw10.DecideDisjoint'. -/
def decideDisjointCard : Claim7 := { stood := { row := decideDisjointRow, standIns := [], harness := (true, "d4c546e3ef9cbd7c08cd1103d28a7cc031ff9e5513b1fe3ea390105a96433d6c"), looks := false }, kinds := [], alts := [], laidByText := true, laidKinds := [.data, .pinned], laidTests := true, laidLooks := .later }
def DecideDisjointCardSaid : Prop := Claim7.holds Tryz.pinned (.plain (OpenSpec.ofChange decideDisjointSpec)) decideDisjointCard

/-- THE TIED CARD OF 'calquelaw10.DecideEquivalent'. -/
def decideEquivalentCard : Claim7 := { stood := { row := decideEquivalentRow, standIns := [], harness := (true, "d4c546e3ef9cbd7c08cd1103d28a7cc031ff9e5513b1fe3ea390105a96433d6c"), looks := false }, kinds := [], alts := [], laidByText := true, laidKinds := [.data, .pinned], laidTests := true, laidLooks := .later }
def DecideEquivalentCardSaid : Prop := Claim7.holds Tryz.pinned (.plain (OpenSpec.ofChange decideEquivalentSpec)) decideEquivalentCard

/-- THE TIED CARD OF 'calquelaw10.DecideSets'. -/
def decideSetsCard : Claim7 := { stood := { row := decideSetsRow, standIns := [], harness := (true, "d4c546e3ef9cbd7c08cd1103d28a7cc031ff9e5513b1fe3ea390105a96433d6c"), looks := false }, kinds := [], alts := [], laidByText := true, laidKinds := [.data, .pinned], laidTests := true, laidLooks := .later }
def DecideSetsCardSaid : Prop := Claim7.holds Tryz.pinned (.plain (OpenSpec.ofChange decideSetsSpec)) decideSetsCard

/-- THE TIED CARD OF 'calquelaw10.DecideIntegers'. -/
def decideIntegersCard : Claim7 := { stood := { row := decideIntegersRow, standIns := [], harness := (true, "d4c546e3ef9cbd7c08cd1103d28a7cc031ff9e5513b1fe3ea390105a96433d6c"), looks := false }, kinds := [], alts := [], laidByText := true, laidKinds := [.data, .pinned], laidTests := true, laidLooks := .later }
def DecideIntegersCardSaid : Prop := Claim7.holds Tryz.pinned (.plain (OpenSpec.ofChange decideIntegersSpec)) decideIntegersCard

/-- THE SECOND FORM's CARD OF 'calquelaw10.DecideAutomaton'. -/
def decideAutomatonUptoCard : Claim7 := { stood := { row := decideAutomatonUptoRow, standIns := [], harness := (true, "d4c546e3ef9cbd7c08cd1103d28a7cc031ff9e5513b1fe3ea390105a96433d6c"), looks := false }, kinds := [], alts := [], laidByText := true, laidKinds := [.data, .pinned], laidTests := true, laidLooks := .later }
def DecideAutomatonUptoCardSaid : Prop := Claim7.holds Tryz.pinned (.plain (OpenSpec.upto decideAutomatonSpec)) decideAutomatonUptoCard

/-- THE SECOND FORM's CARD OF 'calquelaw10.DecideAccepts'. -/
def decideAcceptsUptoCard : Claim7 := { stood := { row := decideAcceptsUptoRow, standIns := [], harness := (true, "d4c546e3ef9cbd7c08cd1103d28a7cc031ff9e5513b1fe3ea390105a96433d6c"), looks := false }, kinds := [], alts := [], laidByText := true, laidKinds := [.data, .pinned], laidTests := true, laidLooks := .later }
def DecideAcceptsUptoCardSaid : Prop := Claim7.holds Tryz.pinned (.plain (OpenSpec.upto decideAcceptsSpec)) decideAcceptsUptoCard

/-- THE SECOND FORM's CARD OF 'calquelaw10.DecideSatisfiable'. -/
def decideSatisfiableUptoCard : Claim7 := { stood := { row := decideSatisfiableUptoRow, standIns := [], harness := (true, "d4c546e3ef9cbd7c08cd1103d28a7cc031ff9e5513b1fe3ea390105a96433d6c"), looks := false }, kinds := [], alts := [], laidByText := true, laidKinds := [.data, .pinned], laidTests := true, laidLooks := .later }
def DecideSatisfiableUptoCardSaid : Prop := Claim7.holds Tryz.pinned (.plain (OpenSpec.upto decideSatisfiableSpec)) decideSatisfiableUptoCard

/-- THE SECOND FORM's CARD OF 'calquelaw10.DecideTotal'. -/
def decideTotalUptoCard : Claim7 := { stood := { row := decideTotalUptoRow, standIns := [], harness := (true, "d4c546e3ef9cbd7c08cd1103d28a7cc031ff9e5513b1fe3ea390105a96433d6c"), looks := false }, kinds := [], alts := [], laidByText := true, laidKinds := [.data, .pinned], laidTests := true, laidLooks := .later }
def DecideTotalUptoCardSaid : Prop := Claim7.holds Tryz.pinned (.plain (OpenSpec.upto decideTotalSpec)) decideTotalUptoCard

/-- THE SECOND FORM's CARD OF 'calquelaw10.DecideDisjoint'. -/
def decideDisjointUptoCard : Claim7 := { stood := { row := decideDisjointUptoRow, standIns := [], harness := (true, "d4c546e3ef9cbd7c08cd1103d28a7cc031ff9e5513b1fe3ea390105a96433d6c"), looks := false }, kinds := [], alts := [], laidByText := true, laidKinds := [.data, .pinned], laidTests := true, laidLooks := .later }
def DecideDisjointUptoCardSaid : Prop := Claim7.holds Tryz.pinned (.plain (OpenSpec.upto decideDisjointSpec)) decideDisjointUptoCard

/-- THE SECOND FORM's CARD OF 'calquelaw10.DecideEquivalent'. -/
def decideEquivalentUptoCard : Claim7 := { stood := { row := decideEquivalentUptoRow, standIns := [], harness := (true, "d4c546e3ef9cbd7c08cd1103d28a7cc031ff9e5513b1fe3ea390105a96433d6c"), looks := false }, kinds := [], alts := [], laidByText := true, laidKinds := [.data, .pinned], laidTests := true, laidLooks := .later }
def DecideEquivalentUptoCardSaid : Prop := Claim7.holds Tryz.pinned (.plain (OpenSpec.upto decideEquivalentSpec)) decideEquivalentUptoCard

/-- THE SECOND FORM's CARD OF 'calquelaw10.DecideSets'. -/
def decideSetsUptoCard : Claim7 := { stood := { row := decideSetsUptoRow, standIns := [], harness := (true, "d4c546e3ef9cbd7c08cd1103d28a7cc031ff9e5513b1fe3ea390105a96433d6c"), looks := false }, kinds := [], alts := [], laidByText := true, laidKinds := [.data, .pinned], laidTests := true, laidLooks := .later }
def DecideSetsUptoCardSaid : Prop := Claim7.holds Tryz.pinned (.plain (OpenSpec.upto decideSetsSpec)) decideSetsUptoCard

/-- THE SECOND FORM's CARD OF 'calquelaw10.DecideIntegers'. -/
def decideIntegersUptoCard : Claim7 := { stood := { row := decideIntegersUptoRow, standIns := [], harness := (true, "d4c546e3ef9cbd7c08cd1103d28a7cc031ff9e5513b1fe3ea390105a96433d6c"), looks := false }, kinds := [], alts := [], laidByText := true, laidKinds := [.data, .pinned], laidTests := true, laidLooks := .later }
def DecideIntegersUptoCardSaid : Prop := Claim7.holds Tryz.pinned (.plain (OpenSpec.upto decideIntegersSpec)) decideIntegersUptoCard
end Rows
end Go.Proofs.YtfbfcomfkokfcaaGreatDoor
