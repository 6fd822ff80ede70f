/-
  DERIVED. GIVEN WITH THE SEED: THE CARDS: each row of YtmnclnpbmgomgaaGreatDoorRows.lean that lists a variable, with what it lists TIED to the program's text (the seventh form; the later family's looks); each row that meets fmt, with fmt's text TOLD by the authors' own Lean function (tested against real Go, not proved from fmt's source: count such statements apart). THE CARD IS WHAT COUNTS. Prove the row's statement (the work); the ties are given (YtmnclnpbmgomgaaGreatDoorTie.lean); close each card by the builder's one call (the guide's Derived/Test/ToyasCard.lean, 'card_holds'). Laid BY PROGRAM, IN A SANDBOX (cutbox-door.mjs). By AI agents, Wed Nov 11 2026. No macro, syntax, notation, axiom, sorry.
-/
import Derived.Test.YtmnclnpbmgomgaaGreatDoorRows
import GoSem.ClaimSeven
namespace Go.Proofs.YtmnclnpbmgomgaaGreatDoor
namespace Rows

/-- THE TIED CARD OF 'calquelaw14.PluralClass'. -/
def pluralClassCard : Claim7 := { stood := { row := pluralClassRow, standIns := [], harness := (true, "2a9d258f265666e15aa421102f642ee146d8ca902025dce7ab88d8b32d529678"), looks := true }, kinds := [], alts := [], laidByText := true, laidKinds := [.data, .data, .data, .data, .sentinel, .sentinel, .data, .pinned], laidTests := true, laidLooks := .later }
def PluralClassCardSaid : Prop := Claim7.holds Tryz.pinned (.plain (OpenSpec.ofChange pluralClassSpec)) pluralClassCard

/-- THE TIED CARD OF 'calquelaw14.PluralClasses'. -/
def pluralClassesCard : Claim7 := { stood := { row := pluralClassesRow, standIns := [], harness := (true, "2a9d258f265666e15aa421102f642ee146d8ca902025dce7ab88d8b32d529678"), looks := true }, kinds := [], alts := [], laidByText := true, laidKinds := [.data, .data, .data, .data, .sentinel, .sentinel, .data, .pinned], laidTests := true, laidLooks := .later }
def PluralClassesCardSaid : Prop := Claim7.holds Tryz.pinned (.plain (OpenSpec.ofChange pluralClassesSpec)) pluralClassesCard

/-- THE TIED CARD OF 'calquelaw14.PluralOccurs'. -/
def pluralOccursCard : Claim7 := { stood := { row := pluralOccursRow, standIns := [], harness := (true, "2a9d258f265666e15aa421102f642ee146d8ca902025dce7ab88d8b32d529678"), looks := true }, kinds := [], alts := [], laidByText := true, laidKinds := [.data, .data, .data, .data, .sentinel, .sentinel, .data, .pinned], laidTests := true, laidLooks := .later }
def PluralOccursCardSaid : Prop := Claim7.holds Tryz.pinned (.plain (OpenSpec.ofChange pluralOccursSpec)) pluralOccursCard

/-- THE TIED CARD OF 'calquelaw14.PluralOrder'. -/
def pluralOrderCard : Claim7 := { stood := { row := pluralOrderRow, standIns := [], harness := (true, "2a9d258f265666e15aa421102f642ee146d8ca902025dce7ab88d8b32d529678"), looks := true }, kinds := [], alts := [], laidByText := true, laidKinds := [.data, .data, .data, .data, .sentinel, .sentinel, .data, .pinned], laidTests := true, laidLooks := .later }
def PluralOrderCardSaid : Prop := Claim7.holds Tryz.pinned (.plain (OpenSpec.ofChange pluralOrderSpec)) pluralOrderCard

/-- THE TIED CARD OF 'calquelaw14.PluralExample'. -/
def pluralExampleCard : Claim7 := { stood := { row := pluralExampleRow, standIns := [], harness := (true, "2a9d258f265666e15aa421102f642ee146d8ca902025dce7ab88d8b32d529678"), looks := true }, kinds := [], alts := [], laidByText := true, laidKinds := [.data, .data, .data, .data, .sentinel, .sentinel, .data, .pinned], laidTests := true, laidLooks := .later }
def PluralExampleCardSaid : Prop := Claim7.holds Tryz.pinned (.plain (OpenSpec.ofChange pluralExampleSpec)) pluralExampleCard

/-- THE TIED CARD OF 'calquelaw14.PluralFewer'. -/
def pluralFewerCard : Claim7 := { stood := { row := pluralFewerRow, standIns := [], harness := (true, "2a9d258f265666e15aa421102f642ee146d8ca902025dce7ab88d8b32d529678"), looks := true }, kinds := [], alts := [], laidByText := true, laidKinds := [.data, .data, .data, .data, .sentinel, .sentinel, .data, .pinned], laidTests := true, laidLooks := .later }
def PluralFewerCardSaid : Prop := Claim7.holds Tryz.pinned (.plain (OpenSpec.ofChange pluralFewerSpec)) pluralFewerCard

/-- THE TIED CARD OF 'calquetop.WholeClasses'. -/
def wholeClassesCard : Claim7 := { stood := { row := wholeClassesRow, standIns := [], harness := (true, "2a9d258f265666e15aa421102f642ee146d8ca902025dce7ab88d8b32d529678"), looks := true }, kinds := [], alts := [], laidByText := true, laidKinds := [.data, .data, .pinned], laidTests := true, laidLooks := .later }
def WholeClassesCardSaid : Prop := Claim7.holds Tryz.pinned (.plain (OpenSpec.ofChange wholeClassesSpec)) wholeClassesCard

/-- THE SECOND FORM's CARD OF 'calquelaw14.PluralClass'. -/
def pluralClassUptoCard : Claim7 := { stood := { row := pluralClassUptoRow, standIns := [], harness := (true, "2a9d258f265666e15aa421102f642ee146d8ca902025dce7ab88d8b32d529678"), looks := true }, kinds := [], alts := [], laidByText := true, laidKinds := [.data, .data, .data, .data, .sentinel, .sentinel, .data, .pinned], laidTests := true, laidLooks := .later }
def PluralClassUptoCardSaid : Prop := Claim7.holds Tryz.pinned (.plain (OpenSpec.upto pluralClassSpec)) pluralClassUptoCard

/-- THE SECOND FORM's CARD OF 'calquelaw14.PluralClasses'. -/
def pluralClassesUptoCard : Claim7 := { stood := { row := pluralClassesUptoRow, standIns := [], harness := (true, "2a9d258f265666e15aa421102f642ee146d8ca902025dce7ab88d8b32d529678"), looks := true }, kinds := [], alts := [], laidByText := true, laidKinds := [.data, .data, .data, .data, .sentinel, .sentinel, .data, .pinned], laidTests := true, laidLooks := .later }
def PluralClassesUptoCardSaid : Prop := Claim7.holds Tryz.pinned (.plain (OpenSpec.upto pluralClassesSpec)) pluralClassesUptoCard

/-- THE SECOND FORM's CARD OF 'calquelaw14.PluralOccurs'. -/
def pluralOccursUptoCard : Claim7 := { stood := { row := pluralOccursUptoRow, standIns := [], harness := (true, "2a9d258f265666e15aa421102f642ee146d8ca902025dce7ab88d8b32d529678"), looks := true }, kinds := [], alts := [], laidByText := true, laidKinds := [.data, .data, .data, .data, .sentinel, .sentinel, .data, .pinned], laidTests := true, laidLooks := .later }
def PluralOccursUptoCardSaid : Prop := Claim7.holds Tryz.pinned (.plain (OpenSpec.upto pluralOccursSpec)) pluralOccursUptoCard

/-- THE SECOND FORM's CARD OF 'calquelaw14.PluralOrder'. -/
def pluralOrderUptoCard : Claim7 := { stood := { row := pluralOrderUptoRow, standIns := [], harness := (true, "2a9d258f265666e15aa421102f642ee146d8ca902025dce7ab88d8b32d529678"), looks := true }, kinds := [], alts := [], laidByText := true, laidKinds := [.data, .data, .data, .data, .sentinel, .sentinel, .data, .pinned], laidTests := true, laidLooks := .later }
def PluralOrderUptoCardSaid : Prop := Claim7.holds Tryz.pinned (.plain (OpenSpec.upto pluralOrderSpec)) pluralOrderUptoCard

/-- THE SECOND FORM's CARD OF 'calquelaw14.PluralExample'. -/
def pluralExampleUptoCard : Claim7 := { stood := { row := pluralExampleUptoRow, standIns := [], harness := (true, "2a9d258f265666e15aa421102f642ee146d8ca902025dce7ab88d8b32d529678"), looks := true }, kinds := [], alts := [], laidByText := true, laidKinds := [.data, .data, .data, .data, .sentinel, .sentinel, .data, .pinned], laidTests := true, laidLooks := .later }
def PluralExampleUptoCardSaid : Prop := Claim7.holds Tryz.pinned (.plain (OpenSpec.upto pluralExampleSpec)) pluralExampleUptoCard

/-- THE SECOND FORM's CARD OF 'calquelaw14.PluralFewer'. -/
def pluralFewerUptoCard : Claim7 := { stood := { row := pluralFewerUptoRow, standIns := [], harness := (true, "2a9d258f265666e15aa421102f642ee146d8ca902025dce7ab88d8b32d529678"), looks := true }, kinds := [], alts := [], laidByText := true, laidKinds := [.data, .data, .data, .data, .sentinel, .sentinel, .data, .pinned], laidTests := true, laidLooks := .later }
def PluralFewerUptoCardSaid : Prop := Claim7.holds Tryz.pinned (.plain (OpenSpec.upto pluralFewerSpec)) pluralFewerUptoCard

/-- THE SECOND FORM's CARD OF 'calquetop.WholeClasses'. -/
def wholeClassesUptoCard : Claim7 := { stood := { row := wholeClassesUptoRow, standIns := [], harness := (true, "2a9d258f265666e15aa421102f642ee146d8ca902025dce7ab88d8b32d529678"), looks := true }, kinds := [], alts := [], laidByText := true, laidKinds := [.data, .data, .pinned], laidTests := true, laidLooks := .later }
def WholeClassesUptoCardSaid : Prop := Claim7.holds Tryz.pinned (.plain (OpenSpec.upto wholeClassesSpec)) wholeClassesUptoCard
end Rows
end Go.Proofs.YtmnclnpbmgomgaaGreatDoor
