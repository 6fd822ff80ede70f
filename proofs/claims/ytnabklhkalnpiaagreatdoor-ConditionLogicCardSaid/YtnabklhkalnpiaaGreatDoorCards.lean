/-
  DERIVED. GIVEN WITH THE SEED: THE CARDS: each row of YtnabklhkalnpiaaGreatDoorRows.lean that lists a variable, with what it lists TIED to the program's text (the seventh form; the later family's looks); each row that meets fmt, with fmt's text TOLD by the authors' own Lean function (tested against real Go, not proved from fmt's source: count such statements apart). THE CARD IS WHAT COUNTS. Prove the row's statement (the work); the ties are given (YtnabklhkalnpiaaGreatDoorTie.lean); close each card by the builder's one call (the guide's Derived/Test/ToyasCard.lean, 'card_holds'). Laid BY PROGRAM, IN A SANDBOX (cutbox-door.mjs). By AI agents, Wed Nov 11 2026. No macro, syntax, notation, axiom, sorry.
-/
import Derived.Test.YtnabklhkalnpiaaGreatDoorRows
import GoSem.ClaimSeven
namespace Go.Proofs.YtnabklhkalnpiaaGreatDoor
namespace Rows

/-- THE TIED CARD OF 'calquelaw08.ConditionPrint'. -/
def conditionPrintCard : Claim7 := { stood := { row := conditionPrintRow, standIns := [], harness := (true, "ae9e49b4f59d9619f468a154e833da2384a689d0d559bee05cf54f772a0b231e"), looks := true }, kinds := [], alts := [], laidByText := true, laidKinds := [.data, .data, .data, .data, .sentinel, .sentinel, .pinned], laidTests := true, laidLooks := .later }
def ConditionPrintCardSaid : Prop := Claim7.holds Tryz.pinned (.plain (OpenSpec.ofChange conditionPrintSpec)) conditionPrintCard

/-- THE TIED CARD OF 'calquelaw08.ConditionInverse'. -/
def conditionInverseCard : Claim7 := { stood := { row := conditionInverseRow, standIns := [], harness := (true, "ae9e49b4f59d9619f468a154e833da2384a689d0d559bee05cf54f772a0b231e"), looks := true }, kinds := [], alts := [], laidByText := true, laidKinds := [.data, .data, .data, .data, .sentinel, .sentinel, .pinned], laidTests := true, laidLooks := .later }
def ConditionInverseCardSaid : Prop := Claim7.holds Tryz.pinned (.plain (OpenSpec.ofChange conditionInverseSpec)) conditionInverseCard

/-- THE TIED CARD OF 'calquelaw08.ConditionHolds'. -/
def conditionHoldsCard : Claim7 := { stood := { row := conditionHoldsRow, standIns := [], harness := (true, "ae9e49b4f59d9619f468a154e833da2384a689d0d559bee05cf54f772a0b231e"), looks := true }, kinds := [], alts := [], laidByText := true, laidKinds := [.data, .data, .data, .data, .sentinel, .sentinel, .pinned], laidTests := true, laidLooks := .later }
def ConditionHoldsCardSaid : Prop := Claim7.holds Tryz.pinned (.plain (OpenSpec.ofChange conditionHoldsSpec)) conditionHoldsCard

/-- THE TIED CARD OF 'calquelaw08.ConditionLogic'. -/
def conditionLogicCard : Claim7 := { stood := { row := conditionLogicRow, standIns := [], harness := (true, "ae9e49b4f59d9619f468a154e833da2384a689d0d559bee05cf54f772a0b231e"), looks := true }, kinds := [], alts := [], laidByText := true, laidKinds := [.data, .data, .data, .data, .sentinel, .sentinel, .pinned], laidTests := true, laidLooks := .later }
def ConditionLogicCardSaid : Prop := Claim7.holds Tryz.pinned (.plain (OpenSpec.ofChange conditionLogicSpec)) conditionLogicCard

/-- THE TIED CARD OF 'calquelaw08.ConditionSpans'. -/
def conditionSpansCard : Claim7 := { stood := { row := conditionSpansRow, standIns := [], harness := (true, "ae9e49b4f59d9619f468a154e833da2384a689d0d559bee05cf54f772a0b231e"), looks := true }, kinds := [], alts := [], laidByText := true, laidKinds := [.data, .data, .data, .data, .sentinel, .sentinel, .pinned], laidTests := true, laidLooks := .later }
def ConditionSpansCardSaid : Prop := Claim7.holds Tryz.pinned (.plain (OpenSpec.ofChange conditionSpansSpec)) conditionSpansCard

/-- THE TIED CARD OF 'calquelaw08.ConditionValues'. -/
def conditionValuesCard : Claim7 := { stood := { row := conditionValuesRow, standIns := [], harness := (true, "ae9e49b4f59d9619f468a154e833da2384a689d0d559bee05cf54f772a0b231e"), looks := true }, kinds := [], alts := [], laidByText := true, laidKinds := [.data, .data, .data, .data, .sentinel, .sentinel, .pinned], laidTests := true, laidLooks := .later }
def ConditionValuesCardSaid : Prop := Claim7.holds Tryz.pinned (.plain (OpenSpec.ofChange conditionValuesSpec)) conditionValuesCard

/-- THE SECOND FORM's CARD OF 'calquelaw08.ConditionPrint'. -/
def conditionPrintUptoCard : Claim7 := { stood := { row := conditionPrintUptoRow, standIns := [], harness := (true, "ae9e49b4f59d9619f468a154e833da2384a689d0d559bee05cf54f772a0b231e"), looks := true }, kinds := [], alts := [], laidByText := true, laidKinds := [.data, .data, .data, .data, .sentinel, .sentinel, .pinned], laidTests := true, laidLooks := .later }
def ConditionPrintUptoCardSaid : Prop := Claim7.holds Tryz.pinned (.plain (OpenSpec.upto conditionPrintSpec)) conditionPrintUptoCard

/-- THE SECOND FORM's CARD OF 'calquelaw08.ConditionInverse'. -/
def conditionInverseUptoCard : Claim7 := { stood := { row := conditionInverseUptoRow, standIns := [], harness := (true, "ae9e49b4f59d9619f468a154e833da2384a689d0d559bee05cf54f772a0b231e"), looks := true }, kinds := [], alts := [], laidByText := true, laidKinds := [.data, .data, .data, .data, .sentinel, .sentinel, .pinned], laidTests := true, laidLooks := .later }
def ConditionInverseUptoCardSaid : Prop := Claim7.holds Tryz.pinned (.plain (OpenSpec.upto conditionInverseSpec)) conditionInverseUptoCard

/-- THE SECOND FORM's CARD OF 'calquelaw08.ConditionHolds'. -/
def conditionHoldsUptoCard : Claim7 := { stood := { row := conditionHoldsUptoRow, standIns := [], harness := (true, "ae9e49b4f59d9619f468a154e833da2384a689d0d559bee05cf54f772a0b231e"), looks := true }, kinds := [], alts := [], laidByText := true, laidKinds := [.data, .data, .data, .data, .sentinel, .sentinel, .pinned], laidTests := true, laidLooks := .later }
def ConditionHoldsUptoCardSaid : Prop := Claim7.holds Tryz.pinned (.plain (OpenSpec.upto conditionHoldsSpec)) conditionHoldsUptoCard

/-- THE SECOND FORM's CARD OF 'calquelaw08.ConditionLogic'. -/
def conditionLogicUptoCard : Claim7 := { stood := { row := conditionLogicUptoRow, standIns := [], harness := (true, "ae9e49b4f59d9619f468a154e833da2384a689d0d559bee05cf54f772a0b231e"), looks := true }, kinds := [], alts := [], laidByText := true, laidKinds := [.data, .data, .data, .data, .sentinel, .sentinel, .pinned], laidTests := true, laidLooks := .later }
def ConditionLogicUptoCardSaid : Prop := Claim7.holds Tryz.pinned (.plain (OpenSpec.upto conditionLogicSpec)) conditionLogicUptoCard

/-- THE SECOND FORM's CARD OF 'calquelaw08.ConditionSpans'. -/
def conditionSpansUptoCard : Claim7 := { stood := { row := conditionSpansUptoRow, standIns := [], harness := (true, "ae9e49b4f59d9619f468a154e833da2384a689d0d559bee05cf54f772a0b231e"), looks := true }, kinds := [], alts := [], laidByText := true, laidKinds := [.data, .data, .data, .data, .sentinel, .sentinel, .pinned], laidTests := true, laidLooks := .later }
def ConditionSpansUptoCardSaid : Prop := Claim7.holds Tryz.pinned (.plain (OpenSpec.upto conditionSpansSpec)) conditionSpansUptoCard

/-- THE SECOND FORM's CARD OF 'calquelaw08.ConditionValues'. -/
def conditionValuesUptoCard : Claim7 := { stood := { row := conditionValuesUptoRow, standIns := [], harness := (true, "ae9e49b4f59d9619f468a154e833da2384a689d0d559bee05cf54f772a0b231e"), looks := true }, kinds := [], alts := [], laidByText := true, laidKinds := [.data, .data, .data, .data, .sentinel, .sentinel, .pinned], laidTests := true, laidLooks := .later }
def ConditionValuesUptoCardSaid : Prop := Claim7.holds Tryz.pinned (.plain (OpenSpec.upto conditionValuesSpec)) conditionValuesUptoCard
end Rows
end Go.Proofs.YtnabklhkalnpiaaGreatDoor
