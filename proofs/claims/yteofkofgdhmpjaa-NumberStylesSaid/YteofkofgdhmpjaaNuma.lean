/- The laws of layer 15: Styles. -/
import Derived.Test.YteofkofgdhmpjaaNuj
namespace Go.Proofs.Yteofkofgdhmpjaa
open Go.RowKit
set_option linter.unusedVariables false

theorem ro_cases {n : Num} {o : Option Str} (h : Ro n 0 o) : o = none ∨ ∃ y, Good y ∧ o = some (txt y) := by
  cases o with
  | none => exact .inl rfl
  | some t => obtain ⟨y, g, rfl⟩ := roY_of h; exact .inr ⟨y, g, rfl⟩
theorem sh_cases {n : Num} {o : Option Str} (h : Sh n 2 o) : o = none ∨ ∃ y, Good y ∧ o = some (txt y) := by
  cases o with
  | none => exact .inl rfl
  | some t => obtain ⟨y, g, rfl⟩ := shY_of h; exact .inr ⟨y, g, rfl⟩
end Go.Proofs.Yteofkofgdhmpjaa
