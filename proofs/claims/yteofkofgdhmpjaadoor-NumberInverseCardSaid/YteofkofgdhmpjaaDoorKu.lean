/- Of the reference: scaled, Compare. -/
import Derived.Test.YteofkofgdhmpjaaDoorKt
namespace Go.Proofs.YteofkofgdhmpjaaDoor
open Go.RowKit
set_option linter.unusedVariables false

def sg (b : Bool) (n : Nat) : Int := if b = true then -(n : Int) else (n : Int)
theorem pad_val (fr : Str) : val (fr ++ zs (6 - fr.length)) = val fr * 10 ^ (6 - fr.length) := by rw [val_app, val_zs, zs_len]; rfl
theorem V_scaled {x : Num} (g : Good x) : ∃ F : Nat, val x.fr * 10 ^ (6 - x.fr.length) = F ∧ F < 1000000 ∧ V x = sg x.neg (val x.wh) * 1000000 + sg x.neg F := by
  obtain ⟨h1, h2⟩ := mag_eq g
  refine ⟨_, rfl, h2, ?_⟩
  unfold V sg
  rw [h1]
  cases x.neg <;> simp only [if_true, if_false, Bool.false_eq_true] <;> omega
end Go.Proofs.YteofkofgdhmpjaaDoor
