/- What the row stands on, part 20. -/
import Derived.Test.YtgogcekeklelmaaGreatDoorRows
import Derived.LaidMore
import Derived.LaidHandle
import Derived.LaidSub
import Derived.MakeChecks
import Derived.Stop.LaidErr
import Derived.Lib.LaidTab
import Derived.Test.YtgogcekeklelmaaGreatDoorQ19

/- (The seat of LexemeSpell.) The program's functions as the laws of layer 11 take them; the walks as the rows take them; what the listed variables hold. -/
namespace Go.Proofs.YtgogcekeklelmaaGreatDoor
open Go.RowKit
set_option linter.unusedVariables false

theorem lexC : LexC Env where
  later := fun E b => E.below b
  tok := fun s w hs E => tokensP_any s w hs E
  spell := fun v l w hv hl ht E => spell_any v l w hv hl ht E
  isWord := fun s w hs E => (isWordP_any s w hs).mono (by rintro e w' ⟨h1, h2⟩; rw [h2]; exact ⟨h1, Below.refl _ _⟩)
  isText := fun s w hs E => isTextP_any s w hs
theorem lexemeSpell_walk (g : Option Addr) (n c : Nat) (z : List TkZ) (a : ByteArray) (w : World) (h3 : IsTkz w g n c z) (h1 : a.size ≤ maxLen) (E : Env w) :
    Calls Tryz.prog 3 #[.slice g n c, .string a] w fun e w' => e = .returned (.bool true) ∧ Below w.heap.size w w' :=
  lexemeSpell_in lexC (numC Env) g n c z a w h3 h1 E
def laidL : List (String × DataW Unit) := Rows.lexemeSpellRow.laid
theorem gErr : Tryz.prog.globalNamed "strconv.ErrSyntax" = some 0 := by kernel_rfl
theorem gErrT : (Tryz.prog.globals[0]?).map (·.type) = some 48 := by kernel_rfl
theorem gPowT : (Tryz.prog.globals[3]?).map (·.type) = some 126 := by kernel_rfl
theorem starErr : "*" ++ "errors.errorString" = "*errors.errorString" := by decide
theorem rowErr (u : TypeId) (h : Tryz.prog.typeName? 3 u = some "*errors.errorString") : u = 107 :=
  typeName_ptr_named (nm := "errors.errorString") (by rw [starErr]; kernel_rfl) (by kernel_rfl) (by decide) u (by rw [starErr]; exact h)
theorem env_of {W : World} (h : laidMetH Tryz.prog laidL W) : Env W := by
  rw [MakeChecks.laidMetH_plain _ _ _ (by kernel_rfl)] at h
  refine ⟨?_, ?_⟩
  · have h1 := h.filter (fun x => x.1 == "internal/strconv.uint64pow10")
    have e : laidL.filter (fun x => x.1 == "internal/strconv.uint64pow10") = [("internal/strconv.uint64pow10", Lib.tabData .u64 Lib.pow10Tab)] := by kernel_rfl
    rw [e] at h1
    exact Lib.tabIs_of_head gPow gPowT Tryz.underlying126 Tryz.underlying97 (by kernel_rfl) (by kernel_rfl) h1
  · have h1 := h.filter (fun x => x.1 == "strconv.ErrSyntax")
    have e : laidL.filter (fun x => x.1 == "strconv.ErrSyntax") = [("strconv.ErrSyntax", .iface "*errors.errorString" (.ptr (.agg [.lit (.string [105, 110, 118, 97, 108, 105, 100, 32, 115, 121, 110, 116, 97, 120])])))] := by kernel_rfl
    rw [e] at h1
    obtain ⟨a, s, hv, _⟩ := laid_sentinel h1 gErr gErrT Tryz.underlying48 rowErr Tryz.underlying107 Tryz.underlying109 rfl rfl Tryz.underlying9 (by kernel_rfl) (by kernel_rfl)
    exact ⟨_, _, by have := World.var?_cell gErr hv 0; simpa using this⟩
theorem door_met (os : Os) (args : Array Value) : laidMetH Tryz.prog laidL ((World.doorLaid Tryz.prog 62 os).forCall (fun _ _ => 0) ⟨#[], args, []⟩).memory :=
  laidMetH_of_parts3 (fuel := 8) (laidMet_of_run' 8 (by kernel_rfl) (by kernel_rfl)) (by kernel_rfl) (by kernel_rfl)
end Go.Proofs.YtgogcekeklelmaaGreatDoor


