/- What the row stands on, part 20. -/
import Derived.Test.YtgogcekeklelmaaDoorRows
import Derived.LaidMore
import Derived.LaidHandle
import Derived.LaidSub
import Derived.MakeChecks
import Derived.Stop.LaidErr
import Derived.Lib.LaidTab
import Derived.Test.YtgogcekeklelmaaDoorQ19

/- The program's functions as the laws of layer 11 take them; the walks as the rows take them; what the listed variables hold. -/
namespace Go.Proofs.YtgogcekeklelmaaDoor
open Go.RowKit
set_option linter.unusedVariables false

theorem lexC : LexC Env where
  later := fun E b => E.below b
  tok := fun s w hs E => tokensP_any s w hs E
  spell := fun v l w hv hl ht E => spell_any v l w hv hl ht E
  isWord := fun s w hs E => (isWordP_any s w hs).mono (by rintro e w' ⟨h1, h2⟩; rw [h2]; exact ⟨h1, Below.refl _ _⟩)
  isText := fun s w hs E => isTextP_any s w hs
theorem lexemeTokens_walk (a : ByteArray) (h : a.size ≤ maxLen) (w : World) (E : Env w) : Calls Tryd.prog 3 #[.string a] w fun e w' => e = .returned (.bool true) ∧ Below w.heap.size w w' :=
  lexemeTokens_law lexC a h w E
theorem lexemePlaces_walk (a : ByteArray) (h : a.size ≤ maxLen) (w : World) (E : Env w) : Calls Tryd.prog 5 #[.string a] w fun e w' => e = .returned (.bool true) ∧ Below w.heap.size w w' :=
  lexemePlaces_law lexC a h w E
theorem lexemeInverse_walk (g : Option Addr) (n c : Nat) (z : List TkZ) (a : ByteArray) (w : World) (h3 : IsTkz w g n c z) (h1 : a.size ≤ maxLen) (E : Env w) :
    Calls Tryd.prog 4 #[.slice g n c, .string a] w fun e w' => e = .returned (.bool true) ∧ Below w.heap.size w w' :=
  lexemeInverse_in lexC g n c z a w h3 h1 E
theorem lexemeBlanks_walk (a b : ByteArray) (g : Option Addr) (n c : Nat) (z : List Int) (w : World) (y1 : a.size ≤ 140737488355328) (y2 : b.size ≤ 140737488355328) (h3 : IsRow .u8 w g n c z) (E : Env w) :
    Calls Tryd.prog 6 #[.string a, .string b, .slice g n c] w fun e w' => e = .returned (.bool true) ∧ Below w.heap.size w w' :=
  lexemeBlanks_in lexC a b g n c z w y1 y2 h3 E
def laidL : List (String × DataW Unit) := Rows.lexemeTokensRow.laid
theorem gErr : Tryd.prog.globalNamed "strconv.ErrSyntax" = some 4 := by kernel_rfl
theorem gErrT : (Tryd.prog.globals[4]?).map (·.type) = some 68 := by kernel_rfl
theorem gPowT : (Tryd.prog.globals[1]?).map (·.type) = some 118 := by kernel_rfl
theorem starErr : "*" ++ "errors.errorString" = "*errors.errorString" := by decide
theorem rowErr (u : TypeId) (h : Tryd.prog.typeName? 3 u = some "*errors.errorString") : u = 134 :=
  typeName_ptr_named (nm := "errors.errorString") (by rw [starErr]; kernel_rfl) (by kernel_rfl) (by decide) u (by rw [starErr]; exact h)
theorem env_of {W : World} (h : laidMetH Tryd.prog laidL W) : Env W := by
  rw [MakeChecks.laidMetH_plain _ _ _ (by kernel_rfl)] at h
  refine ⟨?_, ?_⟩
  · have h1 := h.filter (fun x => x.1 == "internal/strconv.uint64pow10")
    have e : laidL.filter (fun x => x.1 == "internal/strconv.uint64pow10") = [("internal/strconv.uint64pow10", Lib.tabData .u64 Lib.pow10Tab)] := by kernel_rfl
    rw [e] at h1
    exact Lib.tabIs_of_head gPow gPowT Tryd.underlying118 Tryd.underlying108 (by kernel_rfl) (by kernel_rfl) h1
  · have h1 := h.filter (fun x => x.1 == "strconv.ErrSyntax")
    have e : laidL.filter (fun x => x.1 == "strconv.ErrSyntax") = [("strconv.ErrSyntax", .iface "*errors.errorString" (.ptr (.agg [.lit (.string [105, 110, 118, 97, 108, 105, 100, 32, 115, 121, 110, 116, 97, 120])])))] := by kernel_rfl
    rw [e] at h1
    obtain ⟨a, s, hv, _⟩ := laid_sentinel h1 gErr gErrT Tryd.underlying68 rowErr Tryd.underlying134 Tryd.underlying136 rfl rfl Tryd.underlying9 (by kernel_rfl) (by kernel_rfl)
    exact ⟨_, _, by have := World.var?_cell gErr hv 0; simpa using this⟩
theorem door_met (os : Os) (args : Array Value) : laidMetH Tryd.prog laidL ((World.doorLaid Tryd.prog 62 os).forCall (fun _ _ => 0) ⟨#[], args, []⟩).memory :=
  laidMetH_of_parts3 (fuel := 8) (laidMet_of_run' 8 (by kernel_rfl) (by kernel_rfl)) (by kernel_rfl) (by kernel_rfl)
end Go.Proofs.YtgogcekeklelmaaDoor


