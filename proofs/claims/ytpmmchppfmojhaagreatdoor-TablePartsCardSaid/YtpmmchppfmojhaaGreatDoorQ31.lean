/- What the row stands on, part 31. -/
import Derived.Test.YtpmmchppfmojhaaGreatDoorRows
import Derived.LaidMore
import Derived.Lay
import Derived.LaidHandle
import Derived.LaidSub
import Derived.MakeChecks
import Derived.Stop.LaidErr
import Derived.Lib.LaidTab
import Derived.Test.YtpmmchppfmojhaaGreatDoorQ30

/- Of stage 12: what the listed variables hold, for the walks; the start of the witness; the contract of Parse. -/
namespace Go.Proofs.YtpmmchppfmojhaaGreatDoor
open Go.RowKit
set_option linter.unusedVariables false

noncomputable def laidL : List (String × DataW Unit) := Rows.tablePartsRow.laid
theorem gErrS : Tryz.prog.globalNamed "strconv.ErrSyntax" = some 4 := by kernel_rfl
theorem gErrST : (Tryz.prog.globals[4]?).map (·.type) = some 106 := by kernel_rfl
theorem gErrR : Tryz.prog.globalNamed "strconv.ErrRange" = some 5 := by kernel_rfl
theorem gErrRT : (Tryz.prog.globals[5]?).map (·.type) = some 106 := by kernel_rfl
theorem gPowT : (Tryz.prog.globals[0]?).map (·.type) = some 317 := by kernel_rfl
theorem starErr : "*" ++ "errors.errorString" = "*errors.errorString" := by decide
theorem rowErr (u : TypeId) (h : Tryz.prog.typeName? 3 u = some "*errors.errorString") : u = 350 :=
  typeName_ptr_named (nm := "errors.errorString") (by rw [starErr]; kernel_rfl) (by kernel_rfl) (by decide) u (by rw [starErr]; exact h)
theorem env_of {W : World} (h : laidMetH Tryz.prog laidL W) : EnvOf8 W := by
  rw [MakeChecks.laidMetH_plain _ _ _ (by kernel_rfl)] at h
  refine ⟨?_, ?_, ?_⟩
  · have h1 := h.filter (fun x => x.1 == "internal/strconv.uint64pow10")
    have e : laidL.filter (fun x => x.1 == "internal/strconv.uint64pow10") = [("internal/strconv.uint64pow10", Lib.tabData .u64 Lib.pow10Tab)] := by kernel_rfl
    rw [e] at h1
    exact Lib.tabIs_of_head gPow gPowT Tryz.underlying317 Tryz.underlying291 (by kernel_rfl) (by kernel_rfl) h1
  · have h1 := h.filter (fun x => x.1 == "strconv.ErrSyntax")
    have e : laidL.filter (fun x => x.1 == "strconv.ErrSyntax") = [("strconv.ErrSyntax", .iface "*errors.errorString" (.ptr (.agg [.lit (.string [105, 110, 118, 97, 108, 105, 100, 32, 115, 121, 110, 116, 97, 120])])))] := by kernel_rfl
    rw [e] at h1
    obtain ⟨a, s, hv, _⟩ := laid_sentinel h1 gErrS gErrST Tryz.underlying106 rowErr Tryz.underlying350 Tryz.underlying352 rfl rfl Tryz.underlying9 (by kernel_rfl) (by kernel_rfl)
    exact ⟨_, _, by have := World.var?_cell gErrS hv 0; simpa using this⟩
  · have h1 := h.filter (fun x => x.1 == "strconv.ErrRange")
    have e : laidL.filter (fun x => x.1 == "strconv.ErrRange") = [("strconv.ErrRange", .iface "*errors.errorString" (.ptr (.agg [.lit (.string [118, 97, 108, 117, 101, 32, 111, 117, 116, 32, 111, 102, 32, 114, 97, 110, 103, 101])])))] := by kernel_rfl
    rw [e] at h1
    obtain ⟨a, s, hv, _⟩ := laid_sentinel h1 gErrR gErrRT Tryz.underlying106 rowErr Tryz.underlying350 Tryz.underlying352 rfl rfl Tryz.underlying9 (by kernel_rfl) (by kernel_rfl)
    exact ⟨_, _, by have := World.var?_cell gErrR hv 0; simpa using this⟩
theorem door_shaped (os : Os) (args : Array Value) : ((World.laidAll Tryz.prog os laidL).forCall (fun _ _ => 0) ⟨#[], args, []⟩).Shaped Tryz.prog := World.shaped_of_ZipB (by kernel_rfl) (by kernel_rfl)
theorem door_met (os : Os) (args : Array Value) : laidMetH Tryz.prog laidL ((World.laidAll Tryz.prog os laidL).forCall (fun _ _ => 0) ⟨#[], args, []⟩).memory := by
  rw [MakeChecks.laidMetH_plain _ _ _ (by kernel_rfl)]
  exact laidMet_laidAll _ (by kernel_rfl) (by kernel_rfl)

set_option maxRecDepth 100000 in
def parC : ParC := ⟨EnvOf8, fun h hb => h.laterZ hb, fun w s E hs => parseT_z w s E hs⟩
end Go.Proofs.YtpmmchppfmojhaaGreatDoor


