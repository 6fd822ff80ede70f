/- What the row stands on, part 8. -/
import Derived.Lib.AppendIntMem
import Derived.Lib.SmallJoins
import Derived.Test.YtpmmchppfmojhaaGreatDoorQ7

/- writeHexadecimal, writeEntity, Escape. -/
namespace Go.Proofs.YtpmmchppfmojhaaGreatDoor
open Go.RowKit
set_option linter.unusedVariables false

/-- What the library's variables hold. -/
structure Env (w : World) : Prop where
  tab : Lib.TabIs Tryz.prog w "internal/strconv.uint64pow10" .u64 Lib.pow10Tab
  syn : ∃ tp p, w.cell? ⟨4, 0, none⟩ = some (.iface tp p)
theorem gPow : Tryz.prog.globalNamed "internal/strconv.uint64pow10" = some 0 := by kernel_rfl
theorem Env.below {w w' : World} (h : Env w) (hb : Below w.heap.size w w') : Env w' := by
  refine ⟨Joins.tab_stays gPow h.tab hb (Nat.le_refl _), ?_⟩
  obtain ⟨tp, p, hc⟩ := h.syn
  exact ⟨tp, p, (hb.cell (p := ⟨4, 0, none⟩) (Lib.lt_of_cell hc)).trans hc⟩

theorem WPost.step {b : Nat} {w w1 w2 : World} {l : List UInt8} {r : Value} {e : Ending} (h1 : Below b w w1) (h : WPost b w1 l r e w2) : WPost b w l r e w2 := ⟨h.1, h.2.1, h1.trans h.2.2⟩

theorem size_mk (l : List UInt8) : (⟨l.toArray⟩ : ByteArray).size = l.length := by simp [ByteArray.size]

end Go.Proofs.YtpmmchppfmojhaaGreatDoor


/- Escape. -/
namespace Go.Proofs.YtpmmchppfmojhaaGreatDoor
open Go.RowKit
set_option linter.unusedVariables false

def StrPostOf2 (w : World) (l : List UInt8) (e : Ending) (w' : World) : Prop := e = .returned (.string ⟨l.toArray⟩) ∧ Below w.heap.size w w'
theorem byt_getOf2 (s : ByteArray) (k : Nat) (h : k < s.size) : (s[k]'h).toNat = byt s.data.toList k := by
  unfold byt
  rw [List.getElem?_eq_getElem (show k < s.data.toList.length from by simpa using h)]
  rfl

end Go.Proofs.YtpmmchppfmojhaaGreatDoor


