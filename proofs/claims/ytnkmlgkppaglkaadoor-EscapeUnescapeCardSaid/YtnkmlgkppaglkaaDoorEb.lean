/- strings.Builder as the code of the escape sequences uses it, and the code's small functions. -/
import Derived.Test.YtnkmlgkppaglkaaDoorSh
import Derived.Test.YtnkmlgkppaglkaaDoorEa
import Derived.Test.YtnkmlgkppaglkaaDoorUb
import Derived.LoopTactic
import Derived.WalkSmall
namespace Go.Proofs.YtnkmlgkppaglkaaDoor
open Go.RowKit
set_option linter.unusedVariables false

/-- Block b is a builder of the call's own that holds these bytes. -/
def Bld (b : Nat) (l : List UInt8) (w : World) : Prop := Lib.IsBuilderF 36 5 b b (Lib.byteCells l) w
theorem ownF_below {w w' : World} {base n : Nat} {e : TypeId} {size : Nat} {v : Value} {xs : List Value} (h : w.ownsRowF base e size v n xs) (hb : Below w.heap.size w w') : w'.ownsRowF base e size v n xs := by
  refine ⟨h.1, ?_⟩
  rcases h.2 with h0 | ⟨g, cap, cur, fz, hv, hB, hg, hr⟩
  · exact .inl h0
  · refine .inr ⟨g, cap, cur, fz, hv, hB, ?_, hr⟩
    have hlt : g < w.heap.size := by
      rcases Nat.lt_or_ge g w.heap.size with h' | h'
      · exact h'
      · simp [Array.getElem?_eq_none h'] at hg
    exact (hb.block g hlt).trans hg
theorem Bld.lt {b : Nat} {l : List UInt8} {w : World} (h : Bld b l w) : b < w.heap.size := by
  rcases h with h | h <;> exact h.lt
theorem Bld.below {b : Nat} {l : List UInt8} {w w' : World} (h : Bld b l w) (hb : Below w.heap.size w w') : Bld b l w' := by
  have hlt := h.lt
  rcases h with ⟨hB, v, hv, hown, hne⟩ | ⟨hB, v, hv, hown, hne⟩
  · exact .inl ⟨hB, v, (hb.block b hlt).trans hv, ownF_below hown hb, hne⟩
  · exact .inr ⟨hB, v, (hb.block b hlt).trans hv, ownF_below hown hb, hne⟩
theorem Bld.fresh (w : World) : Bld w.heap.size [] (w.alloc (.cells #[.pointer none, .slice none 0 0] 36)) := Lib.IsBuilderF.of (Lib.fresh_isBuilder _ _ w)

/-- What a function that writes does. -/
def WPost (b : Nat) (w : World) (l : List UInt8) (r : Value) (e : Ending) (w' : World) : Prop := e = .returned r ∧ Bld b l w' ∧ Below b w w'

theorem writeByte_any (b : Nat) (l : List UInt8) (c : UInt8) (w : World) (h : Bld b l w) (hl : l.length ≤ 1099511627776) :
    Calls Tryd.prog 22 #[.pointer (some ⟨b, 0, none⟩), .int .u8 c.toNat] w (WPost b w (l ++ [c]) .nilIface) := by
  refine (Tryd.Builder_WriteByte_k b b _ _ w h (by rw [Lib.byteCells_length]; omega) (Nat.le_of_lt h.lt)).mono ?_
  rintro e w' ⟨rfl, h1, h2, _⟩
  refine ⟨rfl, .inr ?_, h2⟩
  rw [Lib.byteCells_append]
  exact h1
theorem writeString_any (b : Nat) (l : List UInt8) (s : ByteArray) (w : World) (h : Bld b l w) (hl : l.length ≤ 1099511627776) (hs : s.size ≤ 1099511627776) :
    Calls Tryd.prog 29 #[.pointer (some ⟨b, 0, none⟩), .string s] w (WPost b w (l ++ s.data.toList) (.tuple #[.int .i64 s.size, .nilIface])) := by
  refine (Tryd.Builder_WriteString_k b b _ _ w h (by rw [Lib.byteCells_length]; omega) (Nat.le_of_lt h.lt)).mono ?_
  rintro e w' ⟨rfl, h1, h2, _⟩
  refine ⟨rfl, .inr ?_, h2⟩
  rw [Lib.byteCells_append]
  exact h1
theorem string_any (b : Nat) (l : List UInt8) (w : World) (h : Bld b l w) :
    Calls Tryd.prog 26 #[.pointer (some ⟨b, 0, none⟩)] w (WPost b w l (.string ⟨l.toArray⟩)) := by
  refine (Tryd.Builder_String_any_k b b l w h (Nat.le_of_lt h.lt)).mono ?_
  rintro e w' ⟨rfl, h1, h2, _⟩
  exact ⟨rfl, h1, h2⟩

def isSt (st : Int) : Bool := decide (1 ≤ st) && decide (st ≤ 4)
theorem isSt_cases {st : Int} (h : isSt st = true) : st = 1 ∨ st = 2 ∨ st = 3 ∨ st = 4 := by
  unfold isSt at h; simp at h; omega
theorem isStyle_any (st : Int) (w : World) : Calls Tryd.prog 19 #[.int .i64 st] w fun e w' => e = .returned (.bool (isSt st)) ∧ w = w' := by
  by_cases a : 1 ≤ st
  · by_cases b : st ≤ 4
    · have h : isSt st = true := by unfold isSt; simp; omega
      rw [h]; clear h
      go_enter Tryd.func19, Tryd.ntmps19
      go_wp2
      go_ret
      exact ⟨rfl, rfl⟩
    · have h : isSt st = false := by unfold isSt; simp; omega
      rw [h]; clear h
      go_enter Tryd.func19, Tryd.ntmps19
      go_wp2
      go_ret
      exact ⟨rfl, rfl⟩
  · have h : isSt st = false := by unfold isSt; simp; omega
    rw [h]; clear h
    go_enter Tryd.func19, Tryd.ntmps19
    go_wp2
    go_ret
    exact ⟨rfl, rfl⟩
theorem isControl_any (n : Nat) (w : World) : Calls Tryd.prog 24 #[.int .u8 n] w fun e w' => e = .returned (.bool (ctl n)) ∧ w = w' := by
  by_cases a : n < 32
  · have h : ctl n = true := by unfold ctl; simp; omega
    rw [h]; clear h
    go_enter Tryd.func24, Tryd.ntmps24
    go_wp2
    go_ret
    exact ⟨rfl, rfl⟩
  · by_cases b : n = 127
    · subst b
      go_enter Tryd.func24, Tryd.ntmps24
      go_wp2
      go_ret
      exact ⟨rfl, rfl⟩
    · have h : ctl n = false := by unfold ctl; simp; omega
      have e : (decide ((n : Int) < 32) || (n : Int) == 127) = false := by simp; omega
      rw [h]; clear h
      go_enter Tryd.func24, Tryd.ntmps24
      go_wp2
      go_ret
      exact ⟨rfl, rfl⟩
theorem letter_any (n : Nat) (w : World) : Calls Tryd.prog 23 #[.int .u8 n] w fun e w' => e = .returned (.int .u8 (ltr n : Nat)) ∧ w = w' := by
  by_cases a : n = 10
  · subst a
    go_enter Tryd.func23, Tryd.ntmps23
    go_wp2
    go_ret
    exact ⟨rfl, rfl⟩
  · have a' : ¬ (n : Int) = 10 := by omega
    by_cases b : n = 13
    · subst b
      go_enter Tryd.func23, Tryd.ntmps23
      go_wp2
      go_ret
      exact ⟨rfl, rfl⟩
    · have b' : ¬ (n : Int) = 13 := by omega
      by_cases c : n = 9
      · subst c
        go_enter Tryd.func23, Tryd.ntmps23
        go_wp2
        go_ret
        exact ⟨rfl, rfl⟩
      · have c' : ¬ (n : Int) = 9 := by omega
        have h : ltr n = n := by unfold ltr; simp [a, b, c]
        rw [h]; clear h
        go_enter Tryd.func23, Tryd.ntmps23
        go_wp2
        go_ret
        exact ⟨rfl, rfl⟩
end Go.Proofs.YtnkmlgkppaglkaaDoor
