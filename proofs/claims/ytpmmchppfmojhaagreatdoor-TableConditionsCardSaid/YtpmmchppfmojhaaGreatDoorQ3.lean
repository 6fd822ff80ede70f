/- What the row stands on, part 3. -/
import Derived.Test.YtpmmchppfmojhaaGreatDoorProg
import Derived.WalkKit
import Derived.WalkLawsBesides
import Derived.WalkSpells
import Derived.Below
import Derived.Lib.Hide
import Derived.Test.YtpmmchppfmojhaaGreatDoorQ2

/- The contracts of the functions on single numbers: Point, codePoint, One. -/
namespace Go.Proofs.YtpmmchppfmojhaaGreatDoor
open Go.RowKit
set_option linter.unusedVariables false

theorem valid_iff (n : Int) : Utf8.valid n = true ↔ (0 ≤ n ∧ n < 0xD800) ∨ (0xE000 ≤ n ∧ n ≤ 0x10FFFF) := by
  unfold Utf8.valid; simp
/-- A number, or the replacement. -/
def cp (n : Int) : Int := if Utf8.valid n = true then n else 0xFFFD
theorem cp_valid (n : Int) : Utf8.valid (cp n) = true := by
  unfold cp
  split
  · assumption
  · decide

theorem codePoint_any (n : Int) (w : World) :
    Calls Tryz.prog 353 #[.int .i64 n] w fun e w' => e = .returned (.int .i32 (cp n)) ∧ w = w' := by
  by_cases h : Utf8.valid n = true
  · have hc : cp n = n := if_pos h
    rw [hc]
    clear hc
    rcases (valid_iff n).1 h with ⟨h1, h2⟩ | ⟨h1, h2⟩ <;> clear h
    · have h3 : n ≤ 1114111 := by omega
      go_enter Tryz.func353, Tryz.ntmps353
      go_wp2
      go_ret
      exact ⟨rfl, rfl⟩
    · have h3 : 0 ≤ n := by omega
      have h4 : 55296 ≤ n := by omega
      have h5 : ¬ n ≤ 57343 := by omega
      go_enter Tryz.func353, Tryz.ntmps353
      go_wp2
      go_ret
      exact ⟨rfl, rfl⟩
  · have hc : cp n = 65533 := if_neg h
    have h0 : ¬ ((0 ≤ n ∧ n < 0xD800) ∨ (0xE000 ≤ n ∧ n ≤ 0x10FFFF)) := fun h' => h ((valid_iff n).2 h')
    rw [hc]
    clear h hc
    by_cases a : 0 ≤ n
    · by_cases b : n ≤ 1114111
      · have h4 : 55296 ≤ n := by omega
        have h5 : n ≤ 57343 := by omega
        clear h0
        go_enter Tryz.func353, Tryz.ntmps353
        go_wp2
        go_ret
        exact ⟨rfl, rfl⟩
      · clear h0
        go_enter Tryz.func353, Tryz.ntmps353
        go_wp2
        go_ret
        exact ⟨rfl, rfl⟩
    · clear h0
      go_enter Tryz.func353, Tryz.ntmps353
      go_wp2
      go_ret
      exact ⟨rfl, rfl⟩

section
variable {P : Program}
end

theorem ret_str {a b : ByteArray} (h : a = b) : Ending.returned (.string a) = .returned (.string b) := by rw [h]

end Go.Proofs.YtpmmchppfmojhaaGreatDoor


