/- What the row stands on, part 12. -/
import Derived.OpenShut
import Derived.Test.YtgogcekeklelmaaGreatDoorQ11

/- awake: the examples of the document; the law EscapeEnd. -/
namespace Go.Proofs.YtgogcekeklelmaaGreatDoor
open Go.RowKit
set_option linter.unusedVariables false

theorem below2 {a b c : World} (h : Below a.heap.size a b) (k : Below b.heap.size b c) : Below a.heap.size a c := h.trans (k.mono h.size)

end Go.Proofs.YtgogcekeklelmaaGreatDoor


/- The laws EscapeInverse, EscapeJoins, EscapeLetters. -/
namespace Go.Proofs.YtgogcekeklelmaaGreatDoor
open Go.RowKit
set_option linter.unusedVariables false

theorem isSt_nat {n : Nat} (h : n = 1 ∨ n = 2 ∨ n = 3 ∨ n = 4) : isSt (n : Int) = true := by unfold isSt; simp; omega
end Go.Proofs.YtgogcekeklelmaaGreatDoor


/- In; the laws EscapeLetters and EscapeSafe. -/
namespace Go.Proofs.YtgogcekeklelmaaGreatDoor
open Go.RowKit
set_option linter.unusedVariables false

def inL (c : Nat) (l : List UInt8) : Bool := l.any fun x => decide (x.toNat = c)
theorem inL_hit {c k : Nat} {l : List UInt8} (h : k < l.length) (hc : byt l k = c) : inL c (l.drop k) = true := by
  obtain ⟨x, e, hb⟩ := drop_at h
  rw [e]
  simp [inL, hb, hc]
theorem inL_step {c k : Nat} {l : List UInt8} (h : k < l.length) (hc : byt l k ≠ c) : inL c (l.drop k) = inL c (l.drop (k + 1)) := by
  obtain ⟨x, e, hb⟩ := drop_at h
  rw [e]
  simp [inL, hb, hc]
def InRel (c : Nat) (s : ByteArray) (i : Value) : Prop := ∃ k : Nat, i = .int .i64 k ∧ k ≤ s.size ∧ inL c s.data.toList = inL c (s.data.toList.drop k)
set_option maxRecDepth 1000000 in
theorem in_any (c : Nat) (s : ByteArray) (hs : s.size ≤ 1099511627776) (w : World) :
    Calls Tryz.prog 54 #[.int .u8 c, .string s] w fun e w' => e = .returned (.bool (inL c s.data.toList)) ∧ w = w' := by
  go_enter Tryz.func54, Tryz.ntmps54
  go_wp2
  go_loop [5] (fun i => InRel c s i) (fun i => s.size - (intOf i).toNat)
  case atStart => exact ⟨0, rfl, Nat.zero_le _, by rw [List.drop_zero]⟩
  case round =>
    obtain ⟨k, rfl, hk, hu⟩ := hrel
    have hU := Lib.hid hu
    clear hu
    by_cases hlt : k < s.size
    · have hb := byt_getOf2 s k hlt
      by_cases cd : (s[k]'hlt).toNat = c
      · have R := Lib.hid (inL_hit (c := c) (l := s.data.toList) (k := k) (by rw [len_data]; exact hlt) (hb.symm.trans cd))
        have id : ((s[k]'hlt).toNat : Int) = c := by omega
        have id' : (((s[k]'hlt).toNat : Int) == c) = true := by rw [id]; simp
        clear hb cd id
        go_wp2
        go_ret
        refine ⟨?_, rfl⟩
        rw [hU.out, R.out]
        rfl
      · have id : ¬ ((s[k]'hlt).toNat : Int) = c := by omega
        have R := Lib.hid (inL_step (c := c) (l := s.data.toList) (k := k) (by rw [len_data]; exact hlt) (by rw [← hb]; exact cd))
        clear hb cd
        go_wp2
        refine ⟨⟨k + 1, by go_num, by omega, hU.out.trans R.out⟩, by simp [intOf]; omega⟩
    · go_wp2
      go_ret
      refine ⟨?_, rfl⟩
      rw [hU.out, drop_end hlt]
      rfl

end Go.Proofs.YtgogcekeklelmaaGreatDoor


