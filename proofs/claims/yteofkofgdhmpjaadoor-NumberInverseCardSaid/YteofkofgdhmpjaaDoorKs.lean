/- Of the reference: Valid, Text, checked, Normal. -/
import Derived.Test.YteofkofgdhmpjaaDoorKr
namespace Go.Proofs.YteofkofgdhmpjaaDoor
open Go.RowKit
set_option linter.unusedVariables false

set_option maxRecDepth 1000000 in
set_option maxHeartbeats 2000000 in
theorem refValid_any (s : ByteArray) (hs : s.size ≤ 9223372036854775807) (w : World) : Calls Tryd.prog 10 #[.string s] w fun e w' => e = .returned (.bool (spl s.data.toList).isSome) ∧ Below w.heap.size w w' := by
  go_enter Tryd.func10, Tryd.ntmps10
  go_wp2_with fail
  refine (refSplit_any s hs _).mono ?_
  rintro e w1 ⟨ok, x, rfl, hy, hn, b1⟩
  have HV : Hid (ok = (spl s.data.toList).isSome) := Lib.hid (by
    cases ok with
    | true => rw [hy rfl]; rfl
    | false => rw [hn rfl]; rfl)
  have HB := Lib.hid (b1.alloc b1.size (.cells #[.bool x.neg, .string (ofL x.wh), .string (ofL x.fr)] 44))
  clear hy hn b1
  unfold refN
  go_wp2
  go_ret
  exact ⟨by rw [← HV.out]; rfl, HB.out⟩
theorem add_pre (c : UInt8) (y : Str) : (⟨#[c]⟩ : ByteArray) ++ ofL y = ofL (c :: y) := of_ext (by simp [ofL])
end Go.Proofs.YteofkofgdhmpjaaDoor
