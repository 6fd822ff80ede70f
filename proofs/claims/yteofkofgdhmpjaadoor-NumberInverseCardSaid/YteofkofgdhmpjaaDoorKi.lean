/- Of the program: Valid, Integer, Operand, Normal. -/
import Derived.Test.YteofkofgdhmpjaaDoorKh
namespace Go.Proofs.YteofkofgdhmpjaaDoor
open Go.RowKit
set_option linter.unusedVariables false

def intR (s : Str) : Int × Bool := match spl s with
  | none => (0, false)
  | some x => if zero x.fr = true then (if x.neg = true then -(val x.wh : Int) else (val x.wh : Int), true) else (0, false)
def opnd (x : Num) (k : Int) : Int × Int :=
  if k = 1 then (if zero x.fr = true then ((val x.wh : Int), 0) else (0, 8))
  else if k = 2 then ((val x.wh : Int), 0)
  else if k = 3 then ((x.fr.length : Int), 0)
  else if k = 4 then (((trim x.fr).length : Int), 0)
  else if k = 5 then ((val x.fr : Int), 0)
  else if k = 6 then ((val (trim x.fr) : Int), 0)
  else (0, 1)
def opR (s : Str) (k : Int) : Int × Int := match spl s with
  | none => (0, 1)
  | some x => opnd x k
def nrmR (s : Str) : Value := match spl s with
  | none => .tuple #[.string (ofL []), .int .i64 1]
  | some x => .tuple #[.string (ofL (txt (nrm x))), .int .i64 0]
theorem trim_gt (l : Str) : decide (0 < ((trim l).length : Int)) = !zero l := by
  rw [Bool.eq_iff_iff, decide_eq_true_eq, Bool.not_eq_true']
  have h := trim_nil_iff (l := l)
  constructor
  · intro h1
    cases hz : zero l with
    | false => rfl
    | true => rw [h.2 hz] at h1; simp at h1
  · intro h1
    have : trim l ≠ [] := fun e => by rw [h.1 e] at h1; cases h1
    have := List.length_pos_iff.2 this
    omega
set_option maxRecDepth 1000000 in
set_option maxHeartbeats 2000000 in
theorem valid_any9 (s : ByteArray) (hs : s.size ≤ 9223372036854775807) (w : World) : Calls Tryd.prog 14 #[.string s] w fun e w' => e = .returned (.bool (spl s.data.toList).isSome) ∧ Below w.heap.size w w' := by
  go_enter Tryd.func14, Tryd.ntmps14
  go_wp2_with fail
  refine (split_any9 s hs _).mono ?_
  rintro e w1 ⟨u, ok, x, rfl, ⟨a1, c1, a2, c2, rfl, ra, rf⟩, hy, hn, b1⟩
  have HB := Lib.hid (b1.alloc b1.size (.cells #[.bool x.neg, .slice a1 x.wh.length c1, .slice a2 x.fr.length c2] 54))
  have HV : Hid (ok = (spl s.data.toList).isSome) := Lib.hid (by
    cases ok with
    | true => rw [hy rfl]; rfl
    | false => rw [hn rfl]; rfl)
  clear ra rf hy hn b1
  go_wp2
  go_ret
  exact ⟨by rw [← HV.out]; rfl, HB.out⟩
theorem valid_any (s : ByteArray) (hs : s.size ≤ 1000) (w : World) : Calls Tryd.prog 14 #[.string s] w fun e w' => e = .returned (.bool (spl s.data.toList).isSome) ∧ Below w.heap.size w w' := valid_any9 s (by omega) w
theorem nrm_fits {x : Num} (g : Good x) : txR (nrm x) = .tuple #[.string (ofL (txt (nrm x))), .int .i64 0] := by
  have h := nrm_good g
  unfold txR
  rw [if_neg (by have := h.high; have := h.few; omega)]
end Go.Proofs.YteofkofgdhmpjaaDoor
