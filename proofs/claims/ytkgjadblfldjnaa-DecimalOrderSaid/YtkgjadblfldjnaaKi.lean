/- Of the program: Valid, Integer, Operand, Normal. -/
import Derived.Test.YtkgjadblfldjnaaKh
namespace Go.Proofs.Ytkgjadblfldjnaa
open Go.RowKit
set_option linter.unusedVariables false

def intR (s : Str) : Int × Bool := match spl s with
  | none => (0, false)
  | some x => if zero x.fr = true then (if x.neg = true then -(val x.wh : Int) else (val x.wh : Int), true) else (0, false)
def opnd (x : Num) (k : Int) : Int × Int :=
  if k = 1 then (if zero x.fr = true then ((val x.wh : Int), 0) else (0, 8))
  else if k = 2 then ((val x.wh : Int), 0)
  else if k = 3 then ((x.fr.length : Int), 0)
  else if k = 4 then (((trim x.fr).length : Int), 0)
  else if k = 5 then ((val x.fr : Int), 0)
  else if k = 6 then ((val (trim x.fr) : Int), 0)
  else (0, 1)
def opR (s : Str) (k : Int) : Int × Int := match spl s with
  | none => (0, 1)
  | some x => opnd x k
def nrmR (s : Str) : Value := match spl s with
  | none => .tuple #[.string (ofL []), .int .i64 1]
  | some x => .tuple #[.string (ofL (txt (nrm x))), .int .i64 0]
theorem trim_gt (l : Str) : decide (0 < ((trim l).length : Int)) = !zero l := by
  rw [Bool.eq_iff_iff, decide_eq_true_eq, Bool.not_eq_true']
  have h := trim_nil_iff (l := l)
  constructor
  · intro h1
    cases hz : zero l with
    | false => rfl
    | true => rw [h.2 hz] at h1; simp at h1
  · intro h1
    have : trim l ≠ [] := fun e => by rw [h.1 e] at h1; cases h1
    have := List.length_pos_iff.2 this
    omega
set_option maxRecDepth 1000000 in
set_option maxHeartbeats 2000000 in
theorem valid_any (s : ByteArray) (hs : s.size ≤ 1000) (w : World) : Calls Try.prog 17 #[.string s] w fun e w' => e = .returned (.bool (spl s.data.toList).isSome) ∧ Below w.heap.size w w' := by
  go_enter Try.func17, Try.ntmps17
  go_wp2_with fail
  refine (split_any s hs _).mono ?_
  rintro e w1 ⟨u, ok, x, rfl, ⟨a1, c1, a2, c2, rfl, ra, rf⟩, hy, hn, b1⟩
  have HB := Lib.hid (b1.alloc b1.size (.cells #[.bool x.neg, .slice a1 x.wh.length c1, .slice a2 x.fr.length c2] 43))
  have HV : Hid (ok = (spl s.data.toList).isSome) := Lib.hid (by
    cases ok with
    | true => rw [hy rfl]; rfl
    | false => rw [hn rfl]; rfl)
  clear ra rf hy hn b1
  go_wp2
  go_ret
  exact ⟨by rw [← HV.out]; rfl, HB.out⟩
set_option maxRecDepth 1000000 in
set_option maxHeartbeats 4000000 in
theorem integer_text_any (s : ByteArray) (hs : s.size ≤ 1000) (w : World) : Calls Try.prog 13 #[.string s] w fun e w' => e = .returned (.tuple #[.int .i64 (intR s.data.toList).1, .bool (intR s.data.toList).2]) ∧ Below w.heap.size w w' := by
  go_enter Try.func13, Try.ntmps13
  go_wp2_with fail
  refine (split_any s hs _).mono ?_
  rintro e w1 ⟨u, ok, x, rfl, ⟨a1, c1, a2, c2, rfl, ra, rf⟩, hy, hn, b1⟩
  have HB := Lib.hid (b1.alloc b1.size (.cells #[.bool x.neg, .slice a1 x.wh.length c1, .slice a2 x.fr.length c2] 43))
  have RA := Lib.hid (ra.alloc (.cells #[.bool x.neg, .slice a1 x.wh.length c1, .slice a2 x.fr.length c2] 43))
  have RF := Lib.hid (rf.alloc (.cells #[.bool x.neg, .slice a1 x.wh.length c1, .slice a2 x.fr.length c2] 43))
  clear ra rf b1
  cases ok with
  | false =>
    have HV : Hid (intR s.data.toList = (0, false)) := Lib.hid (by unfold intR; rw [hn rfl])
    clear hy hn
    go_wp2
    go_ret2
    exact ⟨by rw [HV.out]; rfl, HB.out⟩
  | true =>
    have HY := Lib.hid (hy rfl)
    have HG := Lib.hid (spl_some HY.out).1
    clear hy hn
    have z2 := trim_gt x.fr
    have HI : Hid (intR s.data.toList = if zero x.fr = true then (if x.neg = true then -(val x.wh : Int) else (val x.wh : Int), true) else (0, false)) := Lib.hid (by unfold intR; rw [HY.out])
    go_wp2_with fail
    refine (trimEnd_any a2 x.fr.length c2 x.fr _ RF.out (by have := HG.out.few; omega)).mono ?_
    rintro e w' ⟨rfl, hw'⟩
    obtain rfl := hw'.symm
    cases hz : zero x.fr with
    | false =>
      rw [hz] at z2
      have z2' : 0 < ((trim x.fr).length : Int) := of_decide_eq_true z2
      have HV : Hid (intR s.data.toList = (0, false)) := Lib.hid (by rw [HI.out, hz]; rfl)
      clear hz z2
      go_wp2
      go_ret2
      exact ⟨by rw [HV.out]; rfl, HB.out⟩
    | true =>
      rw [hz] at z2
      have z2' : ¬ 0 < ((trim x.fr).length : Int) := of_decide_eq_false z2
      have HV : Hid (intR s.data.toList = (if x.neg = true then -(val x.wh : Int) else (val x.wh : Int), true)) := Lib.hid (by rw [HI.out, hz]; rfl)
      clear hz z2
      go_wp2_with fail
      refine (integer_any _ x.wh _ RA.out HG.out.dw HG.out.high).mono ?_
      rintro e w' ⟨rfl, hw'⟩
      obtain rfl := hw'.symm
      have h9 : val x.wh < 10 ^ 15 := Nat.lt_of_lt_of_le (val_lt HG.out.dw) (Nat.pow_le_pow_right (by omega) HG.out.high)
      have h8 : val x.wh < 1000000000000000 := h9
      obtain ⟨N, hN⟩ : ∃ N, val x.wh = N := ⟨_, rfl⟩
      rw [hN] at h8 HV ⊢
      clear h9 hN
      cases hb : x.neg with
      | false =>
        rw [hb] at HV HB
        clear hb
        go_wp2
        go_ret2
        exact ⟨by rw [HV.out]; rfl, HB.out⟩
      | true =>
        rw [hb] at HV HB
        clear hb
        go_wp2
        go_ret2
        exact ⟨by rw [HV.out]; rfl, HB.out⟩
theorem nrm_fits {x : Num} (g : Good x) : txR (nrm x) = .tuple #[.string (ofL (txt (nrm x))), .int .i64 0] := by
  have h := nrm_good g
  unfold txR
  rw [if_neg (by have := h.high; have := h.few; omega)]
set_option maxRecDepth 1000000 in
set_option maxHeartbeats 4000000 in
theorem normal_any (s : ByteArray) (hs : s.size ≤ 1000) (w : World) : Calls Try.prog 15 #[.string s] w fun e w' => e = .returned (nrmR s.data.toList) ∧ Below w.heap.size w w' := by
  go_enter Try.func15, Try.ntmps15
  go_wp2_with fail
  refine (split_any s hs _).mono ?_
  rintro e w1 ⟨u, ok, x, rfl, ⟨a1, c1, a2, c2, rfl, ra, rf⟩, hy, hn, b1⟩
  obtain ⟨W1, hW1⟩ : ∃ W1, w1.alloc (.cells #[.bool x.neg, .slice a1 x.wh.length c1, .slice a2 x.fr.length c2] 43) = W1 := ⟨_, rfl⟩
  have HB := Lib.hid (b1.alloc b1.size (.cells #[.bool x.neg, .slice a1 x.wh.length c1, .slice a2 x.fr.length c2] 43))
  have RA := Lib.hid (ra.alloc (.cells #[.bool x.neg, .slice a1 x.wh.length c1, .slice a2 x.fr.length c2] 43))
  have RF := Lib.hid (rf.alloc (.cells #[.bool x.neg, .slice a1 x.wh.length c1, .slice a2 x.fr.length c2] 43))
  have KX := Lib.hid (Blk.new w1 43 #[.bool x.neg, .slice a1 x.wh.length c1, .slice a2 x.fr.length c2])
  clear hW1
  cases ok with
  | false =>
    have HV : Hid (nrmR s.data.toList = .tuple #[.string (ofL []), .int .i64 1]) := Lib.hid (by unfold nrmR; rw [hn rfl])
    clear hy hn ra rf b1
    go_wp2
    go_ret2
    exact ⟨by rw [HV.out]; rfl, HB.out⟩
  | true =>
    have HY := Lib.hid (hy rfl)
    have HG := Lib.hid (spl_some HY.out).1
    have HI : Hid (nrmR s.data.toList = txR ⟨x.neg, x.wh, trim x.fr⟩) := Lib.hid (by unfold nrmR; rw [HY.out]; exact (nrm_fits HG.out).symm)
    have T := rf.take (trim x.fr).length (trim_len _)
    have T0 : RdB w1 (.slice a2 (trim x.fr).length c2) (trim x.fr) := by
      have e : x.fr.take (trim x.fr).length = trim x.fr := by
        conv => lhs; arg 2; rw [trim_split x.fr]
        rw [List.take_left]
      rw [e] at T
      exact T
    have RT := Lib.hid T0
    have RA1 := Lib.hid ra
    have B1 := Lib.hid b1
    clear hy hn T T0 ra rf b1
    go_wp2_with fail
    refine (trimEnd_any a2 x.fr.length c2 x.fr _ RF.out (by have := HG.out.few; omega)).mono ?_
    rintro e w' ⟨rfl, hw'⟩
    obtain rfl := hw'.symm
    have z1 := B1.out.size
    have HBX := Lib.hid (B1.out.alloc z1 (.cells #[.bool x.neg, .slice a1 x.wh.length c1, .slice a2 (trim x.fr).length c2] 43))
    have RAX := Lib.hid (RA1.out.alloc (.cells #[.bool x.neg, .slice a1 x.wh.length c1, .slice a2 (trim x.fr).length c2] 43))
    have RTX := Lib.hid (RT.out.alloc (.cells #[.bool x.neg, .slice a1 x.wh.length c1, .slice a2 (trim x.fr).length c2] 43))
    have l1 := HG.out.high
    have l2 := Nat.le_trans (trim_len x.fr) HG.out.few
    go_wp2_with fail
    refine (text_any x.neg a1 x.wh.length c1 x.wh a2 (trim x.fr).length c2 (trim x.fr) _ RAX.out RTX.out (by omega) (by omega)).mono ?_
    rintro e w3 ⟨rfl, b3⟩
    have HB3 := Lib.hid (st HBX.out b3 HBX.out.size)
    rw [← HI.out]
    have HV : Hid (nrmR s.data.toList = .tuple #[.string (ofL (txt (nrm x))), .int .i64 0]) := Lib.hid (by unfold nrmR; rw [HY.out])
    rw [HV.out]
    clear b3
    go_wp2
    go_ret2
    exact ⟨by rw [HV.out]; rfl, HB3.out⟩
end Go.Proofs.Ytkgjadblfldjnaa
