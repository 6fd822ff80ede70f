/- Of the program: Operand. -/
import Derived.Test.YtkgjadblfldjnaaKi
namespace Go.Proofs.Ytkgjadblfldjnaa
open Go.RowKit
set_option linter.unusedVariables false

theorem trim_rd {w : World} {a2 : Option Addr} {n c2 : Nat} {fr : Str} (rf : RdB w (.slice a2 n c2) fr) : RdB w (.slice a2 (trim fr).length c2) (trim fr) := by
  have T := rf.take (trim fr).length (trim_len _)
  have e : fr.take (trim fr).length = trim fr := by
    conv => lhs; arg 2; rw [trim_split fr]
    rw [List.take_left]
  rw [e] at T
  exact T
theorem opR_some {s : Str} {x : Num} (h : spl s = some x) (k : Int) : opR s k = opnd x k := by unfold opR; rw [h]
def OpPost (s : Str) (k : Int) (w : World) (e : Ending) (w' : World) : Prop := e = .returned (.tuple #[.int .i64 (opR s k).1, .int .i64 (opR s k).2]) ∧ Below w.heap.size w w'
set_option maxRecDepth 1000000 in
set_option maxHeartbeats 8000000 in
theorem operand_any (s : ByteArray) (k : Int) (hs : s.size ≤ 1000) (w : World) : Calls Try.prog 19 #[.string s, .int .i64 k] w (OpPost s.data.toList k w) := by
  go_enter Try.func19, Try.ntmps19
  go_wp2_with fail
  refine (split_any s hs _).mono ?_
  rintro e w1 ⟨u, ok, x, rfl, ⟨a1, c1, a2, c2, rfl, ra, rf⟩, hy, hn, b1⟩
  have HB := Lib.hid (b1.alloc b1.size (.cells #[.bool x.neg, .slice a1 x.wh.length c1, .slice a2 x.fr.length c2] 43))
  have RA := Lib.hid (ra.alloc (.cells #[.bool x.neg, .slice a1 x.wh.length c1, .slice a2 x.fr.length c2] 43))
  have RF := Lib.hid (rf.alloc (.cells #[.bool x.neg, .slice a1 x.wh.length c1, .slice a2 x.fr.length c2] 43))
  clear ra rf b1
  cases ok with
  | false =>
    have HV : Hid (opR s.data.toList k = (0, 1)) := Lib.hid (by unfold opR; rw [hn rfl])
    clear hy hn
    go_wp2
    go_ret2
    exact ⟨by rw [HV.out]; rfl, HB.out⟩
  | true =>
    have HY := Lib.hid (hy rfl)
    have HG := Lib.hid (spl_some HY.out).1
    clear hy hn
    have z2 := trim_gt x.fr
    have RT := Lib.hid (trim_rd RF.out)
    have l1 := HG.out.high
    have l2 := HG.out.few
    have l3 := trim_len x.fr
    have HO := Lib.hid (opR_some HY.out k)
    go_wp2_with fail
    refine (trimEnd_any a2 x.fr.length c2 x.fr _ RF.out (by omega)).mono ?_
    rintro e w' ⟨rfl, hw'⟩
    obtain rfl := hw'.symm
    by_cases k1 : k = 1
    · subst k1
      cases hz : zero x.fr with
      | false =>
        rw [hz] at z2
        have z3 : 0 < ((trim x.fr).length : Int) := of_decide_eq_true z2
        have HV : Hid (opR s.data.toList 1 = (0, 8)) := Lib.hid (by rw [HO.out]; unfold opnd; rw [if_pos rfl, hz]; rfl)
        clear hz z2
        go_wp2
        go_ret2
        exact ⟨by rw [HV.out]; rfl, HB.out⟩
      | true =>
        rw [hz] at z2
        have z3 : ¬ 0 < ((trim x.fr).length : Int) := of_decide_eq_false z2
        have HV : Hid (opR s.data.toList 1 = ((val x.wh : Int), 0)) := Lib.hid (by rw [HO.out]; unfold opnd; rw [if_pos rfl, hz]; rfl)
        clear hz z2
        go_wp2_with fail
        refine (integer_any _ x.wh _ RA.out HG.out.dw (by omega)).mono ?_
        rintro e w' ⟨rfl, hw'⟩
        obtain rfl := hw'.symm
        go_wp2
        go_ret2
        exact ⟨by rw [HV.out]; rfl, HB.out⟩
    have t1 : (k == 1) = false := by rw [beq_eq_false_iff_ne]; exact k1
    clear z2
    by_cases k2 : k = 2
    · subst k2
      have HV : Hid (opR s.data.toList 2 = ((val x.wh : Int), 0)) := Lib.hid (by rw [HO.out]; unfold opnd; rw [if_neg (by decide)]; rw [if_pos rfl])
      clear k1
      go_wp2_with fail
      refine (integer_any _ (x.wh) _ RA.out HG.out.dw (by omega)).mono ?_
      rintro e w' ⟨rfl, hw'⟩
      obtain rfl := hw'.symm
      go_wp2
      go_ret2
      exact ⟨by rw [HV.out]; rfl, HB.out⟩
    have t2 : (k == 2) = false := by rw [beq_eq_false_iff_ne]; exact k2
    by_cases k3 : k = 3
    · subst k3
      have HV : Hid (opR s.data.toList 3 = ((x.fr.length : Int), 0)) := Lib.hid (by rw [HO.out]; unfold opnd; rw [if_neg (by decide)]; rw [if_neg (by decide)]; rw [if_pos rfl])
      clear k1 k2
      go_wp2
      go_ret2
      exact ⟨by rw [HV.out]; rfl, HB.out⟩
    have t3 : (k == 3) = false := by rw [beq_eq_false_iff_ne]; exact k3
    by_cases k4 : k = 4
    · subst k4
      have HV : Hid (opR s.data.toList 4 = (((trim x.fr).length : Int), 0)) := Lib.hid (by rw [HO.out]; unfold opnd; rw [if_neg (by decide)]; rw [if_neg (by decide)]; rw [if_neg (by decide)]; rw [if_pos rfl])
      clear k1 k2 k3
      go_wp2
      go_ret2
      exact ⟨by rw [HV.out]; rfl, HB.out⟩
    have t4 : (k == 4) = false := by rw [beq_eq_false_iff_ne]; exact k4
    by_cases k5 : k = 5
    · subst k5
      have HV : Hid (opR s.data.toList 5 = ((val x.fr : Int), 0)) := Lib.hid (by rw [HO.out]; unfold opnd; rw [if_neg (by decide)]; rw [if_neg (by decide)]; rw [if_neg (by decide)]; rw [if_neg (by decide)]; rw [if_pos rfl])
      clear k1 k2 k3 k4
      go_wp2_with fail
      refine (integer_any _ (x.fr) _ RF.out HG.out.df (by omega)).mono ?_
      rintro e w' ⟨rfl, hw'⟩
      obtain rfl := hw'.symm
      go_wp2
      go_ret2
      exact ⟨by rw [HV.out]; rfl, HB.out⟩
    have t5 : (k == 5) = false := by rw [beq_eq_false_iff_ne]; exact k5
    by_cases k6 : k = 6
    · subst k6
      have HV : Hid (opR s.data.toList 6 = ((val (trim x.fr) : Int), 0)) := Lib.hid (by rw [HO.out]; unfold opnd; rw [if_neg (by decide)]; rw [if_neg (by decide)]; rw [if_neg (by decide)]; rw [if_neg (by decide)]; rw [if_neg (by decide)]; rw [if_pos rfl])
      clear k1 k2 k3 k4 k5
      go_wp2_with fail
      refine (integer_any _ (trim x.fr) _ RT.out (trim_allD HG.out.df) (by omega)).mono ?_
      rintro e w' ⟨rfl, hw'⟩
      obtain rfl := hw'.symm
      go_wp2
      go_ret2
      exact ⟨by rw [HV.out]; rfl, HB.out⟩
    have t6 : (k == 6) = false := by rw [beq_eq_false_iff_ne]; exact k6
    have HV : Hid (opR s.data.toList k = (0, 1)) := Lib.hid (by rw [HO.out]; unfold opnd; rw [if_neg k1, if_neg k2, if_neg k3, if_neg k4, if_neg k5, if_neg k6])
    clear k1 k2 k3 k4 k5 k6
    go_wp2
    go_ret2
    exact ⟨by rw [HV.out]; rfl, HB.out⟩
end Go.Proofs.Ytkgjadblfldjnaa
