/- Of the reference: Integer, Operand. -/
import Derived.Test.YtkgjadblfldjnaaKs
namespace Go.Proofs.Ytkgjadblfldjnaa
open Go.RowKit
set_option linter.unusedVariables false

set_option maxRecDepth 1000000 in
set_option maxHeartbeats 4000000 in
theorem refInteger_any (s : ByteArray) (hs : s.size ≤ 9223372036854775807) (w : World) : Calls Try.prog 14 #[.string s] w fun e w' => e = .returned (.tuple #[.int .i64 (intR s.data.toList).1, .bool (intR s.data.toList).2]) ∧ Below w.heap.size w w' := by
  go_enter Try.func14, Try.ntmps14
  go_wp2_with fail
  refine (refSplit_any s hs _).mono ?_
  rintro e w1 ⟨ok, x, rfl, hy, hn, b1⟩
  unfold refN
  have HB := Lib.hid (b1.alloc b1.size (.cells #[.bool x.neg, .string (ofL x.wh), .string (ofL x.fr)] 49))
  cases ok with
  | false =>
    have HV : Hid (intR s.data.toList = (0, false)) := Lib.hid (by unfold intR; rw [hn rfl])
    clear hy hn b1
    go_wp2
    go_ret2
    exact ⟨by rw [HV.out]; rfl, HB.out⟩
  | true =>
    have HY := Lib.hid (hy rfl)
    have HG := Lib.hid (spl_some HY.out).1
    have HI : Hid (intR s.data.toList = if zero x.fr = true then (if x.neg = true then -(val x.wh : Int) else (val x.wh : Int), true) else (0, false)) := Lib.hid (by unfold intR; rw [HY.out])
    have hZ := zero_any (ofL x.fr) (by rw [ofL_size]; have := HG.out.few; omega)
    rw [ofL_list] at hZ
    have HZ := Lib.hid hZ
    have hV := value_any (ofL x.wh) HG.out.dw (by rw [ofL_size]; exact HG.out.high)
    rw [ofL_list] at hV
    have HVA := Lib.hid hV
    clear hy hn b1 hZ hV
    go_wp2_with fail
    refine (HZ.out _).mono ?_
    rintro e w6 ⟨rfl, hw6⟩
    obtain rfl := hw6.symm
    cases hz : zero x.fr with
    | false =>
      have HV : Hid (intR s.data.toList = (0, false)) := Lib.hid (by rw [HI.out, hz]; rfl)
      clear hz
      go_wp2
      go_ret2
      exact ⟨by rw [HV.out]; rfl, HB.out⟩
    | true =>
      have HV : Hid (intR s.data.toList = (if x.neg = true then -(val x.wh : Int) else (val x.wh : Int), true)) := Lib.hid (by rw [HI.out, hz]; rfl)
      clear hz
      go_wp2_with fail
      refine (HVA.out _).mono ?_
      rintro e w6 ⟨rfl, hw6⟩
      obtain rfl := hw6.symm
      have h9 : val x.wh < 10 ^ 15 := Nat.lt_of_lt_of_le (val_lt HG.out.dw) (Nat.pow_le_pow_right (by omega) HG.out.high)
      have h8 : val x.wh < 1000000000000000 := h9
      obtain ⟨N, hN⟩ : ∃ N, val x.wh = N := ⟨_, rfl⟩
      rw [hN] at h8 HV ⊢
      clear h9 hN
      cases hb : x.neg with
      | false =>
        rw [hb] at HV HB
        clear hb
        go_wp2
        go_ret2
        exact ⟨by rw [HV.out]; rfl, HB.out⟩
      | true =>
        rw [hb] at HV HB
        clear hb
        go_wp2
        go_ret2
        exact ⟨by rw [HV.out]; rfl, HB.out⟩
set_option maxRecDepth 1000000 in
set_option maxHeartbeats 8000000 in
theorem refOperand_any (s : ByteArray) (k : Int) (hs : s.size ≤ 9223372036854775807) (w : World) : Calls Try.prog 20 #[.string s, .int .i64 k] w (OpPost s.data.toList k w) := by
  go_enter Try.func20, Try.ntmps20
  go_wp2_with fail
  refine (refSplit_any s hs _).mono ?_
  rintro e w1 ⟨ok, x, rfl, hy, hn, b1⟩
  unfold refN
  have HB := Lib.hid (b1.alloc b1.size (.cells #[.bool x.neg, .string (ofL x.wh), .string (ofL x.fr)] 49))
  cases ok with
  | false =>
    have HV : Hid (opR s.data.toList k = (0, 1)) := Lib.hid (by unfold opR; rw [hn rfl])
    clear hy hn b1
    go_wp2
    go_ret2
    exact ⟨by rw [HV.out]; rfl, HB.out⟩
  | true =>
    have HY := Lib.hid (hy rfl)
    have HG := Lib.hid (spl_some HY.out).1
    have HO := Lib.hid (opR_some HY.out k)
    have l1 := HG.out.high
    have l2 := HG.out.few
    have l3 := trim_len x.fr
    have hZ := zero_any (ofL x.fr) (by rw [ofL_size]; omega)
    rw [ofL_list] at hZ
    have HZ := Lib.hid hZ
    have hV := value_any (ofL x.wh) HG.out.dw (by rw [ofL_size]; omega)
    rw [ofL_list] at hV
    have HVW := Lib.hid hV
    have hV2 := value_any (ofL x.fr) HG.out.df (by rw [ofL_size]; omega)
    rw [ofL_list] at hV2
    have HVF := Lib.hid hV2
    have hV3 := value_any (ofL (trim x.fr)) (trim_allD HG.out.df) (by rw [ofL_size]; omega)
    rw [ofL_list] at hV3
    have HVT := Lib.hid hV3
    have hT := refTrim_any (ofL x.fr) (by rw [ofL_size]; omega)
    rw [ofL_list] at hT
    have HT := Lib.hid hT
    have sF : (ofL x.fr).size = x.fr.length := ofL_size _
    have sT : (ofL (trim x.fr)).size = (trim x.fr).length := ofL_size _
    clear hy hn b1 hZ hV hV2 hV3 hT
    by_cases k1 : k = 1
    · subst k1
      go_wp2_with fail
      refine (HZ.out _).mono ?_
      rintro e w6 ⟨rfl, hw6⟩
      obtain rfl := hw6.symm
      cases hz : zero x.fr with
      | false =>
        have HV : Hid (opR s.data.toList 1 = (0, 8)) := Lib.hid (by rw [HO.out]; unfold opnd; rw [if_pos rfl, hz]; rfl)
        clear hz
        go_wp2
        go_ret2
        exact ⟨by rw [HV.out]; rfl, HB.out⟩
      | true =>
        have HV : Hid (opR s.data.toList 1 = ((val x.wh : Int), 0)) := Lib.hid (by rw [HO.out]; unfold opnd; rw [if_pos rfl, hz]; rfl)
        clear hz
        go_wp2_with fail
        refine (HVW.out _).mono ?_
        rintro e w6 ⟨rfl, hw6⟩
        obtain rfl := hw6.symm
        go_wp2
        go_ret2
        exact ⟨by rw [HV.out]; rfl, HB.out⟩
    have t1 : (k == 1) = false := by rw [beq_eq_false_iff_ne]; exact k1
    by_cases k2 : k = 2
    · subst k2
      have HV : Hid (opR s.data.toList 2 = ((val x.wh : Int), 0)) := Lib.hid (by rw [HO.out]; unfold opnd; rw [if_neg (by decide)]; rw [if_pos rfl])
      clear k1
      go_wp2_with fail
      refine (HVW.out _).mono ?_
      rintro e w6 ⟨rfl, hw6⟩
      obtain rfl := hw6.symm
      go_wp2
      go_ret2
      exact ⟨by rw [HV.out]; rfl, HB.out⟩
    have t2 : (k == 2) = false := by rw [beq_eq_false_iff_ne]; exact k2
    by_cases k3 : k = 3
    · subst k3
      have HV : Hid (opR s.data.toList 3 = ((x.fr.length : Int), 0)) := Lib.hid (by rw [HO.out]; unfold opnd; rw [if_neg (by decide)]; rw [if_neg (by decide)]; rw [if_pos rfl])
      clear k1 k2
      go_wp2
      go_ret2
      exact ⟨by rw [HV.out]; rfl, HB.out⟩
    have t3 : (k == 3) = false := by rw [beq_eq_false_iff_ne]; exact k3
    by_cases k4 : k = 4
    · subst k4
      have HV : Hid (opR s.data.toList 4 = (((trim x.fr).length : Int), 0)) := Lib.hid (by rw [HO.out]; unfold opnd; rw [if_neg (by decide)]; rw [if_neg (by decide)]; rw [if_neg (by decide)]; rw [if_pos rfl])
      clear k1 k2 k3
      go_wp2_with fail
      refine (HT.out _).mono ?_
      rintro e w6 ⟨rfl, hw6⟩
      obtain rfl := hw6.symm
      go_wp2
      go_ret2
      exact ⟨by rw [HV.out]; rfl, HB.out⟩
    have t4 : (k == 4) = false := by rw [beq_eq_false_iff_ne]; exact k4
    by_cases k5 : k = 5
    · subst k5
      have HV : Hid (opR s.data.toList 5 = ((val x.fr : Int), 0)) := Lib.hid (by rw [HO.out]; unfold opnd; rw [if_neg (by decide)]; rw [if_neg (by decide)]; rw [if_neg (by decide)]; rw [if_neg (by decide)]; rw [if_pos rfl])
      clear k1 k2 k3 k4
      go_wp2_with fail
      refine (HVF.out _).mono ?_
      rintro e w6 ⟨rfl, hw6⟩
      obtain rfl := hw6.symm
      go_wp2
      go_ret2
      exact ⟨by rw [HV.out]; rfl, HB.out⟩
    have t5 : (k == 5) = false := by rw [beq_eq_false_iff_ne]; exact k5
    by_cases k6 : k = 6
    · subst k6
      have HV : Hid (opR s.data.toList 6 = ((val (trim x.fr) : Int), 0)) := Lib.hid (by rw [HO.out]; unfold opnd; rw [if_neg (by decide)]; rw [if_neg (by decide)]; rw [if_neg (by decide)]; rw [if_neg (by decide)]; rw [if_neg (by decide)]; rw [if_pos rfl])
      clear k1 k2 k3 k4 k5
      go_wp2_with fail
      refine (HT.out _).mono ?_
      rintro e w6 ⟨rfl, hw6⟩
      obtain rfl := hw6.symm
      go_wp2_with fail
      refine (HVT.out _).mono ?_
      rintro e w6 ⟨rfl, hw6⟩
      obtain rfl := hw6.symm
      go_wp2
      go_ret2
      exact ⟨by rw [HV.out]; rfl, HB.out⟩
    have t6 : (k == 6) = false := by rw [beq_eq_false_iff_ne]; exact k6
    have HV : Hid (opR s.data.toList k = (0, 1)) := Lib.hid (by rw [HO.out]; unfold opnd; rw [if_neg k1, if_neg k2, if_neg k3, if_neg k4, if_neg k5, if_neg k6])
    clear k1 k2 k3 k4 k5 k6
    go_wp2
    go_ret2
    exact ⟨by rw [HV.out]; rfl, HB.out⟩
end Go.Proofs.Ytkgjadblfldjnaa
