/- The law ConditionPrint. -/
import Derived.Test.YtnabklhkalnpiaaGreatDoorCzyc
namespace Go.Proofs.YtnabklhkalnpiaaGreatDoor
open Go.RowKit
set_option linter.unusedVariables false

set_option maxRecDepth 1000000 in
set_option maxHeartbeats 8000000 in
theorem conditionPrint_walk (c : Cnd) (v : Value) (d : Cnd) (u : Value) (w : World) (hv : RdC w v c) (hl : ∀ l ∈ c, l.length ≤ 140737488355328) (hu : RdC w u d) (hl2 : ∀ l ∈ d, l.length ≤ 140737488355328) (E : Env w) :
    Calls Tryz.prog 3 #[v, u] w fun e w' => e = .returned (.bool true) ∧ Below w.heap.size w w' := by
  have HE := Lib.hid E
  have HV := Lib.hid hv
  have HL := Lib.hid hl
  have HU := Lib.hid hu
  obtain ⟨a, n, hva, _⟩ := hv.slice
  subst hva
  obtain ⟨a', n', hua, _⟩ := hu.slice
  subst hua
  clear E hv hl hu hl2
  go_enter Tryz.func3, Tryz.ntmps3
  go_wp2_with fail
  refine (awake_any _ HE.out).mono ?_
  rintro e w1 ⟨rfl, b1⟩
  have B1 := Lib.hid b1
  have E1 := Lib.hid (HE.out.later b1)
  have V1 := Lib.hid (HV.out.below b1)
  have U1 := Lib.hid (HU.out.below b1)
  clear b1 HV HU HE
  go_wp2_with fail
  refine (few_any _ c _ V1.out).mono ?_
  rintro e w2 ⟨⟨bf, rfl, hf⟩, hw2⟩
  obtain rfl := hw2.symm
  have HF := Lib.hid hf
  clear hf hw2
  cases bf with
  | false =>
    go_wp2_with fail
    refine (awake_any _ E1.out).mono ?_
    rintro e w3 ⟨rfl, b3⟩
    have B3 := Lib.hid (st B1.out b3 B1.out.size)
    clear b3
    go_wp2
    go_ret
    exact ⟨rfl, B3.out⟩
  | true =>
    go_wp2_with fail
    refine (few_any _ d _ U1.out).mono ?_
    rintro e w2 ⟨⟨bg, rfl, hg⟩, hw2⟩
    obtain rfl := hw2.symm
    clear hg hw2
    cases bg with
    | false =>
      go_wp2_with fail
      refine (awake_any _ E1.out).mono ?_
      rintro e w3 ⟨rfl, b3⟩
      have B3 := Lib.hid (st B1.out b3 B1.out.size)
      clear b3
      go_wp2
      go_ret
      exact ⟨rfl, B3.out⟩
    | true =>
      have HCN := Lib.hid (cnt_few (by have := HF.out; simpa using this) HL.out)
      have HLB : Hid (∀ l ∈ c, l.length ≤ 4611686018427387904) := Lib.hid (fun l hx => Nat.le_trans (HL.out l hx) (by decide))
      have P0 := Lib.hid (print_any c _ w1 E1.out V1.out HLB.out)
      obtain ⟨pr, hpr⟩ : ∃ pr, prtR c = pr := ⟨_, rfl⟩
      have HPR := Lib.hid hpr
      obtain ⟨S, k⟩ := pr
      rw [hpr] at P0
      dsimp only at P0
      clear hpr
      go_wp2_with fail
      refine P0.out.mono ?_
      rintro e w3 ⟨rfl, b3⟩
      have B3 := Lib.hid (st B1.out b3 B1.out.size)
      have V3 := Lib.hid (V1.out.below b3)
      have U3 := Lib.hid (U1.out.below b3)
      have P1 := Lib.hid (refPrint_any c _ w3 V3.out HCN.out)
      rw [HPR.out] at P1
      dsimp only at P1
      clear b3 P0
      go_wp2_with fail
      refine P1.out.mono ?_
      rintro e w4 ⟨rfl, b4⟩
      have B4 := Lib.hid (st B3.out b4 B3.out.size)
      have V4 := Lib.hid (V3.out.below b4)
      have U4 := Lib.hid (U3.out.below b4)
      have Q0 := Lib.hid (valid_cond_any _ c w4 V4.out HLB.out)
      obtain ⟨vb, hvb⟩ : ∃ vb, okC c = vb := ⟨_, rfl⟩
      have HVB := Lib.hid hvb
      rw [hvb] at Q0
      have t0 : ((ofL S).toList == (ofL S).toList) = true := by simp
      have t2 : (k == k) = true := by simp
      have t3 : (vb == vb) = true := by simp
      obtain ⟨qb, hqb⟩ : ∃ qb, cdq c d = qb := ⟨_, rfl⟩
      have HQB := Lib.hid hqb
      have t4 : (qb == qb) = true := by simp
      clear b4 P1 hvb hqb
      go_wp2_with fail
      refine Q0.out.mono ?_
      rintro e w5 ⟨rfl, b5⟩
      have B5 := Lib.hid (st B4.out b5 B4.out.size)
      have V5 := Lib.hid (V4.out.below b5)
      have U5 := Lib.hid (U4.out.below b5)
      have Q1 := Lib.hid (refValidC_any _ c w5 V5.out HCN.out)
      rw [HVB.out] at Q1
      clear b5 Q0
      go_wp2_with fail
      refine Q1.out.mono ?_
      rintro e w6 ⟨rfl, b6⟩
      have B6 := Lib.hid (st B5.out b6 B5.out.size)
      have V6 := Lib.hid (V5.out.below b6)
      have U6 := Lib.hid (U5.out.below b6)
      have Q2 := Lib.hid (equalC_any _ _ c d w6 V6.out U6.out)
      rw [HQB.out] at Q2
      clear b6 Q1
      go_wp2_with fail
      refine Q2.out.mono ?_
      rintro e w7 ⟨rfl, b7⟩
      have B7 := Lib.hid (st B6.out b7 B6.out.size)
      have V7 := Lib.hid (V6.out.below b7)
      have U7 := Lib.hid (U6.out.below b7)
      have Q3 := Lib.hid (refEqual_any _ _ c d w7 V7.out U7.out)
      rw [HQB.out] at Q3
      clear b7 Q2
      go_wp2_with fail
      refine Q3.out.mono ?_
      rintro e w8 ⟨rfl, b8⟩
      have B8 := Lib.hid (st B7.out b8 B7.out.size)
      have V8 := Lib.hid (V7.out.below b8)
      have Q4 := Lib.hid (equalC_any _ _ c c w8 V8.out V8.out)
      rw [cdq_self] at Q4
      clear b8 Q3
      go_wp2_with fail
      refine Q4.out.mono ?_
      rintro e w9 ⟨rfl, b9⟩
      have B9 := Lib.hid (st B8.out b9 B8.out.size)
      clear b9 Q4
      go_wp2
      go_ret
      exact ⟨rfl, B9.out⟩
end Go.Proofs.YtnabklhkalnpiaaGreatDoor
