/- Of condition: countsDigits, isEnd, isMod. -/
import Derived.Test.YtnabklhkalnpiaaGreatDoorCb
namespace Go.Proofs.YtnabklhkalnpiaaGreatDoor
open Go.RowKit
set_option linter.unusedVariables false

theorem digs_false {o : Int} (h3 : o ≠ 3) (h4 : o ≠ 4) : digs o = false := by unfold digs; simp [h3, h4]
set_option maxRecDepth 1000000 in
theorem countsDigits_any (o : Int) (w : World) : Calls Tryz.prog 79 #[.int .i64 o] w fun e w' => e = .returned (.bool (digs o)) ∧ w' = w := by
  by_cases h3 : o = 3
  · subst h3
    go_enter Tryz.func79, Tryz.ntmps79
    go_wp2
    go_ret
    exact ⟨rfl, rfl⟩
  · have t3 : (o == 3) = false := by rw [beq_eq_false_iff_ne]; exact h3
    by_cases h4 : o = 4
    · subst h4
      clear h3 t3
      go_enter Tryz.func79, Tryz.ntmps79
      go_wp2
      go_ret
      exact ⟨rfl, rfl⟩
    · have t4 : (o == 4) = false := by rw [beq_eq_false_iff_ne]; exact h4
      have H := Lib.hid (digs_false h3 h4)
      clear h3 h4
      go_enter Tryz.func79, Tryz.ntmps79
      go_wp2
      go_ret
      exact ⟨by rw [H.out]; rfl, rfl⟩
set_option maxRecDepth 1000000 in
set_option maxHeartbeats 1000000 in
theorem isEnd_any (o n : Int) (w : World) : Calls Tryz.prog 55 #[.int .i64 o, .int .i64 n] w fun e w' => e = .returned (.bool (okEnd o n)) ∧ w' = w := by
  have HE : Hid (okEnd o n = (decide (0 ≤ n) && decide (n ≤ if digs o = true then 6 else 100))) := Lib.hid rfl
  go_enter Tryz.func55, Tryz.ntmps55
  go_wp2_with fail
  refine (countsDigits_any o _).mono ?_
  rintro e w' ⟨rfl, hw'⟩
  obtain rfl := hw'.symm
  obtain ⟨d, hd⟩ : ∃ d, digs o = d := ⟨_, rfl⟩
  rw [hd] at HE ⊢
  clear hd
  cases d with
  | false =>
    by_cases h0 : 0 ≤ n
    · have q := decide_eq_true h0
      have HX : Hid (okEnd o n = decide (n ≤ 100)) := Lib.hid (by rw [HE.out, q]; rfl)
      clear HE
      go_wp2
      go_ret
      exact ⟨by rw [HX.out]; rfl, rfl⟩
    · have q := decide_eq_false h0
      have HX : Hid (okEnd o n = false) := Lib.hid (by rw [HE.out, q]; rfl)
      clear HE
      go_wp2
      go_ret
      exact ⟨by rw [HX.out]; rfl, rfl⟩
  | true =>
    by_cases h0 : 0 ≤ n
    · have q := decide_eq_true h0
      have HX : Hid (okEnd o n = decide (n ≤ 6)) := Lib.hid (by rw [HE.out, q]; rfl)
      clear HE
      go_wp2
      go_ret
      exact ⟨by rw [HX.out]; rfl, rfl⟩
    · have q := decide_eq_false h0
      have HX : Hid (okEnd o n = false) := Lib.hid (by rw [HE.out, q]; rfl)
      clear HE
      go_wp2
      go_ret
      exact ⟨by rw [HX.out]; rfl, rfl⟩
set_option maxRecDepth 1000000 in
set_option maxHeartbeats 4000000 in
theorem isMod_any (o n : Int) (w : World) : Calls Tryz.prog 52 #[.int .i64 o, .int .i64 n] w fun e w' => e = .returned (.bool (okMod o n)) ∧ w' = w := by
  by_cases h0 : n = 0
  · subst h0
    go_enter Tryz.func52, Tryz.ntmps52
    go_wp2
    go_ret
    exact ⟨rfl, rfl⟩
  have t0 : (n == 0) = false := by rw [beq_eq_false_iff_ne]; exact h0
  by_cases h10 : n = 10
  · subst h10
    clear h0 t0
    have HX : Hid (okMod o 10 = !digs o) := Lib.hid rfl
    go_enter Tryz.func52, Tryz.ntmps52
    go_wp2_with fail
    refine (countsDigits_any o _).mono ?_
    rintro e w' ⟨rfl, hw'⟩
    obtain rfl := hw'.symm
    go_wp2
    go_ret
    exact ⟨by rw [HX.out]; rfl, rfl⟩
  have t10 : (n == 10) = false := by rw [beq_eq_false_iff_ne]; exact h10
  by_cases h100 : n = 100
  · subst h100
    clear h0 t0 h10 t10
    have HX : Hid (okMod o 100 = !digs o) := Lib.hid rfl
    go_enter Tryz.func52, Tryz.ntmps52
    go_wp2_with fail
    refine (countsDigits_any o _).mono ?_
    rintro e w' ⟨rfl, hw'⟩
    obtain rfl := hw'.symm
    go_wp2
    go_ret
    exact ⟨by rw [HX.out]; rfl, rfl⟩
  have t100 : (n == 100) = false := by rw [beq_eq_false_iff_ne]; exact h100
  by_cases h2 : n = 2
  · subst h2
    clear h0 t0 h10 t10 h100 t100
    have HX : Hid (okMod o 2 = (decide (o = 1) || decide (o = 2))) := Lib.hid rfl
    by_cases o1 : o = 1
    · subst o1
      go_enter Tryz.func52, Tryz.ntmps52
      go_wp2
      go_ret
      exact ⟨by rw [HX.out]; rfl, rfl⟩
    · have s1 : (o == 1) = false := by rw [beq_eq_false_iff_ne]; exact o1
      have HY : Hid (okMod o 2 = decide (o = 2)) := Lib.hid (by rw [HX.out, decide_eq_false o1]; rfl)
      clear HX o1
      by_cases o2 : o = 2
      · subst o2
        go_enter Tryz.func52, Tryz.ntmps52
        go_wp2
        go_ret
        exact ⟨by rw [HY.out]; rfl, rfl⟩
      · have s2 : (o == 2) = false := by rw [beq_eq_false_iff_ne]; exact o2
        have HZ : Hid (okMod o 2 = false) := Lib.hid (by rw [HY.out, decide_eq_false o2])
        clear HY o2
        go_enter Tryz.func52, Tryz.ntmps52
        go_wp2
        go_ret
        exact ⟨by rw [HZ.out]; rfl, rfl⟩
  have t2 : (n == 2) = false := by rw [beq_eq_false_iff_ne]; exact h2
  by_cases h3 : n = 3
  · subst h3
    clear h0 t0 h10 t10 h100 t100 h2 t2
    have HX : Hid (okMod o 3 = (decide (o = 1) || decide (o = 2))) := Lib.hid rfl
    by_cases o1 : o = 1
    · subst o1
      go_enter Tryz.func52, Tryz.ntmps52
      go_wp2
      go_ret
      exact ⟨by rw [HX.out]; rfl, rfl⟩
    · have s1 : (o == 1) = false := by rw [beq_eq_false_iff_ne]; exact o1
      have HY : Hid (okMod o 3 = decide (o = 2)) := Lib.hid (by rw [HX.out, decide_eq_false o1]; rfl)
      clear HX o1
      by_cases o2 : o = 2
      · subst o2
        go_enter Tryz.func52, Tryz.ntmps52
        go_wp2
        go_ret
        exact ⟨by rw [HY.out]; rfl, rfl⟩
      · have s2 : (o == 2) = false := by rw [beq_eq_false_iff_ne]; exact o2
        have HZ : Hid (okMod o 3 = false) := Lib.hid (by rw [HY.out, decide_eq_false o2])
        clear HY o2
        go_enter Tryz.func52, Tryz.ntmps52
        go_wp2
        go_ret
        exact ⟨by rw [HZ.out]; rfl, rfl⟩
  have t3 : (n == 3) = false := by rw [beq_eq_false_iff_ne]; exact h3
  by_cases h4 : n = 4
  · subst h4
    clear h0 t0 h10 t10 h100 t100 h2 t2 h3 t3
    have HX : Hid (okMod o 4 = (decide (o = 1) || decide (o = 2))) := Lib.hid rfl
    by_cases o1 : o = 1
    · subst o1
      go_enter Tryz.func52, Tryz.ntmps52
      go_wp2
      go_ret
      exact ⟨by rw [HX.out]; rfl, rfl⟩
    · have s1 : (o == 1) = false := by rw [beq_eq_false_iff_ne]; exact o1
      have HY : Hid (okMod o 4 = decide (o = 2)) := Lib.hid (by rw [HX.out, decide_eq_false o1]; rfl)
      clear HX o1
      by_cases o2 : o = 2
      · subst o2
        go_enter Tryz.func52, Tryz.ntmps52
        go_wp2
        go_ret
        exact ⟨by rw [HY.out]; rfl, rfl⟩
      · have s2 : (o == 2) = false := by rw [beq_eq_false_iff_ne]; exact o2
        have HZ : Hid (okMod o 4 = false) := Lib.hid (by rw [HY.out, decide_eq_false o2])
        clear HY o2
        go_enter Tryz.func52, Tryz.ntmps52
        go_wp2
        go_ret
        exact ⟨by rw [HZ.out]; rfl, rfl⟩
  have t4 : (n == 4) = false := by rw [beq_eq_false_iff_ne]; exact h4
  by_cases h5 : n = 5
  · subst h5
    clear h0 t0 h10 t10 h100 t100 h2 t2 h3 t3 h4 t4
    have HX : Hid (okMod o 5 = (decide (o = 1) || decide (o = 2))) := Lib.hid rfl
    by_cases o1 : o = 1
    · subst o1
      go_enter Tryz.func52, Tryz.ntmps52
      go_wp2
      go_ret
      exact ⟨by rw [HX.out]; rfl, rfl⟩
    · have s1 : (o == 1) = false := by rw [beq_eq_false_iff_ne]; exact o1
      have HY : Hid (okMod o 5 = decide (o = 2)) := Lib.hid (by rw [HX.out, decide_eq_false o1]; rfl)
      clear HX o1
      by_cases o2 : o = 2
      · subst o2
        go_enter Tryz.func52, Tryz.ntmps52
        go_wp2
        go_ret
        exact ⟨by rw [HY.out]; rfl, rfl⟩
      · have s2 : (o == 2) = false := by rw [beq_eq_false_iff_ne]; exact o2
        have HZ : Hid (okMod o 5 = false) := Lib.hid (by rw [HY.out, decide_eq_false o2])
        clear HY o2
        go_enter Tryz.func52, Tryz.ntmps52
        go_wp2
        go_ret
        exact ⟨by rw [HZ.out]; rfl, rfl⟩
  have t5 : (n == 5) = false := by rw [beq_eq_false_iff_ne]; exact h5
  by_cases h6 : n = 6
  · subst h6
    clear h0 t0 h10 t10 h100 t100 h2 t2 h3 t3 h4 t4 h5 t5
    have HX : Hid (okMod o 6 = (decide (o = 1) || decide (o = 2))) := Lib.hid rfl
    by_cases o1 : o = 1
    · subst o1
      go_enter Tryz.func52, Tryz.ntmps52
      go_wp2
      go_ret
      exact ⟨by rw [HX.out]; rfl, rfl⟩
    · have s1 : (o == 1) = false := by rw [beq_eq_false_iff_ne]; exact o1
      have HY : Hid (okMod o 6 = decide (o = 2)) := Lib.hid (by rw [HX.out, decide_eq_false o1]; rfl)
      clear HX o1
      by_cases o2 : o = 2
      · subst o2
        go_enter Tryz.func52, Tryz.ntmps52
        go_wp2
        go_ret
        exact ⟨by rw [HY.out]; rfl, rfl⟩
      · have s2 : (o == 2) = false := by rw [beq_eq_false_iff_ne]; exact o2
        have HZ : Hid (okMod o 6 = false) := Lib.hid (by rw [HY.out, decide_eq_false o2])
        clear HY o2
        go_enter Tryz.func52, Tryz.ntmps52
        go_wp2
        go_ret
        exact ⟨by rw [HZ.out]; rfl, rfl⟩
  have t6 : (n == 6) = false := by rw [beq_eq_false_iff_ne]; exact h6
  by_cases h20 : n = 20
  · subst h20
    clear h0 t0 h10 t10 h100 t100 h2 t2 h3 t3 h4 t4 h5 t5 h6 t6
    have HX : Hid (okMod o 20 = (decide (o = 1) || decide (o = 2))) := Lib.hid rfl
    by_cases o1 : o = 1
    · subst o1
      go_enter Tryz.func52, Tryz.ntmps52
      go_wp2
      go_ret
      exact ⟨by rw [HX.out]; rfl, rfl⟩
    · have s1 : (o == 1) = false := by rw [beq_eq_false_iff_ne]; exact o1
      have HY : Hid (okMod o 20 = decide (o = 2)) := Lib.hid (by rw [HX.out, decide_eq_false o1]; rfl)
      clear HX o1
      by_cases o2 : o = 2
      · subst o2
        go_enter Tryz.func52, Tryz.ntmps52
        go_wp2
        go_ret
        exact ⟨by rw [HY.out]; rfl, rfl⟩
      · have s2 : (o == 2) = false := by rw [beq_eq_false_iff_ne]; exact o2
        have HZ : Hid (okMod o 20 = false) := Lib.hid (by rw [HY.out, decide_eq_false o2])
        clear HY o2
        go_enter Tryz.func52, Tryz.ntmps52
        go_wp2
        go_ret
        exact ⟨by rw [HZ.out]; rfl, rfl⟩
  have t20 : (n == 20) = false := by rw [beq_eq_false_iff_ne]; exact h20
  by_cases h25 : n = 25
  · subst h25
    clear h0 t0 h10 t10 h100 t100 h2 t2 h3 t3 h4 t4 h5 t5 h6 t6 h20 t20
    have HX : Hid (okMod o 25 = (decide (o = 1) || decide (o = 2))) := Lib.hid rfl
    by_cases o1 : o = 1
    · subst o1
      go_enter Tryz.func52, Tryz.ntmps52
      go_wp2
      go_ret
      exact ⟨by rw [HX.out]; rfl, rfl⟩
    · have s1 : (o == 1) = false := by rw [beq_eq_false_iff_ne]; exact o1
      have HY : Hid (okMod o 25 = decide (o = 2)) := Lib.hid (by rw [HX.out, decide_eq_false o1]; rfl)
      clear HX o1
      by_cases o2 : o = 2
      · subst o2
        go_enter Tryz.func52, Tryz.ntmps52
        go_wp2
        go_ret
        exact ⟨by rw [HY.out]; rfl, rfl⟩
      · have s2 : (o == 2) = false := by rw [beq_eq_false_iff_ne]; exact o2
        have HZ : Hid (okMod o 25 = false) := Lib.hid (by rw [HY.out, decide_eq_false o2])
        clear HY o2
        go_enter Tryz.func52, Tryz.ntmps52
        go_wp2
        go_ret
        exact ⟨by rw [HZ.out]; rfl, rfl⟩
  have t25 : (n == 25) = false := by rw [beq_eq_false_iff_ne]; exact h25
  by_cases h50 : n = 50
  · subst h50
    clear h0 t0 h10 t10 h100 t100 h2 t2 h3 t3 h4 t4 h5 t5 h6 t6 h20 t20 h25 t25
    have HX : Hid (okMod o 50 = (decide (o = 1) || decide (o = 2))) := Lib.hid rfl
    by_cases o1 : o = 1
    · subst o1
      go_enter Tryz.func52, Tryz.ntmps52
      go_wp2
      go_ret
      exact ⟨by rw [HX.out]; rfl, rfl⟩
    · have s1 : (o == 1) = false := by rw [beq_eq_false_iff_ne]; exact o1
      have HY : Hid (okMod o 50 = decide (o = 2)) := Lib.hid (by rw [HX.out, decide_eq_false o1]; rfl)
      clear HX o1
      by_cases o2 : o = 2
      · subst o2
        go_enter Tryz.func52, Tryz.ntmps52
        go_wp2
        go_ret
        exact ⟨by rw [HY.out]; rfl, rfl⟩
      · have s2 : (o == 2) = false := by rw [beq_eq_false_iff_ne]; exact o2
        have HZ : Hid (okMod o 50 = false) := Lib.hid (by rw [HY.out, decide_eq_false o2])
        clear HY o2
        go_enter Tryz.func52, Tryz.ntmps52
        go_wp2
        go_ret
        exact ⟨by rw [HZ.out]; rfl, rfl⟩
  have t50 : (n == 50) = false := by rw [beq_eq_false_iff_ne]; exact h50
  have HX : Hid (okMod o n = false) := Lib.hid (by unfold okMod; rw [if_neg h0, if_neg (by omega), if_neg (by omega)])
  clear h0 h10 h100 h2 h3 h4 h5 h6 h20 h25 h50
  go_enter Tryz.func52, Tryz.ntmps52
  go_wp2
  go_ret
  exact ⟨by rw [HX.out]; rfl, rfl⟩
end Go.Proofs.YtnabklhkalnpiaaGreatDoor
