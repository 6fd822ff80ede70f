/- The specification's entity, one, Escape. -/
import Derived.Test.YtnkmlgkppaglkaaDoorEu
import Derived.Lib.AppendStr
namespace Go.Proofs.YtnkmlgkppaglkaaDoor
open Go.RowKit
set_option linter.unusedVariables false

theorem below_one {w : World} {o : Obj} : Below w.heap.size w (w.alloc o) := (Below.refl _ _).alloc (Nat.le_refl _) _
theorem below_one_then {w w1 : World} {o : Obj} (h : Below (w.alloc o).heap.size (w.alloc o) w1) : Below w.heap.size w w1 := below2 below_one h
set_option maxRecDepth 1000000 in
set_option maxHeartbeats 1000000 in
theorem refEntity_any (n : Nat) (hn : n < 256) (w : World) : Calls Tryd.prog 34 #[.int .u8 n] w (StrPost w (entL n)) := by
  have k1 := fun w a => conv_new1 (P := Tryd.prog) Tryd.underlying34 Tryd.underlying5 Tryd.underlying9 w a
  by_cases a0 : n = 38
  · subst a0
    go_enter Tryd.func34, Tryd.ntmps34
    go_wp2
    go_ret
    exact ⟨rfl, Below.refl _ _⟩
  have i0 : ((n : Int) == 38) = false := by simp; omega
  by_cases a1 : n = 60
  · subst a1
    go_enter Tryd.func34, Tryd.ntmps34
    go_wp2
    go_ret
    exact ⟨rfl, Below.refl _ _⟩
  have i1 : ((n : Int) == 60) = false := by simp; omega
  by_cases a2 : n = 62
  · subst a2
    go_enter Tryd.func34, Tryd.ntmps34
    go_wp2
    go_ret
    exact ⟨rfl, Below.refl _ _⟩
  have i2 : ((n : Int) == 62) = false := by simp; omega
  by_cases a3 : n = 34
  · subst a3
    go_enter Tryd.func34, Tryd.ntmps34
    go_wp2
    go_ret
    exact ⟨rfl, Below.refl _ _⟩
  have i3 : ((n : Int) == 34) = false := by simp; omega
  by_cases hc : ctl n = true
  · have H := Lib.hid (show entL n = [38, 35] ++ Lib.decDigits n ++ [59] by unfold entL; simp only [if_neg a0, if_neg a1, if_neg a2, if_neg a3, if_pos hc]; rfl)
    have hdec := fun W => decimal3 n (by omega) W
    have hdl := dec_len (n := n) (by omega)
    generalize Lib.decDigits n = dl at H hdec hdl
    clear a0 a1 a2 a3
    by_cases h32 : n < 32
    · clear hc
      have c32 : decide ((n : Int) < 32) = true := decide_eq_true (by omega)
      go_enter Tryd.func34, Tryd.ntmps34
      go_wp2_with fail
      refine (hdec _).mono ?_
      rintro e w1 ⟨rfl, D⟩
      go_wp2
      go_ret
      refine ⟨?_, D⟩
      rw [H.out]
      exact ret_str (by rw [← str_app, ← str_app] <;> rfl)
    · have h127 : n = 127 := by unfold ctl at hc; simp at hc; omega
      clear hc
      have c32 : decide ((n : Int) < 32) = false := decide_eq_false (by omega)
      have c127 : ((n : Int) == 127) = true := by rw [h127]; rfl
      clear h127
      go_enter Tryd.func34, Tryd.ntmps34
      go_wp2_with fail
      refine (hdec _).mono ?_
      rintro e w1 ⟨rfl, D⟩
      go_wp2
      go_ret
      refine ⟨?_, D⟩
      rw [H.out]
      exact ret_str (by rw [← str_app, ← str_app] <;> rfl)
  · have H := Lib.hid (show entL n = [UInt8.ofNat n] by unfold entL; simp only [if_neg a0, if_neg a1, if_neg a2, if_neg a3, if_neg hc])
    have c32 : decide ((n : Int) < 32) = false := decide_eq_false (by unfold ctl at hc; simp at hc; omega)
    have c127 : ((n : Int) == 127) = false := by unfold ctl at hc; simp at hc; simp; omega
    clear a0 a1 a2 a3 hc
    go_enter Tryd.func34, Tryd.ntmps34
    go_wp2
    go_ret
    refine ⟨?_, below_one⟩
    rw [H.out]
    exact ret_str rfl

theorem escOneT' {st n : Nat} {f : Bool} (h : st ≠ 4) (h1 : tb st n f = true) (h2 : n ≠ 10 ∧ n ≠ 13 ∧ n ≠ 9) : escOne st n f = [92] ++ [UInt8.ofNat n] := by
  have : ltr n = n := by unfold ltr; simp [h2.1, h2.2.1, h2.2.2]
  rw [escOneT h h1, this]
theorem in1 (n : Nat) : inL n [61, 58, 35, 33] = (decide (n = 61) || decide (n = 58) || decide (n = 35) || decide (n = 33)) := by
  simp only [inL, List.any_cons, List.any_nil]
  simp [eq_comm, Bool.or_assoc]
theorem in3 (n : Nat) : inL n [123, 125] = (decide (n = 123) || decide (n = 125)) := by
  simp only [inL, List.any_cons, List.any_nil]
  simp [eq_comm]
set_option maxRecDepth 1000000 in
set_option maxHeartbeats 4000000 in
theorem one_st (st n : Nat) (f : Bool) (hn : n < 256) (hst : st = 1 ∨ st = 2 ∨ st = 3 ∨ st = 4) (w : World) :
    Calls Tryd.prog 27 #[.int .i64 st, .int .u8 n, .bool f] w (StrPost w (escOne st n f)) := by
  have k1 := fun w a => conv_new1 (P := Tryd.prog) Tryd.underlying34 Tryd.underlying5 Tryd.underlying9 w a
  by_cases h4 : st = 4
  · subst h4
    rw [escOne4]
    clear hst
    go_enter Tryd.func27, Tryd.ntmps27
    go_wp2_with fail
    refine (refEntity_any n hn _).mono ?_
    rintro e w1 ⟨rfl, D⟩
    go_wp2
    go_ret
    exact ⟨rfl, below_one_then D⟩
  by_cases a10 : n = 10
  · subst a10
    have H := Lib.hid (escOneT (st := st) (f := f) (n := 10) h4 (by unfold tb; simp))
    have q4 : ((st : Int) == 4) = false := by simp; omega
    clear h4 hst
    go_enter Tryd.func27, Tryd.ntmps27
    go_wp2
    go_ret
    refine ⟨?_, below_one⟩
    rw [H.out]
    exact ret_str rfl
  have i10 : ((n : Int) == 10) = false := by simp; omega
  by_cases a13 : n = 13
  · subst a13
    have H := Lib.hid (escOneT (st := st) (f := f) (n := 13) h4 (by unfold tb; simp))
    have q4 : ((st : Int) == 4) = false := by simp; omega
    clear h4 hst
    go_enter Tryd.func27, Tryd.ntmps27
    go_wp2
    go_ret
    refine ⟨?_, below_one⟩
    rw [H.out]
    exact ret_str rfl
  have i13 : ((n : Int) == 13) = false := by simp; omega
  by_cases a9 : n = 9
  · subst a9
    have H := Lib.hid (escOneT (st := st) (f := f) (n := 9) h4 (by unfold tb; simp))
    have q4 : ((st : Int) == 4) = false := by simp; omega
    clear h4 hst
    go_enter Tryd.func27, Tryd.ntmps27
    go_wp2
    go_ret
    refine ⟨?_, below_one⟩
    rw [H.out]
    exact ret_str rfl
  have i9 : ((n : Int) == 9) = false := by simp; omega
  by_cases a92 : n = 92
  · subst a92
    have H := Lib.hid (escOneT' (st := st) (f := f) (n := 92) h4 (by unfold tb; simp) (by decide))
    have q4 : ((st : Int) == 4) = false := by simp; omega
    clear h4 hst a10 a13 a9
    go_enter Tryd.func27, Tryd.ntmps27
    go_wp2
    go_ret
    refine ⟨?_, below_one⟩
    rw [H.out]
    exact ret_str (by rw [← str_app] <;> rfl)
  have i92 : ((n : Int) == 92) = false := by simp; omega
  rcases hst with rfl | rfl | rfl | rfl
  · by_cases hin : inL n [61, 58, 35, 33] = true
    · have H := Lib.hid (escOneT' (st := 1) (f := f) (n := n) h4 (by rw [in1] at hin; unfold tb; rw [hin]; simp) ⟨a10, a13, a9⟩)
      clear a10 a13 a9 a92 h4
      go_enter Tryd.func27, Tryd.ntmps27
      go_wp2_with fail
      refine (in_any n ⟨#[61, 58, 35, 33]⟩ (by decide) _).mono ?_
      rintro e w' ⟨rfl, rfl⟩
      rw [hin]
      go_wp2
      go_ret
      refine ⟨?_, below_one⟩
      rw [H.out]
      exact ret_str (by rw [← str_app] <;> rfl)
    · have hin' := Bool.eq_false_iff.2 hin
      clear hin
      have hin2 := hin'
      rw [in1] at hin2
      by_cases hf : f = true
      · subst hf
        by_cases a32 : n = 32
        · have H := Lib.hid (escOneT' (st := 1) (f := true) (n := n) h4 (by unfold tb; simp [a32]) ⟨a10, a13, a9⟩)
          have i32 : ((n : Int) == 32) = true := by rw [a32]; rfl
          clear a10 a13 a9 a92 h4 a32 hin2
          go_enter Tryd.func27, Tryd.ntmps27
          go_wp2_with fail
          refine (in_any n ⟨#[61, 58, 35, 33]⟩ (by decide) _).mono ?_
          rintro e w' ⟨rfl, rfl⟩
          rw [hin']
          go_wp2
          go_ret
          refine ⟨?_, below_one⟩
          rw [H.out]
          exact ret_str (by rw [← str_app] <;> rfl)
        · have i32 : ((n : Int) == 32) = false := by simp; omega
          have ht : tb 1 n true = false := by unfold tb; rw [hin2]; simp [a92, a10, a13, a9, a32]
          clear a10 a13 a9 a92 h4 a32 hin2
          by_cases hc : ctl n = true
          · have H := Lib.hid (escOneC (st := 1) (f := true) (by decide) ht hc)
            clear ht
            by_cases h32 : n < 32
            · have c32 : decide ((n : Int) < 32) = true := decide_eq_true (by omega)
              clear hc h32
              go_enter Tryd.func27, Tryd.ntmps27
              go_wp2_with fail
              refine (in_any n ⟨#[61, 58, 35, 33]⟩ (by decide) _).mono ?_
              rintro e w' ⟨rfl, rfl⟩
              rw [hin']
              go_wp2_with fail
              refine (hex_any n hn _).mono ?_
              rintro e w1 ⟨rfl, D⟩
              go_wp2
              go_ret
              refine ⟨?_, below_one_then D⟩
              rw [H.out]
              exact ret_str (by unfold hexL; rw [if_neg (by decide), List.append_assoc, ← str_app]; rfl)
            · have h127 : n = 127 := by unfold ctl at hc; simp at hc; omega
              have c32 : decide ((n : Int) < 32) = false := decide_eq_false (by omega)
              have c127 : ((n : Int) == 127) = true := by rw [h127]; rfl
              clear hc h32 h127
              go_enter Tryd.func27, Tryd.ntmps27
              go_wp2_with fail
              refine (in_any n ⟨#[61, 58, 35, 33]⟩ (by decide) _).mono ?_
              rintro e w' ⟨rfl, rfl⟩
              rw [hin']
              go_wp2_with fail
              refine (hex_any n hn _).mono ?_
              rintro e w1 ⟨rfl, D⟩
              go_wp2
              go_ret
              refine ⟨?_, below_one_then D⟩
              rw [H.out]
              exact ret_str (by unfold hexL; rw [if_neg (by decide), List.append_assoc, ← str_app]; rfl)
          · have H := Lib.hid (escOneP (st := 1) (f := true) (by decide) ht (Bool.eq_false_iff.2 hc))
            have c32 : decide ((n : Int) < 32) = false := decide_eq_false (by unfold ctl at hc; simp at hc; omega)
            have c127 : ((n : Int) == 127) = false := by unfold ctl at hc; simp at hc; simp; omega
            clear hc ht
            go_enter Tryd.func27, Tryd.ntmps27
            go_wp2_with fail
            refine (in_any n ⟨#[61, 58, 35, 33]⟩ (by decide) _).mono ?_
            rintro e w' ⟨rfl, rfl⟩
            rw [hin']
            go_wp2
            go_ret
            refine ⟨?_, below_one⟩
            rw [H.out]
            exact ret_str rfl
      · have hf' := Bool.eq_false_iff.2 hf
        subst hf'
        have ht : tb 1 n false = false := by unfold tb; rw [hin2]; simp [a92, a10, a13, a9]
        clear a10 a13 a9 a92 h4 hf hin2
        by_cases hc : ctl n = true
        · have H := Lib.hid (escOneC (st := 1) (f := false) (by decide) ht hc)
          clear ht
          by_cases h32 : n < 32
          · have c32 : decide ((n : Int) < 32) = true := decide_eq_true (by omega)
            clear hc h32
            go_enter Tryd.func27, Tryd.ntmps27
            go_wp2_with fail
            refine (in_any n ⟨#[61, 58, 35, 33]⟩ (by decide) _).mono ?_
            rintro e w' ⟨rfl, rfl⟩
            rw [hin']
            go_wp2_with fail
            refine (hex_any n hn _).mono ?_
            rintro e w1 ⟨rfl, D⟩
            go_wp2
            go_ret
            refine ⟨?_, below_one_then D⟩
            rw [H.out]
            exact ret_str (by unfold hexL; rw [if_neg (by decide), List.append_assoc, ← str_app]; rfl)
          · have h127 : n = 127 := by unfold ctl at hc; simp at hc; omega
            have c32 : decide ((n : Int) < 32) = false := decide_eq_false (by omega)
            have c127 : ((n : Int) == 127) = true := by rw [h127]; rfl
            clear hc h32 h127
            go_enter Tryd.func27, Tryd.ntmps27
            go_wp2_with fail
            refine (in_any n ⟨#[61, 58, 35, 33]⟩ (by decide) _).mono ?_
            rintro e w' ⟨rfl, rfl⟩
            rw [hin']
            go_wp2_with fail
            refine (hex_any n hn _).mono ?_
            rintro e w1 ⟨rfl, D⟩
            go_wp2
            go_ret
            refine ⟨?_, below_one_then D⟩
            rw [H.out]
            exact ret_str (by unfold hexL; rw [if_neg (by decide), List.append_assoc, ← str_app]; rfl)
        · have H := Lib.hid (escOneP (st := 1) (f := false) (by decide) ht (Bool.eq_false_iff.2 hc))
          have c32 : decide ((n : Int) < 32) = false := decide_eq_false (by unfold ctl at hc; simp at hc; omega)
          have c127 : ((n : Int) == 127) = false := by unfold ctl at hc; simp at hc; simp; omega
          clear hc ht
          go_enter Tryd.func27, Tryd.ntmps27
          go_wp2_with fail
          refine (in_any n ⟨#[61, 58, 35, 33]⟩ (by decide) _).mono ?_
          rintro e w' ⟨rfl, rfl⟩
          rw [hin']
          go_wp2
          go_ret
          refine ⟨?_, below_one⟩
          rw [H.out]
          exact ret_str rfl
  · by_cases a34 : n = 34
    · have H := Lib.hid (escOneT' (st := 2) (f := f) (n := n) h4 (by unfold tb; simp [a34]) ⟨a10, a13, a9⟩)
      have i34 : ((n : Int) == 34) = true := by rw [a34]; rfl
      clear a10 a13 a9 a92 h4 a34
      go_enter Tryd.func27, Tryd.ntmps27
      go_wp2
      go_ret
      refine ⟨?_, below_one⟩
      rw [H.out]
      exact ret_str (by rw [← str_app] <;> rfl)
    · have i34 : ((n : Int) == 34) = false := by simp; omega
      have ht : tb 2 n f = false := by unfold tb; simp [a92, a10, a13, a9, a34]
      clear a10 a13 a9 a92 h4 a34
      by_cases hc : ctl n = true
      · have H := Lib.hid (escOneC (st := 2) (f := f) (by decide) ht hc)
        clear ht
        by_cases h32 : n < 32
        · have c32 : decide ((n : Int) < 32) = true := decide_eq_true (by omega)
          clear hc h32
          go_enter Tryd.func27, Tryd.ntmps27
          go_wp2_with fail
          refine (hex_any n hn _).mono ?_
          rintro e w1 ⟨rfl, D⟩
          go_wp2
          go_ret
          refine ⟨?_, below_one_then D⟩
          rw [H.out]
          exact ret_str (by unfold hexL; rw [if_neg (by decide), List.append_assoc, ← str_app]; rfl)
        · have h127 : n = 127 := by unfold ctl at hc; simp at hc; omega
          have c32 : decide ((n : Int) < 32) = false := decide_eq_false (by omega)
          have c127 : ((n : Int) == 127) = true := by rw [h127]; rfl
          clear hc h32 h127
          go_enter Tryd.func27, Tryd.ntmps27
          go_wp2_with fail
          refine (hex_any n hn _).mono ?_
          rintro e w1 ⟨rfl, D⟩
          go_wp2
          go_ret
          refine ⟨?_, below_one_then D⟩
          rw [H.out]
          exact ret_str (by unfold hexL; rw [if_neg (by decide), List.append_assoc, ← str_app]; rfl)
      · have H := Lib.hid (escOneP (st := 2) (f := f) (by decide) ht (Bool.eq_false_iff.2 hc))
        have c32 : decide ((n : Int) < 32) = false := decide_eq_false (by unfold ctl at hc; simp at hc; omega)
        have c127 : ((n : Int) == 127) = false := by unfold ctl at hc; simp at hc; simp; omega
        clear hc ht
        go_enter Tryd.func27, Tryd.ntmps27
        go_wp2
        go_ret
        refine ⟨?_, below_one⟩
        rw [H.out]
        exact ret_str rfl
  · by_cases a34 : n = 34
    · have H := Lib.hid (escOneT' (st := 3) (f := f) (n := n) h4 (by unfold tb; simp [a34]) ⟨a10, a13, a9⟩)
      have i34 : ((n : Int) == 34) = true := by rw [a34]; rfl
      clear a10 a13 a9 a92 h4 a34
      go_enter Tryd.func27, Tryd.ntmps27
      go_wp2
      go_ret
      refine ⟨?_, below_one⟩
      rw [H.out]
      exact ret_str (by rw [← str_app] <;> rfl)
    · have i34 : ((n : Int) == 34) = false := by simp; omega
      by_cases hin : inL n [123, 125] = true
      · have H := Lib.hid (escOneT' (st := 3) (f := f) (n := n) h4 (by rw [in3] at hin; unfold tb; rw [hin]; simp) ⟨a10, a13, a9⟩)
        clear a10 a13 a9 a92 h4 a34
        go_enter Tryd.func27, Tryd.ntmps27
        go_wp2_with fail
        refine (in_any n ⟨#[123, 125]⟩ (by decide) _).mono ?_
        rintro e w' ⟨rfl, rfl⟩
        rw [hin]
        go_wp2
        go_ret
        refine ⟨?_, below_one⟩
        rw [H.out]
        exact ret_str (by rw [← str_app] <;> rfl)
      · have hin' := Bool.eq_false_iff.2 hin
        clear hin
        have hin2 := hin'
        rw [in3] at hin2
        have ht : tb 3 n f = false := by unfold tb; rw [hin2]; simp [a92, a10, a13, a9, a34]
        clear a10 a13 a9 a92 h4 a34 hin2
        by_cases hc : ctl n = true
        · have H := Lib.hid (escOneC (st := 3) (f := f) (by decide) ht hc)
          clear ht
          by_cases h32 : n < 32
          · have c32 : decide ((n : Int) < 32) = true := decide_eq_true (by omega)
            clear hc h32
            go_enter Tryd.func27, Tryd.ntmps27
            go_wp2_with fail
            refine (in_any n ⟨#[123, 125]⟩ (by decide) _).mono ?_
            rintro e w' ⟨rfl, rfl⟩
            rw [hin']
            go_wp2_with fail
            refine (hex_any n hn _).mono ?_
            rintro e w1 ⟨rfl, D⟩
            go_wp2
            go_ret
            refine ⟨?_, below_one_then D⟩
            rw [H.out]
            exact ret_str (by unfold hexL; rw [if_pos rfl, List.append_assoc, ← str_app]; rfl)
          · have h127 : n = 127 := by unfold ctl at hc; simp at hc; omega
            have c32 : decide ((n : Int) < 32) = false := decide_eq_false (by omega)
            have c127 : ((n : Int) == 127) = true := by rw [h127]; rfl
            clear hc h32 h127
            go_enter Tryd.func27, Tryd.ntmps27
            go_wp2_with fail
            refine (in_any n ⟨#[123, 125]⟩ (by decide) _).mono ?_
            rintro e w' ⟨rfl, rfl⟩
            rw [hin']
            go_wp2_with fail
            refine (hex_any n hn _).mono ?_
            rintro e w1 ⟨rfl, D⟩
            go_wp2
            go_ret
            refine ⟨?_, below_one_then D⟩
            rw [H.out]
            exact ret_str (by unfold hexL; rw [if_pos rfl, List.append_assoc, ← str_app]; rfl)
        · have H := Lib.hid (escOneP (st := 3) (f := f) (by decide) ht (Bool.eq_false_iff.2 hc))
          have c32 : decide ((n : Int) < 32) = false := decide_eq_false (by unfold ctl at hc; simp at hc; omega)
          have c127 : ((n : Int) == 127) = false := by unfold ctl at hc; simp at hc; simp; omega
          clear hc ht
          go_enter Tryd.func27, Tryd.ntmps27
          go_wp2_with fail
          refine (in_any n ⟨#[123, 125]⟩ (by decide) _).mono ?_
          rintro e w' ⟨rfl, rfl⟩
          rw [hin']
          go_wp2
          go_ret
          refine ⟨?_, below_one⟩
          rw [H.out]
          exact ret_str rfl
  · exact absurd rfl h4

def RefRel (st : Nat) (s : ByteArray) (w : World) (v i : Value) (wr : World) : Prop :=
  ∃ (k : Nat), i = .int .i64 k ∧ k ≤ s.size ∧ wr.ownsRow w.heap.size 5 1 v (escL st (s.data.toList.take k)).length (byteCells (escL st (s.data.toList.take k))) ∧ Below w.heap.size w wr
theorem ref_step {st : Nat} {s : ByteArray} {w wr w1 w2 : World} {k : Nat} {v v' vi : Value} {l : List UInt8} (hk : k < s.size) (hB : Below w.heap.size w wr) (hB1 : Below wr.heap.size wr w1)
    (hl : l = escOne st (s[k]'hk).toNat (decide (k = 0)))
    (hown : w1.ownsRow w.heap.size 5 1 v (escL st (s.data.toList.take k)).length (byteCells (escL st (s.data.toList.take k))))
    (h2 : w2.ownsRow w.heap.size 5 1 v' ((escL st (s.data.toList.take k)).length + (⟨l.toArray⟩ : ByteArray).size) (byteCells (escL st (s.data.toList.take k)) ++ Lib.strCells ⟨l.toArray⟩)) (hg : w1.grownBy w2 v.ownBlock)
    (hv : vi = .int .i64 (k + 1 : Nat)) : RefRel st s w v' vi w2 := by
  have hBw := hB.trans (hB1.mono hB.size)
  refine ⟨k + 1, hv, hk, ?_, hBw.grown hg hBw.size (fun j e => (hown.lt j e).1)⟩
  rw [escL_snoc st _ k (by simpa using hk), ← byt_get s k hk, ← hl, List.length_append]
  have e2 : byteCells (escL st (s.data.toList.take k) ++ l) = byteCells (escL st (s.data.toList.take k)) ++ Lib.strCells ⟨l.toArray⟩ := by unfold byteCells; rw [List.map_append]; rfl
  rw [e2]
  rw [size_mk] at h2
  exact h2

set_option maxRecDepth 1000000 in
set_option maxHeartbeats 400000 in
theorem refEscape_st (st : Nat) (s : ByteArray) (w : World) (hs : s.size ≤ 68719476736) (hst : st = 1 ∨ st = 2 ∨ st = 3 ∨ st = 4) :
    Calls Tryd.prog 12 #[.int .i64 st, .string s] w (StrPost w (escL st s.data.toList)) := by
  obtain ⟨i0, hi, hz0, hz1, hz2⟩ := info_parts Tryd.infoB
  have his := isSt_nat hst
  go_enter Tryd.func12, Tryd.ntmps12
  go_wp2_with fail
  refine (style_any _ _).mono ?_
  rintro e w' ⟨rfl, rfl⟩
  rw [his]
  clear his
  go_wp2
  go_loopw [5, 6] (fun v i wr => RefRel st s w v i wr) (fun _ i _ => s.size - (intOf i).toNat)
  case atStart => exact ⟨0, rfl, Nat.zero_le _, World.ownsRow_nil _ _ _ _, Below.refl _ _⟩
  case round =>
    obtain ⟨k, rfl, hk, hown, hB⟩ := hrel
    have hlen : (escL st (s.data.toList.take k)).length ≤ 6 * s.size := by
      have := escL_len st (s.data.toList.take k)
      rw [List.length_take] at this
      have h2 : s.data.toList.length = s.size := by simp
      omega
    by_cases hlt : k < s.size
    · have hn : (s[k]'hlt).toNat < 256 := (s[k]'hlt).toNat_lt
      have hf : ((k : Int) == 0) = decide (k = 0) := by
        cases k <;> simp
        omega
      have ho := escOne_len st (s[k]'hlt).toNat (decide (k = 0)) hn
      have h1 := fun W => one_st st (s[k]'hlt).toNat (decide (k = 0)) hn hst W
      obtain ⟨l, hl⟩ : ∃ l, l = escOne st (s[k]'hlt).toNat (decide (k = 0)) := ⟨_, rfl⟩
      rw [← hl] at ho h1
      have Hl := Lib.hid hl
      clear hl
      have hsz := size_mk l
      go_wp2_with fail
      refine (h1 _).mono ?_
      rintro e w1 ⟨rfl, hB1⟩
      have hown1 := own_below hown hB1
      go_wp2_with (at_builtin; go_loud (refine Lib.wpList_append_own_string _ rfl _ _ 34 9 rfl w.heap.size 5 i0 Tryd.underlying34 Tryd.underlying9 hi hz0 hz1 hz2 _ _ _ rfl hown1 ⟨l.toArray⟩ rfl ?c1 ?c2 ?c3 ?_))
      case c1 => unfold maxLen; omega
      case c2 => omega
      case c3 => have := hB.size; have := hB1.size; omega
      · intro v' w2 hown2 hgrow _
        have R := Lib.hid (fun vi => ref_step (vi := vi) hlt hB hB1 Hl.out hown1 hown2 hgrow)
        clear hown2 hgrow hown hown1 hB hB1 h1
        go_wp2
        go_roundw
        case rel => exact R.out _ (by go_num)
        case measure => simp [intOf]; omega
    · have hf := conv_own (P := Tryd.prog) Tryd.underlying34 Tryd.underlying5 Tryd.underlying9 hown
      go_wp2
      go_ret
      refine ⟨?_, hB⟩
      rw [List.take_of_length_le (by simp; omega)]
      exact ret_str rfl
theorem refEscape_no (st : Int) (s : ByteArray) (w : World) (hst : isSt st = false) :
    Calls Tryd.prog 12 #[.int .i64 st, .string s] w fun e w' => e = .returned (.string ⟨#[]⟩) ∧ w = w' := by
  go_enter Tryd.func12, Tryd.ntmps12
  go_wp2_with fail
  refine (style_any _ _).mono ?_
  rintro e w' ⟨rfl, rfl⟩
  rw [hst]
  clear hst
  go_wp2
  go_ret
  exact ⟨rfl, rfl⟩
end Go.Proofs.YtnkmlgkppaglkaaDoor
