/- What the row stands on, part 13. -/
import Derived.RegionTactic
import Derived.ChangeAlike
import Derived.Test.YtgogcekeklelmaaGreatDoorZkb
import Derived.Test.YtgogcekeklelmaaGreatDoorQ12

/- The specification's small functions: decimal, hex, entity, one; Escape. -/
namespace Go.Proofs.YtgogcekeklelmaaGreatDoor
open Go.RowKit
set_option linter.unusedVariables false

theorem str_app (a b : List UInt8) : (⟨a.toArray⟩ ++ ⟨b.toArray⟩ : ByteArray) = ⟨(a ++ b).toArray⟩ := str_ext (by rw [data_app, mk_data, mk_data])
set_option maxRecDepth 1000000 in
theorem decimal1 (n : Nat) (h : n < 10) (w : World) : Calls Tryz.prog 72 #[.int .i64 n] w (StrPostOf2 w (Lib.decDigits n)) := by
  have k1 := fun w a => conv_new1 (P := Tryz.prog) Tryz.underlying57 Tryz.underlying5 Tryz.underlying9 w a
  have hd := Lib.hid (dec1 h)
  go_enter Tryz.func72, Tryz.ntmps72
  go_wp2
  go_ret
  refine ⟨?_, (Below.refl _ _).alloc (Nat.le_refl _) _⟩
  rw [hd.out]
  exact ret_str rfl
set_option maxRecDepth 1000000 in
theorem decimal2 (n : Nat) (h : n < 100) (w : World) : Calls Tryz.prog 72 #[.int .i64 n] w (StrPostOf2 w (Lib.decDigits n)) := by
  by_cases h0 : n < 10
  · exact decimal1 n h0 w
  · have hd := Lib.hid (show Lib.decDigits n = Lib.decDigits (n / 10) ++ Lib.decDigits (n % 10) by rw [dec2 (by omega) h, dec1 (by omega), dec1 (by omega)]; rfl)
    have hl1 := dec_len (n := n / 10) (by omega)
    have hl2 := dec_len (n := n % 10) (by omega)
    have e1 := fun W => decimal1 (n / 10) (by omega) W
    have e2 := fun W => decimal1 (n % 10) (by omega) W
    generalize Lib.decDigits (n / 10) = a at hd e1 hl1
    generalize Lib.decDigits (n % 10) = b at hd e2 hl2
    go_enter Tryz.func72, Tryz.ntmps72
    go_wp2_with fail
    refine (e1 _).mono ?_
    rintro e w1 ⟨rfl, D1⟩
    go_wp2_with fail
    refine (e2 _).mono ?_
    rintro e w2 ⟨rfl, D2⟩
    go_wp2
    go_ret
    refine ⟨?_, D1.trans (D2.mono D1.size)⟩
    rw [hd.out]
    exact ret_str (str_app _ _)
set_option maxRecDepth 1000000 in
theorem decimal3 (n : Nat) (h : n < 1000) (w : World) : Calls Tryz.prog 72 #[.int .i64 n] w (StrPostOf2 w (Lib.decDigits n)) := by
  by_cases h0 : n < 100
  · exact decimal2 n h0 w
  · have hd := Lib.hid (show Lib.decDigits n = Lib.decDigits (n / 10) ++ Lib.decDigits (n % 10) by rw [dec3 (by omega) h, dec2 (by omega) (by omega), dec1 (by omega)]; simp [Nat.div_div_eq_div_mul])
    have hl1 := dec_len (n := n / 10) (by omega)
    have hl2 := dec_len (n := n % 10) (by omega)
    have e1 := fun W => decimal2 (n / 10) (by omega) W
    have e2 := fun W => decimal1 (n % 10) (by omega) W
    generalize Lib.decDigits (n / 10) = a at hd e1 hl1
    generalize Lib.decDigits (n % 10) = b at hd e2 hl2
    go_enter Tryz.func72, Tryz.ntmps72
    go_wp2_with fail
    refine (e1 _).mono ?_
    rintro e w1 ⟨rfl, D1⟩
    go_wp2_with fail
    refine (e2 _).mono ?_
    rintro e w2 ⟨rfl, D2⟩
    go_wp2
    go_ret
    refine ⟨?_, D1.trans (D2.mono D1.size)⟩
    rw [hd.out]
    exact ret_str (str_app _ _)
set_option maxRecDepth 1000000 in
set_option maxHeartbeats 1000000 in
theorem hex_any (n : Nat) (h : n < 256) (w : World) : Calls Tryz.prog 55 #[.int .i64 n] w (StrPostOf2 w [hexd (n / 16), hexd (n % 16)]) := by
  have k2 := fun w a b => conv_new2 (P := Tryz.prog) Tryz.underlying57 Tryz.underlying5 Tryz.underlying9 w a b
  have kd : ∀ a b : Int, (convert 57 9 (.slice (some ⟨w.heap.size, 0, none⟩) 2 2)).run Tryz.prog ((w.alloc (.cells #[.int .u8 a, .int .u8 b] 5)).drew) = .ok (.string ⟨#[UInt8.ofNat a.toNat, UInt8.ofNat b.toNat]⟩) ((w.alloc (.cells #[.int .u8 a, .int .u8 b] 5)).drew) := fun a b => k2 w.drew a b
  clear k2
  have h1 : n / 16 < 16 := by omega
  have h2 : n % 16 < 16 := by omega
  have b1 : (0 : Int) ≤ (n : Int) / 16 ∧ (n : Int) / 16 < 16 := by omega
  have b2 : (0 : Int) ≤ (n : Int) % 16 ∧ (n : Int) % 16 < 16 := by omega
  go_enter Tryz.func55, Tryz.ntmps55
  go_wp2
  go_region
  all_goals go_wp2
  all_goals go_ret
  refine ⟨?_, ((Below.refl _ _).alloc (Nat.le_refl _) _).drew⟩
  rw [← hexAt _ h1, ← hexAt _ h2]
  refine ret_str ?_
  simp
end Go.Proofs.YtgogcekeklelmaaGreatDoor


/- The specification's entity, one, Escape. -/
namespace Go.Proofs.YtgogcekeklelmaaGreatDoor
open Go.RowKit
set_option linter.unusedVariables false

theorem below_one {w : World} {o : Obj} : Below w.heap.size w (w.alloc o) := (Below.refl _ _).alloc (Nat.le_refl _) _
theorem below_one_then {w w1 : World} {o : Obj} (h : Below (w.alloc o).heap.size (w.alloc o) w1) : Below w.heap.size w w1 := below2 below_one h
set_option maxRecDepth 1000000 in
set_option maxHeartbeats 1000000 in
theorem refEntity_any (n : Nat) (hn : n < 256) (w : World) : Calls Tryz.prog 53 #[.int .u8 n] w (StrPostOf2 w (entL n)) := by
  have k1 := fun w a => conv_new1 (P := Tryz.prog) Tryz.underlying57 Tryz.underlying5 Tryz.underlying9 w a
  by_cases a0 : n = 38
  · subst a0
    go_enter Tryz.func53, Tryz.ntmps53
    go_wp2
    go_ret
    exact ⟨rfl, Below.refl _ _⟩
  have i0 : ((n : Int) == 38) = false := by simp; omega
  by_cases a1 : n = 60
  · subst a1
    go_enter Tryz.func53, Tryz.ntmps53
    go_wp2
    go_ret
    exact ⟨rfl, Below.refl _ _⟩
  have i1 : ((n : Int) == 60) = false := by simp; omega
  by_cases a2 : n = 62
  · subst a2
    go_enter Tryz.func53, Tryz.ntmps53
    go_wp2
    go_ret
    exact ⟨rfl, Below.refl _ _⟩
  have i2 : ((n : Int) == 62) = false := by simp; omega
  by_cases a3 : n = 34
  · subst a3
    go_enter Tryz.func53, Tryz.ntmps53
    go_wp2
    go_ret
    exact ⟨rfl, Below.refl _ _⟩
  have i3 : ((n : Int) == 34) = false := by simp; omega
  by_cases hc : ctl n = true
  · have H := Lib.hid (show entL n = [38, 35] ++ Lib.decDigits n ++ [59] by unfold entL; simp only [if_neg a0, if_neg a1, if_neg a2, if_neg a3, if_pos hc]; rfl)
    have hdec := fun W => decimal3 n (by omega) W
    have hdl := dec_len (n := n) (by omega)
    generalize Lib.decDigits n = dl at H hdec hdl
    clear a0 a1 a2 a3
    by_cases h32 : n < 32
    · clear hc
      have c32 : decide ((n : Int) < 32) = true := decide_eq_true (by omega)
      go_enter Tryz.func53, Tryz.ntmps53
      go_wp2_with fail
      refine (hdec _).mono ?_
      rintro e w1 ⟨rfl, D⟩
      go_wp2
      go_ret
      refine ⟨?_, D⟩
      rw [H.out]
      exact ret_str (by rw [← str_app, ← str_app] <;> rfl)
    · have h127 : n = 127 := by unfold ctl at hc; simp at hc; omega
      clear hc
      have c32 : decide ((n : Int) < 32) = false := decide_eq_false (by omega)
      have c127 : ((n : Int) == 127) = true := by rw [h127]; rfl
      clear h127
      go_enter Tryz.func53, Tryz.ntmps53
      go_wp2_with fail
      refine (hdec _).mono ?_
      rintro e w1 ⟨rfl, D⟩
      go_wp2
      go_ret
      refine ⟨?_, D⟩
      rw [H.out]
      exact ret_str (by rw [← str_app, ← str_app] <;> rfl)
  · have H := Lib.hid (show entL n = [UInt8.ofNat n] by unfold entL; simp only [if_neg a0, if_neg a1, if_neg a2, if_neg a3, if_neg hc])
    have c32 : decide ((n : Int) < 32) = false := decide_eq_false (by unfold ctl at hc; simp at hc; omega)
    have c127 : ((n : Int) == 127) = false := by unfold ctl at hc; simp at hc; simp; omega
    clear a0 a1 a2 a3 hc
    go_enter Tryz.func53, Tryz.ntmps53
    go_wp2
    go_ret
    refine ⟨?_, below_one⟩
    rw [H.out]
    exact ret_str rfl

theorem escOneT' {st n : Nat} {f : Bool} (h : st ≠ 4) (h1 : tb st n f = true) (h2 : n ≠ 10 ∧ n ≠ 13 ∧ n ≠ 9) : escOne st n f = [92] ++ [UInt8.ofNat n] := by
  have : ltr n = n := by unfold ltr; simp [h2.1, h2.2.1, h2.2.2]
  rw [escOneT h h1, this]
theorem in1 (n : Nat) : inL n [61, 58, 35, 33] = (decide (n = 61) || decide (n = 58) || decide (n = 35) || decide (n = 33)) := by
  simp only [inL, List.any_cons, List.any_nil]
  simp [eq_comm, Bool.or_assoc]
theorem in3 (n : Nat) : inL n [123, 125] = (decide (n = 123) || decide (n = 125)) := by
  simp only [inL, List.any_cons, List.any_nil]
  simp [eq_comm]
set_option maxRecDepth 1000000 in
set_option maxHeartbeats 4000000 in
theorem one_st (st n : Nat) (f : Bool) (hn : n < 256) (hst : st = 1 ∨ st = 2 ∨ st = 3 ∨ st = 4) (w : World) :
    Calls Tryz.prog 33 #[.int .i64 st, .int .u8 n, .bool f] w (StrPostOf2 w (escOne st n f)) := by
  have k1 := fun w a => conv_new1 (P := Tryz.prog) Tryz.underlying57 Tryz.underlying5 Tryz.underlying9 w a
  by_cases h4 : st = 4
  · subst h4
    rw [escOne4]
    clear hst
    go_enter Tryz.func33, Tryz.ntmps33
    go_wp2_with fail
    refine (refEntity_any n hn _).mono ?_
    rintro e w1 ⟨rfl, D⟩
    go_wp2
    go_ret
    exact ⟨rfl, below_one_then D⟩
  by_cases a10 : n = 10
  · subst a10
    have H := Lib.hid (escOneT (st := st) (f := f) (n := 10) h4 (by unfold tb; simp))
    have q4 : ((st : Int) == 4) = false := by simp; omega
    clear h4 hst
    go_enter Tryz.func33, Tryz.ntmps33
    go_wp2
    go_ret
    refine ⟨?_, below_one⟩
    rw [H.out]
    exact ret_str rfl
  have i10 : ((n : Int) == 10) = false := by simp; omega
  by_cases a13 : n = 13
  · subst a13
    have H := Lib.hid (escOneT (st := st) (f := f) (n := 13) h4 (by unfold tb; simp))
    have q4 : ((st : Int) == 4) = false := by simp; omega
    clear h4 hst
    go_enter Tryz.func33, Tryz.ntmps33
    go_wp2
    go_ret
    refine ⟨?_, below_one⟩
    rw [H.out]
    exact ret_str rfl
  have i13 : ((n : Int) == 13) = false := by simp; omega
  by_cases a9 : n = 9
  · subst a9
    have H := Lib.hid (escOneT (st := st) (f := f) (n := 9) h4 (by unfold tb; simp))
    have q4 : ((st : Int) == 4) = false := by simp; omega
    clear h4 hst
    go_enter Tryz.func33, Tryz.ntmps33
    go_wp2
    go_ret
    refine ⟨?_, below_one⟩
    rw [H.out]
    exact ret_str rfl
  have i9 : ((n : Int) == 9) = false := by simp; omega
  by_cases a92 : n = 92
  · subst a92
    have H := Lib.hid (escOneT' (st := st) (f := f) (n := 92) h4 (by unfold tb; simp) (by decide))
    have q4 : ((st : Int) == 4) = false := by simp; omega
    clear h4 hst a10 a13 a9
    go_enter Tryz.func33, Tryz.ntmps33
    go_wp2
    go_ret
    refine ⟨?_, below_one⟩
    rw [H.out]
    exact ret_str (by rw [← str_app] <;> rfl)
  have i92 : ((n : Int) == 92) = false := by simp; omega
  rcases hst with rfl | rfl | rfl | rfl
  · by_cases hin : inL n [61, 58, 35, 33] = true
    · have H := Lib.hid (escOneT' (st := 1) (f := f) (n := n) h4 (by rw [in1] at hin; unfold tb; rw [hin]; simp) ⟨a10, a13, a9⟩)
      clear a10 a13 a9 a92 h4
      go_enter Tryz.func33, Tryz.ntmps33
      go_wp2_with fail
      refine (in_any n ⟨#[61, 58, 35, 33]⟩ (by decide) _).mono ?_
      rintro e w' ⟨rfl, rfl⟩
      rw [hin]
      go_wp2
      go_ret
      refine ⟨?_, below_one⟩
      rw [H.out]
      exact ret_str (by rw [← str_app] <;> rfl)
    · have hin' := Bool.eq_false_iff.2 hin
      clear hin
      have hin2 := hin'
      rw [in1] at hin2
      by_cases hf : f = true
      · subst hf
        by_cases a32 : n = 32
        · have H := Lib.hid (escOneT' (st := 1) (f := true) (n := n) h4 (by unfold tb; simp [a32]) ⟨a10, a13, a9⟩)
          have i32 : ((n : Int) == 32) = true := by rw [a32]; rfl
          clear a10 a13 a9 a92 h4 a32 hin2
          go_enter Tryz.func33, Tryz.ntmps33
          go_wp2_with fail
          refine (in_any n ⟨#[61, 58, 35, 33]⟩ (by decide) _).mono ?_
          rintro e w' ⟨rfl, rfl⟩
          rw [hin']
          go_wp2
          go_ret
          refine ⟨?_, below_one⟩
          rw [H.out]
          exact ret_str (by rw [← str_app] <;> rfl)
        · have i32 : ((n : Int) == 32) = false := by simp; omega
          have ht : tb 1 n true = false := by unfold tb; rw [hin2]; simp [a92, a10, a13, a9, a32]
          clear a10 a13 a9 a92 h4 a32 hin2
          by_cases hc : ctl n = true
          · have H := Lib.hid (escOneC (st := 1) (f := true) (by decide) ht hc)
            clear ht
            by_cases h32 : n < 32
            · have c32 : decide ((n : Int) < 32) = true := decide_eq_true (by omega)
              clear hc h32
              go_enter Tryz.func33, Tryz.ntmps33
              go_wp2_with fail
              refine (in_any n ⟨#[61, 58, 35, 33]⟩ (by decide) _).mono ?_
              rintro e w' ⟨rfl, rfl⟩
              rw [hin']
              go_wp2_with fail
              refine (hex_any n hn _).mono ?_
              rintro e w1 ⟨rfl, D⟩
              go_wp2
              go_ret
              refine ⟨?_, below_one_then D⟩
              rw [H.out]
              exact ret_str (by unfold hexL; rw [if_neg (by decide), List.append_assoc, ← str_app]; rfl)
            · have h127 : n = 127 := by unfold ctl at hc; simp at hc; omega
              have c32 : decide ((n : Int) < 32) = false := decide_eq_false (by omega)
              have c127 : ((n : Int) == 127) = true := by rw [h127]; rfl
              clear hc h32 h127
              go_enter Tryz.func33, Tryz.ntmps33
              go_wp2_with fail
              refine (in_any n ⟨#[61, 58, 35, 33]⟩ (by decide) _).mono ?_
              rintro e w' ⟨rfl, rfl⟩
              rw [hin']
              go_wp2_with fail
              refine (hex_any n hn _).mono ?_
              rintro e w1 ⟨rfl, D⟩
              go_wp2
              go_ret
              refine ⟨?_, below_one_then D⟩
              rw [H.out]
              exact ret_str (by unfold hexL; rw [if_neg (by decide), List.append_assoc, ← str_app]; rfl)
          · have H := Lib.hid (escOneP (st := 1) (f := true) (by decide) ht (Bool.eq_false_iff.2 hc))
            have c32 : decide ((n : Int) < 32) = false := decide_eq_false (by unfold ctl at hc; simp at hc; omega)
            have c127 : ((n : Int) == 127) = false := by unfold ctl at hc; simp at hc; simp; omega
            clear hc ht
            go_enter Tryz.func33, Tryz.ntmps33
            go_wp2_with fail
            refine (in_any n ⟨#[61, 58, 35, 33]⟩ (by decide) _).mono ?_
            rintro e w' ⟨rfl, rfl⟩
            rw [hin']
            go_wp2
            go_ret
            refine ⟨?_, below_one⟩
            rw [H.out]
            exact ret_str rfl
      · have hf' := Bool.eq_false_iff.2 hf
        subst hf'
        have ht : tb 1 n false = false := by unfold tb; rw [hin2]; simp [a92, a10, a13, a9]
        clear a10 a13 a9 a92 h4 hf hin2
        by_cases hc : ctl n = true
        · have H := Lib.hid (escOneC (st := 1) (f := false) (by decide) ht hc)
          clear ht
          by_cases h32 : n < 32
          · have c32 : decide ((n : Int) < 32) = true := decide_eq_true (by omega)
            clear hc h32
            go_enter Tryz.func33, Tryz.ntmps33
            go_wp2_with fail
            refine (in_any n ⟨#[61, 58, 35, 33]⟩ (by decide) _).mono ?_
            rintro e w' ⟨rfl, rfl⟩
            rw [hin']
            go_wp2_with fail
            refine (hex_any n hn _).mono ?_
            rintro e w1 ⟨rfl, D⟩
            go_wp2
            go_ret
            refine ⟨?_, below_one_then D⟩
            rw [H.out]
            exact ret_str (by unfold hexL; rw [if_neg (by decide), List.append_assoc, ← str_app]; rfl)
          · have h127 : n = 127 := by unfold ctl at hc; simp at hc; omega
            have c32 : decide ((n : Int) < 32) = false := decide_eq_false (by omega)
            have c127 : ((n : Int) == 127) = true := by rw [h127]; rfl
            clear hc h32 h127
            go_enter Tryz.func33, Tryz.ntmps33
            go_wp2_with fail
            refine (in_any n ⟨#[61, 58, 35, 33]⟩ (by decide) _).mono ?_
            rintro e w' ⟨rfl, rfl⟩
            rw [hin']
            go_wp2_with fail
            refine (hex_any n hn _).mono ?_
            rintro e w1 ⟨rfl, D⟩
            go_wp2
            go_ret
            refine ⟨?_, below_one_then D⟩
            rw [H.out]
            exact ret_str (by unfold hexL; rw [if_neg (by decide), List.append_assoc, ← str_app]; rfl)
        · have H := Lib.hid (escOneP (st := 1) (f := false) (by decide) ht (Bool.eq_false_iff.2 hc))
          have c32 : decide ((n : Int) < 32) = false := decide_eq_false (by unfold ctl at hc; simp at hc; omega)
          have c127 : ((n : Int) == 127) = false := by unfold ctl at hc; simp at hc; simp; omega
          clear hc ht
          go_enter Tryz.func33, Tryz.ntmps33
          go_wp2_with fail
          refine (in_any n ⟨#[61, 58, 35, 33]⟩ (by decide) _).mono ?_
          rintro e w' ⟨rfl, rfl⟩
          rw [hin']
          go_wp2
          go_ret
          refine ⟨?_, below_one⟩
          rw [H.out]
          exact ret_str rfl
  · by_cases a34 : n = 34
    · have H := Lib.hid (escOneT' (st := 2) (f := f) (n := n) h4 (by unfold tb; simp [a34]) ⟨a10, a13, a9⟩)
      have i34 : ((n : Int) == 34) = true := by rw [a34]; rfl
      clear a10 a13 a9 a92 h4 a34
      go_enter Tryz.func33, Tryz.ntmps33
      go_wp2
      go_ret
      refine ⟨?_, below_one⟩
      rw [H.out]
      exact ret_str (by rw [← str_app] <;> rfl)
    · have i34 : ((n : Int) == 34) = false := by simp; omega
      have ht : tb 2 n f = false := by unfold tb; simp [a92, a10, a13, a9, a34]
      clear a10 a13 a9 a92 h4 a34
      by_cases hc : ctl n = true
      · have H := Lib.hid (escOneC (st := 2) (f := f) (by decide) ht hc)
        clear ht
        by_cases h32 : n < 32
        · have c32 : decide ((n : Int) < 32) = true := decide_eq_true (by omega)
          clear hc h32
          go_enter Tryz.func33, Tryz.ntmps33
          go_wp2_with fail
          refine (hex_any n hn _).mono ?_
          rintro e w1 ⟨rfl, D⟩
          go_wp2
          go_ret
          refine ⟨?_, below_one_then D⟩
          rw [H.out]
          exact ret_str (by unfold hexL; rw [if_neg (by decide), List.append_assoc, ← str_app]; rfl)
        · have h127 : n = 127 := by unfold ctl at hc; simp at hc; omega
          have c32 : decide ((n : Int) < 32) = false := decide_eq_false (by omega)
          have c127 : ((n : Int) == 127) = true := by rw [h127]; rfl
          clear hc h32 h127
          go_enter Tryz.func33, Tryz.ntmps33
          go_wp2_with fail
          refine (hex_any n hn _).mono ?_
          rintro e w1 ⟨rfl, D⟩
          go_wp2
          go_ret
          refine ⟨?_, below_one_then D⟩
          rw [H.out]
          exact ret_str (by unfold hexL; rw [if_neg (by decide), List.append_assoc, ← str_app]; rfl)
      · have H := Lib.hid (escOneP (st := 2) (f := f) (by decide) ht (Bool.eq_false_iff.2 hc))
        have c32 : decide ((n : Int) < 32) = false := decide_eq_false (by unfold ctl at hc; simp at hc; omega)
        have c127 : ((n : Int) == 127) = false := by unfold ctl at hc; simp at hc; simp; omega
        clear hc ht
        go_enter Tryz.func33, Tryz.ntmps33
        go_wp2
        go_ret
        refine ⟨?_, below_one⟩
        rw [H.out]
        exact ret_str rfl
  · by_cases a34 : n = 34
    · have H := Lib.hid (escOneT' (st := 3) (f := f) (n := n) h4 (by unfold tb; simp [a34]) ⟨a10, a13, a9⟩)
      have i34 : ((n : Int) == 34) = true := by rw [a34]; rfl
      clear a10 a13 a9 a92 h4 a34
      go_enter Tryz.func33, Tryz.ntmps33
      go_wp2
      go_ret
      refine ⟨?_, below_one⟩
      rw [H.out]
      exact ret_str (by rw [← str_app] <;> rfl)
    · have i34 : ((n : Int) == 34) = false := by simp; omega
      by_cases hin : inL n [123, 125] = true
      · have H := Lib.hid (escOneT' (st := 3) (f := f) (n := n) h4 (by rw [in3] at hin; unfold tb; rw [hin]; simp) ⟨a10, a13, a9⟩)
        clear a10 a13 a9 a92 h4 a34
        go_enter Tryz.func33, Tryz.ntmps33
        go_wp2_with fail
        refine (in_any n ⟨#[123, 125]⟩ (by decide) _).mono ?_
        rintro e w' ⟨rfl, rfl⟩
        rw [hin]
        go_wp2
        go_ret
        refine ⟨?_, below_one⟩
        rw [H.out]
        exact ret_str (by rw [← str_app] <;> rfl)
      · have hin' := Bool.eq_false_iff.2 hin
        clear hin
        have hin2 := hin'
        rw [in3] at hin2
        have ht : tb 3 n f = false := by unfold tb; rw [hin2]; simp [a92, a10, a13, a9, a34]
        clear a10 a13 a9 a92 h4 a34 hin2
        by_cases hc : ctl n = true
        · have H := Lib.hid (escOneC (st := 3) (f := f) (by decide) ht hc)
          clear ht
          by_cases h32 : n < 32
          · have c32 : decide ((n : Int) < 32) = true := decide_eq_true (by omega)
            clear hc h32
            go_enter Tryz.func33, Tryz.ntmps33
            go_wp2_with fail
            refine (in_any n ⟨#[123, 125]⟩ (by decide) _).mono ?_
            rintro e w' ⟨rfl, rfl⟩
            rw [hin']
            go_wp2_with fail
            refine (hex_any n hn _).mono ?_
            rintro e w1 ⟨rfl, D⟩
            go_wp2
            go_ret
            refine ⟨?_, below_one_then D⟩
            rw [H.out]
            exact ret_str (by unfold hexL; rw [if_pos rfl, List.append_assoc, ← str_app]; rfl)
          · have h127 : n = 127 := by unfold ctl at hc; simp at hc; omega
            have c32 : decide ((n : Int) < 32) = false := decide_eq_false (by omega)
            have c127 : ((n : Int) == 127) = true := by rw [h127]; rfl
            clear hc h32 h127
            go_enter Tryz.func33, Tryz.ntmps33
            go_wp2_with fail
            refine (in_any n ⟨#[123, 125]⟩ (by decide) _).mono ?_
            rintro e w' ⟨rfl, rfl⟩
            rw [hin']
            go_wp2_with fail
            refine (hex_any n hn _).mono ?_
            rintro e w1 ⟨rfl, D⟩
            go_wp2
            go_ret
            refine ⟨?_, below_one_then D⟩
            rw [H.out]
            exact ret_str (by unfold hexL; rw [if_pos rfl, List.append_assoc, ← str_app]; rfl)
        · have H := Lib.hid (escOneP (st := 3) (f := f) (by decide) ht (Bool.eq_false_iff.2 hc))
          have c32 : decide ((n : Int) < 32) = false := decide_eq_false (by unfold ctl at hc; simp at hc; omega)
          have c127 : ((n : Int) == 127) = false := by unfold ctl at hc; simp at hc; simp; omega
          clear hc ht
          go_enter Tryz.func33, Tryz.ntmps33
          go_wp2_with fail
          refine (in_any n ⟨#[123, 125]⟩ (by decide) _).mono ?_
          rintro e w' ⟨rfl, rfl⟩
          rw [hin']
          go_wp2
          go_ret
          refine ⟨?_, below_one⟩
          rw [H.out]
          exact ret_str rfl
  · exact absurd rfl h4

def RefRel (st : Nat) (s : ByteArray) (w : World) (v i : Value) (wr : World) : Prop :=
  ∃ (k : Nat), i = .int .i64 k ∧ k ≤ s.size ∧ wr.ownsRow w.heap.size 5 1 v (escL st (s.data.toList.take k)).length (byteCells (escL st (s.data.toList.take k))) ∧ Below w.heap.size w wr
theorem ref_step {st : Nat} {s : ByteArray} {w wr w1 w2 : World} {k : Nat} {v v' vi : Value} {l : List UInt8} (hk : k < s.size) (hB : Below w.heap.size w wr) (hB1 : Below wr.heap.size wr w1)
    (hl : l = escOne st (s[k]'hk).toNat (decide (k = 0)))
    (hown : w1.ownsRow w.heap.size 5 1 v (escL st (s.data.toList.take k)).length (byteCells (escL st (s.data.toList.take k))))
    (h2 : w2.ownsRow w.heap.size 5 1 v' ((escL st (s.data.toList.take k)).length + (⟨l.toArray⟩ : ByteArray).size) (byteCells (escL st (s.data.toList.take k)) ++ Lib.strCells ⟨l.toArray⟩)) (hg : w1.grownBy w2 v.ownBlock)
    (hv : vi = .int .i64 (k + 1 : Nat)) : RefRel st s w v' vi w2 := by
  have hBw := hB.trans (hB1.mono hB.size)
  refine ⟨k + 1, hv, hk, ?_, hBw.grown hg hBw.size (fun j e => (hown.lt j e).1)⟩
  rw [escL_snoc st _ k (by simpa using hk), ← byt_getOf2 s k hk, ← hl, List.length_append]
  have e2 : byteCells (escL st (s.data.toList.take k) ++ l) = byteCells (escL st (s.data.toList.take k)) ++ Lib.strCells ⟨l.toArray⟩ := by unfold byteCells; rw [List.map_append]; rfl
  rw [e2]
  rw [size_mk] at h2
  exact h2

set_option maxRecDepth 1000000 in
set_option maxHeartbeats 400000 in
theorem refEscape_st (st : Nat) (s : ByteArray) (w : World) (hs : s.size ≤ 68719476736) (hst : st = 1 ∨ st = 2 ∨ st = 3 ∨ st = 4) :
    Calls Tryz.prog 20 #[.int .i64 st, .string s] w (StrPostOf2 w (escL st s.data.toList)) := by
  obtain ⟨i0, hi, hz0, hz1, hz2⟩ := info_parts Tryz.infoB
  have his := isSt_nat hst
  go_enter Tryz.func20, Tryz.ntmps20
  go_wp2_with fail
  refine (style_any _ _).mono ?_
  rintro e w' ⟨rfl, rfl⟩
  rw [his]
  clear his
  go_wp2
  go_loopw [5, 6] (fun v i wr => RefRel st s w v i wr) (fun _ i _ => s.size - (intOf i).toNat)
  case atStart => exact ⟨0, rfl, Nat.zero_le _, World.ownsRow_nil _ _ _ _, Below.refl _ _⟩
  case round =>
    obtain ⟨k, rfl, hk, hown, hB⟩ := hrel
    have hlen : (escL st (s.data.toList.take k)).length ≤ 6 * s.size := by
      have := escL_len st (s.data.toList.take k)
      rw [List.length_take] at this
      have h2 : s.data.toList.length = s.size := by simp
      omega
    by_cases hlt : k < s.size
    · have hn : (s[k]'hlt).toNat < 256 := (s[k]'hlt).toNat_lt
      have hf : ((k : Int) == 0) = decide (k = 0) := by
        cases k <;> simp
        omega
      have ho := escOne_len st (s[k]'hlt).toNat (decide (k = 0)) hn
      have h1 := fun W => one_st st (s[k]'hlt).toNat (decide (k = 0)) hn hst W
      obtain ⟨l, hl⟩ : ∃ l, l = escOne st (s[k]'hlt).toNat (decide (k = 0)) := ⟨_, rfl⟩
      rw [← hl] at ho h1
      have Hl := Lib.hid hl
      clear hl
      have hsz := size_mk l
      go_wp2_with fail
      refine (h1 _).mono ?_
      rintro e w1 ⟨rfl, hB1⟩
      have hown1 := own_belowU hown hB1
      go_wp2_with (at_builtin; go_loud (refine Lib.wpList_append_own_string _ rfl _ _ 57 9 rfl w.heap.size 5 i0 Tryz.underlying57 Tryz.underlying9 hi hz0 hz1 hz2 _ _ _ rfl hown1 ⟨l.toArray⟩ rfl ?c1 ?c2 ?c3 ?_))
      case c1 => unfold maxLen; omega
      case c2 => omega
      case c3 => have := hB.size; have := hB1.size; omega
      · intro v' w2 hown2 hgrow _
        have R := Lib.hid (fun vi => ref_step (vi := vi) hlt hB hB1 Hl.out hown1 hown2 hgrow)
        clear hown2 hgrow hown hown1 hB hB1 h1
        go_wp2
        go_roundw
        case rel => exact R.out _ (by go_num)
        case measure => simp [intOf]; omega
    · have hf := conv_own (P := Tryz.prog) Tryz.underlying57 Tryz.underlying5 Tryz.underlying9 hown
      go_wp2
      go_ret
      refine ⟨?_, hB⟩
      rw [List.take_of_length_le (by simp; omega)]
      exact ret_str rfl
end Go.Proofs.YtgogcekeklelmaaGreatDoor


/- Of the reference of layer 11: part, mark, word, IsWord, skip. -/
namespace Go.Proofs.YtgogcekeklelmaaGreatDoor
open Go.RowKit
set_option linter.unusedVariables false

theorem data_drop {s : ByteArray} {k : Nat} (h : k < s.size) : s.data.toList.drop k = (s[k]'h) :: s.data.toList.drop (k + 1) := by
  have h' : k < s.data.toList.length := by rw [len_data]; exact h
  rw [List.drop_eq_getElem_cons h']
  rfl
theorem data_end {s : ByteArray} {k : Nat} (h : s.size ≤ k) : s.data.toList.drop k = [] := List.drop_of_length_le (by rw [len_data]; exact h)
def partN (b : Nat) : Bool := (decide (97 ≤ b) && decide (b ≤ 122)) || (decide (65 ≤ b) && decide (b ≤ 90)) || (decide (48 ≤ b) && decide (b ≤ 57)) || decide (b = 45) || decide (b = 95)
def mkN (b : Nat) : Bool := decide (b = 123) || decide (b = 125) || decide (b = 59)
theorem isPart_n (c : UInt8) : isPart c = partN c.toNat := rfl
set_option maxRecDepth 1000000 in
theorem part_any (b : Nat) (hb : b < 256) (w : World) :
    Calls Tryz.prog 36 #[.int .u8 b] w fun e w' => e = .returned (.bool (partN b)) ∧ w' = w := by
  have hcase : (97 ≤ b ∧ b ≤ 122) ∨ (122 < b) ∨ (65 ≤ b ∧ b ≤ 90) ∨ (90 < b ∧ b < 95) ∨ (b = 95) ∨ (b = 96) ∨ (57 < b ∧ b < 65) ∨ (48 ≤ b ∧ b ≤ 57) ∨ (b < 45) ∨ (b = 45) ∨ (45 < b ∧ b < 48) := by omega
  rcases hcase with h | h | h | h | h | h | h | h | h | h | h
  · have HR : Hid (partN b = true) := Lib.hid (by unfold partN; simp; omega)
    have t1 : (97 : Int) ≤ (b : Int) := by omega
    have t2 : (b : Int) ≤ 122 := by omega
    clear h
    go_enter Tryz.func36, Tryz.ntmps36
    go_wp2
    go_ret
    exact ⟨by rw [HR.out]; rfl, rfl⟩
  · have HR : Hid (partN b = false) := Lib.hid (by unfold partN; simp; omega)
    have t1 : (97 : Int) ≤ (b : Int) := by omega
    have t2 : ¬ (b : Int) ≤ 122 := by omega
    have t3 : (65 : Int) ≤ (b : Int) := by omega
    have t4 : ¬ (b : Int) ≤ 90 := by omega
    have t5 : (48 : Int) ≤ (b : Int) := by omega
    have t6 : ¬ (b : Int) ≤ 57 := by omega
    have t7 : ((b : Int) == 45) = false := by rw [beq_eq_false_iff_ne]; omega
    have t8 : ((b : Int) == 95) = false := by rw [beq_eq_false_iff_ne]; omega
    clear h
    go_enter Tryz.func36, Tryz.ntmps36
    go_wp2
    go_ret
    exact ⟨by rw [HR.out]; rfl, rfl⟩
  · have HR : Hid (partN b = true) := Lib.hid (by unfold partN; simp; omega)
    have t1 : ¬ (97 : Int) ≤ (b : Int) := by omega
    have t3 : (65 : Int) ≤ (b : Int) := by omega
    have t4 : (b : Int) ≤ 90 := by omega
    clear h
    go_enter Tryz.func36, Tryz.ntmps36
    go_wp2
    go_ret
    exact ⟨by rw [HR.out]; rfl, rfl⟩
  · have HR : Hid (partN b = false) := Lib.hid (by unfold partN; simp; omega)
    have t1 : ¬ (97 : Int) ≤ (b : Int) := by omega
    have t3 : (65 : Int) ≤ (b : Int) := by omega
    have t4 : ¬ (b : Int) ≤ 90 := by omega
    have t5 : (48 : Int) ≤ (b : Int) := by omega
    have t6 : ¬ (b : Int) ≤ 57 := by omega
    have t7 : ((b : Int) == 45) = false := by rw [beq_eq_false_iff_ne]; omega
    have t8 : ((b : Int) == 95) = false := by rw [beq_eq_false_iff_ne]; omega
    clear h
    go_enter Tryz.func36, Tryz.ntmps36
    go_wp2
    go_ret
    exact ⟨by rw [HR.out]; rfl, rfl⟩
  · have HR : Hid (partN b = true) := Lib.hid (by unfold partN; simp; omega)
    have t1 : ¬ (97 : Int) ≤ (b : Int) := by omega
    have t3 : (65 : Int) ≤ (b : Int) := by omega
    have t4 : ¬ (b : Int) ≤ 90 := by omega
    have t5 : (48 : Int) ≤ (b : Int) := by omega
    have t6 : ¬ (b : Int) ≤ 57 := by omega
    have t7 : ((b : Int) == 45) = false := by rw [beq_eq_false_iff_ne]; omega
    have t8 : ((b : Int) == 95) = true := by rw [beq_iff_eq]; omega
    clear h
    go_enter Tryz.func36, Tryz.ntmps36
    go_wp2
    go_ret
    exact ⟨by rw [HR.out]; rfl, rfl⟩
  · have HR : Hid (partN b = false) := Lib.hid (by unfold partN; simp; omega)
    have t1 : ¬ (97 : Int) ≤ (b : Int) := by omega
    have t3 : (65 : Int) ≤ (b : Int) := by omega
    have t4 : ¬ (b : Int) ≤ 90 := by omega
    have t5 : (48 : Int) ≤ (b : Int) := by omega
    have t6 : ¬ (b : Int) ≤ 57 := by omega
    have t7 : ((b : Int) == 45) = false := by rw [beq_eq_false_iff_ne]; omega
    have t8 : ((b : Int) == 95) = false := by rw [beq_eq_false_iff_ne]; omega
    clear h
    go_enter Tryz.func36, Tryz.ntmps36
    go_wp2
    go_ret
    exact ⟨by rw [HR.out]; rfl, rfl⟩
  · have HR : Hid (partN b = false) := Lib.hid (by unfold partN; simp; omega)
    have t1 : ¬ (97 : Int) ≤ (b : Int) := by omega
    have t3 : ¬ (65 : Int) ≤ (b : Int) := by omega
    have t5 : (48 : Int) ≤ (b : Int) := by omega
    have t6 : ¬ (b : Int) ≤ 57 := by omega
    have t7 : ((b : Int) == 45) = false := by rw [beq_eq_false_iff_ne]; omega
    have t8 : ((b : Int) == 95) = false := by rw [beq_eq_false_iff_ne]; omega
    clear h
    go_enter Tryz.func36, Tryz.ntmps36
    go_wp2
    go_ret
    exact ⟨by rw [HR.out]; rfl, rfl⟩
  · have HR : Hid (partN b = true) := Lib.hid (by unfold partN; simp; omega)
    have t1 : ¬ (97 : Int) ≤ (b : Int) := by omega
    have t3 : ¬ (65 : Int) ≤ (b : Int) := by omega
    have t5 : (48 : Int) ≤ (b : Int) := by omega
    have t6 : (b : Int) ≤ 57 := by omega
    clear h
    go_enter Tryz.func36, Tryz.ntmps36
    go_wp2
    go_ret
    exact ⟨by rw [HR.out]; rfl, rfl⟩
  · have HR : Hid (partN b = false) := Lib.hid (by unfold partN; simp; omega)
    have t1 : ¬ (97 : Int) ≤ (b : Int) := by omega
    have t3 : ¬ (65 : Int) ≤ (b : Int) := by omega
    have t5 : ¬ (48 : Int) ≤ (b : Int) := by omega
    have t7 : ((b : Int) == 45) = false := by rw [beq_eq_false_iff_ne]; omega
    have t8 : ((b : Int) == 95) = false := by rw [beq_eq_false_iff_ne]; omega
    clear h
    go_enter Tryz.func36, Tryz.ntmps36
    go_wp2
    go_ret
    exact ⟨by rw [HR.out]; rfl, rfl⟩
  · have HR : Hid (partN b = true) := Lib.hid (by unfold partN; simp; omega)
    have t1 : ¬ (97 : Int) ≤ (b : Int) := by omega
    have t3 : ¬ (65 : Int) ≤ (b : Int) := by omega
    have t5 : ¬ (48 : Int) ≤ (b : Int) := by omega
    have t7 : ((b : Int) == 45) = true := by rw [beq_iff_eq]; omega
    have t8 : ((b : Int) == 95) = false := by rw [beq_eq_false_iff_ne]; omega
    clear h
    go_enter Tryz.func36, Tryz.ntmps36
    go_wp2
    go_ret
    exact ⟨by rw [HR.out]; rfl, rfl⟩
  · have HR : Hid (partN b = false) := Lib.hid (by unfold partN; simp; omega)
    have t1 : ¬ (97 : Int) ≤ (b : Int) := by omega
    have t3 : ¬ (65 : Int) ≤ (b : Int) := by omega
    have t5 : ¬ (48 : Int) ≤ (b : Int) := by omega
    have t7 : ((b : Int) == 45) = false := by rw [beq_eq_false_iff_ne]; omega
    have t8 : ((b : Int) == 95) = false := by rw [beq_eq_false_iff_ne]; omega
    clear h
    go_enter Tryz.func36, Tryz.ntmps36
    go_wp2
    go_ret
    exact ⟨by rw [HR.out]; rfl, rfl⟩
set_option maxRecDepth 1000000 in
theorem mark_any (b : Nat) (hb : b < 256) (w : World) :
    Calls Tryz.prog 19 #[.int .u8 b] w fun e w' => e = .returned (.bool (mkN b)) ∧ w' = w := by
  have hcase : b = 123 ∨ b = 125 ∨ b = 59 ∨ (b ≠ 123 ∧ b ≠ 125 ∧ b ≠ 59) := by omega
  rcases hcase with h | h | h | h
  · have HR : Hid (mkN b = true) := Lib.hid (by unfold mkN; simp; omega)
    have t123 : ((b : Int) == 123) = true := by rw [beq_iff_eq]; omega
    have t125 : ((b : Int) == 125) = false := by rw [beq_eq_false_iff_ne]; omega
    have t59 : ((b : Int) == 59) = false := by rw [beq_eq_false_iff_ne]; omega
    clear h
    go_enter Tryz.func19, Tryz.ntmps19
    go_wp2
    go_ret
    exact ⟨by rw [HR.out]; rfl, rfl⟩
  · have HR : Hid (mkN b = true) := Lib.hid (by unfold mkN; simp; omega)
    have t123 : ((b : Int) == 123) = false := by rw [beq_eq_false_iff_ne]; omega
    have t125 : ((b : Int) == 125) = true := by rw [beq_iff_eq]; omega
    have t59 : ((b : Int) == 59) = false := by rw [beq_eq_false_iff_ne]; omega
    clear h
    go_enter Tryz.func19, Tryz.ntmps19
    go_wp2
    go_ret
    exact ⟨by rw [HR.out]; rfl, rfl⟩
  · have HR : Hid (mkN b = true) := Lib.hid (by unfold mkN; simp; omega)
    have t123 : ((b : Int) == 123) = false := by rw [beq_eq_false_iff_ne]; omega
    have t125 : ((b : Int) == 125) = false := by rw [beq_eq_false_iff_ne]; omega
    have t59 : ((b : Int) == 59) = true := by rw [beq_iff_eq]; omega
    clear h
    go_enter Tryz.func19, Tryz.ntmps19
    go_wp2
    go_ret
    exact ⟨by rw [HR.out]; rfl, rfl⟩
  · have HR : Hid (mkN b = false) := Lib.hid (by unfold mkN; simp; omega)
    have t123 : ((b : Int) == 123) = false := by rw [beq_eq_false_iff_ne]; omega
    have t125 : ((b : Int) == 125) = false := by rw [beq_eq_false_iff_ne]; omega
    have t59 : ((b : Int) == 59) = false := by rw [beq_eq_false_iff_ne]; omega
    clear h
    go_enter Tryz.func19, Tryz.ntmps19
    go_wp2
    go_ret
    exact ⟨by rw [HR.out]; rfl, rfl⟩
def WordRel (s : ByteArray) (w : World) (v3 : Value) (wr : World) : Prop := ∃ k : Nat, v3 = .int .i64 k ∧ k ≤ s.size ∧ Hid (wordN s.data.toList = k + wordN (s.data.toList.drop k)) ∧ wr = w
theorem byte_lt (c : UInt8) : c.toNat < 256 := UInt8.toNat_lt c
set_option maxRecDepth 1000000 in
set_option maxHeartbeats 4000000 in
theorem word_any (s : ByteArray) (hs : s.size ≤ 9223372036854775807) (w : World) :
    Calls Tryz.prog 23 #[.string s] w fun e w' => e = .returned (.int .i64 (wordN s.data.toList : Nat)) ∧ w' = w := by
  go_enter Tryz.func23, Tryz.ntmps23
  go_wp2
  go_loopw [3] (fun v3 wr => WordRel s w v3 wr) (fun v3 _ => s.size - (intOf v3).toNat)
  case atStart => exact ⟨0, rfl, Nat.zero_le _, Lib.hid (by rw [List.drop_zero, Nat.zero_add]), rfl⟩
  case round =>
    rename World => wr
    obtain ⟨k, rfl, hk, HW, hwr⟩ := hrel
    obtain rfl : w = wr := hwr.symm
    clear hwr
    by_cases hlt : k < s.size
    · have HD := Lib.hid (data_drop hlt)
      have HP := Lib.hid (part_any (s[k]'hlt).toNat (byte_lt _) w)
      have HPE := Lib.hid (isPart_n (s[k]'hlt))
      obtain ⟨pb, hpb⟩ : ∃ b, partN (s[k]'hlt).toNat = b := ⟨_, rfl⟩
      rw [hpb] at HP HPE
      have h9 : (k : Int) < (s.size : Int) := by omega
      clear hpb
      cases pb with
      | true =>
        have HN : Hid (wordN s.data.toList = (k + 1) + wordN (s.data.toList.drop (k + 1))) := Lib.hid (by rw [HW.out, HD.out, wordN, if_pos HPE.out]; omega)
        clear HW HD
        go_wp2_with fail
        refine HP.out.mono ?_
        rintro e w2 ⟨rfl, hw2⟩
        obtain rfl := hw2.symm
        clear hw2
        go_wp2
        go_roundw
        case measure => simp [intOf]; omega
        case rel => exact ⟨k + 1, by go_num, by omega, HN, rfl⟩
      | false =>
        have HN : Hid (wordN s.data.toList = k) := Lib.hid (by rw [HW.out, HD.out, wordN, if_neg (by rw [HPE.out]; decide)]; rfl)
        clear HW HD
        go_wp2_with fail
        refine HP.out.mono ?_
        rintro e w2 ⟨rfl, hw2⟩
        obtain rfl := hw2.symm
        clear hw2
        go_wp2
        go_ret
        exact ⟨by rw [HN.out]; rfl, rfl⟩
    · have h9 : ¬ (k : Int) < (s.size : Int) := by omega
      have HN : Hid (wordN s.data.toList = k) := Lib.hid (by rw [HW.out, data_end (by omega)]; rfl)
      clear HW
      go_wp2
      go_ret
      exact ⟨by rw [HN.out]; rfl, rfl⟩
def isWordB (s : List UInt8) : Bool := decide (s ≠ []) && decide (wordN s = s.length) && decide (s.length ≤ 40)
set_option maxRecDepth 1000000 in
set_option maxHeartbeats 4000000 in
theorem isWord_any (s : ByteArray) (hs : s.size ≤ 9223372036854775807) (w : World) :
    Calls Tryz.prog 12 #[.string s] w fun e w' => e = .returned (.bool (isWordB s.data.toList)) ∧ w' = w := by
  have HW := Lib.hid (word_any s hs w)
  have HR : Hid (isWordB s.data.toList = (decide (s.data.toList ≠ []) && decide (wordN s.data.toList = s.size) && decide (s.size ≤ 40))) := Lib.hid (by unfold isWordB; rw [len_data])
  obtain ⟨n, hn⟩ : ∃ n, wordN s.data.toList = n := ⟨_, rfl⟩
  have hnl : n ≤ s.size := by rw [← hn, ← len_data]; exact wordN_le _
  rw [hn] at HW HR
  clear hn
  by_cases h0 : s.size = 0
  · have e0 : s.data.toList = [] := List.eq_nil_of_length_eq_zero (by rw [len_data]; exact h0)
    have HF : Hid (isWordB s.data.toList = false) := Lib.hid (by rw [HR.out, e0]; rfl)
    have e1 : s.toList = [] := by rw [ByteArray.toList_eq]; exact e0
    have z1 : (s.toList == ([] : List UInt8)) = true := by rw [e1]; rfl
    have z2 : s.toList.isEmpty = true := by rw [e1]; rfl
    clear h0 e0 e1 HR
    go_enter Tryz.func12, Tryz.ntmps12
    go_wp2
    go_ret
    exact ⟨by rw [HF.out]; rfl, rfl⟩
  · have e0 : s.data.toList ≠ [] := fun e => h0 (by rw [← len_data, e]; rfl)
    have z1 : (s.toList == ([] : List UInt8)) = false := by rw [beq_eq_false_iff_ne, ByteArray.toList_eq]; exact e0
    have z2 : s.toList.isEmpty = false := by rw [ByteArray.toList_eq]; cases h : s.data.toList with | nil => exact absurd h e0 | cons _ _ => rfl
    obtain ⟨q, hq⟩ : ∃ q, decide (n = s.size) = q := ⟨_, rfl⟩
    have z3 : ((n : Int) == (s.size : Int)) = q := by rw [← hq, Bool.eq_iff_iff, beq_iff_eq, decide_eq_true_eq]; omega
    obtain ⟨r, hr⟩ : ∃ q, decide (s.size ≤ 40) = q := ⟨_, rfl⟩
    have z4 : decide ((s.size : Int) ≤ 40) = r := by rw [← hr, decide_eq_decide]; omega
    have z5 := hr
    have HF : Hid (isWordB s.data.toList = (q && r)) := Lib.hid (by rw [HR.out, hq, hr, decide_eq_true e0, Bool.true_and])
    clear h0 e0 hq hr HR
    cases q with
    | false =>
      have HF : Hid (isWordB s.data.toList = false) := Lib.hid (by rw [HF.out]; rfl)
      go_enter Tryz.func12, Tryz.ntmps12
      go_wp2_with fail
      refine HW.out.mono ?_
      rintro e w2 ⟨rfl, hw2⟩
      obtain rfl := hw2.symm
      clear hw2
      go_wp2
      go_ret
      exact ⟨by rw [HF.out]; rfl, rfl⟩
    | true =>
      have HF : Hid (isWordB s.data.toList = r) := Lib.hid (by rw [HF.out]; rfl)
      go_enter Tryz.func12, Tryz.ntmps12
      go_wp2_with fail
      refine HW.out.mono ?_
      rintro e w2 ⟨rfl, hw2⟩
      obtain rfl := hw2.symm
      clear hw2
      go_wp2
      go_ret
      exact ⟨by rw [HF.out]; rfl, rfl⟩

end Go.Proofs.YtgogcekeklelmaaGreatDoor


/- Of the reference of layer 11: IsText, quoted. -/
namespace Go.Proofs.YtgogcekeklelmaaGreatDoor
open Go.RowKit
set_option linter.unusedVariables false

theorem cut_from (s : ByteArray) {a : Nat} (h : a ≤ s.size) {B : Int} (hB : B = (a : Int)) (wx : World) : (Instr.slice 9 (.string s) (some (.int .i64 B)) none none).run Tryz.prog wx = .ok (.string (s.extract a s.size)) wx := by
  subst hB
  have e := run_slice_string_from_if (P := Tryz.prog) (w := wx) 9 s .i64 (a : Int) Tryz.underlying9
  rw [e, if_pos ⟨by omega, by omega⟩, Int.toNat_natCast]
theorem cut_mid (s : ByteArray) {a b : Nat} (h : a ≤ b) (h2 : b ≤ s.size) {A B : Int} (hA : A = (a : Int)) (hB : B = (b : Int)) (wx : World) : (Instr.slice 9 (.string s) (some (.int .i64 A)) (some (.int .i64 B)) none).run Tryz.prog wx = .ok (.string (s.extract a b)) wx := by
  subst hA hB
  have e := run_slice_string (P := Tryz.prog) (w := wx) 9 s .i64 .i64 (a : Int) (b : Int) Tryz.underlying9 (by omega) (by omega) (by omega)
  rw [Int.toNat_natCast, Int.toNat_natCast] at e
  exact e
theorem ext_of (s : ByteArray) (a b : Nat) : s.extract a b = ofL ((s.data.toList.drop a).take (b - a)) := by
  have h : (s.extract a b).data.toList = (s.data.toList.drop a).take (b - a) := by simp [List.extract]
  rw [← h, of_data]
theorem ext_end (s : ByteArray) (a : Nat) : s.extract a s.size = ofL (s.data.toList.drop a) := by
  rw [ext_of, List.take_of_length_le (by rw [List.length_drop, len_data]; omega)]

/-! ### IsText -/
def isTextB (s : List UInt8) : Bool := decide (s.length ≤ 400) && vld s
set_option maxRecDepth 1000000 in
set_option maxHeartbeats 4000000 in
theorem isText_any (s : ByteArray) (hs : s.size ≤ 9223372036854775807) (w : World) :
    Calls Tryz.prog 14 #[.string s] w fun e w' => e = .returned (.bool (isTextB s.data.toList)) ∧ Below w.heap.size w w' := by
  have HR : Hid (isTextB s.data.toList = (decide (s.size ≤ 400) && vld s.data.toList)) := Lib.hid (by unfold isTextB; rw [len_data])
  by_cases h : s.size ≤ 400
  · have HV := Lib.hid (refValid_any s w (by omega))
    have HF : Hid (isTextB s.data.toList = vld s.data.toList) := Lib.hid (by rw [HR.out, decide_eq_true h, Bool.true_and])
    have z : (s.size : Int) ≤ 400 := by omega
    clear h HR
    go_enter Tryz.func14, Tryz.ntmps14
    go_wp2_with fail
    refine HV.out.mono ?_
    rintro e w2 ⟨rfl, b2⟩
    have B2 := Lib.hid b2
    clear b2
    go_wp2
    go_ret
    exact ⟨by rw [HF.out]; rfl, B2.out⟩
  · have HF : Hid (isTextB s.data.toList = false) := Lib.hid (by rw [HR.out, decide_eq_false h, Bool.false_and])
    have z : ¬ (s.size : Int) ≤ 400 := by omega
    clear h HR
    go_enter Tryz.func14, Tryz.ntmps14
    go_wp2
    go_ret
    exact ⟨by rw [HF.out]; rfl, Below.refl _ _⟩

/-! ### quoted -/
theorem un_le (st : Nat) : ∀ (n : Nat) (l : List UInt8), l.length ≤ n → (un st l).2.1.length ≤ 4 * l.length ∧ (un st l).2.2 ≤ l.length
  | n, [], _ => by rw [un_nil]; exact ⟨Nat.le_refl _, Nat.le_refl _⟩
  | 0, c :: l, h => by simp at h
  | n + 1, c :: l, hl => by
    have hne : (c :: l) ≠ [] := by simp
    by_cases h1 : (rd st (c :: l)).1 = []
    · rw [un_stop hne h1]
      exact ⟨Nat.zero_le _, Nat.zero_le _⟩
    · have hok := rd_ok st (c :: l)
      have hp := hok.2.2 h1
      have h5 : ((c :: l).drop (rd st (c :: l)).2).length = (c :: l).length - (rd st (c :: l)).2 := List.length_drop
      have hcl : (c :: l).length = l.length + 1 := rfl
      have ih := un_le st n ((c :: l).drop (rd st (c :: l)).2) (by rw [h5]; omega)
      constructor
      · rw [un_go hne h1]
        unfold jn
        split
        · show ((rd st (c :: l)).1 ++ _).length ≤ _
          rw [List.length_append]
          have := hok.1
          have := ih.1
          rw [h5] at this
          omega
        · exact Nat.zero_le _
      · cases hb : (un st (c :: l)).1 with
        | false => exact Nat.le_of_lt (un_lt (c :: l).length (c :: l) (Nat.le_refl _) hb)
        | true =>
          rw [un_go hne h1] at hb ⊢
          unfold jn at hb ⊢
          split
          · exact Nat.zero_le _
          · rename_i h3
            rw [if_neg h3] at hb
            cases hb
def put3 (W : World) (B : Nat) (a b c : Value) : World := ((W.setCell ⟨B, 0, none⟩ a).setCell ⟨B, 1, none⟩ b).setCell ⟨B, 2, none⟩ c
theorem put3_blk {W : World} {B n : Nat} {t : TypeId} {a b c a' b' c' : Value} (h : Blk B t #[a, b, c] W) (hn : n ≤ B) : Blk B t #[a', b', c'] (put3 W B a' b' c') ∧ Below n W (put3 W B a' b' c') := by
  refine ⟨?_, (((Below.refl n W).setCell hn a').setCell hn b').setCell hn c'⟩
  exact ((h.put 0 a').put 1 b').put 2 c'
end Go.Proofs.YtgogcekeklelmaaGreatDoor


/- Of the reference of layer 11: Tokens. -/
namespace Go.Proofs.YtgogcekeklelmaaGreatDoor
open Go.RowKit
set_option linter.unusedVariables false

def encTk (t : Tok) : List Value := [.int .i64 (t.kd : Int), .string (ofL t.tx), .int .i64 (t.at_ : Int)]
theorem encTk_len (t : Tok) : (encTk t).length = 3 := rfl
theorem info_partsT {P : Program} {t : TypeId} {z : Value} {n b : Nat} (h : (P.info? t).map (fun i => (i.zero, i.size, i.bytes)) = some (some z, n, b)) : ∃ i, P.info? t = some i ∧ i.zero = some z ∧ i.size = n ∧ i.bytes = b := by
  cases hi : P.info? t with
  | none => rw [hi] at h; cases h
  | some i =>
    rw [hi] at h
    simp at h
    exact ⟨i, rfl, h.1, h.2.1, h.2.2⟩
theorem quoR_err {l : List UInt8} {d e : Nat} (h : quoR l = .bad d e) : 0 < e := by
  unfold quoR at h
  split at h
  · injection h with e1 e2; omega
  · split at h
    · injection h with e1 e2; omega
    · split at h
      · injection h with e1 e2; omega
      · split at h
        · injection h with e1 e2; omega
        · cases h
theorem alloc_sz (x : World) (o : Obj) : (x.alloc o).heap.size = x.heap.size + 1 := by simp
theorem tk_next {s : List UInt8} {T : (Nat × Nat) ⊕ List Tok} {o kd n : Nat} {tx : List UInt8} {acc : List Tok} (ho : o < s.length) (hz : skN false (s.drop o) = 0) (hT : T = catT acc (toksN o (s.drop o))) (h : oneR (s.drop o) = .tok kd tx n) :
    o + n + skN false (s.drop (o + n)) ≤ s.length ∧ skN false (s.drop (o + n + skN false (s.drop (o + n)))) = 0 ∧ T = catT (acc ++ [⟨kd, tx, o⟩]) (toksN (o + n + skN false (s.drop (o + n))) (s.drop (o + n + skN false (s.drop (o + n))))) ∧ 0 < n ∧ o + n ≤ s.length := by
  have h1 := (oneR_ok h).2
  rw [List.length_drop] at h1
  have h2 := skN_le false (s.drop (o + n))
  rw [List.length_drop] at h2
  have hr : s.drop o ≠ [] := by
    intro e
    have := congrArg List.length e
    rw [List.length_drop] at this
    simp at this
    omega
  refine ⟨by omega, ?_, ?_, h1.1, by omega⟩
  · rw [← List.drop_drop]
    exact sk_idem _
  · rw [hT, at_tok hz h hr, catT_cat, List.drop_drop, List.drop_drop]
end Go.Proofs.YtgogcekeklelmaaGreatDoor


/- Of the reference of layer 11: tokens with any kinds and offsets; Same. -/
namespace Go.Proofs.YtgogcekeklelmaaGreatDoor
open Go.RowKit
set_option linter.unusedVariables false

structure TkZ where
  kd : Int
  tx : List UInt8
  at_ : Int
def encZ (t : TkZ) : List Value := [.int .i64 t.kd, .string (ofL t.tx), .int .i64 t.at_]
theorem encZ_len (t : TkZ) : (encZ t).length = 3 := rfl
theorem encZ_one (t : TkZ) : ∀ u ∈ encZ t, u.oneCell' = true := by
  intro u hu
  simp [encZ] at hu
  rcases hu with rfl | rfl | rfl <;> rfl
def Tok.z (t : Tok) : TkZ := ⟨t.kd, t.tx, t.at_⟩
theorem rdZ {w : World} {v : Value} {l : List Tok} (h : Rd 3 encTk w v l) : Rd 3 encZ w v (l.map Tok.z) := by
  obtain ⟨⟨a, c, rfl, h1, h2, hx⟩, hn⟩ := h
  refine ⟨⟨a, c, by rw [List.length_map], by rw [List.length_map]; exact h1, h2, fun hl => ?_⟩, hn⟩
  obtain ⟨b, off, ha, hb, hc⟩ := hx (by intro e; rw [e] at hl; exact hl rfl)
  refine ⟨b, off, ha, hb, fun i x hi j u hu => ?_⟩
  rw [List.getElem?_map] at hi
  cases hli : l[i]? with
  | none => rw [hli] at hi; cases hi
  | some t =>
    rw [hli] at hi
    injection hi with hi
    subst hi
    exact hc i t hli j u hu
theorem Rd.tkZ {w : World} {a : Option Addr} {n c : Nat} {l : List TkZ} (h : Rd 3 encZ w (.slice a n c) l) (i : Nat) (hi : i < l.length) : ∃ b off, a = some ⟨b, off, none⟩ ∧ b < w.heap.size ∧ w.cell? ⟨b, off + i * 3, none⟩ = some (.int .i64 (l[i]'hi).kd) ∧ w.cell? ⟨b, off + i * 3 + 1, none⟩ = some (.string (ofL (l[i]'hi).tx)) ∧ w.cell? ⟨b, off + i * 3 + 2, none⟩ = some (.int .i64 (l[i]'hi).at_) := by
  obtain ⟨b, off, e, hb, hc⟩ := h.some_ i hi
  exact ⟨b, off, e, hb, hc 0 _ rfl, hc 1 _ rfl, hc 2 _ rfl⟩
end Go.Proofs.YtgogcekeklelmaaGreatDoor


/- Of the reference of layer 11: Spell. -/
namespace Go.Proofs.YtgogcekeklelmaaGreatDoor
open Go.RowKit
set_option linter.unusedVariables false

def isMk1 : List UInt8 → Bool
  | [c] => isMk c
  | _ => false
def okZ (t : TkZ) : Bool := if t.kd = 1 then isWordB t.tx else if t.kd = 3 then isMk1 t.tx else if t.kd = 2 then isTextB t.tx else false
def ktZ (t : TkZ) : KT := (t.kd.toNat, t.tx)
/-- The line of tokens, and whether there is one. -/
def spellR (l : List TkZ) : List UInt8 × Nat := if l.all okZ = true then (lineS (l.map ktZ), 0) else ([], 1)
theorem spR_len (k : Nat) (t : List UInt8) : (spR k t).length ≤ 6 * t.length + 2 := by
  unfold spR
  have := escL_len 2 t
  split
  · simp only [List.length_cons, List.length_append, List.length_nil]; omega
  · omega
theorem lineF_len : ∀ l : List KT, (∀ t ∈ l, t.2.length ≤ 500) → (lineF l).length ≤ 3003 * l.length
  | [], _ => Nat.le_refl _
  | t :: l, h => by
    have ih := lineF_len l (fun x hx => h x (by simp [hx]))
    have h1 := h t (by simp)
    have h2 := spR_len t.1 t.2
    have e : lineF (t :: l) = (32 :: spR t.1 t.2) ++ lineF l := rfl
    rw [e, List.length_append, List.length_cons, List.length_cons]
    omega
theorem lineS_len (l : List KT) (h : ∀ t ∈ l, t.2.length ≤ 500) : (lineS l).length ≤ 3003 * l.length := by
  unfold lineS
  rw [List.length_drop]
  have := lineF_len l h
  omega
theorem all_bad {l : List TkZ} {k : Nat} (h : k < l.length) (hb : okZ (l[k]'h) = false) : spellR l = ([], 1) := by
  unfold spellR
  rw [if_neg]
  intro e
  have := List.all_eq_true.1 e _ (List.getElem_mem h)
  rw [hb] at this
  cases this
theorem all_snoc {l : List TkZ} {k : Nat} (h : k < l.length) (ha : (l.take k).all okZ = true) (hb : okZ (l[k]'h) = true) : (l.take (k + 1)).all okZ = true := by
  rw [List.take_succ_eq_append_getElem h, List.all_append, ha, List.all_cons, hb]
  rfl
theorem line_snoc {l : List TkZ} {k : Nat} (h : k < l.length) : lineS ((l.take (k + 1)).map ktZ) = (if k = 0 then [] else lineS ((l.take k).map ktZ) ++ [32]) ++ spR (l[k]'h).kd.toNat (l[k]'h).tx := by
  rw [List.take_succ_eq_append_getElem h, List.map_append, List.map_singleton, lineS_snoc]
  congr 1
  by_cases h0 : k = 0
  · rw [if_pos h0, if_pos (by subst h0; rfl)]
  · rw [if_neg h0, if_neg]
    intro e
    have := congrArg List.length e
    rw [List.length_map, List.length_take, List.length_nil] at this
    omega
theorem of_ext {a b : ByteArray} (h : a.data.toList = b.data.toList) : a = b := by rw [← of_data a, ← of_data b, h]
theorem add_of (x y : List UInt8) : ofL x ++ ofL y = ofL (x ++ y) := of_ext (by simp [ofL_list])
def SpI (l : List TkZ) (w : World) (v4 v5 : Value) (wr : World) : Prop := ∃ k : Nat, k ≤ l.length ∧ v5 = .int .i64 k ∧ v4 = .string (ofL (lineS ((l.take k).map ktZ))) ∧ (l.take k).all okZ = true ∧ Below w.heap.size w wr
theorem mk1_data {X : ByteArray} (h : X.size = 1) : isMk1 X.data.toList = mkN (X[0]'(by omega)).toNat := by
  have h1 : X.data.toList = [X[0]'(by omega)] := by
    have e := data_drop (s := X) (k := 0) (by omega)
    rw [List.drop_zero, data_end (by omega)] at e
    exact e
  rw [h1]
  rfl
theorem mk1_no {X : ByteArray} (h : X.size ≠ 1) : isMk1 X.data.toList = false := by
  have h2 := len_data X
  match X.data.toList, h2 with
  | [], _ => rfl
  | [c], h2 => exact absurd (by rw [← h2]; rfl) h
  | a :: b :: l, _ => rfl
set_option maxRecDepth 1000000 in
set_option maxHeartbeats 32000000 in
theorem refSpell_any (v : Value) (l : List TkZ) (w : World) (hv : Rd 3 encZ w v l) (hl : l.length ≤ 2000) (ht : ∀ t ∈ l, t.tx.length ≤ 500) :
    Calls Tryz.prog 8 #[v] w fun e w' => e = .returned (.tuple #[.string (ofL (spellR l).1), .int .i64 ((spellR l).2 : Int)]) ∧ Below w.heap.size w w' := by
  obtain ⟨a1, c1, rfl, q1, q2⟩ := hv.slice
  have HV := Lib.hid hv
  have HT := Lib.hid ht
  have HL := Lib.hid hl
  obtain ⟨S, hS⟩ : ∃ S, spellR l = S := ⟨_, rfl⟩
  have HS := Lib.hid hS
  rw [hS]
  have hlb : (l.length : Int) ≤ 2000 := by omega
  clear hv ht hl hS q1 q2
  go_enter Tryz.func8, Tryz.ntmps8
  go_wp2
  go_loopw [4, 5] (fun v4 v5 wr => SpI l w v4 v5 wr) (fun _ v5 _ => l.length - (intOf v5).toNat)
  case atStart => exact ⟨0, Nat.zero_le _, rfl, rfl, rfl, Below.refl _ _⟩
  case round =>
    obtain ⟨k, hk, rfl, rfl, hal, hb⟩ := hrel
    have HBW := Lib.hid hb
    have HAL := Lib.hid hal
    clear hb hal
    by_cases hlt : k < l.length
    · obtain ⟨b1, o1, rfl, g1, x0, x1, x2⟩ := (HV.out.below HBW.out).tkZ k hlt
      have h9 : (k : Int) < (l.length : Int) := by omega
      have h4 : (0 : Int) ≤ (k : Int) := by omega
      have HLN := Lib.hid (line_snoc hlt)
      have HGO := Lib.hid (fun h => all_snoc hlt HAL.out h)
      have HBAD := Lib.hid (fun h => all_bad hlt h)
      have HTX := HT.out (l[k]'hlt) (List.getElem_mem hlt)
      have hll := lineS_len ((l.take k).map ktZ) (by
        intro t h
        obtain ⟨z, hz, rfl⟩ := List.mem_map.1 h
        exact HT.out z (List.mem_of_mem_take hz))
      rw [List.length_map, List.length_take] at hll
      have hLL : (ofL (lineS ((l.take k).map ktZ))).size ≤ 10000000 := by rw [ofL_size]; have := HL.out; omega
      obtain ⟨L, hL⟩ : ∃ L, lineS ((l.take k).map ktZ) = L := ⟨_, rfl⟩
      rw [hL] at HLN hLL ⊢
      obtain ⟨x, hx⟩ : ∃ x, l[k]'hlt = x := ⟨_, rfl⟩
      rw [hx] at HLN HGO HBAD HTX x0 x1 x2
      obtain ⟨kd, tx, ta⟩ := x
      dsimp only at HLN HTX x0 x1 x2
      have HES := Lib.hid (fun w => refEscape_st 2 (ofL tx) w (by rw [ofL_size]; omega) (.inr (.inl rfl)))
      rw [show (ofL tx).data.toList = tx from rfl] at HES
      have hEL : (ofL (escL 2 tx)).size ≤ 3000 := by rw [ofL_size]; have := escL_len 2 tx; omega
      have HE1 : Hid (∀ E, ofL (escL 2 tx) = E → (⟨#[34]⟩ : ByteArray) ++ E ++ ⟨#[34]⟩ = ofL (34 :: (escL 2 tx ++ [34]))) := Lib.hid (fun E h => by rw [← h]; show ofL [34] ++ _ ++ ofL [34] = _; rw [add_of, add_of]; rfl)
      have hXL : (ofL tx).size ≤ 500 := by rw [ofL_size]; exact HTX
      have HWD := Lib.hid (fun w => isWord_any (ofL tx) (by omega) w)
      have HTE := Lib.hid (fun w => isText_any (ofL tx) (by omega) w)
      have HMK := Lib.hid (fun (h : 0 < (ofL tx).size) w => mark_any ((ofL tx)[0]'h).toNat (byte_lt _) w)
      have HM1 := Lib.hid (fun h => mk1_data (X := ofL tx) h)
      have HM0 := Lib.hid (fun h => mk1_no (X := ofL tx) h)
      rw [show (ofL tx).data.toList = tx from rfl] at HWD HTE HM1 HM0
      have HKB := Lib.hid (Blk.new wr 39 #[.int .i64 kd, .string (ofL tx), .int .i64 ta])
      have HWB : Hid (Below w.heap.size w (wr.alloc (.cells #[.int .i64 kd, .string (ofL tx), .int .i64 ta] 39))) := Lib.hid (HBW.out.alloc HBW.out.size _)
      have HOK : Hid (okZ ⟨kd, tx, ta⟩ = if kd = 1 then isWordB tx else if kd = 3 then isMk1 tx else if kd = 2 then isTextB tx else false) := Lib.hid rfl
      have HPT : Hid (∀ n : Int, n ≠ 2 → spR n.toNat tx = tx) := Lib.hid (fun n h => by unfold spR; rw [if_neg (by omega)])
      have HP2 : Hid (spR 2 tx = 34 :: (escL 2 tx ++ [34])) := Lib.hid rfl
      have HOFX : Hid (∀ y, ofL L ++ ofL y = ofL (L ++ y)) := Lib.hid (fun y => add_of L y)
      have HOFS : Hid (ofL L ++ (⟨#[32]⟩ : ByteArray) = ofL (L ++ [32])) := Lib.hid (add_of L [32])
      have HL0 : Hid (k = 0 → L = []) := Lib.hid (fun h => by rw [← hL, h]; rfl)
      obtain ⟨E, hE⟩ : ∃ E, ofL (escL 2 tx) = E := ⟨_, rfl⟩
      have HE2 := Lib.hid (HE1.out E hE)
      rw [hE] at hEL
      have HEE := Lib.hid hE
      obtain ⟨X, hX⟩ : ∃ X, ofL tx = X := ⟨_, rfl⟩
      have HXX := Lib.hid hX
      rw [hX] at x1 HES hXL HWD HTE HMK HM1 HM0 HKB HWB
      obtain ⟨Y, hY⟩ : ∃ Y, ofL L = Y := ⟨_, rfl⟩
      have HYY := Lib.hid hY
      rw [hY] at hLL HOFX HOFS ⊢
      clear hL hx hX hY hE HTX g1 hll HE1
      have hsep : (k = 0) ∨ (0 < k) := by omega
      rcases hsep with h0 | h0
      · have HJX : Hid (∀ y, (∀ n : Nat, n = kd.toNat → spR n tx = y) → Y ++ ofL y = ofL (lineS ((l.take (k + 1)).map ktZ))) := Lib.hid (fun y h => by rw [HOFX.out, HLN.out, h _ rfl, if_pos h0, HL0.out h0])
        have g3 : ¬ (0 : Int) < (k : Int) := by omega
        clear h0 HLN HL0 HOFS HOFX
        by_cases c1 : kd = 1
        · subst c1
          obtain ⟨b, hb⟩ : ∃ b, isWordB tx = b := ⟨_, rfl⟩
          rw [hb] at HWD
          have HJ : Hid (Y ++ X = ofL (lineS ((l.take (k + 1)).map ktZ))) := Lib.hid (by rw [← HXX.out]; exact HJX.out tx (fun n h => by rw [h]; exact HPT.out 1 (by decide)))
          cases b with
          | false =>
            have HX : Hid (S = ([], 1)) := Lib.hid (by rw [← HS.out]; exact HBAD.out (by rw [HOK.out, if_pos rfl, hb]))
            clear hb HTE HMK HM1 HM0 HES HS HGO HBAD HOK HJ
            go_wp2_with fail
            refine (HWD.out _).mono ?_
            rintro e w2 ⟨rfl, hw2⟩
            obtain rfl := hw2.symm
            clear hw2
            go_wp2
            go_ret2
            exact ⟨by rw [HX.out]; rfl, HWB.out⟩
          | true =>
            have HG : Hid ((l.take (k + 1)).all okZ = true) := Lib.hid (HGO.out (by rw [HOK.out, if_pos rfl, hb]))
            clear hb HTE HMK HM1 HM0 HES HGO HBAD HOK
            go_wp2_with fail
            refine (HWD.out _).mono ?_
            rintro e w2 ⟨rfl, hw2⟩
            obtain rfl := hw2.symm
            clear hw2
            go_wp2
            go_roundw
            case measure => simp [intOf]; omega
            case rel => exact ⟨k + 1, by omega, by go_num, by rw [HJ.out], HG.out, HWB.out⟩
        by_cases c3 : kd = 3
        · subst c3
          have HJ : Hid (Y ++ X = ofL (lineS ((l.take (k + 1)).map ktZ))) := Lib.hid (by rw [← HXX.out]; exact HJX.out tx (fun n h => by rw [h]; exact HPT.out 3 (by decide)))
          by_cases hz : X.size = 1
          · have z1 : ((X.size : Int) == 1) = true := by rw [beq_iff_eq]; omega
            have z1' : (X.size == 1) = true := by rw [beq_iff_eq]; omega
            have z0 : (0 : Int) < (X.size : Int) := by omega
            have HM := HM1.out hz
            have hz0 : 0 < X.size := by omega
            have HMM := Lib.hid (fun w => HMK.out hz0 w)
            obtain ⟨b, hb⟩ : ∃ b, mkN (X[0]'hz0).toNat = b := ⟨_, rfl⟩
            rw [hb] at HM HMM
            cases b with
            | false =>
              have HX : Hid (S = ([], 1)) := Lib.hid (by rw [← HS.out]; exact HBAD.out (by rw [HOK.out, if_neg (by decide), if_pos rfl, HM]))
              clear hb hz HM HTE HMK HM1 HM0 HES HS HGO HBAD HOK HJ HWD
              go_wp2_with fail
              refine (HMM.out _).mono ?_
              rintro e w2 ⟨rfl, hw2⟩
              obtain rfl := hw2.symm
              clear hw2
              go_wp2
              go_ret2
              exact ⟨by rw [HX.out]; rfl, HWB.out⟩
            | true =>
              have HG : Hid ((l.take (k + 1)).all okZ = true) := Lib.hid (HGO.out (by rw [HOK.out, if_neg (by decide), if_pos rfl, HM]))
              clear hb hz HM HTE HMK HM1 HM0 HES HGO HBAD HOK HWD
              go_wp2_with fail
              refine (HMM.out _).mono ?_
              rintro e w2 ⟨rfl, hw2⟩
              obtain rfl := hw2.symm
              clear hw2
              go_wp2
              go_roundw
              case measure => simp [intOf]; omega
              case rel => exact ⟨k + 1, by omega, by go_num, by rw [HJ.out], HG.out, HWB.out⟩
          · have z1 : ((X.size : Int) == 1) = false := by rw [beq_eq_false_iff_ne]; omega
            have z1' : (X.size == 1) = false := by rw [beq_eq_false_iff_ne]; omega
            have HX : Hid (S = ([], 1)) := Lib.hid (by rw [← HS.out]; exact HBAD.out (by rw [HOK.out, if_neg (by decide), if_pos rfl, HM0.out hz]))
            clear hz HTE HMK HM1 HM0 HES HS HGO HBAD HOK HJ HWD
            go_wp2
            go_ret2
            exact ⟨by rw [HX.out]; rfl, HWB.out⟩
        by_cases c2 : kd = 2
        · subst c2
          have HJ : Hid (Y ++ (⟨#[34]⟩ ++ E ++ ⟨#[34]⟩) = ofL (lineS ((l.take (k + 1)).map ktZ))) := Lib.hid (by rw [HE2.out]; exact HJX.out _ (fun n h => by rw [h]; exact HP2.out))
          obtain ⟨b, hb⟩ : ∃ b, isTextB tx = b := ⟨_, rfl⟩
          rw [hb] at HTE
          cases b with
          | false =>
            have HX : Hid (S = ([], 1)) := Lib.hid (by rw [← HS.out]; exact HBAD.out (by rw [HOK.out, if_neg (by decide), if_neg (by decide), if_pos rfl, hb]))
            clear hb HMK HM1 HM0 HES HS HGO HBAD HOK HJ HWD
            go_wp2_with fail
            refine (HTE.out _).mono ?_
            rintro e w2 ⟨rfl, b2⟩
            have HB2 := Lib.hid (st HWB.out b2 HWB.out.size)
            clear b2
            go_wp2
            go_ret2
            exact ⟨by rw [HX.out]; rfl, HB2.out⟩
          | true =>
            have HG : Hid ((l.take (k + 1)).all okZ = true) := Lib.hid (HGO.out (by rw [HOK.out, if_neg (by decide), if_neg (by decide), if_pos rfl, hb]))
            clear hb HMK HM1 HM0 HGO HBAD HOK HWD
            go_wp2_with fail
            refine (HTE.out _).mono ?_
            rintro e w2 ⟨rfl, b2⟩
            have HB2 := Lib.hid (st HWB.out b2 HWB.out.size)
            have HK2 := Lib.hid (Blk.below HKB.out b2)
            have y1 : w2.cell? ⟨wr.heap.size, 1, none⟩ = some (.string X) := HK2.out.cell 1
            clear b2
            go_wp2_with fail
            refine (HES.out _).mono ?_
            rintro e w3 ⟨he, b3⟩
            rw [show (⟨(escL 2 tx).toArray⟩ : ByteArray) = E from HEE.out] at he
            subst he
            have HB3 := Lib.hid (st HB2.out b3 HB2.out.size)
            clear b3
            go_wp2
            go_roundw
            case measure => simp [intOf]; omega
            case rel => exact ⟨k + 1, by omega, by go_num, by rw [HJ.out], HG.out, HB3.out⟩
        have e1 : (kd == 1) = false := by rw [beq_eq_false_iff_ne]; exact c1
        have e2 : (kd == 2) = false := by rw [beq_eq_false_iff_ne]; exact c2
        have e3 : (kd == 3) = false := by rw [beq_eq_false_iff_ne]; exact c3
        have HX : Hid (S = ([], 1)) := Lib.hid (by rw [← HS.out]; exact HBAD.out (by rw [HOK.out, if_neg c1, if_neg c3, if_neg c2]))
        clear c1 c2 c3 HTE HMK HM1 HM0 HES HS HGO HBAD HOK HWD
        go_wp2
        go_ret2
        exact ⟨by rw [HX.out]; rfl, HWB.out⟩
      · have HJX : Hid (∀ y, (∀ n : Nat, n = kd.toNat → spR n tx = y) → Y ++ ⟨#[32]⟩ ++ ofL y = ofL (lineS ((l.take (k + 1)).map ktZ))) := Lib.hid (fun y h => by rw [HOFS.out, add_of, HLN.out, h _ rfl, if_neg (by omega)])
        have g3 : (0 : Int) < (k : Int) := by omega
        clear h0 HLN HL0 HOFS HOFX
        by_cases c1 : kd = 1
        · subst c1
          obtain ⟨b, hb⟩ : ∃ b, isWordB tx = b := ⟨_, rfl⟩
          rw [hb] at HWD
          have HJ : Hid (Y ++ ⟨#[32]⟩ ++ X = ofL (lineS ((l.take (k + 1)).map ktZ))) := Lib.hid (by rw [← HXX.out]; exact HJX.out tx (fun n h => by rw [h]; exact HPT.out 1 (by decide)))
          cases b with
          | false =>
            have HX : Hid (S = ([], 1)) := Lib.hid (by rw [← HS.out]; exact HBAD.out (by rw [HOK.out, if_pos rfl, hb]))
            clear hb HTE HMK HM1 HM0 HES HS HGO HBAD HOK HJ
            go_wp2_with fail
            refine (HWD.out _).mono ?_
            rintro e w2 ⟨rfl, hw2⟩
            obtain rfl := hw2.symm
            clear hw2
            go_wp2
            go_ret2
            exact ⟨by rw [HX.out]; rfl, HWB.out⟩
          | true =>
            have HG : Hid ((l.take (k + 1)).all okZ = true) := Lib.hid (HGO.out (by rw [HOK.out, if_pos rfl, hb]))
            clear hb HTE HMK HM1 HM0 HES HGO HBAD HOK
            go_wp2_with fail
            refine (HWD.out _).mono ?_
            rintro e w2 ⟨rfl, hw2⟩
            obtain rfl := hw2.symm
            clear hw2
            go_wp2
            go_roundw
            case measure => simp [intOf]; omega
            case rel => exact ⟨k + 1, by omega, by go_num, by rw [HJ.out], HG.out, HWB.out⟩
        by_cases c3 : kd = 3
        · subst c3
          have HJ : Hid (Y ++ ⟨#[32]⟩ ++ X = ofL (lineS ((l.take (k + 1)).map ktZ))) := Lib.hid (by rw [← HXX.out]; exact HJX.out tx (fun n h => by rw [h]; exact HPT.out 3 (by decide)))
          by_cases hz : X.size = 1
          · have z1 : ((X.size : Int) == 1) = true := by rw [beq_iff_eq]; omega
            have z1' : (X.size == 1) = true := by rw [beq_iff_eq]; omega
            have z0 : (0 : Int) < (X.size : Int) := by omega
            have HM := HM1.out hz
            have hz0 : 0 < X.size := by omega
            have HMM := Lib.hid (fun w => HMK.out hz0 w)
            obtain ⟨b, hb⟩ : ∃ b, mkN (X[0]'hz0).toNat = b := ⟨_, rfl⟩
            rw [hb] at HM HMM
            cases b with
            | false =>
              have HX : Hid (S = ([], 1)) := Lib.hid (by rw [← HS.out]; exact HBAD.out (by rw [HOK.out, if_neg (by decide), if_pos rfl, HM]))
              clear hb hz HM HTE HMK HM1 HM0 HES HS HGO HBAD HOK HJ HWD
              go_wp2_with fail
              refine (HMM.out _).mono ?_
              rintro e w2 ⟨rfl, hw2⟩
              obtain rfl := hw2.symm
              clear hw2
              go_wp2
              go_ret2
              exact ⟨by rw [HX.out]; rfl, HWB.out⟩
            | true =>
              have HG : Hid ((l.take (k + 1)).all okZ = true) := Lib.hid (HGO.out (by rw [HOK.out, if_neg (by decide), if_pos rfl, HM]))
              clear hb hz HM HTE HMK HM1 HM0 HES HGO HBAD HOK HWD
              go_wp2_with fail
              refine (HMM.out _).mono ?_
              rintro e w2 ⟨rfl, hw2⟩
              obtain rfl := hw2.symm
              clear hw2
              go_wp2
              go_roundw
              case measure => simp [intOf]; omega
              case rel => exact ⟨k + 1, by omega, by go_num, by rw [HJ.out], HG.out, HWB.out⟩
          · have z1 : ((X.size : Int) == 1) = false := by rw [beq_eq_false_iff_ne]; omega
            have z1' : (X.size == 1) = false := by rw [beq_eq_false_iff_ne]; omega
            have HX : Hid (S = ([], 1)) := Lib.hid (by rw [← HS.out]; exact HBAD.out (by rw [HOK.out, if_neg (by decide), if_pos rfl, HM0.out hz]))
            clear hz HTE HMK HM1 HM0 HES HS HGO HBAD HOK HJ HWD
            go_wp2
            go_ret2
            exact ⟨by rw [HX.out]; rfl, HWB.out⟩
        by_cases c2 : kd = 2
        · subst c2
          have HJ : Hid (Y ++ ⟨#[32]⟩ ++ (⟨#[34]⟩ ++ E ++ ⟨#[34]⟩) = ofL (lineS ((l.take (k + 1)).map ktZ))) := Lib.hid (by rw [HE2.out]; exact HJX.out _ (fun n h => by rw [h]; exact HP2.out))
          obtain ⟨b, hb⟩ : ∃ b, isTextB tx = b := ⟨_, rfl⟩
          rw [hb] at HTE
          cases b with
          | false =>
            have HX : Hid (S = ([], 1)) := Lib.hid (by rw [← HS.out]; exact HBAD.out (by rw [HOK.out, if_neg (by decide), if_neg (by decide), if_pos rfl, hb]))
            clear hb HMK HM1 HM0 HES HS HGO HBAD HOK HJ HWD
            go_wp2_with fail
            refine (HTE.out _).mono ?_
            rintro e w2 ⟨rfl, b2⟩
            have HB2 := Lib.hid (st HWB.out b2 HWB.out.size)
            clear b2
            go_wp2
            go_ret2
            exact ⟨by rw [HX.out]; rfl, HB2.out⟩
          | true =>
            have HG : Hid ((l.take (k + 1)).all okZ = true) := Lib.hid (HGO.out (by rw [HOK.out, if_neg (by decide), if_neg (by decide), if_pos rfl, hb]))
            clear hb HMK HM1 HM0 HGO HBAD HOK HWD
            go_wp2_with fail
            refine (HTE.out _).mono ?_
            rintro e w2 ⟨rfl, b2⟩
            have HB2 := Lib.hid (st HWB.out b2 HWB.out.size)
            have HK2 := Lib.hid (Blk.below HKB.out b2)
            have y1 : w2.cell? ⟨wr.heap.size, 1, none⟩ = some (.string X) := HK2.out.cell 1
            clear b2
            go_wp2_with fail
            refine (HES.out _).mono ?_
            rintro e w3 ⟨he, b3⟩
            rw [show (⟨(escL 2 tx).toArray⟩ : ByteArray) = E from HEE.out] at he
            subst he
            have HB3 := Lib.hid (st HB2.out b3 HB2.out.size)
            clear b3
            go_wp2
            go_roundw
            case measure => simp [intOf]; omega
            case rel => exact ⟨k + 1, by omega, by go_num, by rw [HJ.out], HG.out, HB3.out⟩
        have e1 : (kd == 1) = false := by rw [beq_eq_false_iff_ne]; exact c1
        have e2 : (kd == 2) = false := by rw [beq_eq_false_iff_ne]; exact c2
        have e3 : (kd == 3) = false := by rw [beq_eq_false_iff_ne]; exact c3
        have HX : Hid (S = ([], 1)) := Lib.hid (by rw [← HS.out]; exact HBAD.out (by rw [HOK.out, if_neg c1, if_neg c3, if_neg c2]))
        clear c1 c2 c3 HTE HMK HM1 HM0 HES HS HGO HBAD HOK HWD
        go_wp2
        go_ret2
        exact ⟨by rw [HX.out]; rfl, HWB.out⟩
    · obtain rfl : k = l.length := by omega
      have h3 : ¬ (l.length : Int) < (l.length : Int) := by omega
      have HX : Hid (S = (lineS (l.map ktZ), 0)) := Lib.hid (by
        rw [← HS.out]
        have e := HAL.out
        rw [List.take_length] at e
        unfold spellR
        rw [if_pos e])
      clear HS
      go_wp2
      go_ret2
      exact ⟨by rw [HX.out]; rfl, HBW.out⟩
end Go.Proofs.YtgogcekeklelmaaGreatDoor


/- The law's own functions of layer 11: from, to, few. -/
namespace Go.Proofs.YtgogcekeklelmaaGreatDoor
open Go.RowKit
set_option linter.unusedVariables false

theorem Tryz.infoTl : (Tryz.prog.info? 38).map (fun i => (i.zero, i.size, i.bytes)) = some (some (.agg #[.int .i64 0, .string ⟨#[]⟩, .int .i64 0]), 3, 32) := by kernel_rfl
def OwnP (t : TypeId) (l : List TkZ) (w : World) (e : Ending) (w' : World) : Prop := ∃ u, e = .returned u ∧ Own1 3 encZ w' w.heap.size t u l ∧ Below w.heap.size w w'
def CopI (t : TypeId) (l : List TkZ) (w : World) (v3 v8 : Value) (wr : World) : Prop := ∃ k : Nat, k ≤ l.length ∧ v8 = .int .i64 k ∧ Own1 3 encZ wr w.heap.size t v3 (l.take k) ∧ Below w.heap.size w wr
set_option maxRecDepth 1000000 in
set_option maxHeartbeats 8000000 in
theorem to_any (v : Value) (l : List TkZ) (w : World) (hv : Rd 3 encZ w v l) (hl : l.length ≤ 10000000) :
    Calls Tryz.prog 7 #[v] w (OwnP 38 l w) := by
  obtain ⟨a1, c1, rfl, q1, q2⟩ := hv.slice
  obtain ⟨iT, hiT, hzT, hkT, hbT⟩ := info_partsT Tryz.infoTl
  have HV := Lib.hid hv
  have HL := Lib.hid hl
  have hlb : (l.length : Int) ≤ 10000000 := by omega
  clear hv hl q1 q2
  go_enter Tryz.func7, Tryz.ntmps7
  go_wp2
  go_loopw [3, 8] (fun v3 v8 wr => CopI 38 l w v3 v8 wr) (fun _ v8 _ => l.length - (intOf v8).toNat)
  case atStart => exact ⟨0, Nat.zero_le _, rfl, own1_nil _ _ _, Below.refl _ _⟩
  case round =>
    obtain ⟨k, hk, rfl, hown, hb⟩ := hrel
    have HBW := Lib.hid hb
    have HO := Lib.hid hown
    clear hb hown
    by_cases hlt : k < l.length
    · obtain ⟨b1, o1, rfl, g1, x0, x1, x2⟩ := (HV.out.below HBW.out).tkZ k hlt
      have h9 : (k : Int) < (l.length : Int) := by omega
      have h4 : (0 : Int) ≤ (k : Int) := by omega
      have HTK := Lib.hid (List.take_succ_eq_append_getElem hlt)
      have HLE : Hid ((l.take k).length ≤ 1000000000) := Lib.hid (by rw [List.length_take]; have := HL.out; omega)
      obtain ⟨x, hx⟩ : ∃ x, l[k]'hlt = x := ⟨_, rfl⟩
      rw [hx] at HTK x0 x1 x2
      obtain ⟨kd, tx, ta⟩ := x
      dsimp only at x0 x1 x2
      obtain ⟨X, hX⟩ : ∃ X, ofL tx = X := ⟨_, rfl⟩
      rw [hX] at x1
      have b3 : Below wr.heap.size wr (wr.alloc (.cells #[.int .i64 kd, .string X, .int .i64 ta] 39)) := (Below.refl _ _).alloc (Nat.le_refl _) _
      have HO2 := Lib.hid (Own1.below HO.out b3)
      have HZ2 : Hid (w.heap.size ≤ wr.heap.size + 1) := Lib.hid (Nat.le_succ_of_le HBW.out.size)
      have HBB := Lib.hid (HBW.out.trans (b3.mono HBW.out.size))
      have HEC : Hid (encZ ⟨kd, tx, ta⟩ = [.int .i64 kd, .string X, .int .i64 ta]) := Lib.hid (by rw [← hX]; rfl)
      clear hx hX b3 g1
      go_wp2_with (first | (at_builtin; go_loud (refine wpList_append_at (w0 := wr.alloc (.cells #[.int .i64 kd, .string X, .int .i64 ta] 39)) (x := (⟨kd, tx, ta⟩ : TkZ)) (N := wr.heap.size + 1) (alloc_sz _ _) rfl _ _ 28 rfl w.heap.size iT _ 32 Tryz.underlying28 hiT hzT hkT hbT (by omega) rfl (by omega) encZ_len encZ_one _ (l.take k) HEC.out.symm rfl HO2.out rfl HLE.out HZ2.out ?_; intro v9 w9 y9 b9 g9; have Y9 := Lib.hid y9; have B9 := Lib.hid b9; clear y9 b9 g9)) | fail)
      go_wp2
      go_roundw
      case measure => simp [intOf]; omega
      case rel => exact ⟨k + 1, by omega, by go_num, by rw [HTK.out]; exact Y9.out, HBB.out.trans B9.out⟩
    · obtain rfl : k = l.length := by omega
      have h3 : ¬ (l.length : Int) < (l.length : Int) := by omega
      rw [List.take_length] at HO
      go_wp2
      go_ret
      exact ⟨_, rfl, HO.out, HBW.out⟩
def fewB (l : List TkZ) : Bool := l.all (fun t => decide (t.tx.length ≤ 500)) && decide (l.length ≤ 60)
def FewI (l : List TkZ) (w : World) (v6 : Value) (wr : World) : Prop := ∃ k : Nat, k ≤ l.length ∧ v6 = .int .i64 k ∧ (∀ (j : Nat) (h : j < l.length), j < k → (l[j]'h).tx.length ≤ 500) ∧ wr = w
set_option maxRecDepth 1000000 in
set_option maxHeartbeats 8000000 in
theorem few_any (v : Value) (l : List TkZ) (w : World) (hv : Rd 3 encZ w v l) :
    Calls Tryz.prog 5 #[v] w fun e w' => e = .returned (.bool (fewB l)) ∧ w' = w := by
  obtain ⟨a1, c1, rfl, q1, q2⟩ := hv.slice
  have HV := Lib.hid hv
  have hlb : (l.length : Int) ≤ 9223372036854775807 := by omega
  obtain ⟨R, hR⟩ : ∃ R, fewB l = R := ⟨_, rfl⟩
  have HR := Lib.hid hR
  rw [hR]
  clear hv q1 q2 hR
  go_enter Tryz.func5, Tryz.ntmps5
  go_wp2
  go_loopw [6] (fun v6 wr => FewI l w v6 wr) (fun v6 _ => l.length - (intOf v6).toNat)
  case atStart => exact ⟨0, Nat.zero_le _, rfl, fun j h h1 => by omega, rfl⟩
  case round =>
    obtain ⟨k, hk, rfl, hall, hwr⟩ := hrel
    obtain rfl := hwr.symm
    have HA := Lib.hid hall
    clear hall hwr
    by_cases hlt : k < l.length
    · obtain ⟨b1, o1, rfl, g1, x0, x1, x2⟩ := HV.out.tkZ k hlt
      have h9 : (k : Int) < (l.length : Int) := by omega
      have h4 : (0 : Int) ≤ (k : Int) := by omega
      obtain ⟨X, hX⟩ : ∃ X, ofL (l[k]'hlt).tx = X := ⟨_, rfl⟩
      have HXZ : Hid (X.size = (l[k]'hlt).tx.length) := Lib.hid (by rw [← hX, ofL_size])
      rw [hX] at x1
      clear hX g1 x0 x2
      by_cases h5 : X.size ≤ 500
      · have z1 : decide ((500 : Int) < (X.size : Int)) = false := decide_eq_false (by omega)
        have HA2 : Hid (∀ (j : Nat) (h : j < l.length), j < k + 1 → (l[j]'h).tx.length ≤ 500) := Lib.hid (fun j h h1 => by
          rcases Nat.lt_or_ge j k with h2 | h2
          · exact HA.out j h h2
          · obtain rfl : j = k := by omega
            have := HXZ.out
            omega)
        clear h5
        go_wp2
        go_roundw
        case measure => simp [intOf]; omega
        case rel => exact ⟨k + 1, by omega, by go_num, HA2.out, rfl⟩
      · have z1 : decide ((500 : Int) < (X.size : Int)) = true := decide_eq_true (by omega)
        have HF : Hid (R = false) := Lib.hid (by
          rw [← HR.out]
          unfold fewB
          rw [Bool.and_eq_false_iff]
          left
          rw [List.all_eq_false]
          exact ⟨_, List.getElem_mem hlt, by have := HXZ.out; simp; omega⟩)
        clear h5 HXZ
        go_wp2
        go_ret
        exact ⟨by rw [HF.out]; rfl, rfl⟩
    · obtain rfl : k = l.length := by omega
      have h3 : ¬ (l.length : Int) < (l.length : Int) := by omega
      have HF : Hid (R = decide ((l.length : Int) ≤ 60)) := Lib.hid (by
        rw [← HR.out]
        unfold fewB
        rw [List.all_eq_true.2 (fun t ht => by
          obtain ⟨j, h, rfl⟩ := List.mem_iff_getElem.1 ht
          exact decide_eq_true (HA.out j h h)), Bool.true_and]
        by_cases h : l.length ≤ 60
        · rw [decide_eq_true h, decide_eq_true (by omega)]
        · rw [decide_eq_false h, decide_eq_false (by omega)])
      by_cases h60 : l.length ≤ 60
      · have z1 : (l.length : Int) ≤ 60 := by omega
        have HF2 : Hid (R = true) := Lib.hid (by rw [HF.out, decide_eq_true z1])
        clear h60
        go_wp2
        go_ret
        exact ⟨by rw [HF2.out]; rfl, rfl⟩
      · have z1 : ¬ (l.length : Int) ≤ 60 := by omega
        have HF2 : Hid (R = false) := Lib.hid (by rw [HF.out, decide_eq_false z1])
        clear h60
        go_wp2
        go_ret
        exact ⟨by rw [HF2.out]; rfl, rfl⟩
end Go.Proofs.YtgogcekeklelmaaGreatDoor


