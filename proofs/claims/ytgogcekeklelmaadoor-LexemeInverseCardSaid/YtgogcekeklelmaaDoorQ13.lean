/- What the row stands on, part 13. -/
import Derived.RegionTactic
import Derived.ChangeAlike
import Derived.Test.YtgogcekeklelmaaDoorQ12

/- The specification's entity, one, Escape. -/
namespace Go.Proofs.YtgogcekeklelmaaDoor
open Go.RowKit
set_option linter.unusedVariables false

theorem below_one {w : World} {o : Obj} : Below w.heap.size w (w.alloc o) := (Below.refl _ _).alloc (Nat.le_refl _) _
end Go.Proofs.YtgogcekeklelmaaDoor


/- The specification's digit, number, backslash. -/
namespace Go.Proofs.YtgogcekeklelmaaDoor
open Go.RowKit
set_option linter.unusedVariables false

def dgV (b n : Nat) : Int := match dg b n with | some d => (d : Int) | none => -1
theorem split7 (n : Nat) : n ≤ 47 ∨ (48 ≤ n ∧ n ≤ 57) ∨ (58 ≤ n ∧ n ≤ 64) ∨ (65 ≤ n ∧ n ≤ 70) ∨ (71 ≤ n ∧ n ≤ 96) ∨ (97 ≤ n ∧ n ≤ 102) ∨ 103 ≤ n := by omega
set_option maxRecDepth 1000000 in
theorem digit10 (n : Nat) (hn : n < 256) (w : World) : Calls Tryd.prog 73 #[.int .u8 n, .int .i64 10] w fun e w' => e = .returned (.int .i64 (dgV 10 n)) ∧ w = w' := by
  rcases split7 n with h | h | h | h | h | h | h
  · have H : dgV 10 n = -1 := by unfold dgV dg; rw [if_neg (by omega), if_neg (by omega), if_neg (by omega)]
    rw [H]
    have t48 : decide ((48 : Int) ≤ n) = false := decide_eq_false (by omega)
    have t57 : decide ((n : Int) ≤ 57) = true := decide_eq_true (by omega)
    have t97 : decide ((97 : Int) ≤ n) = false := decide_eq_false (by omega)
    have t102 : decide ((n : Int) ≤ 102) = true := decide_eq_true (by omega)
    have t65 : decide ((65 : Int) ≤ n) = false := decide_eq_false (by omega)
    have t70 : decide ((n : Int) ≤ 70) = true := decide_eq_true (by omega)
    clear H
    go_enter Tryd.func73, Tryd.ntmps73
    go_wp2
    go_ret
    exact ⟨rfl, rfl⟩
  · have H : dgV 10 n = (n : Int) - 48 := by unfold dgV dg; rw [if_pos h]; simp only []; omega
    rw [H]
    have t48 : decide ((48 : Int) ≤ n) = true := decide_eq_true (by omega)
    have t57 : decide ((n : Int) ≤ 57) = true := decide_eq_true (by omega)
    have t97 : decide ((97 : Int) ≤ n) = false := decide_eq_false (by omega)
    have t102 : decide ((n : Int) ≤ 102) = true := decide_eq_true (by omega)
    have t65 : decide ((65 : Int) ≤ n) = false := decide_eq_false (by omega)
    have t70 : decide ((n : Int) ≤ 70) = true := decide_eq_true (by omega)
    clear H
    go_enter Tryd.func73, Tryd.ntmps73
    go_wp2
    go_ret
    exact ⟨rfl, rfl⟩
  · have H : dgV 10 n = -1 := by unfold dgV dg; rw [if_neg (by omega), if_neg (by omega), if_neg (by omega)]
    rw [H]
    have t48 : decide ((48 : Int) ≤ n) = true := decide_eq_true (by omega)
    have t57 : decide ((n : Int) ≤ 57) = false := decide_eq_false (by omega)
    have t97 : decide ((97 : Int) ≤ n) = false := decide_eq_false (by omega)
    have t102 : decide ((n : Int) ≤ 102) = true := decide_eq_true (by omega)
    have t65 : decide ((65 : Int) ≤ n) = false := decide_eq_false (by omega)
    have t70 : decide ((n : Int) ≤ 70) = true := decide_eq_true (by omega)
    clear H
    go_enter Tryd.func73, Tryd.ntmps73
    go_wp2
    go_ret
    exact ⟨rfl, rfl⟩
  · have H : dgV 10 n = -1 := by unfold dgV dg; rw [if_neg (by omega), if_neg (by omega), if_neg (by omega)]
    rw [H]
    have t48 : decide ((48 : Int) ≤ n) = true := decide_eq_true (by omega)
    have t57 : decide ((n : Int) ≤ 57) = false := decide_eq_false (by omega)
    have t97 : decide ((97 : Int) ≤ n) = false := decide_eq_false (by omega)
    have t102 : decide ((n : Int) ≤ 102) = true := decide_eq_true (by omega)
    have t65 : decide ((65 : Int) ≤ n) = true := decide_eq_true (by omega)
    have t70 : decide ((n : Int) ≤ 70) = true := decide_eq_true (by omega)
    clear H
    go_enter Tryd.func73, Tryd.ntmps73
    go_wp2
    go_ret
    exact ⟨rfl, rfl⟩
  · have H : dgV 10 n = -1 := by unfold dgV dg; rw [if_neg (by omega), if_neg (by omega), if_neg (by omega)]
    rw [H]
    have t48 : decide ((48 : Int) ≤ n) = true := decide_eq_true (by omega)
    have t57 : decide ((n : Int) ≤ 57) = false := decide_eq_false (by omega)
    have t97 : decide ((97 : Int) ≤ n) = false := decide_eq_false (by omega)
    have t102 : decide ((n : Int) ≤ 102) = true := decide_eq_true (by omega)
    have t65 : decide ((65 : Int) ≤ n) = true := decide_eq_true (by omega)
    have t70 : decide ((n : Int) ≤ 70) = false := decide_eq_false (by omega)
    clear H
    go_enter Tryd.func73, Tryd.ntmps73
    go_wp2
    go_ret
    exact ⟨rfl, rfl⟩
  · have H : dgV 10 n = -1 := by unfold dgV dg; rw [if_neg (by omega), if_neg (by omega), if_neg (by omega)]
    rw [H]
    have t48 : decide ((48 : Int) ≤ n) = true := decide_eq_true (by omega)
    have t57 : decide ((n : Int) ≤ 57) = false := decide_eq_false (by omega)
    have t97 : decide ((97 : Int) ≤ n) = true := decide_eq_true (by omega)
    have t102 : decide ((n : Int) ≤ 102) = true := decide_eq_true (by omega)
    have t65 : decide ((65 : Int) ≤ n) = true := decide_eq_true (by omega)
    have t70 : decide ((n : Int) ≤ 70) = false := decide_eq_false (by omega)
    clear H
    go_enter Tryd.func73, Tryd.ntmps73
    go_wp2
    go_ret
    exact ⟨rfl, rfl⟩
  · have H : dgV 10 n = -1 := by unfold dgV dg; rw [if_neg (by omega), if_neg (by omega), if_neg (by omega)]
    rw [H]
    have t48 : decide ((48 : Int) ≤ n) = true := decide_eq_true (by omega)
    have t57 : decide ((n : Int) ≤ 57) = false := decide_eq_false (by omega)
    have t97 : decide ((97 : Int) ≤ n) = true := decide_eq_true (by omega)
    have t102 : decide ((n : Int) ≤ 102) = false := decide_eq_false (by omega)
    have t65 : decide ((65 : Int) ≤ n) = true := decide_eq_true (by omega)
    have t70 : decide ((n : Int) ≤ 70) = false := decide_eq_false (by omega)
    clear H
    go_enter Tryd.func73, Tryd.ntmps73
    go_wp2
    go_ret
    exact ⟨rfl, rfl⟩
set_option maxRecDepth 1000000 in
theorem digit16 (n : Nat) (hn : n < 256) (w : World) : Calls Tryd.prog 73 #[.int .u8 n, .int .i64 16] w fun e w' => e = .returned (.int .i64 (dgV 16 n)) ∧ w = w' := by
  rcases split7 n with h | h | h | h | h | h | h
  · have H : dgV 16 n = -1 := by unfold dgV dg; rw [if_neg (by omega), if_neg (by omega), if_neg (by omega)]
    rw [H]
    have t48 : decide ((48 : Int) ≤ n) = false := decide_eq_false (by omega)
    have t57 : decide ((n : Int) ≤ 57) = true := decide_eq_true (by omega)
    have t97 : decide ((97 : Int) ≤ n) = false := decide_eq_false (by omega)
    have t102 : decide ((n : Int) ≤ 102) = true := decide_eq_true (by omega)
    have t65 : decide ((65 : Int) ≤ n) = false := decide_eq_false (by omega)
    have t70 : decide ((n : Int) ≤ 70) = true := decide_eq_true (by omega)
    clear H
    go_enter Tryd.func73, Tryd.ntmps73
    go_wp2
    go_ret
    exact ⟨rfl, rfl⟩
  · have H : dgV 16 n = (n : Int) - 48 := by unfold dgV dg; rw [if_pos h]; simp only []; omega
    rw [H]
    have t48 : decide ((48 : Int) ≤ n) = true := decide_eq_true (by omega)
    have t57 : decide ((n : Int) ≤ 57) = true := decide_eq_true (by omega)
    have t97 : decide ((97 : Int) ≤ n) = false := decide_eq_false (by omega)
    have t102 : decide ((n : Int) ≤ 102) = true := decide_eq_true (by omega)
    have t65 : decide ((65 : Int) ≤ n) = false := decide_eq_false (by omega)
    have t70 : decide ((n : Int) ≤ 70) = true := decide_eq_true (by omega)
    clear H
    go_enter Tryd.func73, Tryd.ntmps73
    go_wp2
    go_ret
    exact ⟨rfl, rfl⟩
  · have H : dgV 16 n = -1 := by unfold dgV dg; rw [if_neg (by omega), if_neg (by omega), if_neg (by omega)]
    rw [H]
    have t48 : decide ((48 : Int) ≤ n) = true := decide_eq_true (by omega)
    have t57 : decide ((n : Int) ≤ 57) = false := decide_eq_false (by omega)
    have t97 : decide ((97 : Int) ≤ n) = false := decide_eq_false (by omega)
    have t102 : decide ((n : Int) ≤ 102) = true := decide_eq_true (by omega)
    have t65 : decide ((65 : Int) ≤ n) = false := decide_eq_false (by omega)
    have t70 : decide ((n : Int) ≤ 70) = true := decide_eq_true (by omega)
    clear H
    go_enter Tryd.func73, Tryd.ntmps73
    go_wp2
    go_ret
    exact ⟨rfl, rfl⟩
  · have H : dgV 16 n = (n : Int) - 65 + 10 := by unfold dgV dg; rw [if_neg (by omega), if_neg (by omega), if_pos (by omega)]; simp only []; omega
    rw [H]
    have t48 : decide ((48 : Int) ≤ n) = true := decide_eq_true (by omega)
    have t57 : decide ((n : Int) ≤ 57) = false := decide_eq_false (by omega)
    have t97 : decide ((97 : Int) ≤ n) = false := decide_eq_false (by omega)
    have t102 : decide ((n : Int) ≤ 102) = true := decide_eq_true (by omega)
    have t65 : decide ((65 : Int) ≤ n) = true := decide_eq_true (by omega)
    have t70 : decide ((n : Int) ≤ 70) = true := decide_eq_true (by omega)
    clear H
    go_enter Tryd.func73, Tryd.ntmps73
    go_wp2
    go_ret
    exact ⟨rfl, rfl⟩
  · have H : dgV 16 n = -1 := by unfold dgV dg; rw [if_neg (by omega), if_neg (by omega), if_neg (by omega)]
    rw [H]
    have t48 : decide ((48 : Int) ≤ n) = true := decide_eq_true (by omega)
    have t57 : decide ((n : Int) ≤ 57) = false := decide_eq_false (by omega)
    have t97 : decide ((97 : Int) ≤ n) = false := decide_eq_false (by omega)
    have t102 : decide ((n : Int) ≤ 102) = true := decide_eq_true (by omega)
    have t65 : decide ((65 : Int) ≤ n) = true := decide_eq_true (by omega)
    have t70 : decide ((n : Int) ≤ 70) = false := decide_eq_false (by omega)
    clear H
    go_enter Tryd.func73, Tryd.ntmps73
    go_wp2
    go_ret
    exact ⟨rfl, rfl⟩
  · have H : dgV 16 n = (n : Int) - 97 + 10 := by unfold dgV dg; rw [if_neg (by omega), if_pos (by omega)]; simp only []; omega
    rw [H]
    have t48 : decide ((48 : Int) ≤ n) = true := decide_eq_true (by omega)
    have t57 : decide ((n : Int) ≤ 57) = false := decide_eq_false (by omega)
    have t97 : decide ((97 : Int) ≤ n) = true := decide_eq_true (by omega)
    have t102 : decide ((n : Int) ≤ 102) = true := decide_eq_true (by omega)
    have t65 : decide ((65 : Int) ≤ n) = true := decide_eq_true (by omega)
    have t70 : decide ((n : Int) ≤ 70) = false := decide_eq_false (by omega)
    clear H
    go_enter Tryd.func73, Tryd.ntmps73
    go_wp2
    go_ret
    exact ⟨rfl, rfl⟩
  · have H : dgV 16 n = -1 := by unfold dgV dg; rw [if_neg (by omega), if_neg (by omega), if_neg (by omega)]
    rw [H]
    have t48 : decide ((48 : Int) ≤ n) = true := decide_eq_true (by omega)
    have t57 : decide ((n : Int) ≤ 57) = false := decide_eq_false (by omega)
    have t97 : decide ((97 : Int) ≤ n) = true := decide_eq_true (by omega)
    have t102 : decide ((n : Int) ≤ 102) = false := decide_eq_false (by omega)
    have t65 : decide ((65 : Int) ≤ n) = true := decide_eq_true (by omega)
    have t70 : decide ((n : Int) ≤ 70) = false := decide_eq_false (by omega)
    clear H
    go_enter Tryd.func73, Tryd.ntmps73
    go_wp2
    go_ret
    exact ⟨rfl, rfl⟩
def numV (b : Nat) (l : List UInt8) : Int := if l = [] then -1 else match pu b 0 l with | some u => (u : Int) | none => -1
def NumRel (b : Nat) (s : ByteArray) (vn vi vd : Value) : Prop := ∃ k acc : Nat, vn = .int .i64 acc ∧ vi = .int .i64 k ∧ k ≤ s.size ∧ acc < 16 ^ k ∧ pu b 0 s.data.toList = pu b acc (s.data.toList.drop k)
theorem num_step {b : Nat} {s : ByteArray} {k acc d : Nat} {vn vi vd : Value} (h : acc * b + d < 16 ^ (k + 1) ∧ pu b 0 s.data.toList = pu b (acc * b + d) (s.data.toList.drop (k + 1)))
    (h1 : vn = .int .i64 (acc * b + d : Nat)) (h2 : vi = .int .i64 (k + 1 : Nat)) (hk : k < s.size) : NumRel b s vn vi vd := ⟨k + 1, _, h1, h2, hk, h.1, h.2⟩
set_option maxRecDepth 1000000 in
set_option maxHeartbeats 1000000 in
theorem number10 (s : ByteArray) (hs : s.size ≤ 7) (w : World) : Calls Tryd.prog 62 #[.string s, .int .i64 10] w fun e w' => e = .returned (.int .i64 (numV 10 s.data.toList)) ∧ w = w' := by
  have hlen := len_data s
  go_enter Tryd.func62, Tryd.ntmps62
  go_wp2
  go_loop [5, 6, 7] (fun vn vi vd => NumRel 10 s vn vi vd) (fun _ vi _ => s.size - (intOf vi).toNat)
  case atStart => exact ⟨0, 0, rfl, rfl, Nat.zero_le _, by decide, rfl⟩
  case round =>
    obtain ⟨k, acc, hvn, rfl, hk, ha, hp⟩ := hrel
    have ha7 := pow16 (k := k) (by omega)
    have ha' : acc < 268435456 := by omega
    have Ha := Lib.hid ha
    have Hp := Lib.hid hp
    clear ha hp ha7
    obtain ⟨a, hacc⟩ : ∃ a : Int, a = acc := ⟨_, rfl⟩
    rw [← hacc] at hvn
    subst hvn
    have a0 : 0 ≤ a := by omega
    have a1 : a ≤ 268435455 := by omega
    have Hacc := Lib.hid hacc
    clear hacc ha'
    by_cases hlt : k < s.size
    · have hb := byt_getOf2 s k hlt
      have hn : (s[k]'hlt).toNat < 256 := (s[k]'hlt).toNat_lt
      have hkl := Lib.hid (show k < s.data.toList.length by omega)
      rcases hd : dg 10 (byt s.data.toList k) with _ | d
      · have R := Lib.hid (pu_bad hkl.out Hp.out hd)
        have hv : dgV 10 (s[k]'hlt).toNat = -1 := by unfold dgV; rw [hb, hd]
        clear hd hb
        go_wp2_with fail
        refine (digit10 _ hn _).mono ?_
        rintro e w' ⟨rfl, rfl⟩
        rw [hv]
        go_wp2
        go_ret
        refine ⟨?_, rfl⟩
        have : numV 10 s.data.toList = -1 := by unfold numV; rw [R.out]; split <;> rfl
        rw [this]
        rfl
      · have hd16 : d < 16 := by
          unfold dg at hd
          repeat' split at hd
          all_goals first | (cases hd; omega) | cases hd
        have R := Lib.hid (pu_ok (by decide) hd16 hkl.out Ha.out Hp.out hd)
        have hv : dgV 10 (s[k]'hlt).toNat = d := by unfold dgV; rw [hb, hd]
        clear hd hb
        go_wp2_with fail
        refine (digit10 _ hn _).mono ?_
        rintro e w' ⟨rfl, rfl⟩
        rw [hv]
        go_wp2
        refine ⟨num_step R.out ?_ ?_ hlt, by simp [intOf]; omega⟩
        · rw [Hacc.out]; go_num
        · go_num
    · have hl : s.data.toList.drop k = [] := drop_end hlt
      have R := Lib.hid (show pu 10 0 s.data.toList = some acc by rw [Hp.out, hl]; rfl)
      clear hl
      by_cases he : s.data.toList = []
      · have hemp : s.toList.isEmpty = true := by rw [ByteArray.toList_eq, he]; rfl
        have heq : (s.toList == []) = true := by rw [ByteArray.toList_eq, he]; rfl
        have V := Lib.hid (show numV 10 s.data.toList = -1 by unfold numV; rw [if_pos he])
        have hs0 : s.size = 0 := by rw [← hlen, he]; rfl
        clear hlen he
        go_wp2
        go_ret
        refine ⟨?_, rfl⟩
        rw [V.out]
        rfl
      · have hemp : s.toList.isEmpty = false := by
          rw [ByteArray.toList_eq]
          cases hl : s.data.toList with
          | nil => exact absurd hl he
          | cons x r => rfl
        have heq : (s.toList == []) = false := by
          rw [ByteArray.toList_eq]
          cases hl : s.data.toList with
          | nil => exact absurd hl he
          | cons x r => rfl
        have V := Lib.hid (show numV 10 s.data.toList = acc by unfold numV; rw [if_neg he, R.out])
        clear he
        go_wp2
        go_ret
        refine ⟨?_, rfl⟩
        rw [V.out, ← Hacc.out]
        rfl
set_option maxRecDepth 1000000 in
set_option maxHeartbeats 1000000 in
theorem number16 (s : ByteArray) (hs : s.size ≤ 7) (w : World) : Calls Tryd.prog 62 #[.string s, .int .i64 16] w fun e w' => e = .returned (.int .i64 (numV 16 s.data.toList)) ∧ w = w' := by
  have hlen := len_data s
  go_enter Tryd.func62, Tryd.ntmps62
  go_wp2
  go_loop [5, 6, 7] (fun vn vi vd => NumRel 16 s vn vi vd) (fun _ vi _ => s.size - (intOf vi).toNat)
  case atStart => exact ⟨0, 0, rfl, rfl, Nat.zero_le _, by decide, rfl⟩
  case round =>
    obtain ⟨k, acc, hvn, rfl, hk, ha, hp⟩ := hrel
    have ha7 := pow16 (k := k) (by omega)
    have ha' : acc < 268435456 := by omega
    have Ha := Lib.hid ha
    have Hp := Lib.hid hp
    clear ha hp ha7
    obtain ⟨a, hacc⟩ : ∃ a : Int, a = acc := ⟨_, rfl⟩
    rw [← hacc] at hvn
    subst hvn
    have a0 : 0 ≤ a := by omega
    have a1 : a ≤ 268435455 := by omega
    have Hacc := Lib.hid hacc
    clear hacc ha'
    by_cases hlt : k < s.size
    · have hb := byt_getOf2 s k hlt
      have hn : (s[k]'hlt).toNat < 256 := (s[k]'hlt).toNat_lt
      have hkl := Lib.hid (show k < s.data.toList.length by omega)
      rcases hd : dg 16 (byt s.data.toList k) with _ | d
      · have R := Lib.hid (pu_bad hkl.out Hp.out hd)
        have hv : dgV 16 (s[k]'hlt).toNat = -1 := by unfold dgV; rw [hb, hd]
        clear hd hb
        go_wp2_with fail
        refine (digit16 _ hn _).mono ?_
        rintro e w' ⟨rfl, rfl⟩
        rw [hv]
        go_wp2
        go_ret
        refine ⟨?_, rfl⟩
        have : numV 16 s.data.toList = -1 := by unfold numV; rw [R.out]; split <;> rfl
        rw [this]
        rfl
      · have hd16 : d < 16 := by
          unfold dg at hd
          repeat' split at hd
          all_goals first | (cases hd; omega) | cases hd
        have R := Lib.hid (pu_ok (by decide) hd16 hkl.out Ha.out Hp.out hd)
        have hv : dgV 16 (s[k]'hlt).toNat = d := by unfold dgV; rw [hb, hd]
        clear hd hb
        go_wp2_with fail
        refine (digit16 _ hn _).mono ?_
        rintro e w' ⟨rfl, rfl⟩
        rw [hv]
        go_wp2
        refine ⟨num_step R.out ?_ ?_ hlt, by simp [intOf]; omega⟩
        · rw [Hacc.out]; go_num
        · go_num
    · have hl : s.data.toList.drop k = [] := drop_end hlt
      have R := Lib.hid (show pu 16 0 s.data.toList = some acc by rw [Hp.out, hl]; rfl)
      clear hl
      by_cases he : s.data.toList = []
      · have hemp : s.toList.isEmpty = true := by rw [ByteArray.toList_eq, he]; rfl
        have heq : (s.toList == []) = true := by rw [ByteArray.toList_eq, he]; rfl
        have V := Lib.hid (show numV 16 s.data.toList = -1 by unfold numV; rw [if_pos he])
        have hs0 : s.size = 0 := by rw [← hlen, he]; rfl
        clear hlen he
        go_wp2
        go_ret
        refine ⟨?_, rfl⟩
        rw [V.out]
        rfl
      · have hemp : s.toList.isEmpty = false := by
          rw [ByteArray.toList_eq]
          cases hl : s.data.toList with
          | nil => exact absurd hl he
          | cons x r => rfl
        have heq : (s.toList == []) = false := by
          rw [ByteArray.toList_eq]
          cases hl : s.data.toList with
          | nil => exact absurd hl he
          | cons x r => rfl
        have V := Lib.hid (show numV 16 s.data.toList = acc by unfold numV; rw [if_neg he, R.out])
        clear he
        go_wp2
        go_ret
        refine ⟨?_, rfl⟩
        rw [V.out, ← Hacc.out]
        rfl
end Go.Proofs.YtgogcekeklelmaaDoor


/- The specification's backslash. -/
namespace Go.Proofs.YtgogcekeklelmaaDoor
open Go.RowKit
set_option linter.unusedVariables false

/-- The specification's size of a sequence is 0 where there is none. -/
def nz (p : RdOf2) : RdOf2 := if p.1 = [] then ([], 0) else p
theorem nz_nil (k : Nat) : nz ([], k) = ([], 0) := if_pos rfl
theorem nz_ne {a : List UInt8} (k : Nat) (h : a ≠ []) : nz (a, k) = (a, k) := if_neg h
theorem numV_cases (b : Nat) (l : List UInt8) : (numV b l = -1 ∧ charL b l = []) ∨ ∃ u : Nat, numV b l = u ∧ charL b l = (if Utf8.valid (u : Int) = true then enc u else []) := by
  unfold numV charL
  by_cases h : l = []
  · exact .inl ⟨if_pos h, if_pos h⟩
  · rw [if_neg h, if_neg h]
    cases pu b 0 l with
    | none => exact .inl ⟨rfl, rfl⟩
    | some u => exact .inr ⟨u, rfl, rfl⟩
theorem enc_small (u : Nat) (h : u < 128) : Utf8.valid (u : Int) = true ∧ enc u = [UInt8.ofNat u] := by
  have hv : Utf8.valid (u : Int) = true := (valid_iff _).2 (.inl ⟨by omega, by omega⟩)
  refine ⟨hv, ?_⟩
  rw [enc_of (enc1 (u : Int) hv (by omega) (by omega))]
  rfl
theorem hex2 (a b : UInt8) : ((0 ≤ numV 16 [a, b] ∧ numV 16 [a, b] ≤ 127) → a.toNat ≤ 55 ∧ charL 16 [a, b] = [UInt8.ofNat (numV 16 [a, b]).toNat]) ∧
    (¬ (0 ≤ numV 16 [a, b] ∧ numV 16 [a, b] ≤ 127) → a.toNat ≤ 55 → charL 16 [a, b] = []) := by
  rcases numV_cases 16 [a, b] with ⟨h1, h2⟩ | ⟨u, h1, h2⟩
  · rw [h1, h2]
    exact ⟨fun h => by omega, fun _ _ => rfl⟩
  · rw [h1, h2]
    have hp : pu 16 0 [a, b] = some u := by
      unfold numV at h1
      rw [if_neg (by simp)] at h1
      cases hq : pu 16 0 [a, b] with
      | none => rw [hq] at h1; simp only [] at h1; omega
      | some v =>
        rw [hq] at h1
        simp only [] at h1
        have : v = u := by omega
        rw [this]
    have key : u ≤ 127 ↔ a.toNat ≤ 55 := by
      simp only [pu] at hp
      cases ha : dg 16 a.toNat with
      | none => rw [ha] at hp; cases hp
      | some x =>
        rw [ha] at hp
        simp only at hp
        cases hb : dg 16 b.toNat with
        | none => rw [hb] at hp; cases hp
        | some y =>
          rw [hb] at hp
          simp only at hp
          have hu : (0 * 16 + x) * 16 + y = u := Option.some.inj hp
          have hx : (x ≤ 7 ↔ a.toNat ≤ 55) := by
            unfold dg at ha
            repeat' split at ha
            all_goals first | (have := Option.some.inj ha; omega) | cases ha
          have hy : y < 16 := by
            unfold dg at hb
            repeat' split at hb
            all_goals first | (have := Option.some.inj hb; omega) | cases hb
          omega
    refine ⟨fun h => ⟨key.1 (by omega), ?_⟩, fun h h' => absurd ⟨by omega, by have := key.2 h'; omega⟩ h⟩
    have he := enc_small u (by omega)
    rw [if_pos he.1, he.2]
    simp
theorem isSelf_in (n : Nat) : inL n [92, 34, 61, 58, 35, 33, 123, 125, 32] = isSelf n := by
  simp only [inL, isSelf, List.any_cons, List.any_nil]
  have e : ∀ k : Nat, decide (k = n) = (n == k) := fun k => by
    by_cases h : k = n
    · rw [decide_eq_true h]; simp [h]
    · rw [decide_eq_false h]; exact (beq_eq_false_iff_ne.2 (fun h' => h h'.symm)).symm
  show (decide (92 = n) || (decide (34 = n) || (decide (61 = n) || (decide (58 = n) || (decide (35 = n) || (decide (33 = n) || (decide (123 = n) || (decide (125 = n) || (decide (32 = n) || false))))))))) = _
  simp only [e, Bool.or_false, Bool.or_assoc]
theorem take_two {l : List UInt8} {i : Nat} (h : i + 2 ≤ l.length) : ∃ a b, (l.drop i).take 2 = [a, b] ∧ a.toNat = byt l i := by
  obtain ⟨a, e, ha⟩ := drop_at (l := l) (k := i) (by omega)
  obtain ⟨b, e2, _⟩ := drop_at (l := l) (k := i + 1) (by omega)
  exact ⟨a, b, by rw [e, e2]; rfl, ha⟩
theorem number_x (s : ByteArray) (i j : Nat) (h : j - i ≤ 7) (w : World) :
    Calls Tryd.prog 62 #[.string (s.extract i j), .int .i64 16] w fun e w' => e = .returned (.int .i64 (numV 16 ((s.data.toList.drop i).take (j - i)))) ∧ w = w' := by
  have hsz : (s.extract i j).size ≤ 7 := by rw [← len_data, ext_take, List.length_take]; omega
  have := number16 (s.extract i j) hsz w
  rw [ext_take] at this
  exact this

set_option maxRecDepth 1000000 in
set_option maxHeartbeats 4000000 in
theorem refBackslash_any (s : ByteArray) (hs : s.size ≤ 1099511627776) (w : World) :
    Calls Tryd.prog 43 #[.string s] w (RdPost w (nz (rdB s.data.toList))) := by
  have k1 := fun w a => conv_new1 (P := Tryd.prog) Tryd.underlying40 Tryd.underlying5 Tryd.underlying9 w a
  have hlen := len_data s
  by_cases h2 : s.size < 2
  · have H := Lib.hid (show nz (rdB s.data.toList) = ([], 0) by unfold rdB; rw [if_pos (by omega)]; rfl)
    rw [H.out]
    clear H hlen
    go_enter Tryd.func43, Tryd.ntmps43
    go_wp2
    go_ret2
    exact ⟨rfl, Below.refl _ _⟩
  have hi : 1 < s.size := by omega
  have hb := byt_getOf2 s 1 hi
  have hU : nz (rdB s.data.toList) = nz (if byt s.data.toList 1 = 110 then ([10], 2) else if byt s.data.toList 1 = 114 then ([13], 2) else if byt s.data.toList 1 = 116 then ([9], 2)
      else if isSelf (byt s.data.toList 1) = true then ((s.data.toList.drop 1).take 1, 2)
      else if byt s.data.toList 1 = 120 then (if 4 ≤ s.size ∧ byt s.data.toList 2 ≤ 55 then (charL 16 ((s.data.toList.drop 2).take 2), 4) else ([], 0))
      else if byt s.data.toList 1 = 117 then (if 6 ≤ s.size then (charL 16 ((s.data.toList.drop 2).take 4), 6) else ([], 0)) else ([], 0)) := by
    unfold rdB
    rw [if_neg (by omega), hlen]
  rw [← hb] at hU
  generalize hR : nz (rdB s.data.toList) = R at hU
  clear hR
  by_cases c0 : (s[1]'hi).toNat = 110
  · have H := Lib.hid (show R = ([10], 2) by rw [hU]; simp [c0, nz])
    rw [H.out]
    have q : (((s[1]'hi).toNat : Int) == 110) = true := by rw [c0]; rfl
    clear H hU hb hlen c0
    go_enter Tryd.func43, Tryd.ntmps43
    go_wp2
    go_ret2
    exact ⟨rfl, Below.refl _ _⟩
  have i0 : (((s[1]'hi).toNat : Int) == 110) = false := by simp; omega
  rw [if_neg c0] at hU
  by_cases c1 : (s[1]'hi).toNat = 114
  · have H := Lib.hid (show R = ([13], 2) by rw [hU]; simp [c1, nz])
    rw [H.out]
    have q : (((s[1]'hi).toNat : Int) == 114) = true := by rw [c1]; rfl
    clear H hU hb hlen c1
    go_enter Tryd.func43, Tryd.ntmps43
    go_wp2
    go_ret2
    exact ⟨rfl, Below.refl _ _⟩
  have i1 : (((s[1]'hi).toNat : Int) == 114) = false := by simp; omega
  rw [if_neg c1] at hU
  by_cases c2 : (s[1]'hi).toNat = 116
  · have H := Lib.hid (show R = ([9], 2) by rw [hU]; simp [c2, nz])
    rw [H.out]
    have q : (((s[1]'hi).toNat : Int) == 116) = true := by rw [c2]; rfl
    clear H hU hb hlen c2
    go_enter Tryd.func43, Tryd.ntmps43
    go_wp2
    go_ret2
    exact ⟨rfl, Below.refl _ _⟩
  have i2 : (((s[1]'hi).toNat : Int) == 116) = false := by simp; omega
  rw [if_neg c2] at hU
  by_cases hself : isSelf (s[1]'hi).toNat = true
  · have H := Lib.hid (show R = ((s.data.toList.drop 1).take 1, 2) by
      rw [hU, if_pos hself, nz_ne]
      obtain ⟨a, e, _⟩ := drop_at (l := s.data.toList) (k := 1) (by omega)
      rw [e]; simp)
    clear hU hb hlen c0 c1 c2
    go_enter Tryd.func43, Tryd.ntmps43
    go_wp2_with fail
    refine (in_any (s[1]'hi).toNat ⟨#[92, 34, 61, 58, 35, 33, 123, 125, 32]⟩ (by decide) _).mono ?_
    rintro e w' ⟨rfl, rfl⟩
    rw [isSelf_in]
    rw [hself]
    go_wp2
    go_ret2
    refine ⟨?_, Below.refl _ _⟩
    rw [H.out]
    exact ret_sn (str_ext (ext_take s 1 2)) rfl
  rw [if_neg hself] at hU
  replace hself := Bool.eq_false_iff.2 hself
  clear c0 c1 c2 hb
  by_cases cx : (s[1]'hi).toNat = 120
  · have q : (((s[1]'hi).toNat : Int) == 120) = true := by rw [cx]; rfl
    rw [if_pos cx] at hU
    by_cases h4 : 4 ≤ s.size
    · have g4 : decide ((4 : Int) ≤ s.size) = true := decide_eq_true (by omega)
      obtain ⟨a, b, e2, ha⟩ := take_two (l := s.data.toList) (i := 2) (by omega)
      rw [e2, ← ha] at hU
      have hnum := number_x s 2 4 (by decide)
      rw [e2] at hnum
      have hx := hex2 a b
      generalize numV 16 [a, b] = v at hx hnum
      by_cases hv : 0 ≤ v ∧ v ≤ 127
      · obtain ⟨x1, x2⟩ := hx.1 hv
        have H := Lib.hid (show R = ([UInt8.ofNat v.toNat], 4) by rw [hU, if_pos ⟨h4, x1⟩, x2]; rfl)
        obtain ⟨v0, v1⟩ := hv
        have d0 : decide (0 ≤ v) = true := decide_eq_true v0
        have d1 : decide (v ≤ 127) = true := decide_eq_true v1
        clear hU hlen cx x1 x2 hx e2 ha
        go_enter Tryd.func43, Tryd.ntmps43
        go_wp2_with fail
        refine (in_any (s[1]'hi).toNat ⟨#[92, 34, 61, 58, 35, 33, 123, 125, 32]⟩ (by decide) _).mono ?_
        rintro e w' ⟨rfl, rfl⟩
        rw [isSelf_in]
        rw [hself]
        go_wp2_with fail
        refine (hnum _).mono ?_
        rintro e w' ⟨rfl, rfl⟩
        go_wp2
        go_ret2
        refine ⟨?_, below_one⟩
        rw [H.out]
        exact ret_sn rfl rfl
      · have H := Lib.hid (show R = ([], 0) by
          rw [hU]
          split
          · rename_i h'; rw [hx.2 hv h'.2]; rfl
          · rfl)
        have d : (decide (0 ≤ v) && decide (v ≤ 127)) = false := by simp; omega
        clear hU hlen cx hx e2 ha
        by_cases v0 : 0 ≤ v
        · have d0 : decide (0 ≤ v) = true := decide_eq_true v0
          have d1 : decide (v ≤ 127) = false := decide_eq_false (by omega)
          clear d hv
          go_enter Tryd.func43, Tryd.ntmps43
          go_wp2_with fail
          refine (in_any (s[1]'hi).toNat ⟨#[92, 34, 61, 58, 35, 33, 123, 125, 32]⟩ (by decide) _).mono ?_
          rintro e w' ⟨rfl, rfl⟩
          rw [isSelf_in]
          rw [hself]
          go_wp2_with fail
          refine (hnum _).mono ?_
          rintro e w' ⟨rfl, rfl⟩
          go_wp2
          go_ret2
          refine ⟨?_, Below.refl _ _⟩
          rw [H.out]
          rfl
        · have d0 : decide (0 ≤ v) = false := decide_eq_false v0
          clear d hv
          go_enter Tryd.func43, Tryd.ntmps43
          go_wp2_with fail
          refine (in_any (s[1]'hi).toNat ⟨#[92, 34, 61, 58, 35, 33, 123, 125, 32]⟩ (by decide) _).mono ?_
          rintro e w' ⟨rfl, rfl⟩
          rw [isSelf_in]
          rw [hself]
          go_wp2_with fail
          refine (hnum _).mono ?_
          rintro e w' ⟨rfl, rfl⟩
          go_wp2
          go_ret2
          refine ⟨?_, Below.refl _ _⟩
          rw [H.out]
          rfl
    · have g4 : decide ((4 : Int) ≤ s.size) = false := decide_eq_false (by omega)
      have iu' : (((s[1]'hi).toNat : Int) == 117) = false := by simp; omega
      rw [if_neg (fun h => h4 h.1)] at hU
      have H := Lib.hid (show R = ([], 0) by rw [hU]; rfl)
      clear hU hlen cx h4
      go_enter Tryd.func43, Tryd.ntmps43
      go_wp2_with fail
      refine (in_any (s[1]'hi).toNat ⟨#[92, 34, 61, 58, 35, 33, 123, 125, 32]⟩ (by decide) _).mono ?_
      rintro e w' ⟨rfl, rfl⟩
      rw [isSelf_in]
      rw [hself]
      go_wp2
      go_ret2
      refine ⟨?_, Below.refl _ _⟩
      rw [H.out]
      rfl
  have ix : (((s[1]'hi).toNat : Int) == 120) = false := by simp; omega
  rw [if_neg cx] at hU
  clear cx
  by_cases cu : (s[1]'hi).toNat = 117
  · have q : (((s[1]'hi).toNat : Int) == 117) = true := by rw [cu]; rfl
    rw [if_pos cu] at hU
    by_cases h6 : 6 ≤ s.size
    · have g6 : decide ((6 : Int) ≤ s.size) = true := decide_eq_true (by omega)
      rw [if_pos h6] at hU
      have hnum := number_x s 2 6 (by decide)
      rcases numV_cases 16 ((s.data.toList.drop 2).take 4) with ⟨x1, x2⟩ | ⟨u, x1, x2⟩
      · rw [x2] at hU
        have H := Lib.hid (show R = ([], 0) by rw [hU]; rfl)
        have hnum : ∀ w, Calls _ _ _ w _ := hnum
        rw [show (6 - 2) = 4 from rfl, x1] at hnum
        clear hU hlen cu x1 x2
        go_enter Tryd.func43, Tryd.ntmps43
        go_wp2_with fail
        refine (in_any (s[1]'hi).toNat ⟨#[92, 34, 61, 58, 35, 33, 123, 125, 32]⟩ (by decide) _).mono ?_
        rintro e w' ⟨rfl, rfl⟩
        rw [isSelf_in]
        rw [hself]
        go_wp2_with fail
        refine (hnum _).mono ?_
        rintro e w' ⟨rfl, rfl⟩
        go_wp2
        go_ret2
        refine ⟨?_, Below.refl _ _⟩
        rw [H.out]
        rfl
      · rw [x2] at hU
        rw [show (6 - 2) = 4 from rfl, x1] at hnum
        have d0 : decide (0 ≤ (u : Int)) = true := decide_eq_true (by omega)
        by_cases hval : Utf8.valid (u : Int) = true
        · rw [if_pos hval] at hU
          have H := Lib.hid (show R = (enc u, 6) by rw [hU, nz_ne]; exact List.ne_nil_of_length_pos (by have := (enc_length (u : Int)).1; omega))
          have Hv := Lib.hid hval
          clear hU hlen cu x1 x2 hval
          go_enter Tryd.func43, Tryd.ntmps43
          go_wp2_with fail
          refine (in_any (s[1]'hi).toNat ⟨#[92, 34, 61, 58, 35, 33, 123, 125, 32]⟩ (by decide) _).mono ?_
          rintro e w' ⟨rfl, rfl⟩
          rw [isSelf_in]
          rw [hself]
          go_wp2_with fail
          refine (hnum _).mono ?_
          rintro e w' ⟨rfl, rfl⟩
          go_wp2_with fail
          refine (point_yes _ _ Hv.out).mono ?_
          rintro e w' ⟨rfl, rfl⟩
          go_wp2_with fail
          refine (one_any _ _ Hv.out).mono ?_
          rintro e w1 ⟨rfl, D⟩
          go_wp2
          go_ret2
          refine ⟨?_, D⟩
          rw [H.out]
          exact ret_sn (str_ext rfl) rfl
        · rw [if_neg hval] at hU
          have H := Lib.hid (show R = ([], 0) by rw [hU]; rfl)
          have Hv := Lib.hid (Bool.eq_false_iff.2 hval)
          clear hU hlen cu x1 x2 hval
          go_enter Tryd.func43, Tryd.ntmps43
          go_wp2_with fail
          refine (in_any (s[1]'hi).toNat ⟨#[92, 34, 61, 58, 35, 33, 123, 125, 32]⟩ (by decide) _).mono ?_
          rintro e w' ⟨rfl, rfl⟩
          rw [isSelf_in]
          rw [hself]
          go_wp2_with fail
          refine (hnum _).mono ?_
          rintro e w' ⟨rfl, rfl⟩
          go_wp2_with fail
          refine (point_no _ _ Hv.out).mono ?_
          rintro e w' ⟨rfl, rfl⟩
          go_wp2
          go_ret2
          refine ⟨?_, Below.refl _ _⟩
          rw [H.out]
          rfl
    · have g6 : decide ((6 : Int) ≤ s.size) = false := decide_eq_false (by omega)
      rw [if_neg h6] at hU
      have H := Lib.hid (show R = ([], 0) by rw [hU]; rfl)
      clear hU hlen cu h6
      go_enter Tryd.func43, Tryd.ntmps43
      go_wp2_with fail
      refine (in_any (s[1]'hi).toNat ⟨#[92, 34, 61, 58, 35, 33, 123, 125, 32]⟩ (by decide) _).mono ?_
      rintro e w' ⟨rfl, rfl⟩
      rw [isSelf_in]
      rw [hself]
      go_wp2
      go_ret2
      refine ⟨?_, Below.refl _ _⟩
      rw [H.out]
      rfl
  have iu : (((s[1]'hi).toNat : Int) == 117) = false := by simp; omega
  rw [if_neg cu] at hU
  have H := Lib.hid (show R = ([], 0) by rw [hU]; rfl)
  clear hU hlen cu
  go_enter Tryd.func43, Tryd.ntmps43
  go_wp2_with fail
  refine (in_any (s[1]'hi).toNat ⟨#[92, 34, 61, 58, 35, 33, 123, 125, 32]⟩ (by decide) _).mono ?_
  rintro e w' ⟨rfl, rfl⟩
  rw [isSelf_in]
  rw [hself]
  go_wp2
  go_ret2
  refine ⟨?_, Below.refl _ _⟩
  rw [H.out]
  rfl
end Go.Proofs.YtgogcekeklelmaaDoor


/- The specification's ampersand. -/
namespace Go.Proofs.YtgogcekeklelmaaDoor
open Go.RowKit
set_option linter.unusedVariables false

theorem indexByte_none (l : List UInt8) (c : UInt8) (h : ∀ j, j < l.length → byt l j ≠ c.toNat) : Lib.indexByte l c = -1 := by
  induction l with
  | nil => rfl
  | cons x l ih =>
    have hx : (x == c) = false := by
      have := h 0 (by simp)
      rw [beq_eq_false_iff_ne]
      exact fun e => this (by rw [e]; rfl)
    have ih := ih (fun j hj => by have := h (j + 1) (by simp; omega); rw [byt_cons] at this; exact this)
    unfold Lib.indexByte
    rw [hx, ih]
    rfl
theorem indexByte_at (l : List UInt8) (c : UInt8) (m : Nat) (hm : m < l.length) (hc : byt l m = c.toNat) (h : ∀ j, j < m → byt l j ≠ c.toNat) : Lib.indexByte l c = m := by
  have e : l = l.take m ++ c :: l.drop (m + 1) := by
    obtain ⟨x, e1, hx⟩ := drop_at hm
    have : x = c := UInt8.toNat_inj.1 (hx.trans hc)
    rw [← this, ← e1, List.take_append_drop]
  have hl : (l.take m).length = m := by rw [List.length_take]; omega
  have := indexByte_app (l.take m) (l.drop (m + 1)) c (by
    rw [List.all_eq_true]
    intro x hx
    obtain ⟨j, hj, e2⟩ := List.getElem_of_mem hx
    rw [hl] at hj
    have := h j hj
    simp only [bne_iff_ne]
    intro ex
    apply this
    unfold byt
    rw [List.getElem?_eq_getElem (by omega)]
    rw [List.getElem_take] at e2
    rw [e2, ex]
    rfl)
  rw [← e, hl] at this
  exact this
theorem indexByte_ge (l : List UInt8) (c : UInt8) (m : Nat) (h : ∀ j, j < m → j < l.length → byt l j ≠ c.toNat) : Lib.indexByte l c = -1 ∨ ∃ k : Nat, Lib.indexByte l c = k ∧ m ≤ k ∧ k < l.length := by
  induction l generalizing m with
  | nil => exact .inl rfl
  | cons x l ih =>
    cases m with
    | zero =>
      rcases indexByte_cases (x :: l) c with h' | ⟨k, h', hk⟩
      · exact .inl h'
      · exact .inr ⟨k, h', Nat.zero_le _, hk⟩
    | succ m =>
      have hx : (x == c) = false := by
        have := h 0 (by omega) (by simp)
        rw [beq_eq_false_iff_ne]
        exact fun e => this (by rw [e]; rfl)
      have ih := ih m (fun j hj hl => by have := h (j + 1) (by omega) (by simp; omega); rw [byt_cons] at this; exact this)
      unfold Lib.indexByte
      rw [hx]
      rcases ih with h1 | ⟨k, h1, h2, h3⟩
      · rw [h1]; exact .inl rfl
      · rw [h1]
        refine .inr ⟨k + 1, ?_, by omega, by simp; omega⟩
        have : ¬ ((k : Int) == -1) = true := by simp only [beq_iff_eq]; omega
        simp only [Bool.false_eq_true, if_false]
        rw [if_neg this]; rfl
theorem byt_drop1 (l : List UInt8) (j : Nat) : byt (l.drop 1) j = byt l (j + 1) := by
  unfold byt
  rw [List.getElem?_drop, Nat.add_comm]
theorem enN_long (q : List UInt8) (h : 9 ≤ q.length) : enN q = [] := by
  unfold enN
  have h1 : decide ((q.drop 2).length ≤ 6) = false := decide_eq_false (by rw [List.length_drop]; omega)
  have h2 : decide ((q.drop 1).length ≤ 7) = false := decide_eq_false (by rw [List.length_drop]; omega)
  rw [h1, h2]
  simp
theorem enL_long (q : List UInt8) (h : 9 ≤ q.length) : enL q = [] := by
  unfold enL
  have ne : ∀ r : List UInt8, r.length ≤ 4 → q ≠ r := fun r hr e => by rw [e] at h; omega
  rw [if_neg (ne _ (by decide)), if_neg (ne _ (by decide)), if_neg (ne _ (by decide)), if_neg (ne _ (by decide)), if_neg (ne _ (by decide)), enN_long q h]

theorem hasPrefix_take (q p : List UInt8) : Lib.hasPrefix q p = true ↔ q.take p.length = p := by
  unfold Lib.hasPrefix
  rw [List.isPrefixOf_iff_prefix, List.prefix_iff_eq_take]
  exact eq_comm
theorem enN_1 (q : List UInt8) (h : q.length ≤ 1) : enN q = [] := by
  match q, h with
  | [], _ => rfl
  | [x], _ =>
    unfold enN
    have h1 : Lib.hasPrefix [x] [35, 120] = false := by simp [Lib.hasPrefix, List.isPrefixOf]
    rw [h1]
    simp only [Bool.false_and, Bool.false_eq_true, if_false]
    split
    · rfl
    · rfl
theorem enN_else (q : List UInt8) (h : ¬ (Lib.hasPrefix q [35, 120] = true ∧ (q.drop 2).length ≤ 6)) : enN q = if (Lib.hasPrefix q [35] && decide ((q.drop 1).length ≤ 7)) = true then charL 10 (q.drop 1) else [] := by
  unfold enN
  rw [if_neg (by simpa using h)]
theorem enN_ten (q : List UInt8) (h : ¬ (Lib.hasPrefix q [35, 120] = true ∧ (q.drop 2).length ≤ 6)) (c1 : q.take 1 = [35]) (hl : q.length ≤ 8) : enN q = charL 10 (q.drop 1) := by
  rw [enN_else q h, (hasPrefix_take q [35]).2 c1, decide_eq_true (by rw [List.length_drop]; omega)]
  rfl
theorem enN_2 (q : List UInt8) (h : q.length = 2) (c1 : q.take 1 = [35]) : enN q = charL 10 (q.drop 1) := by
  by_cases hp : Lib.hasPrefix q [35, 120] = true
  · have : q = [35, 120] := by
      have := (hasPrefix_take q [35, 120]).1 hp
      rw [List.take_of_length_le (by simp; omega)] at this
      exact this
    rw [this]
    decide
  · exact enN_ten q (fun h' => hp h'.1) c1 (by omega)
theorem enN_3 (q : List UInt8) (h : q.length = 2) (c1 : ¬ q.take 1 = [35]) : enN q = [] := by
  have h1 : Lib.hasPrefix q [35] = false := Bool.eq_false_iff.2 (fun h' => c1 ((hasPrefix_take q [35]).1 h'))
  have h2 : ¬ Lib.hasPrefix q [35, 120] = true := fun h' => c1 (by
    have := (hasPrefix_take q [35, 120]).1 h'
    have h3 := congrArg (List.take 1) this
    rw [List.take_take] at h3
    exact h3)
  rw [enN_else q (fun h' => h2 h'.1), h1]
  rfl
theorem enN_4 (q : List UInt8) (h : 3 ≤ q.length) (h8 : q.length ≤ 8) (c2 : q.take 2 = [35, 120]) : enN q = charL 16 (q.drop 2) := by
  unfold enN
  rw [(hasPrefix_take q [35, 120]).2 c2, decide_eq_true (by rw [List.length_drop]; omega)]
  rfl
theorem enN_5 (q : List UInt8) (h : 3 ≤ q.length) (h8 : q.length ≤ 8) (c2 : ¬ q.take 2 = [35, 120]) (c1 : q.take 1 = [35]) : enN q = charL 10 (q.drop 1) :=
  enN_ten q (fun h' => c2 ((hasPrefix_take q [35, 120]).1 h'.1)) c1 h8
theorem enN_6 (q : List UInt8) (h8 : q.length ≤ 8) (c2 : ¬ q.take 2 = [35, 120]) (c1 : ¬ q.take 1 = [35]) : enN q = [] := by
  have h1 : Lib.hasPrefix q [35] = false := Bool.eq_false_iff.2 (fun h' => c1 ((hasPrefix_take q [35]).1 h'))
  rw [enN_else q (fun h' => c2 ((hasPrefix_take q [35, 120]).1 h'.1)), h1]
  rfl
theorem nm_data (s : ByteArray) (k i : Nat) (hk : k ≤ s.size) : ((s.extract 1 k).extract i (k - 1)).data.toList = ((s.data.toList.drop 1).take (k - 1)).drop i := by
  rw [ext_take, ext_take]
  refine List.take_of_length_le ?_
  rw [List.length_drop, List.length_take, List.length_drop, len_data]
  omega
theorem number_nm16 (s : ByteArray) (k i : Nat) (h : k ≤ s.size ∧ k - 1 - i ≤ 7) (w : World) :
    Calls Tryd.prog 62 #[.string ((s.extract 1 k).extract i (k - 1)), .int .i64 16] w fun e w' => e = .returned (.int .i64 (numV 16 (((s.data.toList.drop 1).take (k - 1)).drop i))) ∧ w = w' := by
  have hd := nm_data s k i h.1
  have := number16 ((s.extract 1 k).extract i (k - 1)) (by rw [← len_data, hd, List.length_drop, List.length_take]; omega) w
  rw [hd] at this
  exact this
theorem number_nm10 (s : ByteArray) (k i : Nat) (h : k ≤ s.size ∧ k - 1 - i ≤ 7) (w : World) :
    Calls Tryd.prog 62 #[.string ((s.extract 1 k).extract i (k - 1)), .int .i64 10] w fun e w' => e = .returned (.int .i64 (numV 10 (((s.data.toList.drop 1).take (k - 1)).drop i))) ∧ w = w' := by
  have hd := nm_data s k i h.1
  have := number10 ((s.extract 1 k).extract i (k - 1)) (by rw [← len_data, hd, List.length_drop, List.length_take]; omega) w
  rw [hd] at this
  exact this

theorem eq_of_b {t : ByteArray} {l : List UInt8} (h : (t.toList == l) = true) : t.data.toList = l := by rw [ByteArray.toList_eq] at h; exact eq_of_beq h
theorem ne_of_b {t : ByteArray} {l : List UInt8} (h : (t.toList == l) = false) : ¬ t.data.toList = l := by rw [ByteArray.toList_eq] at h; exact beq_eq_false_iff_ne.1 h
theorem enq_of {t : ByteArray} {q : List UInt8} (hq : t.data.toList = q) (z0 : (t.toList == [97, 109, 112]) = false) (z1 : (t.toList == [108, 116]) = false) (z2 : (t.toList == [103, 116]) = false) (z3 : (t.toList == [113, 117, 111, 116]) = false) (z4 : (t.toList == [97, 112, 111, 115]) = false) : enL q = enN q := by
  subst hq
  unfold enL
  rw [if_neg (ne_of_b z0), if_neg (ne_of_b z1), if_neg (ne_of_b z2), if_neg (ne_of_b z3), if_neg (ne_of_b z4)]
def AmRel (s : ByteArray) (i : Value) : Prop := ∃ k : Nat, i = .int .i64 k ∧ k ≤ s.size ∧ k ≤ 12 ∧ ∀ j, j < k → byt s.data.toList j ≠ 59
theorem am_step {s : ByteArray} {k : Nat} {vi : Value} (hk : k < s.size) (h12 : k < 12) (hall : ∀ j, j < k → byt s.data.toList j ≠ 59) (h : byt s.data.toList k ≠ 59) (hv : vi = .int .i64 (k + 1 : Nat)) : AmRel s vi :=
  ⟨k + 1, hv, hk, h12, fun j hj => by
    rcases Nat.lt_or_ge j k with h' | h'
    · exact hall j h'
    · have : j = k := by omega
      rw [this]; exact h⟩
theorem am_none {s : ByteArray} (hall : ∀ j, j < s.size → byt s.data.toList j ≠ 59) : nz (rdE s.data.toList) = ([], 0) := by
  have : Lib.indexByte (s.data.toList.drop 1) 59 = -1 := indexByte_none _ _ (fun j hj => by
    rw [byt_drop1]
    rw [List.length_drop, len_data] at hj
    exact hall (j + 1) (by omega))
  unfold rdE
  rw [if_pos this]
  rfl
theorem am_far {s : ByteArray} (hall : ∀ j, j < 13 → byt s.data.toList j ≠ 59) : nz (rdE s.data.toList) = ([], 0) := by
  rcases indexByte_ge (s.data.toList.drop 1) 59 12 (fun j hj _ => by rw [byt_drop1]; exact hall (j + 1) (by omega)) with h | ⟨k, h, h12, hk⟩
  · unfold rdE
    rw [if_pos h]
    rfl
  · unfold rdE
    rw [h, if_neg (by omega)]
    have : enL ((s.data.toList.drop 1).take (k : Int).toNat) = [] := enL_long _ (by rw [List.length_take, Int.toNat_natCast]; omega)
    rw [this]
    rfl
theorem am_here {s : ByteArray} {k : Nat} (hk : k < s.size) (h0 : byt s.data.toList 0 = 38) (hc : byt s.data.toList k = 59) (hall : ∀ j, j < k → byt s.data.toList j ≠ 59) :
    1 ≤ k ∧ nz (rdE s.data.toList) = nz (enL ((s.data.toList.drop 1).take (k - 1)), k + 1) := by
  have h1 : 1 ≤ k := by
    rcases Nat.eq_zero_or_pos k with h | h
    · rw [h, h0] at hc; cases hc
    · exact h
  refine ⟨h1, ?_⟩
  have : Lib.indexByte (s.data.toList.drop 1) 59 = ((k - 1 : Nat) : Int) := indexByte_at _ _ (k - 1) (by rw [List.length_drop, len_data]; omega) (by rw [byt_drop1]; rw [Nat.sub_add_cancel h1]; exact hc) (fun j hj => by rw [byt_drop1]; exact hall _ (by omega))
  unfold rdE
  rw [this, if_neg (by omega), Int.toNat_natCast]
  have e : k - 1 + 2 = k + 1 := by omega
  rw [e]

set_option maxRecDepth 1000000 in
set_option maxHeartbeats 8000000 in
theorem refAmpersand_any (s : ByteArray) (h0 : byt s.data.toList 0 = 38) (hs : s.size ≤ 1099511627776) (w : World) :
    Calls Tryd.prog 44 #[.string s] w (RdPost w (nz (rdE s.data.toList))) := by
  generalize hR : nz (rdE s.data.toList) = R
  have HR := Lib.hid hR
  have H0 := Lib.hid h0
  clear hR h0
  go_enter Tryd.func44, Tryd.ntmps44
  go_wp2
  go_loop [4] (fun i => AmRel s i) (fun i => 13 - (intOf i).toNat)
  case atStart => exact ⟨0, rfl, Nat.zero_le _, by decide, fun j hj => absurd hj (by omega)⟩
  case round =>
    obtain ⟨k, rfl, hk, hk12, hall⟩ := hrel
    have Hall := Lib.hid hall
    clear hall
    by_cases hlt : k < s.size
    · have hb := byt_getOf2 s k hlt
      have l1 : decide ((k : Int) < s.size) = true := decide_eq_true (by omega)
      have l2 : ((k : Int) == s.size) = false := by simp; omega
      by_cases hc : (s[k]'hlt).toNat = 59
      · have q : (((s[k]'hlt).toNat : Int) == 59) = true := by rw [hc]; rfl
        have q' : (((s[k]'hlt).toNat : Int) != 59) = false := by rw [hc]; rfl
        obtain ⟨h1, e1⟩ := am_here hlt H0.out (hb.symm.trans hc) Hall.out
        have E1 := Lib.hid (HR.out.symm.trans e1)
        have hnm : (s.extract 1 k).data.toList = (s.data.toList.drop 1).take (k - 1) := ext_take s 1 k
        have hsz : (s.extract 1 k).size = k - 1 := by rw [← len_data, hnm, List.length_take, List.length_drop, len_data]; omega
        clear hb hc
        have hq : ((s.data.toList.drop 1).take (k - 1)).length = k - 1 := by rw [List.length_take, List.length_drop, len_data]; omega
        have hn16 := fun i hi => number_nm16 s k i hi
        have hn10 := fun i hi => number_nm10 s k i hi
        have hP2 : ((s.extract 1 k).extract 0 2).data.toList = ((s.data.toList.drop 1).take (k - 1)).take 2 := by rw [ext_take, List.drop_zero, hnm]
        have hP1 : ((s.extract 1 k).extract 0 1).data.toList = ((s.data.toList.drop 1).take (k - 1)).take 1 := by rw [ext_take, List.drop_zero, hnm]
        generalize (s.data.toList.drop 1).take (k - 1) = ql at hnm hq hn16 hn10 hP2 hP1 E1 e1
        clear e1
        by_cases g12 : k < 12
        · have l3 : decide ((k : Int) < 12) = true := decide_eq_true (by omega)
          have HH := Lib.hid (And.intro hnm (And.intro hP1 (And.intro hP2 hq)))
          have H16 := Lib.hid hn16
          have H10 := Lib.hid hn10
          clear hnm hP1 hP2 hq hn16 hn10
          go_wp2_with fail
          · have z : ((s.extract 1 k).toList == [97, 109, 112]) = true := by with_reducible assumption
            have V := show R = ([38], k + 1) by rw [E1.out, HH.out.1.symm.trans (eq_of_b z)]; rfl
            go_ret2
            refine ⟨?_, Below.refl _ _⟩
            rw [V]
            exact ret_sn rfl (by omega)
          · have z : ((s.extract 1 k).toList == [108, 116]) = true := by with_reducible assumption
            have V := show R = ([60], k + 1) by rw [E1.out, HH.out.1.symm.trans (eq_of_b z)]; rfl
            go_ret2
            refine ⟨?_, Below.refl _ _⟩
            rw [V]
            exact ret_sn rfl (by omega)
          · have z : ((s.extract 1 k).toList == [103, 116]) = true := by with_reducible assumption
            have V := show R = ([62], k + 1) by rw [E1.out, HH.out.1.symm.trans (eq_of_b z)]; rfl
            go_ret2
            refine ⟨?_, Below.refl _ _⟩
            rw [V]
            exact ret_sn rfl (by omega)
          · have z : ((s.extract 1 k).toList == [113, 117, 111, 116]) = true := by with_reducible assumption
            have V := show R = ([34], k + 1) by rw [E1.out, HH.out.1.symm.trans (eq_of_b z)]; rfl
            go_ret2
            refine ⟨?_, Below.refl _ _⟩
            rw [V]
            exact ret_sn rfl (by omega)
          · have z : ((s.extract 1 k).toList == [97, 112, 111, 115]) = true := by with_reducible assumption
            have V := show R = ([39], k + 1) by rw [E1.out, HH.out.1.symm.trans (eq_of_b z)]; rfl
            go_ret2
            refine ⟨?_, Below.refl _ _⟩
            rw [V]
            exact ret_sn rfl (by omega)
          · have hq := HH.out.2.2.2
            have z0 : ((s.extract 1 k).toList == [97, 109, 112]) = false := by with_reducible assumption
            have z1 : ((s.extract 1 k).toList == [108, 116]) = false := by with_reducible assumption
            have z2 : ((s.extract 1 k).toList == [103, 116]) = false := by with_reducible assumption
            have z3 : ((s.extract 1 k).toList == [113, 117, 111, 116]) = false := by with_reducible assumption
            have z4 : ((s.extract 1 k).toList == [97, 112, 111, 115]) = false := by with_reducible assumption
            have EN := enq_of HH.out.1 z0 z1 z2 z3 z4
            have c2 : ql.take 2 = [35, 120] := by
              have z : (((s.extract 1 k).extract 0 2).toList == [35, 120]) = true := by with_reducible assumption
              rw [← HH.out.2.2.1]
              exact eq_of_b z
            have hN := H16.out 2 (by omega)
            have EQ : enL ql = charL 16 (ql.drop 2) := by rw [EN, enN_4 ql (by omega) (by omega) c2]
            clear z0 z1 z2 z3 z4 EN c2 hq
            rcases numV_cases 16 (ql.drop 2) with ⟨x1, x2⟩ | ⟨u, x1, x2⟩
            · rw [x1] at hN
              have V := Lib.hid (show R = ([], 0) by rw [E1.out, EQ, x2]; rfl)
              clear x1 x2 EQ
              refine (hN _).mono ?_
              rintro e w' ⟨rfl, rfl⟩
              go_wp2
              go_ret2
              refine ⟨?_, Below.refl _ _⟩
              rw [V.out]
              rfl
            · rw [x1] at hN
              have d0 : decide ((u : Int) < 0) = false := decide_eq_false (by omega)
              by_cases hval : Utf8.valid (u : Int) = true
              · have V := Lib.hid (show R = (enc u, k + 1) by rw [E1.out, EQ, x2, if_pos hval, nz_ne]; exact List.ne_nil_of_length_pos (by have := (enc_length (u : Int)).1; omega))
                have Hv := Lib.hid hval
                clear x1 x2 hval EQ
                refine (hN _).mono ?_
                rintro e w' ⟨rfl, rfl⟩
                go_wp2_with fail
                refine (point_yes _ _ Hv.out).mono ?_
                rintro e w' ⟨rfl, rfl⟩
                go_wp2_with fail
                refine (one_any _ _ Hv.out).mono ?_
                rintro e w1 ⟨rfl, D⟩
                go_wp2
                go_ret2
                refine ⟨?_, D⟩
                rw [V.out]
                exact ret_sn (str_ext rfl) (by omega)
              · have V := Lib.hid (show R = ([], 0) by rw [E1.out, EQ, x2, if_neg hval]; rfl)
                have Hv := Lib.hid (Bool.eq_false_iff.2 hval)
                clear x1 x2 hval EQ
                refine (hN _).mono ?_
                rintro e w' ⟨rfl, rfl⟩
                go_wp2_with fail
                refine (point_no _ _ Hv.out).mono ?_
                rintro e w' ⟨rfl, rfl⟩
                go_wp2
                go_ret2
                refine ⟨?_, Below.refl _ _⟩
                rw [V.out]
                rfl
          · have hq := HH.out.2.2.2
            have z0 : ((s.extract 1 k).toList == [97, 109, 112]) = false := by with_reducible assumption
            have z1 : ((s.extract 1 k).toList == [108, 116]) = false := by with_reducible assumption
            have z2 : ((s.extract 1 k).toList == [103, 116]) = false := by with_reducible assumption
            have z3 : ((s.extract 1 k).toList == [113, 117, 111, 116]) = false := by with_reducible assumption
            have z4 : ((s.extract 1 k).toList == [97, 112, 111, 115]) = false := by with_reducible assumption
            have EN := enq_of HH.out.1 z0 z1 z2 z3 z4
            have c2 : ¬ ql.take 2 = [35, 120] := by
              have z : (((s.extract 1 k).extract 0 2).toList == [35, 120]) = false := by with_reducible assumption
              rw [← HH.out.2.2.1]
              exact ne_of_b z
            have c1 : ql.take 1 = [35] := by
              have z : (((s.extract 1 k).extract 0 1).toList == [35]) = true := by with_reducible assumption
              rw [← HH.out.2.1]
              exact eq_of_b z
            have hN := H10.out 1 (by omega)
            have EQ : enL ql = charL 10 (ql.drop 1) := by rw [EN, enN_5 ql (by omega) (by omega) c2 c1]
            clear z0 z1 z2 z3 z4 EN c2 c1 hq
            rcases numV_cases 10 (ql.drop 1) with ⟨x1, x2⟩ | ⟨u, x1, x2⟩
            · rw [x1] at hN
              have V := Lib.hid (show R = ([], 0) by rw [E1.out, EQ, x2]; rfl)
              clear x1 x2 EQ
              refine (hN _).mono ?_
              rintro e w' ⟨rfl, rfl⟩
              go_wp2
              go_ret2
              refine ⟨?_, Below.refl _ _⟩
              rw [V.out]
              rfl
            · rw [x1] at hN
              have d0 : decide ((u : Int) < 0) = false := decide_eq_false (by omega)
              by_cases hval : Utf8.valid (u : Int) = true
              · have V := Lib.hid (show R = (enc u, k + 1) by rw [E1.out, EQ, x2, if_pos hval, nz_ne]; exact List.ne_nil_of_length_pos (by have := (enc_length (u : Int)).1; omega))
                have Hv := Lib.hid hval
                clear x1 x2 hval EQ
                refine (hN _).mono ?_
                rintro e w' ⟨rfl, rfl⟩
                go_wp2_with fail
                refine (point_yes _ _ Hv.out).mono ?_
                rintro e w' ⟨rfl, rfl⟩
                go_wp2_with fail
                refine (one_any _ _ Hv.out).mono ?_
                rintro e w1 ⟨rfl, D⟩
                go_wp2
                go_ret2
                refine ⟨?_, D⟩
                rw [V.out]
                exact ret_sn (str_ext rfl) (by omega)
              · have V := Lib.hid (show R = ([], 0) by rw [E1.out, EQ, x2, if_neg hval]; rfl)
                have Hv := Lib.hid (Bool.eq_false_iff.2 hval)
                clear x1 x2 hval EQ
                refine (hN _).mono ?_
                rintro e w' ⟨rfl, rfl⟩
                go_wp2_with fail
                refine (point_no _ _ Hv.out).mono ?_
                rintro e w' ⟨rfl, rfl⟩
                go_wp2
                go_ret2
                refine ⟨?_, Below.refl _ _⟩
                rw [V.out]
                rfl
          · have hq := HH.out.2.2.2
            have z0 : ((s.extract 1 k).toList == [97, 109, 112]) = false := by with_reducible assumption
            have z1 : ((s.extract 1 k).toList == [108, 116]) = false := by with_reducible assumption
            have z2 : ((s.extract 1 k).toList == [103, 116]) = false := by with_reducible assumption
            have z3 : ((s.extract 1 k).toList == [113, 117, 111, 116]) = false := by with_reducible assumption
            have z4 : ((s.extract 1 k).toList == [97, 112, 111, 115]) = false := by with_reducible assumption
            have EN := enq_of HH.out.1 z0 z1 z2 z3 z4
            have c2 : ¬ ql.take 2 = [35, 120] := by
              have z : (((s.extract 1 k).extract 0 2).toList == [35, 120]) = false := by with_reducible assumption
              rw [← HH.out.2.2.1]
              exact ne_of_b z
            have c1 : ¬ ql.take 1 = [35] := by
              have z : (((s.extract 1 k).extract 0 1).toList == [35]) = false := by with_reducible assumption
              rw [← HH.out.2.1]
              exact ne_of_b z
            have V := show R = ([], 0) by rw [E1.out, EN, enN_6 ql (by omega) c2 c1]; rfl
            go_ret2
            refine ⟨?_, Below.refl _ _⟩
            rw [V]
            rfl
          · have hq := HH.out.2.2.2
            have z0 : ((s.extract 1 k).toList == [97, 109, 112]) = false := by with_reducible assumption
            have z1 : ((s.extract 1 k).toList == [108, 116]) = false := by with_reducible assumption
            have z2 : ((s.extract 1 k).toList == [103, 116]) = false := by with_reducible assumption
            have z3 : ((s.extract 1 k).toList == [113, 117, 111, 116]) = false := by with_reducible assumption
            have z4 : ((s.extract 1 k).toList == [97, 112, 111, 115]) = false := by with_reducible assumption
            have EN := enq_of HH.out.1 z0 z1 z2 z3 z4
            have V := show R = ([], 0) by rw [E1.out, EN, enN_long ql (by omega)]; rfl
            go_ret2
            refine ⟨?_, Below.refl _ _⟩
            rw [V]
            rfl
          · have hq := HH.out.2.2.2
            have z0 : ((s.extract 1 k).toList == [97, 109, 112]) = false := by with_reducible assumption
            have z1 : ((s.extract 1 k).toList == [108, 116]) = false := by with_reducible assumption
            have z2 : ((s.extract 1 k).toList == [103, 116]) = false := by with_reducible assumption
            have z3 : ((s.extract 1 k).toList == [113, 117, 111, 116]) = false := by with_reducible assumption
            have z4 : ((s.extract 1 k).toList == [97, 112, 111, 115]) = false := by with_reducible assumption
            have EN := enq_of HH.out.1 z0 z1 z2 z3 z4
            have c1 : ql.take 1 = [35] := by
              have z : (((s.extract 1 k).extract 0 1).toList == [35]) = true := by with_reducible assumption
              rw [← HH.out.2.1]
              exact eq_of_b z
            have hN := H10.out 1 (by omega)
            have EQ : enL ql = charL 10 (ql.drop 1) := by rw [EN, enN_2 ql (by omega) c1]
            clear z0 z1 z2 z3 z4 EN c1 hq
            rcases numV_cases 10 (ql.drop 1) with ⟨x1, x2⟩ | ⟨u, x1, x2⟩
            · rw [x1] at hN
              have V := Lib.hid (show R = ([], 0) by rw [E1.out, EQ, x2]; rfl)
              clear x1 x2 EQ
              refine (hN _).mono ?_
              rintro e w' ⟨rfl, rfl⟩
              go_wp2
              go_ret2
              refine ⟨?_, Below.refl _ _⟩
              rw [V.out]
              rfl
            · rw [x1] at hN
              have d0 : decide ((u : Int) < 0) = false := decide_eq_false (by omega)
              by_cases hval : Utf8.valid (u : Int) = true
              · have V := Lib.hid (show R = (enc u, k + 1) by rw [E1.out, EQ, x2, if_pos hval, nz_ne]; exact List.ne_nil_of_length_pos (by have := (enc_length (u : Int)).1; omega))
                have Hv := Lib.hid hval
                clear x1 x2 hval EQ
                refine (hN _).mono ?_
                rintro e w' ⟨rfl, rfl⟩
                go_wp2_with fail
                refine (point_yes _ _ Hv.out).mono ?_
                rintro e w' ⟨rfl, rfl⟩
                go_wp2_with fail
                refine (one_any _ _ Hv.out).mono ?_
                rintro e w1 ⟨rfl, D⟩
                go_wp2
                go_ret2
                refine ⟨?_, D⟩
                rw [V.out]
                exact ret_sn (str_ext rfl) (by omega)
              · have V := Lib.hid (show R = ([], 0) by rw [E1.out, EQ, x2, if_neg hval]; rfl)
                have Hv := Lib.hid (Bool.eq_false_iff.2 hval)
                clear x1 x2 hval EQ
                refine (hN _).mono ?_
                rintro e w' ⟨rfl, rfl⟩
                go_wp2_with fail
                refine (point_no _ _ Hv.out).mono ?_
                rintro e w' ⟨rfl, rfl⟩
                go_wp2
                go_ret2
                refine ⟨?_, Below.refl _ _⟩
                rw [V.out]
                rfl
          · have hq := HH.out.2.2.2
            have z0 : ((s.extract 1 k).toList == [97, 109, 112]) = false := by with_reducible assumption
            have z1 : ((s.extract 1 k).toList == [108, 116]) = false := by with_reducible assumption
            have z2 : ((s.extract 1 k).toList == [103, 116]) = false := by with_reducible assumption
            have z3 : ((s.extract 1 k).toList == [113, 117, 111, 116]) = false := by with_reducible assumption
            have z4 : ((s.extract 1 k).toList == [97, 112, 111, 115]) = false := by with_reducible assumption
            have EN := enq_of HH.out.1 z0 z1 z2 z3 z4
            have c1 : ¬ ql.take 1 = [35] := by
              have z : (((s.extract 1 k).extract 0 1).toList == [35]) = false := by with_reducible assumption
              rw [← HH.out.2.1]
              exact ne_of_b z
            have V := show R = ([], 0) by rw [E1.out, EN, enN_3 ql (by omega) c1]; rfl
            go_ret2
            refine ⟨?_, Below.refl _ _⟩
            rw [V]
            rfl
          · have hq := HH.out.2.2.2
            have z0 : ((s.extract 1 k).toList == [97, 109, 112]) = false := by with_reducible assumption
            have z1 : ((s.extract 1 k).toList == [108, 116]) = false := by with_reducible assumption
            have z2 : ((s.extract 1 k).toList == [103, 116]) = false := by with_reducible assumption
            have z3 : ((s.extract 1 k).toList == [113, 117, 111, 116]) = false := by with_reducible assumption
            have z4 : ((s.extract 1 k).toList == [97, 112, 111, 115]) = false := by with_reducible assumption
            have EN := enq_of HH.out.1 z0 z1 z2 z3 z4
            have V := show R = ([], 0) by rw [E1.out, EN, enN_1 ql (by omega)]; rfl
            go_ret2
            refine ⟨?_, Below.refl _ _⟩
            rw [V]
            rfl
        · have l3 : decide ((k : Int) < 12) = false := decide_eq_false (by omega)
          have ne : ∀ r : List UInt8, r.length ≤ 4 → ql ≠ r := fun r hr e => by rw [e] at hq; omega
          have EN : enL ql = enN ql := by unfold enL; rw [if_neg (ne _ (by decide)), if_neg (ne _ (by decide)), if_neg (ne _ (by decide)), if_neg (ne _ (by decide)), if_neg (ne _ (by decide))]
          have b0 : ((s.extract 1 k).toList == [97, 109, 112]) = false := bytes_ne (by rw [hnm]; exact ne _ (by decide))
          have b1 : ((s.extract 1 k).toList == [108, 116]) = false := bytes_ne (by rw [hnm]; exact ne _ (by decide))
          have b2 : ((s.extract 1 k).toList == [103, 116]) = false := bytes_ne (by rw [hnm]; exact ne _ (by decide))
          have b3 : ((s.extract 1 k).toList == [113, 117, 111, 116]) = false := bytes_ne (by rw [hnm]; exact ne _ (by decide))
          have b4 : ((s.extract 1 k).toList == [97, 112, 111, 115]) = false := bytes_ne (by rw [hnm]; exact ne _ (by decide))
          clear ne
          have g3 : decide ((3 : Int) ≤ ((k - 1 : Nat) : Int)) = true := decide_eq_true (by omega)
          have g8 : decide (((k - 1 : Nat) : Int) ≤ 8) = false := decide_eq_false (by omega)
          have g2 : decide ((2 : Int) ≤ ((k - 1 : Nat) : Int)) = true := decide_eq_true (by omega)
          have V := Lib.hid (show R = ([], 0) by rw [E1.out, EN, enN_long ql (by omega)]; rfl)
          clear hnm hP1 hP2 hq hn16 hn10
          go_wp2
          go_ret2
          refine ⟨?_, Below.refl _ _⟩
          rw [V.out]
          rfl
      · have q : (((s[k]'hlt).toNat : Int) == 59) = false := by simp; omega
        have q' : (((s[k]'hlt).toNat : Int) != 59) = true := by simp; omega
        have Hc := Lib.hid (show byt s.data.toList k ≠ 59 by rw [← hb]; exact hc)
        clear hb hc
        by_cases g12 : k < 12
        · have l3 : decide ((k : Int) < 12) = true := decide_eq_true (by omega)
          go_wp2
          refine ⟨am_step hlt g12 Hall.out Hc.out (by go_num), by simp [intOf]; omega⟩
        · have l3 : decide ((k : Int) < 12) = false := decide_eq_false (by omega)
          have e := Lib.hid (HR.out.symm.trans (am_far (s := s) (fun j hj => by
            rcases Nat.lt_or_ge j k with h' | h'
            · exact Hall.out j h'
            · have : j = k := by omega
              rw [this]; exact Hc.out)))
          go_wp2
          go_ret2
          refine ⟨?_, Below.refl _ _⟩
          rw [e.out]
          rfl
    · have l1 : decide ((k : Int) < s.size) = false := decide_eq_false (by omega)
      have l2 : ((k : Int) == s.size) = true := by simp; omega
      have e := Lib.hid (HR.out.symm.trans (am_none (s := s) (fun j hj => Hall.out j (by omega))))
      go_wp2
      go_ret2
      refine ⟨?_, Below.refl _ _⟩
      rw [e.out]
      rfl
end Go.Proofs.YtgogcekeklelmaaDoor


