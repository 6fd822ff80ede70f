/- The specification's digit, number, backslash. -/
import Derived.Test.YtnkmlgkppaglkaaDoorEv
namespace Go.Proofs.YtnkmlgkppaglkaaDoor
open Go.RowKit
set_option linter.unusedVariables false

def dgV (b n : Nat) : Int := match dg b n with | some d => (d : Int) | none => -1
theorem split7 (n : Nat) : n ≤ 47 ∨ (48 ≤ n ∧ n ≤ 57) ∨ (58 ≤ n ∧ n ≤ 64) ∨ (65 ≤ n ∧ n ≤ 70) ∨ (71 ≤ n ∧ n ≤ 96) ∨ (97 ≤ n ∧ n ≤ 102) ∨ 103 ≤ n := by omega
set_option maxRecDepth 1000000 in
theorem digit10 (n : Nat) (hn : n < 256) (w : World) : Calls Tryd.prog 47 #[.int .u8 n, .int .i64 10] w fun e w' => e = .returned (.int .i64 (dgV 10 n)) ∧ w = w' := by
  rcases split7 n with h | h | h | h | h | h | h
  · have H : dgV 10 n = -1 := by unfold dgV dg; rw [if_neg (by omega), if_neg (by omega), if_neg (by omega)]
    rw [H]
    have t48 : decide ((48 : Int) ≤ n) = false := decide_eq_false (by omega)
    have t57 : decide ((n : Int) ≤ 57) = true := decide_eq_true (by omega)
    have t97 : decide ((97 : Int) ≤ n) = false := decide_eq_false (by omega)
    have t102 : decide ((n : Int) ≤ 102) = true := decide_eq_true (by omega)
    have t65 : decide ((65 : Int) ≤ n) = false := decide_eq_false (by omega)
    have t70 : decide ((n : Int) ≤ 70) = true := decide_eq_true (by omega)
    clear H
    go_enter Tryd.func47, Tryd.ntmps47
    go_wp2
    go_ret
    exact ⟨rfl, rfl⟩
  · have H : dgV 10 n = (n : Int) - 48 := by unfold dgV dg; rw [if_pos h]; simp only []; omega
    rw [H]
    have t48 : decide ((48 : Int) ≤ n) = true := decide_eq_true (by omega)
    have t57 : decide ((n : Int) ≤ 57) = true := decide_eq_true (by omega)
    have t97 : decide ((97 : Int) ≤ n) = false := decide_eq_false (by omega)
    have t102 : decide ((n : Int) ≤ 102) = true := decide_eq_true (by omega)
    have t65 : decide ((65 : Int) ≤ n) = false := decide_eq_false (by omega)
    have t70 : decide ((n : Int) ≤ 70) = true := decide_eq_true (by omega)
    clear H
    go_enter Tryd.func47, Tryd.ntmps47
    go_wp2
    go_ret
    exact ⟨rfl, rfl⟩
  · have H : dgV 10 n = -1 := by unfold dgV dg; rw [if_neg (by omega), if_neg (by omega), if_neg (by omega)]
    rw [H]
    have t48 : decide ((48 : Int) ≤ n) = true := decide_eq_true (by omega)
    have t57 : decide ((n : Int) ≤ 57) = false := decide_eq_false (by omega)
    have t97 : decide ((97 : Int) ≤ n) = false := decide_eq_false (by omega)
    have t102 : decide ((n : Int) ≤ 102) = true := decide_eq_true (by omega)
    have t65 : decide ((65 : Int) ≤ n) = false := decide_eq_false (by omega)
    have t70 : decide ((n : Int) ≤ 70) = true := decide_eq_true (by omega)
    clear H
    go_enter Tryd.func47, Tryd.ntmps47
    go_wp2
    go_ret
    exact ⟨rfl, rfl⟩
  · have H : dgV 10 n = -1 := by unfold dgV dg; rw [if_neg (by omega), if_neg (by omega), if_neg (by omega)]
    rw [H]
    have t48 : decide ((48 : Int) ≤ n) = true := decide_eq_true (by omega)
    have t57 : decide ((n : Int) ≤ 57) = false := decide_eq_false (by omega)
    have t97 : decide ((97 : Int) ≤ n) = false := decide_eq_false (by omega)
    have t102 : decide ((n : Int) ≤ 102) = true := decide_eq_true (by omega)
    have t65 : decide ((65 : Int) ≤ n) = true := decide_eq_true (by omega)
    have t70 : decide ((n : Int) ≤ 70) = true := decide_eq_true (by omega)
    clear H
    go_enter Tryd.func47, Tryd.ntmps47
    go_wp2
    go_ret
    exact ⟨rfl, rfl⟩
  · have H : dgV 10 n = -1 := by unfold dgV dg; rw [if_neg (by omega), if_neg (by omega), if_neg (by omega)]
    rw [H]
    have t48 : decide ((48 : Int) ≤ n) = true := decide_eq_true (by omega)
    have t57 : decide ((n : Int) ≤ 57) = false := decide_eq_false (by omega)
    have t97 : decide ((97 : Int) ≤ n) = false := decide_eq_false (by omega)
    have t102 : decide ((n : Int) ≤ 102) = true := decide_eq_true (by omega)
    have t65 : decide ((65 : Int) ≤ n) = true := decide_eq_true (by omega)
    have t70 : decide ((n : Int) ≤ 70) = false := decide_eq_false (by omega)
    clear H
    go_enter Tryd.func47, Tryd.ntmps47
    go_wp2
    go_ret
    exact ⟨rfl, rfl⟩
  · have H : dgV 10 n = -1 := by unfold dgV dg; rw [if_neg (by omega), if_neg (by omega), if_neg (by omega)]
    rw [H]
    have t48 : decide ((48 : Int) ≤ n) = true := decide_eq_true (by omega)
    have t57 : decide ((n : Int) ≤ 57) = false := decide_eq_false (by omega)
    have t97 : decide ((97 : Int) ≤ n) = true := decide_eq_true (by omega)
    have t102 : decide ((n : Int) ≤ 102) = true := decide_eq_true (by omega)
    have t65 : decide ((65 : Int) ≤ n) = true := decide_eq_true (by omega)
    have t70 : decide ((n : Int) ≤ 70) = false := decide_eq_false (by omega)
    clear H
    go_enter Tryd.func47, Tryd.ntmps47
    go_wp2
    go_ret
    exact ⟨rfl, rfl⟩
  · have H : dgV 10 n = -1 := by unfold dgV dg; rw [if_neg (by omega), if_neg (by omega), if_neg (by omega)]
    rw [H]
    have t48 : decide ((48 : Int) ≤ n) = true := decide_eq_true (by omega)
    have t57 : decide ((n : Int) ≤ 57) = false := decide_eq_false (by omega)
    have t97 : decide ((97 : Int) ≤ n) = true := decide_eq_true (by omega)
    have t102 : decide ((n : Int) ≤ 102) = false := decide_eq_false (by omega)
    have t65 : decide ((65 : Int) ≤ n) = true := decide_eq_true (by omega)
    have t70 : decide ((n : Int) ≤ 70) = false := decide_eq_false (by omega)
    clear H
    go_enter Tryd.func47, Tryd.ntmps47
    go_wp2
    go_ret
    exact ⟨rfl, rfl⟩
set_option maxRecDepth 1000000 in
theorem digit16 (n : Nat) (hn : n < 256) (w : World) : Calls Tryd.prog 47 #[.int .u8 n, .int .i64 16] w fun e w' => e = .returned (.int .i64 (dgV 16 n)) ∧ w = w' := by
  rcases split7 n with h | h | h | h | h | h | h
  · have H : dgV 16 n = -1 := by unfold dgV dg; rw [if_neg (by omega), if_neg (by omega), if_neg (by omega)]
    rw [H]
    have t48 : decide ((48 : Int) ≤ n) = false := decide_eq_false (by omega)
    have t57 : decide ((n : Int) ≤ 57) = true := decide_eq_true (by omega)
    have t97 : decide ((97 : Int) ≤ n) = false := decide_eq_false (by omega)
    have t102 : decide ((n : Int) ≤ 102) = true := decide_eq_true (by omega)
    have t65 : decide ((65 : Int) ≤ n) = false := decide_eq_false (by omega)
    have t70 : decide ((n : Int) ≤ 70) = true := decide_eq_true (by omega)
    clear H
    go_enter Tryd.func47, Tryd.ntmps47
    go_wp2
    go_ret
    exact ⟨rfl, rfl⟩
  · have H : dgV 16 n = (n : Int) - 48 := by unfold dgV dg; rw [if_pos h]; simp only []; omega
    rw [H]
    have t48 : decide ((48 : Int) ≤ n) = true := decide_eq_true (by omega)
    have t57 : decide ((n : Int) ≤ 57) = true := decide_eq_true (by omega)
    have t97 : decide ((97 : Int) ≤ n) = false := decide_eq_false (by omega)
    have t102 : decide ((n : Int) ≤ 102) = true := decide_eq_true (by omega)
    have t65 : decide ((65 : Int) ≤ n) = false := decide_eq_false (by omega)
    have t70 : decide ((n : Int) ≤ 70) = true := decide_eq_true (by omega)
    clear H
    go_enter Tryd.func47, Tryd.ntmps47
    go_wp2
    go_ret
    exact ⟨rfl, rfl⟩
  · have H : dgV 16 n = -1 := by unfold dgV dg; rw [if_neg (by omega), if_neg (by omega), if_neg (by omega)]
    rw [H]
    have t48 : decide ((48 : Int) ≤ n) = true := decide_eq_true (by omega)
    have t57 : decide ((n : Int) ≤ 57) = false := decide_eq_false (by omega)
    have t97 : decide ((97 : Int) ≤ n) = false := decide_eq_false (by omega)
    have t102 : decide ((n : Int) ≤ 102) = true := decide_eq_true (by omega)
    have t65 : decide ((65 : Int) ≤ n) = false := decide_eq_false (by omega)
    have t70 : decide ((n : Int) ≤ 70) = true := decide_eq_true (by omega)
    clear H
    go_enter Tryd.func47, Tryd.ntmps47
    go_wp2
    go_ret
    exact ⟨rfl, rfl⟩
  · have H : dgV 16 n = (n : Int) - 65 + 10 := by unfold dgV dg; rw [if_neg (by omega), if_neg (by omega), if_pos (by omega)]; simp only []; omega
    rw [H]
    have t48 : decide ((48 : Int) ≤ n) = true := decide_eq_true (by omega)
    have t57 : decide ((n : Int) ≤ 57) = false := decide_eq_false (by omega)
    have t97 : decide ((97 : Int) ≤ n) = false := decide_eq_false (by omega)
    have t102 : decide ((n : Int) ≤ 102) = true := decide_eq_true (by omega)
    have t65 : decide ((65 : Int) ≤ n) = true := decide_eq_true (by omega)
    have t70 : decide ((n : Int) ≤ 70) = true := decide_eq_true (by omega)
    clear H
    go_enter Tryd.func47, Tryd.ntmps47
    go_wp2
    go_ret
    exact ⟨rfl, rfl⟩
  · have H : dgV 16 n = -1 := by unfold dgV dg; rw [if_neg (by omega), if_neg (by omega), if_neg (by omega)]
    rw [H]
    have t48 : decide ((48 : Int) ≤ n) = true := decide_eq_true (by omega)
    have t57 : decide ((n : Int) ≤ 57) = false := decide_eq_false (by omega)
    have t97 : decide ((97 : Int) ≤ n) = false := decide_eq_false (by omega)
    have t102 : decide ((n : Int) ≤ 102) = true := decide_eq_true (by omega)
    have t65 : decide ((65 : Int) ≤ n) = true := decide_eq_true (by omega)
    have t70 : decide ((n : Int) ≤ 70) = false := decide_eq_false (by omega)
    clear H
    go_enter Tryd.func47, Tryd.ntmps47
    go_wp2
    go_ret
    exact ⟨rfl, rfl⟩
  · have H : dgV 16 n = (n : Int) - 97 + 10 := by unfold dgV dg; rw [if_neg (by omega), if_pos (by omega)]; simp only []; omega
    rw [H]
    have t48 : decide ((48 : Int) ≤ n) = true := decide_eq_true (by omega)
    have t57 : decide ((n : Int) ≤ 57) = false := decide_eq_false (by omega)
    have t97 : decide ((97 : Int) ≤ n) = true := decide_eq_true (by omega)
    have t102 : decide ((n : Int) ≤ 102) = true := decide_eq_true (by omega)
    have t65 : decide ((65 : Int) ≤ n) = true := decide_eq_true (by omega)
    have t70 : decide ((n : Int) ≤ 70) = false := decide_eq_false (by omega)
    clear H
    go_enter Tryd.func47, Tryd.ntmps47
    go_wp2
    go_ret
    exact ⟨rfl, rfl⟩
  · have H : dgV 16 n = -1 := by unfold dgV dg; rw [if_neg (by omega), if_neg (by omega), if_neg (by omega)]
    rw [H]
    have t48 : decide ((48 : Int) ≤ n) = true := decide_eq_true (by omega)
    have t57 : decide ((n : Int) ≤ 57) = false := decide_eq_false (by omega)
    have t97 : decide ((97 : Int) ≤ n) = true := decide_eq_true (by omega)
    have t102 : decide ((n : Int) ≤ 102) = false := decide_eq_false (by omega)
    have t65 : decide ((65 : Int) ≤ n) = true := decide_eq_true (by omega)
    have t70 : decide ((n : Int) ≤ 70) = false := decide_eq_false (by omega)
    clear H
    go_enter Tryd.func47, Tryd.ntmps47
    go_wp2
    go_ret
    exact ⟨rfl, rfl⟩
def numV (b : Nat) (l : List UInt8) : Int := if l = [] then -1 else match pu b 0 l with | some u => (u : Int) | none => -1
def NumRel (b : Nat) (s : ByteArray) (vn vi vd : Value) : Prop := ∃ k acc : Nat, vn = .int .i64 acc ∧ vi = .int .i64 k ∧ k ≤ s.size ∧ acc < 16 ^ k ∧ pu b 0 s.data.toList = pu b acc (s.data.toList.drop k)
theorem num_step {b : Nat} {s : ByteArray} {k acc d : Nat} {vn vi vd : Value} (h : acc * b + d < 16 ^ (k + 1) ∧ pu b 0 s.data.toList = pu b (acc * b + d) (s.data.toList.drop (k + 1)))
    (h1 : vn = .int .i64 (acc * b + d : Nat)) (h2 : vi = .int .i64 (k + 1 : Nat)) (hk : k < s.size) : NumRel b s vn vi vd := ⟨k + 1, _, h1, h2, hk, h.1, h.2⟩
set_option maxRecDepth 1000000 in
set_option maxHeartbeats 1000000 in
theorem number10 (s : ByteArray) (hs : s.size ≤ 7) (w : World) : Calls Tryd.prog 38 #[.string s, .int .i64 10] w fun e w' => e = .returned (.int .i64 (numV 10 s.data.toList)) ∧ w = w' := by
  have hlen := len_data s
  go_enter Tryd.func38, Tryd.ntmps38
  go_wp2
  go_loop [5, 6, 7] (fun vn vi vd => NumRel 10 s vn vi vd) (fun _ vi _ => s.size - (intOf vi).toNat)
  case atStart => exact ⟨0, 0, rfl, rfl, Nat.zero_le _, by decide, rfl⟩
  case round =>
    obtain ⟨k, acc, hvn, rfl, hk, ha, hp⟩ := hrel
    have ha7 := pow16 (k := k) (by omega)
    have ha' : acc < 268435456 := by omega
    have Ha := Lib.hid ha
    have Hp := Lib.hid hp
    clear ha hp ha7
    obtain ⟨a, hacc⟩ : ∃ a : Int, a = acc := ⟨_, rfl⟩
    rw [← hacc] at hvn
    subst hvn
    have a0 : 0 ≤ a := by omega
    have a1 : a ≤ 268435455 := by omega
    have Hacc := Lib.hid hacc
    clear hacc ha'
    by_cases hlt : k < s.size
    · have hb := byt_get s k hlt
      have hn : (s[k]'hlt).toNat < 256 := (s[k]'hlt).toNat_lt
      have hkl := Lib.hid (show k < s.data.toList.length by omega)
      rcases hd : dg 10 (byt s.data.toList k) with _ | d
      · have R := Lib.hid (pu_bad hkl.out Hp.out hd)
        have hv : dgV 10 (s[k]'hlt).toNat = -1 := by unfold dgV; rw [hb, hd]
        clear hd hb
        go_wp2_with fail
        refine (digit10 _ hn _).mono ?_
        rintro e w' ⟨rfl, rfl⟩
        rw [hv]
        go_wp2
        go_ret
        refine ⟨?_, rfl⟩
        have : numV 10 s.data.toList = -1 := by unfold numV; rw [R.out]; split <;> rfl
        rw [this]
        rfl
      · have hd16 : d < 16 := by
          unfold dg at hd
          repeat' split at hd
          all_goals first | (cases hd; omega) | cases hd
        have R := Lib.hid (pu_ok (by decide) hd16 hkl.out Ha.out Hp.out hd)
        have hv : dgV 10 (s[k]'hlt).toNat = d := by unfold dgV; rw [hb, hd]
        clear hd hb
        go_wp2_with fail
        refine (digit10 _ hn _).mono ?_
        rintro e w' ⟨rfl, rfl⟩
        rw [hv]
        go_wp2
        refine ⟨num_step R.out ?_ ?_ hlt, by simp [intOf]; omega⟩
        · rw [Hacc.out]; go_num
        · go_num
    · have hl : s.data.toList.drop k = [] := drop_end hlt
      have R := Lib.hid (show pu 10 0 s.data.toList = some acc by rw [Hp.out, hl]; rfl)
      clear hl
      by_cases he : s.data.toList = []
      · have hemp : s.toList.isEmpty = true := by rw [ByteArray.toList_eq, he]; rfl
        have heq : (s.toList == []) = true := by rw [ByteArray.toList_eq, he]; rfl
        have V := Lib.hid (show numV 10 s.data.toList = -1 by unfold numV; rw [if_pos he])
        have hs0 : s.size = 0 := by rw [← hlen, he]; rfl
        clear hlen he
        go_wp2
        go_ret
        refine ⟨?_, rfl⟩
        rw [V.out]
        rfl
      · have hemp : s.toList.isEmpty = false := by
          rw [ByteArray.toList_eq]
          cases hl : s.data.toList with
          | nil => exact absurd hl he
          | cons x r => rfl
        have heq : (s.toList == []) = false := by
          rw [ByteArray.toList_eq]
          cases hl : s.data.toList with
          | nil => exact absurd hl he
          | cons x r => rfl
        have V := Lib.hid (show numV 10 s.data.toList = acc by unfold numV; rw [if_neg he, R.out])
        clear he
        go_wp2
        go_ret
        refine ⟨?_, rfl⟩
        rw [V.out, ← Hacc.out]
        rfl
set_option maxRecDepth 1000000 in
set_option maxHeartbeats 1000000 in
theorem number16 (s : ByteArray) (hs : s.size ≤ 7) (w : World) : Calls Tryd.prog 38 #[.string s, .int .i64 16] w fun e w' => e = .returned (.int .i64 (numV 16 s.data.toList)) ∧ w = w' := by
  have hlen := len_data s
  go_enter Tryd.func38, Tryd.ntmps38
  go_wp2
  go_loop [5, 6, 7] (fun vn vi vd => NumRel 16 s vn vi vd) (fun _ vi _ => s.size - (intOf vi).toNat)
  case atStart => exact ⟨0, 0, rfl, rfl, Nat.zero_le _, by decide, rfl⟩
  case round =>
    obtain ⟨k, acc, hvn, rfl, hk, ha, hp⟩ := hrel
    have ha7 := pow16 (k := k) (by omega)
    have ha' : acc < 268435456 := by omega
    have Ha := Lib.hid ha
    have Hp := Lib.hid hp
    clear ha hp ha7
    obtain ⟨a, hacc⟩ : ∃ a : Int, a = acc := ⟨_, rfl⟩
    rw [← hacc] at hvn
    subst hvn
    have a0 : 0 ≤ a := by omega
    have a1 : a ≤ 268435455 := by omega
    have Hacc := Lib.hid hacc
    clear hacc ha'
    by_cases hlt : k < s.size
    · have hb := byt_get s k hlt
      have hn : (s[k]'hlt).toNat < 256 := (s[k]'hlt).toNat_lt
      have hkl := Lib.hid (show k < s.data.toList.length by omega)
      rcases hd : dg 16 (byt s.data.toList k) with _ | d
      · have R := Lib.hid (pu_bad hkl.out Hp.out hd)
        have hv : dgV 16 (s[k]'hlt).toNat = -1 := by unfold dgV; rw [hb, hd]
        clear hd hb
        go_wp2_with fail
        refine (digit16 _ hn _).mono ?_
        rintro e w' ⟨rfl, rfl⟩
        rw [hv]
        go_wp2
        go_ret
        refine ⟨?_, rfl⟩
        have : numV 16 s.data.toList = -1 := by unfold numV; rw [R.out]; split <;> rfl
        rw [this]
        rfl
      · have hd16 : d < 16 := by
          unfold dg at hd
          repeat' split at hd
          all_goals first | (cases hd; omega) | cases hd
        have R := Lib.hid (pu_ok (by decide) hd16 hkl.out Ha.out Hp.out hd)
        have hv : dgV 16 (s[k]'hlt).toNat = d := by unfold dgV; rw [hb, hd]
        clear hd hb
        go_wp2_with fail
        refine (digit16 _ hn _).mono ?_
        rintro e w' ⟨rfl, rfl⟩
        rw [hv]
        go_wp2
        refine ⟨num_step R.out ?_ ?_ hlt, by simp [intOf]; omega⟩
        · rw [Hacc.out]; go_num
        · go_num
    · have hl : s.data.toList.drop k = [] := drop_end hlt
      have R := Lib.hid (show pu 16 0 s.data.toList = some acc by rw [Hp.out, hl]; rfl)
      clear hl
      by_cases he : s.data.toList = []
      · have hemp : s.toList.isEmpty = true := by rw [ByteArray.toList_eq, he]; rfl
        have heq : (s.toList == []) = true := by rw [ByteArray.toList_eq, he]; rfl
        have V := Lib.hid (show numV 16 s.data.toList = -1 by unfold numV; rw [if_pos he])
        have hs0 : s.size = 0 := by rw [← hlen, he]; rfl
        clear hlen he
        go_wp2
        go_ret
        refine ⟨?_, rfl⟩
        rw [V.out]
        rfl
      · have hemp : s.toList.isEmpty = false := by
          rw [ByteArray.toList_eq]
          cases hl : s.data.toList with
          | nil => exact absurd hl he
          | cons x r => rfl
        have heq : (s.toList == []) = false := by
          rw [ByteArray.toList_eq]
          cases hl : s.data.toList with
          | nil => exact absurd hl he
          | cons x r => rfl
        have V := Lib.hid (show numV 16 s.data.toList = acc by unfold numV; rw [if_neg he, R.out])
        clear he
        go_wp2
        go_ret
        refine ⟨?_, rfl⟩
        rw [V.out, ← Hacc.out]
        rfl
end Go.Proofs.YtnkmlgkppaglkaaDoor
