/- read, Unescape. -/
import Derived.Test.YtnkmlgkppaglkaaDoorEj
namespace Go.Proofs.YtnkmlgkppaglkaaDoor
open Go.RowKit
set_option linter.unusedVariables false

def rd (st : Nat) (l : List UInt8) : Rd :=
  if byt l 0 = 92 ∧ st ≠ 4 then rdB l else if byt l 0 = 10 ∧ st ≠ 4 then ([], 0) else if byt l 0 = 34 ∧ st ≠ 1 then ([], 0)
  else if byt l 0 = 38 ∧ st = 4 then rdE l else if byt l 0 = 60 ∧ st = 4 then ([], 0) else (l.take 1, 1)

set_option maxRecDepth 1000000 in
set_option maxHeartbeats 2000000 in
theorem read_any (st : Nat) (s : ByteArray) (hs : s.size ≤ 1099511627776) (hi : 0 < s.size) (w : World) (E : Env w) (hst : st = 1 ∨ st = 2 ∨ st = 3 ∨ st = 4) :
    Calls Tryd.prog 28 #[.int .i64 st, .string s] w (RdPost w (rd st s.data.toList)) := by
  have hb := byt_get s 0 hi
  generalize hU : rd st s.data.toList = R
  unfold rd at hU
  rw [← hb] at hU
  have hx : (s.extract 0 1).data.toList = s.data.toList.take 1 := ext_take s 0 1
  have hX := Lib.hid (str_ext hx)
  clear hx hb
  by_cases a4 : st = 4
  · have s4 : (st : Int) = 4 := by omega
    have t4 : ((st : Int) == 4) = true := by rw [s4]; rfl
    have u4 : ((st : Int) != 4) = false := by rw [s4]; rfl
    have u1 : ((st : Int) != 1) = true := by rw [s4]; rfl
    have n1 : st ≠ 1 := by omega
    have nn4 : ¬ st ≠ 4 := fun h => h a4
    clear s4
    by_cases c34 : (s[0]'hi).toNat = 34
    · have q : ((s[0]'hi).toNat : Int) = 34 := by omega
      rw [if_neg (fun h => nn4 h.2), if_neg (fun h => nn4 h.2), if_pos ⟨c34, n1⟩] at hU
      have H := Lib.hid hU.symm
      rw [H.out]
      clear H hU a4 hst n1 nn4 c34
      go_enter Tryd.func28, Tryd.ntmps28
      go_wp2
      go_ret2
      exact ⟨rfl, Below.refl _ _⟩
    · have i34 : ¬ ((s[0]'hi).toNat : Int) = 34 := by omega
      rw [if_neg (fun h => nn4 h.2), if_neg (fun h => nn4 h.2), if_neg (fun h => c34 h.1)] at hU
      by_cases c38 : (s[0]'hi).toNat = 38
      · have q : ((s[0]'hi).toNat : Int) = 38 := by omega
        rw [if_pos ⟨c38, a4⟩] at hU
        have H := Lib.hid hU.symm
        rw [H.out]
        clear H hU a4 hst n1 nn4 c34 c38
        go_enter Tryd.func28, Tryd.ntmps28
        go_wp2_with fail
        refine (readEntity_any s (by omega) hs _ E).mono ?_
        rintro e w1 ⟨rfl, D⟩
        go_wp2
        go_ret2
        exact ⟨rfl, D⟩
      · have i38 : ¬ ((s[0]'hi).toNat : Int) = 38 := by omega
        rw [if_neg (fun h => c38 h.1)] at hU
        by_cases c60 : (s[0]'hi).toNat = 60
        · have q : ((s[0]'hi).toNat : Int) = 60 := by omega
          rw [if_pos ⟨c60, a4⟩] at hU
          have H := Lib.hid hU.symm
          rw [H.out]
          clear H hU a4 hst n1 nn4 c34 c38 c60
          go_enter Tryd.func28, Tryd.ntmps28
          go_wp2
          go_ret2
          exact ⟨rfl, Below.refl _ _⟩
        · have i60 : ¬ ((s[0]'hi).toNat : Int) = 60 := by omega
          rw [if_neg (fun h => c60 h.1)] at hU
          have H := Lib.hid hU.symm
          clear hU a4 hst n1 nn4 c34 c38 c60
          go_enter Tryd.func28, Tryd.ntmps28
          go_wp2
          all_goals go_ret2
          all_goals refine ⟨?_, Below.refl _ _⟩
          all_goals rw [H.out]
          all_goals exact ret_sn hX.out rfl
  · have i4 : ¬ (st : Int) = 4 := by omega
    by_cases c92 : (s[0]'hi).toNat = 92
    · have q : ((s[0]'hi).toNat : Int) = 92 := by omega
      rw [if_pos ⟨c92, a4⟩] at hU
      have H := Lib.hid hU.symm
      rw [H.out]
      clear H hU hst a4 c92
      go_enter Tryd.func28, Tryd.ntmps28
      go_wp2_with fail
      refine (readBackslash_any s hs _ E).mono ?_
      rintro e w1 ⟨rfl, D⟩
      go_wp2
      go_ret2
      exact ⟨rfl, D⟩
    · have i92 : ¬ ((s[0]'hi).toNat : Int) = 92 := by omega
      rw [if_neg (fun h => c92 h.1)] at hU
      by_cases c10 : (s[0]'hi).toNat = 10
      · have q : ((s[0]'hi).toNat : Int) = 10 := by omega
        rw [if_pos ⟨c10, a4⟩] at hU
        have H := Lib.hid hU.symm
        rw [H.out]
        clear H hU hst a4 c92 c10
        go_enter Tryd.func28, Tryd.ntmps28
        go_wp2
        go_ret2
        exact ⟨rfl, Below.refl _ _⟩
      · have i10 : ¬ ((s[0]'hi).toNat : Int) = 10 := by omega
        rw [if_neg (fun h => c10 h.1)] at hU
        by_cases c34 : (s[0]'hi).toNat = 34 ∧ st ≠ 1
        · have q : ((s[0]'hi).toNat : Int) = 34 := by omega
          have i1 : ¬ (st : Int) = 1 := by omega
          rw [if_pos c34] at hU
          have H := Lib.hid hU.symm
          rw [H.out]
          clear H hU hst a4 c92 c10 c34
          go_enter Tryd.func28, Tryd.ntmps28
          go_wp2
          go_ret2
          exact ⟨rfl, Below.refl _ _⟩
        · rw [if_neg c34, if_neg (fun h => a4 h.2), if_neg (fun h => a4 h.2)] at hU
          have H := Lib.hid hU.symm
          clear hU
          by_cases d34 : (s[0]'hi).toNat = 34
          · have q : ((s[0]'hi).toNat : Int) = 34 := by omega
            have i1 : ((st : Int) != 1) = false := by
              have : (st : Int) = 1 := by omega
              rw [this]; rfl
            clear hst a4 c92 c10 c34 d34
            go_enter Tryd.func28, Tryd.ntmps28
            go_wp2
            all_goals go_ret2
            all_goals refine ⟨?_, Below.refl _ _⟩
            all_goals rw [H.out]
            all_goals exact ret_sn hX.out rfl
          · have i34 : ¬ ((s[0]'hi).toNat : Int) = 34 := by omega
            have i4' : ((st : Int) == 4) = false := by simpa using i4
            clear hst a4 c92 c10 c34 d34
            go_enter Tryd.func28, Tryd.ntmps28
            go_wp2
            all_goals go_ret2
            all_goals refine ⟨?_, Below.refl _ _⟩
            all_goals rw [H.out]
            all_goals exact ret_sn hX.out rfl
end Go.Proofs.YtnkmlgkppaglkaaDoor
