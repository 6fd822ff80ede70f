/- End (both), Style. -/
import Derived.Test.YtnkmlgkppaglkaaDoorEl
namespace Go.Proofs.YtnkmlgkppaglkaaDoor
open Go.RowKit
set_option linter.unusedVariables false

theorem style_any (st : Int) (w : World) : Calls Tryd.prog 15 #[.int .i64 st] w fun e w' => e = .returned (.bool (isSt st)) ∧ w = w' := by
  by_cases a : 1 ≤ st
  · by_cases b : st ≤ 4
    · have h : isSt st = true := by unfold isSt; simp; omega
      rw [h]; clear h
      go_enter Tryd.func15, Tryd.ntmps15
      go_wp2
      go_ret
      exact ⟨rfl, rfl⟩
    · have h : isSt st = false := by unfold isSt; simp; omega
      rw [h]; clear h
      go_enter Tryd.func15, Tryd.ntmps15
      go_wp2
      go_ret
      exact ⟨rfl, rfl⟩
  · have h : isSt st = false := by unfold isSt; simp; omega
    rw [h]; clear h
    go_enter Tryd.func15, Tryd.ntmps15
    go_wp2
    go_ret
    exact ⟨rfl, rfl⟩

/-- Where the first delimiter lies. -/
def endF (st d : Nat) : List UInt8 → Option Nat
  | [] => none
  | [c] => if c.toNat = d then some 0 else none
  | c :: x :: r => if c.toNat = d then some 0 else if c.toNat = 92 ∧ st ≠ 4 then (endF st d r).map (· + 2) else (endF st d (x :: r)).map (· + 1)
def endV (k : Nat) : Option Nat → Int
  | some j => ((k + j : Nat) : Int)
  | none => -1
theorem endV_map (k a : Nat) (o : Option Nat) : endV k (o.map (· + a)) = endV (k + a) o := by
  cases o with
  | none => rfl
  | some j => simp [endV]; omega
theorem drop_at {l : List UInt8} {k : Nat} (h : k < l.length) : ∃ c, l.drop k = c :: l.drop (k + 1) ∧ c.toNat = byt l k := ⟨l[k], List.drop_eq_getElem_cons h, by simp [byt, List.getElem?_eq_getElem h]⟩
theorem endF_hit {st d k : Nat} {l : List UInt8} (h : k < l.length) (hc : byt l k = d) : endF st d (l.drop k) = some 0 := by
  obtain ⟨c, e, hb⟩ := drop_at h
  rw [e]
  cases l.drop (k + 1) <;> simp [endF, hb, hc]
theorem endF_skip {st d k : Nat} {l : List UInt8} (h : k < l.length) (hc : byt l k ≠ d) (h92 : byt l k = 92) (h4 : st ≠ 4) : endV k (endF st d (l.drop k)) = endV (k + 2) (endF st d (l.drop (k + 2))) := by
  obtain ⟨c, e, hb⟩ := drop_at h
  rw [e, ← endV_map]
  congr 1
  have e2 : l.drop (k + 2) = (l.drop (k + 1)).drop 1 := by rw [List.drop_drop]
  rw [e2]
  have hd : ¬ (92 : Nat) = d := fun x => hc (h92.trans x)
  cases l.drop (k + 1) with
  | nil => simp [endF, hb, h92, hd]
  | cons x r => simp [endF, hb, h92, h4, hd]
theorem endF_step {st d k : Nat} {l : List UInt8} (h : k < l.length) (hc : byt l k ≠ d) (h92 : ¬ (byt l k = 92 ∧ st ≠ 4)) : endV k (endF st d (l.drop k)) = endV (k + 1) (endF st d (l.drop (k + 1))) := by
  obtain ⟨c, e, hb⟩ := drop_at h
  rw [e, ← endV_map]
  congr 1
  cases l.drop (k + 1) with
  | nil => simp [endF, hb, hc]
  | cons x r =>
    simp only [endF, hb]
    rw [if_neg hc, if_neg h92]
def EndRel (st d : Nat) (s : ByteArray) (i : Value) : Prop :=
  ∃ k : Nat, i = .int .i64 k ∧ k ≤ s.size + 1 ∧ endV 0 (endF st d s.data.toList) = endV k (endF st d (s.data.toList.drop k))

set_option maxRecDepth 1000000 in
set_option maxHeartbeats 1000000 in
theorem end_st (st : Nat) (s : ByteArray) (d : Nat) (w : World) (hs : s.size ≤ 1099511627776) (hst : st = 1 ∨ st = 2 ∨ st = 3 ∨ st = 4) :
    Calls Tryd.prog 16 #[.int .i64 st, .string s, .int .u8 d] w fun e w' => e = .returned (.int .i64 (endV 0 (endF st d s.data.toList))) ∧ w = w' := by
  have his : isSt st = true := by unfold isSt; simp; omega
  go_enter Tryd.func16, Tryd.ntmps16
  go_wp2_with fail
  refine (isStyle_any _ _).mono ?_
  rintro e w' ⟨rfl, rfl⟩
  rw [his]
  clear his
  go_wp2
  go_loop [7] (fun i => EndRel st d s i) (fun i => s.size + 1 - (intOf i).toNat)
  case atStart => exact ⟨0, rfl, Nat.zero_le _, by rw [List.drop_zero]⟩
  case round =>
    obtain ⟨k, rfl, hk, hu⟩ := hrel
    have hU := Lib.hid hu
    clear hu
    by_cases hlt : k < s.size
    · have hb := byt_get s k hlt
      by_cases cd : (s[k]'hlt).toNat = d
      · have R := Lib.hid (endF_hit (st := st) (d := d) (l := s.data.toList) (k := k) (by rw [len_data]; exact hlt) (hb.symm.trans cd))
        have id : ((s[k]'hlt).toNat : Int) = d := by omega
        have id' : (((s[k]'hlt).toNat : Int) == d) = true := by rw [id]; simp
        clear hb cd id
        go_wp2
        go_ret
        refine ⟨?_, rfl⟩
        rw [hU.out, R.out]
        simp [endV]
      · have id : ¬ ((s[k]'hlt).toNat : Int) = d := by omega
        by_cases c92 : (s[k]'hlt).toNat = 92 ∧ st ≠ 4
        · have R := Lib.hid (endF_skip (st := st) (d := d) (l := s.data.toList) (k := k) (by rw [len_data]; exact hlt) (by rw [← hb]; exact cd) (by rw [← hb]; exact c92.1) c92.2)
          have q : (((s[k]'hlt).toNat : Int) == 92) = true := by rw [c92.1]; rfl
          have i4 : ((st : Int) != 4) = true := by
            have := c92.2
            simp; omega
          clear hb cd c92 hst
          go_wp2
          refine ⟨⟨k + 2, by go_num, by omega, hU.out.trans R.out⟩, by simp [intOf]; omega⟩
        · have R := Lib.hid (endF_step (st := st) (d := d) (l := s.data.toList) (k := k) (by rw [len_data]; exact hlt) (by rw [← hb]; exact cd) (by rw [← hb]; exact c92))
          have q : ((((s[k]'hlt).toNat : Int) == 92) && ((st : Int) != 4)) = false := by
            by_cases x : (s[k]'hlt).toNat = 92
            · have : st = 4 := by omega
              rw [this]; simp
            · have : ¬ ((s[k]'hlt).toNat : Int) = 92 := by omega
              simp [this]
          have q' : (((st : Int) != 4) && (((s[k]'hlt).toNat : Int) == 92)) = false := by rw [Bool.and_comm]; exact q
          by_cases x : (s[k]'hlt).toNat = 92
          · have y : (((s[k]'hlt).toNat : Int) == 92) = true := by rw [x]; rfl
            have z : ((st : Int) != 4) = false := by
              have : (st : Int) = 4 := by omega
              rw [this]; rfl
            clear hb cd c92 hst q q' x
            go_wp2
            refine ⟨⟨k + 1, by go_num, by omega, hU.out.trans R.out⟩, by simp [intOf]; omega⟩
          · have y : ¬ ((s[k]'hlt).toNat : Int) = 92 := by omega
            by_cases z4 : st = 4
            · have z : ((st : Int) != 4) = false := by rw [z4]; rfl
              clear hb cd c92 hst q q' x z4
              go_wp2
              refine ⟨⟨k + 1, by go_num, by omega, hU.out.trans R.out⟩, by simp [intOf]; omega⟩
            · have z : ((st : Int) != 4) = true := by simp; omega
              clear hb cd c92 hst q q' x z4
              go_wp2
              refine ⟨⟨k + 1, by go_num, by omega, hU.out.trans R.out⟩, by simp [intOf]; omega⟩
    · go_wp2
      go_ret
      refine ⟨?_, rfl⟩
      rw [hU.out, drop_end hlt]
      rfl
theorem end_no (st : Int) (s : ByteArray) (d : Nat) (w : World) (hst : isSt st = false) :
    Calls Tryd.prog 16 #[.int .i64 st, .string s, .int .u8 d] w fun e w' => e = .returned (.int .i64 (-1)) ∧ w = w' := by
  go_enter Tryd.func16, Tryd.ntmps16
  go_wp2_with fail
  refine (isStyle_any _ _).mono ?_
  rintro e w' ⟨rfl, rfl⟩
  rw [hst]
  clear hst
  go_wp2
  go_ret
  exact ⟨rfl, rfl⟩

set_option maxRecDepth 1000000 in
set_option maxHeartbeats 1000000 in
theorem refEnd_st (st : Nat) (s : ByteArray) (d : Nat) (w : World) (hs : s.size ≤ 1099511627776) (hst : st = 1 ∨ st = 2 ∨ st = 3 ∨ st = 4) :
    Calls Tryd.prog 17 #[.int .i64 st, .string s, .int .u8 d] w fun e w' => e = .returned (.int .i64 (endV 0 (endF st d s.data.toList))) ∧ w = w' := by
  have his : isSt st = true := by unfold isSt; simp; omega
  go_enter Tryd.func17, Tryd.ntmps17
  go_wp2_with fail
  refine (style_any _ _).mono ?_
  rintro e w' ⟨rfl, rfl⟩
  rw [his]
  clear his
  go_wp2
  go_loop [7] (fun i => EndRel st d s i) (fun i => s.size + 1 - (intOf i).toNat)
  case atStart => exact ⟨0, rfl, Nat.zero_le _, by rw [List.drop_zero]⟩
  case round =>
    obtain ⟨k, rfl, hk, hu⟩ := hrel
    have hU := Lib.hid hu
    clear hu
    by_cases hlt : k < s.size
    · have hb := byt_get s k hlt
      by_cases cd : (s[k]'hlt).toNat = d
      · have R := Lib.hid (endF_hit (st := st) (d := d) (l := s.data.toList) (k := k) (by rw [len_data]; exact hlt) (hb.symm.trans cd))
        have id : ((s[k]'hlt).toNat : Int) = d := by omega
        have id' : (((s[k]'hlt).toNat : Int) == d) = true := by rw [id]; simp
        clear hb cd id
        go_wp2
        go_ret
        refine ⟨?_, rfl⟩
        rw [hU.out, R.out]
        simp [endV]
      · have id : ¬ ((s[k]'hlt).toNat : Int) = d := by omega
        by_cases c92 : (s[k]'hlt).toNat = 92 ∧ st ≠ 4
        · have R := Lib.hid (endF_skip (st := st) (d := d) (l := s.data.toList) (k := k) (by rw [len_data]; exact hlt) (by rw [← hb]; exact cd) (by rw [← hb]; exact c92.1) c92.2)
          have q : (((s[k]'hlt).toNat : Int) == 92) = true := by rw [c92.1]; rfl
          have i4 : ((st : Int) != 4) = true := by
            have := c92.2
            simp; omega
          clear hb cd c92 hst
          go_wp2
          refine ⟨⟨k + 2, by go_num, by omega, hU.out.trans R.out⟩, by simp [intOf]; omega⟩
        · have R := Lib.hid (endF_step (st := st) (d := d) (l := s.data.toList) (k := k) (by rw [len_data]; exact hlt) (by rw [← hb]; exact cd) (by rw [← hb]; exact c92))
          have q : ((((s[k]'hlt).toNat : Int) == 92) && ((st : Int) != 4)) = false := by
            by_cases x : (s[k]'hlt).toNat = 92
            · have : st = 4 := by omega
              rw [this]; simp
            · have : ¬ ((s[k]'hlt).toNat : Int) = 92 := by omega
              simp [this]
          have q' : (((st : Int) != 4) && (((s[k]'hlt).toNat : Int) == 92)) = false := by rw [Bool.and_comm]; exact q
          by_cases x : (s[k]'hlt).toNat = 92
          · have y : (((s[k]'hlt).toNat : Int) == 92) = true := by rw [x]; rfl
            have z : ((st : Int) != 4) = false := by
              have : (st : Int) = 4 := by omega
              rw [this]; rfl
            clear hb cd c92 hst q q' x
            go_wp2
            refine ⟨⟨k + 1, by go_num, by omega, hU.out.trans R.out⟩, by simp [intOf]; omega⟩
          · have y : ¬ ((s[k]'hlt).toNat : Int) = 92 := by omega
            by_cases z4 : st = 4
            · have z : ((st : Int) != 4) = false := by rw [z4]; rfl
              clear hb cd c92 hst q q' x z4
              go_wp2
              refine ⟨⟨k + 1, by go_num, by omega, hU.out.trans R.out⟩, by simp [intOf]; omega⟩
            · have z : ((st : Int) != 4) = true := by simp; omega
              clear hb cd c92 hst q q' x z4
              go_wp2
              refine ⟨⟨k + 1, by go_num, by omega, hU.out.trans R.out⟩, by simp [intOf]; omega⟩
    · go_wp2
      go_ret
      refine ⟨?_, rfl⟩
      rw [hU.out, drop_end hlt]
      rfl
theorem refEnd_no (st : Int) (s : ByteArray) (d : Nat) (w : World) (hst : isSt st = false) :
    Calls Tryd.prog 17 #[.int .i64 st, .string s, .int .u8 d] w fun e w' => e = .returned (.int .i64 (-1)) ∧ w = w' := by
  go_enter Tryd.func17, Tryd.ntmps17
  go_wp2_with fail
  refine (style_any _ _).mono ?_
  rintro e w' ⟨rfl, rfl⟩
  rw [hst]
  clear hst
  go_wp2
  go_ret
  exact ⟨rfl, rfl⟩
end Go.Proofs.YtnkmlgkppaglkaaDoor
