/- readEntity, readBackslash, read. -/
import Derived.Test.YtnkmlgkppaglkaaDoorEi
namespace Go.Proofs.YtnkmlgkppaglkaaDoor
open Go.RowKit
set_option linter.unusedVariables false

/-- What a sequence stands for, and its size. -/
abbrev Rd := List UInt8 × Nat
def RdPost (w : World) (p : Rd) (e : Ending) (w' : World) : Prop := e = .returned (.tuple #[.string ⟨p.1.toArray⟩, .int .i64 p.2]) ∧ Below w.heap.size w w'
theorem ret_sn {a b : ByteArray} {m n : Int} (h : a = b) (k : m = n) : Ending.returned (.tuple #[.string a, .int .i64 m]) = .returned (.tuple #[.string b, .int .i64 n]) := by rw [h, k]
theorem ext_take (s : ByteArray) (a b : Nat) : (s.extract a b).data.toList = (s.data.toList.drop a).take (b - a) := by
  simp [List.extract]
def rdE (l : List UInt8) : Rd := if Lib.indexByte (l.drop 1) 59 = -1 then ([], 0) else (enL ((l.drop 1).take (Lib.indexByte (l.drop 1) 59).toNat), (Lib.indexByte (l.drop 1) 59).toNat + 2)

set_option maxRecDepth 1000000 in
theorem readEntity_any (s : ByteArray) (h1 : 1 ≤ s.size) (hs : s.size ≤ 1099511627776) (w : World) (E : Env w) :
    Calls Tryd.prog 37 #[.string s] w (RdPost w (rdE s.data.toList)) := by
  have hx : (s.extract 1 s.size).data.toList = s.data.toList.drop 1 := ext_data s 1
  have hxs : (s.extract 1 s.size).size = s.size - 1 := by simp
  go_enter Tryd.func37, Tryd.ntmps37
  go_wp2_with fail
  refine (cut_any (s.extract 1 s.size) (by omega) _).mono ?_
  rintro e w1 ⟨⟨k, h, hk, rfl⟩ | ⟨h, rfl⟩, D⟩
  · rw [hx] at h
    have H := Lib.hid (show rdE s.data.toList = (enL ((s.data.toList.drop 1).take k), k + 2) by unfold rdE; rw [h, if_neg (by omega)]; rfl)
    have hn : ((s.extract 1 s.size).extract 0 k).data.toList = (s.data.toList.drop 1).take k := by rw [ext_take, List.drop_zero, hx]; rfl
    have hns : ((s.extract 1 s.size).extract 0 k).size = k := by rw [← len_data, hn, List.length_take, List.length_drop, len_data]; omega
    generalize (s.extract 1 s.size).extract 0 k = nm at hn hns
    generalize (s.extract 1 s.size).extract (k + 1) (s.extract 1 s.size).size = rs
    have hk' : k < 1099511627776 := by omega
    have hc := entity_any nm w1 (E.below D)
    rw [hn] at hc
    generalize hq : (s.data.toList.drop 1).take k = q at hn hc
    have Hq := Lib.hid hq
    clear hq
    clear hx hxs h hn
    go_wp2_with fail
    refine hc.mono ?_
    rintro e w2 ⟨rfl, D2⟩
    go_wp2
    go_ret2
    refine ⟨?_, D.trans (D2.mono D.size)⟩
    rw [H.out, Hq.out]
    exact ret_sn rfl (by omega)
  · rw [hx] at h
    have H := Lib.hid (show rdE s.data.toList = ([], 0) by unfold rdE; rw [h, if_pos rfl])
    clear h
    go_wp2
    go_ret2
    refine ⟨?_, D⟩
    rw [H.out]
    rfl

def isSelf (c : Nat) : Bool := c == 92 || c == 34 || c == 61 || c == 58 || c == 35 || c == 33 || c == 123 || c == 125 || c == 32
def rdB (l : List UInt8) : Rd :=
  if l.length < 2 then ([], 0) else if byt l 1 = 110 then ([10], 2) else if byt l 1 = 114 then ([13], 2) else if byt l 1 = 116 then ([9], 2)
  else if isSelf (byt l 1) = true then ((l.drop 1).take 1, 2)
  else if byt l 1 = 120 then (if 4 ≤ l.length ∧ byt l 2 ≤ 55 then (charL 16 ((l.drop 2).take 2), 4) else ([], 0))
  else if byt l 1 = 117 then (if 6 ≤ l.length then (charL 16 ((l.drop 2).take 4), 6) else ([], 0)) else ([], 0)
theorem character_x (b : Nat) (s : ByteArray) (i j : Nat) (h : j - i ≤ 7) (w : World) (E : Env w) (hb : b = 10 ∨ b = 16) :
    Calls Tryd.prog 44 #[.string (s.extract i j), .int .i64 b] w (StrPost w (charL b ((s.data.toList.drop i).take (j - i)))) := by
  have hsz : (s.extract i j).size ≤ 7 := by rw [← len_data, ext_take, List.length_take]; omega
  have := character_any b (s.extract i j) hsz w E hb
  rw [ext_take] at this
  exact this

set_option maxRecDepth 1000000 in
set_option maxHeartbeats 2000000 in
theorem readBackslash_any (s : ByteArray) (hs : s.size ≤ 1099511627776) (w : World) (E : Env w) :
    Calls Tryd.prog 36 #[.string s] w (RdPost w (rdB s.data.toList)) := by
  have hlen := len_data s
  by_cases h2 : s.size < 2
  · have H := Lib.hid (show rdB s.data.toList = ([], 0) by unfold rdB; rw [if_pos (by omega)])
    rw [H.out]
    clear H hlen
    go_enter Tryd.func36, Tryd.ntmps36
    go_wp2
    go_ret2
    exact ⟨rfl, Below.refl _ _⟩
  have hi : 1 < s.size := by omega
  have hb := byt_get s 1 hi
  have hU : rdB s.data.toList = if byt s.data.toList 1 = 110 then ([10], 2) else if byt s.data.toList 1 = 114 then ([13], 2) else if byt s.data.toList 1 = 116 then ([9], 2)
      else if isSelf (byt s.data.toList 1) = true then ((s.data.toList.drop 1).take 1, 2)
      else if byt s.data.toList 1 = 120 then (if 4 ≤ s.size ∧ byt s.data.toList 2 ≤ 55 then (charL 16 ((s.data.toList.drop 2).take 2), 4) else ([], 0))
      else if byt s.data.toList 1 = 117 then (if 6 ≤ s.size then (charL 16 ((s.data.toList.drop 2).take 4), 6) else ([], 0)) else ([], 0) := by
    unfold rdB
    rw [if_neg (by omega), hlen]
  rw [← hb] at hU
  by_cases c0 : (s[1]'hi).toNat = 110
  · have H := Lib.hid (show rdB s.data.toList = ([10], 2) by rw [hU]; simp [isSelf, c0])
    rw [H.out]
    have q : ((s[1]'hi).toNat : Int) = 110 := by omega
    clear H hU hb hlen
    go_enter Tryd.func36, Tryd.ntmps36
    go_wp2
    go_ret2
    exact ⟨rfl, Below.refl _ _⟩
  have i0 : ¬ ((s[1]'hi).toNat : Int) = 110 := by omega
  by_cases c1 : (s[1]'hi).toNat = 114
  · have H := Lib.hid (show rdB s.data.toList = ([13], 2) by rw [hU]; simp [isSelf, c1])
    rw [H.out]
    have q : ((s[1]'hi).toNat : Int) = 114 := by omega
    clear H hU hb hlen
    go_enter Tryd.func36, Tryd.ntmps36
    go_wp2
    go_ret2
    exact ⟨rfl, Below.refl _ _⟩
  have i1 : ¬ ((s[1]'hi).toNat : Int) = 114 := by omega
  by_cases c2 : (s[1]'hi).toNat = 116
  · have H := Lib.hid (show rdB s.data.toList = ([9], 2) by rw [hU]; simp [isSelf, c2])
    rw [H.out]
    have q : ((s[1]'hi).toNat : Int) = 116 := by omega
    clear H hU hb hlen
    go_enter Tryd.func36, Tryd.ntmps36
    go_wp2
    go_ret2
    exact ⟨rfl, Below.refl _ _⟩
  have i2 : ¬ ((s[1]'hi).toNat : Int) = 116 := by omega
  by_cases c3 : (s[1]'hi).toNat = 92
  · have H := Lib.hid (show rdB s.data.toList = ((s.data.toList.drop 1).take 1, 2) by rw [hU]; simp [isSelf, c3])
    rw [H.out]
    have q : ((s[1]'hi).toNat : Int) = 92 := by omega
    clear H hU hb hlen
    go_enter Tryd.func36, Tryd.ntmps36
    go_wp2
    go_ret2
    exact ⟨ret_sn (str_ext (ext_take s 1 2)) rfl, Below.refl _ _⟩
  have i3 : ¬ ((s[1]'hi).toNat : Int) = 92 := by omega
  by_cases c4 : (s[1]'hi).toNat = 34
  · have H := Lib.hid (show rdB s.data.toList = ((s.data.toList.drop 1).take 1, 2) by rw [hU]; simp [isSelf, c4])
    rw [H.out]
    have q : ((s[1]'hi).toNat : Int) = 34 := by omega
    clear H hU hb hlen
    go_enter Tryd.func36, Tryd.ntmps36
    go_wp2
    go_ret2
    exact ⟨ret_sn (str_ext (ext_take s 1 2)) rfl, Below.refl _ _⟩
  have i4 : ¬ ((s[1]'hi).toNat : Int) = 34 := by omega
  by_cases c5 : (s[1]'hi).toNat = 61
  · have H := Lib.hid (show rdB s.data.toList = ((s.data.toList.drop 1).take 1, 2) by rw [hU]; simp [isSelf, c5])
    rw [H.out]
    have q : ((s[1]'hi).toNat : Int) = 61 := by omega
    clear H hU hb hlen
    go_enter Tryd.func36, Tryd.ntmps36
    go_wp2
    go_ret2
    exact ⟨ret_sn (str_ext (ext_take s 1 2)) rfl, Below.refl _ _⟩
  have i5 : ¬ ((s[1]'hi).toNat : Int) = 61 := by omega
  by_cases c6 : (s[1]'hi).toNat = 58
  · have H := Lib.hid (show rdB s.data.toList = ((s.data.toList.drop 1).take 1, 2) by rw [hU]; simp [isSelf, c6])
    rw [H.out]
    have q : ((s[1]'hi).toNat : Int) = 58 := by omega
    clear H hU hb hlen
    go_enter Tryd.func36, Tryd.ntmps36
    go_wp2
    go_ret2
    exact ⟨ret_sn (str_ext (ext_take s 1 2)) rfl, Below.refl _ _⟩
  have i6 : ¬ ((s[1]'hi).toNat : Int) = 58 := by omega
  by_cases c7 : (s[1]'hi).toNat = 35
  · have H := Lib.hid (show rdB s.data.toList = ((s.data.toList.drop 1).take 1, 2) by rw [hU]; simp [isSelf, c7])
    rw [H.out]
    have q : ((s[1]'hi).toNat : Int) = 35 := by omega
    clear H hU hb hlen
    go_enter Tryd.func36, Tryd.ntmps36
    go_wp2
    go_ret2
    exact ⟨ret_sn (str_ext (ext_take s 1 2)) rfl, Below.refl _ _⟩
  have i7 : ¬ ((s[1]'hi).toNat : Int) = 35 := by omega
  by_cases c8 : (s[1]'hi).toNat = 33
  · have H := Lib.hid (show rdB s.data.toList = ((s.data.toList.drop 1).take 1, 2) by rw [hU]; simp [isSelf, c8])
    rw [H.out]
    have q : ((s[1]'hi).toNat : Int) = 33 := by omega
    clear H hU hb hlen
    go_enter Tryd.func36, Tryd.ntmps36
    go_wp2
    go_ret2
    exact ⟨ret_sn (str_ext (ext_take s 1 2)) rfl, Below.refl _ _⟩
  have i8 : ¬ ((s[1]'hi).toNat : Int) = 33 := by omega
  by_cases c9 : (s[1]'hi).toNat = 123
  · have H := Lib.hid (show rdB s.data.toList = ((s.data.toList.drop 1).take 1, 2) by rw [hU]; simp [isSelf, c9])
    rw [H.out]
    have q : ((s[1]'hi).toNat : Int) = 123 := by omega
    clear H hU hb hlen
    go_enter Tryd.func36, Tryd.ntmps36
    go_wp2
    go_ret2
    exact ⟨ret_sn (str_ext (ext_take s 1 2)) rfl, Below.refl _ _⟩
  have i9 : ¬ ((s[1]'hi).toNat : Int) = 123 := by omega
  by_cases c10 : (s[1]'hi).toNat = 125
  · have H := Lib.hid (show rdB s.data.toList = ((s.data.toList.drop 1).take 1, 2) by rw [hU]; simp [isSelf, c10])
    rw [H.out]
    have q : ((s[1]'hi).toNat : Int) = 125 := by omega
    clear H hU hb hlen
    go_enter Tryd.func36, Tryd.ntmps36
    go_wp2
    go_ret2
    exact ⟨ret_sn (str_ext (ext_take s 1 2)) rfl, Below.refl _ _⟩
  have i10 : ¬ ((s[1]'hi).toNat : Int) = 125 := by omega
  by_cases c11 : (s[1]'hi).toNat = 32
  · have H := Lib.hid (show rdB s.data.toList = ((s.data.toList.drop 1).take 1, 2) by rw [hU]; simp [isSelf, c11])
    rw [H.out]
    have q : ((s[1]'hi).toNat : Int) = 32 := by omega
    clear H hU hb hlen
    go_enter Tryd.func36, Tryd.ntmps36
    go_wp2
    go_ret2
    exact ⟨ret_sn (str_ext (ext_take s 1 2)) rfl, Below.refl _ _⟩
  have i11 : ¬ ((s[1]'hi).toNat : Int) = 32 := by omega
  have hself : isSelf (s[1]'hi).toNat = false := by unfold isSelf; simp; omega
  rw [if_neg c0, if_neg c1, if_neg c2, if_neg (by simp [hself])] at hU
  clear hself c0 c1 c2 c3 c4 c5 c6 c7 c8 c9 c10 c11 hb
  by_cases cx : (s[1]'hi).toNat = 120
  · have q : ((s[1]'hi).toNat : Int) = 120 := by omega
    rw [if_pos cx] at hU
    by_cases h4 : 4 ≤ s.size
    · have h2i : 2 < s.size := by omega
      have hb2 := byt_get s 2 h2i
      rw [← hb2] at hU
      by_cases h5 : (s[2]'h2i).toNat ≤ 55
      · rw [if_pos ⟨h4, h5⟩] at hU
        have H := Lib.hid hU
        rw [H.out]
        have q2 : ((s[2]'h2i).toNat : Int) ≤ 55 := by omega
        clear H hU hb2 hlen cx h5
        go_enter Tryd.func36, Tryd.ntmps36
        go_wp2_with fail
        refine (character_x 16 s 2 4 (by decide) _ E (.inr rfl)).mono ?_
        rintro e w1 ⟨rfl, D⟩
        go_wp2
        go_ret2
        exact ⟨rfl, D⟩
      · rw [if_neg (fun h => h5 h.2)] at hU
        have H := Lib.hid hU
        rw [H.out]
        have q2 : ¬ ((s[2]'h2i).toNat : Int) ≤ 55 := by omega
        clear H hU hb2 hlen cx h5
        go_enter Tryd.func36, Tryd.ntmps36
        go_wp2
        go_ret2
        exact ⟨rfl, Below.refl _ _⟩
    · rw [if_neg (fun h => h4 h.1)] at hU
      have H := Lib.hid hU
      rw [H.out]
      clear H hU hlen cx
      go_enter Tryd.func36, Tryd.ntmps36
      go_wp2
      go_ret2
      exact ⟨rfl, Below.refl _ _⟩
  have ix : ¬ ((s[1]'hi).toNat : Int) = 120 := by omega
  rw [if_neg cx] at hU
  clear cx
  by_cases cu : (s[1]'hi).toNat = 117
  · have q : ((s[1]'hi).toNat : Int) = 117 := by omega
    rw [if_pos cu] at hU
    by_cases h6 : 6 ≤ s.size
    · rw [if_pos h6] at hU
      have H := Lib.hid hU
      rw [H.out]
      clear H hU hlen cu
      go_enter Tryd.func36, Tryd.ntmps36
      go_wp2_with fail
      refine (character_x 16 s 2 6 (by decide) _ E (.inr rfl)).mono ?_
      rintro e w1 ⟨rfl, D⟩
      go_wp2
      go_ret2
      exact ⟨rfl, D⟩
    · rw [if_neg h6] at hU
      have H := Lib.hid hU
      rw [H.out]
      clear H hU hlen cu
      go_enter Tryd.func36, Tryd.ntmps36
      go_wp2
      go_ret2
      exact ⟨rfl, Below.refl _ _⟩
  have iu : ¬ ((s[1]'hi).toNat : Int) = 117 := by omega
  rw [if_neg cu] at hU
  have H := Lib.hid hU
  rw [H.out]
  clear H hU hlen cu
  go_enter Tryd.func36, Tryd.ntmps36
  go_wp2
  go_ret2
  exact ⟨rfl, Below.refl _ _⟩
end Go.Proofs.YtnkmlgkppaglkaaDoor
