/- distance.Words. -/
import Derived.Test.YtbcpeoomkhcgnaaTk
namespace Go.Proofs.Ytbcpeoomkhcgnaa
open Go.RowKit
set_option linter.unusedVariables false

theorem byte_at (s : ByteArray) (k : Nat) (h : k < s.size) : (s[k]'h).toNat = (s.data.toList[k]'(by rw [len_data]; exact h)).toNat := rfl
/-- A word of n bytes at the beginning. -/
def Starts (l : Str) (n : Nat) : Prop := 1 ≤ n ∧ n ≤ l.length ∧ words l = l.take n :: words (l.drop n)
theorem starts_sign {l : Str} (h0 : 0 < l.length) (h1 : rn l[0] = false) (h2 : sp l[0] = false) : Starts l 1 := by
  refine ⟨Nat.le_refl _, h0, ?_⟩
  cases l with
  | nil => simp at h0
  | cons c s => exact words_sign h1 h2
theorem starts_run {l : Str} {n : Nat} (h0 : 1 ≤ n) (hn : n ≤ l.length) (h1 : ∀ i (h : i < l.length), i < n → rn l[i] = true) (h2 : ∀ h : n < l.length, rn (l[n]) = false) : Starts l n := by
  refine ⟨h0, hn, ?_⟩
  cases l with
  | nil => simp at hn; omega
  | cons c s =>
    obtain ⟨m, rfl⟩ : ∃ m, n = m + 1 := ⟨n - 1, by omega⟩
    obtain ⟨e1, e2⟩ := run_at (s := s) (n := m) (by simpa using hn) (fun i h hi => by have := h1 (i + 1) (by simpa using h) (by omega); simpa using this) (fun h => by have := h2 (by simpa using h); simpa using this)
    have hc : rn c = true := h1 0 (by simp) (by omega)
    rw [words_run hc, e1, e2]
    rfl
set_option maxRecDepth 1000000 in
set_option maxHeartbeats 1000000 in
theorem wordLength_any (s : ByteArray) (h0 : 0 < s.size) (hs : s.size ≤ 100000) (hsp : spN (s[0]'h0).toNat = false) (w : World) :
    Calls Try.prog 25 #[.string s] w fun e w' => (∃ n : Nat, e = .returned (.int .i64 n) ∧ Starts s.data.toList n) ∧ w' = w := by
  have HSP := Lib.hid hsp
  clear hsp
  go_enter Try.func25, Try.ntmps25
  go_wp2_with fail
  refine (inRun_any _ _).mono ?_
  rintro e w' ⟨rfl, hw'⟩
  obtain rfl := hw'.symm
  cases hr : rnN (s[0]'h0).toNat with
  | false =>
    have HR := Lib.hid hr
    clear hr
    go_wp2
    go_ret
    exact ⟨⟨1, rfl, starts_sign (by rw [len_data]; exact h0) HR.out HSP.out⟩, rfl⟩
  | true =>
    have HR := Lib.hid hr
    clear hr
    go_wp2
    go_loop [3] (fun i => ∃ k : Nat, 1 ≤ k ∧ k ≤ s.size ∧ i = .int .i64 k ∧ ∀ i (h : i < s.data.toList.length), i < k → rn s.data.toList[i] = true) (fun i => s.size + 1 - (intOf i).toNat)
    case atStart => exact ⟨1, Nat.le_refl _, h0, rfl, fun i h hi => by obtain rfl : i = 0 := by omega
                                                                       exact HR.out⟩
    case round =>
      obtain ⟨k, hk1, hk, rfl, hall⟩ := hrel
      have HA := Lib.hid hall
      clear hall
      by_cases hlt : k < s.size
      · have hlt' : (k : Int) < (s.size : Int) := by omega
        go_wp2_with fail
        refine (inRun_any _ _).mono ?_
        rintro e w' ⟨rfl, hw'⟩
        obtain rfl := hw'.symm
        cases hr : rnN (s[k]'hlt).toNat with
        | true =>
          have HR2 := Lib.hid hr
          clear hr
          go_wp2
          go_round
          case rel => exact ⟨k + 1, by omega, by omega, by go_num, fun i h hi => by
            rcases Nat.lt_or_ge i k with h2 | h2
            · exact HA.out i h h2
            · obtain rfl : i = k := by omega
              exact HR2.out⟩
          case measure => simp [intOf]; omega
        | false =>
          have HR2 := Lib.hid hr
          clear hr
          go_wp2
          go_ret
          exact ⟨⟨k, rfl, starts_run hk1 (by rw [len_data]; exact hk) HA.out (fun h => HR2.out)⟩, rfl⟩
      · obtain rfl : k = s.size := by omega
        have hlt' : ¬ (s.size : Int) < (s.size : Int) := by omega
        go_wp2
        go_ret
        exact ⟨⟨s.size, rfl, starts_run hk1 (by rw [len_data]; exact hk) HA.out (fun h => by rw [len_data] at h; omega)⟩, rfl⟩

set_option maxRecDepth 1000000 in
set_option maxHeartbeats 1000000 in
theorem words_any (s : ByteArray) (hs : s.size ≤ 100000) (w : World) :
    Calls Try.prog 11 #[.string s] w fun e w' => (∃ v, e = .returned v ∧ Own1 1 encT w' w.heap.size 9 v (words s.data.toList)) ∧ Below w.heap.size w w' := by
  obtain ⟨iI, hiI, hzI, hkI, hbI⟩ := info_parts Try.infoT
  go_enter Try.func11, Try.ntmps11
  go_wp2
  go_loopw [0, 3] (fun v0 v3 wr => ∃ (t : ByteArray) (L : List Str), v0 = .string t ∧ t.size ≤ s.size ∧ Own1 1 encT wr w.heap.size 9 v3 L ∧ L ++ words t.data.toList = words s.data.toList ∧ Below w.heap.size w wr) (fun v0 _ _ => match v0 with | .string t => t.size | _ => 0)
  case atStart => exact ⟨s, [], rfl, Nat.le_refl _, own1_nil _ _ _, rfl, Below.refl _ _⟩
  case round =>
    obtain ⟨t, L, rfl, htl, hown, hL, hb⟩ := hrel
    have HO := Lib.hid hown
    have HL := Lib.hid hL
    have HB := Lib.hid hb
    have zr := hb.size
    have hLl : L.length ≤ 100000 := by
      have e1 := congrArg List.length hL
      have e2 := words_count s.data.toList
      rw [len_data] at e2
      rw [List.length_append] at e1
      omega
    obtain ⟨av, cv, hav⟩ := hown.slice
    obtain ⟨n7, hn7⟩ : ∃ n7, L.length = n7 := ⟨_, rfl⟩
    rw [hn7] at hav hLl
    subst hav
    have HN7 := Lib.hid hn7
    clear hown hL hb hn7
    by_cases hpos : 0 < t.size
    · have hpos' : (0 : Int) < (t.size : Int) := by omega
      go_wp2_with fail
      refine (isSpace_any _ _).mono ?_
      rintro e w' ⟨rfl, hw'⟩
      obtain rfl := hw'.symm
      cases hsp : spN (t[0]'hpos).toNat with
      | true =>
        have HSP := Lib.hid hsp
        clear hsp
        have q1 : (1 : Int) ≤ (t.size : Int) := by omega
        go_wp2
        go_roundw
        case rel =>
          refine ⟨_, L, rfl, by simp; omega, HO.out, ?_, HB.out⟩
          rw [← HL.out, ext_of, ofL_list]
          congr 1
          have e : t.data.toList = t.data.toList[0]'(by rw [len_data]; exact hpos) :: t.data.toList.drop 1 := by
            have := List.drop_eq_getElem_cons (l := t.data.toList) (i := 0) (by rw [len_data]; exact hpos)
            simpa using this
          rw [List.take_of_length_le (by rw [List.length_drop, len_data]; exact Nat.le_refl _)]
          conv => rhs; rw [e]
          exact (words_space (sp_not_rn HSP.out) HSP.out).symm
        case measure => simp; omega
      | false =>
        go_wp2_with fail
        refine (wordLength_any t hpos (by omega) hsp _).mono ?_
        rintro e w' ⟨⟨n, rfl, hn1, hn2, hn3⟩, hw'⟩
        obtain rfl := hw'.symm
        rw [len_data] at hn2
        have HW := Lib.hid hn3
        have q1 : (0 : Int) ≤ (n : Int) := by omega
        have q2 : (n : Int) ≤ (t.size : Int) := by omega
        have HX := Lib.hid (ext_of t 0 n)
        clear hn3 hsp
        go_wp2_with (first | (at_builtin; refine wpList_append_at (w0 := wr) (x := t.data.toList.take n) (N := wr.heap.size) rfl rfl _ _ 23 rfl w.heap.size iI _ 16 Try.underlying23 hiI hzI hkI hbI (by omega) rfl (by omega) encT_len encT_one _ L (by rw [HX.out]; simp [encT]) rfl HO.out rfl (by have := HN7.out; omega) zr ?_; intro v9 w9 y1 y2 y3) | go_in)
        have HY1 := Lib.hid y1
        have HY2 := Lib.hid (HB.out.trans y2)
        clear y1 y2 y3
        go_wp2
        go_roundw
        case rel =>
          refine ⟨_, _, rfl, by simp; omega, HY1.out, ?_, HY2.out⟩
          rw [← HL.out, HW.out, ext_of, ofL_list, List.append_assoc, List.take_of_length_le (l := t.data.toList.drop n) (by rw [List.length_drop, len_data]; exact Nat.le_refl _)]
          rfl
        case measure => simp; omega
    · have hz : t.size = 0 := by omega
      have hw0 : words t.data.toList = [] := by
        have : t.data.toList = [] := List.eq_nil_of_length_eq_zero (by rw [len_data]; exact hz)
        rw [this]; rfl
      have HW := Lib.hid hw0
      clear hw0
      go_wp2
      go_ret
      refine ⟨⟨_, rfl, ?_⟩, HB.out⟩
      have := HO.out
      rw [← HL.out, HW.out, List.append_nil]
      exact this
end Go.Proofs.Ytbcpeoomkhcgnaa
