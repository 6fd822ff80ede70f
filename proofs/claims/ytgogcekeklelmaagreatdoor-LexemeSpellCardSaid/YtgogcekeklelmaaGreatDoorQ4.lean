/- What the row stands on, part 4. -/
import Derived.LoopTactic
import Derived.Deep.RegionWith
import Derived.BigQuiet
import Derived.Deep.RegionHeld3
import Derived.Outline
import Derived.Test.YtgogcekeklelmaaGreatDoorQ3

/- The contract of Next: the first element of a string that is not empty, and its width. -/
namespace Go.Proofs.YtgogcekeklelmaaGreatDoor
open Go.RowKit
set_option linter.unusedVariables false

theorem byt_get (s : ByteArray) (k : Nat) (h : k < s.size) : byt s.data.toList k = (s[k]'h).toNat := by
  unfold byt
  rw [Array.getElem?_toList, Array.getElem?_eq_getElem h]
  rfl
theorem len_data (s : ByteArray) : s.data.toList.length = s.size := Array.length_toList
theorem accn_succ (l : List UInt8) (n0 k : Nat) (h : 1 ≤ k) : accn l n0 (k + 1) = 64 * accn l n0 k + byt l k % 64 := by
  obtain ⟨j, rfl⟩ : ∃ j, k = j + 1 := ⟨k - 1, by omega⟩
  rfl
theorem accn_bd (l : List UInt8) (n0 k : Nat) (h : n0 < 64) (hk : k ≤ 4) : accn l n0 k < 16777216 := by
  have h0 : accn l n0 0 = n0 := rfl
  have h1 : accn l n0 1 = n0 := rfl
  have h2 := accn2 l n0
  have h3 := accn3 l n0
  have h4 := accn4 l n0
  obtain rfl | rfl | rfl | rfl | rfl : k = 0 ∨ k = 1 ∨ k = 2 ∨ k = 3 ∨ k = 4 := by omega
  all_goals omega
theorem ne_nil {s : ByteArray} (h : 0 < s.size) : s.data.toList ≠ [] := fun h' => by have := len_data s; rw [h'] at this; simp at this; omega
def NextPost (s : ByteArray) (w : World) (e : Ending) (w' : World) : Prop :=
  e = .returned (.tuple #[.int .i64 (dl s.data.toList).1, .int .i64 (dl s.data.toList).2]) ∧ Below w.heap.size w w'
theorem next_bad {s : ByteArray} {w w' : World} (h : dl s.data.toList = (0xFFFD, 1)) (hb : Below w.heap.size w w') : NextPost s w (.returned (.tuple #[.int .i64 65533, .int .i64 1])) w' :=
  ⟨by rw [h]; rfl, hb⟩
theorem dl_cont (l : List UInt8) (base sz j : Nat) (hL : Lead (byt l 0) base sz) (h1 : 1 ≤ j) (hj : j < sz) (hc : ¬ (j < l.length ∧ 128 ≤ byt l j ∧ byt l j < 192)) : dl l = (0xFFFD, 1) := by
  rcases Classical.em (dl l = (0xFFFD, 1)) with h | h
  · exact h
  · exact absurd ((cnt_iff l j).1 ((dl_lead l base sz hL h).1 j h1 hj)) hc
theorem dl_num (l : List UInt8) (base sz : Nat) (hL : Lead (byt l 0) base sz) (hc : Utf8.valid (accn l (byt l 0 - base) sz : Int) = false ∨ enc (accn l (byt l 0 - base) sz : Int) ≠ l.take sz) (hne : l ≠ []) : dl l = (0xFFFD, 1) := by
  rcases Classical.em (dl l = (0xFFFD, 1)) with h | h
  · exact h
  · have hd := (dl_lead l base sz hL h).2
    have hv := dl_valid l
    have he := enc_dl l hne h
    rw [hd] at hv he
    rcases hc with hc | hc
    · rw [hv] at hc; cases hc
    · exact absurd he hc
theorem dl_good (l : List UInt8) (n sz : Nat) (hv : Utf8.valid (n : Int) = true) (he : enc (n : Int) = l.take sz) (hs : sz ≤ l.length) : dl l = (n, sz) := by
  have h := dl_enc (n : Int) hv (l.drop sz)
  rw [he, List.take_append_drop, List.length_take, Int.toNat_natCast, Nat.min_eq_left hs] at h
  exact h

theorem enc_eq (n : Int) : enc n = (Utf8.encode n).toList := by unfold enc; rw [ByteArray.toList_eq]
theorem toList_ext (s : ByteArray) (k : Nat) : (s.extract 0 k).toList = s.data.toList.take k := by
  rw [ByteArray.toList_eq]; simp
theorem enc_beq {s : ByteArray} {n : Int} {k : Nat} : ((Utf8.encode n).toList == (s.extract 0 k).toList) = (enc n == s.data.toList.take k) := by
  rw [toList_ext, enc_eq]
theorem enc_ne {s : ByteArray} {n : Int} {k : Nat} (h : ((Utf8.encode n).toList == (s.extract 0 k).toList) = false) : enc n ≠ s.data.toList.take k := by
  rw [enc_beq] at h
  exact beq_eq_false_iff_ne.1 h
theorem enc_ye {s : ByteArray} {n : Int} {k : Nat} (h : ((Utf8.encode n).toList == (s.extract 0 k).toList) = true) : enc n = s.data.toList.take k := by
  rw [enc_beq] at h
  exact beq_iff_eq.1 h
theorem next_good {s : ByteArray} {w w' : World} {n k : Nat} (hv : Utf8.valid (n : Int) = true) (h : ((Utf8.encode (n : Int)).toList == (s.extract 0 k).toList) = true) (hk : k ≤ s.size) (hb : Below w.heap.size w w') :
    NextPost s w (.returned (.tuple #[.int .i64 n, .int .i64 k])) w' := by
  have h2 := enc_ye h
  have h3 := dl_good s.data.toList n k hv h2 (by rw [len_data]; exact hk)
  refine ⟨?_, hb⟩
  rw [h3]

set_option maxRecDepth 1000000 in
set_option maxHeartbeats 1000000 in
theorem next_two (s : ByteArray) (w : World) (h1 : 0 < s.size) (hs : s.size ≤ maxLen) (hl : 192 ≤ (s[0]'h1).toNat) (hu : (s[0]'h1).toNat < 224) :
    Calls Tryz.prog 63 #[.string s] w (NextPost s w) := by
  unfold maxLen at hs
  have hL : Hid (Lead (byt s.data.toList 0) 192 2) := by rw [byt_get s 0 h1]; unfold Lead Hid; omega
  have hb0 : Hid (byt s.data.toList 0 = (s[0]'h1).toNat) := byt_get s 0 h1
  have q1 : decide (((s[0]'h1).toNat : Int) < 128) = false := by simp; omega
  have q2 : decide (((s[0]'h1).toNat : Int) < 224) = true := by simp; omega
  have q3 : decide (((s[0]'h1).toNat : Int) < 240) = true := by simp; omega
  have q4 : decide (((s[0]'h1).toNat : Int) < 248) = true := by simp; omega
  by_cases hz : 2 ≤ s.size
  · have q5 : decide ((s.size : Int) < 2) = false := by simp; omega
    have q6 : (2 : Int) ≤ (s.size : Int) := by omega
    go_enter Tryz.func63, Tryz.ntmps63
    go_wp2
    go_loop [2, 3, 4, 6] (fun _ _ n i => ∃ k : Nat, 1 ≤ k ∧ k ≤ 2 ∧ i = .int .i64 k ∧ n = .int .i64 (accn s.data.toList (byt s.data.toList 0 - 192) k : Nat)) (fun _ _ _ i => 2 - (intOf i).toNat)
    case atStart => exact ⟨1, by omega, by omega, rfl, by rw [hb0.out]; show _ = Value.int .i64 ((accn s.data.toList ((s[0]'h1).toNat - 192) 1 : Nat) : Int); unfold accn; congr 1; omega⟩
    case round =>
      obtain ⟨k, hk1, hk2, rfl, rfl⟩ := hrel
      have hacc := accn_bd s.data.toList (byt s.data.toList 0 - 192) k (by have := byt_lt s.data.toList 0; omega) (by omega)
      by_cases hk : k < 2
      · have hks : k < s.size := by omega
        have hbk : Hid (byt s.data.toList k = (s[k]'hks).toNat) := byt_get s k hks
        by_cases hc : 128 ≤ (s[k]'hks).toNat
        · by_cases hd : (s[k]'hks).toNat ≤ 191
          · have hsu := Lib.hid (accn_succ s.data.toList (byt s.data.toList 0 - 192) k hk1)
            go_wp2
            go_round
            case rel => exact ⟨k + 1, by omega, by omega, by go_num, by rw [hsu.out, hbk.out]; congr 1; omega⟩
            case measure => simp [intOf]; omega
          · go_wp2
            go_ret2
            exact next_bad (dl_cont _ 192 2 k hL.out hk1 hk (by rw [len_data, hbk.out]; omega)) (Below.refl _ _)
        · go_wp2
          go_ret2
          exact next_bad (dl_cont _ 192 2 k hL.out hk1 hk (by rw [len_data, hbk.out]; omega)) (Below.refl _ _)
      · obtain rfl : k = 2 := by omega
        generalize hn : accn s.data.toList (byt s.data.toList 0 - 192) 2 = n at *
        have Hn := Lib.hid hn
        clear hn
        by_cases hv : Utf8.valid (n : Int) = true
        · have Hv := Lib.hid hv
          clear hv
          by_cases he : ((Utf8.encode (n : Int)).toList == (s.extract 0 2).toList) = true
          · go_wp2
            go_region_held3 (fun _ => True) (trivial) (first | (go_at_call 61; refine (point_yes _ _ Hv.out).mono ?_; rintro e w' ⟨rfl, rfl⟩) | (go_at_call 62; refine (one_any _ _ Hv.out).mono ?_; rintro e w1 ⟨rfl, hb1⟩))
            go_wp2
            go_ret2
            exact next_good Hv.out he hz (((Below.refl _ _).drew).trans hb1)
          · have he' : ((Utf8.encode (n : Int)).toList == (s.extract 0 2).toList) = false := by simpa using he
            clear he
            go_wp2
            go_region_held3 (fun _ => True) (trivial) (first | (go_at_call 61; refine (point_yes _ _ Hv.out).mono ?_; rintro e w' ⟨rfl, rfl⟩) | (go_at_call 62; refine (one_any _ _ Hv.out).mono ?_; rintro e w1 ⟨rfl, hb1⟩))
            go_wp2
            go_ret2
            exact next_bad (dl_num _ 192 2 hL.out (.inr (by rw [Hn.out]; exact enc_ne he')) (ne_nil h1)) (((Below.refl _ _).drew).trans hb1)
        · go_wp2
          go_quiet ((go_at_call 61; exact Calls.quiet_of_same ((point_no _ _ (by simpa using hv)).mono (fun _ _ h => ⟨h.1, h.2.symm⟩))))
          go_wp2
          go_ret2
          exact next_bad (dl_num _ 192 2 hL.out (.inl (by rw [Hn.out]; simpa using hv)) (ne_nil h1)) (below_drewN (Below.refl _ _) _)
  · go_enter Tryz.func63, Tryz.ntmps63
    go_wp2
    go_ret2
    exact next_bad (dl_cont _ 192 2 1 hL.out (by omega) (by omega) (by rw [len_data]; omega)) (Below.refl _ _)

set_option maxRecDepth 1000000 in
set_option maxHeartbeats 1000000 in
theorem next_three (s : ByteArray) (w : World) (h1 : 0 < s.size) (hs : s.size ≤ maxLen) (hl : 224 ≤ (s[0]'h1).toNat) (hu : (s[0]'h1).toNat < 240) :
    Calls Tryz.prog 63 #[.string s] w (NextPost s w) := by
  unfold maxLen at hs
  have hL : Hid (Lead (byt s.data.toList 0) 224 3) := by rw [byt_get s 0 h1]; unfold Lead Hid; omega
  have hb0 : Hid (byt s.data.toList 0 = (s[0]'h1).toNat) := byt_get s 0 h1
  have q1 : decide (((s[0]'h1).toNat : Int) < 128) = false := by simp; omega
  have q2 : decide (((s[0]'h1).toNat : Int) < 224) = false := by simp; omega
  have q3 : decide (((s[0]'h1).toNat : Int) < 240) = true := by simp; omega
  have q4 : decide (((s[0]'h1).toNat : Int) < 248) = true := by simp; omega
  by_cases hz : 3 ≤ s.size
  · have q5 : decide ((s.size : Int) < 3) = false := by simp; omega
    have q6 : (3 : Int) ≤ (s.size : Int) := by omega
    go_enter Tryz.func63, Tryz.ntmps63
    go_wp2
    go_loop [2, 3, 4, 6] (fun _ _ n i => ∃ k : Nat, 1 ≤ k ∧ k ≤ 3 ∧ i = .int .i64 k ∧ n = .int .i64 (accn s.data.toList (byt s.data.toList 0 - 224) k : Nat)) (fun _ _ _ i => 3 - (intOf i).toNat)
    case atStart => exact ⟨1, by omega, by omega, rfl, by rw [hb0.out]; show _ = Value.int .i64 ((accn s.data.toList ((s[0]'h1).toNat - 224) 1 : Nat) : Int); unfold accn; congr 1; omega⟩
    case round =>
      obtain ⟨k, hk1, hk2, rfl, rfl⟩ := hrel
      have hacc := accn_bd s.data.toList (byt s.data.toList 0 - 224) k (by have := byt_lt s.data.toList 0; omega) (by omega)
      by_cases hk : k < 3
      · have hks : k < s.size := by omega
        have hbk : Hid (byt s.data.toList k = (s[k]'hks).toNat) := byt_get s k hks
        by_cases hc : 128 ≤ (s[k]'hks).toNat
        · by_cases hd : (s[k]'hks).toNat ≤ 191
          · have hsu := Lib.hid (accn_succ s.data.toList (byt s.data.toList 0 - 224) k hk1)
            go_wp2
            go_round
            case rel => exact ⟨k + 1, by omega, by omega, by go_num, by rw [hsu.out, hbk.out]; congr 1; omega⟩
            case measure => simp [intOf]; omega
          · go_wp2
            go_ret2
            exact next_bad (dl_cont _ 224 3 k hL.out hk1 hk (by rw [len_data, hbk.out]; omega)) (Below.refl _ _)
        · go_wp2
          go_ret2
          exact next_bad (dl_cont _ 224 3 k hL.out hk1 hk (by rw [len_data, hbk.out]; omega)) (Below.refl _ _)
      · obtain rfl : k = 3 := by omega
        generalize hn : accn s.data.toList (byt s.data.toList 0 - 224) 3 = n at *
        have Hn := Lib.hid hn
        clear hn
        by_cases hv : Utf8.valid (n : Int) = true
        · have Hv := Lib.hid hv
          clear hv
          by_cases he : ((Utf8.encode (n : Int)).toList == (s.extract 0 3).toList) = true
          · go_wp2
            go_region_held3 (fun _ => True) (trivial) (first | (go_at_call 61; refine (point_yes _ _ Hv.out).mono ?_; rintro e w' ⟨rfl, rfl⟩) | (go_at_call 62; refine (one_any _ _ Hv.out).mono ?_; rintro e w1 ⟨rfl, hb1⟩))
            go_wp2
            go_ret2
            exact next_good Hv.out he hz (((Below.refl _ _).drew).trans hb1)
          · have he' : ((Utf8.encode (n : Int)).toList == (s.extract 0 3).toList) = false := by simpa using he
            clear he
            go_wp2
            go_region_held3 (fun _ => True) (trivial) (first | (go_at_call 61; refine (point_yes _ _ Hv.out).mono ?_; rintro e w' ⟨rfl, rfl⟩) | (go_at_call 62; refine (one_any _ _ Hv.out).mono ?_; rintro e w1 ⟨rfl, hb1⟩))
            go_wp2
            go_ret2
            exact next_bad (dl_num _ 224 3 hL.out (.inr (by rw [Hn.out]; exact enc_ne he')) (ne_nil h1)) (((Below.refl _ _).drew).trans hb1)
        · go_wp2
          go_quiet ((go_at_call 61; exact Calls.quiet_of_same ((point_no _ _ (by simpa using hv)).mono (fun _ _ h => ⟨h.1, h.2.symm⟩))))
          go_wp2
          go_ret2
          exact next_bad (dl_num _ 224 3 hL.out (.inl (by rw [Hn.out]; simpa using hv)) (ne_nil h1)) (below_drewN (Below.refl _ _) _)
  · go_enter Tryz.func63, Tryz.ntmps63
    go_wp2
    go_ret2
    exact next_bad (dl_cont _ 224 3 2 hL.out (by omega) (by omega) (by rw [len_data]; omega)) (Below.refl _ _)

set_option maxRecDepth 1000000 in
set_option maxHeartbeats 1000000 in
theorem next_four (s : ByteArray) (w : World) (h1 : 0 < s.size) (hs : s.size ≤ maxLen) (hl : 240 ≤ (s[0]'h1).toNat) (hu : (s[0]'h1).toNat < 248) :
    Calls Tryz.prog 63 #[.string s] w (NextPost s w) := by
  unfold maxLen at hs
  have hL : Hid (Lead (byt s.data.toList 0) 240 4) := by rw [byt_get s 0 h1]; unfold Lead Hid; omega
  have hb0 : Hid (byt s.data.toList 0 = (s[0]'h1).toNat) := byt_get s 0 h1
  have q1 : decide (((s[0]'h1).toNat : Int) < 128) = false := by simp; omega
  have q2 : decide (((s[0]'h1).toNat : Int) < 224) = false := by simp; omega
  have q3 : decide (((s[0]'h1).toNat : Int) < 240) = false := by simp; omega
  have q4 : decide (((s[0]'h1).toNat : Int) < 248) = true := by simp; omega
  by_cases hz : 4 ≤ s.size
  · have q5 : decide ((s.size : Int) < 4) = false := by simp; omega
    have q6 : (4 : Int) ≤ (s.size : Int) := by omega
    go_enter Tryz.func63, Tryz.ntmps63
    go_wp2
    go_loop [2, 3, 4, 6] (fun _ _ n i => ∃ k : Nat, 1 ≤ k ∧ k ≤ 4 ∧ i = .int .i64 k ∧ n = .int .i64 (accn s.data.toList (byt s.data.toList 0 - 240) k : Nat)) (fun _ _ _ i => 4 - (intOf i).toNat)
    case atStart => exact ⟨1, by omega, by omega, rfl, by rw [hb0.out]; show _ = Value.int .i64 ((accn s.data.toList ((s[0]'h1).toNat - 240) 1 : Nat) : Int); unfold accn; congr 1; omega⟩
    case round =>
      obtain ⟨k, hk1, hk2, rfl, rfl⟩ := hrel
      have hacc := accn_bd s.data.toList (byt s.data.toList 0 - 240) k (by have := byt_lt s.data.toList 0; omega) (by omega)
      by_cases hk : k < 4
      · have hks : k < s.size := by omega
        have hbk : Hid (byt s.data.toList k = (s[k]'hks).toNat) := byt_get s k hks
        by_cases hc : 128 ≤ (s[k]'hks).toNat
        · by_cases hd : (s[k]'hks).toNat ≤ 191
          · have hsu := Lib.hid (accn_succ s.data.toList (byt s.data.toList 0 - 240) k hk1)
            go_wp2
            go_round
            case rel => exact ⟨k + 1, by omega, by omega, by go_num, by rw [hsu.out, hbk.out]; congr 1; omega⟩
            case measure => simp [intOf]; omega
          · go_wp2
            go_ret2
            exact next_bad (dl_cont _ 240 4 k hL.out hk1 hk (by rw [len_data, hbk.out]; omega)) (Below.refl _ _)
        · go_wp2
          go_ret2
          exact next_bad (dl_cont _ 240 4 k hL.out hk1 hk (by rw [len_data, hbk.out]; omega)) (Below.refl _ _)
      · obtain rfl : k = 4 := by omega
        generalize hn : accn s.data.toList (byt s.data.toList 0 - 240) 4 = n at *
        have Hn := Lib.hid hn
        clear hn
        by_cases hv : Utf8.valid (n : Int) = true
        · have Hv := Lib.hid hv
          clear hv
          by_cases he : ((Utf8.encode (n : Int)).toList == (s.extract 0 4).toList) = true
          · go_wp2
            go_region_held3 (fun _ => True) (trivial) (first | (go_at_call 61; refine (point_yes _ _ Hv.out).mono ?_; rintro e w' ⟨rfl, rfl⟩) | (go_at_call 62; refine (one_any _ _ Hv.out).mono ?_; rintro e w1 ⟨rfl, hb1⟩))
            go_wp2
            go_ret2
            exact next_good Hv.out he hz (((Below.refl _ _).drew).trans hb1)
          · have he' : ((Utf8.encode (n : Int)).toList == (s.extract 0 4).toList) = false := by simpa using he
            clear he
            go_wp2
            go_region_held3 (fun _ => True) (trivial) (first | (go_at_call 61; refine (point_yes _ _ Hv.out).mono ?_; rintro e w' ⟨rfl, rfl⟩) | (go_at_call 62; refine (one_any _ _ Hv.out).mono ?_; rintro e w1 ⟨rfl, hb1⟩))
            go_wp2
            go_ret2
            exact next_bad (dl_num _ 240 4 hL.out (.inr (by rw [Hn.out]; exact enc_ne he')) (ne_nil h1)) (((Below.refl _ _).drew).trans hb1)
        · go_wp2
          go_quiet ((go_at_call 61; exact Calls.quiet_of_same ((point_no _ _ (by simpa using hv)).mono (fun _ _ h => ⟨h.1, h.2.symm⟩))))
          go_wp2
          go_ret2
          exact next_bad (dl_num _ 240 4 hL.out (.inl (by rw [Hn.out]; simpa using hv)) (ne_nil h1)) (below_drewN (Below.refl _ _) _)
  · go_enter Tryz.func63, Tryz.ntmps63
    go_wp2
    go_ret2
    exact next_bad (dl_cont _ 240 4 3 hL.out (by omega) (by omega) (by rw [len_data]; omega)) (Below.refl _ _)

set_option maxRecDepth 1000000 in
set_option maxHeartbeats 1000000 in
theorem next_rest (s : ByteArray) (w : World) (h1 : 0 < s.size) (hs : s.size ≤ maxLen) (h : (s[0]'h1).toNat < 192 ∨ 248 ≤ (s[0]'h1).toNat) :
    Calls Tryz.prog 63 #[.string s] w (NextPost s w) := by
  have hb0 := byt_get s 0 h1
  have hlt : (s[0]'h1).toNat < 256 := (s[0]'h1).toNat_lt
  by_cases a : (s[0]'h1).toNat < 128
  · have hd := Lib.hid (dl_low s.data.toList (by rw [hb0]; exact a))
    have hb := Lib.hid hb0
    clear hb0 h
    go_enter Tryz.func63, Tryz.ntmps63
    go_wp2
    go_ret2
    exact ⟨by rw [hd.out, hb.out]; rfl, Below.refl _ _⟩
  · have hd := Lib.hid (dl_other s.data.toList (by rw [hb0]; omega))
    clear hb0
    rcases h with h | h
    · go_enter Tryz.func63, Tryz.ntmps63
      go_wp2
      go_ret2
      exact next_bad hd.out (Below.refl _ _)
    · go_enter Tryz.func63, Tryz.ntmps63
      go_wp2
      go_ret2
      exact next_bad hd.out (Below.refl _ _)

theorem next_any (s : ByteArray) (w : World) (h1 : 0 < s.size) (hs : s.size ≤ maxLen) :
    Calls Tryz.prog 63 #[.string s] w fun e w' => e = .returned (.tuple #[.int .i64 (dl s.data.toList).1, .int .i64 (dl s.data.toList).2]) ∧ Below w.heap.size w w' := by
  show Calls _ _ _ _ (NextPost s w)
  by_cases a : (s[0]'h1).toNat < 192
  · exact next_rest s w h1 hs (.inl a)
  by_cases b : (s[0]'h1).toNat < 224
  · exact next_two s w h1 hs (by omega) b
  by_cases c : (s[0]'h1).toNat < 240
  · exact next_three s w h1 hs (by omega) c
  by_cases d : (s[0]'h1).toNat < 248
  · exact next_four s w h1 hs (by omega) d
  · exact next_rest s w h1 hs (.inr (by omega))
end Go.Proofs.YtgogcekeklelmaaGreatDoor


