/- First (both). -/
import Derived.Test.YtndicgjlmhnkbaaUn
import Derived.Test.YtndicgjlmhnkbaaUf
namespace Go.Proofs.Ytndicgjlmhnkbaa
open Go.RowKit
set_option linter.unusedVariables false

theorem dl_prefix (l : List UInt8) (m : Nat) (hne : l ≠ []) (hm : (dl l).2 ≤ m) : dl (l.take m) = dl l := by
  have hw := dl_width l
  have hne2 : l.take m ≠ [] := by
    intro h
    have h0 : 0 < l.length := List.length_pos_iff.2 hne
    have := congrArg List.length h
    rw [List.length_take] at this
    simp only [List.length_nil] at this
    omega
  by_cases h : dl (l.take m) = (0xFFFD, 1)
  · by_cases h2 : dl l = (0xFFFD, 1)
    · rw [h, h2]
    · have he := enc_dl l hne h2
      have h3 := dl_enc (dl l).1 (dl_valid l) ((l.take m).drop (dl l).2)
      have h4 : enc (dl l).1 ++ (l.take m).drop (dl l).2 = l.take m := by
        have e : l.take (dl l).2 = (l.take m).take (dl l).2 := by rw [List.take_take, Nat.min_eq_left hm]
        rw [he, e, List.take_append_drop]
      rw [h4, he, List.length_take, Int.toNat_natCast, Nat.min_eq_left (dl_width_le l hne)] at h3
      exact h3
  · have he := enc_dl _ hne2 h
    have h3 := dl_enc (dl (l.take m)).1 (dl_valid _) ((l.take m).drop (dl (l.take m)).2 ++ l.drop m)
    rw [he, ← List.append_assoc, List.take_append_drop, List.take_append_drop, List.length_take, Int.toNat_natCast, Nat.min_eq_left (dl_width_le _ hne2)] at h3
    exact h3.symm
/-- The bytes of the first n elements. -/
def fo : Nat → List UInt8 → Nat
  | 0, _ => 0
  | n + 1, l => if l = [] then 0 else (dl l).2 + fo n (l.drop (dl l).2)
theorem fo_nil (n : Nat) : fo n [] = 0 := by cases n <;> simp [fo]
theorem fo_cons (n : Nat) (l : List UInt8) (h : l ≠ []) : fo (n + 1) l = (dl l).2 + fo n (l.drop (dl l).2) := by simp [fo, h]
theorem fo_le (n : Nat) : ∀ l, fo n l ≤ l.length := by
  induction n with
  | zero => intro l; simp [fo]
  | succ n ih =>
    intro l
    by_cases h : l = []
    · subst h; rw [fo_nil]; simp
    · rw [fo_cons n l h]
      have := ih (l.drop (dl l).2)
      have h2 := dl_width_le l h
      rw [List.length_drop] at this
      omega
theorem fo_count (n : Nat) : ∀ l, (elems (l.take (fo n l))).length = min n (elems l).length := by
  induction n with
  | zero => intro l; simp [fo, elems_nil]
  | succ n ih =>
    intro l
    by_cases h : l = []
    · subst h; simp [elems_nil]
    · have hw := dl_width l
      rw [fo_cons n l h]
      have hne2 : l.take ((dl l).2 + fo n (l.drop (dl l).2)) ≠ [] := by
        intro h'
        have h0 : 0 < l.length := List.length_pos_iff.2 h
        have := congrArg List.length h'
        rw [List.length_take] at this
        simp only [List.length_nil] at this
        omega
      rw [elems_cons _ hne2, dl_prefix l _ h (by omega), List.drop_take, Nat.add_sub_cancel_left, List.length_cons, ih, elems_cons l h, List.length_cons]
      omega

def FirstPost (w : World) (s : ByteArray) (k : Nat) (e : Ending) (w' : World) : Prop := e = .returned (.string (s.extract 0 k)) ∧ Below w.heap.size w w'
theorem ext_all (s : ByteArray) : s.extract 0 s.size = s := by simp
theorem ret_str2 {a b : ByteArray} (h : a = b) : Ending.returned (.string a) = .returned (.string b) := by rw [h]

set_option maxRecDepth 1000000 in
set_option maxHeartbeats 1000000 in
theorem first_any (s : ByteArray) (n : Int) (w : World) (hs : s.size ≤ 281474976710656 / 64) (hn : -9223372036854775808 ≤ n) (hn2 : n ≤ 9223372036854775807) :
    Calls Try.prog 26 #[.string s, .int .i64 n] w (FirstPost w s (fo n.toNat s.data.toList)) := by
  go_enter Try.func26, Try.ntmps26
  go_wp2
  go_loopw [1, 4] (fun v _ wr => ∃ (pos : Nat) (m : Int), wr = w.iter s pos ∧ v = .int .i64 m ∧ pos ≤ s.size ∧ m ≤ n ∧ (0 ≤ n → 0 ≤ m) ∧ fo n.toNat s.data.toList = pos + fo m.toNat (s.data.toList.drop pos)) (fun _ _ wr => s.size - wr.iterPos w.heap.size)
  case atStart => exact ⟨0, n, rfl, rfl, by omega, by omega, by omega, by simp⟩
  case round =>
    obtain ⟨pos, m, rfl, rfl, hps, h1, h5, hf⟩ := hrel
    have Hf := Lib.hid hf; clear hf
    by_cases hp : pos < s.size
    · have hnx := fun ty => next_iter (P := Try.prog) w s pos ty hp
      have hw := dl_width (s.data.toList.drop pos)
      have hwl := width_le hp
      by_cases hm : m < 1
      · have q6 : (pos : Int) ≤ (s.size : Int) := by omega
        have h0 : m.toNat = 0 := by omega
        have H0 := Lib.hid h0; clear h0
        go_wp2
        go_ret
        exact ⟨ret_str2 (by rw [Hf.out, H0.out]; rfl), iter_below _ _ _⟩
      · have hfo : fo m.toNat (s.data.toList.drop pos) = (dl (s.data.toList.drop pos)).2 + fo (m - 1).toNat (s.data.toList.drop (pos + (dl (s.data.toList.drop pos)).2)) := by
          obtain ⟨j, hj⟩ : ∃ j, m.toNat = j + 1 := ⟨m.toNat - 1, by omega⟩
          have hj2 : (m - 1).toNat = j := by omega
          rw [hj, hj2, fo_cons j _ (drop_ne hp), List.drop_drop]
        have Hfo := Lib.hid hfo; clear hfo
        have hn0 : 0 < n := by omega
        go_wp2
        go_roundw
        case rel => exact ⟨_, m - 1, rfl, rfl, hwl, by omega, by omega, by rw [Hf.out, Hfo.out]; omega⟩
        case measure => simp; omega
    · have hnx := fun ty => run_next_end (P := Try.prog) w s pos ty hp
      go_wp2
      go_ret
      have hf := Hf.out
      rw [drop_end hp, fo_nil] at hf
      exact ⟨ret_str2 (by rw [hf, show pos + 0 = s.size from by omega, ext_all]), iter_below _ _ _⟩

set_option maxRecDepth 1000000 in
set_option maxHeartbeats 1000000 in
theorem refFirst_any (s : ByteArray) (n : Int) (w : World) (hs : s.size ≤ 281474976710656 / 64) (hn : -9223372036854775808 ≤ n) (hn2 : n ≤ 9223372036854775807) :
    Calls Try.prog 27 #[.string s, .int .i64 n] w (FirstPost w s (fo n.toNat s.data.toList)) := by
  go_enter Try.func27, Try.ntmps27
  go_wp2
  go_loopw [1, 5] (fun v a wr => ∃ (pos : Nat) (m : Int), a = .int .i64 pos ∧ v = .int .i64 m ∧ pos ≤ s.size ∧ m ≤ n ∧ (n ≤ 0 → m = n) ∧ (0 ≤ n → 0 ≤ m) ∧ fo n.toNat s.data.toList = pos + fo m.toNat (s.data.toList.drop pos) ∧ Below w.heap.size w wr) (fun _ a _ => s.size - (intOf a).toNat)
  case atStart => exact ⟨0, n, rfl, rfl, by omega, by omega, by omega, by omega, by simp, Below.refl _ _⟩
  case round =>
    obtain ⟨pos, m, rfl, rfl, hps, h1, h4, h5, hf, hB⟩ := hrel
    have Hf := Lib.hid hf; clear hf
    have H4 := Lib.hid h4; clear h4
    have q6 : (pos : Int) ≤ (s.size : Int) := by omega
    by_cases hm : 0 < m
    · by_cases hp : pos < s.size
      · have hwl := width_le hp
        have hw := dl_width (s.data.toList.drop pos)
        have Hd := Lib.hid (ext_data s pos)
        have hfo : fo m.toNat (s.data.toList.drop pos) = (dl (s.data.toList.drop pos)).2 + fo (m - 1).toNat (s.data.toList.drop (pos + (dl (s.data.toList.drop pos)).2)) := by
          obtain ⟨j, hj⟩ : ∃ j, m.toNat = j + 1 := ⟨m.toNat - 1, by omega⟩
          have hj2 : (m - 1).toNat = j := by omega
          rw [hj, hj2, fo_cons j _ (drop_ne hp), List.drop_drop]
        have Hfo := Lib.hid hfo; clear hfo
        go_wp2_with fail
        refine (next_any (s.extract pos s.size) wr (by rw [ByteArray.size_extract]; omega) (by rw [ByteArray.size_extract]; unfold maxLen; omega)).mono ?_
        rw [Hd.out]
        rintro e w1 ⟨rfl, hb1⟩
        go_wp2
        go_roundw
        case rel => exact ⟨pos + (dl (s.data.toList.drop pos)).2, m - 1, by go_num, rfl, hwl, by omega, by omega, by omega, by rw [Hf.out, Hfo.out]; omega, hB.trans (hb1.mono hB.size)⟩
        case measure => simp [intOf]; omega
      · go_wp2
        go_ret
        have hf := Hf.out
        rw [drop_end hp, fo_nil] at hf
        exact ⟨ret_str2 (by rw [hf]; rfl), hB⟩
    · have h0 : m.toNat = 0 := by omega
      have H0 := Lib.hid h0; clear h0
      go_wp2
      go_ret
      exact ⟨ret_str2 (by rw [Hf.out, H0.out]; rfl), hB⟩
end Go.Proofs.Ytndicgjlmhnkbaa
