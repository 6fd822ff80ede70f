/- Count, spellsReplacement, Valid. -/
import Derived.Test.YtndicgjlmhnkbaaUe
namespace Go.Proofs.Ytndicgjlmhnkbaa
open Go.RowKit
set_option linter.unusedVariables false

def CountPost (w : World) (n : Nat) (e : Ending) (w' : World) : Prop := e = .returned (.int .i64 n) ∧ Below w.heap.size w w'
def CountRel (s : ByteArray) (w : World) (v : Value) (wr : World) : Prop :=
  ∃ pos acc : Nat, wr = w.iter s pos ∧ v = .int .i64 acc ∧ acc + (elems (s.data.toList.drop pos)).length = (elems s.data.toList).length ∧ acc ≤ pos ∧ pos ≤ s.size
theorem iter_below (w : World) (s : ByteArray) (pos : Nat) : Below w.heap.size w (w.iter s pos) := (Below.refl _ _).alloc (Nat.le_refl _) _
theorem next_iter {P : Program} (w : World) (s : ByteArray) (pos : Nat) (ty : TypeId) (h : pos < s.size) :
    (Instr.next (.pointer (some ⟨w.heap.size, 0, none⟩)) true ty).run P (w.iter s pos) =
      .ok (.tuple #[.bool true, .int .i64 pos, .int .i32 (dl (s.data.toList.drop pos)).1]) (w.iter s (pos + (dl (s.data.toList.drop pos)).2)) := by
  rw [← decode_dl]; exact run_next_any w s pos ty h

set_option maxRecDepth 1000000 in
set_option maxHeartbeats 400000 in
theorem count_any (s : ByteArray) (w : World) (hs : s.size ≤ 281474976710656 / 16) :
    Calls Try.prog 15 #[.string s] w (CountPost w (elems s.data.toList).length) := by
  go_enter Try.func15, Try.ntmps15
  go_wp2
  go_loopw [3] (fun v wr => CountRel s w v wr) (fun _ wr => s.size - wr.iterPos w.heap.size)
  case atStart => exact ⟨0, 0, rfl, rfl, by simp, by omega, by omega⟩
  case round =>
    obtain ⟨pos, acc, rfl, rfl, hc, ha, hps⟩ := hrel
    have Hc := Lib.hid hc; clear hc
    by_cases hp : pos < s.size
    · have hnx := fun ty => next_iter (P := Try.prog) w s pos ty hp
      have hw := dl_width (s.data.toList.drop pos)
      have hwl := width_le hp
      go_wp2
      go_roundw
      case rel =>
        have h2 := Hc.out
        rw [elems_cons _ (drop_ne hp), List.drop_drop, List.length_cons] at h2
        exact ⟨_, acc + 1, rfl, by go_num, by omega, by omega, hwl⟩
      case measure => simp; omega
    · have hnx := fun ty => run_next_end (P := Try.prog) w s pos ty hp
      go_wp2
      go_ret
      have h2 := Hc.out
      rw [drop_end hp, elems_nil] at h2
      exact ⟨ret_int (by simp at h2; omega), iter_below _ _ _⟩

def spl (l : List UInt8) : Bool := l.take 3 == [239, 191, 189]
theorem ret_bool {a b : Bool} (h : a = b) : Ending.returned (.bool a) = .returned (.bool b) := by rw [h]
theorem spl_short {l : List UInt8} (h : l.length < 3) : spl l = false := by
  unfold spl
  rw [beq_eq_false_iff_ne]
  intro h'
  have := congrArg List.length h'
  rw [List.length_take] at this
  simp only [List.length_cons, List.length_nil] at this
  omega
set_option maxRecDepth 1000000 in
set_option maxHeartbeats 400000 in
theorem spells_any (s : ByteArray) (w : World) (hs : s.size ≤ 281474976710656 / 16) :
    Calls Try.prog 29 #[.string s] w fun e w' => e = .returned (.bool (spl s.data.toList)) ∧ w = w' := by
  by_cases h3 : 3 ≤ s.size
  · go_enter Try.func29, Try.ntmps29
    go_wp2
    go_ret
    exact ⟨ret_bool (by unfold spl; rw [← toList_ext]), rfl⟩
  · go_enter Try.func29, Try.ntmps29
    go_wp2
    go_ret
    exact ⟨ret_bool (spl_short (by rw [len_data]; omega)).symm, rfl⟩

theorem spells_is (s : ByteArray) (w : World) (b : Bool) (hs : s.size ≤ 281474976710656 / 16) (h : spl s.data.toList = b) :
    Calls Try.prog 29 #[.string s] w fun e w' => e = .returned (.bool b) ∧ w = w' := by
  have := spells_any s w hs
  rw [h] at this
  exact this

/-! ### What a valid string is -/
def goodL : Nat → List UInt8 → Bool
  | 0, _ => true
  | f + 1, l => if l = [] then true else (dl l != (0xFFFD, 1)) && goodL f (l.drop (dl l).2)
theorem goodL_nil (f : Nat) : goodL f [] = true := by cases f <;> simp [goodL]
theorem goodL_fuel : ∀ (f g : Nat) (l : List UInt8), l.length ≤ f → l.length ≤ g → goodL f l = goodL g l
  | 0, g, l, hf, _ => by
    have : l = [] := List.length_eq_zero_iff.1 (by omega)
    subst this; rw [goodL_nil, goodL_nil]
  | f + 1, 0, l, _, hg => by
    have : l = [] := List.length_eq_zero_iff.1 (by omega)
    subst this; rw [goodL_nil, goodL_nil]
  | f + 1, g + 1, l, hf, hg => by
    unfold goodL
    by_cases h : l = []
    · simp [h]
    · rw [if_neg h, if_neg h]
      have hw := dl_width l
      congr 1
      exact goodL_fuel f g _ (by rw [List.length_drop]; omega) (by rw [List.length_drop]; omega)
def vld (l : List UInt8) : Bool := goodL l.length l
theorem vld_nil : vld [] = true := rfl
theorem vld_cons (l : List UInt8) (h : l ≠ []) : vld l = ((dl l != (0xFFFD, 1)) && vld (l.drop (dl l).2)) := by
  have h0 : 0 < l.length := List.length_pos_iff.2 h
  have hw := dl_width l
  unfold vld
  obtain ⟨f, hf⟩ : ∃ f, l.length = f + 1 := ⟨l.length - 1, by omega⟩
  rw [hf]
  show (if l = [] then true else (dl l != (0xFFFD, 1)) && goodL f (l.drop (dl l).2)) = _
  rw [if_neg h]
  congr 1
  exact goodL_fuel _ _ _ (by rw [List.length_drop]; omega) (Nat.le_refl _)
theorem encFFFD : enc 65533 = [239, 191, 189] := by decide
theorem spl_dl (l : List UInt8) (hne : l ≠ []) (hd : (dl l).1 = 65533) : spl l = (dl l != (0xFFFD, 1)) := by
  by_cases h : dl l = (0xFFFD, 1)
  · have h2 : (dl l != (0xFFFD, 1)) = false := by rw [h]; decide
    rw [h2]
    unfold spl
    rw [beq_eq_false_iff_ne]
    intro h'
    have := dl_enc 65533 (by decide) (l.drop 3)
    rw [encFFFD, ← h', List.take_append_drop, h, h'] at this
    exact absurd this (by decide)
  · have h2 : (dl l != (0xFFFD, 1)) = true := by rw [bne_iff_ne]; exact h
    rw [h2]
    have he := enc_dl l hne h
    rw [hd] at he
    have he2 : l.take (dl l).2 = [239, 191, 189] := he.symm.trans encFFFD
    have hl := congrArg List.length he2
    have hw := dl_width_le l hne
    rw [List.length_take, Nat.min_eq_left hw] at hl
    rw [hl] at he2
    unfold spl
    rw [beq_iff_eq]
    exact he2
theorem dl_other_bne (l : List UInt8) (hd : (dl l).1 ≠ 65533) : (dl l != (0xFFFD, 1)) = true := by
  rw [bne_iff_ne]; intro h; rw [h] at hd; exact hd rfl

set_option maxRecDepth 1000000 in
set_option maxHeartbeats 400000 in
theorem valid_any (s : ByteArray) (w : World) (hs : s.size ≤ 281474976710656 / 16) :
    Calls Try.prog 16 #[.string s] w fun e w' => e = .returned (.bool (vld s.data.toList)) ∧ Below w.heap.size w w' := by
  go_enter Try.func16, Try.ntmps16
  go_wp2
  go_loopw [2] (fun _ wr => ∃ pos, wr = w.iter s pos ∧ pos ≤ s.size ∧ vld s.data.toList = vld (s.data.toList.drop pos)) (fun _ wr => s.size - wr.iterPos w.heap.size)
  case atStart => exact ⟨0, rfl, by omega, by simp⟩
  case round =>
    obtain ⟨pos, rfl, hps, hv⟩ := hrel
    have Hv := Lib.hid hv; clear hv
    by_cases hp : pos < s.size
    · have hnx := fun ty => next_iter (P := Try.prog) w s pos ty hp
      have hw := dl_width (s.data.toList.drop pos)
      have hwl := width_le hp
      have hc := vld_cons _ (drop_ne hp)
      rw [List.drop_drop] at hc
      by_cases hd : (dl (s.data.toList.drop pos)).1 = 65533
      · have hsp := spl_dl _ (drop_ne hp) hd
        rw [← hsp] at hc
        clear hsp
        have Hc := Lib.hid hc; clear hc
        have q1 : (((dl (s.data.toList.drop pos)).1 : Int) == 65533) = true := by rw [hd]; rfl
        clear hd
        by_cases hb : spl (s.data.toList.drop pos) = true
        · have Hb := Lib.hid hb; clear hb
          go_wp2_with fail
          refine (spells_is (s.extract pos s.size) _ true (by rw [ByteArray.size_extract]; omega) (by rw [ext_data]; exact Hb.out)).mono ?_
          rintro e w' ⟨rfl, rfl⟩
          go_wp2
          go_roundw
          case rel => exact ⟨_, rfl, hwl, by rw [Hv.out, Hc.out, Hb.out]; rfl⟩
          case measure => simp; omega
        · have Hb := Lib.hid hb; clear hb
          go_wp2_with fail
          refine (spells_is (s.extract pos s.size) _ false (by rw [ByteArray.size_extract]; omega) (by rw [ext_data]; simpa using Hb.out)).mono ?_
          rintro e w' ⟨rfl, rfl⟩
          go_wp2
          go_ret
          have hb := Hb.out
          exact ⟨ret_bool (by rw [Hv.out, Hc.out]; simp only [Bool.not_eq_true] at hb; rw [hb]; rfl), iter_below _ _ _⟩
      · have q1 : (((dl (s.data.toList.drop pos)).1 : Int) == 65533) = false := by rw [beq_eq_false_iff_ne]; omega
        have Hb := Lib.hid (dl_other_bne _ hd)
        have Hc := Lib.hid hc; clear hc hd
        go_wp2
        go_roundw
        case rel => exact ⟨_, rfl, hwl, by rw [Hv.out, Hc.out, Hb.out]; rfl⟩
        case measure => simp; omega
    · have hnx := fun ty => run_next_end (P := Try.prog) w s pos ty hp
      go_wp2
      go_ret
      exact ⟨ret_bool (by rw [Hv.out, drop_end hp, vld_nil]), iter_below _ _ _⟩
end Go.Proofs.Ytndicgjlmhnkbaa
