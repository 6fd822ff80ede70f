/- What the row stands on, part 6. -/
import Derived.WalkSmall
import Derived.Test.YtpmmchppfmojhaaGreatDoorQ5

/- The contracts of utf8.Decode, utf8.Count. -/
namespace Go.Proofs.YtpmmchppfmojhaaGreatDoor
open Go.RowKit
set_option linter.unusedVariables false

theorem dl_le (l : List UInt8) : (dl l).1 ≤ 1114111 := by
  have h := dl_valid l
  have := (valid_iff _).1 h
  omega
theorem next_at {P : Program} (w : World) (k : Nat) (s : ByteArray) (pos : Nat) (ty : TypeId) (hk : w.heap[k]? = some (.stringIter s pos)) (h : pos < s.size) :
    (Instr.next (.pointer (some ⟨k, 0, none⟩)) true ty).run P w =
      .ok (.tuple #[.bool true, .int .i64 pos, .int .i32 (dl (s.data.toList.drop pos)).1]) (w.iterAt k s (pos + (dl (s.data.toList.drop pos)).2)) := by
  rw [← decode_dl]; exact Lib.run_next_any_at w k s pos ty hk h
theorem drop_ne {s : ByteArray} {pos : Nat} (h : pos < s.size) : s.data.toList.drop pos ≠ [] := fun h' => by
  have := len_data s
  have h2 := congrArg List.length h'
  rw [List.length_drop] at h2; simp only [List.length_nil] at h2; omega
theorem drop_end {s : ByteArray} {pos : Nat} (h : ¬ pos < s.size) : s.data.toList.drop pos = [] := List.drop_eq_nil_of_le (by rw [len_data]; omega)
theorem width_le {s : ByteArray} {pos : Nat} (h : pos < s.size) : pos + (dl (s.data.toList.drop pos)).2 ≤ s.size := by
  have := dl_width_le _ (drop_ne h)
  rw [List.length_drop, len_data] at this
  omega

def DecRel2 (s : ByteArray) (w : World) (pos : Nat) (pre : List Int) (v : Value) (wr : World) : Prop :=
  wr.heap[w.heap.size]? = some (.stringIter s pos) ∧ pos ≤ s.size ∧ elI s.data.toList = pre ++ elI (s.data.toList.drop pos) ∧ pre.length ≤ pos ∧ wr.ownsRow (w.heap.size + 1) 3 1 v pre.length (pre.map (Value.int .i64)) ∧ Below w.heap.size w wr

theorem decode_step {s : ByteArray} {w wr w2 : World} {pos : Nat} {pre : List Int} {v v' : Value} {o : Obj} (hp : pos < s.size) (h : DecRel2 s w pos pre v wr)
    (hown' : w2.ownsRow (w.heap.size + 1) 3 1 v' (pre.length + 1) (pre.map (Value.int .i64) ++ [.int .i64 (dl (s.data.toList.drop pos)).1]))
    (hg : ((wr.iterAt w.heap.size s (pos + (dl (s.data.toList.drop pos)).2)).alloc o).grownBy w2 v.ownBlock) : DecRel2 s w (pos + (dl (s.data.toList.drop pos)).2) (pre ++ [((dl (s.data.toList.drop pos)).1 : Int)]) v' w2 := by
  obtain ⟨hk, _, hels, hlen, hown, hB⟩ := h
  have hw := dl_width (s.data.toList.drop pos)
  have hr : ∀ k, v.ownBlock = some k → w.heap.size + 1 ≤ k := fun k e => (hown.lt k e).1
  have hlt : w.heap.size < wr.heap.size := (Array.getElem?_eq_some_iff.1 hk).1
  refine ⟨?_, width_le hp, ?_, by simp; omega, by simpa using hown', ?_⟩
  · rw [hg.block _ (by simp [Lib.iterAt_size]; omega) (fun e => by have := hr _ e.symm; omega), Below.heap_alloc _ _ _ (by rw [Lib.iterAt_size]; exact hlt)]
    exact Lib.iterAt_heap _ _ _ _ _ hk
  · rw [hels, elI_cons _ (drop_ne hp), List.drop_drop]; simp
  · exact ((Lib.below_iterAt hB (Nat.le_refl _) _ _).alloc (by rw [Lib.iterAt_size]; omega) o).grown hg (by simp [Lib.iterAt_size]; omega) (fun k e => by have := hr k e; omega)

set_option maxRecDepth 1000000 in
set_option maxHeartbeats 400000 in
theorem decode_any (s : ByteArray) (w : World) (hs : s.size ≤ 281474976710656 / 16) :
    Calls Tryz.prog 346 #[.string s] w (ListPost w (elI s.data.toList)) := by
  obtain ⟨i0, hi, hz0, hz1, hz2⟩ := info_parts Tryz.infoI
  go_enter Tryz.func346, Tryz.ntmps346
  go_wp2
  go_loopw [3] (fun v wr => ∃ pos pre, DecRel2 s w pos pre v wr) (fun _ wr => s.size - wr.iterPos w.heap.size)
  case atStart => exact ⟨0, [], heap_alloc_new w _, by omega, by simp, by simp, World.ownsRow_nil _ _ _ _, (Below.refl _ _).alloc (Nat.le_refl _) _⟩
  case round =>
    obtain ⟨pos, pre, hrel⟩ := hrel
    have Hr := Lib.hid hrel
    obtain ⟨hk, hps, hels, hlen, hown, hB⟩ := hrel
    have hsz := hB.size
    clear hels hB
    have hm : Hid (wr.iterPos w.heap.size = pos) := iterPos_of hk
    by_cases hp : pos < s.size
    · have hnx := fun ty => next_at (P := Tryz.prog) wr _ s pos ty hk hp
      have hd := dl_le (s.data.toList.drop pos)
      have hlt : w.heap.size < wr.heap.size := (Array.getElem?_eq_some_iff.1 hk).1
      have hw := dl_width (s.data.toList.drop pos)
      have hwl := width_le hp
      clear hk
      have hown1 := ownsRow_iterAt hown (Nat.lt_succ_self _) s (pos + (dl (s.data.toList.drop pos)).2)
      clear hown
      go_wp2_with (at_builtin; refine wpList_append_own _ rfl _ _ 218 rfl (w.heap.size + 1) 3 i0 (.int .i64 0) 1 8 Tryz.underlying218 hi hz0 hz1 hz2 rfl (by decide) _ _ _ rfl (hown1.alloc _) ⟨(wr.iterAt w.heap.size s (pos + (dl (s.data.toList.drop pos)).2)).heap.size, 0, none⟩ 1 1 [.int .i64 (dl (s.data.toList.drop pos)).1] rfl rfl ?c1 ?c2 ?c3 ?c4 ?c5 ?_)
      case c1 => exact cell_one_new _ _ _
      case c2 => intro u hu; simp at hu; subst hu; rfl
      case c3 => unfold maxLen; omega
      case c4 => omega
      case c5 => simp [Lib.iterAt_size]; omega
      · intro v' w2 hown2 hgrow _
        have R := decode_step hp Hr.out hown2 hgrow
        have hm2 := Lib.hid (iterPos_of R.1)
        have R := Lib.hid R
        clear hown2 hgrow hown1
        go_wp2
        go_roundw
        case rel => exact ⟨_, _, R.out⟩
        case measure => rw [hm2.out, hm.out]; omega
    · have hnx := fun ty => Lib.run_next_end_at (P := Tryz.prog) wr _ s pos ty hk hp
      go_wp2
      go_ret
      obtain ⟨_, _, hels, _, hown, hB⟩ := Hr.out
      rw [drop_end hp, elI_nil, List.append_nil] at hels
      exact ⟨_, rfl, by rw [hels]; exact RdI.of_own hown (by omega), hB⟩
end Go.Proofs.YtpmmchppfmojhaaGreatDoor


/- Count, spellsReplacement, Valid. -/
namespace Go.Proofs.YtpmmchppfmojhaaGreatDoor
open Go.RowKit
set_option linter.unusedVariables false

theorem iter_below (w : World) (s : ByteArray) (pos : Nat) : Below w.heap.size w (w.iter s pos) := (Below.refl _ _).alloc (Nat.le_refl _) _
theorem next_iter {P : Program} (w : World) (s : ByteArray) (pos : Nat) (ty : TypeId) (h : pos < s.size) :
    (Instr.next (.pointer (some ⟨w.heap.size, 0, none⟩)) true ty).run P (w.iter s pos) =
      .ok (.tuple #[.bool true, .int .i64 pos, .int .i32 (dl (s.data.toList.drop pos)).1]) (w.iter s (pos + (dl (s.data.toList.drop pos)).2)) := by
  rw [← decode_dl]; exact run_next_any w s pos ty h

def spl (l : List UInt8) : Bool := l.take 3 == [239, 191, 189]
theorem ret_boolU {a b : Bool} (h : a = b) : Ending.returned (.bool a) = .returned (.bool b) := by rw [h]
theorem spl_short {l : List UInt8} (h : l.length < 3) : spl l = false := by
  unfold spl
  rw [beq_eq_false_iff_ne]
  intro h'
  have := congrArg List.length h'
  rw [List.length_take] at this
  simp only [List.length_cons, List.length_nil] at this
  omega
set_option maxRecDepth 1000000 in
set_option maxHeartbeats 400000 in
theorem spells_any (s : ByteArray) (w : World) (hs : s.size ≤ 281474976710656 / 16) :
    Calls Tryz.prog 296 #[.string s] w fun e w' => e = .returned (.bool (spl s.data.toList)) ∧ w = w' := by
  by_cases h3 : 3 ≤ s.size
  · go_enter Tryz.func296, Tryz.ntmps296
    go_wp2
    go_ret
    exact ⟨ret_boolU (by unfold spl; rw [← toList_ext]), rfl⟩
  · go_enter Tryz.func296, Tryz.ntmps296
    go_wp2
    go_ret
    exact ⟨ret_boolU (spl_short (by rw [len_data]; omega)).symm, rfl⟩

theorem spells_is (s : ByteArray) (w : World) (b : Bool) (hs : s.size ≤ 281474976710656 / 16) (h : spl s.data.toList = b) :
    Calls Tryz.prog 296 #[.string s] w fun e w' => e = .returned (.bool b) ∧ w = w' := by
  have := spells_any s w hs
  rw [h] at this
  exact this

/-! ### What a valid string is -/
def goodL : Nat → List UInt8 → Bool
  | 0, _ => true
  | f + 1, l => if l = [] then true else (dl l != (0xFFFD, 1)) && goodL f (l.drop (dl l).2)
theorem goodL_nil (f : Nat) : goodL f [] = true := by cases f <;> simp [goodL]
theorem goodL_fuel : ∀ (f g : Nat) (l : List UInt8), l.length ≤ f → l.length ≤ g → goodL f l = goodL g l
  | 0, g, l, hf, _ => by
    have : l = [] := List.length_eq_zero_iff.1 (by omega)
    subst this; rw [goodL_nil, goodL_nil]
  | f + 1, 0, l, _, hg => by
    have : l = [] := List.length_eq_zero_iff.1 (by omega)
    subst this; rw [goodL_nil, goodL_nil]
  | f + 1, g + 1, l, hf, hg => by
    unfold goodL
    by_cases h : l = []
    · simp [h]
    · rw [if_neg h, if_neg h]
      have hw := dl_width l
      congr 1
      exact goodL_fuel f g _ (by rw [List.length_drop]; omega) (by rw [List.length_drop]; omega)
def vld (l : List UInt8) : Bool := goodL l.length l
theorem vld_nil : vld [] = true := rfl
theorem vld_cons (l : List UInt8) (h : l ≠ []) : vld l = ((dl l != (0xFFFD, 1)) && vld (l.drop (dl l).2)) := by
  have h0 : 0 < l.length := List.length_pos_iff.2 h
  have hw := dl_width l
  unfold vld
  obtain ⟨f, hf⟩ : ∃ f, l.length = f + 1 := ⟨l.length - 1, by omega⟩
  rw [hf]
  show (if l = [] then true else (dl l != (0xFFFD, 1)) && goodL f (l.drop (dl l).2)) = _
  rw [if_neg h]
  congr 1
  exact goodL_fuel _ _ _ (by rw [List.length_drop]; omega) (Nat.le_refl _)
theorem encFFFD : enc 65533 = [239, 191, 189] := by decide
theorem spl_dl (l : List UInt8) (hne : l ≠ []) (hd : (dl l).1 = 65533) : spl l = (dl l != (0xFFFD, 1)) := by
  by_cases h : dl l = (0xFFFD, 1)
  · have h2 : (dl l != (0xFFFD, 1)) = false := by rw [h]; decide
    rw [h2]
    unfold spl
    rw [beq_eq_false_iff_ne]
    intro h'
    have := dl_enc 65533 (by decide) (l.drop 3)
    rw [encFFFD, ← h', List.take_append_drop, h, h'] at this
    exact absurd this (by decide)
  · have h2 : (dl l != (0xFFFD, 1)) = true := by rw [bne_iff_ne]; exact h
    rw [h2]
    have he := enc_dl l hne h
    rw [hd] at he
    have he2 : l.take (dl l).2 = [239, 191, 189] := he.symm.trans encFFFD
    have hl := congrArg List.length he2
    have hw := dl_width_le l hne
    rw [List.length_take, Nat.min_eq_left hw] at hl
    rw [hl] at he2
    unfold spl
    rw [beq_iff_eq]
    exact he2
theorem dl_other_bne (l : List UInt8) (hd : (dl l).1 ≠ 65533) : (dl l != (0xFFFD, 1)) = true := by
  rw [bne_iff_ne]; intro h; rw [h] at hd; exact hd rfl

set_option maxRecDepth 1000000 in
set_option maxHeartbeats 400000 in
theorem valid_any (s : ByteArray) (w : World) (hs : s.size ≤ 281474976710656 / 16) :
    Calls Tryz.prog 246 #[.string s] w fun e w' => e = .returned (.bool (vld s.data.toList)) ∧ Below w.heap.size w w' := by
  go_enter Tryz.func246, Tryz.ntmps246
  go_wp2
  go_loopw [2] (fun _ wr => ∃ pos, wr = w.iter s pos ∧ pos ≤ s.size ∧ vld s.data.toList = vld (s.data.toList.drop pos)) (fun _ wr => s.size - wr.iterPos w.heap.size)
  case atStart => exact ⟨0, rfl, by omega, by simp⟩
  case round =>
    obtain ⟨pos, rfl, hps, hv⟩ := hrel
    have Hv := Lib.hid hv; clear hv
    by_cases hp : pos < s.size
    · have hnx := fun ty => next_iter (P := Tryz.prog) w s pos ty hp
      have hw := dl_width (s.data.toList.drop pos)
      have hwl := width_le hp
      have hc := vld_cons _ (drop_ne hp)
      rw [List.drop_drop] at hc
      by_cases hd : (dl (s.data.toList.drop pos)).1 = 65533
      · have hsp := spl_dl _ (drop_ne hp) hd
        rw [← hsp] at hc
        clear hsp
        have Hc := Lib.hid hc; clear hc
        have q1 : (((dl (s.data.toList.drop pos)).1 : Int) == 65533) = true := by rw [hd]; rfl
        clear hd
        by_cases hb : spl (s.data.toList.drop pos) = true
        · have Hb := Lib.hid hb; clear hb
          go_wp2_with fail
          refine (spells_is (s.extract pos s.size) _ true (by rw [ByteArray.size_extract]; omega) (by rw [ext_data]; exact Hb.out)).mono ?_
          rintro e w' ⟨rfl, rfl⟩
          go_wp2
          go_roundw
          case rel => exact ⟨_, rfl, hwl, by rw [Hv.out, Hc.out, Hb.out]; rfl⟩
          case measure => simp; omega
        · have Hb := Lib.hid hb; clear hb
          go_wp2_with fail
          refine (spells_is (s.extract pos s.size) _ false (by rw [ByteArray.size_extract]; omega) (by rw [ext_data]; simpa using Hb.out)).mono ?_
          rintro e w' ⟨rfl, rfl⟩
          go_wp2
          go_ret
          have hb := Hb.out
          exact ⟨ret_boolU (by rw [Hv.out, Hc.out]; simp only [Bool.not_eq_true] at hb; rw [hb]; rfl), iter_below _ _ _⟩
      · have q1 : (((dl (s.data.toList.drop pos)).1 : Int) == 65533) = false := by rw [beq_eq_false_iff_ne]; omega
        have Hb := Lib.hid (dl_other_bne _ hd)
        have Hc := Lib.hid hc; clear hc hd
        go_wp2
        go_roundw
        case rel => exact ⟨_, rfl, hwl, by rw [Hv.out, Hc.out, Hb.out]; rfl⟩
        case measure => simp; omega
    · have hnx := fun ty => run_next_end (P := Tryz.prog) w s pos ty hp
      go_wp2
      go_ret
      exact ⟨ret_boolU (by rw [Hv.out, drop_end hp, vld_nil]), iter_below _ _ _⟩
end Go.Proofs.YtpmmchppfmojhaaGreatDoor


