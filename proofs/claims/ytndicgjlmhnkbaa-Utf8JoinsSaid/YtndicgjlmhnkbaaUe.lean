/- The contracts of utf8.Decode, utf8.Count. -/
import Derived.Test.YtndicgjlmhnkbaaUd
import Derived.WalkSmall
namespace Go.Proofs.Ytndicgjlmhnkbaa
open Go.RowKit
set_option linter.unusedVariables false

theorem dl_le (l : List UInt8) : (dl l).1 ≤ 1114111 := by
  have h := dl_valid l
  have := (valid_iff _).1 h
  omega
theorem next_at {P : Program} (w : World) (k : Nat) (s : ByteArray) (pos : Nat) (ty : TypeId) (hk : w.heap[k]? = some (.stringIter s pos)) (h : pos < s.size) :
    (Instr.next (.pointer (some ⟨k, 0, none⟩)) true ty).run P w =
      .ok (.tuple #[.bool true, .int .i64 pos, .int .i32 (dl (s.data.toList.drop pos)).1]) (w.iterAt k s (pos + (dl (s.data.toList.drop pos)).2)) := by
  rw [← decode_dl]; exact Lib.run_next_any_at w k s pos ty hk h
theorem drop_ne {s : ByteArray} {pos : Nat} (h : pos < s.size) : s.data.toList.drop pos ≠ [] := fun h' => by
  have := len_data s
  have h2 := congrArg List.length h'
  rw [List.length_drop] at h2; simp only [List.length_nil] at h2; omega
theorem drop_end {s : ByteArray} {pos : Nat} (h : ¬ pos < s.size) : s.data.toList.drop pos = [] := List.drop_eq_nil_of_le (by rw [len_data]; omega)
theorem width_le {s : ByteArray} {pos : Nat} (h : pos < s.size) : pos + (dl (s.data.toList.drop pos)).2 ≤ s.size := by
  have := dl_width_le _ (drop_ne h)
  rw [List.length_drop, len_data] at this
  omega

def DecRel2 (s : ByteArray) (w : World) (pos : Nat) (pre : List Int) (v : Value) (wr : World) : Prop :=
  wr.heap[w.heap.size]? = some (.stringIter s pos) ∧ pos ≤ s.size ∧ elI s.data.toList = pre ++ elI (s.data.toList.drop pos) ∧ pre.length ≤ pos ∧ wr.ownsRow (w.heap.size + 1) 3 1 v pre.length (pre.map (Value.int .i64)) ∧ Below w.heap.size w wr

theorem decode_step {s : ByteArray} {w wr w2 : World} {pos : Nat} {pre : List Int} {v v' : Value} {o : Obj} (hp : pos < s.size) (h : DecRel2 s w pos pre v wr)
    (hown' : w2.ownsRow (w.heap.size + 1) 3 1 v' (pre.length + 1) (pre.map (Value.int .i64) ++ [.int .i64 (dl (s.data.toList.drop pos)).1]))
    (hg : ((wr.iterAt w.heap.size s (pos + (dl (s.data.toList.drop pos)).2)).alloc o).grownBy w2 v.ownBlock) : DecRel2 s w (pos + (dl (s.data.toList.drop pos)).2) (pre ++ [((dl (s.data.toList.drop pos)).1 : Int)]) v' w2 := by
  obtain ⟨hk, _, hels, hlen, hown, hB⟩ := h
  have hw := dl_width (s.data.toList.drop pos)
  have hr : ∀ k, v.ownBlock = some k → w.heap.size + 1 ≤ k := fun k e => (hown.lt k e).1
  have hlt : w.heap.size < wr.heap.size := (Array.getElem?_eq_some_iff.1 hk).1
  refine ⟨?_, width_le hp, ?_, by simp; omega, by simpa using hown', ?_⟩
  · rw [hg.block _ (by simp [Lib.iterAt_size]; omega) (fun e => by have := hr _ e.symm; omega), Below.heap_alloc _ _ _ (by rw [Lib.iterAt_size]; exact hlt)]
    exact Lib.iterAt_heap _ _ _ _ _ hk
  · rw [hels, elI_cons _ (drop_ne hp), List.drop_drop]; simp
  · exact ((Lib.below_iterAt hB (Nat.le_refl _) _ _).alloc (by rw [Lib.iterAt_size]; omega) o).grown hg (by simp [Lib.iterAt_size]; omega) (fun k e => by have := hr k e; omega)

set_option maxRecDepth 1000000 in
set_option maxHeartbeats 400000 in
theorem decode_any (s : ByteArray) (w : World) (hs : s.size ≤ 281474976710656 / 16) :
    Calls Try.prog 14 #[.string s] w (ListPost w (elI s.data.toList)) := by
  obtain ⟨i0, hi, hz0, hz1, hz2⟩ := info_parts Try.infoI
  go_enter Try.func14, Try.ntmps14
  go_wp2
  go_loopw [3] (fun v wr => ∃ pos pre, DecRel2 s w pos pre v wr) (fun _ wr => s.size - wr.iterPos w.heap.size)
  case atStart => exact ⟨0, [], heap_alloc_new w _, by omega, by simp, by simp, World.ownsRow_nil _ _ _ _, (Below.refl _ _).alloc (Nat.le_refl _) _⟩
  case round =>
    obtain ⟨pos, pre, hrel⟩ := hrel
    have Hr := Lib.hid hrel
    obtain ⟨hk, hps, hels, hlen, hown, hB⟩ := hrel
    have hsz := hB.size
    clear hels hB
    have hm : Hid (wr.iterPos w.heap.size = pos) := iterPos_of hk
    by_cases hp : pos < s.size
    · have hnx := fun ty => next_at (P := Try.prog) wr _ s pos ty hk hp
      have hd := dl_le (s.data.toList.drop pos)
      have hlt : w.heap.size < wr.heap.size := (Array.getElem?_eq_some_iff.1 hk).1
      have hw := dl_width (s.data.toList.drop pos)
      have hwl := width_le hp
      clear hk
      have hown1 := ownsRow_iterAt hown (Nat.lt_succ_self _) s (pos + (dl (s.data.toList.drop pos)).2)
      clear hown
      go_wp2_with (at_builtin; refine wpList_append_own _ rfl _ _ 23 rfl (w.heap.size + 1) 3 i0 (.int .i64 0) 1 8 Try.underlying23 hi hz0 hz1 hz2 rfl (by decide) _ _ _ rfl (hown1.alloc _) ⟨(wr.iterAt w.heap.size s (pos + (dl (s.data.toList.drop pos)).2)).heap.size, 0, none⟩ 1 1 [.int .i64 (dl (s.data.toList.drop pos)).1] rfl rfl ?c1 ?c2 ?c3 ?c4 ?c5 ?_)
      case c1 => exact cell_one_new _ _ _
      case c2 => intro u hu; simp at hu; subst hu; rfl
      case c3 => unfold maxLen; omega
      case c4 => omega
      case c5 => simp [Lib.iterAt_size]; omega
      · intro v' w2 hown2 hgrow _
        have R := decode_step hp Hr.out hown2 hgrow
        have hm2 := Lib.hid (iterPos_of R.1)
        have R := Lib.hid R
        clear hown2 hgrow hown1
        go_wp2
        go_roundw
        case rel => exact ⟨_, _, R.out⟩
        case measure => rw [hm2.out, hm.out]; omega
    · have hnx := fun ty => Lib.run_next_end_at (P := Try.prog) wr _ s pos ty hk hp
      go_wp2
      go_ret
      obtain ⟨_, _, hels, _, hown, hB⟩ := Hr.out
      rw [drop_end hp, elI_nil, List.append_nil] at hels
      exact ⟨_, rfl, by rw [hels]; exact RdI.of_own hown (by omega), hB⟩
end Go.Proofs.Ytndicgjlmhnkbaa
