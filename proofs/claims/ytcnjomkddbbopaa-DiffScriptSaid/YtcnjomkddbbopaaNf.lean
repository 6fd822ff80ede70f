/- The reference's Reverse. -/
import Derived.Test.YtcnjomkddbbopaaNe
import Derived.Lib.SliceRun
namespace Go.Proofs.Ytcnjomkddbbopaa
open Go.RowKit
set_option linter.unusedVariables false

set_option maxRecDepth 1000000 in
set_option maxHeartbeats 1000000 in
theorem refReverse_any (u : Value) (l : List Ed) (w : World) (hu : Rd 2 encE w u l) (hl : l.length ≤ 1000) :
    Calls Try.prog 22 #[u] w fun e w' => ∃ v, e = .returned v ∧ Own1 2 encE w' w.heap.size 59 v (l.map revE) ∧ Below w.heap.size w w' := by
  obtain ⟨a, c, rfl, hc1, hc2⟩ := hu.slice
  obtain ⟨iI, hiI, hzI, hkI, hbI⟩ := info_parts Try.infoEr
  have HU := Lib.hid hu; clear hu
  go_enter Try.func22, Try.ntmps22
  go_wp2
  go_loopw [3, 4] (fun v3 v4 wr => ∃ k : Nat, k ≤ l.length ∧ v4 = .int .i64 k ∧ Own1 2 encE wr w.heap.size 59 v3 ((l.take k).map revE) ∧ Below w.heap.size w wr) (fun _ v4 _ => l.length - (intOf v4).toNat)
  case atStart => exact ⟨0, Nat.zero_le _, rfl, own1_nil _ _ _, Below.refl _ _⟩
  case round =>
    obtain ⟨k, hk, rfl, hown, hb⟩ := hrel
    have HO := Lib.hid hown
    have HBW := Lib.hid hb
    have zr := hb.size
    obtain ⟨av, cv, hav⟩ := hown.slice
    obtain ⟨n, hn⟩ : ∃ n, ((l.take k).map revE).length = n := ⟨_, rfl⟩
    have hnl : n ≤ 1000 := by rw [← hn, List.length_map, List.length_take]; omega
    rw [hn] at hav
    subst hav
    have HN := Lib.hid hn
    clear hown hb hn
    by_cases hlt : k < l.length
    · obtain ⟨bk, off, rfl, h0, h1⟩ := (HU.out.below HBW.out).ed k hlt
      have h3 : (k : Int) < (l.length : Int) := by omega
      have HT := Lib.hid (List.take_succ_eq_append_getElem hlt)
      obtain ⟨q, hq⟩ : ∃ q, l[k] = q := ⟨_, rfl⟩
      rw [hq] at h0 h1 HT
      obtain ⟨q1, t⟩ := q
      dsimp only at h0 h1
      have K1 : (wr.alloc (.cells #[.int .i64 q1, .string (ofL t)] 59)).cell? ⟨bk, off + k * 2, none⟩ = some (.int .i64 q1) := Lib.cell?_alloc_some _ h0
      clear hq
      by_cases e2 : q1 = 2
      · subst e2
        have HR : Hid ((l.take (k + 1)).map revE = (l.take k).map revE ++ [((3), t)]) := Lib.hid (by rw [HT.out, List.map_append]; simp [revE])
        have HOZ := Lib.hid (HO.out.below ((Below.refl _ wr).alloc (Nat.le_refl _) (.cells #[.int .i64 (3), .string (ofL t)] 59)))
        have HBZ := Lib.hid (HBW.out.alloc zr (.cells #[.int .i64 (3), .string (ofL t)] 59))
        go_wp2_with (first | (at_builtin; refine wpList_append_at (w0 := wr.alloc (.cells #[.int .i64 (3), .string (ofL t)] 59)) (x := ((3), t)) (N := wr.heap.size + 1) (by simp) rfl _ _ 30 rfl w.heap.size iI _ 24 Try.underlying30 hiI hzI hkI hbI (by omega) rfl (by omega) encE_len encE_one _ ((l.take k).map revE) rfl rfl HOZ.out rfl (by rw [HN.out]; omega) (by omega) ?_; intro v9 w9 y1 y2 y3) | go_in)
        have HY1 := Lib.hid y1
        have HY2 := Lib.hid y2
        clear y1 y2 y3
        go_wp2
        go_roundw
        case measure => simp [intOf]; omega
        case rel => exact ⟨k + 1, by omega, by go_num, by rw [HR.out]; exact HY1.out, HBZ.out.trans HY2.out⟩
      · by_cases e3 : q1 = 3
        · subst e3
          have HR : Hid ((l.take (k + 1)).map revE = (l.take k).map revE ++ [((2), t)]) := Lib.hid (by rw [HT.out, List.map_append]; simp [revE])
          have HOZ := Lib.hid (HO.out.below ((Below.refl _ wr).alloc (Nat.le_refl _) (.cells #[.int .i64 (2), .string (ofL t)] 59)))
          have HBZ := Lib.hid (HBW.out.alloc zr (.cells #[.int .i64 (2), .string (ofL t)] 59))
          go_wp2_with (first | (at_builtin; refine wpList_append_at (w0 := wr.alloc (.cells #[.int .i64 (2), .string (ofL t)] 59)) (x := ((2), t)) (N := wr.heap.size + 1) (by simp) rfl _ _ 30 rfl w.heap.size iI _ 24 Try.underlying30 hiI hzI hkI hbI (by omega) rfl (by omega) encE_len encE_one _ ((l.take k).map revE) rfl rfl HOZ.out rfl (by rw [HN.out]; omega) (by omega) ?_; intro v9 w9 y1 y2 y3) | go_in)
          have HY1 := Lib.hid y1
          have HY2 := Lib.hid y2
          clear y1 y2 y3
          go_wp2
          go_roundw
          case measure => simp [intOf]; omega
          case rel => exact ⟨k + 1, by omega, by go_num, by rw [HR.out]; exact HY1.out, HBZ.out.trans HY2.out⟩
        · have t2 : (q1 == 2) = false := by rw [beq_eq_false_iff_ne]; exact e2
          have t3 : (q1 == 3) = false := by rw [beq_eq_false_iff_ne]; exact e3
          have HR : Hid ((l.take (k + 1)).map revE = (l.take k).map revE ++ [((q1), t)]) := Lib.hid (by rw [HT.out, List.map_append]; simp [revE, e2, e3])
          have HOZ := Lib.hid (HO.out.below ((Below.refl _ wr).alloc (Nat.le_refl _) (.cells #[.int .i64 (q1), .string (ofL t)] 59)))
          have HBZ := Lib.hid (HBW.out.alloc zr (.cells #[.int .i64 (q1), .string (ofL t)] 59))
          go_wp2_with (first | (at_builtin; refine wpList_append_at (w0 := wr.alloc (.cells #[.int .i64 (q1), .string (ofL t)] 59)) (x := ((q1), t)) (N := wr.heap.size + 1) (by simp) rfl _ _ 30 rfl w.heap.size iI _ 24 Try.underlying30 hiI hzI hkI hbI (by omega) rfl (by omega) encE_len encE_one _ ((l.take k).map revE) rfl rfl HOZ.out rfl (by rw [HN.out]; omega) (by omega) ?_; intro v9 w9 y1 y2 y3) | go_in)
          have HY1 := Lib.hid y1
          have HY2 := Lib.hid y2
          clear y1 y2 y3
          go_wp2
          go_roundw
          case measure => simp [intOf]; omega
          case rel => exact ⟨k + 1, by omega, by go_num, by rw [HR.out]; exact HY1.out, HBZ.out.trans HY2.out⟩
    · obtain rfl : k = l.length := by omega
      have h3 : ¬ (l.length : Int) < (l.length : Int) := by omega
      go_wp2
      go_ret
      refine ⟨_, rfl, ?_, HBW.out⟩
      have := HO.out
      rwa [List.take_length] at this
end Go.Proofs.Ytcnjomkddbbopaa
