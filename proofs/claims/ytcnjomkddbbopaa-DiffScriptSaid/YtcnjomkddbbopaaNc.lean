/- slices.Clone, diff.Reverse. -/
import Derived.Test.YtcnjomkddbbopaaNb
import Derived.Test.YtcnjomkddbbopaaMq
import Derived.WalkSpells
import Derived.Lib.SliceRun
namespace Go.Proofs.Ytcnjomkddbbopaa
open Go.RowKit
set_option linter.unusedVariables false

theorem own_emptyE (w : World) (base : Nat) (hb : base ≤ w.heap.size) : Own1 2 encE (w.alloc (.cells #[] 60)) base 60 (.slice (some ⟨w.heap.size, 0, none⟩) 0 0) [] := World.ownsRow_made w #[] 0 hb (by decide) rfl
set_option maxRecDepth 1000000 in
set_option maxHeartbeats 1000000 in
theorem clone_any (u : Value) (l : List Ed) (w : World) (hu : Rd 2 encE w u l) (hl : l.length ≤ 1000) :
    Calls Try.prog 32 #[u] w fun e w' => ∃ v, e = .returned v ∧ Own1 2 encE w' w.heap.size 60 v l ∧ Below w.heap.size w w' := by
  obtain ⟨a, c, rfl, hc1, hc2⟩ := hu.slice
  obtain ⟨iI, hiI, hzI, hkI, hbI⟩ := info_parts Try.infoEd
  have HU := Lib.hid hu
  cases a with
  | none =>
    have hl0 : l = [] := by
      rcases Classical.em (l = []) with h | h
      · exact h
      · obtain ⟨b, off, hb, _⟩ := hu.some_ 0 (List.length_pos_iff.2 h)
        cases hb
    have hc0 := hu.nil_ _ _ rfl
    subst hl0
    subst hc0
    clear hu
    have en : ∀ wx, (binOp .eql 33 (.slice none 0 0) (.slice none 0 0)).run Try.prog wx = .ok (.bool true) wx := fun wx => by
      have := run_eql_nil_slice (P := Try.prog) wx 33 60 none 0 0 0 0 Try.underlying33
      simpa using this
    go_enter Try.func32, Try.ntmps32
    go_wp2
    go_ret
    exact ⟨_, rfl, own1_nil _ _ _, Below.refl _ _⟩
  | some ad =>
    clear hu
    have en : ∀ wx, (binOp .eql 33 (.slice (some ad) l.length c) (.slice none 0 0)).run Try.prog wx = .ok (.bool false) wx := fun wx => by
      have := Lib.run_eql_slice_nil (P := Try.prog) wx 33 60 (some ad) l.length c 0 0 Try.underlying33
      simpa using this
    have E0 := Lib.hid (own_emptyE w w.heap.size (Nat.le_refl _))
    have BE : Hid (Below w.heap.size w (w.alloc (.cells #[] 60))) := Lib.hid ((Below.refl _ w).alloc (Nat.le_refl _) _)
    have P0 := Lib.hid (HU.out.below BE.out)
    have y0 : w.heap.size ≤ (w.alloc (.cells #[] 60)).heap.size := BE.out.size
    go_enter Try.func32, Try.ntmps32
    go_wp2_with (first | (at_builtin; refine wpList_append_rd (w := w.alloc (.cells #[] 60)) rfl _ _ 33 rfl w.heap.size iI _ 24 Try.underlying33 hiI hzI hkI hbI (by omega) rfl (by omega) encE_len encE_one _ [] l _ rfl E0.out rfl P0.out (by simp; omega) y0 ?_; intro v5 w2 y1 y2) | fail)
    have HY1 := Lib.hid y1
    have HY2 := Lib.hid (BE.out.trans y2)
    clear y1 y2
    go_wp2
    go_ret
    exact ⟨_, rfl, HY1.out, HY2.out⟩

/-- The kinds that are exchanged so far. -/
def kd (l : List Ed) (k i : Nat) (q : Int) : Int := if i < k then (revE (q, ([] : Str))).1 else q
theorem kd_old {l : List Ed} {k i : Nat} {q : Int} (h : i ≠ k) : kd l (k + 1) i q = kd l k i q := by
  unfold kd
  by_cases h1 : i < k
  · rw [if_pos h1, if_pos (by omega)]
  · rw [if_neg h1, if_neg (by omega)]
theorem rev_put {l : List Ed} {k : Nat} {cs : Array Value} {m : Int} (hV : ∀ i (hi : i < l.length), cs[i * 2]? = some (.int .i64 (kd l k i (l[i]).1)) ∧ cs[i * 2 + 1]? = some (.string (ofL (l[i]).2))) (hk : k < l.length) (hm : kd l (k + 1) k (l[k]).1 = m) :
    ∀ i (hi : i < l.length), (cs.setIfInBounds (k * 2) (.int .i64 m))[i * 2]? = some (.int .i64 (kd l (k + 1) i (l[i]).1)) ∧ (cs.setIfInBounds (k * 2) (.int .i64 m))[i * 2 + 1]? = some (.string (ofL (l[i]).2)) := by
  intro i hi
  have hs : k * 2 < cs.size := (Array.getElem?_eq_some_iff.1 (hV k hk).1).1
  refine ⟨?_, by rw [Array.getElem?_setIfInBounds, if_neg (by omega)]; exact (hV i hi).2⟩
  rw [Array.getElem?_setIfInBounds]
  by_cases e : i = k
  · subst e
    rw [if_pos rfl, if_pos hs, hm]
  · rw [if_neg (by omega), kd_old e]
    exact (hV i hi).1
theorem rev_keep {l : List Ed} {k : Nat} {cs : Array Value} (hV : ∀ i (hi : i < l.length), cs[i * 2]? = some (.int .i64 (kd l k i (l[i]).1)) ∧ cs[i * 2 + 1]? = some (.string (ofL (l[i]).2))) (hk : k < l.length) (hm : kd l (k + 1) k (l[k]).1 = (l[k]).1) :
    ∀ i (hi : i < l.length), cs[i * 2]? = some (.int .i64 (kd l (k + 1) i (l[i]).1)) ∧ cs[i * 2 + 1]? = some (.string (ofL (l[i]).2)) := by
  intro i hi
  refine ⟨?_, (hV i hi).2⟩
  by_cases e : i = k
  · subst e
    rw [hm, (hV i hi).1]
    unfold kd
    rw [if_neg (by omega)]
  · rw [kd_old e]
    exact (hV i hi).1
set_option maxRecDepth 1000000 in
set_option maxHeartbeats 2000000 in
theorem reverse_any (u : Value) (l : List Ed) (w : World) (hu : Rd 2 encE w u l) (hl : l.length ≤ 1000) :
    Calls Try.prog 20 #[u] w fun e w' => ∃ v, e = .returned v ∧ Rd 2 encE w' v (l.map revE) ∧ Below w.heap.size w w' := by
  obtain ⟨a, c, rfl, hc1, hc2⟩ := hu.slice
  have HU := Lib.hid hu; clear hu
  go_enter Try.func20, Try.ntmps20
  go_wp2_with fail
  refine (clone_any _ l _ HU.out hl).mono ?_
  rintro e w1 ⟨v, rfl, ov, b1⟩
  have U1 := Lib.hid (HU.out.below b1)
  have HB1 := Lib.hid b1
  have z1 := b1.size
  rcases Classical.em (l = []) with hl0 | hl0
  · subst hl0
    have RV := Lib.hid (ov.rd encE_len)
    obtain ⟨av, cv, hv⟩ := ov.slice
    subst hv
    clear ov b1
    go_wp2
    go_loopw [10] (fun v wr => v = .int .i64 0 ∧ wr = w1) (fun _ _ => 0)
    case atStart => exact ⟨rfl, rfl⟩
    case round =>
      obtain ⟨rfl, h⟩ := hrel
      obtain rfl := h.symm
      go_wp2
      go_ret
      exact ⟨_, rfl, by simpa using RV.out, HB1.out⟩
  · rcases ov.2 with ⟨_, h0⟩ | ⟨R, cap, cur, hv, hB, hg, hnc, hcap, hsz, hr⟩
    · exact absurd (List.eq_nil_of_length_eq_zero h0) hl0
    subst hv
    have hget : ∀ i (hi : i < l.length), cur[i * 2]? = some (.int .i64 (l[i]).1) ∧ cur[i * 2 + 1]? = some (.string (ofL (l[i]).2)) := fun i hi => by
      have f0 := flat_get encE_len l i _ (List.getElem?_eq_getElem hi) 0 (.int .i64 (l[i]).1) rfl
      have f1 := flat_get encE_len l i _ (List.getElem?_eq_getElem hi) 1 (.string (ofL (l[i]).2)) rfl
      rw [← hr, List.getElem?_take, if_pos (by omega), Array.getElem?_toList] at f0 f1
      exact ⟨f0, f1⟩
    have KR : Blk R 60 cur w1 := hg
    have hRlt := KR.lt
    have HK := Lib.hid KR
    have HG := Lib.hid hget
    have HBB := Lib.hid hB
    have HNC := Lib.hid hnc
    have HCP : Hid (cap ≤ 9223372036854775807) := Lib.hid (Nat.le_trans hcap (by decide))
    clear ov b1 hr hg KR hget hB hcap hnc
    go_wp2
    go_loopw [10] (fun v wr => ∃ (k : Nat) (cs : Array Value), k ≤ l.length ∧ v = .int .i64 k ∧ Blk R 60 cs wr ∧ cs.size = cur.size ∧ (∀ i (hi : i < l.length), cs[i * 2]? = some (.int .i64 (kd l k i (l[i]).1)) ∧ cs[i * 2 + 1]? = some (.string (ofL (l[i]).2))) ∧ Below w.heap.size w wr ∧ w1.heap.size ≤ wr.heap.size) (fun v _ => l.length - (intOf v).toNat)
    case atStart => exact ⟨0, cur, Nat.zero_le _, rfl, HK.out, rfl, fun i hi => by unfold kd; rw [if_neg (by omega)]; exact HG.out i hi, HB1.out, Nat.le_refl _⟩
    case round =>
      obtain ⟨k, cs, hk, rfl, hb, hcs, hval, hbw, hzw⟩ := hrel
      have HBK := Lib.hid hb
      have HV := Lib.hid hval
      have HBW := Lib.hid hbw
      have zr := hbw.size
      have hRw := hb.lt
      clear hval hbw
      by_cases hlt : k < l.length
      · obtain ⟨bk, off, rfl, h0, h1⟩ := (HU.out.below HBW.out).ed k hlt
        have h3 : (k : Int) < (l.length : Int) := by omega
        obtain ⟨q, hq⟩ : ∃ q, l[k] = q := ⟨_, rfl⟩
        have HQ := Lib.hid hq
        rw [hq] at h0 h1
        obtain ⟨q1, t⟩ := q
        dsimp only at h0 h1
        have K1 := hb.alloc (.cells #[.int .i64 q1, .string (ofL t)] 60)
        have c0 : (wr.alloc (.cells #[.int .i64 q1, .string (ofL t)] 60)).cell? ⟨R, k * 2, none⟩ = some (.int .i64 (kd l k k (l[k]).1)) := by rw [K1.cell]; exact (HV.out k hlt).1
        have f0 := K1.frozen (k * 2)
        obtain ⟨z, hz⟩ : ∃ z, kd l k k (l[k]).1 = z := ⟨_, rfl⟩
        rw [hz] at c0
        clear hq hz K1 hb
        by_cases e2 : q1 = 2
        · subst e2

          have HRV := Lib.hid (rev_put (m := 3) HV.out hlt (by rw [HQ.out]; unfold kd; rw [if_pos (by omega)]; simp [revE]))
          go_wp2
          go_roundw
          case measure => simp [intOf]; omega
          case rel => exact ⟨k + 1, _, by omega, by go_num, by first | exact (HBK.out.alloc _).put _ _ | exact (HBK.out.put _ _).alloc _, by simp [hcs], HRV.out, by first | exact (HBW.out.alloc zr _).setCell (p := ⟨R, k * 2, none⟩) HBB.out _ | exact (HBW.out.setCell (p := ⟨R, k * 2, none⟩) HBB.out _).alloc (by simpa [World.setCell] using zr) _, by simp [World.setCell]; omega⟩
        · by_cases e3 : q1 = 3
          · subst e3

            have HRV := Lib.hid (rev_put (m := 2) HV.out hlt (by rw [HQ.out]; unfold kd; rw [if_pos (by omega)]; simp [revE]))
            go_wp2
            go_roundw
            case measure => simp [intOf]; omega
            case rel => exact ⟨k + 1, _, by omega, by go_num, by first | exact (HBK.out.alloc _).put _ _ | exact (HBK.out.put _ _).alloc _, by simp [hcs], HRV.out, by first | exact (HBW.out.alloc zr _).setCell (p := ⟨R, k * 2, none⟩) HBB.out _ | exact (HBW.out.setCell (p := ⟨R, k * 2, none⟩) HBB.out _).alloc (by simpa [World.setCell] using zr) _, by simp [World.setCell]; omega⟩
          · have t2 : (q1 == 2) = false := by rw [beq_eq_false_iff_ne]; exact e2
            have t3 : (q1 == 3) = false := by rw [beq_eq_false_iff_ne]; exact e3
            have HRV := Lib.hid (rev_keep HV.out hlt (by rw [HQ.out]; unfold kd; rw [if_pos (by omega)]; simp [revE, e2, e3]))
            go_wp2
            go_roundw
            case measure => simp [intOf]; omega
            case rel => exact ⟨k + 1, _, by omega, by go_num, HBK.out.alloc _, hcs, HRV.out, HBW.out.alloc zr _, by simp; omega⟩
      · obtain rfl : k = l.length := by omega
        have h3 : ¬ (l.length : Int) < (l.length : Int) := by omega
        clear hb
        go_wp2
        go_ret
        have hL : (l.map revE).length = l.length := List.length_map _
        refine ⟨.slice (some ⟨R, 0, none⟩) l.length cap, rfl, ⟨⟨some ⟨R, 0, none⟩, cap, by rw [hL], by rw [hL]; exact HNC.out, HCP.out, fun _ => ⟨R, 0, rfl, hRw, fun i x hi j u hu => ?_⟩⟩, fun n c hc => by cases hc⟩, HBW.out⟩
        have hil := (List.getElem?_eq_some_iff.1 hi).1
        rw [hL] at hil
        have hx : x = revE l[i] := by
          rw [List.getElem?_map, List.getElem?_eq_getElem hil] at hi
          exact (Option.some.inj hi).symm
        obtain ⟨v0, v1⟩ := HV.out i hil
        rw [Nat.zero_add, HBK.out.cell]
        have hj : j < 2 := by have := (List.getElem?_eq_some_iff.1 hu).1; simpa [encE] using this
        subst hx
        obtain rfl | rfl : j = 0 ∨ j = 1 := by omega
        · simp [encE] at hu
          subst hu
          rw [Nat.add_zero, v0]
          unfold kd
          rw [if_pos hil]
          simp [revE]
        · simp [encE, revE] at hu
          subst hu
          exact v1
end Go.Proofs.Ytcnjomkddbbopaa
