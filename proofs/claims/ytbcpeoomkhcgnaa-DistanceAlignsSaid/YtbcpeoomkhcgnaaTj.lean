/- distance.reverse. -/
import Derived.Test.YtbcpeoomkhcgnaaTh
import Derived.BigRegion
namespace Go.Proofs.Ytbcpeoomkhcgnaa
open Go.RowKit
set_option linter.unusedVariables false

theorem flat_set : ∀ (m : List (Int × Int)) (i : Nat) (x : Int × Int), (m.set i x).flatMap encP = ((m.flatMap encP).set (i * 2) (.int .i64 x.1)).set (i * 2 + 1) (.int .i64 x.2)
  | [], i, x => by simp
  | y :: m, 0, x => by simp [encP]
  | y :: m, i + 1, x => by
    rw [List.set_cons_succ, List.flatMap_cons, List.flatMap_cons, flat_set m i x, show (i + 1) * 2 = i * 2 + 2 by omega]
    simp [encP]
theorem Own1.put2 {w : World} {base : Nat} {e : TypeId} {g n cap : Nat} {m : List (Int × Int)} (h : Own1 2 encP w base e (.slice (some ⟨g, 0, none⟩) n cap) m) (i : Nat) (x : Int × Int) :
    Own1 2 encP ((w.setCell ⟨g, i * 2, none⟩ (.int .i64 x.1)).setCell ⟨g, i * 2 + 1, none⟩ (.int .i64 x.2)) base e (.slice (some ⟨g, 0, none⟩) n cap) (m.set i x) := by
  have hn : m.length = n := by obtain ⟨a, c, hv⟩ := h.slice; injection hv with h1 h2 h3; exact h2.symm
  have h0 := h.1
  rcases h.2 with ⟨hv, _⟩ | ⟨g', cap', cur, hv, hB, hg, hr⟩
  · cases hv
  · injection hv with e1 e2 e3
    injection e1 with e1
    injection e1 with e1
    subst e1 e3
    obtain ⟨r1, r2, r3, r4⟩ := hr
    have hb : Blk g e cur w := hg
    have hb2 := (hb.put (i * 2) (.int .i64 x.1)).put (i * 2 + 1) (.int .i64 x.2)
    refine ⟨?_, .inr ⟨g, cap, _, by rw [List.length_set, hn], hB, hb2, ?_⟩⟩
    · unfold Own1 World.ownsRow at *
      rw [flat_len encP_len, List.length_set]
    · rw [List.length_set]
      refine ⟨r1, r2, by simpa using r3, ?_⟩
      rw [flat_set, ← r4]
      simp [List.take_set, Array.toList_setIfInBounds]
theorem set_get {α : Type} {l : List α} {i j : Nat} (x : α) (h : i < l.length) : (l.set i x)[j]? = if i = j then some x else l[j]? := by
  rw [List.getElem?_set]
  split
  · rename_i e; subst e; simp [h]
  · rfl
/-- i elements at each end exchanged. -/
def Turned (l m : List (Int × Int)) (i : Nat) : Prop := m.length = l.length ∧ ∀ q, q < l.length → m[q]? = if q < i ∨ l.length ≤ q + i then l[l.length - 1 - q]? else l[q]?
theorem turned_zero (l : List (Int × Int)) : Turned l l 0 := ⟨rfl, fun q hq => by rw [if_neg (by omega)]⟩
theorem turned_next {l m : List (Int × Int)} {i j : Nat} {x y : Int × Int} (h : Turned l m i) (hij : i < j) (hj : i + j + 1 = l.length) (hx : m[i]? = some x) (hy : m[j]? = some y) : Turned l ((m.set i y).set j x) (i + 1) := by
  obtain ⟨h1, h2⟩ := h
  have ax : l[i]? = some x := by have := h2 i (by omega); rw [hx, if_neg (by omega)] at this; exact this.symm
  have ay : l[j]? = some y := by have := h2 j (by omega); rw [hy, if_neg (by omega)] at this; exact this.symm
  refine ⟨by simpa using h1, fun q hq => ?_⟩
  rw [set_get x (by rw [List.length_set]; omega), set_get y (by omega)]
  by_cases e1 : j = q
  · subst e1
    rw [if_pos rfl, if_pos (by omega), show l.length - 1 - j = i by omega, ax]
  · rw [if_neg e1]
    by_cases e2 : i = q
    · subst e2
      rw [if_pos rfl, if_pos (by omega), show l.length - 1 - i = j by omega, ay]
    · rw [if_neg e2, h2 q hq]
      by_cases e3 : q < i ∨ l.length ≤ q + i
      · rw [if_pos e3, if_pos (by omega)]
      · rw [if_neg e3, if_neg (by omega)]
theorem turned_end {l m : List (Int × Int)} {i : Nat} (h : Turned l m i) (hi : l.length ≤ i + i + 1) : m = l.reverse := by
  obtain ⟨h1, h2⟩ := h
  refine List.ext_getElem? fun q => ?_
  rcases Nat.lt_or_ge q l.length with hq | hq
  · rw [h2 q hq, List.getElem?_reverse hq]
    split
    · rfl
    · congr 1; omega
  · rw [List.getElem?_eq_none (by omega), List.getElem?_eq_none (by rw [List.length_reverse]; omega)]

set_option maxRecDepth 1000000 in
set_option maxHeartbeats 2000000 in
theorem reverse_any (v : Value) (l : List (Int × Int)) (base : Nat) (w : World) (h : Own1 2 encP w base 37 v l) (hl : l.length ≤ 10000) (hbw : base ≤ w.heap.size) :
    Calls Try.prog 30 #[v] w fun e w' => (∃ r, e = .returned r) ∧ Own1 2 encP w' base 37 v l.reverse ∧ Below base w w' := by
  rcases h.2 with ⟨rfl, h0⟩ | ⟨g, cap, cur, rfl, hB, hg, hr⟩
  · obtain rfl : l = [] := List.eq_nil_of_length_eq_zero h0
    clear h h0
    go_enter Try.func30, Try.ntmps30
    go_wp2
    go_loopw [2, 3] (fun v2 v3 wr => v2 = .int .i64 0 ∧ v3 = .int .i64 (-1) ∧ wr = w) (fun _ _ _ => 0)
    case atStart => exact ⟨rfl, rfl, rfl⟩
    case round =>
      obtain ⟨rfl, rfl, hw⟩ := hrel
      obtain rfl := hw.symm
      go_wp2
      go_end0
      exact ⟨⟨_, rfl⟩, own1_nil _ _ _, Below.refl _ _⟩
  · have HO := Lib.hid h
    clear h hr
    go_enter Try.func30, Try.ntmps30
    go_wp2
    go_loopw [2, 3] (fun v2 v3 wr => ∃ (i : Nat) (m : List (Int × Int)), i ≤ l.length ∧ v2 = .int .i64 i ∧ v3 = .int .i64 ((l.length : Int) - 1 - i) ∧ Turned l m i ∧ Own1 2 encP wr base 37 (.slice (some ⟨g, 0, none⟩) l.length cap) m ∧ Below base w wr) (fun v2 _ _ => l.length - (intOf v2).toNat)
    case atStart => exact ⟨0, l, Nat.zero_le _, rfl, by first | rfl | exact val_int (by omega), turned_zero l, HO.out, Below.refl _ _⟩
    case round =>
      obtain ⟨i, m, hi, rfl, rfl, ht, ho, hb⟩ := hrel
      have HT := Lib.hid ht
      have HOw := Lib.hid ho
      have HBW := Lib.hid hb
      by_cases hij : i + i + 1 < l.length
      · obtain ⟨j, hj⟩ : ∃ j, l.length - 1 - i = j := ⟨_, rfl⟩
        have ej : (l.length : Int) - 1 - i = (j : Int) := by omega
        rw [ej]
        have q1 : (i : Int) < (j : Int) := by omega
        have q2 : (i : Int) < (l.length : Int) := by omega
        have q3 : (j : Int) < (l.length : Int) := by omega
        have hml : m.length = l.length := ht.1
        obtain ⟨_, hblk⟩ := own_blk ho g rfl
        obtain ⟨cs, kb⟩ := hblk
        have f0 := kb.frozen (i * 2)
        have f1 := kb.frozen (i * 2 + 1)
        have f2 := kb.frozen (j * 2)
        have f3 := kb.frozen (j * 2 + 1)
        have R := ho.rd encP_len
        obtain ⟨x, hx⟩ : ∃ x, m[i]'(by omega) = x := ⟨_, rfl⟩
        obtain ⟨y, hy⟩ : ∃ y, m[j]'(by omega) = y := ⟨_, rfl⟩
        have c0 := R.at_ i (by omega) 0 _ rfl
        have c1 := R.at_ i (by omega) 1 _ rfl
        have c2 := R.at_ j (by omega) 0 _ rfl
        have c3 := R.at_ j (by omega) 1 _ rfl
        rw [hx] at c0 c1
        rw [hy] at c2 c3
        rw [Nat.zero_add, Nat.add_zero] at c0 c2
        rw [Nat.zero_add] at c1 c3
        have HX := Lib.hid (show m[i]? = some x by rw [← hx]; exact List.getElem?_eq_getElem _)
        have HY := Lib.hid (show m[j]? = some y by rw [← hy]; exact List.getElem?_eq_getElem _)
        obtain ⟨x1, x2⟩ := x
        obtain ⟨y1, y2⟩ := y
        dsimp only at c0 c1 c2 c3
        have n1 : ¬ i * 2 = j * 2 := by omega
        have n2 : ¬ i * 2 = j * 2 + 1 := by omega
        have n3 : ¬ i * 2 + 1 = j * 2 := by omega
        have n4 : ¬ i * 2 + 1 = j * 2 + 1 := by omega
        have HE := Lib.hid ej
        have HJ := Lib.hid hj
        clear ht ho hb R kb hx hy ej hj hml
        go_wp2
        go_region
        have P1 := Lib.hid ((HOw.out.put2 i (y1, y2)).put2 j (x1, x2))
        obtain ⟨W4, hW4⟩ : ∃ W4, (((wr.setCell ⟨g, i * 2, none⟩ (.int .i64 y1)).setCell ⟨g, i * 2 + 1, none⟩ (.int .i64 y2)).setCell ⟨g, j * 2, none⟩ (.int .i64 x1)).setCell ⟨g, j * 2 + 1, none⟩ (.int .i64 x2) = W4 := ⟨_, rfl⟩
        have B4 : Below base w W4 := by
          rw [← hW4]
          exact (((HBW.out.setCell (p := ⟨g, i * 2, none⟩) hB _).setCell (p := ⟨g, i * 2 + 1, none⟩) hB _).setCell (p := ⟨g, j * 2, none⟩) hB _).setCell (p := ⟨g, j * 2 + 1, none⟩) hB _
        dsimp only at P1
        rw [hW4] at P1 ⊢
        have HB4 := Lib.hid B4
        clear hW4 B4 c0 c1 c2 c3 f0 f1 f2 f3 cs n1 n2 n3 n4
        go_wp2
        go_roundw
        case rel => exact ⟨i + 1, _, by omega, by go_num, by have := HE.out; exact val_int (by omega), turned_next HT.out (by omega) (by have := HJ.out; omega) HX.out HY.out, P1.out.below (below_drewN (Below.refl _ _) 1), below_drewN HB4.out 1⟩
        case measure => simp [intOf]; omega
      · have q1 : ¬ (i : Int) < (l.length : Int) - 1 - (i : Int) := by omega
        have HR := Lib.hid (turned_end HT.out (by omega))
        clear ht ho hb
        go_wp2
        go_end0
        exact ⟨⟨_, rfl⟩, by rw [← HR.out]; exact HOw.out, HBW.out⟩
end Go.Proofs.Ytbcpeoomkhcgnaa
