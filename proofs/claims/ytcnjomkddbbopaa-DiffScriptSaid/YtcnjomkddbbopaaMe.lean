/- A table of lengths in one block; what a row of it holds. -/
import Derived.Test.YtcnjomkddbbopaaMd
namespace Go.Proofs.Ytcnjomkddbbopaa
open Go.RowKit
set_option linter.unusedVariables false

def Grid (C h wd : Nat) (M : Nat → Nat → Int) (w : World) : Prop := ∃ cs, Blk C 21 cs w ∧ ∀ i j, i < h → j < wd → cs[i * wd + j]? = some (.int .i32 (M i j))
def Hd (R h wd C : Nat) (w : World) : Prop := ∃ cs, Blk R 79 cs w ∧ ∀ i, i < h → cs[i]? = some (.slice (some ⟨C, i * wd, none⟩) wd wd)
theorem Grid.lt {C h wd : Nat} {M : Nat → Nat → Int} {w : World} (g : Grid C h wd M w) : C < w.heap.size := by obtain ⟨cs, b, _⟩ := g; exact b.lt
theorem Hd.lt {R h wd C : Nat} {w : World} (g : Hd R h wd C w) : R < w.heap.size := by obtain ⟨cs, b, _⟩ := g; exact b.lt
theorem Grid.cell {C h wd : Nat} {M : Nat → Nat → Int} {w : World} (g : Grid C h wd M w) {i j : Nat} (hi : i < h) (hj : j < wd) : w.cell? ⟨C, i * wd + j, none⟩ = some (.int .i32 (M i j)) := by
  obtain ⟨cs, b, hc⟩ := g
  rw [b.cell]
  exact hc i j hi hj
theorem Hd.cell {R h wd C : Nat} {w : World} (g : Hd R h wd C w) {i : Nat} (hi : i < h) : w.cell? ⟨R, i, none⟩ = some (.slice (some ⟨C, i * wd, none⟩) wd wd) := by
  obtain ⟨cs, b, hc⟩ := g
  rw [b.cell]
  exact hc i hi
theorem Grid.frozen {C h wd : Nat} {M : Nat → Nat → Int} {w : World} (g : Grid C h wd M w) (k : Nat) : w.frozen? ⟨C, k, none⟩ = false := by
  obtain ⟨cs, b, _⟩ := g
  exact b.frozen k
theorem Grid.below {C h wd n : Nat} {M : Nat → Nat → Int} {w w' : World} (g : Grid C h wd M w) (hb : Below n w w') (hn : C < n) : Grid C h wd M w' := by
  obtain ⟨cs, b, hc⟩ := g
  exact ⟨cs, b.belowAt hb hn, hc⟩
theorem Hd.below {R h wd C n : Nat} {w w' : World} (g : Hd R h wd C w) (hb : Below n w w') (hn : R < n) : Hd R h wd C w' := by
  obtain ⟨cs, b, hc⟩ := g
  exact ⟨cs, b.belowAt hb hn, hc⟩
theorem Hd.but {R h wd C D : Nat} {w w' : World} (g : Hd R h wd C w) (hb : But D w w') (hn : R ≠ D) : Hd R h wd C w' := by
  obtain ⟨cs, b, hc⟩ := g
  exact ⟨cs, b.but hb hn, hc⟩
theorem at_inj {wd i j i' j' : Nat} (hj : j < wd) (hj' : j' < wd) (h : i * wd + j = i' * wd + j') : i = i' ∧ j = j' := by
  have hw : 0 < wd := by omega
  have h1 : (i * wd + j) / wd = i := by rw [Nat.add_comm, Nat.add_mul_div_right _ _ hw, Nat.div_eq_of_lt hj, Nat.zero_add]
  have h2 : (i' * wd + j') / wd = i' := by rw [Nat.add_comm, Nat.add_mul_div_right _ _ hw, Nat.div_eq_of_lt hj', Nat.zero_add]
  have : i = i' := by rw [← h1, h, h2]
  subst this
  exact ⟨rfl, by omega⟩
def upd (M : Nat → Nat → Int) (r c : Nat) (v : Int) : Nat → Nat → Int := fun i j => if i = r ∧ j = c then v else M i j
theorem Grid.put {C h wd : Nat} {M : Nat → Nat → Int} {w : World} (g : Grid C h wd M w) {r c : Nat} (hr : r < h) (hc : c < wd) (v : Int) : Grid C h wd (upd M r c v) (w.setCell ⟨C, r * wd + c, none⟩ (.int .i32 v)) := by
  obtain ⟨cs, b, hcs⟩ := g
  refine ⟨_, b.put _ _, fun i j hi hj => ?_⟩
  have hlt : r * wd + c < cs.size := (Array.getElem?_eq_some_iff.1 (hcs r c hr hc)).1
  rw [Array.getElem?_setIfInBounds]
  unfold upd
  by_cases e : r * wd + c = i * wd + j
  · obtain ⟨rfl, rfl⟩ := at_inj hc hj e
    rw [if_pos rfl, if_pos hlt, if_pos ⟨rfl, rfl⟩]
  · rw [if_neg e, if_neg (fun h => e (by rw [h.1, h.2])), hcs i j hi hj]
theorem Grid.congr {C h wd : Nat} {M M' : Nat → Nat → Int} {w : World} (g : Grid C h wd M w) (e : ∀ i j, i < h → j < wd → M' i j = M i j) : Grid C h wd M' w := by
  obtain ⟨cs, b, hcs⟩ := g
  exact ⟨cs, b, fun i j hi hj => by rw [hcs i j hi hj, e i j hi hj]⟩

/-! ### A row from the one below it -/
/-- Counted from the end: the value of the column that has k items behind it and at it. -/
def rowK (v : Nat) (u : Nat → Int) (z : Int) (ys : List (Nat × Nat)) : Nat → Int
  | 0 => z
  | k + 1 => if (ys.getD (ys.length - (k + 1)) (0, 0)).2 = v then wrap32 (u (ys.length - (k + 1) + 1) + 1) else max (rowK v u z ys k) (u (ys.length - (k + 1)))
/-- The length of the common part of what is from x[i] on, those of later blocks included, and what is from y[j] on. -/
def Lv (xs ys : List (Nat × Nat)) (K : List Nat) (i j : Nat) : Nat := lcs (keys (xs.drop i) ++ K) (keys (ys.drop j))
theorem Lv_end (xs ys : List (Nat × Nat)) (K : List Nat) (i : Nat) : Lv xs ys K i ys.length = 0 := by
  unfold Lv
  rw [List.drop_length]
  exact lcs_nil_right _
theorem Lv_le (xs ys : List (Nat × Nat)) (K : List Nat) (i j : Nat) : Lv xs ys K i j ≤ ys.length := by
  unfold Lv
  have := lcs_le_right (keys (xs.drop i) ++ K) (keys (ys.drop j))
  unfold keys at this ⊢
  rw [List.length_map, List.length_drop] at this
  omega
theorem keys_cons {xs : List (Nat × Nat)} {i : Nat} (h : i < xs.length) : keys (xs.drop i) = (xs[i]).2 :: keys (xs.drop (i + 1)) := by
  rw [List.drop_eq_getElem_cons h]; rfl
theorem Lv_eq {xs ys : List (Nat × Nat)} {K : List Nat} {i j : Nat} (hi : i < xs.length) (hj : j < ys.length) (h : (ys[j]).2 = (xs[i]).2) : Lv xs ys K i j = 1 + Lv xs ys K (i + 1) (j + 1) := by
  unfold Lv
  rw [keys_cons hi, keys_cons hj, h, List.cons_append, lcs_head]
theorem Lv_ne {xs ys : List (Nat × Nat)} {K : List Nat} {i j : Nat} (hi : i < xs.length) (hj : j < ys.length) (h : (ys[j]).2 ≠ (xs[i]).2) : Lv xs ys K i j = max (Lv xs ys K i (j + 1)) (Lv xs ys K (i + 1) j) := by
  unfold Lv
  rw [keys_cons hi, keys_cons hj, List.cons_append, lcs_ne (fun e => h e.symm), Nat.max_comm]
theorem wrap32_small {n : Int} (h0 : 0 ≤ n) (h1 : n ≤ 1000000) : wrap32 n = n := by unfold wrap32; omega
theorem rowK_Lv {xs ys : List (Nat × Nat)} {K : List Nat} {i : Nat} (hi : i < xs.length) (hy : ys.length ≤ 1000) {u : Nat → Int} (hu : ∀ j, j ≤ ys.length → u j = (Lv xs ys K (i + 1) j : Int)) :
    ∀ k, k ≤ ys.length → rowK (xs[i]).2 u 0 ys k = (Lv xs ys K i (ys.length - k) : Int)
  | 0, _ => by rw [rowK, Nat.sub_zero, Lv_end]; rfl
  | k + 1, hk => by
    have ih := rowK_Lv hi hy hu k (by omega)
    obtain ⟨j, hj⟩ : ∃ j, ys.length - (k + 1) = j := ⟨_, rfl⟩
    have hjl : j < ys.length := by omega
    rw [rowK, hj, ih, hu j (by omega), hu (j + 1) (by omega), show ys.length - k = j + 1 by omega]
    have hg : ys.getD j (0, 0) = ys[j] := by simp [List.getD, List.getElem?_eq_getElem hjl]
    rw [hg]
    by_cases he : (ys[j]).2 = (xs[i]).2
    · have := Lv_le xs ys K (i + 1) (j + 1)
      rw [if_pos he, Lv_eq hi hjl he, wrap32_small (by omega) (by omega)]
      omega
    · rw [if_neg he, Lv_ne hi hjl he]
      omega
end Go.Proofs.Ytcnjomkddbbopaa
