/- Arrays told by a function; rows of eleven loaded, stored, looked into. -/
import Derived.Test.YtiljagfjgefnnaaBb
import Derived.Test.YtiljagfjgefnnaaAs
namespace Go.Proofs.Ytiljagfjgefnnaa
open Go.RowKit
set_option linter.unusedVariables false

/-- Block B holds n cells: the i-th is f i. -/
def Fn (B : Nat) (t : TypeId) (n : Nat) (f : Nat → Value) (w : World) : Prop := ∃ cs : Array Value, Blk B t cs w ∧ cs.size = n ∧ ∀ i, i < n → cs[i]? = some (f i)
def upd (f : Nat → Value) (i : Nat) (u : Value) : Nat → Value := fun j => if j = i then u else f j
section
variable {B : Nat} {t : TypeId} {n : Nat} {f : Nat → Value} {w w' : World}
theorem Fn.lt (h : Fn B t n f w) : B < w.heap.size := by
  obtain ⟨cs, h, _⟩ := h
  exact h.lt
theorem Fn.cell (h : Fn B t n f w) {i : Nat} (hi : i < n) : w.cell? ⟨B, i, none⟩ = some (f i) := by
  obtain ⟨cs, h, _, hc⟩ := h
  rw [h.cell]
  exact hc i hi
theorem Fn.frozen (h : Fn B t n f w) (i : Nat) : w.frozen? ⟨B, i, none⟩ = false := by
  obtain ⟨cs, h, _⟩ := h
  exact h.frozen i
theorem Fn.below (h : Fn B t n f w) (hb : Below w.heap.size w w') : Fn B t n f w' := by
  obtain ⟨cs, h, h2⟩ := h
  exact ⟨cs, Blk.below h hb, h2⟩
theorem Fn.belowAt {m : Nat} (h : Fn B t n f w) (hb : Below m w w') (hm : B < m) : Fn B t n f w' := by
  obtain ⟨cs, h, h2⟩ := h
  exact ⟨cs, Blk.belowAt h hb hm, h2⟩
theorem Fn.grown {row : Option Nat} (h : Fn B t n f w) (hg : w.grownBy w' row) (hne : row ≠ some B) : Fn B t n f w' := by
  obtain ⟨cs, h, h2⟩ := h
  exact ⟨cs, (hg.block B h.lt (fun e => hne e.symm)).trans h, h2⟩
theorem Fn.put (h : Fn B t n f w) {i : Nat} (hi : i < n) (u : Value) : Fn B t n (upd f i u) (w.setCell ⟨B, i, none⟩ u) := by
  obtain ⟨cs, h, h2, h3⟩ := h
  refine ⟨cs.setIfInBounds i u, h.put i u, by simp [h2], fun j hj => ?_⟩
  rw [Array.getElem?_setIfInBounds]
  unfold upd
  by_cases e : i = j
  · subst e
    simp [h2, hi]
  · rw [if_neg e, if_neg (fun e2 => e e2.symm)]
    exact h3 j hj
theorem Fn.congr {g : Nat → Value} (h : Fn B t n f w) (he : ∀ i, i < n → f i = g i) : Fn B t n g w := by
  obtain ⟨cs, h, h2, h3⟩ := h
  exact ⟨cs, h, h2, fun i hi => by rw [h3 i hi, he i hi]⟩
theorem Fn.apart {B' : Nat} {t' : TypeId} {n' : Nat} {f' : Nat → Value} (h : Fn B t n f w) (h' : Fn B' t' n' f' w) (hne : t ≠ t') : B ≠ B' := fun e => by
  subst e
  obtain ⟨cs, h1, _⟩ := h
  obtain ⟨cs', h2, _⟩ := h'
  have h3 := (show w.heap[B]? = _ from h1).symm.trans (show w.heap[B]? = _ from h2)
  injection h3 with h3
  injection h3 with _ h3
  exact hne h3
theorem Fn.own {α : Type} {k : Nat} {enc : α → List Value} {base : Nat} {e : TypeId} {v : Value} {l : List α} (h : Fn B t n f w) (ho : Own1 k enc w base e v l) (hne : t ≠ e) : v.ownBlock ≠ some B := by
  obtain ⟨cs, h, _⟩ := h
  exact own_type ho h hne
end
/-- Memory just made. -/
theorem fn_made (w : World) (t : TypeId) (z : Array Value) (n : Nat) (hz : 0 < z.size) : Fn w.heap.size t n (fun i => z[i % z.size]!) (w.alloc (.cells (madeCells z n) t)) :=
  ⟨madeCells z n, Blk.new w t _, size_madeCells z n, fun i hi => by simp [madeCells, hi]⟩
theorem make_fn {P : Program} (T e : TypeId) (z : Value) (k by_ : Nat) (ht : P.underlying T = some (.slice e)) (hi : (P.info? e).map (fun i => (i.zero, i.size, i.bytes)) = some (some z, k, by_)) (hk : k ≤ 11) (hb : by_ ≤ 64) (n : Nat) (hn : n ≤ 1000000) (w : World) :
    (Instr.makeSlice T (.int .i64 (n : Int)) (.int .i64 (n : Int))).run P w = .ok (.slice (some ⟨w.heap.size, 0, none⟩) n n) (w.alloc (.cells (madeCells z.cells (n * k)) e)) := by
  obtain ⟨i0, h1, h2, h3, h4⟩ := info_parts hi
  have hbb : (i0.bytes : Int) * (n : Int) ≤ 281474976710656 := by
    rw [h4]
    have := Nat.mul_le_mul hb hn
    have e : ((by_ : Int) * (n : Int)) = ((by_ * n : Nat) : Int) := by simp
    rw [e]
    omega
  have hkk := Nat.mul_le_mul hn hk
  have := run_makeSlice (P := P) (w := w) T e i0 z ht h1 h2 .i64 .i64 (n : Int) (n : Int) (by omega) (Int.le_refl _) (by rw [h3]; simp; omega) hbb (by omega)
  rw [h3] at this
  simpa using this
/-- A row of eleven, looked into. -/
theorem index_row (x : List Nat) {c : Nat} (hc : c < 11) (w : World) : (Instr.index 84 (.agg (encG x).toArray) (.int .i64 (c : Int))).run Try.prog w = .ok (.int .i32 (x.getD c 0 : Nat)) w := by
  have h1 : (isAgg 21).run Try.prog w = .ok false w := by kernel_rfl
  have h2 : (sizeOf 21).run Try.prog w = .ok 1 w := by kernel_rfl
  have h3 : (encG x)[c]? = some (.int .i32 (x.getD c 0 : Nat)) := encG_get x hc
  have h4 : (0 : Int) ≤ (c : Int) ∧ (c : Int) < 11 := by omega
  simp [Instr.index, asIntOf, run_underlying Try.underlying84, part, Sem.run_bind, h1, h2, h3, h4, Result.andThen]
  exact fun h => absurd h (by omega)
section
variable {ops : Array Oper} {rest : List Oper} {o : Oper} {a : Act} {w : World} {Q : Exit → Act → World → Prop}
/-- A row loaded, at the operation. -/
theorem wpList_load_row (x : List Nat) (b off : Nat) (y : Operand) (hg : o.guard = none) (ho : o.op = .load 84 y) (hy : a.eval y = .pointer (some ⟨b, off, none⟩)) (hr : w.rangeAt b off (encG x))
    (h : wpList Try.prog ops Q rest (a.put o.dst (.agg (encG x).toArray)) w) : wpList Try.prog ops Q (o :: rest) a w :=
  wpList_load_mid hg 84 y ho b off hy (encG x) _ hr Try.underlying84 rfl (by rw [encG_len]; kernel_rfl) h
/-- .. stored into a block of its own. -/
theorem wpList_store_row (x : List Nat) (b : Nat) (cs : Array Value) (hb : Blk b 84 cs w) (hcs : cs.size = 11) (y z : Operand) (hg : o.guard = none) (ho : o.op = .store 84 y z) (hy : a.eval y = .pointer (some ⟨b, 0, none⟩)) (hz : a.eval z = .agg (encG x).toArray)
    (h : ∀ w', Blk b 84 (encG x).toArray w' → w.grownBy w' (some b) → wpList Try.prog ops Q rest (a.put o.dst undef) w') : wpList Try.prog ops Q (o :: rest) a w := by
  have hthere : w.there b 0 (encG x).toArray.size := fun j hj => by
    rw [List.size_toArray, encG_len] at hj
    rw [Nat.zero_add, hb.cell, hb.frozen]
    exact ⟨by rw [Array.getElem?_eq_getElem (by omega)]; rfl, rfl⟩
  refine wpList_store_mid hg 84 y z ho b 0 (encG x).toArray hy hz hthere (by rw [List.size_toArray, encG_len]; kernel_rfl) (all_oneCell_toArray (encG_one x)) ?_
  have key : ∀ (l : List Value) (o : Nat) (W : World) (cs : Array Value), Blk b 84 cs W → o + l.length ≤ cs.size → Blk b 84 ((cs.toList.take o ++ l ++ cs.toList.drop (o + l.length)).toArray) (W.setCells b o l) ∧ W.grownBy (W.setCells b o l) (some b) := by
    intro l
    induction l with
    | nil =>
      intro o W cs hk _
      refine ⟨?_, ?_⟩
      · simpa [World.setCells] using hk
      · exact World.grownBy.refl _ _
    | cons v r ih =>
      intro o W cs hk hl
      rw [List.length_cons] at hl
      obtain ⟨h1, h2⟩ := ih (o + 1) (W.setCell ⟨b, o, none⟩ v) (cs.setIfInBounds o v) (hk.put o v) (by simp; omega)
      refine ⟨?_, (grown_set W b o v).trans h2⟩
      rw [World.setCells]
      have e : (((cs.setIfInBounds o v).toList.take (o + 1) ++ r ++ (cs.setIfInBounds o v).toList.drop (o + 1 + r.length)).toArray) = ((cs.toList.take o ++ v :: r ++ cs.toList.drop (o + (v :: r).length)).toArray) := by
        congr 1
        rw [Array.toList_setIfInBounds, List.length_cons, List.drop_set_of_lt (by omega), show o + 1 + r.length = o + (r.length + 1) by omega]
        have h3 : (cs.toList.set o v).take (o + 1) = cs.toList.take o ++ [v] := by
          have ho : o < (cs.toList.set o v).length := by simp; omega
          rw [List.take_succ_eq_append_getElem ho, List.take_set_of_le (Nat.le_refl _)]
          simp
        rw [h3]
        simp
      rw [← e]
      exact h1
  obtain ⟨h1, h2⟩ := key (encG x) 0 w cs hb (by rw [encG_len]; omega)
  have e : ((cs.toList.take 0 ++ encG x ++ cs.toList.drop (0 + (encG x).length)).toArray) = (encG x).toArray := by
    rw [encG_len, List.drop_eq_nil_of_le (by simp; omega)]
    simp
  rw [e] at h1
  exact h _ h1 h2
end
end Go.Proofs.Ytiljagfjgefnnaa
