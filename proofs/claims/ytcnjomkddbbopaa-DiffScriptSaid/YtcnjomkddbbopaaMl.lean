/- Regions that draw their order and end in one order; an append in such a region; the parts of a list. -/
import Derived.Test.YtcnjomkddbbopaaMk
import Derived.Test.YtcnjomkddbbopaaMh
import Derived.Test.YtcnjomkddbbopaaMf
import Derived.Deep.RegionLaw
namespace Go.Proofs.Ytcnjomkddbbopaa
open Go.RowKit
set_option linter.unusedVariables false

section
variable {P : Program} {ops : Array Oper} {w : World}
theorem still_of_quietP {C : World → Prop} {o : Oper} {a : Act} {K : Act → Prop} (hc : calmOp o.op = true) (hC : C w) (h : o.quiet P a C K) : o.still P a w K := by
  obtain ⟨v, h1, h2⟩ := h
  have h3 := h1 w hC
  have hne : ∀ w' f args, (execOp a.eval o).run P w ≠ .ok (.enter f args) w' := fun w' f args => calm_enter (P := P) hc w w' _ f args
  unfold Oper.quietAt at h3
  unfold Oper.still
  generalize (execOp a.eval o).run P w = r at *
  cases r with
  | ok x w' =>
    cases x <;> simp only [Oper.quietUpon] at h3 <;> simp only [Oper.stillUpon]
    case value u => exact ⟨h3.1, by rw [h3.2]; exact h2⟩
    case skip => exact ⟨h3.1, by rw [← h3.2]; exact h2⟩
    case enter f args => exact absurd rfl (hne w' f args)
  | halt x w' => simp only [Oper.quietUpon] at h3
theorem wpStill_of_quietP {C : World → Prop} {Q : Act → Prop} (hC : C w) : ∀ (l : List Oper) (a : Act), l.all (fun o => calmOp o.op) = true → wpQuiet P ops C Q l a → wpStill P ops w Q l a
  | [], _, _, h => h
  | o :: l, a, hc, h => by
    simp only [List.all_cons, Bool.and_eq_true] at hc
    unfold wpQuiet at h
    unfold wpStill
    split
    · rename_i hw
      simp only [hw, if_true] at h
      exact Oper.still_mono (fun a h => wpStill_of_quietP hC l a hc.2 h) (still_of_quietP hc.1 hC h)
    · rename_i hw
      simp only [hw] at h
      exact wpStill_of_quietP hC l _ hc.2 h
theorem region_tail {id : Nat} {Q : Exit → Act → World → Prop} {a : Act} {l : List Oper} (k : Nat) (hm : P.follows .mixedOrders = true) (hcalm : (l.take k).all (fun o => calmOp o.op) = true) (hB : Region.lexTailB .any l.toArray k = true)
    (h : wpQuiet P l.toArray (fun w' => ∃ n, w' = w.drewN n) (fun a' => wpList P l.toArray Q (l.drop k) a' (w.drewN 1)) (l.take k) a) : (Code.region id l.toArray true).wp P Q a w :=
  wp_region_still_tail k hm hB (wpStill_of_quietP (w := w.drewN 1) ⟨1, rfl⟩ _ _ hcalm h)
end
section
variable {α : Type} {k : Nat} {enc : α → List Value}
variable {P : Program} {ops : Array Oper} {o : Oper} {a : Act} {K : Act → World → Prop} {Q : Exit → Act → World → Prop} {E : Prop}
/-- One element more, within a region that draws. -/
theorem step_append_at {w0 : World} {e : TypeId} {cs : Array Value} {x : α} {N : Nat} (hN : w0.heap.size = N) (hgd : o.guard = none) (s y : Operand) (t : TypeId)
    (ho : o.op = .call { callee := .builtin .append, args := #[s, y], argTypes := #[t, t] })
    (base : Nat) (i : TypeInfo) (z : Value) (by_ : Nat) (ht : P.underlying t = some (.slice e)) (hi : P.info? e = some i) (hz : i.zero = some z) (hsize : i.size = k) (hby : i.bytes = by_) (hb64 : by_ ≤ 64) (hzs : z.cells.size = k) (hk0 : 0 < k)
    (hk : ∀ x : α, (enc x).length = k) (h1c : ∀ x : α, ∀ u ∈ enc x, u.oneCell' = true)
    (v : Value) (l : List α) (hcs : cs.toList = enc x) (hs : a.eval s = v) (hown : Own1 k enc w0 base e v l) (hx : a.eval y = .slice (some ⟨N, 0, none⟩) 1 1)
    (hl : l.length ≤ 1000000000) (hbase : base ≤ N)
    (h : ∀ v' w', Own1 k enc w' base e v' (l ++ [x]) ∧ Below base w0 w' → K (a.put o.dst v') w') : if Region.wanted o (yielded ops a.tmps) = true then Oper.wp P o a (w0.alloc (.cells cs e)) K Q else E := by
  have hw : Region.wanted o (yielded ops a.tmps) = true := by simp [Region.wanted, hgd]
  rw [if_pos hw]
  subst hN
  refine wp_append_own _ s y t ho base e i z k by_ ht hi hz hsize hby hzs hk0 v l.length (l.flatMap enc) hs (World.ownsRow.alloc hown _) ⟨w0.heap.size, 0, none⟩ 1 1 cs.toList hx (by rw [hcs, hk, Nat.one_mul]) (cells_new _ _ _) (fun u hu => h1c x u (by rw [← hcs]; exact hu)) (by unfold maxLen; omega) (Nat.le_trans (Nat.mul_le_mul_left _ hb64) (by omega)) (by simp; omega) ?_
  intro v' w' h2 h3 _
  refine h v' w' ⟨?_, (((Below.refl base w0).alloc hbase _).grown h3 (by simp; omega) (fun j e => (World.ownsRow.lt hown j e).1))⟩
  unfold Own1
  rw [List.flatMap_append, List.length_append, List.flatMap_cons, List.flatMap_nil, List.append_nil, ← hcs]
  exact h2
end

/-! ### The parts -/
/-- The part with number m. -/
def partOf (xs : List (Nat × Nat)) (r m : Nat) : List (Nat × Nat) := (xs.drop (m * r)).take r
theorem partOf_length (xs : List (Nat × Nat)) (r m : Nat) : (partOf xs r m).length = min r (xs.length - m * r) := by unfold partOf; rw [List.length_take, List.length_drop]
theorem partOf_get {xs : List (Nat × Nat)} {r m i : Nat} (h : i < (partOf xs r m).length) : (partOf xs r m)[i] = xs[m * r + i]'(by rw [partOf_length] at h; omega) := by
  simp [partOf]
theorem keys_append (a b : List (Nat × Nat)) : keys (a ++ b) = keys a ++ keys b := by simp [keys]
theorem part_rest (xs : List (Nat × Nat)) (r m i : Nat) (hi : i ≤ (partOf xs r m).length) : keys ((partOf xs r m).drop i) ++ keys (xs.drop ((m + 1) * r)) = keys (xs.drop (m * r + i)) := by
  rw [← keys_append]
  congr 1
  unfold partOf
  rw [partOf_length] at hi
  rw [List.drop_take, List.drop_drop]
  rw [show (m + 1) * r = (m * r + i) + (r - i) by rw [Nat.add_mul]; omega, ← List.drop_drop (i := r - i), List.take_append_drop]
theorem chunk_rd {w : World} {b off cap r m : Nat} {xs : List (Nat × Nat)} (h : Rd 2 encP w (.slice (some ⟨b, off, none⟩) xs.length cap) xs) (hm : m * r < xs.length) (hr : 1 ≤ r) :
    ∃ c, chV b off xs.length r m = .slice (some ⟨b, off + m * r * 2, none⟩) (partOf xs r m).length c ∧ Rd 2 encP w (.slice (some ⟨b, off + m * r * 2, none⟩) (partOf xs r m).length c) (partOf xs r m) := by
  refine ⟨min r (xs.length - m * r), by unfold chV; rw [partOf_length], ⟨⟨_, _, rfl, by rw [partOf_length]; omega, ?_, fun hne => ⟨b, off + m * r * 2, rfl, ?_, fun i x hi j u hu => ?_⟩⟩, fun n c hc => by cases hc⟩⟩
  · obtain ⟨a, c, hv, h1, h2⟩ := h.slice
    omega
  · obtain ⟨b', o', e, hb, _⟩ := h.some_ 0 (by omega)
    cases e
    exact hb
  · have hil := (List.getElem?_eq_some_iff.1 hi).1
    have hxi := (List.getElem?_eq_some_iff.1 hi).2
    rw [partOf_get hil] at hxi
    have hlt : m * r + i < xs.length := by rw [partOf_length] at hil; omega
    have := h.at_ (m * r + i) hlt j u (by rw [hxi]; exact hu)
    rw [show off + m * r * 2 + i * 2 + j = off + (m * r + i) * 2 + j by rw [Nat.add_mul]; omega]
    exact this
end Go.Proofs.Ytcnjomkddbbopaa
