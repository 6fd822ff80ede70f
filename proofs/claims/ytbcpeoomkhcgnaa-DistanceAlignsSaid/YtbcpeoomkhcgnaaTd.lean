/- A loop over an iterator that hands out rows of its own, which it overwrites: what the iterator promises, what the body keeps, the law of the loop. -/
import Derived.Test.YtbcpeoomkhcgnaaTc
namespace Go.Proofs.Ytbcpeoomkhcgnaa
open Go.RowKit Go.Shelf
set_option linter.unusedVariables false

/-- But for blocks S and S + 1, what there was is as it was. -/
structure Two (S : Nat) (A B : World) : Prop where
  os : B.os = A.os
  tape : B.tape = A.tape
  output : B.output = A.output
  size : A.heap.size ≤ B.heap.size
  block : ∀ k, k < A.heap.size → k ≠ S → k ≠ S + 1 → B.heap[k]? = A.heap[k]?
theorem Two.refl (S : Nat) (A : World) : Two S A A := ⟨rfl, rfl, rfl, Nat.le_refl _, fun _ _ _ _ => rfl⟩
theorem Two.trans {S : Nat} {A B C : World} (h : Two S A B) (k : Two S B C) : Two S A C :=
  ⟨k.os.trans h.os, k.tape.trans h.tape, k.output.trans h.output, Nat.le_trans h.size k.size, fun i hi h1 h2 => (k.block i (Nat.lt_of_lt_of_le hi h.size) h1 h2).trans (h.block i hi h1 h2)⟩
theorem Two.of_below {S : Nat} {A B : World} (h : Below A.heap.size A B) : Two S A B := ⟨h.os, h.tape, h.output, h.size, fun k hk _ _ => h.block k hk⟩
theorem Two.setCell {S : Nat} (A : World) (b i : Nat) (u : Value) (hb : b = S ∨ b = S + 1) : Two S A (A.setCell ⟨b, i, none⟩ u) :=
  ⟨rfl, rfl, rfl, by simp [World.setCell], fun k _ h1 h2 => Below.heap_setCell _ _ _ _ (by show k ≠ b; rcases hb with h | h <;> omega)⟩
theorem Blk.two {S B : Nat} {t : TypeId} {cs : Array Value} {W W' : World} (h : Blk B t cs W) (k : Two S W W') (h1 : B ≠ S) (h2 : B ≠ S + 1) : Blk B t cs W' := (k.block B h.lt h1 h2).trans h
theorem Rd.two {α : Type} {k : Nat} {enc : α → List Value} {S : Nat} {w w' : World} {v : Value} {l : List α} (h : Rd k enc w v l) (hb : Two S w w') (hne : l ≠ [] → ∀ b, v.ownBlock = some b → b ≠ S ∧ b ≠ S + 1) : Rd k enc w' v l := by
  obtain ⟨⟨a, c, rfl, h1, h2, hx⟩, hn⟩ := h
  refine ⟨⟨a, c, rfl, h1, h2, fun hl => ?_⟩, hn⟩
  obtain ⟨b, off, ha, hlt, hc⟩ := hx hl
  subst ha
  obtain ⟨h3, h4⟩ := hne hl b rfl
  exact ⟨b, off, rfl, Nat.lt_of_lt_of_le hlt hb.size, fun i x hi j u hu => (World.cell?_of_block (w := w) (a := ⟨b, off + i * k + j, none⟩) (hb.block b hlt h3 h4)).trans (hc i x hi j u hu)⟩
/-- What the body of the loop keeps for the iterator: whatever cells lie below S + 2, but for block C. -/
structure KpS (S C : Nat) (A B : World) : Prop where
  size : A.heap.size ≤ B.heap.size
  cells : ∀ k o, k < S + 2 → k ≠ C → A.heap[k]? = some o → o.isCells = true → B.heap[k]? = some o
theorem below_two {n S : Nat} {w A B : World} (h : Below n w A) (k : Two S A B) (hn : n ≤ S) (hw : n ≤ w.heap.size) : Below n w B :=
  ⟨k.os.trans h.os, k.tape.trans h.tape, k.output.trans h.output, Nat.le_trans h.size k.size, fun i hi => (k.block i (by have := h.size; omega) (by omega) (by omega)).trans (h.block i hi)⟩
theorem rd_lt {α : Type} {k : Nat} {enc : α → List Value} {w : World} {v : Value} {l : List α} (h : Rd k enc w v l) : l ≠ [] → ∀ b, v.ownBlock = some b → b < w.heap.size := by
  intro hl b hb
  obtain ⟨⟨a, c, rfl, h1, h2, hx⟩, hn⟩ := h
  obtain ⟨b', off, ha, hlt, hc⟩ := hx hl
  subst ha
  cases hb
  exact hlt
theorem KpS.refl (S C : Nat) (A : World) : KpS S C A A := ⟨Nat.le_refl _, fun _ _ _ _ h _ => h⟩
theorem KpS.trans {S C : Nat} {A B D : World} (h : KpS S C A B) (k : KpS S C B D) : KpS S C A D :=
  ⟨Nat.le_trans h.size k.size, fun i o h1 h2 h3 h4 => k.cells i o h1 h2 (h.cells i o h1 h2 h3 h4) h4⟩
theorem KpS.of_bt {S C n : Nat} {A B : World} (h : Bt n C A B) (hn : S + 2 ≤ n) : KpS S C A B := ⟨h.size, fun k o h1 h2 h3 _ => (h.block k (by omega) h2).trans h3⟩
theorem KpS.putObj {S C : Nat} (W : World) (l : Nat) (o o' : Obj) (h : W.heap[l]? = some o) (ho : o.isCells = false) : KpS S C W (W.putObj l o') :=
  ⟨by simp [World.putObj], fun k q _ _ h3 h4 => by
    refine (World.putObj_heap_other (fun e => ?_)).trans h3
    subst e
    rw [h3] at h
    cases h
    rw [h4] at ho
    cases ho⟩
theorem Blk.kp {S C B : Nat} {t : TypeId} {cs : Array Value} {W W' : World} (h : Blk B t cs W) (k : KpS S C W W') (h1 : B < S + 2) (h2 : B ≠ C) : Blk B t cs W' := k.cells B _ h1 h2 h rfl
theorem cells_of_cell {w : World} {b i : Nat} {u : Value} (h : w.cell? ⟨b, i, none⟩ = some u) : ∃ o, w.heap[b]? = some o ∧ o.isCells = true := by
  unfold World.cell? at h
  cases hb : w.heap[b]? with
  | none => simp [hb] at h
  | some o => cases o <;> simp [hb] at h <;> exact ⟨_, rfl, rfl⟩
theorem Rd.kp {α : Type} {k : Nat} {enc : α → List Value} {S C : Nat} {w w' : World} {v : Value} {l : List α} (h : Rd k enc w v l) (hk : 0 < k) (hlen : ∀ x : α, (enc x).length = k) (hb : KpS S C w w') (hne : l ≠ [] → ∀ b, v.ownBlock = some b → b < S + 2 ∧ b ≠ C) : Rd k enc w' v l := by
  obtain ⟨⟨a, c, rfl, h1, h2, hx⟩, hn⟩ := h
  refine ⟨⟨a, c, rfl, h1, h2, fun hl => ?_⟩, hn⟩
  obtain ⟨b, off, ha, hlt, hc⟩ := hx hl
  subst ha
  obtain ⟨h3, h4⟩ := hne hl b rfl
  have hsame : w'.heap[b]? = w.heap[b]? := by
    obtain ⟨x, l', rfl⟩ := List.exists_cons_of_ne_nil hl
    obtain ⟨u, hu⟩ : ∃ u, (enc x)[0]? = some u := ⟨_, List.getElem?_eq_getElem (by rw [hlen]; exact hk)⟩
    obtain ⟨o, ho, hoc⟩ := cells_of_cell (hc 0 x (by simp) 0 u hu)
    rw [ho]
    exact hb.cells b o h3 h4 ho hoc
  exact ⟨b, off, rfl, Nat.lt_of_lt_of_le hlt hb.size, fun i x hi j u hu => (World.cell?_of_block (w := w) (a := ⟨b, off + i * k + j, none⟩) hsame).trans (hc i x hi j u hu)⟩

/-- What the body may leave by: it goes on. -/
def goesOn (B S C : Nat) (I : World → Prop) (W : World) : Exit → Act → World → Prop
  | .normal, _, W' => KeepsFrom B W W' ∧ KpS S C W W' ∧ I W'
  | _, _, _ => False
/-- The iterator's promise: N + 1 rows; what the caller holds (J) it keeps, whatever it writes into its own two blocks. -/
def RowsIn (F : Fence) (n : Nat) (P : Program) (g : Nat) (lb : Array Value) (m N C : Nat) (Y : Nat → Nat → World → Prop) (W : World) : Prop :=
  ∀ (l : Nat) (J : Nat → World → Prop), (∀ p A B, J p A → Two W.heap.size A B → J p B) →
    (∀ p x W1, J p W1 → (x = W.heap.size ∨ x = W.heap.size + 1) → Y p x W1 → p ≤ N → W.heap.size + 2 ≤ W1.heap.size → YieldAt F (n - 1) P l #[.slice (some ⟨x, 0, none⟩) m m] W1 fun e W' => e = .returned (.bool true) ∧ J (p + 1) W' ∧ KpS W.heap.size C W1 W') →
    J 0 W → CallsIn F n P g (#[.func (.yield l) #[] #[]] ++ lb) W fun e W' => (∃ v, e = .returned v) ∧ J (N + 1) W'
section
variable {F : Fence} {n : Nat} {P : Program}
theorem wpIn_rows {g : Operand} {ps : Array Tmp} {assign body : Code} {Q : Exit → Act → World → Prop} {a : Act} {w : World}
    (hro : F.round = none) (h1 : 1 ≤ n) {gf : Nat} {lb : Array Value} (hg : a.eval g = .func (.func gf) #[] lb) (hFg : F.fn gf) (eg : ∀ args w, (callFunc gf args).run P w = .ok (.enter gf args) w)
    {m N C : Nat} (Y : Nat → Nat → World → Prop) (hY : ∀ p x W l o o', Y p x W → W.heap[l]? = some o → o.isCells = false → Y p x (W.putObj l o'))
    (hseq : ∀ W, Below w.heap.size w W → W.heap.size = w.heap.size + 2 → RowsIn F (n - 1) P gf lb m N C Y W) (hps : ps.size = 1)
    (I : Nat → World → Prop) (hst : ∀ p A B, I p A → Two (w.heap.size + 2) A B → I p B) (hI : OwnFrom w.heap.size I) (h0 : I 0 w)
    (hround : ∃ a₁ : Nat → Act, (∀ (l x : Nat) (W : World) (K : Act → World → Prop), K (a₁ x) W →
      assign.wpIn (F.inRound l) (n - 1 - 1) P (Exit.then K (fun _ _ _ => False)) { tmps := (ps.zip #[.slice (some ⟨x, 0, none⟩) m m]).foldl (fun t (p, v) => t.setIfInBounds p v) a.tmps, defers := [] } W) ∧
      (∀ (l p x : Nat) (W : World), I p W → (x = w.heap.size + 2 ∨ x = w.heap.size + 3) → Y p x W → p ≤ N → w.heap.size + 4 ≤ W.heap.size → body.wpIn (F.inRound l) (n - 1 - 1) P (goesOn w.heap.size (w.heap.size + 2) C (I (p + 1)) W) (a₁ x) W))
    (hdone : ∀ (D : Nat) (W : World), w.heap.size ≤ D → I (N + 1) W → W.heap[D]? = some (.deferred (some [])) → Q .normal { a with defers := { target := .collected D, args := #[] } :: a.defers } W) :
    (Code.rangeFunc g ps assign body).wpIn F n P Q a w := by
  obtain ⟨a₁, hassign, hbody⟩ := hround
  refine wpIn_rangeFunc ?_
  intro fn hfn
  rw [hro]
  obtain ⟨rec, hrec⟩ : ∃ rec : LoopState → Option Code → Loop, rec = fun st pe => { state := st, pending := pe, fn, tmps := a.tmps, params := ps, assign, body, defers := w.heap.size } := ⟨_, rfl⟩
  obtain ⟨W1, hW1⟩ : ∃ W1, (w.alloc (.deferred (some []))).alloc (.loop (rec .ready none)) = W1 := ⟨_, rfl⟩
  have hL1 : W1.heap[w.heap.size + 1]? = some (.loop (rec .ready none)) := by
    rw [← hW1]; have := World.alloc_heap_new (w.alloc (.deferred (some []))) (.loop (rec .ready none)); rwa [World.size_alloc] at this
  have hK1 : W1.heap[w.heap.size]? = some (.deferred (some [])) := by
    rw [← hW1]; exact (Below.heap_alloc _ _ _ (by simp)).trans (World.alloc_heap_new w _)
  have hI1 : I 0 W1 := by rw [← hW1]; exact hI.alloc _ (hI.alloc _ h0)
  have hb1 : Below w.heap.size w W1 := by
    rw [← hW1]; exact ((Below.refl _ w).alloc (Nat.le_refl _) _).alloc (by simp) _
  have hz1 : W1.heap.size = w.heap.size + 2 := by rw [← hW1]; simp
  have hS := hseq W1 hb1 hz1
  unfold RowsIn at hS
  rw [hz1] at hS
  refine ⟨w.heap.size + 1, [{ target := .collected w.heap.size, args := #[] }], W1, { target := .fn (.func gf) lb, args := #[.func (.yield (w.heap.size + 1)) #[] #[]] }, W1, gf,
    #[.func (.yield (w.heap.size + 1)) #[] #[]] ++ lb, W1, ?_, ?_, ?_, ?_, fun _ => h1, ?_⟩
  · rw [← hW1, hrec]; exact run_enterLoop_outer _ _ _ _ _
  · simp only [resolve, hg]
    simp [go_sem]
  · intro f' hf'; simp [Target.leads] at hf'; subst hf'; exact hFg
  · simp [invoke, go_sem, eg]
  · refine (hS (w.heap.size + 1)
      (fun p W => I p W ∧ W.heap[w.heap.size + 1]? = some (.loop (rec .ready none)) ∧ W.heap[w.heap.size]? = some (.deferred (some [])))
      (fun p A B h k => ⟨hst p A B h.1 k, (k.block _ (Array.getElem?_eq_some_iff.1 h.2.1).1 (by omega) (by omega)).trans h.2.1, (k.block _ (Array.getElem?_eq_some_iff.1 h.2.2).1 (by omega) (by omega)).trans h.2.2⟩)
      ?_ ⟨hI1, hL1, hK1⟩).mono ?_
    · rintro p x W ⟨hi, hl, hk⟩ hx hYx hp hsz
      have hlt : w.heap.size + 1 < W.heap.size := (Array.getElem?_eq_some_iff.1 hl).1
      have hy := run_yield (P := P) (args := #[.slice (some ⟨x, 0, none⟩) m m]) hl (by rw [hrec]; exact hps.symm)
      rw [hrec] at hy
      refine ⟨fn, _, assign, body, hy, roundIn_of_wpIn hfn (hassign _ x W _ ?_)⟩
      clear hy
      refine ⟨_, run_beginRound hl (by rw [hrec]), ?_⟩
      have hl2 : (W.putObj (w.heap.size + 1) (.loop { rec .ready none with state := .busy })).heap[w.heap.size + 1]? = some (.loop { rec .ready none with state := .busy }) := World.putObj_heap_same hlt
      have hk2 : (W.putObj (w.heap.size + 1) (.loop { rec .ready none with state := .busy })).heap[w.heap.size]? = some (.deferred (some [])) := (World.putObj_heap_other (by omega)).trans hk
      have hz2 : w.heap.size + 4 ≤ (W.putObj (w.heap.size + 1) (.loop { rec .ready none with state := .busy })).heap.size := by
        have : (W.putObj (w.heap.size + 1) (.loop { rec .ready none with state := .busy })).heap.size = W.heap.size := by simp [World.putObj]
        omega
      refine wpIn_mono (hbody _ p x _ (hI.putObj _ hi (by omega) hl rfl) (by omega) (hY _ _ _ _ _ _ hYx hl rfl) hp hz2) ?_
      rintro e a3 W3 hp3
      cases e with
      | normal =>
        obtain ⟨hk3, hkp3, hi3⟩ := hp3
        have hl3 := hk3.same _ _ (by omega) hl2 rfl
        have hr := run_endRound (P := P) none hl3
        rw [hrec] at hr
        refine ⟨_, _, hr, rfl, ⟨hI.putObj _ hi3 (by omega) hl3 rfl, ?_, (World.putObj_heap_other (by omega)).trans (hk3.same _ _ (Nat.le_refl _) hk2 rfl)⟩, ((KpS.putObj W _ _ _ hl rfl).trans hkp3).trans (KpS.putObj W3 _ _ _ hl3 rfl)⟩
        rw [hrec]
        exact World.putObj_heap_same (Array.getElem?_eq_some_iff.1 hl3).1
      | ret => exact hp3.elim
      | exit id => exact hp3.elim
      | goto t => exact hp3.elim
      | panic ch => exact hp3.elim
      | outgrown => exact hp3.elim
    · rintro e W2 ⟨⟨v, rfl⟩, hi, hl, hk⟩
      exact ⟨none, _, by have := run_endLoop (P := P) hl (by rw [hrec]; simp); rw [hrec] at this; exact this, hdone _ _ (Nat.le_refl _) (hI.putObj _ hi (by omega) hl rfl) ((World.putObj_heap_other (by omega)).trans hk)⟩
end
end Go.Proofs.Ytbcpeoomkhcgnaa
