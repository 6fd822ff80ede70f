/- distance.Align: the table of all rows; the way back. -/
import Derived.Test.YtbcpeoomkhcgnaaTg
namespace Go.Proofs.Ytbcpeoomkhcgnaa
open Go.RowKit Go.Shelf
set_option linter.unusedVariables false
attribute [local go_sem] Oper.semAt_some

def encI (x : Int) : List Value := [.int .i64 x]
theorem encI_len (x : Int) : (encI x).length = 1 := rfl
theorem encI_one (x : Int) : ∀ u ∈ encI x, u.oneCell' = true := by intro u hu; simp [encI] at hu; subst hu; rfl
theorem encV_one {x : Value} (h : x.oneCell' = true) : ∀ u ∈ encV x, u.oneCell' = true := by intro u hu; simp [encV] at hu; subst hu; exact h
/-- Row p of the distances. -/
def rowL (a b : List Str) (p : Nat) : List Int := (List.range (b.length + 1)).map fun j => (D a b p j : Int)
theorem rowL_len (a b : List Str) (p : Nat) : (rowL a b p).length = b.length + 1 := by simp [rowL]
theorem rowL_get {a b : List Str} {p j : Nat} (h : j ≤ b.length) : (rowL a b p)[j]? = some (D a b p j : Int) := by simp [rowL, List.getElem?_map, List.getElem?_range (show j < b.length + 1 by omega)]
section
variable {α : Type} {k : Nat} {enc : α → List Value} {w w' : World} {base : Nat} {e : TypeId} {v : Value} {l : List α}
theorem own_two {S : Nat} (h : Own1 k enc w base e v l) (t : Two S w w') (hS : S + 2 ≤ base) : Own1 k enc w' base e v l := by
  refine ⟨h.1, ?_⟩
  rcases h.2 with h0 | ⟨g, cap, cur, hv, hB, hg, hr⟩
  · exact .inl h0
  · exact .inr ⟨g, cap, cur, hv, hB, (t.block g (Array.getElem?_eq_some_iff.1 hg).1 (by omega) (by omega)).trans hg, hr⟩
theorem own_grown {row : Option Nat} (h : Own1 k enc w base e v l) (hg : w.grownBy w' row) (hne : ∀ g, v.ownBlock = some g → row ≠ some g) : Own1 k enc w' base e v l := by
  refine ⟨h.1, ?_⟩
  rcases h.2 with h0 | ⟨g, cap, cur, hv, hB, hg', hr⟩
  · exact .inl h0
  · exact .inr ⟨g, cap, cur, hv, hB, (hg.block g (Array.getElem?_eq_some_iff.1 hg').1 (fun e => hne g (by rw [hv]; rfl) e.symm)).trans hg', hr⟩
theorem own_blk (h : Own1 k enc w base e v l) : ∀ g, v.ownBlock = some g → base ≤ g ∧ ∃ cs, Blk g e cs w := by
  intro g hg
  rcases h.2 with ⟨rfl, _⟩ | ⟨g', cap, cur, rfl, hB, hg', _⟩
  · cases hg
  · cases hg
    exact ⟨hB, cur, hg'⟩
theorem own_type {B : Nat} {t : TypeId} {cs : Array Value} (h : Own1 k enc w base e v l) (hb : Blk B t cs w) (hne : t ≠ e) : some B ≠ v.ownBlock := by
  intro hv
  rcases h.2 with ⟨rfl, _⟩ | ⟨g, cap, cur, rfl, _, hg, _⟩
  · cases hv
  · injection hv with hv
    subst hv
    have hb' := hb
    unfold Blk at hb'
    rw [hb'] at hg
    injection hg with hg
    injection hg with _ h2 _
    exact hne h2
/-- A block of another type keeps from a list's growth. -/
theorem own_apart {k' : Nat} {β : Type} {enc' : β → List Value} {e' : TypeId} {v' : Value} {l' : List β} {base' : Nat} (h : Own1 k enc w base e v l) (h' : Own1 k' enc' w base' e' v' l') (hne : e ≠ e') : ∀ g, v.ownBlock = some g → v'.ownBlock ≠ some g := by
  intro g hg hg'
  obtain ⟨_, cs, hb⟩ := own_blk h g hg
  exact own_type h' hb hne hg'.symm
end
theorem Try.infoSl : (Try.prog.info? 50).map (fun i => (i.zero, i.size, i.bytes)) = some (some (.slice none 0 0), 1, 24) := by kernel_rfl
theorem Try.infoSt : (Try.prog.info? 37).map (fun i => (i.zero, i.size, i.bytes)) = some (some (.agg #[.int .i64 0, .int .i64 0]), 2, 16) := by kernel_rfl
/-- The table so far. -/
structure AlI (w : World) (a b : List Str) (p : Nat) (W : World) : Prop where
  tab : ∃ v vs, Blk w.heap.size 51 #[v] W ∧ Own1 1 encV W (w.heap.size + 7) 50 v vs ∧ vs.length = p ∧ ∀ q u, vs[q]? = some u → Own1 1 encI W (w.heap.size + 7) 3 u (rowL a b q)
  bel : Below w.heap.size w W
theorem AlI.two {w : World} {a b : List Str} {p : Nat} {A B : World} (h : AlI w a b p A) (k : Two (w.heap.size + 5) A B) : AlI w a b p B := by
  obtain ⟨⟨v, vs, h1, h2, h3, h4⟩, h5⟩ := h
  exact ⟨⟨v, vs, h1.two k (by omega) (by omega), own_two h2 k (by omega), h3, fun q u hq => own_two (h4 q u hq) k (by omega)⟩, below_two h5 k (by omega) (Nat.le_refl _)⟩
theorem ins_grown {w W W' : World} {row : Option Nat} (h : Below w.heap.size w W) (hg : W.grownBy W' row) (hr : ∀ r, row = some r → w.heap.size ≤ r) : Below w.heap.size w W' := h.trans ((Below.refl w.heap.size W).grown hg h.size hr)
theorem AlI.own {w : World} {a b : List Str} : OwnFrom (w.heap.size + 3) (AlI w a b) := by
  rintro p W W' row ⟨⟨v, vs, h1, h2, h3, h4⟩, h5⟩ hg hr
  have hn : ∀ {g : Nat} {cs : Array Value} {t : TypeId}, Blk g t cs W → row ≠ some g := fun {g cs t} hb e => by
    obtain ⟨_, o, ho, hc⟩ := hr g e
    rw [show W.heap[g]? = _ from hb] at ho
    cases ho
    cases hc
  refine ⟨⟨v, vs, blk_kept h1 hg hr, own_grown h2 hg (fun g e => ?_), h3, fun q u hq => own_grown (h4 q u hq) hg (fun g e => ?_)⟩, ins_grown h5 hg (fun r e => by have := (hr r e).1; omega)⟩
  · obtain ⟨_, cs, hb⟩ := own_blk h2 g e
    exact hn hb
  · obtain ⟨_, cs, hb⟩ := own_blk (h4 q u hq) g e
    exact hn hb
end Go.Proofs.Ytbcpeoomkhcgnaa
