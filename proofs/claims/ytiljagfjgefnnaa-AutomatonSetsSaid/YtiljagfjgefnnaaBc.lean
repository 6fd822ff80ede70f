/- Of the program: explore over the states of an automaton. -/
import Derived.Test.YtiljagfjgefnnaaBb
import Derived.Test.YtiljagfjgefnnaaAs
namespace Go.Proofs.Ytiljagfjgefnnaa
open Go.RowKit Go.Maps
set_option linter.unusedVariables false

/-- What explore has made so far: what was found, the rows, what accepts. -/
structure ES (k9 : Nat) (enc9 : Nat → List Value) (e9 : TypeId) (w : World) (base gg : Nat) (v9 vN vF : Value) (fd : List Nat) (l : List (List Nat)) (acc : List Bool) : Prop where
  o9 : Own1 k9 enc9 w base e9 v9 fd
  oN : Own1 11 encG w base 84 vN l
  oF : Own1 1 encO w base 4 vF acc
  ko : Blk gg 62 #[vN, vF] w
section
variable {k9 : Nat} {enc9 : Nat → List Value} {e9 : TypeId} {w w' : World} {base gg : Nat} {v9 vN vF u : Value} {fd : List Nat} {l : List (List Nat)} {acc : List Bool}
theorem ES.below (h : ES k9 enc9 e9 w base gg v9 vN vF fd l acc) (hb : Below w.heap.size w w') : ES k9 enc9 e9 w' base gg v9 vN vF fd l acc := ⟨own_below h.o9 hb, own_below h.oN hb, own_below h.oF hb, Blk.below h.ko hb⟩
def Kinds (e9 : TypeId) : Prop := e9 ≠ 84 ∧ e9 ≠ 4 ∧ e9 ≠ 62
theorem ES.g9 (hk : Kinds e9) (h : ES k9 enc9 e9 w base gg v9 vN vF fd l acc) {x : Nat} (y : Lie k9 enc9 base e9 w v9 (fd ++ [x]) u w') : ES k9 enc9 e9 w' base gg u vN vF (fd ++ [x]) l acc :=
  ⟨y.1, y.kind (.inr ⟨_, h.o9⟩) h.oN (Ne.symm hk.1), y.kind (.inr ⟨_, h.o9⟩) h.oF (Ne.symm hk.2.1), (y.blk h.ko (own_type h.o9 h.ko (Ne.symm hk.2.2))).1⟩
/-- A map that turned. -/
theorem own_map {α : Type} {k : Nat} {enc : α → List Value} {B n : Nat} {e K : TypeId} {kv : Nat → Value} {f : List Nat} {v : Value} {m : List α} (h : Own1 k enc w base e v m) (hm : MapIs w K B n kv f) (hg : w.grownBy w' (some B)) : Own1 k enc w' base e v m :=
  own_grown h hg (fun b hb e1 => by
    injection e1 with e1
    subst e1
    obtain ⟨_, cs, hc⟩ := own_blk h B hb
    obtain ⟨D, ⟨es, clock, h2, _⟩, _⟩ := hm
    rw [show w.heap[B]? = _ from hc] at h2
    cases h2)
theorem blk_map {B n : Nat} {K t : TypeId} {kv : Nat → Value} {f : List Nat} {b : Nat} {cs : Array Value} (h : Blk b t cs w) (hm : MapIs w K B n kv f) (hg : w.grownBy w' (some B)) : Blk b t cs w' :=
  (hg.block b h.lt (fun e1 => by
    injection e1 with e1
    subst e1
    obtain ⟨D, ⟨es, clock, h2, _⟩, _⟩ := hm
    rw [show w.heap[b]? = _ from h] at h2
    cases h2)).trans h
theorem ES.map {B n : Nat} {K : TypeId} {kv : Nat → Value} {f : List Nat} (h : ES k9 enc9 e9 w base gg v9 vN vF fd l acc) (hm : MapIs w K B n kv f) (hg : w.grownBy w' (some B)) : ES k9 enc9 e9 w' base gg v9 vN vF fd l acc :=
  ⟨own_map h.o9 hm hg, own_map h.oN hm hg, own_map h.oF hm hg, blk_map h.ko hm hg⟩
theorem MapIs.own {α : Type} {k : Nat} {enc : α → List Value} {B n : Nat} {e K : TypeId} {kv : Nat → Value} {f : List Nat} {v : Value} {m : List α} (hm : MapIs w K B n kv f) (h : Own1 k enc w base e v m) (hg : w.grownBy w' v.ownBlock) : MapIs w' K B n kv f :=
  hm.kept hg (fun e1 => by
    obtain ⟨_, cs, hc⟩ := own_blk h B e1.symm
    obtain ⟨D, ⟨es, clock, h2, _⟩, _⟩ := hm
    rw [show w.heap[B]? = _ from hc] at h2
    cases h2)
theorem MapIs.blk {B n : Nat} {K t : TypeId} {kv : Nat → Value} {f : List Nat} {b : Nat} {cs : Array Value} (hm : MapIs w K B n kv f) (h : Blk b t cs w) (hg : w.grownBy w' (some b)) : MapIs w' K B n kv f :=
  hm.kept hg (fun e1 => by
    injection e1 with e1
    subst e1
    obtain ⟨D, ⟨es, clock, h2, _⟩, _⟩ := hm
    rw [show w.heap[B]? = _ from h] at h2
    cases h2)
/-- A cell of the row at hand is set. -/
theorem ES.row (hk : Kinds e9) (h : ES k9 enc9 e9 w base gg v9 vN vF fd l acc) {rb : Nat} {cs : Array Value} (hb : Blk rb 84 cs w) (hlt : ∀ b, vN.ownBlock = some b → b < rb) (i : Nat) (z : Value) : ES k9 enc9 e9 (w.setCell ⟨rb, i, none⟩ z) base gg v9 vN vF fd l acc := by
  have hg := grown_set w rb i z
  refine ⟨own_grown h.o9 hg (fun b hv e1 => ?_), own_grown h.oN hg (fun b hv e1 => ?_), own_grown h.oF hg (fun b hv e1 => ?_), (hg.block gg h.ko.lt (fun e1 => ?_)).trans h.ko⟩
  · injection e1 with e1
    exact own_type h.o9 hb (Ne.symm hk.1) (e1 ▸ hv)
  · injection e1 with e1
    have := hlt b hv
    omega
  · injection e1 with e1
    exact own_type h.oF hb (by decide) (e1 ▸ hv)
  · injection e1 with e1
    have h1 : w.heap[rb]? = some (.cells #[vN, vF] 62 (0, 0)) := e1 ▸ h.ko
    rw [show w.heap[rb]? = _ from hb] at h1
    injection h1 with h1
    injection h1 with _ h2
    exact absurd h2 (by decide)
/-- A row is put onto the rows, and into the box. -/
theorem ES.gN (hk : Kinds e9) (h : ES k9 enc9 e9 w base gg v9 vN vF fd l acc) {x : List Nat} (y : Lie 11 encG base 84 w vN (l ++ [x]) u w') : ES k9 enc9 e9 (w'.setCell ⟨gg, 0, none⟩ u) base gg v9 u vF fd (l ++ [x]) acc := by
  have ko := (y.blk h.ko (own_type h.oN h.ko (by decide))).1
  have hg := grown_set w' gg 0 u
  have o9 := y.kind (.inr ⟨_, h.oN⟩) h.o9 hk.1
  have oF := y.kind (.inr ⟨_, h.oN⟩) h.oF (by decide)
  refine ⟨own_grown o9 hg (fun b hv e1 => ?_), own_grown y.1 hg (fun b hv e1 => ?_), own_grown oF hg (fun b hv e1 => ?_), ko.put 0 u⟩
  · injection e1 with e1
    exact own_type o9 ko (Ne.symm hk.2.2) (e1 ▸ hv)
  · injection e1 with e1
    exact own_type y.1 ko (by decide) (e1 ▸ hv)
  · injection e1 with e1
    exact own_type oF ko (by decide) (e1 ▸ hv)
theorem ES.gF (hk : Kinds e9) (h : ES k9 enc9 e9 w base gg v9 vN vF fd l acc) {x : Bool} (y : Lie 1 encO base 4 w vF (acc ++ [x]) u w') : ES k9 enc9 e9 (w'.setCell ⟨gg, 1, none⟩ u) base gg v9 vN u fd l (acc ++ [x]) := by
  have ko := (y.blk h.ko (own_type h.oF h.ko (by decide))).1
  have hg := grown_set w' gg 1 u
  have o9 := y.kind (.inr ⟨_, h.oF⟩) h.o9 hk.2.1
  have oN := y.kind (.inr ⟨_, h.oF⟩) h.oN (by decide)
  refine ⟨own_grown o9 hg (fun b hv e1 => ?_), own_grown oN hg (fun b hv e1 => ?_), own_grown y.1 hg (fun b hv e1 => ?_), ko.put 1 u⟩
  · injection e1 with e1
    exact own_type o9 ko (Ne.symm hk.2.2) (e1 ▸ hv)
  · injection e1 with e1
    exact own_type oN ko (by decide) (e1 ▸ hv)
  · injection e1 with e1
    exact own_type y.1 ko (by decide) (e1 ▸ hv)
end
theorem idx_mid (F : List Nat) (t : Nat) : idx (F.map id) (id t) = idx F t := by rw [List.map_id]; rfl
/-- The graph of an automaton, in memory. -/
def GrP (A : Aut) (w : World) (e : Ending) (w' : World) : Prop := ∃ (m : Nat) (a1 : Option Addr) (c1 : Nat) (a2 : Option Addr) (c2 : Nat), Stop A id m ∧ e = .returned (.agg #[.slice a1 m c1, .slice a2 m c2]) ∧ Own1 11 encG w' w.heap.size 84 (.slice a1 m c1) (outN A id m) ∧ Own1 1 encO w' w.heap.size 4 (.slice a2 m c2) (outF A id m) ∧ Below w.heap.size w w'
theorem kindsI : Kinds 3 := ⟨by decide, by decide, by decide⟩
def kvI (x : Nat) : Value := .int .i64 (x : Int)
theorem kvI_inj (x y : Nat) (h : kvI x = kvI y) : x = y := by unfold kvI at h; injection h with _ h; omega
theorem kvI_key {x : Nat} (h : x ≤ 1000000000) : keyOf Try.prog 3 (kvI x) = some (.int .i64 (x : Int)) := keyOf_int_mk Try.underlying3 (WalkArith.wf_i64 (by omega))
theorem keyedI : Keyed Try.prog 3 := int_keyed Try.underlying3
theorem zero32 (w : World) : (zeroValue 21).run Try.prog w = .ok (.int .i32 0) w := by kernel_rfl
end Go.Proofs.Ytiljagfjgefnnaa
