/- Of condition: the parser's relation (its state; ahead of the loop). -/
import Derived.Test.YtnabklhkalnpiaaGreatDoorCzf
namespace Go.Proofs.YtnabklhkalnpiaaGreatDoor
open Go.RowKit
set_option linter.unusedVariables false

abbrev zeroR : Array Value := #[.int .i64 0, .int .i64 0, .bool false, .slice none 0 0]
structure RSt (w0 w : World) (g : Nat) (text : ByteArray) (B2 B3 : Nat) (o : Option Pst) (K M : Int) (b : Bool) (v : Value) (wx : World) : Prop where
  lt : g < B2 ∧ B2 < B3 ∧ w.heap.size ≤ B2
  ps : PS w0 g text o wx
  but : But g w wx
  k2 : Blk B2 38 zeroR wx
  k3 : Blk B3 38 #[.int .i64 K, .int .i64 M, .bool b, v] wx
section
variable {w0 w : World} {g : Nat} {text : ByteArray} {B2 B3 : Nat} {o : Option Pst} {K M : Int} {b : Bool} {v : Value} {wx : World}
theorem RSt.call (h : RSt w0 w g text B2 B3 o K M b v wx) {o' : Option Pst} {wy : World} (hp : PS w0 g text o' wy) (hb : But g wx wy) : RSt w0 w g text B2 B3 o' K M b v wy := by
  obtain ⟨h1, h2, h3⟩ := h.lt
  exact ⟨h.lt, hp, h.but.trans hb, h.k2.but hb (by omega), h.k3.but hb (by omega)⟩
theorem RSt.below (h : RSt w0 w g text B2 B3 o K M b v wx) {wy : World} (hb : Below wx.heap.size wx wy) : RSt w0 w g text B2 B3 o K M b v wy :=
  h.call (h.ps.below hb) (But.of_below hb)
theorem RSt.store (h : RSt w0 w g text B2 B3 o K M b v wx) (i : Nat) (u : Value) {K' M' : Int} {b' : Bool} {v' : Value} (he : (#[.int .i64 K, .int .i64 M, .bool b, v] : Array Value).setIfInBounds i u = #[.int .i64 K', .int .i64 M', .bool b', v']) : RSt w0 w g text B2 B3 o K' M' b' v' (wx.setCell ⟨B3, i, none⟩ u) := by
  obtain ⟨h1, h2, h3⟩ := h.lt
  have hb := h.ps.base
  refine ⟨h.lt, h.ps.setNew (by omega) (by omega) u, h.but.setNew (by omega) u, h.k2.far (p := ⟨B3, i, none⟩) (by show B2 ≠ B3; omega) u, ?_⟩
  have := h.k3.put i u
  rw [he] at this
  exact this
theorem RSt.cells (h : RSt w0 w g text B2 B3 o K M b v wx) : wx.cell? ⟨B3, 0, none⟩ = some (.int .i64 K) ∧ wx.cell? ⟨B3, 1, none⟩ = some (.int .i64 M) ∧ wx.cell? ⟨B3, 2, none⟩ = some (.bool b) ∧ wx.cell? ⟨B3, 3, none⟩ = some v := ⟨h.k3.cell 0, h.k3.cell 1, h.k3.cell 2, h.k3.cell 3⟩
end
def relS (K M : Int) (b : Bool) (f : Nat) (acc : List (Int × Int)) (q : Pst) : Option (Rel × Pst) := match spansM f K acc q with
  | none => none
  | some (sp, z) => some (⟨K, M, b, sp⟩, z)
theorem relM_op {p : Pst} {K : Int} (hK : (opO p).isSome = true → K = opM p.tok) : relM p = (opO p).bind (relO K) := by
  unfold relM
  by_cases h : 0 < opM p.tok ∧ p.n < 6
  · have e : opO p = some (N p.rest (p.n + 1)) := by unfold opO; rw [if_pos h]
    rw [if_pos h, e, Option.bind_some, hK (by rw [e]; rfl)]
  · have e : opO p = none := by unfold opO; rw [if_neg h]
    rw [if_neg h, e]; rfl
theorem relO_no {K : Int} {o : Option Pst} (h : isTok [37] o = false) : o.bind (relO K) = o.bind (relA K 0) := by
  cases o with
  | none => rfl
  | some p =>
    have h1 : ¬ p.tok = [37] := of_decide_eq_false h
    rw [Option.bind_some, Option.bind_some]
    unfold relO modM
    rw [if_neg h1]
theorem relO_yes {K n : Int} {o : Option Pst} (h : isTok [37] o = true) (hn : ∀ q, numO (o.map nxt) = some q → n = (val q.tok : Int)) : o.bind (relO K) = ((reqO (okMod K n) (numO (o.map nxt))).map nxt).bind (relA K n) := by
  cases o with
  | none => cases h
  | some p =>
    have h1 : p.tok = [37] := of_decide_eq_true h
    rw [Option.map_some] at hn ⊢
    rw [Option.bind_some]
    unfold relO modM
    rw [if_pos h1]
    by_cases h2 : isNum (nxt p).tok = true
    · have e := hn _ (numO_yes h2)
      rw [numO_yes h2, e]
      by_cases h3 : okMod K (val (nxt p).tok) = true
      · rw [if_pos ⟨h2, h3⟩, h3, reqO_true, Option.map_some, Option.bind_some]
      · have h3' : okMod K (val (nxt p).tok) = false := by cases h : okMod K (val (nxt p).tok) with | false => rfl | true => exact absurd h h3
        rw [if_neg (fun h => h3 h.2), h3', reqO_false]; rfl
    · rw [if_neg (fun h => h2 h.1), numO_no h2, reqO_none]; rfl
theorem relA_ne {K M : Int} {o : Option Pst} (h : isTok [33, 61] o = true) : o.bind (relA K M) = (o.map nxt).bind (relB K M true) := by
  cases o with
  | none => cases h
  | some p =>
    have h1 : p.tok = [33, 61] := of_decide_eq_true h
    rw [Option.map_some, Option.bind_some, Option.bind_some]
    unfold relA sgnM
    rw [if_pos h1]
theorem relA_eq {K M : Int} {o : Option Pst} (h : isTok [33, 61] o = false) {e : Bool} (he : ∀ p, o = some p → e = decide (p.tok = [61])) : o.bind (relA K M) = ((reqO e o).map nxt).bind (relB K M false) := by
  cases o with
  | none => rw [reqO_none]; rfl
  | some p =>
    have h1 : ¬ p.tok = [33, 61] := of_decide_eq_false h
    have h2 := he p rfl
    rw [Option.bind_some]
    unfold relA sgnM
    rw [if_neg h1]
    by_cases h3 : p.tok = [61]
    · rw [if_pos h3, h2, decide_eq_true h3, reqO_true, Option.map_some, Option.bind_some]
    · rw [if_neg h3, h2, decide_eq_false h3, reqO_false]; rfl
theorem relB_span {K M : Int} {b : Bool} {o : Option Pst} {x y : Int} (h : ∀ s q, o.bind (spanM K 0) = some (s, q) → x = s.1 ∧ y = s.2) : o.bind (relB K M b) = ((o.bind (spanM K 0)).map (·.2)).bind (relS K M b 4 [(x, y)]) := by
  cases o with
  | none => rfl
  | some p =>
    rw [Option.bind_some] at h ⊢
    rw [Option.bind_some]
    unfold relB
    cases hs : spanM K 0 p with
    | none => rfl
    | some sq =>
      obtain ⟨s, q⟩ := sq
      obtain ⟨e1, e2⟩ := h s q hs
      have e : (x, y) = s := by rw [e1, e2]
      rw [Option.map_some, Option.bind_some, e]
      rfl
theorem relS_end {K M : Int} {b : Bool} {f : Nat} {acc : List (Int × Int)} {o : Option Pst} (h : isTok [44] o = false) : o.bind (relS K M b (f + 1) acc) = o.map fun q => (⟨K, M, b, acc⟩, q) := by
  cases o with
  | none => rfl
  | some p =>
    have h1 : ¬ p.tok = [44] := of_decide_eq_false h
    rw [Option.bind_some, Option.map_some]
    unfold relS
    rw [spansM, if_neg h1]
theorem relS_go {K M : Int} {b : Bool} {f : Nat} {acc : List (Int × Int)} {o : Option Pst} {x y : Int} (h : isTok [44] o = true) (hv : ∀ s q, (o.map nxt).bind (spanM K acc.length) = some (s, q) → x = s.1 ∧ y = s.2) : o.bind (relS K M b (f + 1) acc) = (((o.map nxt).bind (spanM K acc.length)).map (·.2)).bind (relS K M b f (acc ++ [(x, y)])) := by
  cases o with
  | none => cases h
  | some p =>
    have h1 : p.tok = [44] := of_decide_eq_true h
    rw [Option.map_some, Option.bind_some] at hv ⊢
    rw [Option.bind_some]
    unfold relS
    rw [spansM, if_pos h1]
    cases hs : spanM K acc.length (nxt p) with
    | none => rfl
    | some sq =>
      obtain ⟨s, q⟩ := sq
      obtain ⟨e1, e2⟩ := hv s q hs
      have e : (x, y) = s := by rw [e1, e2]
      rw [Option.map_some, Option.bind_some, e]
end Go.Proofs.YtnabklhkalnpiaaGreatDoor
