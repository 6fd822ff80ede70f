/- Symbols that come in as an argument; what a variable of the library's holds. -/
import Derived.Test.YteofkofgdhmpjaaDoorNvb
import Derived.OpenShut
import Derived.WideShapes
import Derived.Shelf.Vars
namespace Go.Proofs.YteofkofgdhmpjaaDoor
open Go.RowKit
set_option linter.unusedVariables false

theorem six_ofN {cs : Array Value} (h : cs.size = 6) : ∃ a b c d e f, cs = #[a, b, c, d, e, f] := by
  obtain ⟨l⟩ := cs
  match l, h with
  | [a, b, c, d, e, f], _ => exact ⟨a, b, c, d, e, f, rfl⟩
theorem agg_ofN {P : Program} {w0 : World} {rc : Reach} {b0 : Nat} {t : TypeId} {fs : Array Field} {v : Value} (ht : P.underlying t = some (.struct fs)) (hC : P.cellsOf t = 6) (hv : Value.okWide P w0 rc b0 t v) : ∃ a b c d e f, v = .agg #[a, b, c, d, e, f] := by
  obtain ⟨cs, rfl, hsz⟩ : ∃ cs, v = .agg cs ∧ cs.size = P.cellsOf t := by
    unfold Value.okWide at hv
    rw [ht] at hv
    obtain ⟨cs, h1, h2, _⟩ := hv
    exact ⟨cs, h1, h2⟩
  obtain ⟨a, b, c, d, e, f, rfl⟩ := six_ofN (hsz.trans hC)
  exact ⟨a, b, c, d, e, f, rfl⟩
theorem one_ofN {α : Type} {l : List α} {i : Nat} {v : α} (h : (l.drop i).take 1 = [v]) : l[i]? = some v := by
  have := congrArg (fun r : List α => r[0]?) h
  simpa [List.getElem?_take, List.getElem?_drop] using this
section
variable {H : Type} {enc : TypeId × Value → H} {P : Program} {w : World} {base : Nat} {spare : Nat → Bool} {held : Bool}
theorem fieldN {t : TypeId} {fs : Array Field} {fuel : Nat} {cs : List Value} {x : DataW H × List MemPlace} (ht : P.underlying t = some (.struct fs)) (h : DataW.trod enc P w base spare held fuel t cs = some x) :
    ∃ n : Nat, ∀ (i : Nat) (f : Field), fs[i]? = some f → ∃ y, DataW.trod enc P w base spare held n f.type ((cs.drop f.offset).take (P.cellsOf f.type)) = some y := by
  obtain ⟨xs, n, _, rfl, hl, hlen, hf⟩ := DataW.trod_struct ht h
  refine ⟨n, fun i f hi => ?_⟩
  have hlt : i < xs.length := by rw [hlen]; exact (Array.getElem?_eq_some_iff.1 hi).1
  have := hf i f hi
  rw [List.getElem?_eq_getElem hlt] at this
  exact ⟨_, this⟩
structure FldSN (P : Program) (fs : Array Field) (i o : Nat) : Prop where
  ex : ∃ f, fs[i]? = some f ∧ f.offset = o ∧ P.cellsOf f.type = 1 ∧ P.underlying f.type = some .string
structure FldIN (P : Program) (fs : Array Field) (i o : Nat) : Prop where
  ex : ∃ f, fs[i]? = some f ∧ f.offset = o ∧ P.cellsOf f.type = 1 ∧ P.underlying f.type = some (.int .i64)
theorem fldN_s {fs : Array Field} {n : Nat} {cs : List Value} (h : ∀ (i : Nat) (f : Field), fs[i]? = some f → ∃ y, DataW.trod enc P w base spare held n f.type ((cs.drop f.offset).take (P.cellsOf f.type)) = some y) {i o : Nat} (F : FldSN P fs i o) : ∃ s : Str, cs[o]? = some (.string (ofL s)) := by
  obtain ⟨f, h1, h2, h3, h4⟩ := F.ex
  obtain ⟨y, hy⟩ := h i f h1
  rw [h2, h3] at hy
  obtain ⟨s, e, _⟩ := DataW.trod_string h4 hy
  exact ⟨s.data.toList, by rw [of_data]; exact one_ofN e⟩
theorem fldN_i {fs : Array Field} {n : Nat} {cs : List Value} (h : ∀ (i : Nat) (f : Field), fs[i]? = some f → ∃ y, DataW.trod enc P w base spare held n f.type ((cs.drop f.offset).take (P.cellsOf f.type)) = some y) {i o : Nat} (F : FldIN P fs i o) : ∃ z : Int, cs[o]? = some (.int .i64 z) ∧ -9223372036854775808 ≤ z ∧ z ≤ 9223372036854775807 := by
  obtain ⟨f, h1, h2, h3, h4⟩ := F.ex
  obtain ⟨y, hy⟩ := h i f h1
  rw [h2, h3] at hy
  obtain ⟨z, e, _, hw⟩ := DataW.trod_int h4 hy
  refine ⟨z, one_ofN e, ?_⟩
  have m1 : IntKind.i64.min = -9223372036854775808 := rfl
  have m2 : IntKind.i64.max = 9223372036854775807 := rfl
  simp only [Lit.wf, Bool.and_eq_true, decide_eq_true_eq] at hw
  omega
end
/-- What the form says of numbers that come in. -/
structure BndY (x : SyN) : Prop where
  p1 : -9223372036854775808 ≤ x.pr
  p2 : x.pr ≤ 9223372036854775807
  s1 : -9223372036854775808 ≤ x.se
  s2 : x.se ≤ 9223372036854775807
set_option maxRecDepth 1000000 in
theorem symArg_of {H : Type} {enc : TypeId × Value → H} {w w0 : World} {base b0 : Nat} {spare : Nat → Bool} {held : Bool} {rc : Reach} {v : Value} {d : DataW H} {p : List MemPlace}
    (hv : Value.okWide Tryd.prog w0 rc b0 23 v) (h : DataW.Trod enc Tryd.prog w base spare held 23 v d p) :
    ∃ x : SyN, v = .agg #[.string (ofL x.de), .string (ofL x.gr), .string (ofL x.mi), .string (ofL x.pe), .int .i64 x.pr, .int .i64 x.se] ∧ BndY x := by
  obtain ⟨a, b, c, d', e, f, rfl⟩ := agg_ofN Tryd.underlying23 (by kernel_rfl) hv
  obtain ⟨fuel, hf⟩ := h
  obtain ⟨n, hF⟩ := fieldN Tryd.underlying23 hf
  obtain ⟨s0, c0⟩ := fldN_s (i := 0) (o := 0) hF ⟨⟨_, rfl, rfl, by kernel_rfl, Tryd.underlying9⟩⟩
  obtain ⟨s1, c1⟩ := fldN_s (i := 1) (o := 1) hF ⟨⟨_, rfl, rfl, by kernel_rfl, Tryd.underlying9⟩⟩
  obtain ⟨s2, c2⟩ := fldN_s (i := 2) (o := 2) hF ⟨⟨_, rfl, rfl, by kernel_rfl, Tryd.underlying9⟩⟩
  obtain ⟨s3, c3⟩ := fldN_s (i := 3) (o := 3) hF ⟨⟨_, rfl, rfl, by kernel_rfl, Tryd.underlying9⟩⟩
  obtain ⟨z4, c4, l4, u4⟩ := fldN_i (i := 4) (o := 4) hF ⟨⟨_, rfl, rfl, by kernel_rfl, Tryd.underlying3⟩⟩
  obtain ⟨z5, c5, l5, u5⟩ := fldN_i (i := 5) (o := 5) hF ⟨⟨_, rfl, rfl, by kernel_rfl, Tryd.underlying3⟩⟩
  simp [Value.cells] at c0 c1 c2 c3 c4 c5
  subst c0 c1 c2 c3 c4 c5
  exact ⟨⟨s0, s1, s2, s3, z4, z5⟩, rfl, ⟨l4, u4, l5, u5⟩⟩
theorem env_of {W : World} (h : W.ShapedOpen Tryd.prog) : MaxL W := by
  obtain ⟨m, hm⟩ := cell_of_shapedOpen_int (P := Tryd.prog) (g := 0) (t := 3) (zero := #[.int .i64 0]) h (of_decide_eq_true (by kernel_rfl)) (by kernel_rfl) rfl (by kernel_rfl) (by kernel_rfl) Tryd.underlying3
  exact ⟨⟨m, hm⟩, World.block_lt_of_cell? _ _ hm⟩
end Go.Proofs.YteofkofgdhmpjaaDoor
