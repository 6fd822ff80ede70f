/- A list of steps, opened: what an argument of that type reads as, cell by cell. -/
import Derived.Test.YtglllbodhdgahaaPs
import Derived.Deep.Strs
namespace Go.Proofs.Ytglllbodhdgahaa
open Go.RowKit
set_option linter.unusedVariables false

theorem isSteps_nil (w : World) : IsSteps w none 0 0 [] := ⟨rfl, by omega, (fun i hi => absurd hi (Nat.not_lt_zero _)), (fun h => absurd rfl h)⟩
theorem one_of {α : Type} {l : List α} {n i : Nat} {v : α} (h : (l.drop i).take 1 = [v]) : l[i]? = some v := by
  have := congrArg (fun r : List α => r[0]?) h
  simpa [List.getElem?_take, List.getElem?_drop] using this
theorem isSteps_of {H : Type} {enc : TypeId × Value → H} {P : Program} {w : World} {base : Nat} {spare : Nat → Bool} {held : Bool} {t e : TypeId} {f0 f1 f2 : Field} {fuel : Nat} {cs : List Value} {x : DataW H × List MemPlace}
    (ht : P.underlying t = some (.slice e)) (he : P.underlying e = some (.struct #[f0, f1, f2])) (hce : P.cellsOf e = 3) (o0 : f0.offset = 0) (o1 : f1.offset = 1) (o2 : f2.offset = 2)
    (c0 : P.cellsOf f0.type = 1) (c1 : P.cellsOf f1.type = 1) (c2 : P.cellsOf f2.type = 1) (k0 : P.underlying f0.type = some (.int .i64)) (k1 : P.underlying f1.type = some (.int .i64)) (k2 : P.underlying f2.type = some (.int .i64))
    (h : DataW.trod enc P w base spare held fuel t cs = some x) : cs = [.slice none 0 0] ∨ ∃ a len cap zs, cs = [.slice (some a) len cap] ∧ IsSteps w (some a) len cap zs := by
  have hM : maxLen = 9223372036854775807 := by decide
  rcases Go.Deep.open_slice ht h with ⟨h0, _⟩ | ⟨a, len, cap, m, n, D, Pl, hcs, hb, hl, hm, hmm, _, hx⟩
  · exact .inl h0
  right
  have hlm : len ≤ m := by rw [hmm]; split <;> omega
  have each : ∀ i, i < m → ∃ z : Int × Int × Int, w.cell? (a.add (i * 3)) = some (.int .i64 z.1) ∧ w.cell? (a.add (i * 3 + 1)) = some (.int .i64 z.2.1) ∧ w.cell? (a.add (i * 3 + 2)) = some (.int .i64 z.2.2) ∧ I64 z.1 ∧ I64 z.2.1 ∧ I64 z.2.2 := fun i hi => by
    obtain ⟨cs', hc, htr⟩ := hx i hi
    rw [hce] at hc
    obtain ⟨_, hcl, hat⟩ := World.cells?_some hc
    obtain ⟨y0, y1, y2, n2, _, _, h0, h1, h2⟩ := Go.Deep.trod_struct3 he htr
    rw [o0, c0] at h0
    rw [o1, c1] at h1
    rw [o2, c2] at h2
    obtain ⟨z0, e0, _, w0⟩ := DataW.trod_int k0 h0
    obtain ⟨z1, e1, _, w1⟩ := DataW.trod_int k1 h1
    obtain ⟨z2, e2, _, w2⟩ := DataW.trod_int k2 h2
    have g0 := hat 0 (by omega)
    have g1 := hat 1 (by omega)
    have g2 := hat 2 (by omega)
    rw [Go.Deep.add_add, one_of (n := 0) e0] at g0
    rw [Go.Deep.add_add, one_of (n := 0) e1] at g1
    rw [Go.Deep.add_add, one_of (n := 0) e2] at g2
    exact ⟨(z0, z1, z2), g0, g1, g2, i64_of_wf w0, i64_of_wf w1, i64_of_wf w2⟩
  obtain ⟨Z, hZ⟩ := Go.Deep.choose_lt each
  have hlen : ((List.range len).map Z).length = len := by simp
  have hget : ∀ i, i < len → ((List.range len).map Z).getD i (0, 0, 0) = Z i := fun i hi => by simp [List.getD, List.getElem?_map, List.getElem?_range hi]
  refine ⟨a, len, cap, (List.range len).map Z, hcs, hlen, by omega, fun i hi => by rw [hget i hi]; exact (hZ i (by omega)).2.2.2, fun hne => ?_⟩
  have hpos : 0 < len := by rw [← hlen]; exact List.length_pos_iff.2 hne
  obtain ⟨b, off, sp⟩ := a
  have hspot : sp = none := by simpa [Addr.add] using World.cell?_spot (hZ 0 (by omega)).1
  subst hspot
  refine ⟨b, off, rfl, ?_, fun i hi => ?_⟩
  · have := (hZ 0 (by omega)).1
    rw [add_off] at this
    exact World.block_lt_of_cell? w _ this
  · obtain ⟨q0, q1, q2, _⟩ := hZ i (by omega)
    rw [add_off] at q0 q1 q2
    rw [hget i hi]
    exact ⟨q0, q1, q2⟩
end Go.Proofs.Ytglllbodhdgahaa
