/- Automata that come in as arguments: what their cells hold. -/
import Derived.Test.YtiljagfjgefnnaaAe
import Derived.ChangeSame
import Derived.Deep.Strs
import Derived.SizedLaws
namespace Go.Proofs.Ytiljagfjgefnnaa
open Go.RowKit
set_option linter.unusedVariables false

theorem one_of {α : Type} {l : List α} {n i : Nat} {v : α} (h : (l.drop i).take 1 = [v]) : l[i]? = some v := by
  have := congrArg (fun r : List α => r[0]?) h
  simpa [List.getElem?_take, List.getElem?_drop] using this
/-- A row of equal cells reads as a list. -/
theorem rd_of_row {α : Type} {k : Nat} {enc : α → List Value} {w : World} {a : Addr} {len cap : Nat} (Z : Nat → α) (hk : 0 < k) (henc : ∀ x, (enc x).length = k) (hl : len ≤ cap) (hc : cap ≤ maxLen)
    (h : ∀ i, i < len → ∀ (j : Nat) (v : Value), (enc (Z i))[j]? = some v → w.cell? (a.add (i * k + j)) = some v) :
    Rd k enc w (.slice (some a) len cap) ((List.range len).map Z) := by
  have hM : maxLen = 9223372036854775807 := by decide
  have hlen : ((List.range len).map Z).length = len := by simp
  refine ⟨⟨_, cap, by rw [hlen], by omega, by omega, fun hne => ?_⟩, fun n c hc => by cases hc⟩
  have hpos : 0 < len := by rw [← hlen]; exact List.length_pos_iff.2 hne
  have h00 := h 0 hpos 0 _ (List.getElem?_eq_getElem (by rw [henc]; exact hk))
  obtain ⟨b, off, sp⟩ := a
  have hspot : sp = none := by simpa [Addr.add] using World.cell?_spot h00
  subst hspot
  refine ⟨b, off, rfl, ?_, fun i u hi j v hv => ?_⟩
  · rw [add_off] at h00
    exact World.block_lt_of_cell? w _ h00
  · have hil := (List.getElem?_eq_some_iff.1 hi).1
    rw [hlen] at hil
    simp [List.getElem?_range hil] at hi
    subst hi
    have q := h i hil j v hv
    rw [add_off, ← Nat.add_assoc] at q
    exact q
section
variable {H : Type} {enc : TypeId × Value → H} {P : Program} {w : World} {base : Nat} {spare : Nat → Bool} {held : Bool}
theorem ints_of {t e : TypeId} {fuel : Nat} {cs : List Value} {x : DataW H × List MemPlace} (ht : P.underlying t = some (.slice e)) (he : P.underlying e = some (.int .i64)) (hce : P.cellsOf e = 1)
    (h : DataW.trod enc P w base spare held fuel t cs = some x) : ∃ a c, ∃ l : List Int, cs = [.slice a l.length c] ∧ Rd 1 encI w (.slice a l.length c) l := by
  rcases Go.Deep.open_slice ht h with ⟨h0, _⟩ | ⟨a, len, cap, m, n, D, Pl, hcs, hb, hl, hm, hmm, _, hx⟩
  · exact ⟨none, 0, [], h0, rd_nil w⟩
  have hlm : len ≤ m := by rw [hmm]; split <;> omega
  have each : ∀ i, i < m → ∃ z : Int, w.cell? (a.add i) = some (.int .i64 z) := fun i hi => by
    obtain ⟨cs', hc, htr⟩ := hx i hi
    rw [hce, Nat.mul_one] at hc
    obtain ⟨_, hcl, hat⟩ := World.cells?_some hc
    obtain ⟨z0, e0, _, w0⟩ := DataW.trod_int he htr
    have g0 := hat 0 (by omega)
    rw [Go.Deep.add_add, Nat.add_zero, e0] at g0
    exact ⟨z0, g0⟩
  obtain ⟨Z, hZ⟩ := Go.Deep.choose_lt each
  refine ⟨some a, cap, (List.range len).map Z, by rw [hcs]; simp, ?_⟩
  have hlen : ((List.range len).map Z).length = len := by simp
  rw [hlen]
  refine rd_of_row Z (by omega) (fun x => rfl) hl hm fun i hi j v hv => ?_
  have hj : j < 1 := (List.getElem?_eq_some_iff.1 hv).1
  obtain rfl : j = 0 := by omega
  simp [encI] at hv
  subst hv
  rw [Nat.mul_one, Nat.add_zero]
  exact hZ i (by omega)
theorem bools_of {t e : TypeId} {fuel : Nat} {cs : List Value} {x : DataW H × List MemPlace} (ht : P.underlying t = some (.slice e)) (he : P.underlying e = some .bool) (hce : P.cellsOf e = 1)
    (h : DataW.trod enc P w base spare held fuel t cs = some x) : ∃ a c, ∃ l : List Bool, cs = [.slice a l.length c] ∧ Rd 1 encO w (.slice a l.length c) l := by
  rcases Go.Deep.open_slice ht h with ⟨h0, _⟩ | ⟨a, len, cap, m, n, D, Pl, hcs, hb, hl, hm, hmm, _, hx⟩
  · exact ⟨none, 0, [], h0, rd_nil w⟩
  have hlm : len ≤ m := by rw [hmm]; split <;> omega
  have each : ∀ i, i < m → ∃ z : Bool, w.cell? (a.add i) = some (.bool z) := fun i hi => by
    obtain ⟨cs', hc, htr⟩ := hx i hi
    rw [hce, Nat.mul_one] at hc
    obtain ⟨_, hcl, hat⟩ := World.cells?_some hc
    obtain ⟨z0, e0, _⟩ := DataW.trod_bool he htr
    have g0 := hat 0 (by omega)
    rw [Go.Deep.add_add, Nat.add_zero, e0] at g0
    exact ⟨z0, g0⟩
  obtain ⟨Z, hZ⟩ := Go.Deep.choose_lt each
  refine ⟨some a, cap, (List.range len).map Z, by rw [hcs]; simp, ?_⟩
  have hlen : ((List.range len).map Z).length = len := by simp
  rw [hlen]
  refine rd_of_row Z (by omega) (fun x => rfl) hl hm fun i hi j v hv => ?_
  have hj : j < 1 := (List.getElem?_eq_some_iff.1 hv).1
  obtain rfl : j = 0 := by omega
  simp [encO] at hv
  subst hv
  rw [Nat.mul_one, Nat.add_zero]
  exact hZ i (by omega)
instance : Inhabited RawS := ⟨⟨none, 0, 0⟩⟩
theorem rows_of {tN t e : TypeId} {fuel : Nat} {cs : List Value} {x : DataW H × List MemPlace} (hN : P.underlying tN = some (.slice t)) (hct : P.cellsOf t = 1) (ht : P.underlying t = some (.slice e)) (he : P.underlying e = some (.int .i64)) (hce : P.cellsOf e = 1)
    (h : DataW.trod enc P w base spare held fuel tN cs = some x) : ∃ a c, ∃ l : List (List Int), cs = [.slice a l.length c] ∧ RdRows w (.slice a l.length c) l := by
  rcases Go.Deep.open_slice hN h with ⟨h0, _⟩ | ⟨a, len, cap, m, n, D, Pl, hcs, hb, hl, hm, hmm, _, hx⟩
  · exact ⟨none, 0, [], h0, rdRows_nil w⟩
  have hlm : len ≤ m := by rw [hmm]; split <;> omega
  have each : ∀ i, i < m → ∃ z : RawS × List Int, w.cell? (a.add i) = some (.slice z.1.a z.1.n z.1.c) ∧ Rd 1 encI w (.slice z.1.a z.1.n z.1.c) z.2 := fun i hi => by
    obtain ⟨cs', hc, htr⟩ := hx i hi
    rw [hct, Nat.mul_one] at hc
    obtain ⟨_, hcl, hat⟩ := World.cells?_some hc
    obtain ⟨a1, c1, l, e0, hr⟩ := ints_of ht he hce htr
    have g0 := hat 0 (by omega)
    rw [Go.Deep.add_add, Nat.add_zero, e0] at g0
    exact ⟨(⟨a1, l.length, c1⟩, l), g0, hr⟩
  obtain ⟨Z, hZ⟩ := Go.Deep.choose_lt each
  refine ⟨some a, cap, (List.range len).map fun i => (Z i).2, by rw [hcs]; simp, ?_⟩
  have hlen : ((List.range len).map fun i => (Z i).2).length = len := by simp
  rw [hlen]
  refine ⟨(List.range len).map fun i => (Z i).1, rd_of_row (fun i => (Z i).1) (by omega) encS_len hl hm fun i hi j v hv => ?_, by simp, fun i h1 h2 => ?_⟩
  · have hj : j < 1 := (List.getElem?_eq_some_iff.1 hv).1
    obtain rfl : j = 0 := by omega
    simp [encS] at hv
    subst hv
    rw [Nat.mul_one, Nat.add_zero]
    exact (hZ i (by omega)).1
  · have hi : i < len := by simpa using h1
    simp only [List.getElem_map, List.getElem_range]
    exact (hZ i (by omega)).2
theorem trod_struct3 {t : TypeId} {f0 f1 f2 : Field} {fuel : Nat} {cs : List Value} {x : DataW H × List MemPlace} (ht : P.underlying t = some (.struct #[f0, f1, f2])) (h : DataW.trod enc P w base spare held fuel t cs = some x) :
    ∃ y0 y1 y2 n, DataW.trod enc P w base spare held n f0.type ((cs.drop f0.offset).take (P.cellsOf f0.type)) = some y0 ∧
      DataW.trod enc P w base spare held n f1.type ((cs.drop f1.offset).take (P.cellsOf f1.type)) = some y1 ∧ DataW.trod enc P w base spare held n f2.type ((cs.drop f2.offset).take (P.cellsOf f2.type)) = some y2 := by
  obtain ⟨xs, n, _, rfl, hl, hlen, hf⟩ := DataW.trod_struct ht h
  match xs, hlen with
  | [y0, y1, y2], _ => exact ⟨y0, y1, y2, n, by simpa using hf 0 f0 rfl, by simpa using hf 1 f1 rfl, by simpa using hf 2 f2 rfl⟩
structure DfaTypes (P : Program) (tD tN t e tA eA : TypeId) (f0 f1 f2 : Field) : Prop where
  t_ : P.underlying tD = some (.struct #[f0, f1, f2])
  o0 : f0.offset = 0
  o1 : f1.offset = 1
  o2 : f2.offset = 2
  c0 : P.cellsOf f0.type = 1
  c1 : P.cellsOf f1.type = 1
  c2 : P.cellsOf f2.type = 1
  k0 : P.underlying f0.type = some (.int .i64)
  k1 : P.underlying f1.type = some (.slice t)
  k2 : P.underlying f2.type = some (.slice eA)
  ct : P.cellsOf t = 1
  ht : P.underlying t = some (.slice e)
  he : P.underlying e = some (.int .i64)
  ce : P.cellsOf e = 1
  hA : P.underlying eA = some .bool
  cA : P.cellsOf eA = 1
/-- An automaton that comes in. -/
theorem dfa_of {tD tN t e tA eA : TypeId} {f0 f1 f2 : Field} {fuel : Nat} {cs : List Value} {x : DataW H × List MemPlace} (T : DfaTypes P tD tN t e tA eA f0 f1 f2) (h : DataW.trod enc P w base spare held fuel tD cs = some x) :
    ∃ (r : RawD) (a1 : Option Addr) (c1 : Nat) (a2 : Option Addr) (c2 : Nat), cs[0]? = some (.int .i64 r.st) ∧ cs[1]? = some (.slice a1 r.nx.length c1) ∧ cs[2]? = some (.slice a2 r.ac.length c2) ∧ RdRows w (.slice a1 r.nx.length c1) r.nx ∧ Rd 1 encO w (.slice a2 r.ac.length c2) r.ac := by
  obtain ⟨y0, y1, y2, n, h0, h1, h2⟩ := trod_struct3 T.t_ h
  rw [T.o0, T.c0] at h0
  rw [T.o1, T.c1] at h1
  rw [T.o2, T.c2] at h2
  obtain ⟨z0, e0, _, _⟩ := DataW.trod_int T.k0 h0
  obtain ⟨a1, c1, nx, e1, r1⟩ := rows_of T.k1 T.ct T.ht T.he T.ce h1
  obtain ⟨a2, c2, ac, e2, r2⟩ := bools_of T.k2 T.hA T.cA h2
  exact ⟨⟨z0, nx, ac⟩, a1, c1, a2, c2, one_of (n := 0) e0, one_of (n := 0) e1, one_of (n := 0) e2, r1, r2⟩
end
theorem dfaTypes : ∃ f0 f1 f2, DfaTypes Try.prog 25 22 56 3 23 4 f0 f1 f2 := ⟨_, _, _, ⟨Try.underlying25, rfl, rfl, rfl, by kernel_rfl, by kernel_rfl, by kernel_rfl, Try.underlying3, Try.underlying22, Try.underlying23, by kernel_rfl, Try.underlying56, Try.underlying3, by kernel_rfl, Try.underlying4, by kernel_rfl⟩⟩
theorem dfaIn_of {H : Type} {enc : TypeId × Value → H} {w : World} {base : Nat} {spare : Nat → Bool} {held : Bool} {fuel : Nat} {cs : List Value} {x : DataW H × List MemPlace} (h : DataW.trod enc Try.prog w base spare held fuel 25 cs = some x) :
    ∃ (r : RawD) (a1 : Option Addr) (c1 : Nat) (a2 : Option Addr) (c2 : Nat), cs[0]? = some (.int .i64 r.st) ∧ cs[1]? = some (.slice a1 r.nx.length c1) ∧ cs[2]? = some (.slice a2 r.ac.length c2) ∧ RdRows w (.slice a1 r.nx.length c1) r.nx ∧ Rd 1 encO w (.slice a2 r.ac.length c2) r.ac :=
  let ⟨_, _, _, T⟩ := dfaTypes
  dfa_of T h
end Go.Proofs.Ytiljagfjgefnnaa
