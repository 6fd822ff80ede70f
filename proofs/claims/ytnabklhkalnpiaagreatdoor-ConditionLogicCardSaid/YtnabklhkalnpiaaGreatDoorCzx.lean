/- Conditions that come in as arguments: what their cells hold, and the lengths of their lists. -/
import Derived.Test.YtnabklhkalnpiaaGreatDoorCzw
import Derived.ChangeSame
import Derived.Deep.Strs
import Derived.SizedLaws
namespace Go.Proofs.YtnabklhkalnpiaaGreatDoor
open Go.RowKit
set_option linter.unusedVariables false

theorem one_of {α : Type} {l : List α} {n i : Nat} {v : α} (h : (l.drop i).take 1 = [v]) : l[i]? = some v := by
  have := congrArg (fun r : List α => r[0]?) h
  simpa [List.getElem?_take, List.getElem?_drop] using this
/-- A row of equal cells reads as a list. -/
theorem rd_of_row {α : Type} {k : Nat} {enc : α → List Value} {w : World} {a : Addr} {len cap : Nat} (Z : Nat → α) (hk : 0 < k) (henc : ∀ x, (enc x).length = k) (hl : len ≤ cap) (hc : cap ≤ maxLen)
    (h : ∀ i, i < len → ∀ (j : Nat) (v : Value), (enc (Z i))[j]? = some v → w.cell? (a.add (i * k + j)) = some v) :
    Rd k enc w (.slice (some a) len cap) ((List.range len).map Z) := by
  have hM : maxLen = 9223372036854775807 := by decide
  have hlen : ((List.range len).map Z).length = len := by simp
  refine ⟨⟨_, cap, by rw [hlen], by omega, by omega, fun hne => ?_⟩, fun n c hc => by cases hc⟩
  have hpos : 0 < len := by rw [← hlen]; exact List.length_pos_iff.2 hne
  have h00 := h 0 hpos 0 _ (List.getElem?_eq_getElem (by rw [henc]; exact hk))
  obtain ⟨b, off, sp⟩ := a
  have hspot : sp = none := by simpa [Addr.add] using World.cell?_spot h00
  subst hspot
  refine ⟨b, off, rfl, ?_, fun i u hi j v hv => ?_⟩
  · rw [add_off] at h00
    exact World.block_lt_of_cell? w _ h00
  · have hil := (List.getElem?_eq_some_iff.1 hi).1
    rw [hlen] at hil
    simp [List.getElem?_range hil] at hi
    subst hi
    have q := h i hil j v hv
    rw [add_off, ← Nat.add_assoc] at q
    exact q
section
variable {H : Type} {enc : TypeId × Value → H} {P : Program} {w : World} {base : Nat} {spare : Nat → Bool} {held : Bool}
theorem spans_of {t e : TypeId} {f0 f1 : Field} {fuel : Nat} {cs : List Value} {x : DataW H × List MemPlace}
    (ht : P.underlying t = some (.slice e)) (he : P.underlying e = some (.struct #[f0, f1])) (hce : P.cellsOf e = 2) (o0 : f0.offset = 0) (o1 : f1.offset = 1)
    (c0 : P.cellsOf f0.type = 1) (c1 : P.cellsOf f1.type = 1) (k0 : P.underlying f0.type = some (.int .i64)) (k1 : P.underlying f1.type = some (.int .i64))
    (h : DataW.trod enc P w base spare held fuel t cs = some x) : ∃ a len cap sp, cs = [.slice a len cap] ∧ Rd 2 encP w (.slice a len cap) sp := by
  rcases Go.Deep.open_slice ht h with ⟨h0, _⟩ | ⟨a, len, cap, m, n, D, Pl, hcs, hb, hl, hm, hmm, _, hx⟩
  · exact ⟨none, 0, 0, [], h0, rd_nil w⟩
  have hlm : len ≤ m := by rw [hmm]; split <;> omega
  have each : ∀ i, i < m → ∃ z : Int × Int, w.cell? (a.add (i * 2)) = some (.int .i64 z.1) ∧ w.cell? (a.add (i * 2 + 1)) = some (.int .i64 z.2) := fun i hi => by
    obtain ⟨cs', hc, htr⟩ := hx i hi
    rw [hce] at hc
    obtain ⟨_, hcl, hat⟩ := World.cells?_some hc
    obtain ⟨y0, y1, n2, _, _, h0, h1⟩ := Go.ChangeShapes.trod_struct2 he htr
    rw [o0, c0] at h0
    rw [o1, c1] at h1
    obtain ⟨z0, e0, _, w0⟩ := DataW.trod_int k0 h0
    obtain ⟨z1, e1, _, w1⟩ := DataW.trod_int k1 h1
    have g0 := hat 0 (by omega)
    have g1 := hat 1 (by omega)
    rw [Go.Deep.add_add, one_of (n := 0) e0] at g0
    rw [Go.Deep.add_add, one_of (n := 0) e1] at g1
    exact ⟨(z0, z1), g0, g1⟩
  obtain ⟨Z, hZ⟩ := Go.Deep.choose_lt each
  refine ⟨some a, len, cap, (List.range len).map Z, hcs, rd_of_row Z (by omega) (fun x => rfl) hl hm fun i hi j v hv => ?_⟩
  obtain ⟨q0, q1⟩ := hZ i (by omega)
  have hj : j < 2 := (List.getElem?_eq_some_iff.1 hv).1
  obtain rfl | rfl : j = 0 ∨ j = 1 := by omega
  · simp [encP] at hv
    subst hv
    exact q0
  · simp [encP] at hv
    subst hv
    exact q1
theorem trod_struct4 {t : TypeId} {f0 f1 f2 f3 : Field} {fuel : Nat} {cs : List Value} {x : DataW H × List MemPlace} (ht : P.underlying t = some (.struct #[f0, f1, f2, f3])) (h : DataW.trod enc P w base spare held fuel t cs = some x) :
    ∃ y0 y1 y2 y3 n, DataW.trod enc P w base spare held n f0.type ((cs.drop f0.offset).take (P.cellsOf f0.type)) = some y0 ∧
      DataW.trod enc P w base spare held n f1.type ((cs.drop f1.offset).take (P.cellsOf f1.type)) = some y1 ∧ DataW.trod enc P w base spare held n f2.type ((cs.drop f2.offset).take (P.cellsOf f2.type)) = some y2 ∧
      DataW.trod enc P w base spare held n f3.type ((cs.drop f3.offset).take (P.cellsOf f3.type)) = some y3 := by
  obtain ⟨xs, n, _, rfl, hl, hlen, hf⟩ := DataW.trod_struct ht h
  match xs, hlen with
  | [y0, y1, y2, y3], _ => exact ⟨y0, y1, y2, y3, n, by simpa using hf 0 f0 rfl, by simpa using hf 1 f1 rfl, by simpa using hf 2 f2 rfl, by simpa using hf 3 f3 rfl⟩
/-- What is asked of the types of relations and spans. -/
structure RelTypes (P : Program) (t tS eS : TypeId) (f0 f1 f2 f3 g0 g1 : Field) : Prop where
  t_ : P.underlying t = some (.struct #[f0, f1, f2, f3])
  cells : P.cellsOf t = 4
  o0 : f0.offset = 0
  o1 : f1.offset = 1
  o2 : f2.offset = 2
  o3 : f3.offset = 3
  c0 : P.cellsOf f0.type = 1
  c1 : P.cellsOf f1.type = 1
  c2 : P.cellsOf f2.type = 1
  c3 : P.cellsOf f3.type = 1
  k0 : P.underlying f0.type = some (.int .i64)
  k1 : P.underlying f1.type = some (.int .i64)
  k2 : P.underlying f2.type = some .bool
  k3 : P.underlying f3.type = some (.slice eS)
  s_ : P.underlying eS = some (.struct #[g0, g1])
  sc : P.cellsOf eS = 2
  p0 : g0.offset = 0
  p1 : g1.offset = 1
  d0 : P.cellsOf g0.type = 1
  d1 : P.cellsOf g1.type = 1
  j0 : P.underlying g0.type = some (.int .i64)
  j1 : P.underlying g1.type = some (.int .i64)
variable {t tS eS : TypeId} {f0 f1 f2 f3 g0 g1 : Field}
theorem rel_of {fuel : Nat} {cs : List Value} {x : DataW H × List MemPlace} (T : RelTypes P t tS eS f0 f1 f2 f3 g0 g1) (h : DataW.trod enc P w base spare held fuel t cs = some x) :
    ∃ z : RawR × Rel, RdRel w z.1 z.2 ∧ ∀ (j : Nat) (v : Value), (encR z.1)[j]? = some v → cs[j]? = some v := by
  obtain ⟨y0, y1, y2, y3, n, h0, h1, h2, h3⟩ := trod_struct4 T.t_ h
  rw [T.o0, T.c0] at h0
  rw [T.o1, T.c1] at h1
  rw [T.o2, T.c2] at h2
  rw [T.o3, T.c3] at h3
  obtain ⟨z0, e0, _, _⟩ := DataW.trod_int T.k0 h0
  obtain ⟨z1, e1, _, _⟩ := DataW.trod_int T.k1 h1
  obtain ⟨z2, e2, _⟩ := DataW.trod_bool T.k2 h2
  obtain ⟨a, len, cap, sp, e3, hsp⟩ := spans_of T.k3 T.s_ T.sc T.p0 T.p1 T.d0 T.d1 T.j0 T.j1 h3
  refine ⟨(⟨z0, z1, z2, a, len, cap⟩, ⟨z0, z1, z2, sp⟩), ⟨rfl, rfl, rfl, hsp⟩, fun j v hv => ?_⟩
  have hj : j < 4 := (List.getElem?_eq_some_iff.1 hv).1
  obtain rfl | rfl | rfl | rfl : j = 0 ∨ j = 1 ∨ j = 2 ∨ j = 3 := by omega
  · simp [encR] at hv
    subst hv
    exact one_of (n := 0) e0
  · simp [encR] at hv
    subst hv
    exact one_of (n := 0) e1
  · simp [encR] at hv
    subst hv
    exact one_of (n := 0) e2
  · simp [encR] at hv
    subst hv
    exact one_of (n := 0) e3
instance : Inhabited RawR := ⟨⟨0, 0, false, none, 0, 0⟩⟩
instance : Inhabited Rel := ⟨⟨0, 0, false, []⟩⟩
instance : Inhabited RawS := ⟨⟨none, 0, 0⟩⟩
theorem rels_of {tL : TypeId} {fuel : Nat} {cs : List Value} {x : DataW H × List MemPlace} (T : RelTypes P t tS eS f0 f1 f2 f3 g0 g1) (hL : P.underlying tL = some (.slice t)) (hb1 : 0 < P.bytesOf t) (h : DataW.trod enc P w base spare held fuel tL cs = some x)
    (hw : ∀ k ∈ x.1.weights P tL, k ≤ reachBytes) : ∃ (z : RawS) (l : List Rel), cs = [.slice z.a z.n z.c] ∧ RdRels w (.slice z.a z.n z.c) l ∧ l.length ≤ 140737488355328 := by
  have hM : maxLen = 9223372036854775807 := by decide
  rcases Go.Deep.open_slice hL h with ⟨h0, _⟩ | ⟨a, len, cap, m, n, D, Pl, hcs, hb, hl, hm, hmm, hxe, hx⟩
  · exact ⟨⟨none, 0, 0⟩, [], h0, rdRels_nil w, by simp⟩
  have hlm : len ≤ m := by rw [hmm]; split <;> omega
  have each : ∀ i, i < m → ∃ z : RawR × Rel, RdRel w z.1 z.2 ∧ ∀ (j : Nat) (v : Value), (encR z.1)[j]? = some v → w.cell? (a.add (i * 4 + j)) = some v := fun i hi => by
    obtain ⟨cs', hc, htr⟩ := hx i hi
    rw [T.cells] at hc
    obtain ⟨_, hcl, hat⟩ := World.cells?_some hc
    obtain ⟨z, hz, hzc⟩ := rel_of T htr
    refine ⟨z, hz, fun j v hv => ?_⟩
    have hj : j < 4 := (List.getElem?_eq_some_iff.1 hv).1
    have g := hat j (by omega)
    rw [Go.Deep.add_add, hzc j v hv] at g
    exact g
  obtain ⟨Z, hZ⟩ := Go.Deep.choose_lt each
  have hlen : len ≤ 140737488355328 := by
    have h1 := hw ((len + (m - len)) * P.bytesOf t) (by rw [hxe]; simp [DataW.weights, hL])
    have h2 : len * 1 ≤ (len + (m - len)) * P.bytesOf t := Nat.mul_le_mul (by omega) hb1
    have h3 : reachBytes ≤ 140737488355328 := by decide
    omega
  refine ⟨⟨some a, len, cap⟩, (List.range len).map fun i => (Z i).2, hcs, ⟨(List.range len).map fun i => (Z i).1, rd_of_row (fun i => (Z i).1) (by omega) encR_len hl hm fun i (hi : i < len) j v hv => (hZ i (by omega)).2 j v hv, by simp, fun i h1 h2 => ?_⟩, by simp; exact hlen⟩
  have hi : i < len := by simpa using h1
  rw [List.getElem_map, List.getElem_map, List.getElem_range]
  exact (hZ i (by omega)).1
theorem weights_all {e : TypeId} {d : DataW H} : ∀ (l : List (DataW H)), d ∈ l → ∀ k ∈ d.weights P e, k ∈ DataW.weightsAll P e l
  | [], h, _, _ => by cases h
  | x :: l, h, k, hk => by
    simp only [DataW.weightsAll, List.mem_append]
    rcases List.mem_cons.1 h with rfl | h
    · exact .inl hk
    · exact .inr (weights_all l h k hk)
theorem cond_of {tC tL : TypeId} {fuel : Nat} {cs : List Value} {x : DataW H × List MemPlace} (T : RelTypes P t tS eS f0 f1 f2 f3 g0 g1) (hL : P.underlying tL = some (.slice t)) (hC : P.underlying tC = some (.slice tL)) (hcL : P.cellsOf tL = 1) (hb1 : 0 < P.bytesOf t) (h : DataW.trod enc P w base spare held fuel tC cs = some x)
    (hw : ∀ k ∈ x.1.weights P tC, k ≤ reachBytes) : ∃ (z : RawS) (c : Cnd), cs = [.slice z.a z.n z.c] ∧ RdC w (.slice z.a z.n z.c) c ∧ ∀ l ∈ c, l.length ≤ 140737488355328 := by
  rcases Go.Deep.open_slice hC h with ⟨h0, _⟩ | ⟨a, len, cap, m, n, D, Pl, hcs, hb, hl, hm, hmm, hxe, hx⟩
  · exact ⟨⟨none, 0, 0⟩, [], h0, rdC_nil w, fun l h => by cases h⟩
  have hlm : len ≤ m := by rw [hmm]; split <;> omega
  have each : ∀ i, i < len → ∃ z : RawS × List Rel, w.cell? (a.add i) = some (.slice z.1.a z.1.n z.1.c) ∧ RdRels w (.slice z.1.a z.1.n z.1.c) z.2 ∧ z.2.length ≤ 140737488355328 := fun i hi => by
    obtain ⟨cs', hc, htr⟩ := hx i (by omega)
    rw [hcL, Nat.mul_one] at hc
    obtain ⟨_, hcl, hat⟩ := World.cells?_some hc
    obtain ⟨z, l, he, hz, hzl⟩ := rels_of T hL hb1 htr (fun k hk => hw k (by
      rw [hxe]
      have h1 : k ∈ DataW.weightsAll P tL ((List.range len).map D) := weights_all _ (List.mem_map.2 ⟨i, List.mem_range.2 hi, rfl⟩) k hk
      simp only [DataW.weights, hC, List.mem_cons, List.mem_append]
      exact .inr (.inl h1)))
    have g := hat 0 (by omega)
    rw [Go.Deep.add_add, Nat.add_zero, he] at g
    exact ⟨(z, l), g, hz, hzl⟩
  obtain ⟨Z, hZ⟩ := Go.Deep.choose_lt each
  refine ⟨⟨some a, len, cap⟩, (List.range len).map fun i => (Z i).2, hcs, ⟨(List.range len).map fun i => (Z i).1, rd_of_row (fun i => (Z i).1) (by omega) encS_len hl hm fun i hi j v hv => ?_, by simp, fun i h1 h2 => ?_⟩, fun l hl => ?_⟩
  · have hj : j < 1 := (List.getElem?_eq_some_iff.1 hv).1
    obtain rfl : j = 0 := by omega
    simp [encS] at hv
    subst hv
    rw [Nat.mul_one, Nat.add_zero]
    exact (hZ i hi).1
  · have hi : i < len := by simpa using h1
    simp only [List.getElem_map, List.getElem_range]
    exact (hZ i hi).2.1
  · obtain ⟨i, hi, rfl⟩ := List.mem_map.1 hl
    exact (hZ i (List.mem_range.1 hi)).2.2
end
theorem relTypes : ∃ f0 f1 f2 f3 g0 g1, RelTypes Tryz.prog 38 36 42 f0 f1 f2 f3 g0 g1 := ⟨_, _, _, _, _, _, ⟨Tryz.underlying38, by kernel_rfl, rfl, rfl, rfl, rfl, by kernel_rfl, by kernel_rfl, by kernel_rfl, by kernel_rfl, Tryz.underlying3, Tryz.underlying3, Tryz.underlying4, Tryz.underlying36, Tryz.underlying42, by kernel_rfl, rfl, rfl, by kernel_rfl, by kernel_rfl, Tryz.underlying3, Tryz.underlying3⟩⟩
theorem condIn_of {H : Type} {enc : TypeId × Value → H} {w : World} {base : Nat} {spare : Nat → Bool} {held : Bool} {fuel : Nat} {cs : List Value} {x : DataW H × List MemPlace} (h : DataW.trod enc Tryz.prog w base spare held fuel 23 cs = some x)
    (hw : ∀ k ∈ x.1.weights Tryz.prog 23, k ≤ reachBytes) : ∃ (z : RawS) (c : Cnd), cs = [.slice z.a z.n z.c] ∧ RdC w (.slice z.a z.n z.c) c ∧ ∀ l ∈ c, l.length ≤ 140737488355328 :=
  let ⟨_, _, _, _, _, _, T⟩ := relTypes
  cond_of T Tryz.underlying39 Tryz.underlying23 (by kernel_rfl) (of_decide_eq_true (by kernel_rfl)) h hw
end Go.Proofs.YtnabklhkalnpiaaGreatDoor
