/- What the row stands on, part 15. -/
import Derived.SizedLaws
import Derived.Test.YtpmmchppfmojhaaGreatDoorQ14

/- Conditions that come in as arguments: what their cells hold, and the lengths of their lists. -/
namespace Go.Proofs.YtpmmchppfmojhaaGreatDoor
open Go.RowKit
set_option linter.unusedVariables false

theorem one_ofOf8 {α : Type} {l : List α} {n i : Nat} {v : α} (h : (l.drop i).take 1 = [v]) : l[i]? = some v := by
  have := congrArg (fun r : List α => r[0]?) h
  simpa [List.getElem?_take, List.getElem?_drop] using this
/-- A row of equal cells reads as a list. -/
theorem rd_of_rowOf8 {α : Type} {k : Nat} {enc : α → List Value} {w : World} {a : Addr} {len cap : Nat} (Z : Nat → α) (hk : 0 < k) (henc : ∀ x, (enc x).length = k) (hl : len ≤ cap) (hc : cap ≤ maxLen)
    (h : ∀ i, i < len → ∀ (j : Nat) (v : Value), (enc (Z i))[j]? = some v → w.cell? (a.add (i * k + j)) = some v) :
    Rd k enc w (.slice (some a) len cap) ((List.range len).map Z) := by
  have hM : maxLen = 9223372036854775807 := by decide
  have hlen : ((List.range len).map Z).length = len := by simp
  refine ⟨⟨_, cap, by rw [hlen], by omega, by omega, fun hne => ?_⟩, fun n c hc => by cases hc⟩
  have hpos : 0 < len := by rw [← hlen]; exact List.length_pos_iff.2 hne
  have h00 := h 0 hpos 0 _ (List.getElem?_eq_getElem (by rw [henc]; exact hk))
  obtain ⟨b, off, sp⟩ := a
  have hspot : sp = none := by simpa [Addr.add] using World.cell?_spot h00
  subst hspot
  refine ⟨b, off, rfl, ?_, fun i u hi j v hv => ?_⟩
  · rw [add_off] at h00
    exact World.block_lt_of_cell? w _ h00
  · have hil := (List.getElem?_eq_some_iff.1 hi).1
    rw [hlen] at hil
    simp [List.getElem?_range hil] at hi
    subst hi
    have q := h i hil j v hv
    rw [add_off, ← Nat.add_assoc] at q
    exact q
section
variable {H : Type} {enc : TypeId × Value → H} {P : Program} {w : World} {base : Nat} {spare : Nat → Bool} {held : Bool}
theorem spans_of {t e : TypeId} {f0 f1 : Field} {fuel : Nat} {cs : List Value} {x : DataW H × List MemPlace}
    (ht : P.underlying t = some (.slice e)) (he : P.underlying e = some (.struct #[f0, f1])) (hce : P.cellsOf e = 2) (o0 : f0.offset = 0) (o1 : f1.offset = 1)
    (c0 : P.cellsOf f0.type = 1) (c1 : P.cellsOf f1.type = 1) (k0 : P.underlying f0.type = some (.int .i64)) (k1 : P.underlying f1.type = some (.int .i64))
    (h : DataW.trod enc P w base spare held fuel t cs = some x) : ∃ a len cap sp, cs = [.slice a len cap] ∧ Rd 2 encP w (.slice a len cap) sp := by
  rcases Go.Deep.open_slice ht h with ⟨h0, _⟩ | ⟨a, len, cap, m, n, D, Pl, hcs, hb, hl, hm, hmm, _, hx⟩
  · exact ⟨none, 0, 0, [], h0, rd_nil w⟩
  have hlm : len ≤ m := by rw [hmm]; split <;> omega
  have each : ∀ i, i < m → ∃ z : Int × Int, w.cell? (a.add (i * 2)) = some (.int .i64 z.1) ∧ w.cell? (a.add (i * 2 + 1)) = some (.int .i64 z.2) := fun i hi => by
    obtain ⟨cs', hc, htr⟩ := hx i hi
    rw [hce] at hc
    obtain ⟨_, hcl, hat⟩ := World.cells?_some hc
    obtain ⟨y0, y1, n2, _, _, h0, h1⟩ := Go.ChangeShapes.trod_struct2 he htr
    rw [o0, c0] at h0
    rw [o1, c1] at h1
    obtain ⟨z0, e0, _, w0⟩ := DataW.trod_int k0 h0
    obtain ⟨z1, e1, _, w1⟩ := DataW.trod_int k1 h1
    have g0 := hat 0 (by omega)
    have g1 := hat 1 (by omega)
    rw [Go.Deep.add_add, one_ofOf8 (n := 0) e0] at g0
    rw [Go.Deep.add_add, one_ofOf8 (n := 0) e1] at g1
    exact ⟨(z0, z1), g0, g1⟩
  obtain ⟨Z, hZ⟩ := Go.Deep.choose_lt each
  refine ⟨some a, len, cap, (List.range len).map Z, hcs, rd_of_rowOf8 Z (by omega) (fun x => rfl) hl hm fun i hi j v hv => ?_⟩
  obtain ⟨q0, q1⟩ := hZ i (by omega)
  have hj : j < 2 := (List.getElem?_eq_some_iff.1 hv).1
  obtain rfl | rfl : j = 0 ∨ j = 1 := by omega
  · simp [encP] at hv
    subst hv
    exact q0
  · simp [encP] at hv
    subst hv
    exact q1
theorem trod_struct4 {t : TypeId} {f0 f1 f2 f3 : Field} {fuel : Nat} {cs : List Value} {x : DataW H × List MemPlace} (ht : P.underlying t = some (.struct #[f0, f1, f2, f3])) (h : DataW.trod enc P w base spare held fuel t cs = some x) :
    ∃ y0 y1 y2 y3 n, DataW.trod enc P w base spare held n f0.type ((cs.drop f0.offset).take (P.cellsOf f0.type)) = some y0 ∧
      DataW.trod enc P w base spare held n f1.type ((cs.drop f1.offset).take (P.cellsOf f1.type)) = some y1 ∧ DataW.trod enc P w base spare held n f2.type ((cs.drop f2.offset).take (P.cellsOf f2.type)) = some y2 ∧
      DataW.trod enc P w base spare held n f3.type ((cs.drop f3.offset).take (P.cellsOf f3.type)) = some y3 := by
  obtain ⟨xs, n, _, rfl, hl, hlen, hf⟩ := DataW.trod_struct ht h
  match xs, hlen with
  | [y0, y1, y2, y3], _ => exact ⟨y0, y1, y2, y3, n, by simpa using hf 0 f0 rfl, by simpa using hf 1 f1 rfl, by simpa using hf 2 f2 rfl, by simpa using hf 3 f3 rfl⟩
/-- What is asked of the types of relations and spans. -/
structure RelTypes (P : Program) (t tS eS : TypeId) (f0 f1 f2 f3 g0 g1 : Field) : Prop where
  t_ : P.underlying t = some (.struct #[f0, f1, f2, f3])
  cells : P.cellsOf t = 4
  o0 : f0.offset = 0
  o1 : f1.offset = 1
  o2 : f2.offset = 2
  o3 : f3.offset = 3
  c0 : P.cellsOf f0.type = 1
  c1 : P.cellsOf f1.type = 1
  c2 : P.cellsOf f2.type = 1
  c3 : P.cellsOf f3.type = 1
  k0 : P.underlying f0.type = some (.int .i64)
  k1 : P.underlying f1.type = some (.int .i64)
  k2 : P.underlying f2.type = some .bool
  k3 : P.underlying f3.type = some (.slice eS)
  s_ : P.underlying eS = some (.struct #[g0, g1])
  sc : P.cellsOf eS = 2
  p0 : g0.offset = 0
  p1 : g1.offset = 1
  d0 : P.cellsOf g0.type = 1
  d1 : P.cellsOf g1.type = 1
  j0 : P.underlying g0.type = some (.int .i64)
  j1 : P.underlying g1.type = some (.int .i64)
variable {t tS eS : TypeId} {f0 f1 f2 f3 g0 g1 : Field}
theorem rel_of {fuel : Nat} {cs : List Value} {x : DataW H × List MemPlace} (T : RelTypes P t tS eS f0 f1 f2 f3 g0 g1) (h : DataW.trod enc P w base spare held fuel t cs = some x) :
    ∃ z : RawR × Rel, RdRel w z.1 z.2 ∧ ∀ (j : Nat) (v : Value), (encR z.1)[j]? = some v → cs[j]? = some v := by
  obtain ⟨y0, y1, y2, y3, n, h0, h1, h2, h3⟩ := trod_struct4 T.t_ h
  rw [T.o0, T.c0] at h0
  rw [T.o1, T.c1] at h1
  rw [T.o2, T.c2] at h2
  rw [T.o3, T.c3] at h3
  obtain ⟨z0, e0, _, _⟩ := DataW.trod_int T.k0 h0
  obtain ⟨z1, e1, _, _⟩ := DataW.trod_int T.k1 h1
  obtain ⟨z2, e2, _⟩ := DataW.trod_bool T.k2 h2
  obtain ⟨a, len, cap, sp, e3, hsp⟩ := spans_of T.k3 T.s_ T.sc T.p0 T.p1 T.d0 T.d1 T.j0 T.j1 h3
  refine ⟨(⟨z0, z1, z2, a, len, cap⟩, ⟨z0, z1, z2, sp⟩), ⟨rfl, rfl, rfl, hsp⟩, fun j v hv => ?_⟩
  have hj : j < 4 := (List.getElem?_eq_some_iff.1 hv).1
  obtain rfl | rfl | rfl | rfl : j = 0 ∨ j = 1 ∨ j = 2 ∨ j = 3 := by omega
  · simp [encR] at hv
    subst hv
    exact one_ofOf8 (n := 0) e0
  · simp [encR] at hv
    subst hv
    exact one_ofOf8 (n := 0) e1
  · simp [encR] at hv
    subst hv
    exact one_ofOf8 (n := 0) e2
  · simp [encR] at hv
    subst hv
    exact one_ofOf8 (n := 0) e3
instance : Inhabited RawR := ⟨⟨0, 0, false, none, 0, 0⟩⟩
instance : Inhabited Rel := ⟨⟨0, 0, false, []⟩⟩
instance : Inhabited RawS := ⟨⟨none, 0, 0⟩⟩
theorem rels_of {tL : TypeId} {fuel : Nat} {cs : List Value} {x : DataW H × List MemPlace} (T : RelTypes P t tS eS f0 f1 f2 f3 g0 g1) (hL : P.underlying tL = some (.slice t)) (hb1 : 0 < P.bytesOf t) (h : DataW.trod enc P w base spare held fuel tL cs = some x)
    (hw : ∀ k ∈ x.1.weights P tL, k ≤ reachBytes) : ∃ (z : RawS) (l : List Rel), cs = [.slice z.a z.n z.c] ∧ RdRels w (.slice z.a z.n z.c) l ∧ l.length ≤ 140737488355328 := by
  have hM : maxLen = 9223372036854775807 := by decide
  rcases Go.Deep.open_slice hL h with ⟨h0, _⟩ | ⟨a, len, cap, m, n, D, Pl, hcs, hb, hl, hm, hmm, hxe, hx⟩
  · exact ⟨⟨none, 0, 0⟩, [], h0, rdRels_nil w, by simp⟩
  have hlm : len ≤ m := by rw [hmm]; split <;> omega
  have each : ∀ i, i < m → ∃ z : RawR × Rel, RdRel w z.1 z.2 ∧ ∀ (j : Nat) (v : Value), (encR z.1)[j]? = some v → w.cell? (a.add (i * 4 + j)) = some v := fun i hi => by
    obtain ⟨cs', hc, htr⟩ := hx i hi
    rw [T.cells] at hc
    obtain ⟨_, hcl, hat⟩ := World.cells?_some hc
    obtain ⟨z, hz, hzc⟩ := rel_of T htr
    refine ⟨z, hz, fun j v hv => ?_⟩
    have hj : j < 4 := (List.getElem?_eq_some_iff.1 hv).1
    have g := hat j (by omega)
    rw [Go.Deep.add_add, hzc j v hv] at g
    exact g
  obtain ⟨Z, hZ⟩ := Go.Deep.choose_lt each
  have hlen : len ≤ 140737488355328 := by
    have h1 := hw ((len + (m - len)) * P.bytesOf t) (by rw [hxe]; simp [DataW.weights, hL])
    have h2 : len * 1 ≤ (len + (m - len)) * P.bytesOf t := Nat.mul_le_mul (by omega) hb1
    have h3 : reachBytes ≤ 140737488355328 := by decide
    omega
  refine ⟨⟨some a, len, cap⟩, (List.range len).map fun i => (Z i).2, hcs, ⟨(List.range len).map fun i => (Z i).1, rd_of_rowOf8 (fun i => (Z i).1) (by omega) encR_len hl hm fun i (hi : i < len) j v hv => (hZ i (by omega)).2 j v hv, by simp, fun i h1 h2 => ?_⟩, by simp; exact hlen⟩
  have hi : i < len := by simpa using h1
  rw [List.getElem_map, List.getElem_map, List.getElem_range]
  exact (hZ i (by omega)).1
theorem weights_all {e : TypeId} {d : DataW H} : ∀ (l : List (DataW H)), d ∈ l → ∀ k ∈ d.weights P e, k ∈ DataW.weightsAll P e l
  | [], h, _, _ => by cases h
  | x :: l, h, k, hk => by
    simp only [DataW.weightsAll, List.mem_append]
    rcases List.mem_cons.1 h with rfl | h
    · exact .inl hk
    · exact .inr (weights_all l h k hk)
theorem cond_of {tC tL : TypeId} {fuel : Nat} {cs : List Value} {x : DataW H × List MemPlace} (T : RelTypes P t tS eS f0 f1 f2 f3 g0 g1) (hL : P.underlying tL = some (.slice t)) (hC : P.underlying tC = some (.slice tL)) (hcL : P.cellsOf tL = 1) (hb1 : 0 < P.bytesOf t) (h : DataW.trod enc P w base spare held fuel tC cs = some x)
    (hw : ∀ k ∈ x.1.weights P tC, k ≤ reachBytes) : ∃ (z : RawS) (c : Cnd), cs = [.slice z.a z.n z.c] ∧ RdC w (.slice z.a z.n z.c) c ∧ ∀ l ∈ c, l.length ≤ 140737488355328 := by
  rcases Go.Deep.open_slice hC h with ⟨h0, _⟩ | ⟨a, len, cap, m, n, D, Pl, hcs, hb, hl, hm, hmm, hxe, hx⟩
  · exact ⟨⟨none, 0, 0⟩, [], h0, rdC_nil w, fun l h => by cases h⟩
  have hlm : len ≤ m := by rw [hmm]; split <;> omega
  have each : ∀ i, i < len → ∃ z : RawS × List Rel, w.cell? (a.add i) = some (.slice z.1.a z.1.n z.1.c) ∧ RdRels w (.slice z.1.a z.1.n z.1.c) z.2 ∧ z.2.length ≤ 140737488355328 := fun i hi => by
    obtain ⟨cs', hc, htr⟩ := hx i (by omega)
    rw [hcL, Nat.mul_one] at hc
    obtain ⟨_, hcl, hat⟩ := World.cells?_some hc
    obtain ⟨z, l, he, hz, hzl⟩ := rels_of T hL hb1 htr (fun k hk => hw k (by
      rw [hxe]
      have h1 : k ∈ DataW.weightsAll P tL ((List.range len).map D) := weights_all _ (List.mem_map.2 ⟨i, List.mem_range.2 hi, rfl⟩) k hk
      simp only [DataW.weights, hC, List.mem_cons, List.mem_append]
      exact .inr (.inl h1)))
    have g := hat 0 (by omega)
    rw [Go.Deep.add_add, Nat.add_zero, he] at g
    exact ⟨(z, l), g, hz, hzl⟩
  obtain ⟨Z, hZ⟩ := Go.Deep.choose_lt each
  refine ⟨⟨some a, len, cap⟩, (List.range len).map fun i => (Z i).2, hcs, ⟨(List.range len).map fun i => (Z i).1, rd_of_rowOf8 (fun i => (Z i).1) (by omega) encS_len hl hm fun i hi j v hv => ?_, by simp, fun i h1 h2 => ?_⟩, fun l hl => ?_⟩
  · have hj : j < 1 := (List.getElem?_eq_some_iff.1 hv).1
    obtain rfl : j = 0 := by omega
    simp [encS] at hv
    subst hv
    rw [Nat.mul_one, Nat.add_zero]
    exact (hZ i hi).1
  · have hi : i < len := by simpa using h1
    simp only [List.getElem_map, List.getElem_range]
    exact (hZ i hi).2.1
  · obtain ⟨i, hi, rfl⟩ := List.mem_map.1 hl
    exact (hZ i (List.mem_range.1 hi)).2.2
end
theorem relTypes : ∃ f0 f1 f2 f3 g0 g1, RelTypes Tryz.prog 99 97 180 f0 f1 f2 f3 g0 g1 := ⟨_, _, _, _, _, _, ⟨Tryz.underlying99, by kernel_rfl, rfl, rfl, rfl, rfl, by kernel_rfl, by kernel_rfl, by kernel_rfl, by kernel_rfl, Tryz.underlying3, Tryz.underlying3, Tryz.underlying4, Tryz.underlying97, Tryz.underlying180, by kernel_rfl, rfl, rfl, by kernel_rfl, by kernel_rfl, Tryz.underlying3, Tryz.underlying3⟩⟩
theorem condIn_of {H : Type} {enc : TypeId × Value → H} {w : World} {base : Nat} {spare : Nat → Bool} {held : Bool} {fuel : Nat} {cs : List Value} {x : DataW H × List MemPlace} (h : DataW.trod enc Tryz.prog w base spare held fuel 53 cs = some x)
    (hw : ∀ k ∈ x.1.weights Tryz.prog 53, k ≤ reachBytes) : ∃ (z : RawS) (c : Cnd), cs = [.slice z.a z.n z.c] ∧ RdC w (.slice z.a z.n z.c) c ∧ ∀ l ∈ c, l.length ≤ 140737488355328 :=
  let ⟨_, _, _, _, _, _, T⟩ := relTypes
  cond_of T Tryz.underlying96 Tryz.underlying53 (by kernel_rfl) (of_decide_eq_true (by kernel_rfl)) h hw
end Go.Proofs.YtpmmchppfmojhaaGreatDoor


/- Tables that come in as arguments: what their cells hold, and the lengths of the inner lists of their conditions. -/
namespace Go.Proofs.YtpmmchppfmojhaaGreatDoor
open Go.RowKit
set_option linter.unusedVariables false

instance : Inhabited Sym := ⟨⟨[], [], [], [], 0, 0⟩⟩
instance : Inhabited Lis := ⟨⟨[], [], [], [], []⟩⟩
instance : Inhabited Uni := ⟨⟨[], [], []⟩⟩
instance : Inhabited Nea := ⟨⟨[], [], 0⟩⟩
instance : Inhabited Loc := ⟨⟨[], [], [], [], [], ⟨[], [], [], [], 0, 0⟩, [], [], [], [], []⟩⟩
instance : Inhabited RawLo := ⟨⟨[], [], [], ⟨none, 0, 0⟩, ⟨none, 0, 0⟩, ⟨[], [], [], [], 0, 0⟩, ⟨none, 0, 0⟩, ⟨none, 0, 0⟩, ⟨none, 0, 0⟩, ⟨none, 0, 0⟩, ⟨none, 0, 0⟩⟩⟩
theorem one_ofT {α : Type} {l : List α} {n i : Nat} {v : α} (h : (l.drop i).take 1 = [v]) : l[i]? = some v := by
  have := congrArg (fun r : List α => r[0]?) h
  simpa [List.getElem?_take, List.getElem?_drop] using this
section
variable {H : Type} {enc : TypeId × Value → H} {P : Program} {w : World} {base : Nat} {spare : Nat → Bool} {held : Bool}
/-- Within reach. -/
def Sm (s : Str) : Prop := s.length ≤ 140737488355328
end
section
variable {H : Type} {enc : TypeId × Value → H} {w : World} {base : Nat} {spare : Nat → Bool} {held : Bool}
/-- The inner lists of conditions are within reach. -/
def CndR (c : Cnd) : Prop := ∀ l ∈ c, l.length ≤ 140737488355328
def RulR (l : List Rul) : Prop := ∀ r ∈ l, Sm r.1 ∧ CndR r.2
/-- The strings of a locale and the inner lists of its conditions are within reach. -/
structure LocR (x : Loc) : Prop where
  tag : Sm x.tag
  par : Sm x.par
  dir : Sm x.dir
  de : Sm x.sy.de
  gr : Sm x.sy.gr
  mi : Sm x.sy.mi
  pe : Sm x.sy.pe
  ca : RulR x.ca
  oc : RulR x.oc
  li : ∀ u ∈ x.li, Sm u.st ∧ Sm u.two ∧ Sm u.sa ∧ Sm u.md ∧ Sm u.en
  un : ∀ u ∈ x.un, Sm u.un ∧ Sm u.cl ∧ Sm u.pt
  da : ∀ u ∈ x.da, Sm u.1 ∧ Sm u.2
  mo : ∀ u ∈ x.mo, Sm u
  dy : ∀ u ∈ x.dy, Sm u
structure TabR (t : Tab) : Prop where
  lo : ∀ x ∈ t.lo, LocR x
  al : ∀ u ∈ t.al, Sm u.1 ∧ Sm u.2
  ne : ∀ u ∈ t.ne, Sm u.fr ∧ Sm u.to_
end
end Go.Proofs.YtpmmchppfmojhaaGreatDoor


/- Of condition: countsDigits, isEnd, isMod. -/
namespace Go.Proofs.YtpmmchppfmojhaaGreatDoor
open Go.RowKit
set_option linter.unusedVariables false

theorem digs_false {o : Int} (h3 : o ≠ 3) (h4 : o ≠ 4) : digs o = false := by unfold digs; simp [h3, h4]
set_option maxRecDepth 1000000 in
theorem countsDigits_any (o : Int) (w : World) : Calls Tryz.prog 293 #[.int .i64 o] w fun e w' => e = .returned (.bool (digs o)) ∧ w' = w := by
  by_cases h3 : o = 3
  · subst h3
    go_enter Tryz.func293, Tryz.ntmps293
    go_wp2
    go_ret
    exact ⟨rfl, rfl⟩
  · have t3 : (o == 3) = false := by rw [beq_eq_false_iff_ne]; exact h3
    by_cases h4 : o = 4
    · subst h4
      clear h3 t3
      go_enter Tryz.func293, Tryz.ntmps293
      go_wp2
      go_ret
      exact ⟨rfl, rfl⟩
    · have t4 : (o == 4) = false := by rw [beq_eq_false_iff_ne]; exact h4
      have H := Lib.hid (digs_false h3 h4)
      clear h3 h4
      go_enter Tryz.func293, Tryz.ntmps293
      go_wp2
      go_ret
      exact ⟨by rw [H.out]; rfl, rfl⟩
set_option maxRecDepth 1000000 in
set_option maxHeartbeats 1000000 in
theorem isEnd_any (o n : Int) (w : World) : Calls Tryz.prog 244 #[.int .i64 o, .int .i64 n] w fun e w' => e = .returned (.bool (okEnd o n)) ∧ w' = w := by
  have HE : Hid (okEnd o n = (decide (0 ≤ n) && decide (n ≤ if digs o = true then 6 else 100))) := Lib.hid rfl
  go_enter Tryz.func244, Tryz.ntmps244
  go_wp2_with fail
  refine (countsDigits_any o _).mono ?_
  rintro e w' ⟨rfl, hw'⟩
  obtain rfl := hw'.symm
  obtain ⟨d, hd⟩ : ∃ d, digs o = d := ⟨_, rfl⟩
  rw [hd] at HE ⊢
  clear hd
  cases d with
  | false =>
    by_cases h0 : 0 ≤ n
    · have q := decide_eq_true h0
      have HX : Hid (okEnd o n = decide (n ≤ 100)) := Lib.hid (by rw [HE.out, q]; rfl)
      clear HE
      go_wp2
      go_ret
      exact ⟨by rw [HX.out]; rfl, rfl⟩
    · have q := decide_eq_false h0
      have HX : Hid (okEnd o n = false) := Lib.hid (by rw [HE.out, q]; rfl)
      clear HE
      go_wp2
      go_ret
      exact ⟨by rw [HX.out]; rfl, rfl⟩
  | true =>
    by_cases h0 : 0 ≤ n
    · have q := decide_eq_true h0
      have HX : Hid (okEnd o n = decide (n ≤ 6)) := Lib.hid (by rw [HE.out, q]; rfl)
      clear HE
      go_wp2
      go_ret
      exact ⟨by rw [HX.out]; rfl, rfl⟩
    · have q := decide_eq_false h0
      have HX : Hid (okEnd o n = false) := Lib.hid (by rw [HE.out, q]; rfl)
      clear HE
      go_wp2
      go_ret
      exact ⟨by rw [HX.out]; rfl, rfl⟩
set_option maxRecDepth 1000000 in
set_option maxHeartbeats 4000000 in
theorem isMod_any (o n : Int) (w : World) : Calls Tryz.prog 241 #[.int .i64 o, .int .i64 n] w fun e w' => e = .returned (.bool (okMod o n)) ∧ w' = w := by
  by_cases h0 : n = 0
  · subst h0
    go_enter Tryz.func241, Tryz.ntmps241
    go_wp2
    go_ret
    exact ⟨rfl, rfl⟩
  have t0 : (n == 0) = false := by rw [beq_eq_false_iff_ne]; exact h0
  by_cases h10 : n = 10
  · subst h10
    clear h0 t0
    have HX : Hid (okMod o 10 = !digs o) := Lib.hid rfl
    go_enter Tryz.func241, Tryz.ntmps241
    go_wp2_with fail
    refine (countsDigits_any o _).mono ?_
    rintro e w' ⟨rfl, hw'⟩
    obtain rfl := hw'.symm
    go_wp2
    go_ret
    exact ⟨by rw [HX.out]; rfl, rfl⟩
  have t10 : (n == 10) = false := by rw [beq_eq_false_iff_ne]; exact h10
  by_cases h100 : n = 100
  · subst h100
    clear h0 t0 h10 t10
    have HX : Hid (okMod o 100 = !digs o) := Lib.hid rfl
    go_enter Tryz.func241, Tryz.ntmps241
    go_wp2_with fail
    refine (countsDigits_any o _).mono ?_
    rintro e w' ⟨rfl, hw'⟩
    obtain rfl := hw'.symm
    go_wp2
    go_ret
    exact ⟨by rw [HX.out]; rfl, rfl⟩
  have t100 : (n == 100) = false := by rw [beq_eq_false_iff_ne]; exact h100
  by_cases h2 : n = 2
  · subst h2
    clear h0 t0 h10 t10 h100 t100
    have HX : Hid (okMod o 2 = (decide (o = 1) || decide (o = 2))) := Lib.hid rfl
    by_cases o1 : o = 1
    · subst o1
      go_enter Tryz.func241, Tryz.ntmps241
      go_wp2
      go_ret
      exact ⟨by rw [HX.out]; rfl, rfl⟩
    · have s1 : (o == 1) = false := by rw [beq_eq_false_iff_ne]; exact o1
      have HY : Hid (okMod o 2 = decide (o = 2)) := Lib.hid (by rw [HX.out, decide_eq_false o1]; rfl)
      clear HX o1
      by_cases o2 : o = 2
      · subst o2
        go_enter Tryz.func241, Tryz.ntmps241
        go_wp2
        go_ret
        exact ⟨by rw [HY.out]; rfl, rfl⟩
      · have s2 : (o == 2) = false := by rw [beq_eq_false_iff_ne]; exact o2
        have HZ : Hid (okMod o 2 = false) := Lib.hid (by rw [HY.out, decide_eq_false o2])
        clear HY o2
        go_enter Tryz.func241, Tryz.ntmps241
        go_wp2
        go_ret
        exact ⟨by rw [HZ.out]; rfl, rfl⟩
  have t2 : (n == 2) = false := by rw [beq_eq_false_iff_ne]; exact h2
  by_cases h3 : n = 3
  · subst h3
    clear h0 t0 h10 t10 h100 t100 h2 t2
    have HX : Hid (okMod o 3 = (decide (o = 1) || decide (o = 2))) := Lib.hid rfl
    by_cases o1 : o = 1
    · subst o1
      go_enter Tryz.func241, Tryz.ntmps241
      go_wp2
      go_ret
      exact ⟨by rw [HX.out]; rfl, rfl⟩
    · have s1 : (o == 1) = false := by rw [beq_eq_false_iff_ne]; exact o1
      have HY : Hid (okMod o 3 = decide (o = 2)) := Lib.hid (by rw [HX.out, decide_eq_false o1]; rfl)
      clear HX o1
      by_cases o2 : o = 2
      · subst o2
        go_enter Tryz.func241, Tryz.ntmps241
        go_wp2
        go_ret
        exact ⟨by rw [HY.out]; rfl, rfl⟩
      · have s2 : (o == 2) = false := by rw [beq_eq_false_iff_ne]; exact o2
        have HZ : Hid (okMod o 3 = false) := Lib.hid (by rw [HY.out, decide_eq_false o2])
        clear HY o2
        go_enter Tryz.func241, Tryz.ntmps241
        go_wp2
        go_ret
        exact ⟨by rw [HZ.out]; rfl, rfl⟩
  have t3 : (n == 3) = false := by rw [beq_eq_false_iff_ne]; exact h3
  by_cases h4 : n = 4
  · subst h4
    clear h0 t0 h10 t10 h100 t100 h2 t2 h3 t3
    have HX : Hid (okMod o 4 = (decide (o = 1) || decide (o = 2))) := Lib.hid rfl
    by_cases o1 : o = 1
    · subst o1
      go_enter Tryz.func241, Tryz.ntmps241
      go_wp2
      go_ret
      exact ⟨by rw [HX.out]; rfl, rfl⟩
    · have s1 : (o == 1) = false := by rw [beq_eq_false_iff_ne]; exact o1
      have HY : Hid (okMod o 4 = decide (o = 2)) := Lib.hid (by rw [HX.out, decide_eq_false o1]; rfl)
      clear HX o1
      by_cases o2 : o = 2
      · subst o2
        go_enter Tryz.func241, Tryz.ntmps241
        go_wp2
        go_ret
        exact ⟨by rw [HY.out]; rfl, rfl⟩
      · have s2 : (o == 2) = false := by rw [beq_eq_false_iff_ne]; exact o2
        have HZ : Hid (okMod o 4 = false) := Lib.hid (by rw [HY.out, decide_eq_false o2])
        clear HY o2
        go_enter Tryz.func241, Tryz.ntmps241
        go_wp2
        go_ret
        exact ⟨by rw [HZ.out]; rfl, rfl⟩
  have t4 : (n == 4) = false := by rw [beq_eq_false_iff_ne]; exact h4
  by_cases h5 : n = 5
  · subst h5
    clear h0 t0 h10 t10 h100 t100 h2 t2 h3 t3 h4 t4
    have HX : Hid (okMod o 5 = (decide (o = 1) || decide (o = 2))) := Lib.hid rfl
    by_cases o1 : o = 1
    · subst o1
      go_enter Tryz.func241, Tryz.ntmps241
      go_wp2
      go_ret
      exact ⟨by rw [HX.out]; rfl, rfl⟩
    · have s1 : (o == 1) = false := by rw [beq_eq_false_iff_ne]; exact o1
      have HY : Hid (okMod o 5 = decide (o = 2)) := Lib.hid (by rw [HX.out, decide_eq_false o1]; rfl)
      clear HX o1
      by_cases o2 : o = 2
      · subst o2
        go_enter Tryz.func241, Tryz.ntmps241
        go_wp2
        go_ret
        exact ⟨by rw [HY.out]; rfl, rfl⟩
      · have s2 : (o == 2) = false := by rw [beq_eq_false_iff_ne]; exact o2
        have HZ : Hid (okMod o 5 = false) := Lib.hid (by rw [HY.out, decide_eq_false o2])
        clear HY o2
        go_enter Tryz.func241, Tryz.ntmps241
        go_wp2
        go_ret
        exact ⟨by rw [HZ.out]; rfl, rfl⟩
  have t5 : (n == 5) = false := by rw [beq_eq_false_iff_ne]; exact h5
  by_cases h6 : n = 6
  · subst h6
    clear h0 t0 h10 t10 h100 t100 h2 t2 h3 t3 h4 t4 h5 t5
    have HX : Hid (okMod o 6 = (decide (o = 1) || decide (o = 2))) := Lib.hid rfl
    by_cases o1 : o = 1
    · subst o1
      go_enter Tryz.func241, Tryz.ntmps241
      go_wp2
      go_ret
      exact ⟨by rw [HX.out]; rfl, rfl⟩
    · have s1 : (o == 1) = false := by rw [beq_eq_false_iff_ne]; exact o1
      have HY : Hid (okMod o 6 = decide (o = 2)) := Lib.hid (by rw [HX.out, decide_eq_false o1]; rfl)
      clear HX o1
      by_cases o2 : o = 2
      · subst o2
        go_enter Tryz.func241, Tryz.ntmps241
        go_wp2
        go_ret
        exact ⟨by rw [HY.out]; rfl, rfl⟩
      · have s2 : (o == 2) = false := by rw [beq_eq_false_iff_ne]; exact o2
        have HZ : Hid (okMod o 6 = false) := Lib.hid (by rw [HY.out, decide_eq_false o2])
        clear HY o2
        go_enter Tryz.func241, Tryz.ntmps241
        go_wp2
        go_ret
        exact ⟨by rw [HZ.out]; rfl, rfl⟩
  have t6 : (n == 6) = false := by rw [beq_eq_false_iff_ne]; exact h6
  by_cases h20 : n = 20
  · subst h20
    clear h0 t0 h10 t10 h100 t100 h2 t2 h3 t3 h4 t4 h5 t5 h6 t6
    have HX : Hid (okMod o 20 = (decide (o = 1) || decide (o = 2))) := Lib.hid rfl
    by_cases o1 : o = 1
    · subst o1
      go_enter Tryz.func241, Tryz.ntmps241
      go_wp2
      go_ret
      exact ⟨by rw [HX.out]; rfl, rfl⟩
    · have s1 : (o == 1) = false := by rw [beq_eq_false_iff_ne]; exact o1
      have HY : Hid (okMod o 20 = decide (o = 2)) := Lib.hid (by rw [HX.out, decide_eq_false o1]; rfl)
      clear HX o1
      by_cases o2 : o = 2
      · subst o2
        go_enter Tryz.func241, Tryz.ntmps241
        go_wp2
        go_ret
        exact ⟨by rw [HY.out]; rfl, rfl⟩
      · have s2 : (o == 2) = false := by rw [beq_eq_false_iff_ne]; exact o2
        have HZ : Hid (okMod o 20 = false) := Lib.hid (by rw [HY.out, decide_eq_false o2])
        clear HY o2
        go_enter Tryz.func241, Tryz.ntmps241
        go_wp2
        go_ret
        exact ⟨by rw [HZ.out]; rfl, rfl⟩
  have t20 : (n == 20) = false := by rw [beq_eq_false_iff_ne]; exact h20
  by_cases h25 : n = 25
  · subst h25
    clear h0 t0 h10 t10 h100 t100 h2 t2 h3 t3 h4 t4 h5 t5 h6 t6 h20 t20
    have HX : Hid (okMod o 25 = (decide (o = 1) || decide (o = 2))) := Lib.hid rfl
    by_cases o1 : o = 1
    · subst o1
      go_enter Tryz.func241, Tryz.ntmps241
      go_wp2
      go_ret
      exact ⟨by rw [HX.out]; rfl, rfl⟩
    · have s1 : (o == 1) = false := by rw [beq_eq_false_iff_ne]; exact o1
      have HY : Hid (okMod o 25 = decide (o = 2)) := Lib.hid (by rw [HX.out, decide_eq_false o1]; rfl)
      clear HX o1
      by_cases o2 : o = 2
      · subst o2
        go_enter Tryz.func241, Tryz.ntmps241
        go_wp2
        go_ret
        exact ⟨by rw [HY.out]; rfl, rfl⟩
      · have s2 : (o == 2) = false := by rw [beq_eq_false_iff_ne]; exact o2
        have HZ : Hid (okMod o 25 = false) := Lib.hid (by rw [HY.out, decide_eq_false o2])
        clear HY o2
        go_enter Tryz.func241, Tryz.ntmps241
        go_wp2
        go_ret
        exact ⟨by rw [HZ.out]; rfl, rfl⟩
  have t25 : (n == 25) = false := by rw [beq_eq_false_iff_ne]; exact h25
  by_cases h50 : n = 50
  · subst h50
    clear h0 t0 h10 t10 h100 t100 h2 t2 h3 t3 h4 t4 h5 t5 h6 t6 h20 t20 h25 t25
    have HX : Hid (okMod o 50 = (decide (o = 1) || decide (o = 2))) := Lib.hid rfl
    by_cases o1 : o = 1
    · subst o1
      go_enter Tryz.func241, Tryz.ntmps241
      go_wp2
      go_ret
      exact ⟨by rw [HX.out]; rfl, rfl⟩
    · have s1 : (o == 1) = false := by rw [beq_eq_false_iff_ne]; exact o1
      have HY : Hid (okMod o 50 = decide (o = 2)) := Lib.hid (by rw [HX.out, decide_eq_false o1]; rfl)
      clear HX o1
      by_cases o2 : o = 2
      · subst o2
        go_enter Tryz.func241, Tryz.ntmps241
        go_wp2
        go_ret
        exact ⟨by rw [HY.out]; rfl, rfl⟩
      · have s2 : (o == 2) = false := by rw [beq_eq_false_iff_ne]; exact o2
        have HZ : Hid (okMod o 50 = false) := Lib.hid (by rw [HY.out, decide_eq_false o2])
        clear HY o2
        go_enter Tryz.func241, Tryz.ntmps241
        go_wp2
        go_ret
        exact ⟨by rw [HZ.out]; rfl, rfl⟩
  have t50 : (n == 50) = false := by rw [beq_eq_false_iff_ne]; exact h50
  have HX : Hid (okMod o n = false) := Lib.hid (by unfold okMod; rw [if_neg h0, if_neg (by omega), if_neg (by omega)])
  clear h0 h10 h100 h2 h3 h4 h5 h6 h20 h25 h50
  go_enter Tryz.func241, Tryz.ntmps241
  go_wp2
  go_ret
  exact ⟨by rw [HX.out]; rfl, rfl⟩
end Go.Proofs.YtpmmchppfmojhaaGreatDoor


/- slices.IndexFunc, slices.ContainsFunc at spans, relations and lists of relations, at whatever function value. Of condition: all at spans and at relations, isValid, Valid. -/
namespace Go.Proofs.YtpmmchppfmojhaaGreatDoor
open Go.RowKit
set_option linter.unusedVariables false

theorem any_take_miss {α : Type} {l : List α} {q : α → Bool} (h : ∀ (j : Nat) (hj : j < l.length), j < l.length → q l[j] = false) : l.any q = false := by
  rw [List.any_eq_false]
  intro x hx
  obtain ⟨j, hj, rfl⟩ := List.getElem_of_mem hx
  rw [h j hj hj]; simp
theorem any_hit {α : Type} {l : List α} {q : α → Bool} {j : Nat} (hj : j < l.length) (h : q l[j] = true) : l.any q = true := List.any_eq_true.2 ⟨_, List.getElem_mem hj, h⟩

set_option maxRecDepth 1000000 in
set_option maxHeartbeats 1000000 in
theorem indexSpan_any (v : Value) (l : List (Int × Int)) (q : Int × Int → Bool) (g : Nat) (lb : Array Value) (eg : ∀ args w, (callFunc g args).run Tryz.prog w = .ok (.enter g args) w) (w : World) (hv : Rd 2 encP w v l)
    (hF : ∀ (W : World) (s : Int × Int), s ∈ l → Below w.heap.size w W → Calls Tryz.prog g (#[.agg #[.int .i64 s.1, .int .i64 s.2]] ++ lb) W fun e w' => e = .returned (.bool (q s)) ∧ Below W.heap.size W w') :
    Calls Tryz.prog 323 #[v, .func (.func g) #[] lb] w fun e w' => (∃ r : Int, e = .returned (.int .i64 r) ∧ decide (0 ≤ r) = l.any q) ∧ Below w.heap.size w w' := by
  obtain ⟨a, c, rfl, hc1, hc2⟩ := hv.slice
  have HU := Lib.hid hv
  have HF := Lib.hid hF
  clear hv hF
  go_enter Tryz.func323, Tryz.ntmps323
  go_wp2
  go_loopw [8] (fun v wr => ∃ k : Nat, k ≤ l.length ∧ v = .int .i64 k ∧ (∀ (j : Nat) (hj : j < l.length), j < k → q l[j] = false) ∧ Below w.heap.size w wr) (fun v _ => l.length - (intOf v).toNat)
  case atStart => exact ⟨0, Nat.zero_le _, rfl, fun j _ h => by omega, Below.refl _ _⟩
  case round =>
    obtain ⟨k, hk, rfl, hkd, hb⟩ := hrel
    have HK := Lib.hid hkd
    have HB := Lib.hid hb
    have zr := hb.size
    clear hkd hb
    by_cases hlt : k < l.length
    · obtain ⟨bk, off, rfl, h0, h1⟩ := (HU.out.below HB.out).span k hlt
      have h9 : (k : Int) < (l.length : Int) := by omega
      have hcall := HF.out wr l[k] (List.getElem_mem hlt) HB.out
      have HE : Hid (∀ b, q l[k] = b → l[k] = l[k]) := Lib.hid (fun _ _ => rfl)
      obtain ⟨qb, hqb⟩ : ∃ qb, q l[k] = qb := ⟨_, rfl⟩
      have HQ := Lib.hid hqb
      rw [hqb] at hcall
      have HC := Lib.hid hcall
      clear hqb hcall HE
      cases qb with
      | true =>
        go_wp2_with (go_at_fn g; refine (HC.out).mono ?_; rintro e w2 ⟨rfl, b2⟩)
        have HB2 := Lib.hid (st HB.out b2 zr)
        clear b2
        go_wp2
        go_ret
        refine ⟨⟨_, rfl, ?_⟩, HB2.out⟩
        rw [any_hit hlt HQ.out]
        simp
      | false =>
        go_wp2_with (go_at_fn g; refine (HC.out).mono ?_; rintro e w2 ⟨rfl, b2⟩)
        have HB2 := Lib.hid (st HB.out b2 zr)
        clear b2
        go_wp2
        go_roundw
        case measure => simp [intOf]; omega
        case rel => exact ⟨k + 1, by omega, by go_num, fun j hj hjk => by
          rcases Nat.lt_or_ge j k with h | h
          · exact HK.out j hj h
          · obtain rfl : j = k := by omega
            exact HQ.out, HB2.out⟩
    · obtain rfl : k = l.length := by omega
      have h3 : ¬ (l.length : Int) < (l.length : Int) := by omega
      go_wp2
      go_ret
      refine ⟨⟨_, rfl, ?_⟩, HB.out⟩
      rw [any_take_miss HK.out]
      rfl
set_option maxRecDepth 1000000 in
set_option maxHeartbeats 1000000 in
theorem containsSpan_any (v : Value) (l : List (Int × Int)) (q : Int × Int → Bool) (g : Nat) (lb : Array Value) (eg : ∀ args w, (callFunc g args).run Tryz.prog w = .ok (.enter g args) w) (w : World) (hv : Rd 2 encP w v l)
    (hF : ∀ (W : World) (s : Int × Int), s ∈ l → Below w.heap.size w W → Calls Tryz.prog g (#[.agg #[.int .i64 s.1, .int .i64 s.2]] ++ lb) W fun e w' => e = .returned (.bool (q s)) ∧ Below W.heap.size W w') :
    Calls Tryz.prog 294 #[v, .func (.func g) #[] lb] w fun e w' => e = .returned (.bool (l.any q)) ∧ Below w.heap.size w w' := by
  obtain ⟨a, c, rfl, hc1, hc2⟩ := hv.slice
  have HU := Lib.hid hv
  have HF := Lib.hid hF
  clear hv hF
  go_enter Tryz.func294, Tryz.ntmps294
  go_wp2_with fail
  refine (indexSpan_any _ l q g lb eg _ HU.out HF.out).mono ?_
  rintro e w2 ⟨⟨r, rfl, hr⟩, b2⟩
  have HB2 := Lib.hid b2
  have HR := Lib.hid hr
  clear b2 hr
  go_wp2
  go_ret
  exact ⟨by rw [← HR.out]; rfl, HB2.out⟩

set_option maxRecDepth 1000000 in
set_option maxHeartbeats 1000000 in
theorem indexRel_any (v : Value) (l : List Rel) (q : Rel → Bool) (g : Nat) (lb : Array Value) (eg : ∀ args w, (callFunc g args).run Tryz.prog w = .ok (.enter g args) w) (w : World) (hv : RdRels w v l)
    (hF : ∀ (W : World) (r : Rel) (a2 : Option Addr) (c2 : Nat), r ∈ l → Below w.heap.size w W → Rd 2 encP W (.slice a2 r.sp.length c2) r.sp → Calls Tryz.prog g (#[.agg #[.int .i64 r.op, .int .i64 r.md, .bool r.nt, .slice a2 r.sp.length c2]] ++ lb) W fun e w' => e = .returned (.bool (q r)) ∧ Below W.heap.size W w') :
    Calls Tryz.prog 292 #[v, .func (.func g) #[] lb] w fun e w' => (∃ r : Int, e = .returned (.int .i64 r) ∧ decide (0 ≤ r) = l.any q) ∧ Below w.heap.size w w' := by
  obtain ⟨a, c, rfl, hc1, hc2⟩ := hv.slice
  have HU := Lib.hid hv
  have HF := Lib.hid hF
  clear hv hF
  go_enter Tryz.func292, Tryz.ntmps292
  go_wp2
  go_loopw [8] (fun v wr => ∃ k : Nat, k ≤ l.length ∧ v = .int .i64 k ∧ (∀ (j : Nat) (hj : j < l.length), j < k → q l[j] = false) ∧ Below w.heap.size w wr) (fun v _ => l.length - (intOf v).toNat)
  case atStart => exact ⟨0, Nat.zero_le _, rfl, fun j _ h => by omega, Below.refl _ _⟩
  case round =>
    obtain ⟨k, hk, rfl, hkd, hb⟩ := hrel
    have HK := Lib.hid hkd
    have HB := Lib.hid hb
    have zr := hb.size
    clear hkd hb
    by_cases hlt : k < l.length
    · obtain ⟨bk, off, x1, x2, rfl, h0, h1, h2, h3, h4⟩ := (HU.out.below HB.out).at_ k hlt
      have h9 : (k : Int) < (l.length : Int) := by omega
      have hcall := HF.out wr l[k] x1 x2 (List.getElem_mem hlt) HB.out h4
      have HE : Hid (∀ b, q l[k] = b → l[k] = l[k]) := Lib.hid (fun _ _ => rfl)
      obtain ⟨qb, hqb⟩ : ∃ qb, q l[k] = qb := ⟨_, rfl⟩
      have HQ := Lib.hid hqb
      rw [hqb] at hcall
      have HC := Lib.hid hcall
      clear hqb hcall HE
      cases qb with
      | true =>
        go_wp2_with (go_at_fn g; refine (HC.out).mono ?_; rintro e w2 ⟨rfl, b2⟩)
        have HB2 := Lib.hid (st HB.out b2 zr)
        clear b2
        go_wp2
        go_ret
        refine ⟨⟨_, rfl, ?_⟩, HB2.out⟩
        rw [any_hit hlt HQ.out]
        simp
      | false =>
        go_wp2_with (go_at_fn g; refine (HC.out).mono ?_; rintro e w2 ⟨rfl, b2⟩)
        have HB2 := Lib.hid (st HB.out b2 zr)
        clear b2
        go_wp2
        go_roundw
        case measure => simp [intOf]; omega
        case rel => exact ⟨k + 1, by omega, by go_num, fun j hj hjk => by
          rcases Nat.lt_or_ge j k with h | h
          · exact HK.out j hj h
          · obtain rfl : j = k := by omega
            exact HQ.out, HB2.out⟩
    · obtain rfl : k = l.length := by omega
      have h3 : ¬ (l.length : Int) < (l.length : Int) := by omega
      go_wp2
      go_ret
      refine ⟨⟨_, rfl, ?_⟩, HB.out⟩
      rw [any_take_miss HK.out]
      rfl
set_option maxRecDepth 1000000 in
set_option maxHeartbeats 1000000 in
theorem containsRel_any (v : Value) (l : List Rel) (q : Rel → Bool) (g : Nat) (lb : Array Value) (eg : ∀ args w, (callFunc g args).run Tryz.prog w = .ok (.enter g args) w) (w : World) (hv : RdRels w v l)
    (hF : ∀ (W : World) (r : Rel) (a2 : Option Addr) (c2 : Nat), r ∈ l → Below w.heap.size w W → Rd 2 encP W (.slice a2 r.sp.length c2) r.sp → Calls Tryz.prog g (#[.agg #[.int .i64 r.op, .int .i64 r.md, .bool r.nt, .slice a2 r.sp.length c2]] ++ lb) W fun e w' => e = .returned (.bool (q r)) ∧ Below W.heap.size W w') :
    Calls Tryz.prog 239 #[v, .func (.func g) #[] lb] w fun e w' => e = .returned (.bool (l.any q)) ∧ Below w.heap.size w w' := by
  obtain ⟨a, c, rfl, hc1, hc2⟩ := hv.slice
  have HU := Lib.hid hv
  have HF := Lib.hid hF
  clear hv hF
  go_enter Tryz.func239, Tryz.ntmps239
  go_wp2_with fail
  refine (indexRel_any _ l q g lb eg _ HU.out HF.out).mono ?_
  rintro e w2 ⟨⟨r, rfl, hr⟩, b2⟩
  have HB2 := Lib.hid b2
  have HR := Lib.hid hr
  clear b2 hr
  go_wp2
  go_ret
  exact ⟨by rw [← HR.out]; rfl, HB2.out⟩

end Go.Proofs.YtpmmchppfmojhaaGreatDoor

namespace Go.Proofs.YtpmmchppfmojhaaGreatDoor
open Go.RowKit
set_option linter.unusedVariables false

theorem not_any_not {α : Type} (l : List α) (q : α → Bool) : (!l.any fun x => !q x) = l.all q := by
  induction l with
  | nil => rfl
  | cons x l ih => simp only [List.any_cons, List.all_cons]; rw [← ih]; cases q x <;> simp

set_option maxRecDepth 1000000 in
set_option maxHeartbeats 1000000 in
theorem allSpan1_any (s : Int × Int) (b : Bool) (B : Nat) (g : Nat) (lb : Array Value) (eg : ∀ args w, (callFunc g args).run Tryz.prog w = .ok (.enter g args) w) (W : World) (hc : W.cell? ⟨B, 0, none⟩ = some (.func (.func g) #[] lb)) (hB : B < W.heap.size)
    (hF : ∀ W1, Below W.heap.size W W1 → Calls Tryz.prog g (#[.agg #[.int .i64 s.1, .int .i64 s.2]] ++ lb) W1 fun e w' => e = .returned (.bool b) ∧ Below W1.heap.size W1 w') :
    Calls Tryz.prog 295 (#[.agg #[.int .i64 s.1, .int .i64 s.2]] ++ #[.pointer (some ⟨B, 0, none⟩)]) W fun e w' => e = .returned (.bool (!b)) ∧ Below W.heap.size W w' := by
  have K := Lib.hid ((Below.refl W.heap.size W).alloc (Nat.le_refl _) (.cells #[.int .i64 s.1, .int .i64 s.2] 180))
  have HF := Lib.hid (hF _ K.out)
  have hc2 : (W.alloc (.cells #[.int .i64 s.1, .int .i64 s.2] 180)).cell? ⟨B, 0, none⟩ = some (.func (.func g) #[] lb) := (K.out.cell (p := ⟨B, 0, none⟩) hB).trans hc
  clear hF
  go_enter Tryz.func295, Tryz.ntmps295
  go_wp2_with (go_at_fn g; refine (HF.out).mono ?_; rintro e w2 ⟨rfl, b2⟩)
  have HB2 := Lib.hid (st K.out b2 K.out.size)
  clear b2
  go_wp2
  go_ret
  exact ⟨rfl, HB2.out⟩
set_option maxRecDepth 1000000 in
set_option maxHeartbeats 1000000 in
theorem allSpan_any (v : Value) (l : List (Int × Int)) (q : Int × Int → Bool) (g : Nat) (lb : Array Value) (eg : ∀ args w, (callFunc g args).run Tryz.prog w = .ok (.enter g args) w) (w : World) (hv : Rd 2 encP w v l)
    (hF : ∀ (W : World) (s : Int × Int), s ∈ l → Below w.heap.size w W → Calls Tryz.prog g (#[.agg #[.int .i64 s.1, .int .i64 s.2]] ++ lb) W fun e w' => e = .returned (.bool (q s)) ∧ Below W.heap.size W w') :
    Calls Tryz.prog 242 #[v, .func (.func g) #[] lb] w fun e w' => e = .returned (.bool (l.all q)) ∧ Below w.heap.size w w' := by
  obtain ⟨a, c, rfl, hc1, hc2⟩ := hv.slice
  have K := Lib.hid ((Below.refl w.heap.size w).alloc (Nat.le_refl _) (.cells #[.func (.func g) #[] lb] 266))
  have HU := Lib.hid (hv.below K.out)
  have HF := Lib.hid hF
  have KB := Lib.hid (Blk.new w 266 #[.func (.func g) #[] lb])
  have HL := Lib.hid (not_any_not l q)
  clear hv hF
  have zz : (w.alloc (.cells #[.func (.func g) #[] lb] 266)).heap.size = w.heap.size + 1 := by simp
  have HG : Hid (∀ (W : World) (s : Int × Int), s ∈ l → Below (w.alloc (.cells #[.func (.func g) #[] lb] 266)).heap.size (w.alloc (.cells #[.func (.func g) #[] lb] 266)) W → Calls Tryz.prog 295 (#[.agg #[.int .i64 s.1, .int .i64 s.2]] ++ #[.pointer (some ⟨w.heap.size, 0, none⟩)]) W fun e w' => e = .returned (.bool (!q s)) ∧ Below W.heap.size W w') := Lib.hid (fun W s hs hb => by
    have hb0 : Below w.heap.size w W := K.out.trans (hb.mono (by omega))
    have kb : Blk w.heap.size 266 #[.func (.func g) #[] lb] W := KB.out.below hb
    have hz := hb0.size
    exact allSpan1_any s (q s) w.heap.size g lb eg W (kb.cell 0) kb.lt (fun W1 hbb => HF.out W1 s hs (hb0.trans (hbb.mono (by omega)))))
  clear zz
  go_enter Tryz.func242, Tryz.ntmps242
  go_wp2_with fail
  refine (containsSpan_any _ l (fun x => !q x) 295 _ (enters_of Tryz.func295 (by kernel_rfl) rfl) _ HU.out HG.out).mono ?_
  rintro e w2 ⟨rfl, b2⟩
  have HB2 := Lib.hid (st K.out b2 K.out.size)
  clear b2
  go_wp2
  go_ret
  exact ⟨by rw [← HL.out]; rfl, HB2.out⟩

set_option maxRecDepth 1000000 in
set_option maxHeartbeats 1000000 in
theorem allRel1_any (r : Rel) (a2 : Option Addr) (c2 : Nat) (b : Bool) (B : Nat) (g : Nat) (lb : Array Value) (eg : ∀ args w, (callFunc g args).run Tryz.prog w = .ok (.enter g args) w) (W : World) (hc : W.cell? ⟨B, 0, none⟩ = some (.func (.func g) #[] lb)) (hB : B < W.heap.size)
    (hF : ∀ W1, Below W.heap.size W W1 → Calls Tryz.prog g (#[.agg #[.int .i64 r.op, .int .i64 r.md, .bool r.nt, .slice a2 r.sp.length c2]] ++ lb) W1 fun e w' => e = .returned (.bool b) ∧ Below W1.heap.size W1 w') :
    Calls Tryz.prog 240 (#[.agg #[.int .i64 r.op, .int .i64 r.md, .bool r.nt, .slice a2 r.sp.length c2]] ++ #[.pointer (some ⟨B, 0, none⟩)]) W fun e w' => e = .returned (.bool (!b)) ∧ Below W.heap.size W w' := by
  have K := Lib.hid ((Below.refl W.heap.size W).alloc (Nat.le_refl _) (.cells #[.int .i64 r.op, .int .i64 r.md, .bool r.nt, .slice a2 r.sp.length c2] 99))
  have HF := Lib.hid (hF _ K.out)
  have hc2 : (W.alloc (.cells #[.int .i64 r.op, .int .i64 r.md, .bool r.nt, .slice a2 r.sp.length c2] 99)).cell? ⟨B, 0, none⟩ = some (.func (.func g) #[] lb) := (K.out.cell (p := ⟨B, 0, none⟩) hB).trans hc
  clear hF
  go_enter Tryz.func240, Tryz.ntmps240
  go_wp2_with (go_at_fn g; refine (HF.out).mono ?_; rintro e w2 ⟨rfl, b2⟩)
  have HB2 := Lib.hid (st K.out b2 K.out.size)
  clear b2
  go_wp2
  go_ret
  exact ⟨rfl, HB2.out⟩
set_option maxRecDepth 1000000 in
set_option maxHeartbeats 1000000 in
theorem allRel_any (v : Value) (l : List Rel) (q : Rel → Bool) (g : Nat) (lb : Array Value) (eg : ∀ args w, (callFunc g args).run Tryz.prog w = .ok (.enter g args) w) (w : World) (hv : RdRels w v l)
    (hF : ∀ (W : World) (r : Rel) (a2 : Option Addr) (c2 : Nat), r ∈ l → Below w.heap.size w W → Rd 2 encP W (.slice a2 r.sp.length c2) r.sp → Calls Tryz.prog g (#[.agg #[.int .i64 r.op, .int .i64 r.md, .bool r.nt, .slice a2 r.sp.length c2]] ++ lb) W fun e w' => e = .returned (.bool (q r)) ∧ Below W.heap.size W w') :
    Calls Tryz.prog 195 #[v, .func (.func g) #[] lb] w fun e w' => e = .returned (.bool (l.all q)) ∧ Below w.heap.size w w' := by
  obtain ⟨a, c, rfl, hc1, hc2⟩ := hv.slice
  have K := Lib.hid ((Below.refl w.heap.size w).alloc (Nat.le_refl _) (.cells #[.func (.func g) #[] lb] 178))
  have HU := Lib.hid (hv.below K.out)
  have HF := Lib.hid hF
  have KB := Lib.hid (Blk.new w 178 #[.func (.func g) #[] lb])
  have HL := Lib.hid (not_any_not l q)
  clear hv hF
  have zz : (w.alloc (.cells #[.func (.func g) #[] lb] 178)).heap.size = w.heap.size + 1 := by simp
  have HG : Hid (∀ (W : World) (r : Rel) (a2 : Option Addr) (c2 : Nat), r ∈ l → Below (w.alloc (.cells #[.func (.func g) #[] lb] 178)).heap.size (w.alloc (.cells #[.func (.func g) #[] lb] 178)) W → Rd 2 encP W (.slice a2 r.sp.length c2) r.sp → Calls Tryz.prog 240 (#[.agg #[.int .i64 r.op, .int .i64 r.md, .bool r.nt, .slice a2 r.sp.length c2]] ++ #[.pointer (some ⟨w.heap.size, 0, none⟩)]) W fun e w' => e = .returned (.bool (!q r)) ∧ Below W.heap.size W w') := Lib.hid (fun W r a2 c2 hs hb hrd => by
    have hb0 : Below w.heap.size w W := K.out.trans (hb.mono (by omega))
    have kb : Blk w.heap.size 178 #[.func (.func g) #[] lb] W := KB.out.below hb
    have hz := hb0.size
    exact allRel1_any r a2 c2 (q r) w.heap.size g lb eg W (kb.cell 0) kb.lt (fun W1 hbb => HF.out W1 r a2 c2 hs (hb0.trans (hbb.mono (by omega))) (hrd.below hbb)))
  clear zz
  go_enter Tryz.func195, Tryz.ntmps195
  go_wp2_with fail
  refine (containsRel_any _ l (fun x => !q x) 240 _ (enters_of Tryz.func240 (by kernel_rfl) rfl) _ HU.out HG.out).mono ?_
  rintro e w2 ⟨rfl, b2⟩
  have HB2 := Lib.hid (st K.out b2 K.out.size)
  clear b2
  go_wp2
  go_ret
  exact ⟨by rw [← HL.out]; rfl, HB2.out⟩

set_option maxRecDepth 1000000 in
set_option maxHeartbeats 2000000 in
theorem isValid1_any (o : Int) (s : Int × Int) (B : Nat) (W : World) (hc : W.cell? ⟨B, 0, none⟩ = some (.int .i64 o)) (hB : B < W.heap.size) :
    Calls Tryz.prog 243 (#[.agg #[.int .i64 s.1, .int .i64 s.2]] ++ #[.pointer (some ⟨B, 0, none⟩)]) W fun e w' => e = .returned (.bool (okSp o s)) ∧ Below W.heap.size W w' := by
  obtain ⟨s1, s2⟩ := s
  have K := Lib.hid ((Below.refl W.heap.size W).alloc (Nat.le_refl _) (.cells #[.int .i64 s1, .int .i64 s2] 180))
  have hc2 : (W.alloc (.cells #[.int .i64 s1, .int .i64 s2] 180)).cell? ⟨B, 0, none⟩ = some (.int .i64 o) := (K.out.cell (p := ⟨B, 0, none⟩) hB).trans hc
  have HX : Hid (okSp o (s1, s2) = (okEnd o s1 && okEnd o s2 && decide (s1 ≤ s2))) := Lib.hid rfl
  clear hc
  go_enter Tryz.func243, Tryz.ntmps243
  go_wp2_with fail
  refine (isEnd_any o s1 _).mono ?_
  rintro e w' ⟨rfl, hw'⟩
  obtain rfl := hw'.symm
  obtain ⟨b1, hb1⟩ : ∃ b, okEnd o s1 = b := ⟨_, rfl⟩
  rw [hb1] at HX ⊢
  clear hb1
  cases b1 with
  | false =>
    go_wp2
    go_ret
    exact ⟨by rw [HX.out]; rfl, K.out⟩
  | true =>
    go_wp2_with fail
    refine (isEnd_any o s2 _).mono ?_
    rintro e w' ⟨rfl, hw'⟩
    obtain rfl := hw'.symm
    obtain ⟨b2, hb2⟩ : ∃ b, okEnd o s2 = b := ⟨_, rfl⟩
    rw [hb2] at HX ⊢
    clear hb2
    cases b2 with
    | false =>
      go_wp2
      go_ret
      exact ⟨by rw [HX.out]; rfl, K.out⟩
    | true =>
      go_wp2
      go_ret
      exact ⟨by rw [HX.out]; rfl, K.out⟩
set_option maxRecDepth 1000000 in
set_option maxHeartbeats 4000000 in
theorem isValid_any (r : Rel) (a2 : Option Addr) (c2 : Nat) (w : World) (hr : Rd 2 encP w (.slice a2 r.sp.length c2) r.sp) :
    Calls Tryz.prog 196 #[.agg #[.int .i64 r.op, .int .i64 r.md, .bool r.nt, .slice a2 r.sp.length c2]] w fun e w' => e = .returned (.bool (okR r)) ∧ Below w.heap.size w w' := by
  obtain ⟨o, m, nt, sp⟩ := r
  dsimp only at hr ⊢
  have HX : Hid (okR ⟨o, m, nt, sp⟩ = (decide (1 ≤ o) && decide (o ≤ 6) && okMod o m && decide (0 < sp.length) && decide (sp.length ≤ 4) && sp.all (okSp o))) := Lib.hid rfl
  have K := Lib.hid ((Below.refl w.heap.size w).alloc (Nat.le_refl _) (.cells #[.int .i64 o, .int .i64 m, .bool nt, .slice a2 sp.length c2] 99))
  have KB := Lib.hid (Blk.new w 99 #[.int .i64 o, .int .i64 m, .bool nt, .slice a2 sp.length c2])
  have HR := Lib.hid (hr.below K.out)
  clear hr
  by_cases h1 : o < 1
  · have HY : Hid (okR ⟨o, m, nt, sp⟩ = false) := Lib.hid (by rw [HX.out, decide_eq_false (by omega)]; rfl)
    clear HX
    go_enter Tryz.func196, Tryz.ntmps196
    go_wp2
    go_ret
    exact ⟨by rw [HY.out]; rfl, K.out⟩
  have h1' : decide (1 ≤ o) = true := decide_eq_true (by omega)
  by_cases h2 : 6 < o
  · have HY : Hid (okR ⟨o, m, nt, sp⟩ = false) := Lib.hid (by rw [HX.out, h1', decide_eq_false (by omega)]; rfl)
    clear HX h1'
    go_enter Tryz.func196, Tryz.ntmps196
    go_wp2
    go_ret
    exact ⟨by rw [HY.out]; rfl, K.out⟩
  have h2' : decide (o ≤ 6) = true := decide_eq_true (by omega)
  rw [h1', h2'] at HX
  clear h1' h2'
  go_enter Tryz.func196, Tryz.ntmps196
  go_wp2_with fail
  refine (isMod_any o m _).mono ?_
  rintro e w' ⟨rfl, hw'⟩
  obtain rfl := hw'.symm
  clear h1 h2
  obtain ⟨b1, hb1⟩ : ∃ b, okMod o m = b := ⟨_, rfl⟩
  rw [hb1] at HX ⊢
  clear hb1
  cases b1 with
  | false =>
    have HY : Hid (okR ⟨o, m, nt, sp⟩ = false) := Lib.hid (by rw [HX.out]; rfl)
    clear HX
    go_wp2
    go_ret
    exact ⟨by rw [HY.out]; rfl, K.out⟩
  | true =>
    by_cases h3 : sp.length = 0
    · have HY : Hid (okR ⟨o, m, nt, sp⟩ = false) := Lib.hid (by rw [HX.out, decide_eq_false (by omega : ¬ 0 < sp.length)]; rfl)
      have t3 : ((sp.length : Int) == 0) = true := by rw [beq_iff_eq]; omega
      clear HX h3
      go_wp2
      go_ret
      exact ⟨by rw [HY.out]; rfl, K.out⟩
    have t3 : ((sp.length : Int) == 0) = false := by rw [beq_eq_false_iff_ne]; omega
    have t3' : (sp.length == 0) = false := by rw [beq_eq_false_iff_ne]; omega
    by_cases h4 : 4 < sp.length
    · have HY : Hid (okR ⟨o, m, nt, sp⟩ = false) := Lib.hid (by rw [HX.out, decide_eq_true (by omega : 0 < sp.length), decide_eq_false (by omega : ¬ sp.length ≤ 4)]; rfl)
      have t4 : (4 : Int) < (sp.length : Int) := by omega
      clear HX h3
      go_wp2
      go_ret
      exact ⟨by rw [HY.out]; rfl, K.out⟩
    have t4 : ¬ (4 : Int) < (sp.length : Int) := by omega
    have HY : Hid (okR ⟨o, m, nt, sp⟩ = sp.all (okSp o)) := Lib.hid (by rw [HX.out, decide_eq_true (by omega : 0 < sp.length), decide_eq_true (by omega : sp.length ≤ 4)]; simp)
    have HG : Hid (∀ (W : World) (s : Int × Int), s ∈ sp → Below (w.alloc (.cells #[.int .i64 o, .int .i64 m, .bool nt, .slice a2 sp.length c2] 99)).heap.size (w.alloc (.cells #[.int .i64 o, .int .i64 m, .bool nt, .slice a2 sp.length c2] 99)) W → Calls Tryz.prog 243 (#[.agg #[.int .i64 s.1, .int .i64 s.2]] ++ #[.pointer (some ⟨w.heap.size, 0, none⟩)]) W fun e w' => e = .returned (.bool (okSp o s)) ∧ Below W.heap.size W w') := Lib.hid (fun W s _ hb => by
      have kb := KB.out.below hb
      exact isValid1_any o s w.heap.size W (kb.cell 0) kb.lt)
    clear HX h3 h4 KB
    go_wp2_with fail
    refine (allSpan_any _ sp (okSp o) 243 _ (enters_of Tryz.func243 (by kernel_rfl) rfl) _ HR.out HG.out).mono ?_
    rintro e w2 ⟨rfl, b2⟩
    have HB2 := Lib.hid (st K.out b2 K.out.size)
    clear b2
    rw [← HY.out]
    go_wp2
    go_ret
    exact ⟨rfl, HB2.out⟩
end Go.Proofs.YtpmmchppfmojhaaGreatDoor


/- Of condition: Valid, holds, Holds. Of condition: Holds. Of condition: Equal. -/
namespace Go.Proofs.YtpmmchppfmojhaaGreatDoor
open Go.RowKit
set_option linter.unusedVariables false

theorem okC_bad {c : Cnd} {k : Nat} (hk : k < c.length) (h : okL c[k] = false) : okC c = false := by
  cases hc : okC c with
  | false => rfl
  | true =>
    have := (okC_iff.1 hc).2.1 _ (List.getElem_mem hk)
    rw [h] at this
    cases this
theorem okC_many {c : Cnd} {k : Nat} (h : 6 < cntOf8 (c.take k)) : okC c = false := by
  cases hc : okC c with
  | false => rfl
  | true =>
    have := (okC_iff.1 hc).2.2
    have := cnt_take_le c k
    omega
theorem okC_end {c : Cnd} (h1 : ∀ l ∈ c, okL l = true) (h2 : cntOf8 c ≤ 6) : okC c = decide (0 < c.length) := by
  cases h : decide (0 < c.length) with
  | false =>
    unfold okC
    rw [h]; rfl
  | true => exact okC_iff.2 ⟨of_decide_eq_true h, h1, h2⟩
theorem okL_nil {l : List Rel} (h : l.length = 0) : okL l = false := by unfold okL; rw [decide_eq_false (by omega)]; rfl
theorem okL_all {l : List Rel} (h : l.length ≠ 0) : okL l = l.all okR := by unfold okL; rw [decide_eq_true (by omega)]; rfl
set_option maxRecDepth 1000000 in
set_option maxHeartbeats 4000000 in
theorem valid_cond_any (v : Value) (c : Cnd) (w : World) (hv : RdC w v c) (hl : ∀ l ∈ c, l.length ≤ 4611686018427387904) :
    Calls Tryz.prog 143 #[v] w fun e w' => e = .returned (.bool (okC c)) ∧ Below w.heap.size w w' := by
  obtain ⟨a, cp, rfl, hc1, hc2⟩ := hv.slice
  have HU := Lib.hid hv
  have HL := Lib.hid hl
  clear hv hl
  go_enter Tryz.func143, Tryz.ntmps143
  go_wp2
  go_loopw [3, 8] (fun v3 v8 wr => ∃ k : Nat, k ≤ c.length ∧ v8 = .int .i64 k ∧ v3 = .int .i64 (cntOf8 (c.take k) : Nat) ∧ cntOf8 (c.take k) ≤ 6 ∧ (∀ l ∈ c.take k, okL l = true) ∧ Below w.heap.size w wr) (fun _ v8 _ => c.length - (intOf v8).toNat)
  case atStart => exact ⟨0, Nat.zero_le _, rfl, rfl, Nat.zero_le _, fun l h => by simp at h, Below.refl _ _⟩
  case round =>
    obtain ⟨k, hk, rfl, rfl, h6, hok, hb⟩ := hrel
    have HK := Lib.hid hok
    have HB := Lib.hid hb
    have zr := hb.size
    clear hok hb
    by_cases hlt : k < c.length
    · obtain ⟨bk, off, x1, x2, rfl, h0, h4⟩ := (HU.out.below HB.out).at_ k hlt
      have h9 : (k : Int) < (c.length : Int) := by omega
      have hln := HL.out _ (List.getElem_mem hlt)
      have HS := Lib.hid (cnt_take_succ hlt)
      have HT := Lib.hid (List.take_succ_eq_append_getElem hlt)
      have HBAD := Lib.hid (okC_bad (c := c) hlt)
      have H4 := Lib.hid h4
      obtain ⟨m, hm⟩ : ∃ m, c[k] = m := ⟨_, rfl⟩
      rw [hm] at h0 hln HS HT HBAD H4
      clear h4 hm
      obtain ⟨N, hN⟩ : ∃ N, cntOf8 (c.take k) = N := ⟨_, rfl⟩
      rw [hN] at h6 HS ⊢
      clear hN
      by_cases hz : m.length = 0
      · have t0 : ((m.length : Int) == 0) = true := by rw [beq_iff_eq]; omega
        have HV := Lib.hid (HBAD.out (okL_nil hz))
        clear hz
        go_wp2
        go_ret
        exact ⟨by rw [HV.out]; rfl, HB.out⟩
      have t0 : ((m.length : Int) == 0) = false := by rw [beq_eq_false_iff_ne]; omega
      have t0' : (m.length == 0) = false := by rw [beq_eq_false_iff_ne]; omega
      by_cases h7 : 6 < N + m.length
      · have t1 : (6 : Int) < (N : Int) + (m.length : Int) := by omega
        have HV : Hid (okC c = false) := Lib.hid (okC_many (k := k + 1) (by rw [HS.out]; exact h7))
        clear hz
        go_wp2
        go_ret
        exact ⟨by rw [HV.out]; rfl, HB.out⟩
      have t1 : ¬ (6 : Int) < (N : Int) + (m.length : Int) := by omega
      have HA := Lib.hid (okL_all (l := m) hz)
      clear hz
      go_wp2_with fail
      refine (allRel_any _ m okR 196 #[] (enters_of Tryz.func196 (by kernel_rfl) rfl) _ H4.out (fun W r a2 c2 _ _ hr => isValid_any r a2 c2 W hr)).mono ?_
      rintro e w2 ⟨rfl, b2⟩
      have HB2 := Lib.hid (st HB.out b2 zr)
      clear b2
      rw [← HA.out]
      obtain ⟨b, hbb⟩ : ∃ b, okL m = b := ⟨_, rfl⟩
      have HQ := Lib.hid hbb
      rw [hbb]
      clear hbb
      cases b with
      | false =>
        have HV := Lib.hid (HBAD.out HQ.out)
        go_wp2
        go_ret
        exact ⟨by rw [HV.out]; rfl, HB2.out⟩
      | true =>
        go_wp2
        go_roundw
        case measure => simp [intOf]; omega
        case rel => exact ⟨k + 1, by omega, by go_num, by rw [HS.out]; simp, by rw [HS.out]; omega, fun l hl => by
          rw [HT.out] at hl
          rcases List.mem_append.1 hl with h | h
          · exact HK.out l h
          · simp at h; subst h; exact HQ.out, HB2.out⟩
    · obtain rfl : k = c.length := by omega
      have h3 : ¬ (c.length : Int) < (c.length : Int) := by omega
      have HV : Hid (okC c = decide (0 < c.length)) := Lib.hid (by
        have h1 := HK.out
        rw [List.take_length] at h1 h6
        exact okC_end h1 h6)
      by_cases h0 : 0 < c.length
      · have t0 : (0 : Int) < (c.length : Int) := by omega
        have HW : Hid (okC c = true) := Lib.hid (by rw [HV.out]; exact decide_eq_true h0)
        clear h6
        go_wp2
        go_ret
        exact ⟨by rw [HW.out]; rfl, HB.out⟩
      · have t0 : ¬ (0 : Int) < (c.length : Int) := by omega
        have HW : Hid (okC c = false) := Lib.hid (by rw [HV.out]; exact decide_eq_false h0)
        clear h6
        go_wp2
        go_ret
        exact ⟨by rw [HW.out]; rfl, HB.out⟩

/-! ### holds -/
end Go.Proofs.YtpmmchppfmojhaaGreatDoor

namespace Go.Proofs.YtpmmchppfmojhaaGreatDoor
open Go.RowKit
set_option linter.unusedVariables false

end Go.Proofs.YtpmmchppfmojhaaGreatDoor

namespace Go.Proofs.YtpmmchppfmojhaaGreatDoor
open Go.RowKit
set_option linter.unusedVariables false

end Go.Proofs.YtpmmchppfmojhaaGreatDoor


/- Of calqueref12: sameTexts. -/
namespace Go.Proofs.YtpmmchppfmojhaaGreatDoor
open Go.RowKit
set_option linter.unusedVariables false

theorem str_self (x : Str) : ((ofL x).toList == (ofL x).toList) = true ∧ ((ofL x).toList != (ofL x).toList) = false := ⟨beq_self_eq_true _, by rw [bne_eq_false_iff_eq]⟩
end Go.Proofs.YtpmmchppfmojhaaGreatDoor


/- Of the reference: Few, Mods, has, Bound, proper, Valid. -/
namespace Go.Proofs.YtpmmchppfmojhaaGreatDoor
open Go.RowKit
set_option linter.unusedVariables false

def FewPost (c : Cnd) (w : World) (e : Ending) (w' : World) : Prop := (∃ b, e = .returned (.bool b) ∧ (b = true → c.length ≤ 30)) ∧ w' = w
def FewRel (n : Nat) (w : World) (v3 v4 : Value) (wr : World) : Prop := ∃ (k : Nat) (x : Int), k ≤ n ∧ v4 = .int .i64 k ∧ v3 = .int .i64 x ∧ wr = w
set_option maxRecDepth 1000000 in
set_option maxHeartbeats 2000000 in
theorem few_any (v : Value) (c : Cnd) (w : World) (hv : RdC w v c) :
    Calls Tryz.prog 23 #[v] w (FewPost c w) := by
  obtain ⟨a, cp, rfl, hc1, hc2⟩ := hv.slice
  have HU := Lib.hid hv
  clear hv
  go_enter Tryz.func23, Tryz.ntmps23
  go_wp2
  go_loopw [3, 4] (fun v3 v4 wr => FewRel c.length w v3 v4 wr) (fun _ v4 _ => c.length - (intOf v4).toNat)
  case atStart => exact ⟨0, 0, Nat.zero_le _, rfl, rfl, rfl⟩
  case round =>
    obtain ⟨k, x, hk, rfl, rfl, hw⟩ := hrel
    obtain rfl := hw.symm
    by_cases hlt : k < c.length
    · obtain ⟨bk, off, x1, x2, rfl, h0, h4⟩ := HU.out.at_ k hlt
      have h9 : (k : Int) < (c.length : Int) := by omega
      obtain ⟨m, hm⟩ : ∃ m, c[k] = m := ⟨_, rfl⟩
      rw [hm] at h0 h4
      clear hm
      have hmb : m.length ≤ 9223372036854775807 := by obtain ⟨_, _, _, q1, q2⟩ := h4.slice; omega
      have H4 := Lib.hid h4
      clear h4
      go_wp2
      go_loopw [3, 5] (fun v3 v5 wr => FewRel m.length w v3 v5 wr) (fun _ v5 _ => m.length - (intOf v5).toNat)
      case atStart => exact ⟨0, _, Nat.zero_le _, rfl, rfl, rfl⟩
      case round =>
        obtain ⟨j, x, hj, rfl, rfl, hw⟩ := hrel
        obtain rfl := hw.symm
        by_cases hjt : j < m.length
        · obtain ⟨bm, om, y1, y2, rfl, g0, g1, g2, g3, g4⟩ := H4.out.at_ j hjt
          have h9 : (j : Int) < (m.length : Int) := by omega
          clear g0 g1 g2 g4
          obtain ⟨n, hn⟩ : ∃ n, m[j].sp.length = n := ⟨_, rfl⟩
          rw [hn] at g3
          clear hn
          go_wp2
          go_roundw
          case measure => simp [intOf]; omega
          case rel => exact ⟨j + 1, _, by omega, by go_num, rfl, rfl⟩
        · obtain rfl : j = m.length := by omega
          have h3 : ¬ (m.length : Int) < (m.length : Int) := by omega
          by_cases h80 : 80 < x
          · go_wp2
            go_ret
            exact ⟨⟨false, rfl, fun h => by cases h⟩, rfl⟩
          · go_wp2
            go_roundw
            case measure => simp [intOf]; omega
            case rel => exact ⟨k + 1, _, by omega, by go_num, rfl, rfl⟩
    · obtain rfl : k = c.length := by omega
      have h3 : ¬ (c.length : Int) < (c.length : Int) := by omega
      by_cases h30 : c.length ≤ 30
      · have t : (c.length : Int) ≤ 30 := by omega
        go_wp2
        go_ret
        exact ⟨⟨true, rfl, fun _ => h30⟩, rfl⟩
      · have t : ¬ (c.length : Int) ≤ 30 := by omega
        go_wp2
        go_ret
        exact ⟨⟨false, rfl, fun h => by cases h⟩, rfl⟩
def encI (x : Int) : List Value := [.int .i64 x]
theorem rd_ints (w : World) (l : List Int) (hl : l.length ≤ 1000) (t : TypeId) (cs : Array Value) (hcs : cs = (l.map fun x => Value.int .i64 x).toArray) : Rd 1 encI (w.alloc (.cells cs t)) (.slice (some ⟨w.heap.size, 0, none⟩) l.length l.length) l := by
  have k := Blk.new w t cs
  refine ⟨⟨_, l.length, rfl, Nat.le_refl _, by omega, fun _ => ⟨w.heap.size, 0, rfl, k.lt, fun i u hi j v hv => ?_⟩⟩, fun n c hc => by cases hc⟩
  have hj : j = 0 := by have := (List.getElem?_eq_some_iff.1 hv).1; simp [encI] at this; exact this
  subst hj
  simp [encI] at hv
  subst hv
  rw [k.cell, hcs]
  simp [hi]
def modsL (o : Int) : List Int := if o = 1 ∨ o = 2 then [2, 3, 4, 5, 6, 10, 20, 25, 50, 100] else if o = 5 ∨ o = 6 then [10, 100] else []
theorem mods_ok {o m : Int} (h1 : 1 ≤ o) (h6 : o ≤ 6) (hm : m ≠ 0) : (modsL o).any (fun x => x == m) = okMod o m := by
  rw [Bool.eq_iff_iff]
  obtain rfl | rfl | rfl | rfl | rfl | rfl : o = 1 ∨ o = 2 ∨ o = 3 ∨ o = 4 ∨ o = 5 ∨ o = 6 := by omega
  all_goals
    unfold okMod modsL
    rw [if_neg hm]
    simp [digs]
    try omega
set_option maxRecDepth 1000000 in
set_option maxHeartbeats 1000000 in
theorem mods_any (o : Int) (w : World) : Calls Tryz.prog 181 #[.int .i64 o] w fun e w' => (∃ v, e = .returned v ∧ Rd 1 encI w' v (modsL o)) ∧ Below w.heap.size w w' := by
  have H10 := Lib.hid (rd_ints w [2, 3, 4, 5, 6, 10, 20, 25, 50, 100] (by simp) 3 _ rfl)
  have H2 := Lib.hid (rd_ints w [10, 100] (by simp) 3 _ rfl)
  by_cases h1 : o = 1
  · subst h1
    go_enter Tryz.func181, Tryz.ntmps181
    go_wp2
    go_ret
    exact ⟨⟨_, rfl, H10.out⟩, (Below.refl _ w).alloc (Nat.le_refl _) _⟩
  have t1 : (o == 1) = false := by rw [beq_eq_false_iff_ne]; exact h1
  by_cases h2 : o = 2
  · subst h2
    clear h1 t1
    go_enter Tryz.func181, Tryz.ntmps181
    go_wp2
    go_ret
    exact ⟨⟨_, rfl, H10.out⟩, (Below.refl _ w).alloc (Nat.le_refl _) _⟩
  have t2 : (o == 2) = false := by rw [beq_eq_false_iff_ne]; exact h2
  by_cases h5 : o = 5
  · subst h5
    clear h1 t1 h2 t2
    go_enter Tryz.func181, Tryz.ntmps181
    go_wp2
    go_ret
    exact ⟨⟨_, rfl, H2.out⟩, (Below.refl _ w).alloc (Nat.le_refl _) _⟩
  have t5 : (o == 5) = false := by rw [beq_eq_false_iff_ne]; exact h5
  by_cases h6 : o = 6
  · subst h6
    clear h1 t1 h2 t2 h5 t5
    go_enter Tryz.func181, Tryz.ntmps181
    go_wp2
    go_ret
    exact ⟨⟨_, rfl, H2.out⟩, (Below.refl _ w).alloc (Nat.le_refl _) _⟩
  have t6 : (o == 6) = false := by rw [beq_eq_false_iff_ne]; exact h6
  have HM : Hid (modsL o = []) := Lib.hid (by unfold modsL; rw [if_neg (by omega), if_neg (by omega)])
  clear h1 h2 h5 h6
  go_enter Tryz.func181, Tryz.ntmps181
  go_wp2
  go_ret
  exact ⟨⟨_, rfl, by rw [HM.out]; exact rd_nil _⟩, Below.refl _ _⟩
theorem Rd.int {w : World} {a : Option Addr} {n c : Nat} {l : List Int} (h : Rd 1 encI w (.slice a n c) l) (i : Nat) (hi : i < l.length) : ∃ b off, a = some ⟨b, off, none⟩ ∧ w.cell? ⟨b, off + i, none⟩ = some (.int .i64 l[i]) := by
  obtain ⟨b, off, ha, _, hx⟩ := h.some_ i hi
  have := hx 0 _ rfl
  rw [Nat.mul_one, Nat.add_zero] at this
  exact ⟨b, off, ha, this⟩
set_option maxRecDepth 1000000 in
set_option maxHeartbeats 1000000 in
theorem has_any (v : Value) (l : List Int) (n : Int) (w : World) (hv : Rd 1 encI w v l) : Calls Tryz.prog 180 #[v, .int .i64 n] w fun e w' => e = .returned (.bool (l.any fun x => x == n)) ∧ w' = w := by
  obtain ⟨a, cp, rfl, hc1, hc2⟩ := hv.slice
  have HU := Lib.hid hv
  clear hv
  go_enter Tryz.func180, Tryz.ntmps180
  go_wp2
  go_loopw [5] (fun v wr => ∃ k : Nat, k ≤ l.length ∧ v = .int .i64 k ∧ (∀ (j : Nat) (hj : j < l.length), j < k → (l[j] == n) = false) ∧ wr = w) (fun v _ => l.length - (intOf v).toNat)
  case atStart => exact ⟨0, Nat.zero_le _, rfl, fun j _ h => by omega, rfl⟩
  case round =>
    obtain ⟨k, hk, rfl, hkd, hw⟩ := hrel
    obtain rfl := hw.symm
    have HK := Lib.hid hkd
    clear hkd
    by_cases hlt : k < l.length
    · obtain ⟨bk, off, rfl, h0⟩ := HU.out.int k hlt
      have h9 : (k : Int) < (l.length : Int) := by omega
      obtain ⟨x, hx⟩ : ∃ x, (l[k] == n) = x := ⟨_, rfl⟩
      have HX := Lib.hid hx
      cases x with
      | true =>
        go_wp2
        go_ret
        exact ⟨by rw [any_hit (q := fun x => x == n) hlt HX.out]; rfl, rfl⟩
      | false =>
        go_wp2
        go_roundw
        case measure => simp [intOf]; omega
        case rel => exact ⟨k + 1, by omega, by go_num, fun j hj hjk => by
          rcases Nat.lt_or_ge j k with h | h
          · exact HK.out j hj h
          · obtain rfl : j = k := by omega
            exact HX.out, (by first | rfl | trivial)⟩
    · obtain rfl : k = l.length := by omega
      have h3 : ¬ (l.length : Int) < (l.length : Int) := by omega
      go_wp2
      go_ret
      exact ⟨by rw [any_take_miss (q := fun x => x == n) HK.out]; rfl, rfl⟩
def bndOf8 (o : Int) : Int := if digs o = true then 6 else 100
set_option maxRecDepth 1000000 in
theorem bound_any (o : Int) (w : World) : Calls Tryz.prog 182 #[.int .i64 o] w fun e w' => e = .returned (.int .i64 (bndOf8 o)) ∧ w' = w := by
  by_cases h3 : o = 3
  · subst h3
    go_enter Tryz.func182, Tryz.ntmps182
    go_wp2
    go_ret
    exact ⟨rfl, rfl⟩
  · have t3 : (o == 3) = false := by rw [beq_eq_false_iff_ne]; exact h3
    by_cases h4 : o = 4
    · subst h4
      clear h3 t3
      go_enter Tryz.func182, Tryz.ntmps182
      go_wp2
      go_ret
      exact ⟨rfl, rfl⟩
    · have t4 : (o == 4) = false := by rw [beq_eq_false_iff_ne]; exact h4
      have H : Hid (bndOf8 o = 100) := Lib.hid (by unfold bndOf8; rw [digs_false h3 h4]; rfl)
      clear h3 h4
      go_enter Tryz.func182, Tryz.ntmps182
      go_wp2
      go_ret
      exact ⟨by rw [H.out]; rfl, rfl⟩
end Go.Proofs.YtpmmchppfmojhaaGreatDoor


/- Of the reference: proper, a modulus that is not permitted. -/
namespace Go.Proofs.YtpmmchppfmojhaaGreatDoor
open Go.RowKit
set_option linter.unusedVariables false

set_option maxRecDepth 1000000 in
set_option maxHeartbeats 16000000 in
theorem proper_noMod (o m : Int) (nt : Bool) (a2 : Option Addr) (N c2 : Nat) (w : World) (h1 : ¬ o < 1) (h2 : ¬ 6 < o) (hm : m ≠ 0) (hx : okMod o m = false) :
    Calls Tryz.prog 128 #[.agg #[.int .i64 o, .int .i64 m, .bool nt, .slice a2 N c2]] w fun e w' => e = .returned (.bool false) ∧ Below w.heap.size w w' := by
  have K := Lib.hid ((Below.refl w.heap.size w).alloc (Nat.le_refl _) (.cells #[.int .i64 o, .int .i64 m, .bool nt, .slice a2 N c2] 99))
  have KB := Lib.hid (Blk.new w 99 #[.int .i64 o, .int .i64 m, .bool nt, .slice a2 N c2])
  obtain ⟨w1, hw1⟩ : ∃ w1, w.alloc (.cells #[.int .i64 o, .int .i64 m, .bool nt, .slice a2 N c2] 99) = w1 := ⟨_, rfl⟩
  have HMO := Lib.hid (mods_ok (o := o) (m := m) (by omega) (by omega) hm)
  rw [hx] at HMO
  have d1 := decide_eq_false h1
  have d2 := decide_eq_false h2
  have dm : (m == 0) = false := by rw [beq_eq_false_iff_ne]; exact hm
  have dm' : (m != 0) = true := by rw [bne_iff_ne]; exact hm

  clear hm hx
  go_enter Tryz.func128, Tryz.ntmps128
  go_upto_region 1 with fail
  rw [hw1] at K KB
  try rw [hw1]
  clear hw1
  have HCE : Hid (∀ wx, Below w1.heap.size w1 wx → wx.cell? ⟨w.heap.size, 0, none⟩ = some (.int .i64 o) ∧ wx.cell? ⟨w.heap.size, 1, none⟩ = some (.int .i64 m) ∧ wx.cell? ⟨w.heap.size, 3, none⟩ = some (.slice a2 (N) c2)) := Lib.hid (fun wx hb => ⟨(KB.out.below hb).cell 0, (KB.out.below hb).cell 1, (KB.out.below hb).cell 3⟩)
  obtain ⟨k0, k1, k3⟩ := HCE.out w1.drew (Below.refl _ _).drew
  first | (go_region_with (first | (go_at_call 181; refine (mods_any o _).mono ?_; rintro e w5 ⟨⟨v5, rfl, r5⟩, b5⟩; have B5 : Below w1.heap.size w1 w5 := (Below.refl _ w1).drew.trans b5; have R5 := Lib.hid r5; obtain ⟨k5, k6, k7⟩ := HCE.out _ B5; clear b5 r5) | (go_at_call 180; refine (has_any _ _ m _ R5.out).mono ?_; rw [HMO.out]; rintro e w' ⟨rfl, hw'⟩; obtain rfl := hw'.symm))) | fail
  all_goals
    go_wp2
    go_ret
    exact ⟨rfl, st K.out B5 K.out.size⟩
end Go.Proofs.YtpmmchppfmojhaaGreatDoor


/- Of the reference: proper, no span. -/
namespace Go.Proofs.YtpmmchppfmojhaaGreatDoor
open Go.RowKit
set_option linter.unusedVariables false

set_option maxRecDepth 1000000 in
set_option maxHeartbeats 16000000 in
theorem proper_noSpan (o m : Int) (nt : Bool) (a2 : Option Addr) (N c2 : Nat) (w : World) (h1 : ¬ o < 1) (h2 : ¬ 6 < o) (hm : m ≠ 0) (hx : okMod o m = true) (hN : N = 0) :
    Calls Tryz.prog 128 #[.agg #[.int .i64 o, .int .i64 m, .bool nt, .slice a2 N c2]] w fun e w' => e = .returned (.bool false) ∧ Below w.heap.size w w' := by
  have K := Lib.hid ((Below.refl w.heap.size w).alloc (Nat.le_refl _) (.cells #[.int .i64 o, .int .i64 m, .bool nt, .slice a2 N c2] 99))
  have KB := Lib.hid (Blk.new w 99 #[.int .i64 o, .int .i64 m, .bool nt, .slice a2 N c2])
  obtain ⟨w1, hw1⟩ : ∃ w1, w.alloc (.cells #[.int .i64 o, .int .i64 m, .bool nt, .slice a2 N c2] 99) = w1 := ⟨_, rfl⟩
  have HMO := Lib.hid (mods_ok (o := o) (m := m) (by omega) (by omega) hm)
  rw [hx] at HMO
  have d1 := decide_eq_false h1
  have d2 := decide_eq_false h2
  have dm : (m == 0) = false := by rw [beq_eq_false_iff_ne]; exact hm
  have dm' : (m != 0) = true := by rw [bne_iff_ne]; exact hm
  subst hN
  have d3 : decide (((0 : Nat) : Int) < 1) = true := rfl
  clear hm hx
  go_enter Tryz.func128, Tryz.ntmps128
  go_upto_region 1 with fail
  rw [hw1] at K KB
  try rw [hw1]
  clear hw1
  have HCE : Hid (∀ wx, Below w1.heap.size w1 wx → wx.cell? ⟨w.heap.size, 0, none⟩ = some (.int .i64 o) ∧ wx.cell? ⟨w.heap.size, 1, none⟩ = some (.int .i64 m) ∧ wx.cell? ⟨w.heap.size, 3, none⟩ = some (.slice a2 (0) c2)) := Lib.hid (fun wx hb => ⟨(KB.out.below hb).cell 0, (KB.out.below hb).cell 1, (KB.out.below hb).cell 3⟩)
  obtain ⟨k0, k1, k3⟩ := HCE.out w1.drew (Below.refl _ _).drew
  first | (go_region_with (first | (go_at_call 181; refine (mods_any o _).mono ?_; rintro e w5 ⟨⟨v5, rfl, r5⟩, b5⟩; have B5 : Below w1.heap.size w1 w5 := (Below.refl _ w1).drew.trans b5; have R5 := Lib.hid r5; obtain ⟨k5, k6, k7⟩ := HCE.out _ B5; clear b5 r5) | (go_at_call 180; refine (has_any _ _ m _ R5.out).mono ?_; rw [HMO.out]; rintro e w' ⟨rfl, hw'⟩; obtain rfl := hw'.symm))) | fail
  all_goals
    go_wp2
    go_ret
    exact ⟨rfl, st K.out B5 K.out.size⟩
end Go.Proofs.YtpmmchppfmojhaaGreatDoor


/- Of the reference: proper, too many spans. -/
namespace Go.Proofs.YtpmmchppfmojhaaGreatDoor
open Go.RowKit
set_option linter.unusedVariables false

set_option maxRecDepth 1000000 in
set_option maxHeartbeats 16000000 in
theorem proper_manySpans (o m : Int) (nt : Bool) (a2 : Option Addr) (N c2 : Nat) (w : World) (h1 : ¬ o < 1) (h2 : ¬ 6 < o) (hm : m ≠ 0) (hx : okMod o m = true) (hN : 4 < N) :
    Calls Tryz.prog 128 #[.agg #[.int .i64 o, .int .i64 m, .bool nt, .slice a2 N c2]] w fun e w' => e = .returned (.bool false) ∧ Below w.heap.size w w' := by
  have K := Lib.hid ((Below.refl w.heap.size w).alloc (Nat.le_refl _) (.cells #[.int .i64 o, .int .i64 m, .bool nt, .slice a2 N c2] 99))
  have KB := Lib.hid (Blk.new w 99 #[.int .i64 o, .int .i64 m, .bool nt, .slice a2 N c2])
  obtain ⟨w1, hw1⟩ : ∃ w1, w.alloc (.cells #[.int .i64 o, .int .i64 m, .bool nt, .slice a2 N c2] 99) = w1 := ⟨_, rfl⟩
  have HMO := Lib.hid (mods_ok (o := o) (m := m) (by omega) (by omega) hm)
  rw [hx] at HMO
  have d1 := decide_eq_false h1
  have d2 := decide_eq_false h2
  have dm : (m == 0) = false := by rw [beq_eq_false_iff_ne]; exact hm
  have dm' : (m != 0) = true := by rw [bne_iff_ne]; exact hm
  have d3 : decide ((N : Int) < 1) = false := decide_eq_false (by omega)
  have d3' : decide (N < 1) = false := decide_eq_false (by omega)
  have d4 : decide ((4 : Int) < (N : Int)) = true := decide_eq_true (by omega)
  have d4' : decide (4 < N) = true := decide_eq_true hN
  clear hm hx
  go_enter Tryz.func128, Tryz.ntmps128
  go_upto_region 1 with fail
  rw [hw1] at K KB
  try rw [hw1]
  clear hw1
  have HCE : Hid (∀ wx, Below w1.heap.size w1 wx → wx.cell? ⟨w.heap.size, 0, none⟩ = some (.int .i64 o) ∧ wx.cell? ⟨w.heap.size, 1, none⟩ = some (.int .i64 m) ∧ wx.cell? ⟨w.heap.size, 3, none⟩ = some (.slice a2 (N) c2)) := Lib.hid (fun wx hb => ⟨(KB.out.below hb).cell 0, (KB.out.below hb).cell 1, (KB.out.below hb).cell 3⟩)
  obtain ⟨k0, k1, k3⟩ := HCE.out w1.drew (Below.refl _ _).drew
  first | (go_region_with (first | (go_at_call 181; refine (mods_any o _).mono ?_; rintro e w5 ⟨⟨v5, rfl, r5⟩, b5⟩; have B5 : Below w1.heap.size w1 w5 := (Below.refl _ w1).drew.trans b5; have R5 := Lib.hid r5; obtain ⟨k5, k6, k7⟩ := HCE.out _ B5; clear b5 r5) | (go_at_call 180; refine (has_any _ _ m _ R5.out).mono ?_; rw [HMO.out]; rintro e w' ⟨rfl, hw'⟩; obtain rfl := hw'.symm))) | fail
  all_goals
    go_wp2
    go_ret
    exact ⟨rfl, st K.out B5 K.out.size⟩
end Go.Proofs.YtpmmchppfmojhaaGreatDoor


