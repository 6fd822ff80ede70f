/- What the row stands on, part 16. -/
import Derived.SizedLaws
import Derived.Test.YtpmmchppfmojhaaGreatDoorQ15

/- Conditions that come in as arguments: what their cells hold, and the lengths of their lists. -/
namespace Go.Proofs.YtpmmchppfmojhaaGreatDoor
open Go.RowKit
set_option linter.unusedVariables false

theorem one_ofOf8 {α : Type} {l : List α} {n i : Nat} {v : α} (h : (l.drop i).take 1 = [v]) : l[i]? = some v := by
  have := congrArg (fun r : List α => r[0]?) h
  simpa [List.getElem?_take, List.getElem?_drop] using this
/-- A row of equal cells reads as a list. -/
theorem rd_of_rowOf8 {α : Type} {k : Nat} {enc : α → List Value} {w : World} {a : Addr} {len cap : Nat} (Z : Nat → α) (hk : 0 < k) (henc : ∀ x, (enc x).length = k) (hl : len ≤ cap) (hc : cap ≤ maxLen)
    (h : ∀ i, i < len → ∀ (j : Nat) (v : Value), (enc (Z i))[j]? = some v → w.cell? (a.add (i * k + j)) = some v) :
    Rd k enc w (.slice (some a) len cap) ((List.range len).map Z) := by
  have hM : maxLen = 9223372036854775807 := by decide
  have hlen : ((List.range len).map Z).length = len := by simp
  refine ⟨⟨_, cap, by rw [hlen], by omega, by omega, fun hne => ?_⟩, fun n c hc => by cases hc⟩
  have hpos : 0 < len := by rw [← hlen]; exact List.length_pos_iff.2 hne
  have h00 := h 0 hpos 0 _ (List.getElem?_eq_getElem (by rw [henc]; exact hk))
  obtain ⟨b, off, sp⟩ := a
  have hspot : sp = none := by simpa [Addr.add] using World.cell?_spot h00
  subst hspot
  refine ⟨b, off, rfl, ?_, fun i u hi j v hv => ?_⟩
  · rw [add_off] at h00
    exact World.block_lt_of_cell? w _ h00
  · have hil := (List.getElem?_eq_some_iff.1 hi).1
    rw [hlen] at hil
    simp [List.getElem?_range hil] at hi
    subst hi
    have q := h i hil j v hv
    rw [add_off, ← Nat.add_assoc] at q
    exact q
section
variable {H : Type} {enc : TypeId × Value → H} {P : Program} {w : World} {base : Nat} {spare : Nat → Bool} {held : Bool}
theorem spans_of {t e : TypeId} {f0 f1 : Field} {fuel : Nat} {cs : List Value} {x : DataW H × List MemPlace}
    (ht : P.underlying t = some (.slice e)) (he : P.underlying e = some (.struct #[f0, f1])) (hce : P.cellsOf e = 2) (o0 : f0.offset = 0) (o1 : f1.offset = 1)
    (c0 : P.cellsOf f0.type = 1) (c1 : P.cellsOf f1.type = 1) (k0 : P.underlying f0.type = some (.int .i64)) (k1 : P.underlying f1.type = some (.int .i64))
    (h : DataW.trod enc P w base spare held fuel t cs = some x) : ∃ a len cap sp, cs = [.slice a len cap] ∧ Rd 2 encP w (.slice a len cap) sp := by
  rcases Go.Deep.open_slice ht h with ⟨h0, _⟩ | ⟨a, len, cap, m, n, D, Pl, hcs, hb, hl, hm, hmm, _, hx⟩
  · exact ⟨none, 0, 0, [], h0, rd_nil w⟩
  have hlm : len ≤ m := by rw [hmm]; split <;> omega
  have each : ∀ i, i < m → ∃ z : Int × Int, w.cell? (a.add (i * 2)) = some (.int .i64 z.1) ∧ w.cell? (a.add (i * 2 + 1)) = some (.int .i64 z.2) := fun i hi => by
    obtain ⟨cs', hc, htr⟩ := hx i hi
    rw [hce] at hc
    obtain ⟨_, hcl, hat⟩ := World.cells?_some hc
    obtain ⟨y0, y1, n2, _, _, h0, h1⟩ := Go.ChangeShapes.trod_struct2 he htr
    rw [o0, c0] at h0
    rw [o1, c1] at h1
    obtain ⟨z0, e0, _, w0⟩ := DataW.trod_int k0 h0
    obtain ⟨z1, e1, _, w1⟩ := DataW.trod_int k1 h1
    have g0 := hat 0 (by omega)
    have g1 := hat 1 (by omega)
    rw [Go.Deep.add_add, one_ofOf8 (n := 0) e0] at g0
    rw [Go.Deep.add_add, one_ofOf8 (n := 0) e1] at g1
    exact ⟨(z0, z1), g0, g1⟩
  obtain ⟨Z, hZ⟩ := Go.Deep.choose_lt each
  refine ⟨some a, len, cap, (List.range len).map Z, hcs, rd_of_rowOf8 Z (by omega) (fun x => rfl) hl hm fun i hi j v hv => ?_⟩
  obtain ⟨q0, q1⟩ := hZ i (by omega)
  have hj : j < 2 := (List.getElem?_eq_some_iff.1 hv).1
  obtain rfl | rfl : j = 0 ∨ j = 1 := by omega
  · simp [encP] at hv
    subst hv
    exact q0
  · simp [encP] at hv
    subst hv
    exact q1
theorem trod_struct4 {t : TypeId} {f0 f1 f2 f3 : Field} {fuel : Nat} {cs : List Value} {x : DataW H × List MemPlace} (ht : P.underlying t = some (.struct #[f0, f1, f2, f3])) (h : DataW.trod enc P w base spare held fuel t cs = some x) :
    ∃ y0 y1 y2 y3 n, DataW.trod enc P w base spare held n f0.type ((cs.drop f0.offset).take (P.cellsOf f0.type)) = some y0 ∧
      DataW.trod enc P w base spare held n f1.type ((cs.drop f1.offset).take (P.cellsOf f1.type)) = some y1 ∧ DataW.trod enc P w base spare held n f2.type ((cs.drop f2.offset).take (P.cellsOf f2.type)) = some y2 ∧
      DataW.trod enc P w base spare held n f3.type ((cs.drop f3.offset).take (P.cellsOf f3.type)) = some y3 := by
  obtain ⟨xs, n, _, rfl, hl, hlen, hf⟩ := DataW.trod_struct ht h
  match xs, hlen with
  | [y0, y1, y2, y3], _ => exact ⟨y0, y1, y2, y3, n, by simpa using hf 0 f0 rfl, by simpa using hf 1 f1 rfl, by simpa using hf 2 f2 rfl, by simpa using hf 3 f3 rfl⟩
/-- What is asked of the types of relations and spans. -/
structure RelTypes (P : Program) (t tS eS : TypeId) (f0 f1 f2 f3 g0 g1 : Field) : Prop where
  t_ : P.underlying t = some (.struct #[f0, f1, f2, f3])
  cells : P.cellsOf t = 4
  o0 : f0.offset = 0
  o1 : f1.offset = 1
  o2 : f2.offset = 2
  o3 : f3.offset = 3
  c0 : P.cellsOf f0.type = 1
  c1 : P.cellsOf f1.type = 1
  c2 : P.cellsOf f2.type = 1
  c3 : P.cellsOf f3.type = 1
  k0 : P.underlying f0.type = some (.int .i64)
  k1 : P.underlying f1.type = some (.int .i64)
  k2 : P.underlying f2.type = some .bool
  k3 : P.underlying f3.type = some (.slice eS)
  s_ : P.underlying eS = some (.struct #[g0, g1])
  sc : P.cellsOf eS = 2
  p0 : g0.offset = 0
  p1 : g1.offset = 1
  d0 : P.cellsOf g0.type = 1
  d1 : P.cellsOf g1.type = 1
  j0 : P.underlying g0.type = some (.int .i64)
  j1 : P.underlying g1.type = some (.int .i64)
variable {t tS eS : TypeId} {f0 f1 f2 f3 g0 g1 : Field}
theorem rel_of {fuel : Nat} {cs : List Value} {x : DataW H × List MemPlace} (T : RelTypes P t tS eS f0 f1 f2 f3 g0 g1) (h : DataW.trod enc P w base spare held fuel t cs = some x) :
    ∃ z : RawR × Rel, RdRel w z.1 z.2 ∧ ∀ (j : Nat) (v : Value), (encR z.1)[j]? = some v → cs[j]? = some v := by
  obtain ⟨y0, y1, y2, y3, n, h0, h1, h2, h3⟩ := trod_struct4 T.t_ h
  rw [T.o0, T.c0] at h0
  rw [T.o1, T.c1] at h1
  rw [T.o2, T.c2] at h2
  rw [T.o3, T.c3] at h3
  obtain ⟨z0, e0, _, _⟩ := DataW.trod_int T.k0 h0
  obtain ⟨z1, e1, _, _⟩ := DataW.trod_int T.k1 h1
  obtain ⟨z2, e2, _⟩ := DataW.trod_bool T.k2 h2
  obtain ⟨a, len, cap, sp, e3, hsp⟩ := spans_of T.k3 T.s_ T.sc T.p0 T.p1 T.d0 T.d1 T.j0 T.j1 h3
  refine ⟨(⟨z0, z1, z2, a, len, cap⟩, ⟨z0, z1, z2, sp⟩), ⟨rfl, rfl, rfl, hsp⟩, fun j v hv => ?_⟩
  have hj : j < 4 := (List.getElem?_eq_some_iff.1 hv).1
  obtain rfl | rfl | rfl | rfl : j = 0 ∨ j = 1 ∨ j = 2 ∨ j = 3 := by omega
  · simp [encR] at hv
    subst hv
    exact one_ofOf8 (n := 0) e0
  · simp [encR] at hv
    subst hv
    exact one_ofOf8 (n := 0) e1
  · simp [encR] at hv
    subst hv
    exact one_ofOf8 (n := 0) e2
  · simp [encR] at hv
    subst hv
    exact one_ofOf8 (n := 0) e3
instance : Inhabited RawR := ⟨⟨0, 0, false, none, 0, 0⟩⟩
instance : Inhabited Rel := ⟨⟨0, 0, false, []⟩⟩
instance : Inhabited RawS := ⟨⟨none, 0, 0⟩⟩
theorem rels_of {tL : TypeId} {fuel : Nat} {cs : List Value} {x : DataW H × List MemPlace} (T : RelTypes P t tS eS f0 f1 f2 f3 g0 g1) (hL : P.underlying tL = some (.slice t)) (hb1 : 0 < P.bytesOf t) (h : DataW.trod enc P w base spare held fuel tL cs = some x)
    (hw : ∀ k ∈ x.1.weights P tL, k ≤ reachBytes) : ∃ (z : RawS) (l : List Rel), cs = [.slice z.a z.n z.c] ∧ RdRels w (.slice z.a z.n z.c) l ∧ l.length ≤ 140737488355328 := by
  have hM : maxLen = 9223372036854775807 := by decide
  rcases Go.Deep.open_slice hL h with ⟨h0, _⟩ | ⟨a, len, cap, m, n, D, Pl, hcs, hb, hl, hm, hmm, hxe, hx⟩
  · exact ⟨⟨none, 0, 0⟩, [], h0, rdRels_nil w, by simp⟩
  have hlm : len ≤ m := by rw [hmm]; split <;> omega
  have each : ∀ i, i < m → ∃ z : RawR × Rel, RdRel w z.1 z.2 ∧ ∀ (j : Nat) (v : Value), (encR z.1)[j]? = some v → w.cell? (a.add (i * 4 + j)) = some v := fun i hi => by
    obtain ⟨cs', hc, htr⟩ := hx i hi
    rw [T.cells] at hc
    obtain ⟨_, hcl, hat⟩ := World.cells?_some hc
    obtain ⟨z, hz, hzc⟩ := rel_of T htr
    refine ⟨z, hz, fun j v hv => ?_⟩
    have hj : j < 4 := (List.getElem?_eq_some_iff.1 hv).1
    have g := hat j (by omega)
    rw [Go.Deep.add_add, hzc j v hv] at g
    exact g
  obtain ⟨Z, hZ⟩ := Go.Deep.choose_lt each
  have hlen : len ≤ 140737488355328 := by
    have h1 := hw ((len + (m - len)) * P.bytesOf t) (by rw [hxe]; simp [DataW.weights, hL])
    have h2 : len * 1 ≤ (len + (m - len)) * P.bytesOf t := Nat.mul_le_mul (by omega) hb1
    have h3 : reachBytes ≤ 140737488355328 := by decide
    omega
  refine ⟨⟨some a, len, cap⟩, (List.range len).map fun i => (Z i).2, hcs, ⟨(List.range len).map fun i => (Z i).1, rd_of_rowOf8 (fun i => (Z i).1) (by omega) encR_len hl hm fun i (hi : i < len) j v hv => (hZ i (by omega)).2 j v hv, by simp, fun i h1 h2 => ?_⟩, by simp; exact hlen⟩
  have hi : i < len := by simpa using h1
  rw [List.getElem_map, List.getElem_map, List.getElem_range]
  exact (hZ i (by omega)).1
end
end Go.Proofs.YtpmmchppfmojhaaGreatDoor


/- Tables that come in as arguments: what their cells hold, and the lengths of the inner lists of their conditions. -/
namespace Go.Proofs.YtpmmchppfmojhaaGreatDoor
open Go.RowKit
set_option linter.unusedVariables false

instance : Inhabited Sym := ⟨⟨[], [], [], [], 0, 0⟩⟩
instance : Inhabited Lis := ⟨⟨[], [], [], [], []⟩⟩
instance : Inhabited Uni := ⟨⟨[], [], []⟩⟩
instance : Inhabited Nea := ⟨⟨[], [], 0⟩⟩
instance : Inhabited Loc := ⟨⟨[], [], [], [], [], ⟨[], [], [], [], 0, 0⟩, [], [], [], [], []⟩⟩
instance : Inhabited RawLo := ⟨⟨[], [], [], ⟨none, 0, 0⟩, ⟨none, 0, 0⟩, ⟨[], [], [], [], 0, 0⟩, ⟨none, 0, 0⟩, ⟨none, 0, 0⟩, ⟨none, 0, 0⟩, ⟨none, 0, 0⟩, ⟨none, 0, 0⟩⟩⟩
theorem one_ofT {α : Type} {l : List α} {n i : Nat} {v : α} (h : (l.drop i).take 1 = [v]) : l[i]? = some v := by
  have := congrArg (fun r : List α => r[0]?) h
  simpa [List.getElem?_take, List.getElem?_drop] using this
section
variable {H : Type} {enc : TypeId × Value → H} {P : Program} {w : World} {base : Nat} {spare : Nat → Bool} {held : Bool}
/-- Within reach. -/
def Sm (s : Str) : Prop := s.length ≤ 140737488355328
end
section
variable {H : Type} {enc : TypeId × Value → H} {w : World} {base : Nat} {spare : Nat → Bool} {held : Bool}
/-- The inner lists of conditions are within reach. -/
def CndR (c : Cnd) : Prop := ∀ l ∈ c, l.length ≤ 140737488355328
def RulR (l : List Rul) : Prop := ∀ r ∈ l, Sm r.1 ∧ CndR r.2
/-- The strings of a locale and the inner lists of its conditions are within reach. -/
structure LocR (x : Loc) : Prop where
  tag : Sm x.tag
  par : Sm x.par
  dir : Sm x.dir
  de : Sm x.sy.de
  gr : Sm x.sy.gr
  mi : Sm x.sy.mi
  pe : Sm x.sy.pe
  ca : RulR x.ca
  oc : RulR x.oc
  li : ∀ u ∈ x.li, Sm u.st ∧ Sm u.two ∧ Sm u.sa ∧ Sm u.md ∧ Sm u.en
  un : ∀ u ∈ x.un, Sm u.un ∧ Sm u.cl ∧ Sm u.pt
  da : ∀ u ∈ x.da, Sm u.1 ∧ Sm u.2
  mo : ∀ u ∈ x.mo, Sm u
  dy : ∀ u ∈ x.dy, Sm u
structure TabR (t : Tab) : Prop where
  lo : ∀ x ∈ t.lo, LocR x
  al : ∀ u ∈ t.al, Sm u.1 ∧ Sm u.2
  ne : ∀ u ∈ t.ne, Sm u.fr ∧ Sm u.to_
end
end Go.Proofs.YtpmmchppfmojhaaGreatDoor


/- Of condition: countsDigits, isEnd, isMod. -/
namespace Go.Proofs.YtpmmchppfmojhaaGreatDoor
open Go.RowKit
set_option linter.unusedVariables false

theorem digs_false {o : Int} (h3 : o ≠ 3) (h4 : o ≠ 4) : digs o = false := by unfold digs; simp [h3, h4]
set_option maxRecDepth 1000000 in
theorem countsDigits_any (o : Int) (w : World) : Calls Tryz.prog 293 #[.int .i64 o] w fun e w' => e = .returned (.bool (digs o)) ∧ w' = w := by
  by_cases h3 : o = 3
  · subst h3
    go_enter Tryz.func293, Tryz.ntmps293
    go_wp2
    go_ret
    exact ⟨rfl, rfl⟩
  · have t3 : (o == 3) = false := by rw [beq_eq_false_iff_ne]; exact h3
    by_cases h4 : o = 4
    · subst h4
      clear h3 t3
      go_enter Tryz.func293, Tryz.ntmps293
      go_wp2
      go_ret
      exact ⟨rfl, rfl⟩
    · have t4 : (o == 4) = false := by rw [beq_eq_false_iff_ne]; exact h4
      have H := Lib.hid (digs_false h3 h4)
      clear h3 h4
      go_enter Tryz.func293, Tryz.ntmps293
      go_wp2
      go_ret
      exact ⟨by rw [H.out]; rfl, rfl⟩
set_option maxRecDepth 1000000 in
set_option maxHeartbeats 1000000 in
theorem isEnd_any (o n : Int) (w : World) : Calls Tryz.prog 244 #[.int .i64 o, .int .i64 n] w fun e w' => e = .returned (.bool (okEnd o n)) ∧ w' = w := by
  have HE : Hid (okEnd o n = (decide (0 ≤ n) && decide (n ≤ if digs o = true then 6 else 100))) := Lib.hid rfl
  go_enter Tryz.func244, Tryz.ntmps244
  go_wp2_with fail
  refine (countsDigits_any o _).mono ?_
  rintro e w' ⟨rfl, hw'⟩
  obtain rfl := hw'.symm
  obtain ⟨d, hd⟩ : ∃ d, digs o = d := ⟨_, rfl⟩
  rw [hd] at HE ⊢
  clear hd
  cases d with
  | false =>
    by_cases h0 : 0 ≤ n
    · have q := decide_eq_true h0
      have HX : Hid (okEnd o n = decide (n ≤ 100)) := Lib.hid (by rw [HE.out, q]; rfl)
      clear HE
      go_wp2
      go_ret
      exact ⟨by rw [HX.out]; rfl, rfl⟩
    · have q := decide_eq_false h0
      have HX : Hid (okEnd o n = false) := Lib.hid (by rw [HE.out, q]; rfl)
      clear HE
      go_wp2
      go_ret
      exact ⟨by rw [HX.out]; rfl, rfl⟩
  | true =>
    by_cases h0 : 0 ≤ n
    · have q := decide_eq_true h0
      have HX : Hid (okEnd o n = decide (n ≤ 6)) := Lib.hid (by rw [HE.out, q]; rfl)
      clear HE
      go_wp2
      go_ret
      exact ⟨by rw [HX.out]; rfl, rfl⟩
    · have q := decide_eq_false h0
      have HX : Hid (okEnd o n = false) := Lib.hid (by rw [HE.out, q]; rfl)
      clear HE
      go_wp2
      go_ret
      exact ⟨by rw [HX.out]; rfl, rfl⟩
set_option maxRecDepth 1000000 in
set_option maxHeartbeats 4000000 in
theorem isMod_any (o n : Int) (w : World) : Calls Tryz.prog 241 #[.int .i64 o, .int .i64 n] w fun e w' => e = .returned (.bool (okMod o n)) ∧ w' = w := by
  by_cases h0 : n = 0
  · subst h0
    go_enter Tryz.func241, Tryz.ntmps241
    go_wp2
    go_ret
    exact ⟨rfl, rfl⟩
  have t0 : (n == 0) = false := by rw [beq_eq_false_iff_ne]; exact h0
  by_cases h10 : n = 10
  · subst h10
    clear h0 t0
    have HX : Hid (okMod o 10 = !digs o) := Lib.hid rfl
    go_enter Tryz.func241, Tryz.ntmps241
    go_wp2_with fail
    refine (countsDigits_any o _).mono ?_
    rintro e w' ⟨rfl, hw'⟩
    obtain rfl := hw'.symm
    go_wp2
    go_ret
    exact ⟨by rw [HX.out]; rfl, rfl⟩
  have t10 : (n == 10) = false := by rw [beq_eq_false_iff_ne]; exact h10
  by_cases h100 : n = 100
  · subst h100
    clear h0 t0 h10 t10
    have HX : Hid (okMod o 100 = !digs o) := Lib.hid rfl
    go_enter Tryz.func241, Tryz.ntmps241
    go_wp2_with fail
    refine (countsDigits_any o _).mono ?_
    rintro e w' ⟨rfl, hw'⟩
    obtain rfl := hw'.symm
    go_wp2
    go_ret
    exact ⟨by rw [HX.out]; rfl, rfl⟩
  have t100 : (n == 100) = false := by rw [beq_eq_false_iff_ne]; exact h100
  by_cases h2 : n = 2
  · subst h2
    clear h0 t0 h10 t10 h100 t100
    have HX : Hid (okMod o 2 = (decide (o = 1) || decide (o = 2))) := Lib.hid rfl
    by_cases o1 : o = 1
    · subst o1
      go_enter Tryz.func241, Tryz.ntmps241
      go_wp2
      go_ret
      exact ⟨by rw [HX.out]; rfl, rfl⟩
    · have s1 : (o == 1) = false := by rw [beq_eq_false_iff_ne]; exact o1
      have HY : Hid (okMod o 2 = decide (o = 2)) := Lib.hid (by rw [HX.out, decide_eq_false o1]; rfl)
      clear HX o1
      by_cases o2 : o = 2
      · subst o2
        go_enter Tryz.func241, Tryz.ntmps241
        go_wp2
        go_ret
        exact ⟨by rw [HY.out]; rfl, rfl⟩
      · have s2 : (o == 2) = false := by rw [beq_eq_false_iff_ne]; exact o2
        have HZ : Hid (okMod o 2 = false) := Lib.hid (by rw [HY.out, decide_eq_false o2])
        clear HY o2
        go_enter Tryz.func241, Tryz.ntmps241
        go_wp2
        go_ret
        exact ⟨by rw [HZ.out]; rfl, rfl⟩
  have t2 : (n == 2) = false := by rw [beq_eq_false_iff_ne]; exact h2
  by_cases h3 : n = 3
  · subst h3
    clear h0 t0 h10 t10 h100 t100 h2 t2
    have HX : Hid (okMod o 3 = (decide (o = 1) || decide (o = 2))) := Lib.hid rfl
    by_cases o1 : o = 1
    · subst o1
      go_enter Tryz.func241, Tryz.ntmps241
      go_wp2
      go_ret
      exact ⟨by rw [HX.out]; rfl, rfl⟩
    · have s1 : (o == 1) = false := by rw [beq_eq_false_iff_ne]; exact o1
      have HY : Hid (okMod o 3 = decide (o = 2)) := Lib.hid (by rw [HX.out, decide_eq_false o1]; rfl)
      clear HX o1
      by_cases o2 : o = 2
      · subst o2
        go_enter Tryz.func241, Tryz.ntmps241
        go_wp2
        go_ret
        exact ⟨by rw [HY.out]; rfl, rfl⟩
      · have s2 : (o == 2) = false := by rw [beq_eq_false_iff_ne]; exact o2
        have HZ : Hid (okMod o 3 = false) := Lib.hid (by rw [HY.out, decide_eq_false o2])
        clear HY o2
        go_enter Tryz.func241, Tryz.ntmps241
        go_wp2
        go_ret
        exact ⟨by rw [HZ.out]; rfl, rfl⟩
  have t3 : (n == 3) = false := by rw [beq_eq_false_iff_ne]; exact h3
  by_cases h4 : n = 4
  · subst h4
    clear h0 t0 h10 t10 h100 t100 h2 t2 h3 t3
    have HX : Hid (okMod o 4 = (decide (o = 1) || decide (o = 2))) := Lib.hid rfl
    by_cases o1 : o = 1
    · subst o1
      go_enter Tryz.func241, Tryz.ntmps241
      go_wp2
      go_ret
      exact ⟨by rw [HX.out]; rfl, rfl⟩
    · have s1 : (o == 1) = false := by rw [beq_eq_false_iff_ne]; exact o1
      have HY : Hid (okMod o 4 = decide (o = 2)) := Lib.hid (by rw [HX.out, decide_eq_false o1]; rfl)
      clear HX o1
      by_cases o2 : o = 2
      · subst o2
        go_enter Tryz.func241, Tryz.ntmps241
        go_wp2
        go_ret
        exact ⟨by rw [HY.out]; rfl, rfl⟩
      · have s2 : (o == 2) = false := by rw [beq_eq_false_iff_ne]; exact o2
        have HZ : Hid (okMod o 4 = false) := Lib.hid (by rw [HY.out, decide_eq_false o2])
        clear HY o2
        go_enter Tryz.func241, Tryz.ntmps241
        go_wp2
        go_ret
        exact ⟨by rw [HZ.out]; rfl, rfl⟩
  have t4 : (n == 4) = false := by rw [beq_eq_false_iff_ne]; exact h4
  by_cases h5 : n = 5
  · subst h5
    clear h0 t0 h10 t10 h100 t100 h2 t2 h3 t3 h4 t4
    have HX : Hid (okMod o 5 = (decide (o = 1) || decide (o = 2))) := Lib.hid rfl
    by_cases o1 : o = 1
    · subst o1
      go_enter Tryz.func241, Tryz.ntmps241
      go_wp2
      go_ret
      exact ⟨by rw [HX.out]; rfl, rfl⟩
    · have s1 : (o == 1) = false := by rw [beq_eq_false_iff_ne]; exact o1
      have HY : Hid (okMod o 5 = decide (o = 2)) := Lib.hid (by rw [HX.out, decide_eq_false o1]; rfl)
      clear HX o1
      by_cases o2 : o = 2
      · subst o2
        go_enter Tryz.func241, Tryz.ntmps241
        go_wp2
        go_ret
        exact ⟨by rw [HY.out]; rfl, rfl⟩
      · have s2 : (o == 2) = false := by rw [beq_eq_false_iff_ne]; exact o2
        have HZ : Hid (okMod o 5 = false) := Lib.hid (by rw [HY.out, decide_eq_false o2])
        clear HY o2
        go_enter Tryz.func241, Tryz.ntmps241
        go_wp2
        go_ret
        exact ⟨by rw [HZ.out]; rfl, rfl⟩
  have t5 : (n == 5) = false := by rw [beq_eq_false_iff_ne]; exact h5
  by_cases h6 : n = 6
  · subst h6
    clear h0 t0 h10 t10 h100 t100 h2 t2 h3 t3 h4 t4 h5 t5
    have HX : Hid (okMod o 6 = (decide (o = 1) || decide (o = 2))) := Lib.hid rfl
    by_cases o1 : o = 1
    · subst o1
      go_enter Tryz.func241, Tryz.ntmps241
      go_wp2
      go_ret
      exact ⟨by rw [HX.out]; rfl, rfl⟩
    · have s1 : (o == 1) = false := by rw [beq_eq_false_iff_ne]; exact o1
      have HY : Hid (okMod o 6 = decide (o = 2)) := Lib.hid (by rw [HX.out, decide_eq_false o1]; rfl)
      clear HX o1
      by_cases o2 : o = 2
      · subst o2
        go_enter Tryz.func241, Tryz.ntmps241
        go_wp2
        go_ret
        exact ⟨by rw [HY.out]; rfl, rfl⟩
      · have s2 : (o == 2) = false := by rw [beq_eq_false_iff_ne]; exact o2
        have HZ : Hid (okMod o 6 = false) := Lib.hid (by rw [HY.out, decide_eq_false o2])
        clear HY o2
        go_enter Tryz.func241, Tryz.ntmps241
        go_wp2
        go_ret
        exact ⟨by rw [HZ.out]; rfl, rfl⟩
  have t6 : (n == 6) = false := by rw [beq_eq_false_iff_ne]; exact h6
  by_cases h20 : n = 20
  · subst h20
    clear h0 t0 h10 t10 h100 t100 h2 t2 h3 t3 h4 t4 h5 t5 h6 t6
    have HX : Hid (okMod o 20 = (decide (o = 1) || decide (o = 2))) := Lib.hid rfl
    by_cases o1 : o = 1
    · subst o1
      go_enter Tryz.func241, Tryz.ntmps241
      go_wp2
      go_ret
      exact ⟨by rw [HX.out]; rfl, rfl⟩
    · have s1 : (o == 1) = false := by rw [beq_eq_false_iff_ne]; exact o1
      have HY : Hid (okMod o 20 = decide (o = 2)) := Lib.hid (by rw [HX.out, decide_eq_false o1]; rfl)
      clear HX o1
      by_cases o2 : o = 2
      · subst o2
        go_enter Tryz.func241, Tryz.ntmps241
        go_wp2
        go_ret
        exact ⟨by rw [HY.out]; rfl, rfl⟩
      · have s2 : (o == 2) = false := by rw [beq_eq_false_iff_ne]; exact o2
        have HZ : Hid (okMod o 20 = false) := Lib.hid (by rw [HY.out, decide_eq_false o2])
        clear HY o2
        go_enter Tryz.func241, Tryz.ntmps241
        go_wp2
        go_ret
        exact ⟨by rw [HZ.out]; rfl, rfl⟩
  have t20 : (n == 20) = false := by rw [beq_eq_false_iff_ne]; exact h20
  by_cases h25 : n = 25
  · subst h25
    clear h0 t0 h10 t10 h100 t100 h2 t2 h3 t3 h4 t4 h5 t5 h6 t6 h20 t20
    have HX : Hid (okMod o 25 = (decide (o = 1) || decide (o = 2))) := Lib.hid rfl
    by_cases o1 : o = 1
    · subst o1
      go_enter Tryz.func241, Tryz.ntmps241
      go_wp2
      go_ret
      exact ⟨by rw [HX.out]; rfl, rfl⟩
    · have s1 : (o == 1) = false := by rw [beq_eq_false_iff_ne]; exact o1
      have HY : Hid (okMod o 25 = decide (o = 2)) := Lib.hid (by rw [HX.out, decide_eq_false o1]; rfl)
      clear HX o1
      by_cases o2 : o = 2
      · subst o2
        go_enter Tryz.func241, Tryz.ntmps241
        go_wp2
        go_ret
        exact ⟨by rw [HY.out]; rfl, rfl⟩
      · have s2 : (o == 2) = false := by rw [beq_eq_false_iff_ne]; exact o2
        have HZ : Hid (okMod o 25 = false) := Lib.hid (by rw [HY.out, decide_eq_false o2])
        clear HY o2
        go_enter Tryz.func241, Tryz.ntmps241
        go_wp2
        go_ret
        exact ⟨by rw [HZ.out]; rfl, rfl⟩
  have t25 : (n == 25) = false := by rw [beq_eq_false_iff_ne]; exact h25
  by_cases h50 : n = 50
  · subst h50
    clear h0 t0 h10 t10 h100 t100 h2 t2 h3 t3 h4 t4 h5 t5 h6 t6 h20 t20 h25 t25
    have HX : Hid (okMod o 50 = (decide (o = 1) || decide (o = 2))) := Lib.hid rfl
    by_cases o1 : o = 1
    · subst o1
      go_enter Tryz.func241, Tryz.ntmps241
      go_wp2
      go_ret
      exact ⟨by rw [HX.out]; rfl, rfl⟩
    · have s1 : (o == 1) = false := by rw [beq_eq_false_iff_ne]; exact o1
      have HY : Hid (okMod o 50 = decide (o = 2)) := Lib.hid (by rw [HX.out, decide_eq_false o1]; rfl)
      clear HX o1
      by_cases o2 : o = 2
      · subst o2
        go_enter Tryz.func241, Tryz.ntmps241
        go_wp2
        go_ret
        exact ⟨by rw [HY.out]; rfl, rfl⟩
      · have s2 : (o == 2) = false := by rw [beq_eq_false_iff_ne]; exact o2
        have HZ : Hid (okMod o 50 = false) := Lib.hid (by rw [HY.out, decide_eq_false o2])
        clear HY o2
        go_enter Tryz.func241, Tryz.ntmps241
        go_wp2
        go_ret
        exact ⟨by rw [HZ.out]; rfl, rfl⟩
  have t50 : (n == 50) = false := by rw [beq_eq_false_iff_ne]; exact h50
  have HX : Hid (okMod o n = false) := Lib.hid (by unfold okMod; rw [if_neg h0, if_neg (by omega), if_neg (by omega)])
  clear h0 h10 h100 h2 h3 h4 h5 h6 h20 h25 h50
  go_enter Tryz.func241, Tryz.ntmps241
  go_wp2
  go_ret
  exact ⟨by rw [HX.out]; rfl, rfl⟩
end Go.Proofs.YtpmmchppfmojhaaGreatDoor


/- slices.IndexFunc, slices.ContainsFunc at spans, relations and lists of relations, at whatever function value. Of condition: all at spans and at relations, isValid, Valid. -/
namespace Go.Proofs.YtpmmchppfmojhaaGreatDoor
open Go.RowKit
set_option linter.unusedVariables false

theorem any_take_miss {α : Type} {l : List α} {q : α → Bool} (h : ∀ (j : Nat) (hj : j < l.length), j < l.length → q l[j] = false) : l.any q = false := by
  rw [List.any_eq_false]
  intro x hx
  obtain ⟨j, hj, rfl⟩ := List.getElem_of_mem hx
  rw [h j hj hj]; simp
theorem any_hit {α : Type} {l : List α} {q : α → Bool} {j : Nat} (hj : j < l.length) (h : q l[j] = true) : l.any q = true := List.any_eq_true.2 ⟨_, List.getElem_mem hj, h⟩

end Go.Proofs.YtpmmchppfmojhaaGreatDoor

namespace Go.Proofs.YtpmmchppfmojhaaGreatDoor
open Go.RowKit
set_option linter.unusedVariables false

end Go.Proofs.YtpmmchppfmojhaaGreatDoor


/- Of condition: Valid, holds, Holds. Of condition: Holds. Of condition: Equal. -/
namespace Go.Proofs.YtpmmchppfmojhaaGreatDoor
open Go.RowKit
set_option linter.unusedVariables false

end Go.Proofs.YtpmmchppfmojhaaGreatDoor

namespace Go.Proofs.YtpmmchppfmojhaaGreatDoor
open Go.RowKit
set_option linter.unusedVariables false

end Go.Proofs.YtpmmchppfmojhaaGreatDoor

namespace Go.Proofs.YtpmmchppfmojhaaGreatDoor
open Go.RowKit
set_option linter.unusedVariables false

/-- Two lists, equal element by element. -/
def allEq {α : Type} (q : α → α → Bool) : List α → List α → Bool
  | [], [] => true
  | x :: l, y :: m => q x y && allEq q l m
  | _, _ => false
theorem allEq_len {α : Type} {q : α → α → Bool} : ∀ {l m : List α}, l.length ≠ m.length → allEq q l m = false
  | [], [], h => absurd rfl h
  | [], _ :: _, _ => rfl
  | _ :: _, [], _ => rfl
  | x :: l, y :: m, h => by
    rw [allEq, allEq_len (by simpa using h), Bool.and_false]
theorem allEq_bad {α : Type} {q : α → α → Bool} : ∀ {l m : List α} {k : Nat} (h : k < l.length) (h' : k < m.length), q l[k] m[k] = false → allEq q l m = false
  | [], _, k, h, _, _ => by simp at h
  | _ :: _, [], k, _, h, _ => by simp at h
  | x :: l, y :: m, 0, _, _, h => by
    have h2 : q x y = false := h
    rw [allEq, h2, Bool.false_and]
  | x :: l, y :: m, k + 1, h, h', hq => by
    rw [allEq, allEq_bad (k := k) (by simpa using h) (by simpa using h') hq, Bool.and_false]
theorem allEq_good {α : Type} {q : α → α → Bool} : ∀ {l m : List α}, l.length = m.length → (∀ (k : Nat) (h : k < l.length) (h' : k < m.length), k < l.length → q l[k] m[k] = true) → allEq q l m = true
  | [], [], _, _ => rfl
  | [], _ :: _, h, _ => by simp at h
  | _ :: _, [], h, _ => by simp at h
  | x :: l, y :: m, h, hq => by
    have h0 : q x y = true := hq 0 (by simp) (by simp) (by simp)
    rw [allEq, h0, Bool.true_and]
    exact allEq_good (by simpa using h) (fun k a b _ => hq (k + 1) (by simpa using a) (by simpa using b) (by simpa using a))
theorem allEq_iff {α : Type} {q : α → α → Bool} (hq : ∀ x y, q x y = true ↔ x = y) : ∀ {l m : List α}, allEq q l m = true ↔ l = m
  | [], [] => by simp [allEq]
  | [], _ :: _ => by simp [allEq]
  | _ :: _, [] => by simp [allEq]
  | x :: l, y :: m => by rw [allEq, Bool.and_eq_true, hq, allEq_iff hq, List.cons_eq_cons]
def spq (x y : Int × Int) : Bool := decide (x.1 = y.1) && decide (x.2 = y.2)
theorem spq_iff (x y : Int × Int) : spq x y = true ↔ x = y := by
  obtain ⟨a, b⟩ := x
  obtain ⟨c, d⟩ := y
  unfold spq
  simp
def rlq (r s : Rel) : Bool := decide (r.op = s.op) && decide (r.md = s.md) && (r.nt == s.nt) && allEq spq r.sp s.sp
theorem rlq_iff (r s : Rel) : rlq r s = true ↔ r = s := by
  obtain ⟨a, b, c, d⟩ := r
  obtain ⟨a', b', c', d'⟩ := s
  unfold rlq
  simp [allEq_iff spq_iff, and_assoc]
def lsq (l m : List Rel) : Bool := allEq rlq l m
theorem lsq_iff (l m : List Rel) : lsq l m = true ↔ l = m := allEq_iff rlq_iff
def cdq (c d : Cnd) : Bool := allEq lsq c d
theorem cdq_iff (c d : Cnd) : cdq c d = true ↔ c = d := allEq_iff lsq_iff
/-- Two structs of two numbers compared. -/
theorem eqSp (x y : Int × Int) (wx : World) : (Op.equalIn 10000 180 (.agg #[.int .i64 x.1, .int .i64 x.2]) (.agg #[.int .i64 y.1, .int .i64 y.2])).run Tryz.prog wx = .ok (spq x y) wx := by
  obtain ⟨a, b⟩ := x
  obtain ⟨c, d⟩ := y
  rw [show (10000 : Nat) = 9999 + 1 from rfl, run_equalIn_struct _ 9999 _ _ _ (by kernel_rfl) (by kernel_rfl)]
  have u1 := Tryz.underlying3
  unfold spq
  by_cases h1 : a = c
  · subst h1
    by_cases h2 : b = d
    · subst h2
      go_simp
    · have e2 : (b == d) = false := by rw [beq_eq_false_iff_ne]; exact h2
      go_simp
  · have e1 : (a == c) = false := by rw [beq_eq_false_iff_ne]; exact h1
    go_simp

end Go.Proofs.YtpmmchppfmojhaaGreatDoor


/- Of calqueref12: sameTexts. -/
namespace Go.Proofs.YtpmmchppfmojhaaGreatDoor
open Go.RowKit
set_option linter.unusedVariables false

def teq (a b : Str) : Bool := decide (a = b)
theorem teq_self (a : Str) : teq a a = true := decide_eq_true rfl
theorem teq_ne {a b : Str} (h : a ≠ b) : teq a b = false := decide_eq_false h
theorem str_self (x : Str) : ((ofL x).toList == (ofL x).toList) = true ∧ ((ofL x).toList != (ofL x).toList) = false := ⟨beq_self_eq_true _, by rw [bne_eq_false_iff_eq]⟩
set_option maxRecDepth 1000000 in
set_option maxHeartbeats 8000000 in
theorem refTexts_any (u v : Value) (c d : List Str) (w : World) (hc : Rd 1 encT w u c) (hd : Rd 1 encT w v d) :
    Calls Tryz.prog 96 #[u, v] w fun e w' => e = .returned (.bool (allEq teq c d)) ∧ Below w.heap.size w w' := by
  have HC := Lib.hid hc
  have HD := Lib.hid hd
  obtain ⟨a1, n1, hu, hu1, hu2⟩ := hc.slice
  obtain ⟨a2, n2, hv, hv1, hv2⟩ := hd.slice
  subst hu hv
  clear hc hd
  by_cases hln : c.length = d.length
  case neg =>
    have t0 : ((c.length : Int) != (d.length : Int)) = true := by rw [bne_iff_ne]; omega
    have t0' : (c.length != d.length) = true := by rw [bne_iff_ne]; exact hln
    have HX : Hid (allEq teq c d = false) := Lib.hid (allEq_len hln)
    clear hln
    go_enter Tryz.func96, Tryz.ntmps96
    go_wp2
    go_ret
    exact ⟨by rw [HX.out]; rfl, Below.refl _ _⟩
  have HLN := Lib.hid hln
  have t0 : ((c.length : Int) != (d.length : Int)) = false := by rw [bne_eq_false_iff_eq]; omega
  have t0' : (c.length != d.length) = false := by rw [bne_eq_false_iff_eq]; exact hln
  clear hln
  go_enter Tryz.func96, Tryz.ntmps96
  go_wp2
  go_loopw [5] (fun v5 wr => ∃ k : Nat, k ≤ c.length ∧ v5 = .int .i64 k ∧ (∀ (j : Nat) (hj : j < c.length) (hj' : j < d.length), j < k → teq c[j] d[j] = true) ∧ Below w.heap.size w wr) (fun v5 _ => c.length - (intOf v5).toNat)
  case atStart => exact ⟨0, Nat.zero_le _, rfl, fun j _ _ h => by omega, Below.refl _ _⟩
  case round =>
    obtain ⟨k, hk, rfl, hkd, hb⟩ := hrel
    have HK := Lib.hid hkd
    have HB := Lib.hid hb
    have zr := hb.size
    clear hkd hb t0 t0'
    by_cases hlt : k < c.length
    · have hlt' : k < d.length := by rw [← HLN.out]; exact hlt
      obtain ⟨bk, off, rfl, h0, hx⟩ := (HC.out.below HB.out).some_ k hlt
      obtain ⟨bk', off', rfl, g0, gx⟩ := (HD.out.below HB.out).some_ k hlt'
      have h1 : wr.cell? ⟨bk, off + k * 1, none⟩ = some (.string (ofL c[k])) := hx 0 _ rfl
      have g1 : wr.cell? ⟨bk', off' + k * 1, none⟩ = some (.string (ofL d[k])) := gx 0 _ rfl
      rw [Nat.mul_one] at h1 g1
      have h9 : (k : Int) < (c.length : Int) := by omega
      have h9' : (k : Int) < (d.length : Int) := by omega
      have HBAD := Lib.hid (allEq_bad (q := teq) hlt hlt')
      have h1d : wr.drew.cell? ⟨bk, off + k, none⟩ = some (.string (ofL c[k])) := h1
      have g1d : wr.drew.cell? ⟨bk', off' + k, none⟩ = some (.string (ofL d[k])) := g1
      clear hx gx
      obtain ⟨x, hx⟩ : ∃ x, c[k] = x := ⟨_, rfl⟩
      obtain ⟨y, hy⟩ : ∃ y, d[k] = y := ⟨_, rfl⟩
      rw [hx] at h1 h1d HBAD
      rw [hy] at g1 g1d HBAD
      have HX := Lib.hid hx
      have HY := Lib.hid hy
      clear hx hy
      by_cases e : x = y
      · subst e
        have e1 := (str_self x).2
        go_wp2_with fail
        go_quiet (fail)
        go_wp2
        go_roundw
        case measure => simp [intOf]; omega
        case rel => exact ⟨k + 1, by omega, by go_num, fun j hj hj' hjk => by
          rcases Nat.lt_or_ge j k with h | h
          · exact HK.out j hj hj' h
          · obtain rfl : j = k := by omega
            rw [HX.out, HY.out]; exact teq_self x, below_drewN HB.out _⟩
      · have e1 := (str_ne e).1
        have HV : Hid (allEq teq c d = false) := Lib.hid (HBAD.out (teq_ne e))
        go_wp2_with fail
        go_quiet (fail)
        go_wp2
        go_ret
        exact ⟨by rw [HV.out]; rfl, below_drewN HB.out _⟩
    · obtain rfl : k = c.length := by omega
      have h3 : ¬ (c.length : Int) < (c.length : Int) := by omega
      have HV : Hid (allEq teq c d = true) := Lib.hid (allEq_good HLN.out HK.out)
      go_wp2
      go_ret
      exact ⟨by rw [HV.out]; rfl, HB.out⟩
end Go.Proofs.YtpmmchppfmojhaaGreatDoor


/- Of the reference: Few, Mods, has, Bound, proper, Valid. -/
namespace Go.Proofs.YtpmmchppfmojhaaGreatDoor
open Go.RowKit
set_option linter.unusedVariables false

def encI (x : Int) : List Value := [.int .i64 x]
theorem Rd.int {w : World} {a : Option Addr} {n c : Nat} {l : List Int} (h : Rd 1 encI w (.slice a n c) l) (i : Nat) (hi : i < l.length) : ∃ b off, a = some ⟨b, off, none⟩ ∧ w.cell? ⟨b, off + i, none⟩ = some (.int .i64 l[i]) := by
  obtain ⟨b, off, ha, _, hx⟩ := h.some_ i hi
  have := hx 0 _ rfl
  rw [Nat.mul_one, Nat.add_zero] at this
  exact ⟨b, off, ha, this⟩
end Go.Proofs.YtpmmchppfmojhaaGreatDoor


/- Of the reference on decimal numbers: digits, Zero, Value. Of the reference on decimal numbers: Trim. Of the reference on decimal numbers: Split. Of the reference on decimal numbers: Valid, Text, Normal. Of the reference on decimal numbers: Operand. -/
namespace Go.Proofs.YtpmmchppfmojhaaGreatDoor
open Go.RowKit
set_option linter.unusedVariables false
theorem of_extOf8 {a b : ByteArray} (h : a.data.toList = b.data.toList) : a = b := by rw [← of_data a, ← of_data b, h]
theorem add_two (x y : Str) : ofL x ++ ofL y = ofL (x ++ y) := of_extOf8 (by simp [ofL])
end Go.Proofs.YtpmmchppfmojhaaGreatDoor

namespace Go.Proofs.YtpmmchppfmojhaaGreatDoor
open Go.RowKit
set_option linter.unusedVariables false
end Go.Proofs.YtpmmchppfmojhaaGreatDoor

namespace Go.Proofs.YtpmmchppfmojhaaGreatDoor
open Go.RowKit
set_option linter.unusedVariables false
end Go.Proofs.YtpmmchppfmojhaaGreatDoor

namespace Go.Proofs.YtpmmchppfmojhaaGreatDoor
open Go.RowKit
set_option linter.unusedVariables false
end Go.Proofs.YtpmmchppfmojhaaGreatDoor

namespace Go.Proofs.YtpmmchppfmojhaaGreatDoor
open Go.RowKit
set_option linter.unusedVariables false
end Go.Proofs.YtpmmchppfmojhaaGreatDoor


/- Of the reference: Valid, Inside, Relation, Holds. -/
namespace Go.Proofs.YtpmmchppfmojhaaGreatDoor
open Go.RowKit
set_option linter.unusedVariables false

theorem cell_later {w w' : World} {p : Addr} {u : Value} (h : w.cell? p = some u) (hb : Below w.heap.size w w') : w'.cell? p = some u := (hb.cell (World.block_lt_of_cell? w p h)).trans h
end Go.Proofs.YtpmmchppfmojhaaGreatDoor


/- Of calqueref08: equal. Of calqueref08: Equal. -/
namespace Go.Proofs.YtpmmchppfmojhaaGreatDoor
open Go.RowKit
set_option linter.unusedVariables false

theorem rlq_op {r s : Rel} (h : r.op ≠ s.op) : rlq r s = false := by unfold rlq; rw [decide_eq_false h]; simp
theorem rlq_md {r s : Rel} (h : r.md ≠ s.md) : rlq r s = false := by unfold rlq; rw [decide_eq_false h]; simp
theorem rlq_nt {r s : Rel} (h : r.nt ≠ s.nt) : rlq r s = false := by unfold rlq; rw [show (r.nt == s.nt) = false from by rw [beq_eq_false_iff_ne]; exact h]; simp
theorem rlq_sp {r s : Rel} (h : allEq spq r.sp s.sp = false) : rlq r s = false := by unfold rlq; rw [h]; simp
theorem rlq_go (o m : Int) (n : Bool) (l l' : List (Int × Int)) : rlq ⟨o, m, n, l⟩ ⟨o, m, n, l'⟩ = allEq spq l l' := by unfold rlq; simp
set_option maxRecDepth 1000000 in
set_option maxHeartbeats 4000000 in
theorem refEqRel_any (r s : Rel) (a1 : Option Addr) (c1 : Nat) (a2 : Option Addr) (c2 : Nat) (w : World) (hr : Rd 2 encP w (.slice a1 r.sp.length c1) r.sp) (hs : Rd 2 encP w (.slice a2 s.sp.length c2) s.sp) :
    Calls Tryz.prog 208 #[.agg #[.int .i64 r.op, .int .i64 r.md, .bool r.nt, .slice a1 r.sp.length c1], .agg #[.int .i64 s.op, .int .i64 s.md, .bool s.nt, .slice a2 s.sp.length c2]] w fun e w' => e = .returned (.bool (rlq r s)) ∧ Below w.heap.size w w' := by
  have HR := Lib.hid hr
  have HS := Lib.hid hs
  obtain ⟨o, m, n, l⟩ := r
  obtain ⟨o', m', n', l'⟩ := s
  dsimp only at HR HS ⊢
  clear hr hs
  have BA := (Below.refl w.heap.size w).alloc (Nat.le_refl _) (.cells #[.int .i64 o, .int .i64 m, .bool n, .slice a1 l.length c1] 99)
  have BB := Lib.hid (BA.alloc BA.size (.cells #[.int .i64 o', .int .i64 m', .bool n', .slice a2 l'.length c2] 99))
  clear BA
  by_cases ho : o = o'
  case neg =>
    have e1 : (o != o') = true := by rw [bne_iff_ne]; exact ho
    have HX := Lib.hid (rlq_op (r := ⟨o, m, n, l⟩) (s := ⟨o', m', n', l'⟩) ho)
    clear ho
    go_enter Tryz.func208, Tryz.ntmps208
    go_wp2
    go_ret
    exact ⟨by rw [HX.out]; rfl, BB.out⟩
  subst ho
  by_cases hm : m = m'
  case neg =>
    have e1 : (m != m') = true := by rw [bne_iff_ne]; exact hm
    have HX := Lib.hid (rlq_md (r := ⟨o, m, n, l⟩) (s := ⟨o, m', n', l'⟩) hm)
    clear hm
    go_enter Tryz.func208, Tryz.ntmps208
    go_wp2
    go_ret
    exact ⟨by rw [HX.out]; rfl, BB.out⟩
  subst hm
  by_cases hn : n = n'
  case neg =>
    have HX := Lib.hid (rlq_nt (r := ⟨o, m, n, l⟩) (s := ⟨o, m, n', l'⟩) hn)
    cases n <;> cases n' <;> first
      | exact absurd rfl hn
      | (clear hn
         go_enter Tryz.func208, Tryz.ntmps208
         go_wp2
         go_ret
         exact ⟨by rw [HX.out]; rfl, BB.out⟩)
  subst hn
  by_cases hln : l.length = l'.length
  case neg =>
    have e1 : ((l.length : Int) != (l'.length : Int)) = true := by rw [bne_iff_ne]; omega
    have e2 : (l.length != l'.length) = true := by rw [bne_iff_ne]; exact hln
    have HX := Lib.hid (rlq_sp (r := ⟨o, m, n, l⟩) (s := ⟨o, m, n, l'⟩) (allEq_len (q := spq) hln))
    clear hln
    go_enter Tryz.func208, Tryz.ntmps208
    go_wp2
    go_ret
    exact ⟨by rw [HX.out]; rfl, BB.out⟩
  have HLN := Lib.hid hln
  have t0 : ((l.length : Int) != (l'.length : Int)) = false := by rw [bne_eq_false_iff_eq]; omega
  have t0' : (l.length != l'.length) = false := by rw [bne_eq_false_iff_eq]; exact hln
  have KA : Hid (Blk w.heap.size 99 #[.int .i64 o, .int .i64 m, .bool n, .slice a1 l.length c1] ((w.alloc (.cells #[.int .i64 o, .int .i64 m, .bool n, .slice a1 l.length c1] 99)).alloc (.cells #[.int .i64 o, .int .i64 m, .bool n, .slice a2 l'.length c2] 99))) := Lib.hid (Blk.below (heap_alloc_new w _) ((Below.refl _ _).alloc (Nat.le_refl _) _))
  have KB : Hid (Blk (w.heap.size + 1) 99 #[.int .i64 o, .int .i64 m, .bool n, .slice a2 l'.length c2] ((w.alloc (.cells #[.int .i64 o, .int .i64 m, .bool n, .slice a1 l.length c1] 99)).alloc (.cells #[.int .i64 o, .int .i64 m, .bool n, .slice a2 l'.length c2] 99))) := Lib.hid (by
    have := heap_alloc_new (w.alloc (.cells #[.int .i64 o, .int .i64 m, .bool n, .slice a1 l.length c1] 99)) (.cells #[.int .i64 o, .int .i64 m, .bool n, .slice a2 l'.length c2] 99)
    have e : (w.alloc (.cells #[.int .i64 o, .int .i64 m, .bool n, .slice a1 l.length c1] 99)).heap.size = w.heap.size + 1 := by unfold World.alloc; exact Array.size_push ..
    rw [e] at this
    exact this)
  have HRL := Lib.hid (rlq_go o m n l l')
  have hlb : l.length ≤ 9223372036854775807 := by
    obtain ⟨_, _, _, q1, q2⟩ := HR.out.slice
    omega
  clear hln
  go_enter Tryz.func208, Tryz.ntmps208
  go_wp2
  go_loopw [5] (fun v wr => ∃ k : Nat, k ≤ l.length ∧ v = .int .i64 k ∧ (∀ (j : Nat) (hj : j < l.length) (hj' : j < l'.length), j < k → spq l[j] l'[j] = true) ∧ Below w.heap.size w wr ∧ Blk w.heap.size 99 #[.int .i64 o, .int .i64 m, .bool n, .slice a1 l.length c1] wr ∧ Blk (w.heap.size + 1) 99 #[.int .i64 o, .int .i64 m, .bool n, .slice a2 l'.length c2] wr) (fun v _ => l.length - (intOf v).toNat)
  case atStart => exact ⟨0, Nat.zero_le _, rfl, fun j _ _ h => by omega, BB.out, KA.out, KB.out⟩
  case round =>
    obtain ⟨k, hk, rfl, hkd, hb, k1, k2⟩ := hrel
    have HK := Lib.hid hkd
    have HBW := Lib.hid hb
    have K1 := Lib.hid k1
    have K2 := Lib.hid k2
    have s3 : wr.cell? ⟨w.heap.size, 3, none⟩ = some (.slice a1 l.length c1) := k1.cell 3
    have z3 : wr.cell? ⟨w.heap.size + 1, 3, none⟩ = some (.slice a2 l'.length c2) := k2.cell 3
    have s3d : wr.drew.cell? ⟨w.heap.size, 3, none⟩ = some (.slice a1 l.length c1) := k1.cell 3
    have z3d : wr.drew.cell? ⟨w.heap.size + 1, 3, none⟩ = some (.slice a2 l'.length c2) := k2.cell 3
    clear hkd hb k1 k2 t0 t0' KA KB BB
    by_cases hlt : k < l.length
    · have hlt' : k < l'.length := by rw [← HLN.out]; exact hlt
      obtain ⟨bk, off, rfl, h0, h1⟩ := (HR.out.below HBW.out).span k hlt
      obtain ⟨bk', off', rfl, g0, g1⟩ := (HS.out.below HBW.out).span k hlt'
      have h9 : (k : Int) < (l.length : Int) := by omega
      have h9' : (k : Int) < (l'.length : Int) := by omega
      have e1 := eqSp l[k] l'[k]
      have d0 : wr.drew.cell? ⟨bk, off + k * 2, none⟩ = some (.int .i64 l[k].1) := h0
      have d1 : wr.drew.cell? ⟨bk, off + k * 2 + 1, none⟩ = some (.int .i64 l[k].2) := h1
      have f0 : wr.drew.cell? ⟨bk', off' + k * 2, none⟩ = some (.int .i64 l'[k].1) := g0
      have f1 : wr.drew.cell? ⟨bk', off' + k * 2 + 1, none⟩ = some (.int .i64 l'[k].2) := g1
      have HBAD := Lib.hid (allEq_bad (q := spq) hlt hlt')
      obtain ⟨x, hx⟩ : ∃ x, spq l[k] l'[k] = x := ⟨_, rfl⟩
      have HX := Lib.hid hx
      rw [hx] at e1
      clear hx
      cases x with
      | false =>
        have HV := Lib.hid (HBAD.out HX.out)
        go_wp2_with fail
        go_quiet (fail)
        go_wp2
        go_ret
        exact ⟨by rw [HRL.out, HV.out]; rfl, below_drewN HBW.out _⟩
      | true =>
        go_wp2_with fail
        go_quiet (fail)
        go_wp2
        go_roundw
        case measure => simp [intOf]; omega
        case rel => exact ⟨k + 1, by omega, by go_num, fun j hj hj' hjk => by
          rcases Nat.lt_or_ge j k with h | h
          · exact HK.out j hj hj' h
          · obtain rfl : j = k := by omega
            exact HX.out, below_drewN HBW.out _, K1.out.drewN _, K2.out.drewN _⟩
    · obtain rfl : k = l.length := by omega
      have h3 : ¬ (l.length : Int) < (l.length : Int) := by omega
      have HV := Lib.hid (allEq_good (q := spq) HLN.out HK.out)
      go_wp2
      go_ret
      exact ⟨by rw [HRL.out, HV.out]; rfl, HBW.out⟩
end Go.Proofs.YtpmmchppfmojhaaGreatDoor

namespace Go.Proofs.YtpmmchppfmojhaaGreatDoor
open Go.RowKit
set_option linter.unusedVariables false

theorem Rd.drewK {α : Type} {k : Nat} {enc : α → List Value} {w : World} {v : Value} {l : List α} (h : Rd k enc w v l) : Rd k enc w.drew v l := h.below (Below.refl _ _).drew
set_option maxRecDepth 1000000 in
set_option maxHeartbeats 8000000 in
theorem refEqual_any (u v : Value) (c d : Cnd) (w : World) (hc : RdC w u c) (hd : RdC w v d) :
    Calls Tryz.prog 153 #[u, v] w fun e w' => e = .returned (.bool (cdq c d)) ∧ Below w.heap.size w w' := by
  have HC := Lib.hid hc
  have HD := Lib.hid hd
  obtain ⟨a1, n1, hu, hu1, hu2⟩ := hc.slice
  obtain ⟨a2, n2, hv, hv1, hv2⟩ := hd.slice
  subst hu hv
  clear hc hd
  by_cases hln : c.length = d.length
  case neg =>
    have t0 : ((c.length : Int) != (d.length : Int)) = true := by rw [bne_iff_ne]; omega
    have t0' : (c.length != d.length) = true := by rw [bne_iff_ne]; exact hln
    have HX : Hid (cdq c d = false) := Lib.hid (allEq_len hln)
    clear hln
    go_enter Tryz.func153, Tryz.ntmps153
    go_wp2
    go_ret
    exact ⟨by rw [HX.out]; rfl, Below.refl _ _⟩
  have HLN := Lib.hid hln
  have t0 : ((c.length : Int) != (d.length : Int)) = false := by rw [bne_eq_false_iff_eq]; omega
  have t0' : (c.length != d.length) = false := by rw [bne_eq_false_iff_eq]; exact hln
  clear hln
  go_enter Tryz.func153, Tryz.ntmps153
  go_wp2
  go_loopw [5] (fun v5 wr => ∃ k : Nat, k ≤ c.length ∧ v5 = .int .i64 k ∧ (∀ (j : Nat) (hj : j < c.length) (hj' : j < d.length), j < k → lsq c[j] d[j] = true) ∧ Below w.heap.size w wr) (fun v5 _ => c.length - (intOf v5).toNat)
  case atStart => exact ⟨0, Nat.zero_le _, rfl, fun j _ _ h => by omega, Below.refl _ _⟩
  case round =>
    obtain ⟨k, hk, rfl, hkd, hb⟩ := hrel
    have HK := Lib.hid hkd
    have HB := Lib.hid hb
    have zr := hb.size
    clear hkd hb t0 t0'
    by_cases hlt : k < c.length
    · have hlt' : k < d.length := by rw [← HLN.out]; exact hlt
      obtain ⟨bk, off, x1, x2, rfl, h0, h4⟩ := (HC.out.below HB.out).at_ k hlt
      obtain ⟨bk', off', z1, z2, rfl, g0, g4⟩ := (HD.out.below HB.out).at_ k hlt'
      have h9 : (k : Int) < (c.length : Int) := by omega
      have h9' : (k : Int) < (d.length : Int) := by omega
      have h0d : wr.drew.cell? ⟨bk, off + k, none⟩ = some (.slice x1 c[k].length x2) := h0
      have g0d : wr.drew.cell? ⟨bk', off' + k, none⟩ = some (.slice z1 d[k].length z2) := g0
      have HBAD := Lib.hid (allEq_bad (q := lsq) hlt hlt')
      obtain ⟨l, hl⟩ : ∃ l, c[k] = l := ⟨_, rfl⟩
      obtain ⟨m, hm⟩ : ∃ m, d[k] = m := ⟨_, rfl⟩
      have HL := Lib.hid hl
      have HM := Lib.hid hm
      rw [hl] at h0 h0d h4 HBAD
      rw [hm] at g0 g0d g4 HBAD
      have H4 := Lib.hid h4
      have G4 := Lib.hid g4
      obtain ⟨_, _, _, q1, q2⟩ := h4.slice
      have hlb : l.length ≤ 9223372036854775807 := by omega
      have H0 := Lib.hid h0
      have G0 := Lib.hid g0
      clear hl hm h4 g4 q1 q2
      by_cases hlm : l.length = m.length
      case neg =>
        have s0 : ((l.length : Int) != (m.length : Int)) = true := by rw [bne_iff_ne]; omega
        have s0' : (l.length != m.length) = true := by rw [bne_iff_ne]; exact hlm
        have HX : Hid (cdq c d = false) := Lib.hid (HBAD.out (allEq_len hlm))
        clear hlm
        go_wp2_with fail
        go_quiet (fail)
        go_wp2
        go_ret
        exact ⟨by rw [HX.out]; rfl, below_drewN HB.out _⟩
      have HLM := Lib.hid hlm
      have s0 : ((l.length : Int) != (m.length : Int)) = false := by rw [bne_eq_false_iff_eq]; omega
      have s0' : (l.length != m.length) = false := by rw [bne_eq_false_iff_eq]; exact hlm
      clear hlm
      go_wp2_with fail
      go_quiet (fail)
      go_wp2
      go_loopw [6] (fun v6 wz => ∃ j : Nat, j ≤ l.length ∧ v6 = .int .i64 j ∧ (∀ (i : Nat) (hi : i < l.length) (hi' : i < m.length), i < j → rlq l[i] m[i] = true) ∧ Below wr.heap.size wr wz) (fun v6 _ => l.length - (intOf v6).toNat)
      case atStart => exact ⟨0, Nat.zero_le _, rfl, fun i _ _ h => by omega, below_drewN (Below.refl _ _) _⟩
      case round =>
        obtain ⟨j, hj, rfl, hjd, hbz⟩ := hrel
        have HJ := Lib.hid hjd
        have HBZ := Lib.hid hbz
        have r0 := cell_later H0.out hbz
        have r1 := cell_later G0.out hbz
        have r0d : wr.drew.cell? ⟨bk, off + k, none⟩ = some (.slice x1 l.length x2) := r0
        have r1d : wr.drew.cell? ⟨bk', off' + k, none⟩ = some (.slice z1 m.length z2) := r1
        clear hjd hbz h0 g0 h0d g0d s0 s0'
        by_cases hjt : j < l.length
        · have hjt' : j < m.length := by rw [← HLM.out]; exact hjt
          obtain ⟨bm, om, y1, y2, rfl, p0, p1, p2, p3, p4⟩ := (H4.out.below HBZ.out).at_ j hjt
          obtain ⟨bm', om', y1', y2', rfl, o0, o1, o2, o3, o4⟩ := (G4.out.below HBZ.out).at_ j hjt'
          have h8 : (j : Int) < (l.length : Int) := by omega
          have h8' : (j : Int) < (m.length : Int) := by omega
          have HBADL := Lib.hid (allEq_bad (q := rlq) hjt hjt')
          obtain ⟨r, hr⟩ : ∃ r, l[j] = r := ⟨_, rfl⟩
          obtain ⟨s, hs⟩ : ∃ s, m[j] = s := ⟨_, rfl⟩
          have HR := Lib.hid hr
          have HS := Lib.hid hs
          rw [hr] at p0 p1 p2 p3 p4 HBADL
          rw [hs] at o0 o1 o2 o3 o4 HBADL
          have HCE : Hid (∀ wx, Below wr.heap.size wr wx → wx.cell? ⟨bk, off + k, none⟩ = some (.slice (some ⟨bm, om, none⟩) l.length x2) ∧ wx.cell? ⟨bk', off' + k, none⟩ = some (.slice (some ⟨bm', om', none⟩) m.length z2) ∧ wx.cell? ⟨bm, om + j * 4, none⟩ = some (.int .i64 r.op) ∧ wx.cell? ⟨bm, om + j * 4 + 1, none⟩ = some (.int .i64 r.md) ∧ wx.cell? ⟨bm, om + j * 4 + 2, none⟩ = some (.bool r.nt) ∧ wx.cell? ⟨bm, om + j * 4 + 3, none⟩ = some (.slice y1 r.sp.length y2) ∧ wx.cell? ⟨bm', om' + j * 4, none⟩ = some (.int .i64 s.op) ∧ wx.cell? ⟨bm', om' + j * 4 + 1, none⟩ = some (.int .i64 s.md) ∧ wx.cell? ⟨bm', om' + j * 4 + 2, none⟩ = some (.bool s.nt) ∧ wx.cell? ⟨bm', om' + j * 4 + 3, none⟩ = some (.slice y1' s.sp.length y2')) := Lib.hid (fun wx hb => ⟨cell_later r0 hb, cell_later r1 hb, cell_later p0 hb, cell_later p1 hb, cell_later p2 hb, cell_later p3 hb, cell_later o0 hb, cell_later o1 hb, cell_later o2 hb, cell_later o3 hb⟩)
          have P4 := Lib.hid (p4.drewK)
          have O4 := Lib.hid (o4.drewK)
          obtain ⟨b, hbb⟩ : ∃ b, rlq r s = b := ⟨_, rfl⟩
          have HQ := Lib.hid hbb
          have HCALL := Lib.hid (refEqRel_any r s y1 y2 y1' y2' wr.drew P4.out O4.out)
          rw [hbb] at HCALL
          clear hr hs p4 o4 hbb
          go_wp2_with fail
          go_region_held3 (fun wx => wx.cell? ⟨bk, off + k, none⟩ = some (.slice (some ⟨bm, om, none⟩) l.length x2) ∧ wx.cell? ⟨bk', off' + k, none⟩ = some (.slice (some ⟨bm', om', none⟩) m.length z2) ∧ wx.cell? ⟨bm, om + j * 4, none⟩ = some (.int .i64 r.op) ∧ wx.cell? ⟨bm, om + j * 4 + 1, none⟩ = some (.int .i64 r.md) ∧ wx.cell? ⟨bm, om + j * 4 + 2, none⟩ = some (.bool r.nt) ∧ wx.cell? ⟨bm, om + j * 4 + 3, none⟩ = some (.slice y1 r.sp.length y2) ∧ wx.cell? ⟨bm', om' + j * 4, none⟩ = some (.int .i64 s.op) ∧ wx.cell? ⟨bm', om' + j * 4 + 1, none⟩ = some (.int .i64 s.md) ∧ wx.cell? ⟨bm', om' + j * 4 + 2, none⟩ = some (.bool s.nt) ∧ wx.cell? ⟨bm', om' + j * 4 + 3, none⟩ = some (.slice y1' s.sp.length y2')) (first | exact HCE.out _ B2 | exact HCE.out _ (Below.refl _ _).drew) (first | (go_at_call 208; refine HCALL.out.mono ?_; rintro e w2 ⟨rfl, b2⟩; have B2 : Below wr.heap.size wr w2 := (Below.refl _ wr).drew.trans b2; clear b2))
          cases b with
          | false =>
            have HV : Hid (cdq c d = false) := Lib.hid (HBAD.out (HBADL.out HQ.out))
            go_wp2
            go_ret
            exact ⟨by rw [HV.out]; rfl, st HB.out (HBZ.out.trans (B2.mono HBZ.out.size)) zr⟩
          | true =>
            go_wp2
            go_roundw
            case measure => simp [intOf]; omega
            case rel => exact ⟨j + 1, by omega, by go_num, fun i hi hi' hij => by
              rcases Nat.lt_or_ge i j with h | h
              · exact HJ.out i hi hi' h
              · obtain rfl : i = j := by omega
                rw [HR.out, HS.out]; exact HQ.out, HBZ.out.trans (B2.mono HBZ.out.size)⟩
        · obtain rfl : j = l.length := by omega
          have h3 : ¬ (l.length : Int) < (l.length : Int) := by omega
          have HG : Hid (lsq l m = true) := Lib.hid (allEq_good HLM.out HJ.out)
          go_wp2
          go_roundw
          case measure => simp [intOf]; omega
          case rel => exact ⟨k + 1, by omega, by go_num, fun i hi hi' hik => by
            rcases Nat.lt_or_ge i k with h | h
            · exact HK.out i hi hi' h
            · obtain rfl : i = k := by omega
              rw [HL.out, HM.out]; exact HG.out, st HB.out HBZ.out zr⟩
    · obtain rfl : k = c.length := by omega
      have h3 : ¬ (c.length : Int) < (c.length : Int) := by omega
      have HV : Hid (cdq c d = true) := Lib.hid (allEq_good HLN.out HK.out)
      go_wp2
      go_ret
      exact ⟨by rw [HV.out]; rfl, HB.out⟩
end Go.Proofs.YtpmmchppfmojhaaGreatDoor


/- Structs of strings and numbers compared. Of calqueref12: sameRules. -/
namespace Go.Proofs.YtpmmchppfmojhaaGreatDoor
open Go.RowKit
set_option linter.unusedVariables false

set_option maxRecDepth 100000 in
set_option maxHeartbeats 4000000 in
theorem eqAl (x y : Str × Str) (wx : World) : (Op.equalIn 10000 61 (.agg #[.string (ofL x.1), .string (ofL x.2)]) (.agg #[.string (ofL y.1), .string (ofL y.2)])).run Tryz.prog wx = .ok (decide (x = y)) wx := by
  obtain ⟨a0, a1⟩ := x
  obtain ⟨b0, b1⟩ := y
  rw [show (10000 : Nat) = 9999 + 1 from rfl, run_equalIn_struct _ 9999 _ _ _ (by kernel_rfl) (by kernel_rfl)]
  have u1 := Tryz.underlying9
  dsimp only
  by_cases h0 : a0 = b0
  case neg =>
    have e0 := (str_ne h0).1
    have hv := Lib.hid (decide_eq_false (p := (⟨a0, a1⟩ : Str × Str) = ⟨b0, b1⟩) (fun h => by injection h with q0 q1; exact h0 q0))
    clear h0
    rw [hv.out]
    go_simp
  subst h0
  have e0 := (str_self a0).1
  by_cases h1 : a1 = b1
  case neg =>
    have e1 := (str_ne h1).1
    have hv := Lib.hid (decide_eq_false (p := (⟨a0, a1⟩ : Str × Str) = ⟨a0, b1⟩) (fun h => by injection h with q0 q1; exact h1 q1))
    clear h1
    rw [hv.out]
    go_simp
  subst h1
  have e1 := (str_self a1).1
  have hv := Lib.hid (decide_eq_true (p := (⟨a0, a1⟩ : Str × Str) = ⟨a0, a1⟩) rfl)
  rw [hv.out]
  go_simp
set_option maxRecDepth 100000 in
set_option maxHeartbeats 4000000 in
theorem eqDa (x y : Str × Str) (wx : World) : (Op.equalIn 10000 124 (.agg #[.string (ofL x.1), .string (ofL x.2)]) (.agg #[.string (ofL y.1), .string (ofL y.2)])).run Tryz.prog wx = .ok (decide (x = y)) wx := by
  obtain ⟨a0, a1⟩ := x
  obtain ⟨b0, b1⟩ := y
  rw [show (10000 : Nat) = 9999 + 1 from rfl, run_equalIn_struct _ 9999 _ _ _ (by kernel_rfl) (by kernel_rfl)]
  have u1 := Tryz.underlying9
  dsimp only
  by_cases h0 : a0 = b0
  case neg =>
    have e0 := (str_ne h0).1
    have hv := Lib.hid (decide_eq_false (p := (⟨a0, a1⟩ : Str × Str) = ⟨b0, b1⟩) (fun h => by injection h with q0 q1; exact h0 q0))
    clear h0
    rw [hv.out]
    go_simp
  subst h0
  have e0 := (str_self a0).1
  by_cases h1 : a1 = b1
  case neg =>
    have e1 := (str_ne h1).1
    have hv := Lib.hid (decide_eq_false (p := (⟨a0, a1⟩ : Str × Str) = ⟨a0, b1⟩) (fun h => by injection h with q0 q1; exact h1 q1))
    clear h1
    rw [hv.out]
    go_simp
  subst h1
  have e1 := (str_self a1).1
  have hv := Lib.hid (decide_eq_true (p := (⟨a0, a1⟩ : Str × Str) = ⟨a0, a1⟩) rfl)
  rw [hv.out]
  go_simp
set_option maxRecDepth 100000 in
set_option maxHeartbeats 4000000 in
theorem eqNe (x y : Nea) (wx : World) : (Op.equalIn 10000 36 (.agg #[.string (ofL x.fr), .string (ofL x.to_), .int .i64 x.co]) (.agg #[.string (ofL y.fr), .string (ofL y.to_), .int .i64 y.co])).run Tryz.prog wx = .ok (decide (x = y)) wx := by
  obtain ⟨a0, a1, a2⟩ := x
  obtain ⟨b0, b1, b2⟩ := y
  rw [show (10000 : Nat) = 9999 + 1 from rfl, run_equalIn_struct _ 9999 _ _ _ (by kernel_rfl) (by kernel_rfl)]
  have u1 := Tryz.underlying9
  have u2 := Tryz.underlying3
  dsimp only
  by_cases h0 : a0 = b0
  case neg =>
    have e0 := (str_ne h0).1
    have hv := Lib.hid (decide_eq_false (p := (⟨a0, a1, a2⟩ : Nea) = ⟨b0, b1, b2⟩) (fun h => by injection h with q0 q1 q2; exact h0 q0))
    clear h0
    rw [hv.out]
    go_simp
  subst h0
  have e0 := (str_self a0).1
  by_cases h1 : a1 = b1
  case neg =>
    have e1 := (str_ne h1).1
    have hv := Lib.hid (decide_eq_false (p := (⟨a0, a1, a2⟩ : Nea) = ⟨a0, b1, b2⟩) (fun h => by injection h with q0 q1 q2; exact h1 q1))
    clear h1
    rw [hv.out]
    go_simp
  subst h1
  have e1 := (str_self a1).1
  by_cases h2 : a2 = b2
  case neg =>
    have e2 : (a2 == b2) = false := by rw [beq_eq_false_iff_ne]; exact h2
    have hv := Lib.hid (decide_eq_false (p := (⟨a0, a1, a2⟩ : Nea) = ⟨a0, a1, b2⟩) (fun h => by injection h with q0 q1 q2; exact h2 q2))
    clear h2
    rw [hv.out]
    go_simp
  subst h2
  have e2 : (a2 == a2) = true := beq_self_eq_true _
  have hv := Lib.hid (decide_eq_true (p := (⟨a0, a1, a2⟩ : Nea) = ⟨a0, a1, a2⟩) rfl)
  rw [hv.out]
  go_simp
set_option maxRecDepth 100000 in
set_option maxHeartbeats 4000000 in
theorem eqUn (x y : Uni) (wx : World) : (Op.equalIn 10000 120 (.agg #[.string (ofL x.un), .string (ofL x.cl), .string (ofL x.pt)]) (.agg #[.string (ofL y.un), .string (ofL y.cl), .string (ofL y.pt)])).run Tryz.prog wx = .ok (decide (x = y)) wx := by
  obtain ⟨a0, a1, a2⟩ := x
  obtain ⟨b0, b1, b2⟩ := y
  rw [show (10000 : Nat) = 9999 + 1 from rfl, run_equalIn_struct _ 9999 _ _ _ (by kernel_rfl) (by kernel_rfl)]
  have u1 := Tryz.underlying9
  dsimp only
  by_cases h0 : a0 = b0
  case neg =>
    have e0 := (str_ne h0).1
    have hv := Lib.hid (decide_eq_false (p := (⟨a0, a1, a2⟩ : Uni) = ⟨b0, b1, b2⟩) (fun h => by injection h with q0 q1 q2; exact h0 q0))
    clear h0
    rw [hv.out]
    go_simp
  subst h0
  have e0 := (str_self a0).1
  by_cases h1 : a1 = b1
  case neg =>
    have e1 := (str_ne h1).1
    have hv := Lib.hid (decide_eq_false (p := (⟨a0, a1, a2⟩ : Uni) = ⟨a0, b1, b2⟩) (fun h => by injection h with q0 q1 q2; exact h1 q1))
    clear h1
    rw [hv.out]
    go_simp
  subst h1
  have e1 := (str_self a1).1
  by_cases h2 : a2 = b2
  case neg =>
    have e2 := (str_ne h2).1
    have hv := Lib.hid (decide_eq_false (p := (⟨a0, a1, a2⟩ : Uni) = ⟨a0, a1, b2⟩) (fun h => by injection h with q0 q1 q2; exact h2 q2))
    clear h2
    rw [hv.out]
    go_simp
  subst h2
  have e2 := (str_self a2).1
  have hv := Lib.hid (decide_eq_true (p := (⟨a0, a1, a2⟩ : Uni) = ⟨a0, a1, a2⟩) rfl)
  rw [hv.out]
  go_simp
set_option maxRecDepth 100000 in
set_option maxHeartbeats 4000000 in
theorem eqLi (x y : Lis) (wx : World) : (Op.equalIn 10000 116 (.agg #[.string (ofL x.st), .string (ofL x.two), .string (ofL x.sa), .string (ofL x.md), .string (ofL x.en)]) (.agg #[.string (ofL y.st), .string (ofL y.two), .string (ofL y.sa), .string (ofL y.md), .string (ofL y.en)])).run Tryz.prog wx = .ok (decide (x = y)) wx := by
  obtain ⟨a0, a1, a2, a3, a4⟩ := x
  obtain ⟨b0, b1, b2, b3, b4⟩ := y
  rw [show (10000 : Nat) = 9999 + 1 from rfl, run_equalIn_struct _ 9999 _ _ _ (by kernel_rfl) (by kernel_rfl)]
  have u1 := Tryz.underlying9
  dsimp only
  by_cases h0 : a0 = b0
  case neg =>
    have e0 := (str_ne h0).1
    have hv := Lib.hid (decide_eq_false (p := (⟨a0, a1, a2, a3, a4⟩ : Lis) = ⟨b0, b1, b2, b3, b4⟩) (fun h => by injection h with q0 q1 q2 q3 q4; exact h0 q0))
    clear h0
    rw [hv.out]
    go_simp
  subst h0
  have e0 := (str_self a0).1
  by_cases h1 : a1 = b1
  case neg =>
    have e1 := (str_ne h1).1
    have hv := Lib.hid (decide_eq_false (p := (⟨a0, a1, a2, a3, a4⟩ : Lis) = ⟨a0, b1, b2, b3, b4⟩) (fun h => by injection h with q0 q1 q2 q3 q4; exact h1 q1))
    clear h1
    rw [hv.out]
    go_simp
  subst h1
  have e1 := (str_self a1).1
  by_cases h2 : a2 = b2
  case neg =>
    have e2 := (str_ne h2).1
    have hv := Lib.hid (decide_eq_false (p := (⟨a0, a1, a2, a3, a4⟩ : Lis) = ⟨a0, a1, b2, b3, b4⟩) (fun h => by injection h with q0 q1 q2 q3 q4; exact h2 q2))
    clear h2
    rw [hv.out]
    go_simp
  subst h2
  have e2 := (str_self a2).1
  by_cases h3 : a3 = b3
  case neg =>
    have e3 := (str_ne h3).1
    have hv := Lib.hid (decide_eq_false (p := (⟨a0, a1, a2, a3, a4⟩ : Lis) = ⟨a0, a1, a2, b3, b4⟩) (fun h => by injection h with q0 q1 q2 q3 q4; exact h3 q3))
    clear h3
    rw [hv.out]
    go_simp
  subst h3
  have e3 := (str_self a3).1
  by_cases h4 : a4 = b4
  case neg =>
    have e4 := (str_ne h4).1
    have hv := Lib.hid (decide_eq_false (p := (⟨a0, a1, a2, a3, a4⟩ : Lis) = ⟨a0, a1, a2, a3, b4⟩) (fun h => by injection h with q0 q1 q2 q3 q4; exact h4 q4))
    clear h4
    rw [hv.out]
    go_simp
  subst h4
  have e4 := (str_self a4).1
  have hv := Lib.hid (decide_eq_true (p := (⟨a0, a1, a2, a3, a4⟩ : Lis) = ⟨a0, a1, a2, a3, a4⟩) rfl)
  rw [hv.out]
  go_simp
set_option maxRecDepth 100000 in
set_option maxHeartbeats 4000000 in
theorem eqSy (x y : Sym) (wx : World) : (Op.equalIn 10000 45 (.agg #[.string (ofL x.de), .string (ofL x.gr), .string (ofL x.mi), .string (ofL x.pe), .int .i64 x.pr, .int .i64 x.se]) (.agg #[.string (ofL y.de), .string (ofL y.gr), .string (ofL y.mi), .string (ofL y.pe), .int .i64 y.pr, .int .i64 y.se])).run Tryz.prog wx = .ok (decide (x = y)) wx := by
  obtain ⟨a0, a1, a2, a3, a4, a5⟩ := x
  obtain ⟨b0, b1, b2, b3, b4, b5⟩ := y
  rw [show (10000 : Nat) = 9999 + 1 from rfl, run_equalIn_struct _ 9999 _ _ _ (by kernel_rfl) (by kernel_rfl)]
  have u1 := Tryz.underlying9
  have u2 := Tryz.underlying3
  dsimp only
  by_cases h0 : a0 = b0
  case neg =>
    have e0 := (str_ne h0).1
    have hv := Lib.hid (decide_eq_false (p := (⟨a0, a1, a2, a3, a4, a5⟩ : Sym) = ⟨b0, b1, b2, b3, b4, b5⟩) (fun h => by injection h with q0 q1 q2 q3 q4 q5; exact h0 q0))
    clear h0
    rw [hv.out]
    go_simp
  subst h0
  have e0 := (str_self a0).1
  by_cases h1 : a1 = b1
  case neg =>
    have e1 := (str_ne h1).1
    have hv := Lib.hid (decide_eq_false (p := (⟨a0, a1, a2, a3, a4, a5⟩ : Sym) = ⟨a0, b1, b2, b3, b4, b5⟩) (fun h => by injection h with q0 q1 q2 q3 q4 q5; exact h1 q1))
    clear h1
    rw [hv.out]
    go_simp
  subst h1
  have e1 := (str_self a1).1
  by_cases h2 : a2 = b2
  case neg =>
    have e2 := (str_ne h2).1
    have hv := Lib.hid (decide_eq_false (p := (⟨a0, a1, a2, a3, a4, a5⟩ : Sym) = ⟨a0, a1, b2, b3, b4, b5⟩) (fun h => by injection h with q0 q1 q2 q3 q4 q5; exact h2 q2))
    clear h2
    rw [hv.out]
    go_simp
  subst h2
  have e2 := (str_self a2).1
  by_cases h3 : a3 = b3
  case neg =>
    have e3 := (str_ne h3).1
    have hv := Lib.hid (decide_eq_false (p := (⟨a0, a1, a2, a3, a4, a5⟩ : Sym) = ⟨a0, a1, a2, b3, b4, b5⟩) (fun h => by injection h with q0 q1 q2 q3 q4 q5; exact h3 q3))
    clear h3
    rw [hv.out]
    go_simp
  subst h3
  have e3 := (str_self a3).1
  by_cases h4 : a4 = b4
  case neg =>
    have e4 : (a4 == b4) = false := by rw [beq_eq_false_iff_ne]; exact h4
    have hv := Lib.hid (decide_eq_false (p := (⟨a0, a1, a2, a3, a4, a5⟩ : Sym) = ⟨a0, a1, a2, a3, b4, b5⟩) (fun h => by injection h with q0 q1 q2 q3 q4 q5; exact h4 q4))
    clear h4
    rw [hv.out]
    go_simp
  subst h4
  have e4 : (a4 == a4) = true := beq_self_eq_true _
  by_cases h5 : a5 = b5
  case neg =>
    have e5 : (a5 == b5) = false := by rw [beq_eq_false_iff_ne]; exact h5
    have hv := Lib.hid (decide_eq_false (p := (⟨a0, a1, a2, a3, a4, a5⟩ : Sym) = ⟨a0, a1, a2, a3, a4, b5⟩) (fun h => by injection h with q0 q1 q2 q3 q4 q5; exact h5 q5))
    clear h5
    rw [hv.out]
    go_simp
  subst h5
  have e5 : (a5 == a5) = true := beq_self_eq_true _
  have hv := Lib.hid (decide_eq_true (p := (⟨a0, a1, a2, a3, a4, a5⟩ : Sym) = ⟨a0, a1, a2, a3, a4, a5⟩) rfl)
  rw [hv.out]
  go_simp

def ruq (r s : Rul) : Bool := teq r.1 s.1 && cdq r.2 s.2
theorem ruq_cls {r s : Rul} (h : r.1 ≠ s.1) : ruq r s = false := by unfold ruq; rw [teq_ne h]; rfl
theorem ruq_iff (r s : Rul) : ruq r s = true ↔ r = s := by
  obtain ⟨a, b⟩ := r
  obtain ⟨c, d⟩ := s
  unfold ruq teq
  rw [Bool.and_eq_true, cdq_iff, decide_eq_true_eq]
  simp
theorem ruq_go (c : Str) (x y : Cnd) : ruq (c, x) (c, y) = cdq x y := by unfold ruq; rw [teq_self]; rfl
set_option maxRecDepth 1000000 in
set_option maxHeartbeats 8000000 in
theorem refRules_any (u v : Value) (c d : List Rul) (w : World) (hc : RdRul w u c) (hd : RdRul w v d) :
    Calls Tryz.prog 95 #[u, v] w fun e w' => e = .returned (.bool (allEq ruq c d)) ∧ Below w.heap.size w w' := by
  have HC := Lib.hid hc
  have HD := Lib.hid hd
  obtain ⟨a1, n1, hu, hu1, hu2⟩ := hc.slice
  obtain ⟨a2, n2, hv, hv1, hv2⟩ := hd.slice
  subst hu hv
  clear hc hd
  by_cases hln : c.length = d.length
  case neg =>
    have t0 : ((c.length : Int) != (d.length : Int)) = true := by rw [bne_iff_ne]; omega
    have t0' : (c.length != d.length) = true := by rw [bne_iff_ne]; exact hln
    have HX : Hid (allEq ruq c d = false) := Lib.hid (allEq_len hln)
    clear hln
    go_enter Tryz.func95, Tryz.ntmps95
    go_wp2
    go_ret
    exact ⟨by rw [HX.out]; rfl, Below.refl _ _⟩
  have HLN := Lib.hid hln
  have t0 : ((c.length : Int) != (d.length : Int)) = false := by rw [bne_eq_false_iff_eq]; omega
  have t0' : (c.length != d.length) = false := by rw [bne_eq_false_iff_eq]; exact hln
  clear hln
  go_enter Tryz.func95, Tryz.ntmps95
  go_wp2
  go_loopw [5] (fun v5 wr => ∃ k : Nat, k ≤ c.length ∧ v5 = .int .i64 k ∧ (∀ (j : Nat) (hj : j < c.length) (hj' : j < d.length), j < k → ruq c[j] d[j] = true) ∧ Below w.heap.size w wr) (fun v5 _ => c.length - (intOf v5).toNat)
  case atStart => exact ⟨0, Nat.zero_le _, rfl, fun j _ _ h => by omega, Below.refl _ _⟩
  case round =>
    obtain ⟨k, hk, rfl, hkd, hb⟩ := hrel
    have HK := Lib.hid hkd
    have HB := Lib.hid hb
    have zr := hb.size
    clear hkd hb t0 t0'
    by_cases hlt : k < c.length
    · have hlt' : k < d.length := by rw [← HLN.out]; exact hlt
      obtain ⟨bk, off, x1, x2, rfl, hb0, h0, h1, h4⟩ := (HC.out.below HB.out).at_ k hlt
      obtain ⟨bk', off', z1, z2, rfl, gb0, g0, g1, g4⟩ := (HD.out.below HB.out).at_ k hlt'
      have h9 : (k : Int) < (c.length : Int) := by omega
      have h9' : (k : Int) < (d.length : Int) := by omega
      have HBAD := Lib.hid (allEq_bad (q := ruq) hlt hlt')
      obtain ⟨⟨r, x⟩, hr⟩ : ∃ r, c[k] = r := ⟨_, rfl⟩
      obtain ⟨⟨s, y⟩, hs⟩ : ∃ s, d[k] = s := ⟨_, rfl⟩
      rw [hr] at h0 h1 h4 HBAD
      rw [hs] at g0 g1 g4 HBAD
      dsimp only at h0 h1 h4 g0 g1 g4
      have HR := Lib.hid hr
      have HS := Lib.hid hs
      clear hr hs
      by_cases e : r = s
      case neg =>
        have e1 := (str_ne e).1
        have HV : Hid (allEq ruq c d = false) := Lib.hid (HBAD.out (ruq_cls e))
        have h0d : wr.drew.cell? ⟨bk, off + k * 2, none⟩ = some (.string (ofL r)) := h0
        have g0d : wr.drew.cell? ⟨bk', off' + k * 2, none⟩ = some (.string (ofL s)) := g0
        clear e h4 g4
        go_wp2_with fail
        go_quiet (fail)
        go_wp2
        go_ret
        exact ⟨by rw [HV.out]; rfl, below_drewN HB.out _⟩
      subst e
      have e1 := (str_self r).1
      have HCE : Hid (∀ wx, Below wr.heap.size wr wx → wx.cell? ⟨bk, off + k * 2, none⟩ = some (.string (ofL r)) ∧ wx.cell? ⟨bk', off' + k * 2, none⟩ = some (.string (ofL r)) ∧ wx.cell? ⟨bk, off + k * 2 + 1, none⟩ = some (.slice x1 x.length x2) ∧ wx.cell? ⟨bk', off' + k * 2 + 1, none⟩ = some (.slice z1 y.length z2)) := Lib.hid (fun wx hb => ⟨cell_later h0 hb, cell_later g0 hb, cell_later h1 hb, cell_later g1 hb⟩)
      obtain ⟨b, hbb⟩ : ∃ b, cdq x y = b := ⟨_, rfl⟩
      have HQ := Lib.hid hbb
      have HCALL := Lib.hid (refEqual_any (.slice x1 x.length x2) (.slice z1 y.length z2) x y wr.drew (h4.below (Below.refl _ _).drew) (g4.below (Below.refl _ _).drew))
      rw [hbb] at HCALL
      clear hbb h4 g4
      go_wp2_with fail
      go_region_held3 (fun wx => wx.cell? ⟨bk, off + k * 2, none⟩ = some (.string (ofL r)) ∧ wx.cell? ⟨bk', off' + k * 2, none⟩ = some (.string (ofL r)) ∧ wx.cell? ⟨bk, off + k * 2 + 1, none⟩ = some (.slice x1 x.length x2) ∧ wx.cell? ⟨bk', off' + k * 2 + 1, none⟩ = some (.slice z1 y.length z2)) (first | exact HCE.out _ B2 | exact HCE.out _ (Below.refl _ _).drew) (first | (go_at_call 153; refine HCALL.out.mono ?_; rintro e w2 ⟨rfl, b2⟩; have B2 : Below wr.heap.size wr w2 := (Below.refl _ wr).drew.trans b2; clear b2))
      cases b with
      | false =>
        have HV : Hid (allEq ruq c d = false) := Lib.hid (HBAD.out (by rw [ruq_go]; exact HQ.out))
        go_wp2
        go_ret
        exact ⟨by rw [HV.out]; rfl, HB.out.trans (B2.mono zr)⟩
      | true =>
        go_wp2
        go_roundw
        case measure => simp [intOf]; omega
        case rel => exact ⟨k + 1, by omega, by go_num, fun i hi hi' hij => by
          rcases Nat.lt_or_ge i k with h | h
          · exact HK.out i hi hi' h
          · obtain rfl : i = k := by omega
            rw [HR.out, HS.out, ruq_go]; exact HQ.out, HB.out.trans (B2.mono zr)⟩
    · obtain rfl : k = c.length := by omega
      have h3 : ¬ (c.length : Int) < (c.length : Int) := by omega
      have HV : Hid (allEq ruq c d = true) := Lib.hid (allEq_good HLN.out HK.out)
      go_wp2
      go_ret
      exact ⟨by rw [HV.out]; rfl, HB.out⟩

end Go.Proofs.YtpmmchppfmojhaaGreatDoor


