/- What the row stands on, part 18. -/
import Derived.Test.YtmnclnpbmgomgaaGreatDoorQ17

/- Rules that come in as an argument. -/
namespace Go.Proofs.YtmnclnpbmgomgaaGreatDoor
open Go.RowKit
set_option linter.unusedVariables false

theorem one_ofT {α : Type} {l : List α} {n i : Nat} {v : α} (h : (l.drop i).take 1 = [v]) : l[i]? = some v := by
  have := congrArg (fun r : List α => r[0]?) h
  simpa [List.getElem?_take, List.getElem?_drop] using this
/-- A row of equal cells reads as a list. -/
theorem rd_of_rowT {α : Type} {k : Nat} {enc : α → List Value} {w : World} {a : Addr} {len cap : Nat} (Z : Nat → α) (hk : 0 < k) (henc : ∀ x, (enc x).length = k) (hl : len ≤ cap) (hc : cap ≤ maxLen)
    (h : ∀ i, i < len → ∀ (j : Nat) (v : Value), (enc (Z i))[j]? = some v → w.cell? (a.add (i * k + j)) = some v) :
    Rd k enc w (.slice (some a) len cap) ((List.range len).map Z) := by
  have hM : maxLen = 9223372036854775807 := by decide
  have hlen : ((List.range len).map Z).length = len := by simp
  refine ⟨⟨_, cap, by rw [hlen], by omega, by omega, fun hne => ?_⟩, fun n c hc => by cases hc⟩
  have hpos : 0 < len := by rw [← hlen]; exact List.length_pos_iff.2 hne
  have h00 := h 0 hpos 0 _ (List.getElem?_eq_getElem (by rw [henc]; exact hk))
  obtain ⟨b, off, sp⟩ := a
  have hspot : sp = none := by simpa [Addr.add] using World.cell?_spot h00
  subst hspot
  refine ⟨b, off, rfl, ?_, fun i u hi j v hv => ?_⟩
  · rw [add_off] at h00
    exact World.block_lt_of_cell? w _ h00
  · have hil := (List.getElem?_eq_some_iff.1 hi).1
    rw [hlen] at hil
    simp [List.getElem?_range hil] at hi
    subst hi
    have q := h i hil j v hv
    rw [add_off, ← Nat.add_assoc] at q
    exact q
section
variable {H : Type} {enc : TypeId × Value → H} {P : Program} {w : World} {base : Nat} {spare : Nat → Bool} {held : Bool}

/-- A field of one cell, or of several, at its place. -/
theorem field_at {t : TypeId} {fs : Array Field} {fuel : Nat} {cs : List Value} {x : DataW H × List MemPlace} (ht : P.underlying t = some (.struct fs)) (h : DataW.trod enc P w base spare held fuel t cs = some x) :
    ∃ (n : Nat) (ys : List (DataW H × List MemPlace)), x.1 = .agg (ys.map (·.1)) ∧ ys.length = fs.size ∧ ∀ (i : Nat) (f : Field), fs[i]? = some f → ∃ y, ys[i]? = some y ∧ DataW.trod enc P w base spare held n f.type ((cs.drop f.offset).take (P.cellsOf f.type)) = some y := by
  obtain ⟨xs, n, _, rfl, hl, hlen, hf⟩ := DataW.trod_struct ht h
  refine ⟨n, xs, rfl, hlen, fun i f hi => ?_⟩
  have hlt : i < xs.length := by rw [hlen]; exact (Array.getElem?_eq_some_iff.1 hi).1
  have := hf i f hi
  rw [List.getElem?_eq_getElem hlt] at this
  exact ⟨_, List.getElem?_eq_getElem hlt, this⟩
/-- A field that is a string, one that is a number. -/
structure FldS (P : Program) (fs : Array Field) (i o : Nat) : Prop where
  ex : ∃ f, fs[i]? = some f ∧ f.offset = o ∧ P.cellsOf f.type = 1 ∧ P.underlying f.type = some .string
structure FldT (P : Program) (fs : Array Field) (i o k : Nat) (t : TypeId) : Prop where
  ex : ∃ f, fs[i]? = some f ∧ f.offset = o ∧ P.cellsOf f.type = k ∧ f.type = t
def Fields (fs : Array Field) (n : Nat) (cs : List Value) (ys : List (DataW H × List MemPlace)) (P : Program) (enc : TypeId × Value → H) (w : World) (base : Nat) (spare : Nat → Bool) (held : Bool) : Prop :=
  ∀ (i : Nat) (f : Field), fs[i]? = some f → ∃ y, ys[i]? = some y ∧ DataW.trod enc P w base spare held n f.type ((cs.drop f.offset).take (P.cellsOf f.type)) = some y
theorem fld_s {fs : Array Field} {n : Nat} {cs : List Value} {ys : List (DataW H × List MemPlace)} (h : Fields fs n cs ys P enc w base spare held) {i o : Nat} (F : FldS P fs i o) : ∃ s : Str, cs[o]? = some (.string (ofL s)) := by
  obtain ⟨f, h1, h2, h3, h4⟩ := F.ex
  obtain ⟨y, _, hy⟩ := h i f h1
  rw [h2, h3] at hy
  obtain ⟨s, e, _⟩ := DataW.trod_string h4 hy
  exact ⟨s.data.toList, by rw [of_data]; exact one_ofT (n := 0) e⟩
/-- What a list of equal elements reads as. -/
def Elem {α : Type} (encDu : α → List Value) (k : Nat) (R : World → α → Prop) (P : Program) (enc : TypeId × Value → H) (w : World) (base : Nat) (spare : Nat → Bool) (held : Bool) (e : TypeId) : Prop :=
  ∀ (fuel : Nat) (cs : List Value) (x : DataW H × List MemPlace), DataW.trod enc P w base spare held fuel e cs = some x → (∀ k ∈ x.1.weights P e, k ≤ reachBytes) → ∃ z : α, R w z ∧ ∀ (j : Nat) (v : Value), (encDu z)[j]? = some v → cs[j]? = some v
theorem rows_of {α : Type} [Inhabited α] {encDu : α → List Value} {k : Nat} {R : World → α → Prop} {t e : TypeId} {fuel : Nat} {cs : List Value} {x : DataW H × List MemPlace} (hk : 0 < k) (henc : ∀ a, (encDu a).length = k)
    (ht : P.underlying t = some (.slice e)) (hce : P.cellsOf e = k) (hE : Elem encDu k R P enc w base spare held e) (h : DataW.trod enc P w base spare held fuel t cs = some x) (hw : ∀ k ∈ x.1.weights P t, k ≤ reachBytes) :
    ∃ (z : RawS) (l : List α), cs = [.slice z.a z.n z.c] ∧ Rd k encDu w (.slice z.a z.n z.c) l ∧ ∀ a ∈ l, R w a := by
  rcases Go.Deep.open_slice ht h with ⟨h0, _⟩ | ⟨a, len, cap, m, n, D, Pl, hcs, hb, hl, hm, hmm, hxe, hx⟩
  · exact ⟨⟨none, 0, 0⟩, [], h0, rd_nil w, fun a h => by cases h⟩
  have hlm : len ≤ m := by rw [hmm]; split <;> omega
  have each : ∀ i, i < len → ∃ z : α, R w z ∧ ∀ (j : Nat) (v : Value), (encDu z)[j]? = some v → w.cell? (a.add (i * k + j)) = some v := fun i hi => by
    obtain ⟨cs', hc, htr⟩ := hx i (by omega)
    rw [hce] at hc
    obtain ⟨_, hcl, hat⟩ := World.cells?_some hc
    obtain ⟨z, hz, hzc⟩ := hE _ _ _ htr (fun q hq => hw q (by
      rw [hxe]
      have h1 : q ∈ DataW.weightsAll P e ((List.range len).map D) := weights_all _ (List.mem_map.2 ⟨i, List.mem_range.2 hi, rfl⟩) q hq
      simp only [DataW.weights, ht, List.mem_cons, List.mem_append]
      exact .inr (.inl h1)))
    refine ⟨z, hz, fun j v hv => ?_⟩
    have hj : j < k := by have := (List.getElem?_eq_some_iff.1 hv).1; rw [henc] at this; exact this
    have g := hat j (by omega)
    rw [Go.Deep.add_add, hzc j v hv] at g
    exact g
  obtain ⟨Z, hZ⟩ := Go.Deep.choose_lt each
  refine ⟨⟨some a, len, cap⟩, (List.range len).map Z, hcs, rd_of_rowT Z hk henc hl hm (fun i hi j v hv => (hZ i hi).2 j v hv), fun y hy => ?_⟩
  obtain ⟨i, hi, rfl⟩ := List.mem_map.1 hy
  exact (hZ i (List.mem_range.1 hi)).1
theorem fld_w {t : TypeId} {fs : Array Field} {x : DataW H × List MemPlace} {ys : List (DataW H × List MemPlace)} (ht : P.underlying t = some (.struct fs)) (hx : x.1 = .agg (ys.map (·.1))) (hw : ∀ k ∈ x.1.weights P t, k ≤ reachBytes)
    {i : Nat} {f : Field} {y : DataW H × List MemPlace} (h1 : fs[i]? = some f) (h2 : ys[i]? = some y) : ∀ k ∈ y.1.weights P f.type, k ≤ reachBytes := fun k hk => by
  refine hw k ?_
  rw [hx]
  have : k ∈ DataW.weightsEach P (fs.toList.map (·.type)) (ys.map (·.1)) := DataW.weights_mem_each (j := i) (t := f.type) (d := y.1) (by rw [List.getElem?_map, Array.getElem?_toList, h1]; rfl) (by rw [List.getElem?_map, h2]; rfl) k hk
  simp only [DataW.weights, ht]
  exact this
theorem fld_tw {t : TypeId} {fs : Array Field} {n : Nat} {cs : List Value} {x : DataW H × List MemPlace} {ys : List (DataW H × List MemPlace)} (ht : P.underlying t = some (.struct fs)) (hx : x.1 = .agg (ys.map (·.1))) (hw : ∀ k ∈ x.1.weights P t, k ≤ reachBytes)
    (h : Fields fs n cs ys P enc w base spare held) {i o k : Nat} {t2 : TypeId} (F : FldT P fs i o k t2) : ∃ y, DataW.trod enc P w base spare held n t2 ((cs.drop o).take k) = some y ∧ ∀ k ∈ y.1.weights P t2, k ≤ reachBytes := by
  obtain ⟨f, h1, h2, h3, h4⟩ := F.ex
  obtain ⟨y, hy0, hy⟩ := h i f h1
  have hw2 := fld_w ht hx hw h1 hy0
  rw [h2, h3, h4] at hy
  rw [h4] at hw2
  exact ⟨y, hy, hw2⟩
theorem Rd.map_ {α β : Type} {k : Nat} {e2 : α → List Value} {g : β → α} {v : Value} {l : List β} (h : Rd k (fun b => e2 (g b)) w v l) : Rd k e2 w v (l.map g) := by
  obtain ⟨⟨a, c, hv, h1, h2, hx⟩, hn⟩ := h
  refine ⟨⟨a, c, by rw [List.length_map]; exact hv, by rw [List.length_map]; exact h1, h2, fun hne => ?_⟩, hn⟩
  obtain ⟨b, off, ha, hlt, hc⟩ := hx (by rintro rfl; exact hne rfl)
  refine ⟨b, off, ha, hlt, fun i x hi j u hu => ?_⟩
  rw [List.getElem?_map] at hi
  obtain ⟨y, hy, rfl⟩ := Option.map_eq_some_iff.1 hi
  exact hc i y hy j u hu
end
section
variable {H : Type} {enc : TypeId × Value → H} {w : World} {base : Nat} {spare : Nat → Bool} {held : Bool}
theorem elem_ru : Elem (fun u : (Str × RawS) × Cnd => encRu u.1) 2 (fun w u => RdC w (.slice u.1.2.a u.1.2.n u.1.2.c) u.2 ∧ ∀ k ∈ u.2, k.length ≤ 140737488355328) Tryz.prog enc w base spare held 41 := fun fuel cs x h hw => by
  obtain ⟨n, ys, hx, _, hF⟩ := field_at Tryz.underlying41 h
  obtain ⟨s0, c0⟩ := fld_s (i := 0) (o := 0) hF ⟨⟨_, rfl, rfl, by kernel_rfl, Tryz.underlying9⟩⟩
  obtain ⟨y1, h1, w1⟩ := fld_tw (i := 1) (o := 1) (k := 1) (t2 := 39) Tryz.underlying41 hx hw hF ⟨⟨_, rfl, rfl, by kernel_rfl, rfl⟩⟩
  obtain ⟨z, c, e1, hz, hl⟩ := condIn_of h1 w1
  refine ⟨((s0, z), c), ⟨hz, hl⟩, fun j v hv => ?_⟩
  have hj : j < 2 := (List.getElem?_eq_some_iff.1 hv).1
  obtain rfl | rfl : j = 0 ∨ j = 1 := by omega
  · simp [encRu] at hv; subst hv; exact c0
  · simp [encRu] at hv; subst hv; exact one_ofT (n := 0) e1
theorem rules14_in {fuel : Nat} {cs : List Value} {x : DataW H × List MemPlace} (h : DataW.trod enc Tryz.prog w base spare held fuel 22 cs = some x) (hw : ∀ k ∈ x.1.weights Tryz.prog 22, k ≤ reachBytes) :
    ∃ (z : RawS) (l : Rus), cs = [.slice z.a z.n z.c] ∧ RdRus w (.slice z.a z.n z.c) l ∧ RusR l := by
  obtain ⟨z, l, e, hr, ha⟩ := rows_of (k := 2) (by omega) (fun _ => rfl) Tryz.underlying22 (by kernel_rfl) elem_ru h hw
  refine ⟨z, l.map (fun u => (u.1.1, u.2)), e, ⟨l.map (·.1), hr.map_, by rw [List.length_map, List.length_map], fun i h1 h2 => ?_⟩, fun i hi => ?_⟩
  · have hi : i < l.length := by rw [List.length_map] at h1; exact h1
    rw [List.getElem_map, List.getElem_map]
    exact ⟨rfl, (ha _ (List.getElem_mem hi)).1⟩
  · have hi' : i < l.length := by rw [List.length_map] at hi; exact hi
    rw [List.getElem_map]
    exact (ha _ (List.getElem_mem hi')).2
end
end Go.Proofs.YtmnclnpbmgomgaaGreatDoor


/- Of decide: Disjoint, walked. -/
namespace Go.Proofs.YtmnclnpbmgomgaaGreatDoor
open Go.RowKit Go.Maps
set_option linter.unusedVariables false

set_option maxRecDepth 1000000 in
set_option maxHeartbeats 16000000 in
theorem disjoint_any (rs : List (Str × Cnd)) (v : Value) (h10 : rs.length ≤ 10) (hok : ∀ c ∈ rs.map Prod.snd, okC c = true) (w : World) (hv : RdRules w v rs) (hm : MaxL w) :
    Calls Tryz.prog 27 #[v] w fun e w' => ∃ i j W er, e = .returned (.tuple #[.int .i64 (i : Nat), .int .i64 (j : Nat), .string (ofL W), .int .i64 (er : Nat)]) ∧ DisA (rs.map Prod.snd) (i, j, W, er) ∧ Below w.heap.size w w' := by
  obtain ⟨iC, hiC, hzC, hkC, hbC⟩ := info_parts Tryz.infoCo
  obtain ⟨ac, cc, rfl, hc1, hc2⟩ := hv.slice
  have HV := Lib.hid hv
  have HM := Lib.hid hm
  have HOK := Lib.hid hok
  have HLC : Hid ((rs.map Prod.snd).length = rs.length) := Lib.hid (List.length_map _)
  obtain ⟨cs, hcs⟩ : ∃ cs, rs.map Prod.snd = cs := ⟨_, rfl⟩
  have HCS := Lib.hid hcs
  rw [hcs] at HOK HLC ⊢
  have HN0 : Hid (GatC w rs 0 (.slice none 0 0) w) := Lib.hid ⟨⟨[], own1_nil _ _ _, rfl, fun i h _ => by simp at h⟩, Below.refl _ _⟩
  clear hv hm hok hcs
  go_enter Tryz.func27, Tryz.ntmps27
  go_wp2
  go_loopw [6, 13] (fun v6 v13 wr => ∃ k : Nat, k ≤ rs.length ∧ v13 = .int .i64 k ∧ GatC w rs k v6 wr) (fun _ v13 _ => rs.length - (intOf v13).toNat)
  case atStart => exact ⟨0, Nat.zero_le _, rfl, HN0.out⟩
  case round =>
    obtain ⟨k, hk, rfl, hg⟩ := hrel
    have HG := Lib.hid hg
    clear hg HN0
    by_cases hlt : k < rs.length
    · obtain ⟨bk, off, s, x1, x2, rfl, hlb, h0, h1, hcd⟩ := HV.out.at_ k hlt
      have h0 := (HG.out.bw.cell (p := ⟨bk, off + k * 2, none⟩) hlb).trans h0
      have h1 := (HG.out.bw.cell (p := ⟨bk, off + k * 2 + 1, none⟩) hlb).trans h1
      have h9 : (k : Int) < (rs.length : Int) := by omega
      obtain ⟨n, hn⟩ : ∃ n, rs[k].2.length = n := ⟨_, rfl⟩
      rw [hn] at h1 hcd
      have HCD := Lib.hid hcd
      obtain ⟨raws, ho, hl, hr⟩ := HG.out.ex
      obtain ⟨p6, c6, rfl⟩ := ho.slice
      have HO := Lib.hid (own_below ho (below_al wr (.cells #[.string (ofL s), .slice x1 n x2] 41)))
      have HB := Lib.hid ((HG.out.bw).trans ((below_al wr (.cells #[.string (ofL s), .slice x1 n x2] 41)).mono HG.out.bw.size))
      have HL := Lib.hid hl
      have HR := Lib.hid hr
      obtain ⟨wb, hwb⟩ : ∃ wb, wr.alloc (.cells #[.string (ofL s), .slice x1 n x2] 41) = wb := ⟨_, rfl⟩
      have HWB := Lib.hid hwb
      rw [hwb] at HO HB
      have r0 : wb.cell? ⟨wr.heap.size, 1, none⟩ = some (.slice x1 n x2) := by
        rw [← hwb]
        exact (Blk.new wr 41 #[.string (ofL s), .slice x1 n x2]).cell 1
      have HZW : Hid (w.heap.size ≤ wb.heap.size) := Lib.hid HB.out.size
      clear ho hl hr hwb hcd hn hlb
      go_upto_region 5 with fail
      rw [HWB.out]
      go_wp2_with (first | (at_builtin; refine wpList_append_lie (w0 := wb) (x := (⟨x1, n, x2⟩ : RawS)) (N := wb.heap.size) rfl rfl _ _ 46 rfl w.heap.size iC _ 24 Tryz.underlying46 hiC hzC hkC hbC (by omega) rfl (by omega) encS_len encS_one _ raws rfl rfl HO.out rfl (by have := HL.out; omega) HZW.out ?_; intro v9 w9 y9; obtain ⟨p8, q8, e8⟩ := y9.1.slice; subst e8; have Y9 := Lib.hid y9; clear y9) | go_in)
      have HGN : Hid (GatC w rs (k + 1) (.slice p8 (raws ++ [(⟨x1, n, x2⟩ : RawS)]).length q8) w9) := Lib.hid ⟨⟨_, Y9.out.1, by rw [List.length_append, HL.out]; rfl, fun i a b => by
        rw [List.length_append] at a
        by_cases hi : i < raws.length
        · rw [List.getElem_append_left hi]
          exact HR.out i hi b
        · have hk' : i = raws.length := by simp at a; omega
          subst hk'
          rw [List.getElem_append_right (Nat.le_refl _)]
          have e2 : rs[raws.length].2 = rs[k].2 := by simp only [HL.out]
          rw [e2]
          simpa using HCD.out⟩, HB.out.trans Y9.out.2.1⟩
      go_roundw
      case measure => simp [intOf]; omega
      case rel => exact ⟨k + 1, by omega, by go_num, by first | exact HGN.out | (have := HGN.out; simpa using this)⟩
    · obtain rfl : k = rs.length := by omega
      have h3 : ¬ (rs.length : Int) < (rs.length : Int) := by omega
      have hrd := HG.out.rd
      rw [HCS.out] at hrd
      obtain ⟨p6, c6, rfl, _, _⟩ := hrd.slice
      have HRD := Lib.hid hrd
      have HB1 := Lib.hid HG.out.bw
      have hNN : cs.length = rs.length := HLC.out
      have HFI := Lib.hid (firsts_any cs (.slice p6 cs.length c6) (by omega) HOK.out wr HRD.out)
      have H10 : Hid (cs.length ≤ 10) := Lib.hid (by omega)
      have t1 : ((0 : Int) != 0) = false := rfl
      clear hrd HG HV hNN
      go_wp2_with fail
      refine HFI.out.mono ?_
      rintro e w2 ⟨v', Qw, Qf, rfl, g1, g2, g3, g4⟩
      have HWD := Lib.hid (fun (i j : Nat) (hij : i < j) (hj : j < cs.length) => where_D HOK.out H10.out g2 g3 hij hj)
      have HFF := Lib.hid (firL_facts HOK.out H10.out g2 g3)
      obtain ⟨L, hL⟩ : ∃ L, firL cs Qw Qf = L := ⟨_, rfl⟩
      rw [hL] at HWD HFF g1
      obtain ⟨pv, cv, rfl⟩ := g1.slice
      have HOL := Lib.hid (g1.rd encT_len)
      have H2 := Lib.hid (st HB1.out g4 HB1.out.size)
      have HM2 := Lib.hid (HM.out.below H2.out)
      clear g1 g2 g3 g4 hL
      go_wp2_with fail
      go_loopw [33] (fun v33 wr => ∃ i : Nat, i ≤ cs.length ∧ v33 = .int .i64 i ∧ NoneB cs i 0 ∧ Below w2.heap.size w2 wr) (fun v33 _ => cs.length - (intOf v33).toNat)
      case atStart => exact ⟨0, Nat.zero_le _, rfl, none_zero cs, Below.refl _ _⟩
      case round =>
        rename World => wi
        obtain ⟨i, hi, rfl, hno, hbi⟩ := hrel
        have HNO := Lib.hid hno
        have HBI := Lib.hid hbi
        clear hno hbi
        by_cases hlt : i < cs.length
        · have h9 : (i : Int) < (cs.length : Int) := by omega
          have HN1 := Lib.hid (none_first HNO.out)
          go_wp2_with fail
          go_loopw [2, 3] (fun v2 v3 wr => v2 = .int .i64 (i : Nat) ∧ ∃ j : Nat, i < j ∧ j ≤ cs.length ∧ v3 = .int .i64 j ∧ NoneB cs i j ∧ Below w2.heap.size w2 wr) (fun _ v3 _ => cs.length - (intOf v3).toNat)
          case atStart => exact ⟨rfl, i + 1, by omega, by omega, by go_num, HN1.out, HBI.out⟩
          case round =>
            rename World => wj
            obtain ⟨rfl, j, hij, hj, rfl, hno, hbj⟩ := hrel
            have HNJ := Lib.hid hno
            have HBJ := Lib.hid hbj
            clear hno hbj
            by_cases hlj : j < cs.length
            · have h8 : (j : Int) < (cs.length : Int) := by omega
              have hi6 : i < 64 := by have := H10.out; omega
              have hj6 : j < 64 := by have := H10.out; omega
              obtain ⟨M, hM⟩ : ∃ M, 2 ^ i = M := ⟨_, rfl⟩
              obtain ⟨N, hN⟩ : ∃ N, 2 ^ j = N := ⟨_, rfl⟩
              have s1 := shl_nat hi6 hM
              have s2 := shl_nat hj6 hN
              have HML : Hid (M < 18446744073709551616) := Lib.hid (by rw [← hM]; exact pow_lt64 hi6)
              have HNL : Hid (N < 18446744073709551616) := Lib.hid (by rw [← hN]; exact pow_lt64 hj6)
              have s3 : bits .or .u64 (M : Int) (N : Int) = ((M ||| N : Nat) : Int) := u64_or_nat M N HML.out HNL.out
              have HRL := Lib.hid (or_lt HML.out HNL.out)
              have HWE := Lib.hid (HWD.out i j hij hlj)
              rw [hM, hN] at HWE
              obtain ⟨R, hR⟩ : ∃ R, M ||| N = R := ⟨_, rfl⟩
              rw [hR] at s3 HRL HWE
              have HPN := Lib.hid (disP_ne HOK.out hij hlj)
              obtain ⟨A, hA⟩ : ∃ A, (disP cs i j).getD [] = A := ⟨_, rfl⟩
              have HA := Lib.hid hA
              rw [hA] at HWE HPN
              have hsi : (0 : Int) ≤ (i : Int) := by omega
              have hsj : (0 : Int) ≤ (j : Int) := by omega
              have HX := Lib.hid ((Blk.new wj 83 #[.int .u64 (R : Int)]).below (Below.drew (Below.refl _ _)))
              have HBX := Lib.hid (st HBJ.out (Below.drew (below_al wj (.cells #[.int .u64 (R : Int)] 83))) HBJ.out.size)
              obtain ⟨wx, hwx⟩ : ∃ wx, (wj.alloc (.cells #[.int .u64 (R : Int)] 83)).drew = wx := ⟨_, rfl⟩
              rw [hwx] at HX HBX
              have HWX := Lib.hid hwx
              have HWH := Lib.hid (where_any (.slice pv L.length cv) L (fun n => decide (n &&& R = R)) 57 #[.pointer (some ⟨wj.heap.size, 0, none⟩)] (enters_of Tryz.func57 (by kernel_rfl) rfl) wx (HOL.out.below HBX.out) (by rw [HFF.out.1]; exact Nat.pow_le_pow_right (by omega) H10.out) (fun x hx => Nat.le_trans (HFF.out.2 x hx) (by omega)) (HM2.out.below HBX.out) (fun W c hc hb => isDis_any c R (Nat.lt_of_lt_of_le hc (by rw [HFF.out.1]; exact Nat.le_trans (Nat.pow_le_pow_right (by omega) H10.out) (by omega))) HRL.out wj.heap.size W ((HX.out.below hb).cell 0)))
              rw [HWE.out] at HWH
              clear hwx
              clear hM hN hR hA
              go_upto_region 16 with fail
              go_region
              rw [HWX.out]
              go_wp2_with fail
              refine HWH.out.mono ?_
              rintro e w9 ⟨rfl, h5⟩
              have HB9 := Lib.hid (st HBX.out h5 HBX.out.size)
              clear h5
              by_cases hz : A = []
              · have t0 : ((ofL A).toList == ([] : List UInt8)) = true := by rw [str_dec, decide_eq_true hz]
                have HNN := Lib.hid (none_next HNJ.out (HPN.out hz))
                clear hz
                go_wp2_with fail
                go_roundw
                case measure => simp [intOf]; omega
                case rel => exact ⟨rfl, j + 1, by omega, by omega, by go_num, HNN.out, HB9.out⟩
              · have t0 : ((ofL A).toList == ([] : List UInt8)) = false := by rw [str_dec, decide_eq_false hz]
                have HSO : Hid (disP cs i j = some A) := Lib.hid (by
                  have e1 := HA.out
                  cases hx : disP cs i j with
                  | none => rw [hx] at e1; exact absurd e1.symm hz
                  | some b => rw [hx] at e1; rw [← e1]; rfl)
                have HBE := Lib.hid (st H2.out HB9.out H2.out.size)
                clear hz
                go_wp2
                (try simp only [Exit.inBlock, Exit.then])
                refine bodyPost_ret (results_tmp4 rfl _ _ _) rfl ?_
                exact ⟨i, j, A, 19, rfl, .inl ⟨i, j, A, hij, hlj, HSO.out, HNJ.out, rfl⟩, HBE.out⟩
            · obtain rfl : j = cs.length := by omega
              have h7 : ¬ (cs.length : Int) < (cs.length : Int) := by omega
              have HNR := Lib.hid (none_row HNJ.out (Nat.le_refl _))
              go_wp2_with fail
              go_roundw
              case measure => simp [intOf]; omega
              case rel => exact ⟨i + 1, by omega, by go_num, HNR.out, HBJ.out⟩
        · obtain rfl : i = cs.length := by omega
          have h7 : ¬ (cs.length : Int) < (cs.length : Int) := by omega
          have HNA := Lib.hid (none_all HNO.out (Nat.le_refl _))
          have HBE := Lib.hid (st H2.out HBI.out H2.out.size)
          go_wp2
          (try simp only [Exit.inBlock, Exit.then])
          refine bodyPost_ret (results_tmp4 rfl _ _ _) rfl ?_
          exact ⟨0, 0, [], 0, rfl, .inr ⟨HNA.out, rfl⟩, HBE.out⟩
end Go.Proofs.YtmnclnpbmgomgaaGreatDoor


/- What the laws of layer 14 want of the program, more; the law on Order. -/
namespace Go.Proofs.YtmnclnpbmgomgaaGreatDoor
open Go.RowKit
set_option linter.unusedVariables false

/-- And Classes, Example. -/
structure PlD (EV : World → Prop) : Prop extends PlC EV where
  classes : ∀ (v : Value) (l : Rus) (w : World), RdRus w v l → RusR l → l.length ≤ 10 → EV w → Calls Tryz.prog 16 #[v] w fun e w' => ∃ v', e = .returned (.tuple #[v', .int .i64 ((clssR l).2 : Nat)]) ∧ Own1 1 encT w' w.heap.size 9 v' (clssR l).1 ∧ Below w.heap.size w w'
  example_ : ∀ (v : Value) (l : Rus) (s : Str) (w : World), RdRus w v l → RusR l → l.length ≤ 10 → s.length ≤ 60 → EV w → Calls Tryz.prog 21 #[v, .string (ofL s)] w fun e w' => e = .returned (.tuple #[.string (ofL (exR l s).1), .int .i64 ((exR l s).2 : Nat)]) ∧ Below w.heap.size w w'
theorem Tryz.info14 : (Tryz.prog.info? 41).map (fun i => (i.zero, i.size, i.bytes)) = some (some (.agg #[.string ⟨#[]⟩, .slice none 0 0]), 2, 40) := by kernel_rfl
theorem encRu_lenO (x : Str × RawS) : (encRu x).length = 2 := rfl
theorem strP' (x : Str) : ((ofL x).toList == (ofL x).toList) = true := beq_self_eq_true _
/-- Rules that are being made: the last k ones, turned round. -/
def BackI (w : World) (B : Nat) (l : Rus) (k : Nat) (v : Value) (wr : World) : Prop := ∃ raws : List (Str × RawS), Own1 2 encRu wr B 41 v raws ∧ raws.length = k ∧ (∀ (i : Nat) (h : i < raws.length) (h' : l.length - 1 - i < l.length), raws[i].1 = (l[l.length - 1 - i]'h').1 ∧ RdC w (.slice raws[i].2.a raws[i].2.n raws[i].2.c) (l[l.length - 1 - i]'h').2) ∧ Below B w wr
theorem BackI.rd {w wr : World} {B : Nat} {l : Rus} {v : Value} (h : BackI w B l l.length v wr) (hB : B = w.heap.size) : RdRus wr v l.reverse := by
  obtain ⟨raws, h1, h2, h3, h4⟩ := h
  subst hB
  refine ⟨raws, h1.rd encRu_lenO, by rw [List.length_reverse, h2], fun i a b => ?_⟩
  rw [List.length_reverse] at b
  rw [List.getElem_reverse]
  have := h3 i a (by omega)
  exact ⟨this.1, this.2.below h4⟩
theorem RusR.rev {l : Rus} (h : RusR l) : RusR l.reverse := fun i hi => by
  rw [List.getElem_reverse]
  exact h _ _
section
variable {EV : World → Prop} (C : PlD EV)
include C
set_option maxRecDepth 1000000 in
set_option maxHeartbeats 8000000 in
theorem pluralOrder_walk (v : Value) (l : Rus) (s : Str) (hs : s.length ≤ 9223372036854775807) (w : World) (hv : RdRus w v l) (hr : RusR l) (E : EV w) : Calls Tryz.prog 6 #[v, .string (ofL s)] w fun e w' => e = .returned (.bool true) ∧ Below w.heap.size w w' := by
  obtain ⟨iU, hiU, hzU, hkU, hbU⟩ := info_parts Tryz.info14
  have HAW := Lib.hid (fun w E => awake14_any C.toPlC w E)
  have HFW := Lib.hid (fun w h => few14_any v l w h)
  have HL : Hid (∀ {w w' : World}, EV w → Below w.heap.size w w' → EV w') := Lib.hid C.later
  have HCS := Lib.hid (fun (h : l.length ≤ 10) w a E => C.classes v l w a hr h E)
  have HC1 := Lib.hid (fun (h : l.length ≤ 10) w a E => C.class_ v l s w a hr h hs E)
  have HC2 := Lib.hid (fun (h : l.length ≤ 10) v w a E => C.class_ v l.reverse s w a hr.rev (by rw [List.length_reverse]; exact h) hs E)
  have HSAME := Lib.hid (fun h : (clssR l).2 = 0 => classR_perm (List.reverse_perm l).symm (clssR_ok h).1 (clssR_ok h).2.1 s)
  have E0 := Lib.hid E
  have HV := Lib.hid hv
  obtain ⟨a, c, rfl, h2, h3⟩ := hv.slice
  obtain ⟨S, hS⟩ : ∃ S, ofL s = S := ⟨_, rfl⟩
  rw [hS] at HC1 HC2 ⊢
  obtain ⟨q, hq⟩ : ∃ q, (clssR l).2 = q := ⟨_, rfl⟩
  rw [hq] at HCS HSAME
  obtain ⟨R, hR⟩ : ∃ R, classR l s = R := ⟨_, rfl⟩
  rw [hR] at HC1 HSAME
  obtain ⟨r1, r2⟩ := R
  clear E hv hr hS hs hq hR
  go_enter Tryz.func6, Tryz.ntmps6
  go_wp2_with fail
  refine (HAW.out _ E0.out).mono ?_
  rintro e w1 ⟨rfl, b1⟩
  have B1 := Lib.hid b1
  clear b1
  go_wp2_with fail
  refine (HFW.out _ (HV.out.below B1.out)).mono ?_
  rintro e w2 ⟨⟨fb, rfl, hfb⟩, hw2⟩
  obtain rfl := hw2.symm
  have HFB := Lib.hid hfb
  clear hw2 hfb
  cases fb with
  | false =>
    go_wp2_with fail
    refine (HAW.out _ (HL.out E0.out B1.out)).mono ?_
    rintro e w3 ⟨rfl, b3⟩
    have B3 := Lib.hid (st B1.out b3 B1.out.size)
    clear b3
    go_wp2
    go_ret
    exact ⟨rfl, B3.out⟩
  | true =>
  have H10 : Hid (l.length ≤ 10) := Lib.hid (HFB.out rfl).1
  clear HFB
  go_wp2_with fail
  refine (HCS.out H10.out _ (HV.out.below B1.out) (HL.out E0.out B1.out)).mono ?_
  rintro e w3 ⟨v3, rfl, rv3, b3⟩
  have B3 := Lib.hid (st B1.out b3 B1.out.size)
  clear b3 rv3 HCS
  by_cases hq0 : q = 0
  case neg =>
    have z1 : (((q : Nat) : Int) != 0) = true := by rw [bne_iff_ne]; omega
    clear hq0
    go_wp2
    go_ret
    exact ⟨rfl, B3.out⟩
  have z1 : (((q : Nat) : Int) != 0) = false := by rw [hq0]; rfl
  have HS := Lib.hid (HSAME.out hq0)
  rw [HS.out] at HC2
  clear hq0 HSAME HS
  simp only at HC1 HC2
  have V3 := Lib.hid (HV.out.below B3.out)
  obtain ⟨B0, hB0⟩ : ∃ b, w3.heap.size = b := ⟨_, rfl⟩
  have HB0 := Lib.hid hB0
  have HST : Hid (BackI w3 B0 l 0 (.slice none 0 0) w3) := Lib.hid ⟨[], own1_nil _ _ _, rfl, fun i a b => by simp at a, by rw [← hB0]; exact Below.refl _ _⟩
  obtain ⟨N, hN⟩ : ∃ N, l.length = N := ⟨_, rfl⟩
  have HN := Lib.hid hN
  rw [hN] at h2 V3 H10 HV HC1 HC2 ⊢
  clear hB0 hN
  go_wp2_with fail
  go_loopw [7, 30] (fun v7 v30 wr => ∃ k : Nat, k ≤ N ∧ v30 = .int .i64 k ∧ BackI w3 B0 l k v7 wr) (fun _ v30 _ => N - (intOf v30).toNat)
  case atStart => exact ⟨0, Nat.zero_le _, rfl, HST.out⟩
  case round =>
    rename World => wj
    obtain ⟨k, hk, rfl, hri⟩ := hrel
    have hl12 := H10.out
    by_cases hlt : k < N
    · obtain ⟨raws, ho, hlr, hr, hb⟩ := hri
      have HO := Lib.hid ho
      have HLR := Lib.hid hlr
      have HR := Lib.hid hr
      have HB := Lib.hid hb
      clear ho hlr hr hb
      have HBW : Hid (Below w3.heap.size w3 wj) := Lib.hid (by rw [HB0.out]; exact HB.out)
      have hj1 : l.length - 1 - k < l.length := by have := HN.out; omega
      obtain ⟨bk, off, x1, x2, rfl, hbk, h0_, h1_, h4⟩ := V3.out.at_ (l.length - 1 - k) hj1
      have h0 := (HBW.out.cell (p := ⟨bk, off + (l.length - 1 - k) * 2, none⟩) hbk).trans h0_
      have h1 := (HBW.out.cell (p := ⟨bk, off + (l.length - 1 - k) * 2 + 1, none⟩) hbk).trans h1_
      have HYK : Hid (∀ i (h' : l.length - 1 - i < l.length), i = k → l[l.length - 1 - k]'hj1 = l[l.length - 1 - i]'h') := Lib.hid (fun i h' e => by subst e; rfl)
      obtain ⟨Y, hY⟩ : ∃ Y, l[l.length - 1 - k]'hj1 = Y := ⟨_, rfl⟩
      rw [hY] at h0 h1 h4 HYK
      obtain ⟨y, Yc⟩ := Y
      simp only at h0 h1 h4
      have HCD := Lib.hid h4
      obtain ⟨n, hn⟩ : ∃ n, Yc.length = n := ⟨_, rfl⟩
      rw [hn] at h1
      have HNL := Lib.hid hn
      clear hY h0_ h1_ h4 hn
      obtain ⟨j, hj⟩ : ∃ j, l.length - 1 - k = j := ⟨_, rfl⟩
      rw [hj] at h0 h1
      have z4 : (N : Int) - 1 - (k : Int) = (j : Int) := by have := HN.out; omega
      have z5 : j < N := by have := HN.out; omega
      have t0 : decide ((k : Int) < (N : Int)) = true := decide_eq_true (by omega)
      have HZW : Hid (B0 ≤ wj.heap.size) := Lib.hid (by rw [← HB0.out]; exact HBW.out.size)
      clear hj hj1 hbk
      go_wp2_with (first | (at_builtin; refine wpList_append_lie (w0 := wj) (x := ((y, ⟨x1, n, x2⟩) : Str × RawS)) (N := wj.heap.size) rfl rfl _ _ 22 rfl B0 iU _ 40 Tryz.underlying22 hiU hzU hkU hbU (by omega) rfl (by omega) encRu_lenO encRu_one _ raws rfl rfl HO.out rfl (by have := HLR.out; omega) HZW.out ?_; intro v9 w9 y9; have Y9 := Lib.hid y9; clear y9) | fail)
      have HGN : Hid (BackI w3 B0 l (k + 1) v9 w9) := Lib.hid ⟨_, Y9.out.1, by rw [List.length_append, HLR.out]; rfl, fun i a b => by
        rw [List.length_append] at a
        by_cases hi : i < raws.length
        · rw [List.getElem_append_left hi]
          exact HR.out i hi b
        · have hk' : i = k := by have := HLR.out; simp at a; omega
          subst hk'
          rw [List.getElem_append_right (by have := HLR.out; omega), ← HYK.out i b rfl]
          have e0 : i - raws.length = 0 := by have := HLR.out; omega
          simp only [e0, List.getElem_cons_zero]
          have := HCD.out
          rw [HNL.out] at this
          exact ⟨trivial, this⟩, HB.out.trans Y9.out.2.1⟩
      clear Y9
      go_wp2
      go_roundw
      case measure => simp [intOf]; omega
      case rel => exact ⟨k + 1, by omega, by go_num, HGN.out⟩
    · obtain rfl : k = N := by omega
      have h5 : decide ((k : Int) < (k : Int)) = false := decide_eq_false (by omega)
      have h5' : ¬ (k : Int) < (k : Int) := by omega
      have hBJ : Below w3.heap.size w3 wj := by rw [HB0.out]; exact hri.choose_spec.2.2.2
      have hri2 := hri
      rw [← HN.out] at hri2
      have HRD := Lib.hid (hri2.rd HB0.out.symm)
      have B4 := Lib.hid (st B3.out hBJ B3.out.size)
      have z2 := strP' r1
      have z3 : (((r2 : Nat) : Int) == ((r2 : Nat) : Int)) = true := beq_self_eq_true _
      clear hri hri2 hBJ HST
      have HA := Lib.hid (HC1.out H10.out)
      have HB := Lib.hid (HC2.out H10.out)
      clear HC1 HC2 hlt
      go_wp2_with fail
      refine (HA.out _ (HV.out.below B4.out) (HL.out E0.out B4.out)).mono ?_
      rintro e w5 ⟨rfl, b5⟩
      have B5 := Lib.hid (st B4.out b5 B4.out.size)
      have RD5 := Lib.hid (HRD.out.below b5)
      clear b5
      go_wp2_with fail
      refine (HB.out _ _ RD5.out (HL.out E0.out B5.out)).mono ?_
      rintro e w6 ⟨rfl, b6⟩
      have B6 := Lib.hid (st B5.out b6 B5.out.size)
      clear b6
      go_wp2
      go_ret
      exact ⟨rfl, B6.out⟩
end
end Go.Proofs.YtmnclnpbmgomgaaGreatDoor


/- The law of layer 14 on Classes that occur. -/
namespace Go.Proofs.YtmnclnpbmgomgaaGreatDoor
open Go.RowKit
set_option linter.unusedVariables false

theorem txt_len14 {x : Num} (g : Good x) : (txt x).length ≤ 23 := by
  have h1 := g.high
  have h2 := g.few
  unfold txt
  split <;> split <;> simp <;> omega
theorem hasUp_any (v : Value) (l : List Str) (s : Str) (w : World) (hv : Rd 1 encT w v l) : Calls Tryz.prog 20 #[v, .string (ofL s)] w fun e w' => e = .returned (.bool (hasB l s)) ∧ w' = w := by
  have H := Lib.hid (has14_any v l s w hv)
  clear hv
  go_enter Tryz.func20, Tryz.ntmps20
  go_wp2_with fail
  refine H.out.mono ?_
  rintro e w2 ⟨rfl, hw2⟩
  obtain rfl := hw2.symm
  go_wp2
  go_ret
  exact ⟨rfl, rfl⟩
section
variable {EV : World → Prop} (C : PlD EV)
include C
set_option maxRecDepth 1000000 in
set_option maxHeartbeats 8000000 in
theorem pluralOccurs_walk (v : Value) (l : Rus) (s : Str) (hs : s.length ≤ 9223372036854775807) (w : World) (hv : RdRus w v l) (hr : RusR l) (E : EV w) : Calls Tryz.prog 5 #[v, .string (ofL s)] w fun e w' => e = .returned (.bool true) ∧ Below w.heap.size w w' := by
  have HAW := Lib.hid (fun w E => awake14_any C.toPlC w E)
  have HFW := Lib.hid (fun w h => few14_any v l w h)
  have HL : Hid (∀ {w w' : World}, EV w → Below w.heap.size w w' → EV w') := Lib.hid C.later
  have HCS := Lib.hid (fun (h : l.length ≤ 10) w a E => C.classes v l w a hr h E)
  have HC1 := Lib.hid (fun (h : l.length ≤ 10) w a E => C.class_ v l s w a hr h hs E)
  have HC2 := Lib.hid (fun (h : l.length ≤ 10) (T : Str) (k : T.length ≤ 9223372036854775807) w a E => C.class_ v l T w a hr h k E)
  have HSP := Lib.hid (fun w => refSplit_any (ofL s) (by rw [ofL_size]; exact hs) w)
  rw [show (ofL s).data.toList = s from rfl] at HSP
  have HIN := Lib.hid (fun (h : (clssR l).2 = 0) (k : (spl s).isSome = true) => (⟨classR_ok (clssR_ok h).1 k, hasB_iff.2 (clss_has h k)⟩ : classR l s = (clsR l s, 0) ∧ hasB (clssR l).1 (clsR l s) = true))
  have HNG := Lib.hid (fun (x : Num) (h : spl s = some x) => classR_neg (rs := l) h)
  have E0 := Lib.hid E
  have HV := Lib.hid hv
  obtain ⟨a, c, rfl, h2, h3⟩ := hv.slice
  obtain ⟨S, hS⟩ : ∃ S, ofL s = S := ⟨_, rfl⟩
  rw [hS] at HC1 HSP ⊢
  obtain ⟨cl, hcl⟩ : ∃ cl, clssR l = cl := ⟨_, rfl⟩
  rw [hcl] at HCS HIN
  obtain ⟨cl, q⟩ := cl
  simp only at HCS HIN
  clear E hv hr hS hs hcl
  go_enter Tryz.func5, Tryz.ntmps5
  go_wp2_with fail
  refine (HAW.out _ E0.out).mono ?_
  rintro e w1 ⟨rfl, b1⟩
  have B1 := Lib.hid b1
  clear b1
  go_wp2_with fail
  refine (HFW.out _ (HV.out.below B1.out)).mono ?_
  rintro e w2 ⟨⟨fb, rfl, hfb⟩, hw2⟩
  obtain rfl := hw2.symm
  have HFB := Lib.hid hfb
  clear hw2 hfb
  cases fb with
  | false =>
    go_wp2_with fail
    refine (HAW.out _ (HL.out E0.out B1.out)).mono ?_
    rintro e w3 ⟨rfl, b3⟩
    have B3 := Lib.hid (st B1.out b3 B1.out.size)
    clear b3
    go_wp2
    go_ret
    exact ⟨rfl, B3.out⟩
  | true =>
  have H10 : Hid (l.length ≤ 10) := Lib.hid (HFB.out rfl).1
  clear HFB
  go_wp2_with fail
  refine (HSP.out _).mono ?_
  rintro e w4 ⟨ok, x, rfl, hy, hn, b4⟩
  have HYX := Lib.hid hy
  have HNX := Lib.hid (fun h => HNG.out x h)
  have HGX := Lib.hid (fun h => (spl_some (s := s) (x := x) h).1)
  obtain ⟨ng, wh, fr⟩ := x
  unfold refN
  dsimp only
  have B4 := Lib.hid (st B1.out b4 B1.out.size)
  have BB := (Below.refl w4.heap.size w4).alloc (Nat.le_refl _) (.cells #[.bool ng, .string (ofL wh), .string (ofL fr)] 33)
  have B5 := Lib.hid (st B4.out BB B4.out.size)
  have K5 := Lib.hid (Blk.new w4 33 #[.bool ng, .string (ofL wh), .string (ofL fr)])
  have HB0w := Lib.hid B4.out.size
  clear hy hn b4 BB
  go_wp2_with fail
  obtain ⟨W5, hW5⟩ : ∃ W5, w4.alloc (.cells #[.bool ng, .string (ofL wh), .string (ofL fr)] 33) = W5 := ⟨_, rfl⟩
  rw [hW5] at B5 K5 ⊢
  obtain ⟨B0, hB0⟩ : ∃ B0, w4.heap.size = B0 := ⟨_, rfl⟩
  rw [hB0] at K5 HB0w ⊢
  clear hW5 hB0
  refine (HCS.out H10.out _ (HV.out.below B5.out) (HL.out E0.out B5.out)).mono ?_
  rintro e w6 ⟨v6, rfl, rv6, b6⟩
  have B6 := Lib.hid (st B5.out b6 B5.out.size)
  have K6 := Lib.hid (Blk.below K5.out b6)
  have R6 := Lib.hid rv6
  have HBL : Hid (B0 < W5.heap.size) := Lib.hid K5.out.lt
  clear b6 rv6 HCS K5
  cases ok with
  | false =>
    go_wp2
    go_ret
    exact ⟨rfl, B6.out⟩
  | true =>
  by_cases hq0 : q = 0
  case neg =>
    have z1 : (((q : Nat) : Int) != 0) = true := by rw [bne_iff_ne]; omega
    clear hq0
    go_wp2
    go_ret
    exact ⟨rfl, B6.out⟩
  have z1 : (((q : Nat) : Int) != 0) = false := by rw [hq0]; rfl
  have HSX := Lib.hid (HYX.out rfl)
  have HI := Lib.hid (HIN.out hq0 (by rw [HSX.out]; rfl))
  have HG := Lib.hid (HGX.out HSX.out)
  have HN := Lib.hid (HNX.out HSX.out)
  obtain ⟨K, hK⟩ : ∃ K, clsR l s = K := ⟨_, rfl⟩
  rw [hK] at HI
  have HA := Lib.hid (HC1.out H10.out)
  rw [HI.out.1] at HA HN
  obtain ⟨T, hT⟩ : ∃ T, txt ⟨!ng && !zero (wh ++ fr), wh, fr⟩ = T := ⟨_, rfl⟩
  have HT := Lib.hid hT
  have HTL : Hid (T.length ≤ 9223372036854775807) := Lib.hid (by
    have := txt_len14 (neg_good HG.out)
    have e : T = txt (neg_ ⟨ng, wh, fr⟩) := hT.symm
    rw [e]; omega)
  have HN2 : Hid (classR l T = (K, 0)) := Lib.hid (by rw [← hT]; exact HN.out)
  have HB := Lib.hid (HC2.out H10.out T HTL.out)
  rw [HN2.out] at HB
  have hw0 : wh.length ≤ 1000 := by have := HG.out.high; dsimp only at this; omega
  have hf0 : fr.length ≤ 1000 := by have := HG.out.few; dsimp only at this; omega
  have HHB : Hid (hasB cl K = true) := Lib.hid HI.out.2
  have HTX := Lib.hid (fun w => refText14_any (!ng) wh fr hw0 hf0 w)
  rw [HT.out] at HTX
  simp only at HA HB
  clear hq0 hK hT HIN HNG HC1 HC2 HN HN2 HI hw0 hf0 HSX HYX HNX HGX HG HT HTL
  go_wp2_with fail
  refine (HA.out _ (HV.out.below B6.out) (HL.out E0.out B6.out)).mono ?_
  rintro e w7 ⟨rfl, b7⟩
  have B7 := Lib.hid (st B6.out b7 B6.out.size)
  have K7 := Lib.hid (Blk.below K6.out b7)
  have R7 := Lib.hid (R6.out.below b7)
  clear b7 K6 R6
  have c0 : w7.cell? ⟨B0, 0, none⟩ = some (.bool ng) := K7.out.cell 0
  have f0 : w7.frozen? ⟨B0, 0, none⟩ = false := K7.out.frozen 0
  have K8 : Hid (Blk B0 33 #[.bool !ng, .string (ofL wh), .string (ofL fr)] (w7.setCell ⟨B0, 0, none⟩ (.bool !ng))) := Lib.hid (K7.out.put 0 (.bool !ng))
  have B8 := Lib.hid (B7.out.setCell (p := ⟨B0, 0, none⟩) HB0w.out (.bool !ng))
  have R8 : Hid (Rd 1 encT (w7.setCell ⟨B0, 0, none⟩ (.bool !ng)) v6 cl) := Lib.hid ((own_but R7.out (But.setCell B0 w7 0 (.bool !ng)) HBL.out).rd encT_len)
  go_upto_region 9 with fail
  obtain ⟨w8, hw8⟩ : ∃ w8, w7.setCell ⟨B0, 0, none⟩ (.bool !ng) = w8 := ⟨_, rfl⟩
  rw [hw8] at K8 B8 R8 ⊢
  clear hw8 c0 f0 K7 R7
  have c0 : w8.cell? ⟨B0, 0, none⟩ = some (.bool !ng) := K8.out.cell 0
  have c1 : w8.cell? ⟨B0, 1, none⟩ = some (.string (ofL wh)) := K8.out.cell 1
  have c2 : w8.cell? ⟨B0, 2, none⟩ = some (.string (ofL fr)) := K8.out.cell 2
  go_wp2_with fail
  refine (HTX.out _).mono ?_
  rintro e w9 ⟨rfl, b9⟩
  have B9 := Lib.hid (st B8.out b9 B8.out.size)
  have R9 := Lib.hid (R8.out.below b9)
  clear b9 c0 c1 c2 R8
  go_wp2_with fail
  refine (HB.out _ (HV.out.below B9.out) (HL.out E0.out B9.out)).mono ?_
  rintro e wx ⟨rfl, bx⟩
  have BX := Lib.hid (st B9.out bx B9.out.size)
  have RX := Lib.hid (R9.out.below bx)
  clear bx R9
  have z2 := strP' K
  have HH := Lib.hid (hasUp_any v6 cl K _ RX.out)
  rw [HHB.out] at HH
  go_wp2_with fail
  refine HH.out.mono ?_
  rintro e wy ⟨rfl, hwy⟩
  obtain rfl := hwy.symm
  go_wp2
  go_ret
  exact ⟨rfl, BX.out⟩
end
end Go.Proofs.YtmnclnpbmgomgaaGreatDoor


/- The law of layer 14 on a rule less. -/
namespace Go.Proofs.YtmnclnpbmgomgaaGreatDoor
open Go.RowKit
set_option linter.unusedVariables false

theorem ownEmpty14 (w : World) (base : Nat) (hb : base ≤ w.heap.size) : Own1 2 encRu (w.alloc (.cells #[] 41)) base 41 (.slice (some ⟨w.heap.size, 0, none⟩) 0 0) [] :=
  ⟨by rfl, .inr ⟨w.heap.size, 0, #[], rfl, hb, heap_alloc_new w _, Nat.le_refl _, by decide, rfl, rfl⟩⟩
theorem head14 (a : Option Addr) (n c k : Nat) (hk : k ≤ n) (hn : n ≤ c) (wx : World) :
    (Instr.slice 22 (.slice a n c) none (some (.int .i64 (k : Int))) none).run Tryz.prog wx = .ok (.slice a k c) wx ∧ (Instr.sliceAt 22 (.slice a n c) none (some (.int .i64 (k : Int))) none).run Tryz.prog wx = .ok (.slice a k c) wx := by
  obtain ⟨i, hi, _, hk2, _⟩ := info_parts Tryz.info14
  have hE : Tryz.prog.elem 22 = 41 := by unfold Program.elem; rw [Tryz.underlying22]
  have ht : Tryz.prog.underlying 22 = some (.slice (Tryz.prog.elem 22)) := by rw [hE]; exact Tryz.underlying22
  have h : (Instr.slice 22 (.slice a n c) none (some (.int .i64 (k : Int))) none).run Tryz.prog wx = .ok (.slice a k c) wx := by
    rw [run_slice_h (P := Tryz.prog) (w := wx) 22 a n c ht .i64 (k : Int) (by omega) (by omega), hE]
    cases a <;> simp [sizeOf, typeInfo, hi, Result.andThen, sliced, Addr.add]
  exact ⟨h, (run_sliceAt_slice (P := Tryz.prog) (w := wx) _ _ _ _ _ ht).trans h⟩
theorem less_at {α β : Type} {P : α → β → Prop} {r : List α} {l : List β} (hl : r.length = l.length) (h : ∀ (i : Nat) (a : i < r.length) (b : i < l.length), P r[i] l[i]) (k : Nat) (hk : k < l.length) :
    ∀ (i : Nat) (a : i < (r.take k ++ r.drop (k + 1)).length) (b : i < (l.take k ++ l.drop (k + 1)).length), P (r.take k ++ r.drop (k + 1))[i] (l.take k ++ l.drop (k + 1))[i] := fun i a b => by
  have e1 : (r.take k).length = k := by rw [List.length_take]; omega
  have e2 : (l.take k).length = k := by rw [List.length_take]; omega
  rw [List.length_append, e2, List.length_drop] at b
  by_cases hi : i < k
  · rw [List.getElem_append_left (by omega), List.getElem_append_left (by omega), List.getElem_take, List.getElem_take]
    exact h _ _ _
  · rw [List.getElem_append_right (by omega), List.getElem_append_right (by omega), List.getElem_drop, List.getElem_drop]
    simp only [e1, e2]
    exact h _ _ _
theorem RdRus.less {w wx : World} {v : Value} {l : Rus} {raws : List (Str × RawS)} (hl : raws.length = l.length) (h : ∀ (i : Nat) (a : i < raws.length) (b : i < l.length), raws[i].1 = l[i].1 ∧ RdC w (.slice raws[i].2.a raws[i].2.n raws[i].2.c) l[i].2) {k : Nat} (hk : k < l.length) (hr : Rd 2 encRu wx v ([] ++ raws.take k ++ raws.drop (k + 1))) (hb : Below w.heap.size w wx) : RdRus wx v (l.take k ++ l.drop (k + 1)) := by
  rw [List.nil_append] at hr
  refine ⟨_, hr, by simp only [List.length_append, List.length_take, List.length_drop, hl], less_at (P := fun (a : Str × RawS) (b : Str × Cnd) => a.1 = b.1 ∧ RdC wx (.slice a.2.a a.2.n a.2.c) b.2) hl (fun i a b => ⟨(h i a b).1, (h i a b).2.below hb⟩) k hk⟩
theorem RusR.less {l : Rus} (h : RusR l) (k : Nat) : RusR (l.take k ++ l.drop (k + 1)) := fun i hi => by
  have hm : (l.take k ++ l.drop (k + 1))[i] ∈ l := by
    rcases List.mem_append.1 (List.getElem_mem hi) with g | g
    · exact List.mem_of_mem_take g
    · exact List.mem_of_mem_drop g
  obtain ⟨j, hj, e⟩ := List.mem_iff_getElem.1 hm
  rw [← e]
  exact h j hj
section
variable {EV : World → Prop} (C : PlD EV)
include C
set_option maxRecDepth 1000000 in
set_option maxHeartbeats 8000000 in
theorem pluralFewer_walk (v : Value) (l : Rus) (s : Str) (hs : s.length ≤ 9223372036854775807) (m : Nat) (hm : m ≤ 255) (w : World) (hv : RdRus w v l) (hr : RusR l) (E : EV w) : Calls Tryz.prog 8 #[v, .string (ofL s), .int .u8 (m : Nat)] w fun e w' => e = .returned (.bool true) ∧ Below w.heap.size w w' := by
  obtain ⟨iU, hiU, hzU, hkU, hbU⟩ := info_parts Tryz.info14
  have HAW := Lib.hid (fun w E => awake14_any C.toPlC w E)
  have HFW := Lib.hid (fun w h => few14_any v l w h)
  have HVN := Lib.hid (fun w => refValid_any (ofL s) (by rw [ofL_size]; exact hs) w)
  rw [show (ofL s).data.toList = s from rfl] at HVN
  have HL : Hid (∀ {w w' : World}, EV w → Below w.heap.size w w' → EV w') := Lib.hid C.later
  have HCS := Lib.hid (fun (h : l.length ≤ 10) w a E => C.classes v l w a hr h E)
  have HC1 := Lib.hid (fun (h : l.length ≤ 10) w a E => C.class_ v l s w a hr h hs E)
  have HC2 := Lib.hid (fun (k : Nat) (hk : k < l.length) (h : l.length ≤ 10) v w a E => C.class_ v (l.take k ++ l.drop (k + 1)) s w a (hr.less k) (by rw [List.length_append, List.length_take, List.length_drop]; omega) hs E)
  have HR1 := Lib.hid (fun (h : (clssR l).2 = 0) (k : (spl s).isSome = true) => classR_ok (s := s) (clssR_ok h).1 k)
  have HR2 := Lib.hid (fun (h : (clssR l).2 = 0) (k : (spl s).isSome = true) (j : Nat) (hj : j < l.length) => classR_less (s := s) hj (clssR_ok h).1 (clssR_ok h).2.1 k)
  have E0 := Lib.hid E
  have HV := Lib.hid hv
  have HRW := Lib.hid hv
  obtain ⟨a, c, rfl, h2, h3⟩ := hv.slice
  obtain ⟨S, hS⟩ : ∃ S, ofL s = S := ⟨_, rfl⟩
  rw [hS] at HC1 HC2 HVN ⊢
  obtain ⟨q, hq⟩ : ∃ q, (clssR l).2 = q := ⟨_, rfl⟩
  rw [hq] at HCS HR1 HR2
  obtain ⟨vb, hvb⟩ : ∃ vb, (spl s).isSome = vb := ⟨_, rfl⟩
  rw [hvb] at HVN HR1 HR2
  obtain ⟨K, hK⟩ : ∃ K, clsR l s = K := ⟨_, rfl⟩
  rw [hK] at HR1 HR2
  obtain ⟨N, hN⟩ : ∃ N, l.length = N := ⟨_, rfl⟩
  have HN := Lib.hid hN
  rw [hN] at h2 HV HC1 HCS ⊢
  clear E hv hr hS hs hq hvb hK hN
  go_enter Tryz.func8, Tryz.ntmps8
  go_wp2_with fail
  refine (HAW.out _ E0.out).mono ?_
  rintro e w1 ⟨rfl, b1⟩
  have B1 := Lib.hid b1
  have V1 := Lib.hid (HV.out.below B1.out)
  clear b1
  go_wp2_with fail
  have HF1 := HFW.out _ (HRW.out.below B1.out)
  rw [HN.out] at HF1
  refine HF1.mono ?_
  rintro e w2 ⟨⟨fb, rfl, hfb⟩, hw2⟩
  obtain rfl := hw2.symm
  have HFB := Lib.hid hfb
  clear hw2 hfb HF1
  cases fb with
  | false =>
    go_wp2_with fail
    refine (HAW.out _ (HL.out E0.out B1.out)).mono ?_
    rintro e w3 ⟨rfl, b3⟩
    have B3 := Lib.hid (st B1.out b3 B1.out.size)
    clear b3
    go_wp2
    go_ret
    exact ⟨rfl, B3.out⟩
  | true =>
  have H10 : Hid (N ≤ 10) := Lib.hid (by rw [← HN.out]; exact (HFB.out rfl).1)
  clear HFB
  by_cases hN0 : N = 0
  · have y1 : (((N : Nat) : Int) == 0) = true := by rw [hN0]; rfl
    clear hN0
    go_wp2_with fail
    refine (HAW.out _ (HL.out E0.out B1.out)).mono ?_
    rintro e w3 ⟨rfl, b3⟩
    have B3 := Lib.hid (st B1.out b3 B1.out.size)
    clear b3
    go_wp2
    go_ret
    exact ⟨rfl, B3.out⟩
  have y1 : (((N : Nat) : Int) == 0) = false := by rw [beq_eq_false_iff_ne]; omega
  go_wp2_with fail
  refine (HVN.out _).mono ?_
  rintro e w3 ⟨rfl, b3⟩
  have B3 := Lib.hid (st B1.out b3 B1.out.size)
  clear b3 HVN
  cases vb with
  | false =>
    go_wp2_with fail
    refine (HAW.out _ (HL.out E0.out B3.out)).mono ?_
    rintro e w4 ⟨rfl, b4⟩
    have B4 := Lib.hid (st B3.out b4 B3.out.size)
    clear b4
    go_wp2
    go_ret
    exact ⟨rfl, B4.out⟩
  | true =>
  go_wp2_with fail
  refine (HCS.out H10.out _ (HV.out.below B3.out) (HL.out E0.out B3.out)).mono ?_
  rintro e w4 ⟨v4, rfl, rv4, b4⟩
  have B4 := Lib.hid (st B3.out b4 B3.out.size)
  clear b4 rv4 HCS
  by_cases hq0 : q = 0
  case neg =>
    have z1 : (((q : Nat) : Int) != 0) = true := by rw [bne_iff_ne]; omega
    clear hq0
    go_wp2
    go_ret
    exact ⟨rfl, B4.out⟩
  have z1 : (((q : Nat) : Int) != 0) = false := by rw [hq0]; rfl
  obtain ⟨k, hk⟩ : ∃ k, m % N = k := ⟨_, rfl⟩
  have hkN : k < N := by rw [← hk]; exact Nat.mod_lt _ (by omega)
  have m1 : (m : Int).tmod (N : Int) = (k : Int) := by rw [Int.tmod_eq_emod_of_nonneg (by omega), ← hk]; exact (Int.natCast_emod m N).symm
  have m2 : (m : Int) % (N : Int) = (k : Int) := by rw [← hk]; exact (Int.natCast_emod m N).symm
  have hN1 : ¬ (N : Int) = 0 := by omega
  have hkl : k < l.length := by rw [HN.out]; exact hkN
  have HA := Lib.hid (HC1.out H10.out)
  rw [HR1.out hq0 (by first | rfl | trivial)] at HA
  have HB := Lib.hid (HC2.out k hkl (by rw [HN.out]; exact H10.out))
  rw [HR2.out hq0 (by first | rfl | trivial) k hkl] at HB
  have HKL := Lib.hid hkl
  simp only at HA HB
  have V4 := Lib.hid (HV.out.below B4.out)
  have V4r := V4.out
  obtain ⟨raws, hrd, hrl, hra⟩ := V4r
  have HRL := Lib.hid hrl
  have HRA := Lib.hid hra
  have RT := Lib.hid (hrd.take k (by omega))
  obtain ⟨a2, c2, ht1, ht2, ht3, ht4⟩ := hrd.tail_ Tryz.underlying22 hiU hkU (k + 1) (by omega)
  have RT2 := Lib.hid ht1
  have e9 : raws.length - (k + 1) = N - (k + 1) := by rw [hrl, HN.out]
  rw [e9] at ht3 ht4 RT2
  have hs1 : ∀ wx, (Instr.slice 22 (.slice a N c) none (some (.int .i64 (k : Int))) none).run Tryz.prog wx = .ok (.slice a k c) wx := fun wx => (head14 a N c k (by omega) h2 wx).1
  have hs2 : ∀ wx, (Instr.sliceAt 22 (.slice a N c) none (some (.int .i64 (k : Int))) none).run Tryz.prog wx = .ok (.slice a k c) wx := fun wx => (head14 a N c k (by omega) h2 wx).2
  have ht5 : ∀ wx, (Instr.slice 22 (.slice a N c) (some (.int .i64 ((k : Int) + 1))) none none).run Tryz.prog wx = .ok (.slice a2 (N - (k + 1)) c2) wx := ht3
  have ht6 : ∀ wx, (Instr.sliceAt 22 (.slice a N c) (some (.int .i64 ((k : Int) + 1))) none none).run Tryz.prog wx = .ok (.slice a2 (N - (k + 1)) c2) wx := ht4
  obtain ⟨bk, off, x1, x2, ha, hbk, g0, g1, gx⟩ := (by have := V4.out; exact this : RdRus w4 (.slice a N c) l).at_ k hkl
  obtain ⟨Y, hY⟩ : ∃ Y, l[k]'hkl = Y := ⟨_, rfl⟩
  rw [hY] at g0 HB
  have HG0 : Hid (∀ wx, Below w4.heap.size w4 wx → wx.cell? ⟨bk, off + k * 2, none⟩ = some (.string (ofL Y.1))) := Lib.hid (fun wx hb => (hb.cell (p := ⟨bk, off + k * 2, none⟩) hbk).trans g0)
  obtain ⟨y, Yc⟩ := Y
  simp only at HB HG0
  have OE := Lib.hid (ownEmpty14 w4.drew w4.heap.size (Nat.le_refl _))
  have BE : Hid (Below w4.heap.size w4 (w4.drew.alloc (.cells #[] 41))) := Lib.hid ((Below.refl _ w4).drew.alloc (Nat.le_refl _) _)
  have y5 : w4.heap.size ≤ (w4.drew.alloc (.cells #[] 41)).heap.size := BE.out.size
  have P0 := Lib.hid (RT.out.below BE.out)
  have hl10 := H10.out
  have u1 : IntKind.i64.wrap ((k : Int) + 1) = (k : Int) + 1 := by rw [IntKind.wrap_i64]; omega
  have hrlN : raws.length = N := by rw [hrl, HN.out]
  have HLT : Hid ((raws.take k).length ≤ 10 ∧ (raws.drop (k + 1)).length ≤ 10) := Lib.hid ⟨by rw [List.length_take]; omega, by rw [List.length_drop]; omega⟩
  cases ha
  clear hY g0 g1 gx hra hrl hrlN hrd ht1 ht2 ht3 ht4 e9 hq0 hkl hk hbk hN0
  go_upto_region 7 with fail
  go_cut [10] from 45 to 54 (fun v10 wx => Own1 2 encRu wx w4.heap.size 41 v10 ([] ++ raws.take k ++ raws.drop (k + 1)) ∧ Below w4.heap.size w4 wx)
  case first =>
   go_region_law (first
    | (refine step_append_rd (w := w4.drew.alloc (.cells #[] 41)) rfl _ _ 22 rfl w4.heap.size iU _ 40 Tryz.underlying22 hiU hzU hkU hbU (by omega) rfl (by omega) encRu_lenO encRu_one _ [] (raws.take k) _ rfl OE.out rfl P0.out (by have := HLT.out; simp only [List.length_nil]; omega) y5 ?_; intro v1 x1 h1; have O1 := Lib.hid h1.1; have C1 := Lib.hid (BE.out.trans h1.2); have k1 := C1.out.size; have P1 := Lib.hid (RT2.out.below C1.out); clear h1)
    | (refine step_append_rd rfl _ _ 22 rfl w4.heap.size iU _ 40 Tryz.underlying22 hiU hzU hkU hbU (by omega) rfl (by omega) encRu_lenO encRu_one _ ([] ++ raws.take k) (raws.drop (k + 1)) _ rfl O1.out rfl P1.out (by have := HLT.out; simp only [List.nil_append]; omega) k1 ?_; intro v2 x2 h2; have O2 := Lib.hid h2.1; have C2 := Lib.hid (C1.out.trans h2.2); clear h2))
   all_goals (
    go_wp2_with fail
    go_meet
    exact ⟨O2.out, C2.out⟩)
  case rest =>
   obtain ⟨ox, bx⟩ := hcut
   rename World => w5
   have RD5 := Lib.hid (RdRus.less HRL.out HRA.out HKL.out (ox.rd encRu_lenO) bx)
   have B5 := Lib.hid (st B4.out bx B4.out.size)
   have G5 := Lib.hid bx
   clear ox bx OE BE y5 P0 hs1 hs2 ht5 ht6 RT RT2 HLT u1
   go_wp2_with fail
   refine (HA.out _ (HV.out.below B5.out) (HL.out E0.out B5.out)).mono ?_
   rintro e w6 ⟨rfl, b6⟩
   have B6 := Lib.hid (st B5.out b6 B5.out.size)
   have RD6 := Lib.hid (RD5.out.below b6)
   have G6 := Lib.hid (st G5.out b6 G5.out.size)
   clear b6
   go_wp2_with fail
   refine (HB.out _ _ RD6.out (HL.out E0.out B6.out)).mono ?_
   rintro e w7 ⟨rfl, b7⟩
   have B7 := Lib.hid (st B6.out b7 B6.out.size)
   have G7 := Lib.hid (st G6.out b7 G6.out.size)
   have c0 := HG0.out _ G7.out
   clear b7
   have p1 := beqP K y
   by_cases hKy : K = y
   · have t1 : ((ofL K).toList == (ofL y).toList) = true := by rw [p1]; exact decide_eq_true hKy
     have t2 : ((ofL othN).toList == ([111, 116, 104, 101, 114] : List UInt8)) = true := by rw [ByteArray.toList_eq]; rfl
     rw [if_pos hKy]
     clear hKy p1
     go_wp2
     go_ret
     exact ⟨rfl, B7.out⟩
   · have t1 : ((ofL K).toList == (ofL y).toList) = false := by rw [p1]; exact decide_eq_false hKy
     have t2 := strP' K
     rw [if_neg hKy]
     clear hKy p1
     go_wp2
     go_ret
     exact ⟨rfl, B7.out⟩
end
end Go.Proofs.YtmnclnpbmgomgaaGreatDoor


