/- Of the program: what explore holds: rows of eleven numbers, the map that numbers what was found; the closures of graphOf. -/
import Derived.Test.YtiljagfjgefnnaaBa
import Derived.Test.YtiljagfjgefnnaaAi
import Derived.Test.YtiljagfjgefnnaaAr
import Derived.Maps.OwnSet
import Derived.Deep.MidRow
import Derived.Great.BuildSlice
namespace Go.Proofs.Ytiljagfjgefnnaa
open Go.RowKit Go.Maps
set_option linter.unusedVariables false

/-! ### Rows of eleven small numbers -/
def encG (x : List Nat) : List Value := (List.range 11).map fun c => .int .i32 (x.getD c 0 : Nat)
theorem encG_len (x : List Nat) : (encG x).length = 11 := by unfold encG; simp
theorem encG_one (x : List Nat) : ∀ u ∈ encG x, u.oneCell' = true := by
  intro u hu
  obtain ⟨c, _, rfl⟩ := List.mem_map.1 hu
  rfl
theorem encG_get (x : List Nat) {c : Nat} (hc : c < 11) : (encG x)[c]? = some (.int .i32 (x.getD c 0 : Nat)) := by
  unfold encG
  rw [List.getElem?_map, List.getElem?_range hc]
  rfl
theorem encG_snoc (x : List Nat) (y : Nat) (hx : x.length < 11) : (encG x).toArray.setIfInBounds x.length (.int .i32 (y : Nat)) = (encG (x ++ [y])).toArray := by
  rw [List.setIfInBounds_toArray]
  congr 1
  refine List.ext_getElem? fun j => ?_
  rw [List.getElem?_set, encG_len]
  by_cases hj : x.length = j
  · subst hj
    rw [if_pos rfl, if_pos hx, encG_get _ hx, List.getD_eq_getElem?_getD, List.getElem?_append_right (Nat.le_refl _), Nat.sub_self]
    rfl
  · rw [if_neg hj]
    rcases Nat.lt_or_ge j 11 with h | h
    · rw [encG_get _ h, encG_get _ h, List.getD_eq_getElem?_getD, List.getD_eq_getElem?_getD]
      rcases Nat.lt_or_ge j x.length with h1 | h1
      · rw [List.getElem?_append_left h1]
      · rw [List.getElem?_eq_none h1, List.getElem?_eq_none (by rw [List.length_append, List.length_singleton]; omega)]
    · rw [List.getElem?_eq_none (by rw [encG_len]; exact h), List.getElem?_eq_none (by rw [encG_len]; exact h)]
theorem Try.infoG : (Try.prog.info? 84).map (fun i => (i.zero, i.size, i.bytes)) = some (some (.agg (encG []).toArray), 11, 44) := by kernel_rfl
theorem Rd.row {w : World} {a : Option Addr} {n c : Nat} {l : List (List Nat)} (h : Rd 11 encG w (.slice a n c) l) (i : Nat) (hi : i < l.length) : ∃ b off, a = some ⟨b, off, none⟩ ∧ w.rangeAt b (off + i * 11) (encG l[i]) := by
  obtain ⟨b, off, ha, _, hx⟩ := h.some_ i hi
  exact ⟨b, off, ha, fun j u hu => hx j u hu⟩
/-- A row loaded whole. -/
theorem load_row {w : World} {b o : Nat} {x : List Nat} (h : w.rangeAt b o (encG x)) : (Instr.loadAt 84 (.pointer (some ⟨b, o, none⟩))).run Try.prog w = .ok (.agg (encG x).toArray) w :=
  run_loadAt_mid w b o 84 (encG x) _ h Try.underlying84 rfl (by rw [encG_len]; kernel_rfl)

theorem fill_row (x : List Nat) : Instr.fill (fun i => some (i * 11, 11)) ((Array.range (1 * 11)).map ((Value.agg (encG []).toArray).cells[· % (Value.agg (encG []).toArray).cells.size]!)) [(0, .agg (encG x).toArray)] = some (encG x).toArray := by kernel_rfl
/-- A slice of one row. -/
theorem wpList_row {ops : Array Oper} {rest : List Oper} {o : Oper} {a : Act} {w : World} {Q : Exit → Act → World → Prop} (x : List Nat) (y : Operand) (hg : o.guard = none) (ho : o.op = .buildSlice 60 1 #[(0, y)]) (hy : a.eval y = .agg (encG x).toArray)
    (h : wpList Try.prog ops Q rest (a.put o.dst (.slice (some ⟨w.heap.size, 0, none⟩) 1 1)) (w.alloc (.cells (encG x).toArray 84))) : wpList Try.prog ops Q (o :: rest) a w := by
  obtain ⟨iG, hiG, hzG, hkG, hbG⟩ := info_parts Try.infoG
  refine wpList_buildSlice hg 60 84 1 #[(0, y)] ho (encG x).toArray iG _ Try.underlying60 hiG hzG (by rw [hkG]; omega) (by rw [hkG]; omega) ?_ h
  rw [hkG]
  simp only [List.map_toArray, List.map_cons, List.map_nil, hy]
  exact fill_row x

/-! ### The map -/
/-- Block B numbers what has been found: kv x is the key of x. -/
def MapIs (w : World) (K : TypeId) (B n : Nat) (kv : Nat → Value) (fd : List Nat) : Prop :=
  ∃ D : DataW Unit, w.ownsMap Try.prog K (plainElem Try.prog 21) B n D ∧ IsMap D ∧ ∀ x l, keyOf Try.prog K (kv x) = some l → Maps.has D l = decide (x ∈ fd) ∧ (x ∈ fd → D.atKey l (.lit (.int .i32 0)) = .lit (.int .i32 (idx fd x : Nat)))
theorem MapIs.lt {w : World} {K : TypeId} {B n : Nat} {kv : Nat → Value} {fd : List Nat} (h : MapIs w K B n kv fd) : B < w.heap.size := by
  obtain ⟨D, h, _⟩ := h
  exact h.lt
theorem MapIs.kept {w w' : World} {K : TypeId} {B n : Nat} {kv : Nat → Value} {fd : List Nat} {row : Option Nat} (h : MapIs w K B n kv fd) (hg : w.grownBy w' row) (hne : some B ≠ row) : MapIs w' K B n kv fd := by
  obtain ⟨D, h, h2⟩ := h
  exact ⟨D, h.kept hg hne, h2⟩
theorem grown_of_below {w w' : World} (h : Below w.heap.size w w') : w.grownBy w' none := ⟨h.os, h.tape, h.output, h.size, fun k hk _ => h.block k hk⟩
theorem MapIs.below {w w' : World} {K : TypeId} {B n : Nat} {kv : Nat → Value} {fd : List Nat} (h : MapIs w K B n kv fd) (hb : Below w.heap.size w w') : MapIs w' K B n kv fd := h.kept (grown_of_below hb) (by simp)
theorem MapIs.mono {w : World} {K : TypeId} {B n m : Nat} {kv : Nat → Value} {fd : List Nat} (h : MapIs w K B n kv fd) (hn : n ≤ m) : MapIs w K B m kv fd := by
  obtain ⟨D, h, h2⟩ := h
  exact ⟨D, h.mono hn, h2⟩
theorem mapIs_made (w : World) (K : TypeId) (kv : Nat → Value) : MapIs (w.alloc (.map #[] 0)) K w.heap.size 0 kv [] :=
  ⟨.map [], World.ownsMap_made _ _ _ _, isMap_empty, fun x l _ => ⟨by simp [Maps.has_eq], fun h => by cases h⟩⟩
section
variable {w : World} {T K : TypeId} {B n : Nat} {kv : Nat → Value} {fd : List Nat}
theorem idx_snoc_old {fd : List Nat} {x y : Nat} (h : x ∈ fd) : idx (fd ++ [y]) x = idx fd x := by
  have h1 := idx_lt.2 h
  refine idx_first (by rw [List.length_append]; omega) ?_ (fun j hj hlt => ?_)
  · rw [List.getElem_append_left h1]; exact idx_get h1
  · rw [List.getElem_append_left (by omega)]
    have := List.not_of_lt_findIdx (xs := fd) (p := (· == x)) (i := j) hlt
    simpa using this
theorem idx_snoc_new {fd : List Nat} {y : Nat} (h : y ∉ fd) : idx (fd ++ [y]) y = fd.length := by
  refine idx_first (by rw [List.length_append, List.length_singleton]; omega) (by simp) (fun j hj hlt => ?_)
  rw [List.getElem_append_left (by omega)]
  intro e
  exact h (e ▸ List.getElem_mem _)
theorem i32_wf {n : Nat} (h : n ≤ 2000000000) : (Lit.int .i32 (n : Int)).wf = true := WalkArith.wf_i32 ⟨by omega, by omega⟩
/-- It is looked up. -/
theorem MapIs.look (h : MapIs w K B n kv fd) (L : Keyed Try.prog K) (ht : Try.prog.underlying T = some (.map K 21)) (hz : ∀ wx, (zeroValue 21).run Try.prog wx = .ok (.int .i32 0) wx) {x : Nat} {l : Lit} (hk : keyOf Try.prog K (kv x) = some l) :
    ∃ c : Nat, (Instr.lookup T (.map (some B)) (kv x) true).run Try.prog w = .ok (.tuple #[.int .i32 (c : Int), .bool (decide (x ∈ fd))]) w ∧ (x ∈ fd → c = idx fd x) := by
  obtain ⟨D, h, hD, h2⟩ := h
  obtain ⟨v, ps, hrun, hv⟩ := h.look_ok L ht (hz w) (zd := .lit (.int .i32 0)) (zp := []) (plainElem_int Try.underlying21 (by decide)) hk
  obtain ⟨h3, h4⟩ := h2 x l hk
  rw [h3] at hrun
  obtain ⟨c, rfl, hc, hw⟩ := plainElem_int_inv Try.underlying21 hv
  have hc1 := congrArg Prod.fst hc
  dsimp only at hc1
  by_cases hx : x ∈ fd
  · rw [h4 hx] at hc1
    injection hc1 with hc1
    injection hc1 with _ hc1
    subst hc1
    exact ⟨idx fd x, hrun, fun _ => rfl⟩
  · have h5 : Maps.has D l = false := by rw [h3]; exact decide_eq_false hx
    rw [atKey_of_not_has h5] at hc1
    injection hc1 with hc1
    injection hc1 with _ hc1
    subst hc1
    exact ⟨0, hrun, fun e => absurd e hx⟩
/-- One more is put in. -/
theorem MapIs.put (h : MapIs w K B n kv fd) (L : Keyed Try.prog K) (hinj : ∀ x y, kv x = kv y → x = y) (ht : Try.prog.underlying T = some (.map K 21)) (hn : n ≤ 2000000000) (hlen : fd.length ≤ 2000000000) {x : Nat} {l : Lit} (hk : keyOf Try.prog K (kv x) = some l) (hx : x ∉ fd) :
    ∃ w', (Instr.mapUpdate T (.map (some B)) (kv x) (.int .i32 (fd.length : Nat))).run Try.prog w = .ok () w' ∧ MapIs w' K B (n + 1) kv (fd ++ [x]) ∧ w.grownBy w' (some B) := by
  obtain ⟨D, h, hD, h2⟩ := h
  obtain ⟨w', hrun, hown, hg⟩ := h.update L ht (by unfold maxLen; omega) hk (d := .lit (.int .i32 (fd.length : Nat))) (ps := []) (plainElem_int Try.underlying21 (i32_wf hlen))
  refine ⟨w', hrun, ⟨_, hown, hD.put _ _, fun y m hm => ?_⟩, hg⟩
  by_cases hy : y = x
  · subst hy
    rw [hk] at hm
    cases hm
    exact ⟨by rw [has_put_same hD (L.key hk)]; simp, fun _ => by rw [atKey_put_same hD (L.key hk), idx_snoc_new hx]⟩
  · have hne : m ≠ l := fun e => hy (hinj _ _ (L.inj hm (e ▸ hk)))
    obtain ⟨h3, h4⟩ := h2 y m hm
    refine ⟨by rw [has_put_other hne, h3, decide_eq_decide]; simp [hy], fun hmem => ?_⟩
    have : y ∈ fd := by simpa [hy] using hmem
    rw [atKey_put_other hne, h4 this, idx_snoc_old this]
end

/-! ### The closures of graphOf -/
set_option maxRecDepth 1000000 in
theorem step1_any (r : RawD) (ok : DOk r) (g : Nat) (a1 : Option Addr) (c1 : Nat) (a2 : Option Addr) (c2 : Nat) (w : World) (K : Blk g 29 #[.int .i64 r.st, .slice a1 r.nx.length c1, .slice a2 r.ac.length c2] w) (hN : RdRows w (.slice a1 r.nx.length c1) r.nx) (s c : Nat) (hs : s < r.nx.length) (hc : c < 11) :
    Calls Try.prog 52 #[.int .i64 (s : Int), .int .i64 (c : Int), .pointer (some ⟨g, 0, none⟩)] w fun e w' => e = .returned (.int .i64 ((toA r).d s c : Nat)) ∧ w' = w := by
  have f1 : w.cell? ⟨g, 1, none⟩ = some (.slice a1 r.nx.length c1) := K.cell 1
  obtain ⟨b, off, b', off', x2, rfl, g0, g1⟩ := ok.cells hN hs hc
  have h8 : (c : Int) < 11 := by omega
  have h7 : (s : Int) < (r.nx.length : Int) := by omega
  clear hN K
  go_enter Try.func52, Try.ntmps52
  go_wp2
  go_ret
  exact ⟨rfl, rfl⟩
set_option maxRecDepth 1000000 in
theorem acc1_any (r : RawD) (ok : DOk r) (g : Nat) (a1 : Option Addr) (c1 : Nat) (a2 : Option Addr) (c2 : Nat) (w : World) (K : Blk g 29 #[.int .i64 r.st, .slice a1 r.nx.length c1, .slice a2 r.ac.length c2] w) (hF : Rd 1 encO w (.slice a2 r.ac.length c2) r.ac) (s : Nat) (hs : s < r.nx.length) :
    Calls Try.prog 53 #[.int .i64 (s : Int), .pointer (some ⟨g, 0, none⟩)] w fun e w' => e = .returned (.bool ((toA r).f s)) ∧ w' = w := by
  have f2 : w.cell? ⟨g, 2, none⟩ = some (.slice a2 r.ac.length c2) := K.cell 2
  have hs2 : s < r.ac.length := by rw [ok.ac]; exact hs
  obtain ⟨b, off, rfl, g0⟩ := hF.boo s hs2
  have h7 : (s : Int) < (r.ac.length : Int) := by omega
  have HV : Hid (r.ac.getD s false = (toA r).f s) := Lib.hid rfl
  obtain ⟨z, hz⟩ : ∃ z, r.ac.getD s false = z := ⟨_, rfl⟩
  rw [hz] at g0 HV
  clear hF K hz
  go_enter Try.func53, Try.ntmps53
  go_wp2
  go_ret
  exact ⟨by rw [← HV.out]; rfl, rfl⟩
end Go.Proofs.Ytiljagfjgefnnaa
