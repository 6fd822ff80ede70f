/- What the row stands on, part 17. -/
import Derived.Test.YtfbfcomfkokfcaaGreatDoorQ16

/- Of decide: Satisfiable, Total, Equivalent. -/
namespace Go.Proofs.YtfbfcomfkokfcaaGreatDoor
open Go.RowKit Go.Maps
set_option linter.unusedVariables false

theorem rdCs_new (w : World) (raws : List RawS) (l : List Cnd) (hl : raws.length ≤ 1000) (t : TypeId) (cs : Array Value) (hcs : cs = (raws.map RawS.v).toArray) (hn : raws.length = l.length)
    (h : ∀ (i : Nat) (h : i < raws.length) (h' : i < l.length), RdC w (.slice raws[i].a raws[i].n raws[i].c) l[i]) : RdCs (w.alloc (.cells cs t)) (.slice (some ⟨w.heap.size, 0, none⟩) raws.length raws.length) l := by
  have k := Blk.new w t cs
  refine ⟨raws, ⟨⟨_, raws.length, rfl, Nat.le_refl _, by omega, fun _ => ⟨w.heap.size, 0, rfl, k.lt, fun i u hi j v hv => ?_⟩⟩, fun n c hc => by cases hc⟩, hn, fun i h1 h2 => (h i h1 h2).below (Below.alloc (Below.refl _ _) (Nat.le_refl _) _)⟩
  have hj : j = 0 := by have := (List.getElem?_eq_some_iff.1 hv).1; simp [encS] at this; exact this
  subst hj
  simp [encS] at hv
  subst hv
  rw [k.cell, hcs]
  simp [hi, RawS.v]
theorem RdC.raw {w : World} {v : Value} {c : Cnd} (h : RdC w v c) : ∃ x : RawS, v = .slice x.a x.n x.c ∧ RdC w (.slice x.a x.n x.c) c := by
  obtain ⟨a, n, rfl, _⟩ := h.slice
  exact ⟨⟨a, c.length, n⟩, rfl, h⟩
theorem rdCs_one {w : World} {v : Value} {c : Cnd} (h : RdC w v c) (t : TypeId) : RdCs (w.alloc (.cells #[v] t)) (.slice (some ⟨w.heap.size, 0, none⟩) 1 1) [c] := by
  obtain ⟨x, rfl, hx⟩ := h.raw
  exact rdCs_new w [x] [c] (by simp) t _ (by simp [RawS.v]) rfl (fun i h1 h2 => by
    have : i = 0 := by simp at h1; exact h1
    subst this
    exact hx)
theorem rdCs_two {w : World} {u v : Value} {c d : Cnd} (h : RdC w u c) (k : RdC w v d) (t : TypeId) : RdCs (w.alloc (.cells #[u, v] t)) (.slice (some ⟨w.heap.size, 0, none⟩) 2 2) [c, d] := by
  obtain ⟨x, rfl, hx⟩ := h.raw
  obtain ⟨y, rfl, hy⟩ := k.raw
  exact rdCs_new w [x, y] [c, d] (by simp) t _ (by simp [RawS.v]) rfl (fun i h1 h2 => by
    have : i = 0 ∨ i = 1 := by simp at h1; omega
    rcases this with rfl | rfl
    · exact hx
    · exact hy)
theorem MaxL.alloc {w : World} (h : MaxL w) (o : Obj) : MaxL (w.alloc o) := h.below (Below.alloc (Below.refl _ _) (Nat.le_refl _) _)
theorem below_al (w : World) (o : Obj) : Below w.heap.size w (w.alloc o) := Below.alloc (Below.refl _ _) (Nat.le_refl _) _

/-! ### Total -/
set_option maxRecDepth 1000000 in
set_option maxHeartbeats 4000000 in
theorem total_any (cs : List Cnd) (v : Value) (h10 : cs.length ≤ 10) (hok : ∀ c ∈ cs, okC c = true) (w : World) (hv : RdCs w v cs) (hm : MaxL w) :
    Calls Tryz.prog 28 #[v] w fun e w' => e = .returned (.tuple #[.string (ofL ((firstR cs 1).getD [])), .bool (decide ((firstR cs 1).getD [] = [])), .int .i64 0]) ∧ Below w.heap.size w w' := by
  have HN := Lib.hid (never_any cs 1 (fun n => decide (n = 0)) v 71 #[] (enters_of Tryz.func71 (by kernel_rfl) rfl) h10 hok (fun s _ => sN_tot cs s) w hv hm (fun W c _ _ => isTot_any c W))
  clear hok h10 hv hm
  go_enter Tryz.func28, Tryz.ntmps28
  go_wp2_with fail
  refine HN.out.mono ?_
  rintro e w2 ⟨rfl, h4⟩
  have H4 := Lib.hid h4
  clear h4
  go_wp2
  go_ret3
  exact ⟨rfl, H4.out⟩
set_option maxRecDepth 1000000 in
set_option maxHeartbeats 4000000 in
theorem totalBad_any (cs : List Cnd) (v : Value) (hbig : ∀ c ∈ cs, ∀ l ∈ c, l.length ≤ 4611686018427387904) (hbad : ¬ (cs.length ≤ 10 ∧ ∀ c ∈ cs, okC c = true)) (w : World) (hv : RdCs w v cs) :
    Calls Tryz.prog 28 #[v] w fun e w' => e = .returned (.tuple #[.string (ofL []), .bool false, .int .i64 1]) ∧ Below w.heap.size w w' := by
  have HN := Lib.hid (neverBad_any cs v (.func (.func 71) #[] #[]) hbig hbad w hv)
  clear hbig hbad hv
  go_enter Tryz.func28, Tryz.ntmps28
  go_wp2_with fail
  refine HN.out.mono ?_
  rintro e w2 ⟨rfl, h4⟩
  have H4 := Lib.hid h4
  clear h4
  go_wp2
  go_ret3
  exact ⟨rfl, H4.out⟩

/-! ### Equivalent -/
set_option maxRecDepth 1000000 in
set_option maxHeartbeats 4000000 in
theorem equ_any (a b : Cnd) (u v : Value) (ha : okC a = true) (hb : okC b = true) (w : World) (hu : RdC w u a) (hv : RdC w v b) (hm : MaxL w) :
    Calls Tryz.prog 33 #[u, v] w fun e w' => e = .returned (.tuple #[.string (ofL ((firstR [a, b] 3).getD [])), .bool (decide ((firstR [a, b] 3).getD [] = [])), .int .i64 0]) ∧ Below w.heap.size w w' := by
  obtain ⟨x1, n1, rfl, _⟩ := hu.slice
  obtain ⟨x2, n2, rfl, _⟩ := hv.slice
  have HN := Lib.hid (never_any [a, b] 3 (fun n => decide (n = 1) || decide (n = 2)) (.slice (some ⟨w.heap.size, 0, none⟩) 2 2) 73 #[] (enters_of Tryz.func73 (by kernel_rfl) rfl) (by simp) (fun c hc => by
    rcases List.mem_cons.1 hc with rfl | hc
    · exact ha
    · rw [List.mem_singleton.1 hc]; exact hb) (fun s _ => sN_equ a b s) _ (rdCs_two hu hv 23) (hm.alloc _) (fun W c _ _ => isEqu_any c W))
  have HW := Lib.hid (below_al w (.cells #[.slice x1 a.length n1, .slice x2 b.length n2] 23))
  clear ha hb hu hv hm
  go_enter Tryz.func33, Tryz.ntmps33
  go_wp2_with fail
  refine HN.out.mono ?_
  rintro e w2 ⟨rfl, h4⟩
  have H4 := Lib.hid (st HW.out h4 HW.out.size)
  clear h4
  go_wp2
  go_ret3
  exact ⟨rfl, H4.out⟩
set_option maxRecDepth 1000000 in
set_option maxHeartbeats 4000000 in
theorem equBad_any (a b : Cnd) (u v : Value) (hbig : ∀ c ∈ [a, b], ∀ l ∈ c, l.length ≤ 4611686018427387904) (hbad : ¬ (okC a = true ∧ okC b = true)) (w : World) (hu : RdC w u a) (hv : RdC w v b) :
    Calls Tryz.prog 33 #[u, v] w fun e w' => e = .returned (.tuple #[.string (ofL []), .bool false, .int .i64 1]) ∧ Below w.heap.size w w' := by
  obtain ⟨x1, n1, rfl, _⟩ := hu.slice
  obtain ⟨x2, n2, rfl, _⟩ := hv.slice
  have HN := Lib.hid (neverBad_any [a, b] (.slice (some ⟨w.heap.size, 0, none⟩) 2 2) (.func (.func 73) #[] #[]) hbig (fun h => hbad ⟨h.2 a (by simp), h.2 b (by simp)⟩) _ (rdCs_two hu hv 23))
  have HW := Lib.hid (below_al w (.cells #[.slice x1 a.length n1, .slice x2 b.length n2] 23))
  clear hbig hbad hu hv
  go_enter Tryz.func33, Tryz.ntmps33
  go_wp2_with fail
  refine HN.out.mono ?_
  rintro e w2 ⟨rfl, h4⟩
  have H4 := Lib.hid (st HW.out h4 HW.out.size)
  clear h4
  go_wp2
  go_ret3
  exact ⟨rfl, H4.out⟩

/-! ### Satisfiable -/
set_option maxRecDepth 1000000 in
set_option maxHeartbeats 4000000 in
theorem sat_any (a : Cnd) (u : Value) (ha : okC a = true) (w : World) (hu : RdC w u a) (hm : MaxL w) :
    Calls Tryz.prog 24 #[u] w fun e w' => e = .returned (.tuple #[.string (ofL ((firstR [a] 0).getD [])), .bool (decide ((firstR [a] 0).getD [] ≠ [])), .int .i64 0]) ∧ Below w.heap.size w w' := by
  obtain ⟨x1, n1, rfl, _⟩ := hu.slice
  obtain ⟨A, hA⟩ : ∃ A, (firstR [a] 0).getD [] = A := ⟨_, rfl⟩
  rw [hA]
  have hok : ∀ c ∈ [a], okC c = true := fun c hc => by rw [List.mem_singleton.1 hc]; exact ha
  have HFI := Lib.hid (firsts_any [a] (.slice (some ⟨w.heap.size, 0, none⟩) 1 1) (by simp) hok _ (rdCs_one hu 23))
  have HOK := Lib.hid hok
  have HM := Lib.hid (hm.alloc (.cells #[.slice x1 a.length n1] 23))
  have HA := Lib.hid hA
  have HW := Lib.hid (below_al w (.cells #[.slice x1 a.length n1] 23))
  have HT := Lib.hid (str_dec A)
  obtain ⟨y, hy⟩ : ∃ y, decide (A = []) = y := ⟨_, rfl⟩
  have HY : Hid (decide (A ≠ []) = !y) := Lib.hid (by rw [← hy]; simp)
  have t0 := HT.out
  rw [hy] at t0
  clear hok ha hu hm hA hy
  go_enter Tryz.func24, Tryz.ntmps24
  go_wp2_with fail
  refine HFI.out.mono ?_
  rintro e w2 ⟨v', Qw, Qf, rfl, h1, h2, h3, h4⟩
  have HWR := Lib.hid (where_R HOK.out (by simp) h2 h3 (p := fun n => decide (n = 1)) (k := 0) (fun s _ => sN_sat a s))
  have HFF := Lib.hid (firL_facts HOK.out (by simp) h2 h3)
  obtain ⟨L, hL⟩ : ∃ L, firL [a] Qw Qf = L := ⟨_, rfl⟩
  rw [hL] at HWR HFF h1
  have HWH := Lib.hid (where_any v' L (fun n => decide (n = 1)) 66 #[] (enters_of Tryz.func66 (by kernel_rfl) rfl) w2 (h1.rd encT_len) (by rw [HFF.out.1]; show 2 ^ 1 ≤ 1024; omega) (fun x hx => Nat.le_trans (HFF.out.2 x hx) (by omega)) (HM.out.below h4) (fun W c hc hb => isSat_any c W))
  rw [HWR.out, HA.out] at HWH
  have H4 := Lib.hid (st HW.out h4 HW.out.size)
  clear h1 h2 h3 h4 hL HWR HFF
  go_wp2_with fail
  refine HWH.out.mono ?_
  rintro e w3 ⟨rfl, h5⟩
  have HB := Lib.hid (st H4.out h5 H4.out.size)
  clear h5
  go_wp2
  go_ret3
  exact ⟨by rw [HY.out]; rfl, HB.out⟩
set_option maxRecDepth 1000000 in
set_option maxHeartbeats 4000000 in
theorem satBad_any (a : Cnd) (u : Value) (hbig : ∀ l ∈ a, l.length ≤ 4611686018427387904) (ha : okC a ≠ true) (w : World) (hu : RdC w u a) (hm : MaxL w) :
    Calls Tryz.prog 24 #[u] w fun e w' => e = .returned (.tuple #[.string (ofL []), .bool false, .int .i64 1]) ∧ Below w.heap.size w w' := by
  obtain ⟨x1, n1, rfl, _⟩ := hu.slice
  have HFI := Lib.hid (firstsBad_any [a] (.slice (some ⟨w.heap.size, 0, none⟩) 1 1) (fun c hc => by rw [List.mem_singleton.1 hc]; exact hbig) (fun h => ha (h.2 a (by simp))) _ (rdCs_one hu 23))
  have HM := Lib.hid (hm.alloc (.cells #[.slice x1 a.length n1] 23))
  have HW := Lib.hid (below_al w (.cells #[.slice x1 a.length n1] 23))
  have t0 : ((ofL []).toList == ([] : List UInt8)) = true := by rw [toL]; rfl
  clear hbig ha hu hm
  go_enter Tryz.func24, Tryz.ntmps24
  go_wp2_with fail
  refine HFI.out.mono ?_
  rintro e w2 ⟨rfl, h4⟩
  have HWH := Lib.hid (where_any (.slice none 0 0) [] (fun n => decide (n = 1)) 66 #[] (enters_of Tryz.func66 (by kernel_rfl) rfl) w2 (rd_nil w2) (by simp) (fun x hx => by cases hx) (HM.out.below h4) (fun W c hc hb => isSat_any c W))
  have HZ : Hid (ptS (wheL (fun n => decide (n = 1)) [] ([] : List Str).length) = []) := Lib.hid rfl
  rw [HZ.out] at HWH
  have H4 := Lib.hid (st HW.out h4 HW.out.size)
  clear h4
  go_wp2_with fail
  refine HWH.out.mono ?_
  rintro e w3 ⟨rfl, h5⟩
  have HB := Lib.hid (st H4.out h5 H4.out.size)
  clear h5
  go_wp2
  go_ret3
  exact ⟨rfl, HB.out⟩
end Go.Proofs.YtfbfcomfkokfcaaGreatDoor


/- Of decide: Disjoint: what it finds, plain; rules in memory. -/
namespace Go.Proofs.YtfbfcomfkokfcaaGreatDoor
open Go.RowKit Go.Maps
set_option linter.unusedVariables false

/-! ### What Disjoint finds -/
def disP (cs : List Cnd) (i j : Nat) : Option Str := firstR [cs.getD i [], cs.getD j []] 2
def NoneB (cs : List Cnd) (i j : Nat) : Prop := ∀ i' j', i' < j' → j' < cs.length → (i' < i ∨ (i' = i ∧ j' < j)) → disP cs i' j' = none
def DisA (cs : List Cnd) (r : Nat × Nat × Str × Nat) : Prop :=
  (∃ i j W, i < j ∧ j < cs.length ∧ disP cs i j = some W ∧ NoneB cs i j ∧ r = (i, j, W, 19)) ∨ ((∀ i j, i < j → j < cs.length → disP cs i j = none) ∧ r = (0, 0, [], 0))
theorem DisA.uniq {cs : List Cnd} {r t : Nat × Nat × Str × Nat} (h : DisA cs r) (k : DisA cs t) : r = t := by
  rcases h with ⟨i, j, W, a1, a2, a3, a4, rfl⟩ | ⟨a1, rfl⟩ <;> rcases k with ⟨i', j', W', b1, b2, b3, b4, rfl⟩ | ⟨b1, rfl⟩
  · by_cases h1 : i < i' ∨ (i = i' ∧ j < j')
    · rw [b4 i j a1 a2 h1] at a3; cases a3
    · by_cases h2 : i' < i ∨ (i' = i ∧ j' < j)
      · rw [a4 i' j' b1 b2 h2] at b3; cases b3
      · have e1 : i = i' := by omega
        have e2 : j = j' := by omega
        subst e1 e2
        rw [a3] at b3
        rw [Option.some.inj b3]
  · rw [b1 i j a1 a2] at a3; cases a3
  · rw [a1 i' j' b1 b2] at b3; cases b3
  · rfl
theorem none_zero (cs : List Cnd) : NoneB cs 0 0 := fun i' j' _ _ h => by omega
theorem none_first {cs : List Cnd} {i : Nat} (h : NoneB cs i 0) : NoneB cs i (i + 1) := fun i' j' h1 h2 h3 => h i' j' h1 h2 (by omega)
theorem none_next {cs : List Cnd} {i j : Nat} (h : NoneB cs i j) (hn : disP cs i j = none) : NoneB cs i (j + 1) := fun i' j' h1 h2 h3 => by
  by_cases he : i' = i ∧ j' = j
  · rw [he.1, he.2]; exact hn
  · exact h i' j' h1 h2 (by omega)
theorem none_row {cs : List Cnd} {i j : Nat} (h : NoneB cs i j) (hj : cs.length ≤ j) : NoneB cs (i + 1) 0 := fun i' j' h1 h2 h3 => h i' j' h1 h2 (by omega)
theorem none_all {cs : List Cnd} {i : Nat} (h : NoneB cs i 0) (hi : cs.length ≤ i) : ∀ i j, i < j → j < cs.length → disP cs i j = none := fun i' j' h1 h2 => h i' j' h1 h2 (by omega)
theorem both_bits {α : Type} (f : α → Bool) (l : List α) {i j : Nat} (hij : i < j) (hj : j < l.length) : decide (bitsF f l &&& (2 ^ i ||| 2 ^ j) = 2 ^ i ||| 2 ^ j) = (f l[i] && f l[j]) := by
  rw [Bool.eq_iff_iff, decide_eq_true_iff, Bool.and_eq_true]
  have hb : ∀ k, (2 ^ i ||| 2 ^ j : Nat).testBit k = (decide (i = k) || decide (j = k)) := fun k => by rw [Nat.testBit_or, Nat.testBit_two_pow, Nat.testBit_two_pow]
  have hi : (bitsF f l).testBit i = f l[i] := by rw [bitsF_bit, List.getElem?_eq_getElem (show i < l.length by omega)]
  have hj' : (bitsF f l).testBit j = f l[j] := by rw [bitsF_bit, List.getElem?_eq_getElem hj]
  constructor
  · intro h
    have h1 := congrArg (fun n => n.testBit i) h
    have h2 := congrArg (fun n => n.testBit j) h
    simp only [Nat.testBit_and, hb, hi, hj'] at h1 h2
    simpa using And.intro h1 h2
  · rintro ⟨h1, h2⟩
    refine Nat.eq_of_testBit_eq fun k => ?_
    rw [Nat.testBit_and, hb]
    by_cases e1 : i = k
    · subst e1; rw [hi, h1]; simp
    · by_cases e2 : j = k
      · subst e2; rw [hj', h2]; simp
      · simp [e1, e2]
theorem sN_dis {cs : List Cnd} {i j : Nat} (hij : i < j) (hj : j < cs.length) (s : Str) : decide (sN cs s &&& (2 ^ i ||| 2 ^ j) = 2 ^ i ||| 2 ^ j) = pS [cs.getD i [], cs.getD j []] 2 s := by
  unfold sN
  rw [both_bits _ _ hij hj, List.getD_eq_getElem?_getD, List.getD_eq_getElem?_getD, List.getElem?_eq_getElem hj, List.getElem?_eq_getElem (show i < cs.length by omega)]
  unfold pS prS cntH
  show _ = (if 2 = 0 then _ else _)
  cases h : hldC s cs[i] <;> cases k : hldC s cs[j] <;> simp [h, k]
section
variable {cs : List Cnd} (hok : ∀ c ∈ cs, okC c = true) (h10 : cs.length ≤ 10) {Qw Qf : List (List Nat × Rg)}
  (hw : Found (nxC (relsC cs)) (stRg (relsC cs) 0) 10 15 Qw) (hf : Found (nxC (relsC cs)) (stRg (relsC cs) 2) 10 6 Qf)
include hok h10 hw hf
theorem where_D {i j : Nat} (hij : i < j) (hj : j < cs.length) : ptS (wheL (fun n => decide (n &&& (2 ^ i ||| 2 ^ j) = 2 ^ i ||| 2 ^ j)) (firL cs Qw Qf) (firL cs Qw Qf).length) = (disP cs i j).getD [] := by
  have h6 : (relsC cs).length ≤ 60 := by rw [rels_cnt]; have := cntS_le hok; omega
  have hok2 : ∀ c ∈ [cs.getD i [], cs.getD j []], okC c = true := fun c hc => by
    rcases List.mem_cons.1 hc with rfl | hc
    · rw [List.getD_eq_getElem?_getD, List.getElem?_eq_getElem (show i < cs.length by omega)]
      exact hok _ (List.getElem_mem _)
    · rw [List.mem_singleton.1 hc, List.getD_eq_getElem?_getD, List.getElem?_eq_getElem hj]
      exact hok _ (List.getElem_mem _)
  rw [(firL_facts hok h10 hw hf).1]
  unfold disP
  rcases where_first hok h6 h10 hw hf (fun n => decide (n &&& (2 ^ i ||| 2 ^ j) = 2 ^ i ||| 2 ^ j)) with ⟨h1, h2⟩ | ⟨h1, h2⟩
  · rw [h1, firstR_eq_none hok2 (k := 2) (fun t ht => by rw [← sN_dis hij hj t]; exact h2 t ht)]
    rfl
  · rw [firstR_eq hok2 (h2.congr (fun s _ => sN_dis hij hj s))]
    rfl
end
theorem disP_ne {cs : List Cnd} (hok : ∀ c ∈ cs, okC c = true) {i j : Nat} (hij : i < j) (hj : j < cs.length) : (disP cs i j).getD [] = [] → disP cs i j = none := by
  have hok2 : ∀ c ∈ [cs.getD i [], cs.getD j []], okC c = true := fun c hc => by
    rcases List.mem_cons.1 hc with rfl | hc
    · rw [List.getD_eq_getElem?_getD, List.getElem?_eq_getElem (show i < cs.length by omega)]
      exact hok _ (List.getElem_mem _)
    · rw [List.mem_singleton.1 hc, List.getD_eq_getElem?_getD, List.getElem?_eq_getElem hj]
      exact hok _ (List.getElem_mem _)
  have h := firstR_ne hok2 2
  unfold disP
  intro e
  rw [e] at h
  cases hx : firstR [cs.getD i [], cs.getD j []] 2 with
  | none => rfl
  | some b => rw [hx] at h; cases h

/-! ### Rules in memory -/
def encRu (x : Str × RawS) : List Value := [.string (ofL x.1), .slice x.2.a x.2.n x.2.c]
theorem encRu_len (x : Str × RawS) : (encRu x).length = 2 := rfl
def RdRules (w : World) (v : Value) (l : List (Str × Cnd)) : Prop := ∃ raws : List (Str × RawS), Rd 2 encRu w v raws ∧ raws.length = l.length ∧ ∀ (i : Nat) (h : i < raws.length) (h' : i < l.length), RdC w (.slice raws[i].2.a raws[i].2.n raws[i].2.c) l[i].2
theorem RdRules.below {w w' : World} {v : Value} {c : List (Str × Cnd)} (h : RdRules w v c) (hb : Below w.heap.size w w') : RdRules w' v c := by
  obtain ⟨raws, h1, h2, h3⟩ := h
  exact ⟨raws, h1.below hb, h2, fun i a b => (h3 i a b).below hb⟩
theorem RdRules.slice {w : World} {v : Value} {l : List (Str × Cnd)} (h : RdRules w v l) : ∃ a c, v = .slice a l.length c ∧ l.length ≤ c ∧ c ≤ 9223372036854775807 := by
  obtain ⟨raws, h1, h2, h3⟩ := h
  rw [← h2]
  exact h1.slice
theorem Rd.rule {w : World} {a : Option Addr} {n c : Nat} {l : List (Str × RawS)} (h : Rd 2 encRu w (.slice a n c) l) (i : Nat) (hi : i < l.length) : ∃ b off, a = some ⟨b, off, none⟩ ∧ b < w.heap.size ∧ w.cell? ⟨b, off + i * 2, none⟩ = some (.string (ofL l[i].1)) ∧ w.cell? ⟨b, off + i * 2 + 1, none⟩ = some (.slice l[i].2.a l[i].2.n l[i].2.c) := by
  obtain ⟨b, off, ha, hlt, hx⟩ := h.some_ i hi
  subst ha
  exact ⟨b, off, rfl, hlt, h.at_ i hi 0 _ rfl, h.at_ i hi 1 _ rfl⟩
theorem RdRules.at_ {w : World} {a : Option Addr} {n c : Nat} {l : List (Str × Cnd)} (h : RdRules w (.slice a n c) l) (i : Nat) (hi : i < l.length) :
    ∃ b off s x1 x2, a = some ⟨b, off, none⟩ ∧ b < w.heap.size ∧ w.cell? ⟨b, off + i * 2, none⟩ = some (.string (ofL s)) ∧ w.cell? ⟨b, off + i * 2 + 1, none⟩ = some (.slice x1 l[i].2.length x2) ∧ RdC w (.slice x1 l[i].2.length x2) l[i].2 := by
  obtain ⟨raws, h1, h2, h3⟩ := h
  obtain ⟨b, off, ha, hlt, hc, hd⟩ := h1.rule i (by omega)
  have h4 := h3 i (by omega) hi
  obtain ⟨x1, x2, hv, _⟩ := h4.slice
  injection hv with e1 e2 e3
  rw [e2] at hd h4
  exact ⟨b, off, raws[i].1, raws[i].2.a, raws[i].2.c, ha, hlt, hc, hd, h4⟩
theorem results_tmp4 {fn : Func} {t u v x : Tmp} (h : fn.results = #[.tmp t, .tmp u, .tmp v, .tmp x]) (tmps : Array Value) (P : Program) (w : World) :
    (results fn tmps).run P w = .ok (.tuple #[tmps.getD t undef, tmps.getD u undef, tmps.getD v undef, tmps.getD x undef]) w := by
  simp [results, h]
theorem Tryz.infoCo : (Tryz.prog.info? 23).map (fun i => (i.zero, i.size, i.bytes)) = some (some (.slice none 0 0), 1, 24) := by kernel_rfl
/-- A list of conditions that is being made. -/
structure GatC (w : World) (l : List (Str × Cnd)) (k : Nat) (v : Value) (wr : World) : Prop where
  ex : ∃ raws : List RawS, Own1 1 encS wr w.heap.size 23 v raws ∧ raws.length = k ∧ ∀ (i : Nat) (h : i < raws.length) (h' : i < l.length), RdC w (.slice raws[i].a raws[i].n raws[i].c) l[i].2
  bw : Below w.heap.size w wr
theorem GatC.rd {w wr : World} {l : List (Str × Cnd)} {v : Value} (h : GatC w l l.length v wr) : RdCs wr v (l.map Prod.snd) := by
  obtain ⟨raws, h1, h2, h3⟩ := h.ex
  refine ⟨raws, h1.rd encS_len, by rw [List.length_map, h2], fun i a b => ?_⟩
  have hi : i < l.length := by rw [List.length_map] at b; exact b
  rw [List.getElem_map]
  exact (h3 i a hi).below h.bw
end Go.Proofs.YtfbfcomfkokfcaaGreatDoor


/- Of decide: Disjoint, walked. -/
namespace Go.Proofs.YtfbfcomfkokfcaaGreatDoor
open Go.RowKit Go.Maps
set_option linter.unusedVariables false

set_option maxRecDepth 1000000 in
set_option maxHeartbeats 16000000 in
theorem disjoint_any (rs : List (Str × Cnd)) (v : Value) (h10 : rs.length ≤ 10) (hok : ∀ c ∈ rs.map Prod.snd, okC c = true) (w : World) (hv : RdRules w v rs) (hm : MaxL w) :
    Calls Tryz.prog 31 #[v] w fun e w' => ∃ i j W er, e = .returned (.tuple #[.int .i64 (i : Nat), .int .i64 (j : Nat), .string (ofL W), .int .i64 (er : Nat)]) ∧ DisA (rs.map Prod.snd) (i, j, W, er) ∧ Below w.heap.size w w' := by
  obtain ⟨iC, hiC, hzC, hkC, hbC⟩ := info_parts Tryz.infoCo
  obtain ⟨ac, cc, rfl, hc1, hc2⟩ := hv.slice
  have HV := Lib.hid hv
  have HM := Lib.hid hm
  have HOK := Lib.hid hok
  have HLC : Hid ((rs.map Prod.snd).length = rs.length) := Lib.hid (List.length_map _)
  obtain ⟨cs, hcs⟩ : ∃ cs, rs.map Prod.snd = cs := ⟨_, rfl⟩
  have HCS := Lib.hid hcs
  rw [hcs] at HOK HLC ⊢
  have HN0 : Hid (GatC w rs 0 (.slice none 0 0) w) := Lib.hid ⟨⟨[], own1_nil _ _ _, rfl, fun i h _ => by simp at h⟩, Below.refl _ _⟩
  clear hv hm hok hcs
  go_enter Tryz.func31, Tryz.ntmps31
  go_wp2
  go_loopw [6, 13] (fun v6 v13 wr => ∃ k : Nat, k ≤ rs.length ∧ v13 = .int .i64 k ∧ GatC w rs k v6 wr) (fun _ v13 _ => rs.length - (intOf v13).toNat)
  case atStart => exact ⟨0, Nat.zero_le _, rfl, HN0.out⟩
  case round =>
    obtain ⟨k, hk, rfl, hg⟩ := hrel
    have HG := Lib.hid hg
    clear hg HN0
    by_cases hlt : k < rs.length
    · obtain ⟨bk, off, s, x1, x2, rfl, hlb, h0, h1, hcd⟩ := HV.out.at_ k hlt
      have h0 := (HG.out.bw.cell (p := ⟨bk, off + k * 2, none⟩) hlb).trans h0
      have h1 := (HG.out.bw.cell (p := ⟨bk, off + k * 2 + 1, none⟩) hlb).trans h1
      have h9 : (k : Int) < (rs.length : Int) := by omega
      obtain ⟨n, hn⟩ : ∃ n, rs[k].2.length = n := ⟨_, rfl⟩
      rw [hn] at h1 hcd
      have HCD := Lib.hid hcd
      obtain ⟨raws, ho, hl, hr⟩ := HG.out.ex
      obtain ⟨p6, c6, rfl⟩ := ho.slice
      have HO := Lib.hid (own_below ho (below_al wr (.cells #[.string (ofL s), .slice x1 n x2] 57)))
      have HB := Lib.hid ((HG.out.bw).trans ((below_al wr (.cells #[.string (ofL s), .slice x1 n x2] 57)).mono HG.out.bw.size))
      have HL := Lib.hid hl
      have HR := Lib.hid hr
      obtain ⟨wb, hwb⟩ : ∃ wb, wr.alloc (.cells #[.string (ofL s), .slice x1 n x2] 57) = wb := ⟨_, rfl⟩
      have HWB := Lib.hid hwb
      rw [hwb] at HO HB
      have r0 : wb.cell? ⟨wr.heap.size, 1, none⟩ = some (.slice x1 n x2) := by
        rw [← hwb]
        exact (Blk.new wr 57 #[.string (ofL s), .slice x1 n x2]).cell 1
      have HZW : Hid (w.heap.size ≤ wb.heap.size) := Lib.hid HB.out.size
      clear ho hl hr hwb hcd hn hlb
      go_upto_region 5 with fail
      rw [HWB.out]
      go_wp2_with (first | (at_builtin; refine wpList_append_lie (w0 := wb) (x := (⟨x1, n, x2⟩ : RawS)) (N := wb.heap.size) rfl rfl _ _ 26 rfl w.heap.size iC _ 24 Tryz.underlying26 hiC hzC hkC hbC (by omega) rfl (by omega) encS_len encS_one _ raws rfl rfl HO.out rfl (by have := HL.out; omega) HZW.out ?_; intro v9 w9 y9; obtain ⟨p8, q8, e8⟩ := y9.1.slice; subst e8; have Y9 := Lib.hid y9; clear y9) | go_in)
      have HGN : Hid (GatC w rs (k + 1) (.slice p8 (raws ++ [(⟨x1, n, x2⟩ : RawS)]).length q8) w9) := Lib.hid ⟨⟨_, Y9.out.1, by rw [List.length_append, HL.out]; rfl, fun i a b => by
        rw [List.length_append] at a
        by_cases hi : i < raws.length
        · rw [List.getElem_append_left hi]
          exact HR.out i hi b
        · have hk' : i = raws.length := by simp at a; omega
          subst hk'
          rw [List.getElem_append_right (Nat.le_refl _)]
          have e2 : rs[raws.length].2 = rs[k].2 := by simp only [HL.out]
          rw [e2]
          simpa using HCD.out⟩, HB.out.trans Y9.out.2.1⟩
      go_roundw
      case measure => simp [intOf]; omega
      case rel => exact ⟨k + 1, by omega, by go_num, by first | exact HGN.out | (have := HGN.out; simpa using this)⟩
    · obtain rfl : k = rs.length := by omega
      have h3 : ¬ (rs.length : Int) < (rs.length : Int) := by omega
      have hrd := HG.out.rd
      rw [HCS.out] at hrd
      obtain ⟨p6, c6, rfl, _, _⟩ := hrd.slice
      have HRD := Lib.hid hrd
      have HB1 := Lib.hid HG.out.bw
      have hNN : cs.length = rs.length := HLC.out
      have HFI := Lib.hid (firsts_any cs (.slice p6 cs.length c6) (by omega) HOK.out wr HRD.out)
      have H10 : Hid (cs.length ≤ 10) := Lib.hid (by omega)
      have t1 : ((0 : Int) != 0) = false := rfl
      clear hrd HG HV hNN
      go_wp2_with fail
      refine HFI.out.mono ?_
      rintro e w2 ⟨v', Qw, Qf, rfl, g1, g2, g3, g4⟩
      have HWD := Lib.hid (fun (i j : Nat) (hij : i < j) (hj : j < cs.length) => where_D HOK.out H10.out g2 g3 hij hj)
      have HFF := Lib.hid (firL_facts HOK.out H10.out g2 g3)
      obtain ⟨L, hL⟩ : ∃ L, firL cs Qw Qf = L := ⟨_, rfl⟩
      rw [hL] at HWD HFF g1
      obtain ⟨pv, cv, rfl⟩ := g1.slice
      have HOL := Lib.hid (g1.rd encT_len)
      have H2 := Lib.hid (st HB1.out g4 HB1.out.size)
      have HM2 := Lib.hid (HM.out.below H2.out)
      clear g1 g2 g3 g4 hL
      go_wp2_with fail
      go_loopw [33] (fun v33 wr => ∃ i : Nat, i ≤ cs.length ∧ v33 = .int .i64 i ∧ NoneB cs i 0 ∧ Below w2.heap.size w2 wr) (fun v33 _ => cs.length - (intOf v33).toNat)
      case atStart => exact ⟨0, Nat.zero_le _, rfl, none_zero cs, Below.refl _ _⟩
      case round =>
        rename World => wi
        obtain ⟨i, hi, rfl, hno, hbi⟩ := hrel
        have HNO := Lib.hid hno
        have HBI := Lib.hid hbi
        clear hno hbi
        by_cases hlt : i < cs.length
        · have h9 : (i : Int) < (cs.length : Int) := by omega
          have HN1 := Lib.hid (none_first HNO.out)
          go_wp2_with fail
          go_loopw [2, 3] (fun v2 v3 wr => v2 = .int .i64 (i : Nat) ∧ ∃ j : Nat, i < j ∧ j ≤ cs.length ∧ v3 = .int .i64 j ∧ NoneB cs i j ∧ Below w2.heap.size w2 wr) (fun _ v3 _ => cs.length - (intOf v3).toNat)
          case atStart => exact ⟨rfl, i + 1, by omega, by omega, by go_num, HN1.out, HBI.out⟩
          case round =>
            rename World => wj
            obtain ⟨rfl, j, hij, hj, rfl, hno, hbj⟩ := hrel
            have HNJ := Lib.hid hno
            have HBJ := Lib.hid hbj
            clear hno hbj
            by_cases hlj : j < cs.length
            · have h8 : (j : Int) < (cs.length : Int) := by omega
              have hi6 : i < 64 := by have := H10.out; omega
              have hj6 : j < 64 := by have := H10.out; omega
              obtain ⟨M, hM⟩ : ∃ M, 2 ^ i = M := ⟨_, rfl⟩
              obtain ⟨N, hN⟩ : ∃ N, 2 ^ j = N := ⟨_, rfl⟩
              have s1 := shl_nat hi6 hM
              have s2 := shl_nat hj6 hN
              have HML : Hid (M < 18446744073709551616) := Lib.hid (by rw [← hM]; exact pow_lt64 hi6)
              have HNL : Hid (N < 18446744073709551616) := Lib.hid (by rw [← hN]; exact pow_lt64 hj6)
              have s3 : bits .or .u64 (M : Int) (N : Int) = ((M ||| N : Nat) : Int) := u64_or_nat M N HML.out HNL.out
              have HRL := Lib.hid (or_lt HML.out HNL.out)
              have HWE := Lib.hid (HWD.out i j hij hlj)
              rw [hM, hN] at HWE
              obtain ⟨R, hR⟩ : ∃ R, M ||| N = R := ⟨_, rfl⟩
              rw [hR] at s3 HRL HWE
              have HPN := Lib.hid (disP_ne HOK.out hij hlj)
              obtain ⟨A, hA⟩ : ∃ A, (disP cs i j).getD [] = A := ⟨_, rfl⟩
              have HA := Lib.hid hA
              rw [hA] at HWE HPN
              have hsi : (0 : Int) ≤ (i : Int) := by omega
              have hsj : (0 : Int) ≤ (j : Int) := by omega
              have HX := Lib.hid ((Blk.new wj 111 #[.int .u64 (R : Int)]).below (Below.drew (Below.refl _ _)))
              have HBX := Lib.hid (st HBJ.out (Below.drew (below_al wj (.cells #[.int .u64 (R : Int)] 111))) HBJ.out.size)
              obtain ⟨wx, hwx⟩ : ∃ wx, (wj.alloc (.cells #[.int .u64 (R : Int)] 111)).drew = wx := ⟨_, rfl⟩
              rw [hwx] at HX HBX
              have HWX := Lib.hid hwx
              have HWH := Lib.hid (where_any (.slice pv L.length cv) L (fun n => decide (n &&& R = R)) 72 #[.pointer (some ⟨wj.heap.size, 0, none⟩)] (enters_of Tryz.func72 (by kernel_rfl) rfl) wx (HOL.out.below HBX.out) (by rw [HFF.out.1]; exact Nat.pow_le_pow_right (by omega) H10.out) (fun x hx => Nat.le_trans (HFF.out.2 x hx) (by omega)) (HM2.out.below HBX.out) (fun W c hc hb => isDis_any c R (Nat.lt_of_lt_of_le hc (by rw [HFF.out.1]; exact Nat.le_trans (Nat.pow_le_pow_right (by omega) H10.out) (by omega))) HRL.out wj.heap.size W ((HX.out.below hb).cell 0)))
              rw [HWE.out] at HWH
              clear hwx
              clear hM hN hR hA
              go_upto_region 16 with fail
              go_region
              rw [HWX.out]
              go_wp2_with fail
              refine HWH.out.mono ?_
              rintro e w9 ⟨rfl, h5⟩
              have HB9 := Lib.hid (st HBX.out h5 HBX.out.size)
              clear h5
              by_cases hz : A = []
              · have t0 : ((ofL A).toList == ([] : List UInt8)) = true := by rw [str_dec, decide_eq_true hz]
                have HNN := Lib.hid (none_next HNJ.out (HPN.out hz))
                clear hz
                go_wp2_with fail
                go_roundw
                case measure => simp [intOf]; omega
                case rel => exact ⟨rfl, j + 1, by omega, by omega, by go_num, HNN.out, HB9.out⟩
              · have t0 : ((ofL A).toList == ([] : List UInt8)) = false := by rw [str_dec, decide_eq_false hz]
                have HSO : Hid (disP cs i j = some A) := Lib.hid (by
                  have e1 := HA.out
                  cases hx : disP cs i j with
                  | none => rw [hx] at e1; exact absurd e1.symm hz
                  | some b => rw [hx] at e1; rw [← e1]; rfl)
                have HBE := Lib.hid (st H2.out HB9.out H2.out.size)
                clear hz
                go_wp2
                (try simp only [Exit.inBlock, Exit.then])
                refine bodyPost_ret (results_tmp4 rfl _ _ _) rfl ?_
                exact ⟨i, j, A, 19, rfl, .inl ⟨i, j, A, hij, hlj, HSO.out, HNJ.out, rfl⟩, HBE.out⟩
            · obtain rfl : j = cs.length := by omega
              have h7 : ¬ (cs.length : Int) < (cs.length : Int) := by omega
              have HNR := Lib.hid (none_row HNJ.out (Nat.le_refl _))
              go_wp2_with fail
              go_roundw
              case measure => simp [intOf]; omega
              case rel => exact ⟨i + 1, by omega, by go_num, HNR.out, HBJ.out⟩
        · obtain rfl : i = cs.length := by omega
          have h7 : ¬ (cs.length : Int) < (cs.length : Int) := by omega
          have HNA := Lib.hid (none_all HNO.out (Nat.le_refl _))
          have HBE := Lib.hid (st H2.out HBI.out H2.out.size)
          go_wp2
          (try simp only [Exit.inBlock, Exit.then])
          refine bodyPost_ret (results_tmp4 rfl _ _ _) rfl ?_
          exact ⟨0, 0, [], 0, rfl, .inr ⟨HNA.out, rfl⟩, HBE.out⟩
end Go.Proofs.YtfbfcomfkokfcaaGreatDoor


/- Of decide: Disjoint, where the arguments are wrong. -/
namespace Go.Proofs.YtfbfcomfkokfcaaGreatDoor
open Go.RowKit Go.Maps
set_option linter.unusedVariables false

set_option maxRecDepth 1000000 in
set_option maxHeartbeats 16000000 in
theorem disjointBad_any (rs : List (Str × Cnd)) (v : Value) (h10 : rs.length ≤ 1000) (hbig : ∀ c ∈ rs.map Prod.snd, ∀ l ∈ c, l.length ≤ 4611686018427387904) (hbad : ¬ (rs.length ≤ 10 ∧ ∀ c ∈ rs.map Prod.snd, okC c = true)) (w : World) (hv : RdRules w v rs) :
    Calls Tryz.prog 31 #[v] w fun e w' => e = .returned (.tuple #[.int .i64 0, .int .i64 0, .string (ofL []), .int .i64 1]) ∧ Below w.heap.size w w' := by
  obtain ⟨iC, hiC, hzC, hkC, hbC⟩ := info_parts Tryz.infoCo
  obtain ⟨ac, cc, rfl, hc1, hc2⟩ := hv.slice
  have HV := Lib.hid hv
  have HBIG := Lib.hid hbig
  have HBAD := Lib.hid hbad
  have HLC : Hid ((rs.map Prod.snd).length = rs.length) := Lib.hid (List.length_map _)
  obtain ⟨cs, hcs⟩ : ∃ cs, rs.map Prod.snd = cs := ⟨_, rfl⟩
  have HCS := Lib.hid hcs
  rw [hcs] at HBIG HBAD HLC
  have HN0 : Hid (GatC w rs 0 (.slice none 0 0) w) := Lib.hid ⟨⟨[], own1_nil _ _ _, rfl, fun i h _ => by simp at h⟩, Below.refl _ _⟩
  clear hv hbig hbad hcs
  go_enter Tryz.func31, Tryz.ntmps31
  go_wp2
  go_loopw [6, 13] (fun v6 v13 wr => ∃ k : Nat, k ≤ rs.length ∧ v13 = .int .i64 k ∧ GatC w rs k v6 wr) (fun _ v13 _ => rs.length - (intOf v13).toNat)
  case atStart => exact ⟨0, Nat.zero_le _, rfl, HN0.out⟩
  case round =>
    obtain ⟨k, hk, rfl, hg⟩ := hrel
    have HG := Lib.hid hg
    clear hg HN0
    by_cases hlt : k < rs.length
    · obtain ⟨bk, off, s, x1, x2, rfl, hlb, h0, h1, hcd⟩ := HV.out.at_ k hlt
      have h0 := (HG.out.bw.cell (p := ⟨bk, off + k * 2, none⟩) hlb).trans h0
      have h1 := (HG.out.bw.cell (p := ⟨bk, off + k * 2 + 1, none⟩) hlb).trans h1
      have h9 : (k : Int) < (rs.length : Int) := by omega
      obtain ⟨n, hn⟩ : ∃ n, rs[k].2.length = n := ⟨_, rfl⟩
      rw [hn] at h1 hcd
      have HCD := Lib.hid hcd
      obtain ⟨raws, ho, hl, hr⟩ := HG.out.ex
      obtain ⟨p6, c6, rfl⟩ := ho.slice
      have HO := Lib.hid (own_below ho (below_al wr (.cells #[.string (ofL s), .slice x1 n x2] 57)))
      have HB := Lib.hid ((HG.out.bw).trans ((below_al wr (.cells #[.string (ofL s), .slice x1 n x2] 57)).mono HG.out.bw.size))
      have HL := Lib.hid hl
      have HR := Lib.hid hr
      obtain ⟨wb, hwb⟩ : ∃ wb, wr.alloc (.cells #[.string (ofL s), .slice x1 n x2] 57) = wb := ⟨_, rfl⟩
      have HWB := Lib.hid hwb
      rw [hwb] at HO HB
      have r0 : wb.cell? ⟨wr.heap.size, 1, none⟩ = some (.slice x1 n x2) := by
        rw [← hwb]
        exact (Blk.new wr 57 #[.string (ofL s), .slice x1 n x2]).cell 1
      have HZW : Hid (w.heap.size ≤ wb.heap.size) := Lib.hid HB.out.size
      clear ho hl hr hwb hcd hn hlb
      go_upto_region 5 with fail
      rw [HWB.out]
      go_wp2_with (first | (at_builtin; refine wpList_append_lie (w0 := wb) (x := (⟨x1, n, x2⟩ : RawS)) (N := wb.heap.size) rfl rfl _ _ 26 rfl w.heap.size iC _ 24 Tryz.underlying26 hiC hzC hkC hbC (by omega) rfl (by omega) encS_len encS_one _ raws rfl rfl HO.out rfl (by have := HL.out; omega) HZW.out ?_; intro v9 w9 y9; obtain ⟨p8, q8, e8⟩ := y9.1.slice; subst e8; have Y9 := Lib.hid y9; clear y9) | go_in)
      have HGN : Hid (GatC w rs (k + 1) (.slice p8 (raws ++ [(⟨x1, n, x2⟩ : RawS)]).length q8) w9) := Lib.hid ⟨⟨_, Y9.out.1, by rw [List.length_append, HL.out]; rfl, fun i a b => by
        rw [List.length_append] at a
        by_cases hi : i < raws.length
        · rw [List.getElem_append_left hi]
          exact HR.out i hi b
        · have hk' : i = raws.length := by simp at a; omega
          subst hk'
          rw [List.getElem_append_right (Nat.le_refl _)]
          have e2 : rs[raws.length].2 = rs[k].2 := by simp only [HL.out]
          rw [e2]
          simpa using HCD.out⟩, HB.out.trans Y9.out.2.1⟩
      go_roundw
      case measure => simp [intOf]; omega
      case rel => exact ⟨k + 1, by omega, by go_num, by first | exact HGN.out | (have := HGN.out; simpa using this)⟩
    · obtain rfl : k = rs.length := by omega
      have h3 : ¬ (rs.length : Int) < (rs.length : Int) := by omega
      have hrd := HG.out.rd
      rw [HCS.out] at hrd
      obtain ⟨p6, c6, rfl, _, _⟩ := hrd.slice
      have HRD := Lib.hid hrd
      have HB1 := Lib.hid HG.out.bw
      have HFI := Lib.hid (firstsBad_any cs (.slice p6 cs.length c6) HBIG.out (by rw [HLC.out]; exact HBAD.out) wr HRD.out)
      have t1 : ((1 : Int) != 0) = true := rfl
      clear hrd HG HV
      go_wp2_with fail
      refine HFI.out.mono ?_
      rintro e w2 ⟨rfl, g4⟩
      have H2 := Lib.hid (st HB1.out g4 HB1.out.size)
      clear g4
      go_wp2
      (try simp only [Exit.inBlock, Exit.then])
      refine bodyPost_ret (results_tmp4 rfl _ _ _) rfl ?_
      exact ⟨rfl, H2.out⟩
end Go.Proofs.YtfbfcomfkokfcaaGreatDoor


