/- Of the program: explore over pairs of states, walked; given what the closures answer. -/
import Derived.Test.YtiljagfjgefnnaaBzl
namespace Go.Proofs.Ytiljagfjgefnnaa
open Go.RowKit Go.Maps
set_option linter.unusedVariables false

theorem fill_pair (k x : Nat) : Instr.fill (fun i => some (i * 2, 2)) ((Array.range (1 * 2)).map ((Value.agg #[.int .i32 0, .int .i32 0]).cells[· % (Value.agg #[.int .i32 0, .int .i32 0]).cells.size]!)) [(0, .agg (encR2 k x).toArray)] = some (encR2 k x).toArray := by kernel_rfl
/-- A slice of one pair. -/
theorem wpList_pair {ops : Array Oper} {rest : List Oper} {o : Oper} {a : Act} {w : World} {Q : Exit → Act → World → Prop} (k x : Nat) (y : Operand) (hg : o.guard = none) (ho : o.op = .buildSlice 104 1 #[(0, y)]) (hy : a.eval y = .agg (encR2 k x).toArray)
    (h : wpList Try.prog ops Q rest (a.put o.dst (.slice (some ⟨w.heap.size, 0, none⟩) 1 1)) (w.alloc (.cells (encR2 k x).toArray 88))) : wpList Try.prog ops Q (o :: rest) a w := by
  obtain ⟨iG, hiG, hzG, hkG, hbG⟩ := info_parts Try.infoPr
  refine wpList_buildSlice hg 104 88 1 #[(0, y)] ho (encR2 k x).toArray iG _ Try.underlying104 hiG hzG (by rw [hkG]; omega) (by rw [hkG]; omega) ?_ h
  rw [hkG]
  simp only [List.map_toArray, List.map_cons, List.map_nil, hy]
  exact fill_pair k x
theorem wp_pair {o : Oper} {a : Act} {w : World} {K : Act → World → Prop} {Q : Exit → Act → World → Prop} (k x : Nat) (y : Operand) (ho : o.op = .buildSlice 104 1 #[(0, y)]) (hy : a.eval y = .agg (encR2 k x).toArray)
    (h : K (a.put o.dst (.slice (some ⟨w.heap.size, 0, none⟩) 1 1)) (w.alloc (.cells (encR2 k x).toArray 88))) : o.wp Try.prog a w K Q := by
  obtain ⟨iG, hiG, hzG, hkG, hbG⟩ := info_parts Try.infoPr
  refine wp_buildSlice 104 88 1 #[(0, y)] ho (encR2 k x).toArray iG _ Try.underlying104 hiG hzG (by rw [hkG]; omega) (by rw [hkG]; omega) ?_ h
  rw [hkG]
  simp only [List.map_toArray, List.map_cons, List.map_nil, hy]
  exact fill_pair k x
theorem encR2_zero (k : Nat) : (encR2 k 0).toArray = #[.int .i32 0, .int .i32 0] := by simp [encR2]
theorem kvR_zero (k : Nat) : kvR k 0 = .agg #[.int .i32 0, .int .i32 0] := by simp [kvR]
theorem resEP {W : World} {tm : Array Value} {B : Nat} {t : TypeId} {a b : Value} (t2 : tm[6]?.getD undef = .pointer (some ⟨B, 0, none⟩)) (h : Blk B t #[a, b] W) :
    (results Try.f57 tm).run Try.prog W = .ok (.agg #[a, b]) W := by
  have a0 : W.cell? ⟨B, 0, none⟩ = some a := h.cell 0
  have a1 : W.cell? ⟨B, 1, none⟩ = some b := h.cell 1
  simp [results, Try.f57, go_sem, t2, a0, a1]
/-- The map with the start in it, however the world has become. -/
theorem map_one (k B : Nat) (w : World) (m0 : MapIs w 88 B 0 (kvR k) []) : ∃ w1, (Instr.mapUpdate 103 (.map (some B)) (.agg #[.int .i32 0, .int .i32 0]) (.int .i32 0)).run Try.prog w = .ok () w1 ∧ MapIs w1 88 B 1 (kvR k) [0] ∧ w.grownBy w1 (some B) := by
  obtain ⟨l, hl⟩ := kvR_key (k := k) (x := 0) (by simp) (by simp)
  have h := m0.put (T := 103) keyedR (kvR_inj k) Try.underlying103 (by omega) (by simp) hl (by simp)
  rw [kvR_zero] at h
  exact h
/-- What stands once the map and the list hold the start. -/
def Begun (k gg base : Nat) (W0 w : World) (v8 v9 : Value) : Prop := ∃ B, v8 = .map (some B) ∧ base ≤ B ∧ Own1 2 (encR2 k) w base 88 v9 [0] ∧ MapIs w 88 B 1 (kvR k) [0] ∧ Blk gg 62 #[.slice none 0 0, .slice none 0 0] w ∧ Below base W0 w
set_option maxRecDepth 1000000 in
set_option maxHeartbeats 32000000 in
theorem exploreP_any (A : Aut) (hA : A.Ok) (k n : Nat) (hgn : A.n = n) (hs0 : A.s0 = 0) (hn1 : n ≤ 1000000) (p1 p2 p3 p4 p5 : Value) (w : World)
    (hstep : ∀ wx, Below w.heap.size w wx → ∀ x c : Nat, x < n → c < 11 → Calls Try.prog 58 #[.agg #[.int .i32 (x / k : Nat), .int .i32 (x % k : Nat)], .int .i64 (c : Int), p1, p2] wx fun e w' => e = .returned (.agg #[.int .i32 (A.d x c / k : Nat), .int .i32 (A.d x c % k : Nat)]) ∧ Below wx.heap.size wx w')
    (hacc : ∀ wx, Below w.heap.size w wx → ∀ x : Nat, x < n → Calls Try.prog 59 #[.agg #[.int .i32 (x / k : Nat), .int .i32 (x % k : Nat)], p3, p4, p5] wx fun e w' => e = .returned (.bool (A.f x)) ∧ Below wx.heap.size wx w') :
    Calls Try.prog 57 #[.agg #[.int .i32 0, .int .i32 0], .func (.func 58) #[] #[p1, p2], .func (.func 59) #[] #[p3, p4, p5]] w (GrP A w) := by
  obtain ⟨iR, hiR, hzR, hkR, hbR⟩ := info_parts Try.infoPr
  obtain ⟨iO, hiO, hzO, hkO, hbO⟩ := info_parts Try.infoO
  obtain ⟨iG, hiG, hzG, hkG, hbG⟩ := info_parts Try.infoG
  have hmm := @run_makeMap Try.prog
  have BX := (Below.refl w.heap.size w).alloc (Nat.le_refl _) (.cells #[.int .i32 0, .int .i32 0] 88)
  have BA := BX.alloc BX.size (.cells #[.slice none 0 0, .slice none 0 0] 62)
  have BB := BA.alloc BA.size (.cells #[.slice none 0 0, .slice none 0 0] 62)
  have kx := ((Blk.new w 88 #[.int .i32 0, .int .i32 0]).alloc (.cells #[.slice none 0 0, .slice none 0 0] 62)).alloc (.cells #[.slice none 0 0, .slice none 0 0] 62)
  have kr := (Blk.new (w.alloc (.cells #[.int .i32 0, .int .i32 0] 88)) 62 #[.slice none 0 0, .slice none 0 0]).alloc (.cells #[.slice none 0 0, .slice none 0 0] 62)
  have kg := Blk.new ((w.alloc (.cells #[.int .i32 0, .int .i32 0] 88)).alloc (.cells #[.slice none 0 0, .slice none 0 0] 62)) 62 #[.slice none 0 0, .slice none 0 0]
  rw [World.size_alloc] at kr
  rw [World.size_alloc, World.size_alloc] at kg
  obtain ⟨W0, hW0⟩ : ∃ W0, ((w.alloc (.cells #[.int .i32 0, .int .i32 0] 88)).alloc (.cells #[.slice none 0 0, .slice none 0 0] 62)).alloc (.cells #[.slice none 0 0, .slice none 0 0] 62) = W0 := ⟨_, rfl⟩
  have hs0' : W0.heap.size = w.heap.size + 1 + 1 + 1 := by rw [← hW0]; simp
  rw [hW0] at BB kx kr kg
  obtain ⟨xx, hxx⟩ : ∃ xx, w.heap.size = xx := ⟨_, rfl⟩
  rw [hxx] at kx kr kg
  obtain ⟨rr, hrr⟩ : ∃ rr, xx + 1 = rr := ⟨_, rfl⟩
  rw [hrr] at kr kg
  obtain ⟨gg, hgg⟩ : ∃ gg, rr + 1 = gg := ⟨_, rfl⟩
  rw [hgg] at kg
  obtain ⟨base, hbase⟩ : ∃ base, gg = base := ⟨_, rfl⟩
  have HW0 := Lib.hid hW0
  have HB0 := Lib.hid BB
  have HKX := Lib.hid kx
  have HKR := Lib.hid kr
  have HKG := Lib.hid kg
  have HXX := Lib.hid hxx
  have HRR0 := Lib.hid hrr
  have HGG := Lib.hid hgg
  have HBS : Hid (w.heap.size + 2 = base ∧ w.heap.size + 3 = W0.heap.size ∧ w.heap.size + 1 = rr) := Lib.hid ⟨by omega, by omega, by omega⟩
  have hbg : base ≤ gg := by omega
  have HSA := Lib.hid hs0
  have HA := Lib.hid hA
  have HSTEP := Lib.hid hstep
  have HACC := Lib.hid hacc
  have HGN := Lib.hid hgn
  have x0 : W0.cell? ⟨xx, 0, none⟩ = some (.int .i32 0) := kx.cell 0
  have x1 : W0.cell? ⟨xx, 1, none⟩ = some (.int .i32 0) := kx.cell 1
  clear hstep hacc hW0 BX BA BB kx kr kg hA hs0 hxx hrr hgg hbase hs0' hgn
  go_enter Try.func57, Try.ntmps57
  go_upto_region 2 with fail
  rw [HW0.out, HXX.out, HRR0.out, HGG.out]
  clear HW0
  go_cut [8, 9] from 16 to 20 (fun v8 v9 wx => Begun k gg base W0 wx v8 v9)
  case first =>
    have hS : (fun wx : World => wx.cell? ⟨xx, 0, none⟩ = some (.int .i32 0) ∧ wx.cell? ⟨xx, 1, none⟩ = some (.int .i32 0)) W0.drew := ⟨x0, x1⟩
    refine region_hd 7 (fun wx : World => wx.cell? ⟨xx, 0, none⟩ = some (.int .i32 0) ∧ wx.cell? ⟨xx, 1, none⟩ = some (.int .i32 0)) (by kernel_rfl) (by kernel_rfl) ?_
    have HD : Hid (Below base W0 W0.drew ∧ base ≤ W0.drew.heap.size ∧ Blk gg 62 #[.slice none 0 0, .slice none 0 0] W0.drew ∧ Below W0.heap.size W0 W0.drew ∧ xx < W0.heap.size) := Lib.hid ⟨(Below.refl _ _).drew, by have := HBS.out; show base ≤ W0.heap.size; omega, Blk.below HKG.out (Below.refl _ _).drew, (Below.refl _ _).drew, HKX.out.lt⟩
    have z0 := HD.out.2.1
    have hxb : xx < base := by have := HBS.out; have := HXX.out; omega
    obtain ⟨W9, hW9⟩ : ∃ W9, W0.drew = W9 := ⟨_, rfl⟩
    rw [hW9] at HD hS z0 ⊢
    clear hW9 x0 x1
    refine hd_taken 1 (some 17) _ ?hdv1 rfl rfl (by kernel_rfl) (fun _ _ _ h => h) (Or.inl ⟨by rfl, ?hdy1⟩) hS ?hdr1
    case hdy1 => (intro wx hx; (try dsimp only at hx); go_simp; try with_reducible rfl)
    try simp only [Act.put, List.setIfInBounds_toArray, List.set_cons_zero, List.set_cons_succ]
    refine hd_taken 4 (some 19) _ ?hdv4 rfl rfl (by kernel_rfl) (fun _ _ _ h => h) (Or.inl ⟨by rfl, ?hdy4⟩) hS ?hdr4
    case hdy4 => (intro wx hx; (try dsimp only at hx); go_simp; try with_reducible rfl)
    try simp only [Act.put, List.setIfInBounds_toArray, List.set_cons_zero, List.set_cons_succ]
    refine hd_list [0, 5] (by kernel_rfl) (by decide) (by decide) (fun i hi => ?_)
    simp only [List.mem_cons, List.not_mem_nil, or_false] at hi
    rcases hi with rfl | rfl
    · refine ⟨_, rfl, fun K0 hK0 => ?_⟩
      go_simp
      have m0 := mapIs_made W9 88 (kvR k)
      have bb := (Below.refl W9.heap.size W9).alloc (Nat.le_refl _) (.map #[] 0)
      obtain ⟨B, hB⟩ : ∃ B, W9.heap.size = B := ⟨_, rfl⟩
      obtain ⟨X0, hX0⟩ : ∃ X0, W9.alloc (.map #[] 0) = X0 := ⟨_, rfl⟩
      rw [hX0] at m0 bb
      rw [hB] at m0
      have zX0 : base ≤ X0.heap.size := by have := bb.size; omega
      have hbB : base ≤ B := by omega
      have hSX0 : (fun wx : World => wx.cell? ⟨xx, 0, none⟩ = some (.int .i32 0) ∧ wx.cell? ⟨xx, 1, none⟩ = some (.int .i32 0)) X0 := ⟨(bb.cell (p := ⟨xx, 0, none⟩) (World.block_lt_of_cell? W9 _ hS.1)).trans hS.1, (bb.cell (p := ⟨xx, 1, none⟩) (World.block_lt_of_cell? W9 _ hS.2)).trans hS.2⟩
      have GX0 : Hid (Below base W0 X0 ∧ Blk gg 62 #[.slice none 0 0, .slice none 0 0] X0 ∧ MapIs X0 88 B 0 (kvR k) []) := Lib.hid ⟨HD.out.1.trans (bb.mono z0), Blk.below HD.out.2.2.1 bb, m0⟩
      rw [hB, hX0]
      refine hK0.out _ _ hSX0 ?_
      clear hK0 K0 m0 bb hB hX0
      try simp only [Act.put, List.setIfInBounds_toArray, List.set_cons_zero, List.set_cons_succ]
      refine hd_list [2, 5] (by kernel_rfl) (by decide) (by decide) (fun i hi => ?_)
      simp only [List.mem_cons, List.not_mem_nil, or_false] at hi
      rcases hi with rfl | rfl
      · refine ⟨_, rfl, fun K2 hK2 => ?_⟩
        obtain ⟨X02, hmu, m1, g1⟩ := map_one k B X0 GX0.out.2.2
        go_simp
        have zX02 : base ≤ X02.heap.size := by have := g1.size; omega
        have GX02 : Hid (Below base W0 X02 ∧ Blk gg 62 #[.slice none 0 0, .slice none 0 0] X02 ∧ MapIs X02 88 B 1 (kvR k) [0]) := Lib.hid ⟨GX0.out.1.grown g1 zX0 (fun k e => by injection e with e; omega), blk_map GX0.out.2.1 GX0.out.2.2 g1, m1⟩
        have hSX02 : (fun wx : World => wx.cell? ⟨xx, 0, none⟩ = some (.int .i32 0) ∧ wx.cell? ⟨xx, 1, none⟩ = some (.int .i32 0)) X02 := ⟨g1.cell hSX0.1 (by intro e; injection e with e; have : xx = B := e; omega), g1.cell hSX0.2 (by intro e; injection e with e; have : xx = B := e; omega)⟩
        refine hK2.out _ _ hSX02 ?_
        clear hK2 K2 hmu m1 g1
        try simp only [Act.put, List.setIfInBounds_toArray, List.set_cons_zero, List.set_cons_succ]
        refine hd_taken 3 (some 18) _ ?hdva3 rfl rfl (by kernel_rfl) (fun _ _ _ h => h) (Or.inl ⟨by rfl, ?hdya3⟩) hSX02 ?hdra3
        case hdya3 => (intro wx hx; (try dsimp only at hx); go_simp; try with_reducible rfl)
        try simp only [Act.put, List.setIfInBounds_toArray, List.set_cons_zero, List.set_cons_succ]
        refine hd_taken 6 (some 8) _ ?hdva6 rfl rfl (by kernel_rfl) (fun _ _ _ h => h) (Or.inl ⟨by rfl, ?hdya6⟩) hSX02 ?hdra6
        case hdya6 => (intro wx hx; (try dsimp only at hx); go_simp; try with_reducible rfl)
        try simp only [Act.put, List.setIfInBounds_toArray, List.set_cons_zero, List.set_cons_succ]
        refine hd_list [5] (by kernel_rfl) (by decide) (by decide) (fun i hi => ?_)
        simp only [List.mem_cons, List.not_mem_nil, or_false] at hi
        subst hi
        refine ⟨_, rfl, fun K5 hK5 => ?_⟩
        rw [if_pos (by rfl)]
        refine wp_pair k 0 _ rfl (by rw [encR2_zero]; rfl) ?_
        have o9 := own_pair X02 base zX02 k 0
        have bb := (Below.refl X02.heap.size X02).alloc (Nat.le_refl _) (.cells (encR2 k 0).toArray 88)
        change Own1 2 (encR2 k) (X02.alloc (.cells (encR2 k 0).toArray 88)) base 88 _ [0] at o9
        obtain ⟨p, hp⟩ : ∃ p, X02.heap.size = p := ⟨_, rfl⟩
        obtain ⟨X025, hX025⟩ : ∃ X025, X02.alloc (.cells (encR2 k 0).toArray 88) = X025 := ⟨_, rfl⟩
        rw [hX025] at o9 bb
        rw [hp] at o9
        have zX025 : base ≤ X025.heap.size := by have := bb.size; omega
        have hSX025 : (fun wx : World => wx.cell? ⟨xx, 0, none⟩ = some (.int .i32 0) ∧ wx.cell? ⟨xx, 1, none⟩ = some (.int .i32 0)) X025 := ⟨(bb.cell (p := ⟨xx, 0, none⟩) (World.block_lt_of_cell? X02 _ hSX02.1)).trans hSX02.1, (bb.cell (p := ⟨xx, 1, none⟩) (World.block_lt_of_cell? X02 _ hSX02.2)).trans hSX02.2⟩
        have GX025 : Hid (Below base W0 X025 ∧ Blk gg 62 #[.slice none 0 0, .slice none 0 0] X025 ∧ MapIs X025 88 B 1 (kvR k) [0] ∧ Own1 2 (encR2 k) X025 base 88 (.slice (some ⟨p, 0, none⟩) 1 1) [0]) := Lib.hid ⟨GX02.out.1.trans (bb.mono zX02), Blk.below GX02.out.2.1 bb, GX02.out.2.2.below bb, o9⟩
        rw [hp, hX025]
        refine hK5.out _ _ hSX025 ?_
        clear hK5 K5 o9 bb hp hX025
        try simp only [Act.put, List.setIfInBounds_toArray, List.set_cons_zero, List.set_cons_succ]
        refine hd_done (by kernel_rfl) ?_
        simp only [List.drop_succ_cons, List.drop_zero]
        go_wp2_with fail
        go_meet
        exact ⟨B, rfl, hbB, GX025.out.2.2.2, GX025.out.2.2.1, GX025.out.2.1, GX025.out.1⟩
      · refine ⟨_, rfl, fun K5 hK5 => ?_⟩
        rw [if_pos (by rfl)]
        refine wp_pair k 0 _ rfl (by rw [encR2_zero]; rfl) ?_
        have o9 := own_pair X0 base zX0 k 0
        have bb := (Below.refl X0.heap.size X0).alloc (Nat.le_refl _) (.cells (encR2 k 0).toArray 88)
        change Own1 2 (encR2 k) (X0.alloc (.cells (encR2 k 0).toArray 88)) base 88 _ [0] at o9
        obtain ⟨p, hp⟩ : ∃ p, X0.heap.size = p := ⟨_, rfl⟩
        obtain ⟨X05, hX05⟩ : ∃ X05, X0.alloc (.cells (encR2 k 0).toArray 88) = X05 := ⟨_, rfl⟩
        rw [hX05] at o9 bb
        rw [hp] at o9
        have zX05 : base ≤ X05.heap.size := by have := bb.size; omega
        have hSX05 : (fun wx : World => wx.cell? ⟨xx, 0, none⟩ = some (.int .i32 0) ∧ wx.cell? ⟨xx, 1, none⟩ = some (.int .i32 0)) X05 := ⟨(bb.cell (p := ⟨xx, 0, none⟩) (World.block_lt_of_cell? X0 _ hSX0.1)).trans hSX0.1, (bb.cell (p := ⟨xx, 1, none⟩) (World.block_lt_of_cell? X0 _ hSX0.2)).trans hSX0.2⟩
        have GX05 : Hid (Below base W0 X05 ∧ Blk gg 62 #[.slice none 0 0, .slice none 0 0] X05 ∧ MapIs X05 88 B 0 (kvR k) [] ∧ Own1 2 (encR2 k) X05 base 88 (.slice (some ⟨p, 0, none⟩) 1 1) [0]) := Lib.hid ⟨GX0.out.1.trans (bb.mono zX0), Blk.below GX0.out.2.1 bb, GX0.out.2.2.below bb, o9⟩
        rw [hp, hX05]
        refine hK5.out _ _ hSX05 ?_
        clear hK5 K5 o9 bb hp hX05
        try simp only [Act.put, List.setIfInBounds_toArray, List.set_cons_zero, List.set_cons_succ]
        refine hd_list [2] (by kernel_rfl) (by decide) (by decide) (fun i hi => ?_)
        simp only [List.mem_cons, List.not_mem_nil, or_false] at hi
        subst hi
        refine ⟨_, rfl, fun K2 hK2 => ?_⟩
        obtain ⟨X052, hmu, m1, g1⟩ := map_one k B X05 GX05.out.2.2.1
        go_simp
        have zX052 : base ≤ X052.heap.size := by have := g1.size; omega
        have GX052 : Hid (Below base W0 X052 ∧ Blk gg 62 #[.slice none 0 0, .slice none 0 0] X052 ∧ MapIs X052 88 B 1 (kvR k) [0] ∧ Own1 2 (encR2 k) X052 base 88 (.slice (some ⟨p, 0, none⟩) 1 1) [0]) := Lib.hid ⟨GX05.out.1.grown g1 zX05 (fun k e => by injection e with e; omega), blk_map GX05.out.2.1 GX05.out.2.2.1 g1, m1, own_map GX05.out.2.2.2 GX05.out.2.2.1 g1⟩
        have hSX052 : (fun wx : World => wx.cell? ⟨xx, 0, none⟩ = some (.int .i32 0) ∧ wx.cell? ⟨xx, 1, none⟩ = some (.int .i32 0)) X052 := ⟨g1.cell hSX05.1 (by intro e; injection e with e; have : xx = B := e; omega), g1.cell hSX05.2 (by intro e; injection e with e; have : xx = B := e; omega)⟩
        refine hK2.out _ _ hSX052 ?_
        clear hK2 K2 hmu m1 g1
        try simp only [Act.put, List.setIfInBounds_toArray, List.set_cons_zero, List.set_cons_succ]
        refine hd_taken 3 (some 18) _ ?hdvb3 rfl rfl (by kernel_rfl) (fun _ _ _ h => h) (Or.inl ⟨by rfl, ?hdyb3⟩) hSX052 ?hdrb3
        case hdyb3 => (intro wx hx; (try dsimp only at hx); go_simp; try with_reducible rfl)
        try simp only [Act.put, List.setIfInBounds_toArray, List.set_cons_zero, List.set_cons_succ]
        refine hd_taken 6 (some 8) _ ?hdvb6 rfl rfl (by kernel_rfl) (fun _ _ _ h => h) (Or.inl ⟨by rfl, ?hdyb6⟩) hSX052 ?hdrb6
        case hdyb6 => (intro wx hx; (try dsimp only at hx); go_simp; try with_reducible rfl)
        try simp only [Act.put, List.setIfInBounds_toArray, List.set_cons_zero, List.set_cons_succ]
        refine hd_done (by kernel_rfl) ?_
        simp only [List.drop_succ_cons, List.drop_zero]
        go_wp2_with fail
        go_meet
        exact ⟨B, rfl, hbB, GX052.out.2.2.2, GX052.out.2.2.1, GX052.out.2.1, GX052.out.1⟩
    · refine ⟨_, rfl, fun K5 hK5 => ?_⟩
      rw [if_pos (by rfl)]
      refine wp_pair k 0 _ rfl (by rw [encR2_zero]; rfl) ?_
      have o9 := own_pair W9 base z0 k 0
      have bb := (Below.refl W9.heap.size W9).alloc (Nat.le_refl _) (.cells (encR2 k 0).toArray 88)
      change Own1 2 (encR2 k) (W9.alloc (.cells (encR2 k 0).toArray 88)) base 88 _ [0] at o9
      obtain ⟨p, hp⟩ : ∃ p, W9.heap.size = p := ⟨_, rfl⟩
      obtain ⟨X5, hX5⟩ : ∃ X5, W9.alloc (.cells (encR2 k 0).toArray 88) = X5 := ⟨_, rfl⟩
      rw [hX5] at o9 bb
      rw [hp] at o9
      have zX5 : base ≤ X5.heap.size := by have := bb.size; omega
      have hSX5 : (fun wx : World => wx.cell? ⟨xx, 0, none⟩ = some (.int .i32 0) ∧ wx.cell? ⟨xx, 1, none⟩ = some (.int .i32 0)) X5 := ⟨(bb.cell (p := ⟨xx, 0, none⟩) (World.block_lt_of_cell? W9 _ hS.1)).trans hS.1, (bb.cell (p := ⟨xx, 1, none⟩) (World.block_lt_of_cell? W9 _ hS.2)).trans hS.2⟩
      have GX5 : Hid (Below base W0 X5 ∧ Blk gg 62 #[.slice none 0 0, .slice none 0 0] X5 ∧ Own1 2 (encR2 k) X5 base 88 (.slice (some ⟨p, 0, none⟩) 1 1) [0]) := Lib.hid ⟨HD.out.1.trans (bb.mono z0), Blk.below HD.out.2.2.1 bb, o9⟩
      rw [hp, hX5]
      refine hK5.out _ _ hSX5 ?_
      clear hK5 K5 o9 bb hp hX5
      try simp only [Act.put, List.setIfInBounds_toArray, List.set_cons_zero, List.set_cons_succ]
      refine hd_list [0] (by kernel_rfl) (by decide) (by decide) (fun i hi => ?_)
      simp only [List.mem_cons, List.not_mem_nil, or_false] at hi
      subst hi
      refine ⟨_, rfl, fun K0 hK0 => ?_⟩
      go_simp
      have m0 := mapIs_made X5 88 (kvR k)
      have bb := (Below.refl X5.heap.size X5).alloc (Nat.le_refl _) (.map #[] 0)
      obtain ⟨B, hB⟩ : ∃ B, X5.heap.size = B := ⟨_, rfl⟩
      obtain ⟨X50, hX50⟩ : ∃ X50, X5.alloc (.map #[] 0) = X50 := ⟨_, rfl⟩
      rw [hX50] at m0 bb
      rw [hB] at m0
      have zX50 : base ≤ X50.heap.size := by have := bb.size; omega
      have hbB : base ≤ B := by omega
      have hSX50 : (fun wx : World => wx.cell? ⟨xx, 0, none⟩ = some (.int .i32 0) ∧ wx.cell? ⟨xx, 1, none⟩ = some (.int .i32 0)) X50 := ⟨(bb.cell (p := ⟨xx, 0, none⟩) (World.block_lt_of_cell? X5 _ hSX5.1)).trans hSX5.1, (bb.cell (p := ⟨xx, 1, none⟩) (World.block_lt_of_cell? X5 _ hSX5.2)).trans hSX5.2⟩
      have GX50 : Hid (Below base W0 X50 ∧ Blk gg 62 #[.slice none 0 0, .slice none 0 0] X50 ∧ MapIs X50 88 B 0 (kvR k) [] ∧ Own1 2 (encR2 k) X50 base 88 (.slice (some ⟨p, 0, none⟩) 1 1) [0]) := Lib.hid ⟨GX5.out.1.trans (bb.mono zX5), Blk.below GX5.out.2.1 bb, m0, own_below GX5.out.2.2 bb⟩
      rw [hB, hX50]
      refine hK0.out _ _ hSX50 ?_
      clear hK0 K0 m0 bb hB hX50
      try simp only [Act.put, List.setIfInBounds_toArray, List.set_cons_zero, List.set_cons_succ]
      refine hd_list [2] (by kernel_rfl) (by decide) (by decide) (fun i hi => ?_)
      simp only [List.mem_cons, List.not_mem_nil, or_false] at hi
      subst hi
      refine ⟨_, rfl, fun K2 hK2 => ?_⟩
      obtain ⟨X502, hmu, m1, g1⟩ := map_one k B X50 GX50.out.2.2.1
      go_simp
      have zX502 : base ≤ X502.heap.size := by have := g1.size; omega
      have GX502 : Hid (Below base W0 X502 ∧ Blk gg 62 #[.slice none 0 0, .slice none 0 0] X502 ∧ MapIs X502 88 B 1 (kvR k) [0] ∧ Own1 2 (encR2 k) X502 base 88 (.slice (some ⟨p, 0, none⟩) 1 1) [0]) := Lib.hid ⟨GX50.out.1.grown g1 zX50 (fun k e => by injection e with e; omega), blk_map GX50.out.2.1 GX50.out.2.2.1 g1, m1, own_map GX50.out.2.2.2 GX50.out.2.2.1 g1⟩
      have hSX502 : (fun wx : World => wx.cell? ⟨xx, 0, none⟩ = some (.int .i32 0) ∧ wx.cell? ⟨xx, 1, none⟩ = some (.int .i32 0)) X502 := ⟨g1.cell hSX50.1 (by intro e; injection e with e; have : xx = B := e; omega), g1.cell hSX50.2 (by intro e; injection e with e; have : xx = B := e; omega)⟩
      refine hK2.out _ _ hSX502 ?_
      clear hK2 K2 hmu m1 g1
      try simp only [Act.put, List.setIfInBounds_toArray, List.set_cons_zero, List.set_cons_succ]
      refine hd_taken 3 (some 18) _ ?hdvc3 rfl rfl (by kernel_rfl) (fun _ _ _ h => h) (Or.inl ⟨by rfl, ?hdyc3⟩) hSX502 ?hdrc3
      case hdyc3 => (intro wx hx; (try dsimp only at hx); go_simp; try with_reducible rfl)
      try simp only [Act.put, List.setIfInBounds_toArray, List.set_cons_zero, List.set_cons_succ]
      refine hd_taken 6 (some 8) _ ?hdvc6 rfl rfl (by kernel_rfl) (fun _ _ _ h => h) (Or.inl ⟨by rfl, ?hdyc6⟩) hSX502 ?hdrc6
      case hdyc6 => (intro wx hx; (try dsimp only at hx); go_simp; try with_reducible rfl)
      try simp only [Act.put, List.setIfInBounds_toArray, List.set_cons_zero, List.set_cons_succ]
      refine hd_done (by kernel_rfl) ?_
      simp only [List.drop_succ_cons, List.drop_zero]
      go_wp2_with fail
      go_meet
      exact ⟨B, rfl, hbB, GX502.out.2.2.2, GX502.out.2.2.1, GX502.out.2.1, GX502.out.1⟩
  case rest =>
    rename World => W1
    obtain ⟨B, rfl, hbB, hown, hmap, hkg1, hbw1⟩ := hcut
    obtain ⟨p9, q9, hp9⟩ := hown.slice
    subst hp9
    have HES : Hid (ES 2 (encR2 k) 88 W1 base gg (.slice p9 1 q9) (.slice none 0 0) (.slice none 0 0) (fdK A id 0) (outN A id 0) (outF A id 0)) := Lib.hid (by
      rw [fdK_zero, HSA.out]
      exact ⟨hown, own1_nil _ _ _, own1_nil _ _ _, hkg1⟩)
    have HMP : Hid (MapIs W1 88 B (fdK A id 0).length (kvR k) (fdK A id 0)) := Lib.hid (by
      rw [fdK_zero, HSA.out]
      exact hmap)
    have HBW := Lib.hid hbw1
    clear hown hmap hkg1 hbw1
    go_wp2_with fail
    go_loopw [9, 10] (fun v9 v10 wr => ∃ (i : Nat) (vN vF : Value), v10 = .int .i64 (i : Nat) ∧ (∀ j, j < i → j < (fdK A id j).length) ∧ i ≤ (fdK A id i).length ∧ ES 2 (encR2 k) 88 wr base gg v9 vN vF (fdK A id i) (outN A id i) (outF A id i) ∧ MapIs wr 88 B (fdK A id i).length (kvR k) (fdK A id i) ∧ Below base W0 wr) (fun _ v10 _ => n + 1 - (intOf v10).toNat)
    case atStart => exact ⟨0, _, _, rfl, fun j h => by omega, Nat.zero_le _, HES.out, HMP.out, HBW.out⟩
    case round =>
      rename World => w2
      obtain ⟨i, vN, vF, rfl, hgood, hile, hes, hmp, hb2⟩ := hrel
      have hfdok := fdK_ok id HA.out i hgood
      have hfdl : (fdK A id i).length ≤ n := by have := hfdok.len; have := HGN.out; omega
      obtain ⟨p9, q9, hp9⟩ := hes.o9.slice
      subst hp9
      have HE := Lib.hid hes
      have HMI := Lib.hid hmp
      have HB2 := Lib.hid hb2
      have HGD := Lib.hid hgood
      have HFO := Lib.hid hfdok
      have z2 := hb2.size
      clear hes hmp hb2 hgood hfdok HES HMP HBW
      obtain ⟨FD, hFD⟩ : ∃ FD, fdK A id i = FD := ⟨_, rfl⟩
      have HFD := Lib.hid hFD
      rw [hFD] at HE HMI HFO hile hfdl ⊢
      clear hFD
      by_cases hlt : i < FD.length
      · have h9 : (i : Int) < (FD.length : Int) := by omega
        obtain ⟨s, hs⟩ : ∃ s, FD.getD i 0 = s := ⟨_, rfl⟩
        have HS := Lib.hid hs
        have hsn : s < n := by rw [← hs, ← HGN.out]; exact HFO.out.lt _ (getD_mem hlt)
        clear hs
        obtain ⟨rb, hrb⟩ : ∃ rb, w2.heap.size = rb := ⟨_, rfl⟩
        have zb2 : base ≤ w2.heap.size := by have := HBS.out; omega
        have bn := (Below.refl w2.heap.size w2).alloc (Nat.le_refl _) (.cells (encG []).toArray 84)
        have kn := Blk.new w2 84 (encG []).toArray
        have HE0 : Hid (ES 2 (encR2 k) 88 (w2.alloc (.cells (encG []).toArray 84)) base gg (.slice p9 FD.length q9) vN vF (rowK A id FD s 0).2 (outN A id i) (outF A id i)) := Lib.hid (HE.out.below bn)
        have HK0 : Hid (Blk rb 84 (encG (rowK A id FD s 0).1).toArray (w2.alloc (.cells (encG []).toArray 84))) := Lib.hid (by rw [← hrb]; exact kn)
        have HM0 : Hid (MapIs (w2.alloc (.cells (encG []).toArray 84)) 88 B (rowK A id FD s 0).2.length (kvR k) (rowK A id FD s 0).2) := Lib.hid (HMI.out.below bn)
        have HB0' : Hid (Below base W0 (w2.alloc (.cells (encG []).toArray 84))) := Lib.hid (HB2.out.alloc zb2 _)
        have HVN : Hid (∀ b, vN.ownBlock = some b → b < rb) := Lib.hid (fun b hb => by rw [← hrb]; exact (own_lt HE.out.oN b hb).2)
        have hBrb : B < rb := by rw [← hrb]; exact HMI.out.lt
        have hgrb : gg < rb := by rw [← hrb]; exact HE.out.ko.lt
        have HRB := Lib.hid hrb
        have HZ : Hid (Obj.cells (encG []).toArray 84 = .cells #[.int .i32 0, .int .i32 0, .int .i32 0, .int .i32 0, .int .i32 0, .int .i32 0, .int .i32 0, .int .i32 0, .int .i32 0, .int .i32 0, .int .i32 0] 84) := Lib.hid rfl
        rw [HZ.out] at HE0 HK0 HM0 HB0'
        clear bn kn hrb HZ
        go_wp2_with fail
        rw [HRB.out]
        obtain ⟨wn, hwn⟩ : ∃ wn, w2.alloc (.cells #[.int .i32 0, .int .i32 0, .int .i32 0, .int .i32 0, .int .i32 0, .int .i32 0, .int .i32 0, .int .i32 0, .int .i32 0, .int .i32 0, .int .i32 0] 84) = wn := ⟨_, rfl⟩
        rw [hwn] at HE0 HK0 HM0 HB0' ⊢
        clear hwn
        go_loopw [9, 27] (fun v9 v27 wr => ∃ c : Nat, c ≤ 11 ∧ v27 = .int .i64 (c : Nat) ∧ ES 2 (encR2 k) 88 wr base gg v9 vN vF (rowK A id FD s c).2 (outN A id i) (outF A id i) ∧ Blk rb 84 (encG (rowK A id FD s c).1).toArray wr ∧ MapIs wr 88 B (rowK A id FD s c).2.length (kvR k) (rowK A id FD s c).2 ∧ Below base W0 wr) (fun _ v27 _ => 11 - (intOf v27).toNat)
        case atStart => exact ⟨0, by omega, rfl, HE0.out, HK0.out, HM0.out, HB0'.out⟩
        case round =>
          rename World => wz
          obtain ⟨c, hc, rfl, hes, hkb, hmp, hb3⟩ := hrel
          have hrl : (rowK A id FD s c).2.length ≤ n := by have := row_len_le HA.out HFO.out (show s < A.n by rw [HGN.out]; exact hsn) hc; have := HGN.out; omega
          have hpre := rowK_pre A id FD s c
          have hRl := rowK_len A id FD s c
          obtain ⟨p9, q9, hp9⟩ := hes.o9.slice
          subst hp9
          have HE2 := Lib.hid hes
          have HK2 := Lib.hid hkb
          have HM2 := Lib.hid hmp
          have HB3 := Lib.hid hb3
          have z3 := hb3.size
          clear hes hkb hmp hb3 HE0 HK0 HM0 HB0' HE HMI
          obtain ⟨F, hF⟩ : ∃ F, (rowK A id FD s c).2 = F := ⟨_, rfl⟩
          obtain ⟨R, hR⟩ : ∃ R, (rowK A id FD s c).1 = R := ⟨_, rfl⟩
          have HFF := Lib.hid hF
          have HRR := Lib.hid hR
          have HE5 : Hid ((rowK A id FD s (c + 1)).2 = add id F (A.d s c) ∧ (rowK A id FD s (c + 1)).1 = R ++ [idx F (A.d s c)]) := Lib.hid (by
            rw [rowK_succ]
            unfold rowStp
            rw [hF, hR, idx_mid]
            exact ⟨rfl, rfl⟩)
          rw [hF] at HE2 HM2
          rw [hR] at HK2
          rw [hF] at hrl hpre ⊢
          rw [hR] at hRl
          have hFl := hpre.length_le
          have HFI : Hid (F.getD i 0 = s) := Lib.hid (by rw [pre_getD hpre hlt]; exact HS.out)
          have HRL := Lib.hid hRl
          clear hF hR hpre hRl
          by_cases hct : c < 11
          · have h9c : (c : Int) < 11 := by omega
            have hi5 : i < F.length := by omega
            have hi5' : (i : Int) < (F.length : Int) := by omega
            obtain ⟨b5, off5, hp5, k5, k6⟩ := (HE2.out.o9.rd (encR2_len k)).pr i hi5
            subst hp5
            rw [HFI.out] at k5 k6
            rw [Nat.add_zero] at k5
            have HBW : Hid (Below w.heap.size w wz) := Lib.hid (HB0.out.trans (HB3.out.mono (by have := HBS.out; omega)))
            have HST := Lib.hid (HSTEP.out wz HBW.out s c hsn hct)
            have hdT1 : A.d s c < n := by have := HA.out.go s c (by rw [HGN.out]; exact hsn) hct; have := HGN.out; omega
            obtain ⟨T, hT⟩ : ∃ T, A.d s c = T := ⟨_, rfl⟩
            rw [hT] at hdT1 HE5 HST
            clear hT
            have hT1 := Nat.div_le_self T k
            have hT2 := Nat.mod_le T k
            obtain ⟨lk, hlk0⟩ := kvR_key (k := k) (x := T) (by omega) (by omega)
            have HKEY := Lib.hid hlk0
            obtain ⟨T1, hTT1⟩ : ∃ T1, T / k = T1 := ⟨_, rfl⟩
            obtain ⟨T2, hTT2⟩ : ∃ T2, T % k = T2 := ⟨_, rfl⟩
            have HT12 : Hid (kvR k T = .agg #[.int .i32 (T1 : Int), .int .i32 (T2 : Int)] ∧ (encR2 k T).toArray = #[.int .i32 (T1 : Int), .int .i32 (T2 : Int)]) := Lib.hid (by rw [← hTT1, ← hTT2]; exact ⟨rfl, rfl⟩)
            rw [hTT1, hTT2] at HST
            obtain ⟨S1, hS1⟩ : ∃ S1, s / k = S1 := ⟨_, rfl⟩
            obtain ⟨S2, hS2⟩ : ∃ S2, s % k = S2 := ⟨_, rfl⟩
            rw [hS1, hS2] at HST
            rw [hS1] at k5
            rw [hS2] at k6
            clear hlk0 hTT1 hTT2 hS1 hS2 hT1 hT2
            go_wp2_with fail
            refine HST.out.mono ?_
            rintro e we ⟨rfl, hbe⟩
            have kk := Blk.new we 88 #[.int .i32 0, .int .i32 0]
            have kf := kk.frozen
            have q0 := kk.cell 0
            have q1 := kk.cell 1
            simp only [List.getElem?_toArray, List.getElem?_cons_zero, List.getElem?_cons_succ] at q0 q1
            go_upto_region 11 with fail
            obtain ⟨w5, hw5⟩ : ∃ w5, we.alloc (.cells #[.int .i32 (T1 : Int), .int .i32 (T2 : Int)] 88) = w5 := ⟨_, rfl⟩
            have KB5 := Blk.new we 88 #[.int .i32 (T1 : Int), .int .i32 (T2 : Int)]
            have be5 : Below wz.heap.size wz w5 := by
              rw [← hw5]
              exact hbe.alloc hbe.size _
            rw [hw5] at KB5 ⊢
            obtain ⟨kb, hkb⟩ : ∃ kb, we.heap.size = kb := ⟨_, rfl⟩
            rw [hkb] at KB5 ⊢
            replace KB5 : Blk kb 88 #[.int .i32 (T1 : Int), .int .i32 (T2 : Int)] w5 := KB5
            have HKB := Lib.hid KB5
            have t0 : w5.cell? ⟨kb, 0, none⟩ = some (.int .i32 (T1 : Int)) := KB5.cell 0
            have t1 : w5.cell? ⟨kb, 1, none⟩ = some (.int .i32 (T2 : Int)) := KB5.cell 1
            have HE6 := Lib.hid (HE2.out.below be5)
            have HK6 := Lib.hid (Blk.below HK2.out be5)
            have HM6 := Lib.hid (HM2.out.below be5)
            have HB6 := Lib.hid (HB3.out.trans (be5.mono (by have := HBS.out; omega)))
            have z6 := be5.size
            clear hw5 hkb KB5 kk kf q0 q1 hbe be5 k5 k6 HE2 HK2 HM2 HST
            obtain ⟨n0, hlk, hn0e⟩ := HM6.out.look (T := 103) keyedR Try.underlying103 zero32 HKEY.out
            rw [HT12.out.1] at hlk
            have HLK := Lib.hid hlk
            have HN0 := Lib.hid hn0e
            have xf := HK6.out.frozen c
            have xc : w5.cell? ⟨rb, c, none⟩ = some (.int .i32 0) := by
              rw [HK6.out.cell, List.getElem?_toArray, encG_get _ hct, List.getD_eq_getElem?_getD, List.getElem?_eq_none (by have := HRL.out; omega)]
              rfl
            clear hlk hn0e
            have hlk := HLK.out
            by_cases hmem : T ∈ F
            · have e1 : decide (T ∈ F) = true := decide_eq_true hmem
              have HV := Lib.hid (HN0.out hmem)
              have HAD : Hid (add id F T = F) := Lib.hid (add_old (by rw [idx_mid]; exact idx_lt.2 hmem))
              rw [e1] at hlk
              clear e1 hmem
              have HN2 : Hid (ES 2 (encR2 k) 88 (w5.setCell ⟨rb, c, none⟩ (.int .i32 (n0 : Int))) base gg (.slice (some ⟨b5, off5, none⟩) F.length q9) vN vF (rowK A id FD s (c + 1)).2 (outN A id i) (outF A id i) ∧ Blk rb 84 (encG (rowK A id FD s (c + 1)).1).toArray (w5.setCell ⟨rb, c, none⟩ (.int .i32 (n0 : Int))) ∧ MapIs (w5.setCell ⟨rb, c, none⟩ (.int .i32 (n0 : Int))) 88 B (rowK A id FD s (c + 1)).2.length (kvR k) (rowK A id FD s (c + 1)).2 ∧ Below base W0 (w5.setCell ⟨rb, c, none⟩ (.int .i32 (n0 : Int)))) := Lib.hid (by
                rw [HE5.out.1, HE5.out.2, HAD.out, ← encG_snoc R (idx F T) (by have := HRL.out; omega), HRL.out, ← HV.out]
                exact ⟨HE6.out.row kindsR HK6.out HVN.out c _, HK6.out.put c _, HM6.out.blk HK6.out (grown_set _ _ _ _), HB6.out.setCell (p := ⟨rb, c, none⟩) (by show base ≤ rb; omega) _⟩)
              go_wp2_with fail
              go_roundw
              case measure => simp [intOf] <;> omega
              case rel => exact ⟨c + 1, by omega, by go_num, HN2.out⟩
            · have e1 : decide (T ∈ F) = false := decide_eq_false hmem
              have HAD : Hid (add id F T = F ++ [T]) := Lib.hid (add_new (by rw [idx_mid]; exact fun h => hmem (idx_lt.1 h)))
              have HVF : Hid (idx F T = F.length) := Lib.hid (idx_not hmem)
              obtain ⟨w3, hmu, m3, g3⟩ := HM6.out.put (T := 103) keyedR (kvR_inj k) Try.underlying103 (by omega) (by omega) HKEY.out hmem
              rw [HT12.out.1] at hmu
              rw [e1] at hlk
              have E3 := Lib.hid (HE6.out.map HM6.out g3)
              have K3 := Lib.hid (blk_map HK6.out HM6.out g3)
              have KB3 := blk_map HKB.out HM6.out g3
              have B3 := Lib.hid (HB6.out.grown g3 (by have := HBS.out; omega) (fun k e => by injection e with e; omega))
              have M3 := Lib.hid m3
              have z4 : base ≤ w3.heap.size := by have := g3.size; have := HBS.out; omega
              have d1 : IntKind.i32.wrap ((F.length : Nat) : Int) = (F.length : Int) := by rw [IntKind.wrap_i32]; omega
              have hFl9 : F.length ≤ 1000000000 := by omega
              have HKB3 := Lib.hid KB3
              clear e1 hmem m3 g3 KB3
              go_upto_region 15 with fail
              refine wp_region_lit ?_
              refine wpList_plain rfl fun K0 hK0 => ?_
              have hS := Lib.hid hK0
              clear hK0
              go_simp
              refine hS.out _ _ ?_
              clear hS K0
              try simp only [Act.put, List.setIfInBounds_toArray, List.set_cons_zero, List.set_cons_succ]
              refine wpList_load_mid rfl 88 _ rfl kb 0 rfl (encR2 k T) _ (fun j v hv => by rw [HKB3.out.cell, ← HT12.out.2, List.getElem?_toArray, Nat.zero_add]; exact hv) Try.underlying88 rfl (by rw [encR2_len]; kernel_rfl) ?_
              try simp only [Act.put, List.setIfInBounds_toArray, List.set_cons_zero, List.set_cons_succ]
              refine wpList_pair k T _ rfl rfl rfl ?_
              refine wpList_append_lie (w0 := w3) (x := T) (N := w3.heap.size) rfl rfl _ _ 104 rfl base iR _ 8 Try.underlying104 hiR hzR hkR hbR (by omega) rfl (by omega) (encR2_len k) (encR2_one k) _ F rfl rfl (E3.out.o9) rfl hFl9 z4 ?_
              intro v9 w9 y1
              have K9 := Lib.hid (y1.blk K3.out (own_type E3.out.o9 K3.out (by decide))).1
              have xf9 := K9.out.frozen c
              have xc9 := K9.out.cell c
              rw [List.getElem?_toArray, encG_get _ hct] at xc9
              have HN2 : Hid (ES 2 (encR2 k) 88 (w9.setCell ⟨rb, c, none⟩ (.int .i32 (F.length : Int))) base gg v9 vN vF (rowK A id FD s (c + 1)).2 (outN A id i) (outF A id i) ∧ Blk rb 84 (encG (rowK A id FD s (c + 1)).1).toArray (w9.setCell ⟨rb, c, none⟩ (.int .i32 (F.length : Int))) ∧ MapIs (w9.setCell ⟨rb, c, none⟩ (.int .i32 (F.length : Int))) 88 B (rowK A id FD s (c + 1)).2.length (kvR k) (rowK A id FD s (c + 1)).2 ∧ Below base W0 (w9.setCell ⟨rb, c, none⟩ (.int .i32 (F.length : Int)))) := Lib.hid (by
                rw [HE5.out.1, HE5.out.2, HAD.out, HVF.out, ← encG_snoc R F.length (by have := HRL.out; omega), HRL.out]
                have E9 := E3.out.g9 kindsR y1
                have M9 := M3.out.own E3.out.o9 y1.2.2.1
                exact ⟨E9.row kindsR K9.out HVN.out c _, K9.out.put c _, by rw [List.length_append, List.length_singleton]; exact M9.blk K9.out (grown_set _ _ _ _), (B3.out.trans y1.2.1).setCell (p := ⟨rb, c, none⟩) (by show base ≤ rb; omega) _⟩)
              clear y1 hmu
              go_wp2
              go_roundw
              case measure => simp [intOf] <;> omega
              case rel => exact ⟨c + 1, by omega, by go_num, HN2.out⟩
          · have hc11 : c = 11 := by omega
            subst hc11
            have h9c : ¬ (11 : Int) < 11 := by omega
            obtain ⟨pN, qN, hpN⟩ := HE2.out.oN.slice
            subst hpN
            have t0 : wz.cell? ⟨gg, 0, none⟩ = some (.slice pN (outN A id i).length qN) := HE2.out.ko.cell 0
            have hlN : (outN A id i).length ≤ 1000000000 := by rw [outN_len]; omega
            have z5 : base ≤ wz.heap.size := by have := HBS.out; omega
            go_upto_region 18 with fail
            refine wp_region_lit ?_
            refine wpList_plain rfl fun K0 hK0 => ?_
            have hS := Lib.hid hK0
            clear hK0
            go_simp
            refine hS.out _ _ ?_
            clear hS K0
            try simp only [Act.put, List.setIfInBounds_toArray, List.set_cons_zero, List.set_cons_succ]
            refine wpList_plain rfl fun K0 hK0 => ?_
            have hS := Lib.hid hK0
            clear hK0
            go_simp
            refine hS.out _ _ ?_
            clear hS K0
            try simp only [Act.put, List.setIfInBounds_toArray, List.set_cons_zero, List.set_cons_succ]
            refine wpList_load_mid rfl 84 _ rfl rb 0 rfl (encG R) _ (fun j v hv => by rw [HK2.out.cell, List.getElem?_toArray, Nat.zero_add]; exact hv) Try.underlying84 rfl (by rw [encG_len]; kernel_rfl) ?_
            try simp only [Act.put, List.setIfInBounds_toArray, List.set_cons_zero, List.set_cons_succ]
            refine wpList_row R _ rfl rfl rfl ?_
            refine wpList_append_lie (w0 := wz) (x := R) (N := wz.heap.size) rfl rfl _ _ 60 rfl base iG _ 44 Try.underlying60 hiG hzG hkG hbG (by omega) (encG_len []) (by omega) encG_len encG_one _ (outN A id i) rfl rfl (HE2.out.oN) rfl hlN z5 ?_
            intro v9 w9 y1
            obtain ⟨pM, qM, hpM⟩ := lie_at y1
            obtain ⟨lM, hlM⟩ : ∃ lM, ((outN A id i) ++ [R]).length = lM := ⟨_, rfl⟩
            rw [hlM] at hpM
            have HLM := Lib.hid hlM
            clear hlM
            subst hpM
            have K9 := (y1.blk HE2.out.ko (own_type HE2.out.oN HE2.out.ko (by decide))).1
            have kf9 := K9.frozen 0
            have kc9 : w9.cell? ⟨gg, 0, none⟩ = some (.slice pN (outN A id i).length qN) := K9.cell 0
            have HE3 := Lib.hid (HE2.out.gN kindsR y1)
            have MP9 := HM2.out.own HE2.out.oN y1.2.2.1
            have HM3 := Lib.hid (MP9.blk K9 (grown_set w9 gg 0 (.slice pM lM qM)))
            have HB4 := Lib.hid ((HB3.out.trans y1.2.1).setCell (p := ⟨gg, 0, none⟩) (by show base ≤ gg; omega) (.slice pM lM qM))
            clear y1 MP9 K9 t0
            go_upto_region 19 with fail
            obtain ⟨wS, hwS⟩ : ∃ wS, w9.setCell ⟨gg, 0, none⟩ (.slice pM lM qM) = wS := ⟨_, rfl⟩
            rw [hwS] at HE3 HM3 HB4 ⊢
            clear hwS kf9 kc9
            obtain ⟨b5, off5, hp5, k5, k6⟩ := (HE3.out.o9.rd (encR2_len k)).pr i (by omega)
            subst hp5
            rw [HFI.out] at k5 k6
            rw [Nat.add_zero] at k5
            obtain ⟨pF, qF, hpF⟩ := HE3.out.oF.slice
            subst hpF
            have t1 : wS.cell? ⟨gg, 1, none⟩ = some (.slice pF (outF A id i).length qF) := HE3.out.ko.cell 1
            have hi5' : (i : Int) < (F.length : Int) := by omega
            have HBW4 : Below w.heap.size w wS := HB0.out.trans (HB4.out.mono (by have := HBS.out; omega))
            have HAC := Lib.hid (HACC.out wS.drew HBW4.drew s hsn)
            clear HBW4
            obtain ⟨S1, hS1⟩ : ∃ S1, s / k = S1 := ⟨_, rfl⟩
            obtain ⟨S2, hS2⟩ : ∃ S2, s % k = S2 := ⟨_, rfl⟩
            rw [hS1, hS2] at HAC
            rw [hS1] at k5
            rw [hS2] at k6
            clear hS1 hS2
            have hS : (fun wx : World => wx.cell? ⟨gg, 1, none⟩ = some (.slice pF (outF A id i).length qF) ∧ wx.cell? ⟨b5, off5 + i * 2, none⟩ = some (.int .i32 (S1 : Nat)) ∧ wx.cell? ⟨b5, off5 + i * 2 + 1, none⟩ = some (.int .i32 (S2 : Nat))) wS.drew := ⟨t1, k5, k6⟩
            refine region_hd 9 (fun wx : World => wx.cell? ⟨gg, 1, none⟩ = some (.slice pF (outF A id i).length qF) ∧ wx.cell? ⟨b5, off5 + i * 2, none⟩ = some (.int .i32 (S1 : Nat)) ∧ wx.cell? ⟨b5, off5 + i * 2 + 1, none⟩ = some (.int .i32 (S2 : Nat))) (by kernel_rfl) (by kernel_rfl) ?_
            refine hd_taken 0 (some 65) _ ?hdvd0 rfl rfl (by kernel_rfl) (fun _ _ _ h => h) (Or.inl ⟨by rfl, ?hdyd0⟩) hS ?hdrd0
            case hdyd0 => (intro wx hx; (try dsimp only at hx); go_simp; try with_reducible rfl)
            try simp only [Act.put, List.setIfInBounds_toArray, List.set_cons_zero, List.set_cons_succ]
            refine hd_taken 1 (some 66) _ ?hdvd1 rfl rfl (by kernel_rfl) (fun _ _ _ h => h) (Or.inl ⟨by rfl, ?hdyd1⟩) hS ?hdrd1
            case hdyd1 => (intro wx hx; (try dsimp only at hx); go_simp; try with_reducible rfl)
            try simp only [Act.put, List.setIfInBounds_toArray, List.set_cons_zero, List.set_cons_succ]
            refine hd_taken 2 (some 67) _ ?hdvd2 rfl rfl (by kernel_rfl) (fun _ _ _ h => h) (Or.inl ⟨by rfl, ?hdyd2⟩) hS ?hdrd2
            case hdyd2 => (intro wx hx; (try dsimp only at hx); go_simp; try with_reducible rfl)
            try simp only [Act.put, List.setIfInBounds_toArray, List.set_cons_zero, List.set_cons_succ]
            refine hd_taken 3 (some 68) _ ?hdvd3 rfl rfl (by kernel_rfl) (fun _ _ _ h => h) (Or.inl ⟨by rfl, ?hdyd3⟩) hS ?hdrd3
            case hdyd3 => (intro wx hx; (try dsimp only at hx); go_simp; try with_reducible rfl)
            try simp only [Act.put, List.setIfInBounds_toArray, List.set_cons_zero, List.set_cons_succ]
            refine hd_taken 4 (some 69) _ ?hdvd4 rfl rfl (by kernel_rfl) (fun _ _ _ h => h) (Or.inl ⟨by rfl, ?hdyd4⟩) hS ?hdrd4
            case hdyd4 => (intro wx hx; (try dsimp only at hx); go_simp; try with_reducible rfl)
            try simp only [Act.put, List.setIfInBounds_toArray, List.set_cons_zero, List.set_cons_succ]
            refine hd_taken 5 (some 70) _ ?hdvd5 rfl rfl (by kernel_rfl) (fun _ _ _ h => h) (Or.inl ⟨by rfl, ?hdyd5⟩) hS ?hdrd5
            case hdyd5 => (intro wx hx; (try dsimp only at hx); go_simp; try with_reducible rfl)
            try simp only [Act.put, List.setIfInBounds_toArray, List.set_cons_zero, List.set_cons_succ]
            refine hd_taken 6 (some 71) _ ?hdvd6 rfl rfl (by kernel_rfl) (fun _ _ _ h => h) (Or.inl ⟨by rfl, ?hdyd6⟩) hS ?hdrd6
            case hdyd6 => (intro wx hx; (try dsimp only at hx); go_simp; try with_reducible rfl)
            try simp only [Act.put, List.setIfInBounds_toArray, List.set_cons_zero, List.set_cons_succ]
            refine hd_one 7 _ rfl (by kernel_rfl) (by decide) (fun K7 hK7 => ?_)
            go_simp
            refine HAC.out.mono ?_
            rintro e w8 ⟨rfl, b8⟩
            dsimp only
            have hS7 : (fun wx : World => wx.cell? ⟨gg, 1, none⟩ = some (.slice pF (outF A id i).length qF) ∧ wx.cell? ⟨b5, off5 + i * 2, none⟩ = some (.int .i32 (S1 : Nat)) ∧ wx.cell? ⟨b5, off5 + i * 2 + 1, none⟩ = some (.int .i32 (S2 : Nat))) w8 := ⟨(b8.cell (p := ⟨gg, 1, none⟩) (World.block_lt_of_cell? wS _ t1)).trans t1, (b8.cell (p := ⟨b5, off5 + i * 2, none⟩) (World.block_lt_of_cell? wS _ k5)).trans k5, (b8.cell (p := ⟨b5, off5 + i * 2 + 1, none⟩) (World.block_lt_of_cell? wS _ k6)).trans k6⟩
            refine hK7.out _ _ hS7 ?_
            clear hK7 K7 hS
            try simp only [Act.put, List.setIfInBounds_toArray, List.set_cons_zero, List.set_cons_succ]
            obtain ⟨fb, hfb⟩ : ∃ fb, A.f s = fb := ⟨_, rfl⟩
            have HFB := Lib.hid hfb
            rw [hfb]
            clear hfb HAC
            have bd8 : Below wS.heap.size wS w8 := (Below.refl wS.heap.size wS).drew.trans b8
            have ba := (Below.refl w8.heap.size w8).alloc (Nat.le_refl _) (.cells #[.bool fb] 4)
            have hS8 : (fun wx : World => wx.cell? ⟨gg, 1, none⟩ = some (.slice pF (outF A id i).length qF) ∧ wx.cell? ⟨b5, off5 + i * 2, none⟩ = some (.int .i32 (S1 : Nat)) ∧ wx.cell? ⟨b5, off5 + i * 2 + 1, none⟩ = some (.int .i32 (S2 : Nat))) (w8.alloc (.cells #[.bool fb] 4)) := ⟨(ba.cell (p := ⟨gg, 1, none⟩) (World.block_lt_of_cell? w8 _ hS7.1)).trans hS7.1, (ba.cell (p := ⟨b5, off5 + i * 2, none⟩) (World.block_lt_of_cell? w8 _ hS7.2.1)).trans hS7.2.1, (ba.cell (p := ⟨b5, off5 + i * 2 + 1, none⟩) (World.block_lt_of_cell? w8 _ hS7.2.2)).trans hS7.2.2⟩
            refine hd_one 8 _ rfl (by kernel_rfl) (by decide) (fun K8 hK8 => ?_)
            go_simp
            refine hK8.out _ _ hS8 ?_
            clear hK8 K8 hS7 hS8 ba b8
            try simp only [Act.put, List.setIfInBounds_toArray, List.set_cons_zero, List.set_cons_succ]
            refine hd_done (by kernel_rfl) ?_
            simp only [List.drop_succ_cons, List.drop_zero]
            have hlF : (outF A id i).length ≤ 1000000000 := by rw [outF_len]; omega
            have z6 : base ≤ w8.heap.size := by have := HB4.out.size; have := HBS.out; have := bd8.size; omega
            refine wpList_append_lie (w0 := w8) (x := fb) (N := w8.heap.size) rfl rfl _ _ 23 rfl base iO _ 1 Try.underlying23 hiO hzO hkO hbO (by omega) rfl (by omega) encO_len encO_one _ (outF A id i) rfl rfl ((HE3.out.below bd8).oF) rfl hlF z6 ?_
            intro v10 w10 y1
            simp only [Act.put, List.setIfInBounds_toArray, List.set_cons_zero, List.set_cons_succ]
            obtain ⟨pL, qL, hpL⟩ := lie_at y1
            obtain ⟨lL, hlL⟩ : ∃ lL, ((outF A id i) ++ [fb]).length = lL := ⟨_, rfl⟩
            rw [hlL] at hpL
            clear hlL
            subst hpL
            have HE9 := HE3.out.below bd8
            have K10 := (y1.blk HE9.ko (own_type HE9.oF HE9.ko (by decide))).1
            have kf9 := K10.frozen 1
            have kc9 : w10.cell? ⟨gg, 1, none⟩ = some (.slice pF (outF A id i).length qF) := K10.cell 1
            have HNX : Hid (fdK A id (i + 1) = F ∧ outN A id (i + 1) = outN A id i ++ [R] ∧ outF A id (i + 1) = outF A id i ++ [fb]) := Lib.hid (by
              refine ⟨by rw [fdK_succ, HFD.out, HS.out, HFF.out], ?_, ?_⟩
              · rw [outN_succ]
                unfold rowsK
                rw [HFD.out, HS.out, HRR.out]
              · rw [outF_succ (by rw [HFD.out]; exact hlt), HFD.out, HS.out, HFB.out])
            have HFIN : Hid (ES 2 (encR2 k) 88 (w10.setCell ⟨gg, 1, none⟩ (.slice pL lL qL)) base gg (.slice (some ⟨b5, off5, none⟩) F.length q9) (.slice pM lM qM) (.slice pL lL qL) (fdK A id (i + 1)) (outN A id (i + 1)) (outF A id (i + 1)) ∧ MapIs (w10.setCell ⟨gg, 1, none⟩ (.slice pL lL qL)) 88 B (fdK A id (i + 1)).length (kvR k) (fdK A id (i + 1)) ∧ Below base W0 (w10.setCell ⟨gg, 1, none⟩ (.slice pL lL qL))) := Lib.hid (by
              rw [HNX.out.1, HNX.out.2.1, HNX.out.2.2]
              have M9 := (HM3.out.below bd8).own HE9.oF y1.2.2.1
              exact ⟨HE9.gF kindsR y1, M9.blk K10 (grown_set _ _ _ _), ((HB4.out.trans (bd8.mono (by have := HB4.out.size; have := HBS.out; omega))).trans y1.2.1).setCell (p := ⟨gg, 1, none⟩) (by show base ≤ gg; omega) _⟩)
            clear y1 HE9 K10 t1 k5 k6 bd8
            go_wp2
            go_roundw
            case measure => simp [intOf] <;> omega
            case rel => exact ⟨i + 1, _, _, by go_num, fun j hj => by
              rcases Nat.lt_or_ge j i with h | h
              · exact HGD.out j h
              · obtain rfl : j = i := by omega
                rw [HFD.out]
                exact hlt, by rw [HNX.out.1]; omega, HFIN.out⟩
      · have him : i = FD.length := by omega
        have h9 : ¬ (i : Int) < (FD.length : Int) := by omega
        have HST : Hid (Stop A id i) := Lib.hid ⟨HGD.out, by rw [HFD.out]; exact him.symm⟩
        obtain ⟨pN, qN, hpN⟩ := HE.out.oN.slice
        obtain ⟨pF, qF, hpF⟩ := HE.out.oF.slice
        rw [outN_len] at hpN
        rw [outF_len] at hpF
        subst hpN hpF
        have t0 : w2.cell? ⟨gg, 0, none⟩ = some (.slice pN i qN) := HE.out.ko.cell 0
        have t1 : w2.cell? ⟨gg, 1, none⟩ = some (.slice pF i qF) := HE.out.ko.cell 1
        have HKR2 : Hid (Blk rr 62 #[.slice none 0 0, .slice none 0 0] w2) := Lib.hid (Blk.belowAt HKR.out HB2.out (by have := HBS.out; omega))
        have kfr := HKR2.out.frozen
        have y0 : w2.cell? ⟨rr, 0, none⟩ = some (.slice none 0 0) := HKR2.out.cell 0
        have y1 : w2.cell? ⟨rr, 1, none⟩ = some (.slice none 0 0) := HKR2.out.cell 1
        have HFIN : Hid (Blk rr 62 #[.slice pN i qN, .slice pF i qF] ((w2.setCell ⟨rr, 0, none⟩ (.slice pN i qN)).setCell ⟨rr, 1, none⟩ (.slice pF i qF)) ∧ GrP A w (.returned (.agg #[.slice pN i qN, .slice pF i qF])) ((w2.setCell ⟨rr, 0, none⟩ (.slice pN i qN)).setCell ⟨rr, 1, none⟩ (.slice pF i qF))) := Lib.hid (by
          have hg := (grown_set w2 rr 0 (.slice pN i qN)).trans (grown_set (w2.setCell ⟨rr, 0, none⟩ (.slice pN i qN)) rr 1 (.slice pF i qF))
          have hlt : ∀ b, base ≤ b → (some rr : Option Nat) ≠ some b := fun b hb e => by
            injection e with e
            have := HBS.out
            omega
          have oN := own_grown HE.out.oN hg (fun b hb => hlt b (own_lt HE.out.oN b hb).1)
          have oF := own_grown HE.out.oF hg (fun b hb => hlt b (own_lt HE.out.oF b hb).1)
          refine ⟨(HKR2.out.put 0 _).put 1 _, i, pN, qN, pF, qF, HST.out, rfl, Own1.base oN (by have := HBS.out; omega), Own1.base oF (by have := HBS.out; omega), ?_⟩
          exact ((HB0.out.trans (HB2.out.mono (by have := HBS.out; omega))).setCell (p := ⟨rr, 0, none⟩) (by show w.heap.size ≤ rr; have := HBS.out; omega) _).setCell (p := ⟨rr, 1, none⟩) (by show w.heap.size ≤ rr; have := HBS.out; omega) _)
        clear him
        go_wp2
        exact bodyPost_ret (v := .agg #[.slice pN i qN, .slice pF i qF]) (resEP rfl HFIN.out.1) rfl HFIN.out.2
end Go.Proofs.Ytiljagfjgefnnaa
