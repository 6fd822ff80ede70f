/- Of the program: rows. -/
import Derived.Test.YtiljagfjgefnnaaBx
namespace Go.Proofs.Ytiljagfjgefnnaa
open Go.RowKit
set_option linter.unusedVariables false

theorem Try.elemI : Try.prog.elem 56 = 3 := by kernel_rfl
theorem cut_row (B q u v : Nat) (hu : u < v) (hv : v ≤ q) (wx : World) : (Instr.slice 56 (.slice (some ⟨B, 0, none⟩) q q) (some (.int .i64 (u : Nat))) (some (.int .i64 (v : Nat))) (some (.int .i64 (v : Nat)))).run Try.prog wx = .ok (.slice (some ⟨B, u, none⟩) (v - u) (v - u)) wx ∧ (Instr.sliceAt 56 (.slice (some ⟨B, 0, none⟩) q q) (some (.int .i64 (u : Nat))) (some (.int .i64 (v : Nat))) (some (.int .i64 (v : Nat)))).run Try.prog wx = .ok (.slice (some ⟨B, u, none⟩) (v - u) (v - u)) wx := by
  have ht : Try.prog.underlying 56 = some (.slice (Try.prog.elem 56)) := by rw [Try.elemI]; exact Try.underlying56
  have hs : (sizeOf (Try.prog.elem 56)).run Try.prog wx = .ok 1 wx := by kernel_rfl
  have h2 : sliced (some ⟨B, 0, none⟩) (u : Int).toNat (v : Int).toNat (v : Int).toNat 1 = .slice (some ⟨B, u, none⟩) (v - u) (v - u) := by
    unfold sliced
    rw [Int.toNat_natCast, Int.toNat_natCast, if_neg (by omega)]
    simp [Addr.add]
    try omega
  have h3 : (Instr.slice 56 (.slice (some ⟨B, 0, none⟩) q q) (some (.int .i64 (u : Nat))) (some (.int .i64 (v : Nat))) (some (.int .i64 (v : Nat)))).run Try.prog wx = .ok (.slice (some ⟨B, u, none⟩) (v - u) (v - u)) wx := by
    have h1 := run_slice_lhm (P := Try.prog) (w := wx) 56 (some ⟨B, 0, none⟩) q q ht .i64 .i64 .i64 (u : Int) (v : Int) (v : Int) (by omega) (by omega) (by omega) (by omega)
    rw [hs] at h1
    rw [h1]
    show Result.ok _ wx = _
    rw [h2]
  exact ⟨h3, (run_sliceAt_slice (P := Try.prog) (w := wx) _ _ _ _ _ ht).trans h3⟩
def rowV (CB : Nat) (i : Nat) : Value := .slice (some ⟨CB, i * 11, none⟩) 11 11
def zeroV (_ : Nat) : Value := .int .i64 0
theorem Try.infoR : (Try.prog.info? 56).map (fun i => (i.zero, i.size, i.bytes)) = some (some (.slice none 0 0), 1, 24) := by kernel_rfl
def RowsR (n : Nat) (w : World) (e : Ending) (w' : World) : Prop := ∃ LB CB : Nat, e = .returned (.slice (some ⟨LB, 0, none⟩) n n) ∧ Fn LB 56 n (rowV CB) w' ∧ Fn CB 3 (n * 11) zeroV w' ∧ w.heap.size ≤ LB ∧ w.heap.size ≤ CB ∧ Below w.heap.size w w'
set_option maxRecDepth 1000000 in
set_option maxHeartbeats 32000000 in
theorem rows_any (n : Nat) (hn : n ≤ 2000) (w : World) : Calls Try.prog 55 #[.int .i64 (n : Nat)] w (RowsR n w) := by
  obtain ⟨q, hq⟩ : ∃ q, n * 11 = q := ⟨_, rfl⟩
  have HQ := Lib.hid hq
  have hmk1 : ∀ wx : World, (Instr.makeSlice 56 (.int .i64 (q : Int)) (.int .i64 (q : Int))).run Try.prog wx = .ok (.slice (some ⟨wx.heap.size, 0, none⟩) q q) (wx.alloc (.cells (madeCells #[.int .i64 0] q) 3)) := fun wx => by
    have := make_fn (P := Try.prog) 56 3 _ 1 8 Try.underlying56 Try.infoI (by omega) (by omega) q (by omega) wx
    rw [Nat.mul_one] at this
    exact this
  have hmk2 : ∀ wx : World, (Instr.makeSlice 22 (.int .i64 (n : Int)) (.int .i64 (n : Int))).run Try.prog wx = .ok (.slice (some ⟨wx.heap.size, 0, none⟩) n n) (wx.alloc (.cells (madeCells #[.slice none 0 0] n) 56)) := fun wx => by
    have := make_fn (P := Try.prog) 22 56 _ 1 24 Try.underlying22 Try.infoR (by omega) (by omega) n (by omega) wx
    rw [Nat.mul_one] at this
    exact this
  have HF1 : Hid (∀ wx : World, Fn wx.heap.size 3 q zeroV (wx.alloc (.cells (madeCells #[.int .i64 0] q) 3))) := Lib.hid (fun wx => (fn_made wx 3 #[.int .i64 0] q (by decide)).congr (fun i hi => by simp [zeroV, Nat.mod_one]))
  have HF2 : Hid (∀ wx : World, Fn wx.heap.size 56 n (fun _ => .slice none 0 0) (wx.alloc (.cells (madeCells #[.slice none 0 0] n) 56))) := Lib.hid (fun wx => (fn_made wx 56 #[.slice none 0 0] n (by decide)).congr (fun i hi => by simp [Nat.mod_one]))
  have d1 : IntKind.i64.wrap ((n : Int) * 11) = (q : Int) := by rw [IntKind.wrap_i64]; omega
  have HWS : Hid (Below w.heap.size w w) := Lib.hid (Below.refl _ _)
  clear hq
  go_enter Try.func55, Try.ntmps55
  go_upto_region 1 with fail
  obtain ⟨wd, hwd⟩ : ∃ wd, w.drew = wd := ⟨_, rfl⟩
  have HB0 : Hid (Below w.heap.size w wd) := Lib.hid (by rw [← hwd]; exact (Below.refl _ w).drew)
  have HDW := Lib.hid hwd
  clear hwd
  go_cut [3, 4] from 6 to 10 (fun v3 v4 wx => ∃ CB LB : Nat, v3 = .slice (some ⟨CB, 0, none⟩) q q ∧ v4 = .slice (some ⟨LB, 0, none⟩) n n ∧ Fn CB 3 q zeroV wx ∧ Fn LB 56 n (fun _ => .slice none 0 0) wx ∧ w.heap.size ≤ LB ∧ w.heap.size ≤ CB ∧ Below w.heap.size w wx)
  case first =>
    have hS : (fun _ : World => True) wd := trivial
    refine region_hd 6 (fun _ : World => True) (by kernel_rfl) (by kernel_rfl) ?_
    rw [HDW.out]
    refine hd_taken 0 (some 6) _ ?hdv0 rfl rfl (by kernel_rfl) (fun _ _ _ h => h) (Or.inl ⟨by rfl, ?hdy0⟩) hS ?hdr0
    case hdy0 => (intro wx hx; (try dsimp only at hx); go_simp; try with_reducible rfl)
    try simp only [Act.put, List.setIfInBounds_toArray, List.set_cons_zero, List.set_cons_succ]
    refine hd_taken 1 (some 7) _ ?hdv1 rfl rfl (by kernel_rfl) (fun _ _ _ h => h) (Or.inl ⟨by rfl, ?hdy1⟩) hS ?hdr1
    case hdy1 => (intro wx hx; (try dsimp only at hx); go_simp; try with_reducible rfl)
    try simp only [Act.put, List.setIfInBounds_toArray, List.set_cons_zero, List.set_cons_succ]
    refine hd_taken 3 (some 9) _ ?hdv3 rfl rfl (by kernel_rfl) (fun _ _ _ h => h) (Or.inl ⟨by rfl, ?hdy3⟩) hS ?hdr3
    case hdy3 => (intro wx hx; (try dsimp only at hx); go_simp; try with_reducible rfl)
    try simp only [Act.put, List.setIfInBounds_toArray, List.set_cons_zero, List.set_cons_succ]
    refine hd_list [2, 4] (by kernel_rfl) (by decide) (by decide) (fun i hi => ?_)
    simp only [List.mem_cons, List.not_mem_nil, or_false] at hi
    rcases hi with rfl | rfl
    · refine ⟨_, rfl, fun K2 hK2 => ?_⟩
      go_simp
      obtain ⟨w2x, hw2⟩ : ∃ wx, wd.alloc (.cells (madeCells #[.int .i64 0] q) 3) = wx := ⟨_, rfl⟩
      have b2 := (Below.refl wd.heap.size wd).alloc (Nat.le_refl _) (.cells (madeCells #[.int .i64 0] q) 3)
      have f2 := HF1.out wd
      rw [hw2] at b2 f2 ⊢
      obtain ⟨B2, hB2⟩ : ∃ B, wd.heap.size = B := ⟨_, rfl⟩
      have L2 : Hid (w.heap.size ≤ B2) := Lib.hid (by have := HB0.out.size; omega)
      have HB2 := Lib.hid (HB0.out.trans (b2.mono HB0.out.size))
      rw [hB2] at f2 ⊢
      have F2 := Lib.hid f2
      clear hw2 b2 f2 hB2
      refine hK2.out _ _ trivial ?_
      clear hK2 K2
      try simp only [Act.put, List.setIfInBounds_toArray, List.set_cons_zero, List.set_cons_succ]
      refine hd_taken 5 (some 3) _ ?hdva5 rfl rfl (by kernel_rfl) (fun _ _ _ h => h) (Or.inl ⟨by rfl, ?hdya5⟩) trivial ?hdra5
      case hdya5 => (intro wx hx; (try dsimp only at hx); go_simp; try with_reducible rfl)
      try simp only [Act.put, List.setIfInBounds_toArray, List.set_cons_zero, List.set_cons_succ]
      refine hd_list [4] (by kernel_rfl) (by decide) (by decide) (fun i hi => ?_)
      simp only [List.mem_cons, List.not_mem_nil, or_false] at hi
      subst hi
      refine ⟨_, rfl, fun K4 hK4 => ?_⟩
      go_simp
      obtain ⟨w4x, hw4⟩ : ∃ wx, w2x.alloc (.cells (madeCells #[.slice none 0 0] n) 56) = wx := ⟨_, rfl⟩
      have b4 := (Below.refl w2x.heap.size w2x).alloc (Nat.le_refl _) (.cells (madeCells #[.slice none 0 0] n) 56)
      have f4 := HF2.out w2x
      rw [hw4] at b4 f4 ⊢
      obtain ⟨B4, hB4⟩ : ∃ B, w2x.heap.size = B := ⟨_, rfl⟩
      have L4 : Hid (w.heap.size ≤ B4) := Lib.hid (by have := HB2.out.size; omega)
      have HB4 := Lib.hid (HB2.out.trans (b4.mono HB2.out.size))
      have F2 := Lib.hid (F2.out.below b4)
      rw [hB4] at f4 ⊢
      have F4 := Lib.hid f4
      clear hw4 b4 f4 hB4
      refine hK4.out _ _ trivial ?_
      clear hK4 K4
      try simp only [Act.put, List.setIfInBounds_toArray, List.set_cons_zero, List.set_cons_succ]
      refine hd_done (by kernel_rfl) ?_
      simp only [List.drop_succ_cons, List.drop_zero]
      go_wp2
      go_meet
      exact ⟨_, _, rfl, rfl, F2.out, F4.out, L4.out, L2.out, HB4.out⟩
    · refine ⟨_, rfl, fun K4 hK4 => ?_⟩
      go_simp
      obtain ⟨w4x, hw4⟩ : ∃ wx, wd.alloc (.cells (madeCells #[.slice none 0 0] n) 56) = wx := ⟨_, rfl⟩
      have b4 := (Below.refl wd.heap.size wd).alloc (Nat.le_refl _) (.cells (madeCells #[.slice none 0 0] n) 56)
      have f4 := HF2.out wd
      rw [hw4] at b4 f4 ⊢
      obtain ⟨B4, hB4⟩ : ∃ B, wd.heap.size = B := ⟨_, rfl⟩
      have L4 : Hid (w.heap.size ≤ B4) := Lib.hid (by have := HB0.out.size; omega)
      have HB4 := Lib.hid (HB0.out.trans (b4.mono HB0.out.size))
      rw [hB4] at f4 ⊢
      have F4 := Lib.hid f4
      clear hw4 b4 f4 hB4
      refine hK4.out _ _ trivial ?_
      clear hK4 K4
      try simp only [Act.put, List.setIfInBounds_toArray, List.set_cons_zero, List.set_cons_succ]
      refine hd_list [2] (by kernel_rfl) (by decide) (by decide) (fun i hi => ?_)
      simp only [List.mem_cons, List.not_mem_nil, or_false] at hi
      subst hi
      refine ⟨_, rfl, fun K2 hK2 => ?_⟩
      go_simp
      obtain ⟨w2x, hw2⟩ : ∃ wx, w4x.alloc (.cells (madeCells #[.int .i64 0] q) 3) = wx := ⟨_, rfl⟩
      have b2 := (Below.refl w4x.heap.size w4x).alloc (Nat.le_refl _) (.cells (madeCells #[.int .i64 0] q) 3)
      have f2 := HF1.out w4x
      rw [hw2] at b2 f2 ⊢
      obtain ⟨B2, hB2⟩ : ∃ B, w4x.heap.size = B := ⟨_, rfl⟩
      have L2 : Hid (w.heap.size ≤ B2) := Lib.hid (by have := HB4.out.size; omega)
      have HB2 := Lib.hid (HB4.out.trans (b2.mono HB4.out.size))
      have F4 := Lib.hid (F4.out.below b2)
      rw [hB2] at f2 ⊢
      have F2 := Lib.hid f2
      clear hw2 b2 f2 hB2
      refine hK2.out _ _ trivial ?_
      clear hK2 K2
      try simp only [Act.put, List.setIfInBounds_toArray, List.set_cons_zero, List.set_cons_succ]
      refine hd_taken 5 (some 3) _ ?hdvb5 rfl rfl (by kernel_rfl) (fun _ _ _ h => h) (Or.inl ⟨by rfl, ?hdyb5⟩) trivial ?hdrb5
      case hdyb5 => (intro wx hx; (try dsimp only at hx); go_simp; try with_reducible rfl)
      try simp only [Act.put, List.setIfInBounds_toArray, List.set_cons_zero, List.set_cons_succ]
      refine hd_done (by kernel_rfl) ?_
      simp only [List.drop_succ_cons, List.drop_zero]
      go_wp2
      go_meet
      exact ⟨_, _, rfl, rfl, F2.out, F4.out, L4.out, L2.out, HB2.out⟩
  case rest =>
    rename World => w1
    obtain ⟨CB, LB, rfl, rfl, hc, hl, lL, lC, hb⟩ := hcut
    have C1 := Lib.hid hc
    have L1 := Lib.hid hl
    have B1 := Lib.hid hb
    clear hc hl hb hmk1 hmk2 HF1 HF2 HDW HB0
    go_wp2_with fail
    go_loopw [13] (fun v13 wr => ∃ i : Nat, i ≤ n ∧ v13 = .int .i64 (i : Nat) ∧ Fn CB 3 q zeroV wr ∧ Fn LB 56 n (fun k => if k < i then rowV CB k else .slice none 0 0) wr ∧ Below w.heap.size w wr) (fun v13 _ => n - (intOf v13).toNat)
    case atStart => exact ⟨0, Nat.zero_le _, rfl, C1.out, L1.out.congr (fun k _ => by simp), B1.out⟩
    case round =>
      rename World => w2
      obtain ⟨i, hi, rfl, hc, hl, hb⟩ := hrel
      have C2 := Lib.hid hc
      have L2 := Lib.hid hl
      have B2 := Lib.hid hb
      clear hc hl hb C1 L1 B1
      by_cases hlt : i < n
      · have h9 : (i : Int) < (n : Int) := by omega
        obtain ⟨u, hu⟩ : ∃ u, i * 11 = u := ⟨_, rfl⟩
        have HU := Lib.hid hu
        have hur : u + 11 ≤ q := by have := HQ.out; omega
        have d2 : IntKind.i64.wrap ((i : Int) * 11) = (u : Int) := by rw [IntKind.wrap_i64]; omega
        have d3 : IntKind.i64.wrap ((i : Int) + 1) = (i : Int) + 1 := by rw [IntKind.wrap_i64]; omega
        obtain ⟨v, hv⟩ : ∃ v, u + 11 = v := ⟨_, rfl⟩
        have d4 : IntKind.i64.wrap (((i : Int) + 1) * 11) = (v : Int) := by rw [IntKind.wrap_i64]; omega
        have hvu : v - u = 11 := by omega
        have hc1 : ∀ wx, (Instr.slice 56 (.slice (some ⟨CB, 0, none⟩) q q) (some (.int .i64 (u : Nat))) (some (.int .i64 (v : Nat))) (some (.int .i64 (v : Nat)))).run Try.prog wx = .ok (.slice (some ⟨CB, u, none⟩) 11 11) wx := fun wx => by
          have := (cut_row CB q u v (by omega) (by omega) wx).1
          rw [hvu] at this
          exact this
        have hc2 : ∀ wx, (Instr.sliceAt 56 (.slice (some ⟨CB, 0, none⟩) q q) (some (.int .i64 (u : Nat))) (some (.int .i64 (v : Nat))) (some (.int .i64 (v : Nat)))).run Try.prog wx = .ok (.slice (some ⟨CB, u, none⟩) 11 11) wx := fun wx => by
          have := (cut_row CB q u v (by omega) (by omega) wx).2
          rw [hvu] at this
          exact this
        have cl := L2.out.cell hlt
        have cz := L2.out.frozen i
        have HN := Lib.hid (And.intro ((L2.out.put hlt (.slice (some ⟨CB, u, none⟩) 11 11)).congr (g := fun k => if k < i + 1 then rowV CB k else .slice none 0 0) (fun k hk => by
          unfold upd
          by_cases e : k = i
          · subst e
            rw [if_pos rfl, if_pos (by omega)]
            unfold rowV
            rw [HU.out]
          · rw [if_neg e]
            by_cases h : k < i
            · dsimp only; rw [if_pos h, if_pos (by omega)]
            · dsimp only; rw [if_neg h, if_neg (by omega)])) (And.intro (C2.out.grown (grown_set w2 LB i (.slice (some ⟨CB, u, none⟩) 11 11)) (fun e => (by
              injection e with e
              exact L2.out.apart C2.out (by decide) e))) (B2.out.setCell (p := ⟨LB, i, none⟩) lL (.slice (some ⟨CB, u, none⟩) 11 11))))
        clear hu hv hvu
        go_wp2_with fail
        go_roundw
        case measure => simp [intOf] <;> omega
        case rel => exact ⟨i + 1, by omega, by go_num, HN.out.2.1, HN.out.1, HN.out.2.2⟩
      · obtain rfl : i = n := by omega
        have h9 : ¬ (i : Int) < (i : Int) := by omega
        have HFIN : Hid (RowsR i w (.returned (.slice (some ⟨LB, 0, none⟩) i i)) w2) := Lib.hid ⟨LB, CB, rfl, L2.out.congr (fun k hk => if_pos hk), by rw [HQ.out]; exact C2.out, lL, lC, B2.out⟩
        go_wp2_with fail
        go_ret
        exact HFIN.out
end Go.Proofs.Ytiljagfjgefnnaa
