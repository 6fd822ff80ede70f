/- Of the program: add, states. -/
import Derived.Test.YtiljagfjgefnnaaBu
namespace Go.Proofs.Ytiljagfjgefnnaa
open Go.RowKit
set_option linter.unusedVariables false

theorem Try.elemM : Try.prog.elem 79 = 21 := by kernel_rfl
theorem cut_o (B n u v : Nat) (hu : u < v) (hv : v ≤ n) (wx : World) : (Instr.slice 79 (.slice (some ⟨B, 0, none⟩) n n) (some (.int .i32 (u : Nat))) (some (.int .i32 (v : Nat))) none).run Try.prog wx = .ok (.slice (some ⟨B, u, none⟩) (v - u) (n - u)) wx ∧ (Instr.sliceAt 79 (.slice (some ⟨B, 0, none⟩) n n) (some (.int .i32 (u : Nat))) (some (.int .i32 (v : Nat))) none).run Try.prog wx = .ok (.slice (some ⟨B, u, none⟩) (v - u) (n - u)) wx := by
  have ht : Try.prog.underlying 79 = some (.slice (Try.prog.elem 79)) := by rw [Try.elemM]; exact Try.underlying79
  have hs : (sizeOf (Try.prog.elem 79)).run Try.prog wx = .ok 1 wx := by kernel_rfl
  have h1 := run_slice_lh (P := Try.prog) (w := wx) 79 (some ⟨B, 0, none⟩) n n ht .i32 .i32 (u : Int) (v : Int) (by omega) (by omega) (by omega)
  rw [hs] at h1
  have h2 : sliced (some ⟨B, 0, none⟩) (u : Int).toNat (v : Int).toNat n 1 = .slice (some ⟨B, u, none⟩) (v - u) (n - u) := by
    unfold sliced
    rw [Int.toNat_natCast, Int.toNat_natCast, if_neg (by omega)]
    simp [Addr.add]
    try omega
  have h3 : (Instr.slice 79 (.slice (some ⟨B, 0, none⟩) n n) (some (.int .i32 (u : Nat))) (some (.int .i32 (v : Nat))) none).run Try.prog wx = .ok (.slice (some ⟨B, u, none⟩) (v - u) (n - u)) wx := by
    rw [h1]
    show Result.ok _ wx = _
    rw [h2]
  exact ⟨h3, (run_sliceAt_slice (P := Try.prog) (w := wx) _ _ _ _ _ ht).trans h3⟩
def addB (p : Ptn) (u m L : Nat) : Nat → Nat := fun s => if u ≤ p.q s ∧ p.q s < m then L else p.b s
theorem addB_zero (p : Ptn) (u L s : Nat) : addB p u u L s = p.b s := if_neg (by omega)
theorem addB_succ {p : Ptn} {n u m L : Nat} (hq : ∀ s, s < n → p.q s < n ∧ p.o (p.q s) = s) (ho : ∀ i, i < n → p.o i < n ∧ p.q (p.o i) = i) (hm : m < n) (hu : u ≤ m) {s : Nat} (hs : s < n) : up (addB p u m L) (p.o m) L s = addB p u (m + 1) L s := by
  unfold up addB
  by_cases e : s = p.o m
  · rw [if_pos e, if_pos]
    rw [e, (ho m hm).2]
    omega
  · rw [if_neg e]
    have : p.q s ≠ m := fun e2 => e (by rw [← e2, (hq s hs).2])
    by_cases e3 : u ≤ p.q s ∧ p.q s < m
    · rw [if_pos e3, if_pos (by omega)]
    · rw [if_neg e3, if_neg (by omega)]
theorem PM.congrB {w : World} {base n : Nat} {A : Pa} {vb0 vt0 vb vt : Value} {p : Ptn} {f : Nat → Nat} (h : PM w base A vb0 vt0 vb vt n p) (he : ∀ s, s < n → p.b s = f s) : PM w base A vb0 vt0 vb vt n ⟨p.o, p.q, f, p.l, p.c⟩ :=
  ⟨h.kp, h.fo, h.fq, h.fb.congr (fun i hi => by unfold i32F; rw [he i hi]), h.ol, h.oc, h.oq, h.ob, h.qb, h.to_, h.tq, h.tb, h.lp, h.lo, h.lq, h.lb⟩
def AddR (w : World) (base : Nat) (A : Pa) (vb vt : Value) (n : Nat) (p' : Ptn) (e : Ending) (w' : World) : Prop := ∃ vb', e = .returned (.tuple #[]) ∧ PM w' base A vb' vt vb' vt n p' ∧ Fr (PX A vb vt) w w' ∧ (∀ k, vb'.ownBlock = some k → vb.ownBlock = some k ∨ w.heap.size ≤ k)
set_option maxRecDepth 1000000 in
set_option maxHeartbeats 16000000 in
theorem add_any (w : World) (base : Nat) (A : Pa) (vb vt : Value) (n : Nat) (p : Ptn) (u v K : Nat) (h : PM w base A vb vt vb vt n p) (hq : ∀ s, s < n → p.q s < n ∧ p.o (p.q s) = s) (ho : ∀ i, i < n → p.o i < n ∧ p.q (p.o i) = i) (hu : u < v) (hv : v ≤ n) (hl : p.l.length ≤ 1000000) (hn : n ≤ 1000000) (hbs : base ≤ w.heap.size) :
    Calls Try.prog 66 #[.pointer (some ⟨A.p, 0, none⟩), .agg #[.int .i32 (u : Nat), .int .i32 (v : Nat), .int .i32 (K : Nat)]] w (AddR w base A vb vt n ⟨p.o, p.q, addB p u v p.l.length, p.l ++ [⟨u, v, K⟩], p.c⟩) := by
  obtain ⟨iK, hiK, hzK, hkK, hbK⟩ := info_parts Try.infoK
  have BA := (Below.refl w.heap.size w).alloc (Nat.le_refl _) (.cells #[.int .i32 (u : Nat), .int .i32 (v : Nat), .int .i32 (K : Nat)] 106)
  have k0 := Blk.new w 106 #[.int .i32 (u : Nat), .int .i32 (v : Nat), .int .i32 (K : Nat)]
  obtain ⟨W0, hW0⟩ : ∃ W0, w.alloc (.cells #[.int .i32 (u : Nat), .int .i32 (v : Nat), .int .i32 (K : Nat)] 106) = W0 := ⟨_, rfl⟩
  have PB0 := Lib.hid (h.below BA)
  have HPXW := Lib.hid h.px
  have HBA := Lib.hid BA
  have K0 := Lib.hid k0
  rw [hW0] at PB0 HBA K0
  obtain ⟨bk, hbk⟩ : ∃ bk, w.heap.size = bk := ⟨_, rfl⟩
  have HBK := Lib.hid hbk
  have HW0 := Lib.hid hW0
  rw [hbk] at K0
  have HBS := Lib.hid hbs
  have HQ := Lib.hid hq
  have HO := Lib.hid ho
  obtain ⟨pb, cb, hvb⟩ := h.ol.slice
  obtain ⟨L, hL⟩ : ∃ L, p.l.length = L := ⟨_, rfl⟩
  have HL := Lib.hid hL
  subst hvb
  rw [hL] at PB0 HPXW hl ⊢
  clear hW0 hbk h BA k0 hbs hq ho hL
  have u0 : W0.cell? ⟨A.p, 0, none⟩ = some (.slice (some ⟨A.o, 0, none⟩) n n) := PB0.out.kp.cell 0
  have k1 : W0.cell? ⟨bk, 0, none⟩ = some (.int .i32 (u : Nat)) := K0.out.cell 0
  have k2 : W0.cell? ⟨bk, 1, none⟩ = some (.int .i32 (v : Nat)) := K0.out.cell 1
  obtain ⟨c1, c2⟩ : (∀ wx, (Instr.slice 79 (.slice (some ⟨A.o, 0, none⟩) n n) (some (.int .i32 (u : Nat))) (some (.int .i32 (v : Nat))) none).run Try.prog wx = .ok (.slice (some ⟨A.o, u, none⟩) (v - u) (n - u)) wx) ∧ (∀ wx, (Instr.sliceAt 79 (.slice (some ⟨A.o, 0, none⟩) n n) (some (.int .i32 (u : Nat))) (some (.int .i32 (v : Nat))) none).run Try.prog wx = .ok (.slice (some ⟨A.o, u, none⟩) (v - u) (n - u)) wx) := ⟨fun wx => (cut_o A.o n u v hu hv wx).1, fun wx => (cut_o A.o n u v hu hv wx).2⟩
  obtain ⟨m, hm⟩ : ∃ m, v - u = m := ⟨_, rfl⟩
  have HM := Lib.hid hm
  rw [hm] at c1 c2
  clear hm
  go_enter Try.func66, Try.ntmps66
  go_upto_region 1 with fail
  rw [HW0.out, HBK.out]
  clear HW0
  go_quiet (fail)
  have HBQ := Lib.hid (below_drewN (Below.refl W0.heap.size W0) nq)
  obtain ⟨w1, hw1⟩ : ∃ w1, W0.drewN nq = w1 := ⟨_, rfl⟩
  rw [hw1] at HBQ
  have P1 := Lib.hid (PB0.out.below HBQ.out)
  have K1 := Lib.hid (Blk.below K0.out HBQ.out)
  have HB1 := Lib.hid (st HBA.out HBQ.out HBA.out.size)
  have HBN : Hid (bk < w1.heap.size) := Lib.hid K1.out.lt
  go_wp2_with fail
  rw [hw1]
  clear hw1 u0 k1 k2 c1 c2 PB0 K0 HBA HBQ
  go_loopw [16] (fun v16 wr => ∃ j : Nat, j ≤ m ∧ v16 = .int .i64 (j : Nat) ∧ PM wr base A (.slice pb L cb) vt (.slice pb L cb) vt n ⟨p.o, p.q, addB p u (u + j) L, p.l, p.c⟩ ∧ Fr (PX A (.slice pb L cb) vt) w wr ∧ Blk bk 106 #[.int .i32 (u : Nat), .int .i32 (v : Nat), .int .i32 (K : Nat)] wr) (fun v16 _ => m - (intOf v16).toNat)
  case atStart => exact ⟨0, Nat.zero_le _, rfl, P1.out.congrB (fun s hs => (addB_zero p u L s).symm), Fr.of_below HB1.out, K1.out⟩
  case round =>
    rename World => wz
    obtain ⟨j, hj, rfl, hPM, hFr, hK⟩ := hrel
    have PZ := Lib.hid hPM
    have FZ := Lib.hid hFr
    have KZ := Lib.hid hK
    clear hPM hFr hK P1 K1 HB1
    by_cases hlt : j < m
    · have h9 : (j : Int) < (m : Int) := by omega
      have hum : u + j < n := by have := HM.out; omega
      obtain ⟨x, hx⟩ : ∃ x, p.o (u + j) = x := ⟨_, rfl⟩
      have HXX := Lib.hid hx
      have hxn : x < n := by rw [← hx]; exact (HO.out _ hum).1
      have hx9 : (x : Int) < (n : Int) := by omega
      have co : wz.cell? ⟨A.o, u + j, none⟩ = some (.int .i32 (x : Nat)) := by rw [PZ.out.fo.cell hum]; show some (Value.int .i32 (p.o (u + j) : Nat)) = _; rw [hx]
      clear hx
      have d1 : IntKind.i32.wrap ((L : Nat) : Int) = (L : Int) := by rw [IntKind.wrap_i32]; omega
      obtain ⟨wd, hwd⟩ : ∃ wd, wz.drew = wd := ⟨_, rfl⟩
      have PD := Lib.hid (PZ.out.below (Below.refl _ wz).drew)
      have FD := Lib.hid (FZ.out.trans (Fr.of_below (X := fun _ => False) (Below.refl _ wz).drew) (fun _ _ e => e.elim))
      have KD := Lib.hid (Blk.below KZ.out (Below.refl _ wz).drew)
      rw [hwd] at PD FD KD
      have u2' : wz.cell? ⟨A.p, 2, none⟩ = some (.slice (some ⟨A.b, 0, none⟩) n n) := PZ.out.kp.cell 2
      have u3' : wz.cell? ⟨A.p, 3, none⟩ = some (.slice pb L cb) := PZ.out.kp.cell 3
      have cb' : wd.cell? ⟨A.b, x, none⟩ = some (i32F (addB p u (u + j) L) x) := PD.out.fb.cell hxn
      have cz' : wd.frozen? ⟨A.b, x, none⟩ = false := PD.out.fb.frozen x
      have PN : Hid (PM (wd.setCell ⟨A.b, x, none⟩ (.int .i32 (L : Nat))) base A (.slice pb L cb) vt (.slice pb L cb) vt n ⟨p.o, p.q, addB p u (u + (j + 1)) L, p.l, p.c⟩) := Lib.hid ((PD.out.setB hxn L).congrB (fun s hs => by
        have := addB_succ (L := L) HQ.out HO.out hum (by omega : u ≤ u + j) hs
        rw [HXX.out] at this
        exact this))
      have FN : Hid (Fr (PX A (.slice pb L cb) vt) w (wd.setCell ⟨A.b, x, none⟩ (.int .i32 (L : Nat)))) := Lib.hid (FD.out.trans (Fr.set (X := fun k => k = A.b) _ _ _ rfl) (fun k _ e => .inr (.inr (.inr (.inl e)))))
      have KN : Hid (Blk bk 106 #[.int .i32 (u : Nat), .int .i32 (v : Nat), .int .i32 (K : Nat)] (wd.setCell ⟨A.b, x, none⟩ (.int .i32 (L : Nat)))) := Lib.hid (KD.out.far (p := ⟨A.b, x, none⟩) (fun e => by
        have h1 := (HPXW.out A.b (.inr (.inr (.inr (.inl rfl))))).2
        have h2 := HBK.out
        have e : bk = A.b := e
        omega) _)
      go_upto_region 4 with fail
      have hS : (fun wx : World => wx.cell? ⟨A.p, 2, none⟩ = some (.slice (some ⟨A.b, 0, none⟩) n n) ∧ wx.cell? ⟨A.p, 3, none⟩ = some (.slice pb L cb)) wd := ⟨PD.out.kp.cell 2, PD.out.kp.cell 3⟩
      refine region_hd 11 (fun wx : World => wx.cell? ⟨A.p, 2, none⟩ = some (.slice (some ⟨A.b, 0, none⟩) n n) ∧ wx.cell? ⟨A.p, 3, none⟩ = some (.slice pb L cb)) (by kernel_rfl) (by kernel_rfl) ?_
      rw [hwd]
      refine hd_taken 0 (some 20) _ ?hdv0 rfl rfl (by kernel_rfl) (fun _ _ _ h => h) (Or.inl ⟨by rfl, ?hdy0⟩) hS ?hdr0
      case hdy0 => (intro wx hx; (try dsimp only at hx); go_simp; try with_reducible rfl)
      try simp only [Act.put, List.setIfInBounds_toArray, List.set_cons_zero, List.set_cons_succ]
      refine hd_taken 1 (some 21) _ ?hdv1 rfl rfl (by kernel_rfl) (fun _ _ _ h => h) (Or.inl ⟨by rfl, ?hdy1⟩) hS ?hdr1
      case hdy1 => (intro wx hx; (try dsimp only at hx); go_simp; try with_reducible rfl)
      try simp only [Act.put, List.setIfInBounds_toArray, List.set_cons_zero, List.set_cons_succ]
      refine hd_taken 2 (some 22) _ ?hdv2 rfl rfl (by kernel_rfl) (fun _ _ _ h => h) (Or.inl ⟨by rfl, ?hdy2⟩) hS ?hdr2
      case hdy2 => (intro wx hx; (try dsimp only at hx); go_simp; try with_reducible rfl)
      try simp only [Act.put, List.setIfInBounds_toArray, List.set_cons_zero, List.set_cons_succ]
      refine hd_taken 3 (some 23) _ ?hdv3 rfl rfl (by kernel_rfl) (fun _ _ _ h => h) (Or.inl ⟨by rfl, ?hdy3⟩) hS ?hdr3
      case hdy3 => (intro wx hx; (try dsimp only at hx); go_simp; try with_reducible rfl)
      try simp only [Act.put, List.setIfInBounds_toArray, List.set_cons_zero, List.set_cons_succ]
      refine hd_taken 4 (some 24) _ ?hdv4 rfl rfl (by kernel_rfl) (fun _ _ _ h => h) (Or.inl ⟨by rfl, ?hdy4⟩) hS ?hdr4
      case hdy4 => (intro wx hx; (try dsimp only at hx); go_simp; try with_reducible rfl)
      try simp only [Act.put, List.setIfInBounds_toArray, List.set_cons_zero, List.set_cons_succ]
      refine hd_taken 5 (some 25) _ ?hdv5 rfl rfl (by kernel_rfl) (fun _ _ _ h => h) (Or.inl ⟨by rfl, ?hdy5⟩) hS ?hdr5
      case hdy5 => (intro wx hx; (try dsimp only at hx); go_simp; try with_reducible rfl)
      try simp only [Act.put, List.setIfInBounds_toArray, List.set_cons_zero, List.set_cons_succ]
      refine hd_taken 6 (some 26) _ ?hdv6 rfl rfl (by kernel_rfl) (fun _ _ _ h => h) (Or.inl ⟨by rfl, ?hdy6⟩) hS ?hdr6
      case hdy6 => (intro wx hx; (try dsimp only at hx); go_simp; try with_reducible rfl)
      try simp only [Act.put, List.setIfInBounds_toArray, List.set_cons_zero, List.set_cons_succ]
      refine hd_taken 7 (some 27) _ ?hdv7 rfl rfl (by kernel_rfl) (fun _ _ _ h => h) (Or.inl ⟨by rfl, ?hdy7⟩) hS ?hdr7
      case hdy7 => (intro wx hx; (try dsimp only at hx); go_simp; try with_reducible rfl)
      try simp only [Act.put, List.setIfInBounds_toArray, List.set_cons_zero, List.set_cons_succ]
      refine hd_taken 8 (some 28) _ ?hdv8 rfl rfl (by kernel_rfl) (fun _ _ _ h => h) (Or.inl ⟨by rfl, ?hdy8⟩) hS ?hdr8
      case hdy8 => (intro wx hx; (try dsimp only at hx); go_simp; try with_reducible rfl)
      try simp only [Act.put, List.setIfInBounds_toArray, List.set_cons_zero, List.set_cons_succ]
      refine hd_taken 9 (some 29) _ ?hdv9 rfl rfl (by kernel_rfl) (fun _ _ _ h => h) (Or.inl ⟨by rfl, ?hdy9⟩) hS ?hdr9
      case hdy9 => (intro wx hx; (try dsimp only at hx); go_simp; try with_reducible rfl)
      try simp only [Act.put, List.setIfInBounds_toArray, List.set_cons_zero, List.set_cons_succ]
      refine hd_taken 10 (some 30) _ ?hdv10 rfl rfl (by kernel_rfl) (fun _ _ _ h => h) (Or.inl ⟨by rfl, ?hdy10⟩) hS ?hdr10
      case hdy10 => (intro wx hx; (try dsimp only at hx); go_simp; try with_reducible rfl)
      try simp only [Act.put, List.setIfInBounds_toArray, List.set_cons_zero, List.set_cons_succ]
      refine hd_done (by kernel_rfl) ?_
      simp only [List.drop_succ_cons, List.drop_zero]
      go_wp2
      go_roundw
      case measure => simp [intOf] <;> omega
      case rel => exact ⟨j + 1, by omega, by go_num, PN.out, FN.out, KN.out⟩
    · obtain rfl : j = m := by omega
      have h9 : ¬ (j : Int) < (j : Int) := by omega
      have PE : Hid (PM wz base A (.slice pb L cb) vt (.slice pb L cb) vt n ⟨p.o, p.q, addB p u v L, p.l, p.c⟩) := Lib.hid (by
        have := PZ.out
        rw [show u + j = v by have := HM.out; omega] at this
        exact this)
      have u3 : wz.cell? ⟨A.p, 3, none⟩ = some (.slice pb L cb) := PE.out.kp.cell 3
      have k1 : wz.cell? ⟨bk, 0, none⟩ = some (.int .i32 (u : Nat)) := KZ.out.cell 0
      have k2 : wz.cell? ⟨bk, 1, none⟩ = some (.int .i32 (v : Nat)) := KZ.out.cell 1
      have k3 : wz.cell? ⟨bk, 2, none⟩ = some (.int .i32 (K : Nat)) := KZ.out.cell 2
      go_upto_region 6 with fail
      have hS : (fun wx : World => wx.cell? ⟨A.p, 3, none⟩ = some (.slice pb L cb) ∧ wx.cell? ⟨bk, 0, none⟩ = some (.int .i32 (u : Nat)) ∧ wx.cell? ⟨bk, 1, none⟩ = some (.int .i32 (v : Nat)) ∧ wx.cell? ⟨bk, 2, none⟩ = some (.int .i32 (K : Nat))) wz.drew := ⟨u3, k1, k2, k3⟩
      refine region_hd 8 (fun wx : World => wx.cell? ⟨A.p, 3, none⟩ = some (.slice pb L cb) ∧ wx.cell? ⟨bk, 0, none⟩ = some (.int .i32 (u : Nat)) ∧ wx.cell? ⟨bk, 1, none⟩ = some (.int .i32 (v : Nat)) ∧ wx.cell? ⟨bk, 2, none⟩ = some (.int .i32 (K : Nat))) (by kernel_rfl) (by kernel_rfl) ?_
      refine hd_taken 0 (some 33) _ ?hdva0 rfl rfl (by kernel_rfl) (fun _ _ _ h => h) (Or.inl ⟨by rfl, ?hdya0⟩) hS ?hdra0
      case hdya0 => (intro wx hx; (try dsimp only at hx); go_simp; try with_reducible rfl)
      try simp only [Act.put, List.setIfInBounds_toArray, List.set_cons_zero, List.set_cons_succ]
      refine hd_taken 1 (some 34) _ ?hdva1 rfl rfl (by kernel_rfl) (fun _ _ _ h => h) (Or.inl ⟨by rfl, ?hdya1⟩) hS ?hdra1
      case hdya1 => (intro wx hx; (try dsimp only at hx); go_simp; try with_reducible rfl)
      try simp only [Act.put, List.setIfInBounds_toArray, List.set_cons_zero, List.set_cons_succ]
      refine hd_taken 2 (some 35) _ ?hdva2 rfl rfl (by kernel_rfl) (fun _ _ _ h => h) (Or.inl ⟨by rfl, ?hdya2⟩) hS ?hdra2
      case hdya2 => (intro wx hx; (try dsimp only at hx); go_simp; try with_reducible rfl)
      try simp only [Act.put, List.setIfInBounds_toArray, List.set_cons_zero, List.set_cons_succ]
      refine hd_taken 3 (some 36) _ ?hdva3 rfl rfl (by kernel_rfl) (fun _ _ _ h => h) (Or.inl ⟨by rfl, ?hdya3⟩) hS ?hdra3
      case hdya3 => (intro wx hx; (try dsimp only at hx); go_simp; try with_reducible rfl)
      try simp only [Act.put, List.setIfInBounds_toArray, List.set_cons_zero, List.set_cons_succ]
      refine hd_taken 4 (some 37) _ ?hdva4 rfl rfl (by kernel_rfl) (fun _ _ _ h => h) (Or.inl ⟨by rfl, ?hdya4⟩) hS ?hdra4
      case hdya4 => (intro wx hx; (try dsimp only at hx); go_simp; try with_reducible rfl)
      try simp only [Act.put, List.setIfInBounds_toArray, List.set_cons_zero, List.set_cons_succ]
      refine hd_taken 5 (some 38) _ ?hdva5 rfl rfl (by kernel_rfl) (fun _ _ _ h => h) (Or.inl ⟨by rfl, ?hdya5⟩) hS ?hdra5
      case hdya5 => (intro wx hx; (try dsimp only at hx); go_simp; try with_reducible rfl)
      try simp only [Act.put, List.setIfInBounds_toArray, List.set_cons_zero, List.set_cons_succ]
      have bA := (Below.refl wz.heap.size wz).drew.alloc (Nat.le_refl _) (.cells #[.int .i32 (u : Nat), .int .i32 (v : Nat), .int .i32 (K : Nat)] 106)
      have PA := PE.out.below bA
      have hS2 : (fun wx : World => wx.cell? ⟨A.p, 3, none⟩ = some (.slice pb L cb) ∧ wx.cell? ⟨bk, 0, none⟩ = some (.int .i32 (u : Nat)) ∧ wx.cell? ⟨bk, 1, none⟩ = some (.int .i32 (v : Nat)) ∧ wx.cell? ⟨bk, 2, none⟩ = some (.int .i32 (K : Nat))) (wz.drew.alloc (.cells #[.int .i32 (u : Nat), .int .i32 (v : Nat), .int .i32 (K : Nat)] 106)) := ⟨PA.kp.cell 3, (Blk.below KZ.out bA).cell 0, (Blk.below KZ.out bA).cell 1, (Blk.below KZ.out bA).cell 2⟩
      refine hd_one 6 _ rfl (by kernel_rfl) (by decide) (fun K2 hK2 => ?_)
      go_simp
      refine hK2.out _ _ hS2 ?_
      clear hK2 K2 hS
      try simp only [Act.put, List.setIfInBounds_toArray, List.set_cons_zero, List.set_cons_succ]
      have kA := Blk.new wz.drew 106 #[.int .i32 (u : Nat), .int .i32 (v : Nat), .int .i32 (K : Nat)]
      have hl2 : p.l.length ≤ 1000000000 := by have := HL.out; omega
      have zA : base ≤ (wz.drew.alloc (.cells #[.int .i32 (u : Nat), .int .i32 (v : Nat), .int .i32 (K : Nat)] 106)).heap.size := by have := HBS.out; have := FZ.out.size; have := bA.size; omega
      refine hd_one 7 _ rfl (by kernel_rfl) (by decide) (fun K3 hK3 => ?_)
      refine step_append_blk (w := wz.drew.alloc (.cells #[.int .i32 (u : Nat), .int .i32 (v : Nat), .int .i32 (K : Nat)] 106)) (x := (⟨u, v, K⟩ : Bk)) (by rfl) _ _ 80 (by rfl) base iK _ 12 Try.underlying80 hiK hzK hkK hbK (by omega) rfl (by omega) encK_len encK_one _ p.l (by rfl) (by rfl) PA.ol (by rfl) kA hl2 zA ?_
      intro v7 w7 y1
      have P7 := PA.lieL y1
      have HPXN : Hid (∀ k, w.heap.size ≤ k → ¬ PX A (.slice pb L cb) vt k) := Lib.hid (fun k hk e => by have := (HPXW.out k e).2; omega)
      have K7 : Blk bk 106 #[.int .i32 (u : Nat), .int .i32 (v : Nat), .int .i32 (K : Nat)] w7 := (y1.blk (Blk.below KZ.out bA) (fun e => HPXN.out bk (by have := HBK.out; omega) (.inr (.inr (.inr (.inr (.inl e))))))).1
      have hS7 : (fun wx : World => wx.cell? ⟨A.p, 3, none⟩ = some (.slice pb L cb) ∧ wx.cell? ⟨bk, 0, none⟩ = some (.int .i32 (u : Nat)) ∧ wx.cell? ⟨bk, 1, none⟩ = some (.int .i32 (v : Nat)) ∧ wx.cell? ⟨bk, 2, none⟩ = some (.int .i32 (K : Nat))) w7 := ⟨P7.kp.cell 3, K7.cell 0, K7.cell 1, K7.cell 2⟩
      refine hK3.out _ _ hS7 ?_
      have F7 : Fr (PX A (.slice pb L cb) vt) w w7 := (FZ.out.trans (Fr.of_below (X := fun _ => False) bA) (fun _ _ e => e.elim)).trans (Fr.grown (X := fun k => (Value.slice pb L cb).ownBlock = some k) y1.2.2.1 (fun k e => e)) (fun k _ e => .inr (.inr (.inr (.inr (.inl e)))))
      obtain ⟨p7, q7, hp7⟩ := lie_at y1
      obtain ⟨L7, hL7⟩ : ∃ L7, (p.l ++ [(⟨u, v, K⟩ : Bk)]).length = L7 := ⟨_, rfl⟩
      rw [hL7] at hp7
      subst hp7
      have HOW : Hid (∀ k, (Value.slice p7 L7 q7).ownBlock = some k → (Value.slice pb L cb).ownBlock = some k ∨ w.heap.size ≤ k) := Lib.hid (fun k hk => by
        rcases y1.2.2.2 k hk with e | e
        · exact .inl e
        · right
          have := FZ.out.size
          have := bA.size
          omega)
      have kc7 : w7.cell? ⟨A.p, 3, none⟩ = some (.slice pb L cb) := P7.kp.cell 3
      have kf7 := P7.kp.frozen 3
      have HFIN : Hid (AddR w base A (.slice pb L cb) vt n ⟨p.o, p.q, addB p u v L, p.l ++ [⟨u, v, K⟩], p.c⟩ (.returned (.tuple #[])) (w7.setCell ⟨A.p, 3, none⟩ (.slice p7 L7 q7))) := Lib.hid ⟨_, rfl, P7.put 3 _ _ _ rfl, F7.trans (Fr.set (X := fun k => k = A.p) _ _ _ rfl) (fun k _ e => .inl e), HOW.out⟩
      clear hK3 K3 kA y1 hS2 bA PA P7 hS7 F7 hL7 K7 k1 k2 k3 u3
      try simp only [Act.put, List.setIfInBounds_toArray, List.set_cons_zero, List.set_cons_succ]
      refine hd_done (by kernel_rfl) ?_
      simp only [List.drop_succ_cons, List.drop_zero]
      go_wp2
      (try simp only [Exit.inBlock, Exit.then])
      refine bodyPost_end (results_none rfl _ _ _) rfl ?_
      exact HFIN.out
end Go.Proofs.Ytiljagfjgefnnaa
