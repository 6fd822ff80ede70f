/- Of the program: mark. -/
import Derived.Test.YtiljagfjgefnnaaBt
import Derived.StillTail
namespace Go.Proofs.Ytiljagfjgefnnaa
open Go.RowKit
set_option linter.unusedVariables false

def MarkR (w : World) (base : Nat) (A : Pa) (vb vt : Value) (n : Nat) (p' : Ptn) (e : Ending) (w' : World) : Prop := ∃ vt', e = .returned (.tuple #[]) ∧ PM w' base A vb vt' vb vt' n p' ∧ Fr (PX A vb vt) w w' ∧ (∀ k, vt'.ownBlock = some k → vt.ownBlock = some k ∨ w.heap.size ≤ k)
set_option maxRecDepth 1000000 in
set_option maxHeartbeats 16000000 in
theorem mark_any (w : World) (base : Nat) (A : Pa) (vb vt : Value) (n : Nat) (p : Ptn) (s : Nat) (h : PM w base A vb vt vb vt n p) (hp : PB n p) (hc : TC p) (hs : s < n) (hm : ¬ Mk p s) (hn : n ≤ 1000000) (hbs : base ≤ w.heap.size) :
    Calls Try.prog 61 #[.pointer (some ⟨A.p, 0, none⟩), .int .i32 (s : Nat)] w (MarkR w base A vb vt n (markP p s)) := by
  obtain ⟨iM, hiM, hzM, hkM, hbM⟩ := info_parts Try.infoM
  have hb := hp.b_ s hs
  have hl := hp.l_ _ hb.1
  have hle := hp.len_le
  have hq := hp.q_ s hs
  have hcl : p.c.length ≤ n := by
    have := nodup_len (a := p.c) (b := List.range p.l.length) hc.nd (fun x hx => List.mem_range.2 (hc.lt x hx))
    simp at this
    omega
  unfold Mk at hm
  obtain ⟨g, c, hvb, hf0, hf1, hf2, hfz⟩ := h.bk hb.1
  obtain ⟨pt, qt, hvt⟩ := h.oc.slice
  subst hvb hvt
  obtain ⟨x, hx⟩ : ∃ x, p.q s = x := ⟨_, rfl⟩
  obtain ⟨i, hi⟩ : ∃ i, p.b s = i := ⟨_, rfl⟩
  have HX := Lib.hid hx
  have HI := Lib.hid hi
  rw [hx] at hb hm hq
  rw [hi] at hb hl hf0 hf1 hf2 hm
  obtain ⟨F, hF⟩ : ∃ F, (p.at_ i).f = F := ⟨_, rfl⟩
  obtain ⟨U, hU⟩ : ∃ U, (p.at_ i).t = U := ⟨_, rfl⟩
  obtain ⟨K, hK⟩ : ∃ K, (p.at_ i).k = K := ⟨_, rfl⟩
  have HF := Lib.hid hF
  have HU := Lib.hid hU
  have HK := Lib.hid hK
  rw [hF] at hf0 hb hl hm
  rw [hU] at hf1 hb hl
  rw [hK] at hf2 hl hm
  have HPM := Lib.hid h
  have HFZ := Lib.hid hfz
  have HPB := Lib.hid hp
  have hil := hb.1
  have hxl := hq.1
  obtain ⟨L, hL⟩ : ∃ L, p.l.length = L := ⟨_, rfl⟩
  have HL := Lib.hid hL
  obtain ⟨C, hC⟩ : ∃ C, p.c.length = C := ⟨_, rfl⟩
  have HC := Lib.hid hC
  rw [hL] at hil hle HPM
  rw [hC] at HPM hcl
  clear hx hi hF hU hK h hfz hp hc hq hL hC
  have u0 : w.cell? ⟨A.p, 0, none⟩ = some (.slice (some ⟨A.o, 0, none⟩) n n) := HPM.out.kp.cell 0
  have u1 : w.cell? ⟨A.p, 1, none⟩ = some (.slice (some ⟨A.q, 0, none⟩) n n) := HPM.out.kp.cell 1
  have u2 : w.cell? ⟨A.p, 2, none⟩ = some (.slice (some ⟨A.b, 0, none⟩) n n) := HPM.out.kp.cell 2
  have u3 : w.cell? ⟨A.p, 3, none⟩ = some (.slice (some ⟨g, 0, none⟩) L c) := HPM.out.kp.cell 3
  have u4 : w.cell? ⟨A.p, 4, none⟩ = some (.slice pt C qt) := HPM.out.kp.cell 4
  have ub : w.cell? ⟨A.b, s, none⟩ = some (.int .i32 (i : Nat)) := by rw [HPM.out.fb.cell hs, ← HI.out]; rfl
  have hs9 : (s : Int) < (n : Int) := by omega
  have hi9 : (i : Int) < (L : Int) := by omega
  have hLn : 0 < L := by omega
  go_enter Try.func61, Try.ntmps61
  go_upto_region 0 with fail
  go_quiet (fail)
  have HBQ := Lib.hid (below_drewN (Below.refl w.heap.size w) nq)
  obtain ⟨w1, hw1⟩ : ∃ w1, w.drewN nq = w1 := ⟨_, rfl⟩
  rw [hw1] at HBQ ⊢
  have u2 : w1.cell? ⟨A.p, 2, none⟩ = some (.slice (some ⟨A.b, 0, none⟩) n n) := by rw [← hw1]; exact u2
  have u4 : w1.cell? ⟨A.p, 4, none⟩ = some (.slice pt C qt) := by rw [← hw1]; exact u4
  have ub : w1.cell? ⟨A.b, s, none⟩ = some (.int .i32 (i : Nat)) := by rw [← hw1]; exact ub
  have hf2 : w1.cell? ⟨g, i * 3 + 2, none⟩ = some (.int .i32 (K : Nat)) := by rw [← hw1]; exact hf2
  have P1 := Lib.hid (HPM.out.below HBQ.out)
  have HW := Lib.hid hbs
  clear hw1 hf0 hf1 HPM
  go_upto_if 24 with fail
  go_cut [4] from 24 to 40 (fun v4 wx => v4 = .pointer (some ⟨g, i * 3, none⟩) ∧ ∃ vt', PM wx base A (.slice (some ⟨g, 0, none⟩) L c) vt' (.slice (some ⟨g, 0, none⟩) L c) vt' n ⟨p.o, p.q, p.b, p.l, (markP p s).c⟩ ∧ Fr (PX A (.slice (some ⟨g, 0, none⟩) L c) (.slice pt C qt)) w wx ∧ (∀ k, vt'.ownBlock = some k → (Value.slice pt C qt).ownBlock = some k ∨ w.heap.size ≤ k))
  case first =>
    by_cases h0 : K = 0
    · have HCC : Hid ((markP p s).c = p.c ++ [i]) := Lib.hid (by
        show (if (p.at_ (p.b s)).k = 0 then p.c ++ [p.b s] else p.c) = _
        rw [HI.out, HK.out, if_pos h0])
      have t : ((K : Int) == 0) = true := by rw [h0]; rfl
      have t' : (K == 0) = true := by rw [h0]; rfl
      clear h0
      go_upto_region 2 with fail
      have bd := (Below.refl w1.heap.size w1).drew
      have hS : (fun wx : World => wx.cell? ⟨A.p, 2, none⟩ = some (.slice (some ⟨A.b, 0, none⟩) n n) ∧ wx.cell? ⟨A.p, 4, none⟩ = some (.slice pt C qt) ∧ wx.cell? ⟨A.b, s, none⟩ = some (.int .i32 (i : Nat))) w1.drew := ⟨u2, u4, ub⟩
      refine region_hd 14 (fun wx : World => wx.cell? ⟨A.p, 2, none⟩ = some (.slice (some ⟨A.b, 0, none⟩) n n) ∧ wx.cell? ⟨A.p, 4, none⟩ = some (.slice pt C qt) ∧ wx.cell? ⟨A.b, s, none⟩ = some (.int .i32 (i : Nat))) (by kernel_rfl) (by kernel_rfl) ?_
      refine hd_taken 0 (some 25) _ ?hdvb0 rfl rfl (by kernel_rfl) (fun _ _ _ h => h) (Or.inl ⟨by rfl, ?hdyb0⟩) hS ?hdrb0
      case hdyb0 => (intro wx hx; (try dsimp only at hx); go_simp; try with_reducible rfl)
      try simp only [Act.put, List.setIfInBounds_toArray, List.set_cons_zero, List.set_cons_succ]
      refine hd_taken 1 (some 26) _ ?hdvb1 rfl rfl (by kernel_rfl) (fun _ _ _ h => h) (Or.inl ⟨by rfl, ?hdyb1⟩) hS ?hdrb1
      case hdyb1 => (intro wx hx; (try dsimp only at hx); go_simp; try with_reducible rfl)
      try simp only [Act.put, List.setIfInBounds_toArray, List.set_cons_zero, List.set_cons_succ]
      refine hd_taken 2 (some 27) _ ?hdvb2 rfl rfl (by kernel_rfl) (fun _ _ _ h => h) (Or.inl ⟨by rfl, ?hdyb2⟩) hS ?hdrb2
      case hdyb2 => (intro wx hx; (try dsimp only at hx); go_simp; try with_reducible rfl)
      try simp only [Act.put, List.setIfInBounds_toArray, List.set_cons_zero, List.set_cons_succ]
      refine hd_taken 3 (some 28) _ ?hdvb3 rfl rfl (by kernel_rfl) (fun _ _ _ h => h) (Or.inl ⟨by rfl, ?hdyb3⟩) hS ?hdrb3
      case hdyb3 => (intro wx hx; (try dsimp only at hx); go_simp; try with_reducible rfl)
      try simp only [Act.put, List.setIfInBounds_toArray, List.set_cons_zero, List.set_cons_succ]
      refine hd_taken 4 (some 29) _ ?hdvb4 rfl rfl (by kernel_rfl) (fun _ _ _ h => h) (Or.inl ⟨by rfl, ?hdyb4⟩) hS ?hdrb4
      case hdyb4 => (intro wx hx; (try dsimp only at hx); go_simp; try with_reducible rfl)
      try simp only [Act.put, List.setIfInBounds_toArray, List.set_cons_zero, List.set_cons_succ]
      refine hd_taken 5 (some 30) _ ?hdvb5 rfl rfl (by kernel_rfl) (fun _ _ _ h => h) (Or.inl ⟨by rfl, ?hdyb5⟩) hS ?hdrb5
      case hdyb5 => (intro wx hx; (try dsimp only at hx); go_simp; try with_reducible rfl)
      try simp only [Act.put, List.setIfInBounds_toArray, List.set_cons_zero, List.set_cons_succ]
      refine hd_taken 6 (some 31) _ ?hdvb6 rfl rfl (by kernel_rfl) (fun _ _ _ h => h) (Or.inl ⟨by rfl, ?hdyb6⟩) hS ?hdrb6
      case hdyb6 => (intro wx hx; (try dsimp only at hx); go_simp; try with_reducible rfl)
      try simp only [Act.put, List.setIfInBounds_toArray, List.set_cons_zero, List.set_cons_succ]
      refine hd_taken 7 (some 32) _ ?hdvb7 rfl rfl (by kernel_rfl) (fun _ _ _ h => h) (Or.inl ⟨by rfl, ?hdyb7⟩) hS ?hdrb7
      case hdyb7 => (intro wx hx; (try dsimp only at hx); go_simp; try with_reducible rfl)
      try simp only [Act.put, List.setIfInBounds_toArray, List.set_cons_zero, List.set_cons_succ]
      refine hd_taken 8 (some 33) _ ?hdvb8 rfl rfl (by kernel_rfl) (fun _ _ _ h => h) (Or.inl ⟨by rfl, ?hdyb8⟩) hS ?hdrb8
      case hdyb8 => (intro wx hx; (try dsimp only at hx); go_simp; try with_reducible rfl)
      try simp only [Act.put, List.setIfInBounds_toArray, List.set_cons_zero, List.set_cons_succ]
      refine hd_taken 9 (some 34) _ ?hdvb9 rfl rfl (by kernel_rfl) (fun _ _ _ h => h) (Or.inl ⟨by rfl, ?hdyb9⟩) hS ?hdrb9
      case hdyb9 => (intro wx hx; (try dsimp only at hx); go_simp; try with_reducible rfl)
      try simp only [Act.put, List.setIfInBounds_toArray, List.set_cons_zero, List.set_cons_succ]
      refine hd_taken 10 (some 35) _ ?hdvb10 rfl rfl (by kernel_rfl) (fun _ _ _ h => h) (Or.inl ⟨by rfl, ?hdyb10⟩) hS ?hdrb10
      case hdyb10 => (intro wx hx; (try dsimp only at hx); go_simp; try with_reducible rfl)
      try simp only [Act.put, List.setIfInBounds_toArray, List.set_cons_zero, List.set_cons_succ]
      refine hd_taken 11 (some 36) _ ?hdvb11 rfl rfl (by kernel_rfl) (fun _ _ _ h => h) (Or.inl ⟨by rfl, ?hdyb11⟩) hS ?hdrb11
      case hdyb11 => (intro wx hx; (try dsimp only at hx); go_simp; try with_reducible rfl)
      try simp only [Act.put, List.setIfInBounds_toArray, List.set_cons_zero, List.set_cons_succ]
      have bA := bd.alloc (Nat.le_refl _) (.cells #[.int .i32 (i : Nat)] 21)
      have k2 := (bA.cell (p := ⟨A.p, 2, none⟩) (World.block_lt_of_cell? w1 _ u2)).trans u2
      have k4 := (bA.cell (p := ⟨A.p, 4, none⟩) (World.block_lt_of_cell? w1 _ u4)).trans u4
      have kb := (bA.cell (p := ⟨A.b, s, none⟩) (World.block_lt_of_cell? w1 _ ub)).trans ub
      have hS2 : (fun wx : World => wx.cell? ⟨A.p, 2, none⟩ = some (.slice (some ⟨A.b, 0, none⟩) n n) ∧ wx.cell? ⟨A.p, 4, none⟩ = some (.slice pt C qt) ∧ wx.cell? ⟨A.b, s, none⟩ = some (.int .i32 (i : Nat))) (w1.drew.alloc (.cells #[.int .i32 (i : Nat)] 21)) := ⟨k2, k4, kb⟩
      refine hd_one 12 _ rfl (by kernel_rfl) (by decide) (fun K2 hK2 => ?_)
      go_simp
      refine hK2.out _ _ hS2 ?_
      clear hK2 K2 hS
      try simp only [Act.put, List.setIfInBounds_toArray, List.set_cons_zero, List.set_cons_succ]
      have PA := P1.out.below bA
      have kA := Blk.new w1.drew 21 #[.int .i32 (i : Nat)]
      have hcl2 : p.c.length ≤ 1000000000 := by have := HC.out; omega
      have zA : base ≤ (w1.drew.alloc (.cells #[.int .i32 (i : Nat)] 21)).heap.size := by have := HBQ.out.size; have := bA.size; omega
      refine hd_one 13 _ rfl (by kernel_rfl) (by decide) (fun K3 hK3 => ?_)
      refine step_append_blk (w := w1.drew.alloc (.cells #[.int .i32 (i : Nat)] 21)) (x := i) (by rfl) _ _ 79 (by rfl) base iM _ 4 Try.underlying79 hiM hzM hkM hbM (by omega) rfl (by omega) encM_len encM_one _ p.c (by rfl) (by rfl) PA.oc (by rfl) kA hcl2 zA ?_
      intro v7 w7 y1
      have P7 := PA.lieC y1
      have hS7 : (fun wx : World => wx.cell? ⟨A.p, 2, none⟩ = some (.slice (some ⟨A.b, 0, none⟩) n n) ∧ wx.cell? ⟨A.p, 4, none⟩ = some (.slice pt C qt) ∧ wx.cell? ⟨A.b, s, none⟩ = some (.int .i32 (i : Nat))) w7 := by
        obtain ⟨_, _, e3, _, _, _, _, e8, _⟩ := PA.ne
        have hf : Fr (fun k => (Value.slice pt C qt).ownBlock = some k) (w1.drew.alloc (.cells #[.int .i32 (i : Nat)] 21)) w7 := Fr.grown y1.2.2.1 (fun k e => e)
        exact ⟨P7.kp.cell 2, P7.kp.cell 4, by rw [P7.fb.cell hs, ← HI.out]; rfl⟩
      refine hK3.out _ _ hS7 ?_
      have FR7 : Fr (PX A (.slice (some ⟨g, 0, none⟩) L c) (.slice pt C qt)) w w7 := ((Fr.of_below HBQ.out).trans (Fr.of_below (X := fun _ => False) bA) (fun _ _ e => e.elim)).trans (Fr.grown (X := fun k => (Value.slice pt C qt).ownBlock = some k) y1.2.2.1 (fun k e => e)) (fun k _ e => .inr (.inr (.inr (.inr (.inr e)))))
      obtain ⟨p7, q7, hp7⟩ := lie_at y1
      obtain ⟨C7, hC7⟩ : ∃ C7, (p.c ++ [i]).length = C7 := ⟨_, rfl⟩
      rw [hC7] at hp7
      subst hp7
      have HOW : Hid (∀ k, (Value.slice p7 C7 q7).ownBlock = some k → (Value.slice pt C qt).ownBlock = some k ∨ w.heap.size ≤ k) := Lib.hid (fun k hk => by
        rcases y1.2.2.2 k hk with e | e
        · exact .inl e
        · right
          have := HBQ.out.size
          have := bA.size
          omega)
      have kc7 : w7.cell? ⟨A.p, 4, none⟩ = some (.slice pt C qt) := P7.kp.cell 4
      have kf7 := P7.kp.frozen 4
      have HP8 : Hid (PM (w7.setCell ⟨A.p, 4, none⟩ (.slice p7 C7 q7)) base A (.slice (some ⟨g, 0, none⟩) L c) (.slice p7 C7 q7) (.slice (some ⟨g, 0, none⟩) L c) (.slice p7 C7 q7) n ⟨p.o, p.q, p.b, p.l, p.c ++ [i]⟩ ∧ Fr (PX A (.slice (some ⟨g, 0, none⟩) L c) (.slice pt C qt)) w (w7.setCell ⟨A.p, 4, none⟩ (.slice p7 C7 q7))) := Lib.hid ⟨P7.put 4 _ _ _ rfl, FR7.trans (Fr.set (X := fun k => k = A.p) _ _ _ rfl) (fun k _ e => .inl e)⟩
      clear hK3 K3 kA y1 hS2 bA PA P7 hS7 FR7 hC7 k2 k4 kb bd
      try simp only [Act.put, List.setIfInBounds_toArray, List.set_cons_zero, List.set_cons_succ]
      refine hd_done (by kernel_rfl) ?_
      simp only [List.drop_succ_cons, List.drop_zero]
      go_wp2
      go_meet
      exact ⟨rfl, _, by rw [HCC.out]; exact HP8.out.1, HP8.out.2, HOW.out⟩
    · have HCC : Hid ((markP p s).c = p.c) := Lib.hid (by
        show (if (p.at_ (p.b s)).k = 0 then p.c ++ [p.b s] else p.c) = _
        rw [HI.out, HK.out, if_neg h0])
      have t : ((K : Int) == 0) = false := by rw [beq_eq_false_iff_ne]; omega
      have t' : (K == 0) = false := by rw [beq_eq_false_iff_ne]; exact h0
      clear h0
      go_wp2_with fail
      go_meet
      exact ⟨rfl, _, by rw [HCC.out]; exact P1.out, Fr.of_below HBQ.out, fun k e => .inl e⟩
  case rest =>
    rename World => w2
    obtain ⟨rfl, vt1, P2', F2', O2'⟩ := hcut
    have hbb : p.b s = i := HI.out
    have hYn : F + K < n := by omega
    obtain ⟨Y, hY⟩ : ∃ Y, F + K = Y := ⟨_, rfl⟩
    have HY := Lib.hid hY
    have d1 : IntKind.i32.wrap ((F : Int) + (K : Int)) = (Y : Int) := by rw [IntKind.wrap_i32]; omega
    have d2 : IntKind.i32.wrap ((K : Int) + 1) = ((K + 1 : Nat) : Int) := by rw [IntKind.wrap_i32]; omega
    rw [hY] at hYn
    obtain ⟨T, hT⟩ : ∃ T, p.o Y = T := ⟨_, rfl⟩
    have HT := Lib.hid hT
    have hTn : T < n := by rw [← hT]; exact (HPB.out.o_ Y hYn).1
    have HTN := Lib.hid hTn
    have hx9 : (x : Int) < (n : Int) := by omega
    have hY9 : (Y : Int) < (n : Int) := by omega
    have hT9 : (T : Int) < (n : Int) := by omega
    have hn0 : 0 < n := by omega
    clear hY hT hbb u2 u4 ub hf2
    have P2 := Lib.hid P2'
    have F2 := Lib.hid F2'
    have O2 := Lib.hid O2'
    obtain ⟨pt2, qt2, hvt2⟩ := P2'.oc.slice
    subst hvt2
    obtain ⟨C2, hC2⟩ : ∃ C2, (markP p s).c.length = C2 := ⟨_, rfl⟩
    rw [hC2] at P2 O2
    have HBK : Hid (∀ (wx : World) (P : Ptn), P.l = p.l → PM wx base A (.slice (some ⟨g, 0, none⟩) L c) (.slice pt2 C2 qt2) (.slice (some ⟨g, 0, none⟩) L c) (.slice pt2 C2 qt2) n P → wx.cell? ⟨g, i * 3, none⟩ = some (.int .i32 (F : Nat)) ∧ wx.cell? ⟨g, i * 3 + 2, none⟩ = some (.int .i32 (K : Nat)) ∧ wx.frozen? ⟨g, i * 3 + 2, none⟩ = false) := Lib.hid (fun wx P hP hPM => by
      obtain ⟨g', c', e1, e2, e3, e4, e5⟩ := hPM.bk (i := i) (by rw [hP, HL.out]; exact hil)
      injection e1 with e1 _ _
      injection e1 with e1
      injection e1 with e1 _
      subst e1
      have e6 : P.at_ i = p.at_ i := by unfold Ptn.at_; rw [hP]
      rw [e6, HF.out] at e2
      rw [e6, HK.out] at e4
      exact ⟨e2, e4, e5 _⟩)
    clear hC2 P2' F2' O2'
    obtain ⟨hf0, hf2, _⟩ := HBK.out _ ⟨p.o, p.q, p.b, p.l, (markP p s).c⟩ rfl P2.out
    have u0 : w2.cell? ⟨A.p, 0, none⟩ = some (.slice (some ⟨A.o, 0, none⟩) n n) := P2.out.kp.cell 0
    have u1 : w2.cell? ⟨A.p, 1, none⟩ = some (.slice (some ⟨A.q, 0, none⟩) n n) := P2.out.kp.cell 1
    have uq : w2.cell? ⟨A.q, s, none⟩ = some (.int .i32 (x : Nat)) := by rw [P2.out.fq.cell hs]; show some (Value.int .i32 (p.q s : Nat)) = _; rw [HX.out]
    have uo : w2.cell? ⟨A.o, Y, none⟩ = some (.int .i32 (T : Nat)) := by rw [P2.out.fo.cell hYn]; show some (Value.int .i32 (p.o Y : Nat)) = _; rw [HT.out]
    go_upto_region 3 with fail
    go_quiet (fail)
    go_upto_region 5 with fail
    have HQ3 := Lib.hid (below_drewN (Below.refl w2.heap.size w2) nq)
    obtain ⟨w3, hw3⟩ : ∃ w3, w2.drewN nq = w3 := ⟨_, rfl⟩
    rw [hw3] at HQ3 ⊢
    have P3 := Lib.hid (P2.out.below HQ3.out)
    have F3 := Lib.hid (F2.out.trans (Fr.of_below (X := fun _ => False) HQ3.out) (fun _ _ e => e.elim))
    clear hw3 hf0 hf2 u0 u1 uq uo P2 F2 HQ3
    have P3d := Lib.hid (P3.out.below (Below.refl _ w3).drew)
    have F3d := Lib.hid (F3.out.trans (Fr.of_below (X := fun _ => False) (Below.refl _ w3).drew) (fun _ _ e => e.elim))
    obtain ⟨wd, hwd⟩ : ∃ wd, w3.drew = wd := ⟨_, rfl⟩
    rw [hwd] at P3d F3d
    have u0 : wd.cell? ⟨A.p, 0, none⟩ = some (.slice (some ⟨A.o, 0, none⟩) n n) := P3d.out.kp.cell 0
    have q4 := P3d.out.setO (i := x) hxl T
    have c1 : wd.cell? ⟨A.o, x, none⟩ = some (i32F p.o x) := P3d.out.fo.cell hxl
    have z1 : wd.frozen? ⟨A.o, x, none⟩ = false := P3d.out.fo.frozen x
    have q5 := q4.setO (i := Y) hYn s
    have c2 : (wd.setCell ⟨A.o, x, none⟩ (.int .i32 (T : Nat))).cell? ⟨A.o, Y, none⟩ = some (i32F (up p.o x T) Y) := q4.fo.cell hYn
    have z2 : (wd.setCell ⟨A.o, x, none⟩ (.int .i32 (T : Nat))).frozen? ⟨A.o, Y, none⟩ = false := q4.fo.frozen Y
    have P5 : Hid (PM ((wd.setCell ⟨A.o, x, none⟩ (.int .i32 (T : Nat))).setCell ⟨A.o, Y, none⟩ (.int .i32 (s : Nat))) base A (.slice (some ⟨g, 0, none⟩) L c) (.slice pt2 C2 qt2) (.slice (some ⟨g, 0, none⟩) L c) (.slice pt2 C2 qt2) n ⟨up (up p.o x T) Y s, p.q, p.b, p.l, (markP p s).c⟩) := Lib.hid q5
    have F5 : Hid (Fr (PX A (.slice (some ⟨g, 0, none⟩) L c) (.slice pt C qt)) w ((wd.setCell ⟨A.o, x, none⟩ (.int .i32 (T : Nat))).setCell ⟨A.o, Y, none⟩ (.int .i32 (s : Nat)))) := Lib.hid ((F3d.out.trans (Fr.set (X := fun k => k = A.o) _ _ _ rfl) (fun k _ e => .inr (.inl e))).trans (Fr.set (X := fun k => k = A.o) _ _ _ rfl) (fun k _ e => .inr (.inl e)))
    have hS : (fun wx : World => wx.cell? ⟨A.p, 0, none⟩ = some (.slice (some ⟨A.o, 0, none⟩) n n)) wd := u0
    have hS2 : (fun wx : World => wx.cell? ⟨A.p, 0, none⟩ = some (.slice (some ⟨A.o, 0, none⟩) n n)) (wd.setCell ⟨A.o, x, none⟩ (.int .i32 (T : Nat))) := q4.kp.cell 0
    clear q4 q5
    refine region_hd 14 (fun wx : World => wx.cell? ⟨A.p, 0, none⟩ = some (.slice (some ⟨A.o, 0, none⟩) n n)) (by kernel_rfl) (by kernel_rfl) ?_
    rw [hwd]
    refine hd_taken 0 (some 64) _ ?hdv0 rfl rfl (by kernel_rfl) (fun _ _ _ h => h) (Or.inl ⟨by rfl, ?hdy0⟩) hS ?hdr0
    case hdy0 => (intro wx hx; (try dsimp only at hx); go_simp; try with_reducible rfl)
    try simp only [Act.put, List.setIfInBounds_toArray, List.set_cons_zero, List.set_cons_succ]
    refine hd_taken 1 (some 65) _ ?hdv1 rfl rfl (by kernel_rfl) (fun _ _ _ h => h) (Or.inl ⟨by rfl, ?hdy1⟩) hS ?hdr1
    case hdy1 => (intro wx hx; (try dsimp only at hx); go_simp; try with_reducible rfl)
    try simp only [Act.put, List.setIfInBounds_toArray, List.set_cons_zero, List.set_cons_succ]
    refine hd_taken 2 (some 66) _ ?hdv2 rfl rfl (by kernel_rfl) (fun _ _ _ h => h) (Or.inl ⟨by rfl, ?hdy2⟩) hS ?hdr2
    case hdy2 => (intro wx hx; (try dsimp only at hx); go_simp; try with_reducible rfl)
    try simp only [Act.put, List.setIfInBounds_toArray, List.set_cons_zero, List.set_cons_succ]
    refine hd_taken 3 (some 67) _ ?hdv3 rfl rfl (by kernel_rfl) (fun _ _ _ h => h) (Or.inl ⟨by rfl, ?hdy3⟩) hS ?hdr3
    case hdy3 => (intro wx hx; (try dsimp only at hx); go_simp; try with_reducible rfl)
    try simp only [Act.put, List.setIfInBounds_toArray, List.set_cons_zero, List.set_cons_succ]
    refine hd_taken 4 (some 68) _ ?hdv4 rfl rfl (by kernel_rfl) (fun _ _ _ h => h) (Or.inl ⟨by rfl, ?hdy4⟩) hS ?hdr4
    case hdy4 => (intro wx hx; (try dsimp only at hx); go_simp; try with_reducible rfl)
    try simp only [Act.put, List.setIfInBounds_toArray, List.set_cons_zero, List.set_cons_succ]
    refine hd_taken 5 (some 69) _ ?hdv5 rfl rfl (by kernel_rfl) (fun _ _ _ h => h) (Or.inl ⟨by rfl, ?hdy5⟩) hS ?hdr5
    case hdy5 => (intro wx hx; (try dsimp only at hx); go_simp; try with_reducible rfl)
    try simp only [Act.put, List.setIfInBounds_toArray, List.set_cons_zero, List.set_cons_succ]
    refine hd_taken 6 (some 70) _ ?hdv6 rfl rfl (by kernel_rfl) (fun _ _ _ h => h) (Or.inl ⟨by rfl, ?hdy6⟩) hS ?hdr6
    case hdy6 => (intro wx hx; (try dsimp only at hx); go_simp; try with_reducible rfl)
    try simp only [Act.put, List.setIfInBounds_toArray, List.set_cons_zero, List.set_cons_succ]
    refine hd_taken 7 (some 71) _ ?hdv7 rfl rfl (by kernel_rfl) (fun _ _ _ h => h) (Or.inl ⟨by rfl, ?hdy7⟩) hS ?hdr7
    case hdy7 => (intro wx hx; (try dsimp only at hx); go_simp; try with_reducible rfl)
    try simp only [Act.put, List.setIfInBounds_toArray, List.set_cons_zero, List.set_cons_succ]
    refine hd_taken 8 (some 72) _ ?hdv8 rfl rfl (by kernel_rfl) (fun _ _ _ h => h) (Or.inl ⟨by rfl, ?hdy8⟩) hS ?hdr8
    case hdy8 => (intro wx hx; (try dsimp only at hx); go_simp; try with_reducible rfl)
    try simp only [Act.put, List.setIfInBounds_toArray, List.set_cons_zero, List.set_cons_succ]
    refine hd_taken 9 (some 73) _ ?hdv9 rfl rfl (by kernel_rfl) (fun _ _ _ h => h) (Or.inl ⟨by rfl, ?hdy9⟩) hS ?hdr9
    case hdy9 => (intro wx hx; (try dsimp only at hx); go_simp; try with_reducible rfl)
    try simp only [Act.put, List.setIfInBounds_toArray, List.set_cons_zero, List.set_cons_succ]
    refine hd_taken 10 (some 74) _ ?hdv10 rfl rfl (by kernel_rfl) (fun _ _ _ h => h) (Or.inl ⟨by rfl, ?hdy10⟩) hS ?hdr10
    case hdy10 => (intro wx hx; (try dsimp only at hx); go_simp; try with_reducible rfl)
    try simp only [Act.put, List.setIfInBounds_toArray, List.set_cons_zero, List.set_cons_succ]
    refine hd_taken 11 (some 75) _ ?hdv11 rfl rfl (by kernel_rfl) (fun _ _ _ h => h) (Or.inl ⟨by rfl, ?hdy11⟩) hS ?hdr11
    case hdy11 => (intro wx hx; (try dsimp only at hx); go_simp; try with_reducible rfl)
    try simp only [Act.put, List.setIfInBounds_toArray, List.set_cons_zero, List.set_cons_succ]
    refine hd_taken 12 (some 76) _ ?hdv12 rfl rfl (by kernel_rfl) (fun _ _ _ h => h) (Or.inl ⟨by rfl, ?hdy12⟩) hS ?hdr12
    case hdy12 => (intro wx hx; (try dsimp only at hx); go_simp; try with_reducible rfl)
    try simp only [Act.put, List.setIfInBounds_toArray, List.set_cons_zero, List.set_cons_succ]
    refine hd_one 13 _ rfl (by kernel_rfl) (by decide) (fun K2 hK2 => ?_)
    go_simp
    refine hK2.out _ _ hS2 ?_
    obtain ⟨w4, hw4⟩ : ∃ w4, wd.setCell ⟨A.o, x, none⟩ (.int .i32 (T : Nat)) = w4 := ⟨_, rfl⟩
    rw [hw4] at c2 z2 P5 F5 ⊢
    clear hK2 K2 hS c1 z1 hw4 hS2 u0
    try simp only [Act.put, List.setIfInBounds_toArray, List.set_cons_zero, List.set_cons_succ]
    refine hd_done (by kernel_rfl) ?_
    simp only [List.drop_succ_cons, List.drop_zero]
    go_upto_region 6 with fail
    obtain ⟨w5, hw5⟩ : ∃ w5, w4.setCell ⟨A.o, Y, none⟩ (.int .i32 (s : Nat)) = w5 := ⟨_, rfl⟩
    rw [hw5] at P5 F5 ⊢
    clear hw5 c2 z2
    have P6d := Lib.hid (P5.out.below (Below.refl _ w5).drew)
    have F6d := Lib.hid (F5.out.trans (Fr.of_below (X := fun _ => False) (Below.refl _ w5).drew) (fun _ _ e => e.elim))
    obtain ⟨we, hwe⟩ : ∃ we, w5.drew = we := ⟨_, rfl⟩
    rw [hwe] at P6d F6d
    have u0 : we.cell? ⟨A.p, 1, none⟩ = some (.slice (some ⟨A.q, 0, none⟩) n n) := P6d.out.kp.cell 1
    have q4 := P6d.out.setQ (i := T) HTN.out x
    have c1 : we.cell? ⟨A.q, T, none⟩ = some (i32F p.q T) := P6d.out.fq.cell HTN.out
    have z1 : we.frozen? ⟨A.q, T, none⟩ = false := P6d.out.fq.frozen T
    have q5 := q4.setQ (i := s) hs Y
    have c2 : (we.setCell ⟨A.q, T, none⟩ (.int .i32 (x : Nat))).cell? ⟨A.q, s, none⟩ = some (i32F (up p.q T x) s) := q4.fq.cell hs
    have z2 : (we.setCell ⟨A.q, T, none⟩ (.int .i32 (x : Nat))).frozen? ⟨A.q, s, none⟩ = false := q4.fq.frozen s
    have P7 : Hid (PM ((we.setCell ⟨A.q, T, none⟩ (.int .i32 (x : Nat))).setCell ⟨A.q, s, none⟩ (.int .i32 (Y : Nat))) base A (.slice (some ⟨g, 0, none⟩) L c) (.slice pt2 C2 qt2) (.slice (some ⟨g, 0, none⟩) L c) (.slice pt2 C2 qt2) n ⟨up (up p.o x T) Y s, up (up p.q T x) s Y, p.b, p.l, (markP p s).c⟩) := Lib.hid q5
    have F7 : Hid (Fr (PX A (.slice (some ⟨g, 0, none⟩) L c) (.slice pt C qt)) w ((we.setCell ⟨A.q, T, none⟩ (.int .i32 (x : Nat))).setCell ⟨A.q, s, none⟩ (.int .i32 (Y : Nat)))) := Lib.hid ((F6d.out.trans (Fr.set (X := fun k => k = A.q) _ _ _ rfl) (fun k _ e => .inr (.inr (.inl e)))).trans (Fr.set (X := fun k => k = A.q) _ _ _ rfl) (fun k _ e => .inr (.inr (.inl e))))
    have hS : (fun wx : World => wx.cell? ⟨A.p, 1, none⟩ = some (.slice (some ⟨A.q, 0, none⟩) n n)) we := u0
    have hS2 : (fun wx : World => wx.cell? ⟨A.p, 1, none⟩ = some (.slice (some ⟨A.q, 0, none⟩) n n)) (we.setCell ⟨A.q, T, none⟩ (.int .i32 (x : Nat))) := q4.kp.cell 1
    clear q4 q5
    refine region_hd 14 (fun wx : World => wx.cell? ⟨A.p, 1, none⟩ = some (.slice (some ⟨A.q, 0, none⟩) n n)) (by kernel_rfl) (by kernel_rfl) ?_
    rw [hwe]
    refine hd_taken 0 (some 78) _ ?hdva0 rfl rfl (by kernel_rfl) (fun _ _ _ h => h) (Or.inl ⟨by rfl, ?hdya0⟩) hS ?hdra0
    case hdya0 => (intro wx hx; (try dsimp only at hx); go_simp; try with_reducible rfl)
    try simp only [Act.put, List.setIfInBounds_toArray, List.set_cons_zero, List.set_cons_succ]
    refine hd_taken 1 (some 79) _ ?hdva1 rfl rfl (by kernel_rfl) (fun _ _ _ h => h) (Or.inl ⟨by rfl, ?hdya1⟩) hS ?hdra1
    case hdya1 => (intro wx hx; (try dsimp only at hx); go_simp; try with_reducible rfl)
    try simp only [Act.put, List.setIfInBounds_toArray, List.set_cons_zero, List.set_cons_succ]
    refine hd_taken 2 (some 80) _ ?hdva2 rfl rfl (by kernel_rfl) (fun _ _ _ h => h) (Or.inl ⟨by rfl, ?hdya2⟩) hS ?hdra2
    case hdya2 => (intro wx hx; (try dsimp only at hx); go_simp; try with_reducible rfl)
    try simp only [Act.put, List.setIfInBounds_toArray, List.set_cons_zero, List.set_cons_succ]
    refine hd_taken 3 (some 81) _ ?hdva3 rfl rfl (by kernel_rfl) (fun _ _ _ h => h) (Or.inl ⟨by rfl, ?hdya3⟩) hS ?hdra3
    case hdya3 => (intro wx hx; (try dsimp only at hx); go_simp; try with_reducible rfl)
    try simp only [Act.put, List.setIfInBounds_toArray, List.set_cons_zero, List.set_cons_succ]
    refine hd_taken 4 (some 82) _ ?hdva4 rfl rfl (by kernel_rfl) (fun _ _ _ h => h) (Or.inl ⟨by rfl, ?hdya4⟩) hS ?hdra4
    case hdya4 => (intro wx hx; (try dsimp only at hx); go_simp; try with_reducible rfl)
    try simp only [Act.put, List.setIfInBounds_toArray, List.set_cons_zero, List.set_cons_succ]
    refine hd_taken 5 (some 83) _ ?hdva5 rfl rfl (by kernel_rfl) (fun _ _ _ h => h) (Or.inl ⟨by rfl, ?hdya5⟩) hS ?hdra5
    case hdya5 => (intro wx hx; (try dsimp only at hx); go_simp; try with_reducible rfl)
    try simp only [Act.put, List.setIfInBounds_toArray, List.set_cons_zero, List.set_cons_succ]
    refine hd_taken 6 (some 84) _ ?hdva6 rfl rfl (by kernel_rfl) (fun _ _ _ h => h) (Or.inl ⟨by rfl, ?hdya6⟩) hS ?hdra6
    case hdya6 => (intro wx hx; (try dsimp only at hx); go_simp; try with_reducible rfl)
    try simp only [Act.put, List.setIfInBounds_toArray, List.set_cons_zero, List.set_cons_succ]
    refine hd_taken 7 (some 85) _ ?hdva7 rfl rfl (by kernel_rfl) (fun _ _ _ h => h) (Or.inl ⟨by rfl, ?hdya7⟩) hS ?hdra7
    case hdya7 => (intro wx hx; (try dsimp only at hx); go_simp; try with_reducible rfl)
    try simp only [Act.put, List.setIfInBounds_toArray, List.set_cons_zero, List.set_cons_succ]
    refine hd_taken 8 (some 86) _ ?hdva8 rfl rfl (by kernel_rfl) (fun _ _ _ h => h) (Or.inl ⟨by rfl, ?hdya8⟩) hS ?hdra8
    case hdya8 => (intro wx hx; (try dsimp only at hx); go_simp; try with_reducible rfl)
    try simp only [Act.put, List.setIfInBounds_toArray, List.set_cons_zero, List.set_cons_succ]
    refine hd_taken 9 (some 87) _ ?hdva9 rfl rfl (by kernel_rfl) (fun _ _ _ h => h) (Or.inl ⟨by rfl, ?hdya9⟩) hS ?hdra9
    case hdya9 => (intro wx hx; (try dsimp only at hx); go_simp; try with_reducible rfl)
    try simp only [Act.put, List.setIfInBounds_toArray, List.set_cons_zero, List.set_cons_succ]
    refine hd_taken 10 (some 88) _ ?hdva10 rfl rfl (by kernel_rfl) (fun _ _ _ h => h) (Or.inl ⟨by rfl, ?hdya10⟩) hS ?hdra10
    case hdya10 => (intro wx hx; (try dsimp only at hx); go_simp; try with_reducible rfl)
    try simp only [Act.put, List.setIfInBounds_toArray, List.set_cons_zero, List.set_cons_succ]
    refine hd_taken 11 (some 89) _ ?hdva11 rfl rfl (by kernel_rfl) (fun _ _ _ h => h) (Or.inl ⟨by rfl, ?hdya11⟩) hS ?hdra11
    case hdya11 => (intro wx hx; (try dsimp only at hx); go_simp; try with_reducible rfl)
    try simp only [Act.put, List.setIfInBounds_toArray, List.set_cons_zero, List.set_cons_succ]
    refine hd_taken 12 (some 90) _ ?hdva12 rfl rfl (by kernel_rfl) (fun _ _ _ h => h) (Or.inl ⟨by rfl, ?hdya12⟩) hS ?hdra12
    case hdya12 => (intro wx hx; (try dsimp only at hx); go_simp; try with_reducible rfl)
    try simp only [Act.put, List.setIfInBounds_toArray, List.set_cons_zero, List.set_cons_succ]
    refine hd_one 13 _ rfl (by kernel_rfl) (by decide) (fun K2 hK2 => ?_)
    go_simp
    refine hK2.out _ _ hS2 ?_
    obtain ⟨w6, hw6⟩ : ∃ w6, we.setCell ⟨A.q, T, none⟩ (.int .i32 (x : Nat)) = w6 := ⟨_, rfl⟩
    rw [hw6] at c2 z2 P7 F7 ⊢
    clear hK2 K2 hS c1 z1 hw6 hS2 u0 hwe P6d F6d
    try simp only [Act.put, List.setIfInBounds_toArray, List.set_cons_zero, List.set_cons_succ]
    refine hd_done (by kernel_rfl) ?_
    simp only [List.drop_succ_cons, List.drop_zero]
    go_upto_region 7 with fail
    obtain ⟨w7, hw7⟩ : ∃ w7, w6.setCell ⟨A.q, s, none⟩ (.int .i32 (Y : Nat)) = w7 := ⟨_, rfl⟩
    rw [hw7] at P7 F7 ⊢
    clear hw7 c2 z2
    obtain ⟨_, hf2, hz2⟩ := HBK.out _ ⟨up (up p.o x T) Y s, up (up p.q T x) s Y, p.b, p.l, (markP p s).c⟩ rfl P7.out
    have HP8 := Lib.hid (P7.out.setK (i := i) (j := 2) (g := g) (c := c) (by show i < p.l.length; rw [HL.out]; exact hil) (by omega) (by show _ = Value.slice _ p.l.length _; rw [HL.out]) ⟨F, U, K + 1⟩ (.int .i32 ((K + 1 : Nat) : Int)) (by
      show (encK (p.at_ i)).set 2 _ = _
      unfold encK
      rw [HF.out, HU.out]
      rfl))
    have HFIN : Hid (MarkR w base A (.slice (some ⟨g, 0, none⟩) L c) (.slice pt C qt) n (markP p s) (.returned (.tuple #[])) (w7.setCell ⟨g, i * 3 + 2, none⟩ (.int .i32 ((K + 1 : Nat) : Int)))) := Lib.hid (by
      refine ⟨_, rfl, ?_, F7.out.trans (Fr.set (X := fun k => k = g) _ _ _ rfl) (fun k _ e => .inr (.inr (.inr (.inr (.inl (by rw [e]; rfl)))))), O2.out⟩
      have e1 : (markP p s).o = up (up p.o x T) Y s := by
        show up (up p.o (p.q s) (p.o ((p.at_ (p.b s)).f + (p.at_ (p.b s)).k))) ((p.at_ (p.b s)).f + (p.at_ (p.b s)).k) s = _
        rw [HX.out, HI.out, HF.out, HK.out, HY.out, HT.out]
      have e2 : (markP p s).q = up (up p.q T x) s Y := by
        show up (up p.q (p.o ((p.at_ (p.b s)).f + (p.at_ (p.b s)).k)) (p.q s)) s ((p.at_ (p.b s)).f + (p.at_ (p.b s)).k) = _
        rw [HX.out, HI.out, HF.out, HK.out, HY.out, HT.out]
      have e3 : (markP p s).l = p.l.set i ⟨F, U, K + 1⟩ := by
        show p.l.set (p.b s) ⟨(p.at_ (p.b s)).f, (p.at_ (p.b s)).t, (p.at_ (p.b s)).k + 1⟩ = _
        rw [HI.out, HF.out, HU.out, HK.out]
      have := HP8.out
      rw [← e1, ← e2, ← e3] at this
      exact this)
    go_wp2
    (try simp only [Exit.inBlock, Exit.then])
    refine bodyPost_end (results_none rfl _ _ _) rfl ?_
    rw [show ((K : Int) + 1) = ((K + 1 : Nat) : Int) by omega, HL.out, HC.out]
    exact HFIN.out
end Go.Proofs.Ytiljagfjgefnnaa
