/- What the row stands on, part 25. -/
import Derived.Test.YtpmmchppfmojhaaGreatDoorQ24

/- Of the program of layer 11: Tokens, whose list is the call's own. -/
namespace Go.Proofs.YtpmmchppfmojhaaGreatDoor
open Go.RowKit Go.Shelf
set_option linter.unusedVariables false
attribute [local go_sem] Oper.semAt_some

def TokPO (T : List Tok × Nat × Nat) (w : World) (e : Ending) (w' : World) : Prop :=
  ∃ v, e = .returned (.tuple #[v, .int .i64 (T.2.1 : Int), .int .i64 (T.2.2 : Int)]) ∧ Own1 3 encTk w' w.heap.size 84 v T.1 ∧ Below w.heap.size w w'
set_option maxRecDepth 1000000 in
set_option maxHeartbeats 8000000 in
theorem tokensO_any (s : ByteArray) (w : World) (hs : s.size ≤ 10000000) (E : Env w) :
    Calls Tryz.prog 46 #[.string s] w (TokPO (rT (toks s.data.toList)) w) := by
  obtain ⟨i0, hi, hz0, hz1, hz2⟩ := info_partsT Tryz.infoTP
  have HS := Lib.hid hs
  have HE := Lib.hid E
  obtain ⟨T, hT⟩ : ∃ T, toks s.data.toList = T := ⟨_, rfl⟩
  have HT := Lib.hid hT
  rw [hT]
  clear hs E hT
  refine (callsIn_wide (n := 8)).1 ?_
  have hf : Fence.wide.fn 46 := trivial
  have hfA : Fence.wide.fn 103 := trivial
  have hro : Fence.wide.round = none := rfl
  refine callsIn_of_wp_marks Tryz.func46 rfl hf ?_ hro
  simp only [Tryz.ntmps46, List.size_toArray, List.length_cons, List.length_nil, Nat.reduceAdd, Nat.reduceSub, Array.replicate_succ, Array.replicate_zero, List.push_toArray, List.append_toArray, List.nil_append, List.cons_append]
  gi_wp2_with fail
  refine (callsIn_wide.2 (tokensF_any s _)).mono ?_
  rintro e w' ⟨rfl, rfl⟩
  gi_wp2_with fail
  obtain ⟨W0, hW0⟩ : ∃ W0, (((w.alloc (.cells #[.slice none 0 0] 80)).alloc (.cells #[.int .i64 0] 3)).alloc (.cells #[.int .i64 0] 29)).alloc (.cells #[.string s] 9) = W0 := ⟨_, rfl⟩
  obtain ⟨g, hg⟩ : ∃ g, w.heap.size = g := ⟨_, rfl⟩
  have z0 : W0.heap.size = g + 4 := by rw [← hW0, ← hg]; simp
  have kb : Below g w W0 := by rw [← hW0, ← hg]; exact ((((Below.refl _ w).alloc (Nat.le_refl _) _).alloc (by simp) _).alloc (by simp; omega) _).alloc (by simp; omega) _
  have k0 : Boxed W0 g 80 (.slice none 0 0) := by rw [← hW0, ← hg]; exact (((Boxed.new w _ _).alloc _).alloc _).alloc _
  have k1 : Blk (g + 1) 3 #[.int .i64 0] W0 := by
    rw [← hW0, ← hg]
    have := Blk.new (w.alloc (.cells #[.slice none 0 0] 80)) 3 #[.int .i64 0]
    rw [World.size_alloc] at this
    exact (this.alloc _).alloc _
  have k2 : Blk (g + 2) 29 #[.int .i64 0] W0 := by
    rw [← hW0, ← hg]
    have := Blk.new ((w.alloc (.cells #[.slice none 0 0] 80)).alloc (.cells #[.int .i64 0] 3)) 29 #[.int .i64 0]
    rw [World.size_alloc, World.size_alloc] at this
    exact this.alloc _
  have k3 : Blk (g + 3) 9 #[.string s] W0 := by
    rw [← hW0, ← hg]
    have := Blk.new (((w.alloc (.cells #[.slice none 0 0] 80)).alloc (.cells #[.int .i64 0] 3)).alloc (.cells #[.int .i64 0] 29)) 9 #[.string s]
    rw [World.size_alloc, World.size_alloc, World.size_alloc] at this
    exact this
  have henv : ∀ W', Bt (g + 4) g W0 W' → Env W' := fun W' h => HE.out.below (by rw [hg]; exact kb.trans (below_bt h (by omega) (Nat.le_refl _)))
  have HG := Lib.hid hg
  rw [hW0, hg]
  simp only [Nat.add_assoc, Nat.reduceAdd]
  have hf2 : Fence.wide.fn 155 := trivial
  refine wpIn_rangeFunc_ownH hro (by omega) (gf := 155) (lb := #[.pointer (some ⟨g + 3, 0, none⟩)]) rfl hf2 (enters_of Tryz.func155 (by kernel_rfl) rfl)
    (tokens_stops _ (by omega) (g + 3) (g + 4) g s HS.out W0 (by omega) (by omega) (by omega) henv k3) Bt.trans (bt_b (by omega)) (Below.refl _ _) (fun _ => rfl)
    (TkIn s g (g + 4) w) (TkEx g w)
    (OwnFrom.and (Own.from (fun pre A B row hs hgr hr => ⟨hs.1, holdsRow_own (g + 4) g 80 84 3 (fun pre : List Yd => pre.length) (fun pre : List Yd => pre.flatMap encY) (fun _ _ => True) pre A B row hs.2.1 hgr hr, yblk_own _ _ (fun _ => _) () A B row hs.2.2.1 hgr hr, yblk_own _ _ (fun _ => _) () A B row hs.2.2.2.1 hgr hr, yblk_own _ _ (fun _ => _) () A B row hs.2.2.2.2 hgr hr⟩) _) (ownFrom_below (by omega) (by omega)))
    (fun c => OwnFrom.and (Own.from (fun pre A B row hs hgr hr => by
      obtain ⟨hc, q, x, h1, h2, h3, b1, b2, b3⟩ := hs
      exact ⟨hc, q, x, h1, h2, h3, yblk_own _ _ (fun _ => _) () A B row b1 hgr hr, yblk_own _ _ (fun _ => _) () A B row b2 hgr hr, yblk_own _ _ (fun _ => _) () A B row b3 hgr hr⟩) _) (ownFrom_below (by omega) (by omega)))
    ⟨⟨(fun y h => by cases h), ⟨_, k0, World.ownsRow_nil _ _ _ _, trivial⟩, k1, k2, k3⟩, kb⟩
    (fun x a' W => ∃ Bx, g + 4 ≤ Bx ∧ Blk Bx 84 #[.int .i64 x.kd, .string x.X, .int .i64 x.a] W ∧ a' = { tmps := #[.string s, undef, .pointer (some ⟨g, 0, none⟩), .pointer (some ⟨g + 1, 0, none⟩), .pointer (some ⟨g + 2, 0, none⟩), .pointer (some ⟨Bx, 0, none⟩), .int .i64 x.e, .string s, .func (.func 155) #[] #[.pointer (some ⟨g + 3, 0, none⟩)], .agg #[.int .i64 x.kd, .string x.X, .int .i64 x.a], .int .i64 x.e, undef, undef, undef, undef, undef, undef, undef, undef, undef, undef], defers := [] })
    (fun x a' => Own.from (fun _ A B row hs hgr hr => by
      obtain ⟨Bx, h1, h2, h3⟩ := hs
      exact ⟨Bx, h1, yblk_own _ _ (fun _ => _) () A B row h2 hgr hr, h3⟩) _) ?assign ?body ?done ?stop
  case assign =>
    rintro l pre x W K ⟨⟨h1, ⟨v, hv, hrow, _⟩, b1, b2, b3⟩, hB⟩ hK
    have hz4 : g + 4 ≤ W.heap.size := b3.lt
    have hz5 : g ≤ W.heap.size := by omega
    dsimp only [ydV]
    gi_wp2
    exact hK _ _ ((KeepsOthers.alloc _ _).from _) (bt_alloc (Bt.refl _ _ _) hz4 _) ⟨⟨h1, ⟨v, hv.alloc _, hrow.alloc _, trivial⟩, b1.alloc _, b2.alloc _, b3.alloc _⟩, hB.alloc hz5 _⟩ ⟨W.heap.size, hz4, Blk.new _ _ _, rfl⟩
  case body =>
    rintro l pre x a' W hl ⟨r, hr⟩ ⟨⟨hgd, ⟨v, hv, hrow, _⟩, b1, b2, b3⟩, hB⟩ ⟨Bx, hBx, bX, rfl⟩ hlt
    have hz4 : g + 4 ≤ W.heap.size := b3.lt
    have x0 : W.cell? ⟨Bx, 0, none⟩ = some (.int .i64 x.kd) := bX.cell 0
    have x1 : W.cell? ⟨Bx, 1, none⟩ = some (.string x.X) := bX.cell 1
    have x2 : W.cell? ⟨Bx, 2, none⟩ = some (.int .i64 x.a) := bX.cell 2
    have hc := hv.cell
    have f0 := hv.frozen
    have hsz := HS.out
    have HR0 := Lib.hid hr
    have HGD := Lib.hid hgd
    have HB1 := Lib.hid b1
    have HB2 := Lib.hid b2
    have HB3 := Lib.hid b3
    have HBB := Lib.hid hB
    clear hr hgd hB k0 k1 k2 k3 kb henv hW0
    by_cases he : x.e = 0
    · have z1 : (x.e != 0) = false := by rw [he]; rfl
      have z2 : (x.e == 0) = true := by rw [he]; rfl
      have hone : ∀ u ∈ [Value.int .i64 x.kd, .string x.X, .int .i64 x.a], u.oneCell' = true := by intro u hu; simp at hu; rcases hu with rfl | rfl | rfl <;> rfl
      have HE0 := Lib.hid he
      clear he b1 b2 b3
      gi_wp2_with (gi_at_builtin; refine wpListIn_append_own _ rfl _ _ 80 rfl (g + 4) 84 i0 (.agg #[.int .i64 0, .string ⟨#[]⟩, .int .i64 0]) 3 32 Tryz.underlying80 hi hz0 hz1 hz2 rfl (by decide) _ _ _ rfl (hrow.alloc _) ⟨W.heap.size, 0, none⟩ 1 1 [.int .i64 x.kd, .string x.X, .int .i64 x.a] rfl rfl (cells_new _ _ _) hone (by unfold maxLen; omega) (by omega) (by simp; omega) ?_; intro v' w1 hown' hgrow _; obtain ⟨g', cap', rfl⟩ := ownsRow_succ hown'; obtain ⟨hv1, hv2, hr2, hk2, hb2⟩ := boxed_appended hv (by decide) hrow hz4 hown' hgrow; have hc1 := hv1.cell; have hf1 := hv1.frozen)
      refine ⟨hk2.from _, hb2, ⟨?_, ⟨_, hv2, ?_, trivial⟩, Blk.bt HB1.out hb2 (by omega) (by omega), Blk.bt HB2.out hb2 (by omega) (by omega), Blk.bt HB3.out hb2 (by omega) (by omega)⟩, HBB.out.trans (below_bt hb2 (by omega) (Nat.le_refl _))⟩
      · intro y hy
        rcases List.mem_append.1 hy with h | h
        · exact HGD.out y h
        · obtain rfl := List.mem_singleton.1 h; exact HE0.out
      · rw [List.length_append, List.flatMap_append, List.flatMap_cons, List.flatMap_nil, List.append_nil]
        exact hr2
    · have z1 : (x.e != 0) = true := by rw [bne_iff_ne]; exact he
      have z2 : (x.e == 0) = false := by rw [beq_eq_false_iff_ne]; exact he
      have HE0 := Lib.hid he
      have r1 : W.cell? ⟨g + 1, 0, none⟩ = some (.int .i64 0) := b1.cell 0
      have r2 : W.cell? ⟨g + 2, 0, none⟩ = some (.int .i64 0) := b2.cell 0
      have f1 := b1.frozen 0
      have f2 := b2.frozen 0
      have HOK := Lib.hid (set3_ok (a := .slice none 0 0) (b := .int .i64 x.a) (c := .int .i64 x.e) hv b1 b2)
      clear he b1 b2 b3 hrow hv
      gi_wp2
      gi_region
      all_goals gi_wp2
      all_goals exact ⟨(HOK.out.2.2.2.1.trans (keeps_drewN _ 1)).from _, ⟨rfl, pre, x, rfl, HGD.out, HE0.out, HOK.out.1, HOK.out.2.1, HOK.out.2.2.1⟩, HBB.out.trans (below_drewN HOK.out.2.2.2.2.1 1)⟩
  case done =>
    rintro D ys W hD hS ⟨⟨hgd, ⟨v, hv, hrow, _⟩, b1, b2, b3⟩, hB⟩ hK
    obtain ⟨hTT, hnn⟩ := hS hgd
    have hz4 : g + 4 ≤ W.heap.size := b3.lt
    have hown : Own1 3 encTk W (g + 4) 84 v (ys.map Yd.tk) := by
      unfold Own1
      rw [List.length_map, ← flat_enc ys hnn]
      exact hrow
    obtain ⟨a, c, hvv⟩ := hown.slice
    rw [List.length_map] at hvv
    subst hvv
    have HOK := Lib.hid (set3_ok (a := .slice a ys.length c) (b := .int .i64 0) (c := .int .i64 0) hv b1 b2)
    have HOW := Lib.hid hown
    have HBB := Lib.hid hB
    have HKK := Lib.hid hK
    have HTT := Lib.hid hTT
    have r0 := hv.cell
    have f0 := hv.frozen
    have r1 : W.cell? ⟨g + 1, 0, none⟩ = some (.int .i64 0) := b1.cell 0
    have r2 : W.cell? ⟨g + 2, 0, none⟩ = some (.int .i64 0) := b2.cell 0
    have f1 := b1.frozen 0
    have f2 := b2.frozen 0
    obtain ⟨yn, hyn⟩ : ∃ n, ys.length = n := ⟨_, rfl⟩
    rw [hyn] at HOK HOW r0
    clear hK hTT hnn hS hv hrow b1 b2 b3 hB hown hyn k0 k1 k2 k3 kb henv hW0
    gi_wp2
    have hK' := HOK.out.2.2.2.1.same D _ HKK.out rfl
    refine ⟨by simp, .inl ⟨_, _, rfl, run_takeDeferred hK', ?_⟩⟩
    have g0 : _ = some (Value.slice a yn c) := (yblk_putObj HOK.out.1 hK' rfl (.deferred none)).cell 0
    have g1 : _ = some (Value.int .i64 0) := (yblk_putObj HOK.out.2.1 hK' rfl (.deferred none)).cell 0
    have g2 : _ = some (Value.int .i64 0) := (yblk_putObj HOK.out.2.2.1 hK' rfl (.deferred none)).cell 0
    refine ⟨_, res_Tokens rfl rfl rfl g0 g1 g2, ?_⟩
    rw [← HT.out, HTT.out]
    refine ⟨_, rfl, ?_, by rw [HG.out]; exact (HBB.out.trans HOK.out.2.2.2.2.1).trans (belowK_b (w := w) (by omega) _ D _ _ (by omega) hK' rfl rfl)⟩
    exact Own1.base (k := 3) (enc := encTk) (ownsRow_putObj (own_far HOW.out (fun k hk => HOK.out.2.2.2.2.2 k (by omega))) (.deferred none) hK' rfl) (by have := HG.out; omega)
  case stop =>
    rintro D c pre W hD hS ⟨⟨rfl, q, x, h1, h2, h3, b0, b1, b2⟩, hB⟩ hK
    obtain ⟨hTT, ha, he⟩ := hS q x h1 h2 h3
    have HTT := Lib.hid hTT
    have HKK := Lib.hid hK
    have HBB := Lib.hid hB
    have HA := Lib.hid ha
    have HEE := Lib.hid he
    have g0 : _ = some (Value.slice none 0 0) := (yblk_putObj b0 hK rfl (.deferred none)).cell 0
    have g1 : _ = some (Value.int .i64 x.a) := (yblk_putObj b1 hK rfl (.deferred none)).cell 0
    have g2 : _ = some (Value.int .i64 x.e) := (yblk_putObj b2 hK rfl (.deferred none)).cell 0
    clear hTT hS hK hB ha he h1 h2 h3 k0 k1 k2 k3 kb henv hW0
    gi_wp2
    refine ⟨by simp, .inl ⟨_, _, rfl, run_takeDeferred HKK.out, ?_⟩⟩
    refine ⟨_, res_Tokens rfl rfl rfl g0 g1 g2, ?_⟩
    rw [← HT.out, HTT.out]
    refine ⟨_, ?_, own1_nil _ _ _, by rw [HG.out]; exact HBB.out.trans (belowK_b (w := w) (by omega) _ D _ _ (by omega) HKK.out rfl rfl)⟩
    show Ending.returned (.tuple #[.slice none 0 0, .int .i64 x.a, .int .i64 x.e]) = .returned (.tuple #[.slice none 0 0, .int .i64 ((x.a.toNat : Nat) : Int), .int .i64 ((x.e.toNat : Nat) : Int)])
    rw [Int.toNat_of_nonneg HA.out, Int.toNat_of_nonneg HEE.out]
end Go.Proofs.YtpmmchppfmojhaaGreatDoor


/- Of the program's table package: valid locales. -/
namespace Go.Proofs.YtpmmchppfmojhaaGreatDoor
open Go.RowKit
set_option linter.unusedVariables false

set_option maxRecDepth 1000000 in
set_option maxHeartbeats 4000000 in
theorem isLocale0 (x : RawLo) (p : Loc) (w : World) (hl : LocOk w x p) (hr : LocR p) (hp : p.par = []) (hd : p.dir = []) : Calls Tryz.prog 33 #[.agg #[.string (ofL p.tag), .string (ofL p.par), .string (ofL p.dir), .slice x.ca.a x.ca.n x.ca.c, .slice x.oc.a x.oc.n x.oc.c, .string (ofL p.sy.de), .string (ofL p.sy.gr), .string (ofL p.sy.mi), .string (ofL p.sy.pe), .int .i64 p.sy.pr, .int .i64 p.sy.se, .slice x.li.a x.li.n x.li.c, .slice x.un.a x.un.n x.un.c, .slice x.da.a x.da.n x.da.c, .slice x.mo.a x.mo.n x.mo.c, .slice x.dy.a x.dy.n x.dy.c]] w (Says (LocV p) w) := by
  have B0 := Lib.hid ((Below.refl w.heap.size w).alloc (Nat.le_refl _) (.cells #[.string (ofL p.tag), .string (ofL p.par), .string (ofL p.dir), .slice x.ca.a x.ca.n x.ca.c, .slice x.oc.a x.oc.n x.oc.c, .string (ofL p.sy.de), .string (ofL p.sy.gr), .string (ofL p.sy.mi), .string (ofL p.sy.pe), .int .i64 p.sy.pr, .int .i64 p.sy.se, .slice x.li.a x.li.n x.li.c, .slice x.un.a x.un.n x.un.c, .slice x.da.a x.da.n x.da.c, .slice x.mo.a x.mo.n x.mo.c, .slice x.dy.a x.dy.n x.dy.c] 51))
  have K0 := Lib.hid (Blk.new w 51 #[.string (ofL p.tag), .string (ofL p.par), .string (ofL p.dir), .slice x.ca.a x.ca.n x.ca.c, .slice x.oc.a x.oc.n x.oc.c, .string (ofL p.sy.de), .string (ofL p.sy.gr), .string (ofL p.sy.mi), .string (ofL p.sy.pe), .int .i64 p.sy.pr, .int .i64 p.sy.se, .slice x.li.a x.li.n x.li.c, .slice x.un.a x.un.n x.un.c, .slice x.da.a x.da.n x.da.c, .slice x.mo.a x.mo.n x.mo.c, .slice x.dy.a x.dy.n x.dy.c])
  have Z0 : Hid (w.heap.size ≤ (w.alloc (.cells #[.string (ofL p.tag), .string (ofL p.par), .string (ofL p.dir), .slice x.ca.a x.ca.n x.ca.c, .slice x.oc.a x.oc.n x.oc.c, .string (ofL p.sy.de), .string (ofL p.sy.gr), .string (ofL p.sy.mi), .string (ofL p.sy.pe), .int .i64 p.sy.pr, .int .i64 p.sy.se, .slice x.li.a x.li.n x.li.c, .slice x.un.a x.un.n x.un.c, .slice x.da.a x.da.n x.da.c, .slice x.mo.a x.mo.n x.mo.c, .slice x.dy.a x.dy.n x.dy.c] 51)).heap.size) := Lib.hid B0.out.size
  have Y0 := Lib.hid (Below.refl w.heap.size w)
  have HS : Hid (LocV p ↔ okW p.tag ∧ rulesOk p.ca ∧ rulesOk p.oc ∧ symOk p.sy ∧ ((∀ y ∈ p.li, okW y.st ∧ okX y.two ∧ okX y.sa ∧ okX y.md ∧ okX y.en) ∧ (p.li.map Lis.st).Nodup ∧ p.li.length ≤ 10) ∧ ((∀ y ∈ p.un, okW y.un ∧ y.cl ∈ cls6 ∧ okX y.pt) ∧ (p.un.map (fun y => (y.un, y.cl))).Nodup ∧ p.un.length ≤ 100) ∧ ((∀ y ∈ p.da, okW y.1 ∧ okX y.2) ∧ (p.da.map Prod.fst).Nodup ∧ p.da.length ≤ 30) ∧ ((∀ y ∈ p.mo, okX y) ∧ (p.mo.length = 0 ∨ p.mo.length = 12)) ∧ ((∀ y ∈ p.dy, okX y) ∧ (p.dy.length = 0 ∨ p.dy.length = 7))) := Lib.hid ⟨fun k => ⟨k.tag, k.ca, k.oc, k.sy, ⟨k.li, k.liN, k.liL⟩, ⟨k.un, k.unN, k.unL⟩, ⟨k.da, k.daN, k.daL⟩, ⟨k.mo, k.moL⟩, k.dy, k.dyL⟩, fun ⟨a0, a1, a2, a3, a4, a5, a6, a7, a8⟩ => ⟨a0, .inl hp, .inl hd, a1, a2, a3, a4.1, a4.2.1, a4.2.2, a5.1, a5.2.1, a5.2.2, a6.1, a6.2.1, a6.2.2, a7.1, a7.2, a8.1, a8.2⟩⟩
  obtain ⟨s0, s1, s2⟩ := emp_yes hp
  obtain ⟨t0, t1, t2⟩ := emp_yes hd
  have hL := Lib.hid hl
  have hR := Lib.hid hr
  clear hl hr hp hd
  go_enter Tryz.func33, Tryz.ntmps33
  go_wp2_with fail
  refine (isWordS p.tag hR.out.tag _).mono ?_
  rintro e w1 ⟨⟨v1, rfl, q1⟩, b1⟩
  have B1 := Lib.hid (st B0.out b1 B0.out.size)
  have K1 := Lib.hid (Blk.below K0.out b1)
  have Q1 := Lib.hid q1
  have c1_1 : w1.cell? ⟨w.heap.size, 1, none⟩ = some (.string (ofL p.par)) := K1.out.cell 1
  have c1_2 : w1.cell? ⟨w.heap.size, 2, none⟩ = some (.string (ofL p.dir)) := K1.out.cell 2
  have c1_3 : w1.cell? ⟨w.heap.size, 3, none⟩ = some (.slice x.ca.a x.ca.n x.ca.c) := K1.out.cell 3
  have c1_4 : w1.cell? ⟨w.heap.size, 4, none⟩ = some (.slice x.oc.a x.oc.n x.oc.c) := K1.out.cell 4
  have c1_5 : w1.cell? ⟨w.heap.size, 5, none⟩ = some (.string (ofL p.sy.de)) := K1.out.cell 5
  have c1_6 : w1.cell? ⟨w.heap.size, 6, none⟩ = some (.string (ofL p.sy.gr)) := K1.out.cell 6
  have c1_7 : w1.cell? ⟨w.heap.size, 7, none⟩ = some (.string (ofL p.sy.mi)) := K1.out.cell 7
  have c1_8 : w1.cell? ⟨w.heap.size, 8, none⟩ = some (.string (ofL p.sy.pe)) := K1.out.cell 8
  have c1_9 : w1.cell? ⟨w.heap.size, 9, none⟩ = some (.int .i64 p.sy.pr) := K1.out.cell 9
  have c1_10 : w1.cell? ⟨w.heap.size, 10, none⟩ = some (.int .i64 p.sy.se) := K1.out.cell 10
  have c1_11 : w1.cell? ⟨w.heap.size, 11, none⟩ = some (.slice x.li.a x.li.n x.li.c) := K1.out.cell 11
  have c1_12 : w1.cell? ⟨w.heap.size, 12, none⟩ = some (.slice x.un.a x.un.n x.un.c) := K1.out.cell 12
  have c1_13 : w1.cell? ⟨w.heap.size, 13, none⟩ = some (.slice x.da.a x.da.n x.da.c) := K1.out.cell 13
  have c1_14 : w1.cell? ⟨w.heap.size, 14, none⟩ = some (.slice x.mo.a x.mo.n x.mo.c) := K1.out.cell 14
  have c1_15 : w1.cell? ⟨w.heap.size, 15, none⟩ = some (.slice x.dy.a x.dy.n x.dy.c) := K1.out.cell 15
  clear b1 q1
  cases v1 with
  | false =>
    go_wp2_with fail
    go_ret
    exact ⟨⟨_, rfl, ⟨fun h => (by cases h), fun h => absurd (Q1.out.2 ((HS.out.1 h).1)) (by decide)⟩⟩, B1.out⟩
  | true =>
  go_wp2_with fail
  refine (areRules _ p.ca _ (hL.out.ca.below B1.out) hR.out.ca).mono ?_
  rintro e w2 ⟨⟨v2, rfl, q2⟩, b2⟩
  have B2 := Lib.hid (st B1.out b2 B1.out.size)
  have K2 := Lib.hid (Blk.below K1.out b2)
  have Q2 := Lib.hid q2
  have c2_4 : w2.cell? ⟨w.heap.size, 4, none⟩ = some (.slice x.oc.a x.oc.n x.oc.c) := K2.out.cell 4
  have c2_5 : w2.cell? ⟨w.heap.size, 5, none⟩ = some (.string (ofL p.sy.de)) := K2.out.cell 5
  have c2_6 : w2.cell? ⟨w.heap.size, 6, none⟩ = some (.string (ofL p.sy.gr)) := K2.out.cell 6
  have c2_7 : w2.cell? ⟨w.heap.size, 7, none⟩ = some (.string (ofL p.sy.mi)) := K2.out.cell 7
  have c2_8 : w2.cell? ⟨w.heap.size, 8, none⟩ = some (.string (ofL p.sy.pe)) := K2.out.cell 8
  have c2_9 : w2.cell? ⟨w.heap.size, 9, none⟩ = some (.int .i64 p.sy.pr) := K2.out.cell 9
  have c2_10 : w2.cell? ⟨w.heap.size, 10, none⟩ = some (.int .i64 p.sy.se) := K2.out.cell 10
  have c2_11 : w2.cell? ⟨w.heap.size, 11, none⟩ = some (.slice x.li.a x.li.n x.li.c) := K2.out.cell 11
  have c2_12 : w2.cell? ⟨w.heap.size, 12, none⟩ = some (.slice x.un.a x.un.n x.un.c) := K2.out.cell 12
  have c2_13 : w2.cell? ⟨w.heap.size, 13, none⟩ = some (.slice x.da.a x.da.n x.da.c) := K2.out.cell 13
  have c2_14 : w2.cell? ⟨w.heap.size, 14, none⟩ = some (.slice x.mo.a x.mo.n x.mo.c) := K2.out.cell 14
  have c2_15 : w2.cell? ⟨w.heap.size, 15, none⟩ = some (.slice x.dy.a x.dy.n x.dy.c) := K2.out.cell 15
  clear b2 q2 c1_1 c1_2 c1_3 c1_4 c1_5 c1_6 c1_7 c1_8 c1_9 c1_10 c1_11 c1_12 c1_13 c1_14 c1_15
  cases v2 with
  | false =>
    go_wp2_with fail
    go_ret
    exact ⟨⟨_, rfl, ⟨fun h => (by cases h), fun h => absurd (Q2.out.2 ((HS.out.1 h).2.1)) (by decide)⟩⟩, B2.out⟩
  | true =>
  go_wp2_with fail
  refine (areRules _ p.oc _ (hL.out.oc.below B2.out) hR.out.oc).mono ?_
  rintro e w3 ⟨⟨v3, rfl, q3⟩, b3⟩
  have B3 := Lib.hid (st B2.out b3 B2.out.size)
  have K3 := Lib.hid (Blk.below K2.out b3)
  have Q3 := Lib.hid q3
  have c3_5 : w3.cell? ⟨w.heap.size, 5, none⟩ = some (.string (ofL p.sy.de)) := K3.out.cell 5
  have c3_6 : w3.cell? ⟨w.heap.size, 6, none⟩ = some (.string (ofL p.sy.gr)) := K3.out.cell 6
  have c3_7 : w3.cell? ⟨w.heap.size, 7, none⟩ = some (.string (ofL p.sy.mi)) := K3.out.cell 7
  have c3_8 : w3.cell? ⟨w.heap.size, 8, none⟩ = some (.string (ofL p.sy.pe)) := K3.out.cell 8
  have c3_9 : w3.cell? ⟨w.heap.size, 9, none⟩ = some (.int .i64 p.sy.pr) := K3.out.cell 9
  have c3_10 : w3.cell? ⟨w.heap.size, 10, none⟩ = some (.int .i64 p.sy.se) := K3.out.cell 10
  have c3_11 : w3.cell? ⟨w.heap.size, 11, none⟩ = some (.slice x.li.a x.li.n x.li.c) := K3.out.cell 11
  have c3_12 : w3.cell? ⟨w.heap.size, 12, none⟩ = some (.slice x.un.a x.un.n x.un.c) := K3.out.cell 12
  have c3_13 : w3.cell? ⟨w.heap.size, 13, none⟩ = some (.slice x.da.a x.da.n x.da.c) := K3.out.cell 13
  have c3_14 : w3.cell? ⟨w.heap.size, 14, none⟩ = some (.slice x.mo.a x.mo.n x.mo.c) := K3.out.cell 14
  have c3_15 : w3.cell? ⟨w.heap.size, 15, none⟩ = some (.slice x.dy.a x.dy.n x.dy.c) := K3.out.cell 15
  clear b3 q3 c2_4 c2_5 c2_6 c2_7 c2_8 c2_9 c2_10 c2_11 c2_12 c2_13 c2_14 c2_15
  cases v3 with
  | false =>
    go_wp2_with fail
    go_ret
    exact ⟨⟨_, rfl, ⟨fun h => (by cases h), fun h => absurd (Q3.out.2 ((HS.out.1 h).2.2.1)) (by decide)⟩⟩, B3.out⟩
  | true =>
  go_wp2_with fail
  refine (areSymbolsS p.sy hR.out.de hR.out.gr hR.out.mi hR.out.pe _).mono ?_
  rintro e w4 ⟨⟨v4, rfl, q4⟩, b4⟩
  have B4 := Lib.hid (st B3.out b4 B3.out.size)
  have K4 := Lib.hid (Blk.below K3.out b4)
  have Q4 := Lib.hid q4
  have c4_11 : w4.cell? ⟨w.heap.size, 11, none⟩ = some (.slice x.li.a x.li.n x.li.c) := K4.out.cell 11
  have c4_12 : w4.cell? ⟨w.heap.size, 12, none⟩ = some (.slice x.un.a x.un.n x.un.c) := K4.out.cell 12
  have c4_13 : w4.cell? ⟨w.heap.size, 13, none⟩ = some (.slice x.da.a x.da.n x.da.c) := K4.out.cell 13
  have c4_14 : w4.cell? ⟨w.heap.size, 14, none⟩ = some (.slice x.mo.a x.mo.n x.mo.c) := K4.out.cell 14
  have c4_15 : w4.cell? ⟨w.heap.size, 15, none⟩ = some (.slice x.dy.a x.dy.n x.dy.c) := K4.out.cell 15
  clear b4 q4 c3_5 c3_6 c3_7 c3_8 c3_9 c3_10 c3_11 c3_12 c3_13 c3_14 c3_15
  cases v4 with
  | false =>
    go_wp2_with fail
    go_ret
    exact ⟨⟨_, rfl, ⟨fun h => (by cases h), fun h => absurd (Q4.out.2 ((HS.out.1 h).2.2.2.1)) (by decide)⟩⟩, B4.out⟩
  | true =>
  go_wp2_with fail
  refine (areLists _ p.li _ (hL.out.li.below B4.out) hR.out.li).mono ?_
  rintro e w5 ⟨⟨v5, rfl, q5⟩, b5⟩
  have B5 := Lib.hid (st B4.out b5 B4.out.size)
  have K5 := Lib.hid (Blk.below K4.out b5)
  have Q5 := Lib.hid q5
  have c5_12 : w5.cell? ⟨w.heap.size, 12, none⟩ = some (.slice x.un.a x.un.n x.un.c) := K5.out.cell 12
  have c5_13 : w5.cell? ⟨w.heap.size, 13, none⟩ = some (.slice x.da.a x.da.n x.da.c) := K5.out.cell 13
  have c5_14 : w5.cell? ⟨w.heap.size, 14, none⟩ = some (.slice x.mo.a x.mo.n x.mo.c) := K5.out.cell 14
  have c5_15 : w5.cell? ⟨w.heap.size, 15, none⟩ = some (.slice x.dy.a x.dy.n x.dy.c) := K5.out.cell 15
  clear b5 q5 c4_11 c4_12 c4_13 c4_14 c4_15
  cases v5 with
  | false =>
    go_wp2_with fail
    go_ret
    exact ⟨⟨_, rfl, ⟨fun h => (by cases h), fun h => absurd (Q5.out.2 ((HS.out.1 h).2.2.2.2.1)) (by decide)⟩⟩, B5.out⟩
  | true =>
  go_wp2_with fail
  refine (areUnits _ p.un _ (hL.out.un.below B5.out) hR.out.un).mono ?_
  rintro e w6 ⟨⟨v6, rfl, q6⟩, b6⟩
  have B6 := Lib.hid (st B5.out b6 B5.out.size)
  have K6 := Lib.hid (Blk.below K5.out b6)
  have Q6 := Lib.hid q6
  have c6_13 : w6.cell? ⟨w.heap.size, 13, none⟩ = some (.slice x.da.a x.da.n x.da.c) := K6.out.cell 13
  have c6_14 : w6.cell? ⟨w.heap.size, 14, none⟩ = some (.slice x.mo.a x.mo.n x.mo.c) := K6.out.cell 14
  have c6_15 : w6.cell? ⟨w.heap.size, 15, none⟩ = some (.slice x.dy.a x.dy.n x.dy.c) := K6.out.cell 15
  clear b6 q6 c5_12 c5_13 c5_14 c5_15
  cases v6 with
  | false =>
    go_wp2_with fail
    go_ret
    exact ⟨⟨_, rfl, ⟨fun h => (by cases h), fun h => absurd (Q6.out.2 ((HS.out.1 h).2.2.2.2.2.1)) (by decide)⟩⟩, B6.out⟩
  | true =>
  go_wp2_with fail
  refine (areDates _ p.da _ (hL.out.da.below B6.out) hR.out.da).mono ?_
  rintro e w7 ⟨⟨v7, rfl, q7⟩, b7⟩
  have B7 := Lib.hid (st B6.out b7 B6.out.size)
  have K7 := Lib.hid (Blk.below K6.out b7)
  have Q7 := Lib.hid q7
  have c7_14 : w7.cell? ⟨w.heap.size, 14, none⟩ = some (.slice x.mo.a x.mo.n x.mo.c) := K7.out.cell 14
  have c7_15 : w7.cell? ⟨w.heap.size, 15, none⟩ = some (.slice x.dy.a x.dy.n x.dy.c) := K7.out.cell 15
  clear b7 q7 c6_13 c6_14 c6_15
  cases v7 with
  | false =>
    go_wp2_with fail
    go_ret
    exact ⟨⟨_, rfl, ⟨fun h => (by cases h), fun h => absurd (Q7.out.2 ((HS.out.1 h).2.2.2.2.2.2.1)) (by decide)⟩⟩, B7.out⟩
  | true =>
  go_wp2_with fail
  refine (areNamesS _ p.mo 12 (by omega) _ (hL.out.mo.below B7.out) hR.out.mo).mono ?_
  rintro e w8 ⟨⟨v8, rfl, q8⟩, b8⟩
  have B8 := Lib.hid (st B7.out b8 B7.out.size)
  have K8 := Lib.hid (Blk.below K7.out b8)
  have Q8 := Lib.hid q8
  have c8_15 : w8.cell? ⟨w.heap.size, 15, none⟩ = some (.slice x.dy.a x.dy.n x.dy.c) := K8.out.cell 15
  clear b8 q8 c7_14 c7_15
  cases v8 with
  | false =>
    go_wp2_with fail
    go_ret
    exact ⟨⟨_, rfl, ⟨fun h => (by cases h), fun h => absurd (Q8.out.2 ((HS.out.1 h).2.2.2.2.2.2.2.1)) (by decide)⟩⟩, B8.out⟩
  | true =>
  go_wp2_with fail
  refine (areNamesS _ p.dy 7 (by omega) _ (hL.out.dy.below B8.out) hR.out.dy).mono ?_
  rintro e w9 ⟨⟨v9, rfl, q9⟩, b9⟩
  have B9 := Lib.hid (st B8.out b9 B8.out.size)
  have K9 := Lib.hid (Blk.below K8.out b9)
  have Q9 := Lib.hid q9
  clear b9 q9 c8_15
  cases v9 with
  | false =>
    go_wp2_with fail
    go_ret
    exact ⟨⟨_, rfl, ⟨fun h => (by cases h), fun h => absurd (Q9.out.2 ((HS.out.1 h).2.2.2.2.2.2.2.2)) (by decide)⟩⟩, B9.out⟩
  | true =>
  go_wp2_with fail
  go_ret
  exact ⟨⟨_, rfl, ⟨fun _ => HS.out.2 (⟨Q1.out.1 (by trivial), Q2.out.1 (by trivial), Q3.out.1 (by trivial), Q4.out.1 (by trivial), Q5.out.1 (by trivial), Q6.out.1 (by trivial), Q7.out.1 (by trivial), Q8.out.1 (by trivial), Q9.out.1 (by trivial)⟩), fun _ => rfl⟩⟩, B9.out⟩
set_option maxRecDepth 1000000 in
set_option maxHeartbeats 4000000 in
theorem isLocale1 (x : RawLo) (p : Loc) (w : World) (hl : LocOk w x p) (hr : LocR p) (hp : ¬ p.par = []) (hd : p.dir = []) : Calls Tryz.prog 33 #[.agg #[.string (ofL p.tag), .string (ofL p.par), .string (ofL p.dir), .slice x.ca.a x.ca.n x.ca.c, .slice x.oc.a x.oc.n x.oc.c, .string (ofL p.sy.de), .string (ofL p.sy.gr), .string (ofL p.sy.mi), .string (ofL p.sy.pe), .int .i64 p.sy.pr, .int .i64 p.sy.se, .slice x.li.a x.li.n x.li.c, .slice x.un.a x.un.n x.un.c, .slice x.da.a x.da.n x.da.c, .slice x.mo.a x.mo.n x.mo.c, .slice x.dy.a x.dy.n x.dy.c]] w (Says (LocV p) w) := by
  have B0 := Lib.hid ((Below.refl w.heap.size w).alloc (Nat.le_refl _) (.cells #[.string (ofL p.tag), .string (ofL p.par), .string (ofL p.dir), .slice x.ca.a x.ca.n x.ca.c, .slice x.oc.a x.oc.n x.oc.c, .string (ofL p.sy.de), .string (ofL p.sy.gr), .string (ofL p.sy.mi), .string (ofL p.sy.pe), .int .i64 p.sy.pr, .int .i64 p.sy.se, .slice x.li.a x.li.n x.li.c, .slice x.un.a x.un.n x.un.c, .slice x.da.a x.da.n x.da.c, .slice x.mo.a x.mo.n x.mo.c, .slice x.dy.a x.dy.n x.dy.c] 51))
  have K0 := Lib.hid (Blk.new w 51 #[.string (ofL p.tag), .string (ofL p.par), .string (ofL p.dir), .slice x.ca.a x.ca.n x.ca.c, .slice x.oc.a x.oc.n x.oc.c, .string (ofL p.sy.de), .string (ofL p.sy.gr), .string (ofL p.sy.mi), .string (ofL p.sy.pe), .int .i64 p.sy.pr, .int .i64 p.sy.se, .slice x.li.a x.li.n x.li.c, .slice x.un.a x.un.n x.un.c, .slice x.da.a x.da.n x.da.c, .slice x.mo.a x.mo.n x.mo.c, .slice x.dy.a x.dy.n x.dy.c])
  have Z0 : Hid (w.heap.size ≤ (w.alloc (.cells #[.string (ofL p.tag), .string (ofL p.par), .string (ofL p.dir), .slice x.ca.a x.ca.n x.ca.c, .slice x.oc.a x.oc.n x.oc.c, .string (ofL p.sy.de), .string (ofL p.sy.gr), .string (ofL p.sy.mi), .string (ofL p.sy.pe), .int .i64 p.sy.pr, .int .i64 p.sy.se, .slice x.li.a x.li.n x.li.c, .slice x.un.a x.un.n x.un.c, .slice x.da.a x.da.n x.da.c, .slice x.mo.a x.mo.n x.mo.c, .slice x.dy.a x.dy.n x.dy.c] 51)).heap.size) := Lib.hid B0.out.size
  have Y0 := Lib.hid (Below.refl w.heap.size w)
  have HS : Hid (LocV p ↔ okW p.tag ∧ okW p.par ∧ rulesOk p.ca ∧ rulesOk p.oc ∧ symOk p.sy ∧ ((∀ y ∈ p.li, okW y.st ∧ okX y.two ∧ okX y.sa ∧ okX y.md ∧ okX y.en) ∧ (p.li.map Lis.st).Nodup ∧ p.li.length ≤ 10) ∧ ((∀ y ∈ p.un, okW y.un ∧ y.cl ∈ cls6 ∧ okX y.pt) ∧ (p.un.map (fun y => (y.un, y.cl))).Nodup ∧ p.un.length ≤ 100) ∧ ((∀ y ∈ p.da, okW y.1 ∧ okX y.2) ∧ (p.da.map Prod.fst).Nodup ∧ p.da.length ≤ 30) ∧ ((∀ y ∈ p.mo, okX y) ∧ (p.mo.length = 0 ∨ p.mo.length = 12)) ∧ ((∀ y ∈ p.dy, okX y) ∧ (p.dy.length = 0 ∨ p.dy.length = 7))) := Lib.hid ⟨fun k => ⟨k.tag, k.par.resolve_left hp, k.ca, k.oc, k.sy, ⟨k.li, k.liN, k.liL⟩, ⟨k.un, k.unN, k.unL⟩, ⟨k.da, k.daN, k.daL⟩, ⟨k.mo, k.moL⟩, k.dy, k.dyL⟩, fun ⟨a0, a1, a2, a3, a4, a5, a6, a7, a8, a9⟩ => ⟨a0, .inr a1, .inl hd, a2, a3, a4, a5.1, a5.2.1, a5.2.2, a6.1, a6.2.1, a6.2.2, a7.1, a7.2.1, a7.2.2, a8.1, a8.2, a9.1, a9.2⟩⟩
  obtain ⟨s0, s1, s2⟩ := emp_no hp
  obtain ⟨t0, t1, t2⟩ := emp_yes hd
  have hL := Lib.hid hl
  have hR := Lib.hid hr
  clear hl hr hp hd
  go_enter Tryz.func33, Tryz.ntmps33
  go_wp2_with fail
  refine (isWordS p.tag hR.out.tag _).mono ?_
  rintro e w1 ⟨⟨v1, rfl, q1⟩, b1⟩
  have B1 := Lib.hid (st B0.out b1 B0.out.size)
  have K1 := Lib.hid (Blk.below K0.out b1)
  have Q1 := Lib.hid q1
  have c1_1 : w1.cell? ⟨w.heap.size, 1, none⟩ = some (.string (ofL p.par)) := K1.out.cell 1
  have c1_2 : w1.cell? ⟨w.heap.size, 2, none⟩ = some (.string (ofL p.dir)) := K1.out.cell 2
  have c1_3 : w1.cell? ⟨w.heap.size, 3, none⟩ = some (.slice x.ca.a x.ca.n x.ca.c) := K1.out.cell 3
  have c1_4 : w1.cell? ⟨w.heap.size, 4, none⟩ = some (.slice x.oc.a x.oc.n x.oc.c) := K1.out.cell 4
  have c1_5 : w1.cell? ⟨w.heap.size, 5, none⟩ = some (.string (ofL p.sy.de)) := K1.out.cell 5
  have c1_6 : w1.cell? ⟨w.heap.size, 6, none⟩ = some (.string (ofL p.sy.gr)) := K1.out.cell 6
  have c1_7 : w1.cell? ⟨w.heap.size, 7, none⟩ = some (.string (ofL p.sy.mi)) := K1.out.cell 7
  have c1_8 : w1.cell? ⟨w.heap.size, 8, none⟩ = some (.string (ofL p.sy.pe)) := K1.out.cell 8
  have c1_9 : w1.cell? ⟨w.heap.size, 9, none⟩ = some (.int .i64 p.sy.pr) := K1.out.cell 9
  have c1_10 : w1.cell? ⟨w.heap.size, 10, none⟩ = some (.int .i64 p.sy.se) := K1.out.cell 10
  have c1_11 : w1.cell? ⟨w.heap.size, 11, none⟩ = some (.slice x.li.a x.li.n x.li.c) := K1.out.cell 11
  have c1_12 : w1.cell? ⟨w.heap.size, 12, none⟩ = some (.slice x.un.a x.un.n x.un.c) := K1.out.cell 12
  have c1_13 : w1.cell? ⟨w.heap.size, 13, none⟩ = some (.slice x.da.a x.da.n x.da.c) := K1.out.cell 13
  have c1_14 : w1.cell? ⟨w.heap.size, 14, none⟩ = some (.slice x.mo.a x.mo.n x.mo.c) := K1.out.cell 14
  have c1_15 : w1.cell? ⟨w.heap.size, 15, none⟩ = some (.slice x.dy.a x.dy.n x.dy.c) := K1.out.cell 15
  clear b1 q1
  cases v1 with
  | false =>
    go_wp2_with fail
    go_ret
    exact ⟨⟨_, rfl, ⟨fun h => (by cases h), fun h => absurd (Q1.out.2 ((HS.out.1 h).1)) (by decide)⟩⟩, B1.out⟩
  | true =>
  go_wp2_with fail
  refine (isWordS p.par hR.out.par _).mono ?_
  rintro e w2 ⟨⟨v2, rfl, q2⟩, b2⟩
  have B2 := Lib.hid (st B1.out b2 B1.out.size)
  have K2 := Lib.hid (Blk.below K1.out b2)
  have Q2 := Lib.hid q2
  have c2_2 : w2.cell? ⟨w.heap.size, 2, none⟩ = some (.string (ofL p.dir)) := K2.out.cell 2
  have c2_3 : w2.cell? ⟨w.heap.size, 3, none⟩ = some (.slice x.ca.a x.ca.n x.ca.c) := K2.out.cell 3
  have c2_4 : w2.cell? ⟨w.heap.size, 4, none⟩ = some (.slice x.oc.a x.oc.n x.oc.c) := K2.out.cell 4
  have c2_5 : w2.cell? ⟨w.heap.size, 5, none⟩ = some (.string (ofL p.sy.de)) := K2.out.cell 5
  have c2_6 : w2.cell? ⟨w.heap.size, 6, none⟩ = some (.string (ofL p.sy.gr)) := K2.out.cell 6
  have c2_7 : w2.cell? ⟨w.heap.size, 7, none⟩ = some (.string (ofL p.sy.mi)) := K2.out.cell 7
  have c2_8 : w2.cell? ⟨w.heap.size, 8, none⟩ = some (.string (ofL p.sy.pe)) := K2.out.cell 8
  have c2_9 : w2.cell? ⟨w.heap.size, 9, none⟩ = some (.int .i64 p.sy.pr) := K2.out.cell 9
  have c2_10 : w2.cell? ⟨w.heap.size, 10, none⟩ = some (.int .i64 p.sy.se) := K2.out.cell 10
  have c2_11 : w2.cell? ⟨w.heap.size, 11, none⟩ = some (.slice x.li.a x.li.n x.li.c) := K2.out.cell 11
  have c2_12 : w2.cell? ⟨w.heap.size, 12, none⟩ = some (.slice x.un.a x.un.n x.un.c) := K2.out.cell 12
  have c2_13 : w2.cell? ⟨w.heap.size, 13, none⟩ = some (.slice x.da.a x.da.n x.da.c) := K2.out.cell 13
  have c2_14 : w2.cell? ⟨w.heap.size, 14, none⟩ = some (.slice x.mo.a x.mo.n x.mo.c) := K2.out.cell 14
  have c2_15 : w2.cell? ⟨w.heap.size, 15, none⟩ = some (.slice x.dy.a x.dy.n x.dy.c) := K2.out.cell 15
  clear b2 q2 c1_1 c1_2 c1_3 c1_4 c1_5 c1_6 c1_7 c1_8 c1_9 c1_10 c1_11 c1_12 c1_13 c1_14 c1_15
  cases v2 with
  | false =>
    go_wp2_with fail
    go_ret
    exact ⟨⟨_, rfl, ⟨fun h => (by cases h), fun h => absurd (Q2.out.2 ((HS.out.1 h).2.1)) (by decide)⟩⟩, B2.out⟩
  | true =>
  go_wp2_with fail
  refine (areRules _ p.ca _ (hL.out.ca.below B2.out) hR.out.ca).mono ?_
  rintro e w3 ⟨⟨v3, rfl, q3⟩, b3⟩
  have B3 := Lib.hid (st B2.out b3 B2.out.size)
  have K3 := Lib.hid (Blk.below K2.out b3)
  have Q3 := Lib.hid q3
  have c3_4 : w3.cell? ⟨w.heap.size, 4, none⟩ = some (.slice x.oc.a x.oc.n x.oc.c) := K3.out.cell 4
  have c3_5 : w3.cell? ⟨w.heap.size, 5, none⟩ = some (.string (ofL p.sy.de)) := K3.out.cell 5
  have c3_6 : w3.cell? ⟨w.heap.size, 6, none⟩ = some (.string (ofL p.sy.gr)) := K3.out.cell 6
  have c3_7 : w3.cell? ⟨w.heap.size, 7, none⟩ = some (.string (ofL p.sy.mi)) := K3.out.cell 7
  have c3_8 : w3.cell? ⟨w.heap.size, 8, none⟩ = some (.string (ofL p.sy.pe)) := K3.out.cell 8
  have c3_9 : w3.cell? ⟨w.heap.size, 9, none⟩ = some (.int .i64 p.sy.pr) := K3.out.cell 9
  have c3_10 : w3.cell? ⟨w.heap.size, 10, none⟩ = some (.int .i64 p.sy.se) := K3.out.cell 10
  have c3_11 : w3.cell? ⟨w.heap.size, 11, none⟩ = some (.slice x.li.a x.li.n x.li.c) := K3.out.cell 11
  have c3_12 : w3.cell? ⟨w.heap.size, 12, none⟩ = some (.slice x.un.a x.un.n x.un.c) := K3.out.cell 12
  have c3_13 : w3.cell? ⟨w.heap.size, 13, none⟩ = some (.slice x.da.a x.da.n x.da.c) := K3.out.cell 13
  have c3_14 : w3.cell? ⟨w.heap.size, 14, none⟩ = some (.slice x.mo.a x.mo.n x.mo.c) := K3.out.cell 14
  have c3_15 : w3.cell? ⟨w.heap.size, 15, none⟩ = some (.slice x.dy.a x.dy.n x.dy.c) := K3.out.cell 15
  clear b3 q3 c2_2 c2_3 c2_4 c2_5 c2_6 c2_7 c2_8 c2_9 c2_10 c2_11 c2_12 c2_13 c2_14 c2_15
  cases v3 with
  | false =>
    go_wp2_with fail
    go_ret
    exact ⟨⟨_, rfl, ⟨fun h => (by cases h), fun h => absurd (Q3.out.2 ((HS.out.1 h).2.2.1)) (by decide)⟩⟩, B3.out⟩
  | true =>
  go_wp2_with fail
  refine (areRules _ p.oc _ (hL.out.oc.below B3.out) hR.out.oc).mono ?_
  rintro e w4 ⟨⟨v4, rfl, q4⟩, b4⟩
  have B4 := Lib.hid (st B3.out b4 B3.out.size)
  have K4 := Lib.hid (Blk.below K3.out b4)
  have Q4 := Lib.hid q4
  have c4_5 : w4.cell? ⟨w.heap.size, 5, none⟩ = some (.string (ofL p.sy.de)) := K4.out.cell 5
  have c4_6 : w4.cell? ⟨w.heap.size, 6, none⟩ = some (.string (ofL p.sy.gr)) := K4.out.cell 6
  have c4_7 : w4.cell? ⟨w.heap.size, 7, none⟩ = some (.string (ofL p.sy.mi)) := K4.out.cell 7
  have c4_8 : w4.cell? ⟨w.heap.size, 8, none⟩ = some (.string (ofL p.sy.pe)) := K4.out.cell 8
  have c4_9 : w4.cell? ⟨w.heap.size, 9, none⟩ = some (.int .i64 p.sy.pr) := K4.out.cell 9
  have c4_10 : w4.cell? ⟨w.heap.size, 10, none⟩ = some (.int .i64 p.sy.se) := K4.out.cell 10
  have c4_11 : w4.cell? ⟨w.heap.size, 11, none⟩ = some (.slice x.li.a x.li.n x.li.c) := K4.out.cell 11
  have c4_12 : w4.cell? ⟨w.heap.size, 12, none⟩ = some (.slice x.un.a x.un.n x.un.c) := K4.out.cell 12
  have c4_13 : w4.cell? ⟨w.heap.size, 13, none⟩ = some (.slice x.da.a x.da.n x.da.c) := K4.out.cell 13
  have c4_14 : w4.cell? ⟨w.heap.size, 14, none⟩ = some (.slice x.mo.a x.mo.n x.mo.c) := K4.out.cell 14
  have c4_15 : w4.cell? ⟨w.heap.size, 15, none⟩ = some (.slice x.dy.a x.dy.n x.dy.c) := K4.out.cell 15
  clear b4 q4 c3_4 c3_5 c3_6 c3_7 c3_8 c3_9 c3_10 c3_11 c3_12 c3_13 c3_14 c3_15
  cases v4 with
  | false =>
    go_wp2_with fail
    go_ret
    exact ⟨⟨_, rfl, ⟨fun h => (by cases h), fun h => absurd (Q4.out.2 ((HS.out.1 h).2.2.2.1)) (by decide)⟩⟩, B4.out⟩
  | true =>
  go_wp2_with fail
  refine (areSymbolsS p.sy hR.out.de hR.out.gr hR.out.mi hR.out.pe _).mono ?_
  rintro e w5 ⟨⟨v5, rfl, q5⟩, b5⟩
  have B5 := Lib.hid (st B4.out b5 B4.out.size)
  have K5 := Lib.hid (Blk.below K4.out b5)
  have Q5 := Lib.hid q5
  have c5_11 : w5.cell? ⟨w.heap.size, 11, none⟩ = some (.slice x.li.a x.li.n x.li.c) := K5.out.cell 11
  have c5_12 : w5.cell? ⟨w.heap.size, 12, none⟩ = some (.slice x.un.a x.un.n x.un.c) := K5.out.cell 12
  have c5_13 : w5.cell? ⟨w.heap.size, 13, none⟩ = some (.slice x.da.a x.da.n x.da.c) := K5.out.cell 13
  have c5_14 : w5.cell? ⟨w.heap.size, 14, none⟩ = some (.slice x.mo.a x.mo.n x.mo.c) := K5.out.cell 14
  have c5_15 : w5.cell? ⟨w.heap.size, 15, none⟩ = some (.slice x.dy.a x.dy.n x.dy.c) := K5.out.cell 15
  clear b5 q5 c4_5 c4_6 c4_7 c4_8 c4_9 c4_10 c4_11 c4_12 c4_13 c4_14 c4_15
  cases v5 with
  | false =>
    go_wp2_with fail
    go_ret
    exact ⟨⟨_, rfl, ⟨fun h => (by cases h), fun h => absurd (Q5.out.2 ((HS.out.1 h).2.2.2.2.1)) (by decide)⟩⟩, B5.out⟩
  | true =>
  go_wp2_with fail
  refine (areLists _ p.li _ (hL.out.li.below B5.out) hR.out.li).mono ?_
  rintro e w6 ⟨⟨v6, rfl, q6⟩, b6⟩
  have B6 := Lib.hid (st B5.out b6 B5.out.size)
  have K6 := Lib.hid (Blk.below K5.out b6)
  have Q6 := Lib.hid q6
  have c6_12 : w6.cell? ⟨w.heap.size, 12, none⟩ = some (.slice x.un.a x.un.n x.un.c) := K6.out.cell 12
  have c6_13 : w6.cell? ⟨w.heap.size, 13, none⟩ = some (.slice x.da.a x.da.n x.da.c) := K6.out.cell 13
  have c6_14 : w6.cell? ⟨w.heap.size, 14, none⟩ = some (.slice x.mo.a x.mo.n x.mo.c) := K6.out.cell 14
  have c6_15 : w6.cell? ⟨w.heap.size, 15, none⟩ = some (.slice x.dy.a x.dy.n x.dy.c) := K6.out.cell 15
  clear b6 q6 c5_11 c5_12 c5_13 c5_14 c5_15
  cases v6 with
  | false =>
    go_wp2_with fail
    go_ret
    exact ⟨⟨_, rfl, ⟨fun h => (by cases h), fun h => absurd (Q6.out.2 ((HS.out.1 h).2.2.2.2.2.1)) (by decide)⟩⟩, B6.out⟩
  | true =>
  go_wp2_with fail
  refine (areUnits _ p.un _ (hL.out.un.below B6.out) hR.out.un).mono ?_
  rintro e w7 ⟨⟨v7, rfl, q7⟩, b7⟩
  have B7 := Lib.hid (st B6.out b7 B6.out.size)
  have K7 := Lib.hid (Blk.below K6.out b7)
  have Q7 := Lib.hid q7
  have c7_13 : w7.cell? ⟨w.heap.size, 13, none⟩ = some (.slice x.da.a x.da.n x.da.c) := K7.out.cell 13
  have c7_14 : w7.cell? ⟨w.heap.size, 14, none⟩ = some (.slice x.mo.a x.mo.n x.mo.c) := K7.out.cell 14
  have c7_15 : w7.cell? ⟨w.heap.size, 15, none⟩ = some (.slice x.dy.a x.dy.n x.dy.c) := K7.out.cell 15
  clear b7 q7 c6_12 c6_13 c6_14 c6_15
  cases v7 with
  | false =>
    go_wp2_with fail
    go_ret
    exact ⟨⟨_, rfl, ⟨fun h => (by cases h), fun h => absurd (Q7.out.2 ((HS.out.1 h).2.2.2.2.2.2.1)) (by decide)⟩⟩, B7.out⟩
  | true =>
  go_wp2_with fail
  refine (areDates _ p.da _ (hL.out.da.below B7.out) hR.out.da).mono ?_
  rintro e w8 ⟨⟨v8, rfl, q8⟩, b8⟩
  have B8 := Lib.hid (st B7.out b8 B7.out.size)
  have K8 := Lib.hid (Blk.below K7.out b8)
  have Q8 := Lib.hid q8
  have c8_14 : w8.cell? ⟨w.heap.size, 14, none⟩ = some (.slice x.mo.a x.mo.n x.mo.c) := K8.out.cell 14
  have c8_15 : w8.cell? ⟨w.heap.size, 15, none⟩ = some (.slice x.dy.a x.dy.n x.dy.c) := K8.out.cell 15
  clear b8 q8 c7_13 c7_14 c7_15
  cases v8 with
  | false =>
    go_wp2_with fail
    go_ret
    exact ⟨⟨_, rfl, ⟨fun h => (by cases h), fun h => absurd (Q8.out.2 ((HS.out.1 h).2.2.2.2.2.2.2.1)) (by decide)⟩⟩, B8.out⟩
  | true =>
  go_wp2_with fail
  refine (areNamesS _ p.mo 12 (by omega) _ (hL.out.mo.below B8.out) hR.out.mo).mono ?_
  rintro e w9 ⟨⟨v9, rfl, q9⟩, b9⟩
  have B9 := Lib.hid (st B8.out b9 B8.out.size)
  have K9 := Lib.hid (Blk.below K8.out b9)
  have Q9 := Lib.hid q9
  have c9_15 : w9.cell? ⟨w.heap.size, 15, none⟩ = some (.slice x.dy.a x.dy.n x.dy.c) := K9.out.cell 15
  clear b9 q9 c8_14 c8_15
  cases v9 with
  | false =>
    go_wp2_with fail
    go_ret
    exact ⟨⟨_, rfl, ⟨fun h => (by cases h), fun h => absurd (Q9.out.2 ((HS.out.1 h).2.2.2.2.2.2.2.2.1)) (by decide)⟩⟩, B9.out⟩
  | true =>
  go_wp2_with fail
  refine (areNamesS _ p.dy 7 (by omega) _ (hL.out.dy.below B9.out) hR.out.dy).mono ?_
  rintro e w10 ⟨⟨v10, rfl, q10⟩, b10⟩
  have B10 := Lib.hid (st B9.out b10 B9.out.size)
  have K10 := Lib.hid (Blk.below K9.out b10)
  have Q10 := Lib.hid q10
  clear b10 q10 c9_15
  cases v10 with
  | false =>
    go_wp2_with fail
    go_ret
    exact ⟨⟨_, rfl, ⟨fun h => (by cases h), fun h => absurd (Q10.out.2 ((HS.out.1 h).2.2.2.2.2.2.2.2.2)) (by decide)⟩⟩, B10.out⟩
  | true =>
  go_wp2_with fail
  go_ret
  exact ⟨⟨_, rfl, ⟨fun _ => HS.out.2 (⟨Q1.out.1 (by trivial), Q2.out.1 (by trivial), Q3.out.1 (by trivial), Q4.out.1 (by trivial), Q5.out.1 (by trivial), Q6.out.1 (by trivial), Q7.out.1 (by trivial), Q8.out.1 (by trivial), Q9.out.1 (by trivial), Q10.out.1 (by trivial)⟩), fun _ => rfl⟩⟩, B10.out⟩
set_option maxRecDepth 1000000 in
set_option maxHeartbeats 4000000 in
theorem isLocale2 (x : RawLo) (p : Loc) (w : World) (hl : LocOk w x p) (hr : LocR p) (hp : p.par = []) (hd : ¬ p.dir = []) : Calls Tryz.prog 33 #[.agg #[.string (ofL p.tag), .string (ofL p.par), .string (ofL p.dir), .slice x.ca.a x.ca.n x.ca.c, .slice x.oc.a x.oc.n x.oc.c, .string (ofL p.sy.de), .string (ofL p.sy.gr), .string (ofL p.sy.mi), .string (ofL p.sy.pe), .int .i64 p.sy.pr, .int .i64 p.sy.se, .slice x.li.a x.li.n x.li.c, .slice x.un.a x.un.n x.un.c, .slice x.da.a x.da.n x.da.c, .slice x.mo.a x.mo.n x.mo.c, .slice x.dy.a x.dy.n x.dy.c]] w (Says (LocV p) w) := by
  have B0 := Lib.hid ((Below.refl w.heap.size w).alloc (Nat.le_refl _) (.cells #[.string (ofL p.tag), .string (ofL p.par), .string (ofL p.dir), .slice x.ca.a x.ca.n x.ca.c, .slice x.oc.a x.oc.n x.oc.c, .string (ofL p.sy.de), .string (ofL p.sy.gr), .string (ofL p.sy.mi), .string (ofL p.sy.pe), .int .i64 p.sy.pr, .int .i64 p.sy.se, .slice x.li.a x.li.n x.li.c, .slice x.un.a x.un.n x.un.c, .slice x.da.a x.da.n x.da.c, .slice x.mo.a x.mo.n x.mo.c, .slice x.dy.a x.dy.n x.dy.c] 51))
  have K0 := Lib.hid (Blk.new w 51 #[.string (ofL p.tag), .string (ofL p.par), .string (ofL p.dir), .slice x.ca.a x.ca.n x.ca.c, .slice x.oc.a x.oc.n x.oc.c, .string (ofL p.sy.de), .string (ofL p.sy.gr), .string (ofL p.sy.mi), .string (ofL p.sy.pe), .int .i64 p.sy.pr, .int .i64 p.sy.se, .slice x.li.a x.li.n x.li.c, .slice x.un.a x.un.n x.un.c, .slice x.da.a x.da.n x.da.c, .slice x.mo.a x.mo.n x.mo.c, .slice x.dy.a x.dy.n x.dy.c])
  have Z0 : Hid (w.heap.size ≤ (w.alloc (.cells #[.string (ofL p.tag), .string (ofL p.par), .string (ofL p.dir), .slice x.ca.a x.ca.n x.ca.c, .slice x.oc.a x.oc.n x.oc.c, .string (ofL p.sy.de), .string (ofL p.sy.gr), .string (ofL p.sy.mi), .string (ofL p.sy.pe), .int .i64 p.sy.pr, .int .i64 p.sy.se, .slice x.li.a x.li.n x.li.c, .slice x.un.a x.un.n x.un.c, .slice x.da.a x.da.n x.da.c, .slice x.mo.a x.mo.n x.mo.c, .slice x.dy.a x.dy.n x.dy.c] 51)).heap.size) := Lib.hid B0.out.size
  have Y0 := Lib.hid (Below.refl w.heap.size w)
  have HS : Hid (LocV p ↔ okW p.tag ∧ p.dir ∈ dirL ∧ rulesOk p.ca ∧ rulesOk p.oc ∧ symOk p.sy ∧ ((∀ y ∈ p.li, okW y.st ∧ okX y.two ∧ okX y.sa ∧ okX y.md ∧ okX y.en) ∧ (p.li.map Lis.st).Nodup ∧ p.li.length ≤ 10) ∧ ((∀ y ∈ p.un, okW y.un ∧ y.cl ∈ cls6 ∧ okX y.pt) ∧ (p.un.map (fun y => (y.un, y.cl))).Nodup ∧ p.un.length ≤ 100) ∧ ((∀ y ∈ p.da, okW y.1 ∧ okX y.2) ∧ (p.da.map Prod.fst).Nodup ∧ p.da.length ≤ 30) ∧ ((∀ y ∈ p.mo, okX y) ∧ (p.mo.length = 0 ∨ p.mo.length = 12)) ∧ ((∀ y ∈ p.dy, okX y) ∧ (p.dy.length = 0 ∨ p.dy.length = 7))) := Lib.hid ⟨fun k => ⟨k.tag, k.dir.resolve_left hd, k.ca, k.oc, k.sy, ⟨k.li, k.liN, k.liL⟩, ⟨k.un, k.unN, k.unL⟩, ⟨k.da, k.daN, k.daL⟩, ⟨k.mo, k.moL⟩, k.dy, k.dyL⟩, fun ⟨a0, a1, a2, a3, a4, a5, a6, a7, a8, a9⟩ => ⟨a0, .inl hp, .inr a1, a2, a3, a4, a5.1, a5.2.1, a5.2.2, a6.1, a6.2.1, a6.2.2, a7.1, a7.2.1, a7.2.2, a8.1, a8.2, a9.1, a9.2⟩⟩
  obtain ⟨s0, s1, s2⟩ := emp_yes hp
  obtain ⟨t0, t1, t2⟩ := emp_no hd
  have hL := Lib.hid hl
  have hR := Lib.hid hr
  clear hl hr hp hd
  go_enter Tryz.func33, Tryz.ntmps33
  go_wp2_with fail
  refine (isWordS p.tag hR.out.tag _).mono ?_
  rintro e w1 ⟨⟨v1, rfl, q1⟩, b1⟩
  have B1 := Lib.hid (st B0.out b1 B0.out.size)
  have K1 := Lib.hid (Blk.below K0.out b1)
  have Q1 := Lib.hid q1
  have c1_1 : w1.cell? ⟨w.heap.size, 1, none⟩ = some (.string (ofL p.par)) := K1.out.cell 1
  have c1_2 : w1.cell? ⟨w.heap.size, 2, none⟩ = some (.string (ofL p.dir)) := K1.out.cell 2
  have c1_3 : w1.cell? ⟨w.heap.size, 3, none⟩ = some (.slice x.ca.a x.ca.n x.ca.c) := K1.out.cell 3
  have c1_4 : w1.cell? ⟨w.heap.size, 4, none⟩ = some (.slice x.oc.a x.oc.n x.oc.c) := K1.out.cell 4
  have c1_5 : w1.cell? ⟨w.heap.size, 5, none⟩ = some (.string (ofL p.sy.de)) := K1.out.cell 5
  have c1_6 : w1.cell? ⟨w.heap.size, 6, none⟩ = some (.string (ofL p.sy.gr)) := K1.out.cell 6
  have c1_7 : w1.cell? ⟨w.heap.size, 7, none⟩ = some (.string (ofL p.sy.mi)) := K1.out.cell 7
  have c1_8 : w1.cell? ⟨w.heap.size, 8, none⟩ = some (.string (ofL p.sy.pe)) := K1.out.cell 8
  have c1_9 : w1.cell? ⟨w.heap.size, 9, none⟩ = some (.int .i64 p.sy.pr) := K1.out.cell 9
  have c1_10 : w1.cell? ⟨w.heap.size, 10, none⟩ = some (.int .i64 p.sy.se) := K1.out.cell 10
  have c1_11 : w1.cell? ⟨w.heap.size, 11, none⟩ = some (.slice x.li.a x.li.n x.li.c) := K1.out.cell 11
  have c1_12 : w1.cell? ⟨w.heap.size, 12, none⟩ = some (.slice x.un.a x.un.n x.un.c) := K1.out.cell 12
  have c1_13 : w1.cell? ⟨w.heap.size, 13, none⟩ = some (.slice x.da.a x.da.n x.da.c) := K1.out.cell 13
  have c1_14 : w1.cell? ⟨w.heap.size, 14, none⟩ = some (.slice x.mo.a x.mo.n x.mo.c) := K1.out.cell 14
  have c1_15 : w1.cell? ⟨w.heap.size, 15, none⟩ = some (.slice x.dy.a x.dy.n x.dy.c) := K1.out.cell 15
  clear b1 q1
  cases v1 with
  | false =>
    go_wp2_with fail
    go_ret
    exact ⟨⟨_, rfl, ⟨fun h => (by cases h), fun h => absurd (Q1.out.2 ((HS.out.1 h).1)) (by decide)⟩⟩, B1.out⟩
  | true =>
  go_wp2_with fail
  refine (isDirectionS p.dir _).mono ?_
  rintro e w2 ⟨⟨v2, rfl, q2⟩, b2⟩
  have B2 := Lib.hid (st B1.out b2 B1.out.size)
  have K2 := Lib.hid (Blk.below K1.out b2)
  have Q2 := Lib.hid q2
  have c2_3 : w2.cell? ⟨w.heap.size, 3, none⟩ = some (.slice x.ca.a x.ca.n x.ca.c) := K2.out.cell 3
  have c2_4 : w2.cell? ⟨w.heap.size, 4, none⟩ = some (.slice x.oc.a x.oc.n x.oc.c) := K2.out.cell 4
  have c2_5 : w2.cell? ⟨w.heap.size, 5, none⟩ = some (.string (ofL p.sy.de)) := K2.out.cell 5
  have c2_6 : w2.cell? ⟨w.heap.size, 6, none⟩ = some (.string (ofL p.sy.gr)) := K2.out.cell 6
  have c2_7 : w2.cell? ⟨w.heap.size, 7, none⟩ = some (.string (ofL p.sy.mi)) := K2.out.cell 7
  have c2_8 : w2.cell? ⟨w.heap.size, 8, none⟩ = some (.string (ofL p.sy.pe)) := K2.out.cell 8
  have c2_9 : w2.cell? ⟨w.heap.size, 9, none⟩ = some (.int .i64 p.sy.pr) := K2.out.cell 9
  have c2_10 : w2.cell? ⟨w.heap.size, 10, none⟩ = some (.int .i64 p.sy.se) := K2.out.cell 10
  have c2_11 : w2.cell? ⟨w.heap.size, 11, none⟩ = some (.slice x.li.a x.li.n x.li.c) := K2.out.cell 11
  have c2_12 : w2.cell? ⟨w.heap.size, 12, none⟩ = some (.slice x.un.a x.un.n x.un.c) := K2.out.cell 12
  have c2_13 : w2.cell? ⟨w.heap.size, 13, none⟩ = some (.slice x.da.a x.da.n x.da.c) := K2.out.cell 13
  have c2_14 : w2.cell? ⟨w.heap.size, 14, none⟩ = some (.slice x.mo.a x.mo.n x.mo.c) := K2.out.cell 14
  have c2_15 : w2.cell? ⟨w.heap.size, 15, none⟩ = some (.slice x.dy.a x.dy.n x.dy.c) := K2.out.cell 15
  clear b2 q2 c1_1 c1_2 c1_3 c1_4 c1_5 c1_6 c1_7 c1_8 c1_9 c1_10 c1_11 c1_12 c1_13 c1_14 c1_15
  cases v2 with
  | false =>
    go_wp2_with fail
    go_ret
    exact ⟨⟨_, rfl, ⟨fun h => (by cases h), fun h => absurd (Q2.out.2 ((HS.out.1 h).2.1)) (by decide)⟩⟩, B2.out⟩
  | true =>
  go_wp2_with fail
  refine (areRules _ p.ca _ (hL.out.ca.below B2.out) hR.out.ca).mono ?_
  rintro e w3 ⟨⟨v3, rfl, q3⟩, b3⟩
  have B3 := Lib.hid (st B2.out b3 B2.out.size)
  have K3 := Lib.hid (Blk.below K2.out b3)
  have Q3 := Lib.hid q3
  have c3_4 : w3.cell? ⟨w.heap.size, 4, none⟩ = some (.slice x.oc.a x.oc.n x.oc.c) := K3.out.cell 4
  have c3_5 : w3.cell? ⟨w.heap.size, 5, none⟩ = some (.string (ofL p.sy.de)) := K3.out.cell 5
  have c3_6 : w3.cell? ⟨w.heap.size, 6, none⟩ = some (.string (ofL p.sy.gr)) := K3.out.cell 6
  have c3_7 : w3.cell? ⟨w.heap.size, 7, none⟩ = some (.string (ofL p.sy.mi)) := K3.out.cell 7
  have c3_8 : w3.cell? ⟨w.heap.size, 8, none⟩ = some (.string (ofL p.sy.pe)) := K3.out.cell 8
  have c3_9 : w3.cell? ⟨w.heap.size, 9, none⟩ = some (.int .i64 p.sy.pr) := K3.out.cell 9
  have c3_10 : w3.cell? ⟨w.heap.size, 10, none⟩ = some (.int .i64 p.sy.se) := K3.out.cell 10
  have c3_11 : w3.cell? ⟨w.heap.size, 11, none⟩ = some (.slice x.li.a x.li.n x.li.c) := K3.out.cell 11
  have c3_12 : w3.cell? ⟨w.heap.size, 12, none⟩ = some (.slice x.un.a x.un.n x.un.c) := K3.out.cell 12
  have c3_13 : w3.cell? ⟨w.heap.size, 13, none⟩ = some (.slice x.da.a x.da.n x.da.c) := K3.out.cell 13
  have c3_14 : w3.cell? ⟨w.heap.size, 14, none⟩ = some (.slice x.mo.a x.mo.n x.mo.c) := K3.out.cell 14
  have c3_15 : w3.cell? ⟨w.heap.size, 15, none⟩ = some (.slice x.dy.a x.dy.n x.dy.c) := K3.out.cell 15
  clear b3 q3 c2_3 c2_4 c2_5 c2_6 c2_7 c2_8 c2_9 c2_10 c2_11 c2_12 c2_13 c2_14 c2_15
  cases v3 with
  | false =>
    go_wp2_with fail
    go_ret
    exact ⟨⟨_, rfl, ⟨fun h => (by cases h), fun h => absurd (Q3.out.2 ((HS.out.1 h).2.2.1)) (by decide)⟩⟩, B3.out⟩
  | true =>
  go_wp2_with fail
  refine (areRules _ p.oc _ (hL.out.oc.below B3.out) hR.out.oc).mono ?_
  rintro e w4 ⟨⟨v4, rfl, q4⟩, b4⟩
  have B4 := Lib.hid (st B3.out b4 B3.out.size)
  have K4 := Lib.hid (Blk.below K3.out b4)
  have Q4 := Lib.hid q4
  have c4_5 : w4.cell? ⟨w.heap.size, 5, none⟩ = some (.string (ofL p.sy.de)) := K4.out.cell 5
  have c4_6 : w4.cell? ⟨w.heap.size, 6, none⟩ = some (.string (ofL p.sy.gr)) := K4.out.cell 6
  have c4_7 : w4.cell? ⟨w.heap.size, 7, none⟩ = some (.string (ofL p.sy.mi)) := K4.out.cell 7
  have c4_8 : w4.cell? ⟨w.heap.size, 8, none⟩ = some (.string (ofL p.sy.pe)) := K4.out.cell 8
  have c4_9 : w4.cell? ⟨w.heap.size, 9, none⟩ = some (.int .i64 p.sy.pr) := K4.out.cell 9
  have c4_10 : w4.cell? ⟨w.heap.size, 10, none⟩ = some (.int .i64 p.sy.se) := K4.out.cell 10
  have c4_11 : w4.cell? ⟨w.heap.size, 11, none⟩ = some (.slice x.li.a x.li.n x.li.c) := K4.out.cell 11
  have c4_12 : w4.cell? ⟨w.heap.size, 12, none⟩ = some (.slice x.un.a x.un.n x.un.c) := K4.out.cell 12
  have c4_13 : w4.cell? ⟨w.heap.size, 13, none⟩ = some (.slice x.da.a x.da.n x.da.c) := K4.out.cell 13
  have c4_14 : w4.cell? ⟨w.heap.size, 14, none⟩ = some (.slice x.mo.a x.mo.n x.mo.c) := K4.out.cell 14
  have c4_15 : w4.cell? ⟨w.heap.size, 15, none⟩ = some (.slice x.dy.a x.dy.n x.dy.c) := K4.out.cell 15
  clear b4 q4 c3_4 c3_5 c3_6 c3_7 c3_8 c3_9 c3_10 c3_11 c3_12 c3_13 c3_14 c3_15
  cases v4 with
  | false =>
    go_wp2_with fail
    go_ret
    exact ⟨⟨_, rfl, ⟨fun h => (by cases h), fun h => absurd (Q4.out.2 ((HS.out.1 h).2.2.2.1)) (by decide)⟩⟩, B4.out⟩
  | true =>
  go_wp2_with fail
  refine (areSymbolsS p.sy hR.out.de hR.out.gr hR.out.mi hR.out.pe _).mono ?_
  rintro e w5 ⟨⟨v5, rfl, q5⟩, b5⟩
  have B5 := Lib.hid (st B4.out b5 B4.out.size)
  have K5 := Lib.hid (Blk.below K4.out b5)
  have Q5 := Lib.hid q5
  have c5_11 : w5.cell? ⟨w.heap.size, 11, none⟩ = some (.slice x.li.a x.li.n x.li.c) := K5.out.cell 11
  have c5_12 : w5.cell? ⟨w.heap.size, 12, none⟩ = some (.slice x.un.a x.un.n x.un.c) := K5.out.cell 12
  have c5_13 : w5.cell? ⟨w.heap.size, 13, none⟩ = some (.slice x.da.a x.da.n x.da.c) := K5.out.cell 13
  have c5_14 : w5.cell? ⟨w.heap.size, 14, none⟩ = some (.slice x.mo.a x.mo.n x.mo.c) := K5.out.cell 14
  have c5_15 : w5.cell? ⟨w.heap.size, 15, none⟩ = some (.slice x.dy.a x.dy.n x.dy.c) := K5.out.cell 15
  clear b5 q5 c4_5 c4_6 c4_7 c4_8 c4_9 c4_10 c4_11 c4_12 c4_13 c4_14 c4_15
  cases v5 with
  | false =>
    go_wp2_with fail
    go_ret
    exact ⟨⟨_, rfl, ⟨fun h => (by cases h), fun h => absurd (Q5.out.2 ((HS.out.1 h).2.2.2.2.1)) (by decide)⟩⟩, B5.out⟩
  | true =>
  go_wp2_with fail
  refine (areLists _ p.li _ (hL.out.li.below B5.out) hR.out.li).mono ?_
  rintro e w6 ⟨⟨v6, rfl, q6⟩, b6⟩
  have B6 := Lib.hid (st B5.out b6 B5.out.size)
  have K6 := Lib.hid (Blk.below K5.out b6)
  have Q6 := Lib.hid q6
  have c6_12 : w6.cell? ⟨w.heap.size, 12, none⟩ = some (.slice x.un.a x.un.n x.un.c) := K6.out.cell 12
  have c6_13 : w6.cell? ⟨w.heap.size, 13, none⟩ = some (.slice x.da.a x.da.n x.da.c) := K6.out.cell 13
  have c6_14 : w6.cell? ⟨w.heap.size, 14, none⟩ = some (.slice x.mo.a x.mo.n x.mo.c) := K6.out.cell 14
  have c6_15 : w6.cell? ⟨w.heap.size, 15, none⟩ = some (.slice x.dy.a x.dy.n x.dy.c) := K6.out.cell 15
  clear b6 q6 c5_11 c5_12 c5_13 c5_14 c5_15
  cases v6 with
  | false =>
    go_wp2_with fail
    go_ret
    exact ⟨⟨_, rfl, ⟨fun h => (by cases h), fun h => absurd (Q6.out.2 ((HS.out.1 h).2.2.2.2.2.1)) (by decide)⟩⟩, B6.out⟩
  | true =>
  go_wp2_with fail
  refine (areUnits _ p.un _ (hL.out.un.below B6.out) hR.out.un).mono ?_
  rintro e w7 ⟨⟨v7, rfl, q7⟩, b7⟩
  have B7 := Lib.hid (st B6.out b7 B6.out.size)
  have K7 := Lib.hid (Blk.below K6.out b7)
  have Q7 := Lib.hid q7
  have c7_13 : w7.cell? ⟨w.heap.size, 13, none⟩ = some (.slice x.da.a x.da.n x.da.c) := K7.out.cell 13
  have c7_14 : w7.cell? ⟨w.heap.size, 14, none⟩ = some (.slice x.mo.a x.mo.n x.mo.c) := K7.out.cell 14
  have c7_15 : w7.cell? ⟨w.heap.size, 15, none⟩ = some (.slice x.dy.a x.dy.n x.dy.c) := K7.out.cell 15
  clear b7 q7 c6_12 c6_13 c6_14 c6_15
  cases v7 with
  | false =>
    go_wp2_with fail
    go_ret
    exact ⟨⟨_, rfl, ⟨fun h => (by cases h), fun h => absurd (Q7.out.2 ((HS.out.1 h).2.2.2.2.2.2.1)) (by decide)⟩⟩, B7.out⟩
  | true =>
  go_wp2_with fail
  refine (areDates _ p.da _ (hL.out.da.below B7.out) hR.out.da).mono ?_
  rintro e w8 ⟨⟨v8, rfl, q8⟩, b8⟩
  have B8 := Lib.hid (st B7.out b8 B7.out.size)
  have K8 := Lib.hid (Blk.below K7.out b8)
  have Q8 := Lib.hid q8
  have c8_14 : w8.cell? ⟨w.heap.size, 14, none⟩ = some (.slice x.mo.a x.mo.n x.mo.c) := K8.out.cell 14
  have c8_15 : w8.cell? ⟨w.heap.size, 15, none⟩ = some (.slice x.dy.a x.dy.n x.dy.c) := K8.out.cell 15
  clear b8 q8 c7_13 c7_14 c7_15
  cases v8 with
  | false =>
    go_wp2_with fail
    go_ret
    exact ⟨⟨_, rfl, ⟨fun h => (by cases h), fun h => absurd (Q8.out.2 ((HS.out.1 h).2.2.2.2.2.2.2.1)) (by decide)⟩⟩, B8.out⟩
  | true =>
  go_wp2_with fail
  refine (areNamesS _ p.mo 12 (by omega) _ (hL.out.mo.below B8.out) hR.out.mo).mono ?_
  rintro e w9 ⟨⟨v9, rfl, q9⟩, b9⟩
  have B9 := Lib.hid (st B8.out b9 B8.out.size)
  have K9 := Lib.hid (Blk.below K8.out b9)
  have Q9 := Lib.hid q9
  have c9_15 : w9.cell? ⟨w.heap.size, 15, none⟩ = some (.slice x.dy.a x.dy.n x.dy.c) := K9.out.cell 15
  clear b9 q9 c8_14 c8_15
  cases v9 with
  | false =>
    go_wp2_with fail
    go_ret
    exact ⟨⟨_, rfl, ⟨fun h => (by cases h), fun h => absurd (Q9.out.2 ((HS.out.1 h).2.2.2.2.2.2.2.2.1)) (by decide)⟩⟩, B9.out⟩
  | true =>
  go_wp2_with fail
  refine (areNamesS _ p.dy 7 (by omega) _ (hL.out.dy.below B9.out) hR.out.dy).mono ?_
  rintro e w10 ⟨⟨v10, rfl, q10⟩, b10⟩
  have B10 := Lib.hid (st B9.out b10 B9.out.size)
  have K10 := Lib.hid (Blk.below K9.out b10)
  have Q10 := Lib.hid q10
  clear b10 q10 c9_15
  cases v10 with
  | false =>
    go_wp2_with fail
    go_ret
    exact ⟨⟨_, rfl, ⟨fun h => (by cases h), fun h => absurd (Q10.out.2 ((HS.out.1 h).2.2.2.2.2.2.2.2.2)) (by decide)⟩⟩, B10.out⟩
  | true =>
  go_wp2_with fail
  go_ret
  exact ⟨⟨_, rfl, ⟨fun _ => HS.out.2 (⟨Q1.out.1 (by trivial), Q2.out.1 (by trivial), Q3.out.1 (by trivial), Q4.out.1 (by trivial), Q5.out.1 (by trivial), Q6.out.1 (by trivial), Q7.out.1 (by trivial), Q8.out.1 (by trivial), Q9.out.1 (by trivial), Q10.out.1 (by trivial)⟩), fun _ => rfl⟩⟩, B10.out⟩
set_option maxRecDepth 1000000 in
set_option maxHeartbeats 4000000 in
theorem isLocale3 (x : RawLo) (p : Loc) (w : World) (hl : LocOk w x p) (hr : LocR p) (hp : ¬ p.par = []) (hd : ¬ p.dir = []) : Calls Tryz.prog 33 #[.agg #[.string (ofL p.tag), .string (ofL p.par), .string (ofL p.dir), .slice x.ca.a x.ca.n x.ca.c, .slice x.oc.a x.oc.n x.oc.c, .string (ofL p.sy.de), .string (ofL p.sy.gr), .string (ofL p.sy.mi), .string (ofL p.sy.pe), .int .i64 p.sy.pr, .int .i64 p.sy.se, .slice x.li.a x.li.n x.li.c, .slice x.un.a x.un.n x.un.c, .slice x.da.a x.da.n x.da.c, .slice x.mo.a x.mo.n x.mo.c, .slice x.dy.a x.dy.n x.dy.c]] w (Says (LocV p) w) := by
  have B0 := Lib.hid ((Below.refl w.heap.size w).alloc (Nat.le_refl _) (.cells #[.string (ofL p.tag), .string (ofL p.par), .string (ofL p.dir), .slice x.ca.a x.ca.n x.ca.c, .slice x.oc.a x.oc.n x.oc.c, .string (ofL p.sy.de), .string (ofL p.sy.gr), .string (ofL p.sy.mi), .string (ofL p.sy.pe), .int .i64 p.sy.pr, .int .i64 p.sy.se, .slice x.li.a x.li.n x.li.c, .slice x.un.a x.un.n x.un.c, .slice x.da.a x.da.n x.da.c, .slice x.mo.a x.mo.n x.mo.c, .slice x.dy.a x.dy.n x.dy.c] 51))
  have K0 := Lib.hid (Blk.new w 51 #[.string (ofL p.tag), .string (ofL p.par), .string (ofL p.dir), .slice x.ca.a x.ca.n x.ca.c, .slice x.oc.a x.oc.n x.oc.c, .string (ofL p.sy.de), .string (ofL p.sy.gr), .string (ofL p.sy.mi), .string (ofL p.sy.pe), .int .i64 p.sy.pr, .int .i64 p.sy.se, .slice x.li.a x.li.n x.li.c, .slice x.un.a x.un.n x.un.c, .slice x.da.a x.da.n x.da.c, .slice x.mo.a x.mo.n x.mo.c, .slice x.dy.a x.dy.n x.dy.c])
  have Z0 : Hid (w.heap.size ≤ (w.alloc (.cells #[.string (ofL p.tag), .string (ofL p.par), .string (ofL p.dir), .slice x.ca.a x.ca.n x.ca.c, .slice x.oc.a x.oc.n x.oc.c, .string (ofL p.sy.de), .string (ofL p.sy.gr), .string (ofL p.sy.mi), .string (ofL p.sy.pe), .int .i64 p.sy.pr, .int .i64 p.sy.se, .slice x.li.a x.li.n x.li.c, .slice x.un.a x.un.n x.un.c, .slice x.da.a x.da.n x.da.c, .slice x.mo.a x.mo.n x.mo.c, .slice x.dy.a x.dy.n x.dy.c] 51)).heap.size) := Lib.hid B0.out.size
  have Y0 := Lib.hid (Below.refl w.heap.size w)
  have HS : Hid (LocV p ↔ okW p.tag ∧ okW p.par ∧ p.dir ∈ dirL ∧ rulesOk p.ca ∧ rulesOk p.oc ∧ symOk p.sy ∧ ((∀ y ∈ p.li, okW y.st ∧ okX y.two ∧ okX y.sa ∧ okX y.md ∧ okX y.en) ∧ (p.li.map Lis.st).Nodup ∧ p.li.length ≤ 10) ∧ ((∀ y ∈ p.un, okW y.un ∧ y.cl ∈ cls6 ∧ okX y.pt) ∧ (p.un.map (fun y => (y.un, y.cl))).Nodup ∧ p.un.length ≤ 100) ∧ ((∀ y ∈ p.da, okW y.1 ∧ okX y.2) ∧ (p.da.map Prod.fst).Nodup ∧ p.da.length ≤ 30) ∧ ((∀ y ∈ p.mo, okX y) ∧ (p.mo.length = 0 ∨ p.mo.length = 12)) ∧ ((∀ y ∈ p.dy, okX y) ∧ (p.dy.length = 0 ∨ p.dy.length = 7))) := Lib.hid ⟨fun k => ⟨k.tag, k.par.resolve_left hp, k.dir.resolve_left hd, k.ca, k.oc, k.sy, ⟨k.li, k.liN, k.liL⟩, ⟨k.un, k.unN, k.unL⟩, ⟨k.da, k.daN, k.daL⟩, ⟨k.mo, k.moL⟩, k.dy, k.dyL⟩, fun ⟨a0, a1, a2, a3, a4, a5, a6, a7, a8, a9, a10⟩ => ⟨a0, .inr a1, .inr a2, a3, a4, a5, a6.1, a6.2.1, a6.2.2, a7.1, a7.2.1, a7.2.2, a8.1, a8.2.1, a8.2.2, a9.1, a9.2, a10.1, a10.2⟩⟩
  obtain ⟨s0, s1, s2⟩ := emp_no hp
  obtain ⟨t0, t1, t2⟩ := emp_no hd
  have hL := Lib.hid hl
  have hR := Lib.hid hr
  clear hl hr hp hd
  go_enter Tryz.func33, Tryz.ntmps33
  go_wp2_with fail
  refine (isWordS p.tag hR.out.tag _).mono ?_
  rintro e w1 ⟨⟨v1, rfl, q1⟩, b1⟩
  have B1 := Lib.hid (st B0.out b1 B0.out.size)
  have K1 := Lib.hid (Blk.below K0.out b1)
  have Q1 := Lib.hid q1
  have c1_1 : w1.cell? ⟨w.heap.size, 1, none⟩ = some (.string (ofL p.par)) := K1.out.cell 1
  have c1_2 : w1.cell? ⟨w.heap.size, 2, none⟩ = some (.string (ofL p.dir)) := K1.out.cell 2
  have c1_3 : w1.cell? ⟨w.heap.size, 3, none⟩ = some (.slice x.ca.a x.ca.n x.ca.c) := K1.out.cell 3
  have c1_4 : w1.cell? ⟨w.heap.size, 4, none⟩ = some (.slice x.oc.a x.oc.n x.oc.c) := K1.out.cell 4
  have c1_5 : w1.cell? ⟨w.heap.size, 5, none⟩ = some (.string (ofL p.sy.de)) := K1.out.cell 5
  have c1_6 : w1.cell? ⟨w.heap.size, 6, none⟩ = some (.string (ofL p.sy.gr)) := K1.out.cell 6
  have c1_7 : w1.cell? ⟨w.heap.size, 7, none⟩ = some (.string (ofL p.sy.mi)) := K1.out.cell 7
  have c1_8 : w1.cell? ⟨w.heap.size, 8, none⟩ = some (.string (ofL p.sy.pe)) := K1.out.cell 8
  have c1_9 : w1.cell? ⟨w.heap.size, 9, none⟩ = some (.int .i64 p.sy.pr) := K1.out.cell 9
  have c1_10 : w1.cell? ⟨w.heap.size, 10, none⟩ = some (.int .i64 p.sy.se) := K1.out.cell 10
  have c1_11 : w1.cell? ⟨w.heap.size, 11, none⟩ = some (.slice x.li.a x.li.n x.li.c) := K1.out.cell 11
  have c1_12 : w1.cell? ⟨w.heap.size, 12, none⟩ = some (.slice x.un.a x.un.n x.un.c) := K1.out.cell 12
  have c1_13 : w1.cell? ⟨w.heap.size, 13, none⟩ = some (.slice x.da.a x.da.n x.da.c) := K1.out.cell 13
  have c1_14 : w1.cell? ⟨w.heap.size, 14, none⟩ = some (.slice x.mo.a x.mo.n x.mo.c) := K1.out.cell 14
  have c1_15 : w1.cell? ⟨w.heap.size, 15, none⟩ = some (.slice x.dy.a x.dy.n x.dy.c) := K1.out.cell 15
  clear b1 q1
  cases v1 with
  | false =>
    go_wp2_with fail
    go_ret
    exact ⟨⟨_, rfl, ⟨fun h => (by cases h), fun h => absurd (Q1.out.2 ((HS.out.1 h).1)) (by decide)⟩⟩, B1.out⟩
  | true =>
  go_wp2_with fail
  refine (isWordS p.par hR.out.par _).mono ?_
  rintro e w2 ⟨⟨v2, rfl, q2⟩, b2⟩
  have B2 := Lib.hid (st B1.out b2 B1.out.size)
  have K2 := Lib.hid (Blk.below K1.out b2)
  have Q2 := Lib.hid q2
  have c2_2 : w2.cell? ⟨w.heap.size, 2, none⟩ = some (.string (ofL p.dir)) := K2.out.cell 2
  have c2_3 : w2.cell? ⟨w.heap.size, 3, none⟩ = some (.slice x.ca.a x.ca.n x.ca.c) := K2.out.cell 3
  have c2_4 : w2.cell? ⟨w.heap.size, 4, none⟩ = some (.slice x.oc.a x.oc.n x.oc.c) := K2.out.cell 4
  have c2_5 : w2.cell? ⟨w.heap.size, 5, none⟩ = some (.string (ofL p.sy.de)) := K2.out.cell 5
  have c2_6 : w2.cell? ⟨w.heap.size, 6, none⟩ = some (.string (ofL p.sy.gr)) := K2.out.cell 6
  have c2_7 : w2.cell? ⟨w.heap.size, 7, none⟩ = some (.string (ofL p.sy.mi)) := K2.out.cell 7
  have c2_8 : w2.cell? ⟨w.heap.size, 8, none⟩ = some (.string (ofL p.sy.pe)) := K2.out.cell 8
  have c2_9 : w2.cell? ⟨w.heap.size, 9, none⟩ = some (.int .i64 p.sy.pr) := K2.out.cell 9
  have c2_10 : w2.cell? ⟨w.heap.size, 10, none⟩ = some (.int .i64 p.sy.se) := K2.out.cell 10
  have c2_11 : w2.cell? ⟨w.heap.size, 11, none⟩ = some (.slice x.li.a x.li.n x.li.c) := K2.out.cell 11
  have c2_12 : w2.cell? ⟨w.heap.size, 12, none⟩ = some (.slice x.un.a x.un.n x.un.c) := K2.out.cell 12
  have c2_13 : w2.cell? ⟨w.heap.size, 13, none⟩ = some (.slice x.da.a x.da.n x.da.c) := K2.out.cell 13
  have c2_14 : w2.cell? ⟨w.heap.size, 14, none⟩ = some (.slice x.mo.a x.mo.n x.mo.c) := K2.out.cell 14
  have c2_15 : w2.cell? ⟨w.heap.size, 15, none⟩ = some (.slice x.dy.a x.dy.n x.dy.c) := K2.out.cell 15
  clear b2 q2 c1_1 c1_2 c1_3 c1_4 c1_5 c1_6 c1_7 c1_8 c1_9 c1_10 c1_11 c1_12 c1_13 c1_14 c1_15
  cases v2 with
  | false =>
    go_wp2_with fail
    go_ret
    exact ⟨⟨_, rfl, ⟨fun h => (by cases h), fun h => absurd (Q2.out.2 ((HS.out.1 h).2.1)) (by decide)⟩⟩, B2.out⟩
  | true =>
  go_wp2_with fail
  refine (isDirectionS p.dir _).mono ?_
  rintro e w3 ⟨⟨v3, rfl, q3⟩, b3⟩
  have B3 := Lib.hid (st B2.out b3 B2.out.size)
  have K3 := Lib.hid (Blk.below K2.out b3)
  have Q3 := Lib.hid q3
  have c3_3 : w3.cell? ⟨w.heap.size, 3, none⟩ = some (.slice x.ca.a x.ca.n x.ca.c) := K3.out.cell 3
  have c3_4 : w3.cell? ⟨w.heap.size, 4, none⟩ = some (.slice x.oc.a x.oc.n x.oc.c) := K3.out.cell 4
  have c3_5 : w3.cell? ⟨w.heap.size, 5, none⟩ = some (.string (ofL p.sy.de)) := K3.out.cell 5
  have c3_6 : w3.cell? ⟨w.heap.size, 6, none⟩ = some (.string (ofL p.sy.gr)) := K3.out.cell 6
  have c3_7 : w3.cell? ⟨w.heap.size, 7, none⟩ = some (.string (ofL p.sy.mi)) := K3.out.cell 7
  have c3_8 : w3.cell? ⟨w.heap.size, 8, none⟩ = some (.string (ofL p.sy.pe)) := K3.out.cell 8
  have c3_9 : w3.cell? ⟨w.heap.size, 9, none⟩ = some (.int .i64 p.sy.pr) := K3.out.cell 9
  have c3_10 : w3.cell? ⟨w.heap.size, 10, none⟩ = some (.int .i64 p.sy.se) := K3.out.cell 10
  have c3_11 : w3.cell? ⟨w.heap.size, 11, none⟩ = some (.slice x.li.a x.li.n x.li.c) := K3.out.cell 11
  have c3_12 : w3.cell? ⟨w.heap.size, 12, none⟩ = some (.slice x.un.a x.un.n x.un.c) := K3.out.cell 12
  have c3_13 : w3.cell? ⟨w.heap.size, 13, none⟩ = some (.slice x.da.a x.da.n x.da.c) := K3.out.cell 13
  have c3_14 : w3.cell? ⟨w.heap.size, 14, none⟩ = some (.slice x.mo.a x.mo.n x.mo.c) := K3.out.cell 14
  have c3_15 : w3.cell? ⟨w.heap.size, 15, none⟩ = some (.slice x.dy.a x.dy.n x.dy.c) := K3.out.cell 15
  clear b3 q3 c2_2 c2_3 c2_4 c2_5 c2_6 c2_7 c2_8 c2_9 c2_10 c2_11 c2_12 c2_13 c2_14 c2_15
  cases v3 with
  | false =>
    go_wp2_with fail
    go_ret
    exact ⟨⟨_, rfl, ⟨fun h => (by cases h), fun h => absurd (Q3.out.2 ((HS.out.1 h).2.2.1)) (by decide)⟩⟩, B3.out⟩
  | true =>
  go_wp2_with fail
  refine (areRules _ p.ca _ (hL.out.ca.below B3.out) hR.out.ca).mono ?_
  rintro e w4 ⟨⟨v4, rfl, q4⟩, b4⟩
  have B4 := Lib.hid (st B3.out b4 B3.out.size)
  have K4 := Lib.hid (Blk.below K3.out b4)
  have Q4 := Lib.hid q4
  have c4_4 : w4.cell? ⟨w.heap.size, 4, none⟩ = some (.slice x.oc.a x.oc.n x.oc.c) := K4.out.cell 4
  have c4_5 : w4.cell? ⟨w.heap.size, 5, none⟩ = some (.string (ofL p.sy.de)) := K4.out.cell 5
  have c4_6 : w4.cell? ⟨w.heap.size, 6, none⟩ = some (.string (ofL p.sy.gr)) := K4.out.cell 6
  have c4_7 : w4.cell? ⟨w.heap.size, 7, none⟩ = some (.string (ofL p.sy.mi)) := K4.out.cell 7
  have c4_8 : w4.cell? ⟨w.heap.size, 8, none⟩ = some (.string (ofL p.sy.pe)) := K4.out.cell 8
  have c4_9 : w4.cell? ⟨w.heap.size, 9, none⟩ = some (.int .i64 p.sy.pr) := K4.out.cell 9
  have c4_10 : w4.cell? ⟨w.heap.size, 10, none⟩ = some (.int .i64 p.sy.se) := K4.out.cell 10
  have c4_11 : w4.cell? ⟨w.heap.size, 11, none⟩ = some (.slice x.li.a x.li.n x.li.c) := K4.out.cell 11
  have c4_12 : w4.cell? ⟨w.heap.size, 12, none⟩ = some (.slice x.un.a x.un.n x.un.c) := K4.out.cell 12
  have c4_13 : w4.cell? ⟨w.heap.size, 13, none⟩ = some (.slice x.da.a x.da.n x.da.c) := K4.out.cell 13
  have c4_14 : w4.cell? ⟨w.heap.size, 14, none⟩ = some (.slice x.mo.a x.mo.n x.mo.c) := K4.out.cell 14
  have c4_15 : w4.cell? ⟨w.heap.size, 15, none⟩ = some (.slice x.dy.a x.dy.n x.dy.c) := K4.out.cell 15
  clear b4 q4 c3_3 c3_4 c3_5 c3_6 c3_7 c3_8 c3_9 c3_10 c3_11 c3_12 c3_13 c3_14 c3_15
  cases v4 with
  | false =>
    go_wp2_with fail
    go_ret
    exact ⟨⟨_, rfl, ⟨fun h => (by cases h), fun h => absurd (Q4.out.2 ((HS.out.1 h).2.2.2.1)) (by decide)⟩⟩, B4.out⟩
  | true =>
  go_wp2_with fail
  refine (areRules _ p.oc _ (hL.out.oc.below B4.out) hR.out.oc).mono ?_
  rintro e w5 ⟨⟨v5, rfl, q5⟩, b5⟩
  have B5 := Lib.hid (st B4.out b5 B4.out.size)
  have K5 := Lib.hid (Blk.below K4.out b5)
  have Q5 := Lib.hid q5
  have c5_5 : w5.cell? ⟨w.heap.size, 5, none⟩ = some (.string (ofL p.sy.de)) := K5.out.cell 5
  have c5_6 : w5.cell? ⟨w.heap.size, 6, none⟩ = some (.string (ofL p.sy.gr)) := K5.out.cell 6
  have c5_7 : w5.cell? ⟨w.heap.size, 7, none⟩ = some (.string (ofL p.sy.mi)) := K5.out.cell 7
  have c5_8 : w5.cell? ⟨w.heap.size, 8, none⟩ = some (.string (ofL p.sy.pe)) := K5.out.cell 8
  have c5_9 : w5.cell? ⟨w.heap.size, 9, none⟩ = some (.int .i64 p.sy.pr) := K5.out.cell 9
  have c5_10 : w5.cell? ⟨w.heap.size, 10, none⟩ = some (.int .i64 p.sy.se) := K5.out.cell 10
  have c5_11 : w5.cell? ⟨w.heap.size, 11, none⟩ = some (.slice x.li.a x.li.n x.li.c) := K5.out.cell 11
  have c5_12 : w5.cell? ⟨w.heap.size, 12, none⟩ = some (.slice x.un.a x.un.n x.un.c) := K5.out.cell 12
  have c5_13 : w5.cell? ⟨w.heap.size, 13, none⟩ = some (.slice x.da.a x.da.n x.da.c) := K5.out.cell 13
  have c5_14 : w5.cell? ⟨w.heap.size, 14, none⟩ = some (.slice x.mo.a x.mo.n x.mo.c) := K5.out.cell 14
  have c5_15 : w5.cell? ⟨w.heap.size, 15, none⟩ = some (.slice x.dy.a x.dy.n x.dy.c) := K5.out.cell 15
  clear b5 q5 c4_4 c4_5 c4_6 c4_7 c4_8 c4_9 c4_10 c4_11 c4_12 c4_13 c4_14 c4_15
  cases v5 with
  | false =>
    go_wp2_with fail
    go_ret
    exact ⟨⟨_, rfl, ⟨fun h => (by cases h), fun h => absurd (Q5.out.2 ((HS.out.1 h).2.2.2.2.1)) (by decide)⟩⟩, B5.out⟩
  | true =>
  go_wp2_with fail
  refine (areSymbolsS p.sy hR.out.de hR.out.gr hR.out.mi hR.out.pe _).mono ?_
  rintro e w6 ⟨⟨v6, rfl, q6⟩, b6⟩
  have B6 := Lib.hid (st B5.out b6 B5.out.size)
  have K6 := Lib.hid (Blk.below K5.out b6)
  have Q6 := Lib.hid q6
  have c6_11 : w6.cell? ⟨w.heap.size, 11, none⟩ = some (.slice x.li.a x.li.n x.li.c) := K6.out.cell 11
  have c6_12 : w6.cell? ⟨w.heap.size, 12, none⟩ = some (.slice x.un.a x.un.n x.un.c) := K6.out.cell 12
  have c6_13 : w6.cell? ⟨w.heap.size, 13, none⟩ = some (.slice x.da.a x.da.n x.da.c) := K6.out.cell 13
  have c6_14 : w6.cell? ⟨w.heap.size, 14, none⟩ = some (.slice x.mo.a x.mo.n x.mo.c) := K6.out.cell 14
  have c6_15 : w6.cell? ⟨w.heap.size, 15, none⟩ = some (.slice x.dy.a x.dy.n x.dy.c) := K6.out.cell 15
  clear b6 q6 c5_5 c5_6 c5_7 c5_8 c5_9 c5_10 c5_11 c5_12 c5_13 c5_14 c5_15
  cases v6 with
  | false =>
    go_wp2_with fail
    go_ret
    exact ⟨⟨_, rfl, ⟨fun h => (by cases h), fun h => absurd (Q6.out.2 ((HS.out.1 h).2.2.2.2.2.1)) (by decide)⟩⟩, B6.out⟩
  | true =>
  go_wp2_with fail
  refine (areLists _ p.li _ (hL.out.li.below B6.out) hR.out.li).mono ?_
  rintro e w7 ⟨⟨v7, rfl, q7⟩, b7⟩
  have B7 := Lib.hid (st B6.out b7 B6.out.size)
  have K7 := Lib.hid (Blk.below K6.out b7)
  have Q7 := Lib.hid q7
  have c7_12 : w7.cell? ⟨w.heap.size, 12, none⟩ = some (.slice x.un.a x.un.n x.un.c) := K7.out.cell 12
  have c7_13 : w7.cell? ⟨w.heap.size, 13, none⟩ = some (.slice x.da.a x.da.n x.da.c) := K7.out.cell 13
  have c7_14 : w7.cell? ⟨w.heap.size, 14, none⟩ = some (.slice x.mo.a x.mo.n x.mo.c) := K7.out.cell 14
  have c7_15 : w7.cell? ⟨w.heap.size, 15, none⟩ = some (.slice x.dy.a x.dy.n x.dy.c) := K7.out.cell 15
  clear b7 q7 c6_11 c6_12 c6_13 c6_14 c6_15
  cases v7 with
  | false =>
    go_wp2_with fail
    go_ret
    exact ⟨⟨_, rfl, ⟨fun h => (by cases h), fun h => absurd (Q7.out.2 ((HS.out.1 h).2.2.2.2.2.2.1)) (by decide)⟩⟩, B7.out⟩
  | true =>
  go_wp2_with fail
  refine (areUnits _ p.un _ (hL.out.un.below B7.out) hR.out.un).mono ?_
  rintro e w8 ⟨⟨v8, rfl, q8⟩, b8⟩
  have B8 := Lib.hid (st B7.out b8 B7.out.size)
  have K8 := Lib.hid (Blk.below K7.out b8)
  have Q8 := Lib.hid q8
  have c8_13 : w8.cell? ⟨w.heap.size, 13, none⟩ = some (.slice x.da.a x.da.n x.da.c) := K8.out.cell 13
  have c8_14 : w8.cell? ⟨w.heap.size, 14, none⟩ = some (.slice x.mo.a x.mo.n x.mo.c) := K8.out.cell 14
  have c8_15 : w8.cell? ⟨w.heap.size, 15, none⟩ = some (.slice x.dy.a x.dy.n x.dy.c) := K8.out.cell 15
  clear b8 q8 c7_12 c7_13 c7_14 c7_15
  cases v8 with
  | false =>
    go_wp2_with fail
    go_ret
    exact ⟨⟨_, rfl, ⟨fun h => (by cases h), fun h => absurd (Q8.out.2 ((HS.out.1 h).2.2.2.2.2.2.2.1)) (by decide)⟩⟩, B8.out⟩
  | true =>
  go_wp2_with fail
  refine (areDates _ p.da _ (hL.out.da.below B8.out) hR.out.da).mono ?_
  rintro e w9 ⟨⟨v9, rfl, q9⟩, b9⟩
  have B9 := Lib.hid (st B8.out b9 B8.out.size)
  have K9 := Lib.hid (Blk.below K8.out b9)
  have Q9 := Lib.hid q9
  have c9_14 : w9.cell? ⟨w.heap.size, 14, none⟩ = some (.slice x.mo.a x.mo.n x.mo.c) := K9.out.cell 14
  have c9_15 : w9.cell? ⟨w.heap.size, 15, none⟩ = some (.slice x.dy.a x.dy.n x.dy.c) := K9.out.cell 15
  clear b9 q9 c8_13 c8_14 c8_15
  cases v9 with
  | false =>
    go_wp2_with fail
    go_ret
    exact ⟨⟨_, rfl, ⟨fun h => (by cases h), fun h => absurd (Q9.out.2 ((HS.out.1 h).2.2.2.2.2.2.2.2.1)) (by decide)⟩⟩, B9.out⟩
  | true =>
  go_wp2_with fail
  refine (areNamesS _ p.mo 12 (by omega) _ (hL.out.mo.below B9.out) hR.out.mo).mono ?_
  rintro e w10 ⟨⟨v10, rfl, q10⟩, b10⟩
  have B10 := Lib.hid (st B9.out b10 B9.out.size)
  have K10 := Lib.hid (Blk.below K9.out b10)
  have Q10 := Lib.hid q10
  have c10_15 : w10.cell? ⟨w.heap.size, 15, none⟩ = some (.slice x.dy.a x.dy.n x.dy.c) := K10.out.cell 15
  clear b10 q10 c9_14 c9_15
  cases v10 with
  | false =>
    go_wp2_with fail
    go_ret
    exact ⟨⟨_, rfl, ⟨fun h => (by cases h), fun h => absurd (Q10.out.2 ((HS.out.1 h).2.2.2.2.2.2.2.2.2.1)) (by decide)⟩⟩, B10.out⟩
  | true =>
  go_wp2_with fail
  refine (areNamesS _ p.dy 7 (by omega) _ (hL.out.dy.below B10.out) hR.out.dy).mono ?_
  rintro e w11 ⟨⟨v11, rfl, q11⟩, b11⟩
  have B11 := Lib.hid (st B10.out b11 B10.out.size)
  have K11 := Lib.hid (Blk.below K10.out b11)
  have Q11 := Lib.hid q11
  clear b11 q11 c10_15
  cases v11 with
  | false =>
    go_wp2_with fail
    go_ret
    exact ⟨⟨_, rfl, ⟨fun h => (by cases h), fun h => absurd (Q11.out.2 ((HS.out.1 h).2.2.2.2.2.2.2.2.2.2)) (by decide)⟩⟩, B11.out⟩
  | true =>
  go_wp2_with fail
  go_ret
  exact ⟨⟨_, rfl, ⟨fun _ => HS.out.2 (⟨Q1.out.1 (by trivial), Q2.out.1 (by trivial), Q3.out.1 (by trivial), Q4.out.1 (by trivial), Q5.out.1 (by trivial), Q6.out.1 (by trivial), Q7.out.1 (by trivial), Q8.out.1 (by trivial), Q9.out.1 (by trivial), Q10.out.1 (by trivial), Q11.out.1 (by trivial)⟩), fun _ => rfl⟩⟩, B11.out⟩
theorem isLocaleS (x : RawLo) (p : Loc) (w : World) (hl : LocOk w x p) (hr : LocR p) : Calls Tryz.prog 33 #[.agg #[.string (ofL p.tag), .string (ofL p.par), .string (ofL p.dir), .slice x.ca.a x.ca.n x.ca.c, .slice x.oc.a x.oc.n x.oc.c, .string (ofL p.sy.de), .string (ofL p.sy.gr), .string (ofL p.sy.mi), .string (ofL p.sy.pe), .int .i64 p.sy.pr, .int .i64 p.sy.se, .slice x.li.a x.li.n x.li.c, .slice x.un.a x.un.n x.un.c, .slice x.da.a x.da.n x.da.c, .slice x.mo.a x.mo.n x.mo.c, .slice x.dy.a x.dy.n x.dy.c]] w (Says (LocV p) w) := by
  by_cases hp : p.par = []
  · by_cases hd : p.dir = []
    · exact isLocale0 x p w hl hr hp hd
    · exact isLocale2 x p w hl hr hp hd
  · by_cases hd : p.dir = []
    · exact isLocale1 x p w hl hr hp hd
    · exact isLocale3 x p w hl hr hp hd
theorem areLocs (v : Value) (l : List Loc) (w : World) (hr : RdLocs w v l) (hs : ∀ x ∈ l, LocR x) : Calls Tryz.prog 32 #[v, .int .i64 60, .func (.func 33) #[] #[], .func (.func 34) #[] #[]] w (Says ((∀ y ∈ l, LocV y) ∧ l.length ≤ 60) w) := by
  obtain ⟨raws, hv, hl, hx⟩ := hr
  refine Says.iff (areVLo_any v raws 60 33 34 (enters_of Tryz.func33 (by kernel_rfl) rfl) (enters_of Tryz.func34 (by kernel_rfl) rfl) (fun i => ∀ h : i < l.length, LocV (l[i]'h)) qLo w hv (fun W1 hb i h => Says.pos (show i < l.length by omega) ?_) (fun W1 x y => alikeLo_any x y W1)) (loc_all hl)
  have h3 := hx i h (by omega)
  have h4 := isLocaleS raws[i] l[i] W1 (h3.below hb) (hs _ (List.getElem_mem (by omega)))
  rw [← h3.tag, ← h3.par, ← h3.dir, ← h3.sy] at h4
  exact h4
set_option maxRecDepth 1000000 in
set_option maxHeartbeats 4000000 in
theorem validS (a b c : RawS) (t : Tab) (w : World) (h : RdTab w (.slice a.a a.n a.c) (.slice b.a b.n b.c) (.slice c.a c.n c.c) t) (hs : TabR t) : Calls Tryz.prog 14 #[.agg #[.slice a.a a.n a.c, .slice b.a b.n b.c, .slice c.a c.n c.c]] w (Says (TabV t) w) := by
  have HS : Hid (TabV t ↔ ((∀ y ∈ t.lo, LocV y) ∧ t.lo.length ≤ 60) ∧ ((∀ y ∈ t.al, okW y.1 ∧ okW y.2) ∧ t.al.length ≤ 200) ∧ ((∀ y ∈ t.ne, okW y.fr ∧ okW y.to_ ∧ 0 ≤ y.co ∧ y.co ≤ 1000) ∧ t.ne.length ≤ 200)) := Lib.hid ⟨fun k => ⟨⟨k.lo, k.loL⟩, ⟨k.al, k.alL⟩, k.ne, k.neL⟩, fun ⟨p, q, r⟩ => ⟨p.1, p.2, q.1, q.2, r.1, r.2⟩⟩
  have B0 := Lib.hid ((Below.refl w.heap.size w).alloc (Nat.le_refl _) (.cells #[.slice a.a a.n a.c, .slice b.a b.n b.c, .slice c.a c.n c.c] 27))
  have K0 := Lib.hid (Blk.new w 27 #[.slice a.a a.n a.c, .slice b.a b.n b.c, .slice c.a c.n c.c])
  have Z0 : Hid (w.heap.size ≤ (w.alloc (.cells #[.slice a.a a.n a.c, .slice b.a b.n b.c, .slice c.a c.n c.c] 27)).heap.size) := Lib.hid B0.out.size
  have Y0 := Lib.hid (Below.refl w.heap.size w)
  have hT := Lib.hid h
  have hR := Lib.hid hs
  clear h hs
  go_enter Tryz.func14, Tryz.ntmps14
  go_wp2_with fail
  refine (areLocs _ t.lo _ (hT.out.lo.below B0.out) hR.out.lo).mono ?_
  rintro e w1 ⟨⟨v1, rfl, q1⟩, b1⟩
  have B1 := Lib.hid (st B0.out b1 B0.out.size)
  have K1 := Lib.hid (Blk.below K0.out b1)
  have Q1 := Lib.hid q1
  have c1_1 : w1.cell? ⟨w.heap.size, 1, none⟩ = some (.slice b.a b.n b.c) := K1.out.cell 1
  have c1_2 : w1.cell? ⟨w.heap.size, 2, none⟩ = some (.slice c.a c.n c.c) := K1.out.cell 2
  clear b1 q1
  cases v1 with
  | false =>
    go_wp2_with fail
    go_ret
    exact ⟨⟨_, rfl, ⟨fun h => (by cases h), fun h => absurd (Q1.out.2 ((HS.out.1 h).1)) (by decide)⟩⟩, B1.out⟩
  | true =>
  go_wp2_with fail
  refine (areAliases _ t.al _ (hT.out.al.below B1.out) hR.out.al).mono ?_
  rintro e w2 ⟨⟨v2, rfl, q2⟩, b2⟩
  have B2 := Lib.hid (st B1.out b2 B1.out.size)
  have K2 := Lib.hid (Blk.below K1.out b2)
  have Q2 := Lib.hid q2
  have c2_2 : w2.cell? ⟨w.heap.size, 2, none⟩ = some (.slice c.a c.n c.c) := K2.out.cell 2
  clear b2 q2 c1_1 c1_2
  cases v2 with
  | false =>
    go_wp2_with fail
    go_ret
    exact ⟨⟨_, rfl, ⟨fun h => (by cases h), fun h => absurd (Q2.out.2 ((HS.out.1 h).2.1)) (by decide)⟩⟩, B2.out⟩
  | true =>
  go_wp2_with fail
  refine (areNears _ t.ne _ (hT.out.ne.below B2.out) hR.out.ne).mono ?_
  rintro e w3 ⟨⟨v3, rfl, q3⟩, b3⟩
  have B3 := Lib.hid (st B2.out b3 B2.out.size)
  have K3 := Lib.hid (Blk.below K2.out b3)
  have Q3 := Lib.hid q3
  clear b3 q3 c2_2
  cases v3 with
  | false =>
    go_wp2_with fail
    go_ret
    exact ⟨⟨_, rfl, ⟨fun h => (by cases h), fun h => absurd (Q3.out.2 ((HS.out.1 h).2.2)) (by decide)⟩⟩, B3.out⟩
  | true =>
  go_wp2_with fail
  go_ret
  exact ⟨⟨_, rfl, ⟨fun _ => HS.out.2 (⟨Q1.out.1 (by trivial), Q2.out.1 (by trivial), Q3.out.1 (by trivial)⟩), fun _ => rfl⟩⟩, B3.out⟩
end Go.Proofs.YtpmmchppfmojhaaGreatDoor


