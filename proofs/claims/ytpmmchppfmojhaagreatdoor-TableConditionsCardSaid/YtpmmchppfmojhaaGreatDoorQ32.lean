/- What the row stands on, part 32. -/
import Derived.Test.YtpmmchppfmojhaaGreatDoorRows
import Derived.LaidMore
import Derived.Lay
import Derived.LaidHandle
import Derived.LaidSub
import Derived.MakeChecks
import Derived.Stop.LaidErr
import Derived.Lib.LaidTab
import Derived.Test.YtpmmchppfmojhaaGreatDoorQ31

/- Of stage 12: what the listed variables hold, for the walks; the start of the witness; the contract of Parse. -/
namespace Go.Proofs.YtpmmchppfmojhaaGreatDoor
open Go.RowKit
set_option linter.unusedVariables false

noncomputable def laidL : List (String × DataW Unit) := Rows.tablePartsRow.laid
theorem gErrS : Tryz.prog.globalNamed "strconv.ErrSyntax" = some 4 := by kernel_rfl
theorem gErrST : (Tryz.prog.globals[4]?).map (·.type) = some 106 := by kernel_rfl
theorem gErrR : Tryz.prog.globalNamed "strconv.ErrRange" = some 5 := by kernel_rfl
theorem gErrRT : (Tryz.prog.globals[5]?).map (·.type) = some 106 := by kernel_rfl
theorem gPowT : (Tryz.prog.globals[0]?).map (·.type) = some 317 := by kernel_rfl
theorem starErr : "*" ++ "errors.errorString" = "*errors.errorString" := by decide
theorem rowErr (u : TypeId) (h : Tryz.prog.typeName? 3 u = some "*errors.errorString") : u = 350 :=
  typeName_ptr_named (nm := "errors.errorString") (by rw [starErr]; kernel_rfl) (by kernel_rfl) (by decide) u (by rw [starErr]; exact h)
theorem env_of {W : World} (h : laidMetH Tryz.prog laidL W) : EnvOf8 W := by
  rw [MakeChecks.laidMetH_plain _ _ _ (by kernel_rfl)] at h
  refine ⟨?_, ?_, ?_⟩
  · have h1 := h.filter (fun x => x.1 == "internal/strconv.uint64pow10")
    have e : laidL.filter (fun x => x.1 == "internal/strconv.uint64pow10") = [("internal/strconv.uint64pow10", Lib.tabData .u64 Lib.pow10Tab)] := by kernel_rfl
    rw [e] at h1
    exact Lib.tabIs_of_head gPow gPowT Tryz.underlying317 Tryz.underlying291 (by kernel_rfl) (by kernel_rfl) h1
  · have h1 := h.filter (fun x => x.1 == "strconv.ErrSyntax")
    have e : laidL.filter (fun x => x.1 == "strconv.ErrSyntax") = [("strconv.ErrSyntax", .iface "*errors.errorString" (.ptr (.agg [.lit (.string [105, 110, 118, 97, 108, 105, 100, 32, 115, 121, 110, 116, 97, 120])])))] := by kernel_rfl
    rw [e] at h1
    obtain ⟨a, s, hv, _⟩ := laid_sentinel h1 gErrS gErrST Tryz.underlying106 rowErr Tryz.underlying350 Tryz.underlying352 rfl rfl Tryz.underlying9 (by kernel_rfl) (by kernel_rfl)
    exact ⟨_, _, by have := World.var?_cell gErrS hv 0; simpa using this⟩
  · have h1 := h.filter (fun x => x.1 == "strconv.ErrRange")
    have e : laidL.filter (fun x => x.1 == "strconv.ErrRange") = [("strconv.ErrRange", .iface "*errors.errorString" (.ptr (.agg [.lit (.string [118, 97, 108, 117, 101, 32, 111, 117, 116, 32, 111, 102, 32, 114, 97, 110, 103, 101])])))] := by kernel_rfl
    rw [e] at h1
    obtain ⟨a, s, hv, _⟩ := laid_sentinel h1 gErrR gErrRT Tryz.underlying106 rowErr Tryz.underlying350 Tryz.underlying352 rfl rfl Tryz.underlying9 (by kernel_rfl) (by kernel_rfl)
    exact ⟨_, _, by have := World.var?_cell gErrR hv 0; simpa using this⟩
theorem door_shaped (os : Os) (args : Array Value) : ((World.laidAll Tryz.prog os laidL).forCall (fun _ _ => 0) ⟨#[], args, []⟩).Shaped Tryz.prog := World.shaped_of_ZipB (by kernel_rfl) (by kernel_rfl)
theorem door_met (os : Os) (args : Array Value) : laidMetH Tryz.prog laidL ((World.laidAll Tryz.prog os laidL).forCall (fun _ _ => 0) ⟨#[], args, []⟩).memory := by
  rw [MakeChecks.laidMetH_plain _ _ _ (by kernel_rfl)]
  exact laidMet_laidAll _ (by kernel_rfl) (by kernel_rfl)

end Go.Proofs.YtpmmchppfmojhaaGreatDoor


/- Of the program's table package: Print; what is asked of the package. -/
namespace Go.Proofs.YtpmmchppfmojhaaGreatDoor
open Go.RowKit
set_option linter.unusedVariables false

theorem loX_le (p : Loc) (hv : LocV p) : (loX p).length ≤ 100000000 := by
  have l1 : (dirX p.dir).length ≤ 100 * 100000 := Nat.le_trans (dirX_le hv.dir) (by decide)
  have l2 : (p.ca.flatMap (ruX kCar)).length ≤ 100 * 100000 := Nat.le_trans (flatX_le _ p.ca 5 (rules_sm hv.ca).2.1 (fun y hy => ruX_le kCar (okw_kw (by decide)) y (ok_cl (List.mem_append_left _ (List.mem_append_left _ (hv.ca.1 y hy).1))) (hv.ca.1 y hy).2)) (by decide)
  have l3 : (p.oc.flatMap (ruX kOrd)).length ≤ 100 * 100000 := Nat.le_trans (flatX_le _ p.oc 5 (rules_sm hv.oc).2.1 (fun y hy => ruX_le kOrd (okw_kw (by decide)) y (ok_cl (List.mem_append_left _ (List.mem_append_left _ (hv.oc.1 y hy).1))) (hv.oc.1 y hy).2)) (by decide)
  have l4 : (syX p.sy).length ≤ 100 * 100000 := Nat.le_trans (syX_le hv.sy) (by decide)
  have l5 : (p.li.flatMap liX).length ≤ 100 * 100000 := Nat.le_trans (flatX_le _ p.li 10 hv.liL (fun y hy => liX_le y (hv.li y hy))) (by decide)
  have l6 : (p.un.flatMap unX).length ≤ 100 * 100000 := Nat.le_trans (flatX_le _ p.un 100 hv.unL (fun y hy => unX_le y (hv.un y hy))) (by decide)
  have l7 : (p.da.flatMap daX).length ≤ 100 * 100000 := Nat.le_trans (flatX_le _ p.da 30 hv.daL (fun y hy => daX_le y (hv.da y hy))) (by decide)
  have l8 : (namX [109, 111, 110, 116, 104, 115] p.mo).length ≤ 100 * 100000 := Nat.le_trans (namX_le _ (okw_kw (by decide)) p.mo (by rcases hv.moL with k | k <;> omega) hv.mo) (by decide)
  have l9 : (namX [100, 97, 121, 115] p.dy).length ≤ 100 * 100000 := Nat.le_trans (namX_le _ (okw_kw (by decide)) p.dy (by rcases hv.dyL with k | k <;> omega) hv.dy) (by decide)
  have h0 := lineS_len ((1, kLoc) :: (1, p.tag) :: parTk p) (by
    intro t ht
    unfold parTk at ht
    split at ht
    · simp only [List.mem_cons, List.not_mem_nil, or_false] at ht
      rcases ht with rfl | rfl
      · exact kw_le (by decide)
      · exact okW_le hv.tag
    · rename_i hp
      simp only [List.mem_cons, List.not_mem_nil, or_false] at ht
      rcases ht with rfl | rfl | rfl | rfl
      · exact kw_le (by decide)
      · exact okW_le hv.tag
      · exact kw_le (by decide)
      · exact okW_le (hv.par.resolve_left hp))
  have h1 : ((1, kLoc) :: (1, p.tag) :: parTk p).length ≤ 4 := by
    unfold parTk
    split
    · simp
    · simp
  rw [show ([109, 111, 110, 116, 104, 115] : Str) = kMon from rfl] at l8
  rw [show ([100, 97, 121, 115] : Str) = kDay from rfl] at l9
  have h2 := Nat.mul_le_mul_left 3003 h1
  unfold loX itsX
  simp only [List.length_append, List.length_cons, List.length_nil]
  omega
set_option maxRecDepth 1000000 in
theorem locsText (v : Value) (l : List Loc) (w : World) (hr : RdLocs w v l) (hs : ∀ x ∈ l, LocR x) (ho : ∀ x ∈ l, LocV x) (hn : l.length ≤ 60) (E : EnvOf8 w) : Calls Tryz.prog 26 #[v, .func (.func 27) #[] #[]] w (Strs (l.flatMap loX) w) := by
  have e : (l.map loX).flatten = l.flatMap loX := List.flatMap_def.symm
  rw [← e]
  obtain ⟨raws, hv, hl, hx⟩ := hr
  refine joinLo_any v raws 27 (enters_of Tryz.func27 (by kernel_rfl) rfl) (l.map loX) (by rw [List.length_map, hl]) (by omega) (fun s hs' => by
    obtain ⟨y, hy, rfl⟩ := List.mem_map.1 hs'
    exact loX_le y (ho y hy)) w hv (fun W1 hb i h h' => ?_)
  rw [List.getElem_map]
  have hi : i < l.length := by omega
  have h3 := hx i h hi
  have hy := List.getElem_mem hi
  have h4 := localeText_any raws[i] l[i] W1 (h3.below hb) (hs _ hy) (ho _ hy) (E.laterZ hb)
  rw [← h3.tag, ← h3.par, ← h3.dir, ← h3.sy] at h4
  exact h4
set_option maxRecDepth 1000000 in
set_option maxHeartbeats 16000000 in
theorem printT_any (w : World) (a b c : RawS) (t : Tab) (E : EnvOf8 w) (hr : RdTab w (.slice a.a a.n a.c) (.slice b.a b.n b.c) (.slice c.a c.n c.c) t) (hs : TabR t) : Calls Tryz.prog 12 #[.agg #[.slice a.a a.n a.c, .slice b.a b.n b.c, .slice c.a c.n c.c]] w (PrPost t w) := by
  have hT := Lib.hid hr
  have hR := Lib.hid hs
  have B0 := Lib.hid ((Below.refl w.heap.size w).alloc (Nat.le_refl _) (.cells #[.slice a.a a.n a.c, .slice b.a b.n b.c, .slice c.a c.n c.c] 27))
  have E0 := Lib.hid (E.laterZ B0.out)
  obtain ⟨W0, hW0⟩ : ∃ W0, w.alloc (.cells #[.slice a.a a.n a.c, .slice b.a b.n b.c, .slice c.a c.n c.c] 27) = W0 := ⟨_, rfl⟩
  have K0 : Hid (Blk w.heap.size 27 #[.slice a.a a.n a.c, .slice b.a b.n b.c, .slice c.a c.n c.c] W0) := Lib.hid (by rw [← hW0]; exact Blk.new w _ _)
  have HW0 := Lib.hid hW0
  rw [hW0] at B0 E0
  obtain ⟨h, hh⟩ : ∃ h, w.heap.size = h := ⟨_, rfl⟩
  have HH := Lib.hid hh
  rw [hh] at K0
  have HCE : Hid (∀ wx, Blk h 27 #[.slice a.a a.n a.c, .slice b.a b.n b.c, .slice c.a c.n c.c] wx → wx.cell? ⟨h, 0, none⟩ = some (.slice a.a a.n a.c) ∧ wx.cell? ⟨h, 1, none⟩ = some (.slice b.a b.n b.c) ∧ wx.cell? ⟨h, 2, none⟩ = some (.slice c.a c.n c.c)) := Lib.hid (fun wx hb => ⟨hb.cell 0, hb.cell 1, hb.cell 2⟩)
  obtain ⟨c0, c1, c2⟩ := HCE.out W0 K0.out
  have HPN : Hid (∀ w', ¬ TabV t → Below w.heap.size w w' → PrPost t w (.returned (.tuple #[.string ⟨#[]⟩, .int .i64 1])) w') := Lib.hid (fun w' hn hb => ⟨⟨[], 1, rfl, fun k => absurd k hn, fun k => absurd k hn, fun _ => ⟨rfl, rfl⟩⟩, hb⟩)
  have HPY : Hid (∀ w', TabV t → (tabX t).length ≤ 200000 → Below w.heap.size w w' → PrPost t w (.returned (.tuple #[.string (ofL (tabX t)), .int .i64 0])) w') := Lib.hid (fun w' hy hl hb => ⟨⟨tabX t, 0, rfl, fun _ _ => ⟨rfl, rfl⟩, fun _ k => absurd hl k, fun k => absurd hy k⟩, hb⟩)
  have HPL : Hid (∀ w', TabV t → ¬ (tabX t).length ≤ 200000 → Below w.heap.size w w' → PrPost t w (.returned (.tuple #[.string ⟨#[]⟩, .int .i64 6])) w') := Lib.hid (fun w' hy hl hb => ⟨⟨[], 6, rfl, fun _ k => absurd k hl, fun _ _ => ⟨rfl, rfl⟩, fun k => absurd hy k⟩, hb⟩)
  obtain ⟨PP, hPP⟩ : ∃ PP, PrPost t w = PP := ⟨_, rfl⟩
  rw [hPP] at HPN HPY HPL ⊢
  clear E hW0 hh hr hs hPP
  go_enter Tryz.func12, Tryz.ntmps12
  go_upto_region 1 with fail
  rw [HW0.out, HH.out]
  clear HW0 HH
  go_wp2_with fail
  refine (validS a b c t _ (hT.out.below B0.out) hR.out).mono ?_
  rintro e w1 ⟨⟨vb, rfl, hvb⟩, b1⟩
  have B1 := Lib.hid (st B0.out b1 B0.out.size)
  have E1 := Lib.hid (E0.out.laterZ b1)
  have K1 := Lib.hid (Blk.below K0.out b1)
  have HVB := Lib.hid hvb
  clear b1 hvb c0 c1 c2 K0 E0 B0
  cases vb with
  | false =>
    have HN : Hid (¬ TabV t) := Lib.hid (fun k => absurd (HVB.out.2 k) (by decide))
    go_wp2_with fail
    exact HPN.out _ HN.out B1.out
  | true =>
    have HY : Hid (TabV t) := Lib.hid (HVB.out.1 (by trivial))
    have hS := Lib.hid HY.out
    have lA : (t.lo.flatMap loX).length ≤ 60 * 100000000 := by
      have e : (t.lo.map loX).flatten = t.lo.flatMap loX := List.flatMap_def.symm
      rw [← e]
      have h1 := flat_bound (t.lo.map loX) 100000000 (fun s hs => by obtain ⟨y, hy, rfl⟩ := List.mem_map.1 hs; exact loX_le y (HY.out.lo y hy))
      rw [List.length_map] at h1
      exact Nat.le_trans h1 (Nat.mul_le_mul_right _ HY.out.loL)
    have lB := flatX_le alX t.al 200 HY.out.alL (fun y hy => alX_le y (HY.out.al y hy))
    have lC := flatX_le neX t.ne 200 HY.out.neL (fun y hy => neX_le y (HY.out.ne y hy))
    have HX : Hid ((t.lo.flatMap loX ++ t.al.flatMap alX) ++ t.ne.flatMap neX = tabX t) := Lib.hid (by unfold tabX; rw [List.append_assoc])
    have e1 : ∃ s, t.lo.flatMap loX = s := ⟨_, rfl⟩
    obtain ⟨s1, hs1⟩ := e1
    obtain ⟨s2, hs2⟩ : ∃ s, t.al.flatMap alX = s := ⟨_, rfl⟩
    obtain ⟨s3, hs3⟩ : ∃ s, t.ne.flatMap neX = s := ⟨_, rfl⟩
    have e1' := Lib.hid hs1
    have e2' := Lib.hid hs2
    have e3' := Lib.hid hs3
    rw [hs1, hs2, hs3] at HX
    rw [hs1] at lA
    rw [hs2] at lB
    rw [hs3] at lC
    have d1 : Hid (∀ wx, (Op.stringOp .add (ofL s1) (ofL s2)).run Tryz.prog wx = .ok (.string (ofL (s1 ++ s2))) wx) := Lib.hid (fun wx => strAddK (by omega) rfl wx)
    have d2 : Hid (∀ wx, (Op.stringOp .add (ofL (s1 ++ s2)) (ofL s3)).run Tryz.prog wx = .ok (.string (ofL (tabX t))) wx) := Lib.hid (fun wx => strAddK (by rw [List.length_append]; omega) HX.out wx)
    obtain ⟨P1, hP1⟩ : ∃ P, s1 ++ s2 = P := ⟨_, rfl⟩
    rw [hP1] at d1 d2
    obtain ⟨X, hX⟩ : ∃ X, tabX t = X := ⟨_, rfl⟩
    rw [hX] at d2 HPY HPL
    clear lA lB lC HX hs1 hs2 hs3 hP1 hX
    go_upto_region 3 with fail
    refine region_hd 10 (fun wx : World => wx.cell? ⟨h, 0, none⟩ = some (.slice a.a a.n a.c) ∧ wx.cell? ⟨h, 1, none⟩ = some (.slice b.a b.n b.c) ∧ wx.cell? ⟨h, 2, none⟩ = some (.slice c.a c.n c.c)) (by kernel_rfl) (by kernel_rfl) ?_
    have K2 := Lib.hid (Blk.below K1.out (Below.refl w1.heap.size w1).drew)
    have B2 := Lib.hid (st B1.out (Below.refl w1.heap.size w1).drew B1.out.size)
    have E2 := Lib.hid (E1.out.laterZ (Below.refl w1.heap.size w1).drew)
    obtain ⟨W2, hW2⟩ : ∃ W2, w1.drew = W2 := ⟨_, rfl⟩
    rw [hW2] at K2 B2 E2 ⊢
    clear hW2 K1 B1 E1
    have hS2 := HCE.out W2 K2.out
    refine hd_taken 0 (some 8) _ ?hdv0 rfl rfl (by kernel_rfl) (fun _ _ _ h => h) (Or.inl ⟨by rfl, ?hdy0⟩) hS2 ?hdr0
    case hdy0 => (intro wx hx; (try dsimp only at hx); go_simp; try with_reducible rfl)
    try simp only [Act.put, List.setIfInBounds_toArray, List.set_cons_zero, List.set_cons_succ]
    refine hd_taken 1 (some 9) _ ?hdv1 rfl rfl (by kernel_rfl) (fun _ _ _ h => h) (Or.inl ⟨by rfl, ?hdy1⟩) hS2 ?hdr1
    case hdy1 => (intro wx hx; (try dsimp only at hx); go_simp; try with_reducible rfl)
    try simp only [Act.put, List.setIfInBounds_toArray, List.set_cons_zero, List.set_cons_succ]
    refine hd_taken 3 (some 11) _ ?hdv3 rfl rfl (by kernel_rfl) (fun _ _ _ h => h) (Or.inl ⟨by rfl, ?hdy3⟩) hS2 ?hdr3
    case hdy3 => (intro wx hx; (try dsimp only at hx); go_simp; try with_reducible rfl)
    try simp only [Act.put, List.setIfInBounds_toArray, List.set_cons_zero, List.set_cons_succ]
    refine hd_taken 4 (some 12) _ ?hdv4 rfl rfl (by kernel_rfl) (fun _ _ _ h => h) (Or.inl ⟨by rfl, ?hdy4⟩) hS2 ?hdr4
    case hdy4 => (intro wx hx; (try dsimp only at hx); go_simp; try with_reducible rfl)
    try simp only [Act.put, List.setIfInBounds_toArray, List.set_cons_zero, List.set_cons_succ]
    refine hd_taken 7 (some 15) _ ?hdv7 rfl rfl (by kernel_rfl) (fun _ _ _ h => h) (Or.inl ⟨by rfl, ?hdy7⟩) hS2 ?hdr7
    case hdy7 => (intro wx hx; (try dsimp only at hx); go_simp; try with_reducible rfl)
    try simp only [Act.put, List.setIfInBounds_toArray, List.set_cons_zero, List.set_cons_succ]
    refine hd_taken 8 (some 16) _ ?hdv8 rfl rfl (by kernel_rfl) (fun _ _ _ h => h) (Or.inl ⟨by rfl, ?hdy8⟩) hS2 ?hdr8
    case hdy8 => (intro wx hx; (try dsimp only at hx); go_simp; try with_reducible rfl)
    try simp only [Act.put, List.setIfInBounds_toArray, List.set_cons_zero, List.set_cons_succ]
    refine hd_one 2 _ rfl (by kernel_rfl) (by decide) (fun K hK => ?_)
    go_simp
    refine (locsText _ t.lo _ (hT.out.lo.below B2.out) hR.out.lo HY.out.lo HY.out.loL E2.out).mono ?_
    rw [e1'.out]
    rintro e W3 ⟨rfl, hb⟩
    try dsimp only
    have K3 := Lib.hid (Blk.below K2.out hb)
    have B3 := Lib.hid (st B2.out hb B2.out.size)
    have E3 := Lib.hid (E2.out.laterZ hb)
    have hS3 := HCE.out W3 K3.out
    refine hK.out _ _ hS3 ?_
    clear hK K hb hS2 K2 B2 E2
    try simp only [Act.put, List.setIfInBounds_toArray, List.set_cons_zero, List.set_cons_succ]
    refine hd_one 5 _ rfl (by kernel_rfl) (by decide) (fun K hK => ?_)
    go_simp
    refine (aliasesText _ t.al _ (hT.out.al.below B3.out) (by have := HY.out.alL; omega) HY.out.al E3.out).mono ?_
    rw [e2'.out]
    rintro e W4 ⟨rfl, hb⟩
    try dsimp only
    have K4 := Lib.hid (Blk.below K3.out hb)
    have B4 := Lib.hid (st B3.out hb B3.out.size)
    have E4 := Lib.hid (E3.out.laterZ hb)
    have hS4 := HCE.out W4 K4.out
    refine hK.out _ _ hS4 ?_
    clear hK K hb hS3 K3 B3 E3
    try simp only [Act.put, List.setIfInBounds_toArray, List.set_cons_zero, List.set_cons_succ]
    have m1 := d1.out
    refine hd_taken 6 (some 14) _ ?hdv6 rfl rfl (by kernel_rfl) (fun _ _ _ h => h) (Or.inl ⟨by rfl, ?hdy6⟩) hS4 ?hdr6
    case hdy6 => (intro wx hx; (try dsimp only at hx); go_simp; try with_reducible rfl)
    try simp only [Act.put, List.setIfInBounds_toArray, List.set_cons_zero, List.set_cons_succ]
    clear m1
    refine hd_one 9 _ rfl (by kernel_rfl) (by decide) (fun K hK => ?_)
    go_simp
    refine (nearsText _ t.ne _ (hT.out.ne.below B4.out) (by have := HY.out.neL; omega) HY.out.ne E4.out).mono ?_
    rw [e3'.out]
    rintro e W5 ⟨rfl, hb⟩
    try dsimp only
    have K5 := Lib.hid (Blk.below K4.out hb)
    have B5 := Lib.hid (st B4.out hb B4.out.size)
    have E5 := Lib.hid (E4.out.laterZ hb)
    have hS5 := HCE.out W5 K5.out
    refine hK.out _ _ hS5 ?_
    clear hK K hb hS4 K4 B4 E4
    try simp only [Act.put, List.setIfInBounds_toArray, List.set_cons_zero, List.set_cons_succ]
    refine hd_done (by kernel_rfl) ?_
    simp only [List.drop_succ_cons, List.drop_zero]
    clear hS5
    have m2 := d2.out
    have zs := ofL_size X
    obtain ⟨Z, hZ⟩ : ∃ Z, ofL X = Z := ⟨_, rfl⟩
    rw [hZ] at m2 HPY zs
    obtain ⟨n, hn⟩ : ∃ n, X.length = n := ⟨_, rfl⟩
    rw [hn] at zs HPY HPL
    by_cases hl : n ≤ 200000
    · have q1 : ¬ (200000 : Int) < (n : Int) := by omega
      have q2 : ¬ 200000 < n := by omega
      have HLE := Lib.hid hl
      clear hl hZ hn
      go_wp2_with fail
      exact HPY.out _ HY.out HLE.out B5.out
    · have q1 : (200000 : Int) < (n : Int) := by omega
      have q2 : 200000 < n := by omega
      have HLE := Lib.hid hl
      clear hl hZ hn
      go_wp2_with fail
      exact HPL.out _ HY.out HLE.out B5.out
end Go.Proofs.YtpmmchppfmojhaaGreatDoor


/- The program keeps what TableConditions wants. -/
namespace Go.Proofs.YtpmmchppfmojhaaGreatDoor
open Go.RowKit
set_option linter.unusedVariables false

set_option maxRecDepth 100000 in
def cndC : CndC := ⟨EnvOf8, fun h hb => h.laterZ hb, fun w E => awakeA_any w E, fun w a b c t E h hs => printT_any w a b c t E h hs.reach, fun w a b c t E h hs => validS a b c t w h hs.reach⟩
end Go.Proofs.YtpmmchppfmojhaaGreatDoor


