/- What the row stands on, part 29. -/
import Derived.Test.YtpmmchppfmojhaaGreatDoorQ28

/- Of the program's table package: the lines of units, dates, near entries. -/
namespace Go.Proofs.YtpmmchppfmojhaaGreatDoor
open Go.RowKit
set_option linter.unusedVariables false

set_option maxRecDepth 1000000 in
set_option maxHeartbeats 8000000 in
theorem unitItem_any (y : Uni) (h1 : okW y.un) (h2 : okW y.cl) (h3 : okX y.pt) (w : World) (E : Env w) : Calls Tryz.prog 68 #[.agg #[.string (ofL y.un), .string (ofL y.cl), .string (ofL y.pt)]] w (Strs (unX y) w) := by
  have HOK : Hid (OkL [(tksOf 1 [([117, 110, 105, 116] : Str), y.un, y.cl]), (tksOf 2 [y.pt])].flatten) := Lib.hid (okL2 (okL_w (by intro s hs; simp only [List.mem_cons, List.not_mem_nil, or_false] at hs; rcases hs with rfl | rfl | rfl <;> first | assumption | exact okw_kw (by decide))) (okL_x (by intro s hs; simp only [List.mem_cons, List.not_mem_nil, or_false] at hs; subst hs <;> assumption)))
  have HRES : Hid (itX ([(tksOf 1 [([117, 110, 105, 116] : Str), y.un, y.cl]), (tksOf 2 [y.pt])].flatten.map ktZ) = unX y) := Lib.hid (by rfl)
  have K0 := Lib.hid (Blk.new w 120 #[.string (ofL y.un), .string (ofL y.cl), .string (ofL y.pt)])
  have B0 := Lib.hid ((Below.refl w.heap.size w).alloc (Nat.le_refl _) (.cells #[.string (ofL y.un), .string (ofL y.cl), .string (ofL y.pt)] 120))
  have E0 := Lib.hid (E.below B0.out)
  obtain ⟨W0, hW0⟩ : ∃ W0, w.alloc (.cells #[.string (ofL y.un), .string (ofL y.cl), .string (ofL y.pt)] 120) = W0 := ⟨_, rfl⟩
  have HW0 := Lib.hid hW0
  rw [hW0] at K0 B0 E0
  obtain ⟨h, hh⟩ : ∃ h, w.heap.size = h := ⟨_, rfl⟩
  have HH := Lib.hid hh
  rw [hh] at K0
  have HCE : Hid (∀ wx, Blk h 120 #[.string (ofL y.un), .string (ofL y.cl), .string (ofL y.pt)] wx → wx.cell? ⟨h, 0, none⟩ = some (.string (ofL y.un)) ∧ wx.cell? ⟨h, 1, none⟩ = some (.string (ofL y.cl)) ∧ wx.cell? ⟨h, 2, none⟩ = some (.string (ofL y.pt))) := Lib.hid (fun wx hb => ⟨hb.cell 0, hb.cell 1, hb.cell 2⟩)
  clear E hW0 hh
  go_enter Tryz.func68, Tryz.ntmps68
  go_upto_region 1 with fail
  rw [HW0.out, HH.out]
  clear HW0 HH
  refine region_hd 10 (fun wx : World => wx.cell? ⟨h, 0, none⟩ = some (.string (ofL y.un)) ∧ wx.cell? ⟨h, 1, none⟩ = some (.string (ofL y.cl)) ∧ wx.cell? ⟨h, 2, none⟩ = some (.string (ofL y.pt))) (by kernel_rfl) (by kernel_rfl) ?_
  have K1 := Lib.hid (Blk.below K0.out (Below.refl W0.heap.size W0).drew)
  have B1 := Lib.hid (st B0.out (Below.refl W0.heap.size W0).drew B0.out.size)
  have E1 := Lib.hid (E0.out.below (Below.refl W0.heap.size W0).drew)
  obtain ⟨W1, hW1⟩ : ∃ W1, W0.drew = W1 := ⟨_, rfl⟩
  rw [hW1] at K1 B1 E1 ⊢
  clear hW1 K0 B0 E0
  have hS := HCE.out W1 K1.out
  refine hd_taken 0 (some 3) _ ?hdv0 rfl rfl (by kernel_rfl) (fun _ _ _ h => h) (Or.inl ⟨by rfl, ?hdy0⟩) hS ?hdr0
  case hdy0 => (intro wx hx; (try dsimp only at hx); go_simp; try with_reducible rfl)
  try simp only [Act.put, List.setIfInBounds_toArray, List.set_cons_zero, List.set_cons_succ]
  refine hd_taken 1 (some 4) _ ?hdv1 rfl rfl (by kernel_rfl) (fun _ _ _ h => h) (Or.inl ⟨by rfl, ?hdy1⟩) hS ?hdr1
  case hdy1 => (intro wx hx; (try dsimp only at hx); go_simp; try with_reducible rfl)
  try simp only [Act.put, List.setIfInBounds_toArray, List.set_cons_zero, List.set_cons_succ]
  refine hd_taken 2 (some 5) _ ?hdv2 rfl rfl (by kernel_rfl) (fun _ _ _ h => h) (Or.inl ⟨by rfl, ?hdy2⟩) hS ?hdr2
  case hdy2 => (intro wx hx; (try dsimp only at hx); go_simp; try with_reducible rfl)
  try simp only [Act.put, List.setIfInBounds_toArray, List.set_cons_zero, List.set_cons_succ]
  refine hd_taken 3 (some 6) _ ?hdv3 rfl rfl (by kernel_rfl) (fun _ _ _ h => h) (Or.inl ⟨by rfl, ?hdy3⟩) hS ?hdr3
  case hdy3 => (intro wx hx; (try dsimp only at hx); go_simp; try with_reducible rfl)
  try simp only [Act.put, List.setIfInBounds_toArray, List.set_cons_zero, List.set_cons_succ]
  refine hd_taken 6 (some 9) _ ?hdv6 rfl rfl (by kernel_rfl) (fun _ _ _ h => h) (Or.inl ⟨by rfl, ?hdy6⟩) hS ?hdr6
  case hdy6 => (intro wx hx; (try dsimp only at hx); go_simp; try with_reducible rfl)
  try simp only [Act.put, List.setIfInBounds_toArray, List.set_cons_zero, List.set_cons_succ]
  refine hd_taken 7 (some 10) _ ?hdv7 rfl rfl (by kernel_rfl) (fun _ _ _ h => h) (Or.inl ⟨by rfl, ?hdy7⟩) hS ?hdr7
  case hdy7 => (intro wx hx; (try dsimp only at hx); go_simp; try with_reducible rfl)
  try simp only [Act.put, List.setIfInBounds_toArray, List.set_cons_zero, List.set_cons_succ]
  refine hd_two 4 8 _ _ rfl rfl (by kernel_rfl) (by decide) (by decide) (fun K hK => ?_) (fun K hK => ?_)
  · have K2 := Lib.hid (Blk.alloc K1.out (.cells #[.string ⟨#[117, 110, 105, 116]⟩, .string (ofL y.un), .string (ofL y.cl)] 9))
    have B2 := Lib.hid (B1.out.alloc B1.out.size (.cells #[.string ⟨#[117, 110, 105, 116]⟩, .string (ofL y.un), .string (ofL y.cl)] 9))
    have E2 := Lib.hid (E1.out.below ((Below.refl _ _).alloc (Nat.le_refl _) (.cells #[.string ⟨#[117, 110, 105, 116]⟩, .string (ofL y.un), .string (ofL y.cl)] 9)))
    have RA2 : Hid (Rd 1 encT (W1.alloc (.cells #[.string ⟨#[117, 110, 105, 116]⟩, .string (ofL y.un), .string (ofL y.cl)] 9)) (.slice (some ⟨W1.heap.size, 0, none⟩) 3 3) [([117, 110, 105, 116] : Str), y.un, y.cl]) := Lib.hid (own_strs3K W1 (([117, 110, 105, 116] : Str)) (y.un) (y.cl))
    go_simp
    refine hK.out _ _ (HCE.out _ K2.out) ?_
    clear hK K
    obtain ⟨W2, hW⟩ : ∃ X, W1.alloc (.cells #[.string ⟨#[117, 110, 105, 116]⟩, .string (ofL y.un), .string (ofL y.cl)] 9) = X := ⟨_, rfl⟩
    rw [hW] at K2 B2 E2 RA2 ⊢
    obtain ⟨gA2, hg⟩ : ∃ g, W1.heap.size = g := ⟨_, rfl⟩
    rw [hg] at RA2 ⊢
    clear hW hg K1 B1 E1 
    try simp only [Act.put, List.setIfInBounds_toArray, List.set_cons_zero, List.set_cons_succ]
    refine hd_two 5 8 _ _ rfl rfl (by kernel_rfl) (by decide) (by decide) (fun K hK => ?_) (fun K hK => ?_)
    · go_simp
      refine (wordsK_any _ [([117, 110, 105, 116] : Str), y.un, y.cl] _ RA2.out (by simp)).mono ?_
      rintro e W3 ⟨⟨x3, c3, rfl, hr⟩, hb⟩
      try dsimp only
      have TA3 := Lib.hid hr
      have K3 := Lib.hid (Blk.below K2.out hb)
      have B3 := Lib.hid (st B2.out hb B2.out.size)
      have E3 := Lib.hid (E2.out.below hb)
      refine hK.out _ _ (HCE.out _ K3.out) ?_
      clear hK K hr hb K2 B2 E2 RA2
      try simp only [Act.put, List.setIfInBounds_toArray, List.set_cons_zero, List.set_cons_succ]
      refine hd_one 8 _ rfl (by kernel_rfl) (by decide) (fun K hK => ?_)
      have K4 := Lib.hid (Blk.alloc K3.out (.cells #[.string (ofL y.pt)] 9))
      have B4 := Lib.hid (B3.out.alloc B3.out.size (.cells #[.string (ofL y.pt)] 9))
      have E4 := Lib.hid (E3.out.below ((Below.refl _ _).alloc (Nat.le_refl _) (.cells #[.string (ofL y.pt)] 9)))
      have TA4 := Lib.hid (TA3.out.alloc (.cells #[.string (ofL y.pt)] 9))
      have RB4 : Hid (Rd 1 encT (W3.alloc (.cells #[.string (ofL y.pt)] 9)) (.slice (some ⟨W3.heap.size, 0, none⟩) 1 1) [y.pt]) := Lib.hid (own_strs1K W3 (y.pt))
      go_simp
      refine hK.out _ _ (HCE.out _ K4.out) ?_
      clear hK K
      obtain ⟨W4, hW⟩ : ∃ X, W3.alloc (.cells #[.string (ofL y.pt)] 9) = X := ⟨_, rfl⟩
      rw [hW] at K4 B4 E4 TA4 RB4 ⊢
      obtain ⟨gB4, hg⟩ : ∃ g, W3.heap.size = g := ⟨_, rfl⟩
      rw [hg] at RB4 ⊢
      clear hW hg K3 B3 E3 TA3
      try simp only [Act.put, List.setIfInBounds_toArray, List.set_cons_zero, List.set_cons_succ]
      refine hd_one 9 _ rfl (by kernel_rfl) (by decide) (fun K hK => ?_)
      go_simp
      refine (textsK_any _ [y.pt] _ RB4.out (by simp)).mono ?_
      rintro e W5 ⟨⟨x5, c5, rfl, hr⟩, hb⟩
      try dsimp only
      have TB5 := Lib.hid hr
      have K5 := Lib.hid (Blk.below K4.out hb)
      have B5 := Lib.hid (st B4.out hb B4.out.size)
      have E5 := Lib.hid (E4.out.below hb)
      have TA5 := Lib.hid (TA4.out.below hb)
      refine hK.out _ _ (HCE.out _ K5.out) ?_
      clear hK K hr hb K4 B4 E4 TA4 RB4
      try simp only [Act.put, List.setIfInBounds_toArray, List.set_cons_zero, List.set_cons_succ]
      refine hd_done (by kernel_rfl) ?_
      simp only [List.drop_succ_cons, List.drop_zero]
      go_wp2_with fail
      have hLL := own_LL2 W5 _ _ _ _ _ _ _ _ TA5.out TB5.out
      refine (item_any [(tksOf 1 [([117, 110, 105, 116] : Str), y.un, y.cl]), (tksOf 2 [y.pt])] (by show 0 < 4; omega) (by show 4 ≤ 100; omega) HOK.out _ _ hLL (E5.out.below ((Below.refl _ _).alloc (Nat.le_refl _) _))).mono ?_
      rintro e w9 ⟨rfl, b9⟩
      have B9 := Lib.hid (st (B5.out.alloc B5.out.size _) b9 (B5.out.alloc B5.out.size _).size)
      rw [HRES.out]
      clear b9 hLL
      go_wp2_with fail
      go_ret
      exact ⟨rfl, B9.out⟩
    · have K6 := Lib.hid (Blk.alloc K2.out (.cells #[.string (ofL y.pt)] 9))
      have B6 := Lib.hid (B2.out.alloc B2.out.size (.cells #[.string (ofL y.pt)] 9))
      have E6 := Lib.hid (E2.out.below ((Below.refl _ _).alloc (Nat.le_refl _) (.cells #[.string (ofL y.pt)] 9)))
      have RA6 := Lib.hid (RA2.out.alloc (.cells #[.string (ofL y.pt)] 9))
      have RB6 : Hid (Rd 1 encT (W2.alloc (.cells #[.string (ofL y.pt)] 9)) (.slice (some ⟨W2.heap.size, 0, none⟩) 1 1) [y.pt]) := Lib.hid (own_strs1K W2 (y.pt))
      go_simp
      refine hK.out _ _ (HCE.out _ K6.out) ?_
      clear hK K
      obtain ⟨W6, hW⟩ : ∃ X, W2.alloc (.cells #[.string (ofL y.pt)] 9) = X := ⟨_, rfl⟩
      rw [hW] at K6 B6 E6 RA6 RB6 ⊢
      obtain ⟨gB6, hg⟩ : ∃ g, W2.heap.size = g := ⟨_, rfl⟩
      rw [hg] at RB6 ⊢
      clear hW hg K2 B2 E2 RA2
      try simp only [Act.put, List.setIfInBounds_toArray, List.set_cons_zero, List.set_cons_succ]
      refine hd_one 5 _ rfl (by kernel_rfl) (by decide) (fun K hK => ?_)
      go_simp
      refine (wordsK_any _ [([117, 110, 105, 116] : Str), y.un, y.cl] _ RA6.out (by simp)).mono ?_
      rintro e W7 ⟨⟨x7, c7, rfl, hr⟩, hb⟩
      try dsimp only
      have TA7 := Lib.hid hr
      have K7 := Lib.hid (Blk.below K6.out hb)
      have B7 := Lib.hid (st B6.out hb B6.out.size)
      have E7 := Lib.hid (E6.out.below hb)
      have RB7 := Lib.hid (RB6.out.below hb)
      refine hK.out _ _ (HCE.out _ K7.out) ?_
      clear hK K hr hb K6 B6 E6 RA6 RB6
      try simp only [Act.put, List.setIfInBounds_toArray, List.set_cons_zero, List.set_cons_succ]
      refine hd_one 9 _ rfl (by kernel_rfl) (by decide) (fun K hK => ?_)
      go_simp
      refine (textsK_any _ [y.pt] _ RB7.out (by simp)).mono ?_
      rintro e W8 ⟨⟨x8, c8, rfl, hr⟩, hb⟩
      try dsimp only
      have TB8 := Lib.hid hr
      have K8 := Lib.hid (Blk.below K7.out hb)
      have B8 := Lib.hid (st B7.out hb B7.out.size)
      have E8 := Lib.hid (E7.out.below hb)
      have TA8 := Lib.hid (TA7.out.below hb)
      refine hK.out _ _ (HCE.out _ K8.out) ?_
      clear hK K hr hb K7 B7 E7 RB7 TA7
      try simp only [Act.put, List.setIfInBounds_toArray, List.set_cons_zero, List.set_cons_succ]
      refine hd_done (by kernel_rfl) ?_
      simp only [List.drop_succ_cons, List.drop_zero]
      go_wp2_with fail
      have hLL := own_LL2 W8 _ _ _ _ _ _ _ _ TA8.out TB8.out
      refine (item_any [(tksOf 1 [([117, 110, 105, 116] : Str), y.un, y.cl]), (tksOf 2 [y.pt])] (by show 0 < 4; omega) (by show 4 ≤ 100; omega) HOK.out _ _ hLL (E8.out.below ((Below.refl _ _).alloc (Nat.le_refl _) _))).mono ?_
      rintro e w9 ⟨rfl, b9⟩
      have B9 := Lib.hid (st (B8.out.alloc B8.out.size _) b9 (B8.out.alloc B8.out.size _).size)
      rw [HRES.out]
      clear b9 hLL
      go_wp2_with fail
      go_ret
      exact ⟨rfl, B9.out⟩
  · have K9 := Lib.hid (Blk.alloc K1.out (.cells #[.string (ofL y.pt)] 9))
    have B9 := Lib.hid (B1.out.alloc B1.out.size (.cells #[.string (ofL y.pt)] 9))
    have E9 := Lib.hid (E1.out.below ((Below.refl _ _).alloc (Nat.le_refl _) (.cells #[.string (ofL y.pt)] 9)))
    have RB9 : Hid (Rd 1 encT (W1.alloc (.cells #[.string (ofL y.pt)] 9)) (.slice (some ⟨W1.heap.size, 0, none⟩) 1 1) [y.pt]) := Lib.hid (own_strs1K W1 (y.pt))
    go_simp
    refine hK.out _ _ (HCE.out _ K9.out) ?_
    clear hK K
    obtain ⟨W9, hW⟩ : ∃ X, W1.alloc (.cells #[.string (ofL y.pt)] 9) = X := ⟨_, rfl⟩
    rw [hW] at K9 B9 E9 RB9 ⊢
    obtain ⟨gB9, hg⟩ : ∃ g, W1.heap.size = g := ⟨_, rfl⟩
    rw [hg] at RB9 ⊢
    clear hW hg K1 B1 E1 
    try simp only [Act.put, List.setIfInBounds_toArray, List.set_cons_zero, List.set_cons_succ]
    refine hd_one 4 _ rfl (by kernel_rfl) (by decide) (fun K hK => ?_)
    have K10 := Lib.hid (Blk.alloc K9.out (.cells #[.string ⟨#[117, 110, 105, 116]⟩, .string (ofL y.un), .string (ofL y.cl)] 9))
    have B10 := Lib.hid (B9.out.alloc B9.out.size (.cells #[.string ⟨#[117, 110, 105, 116]⟩, .string (ofL y.un), .string (ofL y.cl)] 9))
    have E10 := Lib.hid (E9.out.below ((Below.refl _ _).alloc (Nat.le_refl _) (.cells #[.string ⟨#[117, 110, 105, 116]⟩, .string (ofL y.un), .string (ofL y.cl)] 9)))
    have RB10 := Lib.hid (RB9.out.alloc (.cells #[.string ⟨#[117, 110, 105, 116]⟩, .string (ofL y.un), .string (ofL y.cl)] 9))
    have RA10 : Hid (Rd 1 encT (W9.alloc (.cells #[.string ⟨#[117, 110, 105, 116]⟩, .string (ofL y.un), .string (ofL y.cl)] 9)) (.slice (some ⟨W9.heap.size, 0, none⟩) 3 3) [([117, 110, 105, 116] : Str), y.un, y.cl]) := Lib.hid (own_strs3K W9 (([117, 110, 105, 116] : Str)) (y.un) (y.cl))
    go_simp
    refine hK.out _ _ (HCE.out _ K10.out) ?_
    clear hK K
    obtain ⟨W10, hW⟩ : ∃ X, W9.alloc (.cells #[.string ⟨#[117, 110, 105, 116]⟩, .string (ofL y.un), .string (ofL y.cl)] 9) = X := ⟨_, rfl⟩
    rw [hW] at K10 B10 E10 RB10 RA10 ⊢
    obtain ⟨gA10, hg⟩ : ∃ g, W9.heap.size = g := ⟨_, rfl⟩
    rw [hg] at RA10 ⊢
    clear hW hg K9 B9 E9 RB9
    try simp only [Act.put, List.setIfInBounds_toArray, List.set_cons_zero, List.set_cons_succ]
    refine hd_one 5 _ rfl (by kernel_rfl) (by decide) (fun K hK => ?_)
    go_simp
    refine (wordsK_any _ [([117, 110, 105, 116] : Str), y.un, y.cl] _ RA10.out (by simp)).mono ?_
    rintro e W11 ⟨⟨x11, c11, rfl, hr⟩, hb⟩
    try dsimp only
    have TA11 := Lib.hid hr
    have K11 := Lib.hid (Blk.below K10.out hb)
    have B11 := Lib.hid (st B10.out hb B10.out.size)
    have E11 := Lib.hid (E10.out.below hb)
    have RB11 := Lib.hid (RB10.out.below hb)
    refine hK.out _ _ (HCE.out _ K11.out) ?_
    clear hK K hr hb K10 B10 E10 RB10 RA10
    try simp only [Act.put, List.setIfInBounds_toArray, List.set_cons_zero, List.set_cons_succ]
    refine hd_one 9 _ rfl (by kernel_rfl) (by decide) (fun K hK => ?_)
    go_simp
    refine (textsK_any _ [y.pt] _ RB11.out (by simp)).mono ?_
    rintro e W12 ⟨⟨x12, c12, rfl, hr⟩, hb⟩
    try dsimp only
    have TB12 := Lib.hid hr
    have K12 := Lib.hid (Blk.below K11.out hb)
    have B12 := Lib.hid (st B11.out hb B11.out.size)
    have E12 := Lib.hid (E11.out.below hb)
    have TA12 := Lib.hid (TA11.out.below hb)
    refine hK.out _ _ (HCE.out _ K12.out) ?_
    clear hK K hr hb K11 B11 E11 RB11 TA11
    try simp only [Act.put, List.setIfInBounds_toArray, List.set_cons_zero, List.set_cons_succ]
    refine hd_done (by kernel_rfl) ?_
    simp only [List.drop_succ_cons, List.drop_zero]
    go_wp2_with fail
    have hLL := own_LL2 W12 _ _ _ _ _ _ _ _ TA12.out TB12.out
    refine (item_any [(tksOf 1 [([117, 110, 105, 116] : Str), y.un, y.cl]), (tksOf 2 [y.pt])] (by show 0 < 4; omega) (by show 4 ≤ 100; omega) HOK.out _ _ hLL (E12.out.below ((Below.refl _ _).alloc (Nat.le_refl _) _))).mono ?_
    rintro e w9 ⟨rfl, b9⟩
    have B9 := Lib.hid (st (B12.out.alloc B12.out.size _) b9 (B12.out.alloc B12.out.size _).size)
    rw [HRES.out]
    clear b9 hLL
    go_wp2_with fail
    go_ret
    exact ⟨rfl, B9.out⟩
set_option maxRecDepth 1000000 in
set_option maxHeartbeats 8000000 in
theorem dateItem_any (y : Str × Str) (h1 : okW y.1) (h2 : okX y.2) (w : World) (E : Env w) : Calls Tryz.prog 70 #[.agg #[.string (ofL y.1), .string (ofL y.2)]] w (Strs (daX y) w) := by
  have HOK : Hid (OkL [(tksOf 1 [([100, 97, 116, 101] : Str), y.1]), (tksOf 2 [y.2])].flatten) := Lib.hid (okL2 (okL_w (by intro s hs; simp only [List.mem_cons, List.not_mem_nil, or_false] at hs; rcases hs with rfl | rfl <;> first | assumption | exact okw_kw (by decide))) (okL_x (by intro s hs; simp only [List.mem_cons, List.not_mem_nil, or_false] at hs; subst hs <;> assumption)))
  have HRES : Hid (itX ([(tksOf 1 [([100, 97, 116, 101] : Str), y.1]), (tksOf 2 [y.2])].flatten.map ktZ) = daX y) := Lib.hid (by rfl)
  have K0 := Lib.hid (Blk.new w 124 #[.string (ofL y.1), .string (ofL y.2)])
  have B0 := Lib.hid ((Below.refl w.heap.size w).alloc (Nat.le_refl _) (.cells #[.string (ofL y.1), .string (ofL y.2)] 124))
  have E0 := Lib.hid (E.below B0.out)
  obtain ⟨W0, hW0⟩ : ∃ W0, w.alloc (.cells #[.string (ofL y.1), .string (ofL y.2)] 124) = W0 := ⟨_, rfl⟩
  have HW0 := Lib.hid hW0
  rw [hW0] at K0 B0 E0
  obtain ⟨h, hh⟩ : ∃ h, w.heap.size = h := ⟨_, rfl⟩
  have HH := Lib.hid hh
  rw [hh] at K0
  have HCE : Hid (∀ wx, Blk h 124 #[.string (ofL y.1), .string (ofL y.2)] wx → wx.cell? ⟨h, 0, none⟩ = some (.string (ofL y.1)) ∧ wx.cell? ⟨h, 1, none⟩ = some (.string (ofL y.2))) := Lib.hid (fun wx hb => ⟨hb.cell 0, hb.cell 1⟩)
  clear E hW0 hh
  go_enter Tryz.func70, Tryz.ntmps70
  go_upto_region 1 with fail
  rw [HW0.out, HH.out]
  clear HW0 HH
  refine region_hd 8 (fun wx : World => wx.cell? ⟨h, 0, none⟩ = some (.string (ofL y.1)) ∧ wx.cell? ⟨h, 1, none⟩ = some (.string (ofL y.2))) (by kernel_rfl) (by kernel_rfl) ?_
  have K1 := Lib.hid (Blk.below K0.out (Below.refl W0.heap.size W0).drew)
  have B1 := Lib.hid (st B0.out (Below.refl W0.heap.size W0).drew B0.out.size)
  have E1 := Lib.hid (E0.out.below (Below.refl W0.heap.size W0).drew)
  obtain ⟨W1, hW1⟩ : ∃ W1, W0.drew = W1 := ⟨_, rfl⟩
  rw [hW1] at K1 B1 E1 ⊢
  clear hW1 K0 B0 E0
  have hS := HCE.out W1 K1.out
  refine hd_taken 0 (some 3) _ ?hdv0 rfl rfl (by kernel_rfl) (fun _ _ _ h => h) (Or.inl ⟨by rfl, ?hdy0⟩) hS ?hdr0
  case hdy0 => (intro wx hx; (try dsimp only at hx); go_simp; try with_reducible rfl)
  try simp only [Act.put, List.setIfInBounds_toArray, List.set_cons_zero, List.set_cons_succ]
  refine hd_taken 1 (some 4) _ ?hdv1 rfl rfl (by kernel_rfl) (fun _ _ _ h => h) (Or.inl ⟨by rfl, ?hdy1⟩) hS ?hdr1
  case hdy1 => (intro wx hx; (try dsimp only at hx); go_simp; try with_reducible rfl)
  try simp only [Act.put, List.setIfInBounds_toArray, List.set_cons_zero, List.set_cons_succ]
  refine hd_taken 4 (some 7) _ ?hdv4 rfl rfl (by kernel_rfl) (fun _ _ _ h => h) (Or.inl ⟨by rfl, ?hdy4⟩) hS ?hdr4
  case hdy4 => (intro wx hx; (try dsimp only at hx); go_simp; try with_reducible rfl)
  try simp only [Act.put, List.setIfInBounds_toArray, List.set_cons_zero, List.set_cons_succ]
  refine hd_taken 5 (some 8) _ ?hdv5 rfl rfl (by kernel_rfl) (fun _ _ _ h => h) (Or.inl ⟨by rfl, ?hdy5⟩) hS ?hdr5
  case hdy5 => (intro wx hx; (try dsimp only at hx); go_simp; try with_reducible rfl)
  try simp only [Act.put, List.setIfInBounds_toArray, List.set_cons_zero, List.set_cons_succ]
  refine hd_two 2 6 _ _ rfl rfl (by kernel_rfl) (by decide) (by decide) (fun K hK => ?_) (fun K hK => ?_)
  · have K2 := Lib.hid (Blk.alloc K1.out (.cells #[.string ⟨#[100, 97, 116, 101]⟩, .string (ofL y.1)] 9))
    have B2 := Lib.hid (B1.out.alloc B1.out.size (.cells #[.string ⟨#[100, 97, 116, 101]⟩, .string (ofL y.1)] 9))
    have E2 := Lib.hid (E1.out.below ((Below.refl _ _).alloc (Nat.le_refl _) (.cells #[.string ⟨#[100, 97, 116, 101]⟩, .string (ofL y.1)] 9)))
    have RA2 : Hid (Rd 1 encT (W1.alloc (.cells #[.string ⟨#[100, 97, 116, 101]⟩, .string (ofL y.1)] 9)) (.slice (some ⟨W1.heap.size, 0, none⟩) 2 2) [([100, 97, 116, 101] : Str), y.1]) := Lib.hid (own_strs2K W1 (([100, 97, 116, 101] : Str)) (y.1))
    go_simp
    refine hK.out _ _ (HCE.out _ K2.out) ?_
    clear hK K
    obtain ⟨W2, hW⟩ : ∃ X, W1.alloc (.cells #[.string ⟨#[100, 97, 116, 101]⟩, .string (ofL y.1)] 9) = X := ⟨_, rfl⟩
    rw [hW] at K2 B2 E2 RA2 ⊢
    obtain ⟨gA2, hg⟩ : ∃ g, W1.heap.size = g := ⟨_, rfl⟩
    rw [hg] at RA2 ⊢
    clear hW hg K1 B1 E1 
    try simp only [Act.put, List.setIfInBounds_toArray, List.set_cons_zero, List.set_cons_succ]
    refine hd_two 3 6 _ _ rfl rfl (by kernel_rfl) (by decide) (by decide) (fun K hK => ?_) (fun K hK => ?_)
    · go_simp
      refine (wordsK_any _ [([100, 97, 116, 101] : Str), y.1] _ RA2.out (by simp)).mono ?_
      rintro e W3 ⟨⟨x3, c3, rfl, hr⟩, hb⟩
      try dsimp only
      have TA3 := Lib.hid hr
      have K3 := Lib.hid (Blk.below K2.out hb)
      have B3 := Lib.hid (st B2.out hb B2.out.size)
      have E3 := Lib.hid (E2.out.below hb)
      refine hK.out _ _ (HCE.out _ K3.out) ?_
      clear hK K hr hb K2 B2 E2 RA2
      try simp only [Act.put, List.setIfInBounds_toArray, List.set_cons_zero, List.set_cons_succ]
      refine hd_one 6 _ rfl (by kernel_rfl) (by decide) (fun K hK => ?_)
      have K4 := Lib.hid (Blk.alloc K3.out (.cells #[.string (ofL y.2)] 9))
      have B4 := Lib.hid (B3.out.alloc B3.out.size (.cells #[.string (ofL y.2)] 9))
      have E4 := Lib.hid (E3.out.below ((Below.refl _ _).alloc (Nat.le_refl _) (.cells #[.string (ofL y.2)] 9)))
      have TA4 := Lib.hid (TA3.out.alloc (.cells #[.string (ofL y.2)] 9))
      have RB4 : Hid (Rd 1 encT (W3.alloc (.cells #[.string (ofL y.2)] 9)) (.slice (some ⟨W3.heap.size, 0, none⟩) 1 1) [y.2]) := Lib.hid (own_strs1K W3 (y.2))
      go_simp
      refine hK.out _ _ (HCE.out _ K4.out) ?_
      clear hK K
      obtain ⟨W4, hW⟩ : ∃ X, W3.alloc (.cells #[.string (ofL y.2)] 9) = X := ⟨_, rfl⟩
      rw [hW] at K4 B4 E4 TA4 RB4 ⊢
      obtain ⟨gB4, hg⟩ : ∃ g, W3.heap.size = g := ⟨_, rfl⟩
      rw [hg] at RB4 ⊢
      clear hW hg K3 B3 E3 TA3
      try simp only [Act.put, List.setIfInBounds_toArray, List.set_cons_zero, List.set_cons_succ]
      refine hd_one 7 _ rfl (by kernel_rfl) (by decide) (fun K hK => ?_)
      go_simp
      refine (textsK_any _ [y.2] _ RB4.out (by simp)).mono ?_
      rintro e W5 ⟨⟨x5, c5, rfl, hr⟩, hb⟩
      try dsimp only
      have TB5 := Lib.hid hr
      have K5 := Lib.hid (Blk.below K4.out hb)
      have B5 := Lib.hid (st B4.out hb B4.out.size)
      have E5 := Lib.hid (E4.out.below hb)
      have TA5 := Lib.hid (TA4.out.below hb)
      refine hK.out _ _ (HCE.out _ K5.out) ?_
      clear hK K hr hb K4 B4 E4 TA4 RB4
      try simp only [Act.put, List.setIfInBounds_toArray, List.set_cons_zero, List.set_cons_succ]
      refine hd_done (by kernel_rfl) ?_
      simp only [List.drop_succ_cons, List.drop_zero]
      go_wp2_with fail
      have hLL := own_LL2 W5 _ _ _ _ _ _ _ _ TA5.out TB5.out
      refine (item_any [(tksOf 1 [([100, 97, 116, 101] : Str), y.1]), (tksOf 2 [y.2])] (by show 0 < 3; omega) (by show 3 ≤ 100; omega) HOK.out _ _ hLL (E5.out.below ((Below.refl _ _).alloc (Nat.le_refl _) _))).mono ?_
      rintro e w9 ⟨rfl, b9⟩
      have B9 := Lib.hid (st (B5.out.alloc B5.out.size _) b9 (B5.out.alloc B5.out.size _).size)
      rw [HRES.out]
      clear b9 hLL
      go_wp2_with fail
      go_ret
      exact ⟨rfl, B9.out⟩
    · have K6 := Lib.hid (Blk.alloc K2.out (.cells #[.string (ofL y.2)] 9))
      have B6 := Lib.hid (B2.out.alloc B2.out.size (.cells #[.string (ofL y.2)] 9))
      have E6 := Lib.hid (E2.out.below ((Below.refl _ _).alloc (Nat.le_refl _) (.cells #[.string (ofL y.2)] 9)))
      have RA6 := Lib.hid (RA2.out.alloc (.cells #[.string (ofL y.2)] 9))
      have RB6 : Hid (Rd 1 encT (W2.alloc (.cells #[.string (ofL y.2)] 9)) (.slice (some ⟨W2.heap.size, 0, none⟩) 1 1) [y.2]) := Lib.hid (own_strs1K W2 (y.2))
      go_simp
      refine hK.out _ _ (HCE.out _ K6.out) ?_
      clear hK K
      obtain ⟨W6, hW⟩ : ∃ X, W2.alloc (.cells #[.string (ofL y.2)] 9) = X := ⟨_, rfl⟩
      rw [hW] at K6 B6 E6 RA6 RB6 ⊢
      obtain ⟨gB6, hg⟩ : ∃ g, W2.heap.size = g := ⟨_, rfl⟩
      rw [hg] at RB6 ⊢
      clear hW hg K2 B2 E2 RA2
      try simp only [Act.put, List.setIfInBounds_toArray, List.set_cons_zero, List.set_cons_succ]
      refine hd_one 3 _ rfl (by kernel_rfl) (by decide) (fun K hK => ?_)
      go_simp
      refine (wordsK_any _ [([100, 97, 116, 101] : Str), y.1] _ RA6.out (by simp)).mono ?_
      rintro e W7 ⟨⟨x7, c7, rfl, hr⟩, hb⟩
      try dsimp only
      have TA7 := Lib.hid hr
      have K7 := Lib.hid (Blk.below K6.out hb)
      have B7 := Lib.hid (st B6.out hb B6.out.size)
      have E7 := Lib.hid (E6.out.below hb)
      have RB7 := Lib.hid (RB6.out.below hb)
      refine hK.out _ _ (HCE.out _ K7.out) ?_
      clear hK K hr hb K6 B6 E6 RA6 RB6
      try simp only [Act.put, List.setIfInBounds_toArray, List.set_cons_zero, List.set_cons_succ]
      refine hd_one 7 _ rfl (by kernel_rfl) (by decide) (fun K hK => ?_)
      go_simp
      refine (textsK_any _ [y.2] _ RB7.out (by simp)).mono ?_
      rintro e W8 ⟨⟨x8, c8, rfl, hr⟩, hb⟩
      try dsimp only
      have TB8 := Lib.hid hr
      have K8 := Lib.hid (Blk.below K7.out hb)
      have B8 := Lib.hid (st B7.out hb B7.out.size)
      have E8 := Lib.hid (E7.out.below hb)
      have TA8 := Lib.hid (TA7.out.below hb)
      refine hK.out _ _ (HCE.out _ K8.out) ?_
      clear hK K hr hb K7 B7 E7 RB7 TA7
      try simp only [Act.put, List.setIfInBounds_toArray, List.set_cons_zero, List.set_cons_succ]
      refine hd_done (by kernel_rfl) ?_
      simp only [List.drop_succ_cons, List.drop_zero]
      go_wp2_with fail
      have hLL := own_LL2 W8 _ _ _ _ _ _ _ _ TA8.out TB8.out
      refine (item_any [(tksOf 1 [([100, 97, 116, 101] : Str), y.1]), (tksOf 2 [y.2])] (by show 0 < 3; omega) (by show 3 ≤ 100; omega) HOK.out _ _ hLL (E8.out.below ((Below.refl _ _).alloc (Nat.le_refl _) _))).mono ?_
      rintro e w9 ⟨rfl, b9⟩
      have B9 := Lib.hid (st (B8.out.alloc B8.out.size _) b9 (B8.out.alloc B8.out.size _).size)
      rw [HRES.out]
      clear b9 hLL
      go_wp2_with fail
      go_ret
      exact ⟨rfl, B9.out⟩
  · have K9 := Lib.hid (Blk.alloc K1.out (.cells #[.string (ofL y.2)] 9))
    have B9 := Lib.hid (B1.out.alloc B1.out.size (.cells #[.string (ofL y.2)] 9))
    have E9 := Lib.hid (E1.out.below ((Below.refl _ _).alloc (Nat.le_refl _) (.cells #[.string (ofL y.2)] 9)))
    have RB9 : Hid (Rd 1 encT (W1.alloc (.cells #[.string (ofL y.2)] 9)) (.slice (some ⟨W1.heap.size, 0, none⟩) 1 1) [y.2]) := Lib.hid (own_strs1K W1 (y.2))
    go_simp
    refine hK.out _ _ (HCE.out _ K9.out) ?_
    clear hK K
    obtain ⟨W9, hW⟩ : ∃ X, W1.alloc (.cells #[.string (ofL y.2)] 9) = X := ⟨_, rfl⟩
    rw [hW] at K9 B9 E9 RB9 ⊢
    obtain ⟨gB9, hg⟩ : ∃ g, W1.heap.size = g := ⟨_, rfl⟩
    rw [hg] at RB9 ⊢
    clear hW hg K1 B1 E1 
    try simp only [Act.put, List.setIfInBounds_toArray, List.set_cons_zero, List.set_cons_succ]
    refine hd_one 2 _ rfl (by kernel_rfl) (by decide) (fun K hK => ?_)
    have K10 := Lib.hid (Blk.alloc K9.out (.cells #[.string ⟨#[100, 97, 116, 101]⟩, .string (ofL y.1)] 9))
    have B10 := Lib.hid (B9.out.alloc B9.out.size (.cells #[.string ⟨#[100, 97, 116, 101]⟩, .string (ofL y.1)] 9))
    have E10 := Lib.hid (E9.out.below ((Below.refl _ _).alloc (Nat.le_refl _) (.cells #[.string ⟨#[100, 97, 116, 101]⟩, .string (ofL y.1)] 9)))
    have RB10 := Lib.hid (RB9.out.alloc (.cells #[.string ⟨#[100, 97, 116, 101]⟩, .string (ofL y.1)] 9))
    have RA10 : Hid (Rd 1 encT (W9.alloc (.cells #[.string ⟨#[100, 97, 116, 101]⟩, .string (ofL y.1)] 9)) (.slice (some ⟨W9.heap.size, 0, none⟩) 2 2) [([100, 97, 116, 101] : Str), y.1]) := Lib.hid (own_strs2K W9 (([100, 97, 116, 101] : Str)) (y.1))
    go_simp
    refine hK.out _ _ (HCE.out _ K10.out) ?_
    clear hK K
    obtain ⟨W10, hW⟩ : ∃ X, W9.alloc (.cells #[.string ⟨#[100, 97, 116, 101]⟩, .string (ofL y.1)] 9) = X := ⟨_, rfl⟩
    rw [hW] at K10 B10 E10 RB10 RA10 ⊢
    obtain ⟨gA10, hg⟩ : ∃ g, W9.heap.size = g := ⟨_, rfl⟩
    rw [hg] at RA10 ⊢
    clear hW hg K9 B9 E9 RB9
    try simp only [Act.put, List.setIfInBounds_toArray, List.set_cons_zero, List.set_cons_succ]
    refine hd_one 3 _ rfl (by kernel_rfl) (by decide) (fun K hK => ?_)
    go_simp
    refine (wordsK_any _ [([100, 97, 116, 101] : Str), y.1] _ RA10.out (by simp)).mono ?_
    rintro e W11 ⟨⟨x11, c11, rfl, hr⟩, hb⟩
    try dsimp only
    have TA11 := Lib.hid hr
    have K11 := Lib.hid (Blk.below K10.out hb)
    have B11 := Lib.hid (st B10.out hb B10.out.size)
    have E11 := Lib.hid (E10.out.below hb)
    have RB11 := Lib.hid (RB10.out.below hb)
    refine hK.out _ _ (HCE.out _ K11.out) ?_
    clear hK K hr hb K10 B10 E10 RB10 RA10
    try simp only [Act.put, List.setIfInBounds_toArray, List.set_cons_zero, List.set_cons_succ]
    refine hd_one 7 _ rfl (by kernel_rfl) (by decide) (fun K hK => ?_)
    go_simp
    refine (textsK_any _ [y.2] _ RB11.out (by simp)).mono ?_
    rintro e W12 ⟨⟨x12, c12, rfl, hr⟩, hb⟩
    try dsimp only
    have TB12 := Lib.hid hr
    have K12 := Lib.hid (Blk.below K11.out hb)
    have B12 := Lib.hid (st B11.out hb B11.out.size)
    have E12 := Lib.hid (E11.out.below hb)
    have TA12 := Lib.hid (TA11.out.below hb)
    refine hK.out _ _ (HCE.out _ K12.out) ?_
    clear hK K hr hb K11 B11 E11 RB11 TA11
    try simp only [Act.put, List.setIfInBounds_toArray, List.set_cons_zero, List.set_cons_succ]
    refine hd_done (by kernel_rfl) ?_
    simp only [List.drop_succ_cons, List.drop_zero]
    go_wp2_with fail
    have hLL := own_LL2 W12 _ _ _ _ _ _ _ _ TA12.out TB12.out
    refine (item_any [(tksOf 1 [([100, 97, 116, 101] : Str), y.1]), (tksOf 2 [y.2])] (by show 0 < 3; omega) (by show 3 ≤ 100; omega) HOK.out _ _ hLL (E12.out.below ((Below.refl _ _).alloc (Nat.le_refl _) _))).mono ?_
    rintro e w9 ⟨rfl, b9⟩
    have B9 := Lib.hid (st (B12.out.alloc B12.out.size _) b9 (B12.out.alloc B12.out.size _).size)
    rw [HRES.out]
    clear b9 hLL
    go_wp2_with fail
    go_ret
    exact ⟨rfl, B9.out⟩
set_option maxRecDepth 1000000 in
set_option maxHeartbeats 8000000 in
theorem nearLine_any (y : Nea) (h1 : okW y.fr) (h2 : okW y.to_) (hn0 : 0 ≤ y.co ∧ y.co ≤ 1000) (w : World) (E : Env w) : Calls Tryz.prog 31 #[.agg #[.string (ofL y.fr), .string (ofL y.to_), .int .i64 y.co]] w (Strs (neX y) w) := by
  have HOK : Hid (OkL [(tksOf 1 [([110, 101, 97, 114] : Str), y.fr, y.to_]), (tksOf 1 [decT y.co.toNat])].flatten) := Lib.hid (okL2 (okL_w (by intro s hs; simp only [List.mem_cons, List.not_mem_nil, or_false] at hs; rcases hs with rfl | rfl | rfl <;> first | assumption | exact okw_kw (by decide))) (okL_w (by intro s hs; simp only [List.mem_cons, List.not_mem_nil, or_false] at hs; subst hs; exact ok_dec (by omega))))
  have HRES : Hid (enX ([(tksOf 1 [([110, 101, 97, 114] : Str), y.fr, y.to_]), (tksOf 1 [decT y.co.toNat])].flatten.map ktZ) = neX y) := Lib.hid (by rfl)
  have K0 := Lib.hid (Blk.new w 36 #[.string (ofL y.fr), .string (ofL y.to_), .int .i64 y.co])
  have B0 := Lib.hid ((Below.refl w.heap.size w).alloc (Nat.le_refl _) (.cells #[.string (ofL y.fr), .string (ofL y.to_), .int .i64 y.co] 36))
  have E0 := Lib.hid (E.below B0.out)
  obtain ⟨W0, hW0⟩ : ∃ W0, w.alloc (.cells #[.string (ofL y.fr), .string (ofL y.to_), .int .i64 y.co] 36) = W0 := ⟨_, rfl⟩
  have HW0 := Lib.hid hW0
  rw [hW0] at K0 B0 E0
  obtain ⟨h, hh⟩ : ∃ h, w.heap.size = h := ⟨_, rfl⟩
  have HH := Lib.hid hh
  rw [hh] at K0
  have HCE : Hid (∀ wx, Blk h 36 #[.string (ofL y.fr), .string (ofL y.to_), .int .i64 y.co] wx → wx.cell? ⟨h, 0, none⟩ = some (.string (ofL y.fr)) ∧ wx.cell? ⟨h, 1, none⟩ = some (.string (ofL y.to_)) ∧ wx.cell? ⟨h, 2, none⟩ = some (.int .i64 y.co)) := Lib.hid (fun wx hb => ⟨hb.cell 0, hb.cell 1, hb.cell 2⟩)
  clear E hW0 hh
  go_enter Tryz.func31, Tryz.ntmps31
  go_upto_region 1 with fail
  rw [HW0.out, HH.out]
  clear HW0 HH
  refine region_hd 9 (fun wx : World => wx.cell? ⟨h, 0, none⟩ = some (.string (ofL y.fr)) ∧ wx.cell? ⟨h, 1, none⟩ = some (.string (ofL y.to_)) ∧ wx.cell? ⟨h, 2, none⟩ = some (.int .i64 y.co)) (by kernel_rfl) (by kernel_rfl) ?_
  have K1 := Lib.hid (Blk.below K0.out (Below.refl W0.heap.size W0).drew)
  have B1 := Lib.hid (st B0.out (Below.refl W0.heap.size W0).drew B0.out.size)
  have E1 := Lib.hid (E0.out.below (Below.refl W0.heap.size W0).drew)
  obtain ⟨W1, hW1⟩ : ∃ W1, W0.drew = W1 := ⟨_, rfl⟩
  rw [hW1] at K1 B1 E1 ⊢
  clear hW1 K0 B0 E0
  have hS := HCE.out W1 K1.out
  refine hd_taken 0 (some 3) _ ?hdv0 rfl rfl (by kernel_rfl) (fun _ _ _ h => h) (Or.inl ⟨by rfl, ?hdy0⟩) hS ?hdr0
  case hdy0 => (intro wx hx; (try dsimp only at hx); go_simp; try with_reducible rfl)
  try simp only [Act.put, List.setIfInBounds_toArray, List.set_cons_zero, List.set_cons_succ]
  refine hd_taken 1 (some 4) _ ?hdv1 rfl rfl (by kernel_rfl) (fun _ _ _ h => h) (Or.inl ⟨by rfl, ?hdy1⟩) hS ?hdr1
  case hdy1 => (intro wx hx; (try dsimp only at hx); go_simp; try with_reducible rfl)
  try simp only [Act.put, List.setIfInBounds_toArray, List.set_cons_zero, List.set_cons_succ]
  refine hd_taken 2 (some 5) _ ?hdv2 rfl rfl (by kernel_rfl) (fun _ _ _ h => h) (Or.inl ⟨by rfl, ?hdy2⟩) hS ?hdr2
  case hdy2 => (intro wx hx; (try dsimp only at hx); go_simp; try with_reducible rfl)
  try simp only [Act.put, List.setIfInBounds_toArray, List.set_cons_zero, List.set_cons_succ]
  refine hd_taken 3 (some 6) _ ?hdv3 rfl rfl (by kernel_rfl) (fun _ _ _ h => h) (Or.inl ⟨by rfl, ?hdy3⟩) hS ?hdr3
  case hdy3 => (intro wx hx; (try dsimp only at hx); go_simp; try with_reducible rfl)
  try simp only [Act.put, List.setIfInBounds_toArray, List.set_cons_zero, List.set_cons_succ]
  refine hd_taken 6 (some 9) _ ?hdv6 rfl rfl (by kernel_rfl) (fun _ _ _ h => h) (Or.inl ⟨by rfl, ?hdy6⟩) hS ?hdr6
  case hdy6 => (intro wx hx; (try dsimp only at hx); go_simp; try with_reducible rfl)
  try simp only [Act.put, List.setIfInBounds_toArray, List.set_cons_zero, List.set_cons_succ]
  refine hd_taken 7 (some 10) _ ?hdv7 rfl rfl (by kernel_rfl) (fun _ _ _ h => h) (Or.inl ⟨by rfl, ?hdy7⟩) hS ?hdr7
  case hdy7 => (intro wx hx; (try dsimp only at hx); go_simp; try with_reducible rfl)
  try simp only [Act.put, List.setIfInBounds_toArray, List.set_cons_zero, List.set_cons_succ]
  refine hd_one 4 _ rfl (by kernel_rfl) (by decide) (fun K hK => ?_)
  have K2 := Lib.hid (Blk.alloc K1.out (.cells #[.string ⟨#[110, 101, 97, 114]⟩, .string (ofL y.fr), .string (ofL y.to_)] 9))
  have B2 := Lib.hid (B1.out.alloc B1.out.size (.cells #[.string ⟨#[110, 101, 97, 114]⟩, .string (ofL y.fr), .string (ofL y.to_)] 9))
  have E2 := Lib.hid (E1.out.below ((Below.refl _ _).alloc (Nat.le_refl _) (.cells #[.string ⟨#[110, 101, 97, 114]⟩, .string (ofL y.fr), .string (ofL y.to_)] 9)))
  have RA2 : Hid (Rd 1 encT (W1.alloc (.cells #[.string ⟨#[110, 101, 97, 114]⟩, .string (ofL y.fr), .string (ofL y.to_)] 9)) (.slice (some ⟨W1.heap.size, 0, none⟩) 3 3) [([110, 101, 97, 114] : Str), y.fr, y.to_]) := Lib.hid (own_strs3K W1 (([110, 101, 97, 114] : Str)) (y.fr) (y.to_))
  go_simp
  refine hK.out _ _ (HCE.out _ K2.out) ?_
  clear hK K
  obtain ⟨W2, hW⟩ : ∃ X, W1.alloc (.cells #[.string ⟨#[110, 101, 97, 114]⟩, .string (ofL y.fr), .string (ofL y.to_)] 9) = X := ⟨_, rfl⟩
  rw [hW] at K2 B2 E2 RA2 ⊢
  obtain ⟨gA2, hg⟩ : ∃ g, W1.heap.size = g := ⟨_, rfl⟩
  rw [hg] at RA2 ⊢
  clear hW hg K1 B1 E1 
  try simp only [Act.put, List.setIfInBounds_toArray, List.set_cons_zero, List.set_cons_succ]
  refine hd_one 5 _ rfl (by kernel_rfl) (by decide) (fun K hK => ?_)
  go_simp
  refine (wordsK_any _ [([110, 101, 97, 114] : Str), y.fr, y.to_] _ RA2.out (by simp)).mono ?_
  rintro e W3 ⟨⟨x3, c3, rfl, hr⟩, hb⟩
  try dsimp only
  have TA3 := Lib.hid hr
  have K3 := Lib.hid (Blk.below K2.out hb)
  have B3 := Lib.hid (st B2.out hb B2.out.size)
  have E3 := Lib.hid (E2.out.below hb)
  refine hK.out _ _ (HCE.out _ K3.out) ?_
  clear hK K hr hb K2 B2 E2 RA2
  try simp only [Act.put, List.setIfInBounds_toArray, List.set_cons_zero, List.set_cons_succ]
  refine hd_one 8 _ rfl (by kernel_rfl) (by decide) (fun K hK => ?_)
  go_simp
  refine (numberK_any y.co hn0.1 hn0.2 _ E3.out).mono ?_
  rintro e W4 ⟨⟨x4, c4, rfl, hr⟩, hb⟩
  try dsimp only
  have TN0x4 := Lib.hid hr
  have K4 := Lib.hid (Blk.below K3.out hb)
  have B4 := Lib.hid (st B3.out hb B3.out.size)
  have E4 := Lib.hid (E3.out.below hb)
  have TA4 := Lib.hid (TA3.out.below hb)
  refine hK.out _ _ (HCE.out _ K4.out) ?_
  clear hK K hr hb K3 B3 E3 TA3
  try simp only [Act.put, List.setIfInBounds_toArray, List.set_cons_zero, List.set_cons_succ]
  refine hd_done (by kernel_rfl) ?_
  simp only [List.drop_succ_cons, List.drop_zero]
  go_wp2_with fail
  have hLL := own_LL2 W4 _ _ _ _ _ _ _ _ TA4.out TN0x4.out
  refine (line_any [(tksOf 1 [([110, 101, 97, 114] : Str), y.fr, y.to_]), (tksOf 1 [decT y.co.toNat])] (by show 0 < 4; omega) (by show 4 ≤ 100; omega) HOK.out _ _ hLL (E4.out.below ((Below.refl _ _).alloc (Nat.le_refl _) _))).mono ?_
  rintro e w9 ⟨rfl, b9⟩
  have B9 := Lib.hid (st (B4.out.alloc B4.out.size _) b9 (B4.out.alloc B4.out.size _).size)
  rw [HRES.out]
  clear b9 hLL
  go_wp2_with fail
  go_ret
  exact ⟨rfl, B9.out⟩
end Go.Proofs.YtpmmchppfmojhaaGreatDoor


/- Of the program's table package: the lines of symbols. -/
namespace Go.Proofs.YtpmmchppfmojhaaGreatDoor
open Go.RowKit
set_option linter.unusedVariables false

set_option maxRecDepth 1000000 in
set_option maxHeartbeats 8000000 in
theorem symbolsItem_yes (s : Sym) (hne : ¬ s.de = []) (h1 : okX s.de) (h2 : okX s.gr) (h3 : okX s.mi) (h4 : okX s.pe) (hn0 : 0 ≤ s.pr ∧ s.pr ≤ 1000) (hn1 : 0 ≤ s.se ∧ s.se ≤ 1000) (w : World) (E : Env w) : Calls Tryz.prog 64 #[.agg #[.string (ofL s.de), .string (ofL s.gr), .string (ofL s.mi), .string (ofL s.pe), .int .i64 s.pr, .int .i64 s.se]] w (Strs (syX s) w) := by
  have HOK : Hid (OkL [(tksOf 1 [([115, 121, 109, 98, 111, 108, 115] : Str)]), (tksOf 2 [s.de, s.gr, s.mi, s.pe]), (tksOf 1 [decT s.pr.toNat]), (tksOf 1 [decT s.se.toNat])].flatten) := Lib.hid (okL4 (okL_w (by intro s hs; simp only [List.mem_cons, List.not_mem_nil, or_false] at hs; subst hs <;> first | assumption | exact okw_kw (by decide))) (okL_x (by intro s hs; simp only [List.mem_cons, List.not_mem_nil, or_false] at hs; rcases hs with rfl | rfl | rfl | rfl <;> assumption)) (okL_w (by intro s hs; simp only [List.mem_cons, List.not_mem_nil, or_false] at hs; subst hs; exact ok_dec (by omega))) (okL_w (by intro s hs; simp only [List.mem_cons, List.not_mem_nil, or_false] at hs; subst hs; exact ok_dec (by omega))))
  have HRES : Hid (itX ([(tksOf 1 [([115, 121, 109, 98, 111, 108, 115] : Str)]), (tksOf 2 [s.de, s.gr, s.mi, s.pe]), (tksOf 1 [decT s.pr.toNat]), (tksOf 1 [decT s.se.toNat])].flatten.map ktZ) = syX s) := Lib.hid (by unfold syX; rw [if_neg hne]; rfl)
  obtain ⟨t0, t1, t2⟩ := emp_no hne
  have K0 := Lib.hid (Blk.new w 45 #[.string (ofL s.de), .string (ofL s.gr), .string (ofL s.mi), .string (ofL s.pe), .int .i64 s.pr, .int .i64 s.se])
  have B0 := Lib.hid ((Below.refl w.heap.size w).alloc (Nat.le_refl _) (.cells #[.string (ofL s.de), .string (ofL s.gr), .string (ofL s.mi), .string (ofL s.pe), .int .i64 s.pr, .int .i64 s.se] 45))
  have E0 := Lib.hid (E.below B0.out)
  obtain ⟨W0, hW0⟩ : ∃ W0, w.alloc (.cells #[.string (ofL s.de), .string (ofL s.gr), .string (ofL s.mi), .string (ofL s.pe), .int .i64 s.pr, .int .i64 s.se] 45) = W0 := ⟨_, rfl⟩
  have HW0 := Lib.hid hW0
  rw [hW0] at K0 B0 E0
  obtain ⟨h, hh⟩ : ∃ h, w.heap.size = h := ⟨_, rfl⟩
  have HH := Lib.hid hh
  rw [hh] at K0
  have HCE : Hid (∀ wx, Blk h 45 #[.string (ofL s.de), .string (ofL s.gr), .string (ofL s.mi), .string (ofL s.pe), .int .i64 s.pr, .int .i64 s.se] wx → wx.cell? ⟨h, 0, none⟩ = some (.string (ofL s.de)) ∧ wx.cell? ⟨h, 1, none⟩ = some (.string (ofL s.gr)) ∧ wx.cell? ⟨h, 2, none⟩ = some (.string (ofL s.mi)) ∧ wx.cell? ⟨h, 3, none⟩ = some (.string (ofL s.pe)) ∧ wx.cell? ⟨h, 4, none⟩ = some (.int .i64 s.pr) ∧ wx.cell? ⟨h, 5, none⟩ = some (.int .i64 s.se)) := Lib.hid (fun wx hb => ⟨hb.cell 0, hb.cell 1, hb.cell 2, hb.cell 3, hb.cell 4, hb.cell 5⟩)
  clear E hW0 hh hne
  go_enter Tryz.func64, Tryz.ntmps64
  go_upto_region 3 with fail
  rw [HW0.out, HH.out]
  clear HW0 HH
  refine region_hd 18 (fun wx : World => wx.cell? ⟨h, 0, none⟩ = some (.string (ofL s.de)) ∧ wx.cell? ⟨h, 1, none⟩ = some (.string (ofL s.gr)) ∧ wx.cell? ⟨h, 2, none⟩ = some (.string (ofL s.mi)) ∧ wx.cell? ⟨h, 3, none⟩ = some (.string (ofL s.pe)) ∧ wx.cell? ⟨h, 4, none⟩ = some (.int .i64 s.pr) ∧ wx.cell? ⟨h, 5, none⟩ = some (.int .i64 s.se)) (by kernel_rfl) (by kernel_rfl) ?_
  have K1 := Lib.hid (Blk.below K0.out (Below.refl W0.heap.size W0).drew)
  have B1 := Lib.hid (st B0.out (Below.refl W0.heap.size W0).drew B0.out.size)
  have E1 := Lib.hid (E0.out.below (Below.refl W0.heap.size W0).drew)
  obtain ⟨W1, hW1⟩ : ∃ W1, W0.drew = W1 := ⟨_, rfl⟩
  rw [hW1] at K1 B1 E1 ⊢
  clear hW1 K0 B0 E0
  have hS := HCE.out W1 K1.out
  refine hd_taken 2 (some 8) _ ?hdv2 rfl rfl (by kernel_rfl) (fun _ _ _ h => h) (Or.inl ⟨by rfl, ?hdy2⟩) hS ?hdr2
  case hdy2 => (intro wx hx; (try dsimp only at hx); go_simp; try with_reducible rfl)
  try simp only [Act.put, List.setIfInBounds_toArray, List.set_cons_zero, List.set_cons_succ]
  refine hd_taken 3 (some 9) _ ?hdv3 rfl rfl (by kernel_rfl) (fun _ _ _ h => h) (Or.inl ⟨by rfl, ?hdy3⟩) hS ?hdr3
  case hdy3 => (intro wx hx; (try dsimp only at hx); go_simp; try with_reducible rfl)
  try simp only [Act.put, List.setIfInBounds_toArray, List.set_cons_zero, List.set_cons_succ]
  refine hd_taken 4 (some 10) _ ?hdv4 rfl rfl (by kernel_rfl) (fun _ _ _ h => h) (Or.inl ⟨by rfl, ?hdy4⟩) hS ?hdr4
  case hdy4 => (intro wx hx; (try dsimp only at hx); go_simp; try with_reducible rfl)
  try simp only [Act.put, List.setIfInBounds_toArray, List.set_cons_zero, List.set_cons_succ]
  refine hd_taken 5 (some 11) _ ?hdv5 rfl rfl (by kernel_rfl) (fun _ _ _ h => h) (Or.inl ⟨by rfl, ?hdy5⟩) hS ?hdr5
  case hdy5 => (intro wx hx; (try dsimp only at hx); go_simp; try with_reducible rfl)
  try simp only [Act.put, List.setIfInBounds_toArray, List.set_cons_zero, List.set_cons_succ]
  refine hd_taken 6 (some 12) _ ?hdv6 rfl rfl (by kernel_rfl) (fun _ _ _ h => h) (Or.inl ⟨by rfl, ?hdy6⟩) hS ?hdr6
  case hdy6 => (intro wx hx; (try dsimp only at hx); go_simp; try with_reducible rfl)
  try simp only [Act.put, List.setIfInBounds_toArray, List.set_cons_zero, List.set_cons_succ]
  refine hd_taken 7 (some 13) _ ?hdv7 rfl rfl (by kernel_rfl) (fun _ _ _ h => h) (Or.inl ⟨by rfl, ?hdy7⟩) hS ?hdr7
  case hdy7 => (intro wx hx; (try dsimp only at hx); go_simp; try with_reducible rfl)
  try simp only [Act.put, List.setIfInBounds_toArray, List.set_cons_zero, List.set_cons_succ]
  refine hd_taken 8 (some 14) _ ?hdv8 rfl rfl (by kernel_rfl) (fun _ _ _ h => h) (Or.inl ⟨by rfl, ?hdy8⟩) hS ?hdr8
  case hdy8 => (intro wx hx; (try dsimp only at hx); go_simp; try with_reducible rfl)
  try simp only [Act.put, List.setIfInBounds_toArray, List.set_cons_zero, List.set_cons_succ]
  refine hd_taken 9 (some 15) _ ?hdv9 rfl rfl (by kernel_rfl) (fun _ _ _ h => h) (Or.inl ⟨by rfl, ?hdy9⟩) hS ?hdr9
  case hdy9 => (intro wx hx; (try dsimp only at hx); go_simp; try with_reducible rfl)
  try simp only [Act.put, List.setIfInBounds_toArray, List.set_cons_zero, List.set_cons_succ]
  refine hd_taken 12 (some 18) _ ?hdv12 rfl rfl (by kernel_rfl) (fun _ _ _ h => h) (Or.inl ⟨by rfl, ?hdy12⟩) hS ?hdr12
  case hdy12 => (intro wx hx; (try dsimp only at hx); go_simp; try with_reducible rfl)
  try simp only [Act.put, List.setIfInBounds_toArray, List.set_cons_zero, List.set_cons_succ]
  refine hd_taken 13 (some 19) _ ?hdv13 rfl rfl (by kernel_rfl) (fun _ _ _ h => h) (Or.inl ⟨by rfl, ?hdy13⟩) hS ?hdr13
  case hdy13 => (intro wx hx; (try dsimp only at hx); go_simp; try with_reducible rfl)
  try simp only [Act.put, List.setIfInBounds_toArray, List.set_cons_zero, List.set_cons_succ]
  refine hd_taken 15 (some 21) _ ?hdv15 rfl rfl (by kernel_rfl) (fun _ _ _ h => h) (Or.inl ⟨by rfl, ?hdy15⟩) hS ?hdr15
  case hdy15 => (intro wx hx; (try dsimp only at hx); go_simp; try with_reducible rfl)
  try simp only [Act.put, List.setIfInBounds_toArray, List.set_cons_zero, List.set_cons_succ]
  refine hd_taken 16 (some 22) _ ?hdv16 rfl rfl (by kernel_rfl) (fun _ _ _ h => h) (Or.inl ⟨by rfl, ?hdy16⟩) hS ?hdr16
  case hdy16 => (intro wx hx; (try dsimp only at hx); go_simp; try with_reducible rfl)
  try simp only [Act.put, List.setIfInBounds_toArray, List.set_cons_zero, List.set_cons_succ]
  refine hd_two 0 10 _ _ rfl rfl (by kernel_rfl) (by decide) (by decide) (fun K hK => ?_) (fun K hK => ?_)
  · have K2 := Lib.hid (Blk.alloc K1.out (.cells #[.string ⟨#[115, 121, 109, 98, 111, 108, 115]⟩] 9))
    have B2 := Lib.hid (B1.out.alloc B1.out.size (.cells #[.string ⟨#[115, 121, 109, 98, 111, 108, 115]⟩] 9))
    have E2 := Lib.hid (E1.out.below ((Below.refl _ _).alloc (Nat.le_refl _) (.cells #[.string ⟨#[115, 121, 109, 98, 111, 108, 115]⟩] 9)))
    have RA2 : Hid (Rd 1 encT (W1.alloc (.cells #[.string ⟨#[115, 121, 109, 98, 111, 108, 115]⟩] 9)) (.slice (some ⟨W1.heap.size, 0, none⟩) 1 1) [([115, 121, 109, 98, 111, 108, 115] : Str)]) := Lib.hid (own_strs1K W1 (([115, 121, 109, 98, 111, 108, 115] : Str)))
    go_simp
    refine hK.out _ _ (HCE.out _ K2.out) ?_
    clear hK K
    obtain ⟨W2, hW⟩ : ∃ X, W1.alloc (.cells #[.string ⟨#[115, 121, 109, 98, 111, 108, 115]⟩] 9) = X := ⟨_, rfl⟩
    rw [hW] at K2 B2 E2 RA2 ⊢
    obtain ⟨gA2, hg⟩ : ∃ g, W1.heap.size = g := ⟨_, rfl⟩
    rw [hg] at RA2 ⊢
    clear hW hg K1 B1 E1 
    try simp only [Act.put, List.setIfInBounds_toArray, List.set_cons_zero, List.set_cons_succ]
    refine hd_two 1 10 _ _ rfl rfl (by kernel_rfl) (by decide) (by decide) (fun K hK => ?_) (fun K hK => ?_)
    · go_simp
      refine (wordsK_any _ [([115, 121, 109, 98, 111, 108, 115] : Str)] _ RA2.out (by simp)).mono ?_
      rintro e W3 ⟨⟨x3, c3, rfl, hr⟩, hb⟩
      try dsimp only
      have TA3 := Lib.hid hr
      have K3 := Lib.hid (Blk.below K2.out hb)
      have B3 := Lib.hid (st B2.out hb B2.out.size)
      have E3 := Lib.hid (E2.out.below hb)
      refine hK.out _ _ (HCE.out _ K3.out) ?_
      clear hK K hr hb K2 B2 E2 RA2
      try simp only [Act.put, List.setIfInBounds_toArray, List.set_cons_zero, List.set_cons_succ]
      refine hd_one 10 _ rfl (by kernel_rfl) (by decide) (fun K hK => ?_)
      have K4 := Lib.hid (Blk.alloc K3.out (.cells #[.string (ofL s.de), .string (ofL s.gr), .string (ofL s.mi), .string (ofL s.pe)] 9))
      have B4 := Lib.hid (B3.out.alloc B3.out.size (.cells #[.string (ofL s.de), .string (ofL s.gr), .string (ofL s.mi), .string (ofL s.pe)] 9))
      have E4 := Lib.hid (E3.out.below ((Below.refl _ _).alloc (Nat.le_refl _) (.cells #[.string (ofL s.de), .string (ofL s.gr), .string (ofL s.mi), .string (ofL s.pe)] 9)))
      have TA4 := Lib.hid (TA3.out.alloc (.cells #[.string (ofL s.de), .string (ofL s.gr), .string (ofL s.mi), .string (ofL s.pe)] 9))
      have RB4 : Hid (Rd 1 encT (W3.alloc (.cells #[.string (ofL s.de), .string (ofL s.gr), .string (ofL s.mi), .string (ofL s.pe)] 9)) (.slice (some ⟨W3.heap.size, 0, none⟩) 4 4) [s.de, s.gr, s.mi, s.pe]) := Lib.hid (own_strs4K W3 (s.de) (s.gr) (s.mi) (s.pe))
      go_simp
      refine hK.out _ _ (HCE.out _ K4.out) ?_
      clear hK K
      obtain ⟨W4, hW⟩ : ∃ X, W3.alloc (.cells #[.string (ofL s.de), .string (ofL s.gr), .string (ofL s.mi), .string (ofL s.pe)] 9) = X := ⟨_, rfl⟩
      rw [hW] at K4 B4 E4 TA4 RB4 ⊢
      obtain ⟨gB4, hg⟩ : ∃ g, W3.heap.size = g := ⟨_, rfl⟩
      rw [hg] at RB4 ⊢
      clear hW hg K3 B3 E3 TA3
      try simp only [Act.put, List.setIfInBounds_toArray, List.set_cons_zero, List.set_cons_succ]
      refine hd_one 11 _ rfl (by kernel_rfl) (by decide) (fun K hK => ?_)
      go_simp
      refine (textsK_any _ [s.de, s.gr, s.mi, s.pe] _ RB4.out (by simp)).mono ?_
      rintro e W5 ⟨⟨x5, c5, rfl, hr⟩, hb⟩
      try dsimp only
      have TB5 := Lib.hid hr
      have K5 := Lib.hid (Blk.below K4.out hb)
      have B5 := Lib.hid (st B4.out hb B4.out.size)
      have E5 := Lib.hid (E4.out.below hb)
      have TA5 := Lib.hid (TA4.out.below hb)
      refine hK.out _ _ (HCE.out _ K5.out) ?_
      clear hK K hr hb K4 B4 E4 TA4 RB4
      try simp only [Act.put, List.setIfInBounds_toArray, List.set_cons_zero, List.set_cons_succ]
      refine hd_one 14 _ rfl (by kernel_rfl) (by decide) (fun K hK => ?_)
      go_simp
      refine (numberK_any s.pr hn0.1 hn0.2 _ E5.out).mono ?_
      rintro e W6 ⟨⟨x6, c6, rfl, hr⟩, hb⟩
      try dsimp only
      have TN0x6 := Lib.hid hr
      have K6 := Lib.hid (Blk.below K5.out hb)
      have B6 := Lib.hid (st B5.out hb B5.out.size)
      have E6 := Lib.hid (E5.out.below hb)
      have TA6 := Lib.hid (TA5.out.below hb)
      have TB6 := Lib.hid (TB5.out.below hb)
      refine hK.out _ _ (HCE.out _ K6.out) ?_
      clear hK K hr hb K5 B5 E5 TA5 TB5
      try simp only [Act.put, List.setIfInBounds_toArray, List.set_cons_zero, List.set_cons_succ]
      refine hd_one 17 _ rfl (by kernel_rfl) (by decide) (fun K hK => ?_)
      go_simp
      refine (numberK_any s.se hn1.1 hn1.2 _ E6.out).mono ?_
      rintro e W7 ⟨⟨x7, c7, rfl, hr⟩, hb⟩
      try dsimp only
      have TN1x7 := Lib.hid hr
      have K7 := Lib.hid (Blk.below K6.out hb)
      have B7 := Lib.hid (st B6.out hb B6.out.size)
      have E7 := Lib.hid (E6.out.below hb)
      have TA7 := Lib.hid (TA6.out.below hb)
      have TB7 := Lib.hid (TB6.out.below hb)
      have TN0x7 := Lib.hid (TN0x6.out.below hb)
      refine hK.out _ _ (HCE.out _ K7.out) ?_
      clear hK K hr hb K6 B6 E6 TA6 TB6 TN0x6
      try simp only [Act.put, List.setIfInBounds_toArray, List.set_cons_zero, List.set_cons_succ]
      refine hd_done (by kernel_rfl) ?_
      simp only [List.drop_succ_cons, List.drop_zero]
      go_wp2_with fail
      have hLL := own_LL4 W7 _ _ _ _ _ _ _ _ _ _ _ _ _ _ _ _ TA7.out TB7.out TN0x7.out TN1x7.out
      refine (item_any [(tksOf 1 [([115, 121, 109, 98, 111, 108, 115] : Str)]), (tksOf 2 [s.de, s.gr, s.mi, s.pe]), (tksOf 1 [decT s.pr.toNat]), (tksOf 1 [decT s.se.toNat])] (by show 0 < 7; omega) (by show 7 ≤ 100; omega) HOK.out _ _ hLL (E7.out.below ((Below.refl _ _).alloc (Nat.le_refl _) _))).mono ?_
      rintro e w9 ⟨rfl, b9⟩
      have B9 := Lib.hid (st (B7.out.alloc B7.out.size _) b9 (B7.out.alloc B7.out.size _).size)
      rw [HRES.out]
      clear b9 hLL
      go_wp2_with fail
      go_ret
      exact ⟨rfl, B9.out⟩
    · have K8 := Lib.hid (Blk.alloc K2.out (.cells #[.string (ofL s.de), .string (ofL s.gr), .string (ofL s.mi), .string (ofL s.pe)] 9))
      have B8 := Lib.hid (B2.out.alloc B2.out.size (.cells #[.string (ofL s.de), .string (ofL s.gr), .string (ofL s.mi), .string (ofL s.pe)] 9))
      have E8 := Lib.hid (E2.out.below ((Below.refl _ _).alloc (Nat.le_refl _) (.cells #[.string (ofL s.de), .string (ofL s.gr), .string (ofL s.mi), .string (ofL s.pe)] 9)))
      have RA8 := Lib.hid (RA2.out.alloc (.cells #[.string (ofL s.de), .string (ofL s.gr), .string (ofL s.mi), .string (ofL s.pe)] 9))
      have RB8 : Hid (Rd 1 encT (W2.alloc (.cells #[.string (ofL s.de), .string (ofL s.gr), .string (ofL s.mi), .string (ofL s.pe)] 9)) (.slice (some ⟨W2.heap.size, 0, none⟩) 4 4) [s.de, s.gr, s.mi, s.pe]) := Lib.hid (own_strs4K W2 (s.de) (s.gr) (s.mi) (s.pe))
      go_simp
      refine hK.out _ _ (HCE.out _ K8.out) ?_
      clear hK K
      obtain ⟨W8, hW⟩ : ∃ X, W2.alloc (.cells #[.string (ofL s.de), .string (ofL s.gr), .string (ofL s.mi), .string (ofL s.pe)] 9) = X := ⟨_, rfl⟩
      rw [hW] at K8 B8 E8 RA8 RB8 ⊢
      obtain ⟨gB8, hg⟩ : ∃ g, W2.heap.size = g := ⟨_, rfl⟩
      rw [hg] at RB8 ⊢
      clear hW hg K2 B2 E2 RA2
      try simp only [Act.put, List.setIfInBounds_toArray, List.set_cons_zero, List.set_cons_succ]
      refine hd_one 1 _ rfl (by kernel_rfl) (by decide) (fun K hK => ?_)
      go_simp
      refine (wordsK_any _ [([115, 121, 109, 98, 111, 108, 115] : Str)] _ RA8.out (by simp)).mono ?_
      rintro e W9 ⟨⟨x9, c9, rfl, hr⟩, hb⟩
      try dsimp only
      have TA9 := Lib.hid hr
      have K9 := Lib.hid (Blk.below K8.out hb)
      have B9 := Lib.hid (st B8.out hb B8.out.size)
      have E9 := Lib.hid (E8.out.below hb)
      have RB9 := Lib.hid (RB8.out.below hb)
      refine hK.out _ _ (HCE.out _ K9.out) ?_
      clear hK K hr hb K8 B8 E8 RA8 RB8
      try simp only [Act.put, List.setIfInBounds_toArray, List.set_cons_zero, List.set_cons_succ]
      refine hd_one 11 _ rfl (by kernel_rfl) (by decide) (fun K hK => ?_)
      go_simp
      refine (textsK_any _ [s.de, s.gr, s.mi, s.pe] _ RB9.out (by simp)).mono ?_
      rintro e W10 ⟨⟨x10, c10, rfl, hr⟩, hb⟩
      try dsimp only
      have TB10 := Lib.hid hr
      have K10 := Lib.hid (Blk.below K9.out hb)
      have B10 := Lib.hid (st B9.out hb B9.out.size)
      have E10 := Lib.hid (E9.out.below hb)
      have TA10 := Lib.hid (TA9.out.below hb)
      refine hK.out _ _ (HCE.out _ K10.out) ?_
      clear hK K hr hb K9 B9 E9 RB9 TA9
      try simp only [Act.put, List.setIfInBounds_toArray, List.set_cons_zero, List.set_cons_succ]
      refine hd_one 14 _ rfl (by kernel_rfl) (by decide) (fun K hK => ?_)
      go_simp
      refine (numberK_any s.pr hn0.1 hn0.2 _ E10.out).mono ?_
      rintro e W11 ⟨⟨x11, c11, rfl, hr⟩, hb⟩
      try dsimp only
      have TN0x11 := Lib.hid hr
      have K11 := Lib.hid (Blk.below K10.out hb)
      have B11 := Lib.hid (st B10.out hb B10.out.size)
      have E11 := Lib.hid (E10.out.below hb)
      have TA11 := Lib.hid (TA10.out.below hb)
      have TB11 := Lib.hid (TB10.out.below hb)
      refine hK.out _ _ (HCE.out _ K11.out) ?_
      clear hK K hr hb K10 B10 E10 TA10 TB10
      try simp only [Act.put, List.setIfInBounds_toArray, List.set_cons_zero, List.set_cons_succ]
      refine hd_one 17 _ rfl (by kernel_rfl) (by decide) (fun K hK => ?_)
      go_simp
      refine (numberK_any s.se hn1.1 hn1.2 _ E11.out).mono ?_
      rintro e W12 ⟨⟨x12, c12, rfl, hr⟩, hb⟩
      try dsimp only
      have TN1x12 := Lib.hid hr
      have K12 := Lib.hid (Blk.below K11.out hb)
      have B12 := Lib.hid (st B11.out hb B11.out.size)
      have E12 := Lib.hid (E11.out.below hb)
      have TA12 := Lib.hid (TA11.out.below hb)
      have TB12 := Lib.hid (TB11.out.below hb)
      have TN0x12 := Lib.hid (TN0x11.out.below hb)
      refine hK.out _ _ (HCE.out _ K12.out) ?_
      clear hK K hr hb K11 B11 E11 TA11 TB11 TN0x11
      try simp only [Act.put, List.setIfInBounds_toArray, List.set_cons_zero, List.set_cons_succ]
      refine hd_done (by kernel_rfl) ?_
      simp only [List.drop_succ_cons, List.drop_zero]
      go_wp2_with fail
      have hLL := own_LL4 W12 _ _ _ _ _ _ _ _ _ _ _ _ _ _ _ _ TA12.out TB12.out TN0x12.out TN1x12.out
      refine (item_any [(tksOf 1 [([115, 121, 109, 98, 111, 108, 115] : Str)]), (tksOf 2 [s.de, s.gr, s.mi, s.pe]), (tksOf 1 [decT s.pr.toNat]), (tksOf 1 [decT s.se.toNat])] (by show 0 < 7; omega) (by show 7 ≤ 100; omega) HOK.out _ _ hLL (E12.out.below ((Below.refl _ _).alloc (Nat.le_refl _) _))).mono ?_
      rintro e w9 ⟨rfl, b9⟩
      have B9 := Lib.hid (st (B12.out.alloc B12.out.size _) b9 (B12.out.alloc B12.out.size _).size)
      rw [HRES.out]
      clear b9 hLL
      go_wp2_with fail
      go_ret
      exact ⟨rfl, B9.out⟩
  · have K13 := Lib.hid (Blk.alloc K1.out (.cells #[.string (ofL s.de), .string (ofL s.gr), .string (ofL s.mi), .string (ofL s.pe)] 9))
    have B13 := Lib.hid (B1.out.alloc B1.out.size (.cells #[.string (ofL s.de), .string (ofL s.gr), .string (ofL s.mi), .string (ofL s.pe)] 9))
    have E13 := Lib.hid (E1.out.below ((Below.refl _ _).alloc (Nat.le_refl _) (.cells #[.string (ofL s.de), .string (ofL s.gr), .string (ofL s.mi), .string (ofL s.pe)] 9)))
    have RB13 : Hid (Rd 1 encT (W1.alloc (.cells #[.string (ofL s.de), .string (ofL s.gr), .string (ofL s.mi), .string (ofL s.pe)] 9)) (.slice (some ⟨W1.heap.size, 0, none⟩) 4 4) [s.de, s.gr, s.mi, s.pe]) := Lib.hid (own_strs4K W1 (s.de) (s.gr) (s.mi) (s.pe))
    go_simp
    refine hK.out _ _ (HCE.out _ K13.out) ?_
    clear hK K
    obtain ⟨W13, hW⟩ : ∃ X, W1.alloc (.cells #[.string (ofL s.de), .string (ofL s.gr), .string (ofL s.mi), .string (ofL s.pe)] 9) = X := ⟨_, rfl⟩
    rw [hW] at K13 B13 E13 RB13 ⊢
    obtain ⟨gB13, hg⟩ : ∃ g, W1.heap.size = g := ⟨_, rfl⟩
    rw [hg] at RB13 ⊢
    clear hW hg K1 B1 E1 
    try simp only [Act.put, List.setIfInBounds_toArray, List.set_cons_zero, List.set_cons_succ]
    refine hd_one 0 _ rfl (by kernel_rfl) (by decide) (fun K hK => ?_)
    have K14 := Lib.hid (Blk.alloc K13.out (.cells #[.string ⟨#[115, 121, 109, 98, 111, 108, 115]⟩] 9))
    have B14 := Lib.hid (B13.out.alloc B13.out.size (.cells #[.string ⟨#[115, 121, 109, 98, 111, 108, 115]⟩] 9))
    have E14 := Lib.hid (E13.out.below ((Below.refl _ _).alloc (Nat.le_refl _) (.cells #[.string ⟨#[115, 121, 109, 98, 111, 108, 115]⟩] 9)))
    have RB14 := Lib.hid (RB13.out.alloc (.cells #[.string ⟨#[115, 121, 109, 98, 111, 108, 115]⟩] 9))
    have RA14 : Hid (Rd 1 encT (W13.alloc (.cells #[.string ⟨#[115, 121, 109, 98, 111, 108, 115]⟩] 9)) (.slice (some ⟨W13.heap.size, 0, none⟩) 1 1) [([115, 121, 109, 98, 111, 108, 115] : Str)]) := Lib.hid (own_strs1K W13 (([115, 121, 109, 98, 111, 108, 115] : Str)))
    go_simp
    refine hK.out _ _ (HCE.out _ K14.out) ?_
    clear hK K
    obtain ⟨W14, hW⟩ : ∃ X, W13.alloc (.cells #[.string ⟨#[115, 121, 109, 98, 111, 108, 115]⟩] 9) = X := ⟨_, rfl⟩
    rw [hW] at K14 B14 E14 RB14 RA14 ⊢
    obtain ⟨gA14, hg⟩ : ∃ g, W13.heap.size = g := ⟨_, rfl⟩
    rw [hg] at RA14 ⊢
    clear hW hg K13 B13 E13 RB13
    try simp only [Act.put, List.setIfInBounds_toArray, List.set_cons_zero, List.set_cons_succ]
    refine hd_one 1 _ rfl (by kernel_rfl) (by decide) (fun K hK => ?_)
    go_simp
    refine (wordsK_any _ [([115, 121, 109, 98, 111, 108, 115] : Str)] _ RA14.out (by simp)).mono ?_
    rintro e W15 ⟨⟨x15, c15, rfl, hr⟩, hb⟩
    try dsimp only
    have TA15 := Lib.hid hr
    have K15 := Lib.hid (Blk.below K14.out hb)
    have B15 := Lib.hid (st B14.out hb B14.out.size)
    have E15 := Lib.hid (E14.out.below hb)
    have RB15 := Lib.hid (RB14.out.below hb)
    refine hK.out _ _ (HCE.out _ K15.out) ?_
    clear hK K hr hb K14 B14 E14 RB14 RA14
    try simp only [Act.put, List.setIfInBounds_toArray, List.set_cons_zero, List.set_cons_succ]
    refine hd_one 11 _ rfl (by kernel_rfl) (by decide) (fun K hK => ?_)
    go_simp
    refine (textsK_any _ [s.de, s.gr, s.mi, s.pe] _ RB15.out (by simp)).mono ?_
    rintro e W16 ⟨⟨x16, c16, rfl, hr⟩, hb⟩
    try dsimp only
    have TB16 := Lib.hid hr
    have K16 := Lib.hid (Blk.below K15.out hb)
    have B16 := Lib.hid (st B15.out hb B15.out.size)
    have E16 := Lib.hid (E15.out.below hb)
    have TA16 := Lib.hid (TA15.out.below hb)
    refine hK.out _ _ (HCE.out _ K16.out) ?_
    clear hK K hr hb K15 B15 E15 RB15 TA15
    try simp only [Act.put, List.setIfInBounds_toArray, List.set_cons_zero, List.set_cons_succ]
    refine hd_one 14 _ rfl (by kernel_rfl) (by decide) (fun K hK => ?_)
    go_simp
    refine (numberK_any s.pr hn0.1 hn0.2 _ E16.out).mono ?_
    rintro e W17 ⟨⟨x17, c17, rfl, hr⟩, hb⟩
    try dsimp only
    have TN0x17 := Lib.hid hr
    have K17 := Lib.hid (Blk.below K16.out hb)
    have B17 := Lib.hid (st B16.out hb B16.out.size)
    have E17 := Lib.hid (E16.out.below hb)
    have TA17 := Lib.hid (TA16.out.below hb)
    have TB17 := Lib.hid (TB16.out.below hb)
    refine hK.out _ _ (HCE.out _ K17.out) ?_
    clear hK K hr hb K16 B16 E16 TA16 TB16
    try simp only [Act.put, List.setIfInBounds_toArray, List.set_cons_zero, List.set_cons_succ]
    refine hd_one 17 _ rfl (by kernel_rfl) (by decide) (fun K hK => ?_)
    go_simp
    refine (numberK_any s.se hn1.1 hn1.2 _ E17.out).mono ?_
    rintro e W18 ⟨⟨x18, c18, rfl, hr⟩, hb⟩
    try dsimp only
    have TN1x18 := Lib.hid hr
    have K18 := Lib.hid (Blk.below K17.out hb)
    have B18 := Lib.hid (st B17.out hb B17.out.size)
    have E18 := Lib.hid (E17.out.below hb)
    have TA18 := Lib.hid (TA17.out.below hb)
    have TB18 := Lib.hid (TB17.out.below hb)
    have TN0x18 := Lib.hid (TN0x17.out.below hb)
    refine hK.out _ _ (HCE.out _ K18.out) ?_
    clear hK K hr hb K17 B17 E17 TA17 TB17 TN0x17
    try simp only [Act.put, List.setIfInBounds_toArray, List.set_cons_zero, List.set_cons_succ]
    refine hd_done (by kernel_rfl) ?_
    simp only [List.drop_succ_cons, List.drop_zero]
    go_wp2_with fail
    have hLL := own_LL4 W18 _ _ _ _ _ _ _ _ _ _ _ _ _ _ _ _ TA18.out TB18.out TN0x18.out TN1x18.out
    refine (item_any [(tksOf 1 [([115, 121, 109, 98, 111, 108, 115] : Str)]), (tksOf 2 [s.de, s.gr, s.mi, s.pe]), (tksOf 1 [decT s.pr.toNat]), (tksOf 1 [decT s.se.toNat])] (by show 0 < 7; omega) (by show 7 ≤ 100; omega) HOK.out _ _ hLL (E18.out.below ((Below.refl _ _).alloc (Nat.le_refl _) _))).mono ?_
    rintro e w9 ⟨rfl, b9⟩
    have B9 := Lib.hid (st (B18.out.alloc B18.out.size _) b9 (B18.out.alloc B18.out.size _).size)
    rw [HRES.out]
    clear b9 hLL
    go_wp2_with fail
    go_ret
    exact ⟨rfl, B9.out⟩
end Go.Proofs.YtpmmchppfmojhaaGreatDoor


/- Of the program's table package: the lines of directions, names, aliases, symbols. -/
namespace Go.Proofs.YtpmmchppfmojhaaGreatDoor
open Go.RowKit
set_option linter.unusedVariables false

set_option maxRecDepth 1000000 in
set_option maxHeartbeats 4000000 in
theorem symbolsItem_any (s : Sym) (hs : symOk s) (w : World) (E : Env w) : Calls Tryz.prog 64 #[.agg #[.string (ofL s.de), .string (ofL s.gr), .string (ofL s.mi), .string (ofL s.pe), .int .i64 s.pr, .int .i64 s.se]] w (Strs (syX s) w) := by
  by_cases hne : s.de = []
  · have HR : Hid (syX s = []) := Lib.hid (by unfold syX; rw [if_pos hne])
    have B0 := Lib.hid ((Below.refl w.heap.size w).alloc (Nat.le_refl _) (.cells #[.string (ofL s.de), .string (ofL s.gr), .string (ofL s.mi), .string (ofL s.pe), .int .i64 s.pr, .int .i64 s.se] 45))
    obtain ⟨t0, t1, t2⟩ := emp_yes hne
    rw [HR.out]
    clear hne hs E
    go_enter Tryz.func64, Tryz.ntmps64
    go_wp2
    go_ret
    exact ⟨rfl, B0.out⟩
  · have h := hs.resolve_left (fun e => hne (by rw [e]; rfl))
    exact symbolsItem_yes s hne h.2.1 h.2.2.1 h.2.2.2.1 h.2.2.2.2.1 ⟨h.2.2.2.2.2.1, by have := h.2.2.2.2.2.2.1; omega⟩ ⟨h.2.2.2.2.2.2.2.1, by have := h.2.2.2.2.2.2.2.2; omega⟩ w E
set_option maxRecDepth 1000000 in
set_option maxHeartbeats 4000000 in
theorem directionItem_any (d : Str) (hd : d = [] ∨ d ∈ dirL) (w : World) (E : Env w) : Calls Tryz.prog 59 #[.string (ofL d)] w (Strs (dirX d) w) := by
  by_cases hne : d = []
  · have HR : Hid (dirX d = []) := Lib.hid (by unfold dirX; rw [if_pos hne])
    obtain ⟨t0, t1, t2⟩ := emp_yes hne
    rw [HR.out]
    clear hne hd E
    go_enter Tryz.func59, Tryz.ntmps59
    go_wp2
    go_ret
    exact ⟨rfl, Below.refl _ _⟩
  · have hk : okW d := ok_cl (List.mem_append_right _ (hd.resolve_left hne))
    have HOK : Hid (OkL [tksOf 1 [kDir, d]].flatten) := Lib.hid (okL1 (okL_w (by
      intro s hs
      simp only [List.mem_cons, List.not_mem_nil, or_false] at hs
      rcases hs with rfl | rfl
      · exact okw_kw (by decide)
      · exact hk)))
    have HR : Hid (itX ([tksOf 1 [kDir, d]].flatten.map ktZ) = dirX d) := Lib.hid (by unfold dirX; rw [if_neg hne]; rfl)
    obtain ⟨t0, t1, t2⟩ := emp_no hne
    have HE := Lib.hid E
    have RA : Hid (Rd 1 encT (w.alloc (.cells #[.string ⟨#[100, 105, 114, 101, 99, 116, 105, 111, 110]⟩, .string (ofL d)] 9)) (.slice (some ⟨w.heap.size, 0, none⟩) 2 2) [kDir, d]) := Lib.hid (own_strs2K w kDir d)
    have BA := Lib.hid ((Below.refl w.heap.size w).alloc (Nat.le_refl _) (.cells #[.string ⟨#[100, 105, 114, 101, 99, 116, 105, 111, 110]⟩, .string (ofL d)] 9))
    clear hne hd E hk
    go_enter Tryz.func59, Tryz.ntmps59
    go_wp2_with fail
    refine (wordsK_any _ [kDir, d] _ RA.out (by simp)).mono ?_
    rintro e w2 ⟨⟨a2, c2, rfl, hr⟩, b2⟩
    have T2 := Lib.hid hr
    have B2 := Lib.hid (st BA.out b2 BA.out.size)
    clear hr b2
    go_wp2_with fail
    refine (item_any [tksOf 1 [kDir, d]] (by show 0 < 2; omega) (by show 2 ≤ 100; omega) HOK.out _ _ (own_LL1 w2 _ _ _ _ T2.out) ((HE.out.below B2.out).below ((Below.refl _ _).alloc (Nat.le_refl _) _))).mono ?_
    rintro e w9 ⟨rfl, b9⟩
    have B9 := Lib.hid (st (B2.out.alloc B2.out.size _) b9 (B2.out.alloc B2.out.size _).size)
    rw [HR.out]
    clear b9
    go_wp2_with fail
    go_ret
    exact ⟨rfl, B9.out⟩
set_option maxRecDepth 1000000 in
set_option maxHeartbeats 4000000 in
theorem aliasLine_any (y : Str × Str) (h1 : okW y.1) (h2 : okW y.2) (w : World) (E : Env w) : Calls Tryz.prog 29 #[.agg #[.string (ofL y.1), .string (ofL y.2)]] w (Strs (alX y) w) := by
  have HOK : Hid (OkL [tksOf 1 [kAli, y.1, y.2]].flatten) := Lib.hid (okL1 (okL_w (by
    intro s hs
    simp only [List.mem_cons, List.not_mem_nil, or_false] at hs
    rcases hs with rfl | rfl | rfl
    · exact okw_kw (by decide)
    · exact h1
    · exact h2)))
  have HR : Hid (enX ([tksOf 1 [kAli, y.1, y.2]].flatten.map ktZ) = alX y) := Lib.hid rfl
  have B0 := Lib.hid ((Below.refl w.heap.size w).alloc (Nat.le_refl _) (.cells #[.string (ofL y.1), .string (ofL y.2)] 61))
  have E0 := Lib.hid (E.below B0.out)
  obtain ⟨W0, hW0⟩ : ∃ W0, w.alloc (.cells #[.string (ofL y.1), .string (ofL y.2)] 61) = W0 := ⟨_, rfl⟩
  have K0 : Hid (Blk w.heap.size 61 #[.string (ofL y.1), .string (ofL y.2)] W0) := Lib.hid (by rw [← hW0]; exact Blk.new w _ _)
  have HW0 := Lib.hid hW0
  rw [hW0] at B0 E0
  obtain ⟨h, hh⟩ : ∃ h, w.heap.size = h := ⟨_, rfl⟩
  have HH := Lib.hid hh
  rw [hh] at K0
  have RA : Hid (Rd 1 encT (W0.alloc (.cells #[.string ⟨#[97, 108, 105, 97, 115]⟩, .string (ofL y.1), .string (ofL y.2)] 9)) (.slice (some ⟨W0.heap.size, 0, none⟩) 3 3) [kAli, y.1, y.2]) := Lib.hid (own_strs3K W0 kAli y.1 y.2)
  have BA := Lib.hid (B0.out.alloc B0.out.size (.cells #[.string ⟨#[97, 108, 105, 97, 115]⟩, .string (ofL y.1), .string (ofL y.2)] 9))
  have c0 : W0.cell? ⟨h, 0, none⟩ = some (.string (ofL y.1)) := K0.out.cell 0
  have c1 : W0.cell? ⟨h, 1, none⟩ = some (.string (ofL y.2)) := K0.out.cell 1
  clear E hW0 hh h1 h2
  go_enter Tryz.func29, Tryz.ntmps29
  go_upto_region 1 with fail
  rw [HW0.out, HH.out]
  clear HW0 HH
  go_wp2_with fail
  refine (wordsK_any _ [kAli, y.1, y.2] _ RA.out (by simp)).mono ?_
  rintro e w2 ⟨⟨a2, c2, rfl, hr⟩, b2⟩
  have T2 := Lib.hid hr
  have B2 := Lib.hid (st BA.out b2 BA.out.size)
  have E2 := Lib.hid ((E0.out.below ((Below.refl _ _).alloc (Nat.le_refl _) _)).below b2)
  clear hr b2 c0 c1
  go_wp2_with fail
  refine (line_any [tksOf 1 [kAli, y.1, y.2]] (by show 0 < 3; omega) (by show 3 ≤ 100; omega) HOK.out _ _ (own_LL1 w2 _ _ _ _ T2.out) (E2.out.below ((Below.refl _ _).alloc (Nat.le_refl _) _))).mono ?_
  rintro e w9 ⟨rfl, b9⟩
  have B9 := Lib.hid (st (B2.out.alloc B2.out.size _) b9 (B2.out.alloc B2.out.size _).size)
  rw [HR.out]
  clear b9
  go_wp2_with fail
  go_ret
  exact ⟨rfl, B9.out⟩
set_option maxRecDepth 1000000 in
set_option maxHeartbeats 4000000 in
theorem namesItem_any (k : Str) (hk : okW k) (v : Value) (l : List Str) (hl : l.length ≤ 20) (ho : ∀ s ∈ l, okX s) (w : World) (hv : Rd 1 encT w v l) (E : Env w) : Calls Tryz.prog 71 #[.string (ofL k), v] w (Strs (namX k l) w) := by
  obtain ⟨a, c, rfl, _, _⟩ := hv.slice
  by_cases hne : l = []
  · subst hne
    have HR : Hid (namX k [] = []) := Lib.hid rfl
    rw [HR.out]
    clear hv E ho hl hk
    go_enter Tryz.func71, Tryz.ntmps71
    go_wp2
    go_ret
    exact ⟨rfl, Below.refl _ _⟩
  · have HOK : Hid (OkL [tksOf 1 [k], tksOf 2 l].flatten) := Lib.hid (okL2 (okL_w (by
      intro s hs
      rw [List.mem_singleton] at hs
      rw [hs]; exact hk)) (okL_x ho))
    have HR : Hid (itX ([tksOf 1 [k], tksOf 2 l].flatten.map ktZ) = namX k l) := Lib.hid (by
      unfold namX
      rw [if_neg hne]
      congr 1
      simp only [tksOf, List.map_cons, List.map_nil, List.flatten_cons, List.flatten_nil, List.append_nil, List.singleton_append, List.map_map]
      rfl)
    have HLN : Hid ([tksOf 1 [k], tksOf 2 l].flatten.length = 1 + l.length) := Lib.hid (by
      simp only [tksOf, List.map_cons, List.map_nil, List.flatten_cons, List.flatten_nil, List.append_nil, List.singleton_append, List.length_cons, List.length_map]
      omega)
    have HE := Lib.hid E
    have HV := Lib.hid hv
    have HL := Lib.hid hl
    have hpos := List.length_pos_iff.2 hne
    obtain ⟨n, hn⟩ : ∃ n, l.length = n := ⟨_, rfl⟩
    rw [hn] at HV HLN HL hpos ⊢
    have t0 : ((n : Int) == 0) = false := by rw [beq_eq_false_iff_ne]; omega
    have t1 : (n == 0) = false := by rw [beq_eq_false_iff_ne]; omega
    have HN := Lib.hid hn
    have HK1 : Hid (0 < n) := Lib.hid hpos
    have RA : Hid (Rd 1 encT (w.alloc (.cells #[.string (ofL k)] 9)) (.slice (some ⟨w.heap.size, 0, none⟩) 1 1) [k]) := Lib.hid (own_strs1K w k)
    have BA := Lib.hid ((Below.refl w.heap.size w).alloc (Nat.le_refl _) (.cells #[.string (ofL k)] 9))
    clear hne ho E hk hv hl hn hpos
    go_enter Tryz.func71, Tryz.ntmps71
    go_wp2_with fail
    refine (wordsK_any _ [k] _ RA.out (by simp)).mono ?_
    rintro e w2 ⟨⟨a2, c2, rfl, hr⟩, b2⟩
    have T2 := Lib.hid hr
    have B2 := Lib.hid (st BA.out b2 BA.out.size)
    have V2 := Lib.hid (HV.out.below B2.out)
    clear hr b2
    go_wp2_with fail
    refine (textsK_any _ l _ V2.out (by rw [HN.out]; have := HL.out; omega)).mono ?_
    rintro e w3 ⟨⟨a3, c3, rfl, hr⟩, b3⟩
    have T3 := Lib.hid hr
    have T2' := Lib.hid (T2.out.below b3)
    have B3 := Lib.hid (st B2.out b3 B2.out.size)
    clear hr b3
    go_wp2_with fail
    refine (item_any [tksOf 1 [k], tksOf 2 l] (by rw [HLN.out]; omega) (by rw [HLN.out]; have := HL.out; omega) HOK.out _ _ (own_LL2 w3 _ _ _ _ _ _ _ _ T2'.out T3.out) ((HE.out.below B3.out).below ((Below.refl _ _).alloc (Nat.le_refl _) _))).mono ?_
    rintro e w9 ⟨rfl, b9⟩
    have B9 := Lib.hid (st (B3.out.alloc B3.out.size _) b9 (B3.out.alloc B3.out.size _).size)
    rw [HR.out]
    clear b9
    go_wp2_with fail
    go_ret
    exact ⟨rfl, B9.out⟩
end Go.Proofs.YtpmmchppfmojhaaGreatDoor


/- Of the program's table package: the lines of rules. -/
namespace Go.Proofs.YtpmmchppfmojhaaGreatDoor
open Go.RowKit
set_option linter.unusedVariables false

set_option maxRecDepth 1000000 in
set_option maxHeartbeats 4000000 in
theorem ruleItem_any (k : Str) (hk : okW k) (x : Str × RawS) (c : Cnd) (h1 : okW x.1) (hc : okC c = true) (w : World) (hv : RdC w (.slice x.2.a x.2.n x.2.c) c) (hB : CndR c) (E : EnvOf8 w) :
    Calls Tryz.prog 62 #[.string (ofL k), .agg #[.string (ofL x.1), .slice x.2.a x.2.n x.2.c]] w (Strs (ruX k (x.1, c)) w) := by
  have HOK : Hid (OkL [tksOf 1 [k, x.1], tksOf 2 [cndT c]].flatten) := Lib.hid (okL2 (okL_w (by
    intro s hs
    simp only [List.mem_cons, List.not_mem_nil, or_false] at hs
    rcases hs with rfl | rfl
    · exact hk
    · exact h1)) (okL_x (by
    intro s hs
    simp only [List.mem_cons, List.not_mem_nil, or_false] at hs
    subst hs
    exact ok_cnd hc)))
  have HR : Hid (itX ([tksOf 1 [k, x.1], tksOf 2 [cndT c]].flatten.map ktZ) = ruX k (x.1, c)) := Lib.hid rfl
  have HPR : Hid (prtR c = (cndT c, 0)) := Lib.hid (by unfold prtR; rw [if_pos hc])
  have B0 := Lib.hid ((Below.refl w.heap.size w).alloc (Nat.le_refl _) (.cells #[.string (ofL x.1), .slice x.2.a x.2.n x.2.c] 56))
  have E0 := Lib.hid (E.laterZ B0.out)
  have V0 := Lib.hid (hv.below B0.out)
  have HBB : Hid (∀ l ∈ c, l.length ≤ 4611686018427387904) := Lib.hid (fun l h => by have := hB l h; omega)
  obtain ⟨W0, hW0⟩ : ∃ W0, w.alloc (.cells #[.string (ofL x.1), .slice x.2.a x.2.n x.2.c] 56) = W0 := ⟨_, rfl⟩
  have K0 : Hid (Blk w.heap.size 56 #[.string (ofL x.1), .slice x.2.a x.2.n x.2.c] W0) := Lib.hid (by rw [← hW0]; exact Blk.new w _ _)
  have HW0 := Lib.hid hW0
  rw [hW0] at B0 E0 V0
  obtain ⟨h, hh⟩ : ∃ h, w.heap.size = h := ⟨_, rfl⟩
  have HH := Lib.hid hh
  rw [hh] at K0
  have c0 : W0.cell? ⟨h, 0, none⟩ = some (.string (ofL x.1)) := K0.out.cell 0
  have c1 : W0.cell? ⟨h, 1, none⟩ = some (.slice x.2.a x.2.n x.2.c) := K0.out.cell 1
  clear E hW0 hh h1 hc hv hB hk
  go_enter Tryz.func62, Tryz.ntmps62
  go_upto_region 1 with fail
  rw [HW0.out, HH.out]
  clear HW0 HH
  go_wp2_with fail
  refine (print_any c _ _ E0.out V0.out HBB.out).mono ?_
  rw [HPR.out]
  rintro e w1 ⟨rfl, b1⟩
  have B1 := Lib.hid (st B0.out b1 B0.out.size)
  have E1 := Lib.hid (E0.out.laterZ b1)
  have K1 := Lib.hid (Blk.below K0.out b1)
  have d0 : w1.cell? ⟨h, 0, none⟩ = some (.string (ofL x.1)) := K1.out.cell 0
  obtain ⟨t, ht⟩ : ∃ t, cndT c = t := ⟨_, rfl⟩
  dsimp only
  rw [ht] at HOK HR ⊢
  have RA : Hid (Rd 1 encT (w1.alloc (.cells #[.string (ofL k), .string (ofL x.1)] 9)) (.slice (some ⟨w1.heap.size, 0, none⟩) 2 2) [k, x.1]) := Lib.hid (own_strs2K w1 k x.1)
  have BA := Lib.hid (B1.out.alloc B1.out.size (.cells #[.string (ofL k), .string (ofL x.1)] 9))
  clear b1 c0 c1 ht HPR
  go_wp2_with fail
  refine (wordsK_any _ [k, x.1] _ RA.out (by simp)).mono ?_
  rintro e w2 ⟨⟨a2, c2, rfl, hr⟩, b2⟩
  have T2 := Lib.hid hr
  have B2 := Lib.hid (st BA.out b2 BA.out.size)
  have E2 := Lib.hid ((E1.out.laterZ ((Below.refl _ _).alloc (Nat.le_refl _) _)).laterZ b2)
  have RB : Hid (Rd 1 encT (w2.alloc (.cells #[.string (ofL t)] 9)) (.slice (some ⟨w2.heap.size, 0, none⟩) 1 1) [t]) := Lib.hid (own_strs1K w2 t)
  have BB := Lib.hid (B2.out.alloc B2.out.size (.cells #[.string (ofL t)] 9))
  clear hr b2 d0
  go_wp2_with fail
  refine (textsK_any _ [t] _ RB.out (by simp)).mono ?_
  rintro e w3 ⟨⟨a3, c3, rfl, hr⟩, b3⟩
  have T3 := Lib.hid hr
  have T2' := Lib.hid ((T2.out.alloc _).below b3)
  have B3 := Lib.hid (st BB.out b3 BB.out.size)
  have E3 := Lib.hid ((E2.out.laterZ ((Below.refl _ _).alloc (Nat.le_refl _) _)).laterZ b3)
  clear hr b3
  go_wp2_with fail
  refine (item_any [tksOf 1 [k, x.1], tksOf 2 [t]] (by show 0 < 3; omega) (by show 3 ≤ 100; omega) HOK.out _ _ (own_LL2 w3 _ _ _ _ _ _ _ _ T2'.out T3.out) (env_of8 (E3.out.laterZ ((Below.refl _ _).alloc (Nat.le_refl _) _)))).mono ?_
  rintro e w9 ⟨rfl, b9⟩
  have B9 := Lib.hid (st (B3.out.alloc B3.out.size _) b9 (B3.out.alloc B3.out.size _).size)
  rw [HR.out]
  clear b9
  go_wp2_with fail
  go_ret
  exact ⟨rfl, B9.out⟩
set_option maxRecDepth 1000000 in
set_option maxHeartbeats 4000000 in
theorem ruleCar_any (x : Str × RawS) (c : Cnd) (h1 : okW x.1) (hc : okC c = true) (w : World) (hv : RdC w (.slice x.2.a x.2.n x.2.c) c) (hB : CndR c) (E : EnvOf8 w) :
    Calls Tryz.prog 61 #[.agg #[.string (ofL x.1), .slice x.2.a x.2.n x.2.c]] w (Strs (ruX kCar (x.1, c)) w) := by
  have B0 := Lib.hid ((Below.refl w.heap.size w).alloc (Nat.le_refl _) (.cells #[.string (ofL x.1), .slice x.2.a x.2.n x.2.c] 56))
  have H := Lib.hid (ruleItem_any kCar (okw_kw (by decide)) x c h1 hc _ (hv.below B0.out) hB (E.laterZ B0.out))
  clear h1 hc hv hB E
  go_enter Tryz.func61, Tryz.ntmps61
  go_wp2_with fail
  refine H.out.mono ?_
  rintro e w2 ⟨rfl, b2⟩
  have B2 := Lib.hid (st B0.out b2 B0.out.size)
  clear b2
  go_wp2_with fail
  go_ret
  exact ⟨rfl, B2.out⟩
set_option maxRecDepth 1000000 in
set_option maxHeartbeats 4000000 in
theorem ruleOrd_any (x : Str × RawS) (c : Cnd) (h1 : okW x.1) (hc : okC c = true) (w : World) (hv : RdC w (.slice x.2.a x.2.n x.2.c) c) (hB : CndR c) (E : EnvOf8 w) :
    Calls Tryz.prog 63 #[.agg #[.string (ofL x.1), .slice x.2.a x.2.n x.2.c]] w (Strs (ruX kOrd (x.1, c)) w) := by
  have B0 := Lib.hid ((Below.refl w.heap.size w).alloc (Nat.le_refl _) (.cells #[.string (ofL x.1), .slice x.2.a x.2.n x.2.c] 56))
  have H := Lib.hid (ruleItem_any kOrd (okw_kw (by decide)) x c h1 hc _ (hv.below B0.out) hB (E.laterZ B0.out))
  clear h1 hc hv hB E
  go_enter Tryz.func63, Tryz.ntmps63
  go_wp2_with fail
  refine H.out.mono ?_
  rintro e w2 ⟨rfl, b2⟩
  have B2 := Lib.hid (st B0.out b2 B0.out.size)
  clear b2
  go_wp2_with fail
  go_ret
  exact ⟨rfl, B2.out⟩
end Go.Proofs.YtpmmchppfmojhaaGreatDoor


