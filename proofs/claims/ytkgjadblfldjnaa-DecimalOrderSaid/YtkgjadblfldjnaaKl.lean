/- Of the program: compareStrings, Compare, Same. -/
import Derived.Test.YtkgjadblfldjnaaKk
namespace Go.Proofs.Ytkgjadblfldjnaa
open Go.RowKit
set_option linter.unusedVariables false

theorem less_val : ∀ {a b : Str}, allD a → allD b → a.length = b.length → Op.bytesLess a b = decide (val a < val b)
  | [], [], _, _, _ => by simp [Op.bytesLess]
  | [], _ :: _, _, _, h => by simp at h
  | _ :: _, [], _, _, h => by simp at h
  | c :: a, d :: b, ha, hb, hl => by
    rw [allD_cons] at ha hb
    have hl' : a.length = b.length := by simpa using hl
    have ih := less_val ha.2 hb.2 hl'
    have h1 := val_lt ha.2
    have h2 := val_lt hb.2
    have e1 := isD_iff.1 ha.1
    have e2 := isD_iff.1 hb.1
    rw [hl'] at h1
    have hu : Op.bytesLess (c :: a) (d :: b) = (decide (c < d) || (c == d && Op.bytesLess a b)) := by rw [Op.bytesLess]
    rw [hu, ih, val_cons, val_cons, hl']
    have hd1 : dg c + 48 = c.toNat := by unfold dg; omega
    have hd2 : dg d + 48 = d.toNat := by unfold dg; omega
    rcases Nat.lt_trichotomy c.toNat d.toNat with h | h | h
    · have hc : c < d := UInt8.lt_iff_toNat_lt.2 h
      have hm := Nat.mul_le_mul_right (10 ^ b.length) (show dg c + 1 ≤ dg d by omega)
      rw [Nat.add_mul] at hm
      rw [decide_eq_true hc, Bool.true_or]
      exact (decide_eq_true (by omega)).symm
    · have hc : c = d := u8_ext h
      subst hc
      have hn : ¬ c < c := by rw [UInt8.lt_iff_toNat_lt]; omega
      rw [decide_eq_false hn, Bool.false_or, beq_self_eq_true, Bool.true_and, decide_eq_decide]
      omega
    · have hn : ¬ c < d := by rw [UInt8.lt_iff_toNat_lt]; omega
      have hne : (c == d) = false := by rw [beq_eq_false_iff_ne]; rintro rfl; omega
      have hm := Nat.mul_le_mul_right (10 ^ b.length) (show dg d + 1 ≤ dg c by omega)
      rw [Nat.add_mul] at hm
      rw [decide_eq_false hn, hne, Bool.false_or, Bool.false_and]
      exact (decide_eq_false (by omega)).symm
theorem al_facts {x : Num} (g : Good x) : allD (al x) ∧ (al x).length = 21 ∧ val (al x) = mag x := by
  have h1 := g.high
  have h2 := g.few
  refine ⟨?_, ?_, ?_⟩
  · unfold al
    exact allD_app.2 ⟨allD_zs _, allD_app.2 ⟨g.dw, allD_app.2 ⟨g.df, allD_zs _⟩⟩⟩
  · unfold al
    simp only [List.length_append, zs_len]
    omega
  · unfold al
    rw [val_app, val_zs, Nat.zero_mul, Nat.zero_add, ← List.append_assoc, val_app, val_zs, zs_len]
    rfl
set_option maxRecDepth 1000000 in
set_option maxHeartbeats 2000000 in
theorem compareStrings_any (a b : Str) (ha : allD a) (hb : allD b) (hl : a.length = b.length) (w : World) :
    Calls Try.prog 38 #[.string (ofL a), .string (ofL b)] w fun e w' => e = .returned (.int .i64 (cmpI (val a : Int) (val b : Int))) ∧ w' = w := by
  have e1 : (ofL a).toList = a := by rw [ByteArray.toList_eq]; rfl
  have e2 : (ofL b).toList = b := by rw [ByteArray.toList_eq]; rfl
  have hlt := less_val ha hb hl
  have hin : val a = val b → a = b := val_inj ha hb hl
  rcases Nat.lt_trichotomy (val a) (val b) with h | h | h
  · have q1 : Op.bytesLess (ofL a).toList (ofL b).toList = true := by rw [e1, e2, hlt]; exact decide_eq_true h
    have HV : Hid (cmpI (val a : Int) (val b : Int) = -1) := Lib.hid (by unfold cmpI; rw [if_pos (by omega)])
    clear e1 e2 hlt hin h
    go_enter Try.func38, Try.ntmps38
    go_wp2
    go_ret
    exact ⟨by rw [HV.out]; rfl, rfl⟩
  · have q1 : Op.bytesLess (ofL a).toList (ofL b).toList = false := by rw [e1, e2, hlt]; exact decide_eq_false (by omega)
    have q2 : ((ofL a).toList == (ofL b).toList) = true := by rw [e1, e2, hin h]; exact beq_self_eq_true _
    have HV : Hid (cmpI (val a : Int) (val b : Int) = 0) := Lib.hid (by unfold cmpI; rw [if_neg (by omega), if_neg (by omega)])
    clear e1 e2 hlt hin h
    go_enter Try.func38, Try.ntmps38
    go_wp2
    go_ret
    exact ⟨by rw [HV.out]; rfl, rfl⟩
  · have q1 : Op.bytesLess (ofL a).toList (ofL b).toList = false := by rw [e1, e2, hlt]; exact decide_eq_false (by omega)
    have q2 : ((ofL a).toList == (ofL b).toList) = false := by rw [e1, e2, beq_eq_false_iff_ne]; rintro rfl; omega
    have HV : Hid (cmpI (val a : Int) (val b : Int) = 1) := Lib.hid (by unfold cmpI; rw [if_neg (by omega), if_pos (by omega)])
    clear e1 e2 hlt hin h
    go_enter Try.func38, Try.ntmps38
    go_wp2
    go_ret
    exact ⟨by rw [HV.out]; rfl, rfl⟩
def cmpR (a b : Str) : Int × Int := match spl a, spl b with
  | some x, some y => (cmpI (V x) (V y), 0)
  | _, _ => (0, 1)
theorem cmpR_some {a b : Str} {x y : Num} (hx : spl a = some x) (hy : spl b = some y) : cmpR a b = (cmpI (V x) (V y), 0) := by unfold cmpR; rw [hx, hy]
theorem cmpR_none {a b : Str} (h : spl a = none ∨ spl b = none) : cmpR a b = (0, 1) := by
  unfold cmpR
  rcases h with h | h
  · rw [h]
  · rw [h]; cases spl a <;> rfl
theorem cmpR_neg {x y : Num} (hx : x.neg = true) (hy : y.neg = true) : cmpI (V x) (V y) = cmpI (mag y) (mag x) := by unfold V; rw [hx, hy, if_pos rfl, if_pos rfl, cmpI_neg]
theorem cmpR_pos {x y : Num} (hx : x.neg = false) (hy : y.neg = false) : cmpI (V x) (V y) = cmpI (mag x) (mag y) := by unfold V; rw [hx, hy]; rfl
theorem cmpR_less {x y : Num} (g : Good x) (hx : x.neg = true) (hy : y.neg = false) : cmpI (V x) (V y) = -1 := by
  have := mag_pos g hx
  unfold V
  rw [hx, hy]
  simp only [if_true, Bool.false_eq_true, if_false]
  unfold cmpI
  rw [if_pos (by omega)]
theorem cmpR_more {x y : Num} (g : Good y) (hx : x.neg = false) (hy : y.neg = true) : cmpI (V x) (V y) = 1 := by
  have := mag_pos g hy
  unfold V
  rw [hx, hy]
  simp only [if_true, Bool.false_eq_true, if_false]
  unfold cmpI
  rw [if_neg (by omega), if_pos (by omega)]
def CmpPost (a b : Str) (w : World) (e : Ending) (w' : World) : Prop := e = .returned (.tuple #[.int .i64 (cmpR a b).1, .int .i64 (cmpR a b).2]) ∧ Below w.heap.size w w'
set_option maxRecDepth 1000000 in
set_option maxHeartbeats 8000000 in
theorem compare_any (s t : ByteArray) (hs : s.size ≤ 1000) (ht : t.size ≤ 1000) (w : World) : Calls Try.prog 21 #[.string s, .string t] w (CmpPost s.data.toList t.data.toList w) := by
  go_enter Try.func21, Try.ntmps21
  go_wp2_with fail
  refine (split_any s hs _).mono ?_
  rintro e w1 ⟨u, ok, x, rfl, ⟨a1, c1, a2, c2, rfl, ra, rf⟩, hy, hn, b1⟩
  have HXY := Lib.hid hy
  have HXN := Lib.hid hn
  have RA := Lib.hid (ra.alloc (.cells #[.bool x.neg, .slice a1 x.wh.length c1, .slice a2 x.fr.length c2] 43))
  have RF := Lib.hid (rf.alloc (.cells #[.bool x.neg, .slice a1 x.wh.length c1, .slice a2 x.fr.length c2] 43))
  have HB1 := Lib.hid (b1.alloc b1.size (.cells #[.bool x.neg, .slice a1 x.wh.length c1, .slice a2 x.fr.length c2] 43))
  have KX := Lib.hid (Blk.new w1 43 #[.bool x.neg, .slice a1 x.wh.length c1, .slice a2 x.fr.length c2])
  clear ra rf hy hn b1
  go_wp2_with fail
  obtain ⟨W1, hW1⟩ : ∃ W1, w1.alloc (.cells #[.bool x.neg, .slice a1 x.wh.length c1, .slice a2 x.fr.length c2] 43) = W1 := ⟨_, rfl⟩
  rw [hW1] at RA RF HB1 KX ⊢
  obtain ⟨C6, hC6⟩ : ∃ C6, w1.heap.size = C6 := ⟨_, rfl⟩
  rw [hC6] at KX ⊢
  clear hW1 hC6
  refine (split_any t ht _).mono ?_
  rintro e w2 ⟨u, okb, y, rfl, ⟨a3, c3, a4, c4, rfl, ra, rf⟩, hy, hn, b2⟩
  have HYY := Lib.hid hy
  have HYN := Lib.hid hn
  have SA := Lib.hid (ra.alloc (.cells #[.bool y.neg, .slice a3 y.wh.length c3, .slice a4 y.fr.length c4] 43))
  have SF := Lib.hid (rf.alloc (.cells #[.bool y.neg, .slice a3 y.wh.length c3, .slice a4 y.fr.length c4] 43))
  have TA := Lib.hid ((RA.out.below b2).alloc (.cells #[.bool y.neg, .slice a3 y.wh.length c3, .slice a4 y.fr.length c4] 43))
  have TF := Lib.hid ((RF.out.below b2).alloc (.cells #[.bool y.neg, .slice a3 y.wh.length c3, .slice a4 y.fr.length c4] 43))
  have HB2 := Lib.hid ((st HB1.out b2 HB1.out.size).alloc (st HB1.out b2 HB1.out.size).size (.cells #[.bool y.neg, .slice a3 y.wh.length c3, .slice a4 y.fr.length c4] 43))
  have KY := Lib.hid (Blk.new w2 43 #[.bool y.neg, .slice a3 y.wh.length c3, .slice a4 y.fr.length c4])
  have KX2 := Lib.hid ((KX.out.below b2).alloc (.cells #[.bool y.neg, .slice a3 y.wh.length c3, .slice a4 y.fr.length c4] 43))
  clear ra rf hy hn b2 RA RF HB1 KX
  cases ok with
  | false =>
    have HV : Hid (cmpR s.data.toList t.data.toList = (0, 1)) := Lib.hid (cmpR_none (.inl (HXN.out rfl)))
    go_wp2
    go_ret2
    exact ⟨by rw [HV.out]; rfl, HB2.out⟩
  | true =>
    cases okb with
    | false =>
      have HV : Hid (cmpR s.data.toList t.data.toList = (0, 1)) := Lib.hid (cmpR_none (.inr (HYN.out rfl)))
      go_wp2
      go_ret2
      exact ⟨by rw [HV.out]; rfl, HB2.out⟩
    | true =>
      have GX := Lib.hid (spl_some (HXY.out rfl)).1
      have GY := Lib.hid (spl_some (HYY.out rfl)).1
      have HV : Hid (cmpR s.data.toList t.data.toList = (cmpI (V x) (V y), 0)) := Lib.hid (cmpR_some (HXY.out rfl) (HYY.out rfl))
      clear HXY HXN HYY HYN
      obtain ⟨nx, hnx⟩ : ∃ nx, x.neg = nx := ⟨_, rfl⟩
      obtain ⟨ny, hny⟩ : ∃ ny, y.neg = ny := ⟨_, rfl⟩
      rw [hnx] at KX2
      rw [hny] at TA TF HB2 KX2 SA SF KY
      rw [hnx, hny]
      have HNX := Lib.hid hnx
      have HNY := Lib.hid hny
      clear hnx hny
      obtain ⟨W2, hW2⟩ : ∃ W2, w2.alloc (.cells #[.bool ny, .slice a3 y.wh.length c3, .slice a4 y.fr.length c4] 43) = W2 := ⟨_, rfl⟩
      obtain ⟨C8, hC8⟩ : ∃ C8, w2.heap.size = C8 := ⟨_, rfl⟩
      rw [hW2] at TA TF SA SF HB2 KX2 KY
      rw [hC8] at KY
      go_upto_region 3 with fail
      have HWC := Lib.hid (And.intro hW2 hC8)
      clear hW2 hC8
      have m0 : W2.cell? ⟨C6, 0, none⟩ = some (.bool nx) := KX2.out.cell 0
      have m1 : W2.cell? ⟨C8, 0, none⟩ = some (.bool ny) := KY.out.cell 0
      cases nx with
      | true =>
        cases ny with
        | true =>
          have AF : Hid (allD (al ⟨true, y.wh, y.fr⟩) ∧ (al ⟨true, y.wh, y.fr⟩).length = 21 ∧ val (al ⟨true, y.wh, y.fr⟩) = mag y) := Lib.hid (by have h := al_facts GY.out; exact h)
          have AG : Hid (allD (al ⟨true, x.wh, x.fr⟩) ∧ (al ⟨true, x.wh, x.fr⟩).length = 21 ∧ val (al ⟨true, x.wh, x.fr⟩) = mag x) := Lib.hid (by have h := al_facts GX.out; exact h)
          have HE : Hid (cmpI (V x) (V y) = cmpI (val (al ⟨true, y.wh, y.fr⟩)) (val (al ⟨true, x.wh, x.fr⟩))) := Lib.hid (by rw [AF.out.2.2, AG.out.2.2]; exact cmpR_neg HNX.out HNY.out)
          go_upto_region 6 with fail
          have HKX : Hid (∀ wx, Below W2.heap.size W2 wx → (wx.cell? ⟨C6, 0, none⟩ = some (.bool true) ∧ wx.cell? ⟨C6, 1, none⟩ = some (.slice a1 x.wh.length c1) ∧ wx.cell? ⟨C6, 2, none⟩ = some (.slice a2 x.fr.length c2)) ∧ (wx.cell? ⟨C8, 0, none⟩ = some (.bool true) ∧ wx.cell? ⟨C8, 1, none⟩ = some (.slice a3 y.wh.length c3) ∧ wx.cell? ⟨C8, 2, none⟩ = some (.slice a4 y.fr.length c4))) := Lib.hid (fun wx hb => ⟨⟨(KX2.out.below hb).cell 0, (KX2.out.below hb).cell 1, (KX2.out.below hb).cell 2⟩, (KY.out.below hb).cell 0, (KY.out.below hb).cell 1, (KY.out.below hb).cell 2⟩)
          have Z0 : Below W2.heap.size W2 W2.drew := (Below.refl _ W2).drew
          go_region_held3 (fun wx => (wx.cell? ⟨C6, 0, none⟩ = some (.bool true) ∧ wx.cell? ⟨C6, 1, none⟩ = some (.slice a1 x.wh.length c1) ∧ wx.cell? ⟨C6, 2, none⟩ = some (.slice a2 x.fr.length c2)) ∧ (wx.cell? ⟨C8, 0, none⟩ = some (.bool true) ∧ wx.cell? ⟨C8, 1, none⟩ = some (.slice a3 y.wh.length c3) ∧ wx.cell? ⟨C8, 2, none⟩ = some (.slice a4 y.fr.length c4))) (first | exact HKX.out _ Z2 | exact HKX.out _ Z1 | exact HKX.out _ (Below.refl _ _).drew) (first
            | (go_at_call 39; first | ((with_reducible refine (aligned_any true a3 c3 y.wh a4 c4 y.fr _ (SA.out.below (Below.refl _ W2).drew) (SF.out.below (Below.refl _ W2).drew) GY.out.high GY.out.few).mono ?_); rintro e w5 ⟨rfl, b5⟩; have Z1 : Below W2.heap.size W2 w5 := (Below.refl _ W2).drew.trans b5) | ((with_reducible refine (aligned_any true a1 c1 x.wh a2 c2 x.fr _ (TA.out.below Z1) (TF.out.below Z1) GX.out.high GX.out.few).mono ?_); rintro e w6 ⟨rfl, b6⟩; have Z2 : Below W2.heap.size W2 w6 := st Z1 b6 Z1.size))
            | (go_at_call 38; refine (compareStrings_any (al ⟨true, y.wh, y.fr⟩) (al ⟨true, x.wh, x.fr⟩) AF.out.1 AG.out.1 (AF.out.2.1.trans AG.out.2.1.symm) _).mono ?_; rintro e w7 ⟨rfl, hw7⟩; obtain rfl := hw7.symm))
          all_goals
            go_wp2
            go_ret2
            exact ⟨by rw [HV.out, HE.out]; rfl, HB2.out.trans (Z2.mono HB2.out.size)⟩
        | false =>
          have HE : Hid (cmpI (V x) (V y) = -1) := Lib.hid (cmpR_less GX.out HNX.out HNY.out)
          go_wp2
          go_ret2
          exact ⟨by rw [HV.out, HE.out]; rfl, HB2.out⟩
      | false =>
        cases ny with
        | true =>
          have HE : Hid (cmpI (V x) (V y) = 1) := Lib.hid (cmpR_more GY.out HNX.out HNY.out)
          go_wp2
          go_ret2
          exact ⟨by rw [HV.out, HE.out]; rfl, HB2.out⟩
        | false =>
          have AF : Hid (allD (al ⟨false, x.wh, x.fr⟩) ∧ (al ⟨false, x.wh, x.fr⟩).length = 21 ∧ val (al ⟨false, x.wh, x.fr⟩) = mag x) := Lib.hid (by have h := al_facts GX.out; exact h)
          have AG : Hid (allD (al ⟨false, y.wh, y.fr⟩) ∧ (al ⟨false, y.wh, y.fr⟩).length = 21 ∧ val (al ⟨false, y.wh, y.fr⟩) = mag y) := Lib.hid (by have h := al_facts GY.out; exact h)
          have HE : Hid (cmpI (V x) (V y) = cmpI (val (al ⟨false, x.wh, x.fr⟩)) (val (al ⟨false, y.wh, y.fr⟩))) := Lib.hid (by rw [AF.out.2.2, AG.out.2.2]; exact cmpR_pos HNX.out HNY.out)
          go_upto_region 11 with fail
          have HKX : Hid (∀ wx, Below W2.heap.size W2 wx → (wx.cell? ⟨C6, 0, none⟩ = some (.bool false) ∧ wx.cell? ⟨C6, 1, none⟩ = some (.slice a1 x.wh.length c1) ∧ wx.cell? ⟨C6, 2, none⟩ = some (.slice a2 x.fr.length c2)) ∧ (wx.cell? ⟨C8, 0, none⟩ = some (.bool false) ∧ wx.cell? ⟨C8, 1, none⟩ = some (.slice a3 y.wh.length c3) ∧ wx.cell? ⟨C8, 2, none⟩ = some (.slice a4 y.fr.length c4))) := Lib.hid (fun wx hb => ⟨⟨(KX2.out.below hb).cell 0, (KX2.out.below hb).cell 1, (KX2.out.below hb).cell 2⟩, (KY.out.below hb).cell 0, (KY.out.below hb).cell 1, (KY.out.below hb).cell 2⟩)
          have Z0 : Below W2.heap.size W2 W2.drew := (Below.refl _ W2).drew
          go_region_held3 (fun wx => (wx.cell? ⟨C6, 0, none⟩ = some (.bool false) ∧ wx.cell? ⟨C6, 1, none⟩ = some (.slice a1 x.wh.length c1) ∧ wx.cell? ⟨C6, 2, none⟩ = some (.slice a2 x.fr.length c2)) ∧ (wx.cell? ⟨C8, 0, none⟩ = some (.bool false) ∧ wx.cell? ⟨C8, 1, none⟩ = some (.slice a3 y.wh.length c3) ∧ wx.cell? ⟨C8, 2, none⟩ = some (.slice a4 y.fr.length c4))) (first | exact HKX.out _ Z2 | exact HKX.out _ Z1 | exact HKX.out _ (Below.refl _ _).drew) (first
            | (go_at_call 39; first | ((with_reducible refine (aligned_any false a1 c1 x.wh a2 c2 x.fr _ (TA.out.below (Below.refl _ W2).drew) (TF.out.below (Below.refl _ W2).drew) GX.out.high GX.out.few).mono ?_); rintro e w5 ⟨rfl, b5⟩; have Z1 : Below W2.heap.size W2 w5 := (Below.refl _ W2).drew.trans b5) | ((with_reducible refine (aligned_any false a3 c3 y.wh a4 c4 y.fr _ (SA.out.below Z1) (SF.out.below Z1) GY.out.high GY.out.few).mono ?_); rintro e w6 ⟨rfl, b6⟩; have Z2 : Below W2.heap.size W2 w6 := st Z1 b6 Z1.size))
            | (go_at_call 38; refine (compareStrings_any (al ⟨false, x.wh, x.fr⟩) (al ⟨false, y.wh, y.fr⟩) AF.out.1 AG.out.1 (AF.out.2.1.trans AG.out.2.1.symm) _).mono ?_; rintro e w7 ⟨rfl, hw7⟩; obtain rfl := hw7.symm))
          all_goals
            go_wp2
            go_ret2
            exact ⟨by rw [HV.out, HE.out]; rfl, HB2.out.trans (Z2.mono HB2.out.size)⟩
set_option maxRecDepth 1000000 in
set_option maxHeartbeats 2000000 in
theorem same_any (s t : ByteArray) (hs : s.size ≤ 1000) (ht : t.size ≤ 1000) (w : World) : Calls Try.prog 23 #[.string s, .string t] w fun e w' => e = .returned (.tuple #[.bool ((cmpR s.data.toList t.data.toList).2 == 0 && (cmpR s.data.toList t.data.toList).1 == 0), .int .i64 (cmpR s.data.toList t.data.toList).2]) ∧ Below w.heap.size w w' := by
  go_enter Try.func23, Try.ntmps23
  go_wp2_with fail
  refine (compare_any s t hs ht _).mono ?_
  rintro e w1 ⟨rfl, b1⟩
  have HB := Lib.hid b1
  clear b1
  obtain ⟨c1, hc1⟩ : ∃ c, (cmpR s.data.toList t.data.toList).1 = c := ⟨_, rfl⟩
  obtain ⟨c2, hc2⟩ : ∃ c, (cmpR s.data.toList t.data.toList).2 = c := ⟨_, rfl⟩
  rw [hc1, hc2]
  have H1 := Lib.hid hc1
  have H2 := Lib.hid hc2
  clear hc1 hc2
  by_cases h2 : c2 = 0
  · subst h2
    go_wp2
    go_ret2
    exact ⟨by rw [H1.out, H2.out]; rfl, HB.out⟩
  · have q2 : (c2 == 0) = false := by rw [beq_eq_false_iff_ne]; exact h2
    clear h2
    go_wp2
    go_ret2
    exact ⟨by rw [H1.out, H2.out, q2]; rfl, HB.out⟩
end Go.Proofs.Ytkgjadblfldjnaa
