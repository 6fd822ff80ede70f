/- Of the program: split. -/
import Derived.Test.YteofkofgdhmpjaaDoorKg
import Derived.Deep.DeepCutAuto
namespace Go.Proofs.YteofkofgdhmpjaaDoor
open Go.RowKit
set_option linter.unusedVariables false

theorem rdN_zero (w : World) : RdN w (.agg #[.bool false, .slice none 0 0, .slice none 0 0]) ⟨false, [], []⟩ := ⟨none, 0, none, 0, rfl, rd_nil w, rd_nil w⟩
def SplPost (s : Str) (w : World) (e : Ending) (w' : World) : Prop := ∃ u ok x, e = .returned (.tuple #[u, .bool ok]) ∧ RdN w' u x ∧ (ok = true → spl s = some x) ∧ (ok = false → spl s = none) ∧ Below w.heap.size w w'
theorem res29 {W : World} {tm : Array Value} {B : Nat} {t : TypeId} {a b c d : Value} (t2 : tm[2]?.getD undef = .pointer (some ⟨B, 0, none⟩)) (t3 : tm[3]?.getD undef = d) (h : Blk B t #[a, b, c] W) :
    (results Tryd.f29 tm).run Tryd.prog W = .ok (.tuple #[.agg #[a, b, c], d]) W := by
  have a0 : W.cell? ⟨B, 0, none⟩ = some a := h.cell 0
  have a1 : W.cell? ⟨B, 1, none⟩ = some b := h.cell 1
  have a2 : W.cell? ⟨B, 2, none⟩ = some c := h.cell 2
  simp [results, Tryd.f29, go_sem, t2, t3, a0, a1, a2]
theorem head_data {s : ByteArray} (h : 0 < s.size) : s.data.toList.head? = some (s[0]'h) := by
  have hl : 0 < s.data.toList.length := by rw [len_data]; exact h
  rw [List.head?_eq_getElem?, List.getElem?_eq_getElem hl]
  rfl
theorem data_nil {s : ByteArray} (h : s.size = 0) : s.data.toList = [] := List.eq_nil_of_length_eq_zero (by rw [len_data]; exact h)
theorem u8_eq (c d : UInt8) : c = d ↔ (c.toNat : Int) = (d.toNat : Int) := by
  constructor
  · rintro rfl; rfl
  · intro h; exact u8_ext (by omega)
theorem neg_cons {l : Str} (h : negP l = true) : l = 45 :: unP l := by
  have := unP_eq l
  rw [h] at this
  exact this
set_option maxRecDepth 1000000 in
set_option maxHeartbeats 4000000 in
theorem split_any9 (s : ByteArray) (hs : s.size ≤ 9223372036854775807) (w : World) : Calls Tryd.prog 29 #[.string s] w (SplPost s.data.toList w) := by
  have HB := Lib.hid (((Below.refl w.heap.size w).alloc (Nat.le_refl _) (.cells #[.bool false, .slice none 0 0, .slice none 0 0] 54)).alloc (by simp) (.cells #[.bool false, .slice none 0 0, .slice none 0 0] 54))
  have K1 := Lib.hid ((Blk.new w 54 #[.bool false, .slice none 0 0, .slice none 0 0]).alloc (.cells #[.bool false, .slice none 0 0, .slice none 0 0] 54))
  have K2 := Lib.hid (Blk.new (w.alloc (.cells #[.bool false, .slice none 0 0, .slice none 0 0] 54)) 54 #[.bool false, .slice none 0 0, .slice none 0 0])
  go_enter Tryd.func29, Tryd.ntmps29
  go_upto_region 2 with fail
  obtain ⟨W0, hW0⟩ : ∃ W0, (w.alloc (.cells #[.bool false, .slice none 0 0, .slice none 0 0] 54)).alloc (.cells #[.bool false, .slice none 0 0, .slice none 0 0] 54) = W0 := ⟨_, rfl⟩
  rw [hW0] at K1 K2 HB ⊢
  rw [World.size_alloc] at K2
  obtain ⟨B0, hB0⟩ : ∃ B0, w.heap.size = B0 := ⟨_, rfl⟩
  have HB0 := Lib.hid hB0
  rw [hB0] at K1 K2 ⊢
  have HW0 := Lib.hid hW0
  clear hW0 hB0
  obtain ⟨l, hl⟩ : ∃ l, s.data.toList = l := ⟨_, rfl⟩
  have HL := Lib.hid hl
  obtain ⟨nb, hnb⟩ : ∃ nb, negP l = nb := ⟨_, rfl⟩
  have HNB := Lib.hid hnb
  clear hl hnb
  go_cut [12] from 6 to 12 (fun v12 wx => v12 = .bool nb ∧ wx = W0)
  case first =>
    by_cases h0 : s.size = 0
    · have e1 : (s.toList == ([] : List UInt8)) = true := by rw [ByteArray.toList_eq, data_nil h0]; rfl
      have e2 : Hid (nb = false) := Lib.hid (by rw [← HNB.out, ← HL.out, data_nil h0]; rfl)
      go_wp2_with fail
      go_meet
      exact ⟨by rw [e2.out], rfl⟩
    · have h1 : 0 < s.size := by omega
      have e1 : (s.toList == ([] : List UInt8)) = false := by rw [ByteArray.toList_eq, beq_eq_false_iff_ne]; intro e; have := len_data s; rw [e] at this; simp at this; omega
      have e2 : Hid (((s[0]'h1).toNat : Int) = 45 ↔ nb = true) := Lib.hid (by
        rw [← HNB.out, ← HL.out]
        unfold negP
        rw [head_data h1, decide_eq_true_eq, Option.some_inj]
        exact (u8_eq (s[0]'h1) 45).symm)
      clear h0
      by_cases h2 : ((s[0]'h1).toNat : Int) = 45
      · have e3 := e2.out.1 h2
        have e4 : (((s[0]'h1).toNat : Int) == 45) = true := by rw [beq_iff_eq]; exact h2
        clear h2
        go_wp2_with fail
        go_meet
        exact ⟨by rw [e3], rfl⟩
      · have e3 : nb = false := by cases h : nb with | false => rfl | true => exact absurd (e2.out.2 h) h2
        have e4 : (((s[0]'h1).toNat : Int) == 45) = false := by rw [beq_eq_false_iff_ne]; exact h2
        clear h2
        go_wp2_with fail
        go_meet
        exact ⟨by rw [e3], rfl⟩
  case rest =>
    obtain ⟨rfl, hwc⟩ := hcut
    obtain rfl := hwc.symm
    go_upto_if 12 with fail
    have zw := HB.out.size
    go_cut [0] from 13 to 15 (fun v0 wx => v0 = .string (ofL (unP l)) ∧ Blk (B0 + 1) 54 #[.bool nb, .slice none 0 0, .slice none 0 0] wx ∧ Blk B0 54 #[.bool false, .slice none 0 0, .slice none 0 0] wx ∧ Below w.heap.size w wx)
    case first =>
      cases nb with
      | false =>
        go_wp2_with fail
        go_meet
        refine ⟨?_, K2.out, K1.out, HB.out⟩
        have e1 : unP l = l := by
          have := unP_eq l
          rw [HNB.out] at this
          exact this.symm
        rw [e1, ← HL.out, of_data]
      | true =>
        have h1 : 1 ≤ s.size := by rw [← len_data, HL.out, neg_cons HNB.out]; simp
        have q1 : (1 : Int) ≤ (s.size : Int) := by omega
        have x0 : W0.cell? ⟨B0 + 1, 0, none⟩ = some (.bool false) := K2.out.cell 0
        have x1 : W0.drew.cell? ⟨B0 + 1, 0, none⟩ = some (.bool false) := K2.out.cell 0
        have xf : W0.frozen? ⟨B0 + 1, 0, none⟩ = false := K2.out.frozen 0
        have xg : W0.drew.frozen? ⟨B0 + 1, 0, none⟩ = false := K2.out.frozen 0
        go_wp2_with fail
        go_region
        all_goals go_wp2_with fail
        all_goals go_meet
        refine ⟨?_, (K2.out.put 0 (.bool true)).drew, (K1.out.far (p := ⟨B0 + 1, 0, none⟩) (by show B0 ≠ B0 + 1; omega) _).drew, (HB.out.setCell (p := ⟨B0 + 1, 0, none⟩) (by have := HB0.out; show w.heap.size ≤ B0 + 1; omega) _).drew⟩
        have e1 : s.data.toList = 45 :: unP l := HL.out.trans (neg_cons HNB.out)
        have e2 : s.size = (unP l).length + 1 := by rw [← len_data, e1, List.length_cons]
        rw [ext_of, e1, e2, List.drop_succ_cons, List.drop_zero, List.take_of_length_le (by omega)]
    case rest =>
      obtain ⟨rfl, k2, k1, hb⟩ := hcut
      have hul : (unP l).length ≤ 9223372036854775807 := by
        have e := congrArg List.length (unP_eq l)
        rw [List.length_append] at e
        have := len_data s
        rw [HL.out] at this
        omega
      have HU := Lib.hid hul
      clear K1 K2 HB zw HW0
      have K1 := Lib.hid k1
      have K2 := Lib.hid k2
      have HB := Lib.hid hb
      clear k1 k2 hb
      obtain ⟨t, ht⟩ : ∃ t, ofL (unP l) = t := ⟨_, rfl⟩
      have ht2 : t.data.toList = unP l := by rw [← ht]; rfl
      have HT := Lib.hid ht2
      have hts : t.size ≤ 9223372036854775807 := by rw [← len_data, ht2]; exact HU.out
      rw [ht]
      clear ht ht2
      go_wp2_with fail
      refine (cutDigits_any t 15 hts (by omega) _).mono ?_
      rintro e w1 ⟨va, rfl, hra, hown, hb1⟩
      rw [HT.out] at hra ⊢
      obtain ⟨wh, hwh⟩ : ∃ wh, (unP l).take (run 15 (unP l)) = wh := ⟨_, rfl⟩
      obtain ⟨s2, hs2⟩ : ∃ s2, (unP l).drop (run 15 (unP l)) = s2 := ⟨_, rfl⟩
      rw [hwh] at hra
      rw [hs2]
      have HWH := Lib.hid (And.intro hwh hs2)
      clear hwh hs2
      obtain ⟨a1, c1, rfl, _, _⟩ := hra.slice
      have J1 := Lib.hid (K1.out.below hb1)
      have J2 := Lib.hid (K2.out.below hb1)
      have HB1 := Lib.hid (st HB.out hb1 HB.out.size)
      have HNE : Hid (∀ b, (Value.slice a1 wh.length c1).ownBlock = some b → b ≠ B0 + 1) := Lib.hid (fun b e => by have := hown b e; have := K2.out.lt; omega)
      have HNF : Hid (∀ b, (Value.slice a1 wh.length c1).ownBlock = some b → b ≠ B0) := Lib.hid (fun b e => by have := hown b e; have := K2.out.lt; omega)
      have RA := Lib.hid hra
      clear hra hb1 K1 K2 HB hown
      have x1 : w1.cell? ⟨B0 + 1, 1, none⟩ = some (.slice none 0 0) := J2.out.cell 1
      have xf : w1.frozen? ⟨B0 + 1, 1, none⟩ = false := J2.out.frozen 1
      go_upto_region 5 with fail
      have hwn : w1.heap.size = w1.heap.size := rfl
      have J3 := Lib.hid (J2.out.put 1 (.slice a1 wh.length c1))
      have J4 := Lib.hid (J1.out.far (p := ⟨B0 + 1, 1, none⟩) (by show B0 ≠ B0 + 1; omega) (.slice a1 wh.length c1))
      have HB2 := Lib.hid (HB1.out.setCell (p := ⟨B0 + 1, 1, none⟩) (by have := HB0.out; show w.heap.size ≤ B0 + 1; omega) (.slice a1 wh.length c1))
      have RA2 := Lib.hid (RA.out.but (But.setCell (B0 + 1) w1 1 (.slice a1 wh.length c1)) HNE.out)
      obtain ⟨W2, hW2⟩ : ∃ W2, w1.setCell ⟨B0 + 1, 1, none⟩ (.slice a1 wh.length c1) = W2 := ⟨_, rfl⟩
      rw [hW2] at J3 J4 HB2 RA2 ⊢
      have HW2 := Lib.hid hW2
      have J3' : Blk (B0 + 1) 54 #[.bool nb, .slice a1 wh.length c1, .slice none 0 0] W2 := J3.out
      clear hW2 J1 J2 HB1 x1 xf RA J3
      have J3 := Lib.hid J3'
      clear J3'
      have x1 : W2.cell? ⟨B0 + 1, 1, none⟩ = some (.slice a1 wh.length c1) := J3.out.cell 1
      obtain ⟨ok1, hok1⟩ : ∃ ok1, (decide (wh.length = 1) || (decide (1 < wh.length) && decide (wh.head? ≠ some 48))) = ok1 := ⟨_, rfl⟩
      have HOK := Lib.hid hok1
      clear hok1
      obtain ⟨N, hN⟩ : ∃ N, wh.length = N := ⟨_, rfl⟩
      have HN := Lib.hid hN
      rw [hN] at x1 J3 RA2 HNE HNF ⊢
      clear hN
      go_cut [5] from 22 to 38 (fun v5 wx => v5 = .bool ok1 ∧ wx = W2)
      case first =>
        by_cases h1 : N = 1
        · have e1 : Hid (ok1 = true) := Lib.hid (by rw [← HOK.out, HN.out, h1]; rfl)
          have q1 : ((N : Int) == 1) = true := by rw [beq_iff_eq]; omega
          clear h1
          go_wp2_with fail
          go_meet
          exact ⟨by rw [e1.out], rfl⟩
        · have q1 : ((N : Int) == 1) = false := by rw [beq_eq_false_iff_ne]; omega
          by_cases h2 : 1 < N
          · have q2 : (1 : Int) < (N : Int) := by omega
            obtain ⟨bb, off, rfl, hx⟩ := RA2.out.byte 0 (by rw [HN.out]; omega)
            rw [Nat.add_zero] at hx
            have hh : wh.head? = some (wh[0]'(by rw [HN.out]; omega)) := by rw [List.head?_eq_getElem?, List.getElem?_eq_getElem]
            have hy := u8_eq48 (wh[0]'(by rw [HN.out]; omega))
            obtain ⟨y, hyy⟩ : ∃ y, wh[0]'(by rw [HN.out]; omega) = y := ⟨_, rfl⟩
            rw [hyy] at hh hx hy
            obtain ⟨x, hxx⟩ : ∃ x : Int, (y.toNat : Int) = x := ⟨_, rfl⟩
            rw [hxx] at hx hy
            have e1 : Hid (ok1 = !(x == 48)) := Lib.hid (by
              rw [← HOK.out, HN.out, hh]
              have : (decide (some y ≠ some 48)) = !(x == 48) := by
                rw [Bool.eq_iff_iff, decide_eq_true_eq, Bool.not_eq_true', beq_eq_false_iff_ne]
                exact not_congr (by rw [Option.some_inj]; exact hy)
              rw [this]
              simp [h1, h2])
            clear hh hxx hyy hy h1 h2
            by_cases h4 : x = 48
            · have q3 : (x == 48) = true := by rw [beq_iff_eq]; exact h4
              subst h4
              go_wp2_with fail
              go_meet
              exact ⟨by rw [e1.out]; rfl, rfl⟩
            · have q3 : (x == 48) = false := by rw [beq_eq_false_iff_ne]; exact h4
              clear h4
              go_wp2_with fail
              go_meet
              exact ⟨by rw [e1.out]; rfl, rfl⟩
          · have q2 : ¬ (1 : Int) < (N : Int) := by omega
            have e1 : Hid (ok1 = false) := Lib.hid (by rw [← HOK.out, HN.out]; simp [h1, h2])
            clear h1 h2
            go_wp2_with fail
            go_meet
            exact ⟨by rw [e1.out], rfl⟩
      case rest =>
        obtain ⟨rfl, hwc⟩ := hcut
        obtain rfl := hwc.symm
        clear x1
        go_upto_region 6 with fail
        obtain ⟨t2, ht2⟩ : ∃ t2, ofL s2 = t2 := ⟨_, rfl⟩
        have HT2 : Hid (t2.data.toList = s2) := Lib.hid (by rw [← ht2]; rfl)
        have hs2l : s2.length ≤ 9223372036854775807 := by
          have := HU.out
          rw [← HWH.out.2, List.length_drop]
          omega
        have hts2 : t2.size ≤ 9223372036854775807 := by rw [← len_data, HT2.out]; exact hs2l
        rw [ht2]
        clear ht2 hs2l
        obtain ⟨db, hdb⟩ : ∃ db, decide (s2.head? = some 46) = db := ⟨_, rfl⟩
        have HDB := Lib.hid hdb
        clear hdb
        go_cut [45] from 39 to 45 (fun v45 wx => v45 = .bool db ∧ wx = W2)
        case first =>
          by_cases h0 : t2.size = 0
          · have e1 : (t2.toList == ([] : List UInt8)) = true := by rw [ByteArray.toList_eq, data_nil h0]; rfl
            have e2 : Hid (db = false) := Lib.hid (by rw [← HDB.out, ← HT2.out, data_nil h0]; rfl)
            go_wp2_with fail
            go_meet
            exact ⟨by rw [e2.out], rfl⟩
          · have h1 : 0 < t2.size := by omega
            have e1 : (t2.toList == ([] : List UInt8)) = false := by rw [ByteArray.toList_eq, beq_eq_false_iff_ne]; intro e; have := len_data t2; rw [e] at this; simp at this; omega
            have e2 : Hid (((t2[0]'h1).toNat : Int) = 46 ↔ db = true) := Lib.hid (by
              rw [← HDB.out, ← HT2.out, head_data h1, decide_eq_true_eq, Option.some_inj]
              exact (u8_eq (t2[0]'h1) 46).symm)
            clear h0
            by_cases h2 : ((t2[0]'h1).toNat : Int) = 46
            · have e3 := e2.out.1 h2
              have e4 : (((t2[0]'h1).toNat : Int) == 46) = true := by rw [beq_iff_eq]; exact h2
              clear h2
              go_wp2_with fail
              go_meet
              exact ⟨by rw [e3], rfl⟩
            · have e3 : db = false := by cases h : db with | false => rfl | true => exact absurd (e2.out.2 h) h2
              have e4 : (((t2[0]'h1).toNat : Int) == 46) = false := by rw [beq_eq_false_iff_ne]; exact h2
              clear h2
              go_wp2_with fail
              go_meet
              exact ⟨by rw [e3], rfl⟩
        case rest =>
          obtain ⟨rfl, hwc⟩ := hcut
          obtain rfl := hwc.symm
          go_upto_if 45 with fail
          go_cut [0, 5] from 46 to 59 (fun v0 v5 wx => v0 = .string (ofL (reP s2)) ∧ v5 = .bool (okP wh s2) ∧ RdB wx (.slice a1 N c1) wh ∧ (∃ a2 c2, RdB wx (.slice a2 (frP s2).length c2) (frP s2) ∧ (∀ b, (Value.slice a2 (frP s2).length c2).ownBlock = some b → b ≠ B0) ∧ Blk (B0 + 1) 54 #[.bool nb, .slice a1 N c1, .slice a2 (frP s2).length c2] wx) ∧ Blk B0 54 #[.bool false, .slice none 0 0, .slice none 0 0] wx ∧ Below w.heap.size w wx)
          case first =>
            cases db with
            | false =>
              have hno : s2.head? ≠ some 46 := by have := HDB.out; rw [decide_eq_false_iff_not] at this; exact this
              have e1 : frP s2 = [] := by unfold frP; rw [if_neg hno]
              have e2 : reP s2 = s2 := by unfold reP; rw [if_neg hno]
              have e3 : okP wh s2 = ok1 := by unfold okP; rw [HOK.out]; simp [hno]
              have HE := Lib.hid (And.intro e1 (And.intro e2 e3))
              clear hno e1 e2 e3
              go_wp2_with fail
              go_meet
              refine ⟨?_, ?_, RA2.out, ⟨none, 0, ?_, (fun b e => by cases e), ?_⟩, J4.out, HB2.out⟩
              · rw [HE.out.2.1, ← HT2.out, of_data]
              · rw [HE.out.2.2]
              · rw [HE.out.1]; exact rd_nil _
              · rw [HE.out.1]; exact J3.out
            | true =>
              have hyes : s2.head? = some 46 := of_decide_eq_true HDB.out
              have hs2e := tail_of hyes
              have HS2 := Lib.hid hs2e
              have h1 : 1 ≤ t2.size := by rw [← len_data, HT2.out, hs2e]; simp
              have q1 : (1 : Int) ≤ (t2.size : Int) := by omega
              have e1 : frP s2 = s2.tail.take (run 6 s2.tail) := by unfold frP; rw [if_pos hyes]
              have e2 : reP s2 = s2.tail.drop (run 6 s2.tail) := by unfold reP; rw [if_pos hyes]
              have e3 : okP wh s2 = (ok1 && decide (0 < (frP s2).length)) := by unfold okP; rw [HOK.out]; simp [hyes]
              have HE := Lib.hid (And.intro e1 (And.intro e2 e3))
              have hx : (t2.extract 1 t2.size).data.toList = s2.tail := by
                rw [ext_of, ofL_list, HT2.out, List.take_of_length_le (by rw [← HT2.out, List.length_drop, len_data]; omega), List.drop_one]
              have HX := Lib.hid hx
              have hxs : (t2.extract 1 t2.size).size ≤ 9223372036854775807 := by simp; omega
              clear hyes hs2e e1 e2 e3 hx
              go_wp2_with fail
              refine (cutDigits_any _ 6 hxs (by omega) _).mono ?_
              rintro e w3 ⟨vf, rfl, hrf, hown, hb3⟩
              rw [HX.out] at hrf ⊢
              obtain ⟨a2, c2, hvf, _, _⟩ := hrf.slice
              subst hvf
              have HFE := Lib.hid (HE.out.1.symm)
              rw [← HE.out.1] at hrf hown ⊢
              have HREP : Hid (reP s2 = s2.tail.drop (run 6 s2.tail)) := Lib.hid HE.out.2.1
              rw [← HREP.out]
              have HOP : Hid (okP wh s2 = (ok1 && decide (0 < (frP s2).length))) := Lib.hid HE.out.2.2
              obtain ⟨M, hM⟩ : ∃ M, (frP s2).length = M := ⟨_, rfl⟩
              rw [hM] at hrf hown HOP ⊢
              have HM := Lib.hid hM
              have J5 := Lib.hid (J3.out.below hb3)
              have x2 : w3.cell? ⟨B0 + 1, 2, none⟩ = some (.slice none 0 0) := J5.out.cell 2
              have xf : w3.frozen? ⟨B0 + 1, 2, none⟩ = false := J5.out.frozen 2
              have JX : Hid (Blk (B0 + 1) 54 #[.bool nb, .slice a1 N c1, .slice a2 M c2] (w3.setCell ⟨B0 + 1, 2, none⟩ (.slice a2 M c2))) := Lib.hid (J5.out.put 2 (.slice a2 M c2))
              have JY := Lib.hid ((J4.out.below hb3).far (p := ⟨B0 + 1, 2, none⟩) (by show B0 ≠ B0 + 1; omega) (.slice a2 M c2))
              have HBX := Lib.hid ((st HB2.out hb3 HB2.out.size).setCell (p := ⟨B0 + 1, 2, none⟩) (by have := HB0.out; show w.heap.size ≤ B0 + 1; omega) (.slice a2 M c2))
              have RX := Lib.hid ((RA2.out.below hb3).but (But.setCell (B0 + 1) w3 2 (.slice a2 M c2)) HNE.out)
              have RY := Lib.hid (hrf.but (But.setCell (B0 + 1) w3 2 (.slice a2 M c2)) (fun b e => by have := hown b e; have := J3.out.lt; omega))
              have HNG : Hid (∀ b, (Value.slice a2 (frP s2).length c2).ownBlock = some b → b ≠ B0) := Lib.hid (fun b e => by have := hown b (by rw [← hM]; exact e); have := J3.out.lt; omega)
              clear hrf hown hM hb3 HE
              have y2 : (w3.setCell ⟨B0 + 1, 2, none⟩ (.slice a2 M c2)).cell? ⟨B0 + 1, 2, none⟩ = some (.slice a2 M c2) := JX.out.cell 2
              have fin : ∀ vb : Bool, vb = (ok1 && decide (0 < M)) → Hid (Value.bool vb = .bool (okP wh s2)) := fun vb h => Lib.hid (by rw [HOP.out, h])
              cases ok1 with
              | false =>
                have H9 := fin false rfl
                clear fin
                go_wp2_with fail
                go_meet
                refine ⟨rfl, H9.out, RX.out, ⟨a2, c2, ?_, HNG.out, ?_⟩, JY.out, HBX.out⟩
                · rw [HM.out]; exact RY.out
                · rw [HM.out]; exact JX.out
              | true =>
                by_cases hM0 : 0 < M
                · have q2 : (0 : Int) < (M : Int) := by omega
                  have H9 := fin true (by simp [hM0])
                  clear fin
                  go_wp2_with fail
                  go_meet
                  refine ⟨rfl, H9.out, RX.out, ⟨a2, c2, ?_, HNG.out, ?_⟩, JY.out, HBX.out⟩
                  · rw [HM.out]; exact RY.out
                  · rw [HM.out]; exact JX.out
                · have q2 : ¬ (0 : Int) < (M : Int) := by omega
                  have H9 := fin false (by simp [hM0])
                  clear fin
                  go_wp2_with fail
                  go_meet
                  refine ⟨rfl, H9.out, RX.out, ⟨a2, c2, ?_, HNG.out, ?_⟩, JY.out, HBX.out⟩
                  · rw [HM.out]; exact RY.out
                  · rw [HM.out]; exact JX.out
          case rest =>
            obtain ⟨rfl, rfl, ra, ⟨a2, c2, rf, hg, k2⟩, k1, hb⟩ := hcut
            clear J3 J4 RA2 HB2
            obtain ⟨M, hM⟩ : ∃ M, (frP s2).length = M := ⟨_, rfl⟩
            rw [hM] at rf k2 hg
            have HNG := Lib.hid hg
            have HM := Lib.hid hM
            have RA := Lib.hid ra
            have RF := Lib.hid rf
            have K2 := Lib.hid k2
            have K1 := Lib.hid k1
            have HB := Lib.hid hb
            clear hM ra rf k2 k1 hb hg
            have HSP : Hid (spl l = if okP wh s2 = true ∧ reP s2 = [] ∧ (nb && zero (wh ++ frP s2)) = false then some ⟨nb, wh, frP s2⟩ else none) := Lib.hid (by
              unfold spl splU
              dsimp only
              rw [HNB.out, HWH.out.1, HWH.out.2])
            obtain ⟨t3, ht3⟩ : ∃ t3, ofL (reP s2) = t3 := ⟨_, rfl⟩
            have HT3 : Hid (t3.data.toList = reP s2) := Lib.hid (by rw [← ht3]; rfl)
            rw [ht3]
            clear ht3
            obtain ⟨okb, hok⟩ : ∃ okb, okP wh s2 = okb := ⟨_, rfl⟩
            rw [hok] at HSP ⊢
            clear hok
            rename World => wc
            have x0 : wc.cell? ⟨B0 + 1, 0, none⟩ = some (.bool nb) := K2.out.cell 0
            have x1 : wc.cell? ⟨B0 + 1, 1, none⟩ = some (.slice a1 N c1) := K2.out.cell 1
            have x2 : wc.cell? ⟨B0 + 1, 2, none⟩ = some (.slice a2 M c2) := K2.out.cell 2
            have y0 : wc.cell? ⟨B0, 0, none⟩ = some (.bool false) := K1.out.cell 0
            have y1 : wc.cell? ⟨B0, 1, none⟩ = some (.slice none 0 0) := K1.out.cell 1
            have y2 : wc.cell? ⟨B0, 2, none⟩ = some (.slice none 0 0) := K1.out.cell 2
            have yf := K1.out.frozen
            have HFIN : Hid (∀ w3, But B0 wc w3 → RdN w3 (.agg #[.bool nb, .slice a1 N c1, .slice a2 M c2]) ⟨nb, wh, frP s2⟩) := Lib.hid (fun w3 hb => by
              refine ⟨a1, c1, a2, c2, ?_, ?_, ?_⟩
              · dsimp only; rw [HN.out, HM.out]
              · dsimp only; rw [HN.out]; exact RA.out.but hb HNF.out
              · dsimp only; rw [HM.out]; exact RF.out.but hb HNG.out)
            cases okb with
            | false =>
              have HNO : Hid (spl l = none) := Lib.hid (by rw [HSP.out, if_neg (by simp)])
              go_wp2
              obtain ⟨p1, p2⟩ := put3_ok (n := w.heap.size) (a' := .bool false) (b' := .slice none 0 0) (c' := .slice none 0 0) K1.out (by have := HB0.out; omega)
              exact bodyPost_ret (v := .tuple #[.agg #[.bool false, .slice none 0 0, .slice none 0 0], .bool false]) (res29 rfl rfl p1) rfl ⟨_, false, ⟨false, [], []⟩, rfl, rdN_zero _, (fun h => by cases h), (fun _ => by rw [HL.out]; exact HNO.out), HB.out.trans p2⟩
            | true =>
              by_cases h3 : t3.size = 0
              · have e1 : (t3.toList == ([] : List UInt8)) = true := by rw [ByteArray.toList_eq, data_nil h3]; rfl
                have hre : reP s2 = [] := by rw [← HT3.out, data_nil h3]
                have HSQ : Hid (spl l = if (nb && zero (wh ++ frP s2)) = false then some ⟨nb, wh, frP s2⟩ else none) := Lib.hid (by rw [HSP.out]; simp [hre])
                clear h3 hre
                cases nb with
                | false =>
                  have HYES : Hid (spl l = some ⟨false, wh, frP s2⟩) := Lib.hid (by rw [HSQ.out]; rfl)
                  go_wp2
                  obtain ⟨p1, p2⟩ := put3_ok (n := w.heap.size) (a' := .bool false) (b' := .slice a1 N c1) (c' := .slice a2 M c2) K1.out (by have := HB0.out; omega)
                  have S1 := HFIN.out _ (((But.setCell B0 _ 0 (.bool false)).trans (But.setCell B0 _ 1 (.slice a1 N c1))).trans (But.setCell B0 _ 2 (.slice a2 M c2)))
                  exact bodyPost_ret (v := .tuple #[.agg #[.bool false, .slice a1 N c1, .slice a2 M c2], .bool true]) (res29 rfl rfl p1) rfl ⟨_, true, ⟨false, wh, frP s2⟩, rfl, S1, (fun _ => by rw [HL.out]; exact HYES.out), (fun h => by cases h), HB.out.trans p2⟩
                | true =>
                  go_wp2_with fail
                  refine (isZero_any true a1 N c1 wh a2 M c2 (frP s2) _ RA.out RF.out (by have := (run_le 15 (unP l)).1; rw [← HWH.out.1, List.length_take]; omega) (by have := (frP_allD s2).2; omega)).mono ?_
                  rintro e w5 ⟨rfl, b5⟩
                  have L1 := Lib.hid (K1.out.below b5)
                  have L2 := Lib.hid (K2.out.below b5)
                  have HB5 := Lib.hid (st HB.out b5 HB.out.size)
                  have HBU := Lib.hid (But.of_below (g := B0) b5)
                  clear b5 x0 x1 x2 y0 y1 y2 yf
                  have x0 : w5.cell? ⟨B0 + 1, 0, none⟩ = some (.bool true) := L2.out.cell 0
                  have x1 : w5.cell? ⟨B0 + 1, 1, none⟩ = some (.slice a1 N c1) := L2.out.cell 1
                  have x2 : w5.cell? ⟨B0 + 1, 2, none⟩ = some (.slice a2 M c2) := L2.out.cell 2
                  have y0 : w5.cell? ⟨B0, 0, none⟩ = some (.bool false) := L1.out.cell 0
                  have y1 : w5.cell? ⟨B0, 1, none⟩ = some (.slice none 0 0) := L1.out.cell 1
                  have y2 : w5.cell? ⟨B0, 2, none⟩ = some (.slice none 0 0) := L1.out.cell 2
                  have yf := L1.out.frozen
                  cases hz : zero (wh ++ frP s2) with
                  | true =>
                    have HNO : Hid (spl l = none) := Lib.hid (by rw [HSQ.out, hz]; rfl)
                    clear hz
                    go_wp2
                    obtain ⟨p1, p2⟩ := put3_ok (n := w.heap.size) (a' := .bool false) (b' := .slice none 0 0) (c' := .slice none 0 0) L1.out (by have := HB0.out; omega)
                    exact bodyPost_ret (v := .tuple #[.agg #[.bool false, .slice none 0 0, .slice none 0 0], .bool false]) (res29 rfl rfl p1) rfl ⟨_, false, ⟨false, [], []⟩, rfl, rdN_zero _, (fun h => by cases h), (fun _ => by rw [HL.out]; exact HNO.out), HB5.out.trans p2⟩
                  | false =>
                    have HYES : Hid (spl l = some ⟨true, wh, frP s2⟩) := Lib.hid (by rw [HSQ.out, hz]; rfl)
                    clear hz
                    go_wp2
                    obtain ⟨p1, p2⟩ := put3_ok (n := w.heap.size) (a' := .bool true) (b' := .slice a1 N c1) (c' := .slice a2 M c2) L1.out (by have := HB0.out; omega)
                    have S1 := HFIN.out _ ((HBU.out.trans (But.setCell B0 _ 0 (.bool true))).trans (But.setCell B0 _ 1 (.slice a1 N c1))|>.trans (But.setCell B0 _ 2 (.slice a2 M c2)))
                    exact bodyPost_ret (v := .tuple #[.agg #[.bool true, .slice a1 N c1, .slice a2 M c2], .bool true]) (res29 rfl rfl p1) rfl ⟨_, true, ⟨true, wh, frP s2⟩, rfl, S1, (fun _ => by rw [HL.out]; exact HYES.out), (fun h => by cases h), HB5.out.trans p2⟩
              · have e1 : (t3.toList == ([] : List UInt8)) = false := by rw [ByteArray.toList_eq, beq_eq_false_iff_ne]; intro e; have := len_data t3; rw [e] at this; simp at this; omega
                have HNO : Hid (spl l = none) := Lib.hid (by
                  rw [HSP.out, if_neg]
                  rintro ⟨_, h, _⟩
                  rw [← HT3.out] at h
                  have := len_data t3
                  rw [h] at this
                  simp at this
                  omega)
                clear h3
                go_wp2
                obtain ⟨p1, p2⟩ := put3_ok (n := w.heap.size) (a' := .bool false) (b' := .slice none 0 0) (c' := .slice none 0 0) K1.out (by have := HB0.out; omega)
                exact bodyPost_ret (v := .tuple #[.agg #[.bool false, .slice none 0 0, .slice none 0 0], .bool false]) (res29 rfl rfl p1) rfl ⟨_, false, ⟨false, [], []⟩, rfl, rdN_zero _, (fun h => by cases h), (fun _ => by rw [HL.out]; exact HNO.out), HB.out.trans p2⟩
theorem split_any (s : ByteArray) (hs : s.size ≤ 1000) (w : World) : Calls Tryd.prog 29 #[.string s] w (SplPost s.data.toList w) := split_any9 s (by omega) w
end Go.Proofs.YteofkofgdhmpjaaDoor
