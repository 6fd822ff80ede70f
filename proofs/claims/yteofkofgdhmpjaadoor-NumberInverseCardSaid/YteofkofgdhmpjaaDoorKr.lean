/- Of the reference: Split. -/
import Derived.Test.YteofkofgdhmpjaaDoorKq
namespace Go.Proofs.YteofkofgdhmpjaaDoor
open Go.RowKit
set_option linter.unusedVariables false

def refN (x : Num) : Value := .agg #[.bool x.neg, .string (ofL x.wh), .string (ofL x.fr)]
def RSplPost (s : Str) (w : World) (e : Ending) (w' : World) : Prop := ∃ ok x, e = .returned (.tuple #[refN x, .bool ok]) ∧ (ok = true → spl s = some x) ∧ (ok = false → spl s = none) ∧ Below w.heap.size w w'
theorem res32 {W : World} {tm : Array Value} {B : Nat} {t : TypeId} {a b c d : Value} (t2 : tm[2]?.getD undef = .pointer (some ⟨B, 0, none⟩)) (t3 : tm[3]?.getD undef = d) (h : Blk B t #[a, b, c] W) :
    (results Tryd.f21 tm).run Tryd.prog W = .ok (.tuple #[.agg #[a, b, c], d]) W := by
  have a0 : W.cell? ⟨B, 0, none⟩ = some a := h.cell 0
  have a1 : W.cell? ⟨B, 1, none⟩ = some b := h.cell 1
  have a2 : W.cell? ⟨B, 2, none⟩ = some c := h.cell 2
  simp [results, Tryd.f21, go_sem, t2, t3, a0, a1, a2]
theorem dot_at {l : Str} {k : Nat} (hk : k ≤ l.length) (h1 : ∀ i (h : i < l.length), i < k → l[i] ≠ 46) (h2 : ∀ h : k < l.length, l[k] = 46) : dot l = k := by
  induction l generalizing k with
  | nil => simp at hk; subst hk; rfl
  | cons c l ih =>
    unfold dot
    rcases k with _ | k
    · have : c = 46 := h2 (by simp)
      subst this
      rfl
    · have hc : (c != 46) = true := by rw [bne_iff_ne]; exact h1 0 (by simp) (by omega)
      rw [List.takeWhile_cons, if_pos hc, List.length_cons]
      have := ih (k := k) (by simpa using hk) (fun i h hi => by have := h1 (i + 1) (by simpa using h) (by omega); simpa using this) (fun h => by have := h2 (by simpa using h); simpa using this)
      unfold dot at this
      rw [this]
set_option maxRecDepth 1000000 in
set_option maxHeartbeats 8000000 in
theorem refSplit_any (s : ByteArray) (hs : s.size ≤ 9223372036854775807) (w : World) : Calls Tryd.prog 21 #[.string s] w (RSplPost s.data.toList w) := by
  have HB := Lib.hid (((Below.refl w.heap.size w).alloc (Nat.le_refl _) (.cells #[.bool false, .string (ofL []), .string (ofL [])] 44)).alloc (by simp) (.cells #[.bool false, .string (ofL []), .string (ofL [])] 44))
  have K1 := Lib.hid ((Blk.new w 44 #[.bool false, .string (ofL []), .string (ofL [])]).alloc (.cells #[.bool false, .string (ofL []), .string (ofL [])] 44))
  have K2 := Lib.hid (Blk.new (w.alloc (.cells #[.bool false, .string (ofL []), .string (ofL [])] 44)) 44 #[.bool false, .string (ofL []), .string (ofL [])])
  go_enter Tryd.func21, Tryd.ntmps21
  go_upto_region 2 with fail
  obtain ⟨W0, hW0⟩ : ∃ W0, (w.alloc (.cells #[.bool false, .string (ofL []), .string (ofL [])] 44)).alloc (.cells #[.bool false, .string (ofL []), .string (ofL [])] 44) = W0 := ⟨_, rfl⟩
  have hW0' : (w.alloc (.cells #[.bool false, .string { data := #[] }, .string { data := #[] }] 44)).alloc (.cells #[.bool false, .string { data := #[] }, .string { data := #[] }] 44) = W0 := hW0
  rw [hW0'] 
  rw [hW0] at K1 K2 HB
  rw [World.size_alloc] at K2
  obtain ⟨B0, hB0⟩ : ∃ B0, w.heap.size = B0 := ⟨_, rfl⟩
  have HB0 := Lib.hid hB0
  rw [hB0] at K1 K2 ⊢
  have HW0 := Lib.hid hW0
  clear hW0 hW0' hB0
  obtain ⟨l, hl⟩ : ∃ l, s.data.toList = l := ⟨_, rfl⟩
  have HL := Lib.hid hl
  obtain ⟨nb, hnb⟩ : ∃ nb, negP l = nb := ⟨_, rfl⟩
  have HNB := Lib.hid hnb
  clear hl hnb
  have hs' : (s.size : Int) ≤ 9223372036854775807 := by omega
  go_cut [13] from 6 to 13 (fun v13 wx => v13 = .bool nb ∧ wx = W0)
  case first =>
    by_cases h0 : s.size = 0
    · have q1 : ¬ (0 : Int) < (s.size : Int) := by omega
      have e2 : Hid (nb = false) := Lib.hid (by rw [← HNB.out, ← HL.out, data_nil h0]; rfl)
      clear h0
      go_wp2_with fail
      go_meet
      exact ⟨by rw [e2.out], rfl⟩
    · have h1 : 0 < s.size := by omega
      have q1 : (0 : Int) < (s.size : Int) := by omega
      have e2 : Hid (((s[0]'h1).toNat : Int) = 45 ↔ nb = true) := Lib.hid (by
        rw [← HNB.out, ← HL.out]
        unfold negP
        rw [head_data h1, decide_eq_true_eq, Option.some_inj]
        exact (u8_eq (s[0]'h1) 45).symm)
      clear h0
      by_cases h2 : ((s[0]'h1).toNat : Int) = 45
      · have e3 := e2.out.1 h2
        have e4 : (((s[0]'h1).toNat : Int) == 45) = true := by rw [beq_iff_eq]; exact h2
        clear h2
        go_wp2_with fail
        go_meet
        exact ⟨by rw [e3], rfl⟩
      · have e3 : nb = false := by cases h : nb with | false => rfl | true => exact absurd (e2.out.2 h) h2
        have e4 : (((s[0]'h1).toNat : Int) == 45) = false := by rw [beq_eq_false_iff_ne]; exact h2
        clear h2
        go_wp2_with fail
        go_meet
        exact ⟨by rw [e3], rfl⟩
  case rest =>
    obtain ⟨rfl, hwc⟩ := hcut
    obtain rfl := hwc.symm
    go_upto_if 13 with fail
    have zw := HB.out.size
    go_cut [0] from 14 to 16 (fun v0 wx => v0 = .string (ofL (unP l)) ∧ Blk (B0 + 1) 44 #[.bool nb, .string (ofL []), .string (ofL [])] wx ∧ Blk B0 44 #[.bool false, .string (ofL []), .string (ofL [])] wx ∧ Below w.heap.size w wx)
    case first =>
      cases nb with
      | false =>
        go_wp2_with fail
        go_meet
        refine ⟨?_, K2.out, K1.out, HB.out⟩
        have e1 : unP l = l := by
          have := unP_eq l
          rw [HNB.out] at this
          exact this.symm
        rw [e1, ← HL.out, of_data]
      | true =>
        have h1 : 1 ≤ s.size := by rw [← len_data, HL.out, neg_cons HNB.out]; simp
        have q1 : (1 : Int) ≤ (s.size : Int) := by omega
        have x0 : W0.cell? ⟨B0 + 1, 0, none⟩ = some (.bool false) := K2.out.cell 0
        have x1 : W0.drew.cell? ⟨B0 + 1, 0, none⟩ = some (.bool false) := K2.out.cell 0
        have xf : W0.frozen? ⟨B0 + 1, 0, none⟩ = false := K2.out.frozen 0
        have xg : W0.drew.frozen? ⟨B0 + 1, 0, none⟩ = false := K2.out.frozen 0
        go_wp2_with fail
        go_region
        all_goals go_wp2_with fail
        all_goals go_meet
        refine ⟨?_, (K2.out.put 0 (.bool true)).drew, (K1.out.far (p := ⟨B0 + 1, 0, none⟩) (by show B0 ≠ B0 + 1; omega) _).drew, (HB.out.setCell (p := ⟨B0 + 1, 0, none⟩) (by have := HB0.out; show w.heap.size ≤ B0 + 1; omega) _).drew⟩
        have e1 : s.data.toList = 45 :: unP l := HL.out.trans (neg_cons HNB.out)
        have e2 : s.size = (unP l).length + 1 := by rw [← len_data, e1, List.length_cons]
        rw [ext_of, e1, e2, List.drop_succ_cons, List.drop_zero, List.take_of_length_le (by omega)]
    case rest =>
      obtain ⟨rfl, k2, k1, hb⟩ := hcut
      have hul : (unP l).length ≤ 9223372036854775807 := by
        have e := congrArg List.length (unP_eq l)
        rw [List.length_append] at e
        have := len_data s
        rw [HL.out] at this
        omega
      clear K1 K2 HB zw HW0
      have K1 := Lib.hid k1
      have K2 := Lib.hid k2
      have HB := Lib.hid hb
      clear k1 k2 hb
      obtain ⟨t, ht⟩ : ∃ t, ofL (unP l) = t := ⟨_, rfl⟩
      have ht2 : t.data.toList = unP l := by rw [← ht]; rfl
      have HT := Lib.hid ht2
      have hts : t.size ≤ 9223372036854775807 := by rw [← len_data, ht2]; exact hul
      have hts' : (t.size : Int) ≤ 9223372036854775807 := by omega
      rw [ht]
      clear ht ht2 hul
      rename World => wc
      go_wp2
      go_loop [5] (fun v5 => ∃ k : Nat, k ≤ t.size ∧ v5 = .int .i64 k ∧ ∀ i (h : i < t.data.toList.length), i < k → t.data.toList[i] ≠ 46) (fun v5 => t.size - (intOf v5).toNat)
      case atStart => exact ⟨0, Nat.zero_le _, rfl, fun i h hi => by omega⟩
      case round =>
        obtain ⟨k, hk, rfl, hall⟩ := hrel
        have HA := Lib.hid hall
        clear hall
        have x1 : wc.cell? ⟨B0 + 1, 1, none⟩ = some (.string (ofL [])) := K2.out.cell 1
        have x2 : wc.cell? ⟨B0 + 1, 2, none⟩ = some (.string (ofL [])) := K2.out.cell 2
        have xf := K2.out.frozen
        by_cases hlt : k < t.size
        · have hlt' : (k : Int) < (t.size : Int) := by omega
          have hl : k < t.data.toList.length := by rw [len_data]; exact hlt
          by_cases h3 : t.data.toList[k] = 46
          · have t1 : (((t[k]'hlt).toNat : Int) != 46) = false := by rw [bne_eq_false_iff_eq]; exact (u8_eq _ 46).1 h3
            have hdot : dot (unP l) = k := by rw [← HT.out]; exact dot_at (by rw [len_data]; omega) HA.out (fun _ => h3)
            have g1 : (k : Int) ≤ (t.size : Int) := by omega
            have g2 : (k : Int) + 1 ≤ (t.size : Int) := by omega
            have hul : (unP l).length = t.size := by rw [← HT.out, len_data]
            obtain ⟨wh, hwh⟩ : ∃ wh, (unP l).take k = wh := ⟨_, rfl⟩
            obtain ⟨fr, hfr⟩ : ∃ fr, (unP l).drop (k + 1) = fr := ⟨_, rfl⟩
            have hx1 : t.extract 0 k = ofL wh := by rw [ext_of, HT.out, ← hwh]; simp
            have hx2 : t.extract (k + 1) t.size = ofL fr := by rw [ext_of, HT.out, ← hfr, List.take_of_length_le (by rw [List.length_drop]; omega)]
            have HSP : Hid (spl l = if ¬ (fr = []) ∧ adb (wh ++ fr) = true ∧ chk nb wh fr = true then some ⟨nb, wh, fr⟩ else none) := Lib.hid (by
              rw [spl_splR, HNB.out]
              unfold splR
              dsimp only
              rw [hdot, hwh, hfr]
              have : k < (unP l).length := by omega
              simp only [this, true_and])
            have hlen : wh.length + fr.length ≤ 9223372036854775807 := by rw [← hwh, ← hfr, List.length_take, List.length_drop]; omega
            have hfl : fr.length = t.size - (k + 1) := by rw [← hfr, List.length_drop, hul]
            have HFL := Lib.hid hfl
            have HLEN := Lib.hid hlen
            have L1 := Lib.hid ((K1.out.far (p := ⟨B0 + 1, 1, none⟩) (by show B0 ≠ B0 + 1; omega) (.string (ofL wh))).far (p := ⟨B0 + 1, 2, none⟩) (by show B0 ≠ B0 + 1; omega) (.string (ofL fr)))
            have L2 : Hid (Blk (B0 + 1) 44 #[.bool nb, .string (ofL wh), .string (ofL fr)] ((wc.setCell ⟨B0 + 1, 1, none⟩ (.string (ofL wh))).setCell ⟨B0 + 1, 2, none⟩ (.string (ofL fr)))) := Lib.hid ((K2.out.put 1 (.string (ofL wh))).put 2 (.string (ofL fr)))
            have HBX := Lib.hid ((HB.out.setCell (p := ⟨B0 + 1, 1, none⟩) (by have := HB0.out; show w.heap.size ≤ B0 + 1; omega) (.string (ofL wh))).setCell (p := ⟨B0 + 1, 2, none⟩) (by have := HB0.out; show w.heap.size ≤ B0 + 1; omega) (.string (ofL fr)))
            clear h3 hdot hwh hfr hul hl hlen hfl
            obtain ⟨N1, hN1⟩ : ∃ N, (ofL wh).size = N := ⟨_, rfl⟩
            obtain ⟨N2, hN2⟩ : ∃ N, (ofL fr).size = N := ⟨_, rfl⟩
            go_upto_region 10 with fail
            obtain ⟨WW, hWW⟩ : ∃ WW, (wc.setCell ⟨B0 + 1, 1, none⟩ (.string (ofL wh))).setCell ⟨B0 + 1, 2, none⟩ (.string (ofL fr)) = WW := ⟨_, rfl⟩
            rw [hWW] at L1 L2 HBX ⊢
            clear hWW x1 x2 xf hx1 hx2 K1 K2 HB HA
            have x0 : WW.cell? ⟨B0 + 1, 0, none⟩ = some (.bool nb) := L2.out.cell 0
            have x1 : WW.cell? ⟨B0 + 1, 1, none⟩ = some (.string (ofL wh)) := L2.out.cell 1
            have x2 : WW.cell? ⟨B0 + 1, 2, none⟩ = some (.string (ofL fr)) := L2.out.cell 2
            have y0 : WW.cell? ⟨B0, 0, none⟩ = some (.bool false) := L1.out.cell 0
            have y1 : WW.cell? ⟨B0, 1, none⟩ = some (.string (ofL [])) := L1.out.cell 1
            have y2 : WW.cell? ⟨B0, 2, none⟩ = some (.string (ofL [])) := L1.out.cell 2
            have yf := L1.out.frozen
            by_cases hf0 : fr = []
            · have HNO : Hid (spl l = none) := Lib.hid (by rw [HSP.out, if_neg (fun h => h.1 hf0)])
              have hz : N2 = 0 := by rw [← hN2, hf0]; rfl
              clear hf0
              go_wp2
              obtain ⟨p1, p2⟩ := put3_ok (n := w.heap.size) (a' := .bool false) (b' := .string (ofL [])) (c' := .string (ofL [])) L1.out (by have := HB0.out; omega)
              exact bodyPost_ret (v := .tuple #[.agg #[.bool false, .string (ofL []), .string (ofL [])], .bool false]) (res32 rfl rfl p1) rfl ⟨false, ⟨false, [], []⟩, rfl, (fun h => by cases h), (fun _ => by rw [HL.out]; exact HNO.out), HBX.out.trans p2⟩
            · have hz : (N2 : Int) ≠ 0 := by rw [← hN2, ofL_size]; have := List.length_pos_iff.2 hf0; omega
              have hz2 : ((N2 : Int) == 0) = false := by rw [beq_eq_false_iff_ne]; exact hz
              have HSPX : Hid (spl l = if adb (wh ++ fr) = true ∧ chk nb wh fr = true then some ⟨nb, wh, fr⟩ else none) := Lib.hid (by rw [HSP.out]; simp only [hf0, not_false_eq_true, true_and])
              clear hz hf0
              obtain ⟨bad, hbad⟩ : ∃ bad, (!(adb (wh ++ fr) && chk nb wh fr)) = bad := ⟨_, rfl⟩
              have HBAD := Lib.hid hbad
              clear hbad
              go_upto_region 12 with fail
              go_cut [95] from 47 to 95 (fun v95 wx => v95 = .bool bad ∧ wx = WW)
              case first =>
                have hcat : ofL wh ++ ofL fr = ofL (wh ++ fr) := add_two wh fr
                have hsz : N1 + N2 ≤ 9223372036854775807 := by rw [← hN1, ← hN2, ofL_size, ofL_size]; exact HLEN.out
                have HW1 : Hid (wh.length = N1) := Lib.hid (by rw [← hN1, ofL_size])
                have HW2 : Hid (fr.length = N2) := Lib.hid (by rw [← hN2, ofL_size])
                have hD := digits_any (ofL (wh ++ fr)) (by rw [ofL_size, List.length_append]; exact HLEN.out)
                have hZ := zero_any (ofL (wh ++ fr)) (by rw [ofL_size, List.length_append]; exact HLEN.out)
                rw [ofL_list] at hD hZ
                have HD := Lib.hid hD
                have HZ := Lib.hid hZ
                have HC : Hid (chk nb wh fr = (decide (1 ≤ N1) && decide (N1 ≤ 15) && !(decide (1 < N1) && decide (wh.head? = some 48)) && decide (N2 ≤ 6) && !(nb && zero (wh ++ fr)))) := Lib.hid (by rw [← HW1.out, ← HW2.out]; rfl)
                clear hD hZ
                go_wp2_with fail
                refine (HD.out _).mono ?_
                rintro e w5 ⟨rfl, hw5⟩
                obtain rfl := hw5.symm
                cases hadb : adb (wh ++ fr) with
                | false =>
                  have HV : Hid (true = bad) := Lib.hid (by rw [← HBAD.out, hadb]; rfl)
                  clear hadb
                  go_wp2_with fail
                  go_meet
                  exact ⟨by rw [HV.out], rfl⟩
                | true =>
                  have HBD : Hid (bad = !chk nb wh fr) := Lib.hid (by rw [← HBAD.out, hadb, Bool.true_and])
                  clear hadb
                  rw [HC.out] at HBD
                  by_cases a1 : N1 < 1
                  · have q1 : decide ((N1 : Int) < 1) = true := decide_eq_true (by omega)
                    have HV : Hid (true = bad) := Lib.hid (by rw [HBD.out, decide_eq_false (show ¬ 1 ≤ N1 by omega)]; rfl)
                    clear a1
                    go_wp2_with fail
                    go_meet
                    exact ⟨by rw [HV.out], rfl⟩
                  have q1 : decide ((N1 : Int) < 1) = false := decide_eq_false (by omega)
                  by_cases a2 : 15 < N1
                  · have q2 : decide ((15 : Int) < (N1 : Int)) = true := decide_eq_true (by omega)
                    have HV : Hid (true = bad) := Lib.hid (by rw [HBD.out, decide_eq_false (show ¬ N1 ≤ 15 by omega), Bool.and_false]; rfl)
                    clear a1 a2
                    go_wp2_with fail
                    go_meet
                    exact ⟨by rw [HV.out], rfl⟩
                  have q2 : decide ((15 : Int) < (N1 : Int)) = false := decide_eq_false (by omega)
                  rw [decide_eq_true (show 1 ≤ N1 by omega), decide_eq_true (show N1 ≤ 15 by omega)] at HBD
                  have h0w : 0 < (ofL wh).size := by rw [hN1]; omega
                  have HH : Hid (wh.head? = some ((ofL wh)[0]'h0w)) := Lib.hid (by have h := head_data h0w; rw [ofL_list] at h; exact h)
                  rw [HH.out] at HBD
                  obtain ⟨y, hy⟩ : ∃ y, (ofL wh)[0]'h0w = y := ⟨_, rfl⟩
                  have HY := Lib.hid hy
                  have e48 : decide (some y = some 48) = (((y.toNat : Int)) == 48) := by
                    rw [Bool.eq_iff_iff, decide_eq_true_eq, beq_iff_eq, Option.some_inj]
                    exact u8_eq48 y
                  rw [hy, e48] at HBD
                  clear e48 a2
                  by_cases a3 : 1 < N1 ∧ (y.toNat : Int) = 48
                  · obtain ⟨a3, a4⟩ := a3
                    have q3 : decide ((1 : Int) < (N1 : Int)) = true := decide_eq_true (by omega)
                    have q4 : ((y.toNat : Int) == 48) = true := by rw [beq_iff_eq]; exact a4
                    have HV : Hid (true = bad) := Lib.hid (by rw [HBD.out, decide_eq_true a3, q4]; rfl)
                    clear a1 a3 a4
                    go_wp2_with fail
                    go_meet
                    exact ⟨by rw [HV.out], rfl⟩
                  have HBE : Hid (bad = !(decide (N2 ≤ 6) && !(nb && zero (wh ++ fr)))) := Lib.hid (by
                    rw [HBD.out]
                    have : (decide (1 < N1) && ((y.toNat : Int) == 48)) = false := by
                      rw [Bool.and_eq_false_iff, decide_eq_false_iff_not, beq_eq_false_iff_ne]
                      rcases Nat.lt_or_ge 1 N1 with h | h
                      · exact .inr (fun e => a3 ⟨h, e⟩)
                      · exact .inl (by omega)
                    rw [this]
                    rfl)
                  have go : ∀ (P : Prop), (1 < N1 → (((y.toNat : Int) == 48) = false) → P) → (¬ 1 < N1 → P) → P := fun P h1 h2 => by
                    rcases Nat.lt_or_ge 1 N1 with h | h
                    · exact h1 h (by rw [beq_eq_false_iff_ne]; exact fun e => a3 ⟨h, e⟩)
                    · exact h2 (by omega)
                  clear a3 HBD
                  refine go _ ?_ ?_
                  · intro a4 a5
                    have q3 : decide ((1 : Int) < (N1 : Int)) = true := decide_eq_true (by omega)
                    clear a1 a4 go
                    by_cases a6 : 6 < N2
                    · have q6 : decide ((6 : Int) < (N2 : Int)) = true := decide_eq_true (by omega)
                      have HV : Hid (true = bad) := Lib.hid (by rw [HBE.out, decide_eq_false (show ¬ N2 ≤ 6 by omega)]; rfl)
                      clear a6
                      go_wp2_with fail
                      go_meet
                      exact ⟨by rw [HV.out], rfl⟩
                    have q6 : decide ((6 : Int) < (N2 : Int)) = false := decide_eq_false (by omega)
                    rw [decide_eq_true (show N2 ≤ 6 by omega), Bool.true_and] at HBE
                    clear a6
                    cases nb with
                    | false =>
                      have HV : Hid (false = bad) := Lib.hid (by rw [HBE.out]; rfl)
                      go_wp2_with fail
                      go_meet
                      exact ⟨by rw [HV.out], rfl⟩
                    | true =>
                      have HV : Hid (zero (wh ++ fr) = bad) := Lib.hid (by rw [HBE.out, Bool.true_and, Bool.not_not])
                      go_wp2_with fail
                      refine (HZ.out _).mono ?_
                      rintro e w6 ⟨rfl, hw6⟩
                      obtain rfl := hw6.symm
                      rw [HV.out]
                      go_wp2_with fail
                      go_meet
                      exact ⟨rfl, rfl⟩
                  · intro a4
                    have q3 : decide ((1 : Int) < (N1 : Int)) = false := decide_eq_false (by omega)
                    clear a1 a4 go
                    by_cases a6 : 6 < N2
                    · have q6 : decide ((6 : Int) < (N2 : Int)) = true := decide_eq_true (by omega)
                      have HV : Hid (true = bad) := Lib.hid (by rw [HBE.out, decide_eq_false (show ¬ N2 ≤ 6 by omega)]; rfl)
                      clear a6
                      go_wp2_with fail
                      go_meet
                      exact ⟨by rw [HV.out], rfl⟩
                    have q6 : decide ((6 : Int) < (N2 : Int)) = false := decide_eq_false (by omega)
                    rw [decide_eq_true (show N2 ≤ 6 by omega), Bool.true_and] at HBE
                    clear a6
                    cases nb with
                    | false =>
                      have HV : Hid (false = bad) := Lib.hid (by rw [HBE.out]; rfl)
                      go_wp2_with fail
                      go_meet
                      exact ⟨by rw [HV.out], rfl⟩
                    | true =>
                      have HV : Hid (zero (wh ++ fr) = bad) := Lib.hid (by rw [HBE.out, Bool.true_and, Bool.not_not])
                      go_wp2_with fail
                      refine (HZ.out _).mono ?_
                      rintro e w6 ⟨rfl, hw6⟩
                      obtain rfl := hw6.symm
                      rw [HV.out]
                      go_wp2_with fail
                      go_meet
                      exact ⟨rfl, rfl⟩
              case rest =>
                obtain ⟨rfl, hwc⟩ := hcut
                obtain rfl := hwc.symm
                cases bad with
                | true =>
                  have HNO : Hid (spl l = none) := Lib.hid (by
                    have h := HBAD.out
                    rw [HSPX.out, if_neg]
                    rintro ⟨h1, h2⟩
                    rw [h1, h2] at h
                    cases h)
                  go_wp2
                  obtain ⟨p1, p2⟩ := put3_ok (n := w.heap.size) (a' := .bool false) (b' := .string (ofL [])) (c' := .string (ofL [])) L1.out (by have := HB0.out; omega)
                  exact bodyPost_ret (v := .tuple #[.agg #[.bool false, .string (ofL []), .string (ofL [])], .bool false]) (res32 rfl rfl p1) rfl ⟨false, ⟨false, [], []⟩, rfl, (fun h => by cases h), (fun _ => by rw [HL.out]; exact HNO.out), HBX.out.trans p2⟩
                | false =>
                  have HYES : Hid (spl l = some ⟨nb, wh, fr⟩) := Lib.hid (by
                    have h := HBAD.out
                    rw [Bool.not_eq_false', Bool.and_eq_true] at h
                    rw [HSPX.out, if_pos h])
                  go_wp2
                  obtain ⟨p1, p2⟩ := put3_ok (n := w.heap.size) (a' := .bool nb) (b' := .string (ofL wh)) (c' := .string (ofL fr)) L1.out (by have := HB0.out; omega)
                  exact bodyPost_ret (v := .tuple #[.agg #[.bool nb, .string (ofL wh), .string (ofL fr)], .bool true]) (res32 rfl rfl p1) rfl ⟨true, ⟨nb, wh, fr⟩, rfl, (fun _ => by rw [HL.out]; exact HYES.out), (fun h => by cases h), HBX.out.trans p2⟩
          · have H3 := Lib.hid h3
            have t1 : (((t[k]'hlt).toNat : Int) != 46) = true := by rw [bne_iff_ne]; exact fun h => h3 ((u8_eq _ 46).2 h)
            clear h3
            go_wp2
            go_round
            case rel => exact ⟨k + 1, by omega, by go_num, fun i h h1 => by
              rcases Nat.lt_or_ge i k with h3 | h3
              · exact HA.out i h h3
              · obtain rfl : i = k := by omega
                exact H3.out⟩
            case measure => simp [intOf]; omega
        · have hkt : k = t.size := by omega
          have hul : (unP l).length = t.size := by rw [← HT.out, len_data]
          have hdot : dot (unP l) = k := by rw [← HT.out]; exact dot_at (by rw [len_data]; omega) HA.out (fun h => by rw [len_data] at h; omega)
          have hlt' : ¬ (k : Int) < (t.size : Int) := by omega
          have g1 : (k : Int) ≤ (t.size : Int) := by omega
          obtain ⟨wh, hwh⟩ : ∃ wh, (unP l).take k = wh := ⟨_, rfl⟩
          obtain ⟨fr, hfr⟩ : ∃ fr : Str, [] = fr := ⟨_, rfl⟩
          have hx1 : t.extract 0 k = ofL wh := by rw [ext_of, HT.out, ← hwh]; simp
          have HSPX : Hid (spl l = if adb (wh ++ fr) = true ∧ chk nb wh fr = true then some ⟨nb, wh, fr⟩ else none) := Lib.hid (by
            rw [spl_splR, HNB.out]
            unfold splR
            dsimp only
            rw [hdot, hwh, List.drop_eq_nil_of_le (show (unP l).length ≤ k + 1 by omega)]
            have : ¬ k < (unP l).length := by omega
            simp only [this, false_and, not_false_eq_true, true_and]
            rw [hfr])
          have hlen : wh.length + fr.length ≤ 9223372036854775807 := by rw [← hwh, ← hfr, List.length_take]; simp; omega
          have HLEN := Lib.hid hlen
          have L1 := Lib.hid (K1.out.far (p := ⟨B0 + 1, 1, none⟩) (by show B0 ≠ B0 + 1; omega) (.string (ofL wh)))
          have L2 : Hid (Blk (B0 + 1) 44 #[.bool nb, .string (ofL wh), .string (ofL fr)] (wc.setCell ⟨B0 + 1, 1, none⟩ (.string (ofL wh)))) := Lib.hid (by rw [← hfr]; exact K2.out.put 1 (.string (ofL wh)))
          have HBX := Lib.hid (HB.out.setCell (p := ⟨B0 + 1, 1, none⟩) (by have := HB0.out; show w.heap.size ≤ B0 + 1; omega) (.string (ofL wh)))
          clear hkt hdot hwh hfr hul hlen
          obtain ⟨N1, hN1⟩ : ∃ N, (ofL wh).size = N := ⟨_, rfl⟩
          obtain ⟨N2, hN2⟩ : ∃ N, (ofL fr).size = N := ⟨_, rfl⟩
          go_upto_region 8 with fail
          obtain ⟨WW, hWW⟩ : ∃ WW, wc.setCell ⟨B0 + 1, 1, none⟩ (.string (ofL wh)) = WW := ⟨_, rfl⟩
          rw [hWW] at L1 L2 HBX ⊢
          clear hWW x1 x2 xf hx1 K1 K2 HB HA
          have x0 : WW.cell? ⟨B0 + 1, 0, none⟩ = some (.bool nb) := L2.out.cell 0
          have x1 : WW.cell? ⟨B0 + 1, 1, none⟩ = some (.string (ofL wh)) := L2.out.cell 1
          have x2 : WW.cell? ⟨B0 + 1, 2, none⟩ = some (.string (ofL fr)) := L2.out.cell 2
          have y0 : WW.cell? ⟨B0, 0, none⟩ = some (.bool false) := L1.out.cell 0
          have y1 : WW.cell? ⟨B0, 1, none⟩ = some (.string (ofL [])) := L1.out.cell 1
          have y2 : WW.cell? ⟨B0, 2, none⟩ = some (.string (ofL [])) := L1.out.cell 2
          have yf := L1.out.frozen
          obtain ⟨bad, hbad⟩ : ∃ bad, (!(adb (wh ++ fr) && chk nb wh fr)) = bad := ⟨_, rfl⟩
          have HBAD := Lib.hid hbad
          clear hbad
          go_upto_region 12 with fail
          go_cut [95] from 47 to 95 (fun v95 wx => v95 = .bool bad ∧ wx = WW)
          case first =>
            have hcat : ofL wh ++ ofL fr = ofL (wh ++ fr) := add_two wh fr
            have hsz : N1 + N2 ≤ 9223372036854775807 := by rw [← hN1, ← hN2, ofL_size, ofL_size]; exact HLEN.out
            have HW1 : Hid (wh.length = N1) := Lib.hid (by rw [← hN1, ofL_size])
            have HW2 : Hid (fr.length = N2) := Lib.hid (by rw [← hN2, ofL_size])
            have hD := digits_any (ofL (wh ++ fr)) (by rw [ofL_size, List.length_append]; exact HLEN.out)
            have hZ := zero_any (ofL (wh ++ fr)) (by rw [ofL_size, List.length_append]; exact HLEN.out)
            rw [ofL_list] at hD hZ
            have HD := Lib.hid hD
            have HZ := Lib.hid hZ
            have HC : Hid (chk nb wh fr = (decide (1 ≤ N1) && decide (N1 ≤ 15) && !(decide (1 < N1) && decide (wh.head? = some 48)) && decide (N2 ≤ 6) && !(nb && zero (wh ++ fr)))) := Lib.hid (by rw [← HW1.out, ← HW2.out]; rfl)
            clear hD hZ
            go_wp2_with fail
            refine (HD.out _).mono ?_
            rintro e w5 ⟨rfl, hw5⟩
            obtain rfl := hw5.symm
            cases hadb : adb (wh ++ fr) with
            | false =>
              have HV : Hid (true = bad) := Lib.hid (by rw [← HBAD.out, hadb]; rfl)
              clear hadb
              go_wp2_with fail
              go_meet
              exact ⟨by rw [HV.out], rfl⟩
            | true =>
              have HBD : Hid (bad = !chk nb wh fr) := Lib.hid (by rw [← HBAD.out, hadb, Bool.true_and])
              clear hadb
              rw [HC.out] at HBD
              by_cases a1 : N1 < 1
              · have q1 : decide ((N1 : Int) < 1) = true := decide_eq_true (by omega)
                have HV : Hid (true = bad) := Lib.hid (by rw [HBD.out, decide_eq_false (show ¬ 1 ≤ N1 by omega)]; rfl)
                clear a1
                go_wp2_with fail
                go_meet
                exact ⟨by rw [HV.out], rfl⟩
              have q1 : decide ((N1 : Int) < 1) = false := decide_eq_false (by omega)
              by_cases a2 : 15 < N1
              · have q2 : decide ((15 : Int) < (N1 : Int)) = true := decide_eq_true (by omega)
                have HV : Hid (true = bad) := Lib.hid (by rw [HBD.out, decide_eq_false (show ¬ N1 ≤ 15 by omega), Bool.and_false]; rfl)
                clear a1 a2
                go_wp2_with fail
                go_meet
                exact ⟨by rw [HV.out], rfl⟩
              have q2 : decide ((15 : Int) < (N1 : Int)) = false := decide_eq_false (by omega)
              rw [decide_eq_true (show 1 ≤ N1 by omega), decide_eq_true (show N1 ≤ 15 by omega)] at HBD
              have h0w : 0 < (ofL wh).size := by rw [hN1]; omega
              have HH : Hid (wh.head? = some ((ofL wh)[0]'h0w)) := Lib.hid (by have h := head_data h0w; rw [ofL_list] at h; exact h)
              rw [HH.out] at HBD
              obtain ⟨y, hy⟩ : ∃ y, (ofL wh)[0]'h0w = y := ⟨_, rfl⟩
              have HY := Lib.hid hy
              have e48 : decide (some y = some 48) = (((y.toNat : Int)) == 48) := by
                rw [Bool.eq_iff_iff, decide_eq_true_eq, beq_iff_eq, Option.some_inj]
                exact u8_eq48 y
              rw [hy, e48] at HBD
              clear e48 a2
              by_cases a3 : 1 < N1 ∧ (y.toNat : Int) = 48
              · obtain ⟨a3, a4⟩ := a3
                have q3 : decide ((1 : Int) < (N1 : Int)) = true := decide_eq_true (by omega)
                have q4 : ((y.toNat : Int) == 48) = true := by rw [beq_iff_eq]; exact a4
                have HV : Hid (true = bad) := Lib.hid (by rw [HBD.out, decide_eq_true a3, q4]; rfl)
                clear a1 a3 a4
                go_wp2_with fail
                go_meet
                exact ⟨by rw [HV.out], rfl⟩
              have HBE : Hid (bad = !(decide (N2 ≤ 6) && !(nb && zero (wh ++ fr)))) := Lib.hid (by
                rw [HBD.out]
                have : (decide (1 < N1) && ((y.toNat : Int) == 48)) = false := by
                  rw [Bool.and_eq_false_iff, decide_eq_false_iff_not, beq_eq_false_iff_ne]
                  rcases Nat.lt_or_ge 1 N1 with h | h
                  · exact .inr (fun e => a3 ⟨h, e⟩)
                  · exact .inl (by omega)
                rw [this]
                rfl)
              have go : ∀ (P : Prop), (1 < N1 → (((y.toNat : Int) == 48) = false) → P) → (¬ 1 < N1 → P) → P := fun P h1 h2 => by
                rcases Nat.lt_or_ge 1 N1 with h | h
                · exact h1 h (by rw [beq_eq_false_iff_ne]; exact fun e => a3 ⟨h, e⟩)
                · exact h2 (by omega)
              clear a3 HBD
              refine go _ ?_ ?_
              · intro a4 a5
                have q3 : decide ((1 : Int) < (N1 : Int)) = true := decide_eq_true (by omega)
                clear a1 a4 go
                by_cases a6 : 6 < N2
                · have q6 : decide ((6 : Int) < (N2 : Int)) = true := decide_eq_true (by omega)
                  have HV : Hid (true = bad) := Lib.hid (by rw [HBE.out, decide_eq_false (show ¬ N2 ≤ 6 by omega)]; rfl)
                  clear a6
                  go_wp2_with fail
                  go_meet
                  exact ⟨by rw [HV.out], rfl⟩
                have q6 : decide ((6 : Int) < (N2 : Int)) = false := decide_eq_false (by omega)
                rw [decide_eq_true (show N2 ≤ 6 by omega), Bool.true_and] at HBE
                clear a6
                cases nb with
                | false =>
                  have HV : Hid (false = bad) := Lib.hid (by rw [HBE.out]; rfl)
                  go_wp2_with fail
                  go_meet
                  exact ⟨by rw [HV.out], rfl⟩
                | true =>
                  have HV : Hid (zero (wh ++ fr) = bad) := Lib.hid (by rw [HBE.out, Bool.true_and, Bool.not_not])
                  go_wp2_with fail
                  refine (HZ.out _).mono ?_
                  rintro e w6 ⟨rfl, hw6⟩
                  obtain rfl := hw6.symm
                  rw [HV.out]
                  go_wp2_with fail
                  go_meet
                  exact ⟨rfl, rfl⟩
              · intro a4
                have q3 : decide ((1 : Int) < (N1 : Int)) = false := decide_eq_false (by omega)
                clear a1 a4 go
                by_cases a6 : 6 < N2
                · have q6 : decide ((6 : Int) < (N2 : Int)) = true := decide_eq_true (by omega)
                  have HV : Hid (true = bad) := Lib.hid (by rw [HBE.out, decide_eq_false (show ¬ N2 ≤ 6 by omega)]; rfl)
                  clear a6
                  go_wp2_with fail
                  go_meet
                  exact ⟨by rw [HV.out], rfl⟩
                have q6 : decide ((6 : Int) < (N2 : Int)) = false := decide_eq_false (by omega)
                rw [decide_eq_true (show N2 ≤ 6 by omega), Bool.true_and] at HBE
                clear a6
                cases nb with
                | false =>
                  have HV : Hid (false = bad) := Lib.hid (by rw [HBE.out]; rfl)
                  go_wp2_with fail
                  go_meet
                  exact ⟨by rw [HV.out], rfl⟩
                | true =>
                  have HV : Hid (zero (wh ++ fr) = bad) := Lib.hid (by rw [HBE.out, Bool.true_and, Bool.not_not])
                  go_wp2_with fail
                  refine (HZ.out _).mono ?_
                  rintro e w6 ⟨rfl, hw6⟩
                  obtain rfl := hw6.symm
                  rw [HV.out]
                  go_wp2_with fail
                  go_meet
                  exact ⟨rfl, rfl⟩
          case rest =>
            obtain ⟨rfl, hwc⟩ := hcut
            obtain rfl := hwc.symm
            cases bad with
            | true =>
              have HNO : Hid (spl l = none) := Lib.hid (by
                have h := HBAD.out
                rw [HSPX.out, if_neg]
                rintro ⟨h1, h2⟩
                rw [h1, h2] at h
                cases h)
              go_wp2
              obtain ⟨p1, p2⟩ := put3_ok (n := w.heap.size) (a' := .bool false) (b' := .string (ofL [])) (c' := .string (ofL [])) L1.out (by have := HB0.out; omega)
              exact bodyPost_ret (v := .tuple #[.agg #[.bool false, .string (ofL []), .string (ofL [])], .bool false]) (res32 rfl rfl p1) rfl ⟨false, ⟨false, [], []⟩, rfl, (fun h => by cases h), (fun _ => by rw [HL.out]; exact HNO.out), HBX.out.trans p2⟩
            | false =>
              have HYES : Hid (spl l = some ⟨nb, wh, fr⟩) := Lib.hid (by
                have h := HBAD.out
                rw [Bool.not_eq_false', Bool.and_eq_true] at h
                rw [HSPX.out, if_pos h])
              go_wp2
              obtain ⟨p1, p2⟩ := put3_ok (n := w.heap.size) (a' := .bool nb) (b' := .string (ofL wh)) (c' := .string (ofL fr)) L1.out (by have := HB0.out; omega)
              exact bodyPost_ret (v := .tuple #[.agg #[.bool nb, .string (ofL wh), .string (ofL fr)], .bool true]) (res32 rfl rfl p1) rfl ⟨true, ⟨nb, wh, fr⟩, rfl, (fun _ => by rw [HL.out]; exact HYES.out), (fun h => by cases h), HBX.out.trans p2⟩
end Go.Proofs.YteofkofgdhmpjaaDoor
