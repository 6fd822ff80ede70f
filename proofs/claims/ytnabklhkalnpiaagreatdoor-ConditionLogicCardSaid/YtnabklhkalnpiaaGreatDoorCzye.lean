/- The law ConditionValues. -/
import Derived.Test.YtnabklhkalnpiaaGreatDoorCzyd
import Derived.Test.YtnabklhkalnpiaaGreatDoorCzya
namespace Go.Proofs.YtnabklhkalnpiaaGreatDoor
open Go.RowKit
set_option linter.unusedVariables false

theorem txt_len {x : Num} (g : Good x) : (txt x).length ≤ 23 := by
  have h1 := g.high
  have h2 := g.few
  unfold txt
  split <;> split <;> simp <;> omega
theorem spl_len {s : ByteArray} {x : Num} (h : spl s.data.toList = some x) : s.size ≤ 23 := by
  obtain ⟨g, e⟩ := spl_some h
  have h1 := txt_len g
  rw [e] at h1
  have h2 := len_data s
  omega
set_option maxRecDepth 1000000 in
set_option maxHeartbeats 8000000 in
theorem conditionValues_walk (c : Cnd) (v : Value) (s : ByteArray) (hs : s.size ≤ maxLen) (w : World) (hv : RdC w v c) (hl : ∀ l ∈ c, l.length ≤ 140737488355328) (E : Env w) :
    Calls Tryz.prog 8 #[v, .string s] w fun e w' => e = .returned (.bool true) ∧ Below w.heap.size w w' := by
  have hm : maxLen = 9223372036854775807 := by decide
  rw [hm] at hs
  have HS := Lib.hid hs
  have HE := Lib.hid E
  have HV := Lib.hid hv
  have HL := Lib.hid hl
  obtain ⟨a, n, hva, _⟩ := hv.slice
  subst hva
  clear E hv hl hs
  go_enter Tryz.func8, Tryz.ntmps8
  go_wp2_with fail
  refine (awake_any _ HE.out).mono ?_
  rintro e w1 ⟨rfl, b1⟩
  have B1 := Lib.hid b1
  have E1 := Lib.hid (HE.out.later b1)
  have V1 := Lib.hid (HV.out.below b1)
  clear b1 HV HE
  go_wp2_with fail
  refine (few_any _ c _ V1.out).mono ?_
  rintro e w2 ⟨⟨bf, rfl, hf⟩, hw2⟩
  obtain rfl := hw2.symm
  have HF := Lib.hid hf
  clear hf hw2
  cases bf with
  | false =>
    go_wp2_with fail
    refine (awake_any _ E1.out).mono ?_
    rintro e w3 ⟨rfl, b3⟩
    have B3 := Lib.hid (st B1.out b3 B1.out.size)
    clear b3
    go_wp2
    go_ret
    exact ⟨rfl, B3.out⟩
  | true =>
    have HCN := Lib.hid (cnt_few (by have := HF.out; simpa using this) HL.out)
    have HLB : Hid (∀ l ∈ c, l.length ≤ 4611686018427387904) := Lib.hid (fun l hx => Nat.le_trans (HL.out l hx) (by decide))
    have Q0 := Lib.hid (refValidC_any _ c w1 V1.out HCN.out)
    obtain ⟨vb, hvb⟩ : ∃ vb, okC c = vb := ⟨_, rfl⟩
    have HVB := Lib.hid hvb
    rw [hvb] at Q0
    clear hvb
    go_wp2_with fail
    refine Q0.out.mono ?_
    rintro e w3 ⟨rfl, b3⟩
    have B3 := Lib.hid (st B1.out b3 B1.out.size)
    have E3 := Lib.hid (E1.out.later b3)
    have V3 := Lib.hid (V1.out.below b3)
    clear b3 Q0
    cases vb with
    | false =>
      go_wp2_with fail
      refine (awake_any _ E3.out).mono ?_
      rintro e w4 ⟨rfl, b4⟩
      have B4 := Lib.hid (st B3.out b4 B3.out.size)
      clear b4
      go_wp2
      go_ret
      exact ⟨rfl, B4.out⟩
    | true =>
      go_wp2_with fail
      refine (refSplit_any s HS.out _).mono ?_
      rintro e w4 ⟨ok, x, rfl, hy, hn, b4⟩
      obtain ⟨ng, wh, fr⟩ := x
      unfold refN
      dsimp only at hy hn ⊢
      have B4 := Lib.hid (st B3.out b4 B3.out.size)
      have V4 := Lib.hid (V3.out.below b4)
      have HY := Lib.hid hy
      clear hn hy b4
      cases ok with
      | false =>
        have B5 := Lib.hid (B4.out.alloc B4.out.size (.cells #[.bool ng, .string (ofL wh), .string (ofL fr)] 45))
        go_wp2
        go_ret
        exact ⟨rfl, B5.out⟩
      | true =>
        have HYS : Hid (spl s.data.toList = some ⟨ng, wh, fr⟩) := Lib.hid (HY.out rfl)
        have HG := Lib.hid (spl_some HYS.out).1
        have hs23 := spl_len HYS.out
        have hs0 : s.size ≤ 1000 := by omega
        have hw0 : wh.length ≤ 1000 := by have := HG.out.high; dsimp only at this; omega
        have hf0 : fr.length ≤ 1000 := by have := HG.out.few; dsimp only at this; omega
        have HOKC : Hid (okC c = true) := HVB
        obtain ⟨hb, hhb⟩ : ∃ hb, hldC s.data.toList c = hb := ⟨_, rfl⟩
        have HR1 : Hid (holdR c s.data.toList = (hb, 0)) := Lib.hid (by rw [holdR_ok HOKC.out (by rw [HYS.out]; rfl), hhb])
        obtain ⟨T, hT⟩ : ∃ T, txt ⟨!ng && !zero (wh ++ fr), wh, fr⟩ = T := ⟨_, rfl⟩
        have HT := Lib.hid hT
        have HR2 : Hid (holdR c T = (hb, 0)) := Lib.hid (by
          have e : T = txt (neg_ ⟨ng, wh, fr⟩) := hT.symm
          rw [holdR_ok HOKC.out (by rw [e, spl_of (neg_good HG.out)]; rfl), e, hldC_neg HYS.out, hhb])
        have hTl : T.length ≤ 1000 := by
          have := txt_len (neg_good HG.out)
          have e : T = txt (neg_ ⟨ng, wh, fr⟩) := hT.symm
          rw [e]; omega
        obtain ⟨T2, hT2⟩ : ∃ T2, txt (nrm ⟨ng, wh, fr⟩) = T2 := ⟨_, rfl⟩
        have HR3 : Hid ((∀ l ∈ c, ∀ r ∈ l, r.op ≠ 3 ∧ r.op ≠ 5) → holdR c T2 = (hb, 0)) := Lib.hid (fun hc => by
          rw [← hT2, holdR_ok HOKC.out (by rw [spl_of (nrm_good HG.out)]; rfl), hldC_nrm HYS.out c hc, hhb])
        have hT2l : T2.length ≤ 1000 := by
          have := txt_len (nrm_good HG.out)
          rw [← hT2]; omega
        have HNR : Hid (nrmR s.data.toList = .tuple #[.string (ofL T2), .int .i64 0]) := Lib.hid (by unfold nrmR; rw [HYS.out, ← hT2])
        have BB := (Below.refl w4.heap.size w4).alloc (Nat.le_refl _) (.cells #[.bool ng, .string (ofL wh), .string (ofL fr)] 45)
        have BC := BB.alloc BB.size (.cells #[.bool !ng, .string (ofL wh), .string (ofL fr)] 45)
        have B5 := Lib.hid (st B4.out BC B4.out.size)
        have V5 := Lib.hid (V4.out.below BC)
        have K5 := Lib.hid (Blk.new (w4.alloc (.cells #[.bool ng, .string (ofL wh), .string (ofL fr)] 45)) 45 #[.bool !ng, .string (ofL wh), .string (ofL fr)])
        clear hT hT2 hhb BB BC hs23
        go_wp2_with fail
        obtain ⟨W5, hW5⟩ : ∃ W5, (w4.alloc (.cells #[.bool ng, .string (ofL wh), .string (ofL fr)] 45)).alloc (.cells #[.bool !ng, .string (ofL wh), .string (ofL fr)] 45) = W5 := ⟨_, rfl⟩
        rw [hW5] at B5 V5 K5 ⊢
        rw [World.size_alloc] at K5
        obtain ⟨B0, hB0⟩ : ∃ B0, w4.heap.size = B0 := ⟨_, rfl⟩
        rw [hB0] at K5 ⊢
        clear hW5 hB0
        have H1 := Lib.hid (holdsC_any _ c s hs0 W5 V5.out HLB.out)
        rw [HR1.out] at H1
        refine H1.out.mono ?_
        rintro e w6 ⟨rfl, b6⟩
        have B6 := Lib.hid (st B5.out b6 B5.out.size)
        have V6 := Lib.hid (V5.out.below b6)
        have K6 : Hid (Blk (B0 + 1) 45 #[.bool !ng, .string (ofL wh), .string (ofL fr)] w6) := Lib.hid (Blk.below K5.out b6)
        have c0 : w6.cell? ⟨B0 + 1, 0, none⟩ = some (.bool !ng) := K6.out.cell 0
        have c1 : w6.cell? ⟨B0 + 1, 1, none⟩ = some (.string (ofL wh)) := K6.out.cell 1
        have c2 : w6.cell? ⟨B0 + 1, 2, none⟩ = some (.string (ofL fr)) := K6.out.cell 2
        clear b6 H1
        go_wp2_with fail
        refine (refText_any (!ng) wh fr hw0 hf0 _).mono ?_
        rw [HT.out]
        rintro e w7 ⟨rfl, b7⟩
        have B7 := Lib.hid (st B6.out b7 B6.out.size)
        have V7 := Lib.hid (V6.out.below b7)
        have H2 := Lib.hid (holdsC_any _ c (ofL T) (by rw [ofL_size]; exact hTl) w7 V7.out HLB.out)
        rw [ofL_data, HR2.out] at H2
        clear b7 c0 c1 c2
        go_wp2_with fail
        refine H2.out.mono ?_
        rintro e w8 ⟨rfl, b8⟩
        have B8 := Lib.hid (st B7.out b8 B7.out.size)
        have V8 := Lib.hid (V7.out.below b8)
        have t1 : (hb != hb) = false := by simp
        have t2 : (hb == hb) = true := by simp
        clear b8 H2
        go_wp2_with fail
        go_loopw [70] (fun v70 wr => ∃ k : Nat, k ≤ c.length ∧ v70 = .int .i64 k ∧ (∀ (i : Nat) (hi : i < c.length), i < k → ∀ r ∈ c[i], r.op ≠ 3 ∧ r.op ≠ 5) ∧ Below w8.heap.size w8 wr) (fun v70 _ => c.length - (intOf v70).toNat)
        case atStart => exact ⟨0, Nat.zero_le _, rfl, fun i _ h => by omega, Below.refl _ _⟩
        case round =>
          obtain ⟨k, hk, rfl, hkd, hbw⟩ := hrel
          have HK := Lib.hid hkd
          have HBW := Lib.hid hbw
          have zr := hbw.size
          clear hkd hbw
          by_cases hlt : k < c.length
          · obtain ⟨bk, off, y1, y2, rfl, h0, h4⟩ := (V8.out.below HBW.out).at_ k hlt
            have h9 : (k : Int) < (c.length : Int) := by omega
            obtain ⟨m, hm⟩ : ∃ m, c[k] = m := ⟨_, rfl⟩
            have HM := Lib.hid hm
            rw [hm] at h0 h4
            have H4 := Lib.hid h4
            have hmb : m.length ≤ 9223372036854775807 := by obtain ⟨_, _, _, q1, q2⟩ := h4.slice; omega
            clear hm h4
            go_wp2_with fail
            go_loopw [78] (fun v78 wz => ∃ j : Nat, j ≤ m.length ∧ v78 = .int .i64 j ∧ (∀ (i : Nat) (hi : i < m.length), i < j → m[i].op ≠ 3 ∧ m[i].op ≠ 5) ∧ Below wr.heap.size wr wz) (fun v78 _ => m.length - (intOf v78).toNat)
            case atStart => exact ⟨0, Nat.zero_le _, rfl, fun i _ h => by omega, Below.refl _ _⟩
            case round =>
              rename World => wz
              obtain ⟨j, hj, rfl, hjd, hbz⟩ := hrel
              have HJ := Lib.hid hjd
              have HBZ := Lib.hid hbz
              have zz := hbz.size
              clear hjd hbz h0
              by_cases hjt : j < m.length
              · obtain ⟨bm, om, q1, q2, rfl, g0, g1, g2, g3, g4⟩ := (H4.out.below HBZ.out).at_ j hjt
                have h8 : (j : Int) < (m.length : Int) := by omega
                obtain ⟨r, hr⟩ : ∃ r, m[j] = r := ⟨_, rfl⟩
                have HRJ := Lib.hid hr
                rw [hr] at g0 g1 g2 g3
                clear g4 hr
                obtain ⟨o, d, b, sp⟩ := r
                dsimp only at g0 g1 g2 g3
                have BZ := Lib.hid (HBZ.out.alloc zz (.cells #[.int .i64 o, .int .i64 d, .bool b, .slice q1 sp.length q2] 38))
                by_cases h3 : o = 3
                · have e1 : (o == 3) = true := by rw [beq_iff_eq]; exact h3
                  clear h3
                  go_wp2
                  go_ret
                  exact ⟨rfl, st B8.out (st HBW.out BZ.out zr) B8.out.size⟩
                have e1 : (o == 3) = false := by rw [beq_eq_false_iff_ne]; exact h3
                by_cases h5 : o = 5
                · have e2 : (o == 5) = true := by rw [beq_iff_eq]; exact h5
                  clear h3 h5
                  go_wp2
                  go_ret
                  exact ⟨rfl, st B8.out (st HBW.out BZ.out zr) B8.out.size⟩
                have e2 : (o == 5) = false := by rw [beq_eq_false_iff_ne]; exact h5
                have HO := Lib.hid (And.intro h3 h5)
                clear h3 h5
                go_wp2
                go_roundw
                case measure => simp [intOf]; omega
                case rel => exact ⟨j + 1, by omega, by go_num, fun i hi hij => by
                  rcases Nat.lt_or_ge i j with h | h
                  · exact HJ.out i hi h
                  · obtain rfl : i = j := by omega
                    rw [HRJ.out]; exact HO.out, BZ.out⟩
              · obtain rfl : j = m.length := by omega
                have h3 : ¬ (m.length : Int) < (m.length : Int) := by omega
                go_wp2
                go_roundw
                case measure => simp [intOf]; omega
                case rel => exact ⟨k + 1, by omega, by go_num, fun i hi hik => by
                  rcases Nat.lt_or_ge i k with h | h
                  · exact HK.out i hi h
                  · obtain rfl : i = k := by omega
                    rw [HM.out]
                    intro r hr
                    obtain ⟨j, hj, rfl⟩ := List.getElem_of_mem hr
                    exact HJ.out j hj hj, st HBW.out HBZ.out zr⟩
          · obtain rfl : k = c.length := by omega
            have h3 : ¬ (c.length : Int) < (c.length : Int) := by omega
            have HR4 : Hid (holdR c T2 = (hb, 0)) := Lib.hid (HR3.out (fun l hl => by
              obtain ⟨i, hi, rfl⟩ := List.getElem_of_mem hl
              exact HK.out i hi hi))
            have B9 := Lib.hid (st B8.out HBW.out B8.out.size)
            have V9 := Lib.hid (V8.out.below HBW.out)
            go_wp2_with fail
            refine (refNormal_any s (by omega) _).mono ?_
            rw [HNR.out]
            rintro e w10 ⟨rfl, b10⟩
            have B10 := Lib.hid (st B9.out b10 B9.out.size)
            have V10 := Lib.hid (V9.out.below b10)
            have H3 := Lib.hid (holdsC_any _ c (ofL T2) (by rw [ofL_size]; exact hT2l) w10 V10.out HLB.out)
            rw [ofL_data, HR4.out] at H3
            clear b10
            go_wp2_with fail
            refine H3.out.mono ?_
            rintro e w11 ⟨rfl, b11⟩
            have B11 := Lib.hid (st B10.out b11 B10.out.size)
            clear b11
            go_wp2
            go_ret
            exact ⟨rfl, B11.out⟩
end Go.Proofs.YtnabklhkalnpiaaGreatDoor
