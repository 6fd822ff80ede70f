/- The law ConditionLogic. -/
import Derived.Test.YtnabklhkalnpiaaGreatDoorCzye
namespace Go.Proofs.YtnabklhkalnpiaaGreatDoor
open Go.RowKit
set_option linter.unusedVariables false

theorem own_noLst (w : World) (base : Nat) (hb : base ≤ w.heap.size) : Own1 1 encS (w.alloc (.cells #[] 39)) base 39 (.slice (some ⟨w.heap.size, 0, none⟩) 0 0) [] :=
  ⟨by rfl, .inr ⟨w.heap.size, 0, #[], rfl, hb, heap_alloc_new w _, Nat.le_refl _, by decide, rfl, rfl⟩⟩
theorem rdC_app {w : World} {v : Value} {r1 r2 : List RawS} {c d : Cnd} (h : Rd 1 encS w v (r1 ++ r2)) (n1 : r1.length = c.length) (n2 : r2.length = d.length)
    (h1 : ∀ (i : Nat) (h : i < r1.length) (h' : i < c.length), RdRels w (.slice r1[i].a r1[i].n r1[i].c) c[i]) (h2 : ∀ (i : Nat) (h : i < r2.length) (h' : i < d.length), RdRels w (.slice r2[i].a r2[i].n r2[i].c) d[i]) : RdC w v (c ++ d) := by
  refine ⟨r1 ++ r2, h, by rw [List.length_append, List.length_append, n1, n2], fun i hi hi' => ?_⟩
  rcases Nat.lt_or_ge i r1.length with h | h
  · rw [List.getElem_append_left h, List.getElem_append_left (by omega)]
    exact h1 i h (by omega)
  · have e1 : i - r1.length < r2.length := by rw [List.length_append] at hi; omega
    rw [List.getElem_append_right h, List.getElem_append_right (by omega)]
    have := h2 (i - r1.length) e1 (by omega)
    simpa only [n1] using this
theorem rdC_single (w : World) (x : RawR) (r : Rel) (hr : RdRel w x r) :
    RdC ((w.alloc (.cells #[.int .i64 x.op, .int .i64 x.md, .bool x.nt, .slice x.a x.n x.c] 38)).alloc (.cells #[.slice (some ⟨w.heap.size, 0, none⟩) 1 1] 39)) (.slice (some ⟨w.heap.size + 1, 0, none⟩) 1 1) [[r]] := by
  have b1 := (Below.refl w.heap.size w).alloc (Nat.le_refl _) (.cells #[.int .i64 x.op, .int .i64 x.md, .bool x.nt, .slice x.a x.n x.c] 38)
  have o1 := (own_rel w _ (Nat.le_refl _) x).rd encR_len
  have o2 := (own_lst (w.alloc (.cells #[.int .i64 x.op, .int .i64 x.md, .bool x.nt, .slice x.a x.n x.c] 38)) _ (Nat.le_refl _) ⟨some ⟨w.heap.size, 0, none⟩, 1, 1⟩).rd encS_len
  rw [World.size_alloc] at o2
  have b2 := (Below.refl _ (w.alloc (.cells #[.int .i64 x.op, .int .i64 x.md, .bool x.nt, .slice x.a x.n x.c] 38))).alloc (Nat.le_refl _) (.cells #[.slice (some ⟨w.heap.size, 0, none⟩) 1 1] 39)
  have r1 : RdRels (w.alloc (.cells #[.int .i64 x.op, .int .i64 x.md, .bool x.nt, .slice x.a x.n x.c] 38)) (.slice (some ⟨w.heap.size, 0, none⟩) 1 1) [r] := ⟨[x], o1, rfl, fun i h h' => by
    have : i = 0 := by simp at h; exact h
    subst this
    exact hr.below b1⟩
  refine ⟨[⟨some ⟨w.heap.size, 0, none⟩, 1, 1⟩], o2, rfl, fun i h h' => ?_⟩
  have : i = 0 := by simp at h; exact h
  subst this
  exact r1.below b2
set_option maxRecDepth 1000000 in
set_option maxHeartbeats 8000000 in
theorem conditionLogic_walk (c : Cnd) (v : Value) (d : Cnd) (u : Value) (s : ByteArray) (hs : s.size ≤ maxLen) (w : World) (hv : RdC w v c) (hl : ∀ l ∈ c, l.length ≤ 140737488355328) (hu : RdC w u d) (hl2 : ∀ l ∈ d, l.length ≤ 140737488355328) (E : Env w) :
    Calls Tryz.prog 6 #[v, u, .string s] w fun e w' => e = .returned (.bool true) ∧ Below w.heap.size w w' := by
  have hm : maxLen = 9223372036854775807 := by decide
  rw [hm] at hs
  obtain ⟨iR, hiR, hzR, hkR, hbR⟩ := info_parts Tryz.infoLst
  have HS := Lib.hid hs
  have HE := Lib.hid E
  have HV := Lib.hid hv
  have HL := Lib.hid hl
  have HU := Lib.hid hu
  have HL2 := Lib.hid hl2
  obtain ⟨a, n, hva, _⟩ := hv.slice
  subst hva
  obtain ⟨a', n', hua, _⟩ := hu.slice
  subst hua
  clear E hv hl hu hl2 hs
  go_enter Tryz.func6, Tryz.ntmps6
  go_wp2_with fail
  refine (awake_any _ HE.out).mono ?_
  rintro e w1 ⟨rfl, b1⟩
  have B1 := Lib.hid b1
  have E1 := Lib.hid (HE.out.later b1)
  have V1 := Lib.hid (HV.out.below b1)
  have U1 := Lib.hid (HU.out.below b1)
  clear b1 HV HU HE
  go_wp2_with fail
  refine (few_any _ c _ V1.out).mono ?_
  rintro e w2 ⟨⟨bf, rfl, hf⟩, hw2⟩
  obtain rfl := hw2.symm
  have HF := Lib.hid hf
  clear hf hw2
  cases bf with
  | false =>
    go_wp2_with fail
    refine (awake_any _ E1.out).mono ?_
    rintro e w3 ⟨rfl, bq⟩
    have BQ := Lib.hid (st B1.out bq B1.out.size)
    clear bq
    go_wp2
    go_ret
    exact ⟨rfl, BQ.out⟩
  | true =>
    go_wp2_with fail
    refine (few_any _ d _ U1.out).mono ?_
    rintro e w2 ⟨⟨bg, rfl, hg⟩, hw2⟩
    obtain rfl := hw2.symm
    have HF2 := Lib.hid hg
    clear hg hw2
    cases bg with
    | false =>
      go_wp2_with fail
      refine (awake_any _ E1.out).mono ?_
      rintro e w3 ⟨rfl, bq⟩
      have BQ := Lib.hid (st B1.out bq B1.out.size)
      clear bq
      go_wp2
      go_ret
      exact ⟨rfl, BQ.out⟩
    | true =>
      have HCN := Lib.hid (cnt_few (by have := HF.out; simpa using this) HL.out)
      have HDN := Lib.hid (cnt_few (by have := HF2.out; simpa using this) HL2.out)
      have HLB : Hid (∀ l ∈ c, l.length ≤ 4611686018427387904) := Lib.hid (fun l hx => Nat.le_trans (HL.out l hx) (by decide))
      have HLD : Hid (∀ l ∈ d, l.length ≤ 4611686018427387904) := Lib.hid (fun l hx => Nat.le_trans (HL2.out l hx) (by decide))
      have Q0 := Lib.hid (refValidC_any _ c w1 V1.out HCN.out)
      obtain ⟨vb, hvb⟩ : ∃ vb, okC c = vb := ⟨_, rfl⟩
      have HVB := Lib.hid hvb
      rw [hvb] at Q0
      clear hvb
      go_wp2_with fail
      refine Q0.out.mono ?_
      rintro e w3 ⟨rfl, b3⟩
      have B3 := Lib.hid (st B1.out b3 B1.out.size)
      have E3 := Lib.hid (E1.out.later b3)
      have V3 := Lib.hid (V1.out.below b3)
      have U3 := Lib.hid (U1.out.below b3)
      clear b3 Q0
      cases vb with
      | false =>
        go_wp2_with fail
        refine (awake_any _ E3.out).mono ?_
        rintro e w4 ⟨rfl, bq⟩
        have BQ := Lib.hid (st B3.out bq B3.out.size)
        clear bq
        go_wp2
        go_ret
        exact ⟨rfl, BQ.out⟩
      | true =>
        have Q1 := Lib.hid (refValidC_any _ d w3 U3.out HDN.out)
        obtain ⟨vd, hvd⟩ : ∃ vd, okC d = vd := ⟨_, rfl⟩
        have HVD := Lib.hid hvd
        rw [hvd] at Q1
        clear hvd
        go_wp2_with fail
        refine Q1.out.mono ?_
        rintro e w4 ⟨rfl, b4⟩
        have B4 := Lib.hid (st B3.out b4 B3.out.size)
        have E4 := Lib.hid (E3.out.later b4)
        have V4 := Lib.hid (V3.out.below b4)
        have U4 := Lib.hid (U3.out.below b4)
        clear b4 Q1
        cases vd with
        | false =>
          go_wp2_with fail
          refine (awake_any _ E4.out).mono ?_
          rintro e w5 ⟨rfl, bq⟩
          have BQ := Lib.hid (st B4.out bq B4.out.size)
          clear bq
          go_wp2
          go_ret
          exact ⟨rfl, BQ.out⟩
        | true =>
          have Q2 := Lib.hid (refValid_any s HS.out w4)
          obtain ⟨vs, hvs⟩ : ∃ vs, (spl s.data.toList).isSome = vs := ⟨_, rfl⟩
          have HVS := Lib.hid hvs
          rw [hvs] at Q2
          clear hvs
          go_wp2_with fail
          refine Q2.out.mono ?_
          rintro e w5 ⟨rfl, b5⟩
          have B5 := Lib.hid (st B4.out b5 B4.out.size)
          have E5 := Lib.hid (E4.out.later b5)
          have V5 := Lib.hid (V4.out.below b5)
          have U5 := Lib.hid (U4.out.below b5)
          clear b5 Q2
          cases vs with
          | false =>
            go_wp2_with fail
            refine (awake_any _ E5.out).mono ?_
            rintro e w6 ⟨rfl, bq⟩
            have BQ := Lib.hid (st B5.out bq B5.out.size)
            clear bq
            go_wp2
            go_ret
            exact ⟨rfl, BQ.out⟩
          | true =>
            obtain ⟨x, hx⟩ := Option.isSome_iff_exists.1 HVS.out
            have hs0 : s.size ≤ 1000 := by have := spl_len hx; omega
            clear hx E1 E3 E4 V1 V3 V4 U1 U3 U4
            have HC1 : Hid (okC c = true) := HVB
            have HD1 : Hid (okC d = true) := HVD
            obtain ⟨cb, hcb⟩ : ∃ cb, hldC s.data.toList c = cb := ⟨_, rfl⟩
            obtain ⟨db, hdb⟩ : ∃ db, hldC s.data.toList d = db := ⟨_, rfl⟩
            have HCB := Lib.hid hcb
            have HDB := Lib.hid hdb
            have H1 := Lib.hid (holdsC_any _ c s hs0 w5 V5.out HLB.out)
            rw [holdR_ok HC1.out HVS.out, hcb] at H1
            clear hcb hdb
            go_wp2_with fail
            refine H1.out.mono ?_
            rintro e w6 ⟨rfl, b6⟩
            have B6 := Lib.hid (st B5.out b6 B5.out.size)
            have V6 := Lib.hid (V5.out.below b6)
            have U6 := Lib.hid (U5.out.below b6)
            have H2 := Lib.hid (holdsC_any _ d s hs0 w6 U6.out HLD.out)
            rw [holdR_ok HD1.out HVS.out, HDB.out] at H2
            clear b6 H1
            go_wp2_with fail
            refine H2.out.mono ?_
            rintro e w7 ⟨rfl, b7⟩
            have B7 := Lib.hid (st B6.out b7 B6.out.size)
            have V7 := Lib.hid (V6.out.below b7)
            have U7 := Lib.hid (U6.out.below b7)
            have HCC : Hid (c.length ≤ 30) := Lib.hid (by have := HF.out; simpa using this)
            have HDD : Hid (d.length ≤ 30) := Lib.hid (by have := HF2.out; simpa using this)
            have bE := (Below.refl w7.heap.size w7).alloc (Nat.le_refl _) (.cells #[] 39)
            obtain ⟨r1, p1, n1, q1⟩ := V7.out
            obtain ⟨r2, p2, n2, q2⟩ := U7.out
            have P1 := Lib.hid (p1.below bE)
            have P2 := Lib.hid p2
            have N1 := Lib.hid n1
            have N2 := Lib.hid n2
            have Q1 := Lib.hid q1
            have Q2 := Lib.hid q2
            have OE := Lib.hid (own_noLst w7 w7.heap.size (Nat.le_refl _))
            have BE := Lib.hid bE
            clear b7 H2 bE p1 p2 n1 n2 q1 q2
            go_wp2_with (first | (at_builtin; refine wpList_append_rd (w := w7.alloc (.cells #[] 39)) rfl _ _ 23 rfl w7.heap.size iR _ 24 Tryz.underlying23 hiR hzR hkR hbR (by omega) rfl (by omega) encS_len encS_one _ [] r1 _ rfl OE.out rfl P1.out (by have := HCC.out; have := N1.out; simp only [List.length_nil]; omega) BE.out.size ?_; intro v8 w8 x1 x2; rw [List.nil_append] at x1; obtain ⟨a8, c8, hv8⟩ := x1.slice; subst hv8) | (at_builtin; refine wpList_append_rd (w := w8) rfl _ _ 23 rfl w7.heap.size iR _ 24 Tryz.underlying23 hiR hzR hkR hbR (by omega) rfl (by omega) encS_len encS_one _ r1 r2 _ rfl x1 rfl (P2.out.below (BE.out.trans x2)) (by have := HCC.out; have := HDD.out; have := N1.out; have := N2.out; omega) (Nat.le_trans BE.out.size x2.size) ?_; intro v9 w9 x3 x4) | fail)
            obtain ⟨a9, c9, hv9⟩ := x3.slice
            rw [List.length_append] at hv9
            subst hv9
            obtain ⟨NN, nn⟩ : ∃ NN, r1.length + r2.length = NN := ⟨_, rfl⟩
            have BX := Lib.hid ((BE.out.trans x2).trans x4)
            have VX : Hid (RdC w9 (.slice a9 (r1.length + r2.length) c9) (c ++ d)) := Lib.hid (rdC_app (x3.rd encS_len) N1.out N2.out (fun i h h' => (Q1.out i h h').below BX.out) (fun i h h' => (Q2.out i h h').below BX.out))
            have V9 := Lib.hid (V7.out.below BX.out)
            have B9 := Lib.hid (st B7.out BX.out B7.out.size)
            clear x1 x2 x3 x4
            rw [nn] at VX ⊢
            clear nn
            have hcd := cnt_app c d
            have hc6 := (okC_iff.1 HC1.out).2.2
            have hd6 := (okC_iff.1 HD1.out).2.2
            have HX0 := Lib.hid (refValidC_any _ (c ++ d) w9 VX.out (by omega))
            have HXB : Hid (∀ l ∈ c ++ d, l.length ≤ 4611686018427387904) := Lib.hid (fun l hx => by
              rcases List.mem_append.1 hx with h | h
              · exact HLB.out l h
              · exact HLD.out l h)
            have HXH := Lib.hid (hldC_app s.data.toList c d)
            rw [HCB.out, HDB.out] at HXH
            obtain ⟨bd, hbd⟩ : ∃ bd, okC (c ++ d) = bd := ⟨_, rfl⟩
            have HBD := Lib.hid hbd
            rw [hbd] at HX0
            clear hbd hcd hc6 hd6
            go_wp2_with fail
            refine HX0.out.mono ?_
            rintro e w10 ⟨rfl, b10⟩
            have B10 := Lib.hid (st B9.out b10 B9.out.size)
            have V10 := Lib.hid (V9.out.below b10)
            have VX10 := Lib.hid (VX.out.below b10)
            clear b10 HX0 VX
            go_upto_if 72 with fail
            go_cut [] from 71 to 88 (fun wx => Below w.heap.size w wx ∧ RdC wx (.slice a c.length n) c)
            case first =>
              cases bd with
              | false =>
                go_wp2_with fail
                go_meet
                exact ⟨B10.out, V10.out⟩
              | true =>
                have H3 := Lib.hid (holdsC_any _ (c ++ d) s hs0 w10 VX10.out HXB.out)
                rw [holdR_ok HBD.out HVS.out, HXH.out] at H3
                go_wp2_with fail
                refine H3.out.mono ?_
                rintro e w11 ⟨rfl, b11⟩
                have B11 := Lib.hid (st B10.out b11 B10.out.size)
                have V11 := Lib.hid (V10.out.below b11)
                clear b11 H3
                cases cb <;> cases db <;>
                  · go_wp2_with fail
                    go_meet
                    exact ⟨B11.out, V11.out⟩
            case rest =>
              obtain ⟨b12, v12⟩ := hcut
              rename World => wc
              have B12 := Lib.hid b12
              have V12 := Lib.hid v12
              clear b12 v12 B10 V10 VX10
              have hc0 := (okC_iff.1 HC1.out).1
              obtain ⟨bk, off, y1, y2, rfl, h0, h4⟩ := V12.out.at_ 0 hc0
              have hl0 := (okL_iff.1 ((okC_iff.1 HC1.out).2.1 c[0] (List.getElem_mem hc0))).1
              obtain ⟨bm, om, q1, q2, rfl, g0, g1, g2, g3, g4⟩ := h4.at_ 0 hl0
              have HRO := Lib.hid (okC_first HC1.out hc0 hl0)
              obtain ⟨r, hr⟩ : ∃ r, c[0][0] = r := ⟨_, rfl⟩
              rw [hr] at g0 g1 g2 g3 g4 HRO
              clear hr
              obtain ⟨o, md, b, sp⟩ := r
              dsimp only at g0 g1 g2 g3 g4
              simp only [Nat.zero_mul, Nat.add_zero] at h0 g0 g1 g2 g3
              have hr0 : RdRel wc ⟨o, md, b, q1, sp.length, q2⟩ ⟨o, md, b, sp⟩ := ⟨rfl, rfl, rfl, g4⟩
              have a1 := (Below.refl wc.heap.size wc).alloc (Nat.le_refl _) (.cells #[.int .i64 o, .int .i64 md, .bool b, .slice q1 sp.length q2] 38)
              have a2 := a1.alloc a1.size (.cells #[.int .i64 o, .int .i64 md, .bool !b, .slice q1 sp.length q2] 38)
              have rc := rdC_single _ _ _ (hr0.below a2)
              dsimp only at rc
              rw [World.size_alloc, World.size_alloc] at rc
              have a3 := a2.alloc a2.size (.cells #[.int .i64 o, .int .i64 md, .bool b, .slice q1 sp.length q2] 38)
              have a4 := a3.alloc a3.size (.cells #[.slice (some ⟨wc.heap.size + 1 + 1, 0, none⟩) 1 1] 39)
              have ko := ((Blk.new (wc.alloc (.cells #[.int .i64 o, .int .i64 md, .bool b, .slice q1 sp.length q2] 38)) 38 #[.int .i64 o, .int .i64 md, .bool !b, .slice q1 sp.length q2]).alloc (.cells #[.int .i64 o, .int .i64 md, .bool b, .slice q1 sp.length q2] 38)).alloc (.cells #[.slice (some ⟨wc.heap.size + 1 + 1, 0, none⟩) 1 1] 39)
              rw [World.size_alloc] at ko
              have H4 := Lib.hid (holdsC_any _ [[⟨o, md, b, sp⟩]] s hs0 _ rc (by intro l hx; simp at hx; subst hx; simp))
              rw [holdR_ok (by rw [okC_one]; exact HRO.out) HVS.out, hld_one] at H4
              obtain ⟨xb, hxb⟩ : ∃ xb, hldR s.data.toList ⟨o, md, b, sp⟩ = xb := ⟨_, rfl⟩
              have HXB2 := Lib.hid hxb
              rw [hxb] at H4
              have A4 := Lib.hid a4
              have KO := Lib.hid ko
              have G4 := Lib.hid g4
              clear hr0 a1 a2 a3 a4 rc ko g4 hxb
              go_wp2_with fail
              refine H4.out.mono ?_
              rintro e w13 ⟨rfl, b13⟩
              have B13 := Lib.hid (st (st B12.out A4.out B12.out.size) b13 (st B12.out A4.out B12.out.size).size)
              have K13 := Lib.hid (Blk.below KO.out b13)
              have f0 : w13.cell? ⟨wc.heap.size + 1, 0, none⟩ = some (.int .i64 o) := K13.out.cell 0
              have f1 : w13.cell? ⟨wc.heap.size + 1, 1, none⟩ = some (.int .i64 md) := K13.out.cell 1
              have f2 : w13.cell? ⟨wc.heap.size + 1, 2, none⟩ = some (.bool !b) := K13.out.cell 2
              have f3 : w13.cell? ⟨wc.heap.size + 1, 3, none⟩ = some (.slice q1 sp.length q2) := K13.out.cell 3
              have hr1 : RdRel w13 ⟨o, md, !b, q1, sp.length, q2⟩ ⟨o, md, !b, sp⟩ := ⟨rfl, rfl, rfl, (G4.out.below A4.out).below b13⟩
              have rc2 := rdC_single _ _ _ hr1
              dsimp only at rc2
              have a5 := (Below.refl w13.heap.size w13).alloc (Nat.le_refl _) (.cells #[.int .i64 o, .int .i64 md, .bool !b, .slice q1 sp.length q2] 38)
              have a6 := a5.alloc a5.size (.cells #[.slice (some ⟨w13.heap.size, 0, none⟩) 1 1] 39)
              have H5 := Lib.hid (holdsC_any _ [[⟨o, md, !b, sp⟩]] s hs0 _ rc2 (by intro l hx; simp at hx; subst hx; simp))
              rw [holdR_ok (by rw [okC_one]; exact HRO.out) HVS.out, hld_one, show (⟨o, md, !b, sp⟩ : Rel) = opp ⟨o, md, b, sp⟩ from rfl, hldR_opp, HXB2.out] at H5
              have A6 := Lib.hid a6
              clear H4 A4 KO G4 hr1 a5 a6 rc2 b13
              go_wp2_with fail
              refine H5.out.mono ?_
              rintro e w14 ⟨rfl, b14⟩
              have B14 := Lib.hid (st (st B13.out A6.out B13.out.size) b14 (st B13.out A6.out B13.out.size).size)
              clear b14
              cases xb <;>
                · go_wp2
                  go_ret
                  exact ⟨rfl, B14.out⟩
end Go.Proofs.YtnabklhkalnpiaaGreatDoor
