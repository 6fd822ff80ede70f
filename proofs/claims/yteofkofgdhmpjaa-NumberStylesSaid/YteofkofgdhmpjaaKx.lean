/- Of the reference: Round. -/
import Derived.Test.YteofkofgdhmpjaaKw
namespace Go.Proofs.Yteofkofgdhmpjaa
open Go.RowKit
set_option linter.unusedVariables false

theorem region_stail {P : Program} {w : World} {id : Nat} {Q : Exit → Act → World → Prop} {a : Act} {l : List Oper} (k : Nat) (hm : P.follows .mixedOrders = true) (hB : Region.lexTailB .any l.toArray k = true)
    (h : wpStill P l.toArray (w.drewN 1) (fun a' => wpList P l.toArray Q (l.drop k) a' (w.drewN 1)) (l.take k) a) : (Code.region id l.toArray true).wp P Q a w := wp_region_still_tail k hm hB h
theorem ro_small {x : Num} (g : Good x) {d k : Nat} (hd : x.fr.length ≤ d) (hk : d - x.fr.length = k) : Ro x d (fin x.neg x.wh (x.fr ++ zs k)) := by
  have h := ro_of (x := x) (d := d) (p := x.wh.length) (q := x.wh ++ (x.fr ++ zs k)) g.low (by simp [zs_len]; omega) (by
    rw [← List.append_assoc, val_app, val_zs, zs_len]
    unfold roD
    rw [if_pos hd, hk]
    rfl) (allD_app.2 ⟨g.dw, allD_app.2 ⟨g.df, allD_zs _⟩⟩)
  rw [List.take_left, List.drop_left] at h
  exact h
theorem ro_large {x : Num} (g : Good x) {d : Nat} (hd : d < x.fr.length) {q : Str} (hq : val q = val (x.wh ++ x.fr.take d) + (if 53 ≤ (x.fr[d]).toNat then 1 else 0)) (hqd : allD q) {p : Nat} (hp : q.length = p + d) (hp1 : 1 ≤ p) : Ro x d (fin x.neg (q.take p) (q.drop p)) := by
  refine ro_of hp1 hp ?_ hqd
  unfold roD
  rw [if_neg (by omega), getD_get hd]
  exact hq
set_option maxRecDepth 1000000 in
set_option maxHeartbeats 8000000 in
theorem refRound_any (s : ByteArray) (n : Int) (hs : s.size ≤ 9223372036854775807) (w : World) : Calls Try.prog 13 #[.string s, .int .i64 n] w (RoPost s.data.toList n w) := by
  go_enter Try.func13, Try.ntmps13
  go_wp2_with fail
  refine (refSplit_any s hs _).mono ?_
  rintro e w1 ⟨ok, x, rfl, hy, hn, b1⟩
  unfold refN
  have HXY := Lib.hid hy
  have HXN := Lib.hid hn
  have HB := Lib.hid (b1.alloc b1.size (.cells #[.bool x.neg, .string (ofL x.wh), .string (ofL x.fr)] 45))
  have KX := Lib.hid (Blk.new w1 45 #[.bool x.neg, .string (ofL x.wh), .string (ofL x.fr)])
  have HZ1 := Lib.hid b1.size
  clear hy hn b1
  cases ok with
  | false =>
    have HV := Lib.hid (HXN.out rfl)
    go_wp2
    go_ret2
    exact ⟨.inl ⟨HV.out, rfl⟩, HB.out⟩
  | true =>
    have HY := Lib.hid (HXY.out rfl)
    have HG := Lib.hid (spl_some HY.out).1
    clear HXY HXN
    by_cases h0 : n < 0
    · go_wp2
      go_ret2
      exact ⟨.inr (.inl ⟨x, HY.out, .inl h0, rfl⟩), HB.out⟩
    by_cases h6 : 6 < n
    · go_wp2
      go_ret2
      exact ⟨.inr (.inl ⟨x, HY.out, .inr h6, rfl⟩), HB.out⟩
    obtain ⟨d, rfl⟩ : ∃ d : Nat, n = d := ⟨n.toNat, by omega⟩
    have hd6 : d ≤ 6 := by omega
    have hd7 : ¬ (d : Int) < 0 := by omega
    have hd8 : ¬ (6 : Int) < (d : Int) := by omega
    clear h0 h6
    go_upto_region 6 with fail
    obtain ⟨W1, hW1⟩ : ∃ W1, w1.alloc (.cells #[.bool x.neg, .string (ofL x.wh), .string (ofL x.fr)] 45) = W1 := ⟨_, rfl⟩
    obtain ⟨C6, hC6⟩ : ∃ C6, w1.heap.size = C6 := ⟨_, rfl⟩
    rw [hW1] at HB KX ⊢
    rw [hC6] at KX HZ1 ⊢
    clear hW1 hC6
    obtain ⟨wh, hwh⟩ : ∃ wh, x.wh = wh := ⟨_, rfl⟩
    obtain ⟨fr, hfr⟩ : ∃ fr, x.fr = fr := ⟨_, rfl⟩
    obtain ⟨nx, hnx⟩ : ∃ nx, x.neg = nx := ⟨_, rfl⟩
    have HWH := Lib.hid hwh
    have HFR := Lib.hid hfr
    have HNX := Lib.hid hnx
    rw [hwh, hfr, hnx] at KX ⊢
    clear hwh hfr hnx
    have l0 : 1 ≤ wh.length := by rw [← HWH.out]; exact HG.out.low
    have l1 : wh.length ≤ 15 := by rw [← HWH.out]; exact HG.out.high
    have l2 : fr.length ≤ 6 := by rw [← HFR.out]; exact HG.out.few
    have HDW : Hid (allD wh) := Lib.hid (by rw [← HWH.out]; exact HG.out.dw)
    have HDF : Hid (allD fr) := Lib.hid (by rw [← HFR.out]; exact HG.out.df)
    obtain ⟨N1, hN1⟩ : ∃ N, (ofL wh).size = N := ⟨_, rfl⟩
    obtain ⟨N2, hN2⟩ : ∃ N, (ofL fr).size = N := ⟨_, rfl⟩
    have HN1 : Hid (wh.length = N1) := Lib.hid (by rw [← hN1, ofL_size])
    have HN2 : Hid (fr.length = N2) := Lib.hid (by rw [← hN2, ofL_size])
    rw [HN1.out] at l0 l1
    rw [HN2.out] at l2
    have m0 : W1.cell? ⟨C6, 0, none⟩ = some (.bool nx) := KX.out.cell 0
    have m1 : W1.cell? ⟨C6, 1, none⟩ = some (.string (ofL wh)) := KX.out.cell 1
    have m2 : W1.cell? ⟨C6, 2, none⟩ = some (.string (ofL fr)) := KX.out.cell 2
    by_cases hle : N2 ≤ d
    · have q1 : (N2 : Int) ≤ (d : Int) := by omega
      obtain ⟨k, hk⟩ : ∃ k, d - N2 = k := ⟨_, rfl⟩
      have HF : Hid (Ro x d (fin nx wh (fr ++ zs k))) := Lib.hid (by
        have h := ro_small HG.out (d := d) (k := k) (by rw [HFR.out, HN2.out]; exact hle) (by rw [HFR.out, HN2.out]; exact hk)
        rw [HNX.out, HWH.out, HFR.out] at h
        exact h)
      obtain ⟨fz, hfz⟩ : ∃ fz, fr ++ zs k = fz := ⟨_, rfl⟩
      have hza := refZeros_any ((d : Int) - (N2 : Int)) (by omega)
      rw [show ((d : Int) - (N2 : Int)).toNat = k by omega] at hza
      have HZA := Lib.hid hza
      have c1 : ∀ wx, (Op.stringOp .add (ofL fr) (ofL (zs k))).run Try.prog wx = .ok (.string (ofL fz)) wx := fun wx => str_add (by rw [zs_len]; have := HN2.out; omega) hfz wx
      have wr2 : IntKind.i64.wrap ((d : Int) - (N2 : Int)) = (d : Int) - (N2 : Int) := wrap_fit (by omega) (by omega)
      have hfl : fz.length ≤ 1000 := by rw [← hfz, List.length_append, zs_len]; have := HN2.out; omega
      rw [hfz] at HF
      have HFL := Lib.hid hfl
      have n2 : W1.drew.cell? ⟨C6, 2, none⟩ = some (.string (ofL fr)) := KX.out.cell 2
      have xf := KX.out.frozen
      have xg : ∀ i, W1.drew.frozen? ⟨C6, i, none⟩ = false := KX.out.frozen
      clear hza hk hfz hfl
      go_upto_region 7 with fail
      refine region_stail 10 (by kernel_rfl) (by decide +kernel) ?_
      simp only [List.take_succ_cons, List.take_zero, List.drop_succ_cons, List.drop_zero]
      iterate 7 still_step
      still_call (HZA.out _)
      iterate 2 still_step
      refine wpStill_nil ?_
      have K2 : Hid (Blk C6 45 #[.bool nx, .string (ofL wh), .string (ofL fr)] (W1.drewN 1)) := Lib.hid (KX.out.drewN 1)
      have HB2 := Lib.hid (below_drewN HB.out 1)
      have HLW : Hid (wh.length ≤ 1000) := Lib.hid (by have := HN1.out; omega)
      obtain ⟨W2, hW2⟩ : ∃ W2, W1.drewN 1 = W2 := ⟨_, rfl⟩
      rw [hW2] at K2 HB2 ⊢
      clear hW2 xf xg n2 m0 m1 m2 c1 wr2 HZA
      have m0 : W2.cell? ⟨C6, 0, none⟩ = some (.bool nx) := K2.out.cell 0
      have m1 : W2.cell? ⟨C6, 1, none⟩ = some (.string (ofL wh)) := K2.out.cell 1
      have m2 : W2.cell? ⟨C6, 2, none⟩ = some (.string (ofL fr)) := K2.out.cell 2
      have xf := K2.out.frozen
      go_wp2_with fail
      have HB3 := Lib.hid (HB2.out.setCell (p := ⟨C6, 2, none⟩) HZ1.out (.string (ofL fz)))
      refine (checked_any nx wh fz HLW.out HFL.out _).mono ?_
      rintro e w9 ⟨rfl, b9⟩
      have HB9 := Lib.hid (st HB3.out b9 HB3.out.size)
      obtain ⟨o, ho⟩ : ∃ o, fin nx wh fz = o := ⟨_, rfl⟩
      rw [ho] at HF ⊢
      clear b9 ho
      cases o with
      | none =>
        unfold resV
        go_wp2
        go_ret2
        exact ⟨.inr (.inr ⟨x, d, none, HY.out, rfl, hd6, HF.out, rfl⟩), HB9.out⟩
      | some t =>
        unfold resV
        go_wp2
        go_ret2
        exact ⟨.inr (.inr ⟨x, d, some t, HY.out, rfl, hd6, HF.out, rfl⟩), HB9.out⟩
    · have hlt : d < fr.length := by rw [HN2.out]; omega
      have q1 : ¬ (N2 : Int) ≤ (d : Int) := by omega
      have hds : d < (ofL fr).size := by omega
      have hget : (ofL fr)[d]'hds = fr[d] := rfl
      obtain ⟨fd, hfd⟩ : ∃ fd, fr.take d = fd := ⟨_, rfl⟩
      obtain ⟨q0, hq0⟩ : ∃ q0, wh ++ fd = q0 := ⟨_, rfl⟩
      have hex : (ofL fr).extract 0 d = ofL fd := by rw [ext_ofL, ← hfd]; simp
      have hfdl : fd.length = d := by rw [← hfd, List.length_take]; omega
      have hq0l : q0.length = N1 + d := by rw [← hq0, List.length_append, hfdl, HN1.out]
      have c1 : ∀ wx, (Op.stringOp .add (ofL wh) (ofL fd)).run Try.prog wx = .ok (.string (ofL q0)) wx := fun wx => str_add (by rw [hfdl]; have := HN1.out; omega) hq0 wx
      have HQD : Hid (allD q0) := Lib.hid (by rw [← hq0, ← hfd]; exact allD_app.2 ⟨HDW.out, allD_take HDF.out _⟩)
      have HQL := Lib.hid hq0l
      have HLG : Hid (∀ (q : Str) (p : Nat), val q = val q0 + (if 53 ≤ (fr[d]).toNat then 1 else 0) → allD q → q.length = p + d → 1 ≤ p → Ro x d (fin nx (q.take p) (q.drop p))) := Lib.hid (fun q p h1 h2 h3 h4 => by
        have hd2 : d < x.fr.length := by rw [HFR.out]; exact hlt
        have e : val q = val (x.wh ++ x.fr.take d) + (if 53 ≤ (x.fr[d]'hd2).toNat then 1 else 0) := by
          rw [h1, ← hq0, ← hfd]
          obtain rfl := HWH.out
          obtain rfl := HFR.out
          rfl
        have h := ro_large HG.out hd2 (q := q) (p := p) e h2 h3 h4
        rw [HNX.out] at h
        exact h)
      obtain ⟨y, hy⟩ : ∃ y : Nat, (fr[d]).toNat = y := ⟨_, rfl⟩
      rw [hy] at HLG
      have HYX : Hid (((ofL fr)[d]'hds).toNat = y) := Lib.hid (by rw [hget, hy])
      have g1 : (0 : Int) ≤ (d : Int) := by omega
      have g2 : (d : Int) ≤ (N2 : Int) := by omega
      have g3 : (d : Int) < (N2 : Int) := by omega
      clear hlt hget hfd hq0 hfdl hq0l hy
      have KD : Hid (Blk C6 45 #[.bool nx, .string (ofL wh), .string (ofL fr)] W1.drew) := Lib.hid KX.out.drew
      have n1 : W1.drew.cell? ⟨C6, 1, none⟩ = some (.string (ofL wh)) := KX.out.cell 1
      have n2 : W1.drew.cell? ⟨C6, 2, none⟩ = some (.string (ofL fr)) := KX.out.cell 2
      have HB2 := Lib.hid HB.out.drew
      go_upto_region 9 with fail
      go_region
      obtain ⟨W2, hW2⟩ : ∃ W2, W1.drew = W2 := ⟨_, rfl⟩
      rw [hW2] at KD HB2 ⊢
      clear hW2 n1 n2 m0 m1 m2 c1 hex KX HB
      have m2 : W2.cell? ⟨C6, 2, none⟩ = some (.string (ofL fr)) := KD.out.cell 2
      have zw := HB2.out.size
      go_upto_if 52 with fail
      go_cut [8, 52] from 53 to 54 (fun v8 v52 wx => ∃ q : Str, v8 = .string (ofL q) ∧ val q = val q0 + (if 53 ≤ y then 1 else 0) ∧ allD q ∧ N1 + d ≤ q.length ∧ q.length ≤ N1 + d + 1 ∧ Blk C6 45 #[.bool nx, .string (ofL wh), .string (ofL fr)] wx ∧ Below w.heap.size w wx)
      case first =>
        by_cases h5 : 53 ≤ y
        · have t1 : (53 : Int) ≤ (((ofL fr)[d]'hds).toNat : Int) := by rw [HYX.out]; omega
          have hI := refIncreased_any (N1 + d) q0 W2 HQL.out (by omega) HQD.out
          have HI := Lib.hid hI
          have HIF : Hid ((if 53 ≤ y then 1 else 0 : Nat) = 1) := Lib.hid (if_pos h5)
          clear hI h5
          go_wp2_with fail
          refine HI.out.mono ?_
          rintro e w6 ⟨m, rfl, dm, vm, h1, h2, h3, bm⟩
          have Q := Lib.hid (And.intro dm (And.intro vm (And.intro h1 (And.intro h3 bm))))
          clear dm vm h1 h2 h3 bm HI
          go_wp2_with fail
          go_meet
          exact ⟨m, rfl, by rw [HIF.out]; exact Q.out.2.1, Q.out.1, by rw [← HQL.out]; exact Q.out.2.2.1, by rw [← HQL.out]; exact Q.out.2.2.2.1, KD.out.below Q.out.2.2.2.2, st HB2.out Q.out.2.2.2.2 HB2.out.size⟩
        · have t1 : ¬ (53 : Int) ≤ (((ofL fr)[d]'hds).toNat : Int) := by rw [HYX.out]; omega
          have HIF : Hid ((if 53 ≤ y then 1 else 0 : Nat) = 0) := Lib.hid (if_neg h5)
          clear h5
          go_wp2_with fail
          go_meet
          exact ⟨q0, rfl, by rw [HIF.out]; rfl, HQD.out, by rw [HQL.out]; exact Nat.le_refl _, by rw [HQL.out]; omega, KD.out, HB2.out⟩
      case rest =>
        obtain ⟨q, rfl, hqv, hqd, hq1, hq2, kq, hbq⟩ := hcut
        obtain ⟨p, hp⟩ : ∃ p, q.length - d = p := ⟨_, rfl⟩
        have hqp : q.length = p + d := by omega
        have HF := Lib.hid (HLG.out q p hqv hqd hqp (by omega))
        obtain ⟨L, hL⟩ : ∃ L, (ofL q).size = L := ⟨_, rfl⟩
        have hL2 : L = p + d := by rw [← hL, ofL_size, hqp]
        obtain ⟨wq, hwq⟩ : ∃ wq, q.take p = wq := ⟨_, rfl⟩
        obtain ⟨fq, hfq⟩ : ∃ fq, q.drop p = fq := ⟨_, rfl⟩
        have x1 : (ofL q).extract 0 p = ofL wq := by rw [ext_ofL, ← hwq]; simp
        have x2 : (ofL q).extract p L = ofL fq := by rw [ext_ofL, ← hfq, List.take_of_length_le (by rw [List.length_drop]; omega)]
        rw [hwq, hfq] at HF
        have HLW : Hid (wq.length ≤ 1000) := Lib.hid (by rw [← hwq, List.length_take]; omega)
        have HFL : Hid (fq.length ≤ 1000) := Lib.hid (by rw [← hfq, List.length_drop]; omega)
        have cP : (L : Int) - (d : Int) = (p : Int) := by omega
        have wP : IntKind.i64.wrap (p : Int) = (p : Int) := wrap_fit (by omega) (by omega)
        have f1 : (0 : Int) ≤ (p : Int) := by omega
        have f2 : (p : Int) ≤ (L : Int) := by omega
        have KQ := Lib.hid kq
        have HBQ := Lib.hid hbq
        clear hwq hfq hL2 hqp hp hqv hqd hq1 hq2 kq hbq KD HB2 m2 zw HLG HQD
        rename World => wd
        have xc0 : wd.cell? ⟨C6, 0, none⟩ = some (.bool nx) := KQ.out.cell 0
        have xc1 : wd.cell? ⟨C6, 1, none⟩ = some (.string (ofL wh)) := KQ.out.cell 1
        have xc2 : wd.cell? ⟨C6, 2, none⟩ = some (.string (ofL fr)) := KQ.out.cell 2
        have xd1 : wd.drew.cell? ⟨C6, 1, none⟩ = some (.string (ofL wh)) := KQ.out.cell 1
        have xd2 : wd.drew.cell? ⟨C6, 2, none⟩ = some (.string (ofL fr)) := KQ.out.cell 2
        have xf := KQ.out.frozen
        have xg : ∀ i, wd.drew.frozen? ⟨C6, i, none⟩ = false := KQ.out.frozen
        go_upto_region 12 with fail
        go_region
        go_wp2_with fail
        have HB3 := Lib.hid (((HBQ.out.setCell (p := ⟨C6, 1, none⟩) HZ1.out (.string (ofL wq))).setCell (p := ⟨C6, 2, none⟩) HZ1.out (.string (ofL fq))).drew)
        refine (checked_any nx wq fq HLW.out HFL.out _).mono ?_
        rintro e w9 ⟨rfl, b9⟩
        have HB9 := Lib.hid (st HB3.out b9 HB3.out.size)
        obtain ⟨o, ho⟩ : ∃ o, fin nx wq fq = o := ⟨_, rfl⟩
        rw [ho] at HF ⊢
        clear b9 ho
        cases o with
        | none =>
          unfold resV
          go_wp2
          go_ret2
          exact ⟨.inr (.inr ⟨x, d, none, HY.out, rfl, hd6, HF.out, rfl⟩), HB9.out⟩
        | some t =>
          unfold resV
          go_wp2
          go_ret2
          exact ⟨.inr (.inr ⟨x, d, some t, HY.out, rfl, hd6, HF.out, rfl⟩), HB9.out⟩
end Go.Proofs.Yteofkofgdhmpjaa
