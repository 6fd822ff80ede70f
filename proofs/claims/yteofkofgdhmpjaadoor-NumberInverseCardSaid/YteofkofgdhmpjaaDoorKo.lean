/- Of the program: Round. -/
import Derived.Test.YteofkofgdhmpjaaDoorKn
namespace Go.Proofs.YteofkofgdhmpjaaDoor
open Go.RowKit
set_option linter.unusedVariables false

theorem rdv3 (w : World) (v1 v2 v3 : Value) : Rd 1 encV (w.alloc (.cells #[v1, v2, v3] 52)) (.slice (some ⟨w.heap.size, 0, none⟩) 3 3) [v1, v2, v3] := by
  have k := Blk.new w 52 #[v1, v2, v3]
  refine ⟨⟨_, 3, rfl, Nat.le_refl _, by omega, fun _ => ⟨w.heap.size, 0, rfl, k.lt, fun i u hi j v hv => ?_⟩⟩, fun n c hc => by cases hc⟩
  have hj : j = 0 := by have := (List.getElem?_eq_some_iff.1 hv).1; simp [encV] at this; exact this
  subst hj
  simp [encV] at hv
  subst hv
  rw [k.cell]
  have hi3 := (List.getElem?_eq_some_iff.1 hi).1
  simp at hi3
  obtain rfl | rfl | rfl : i = 0 ∨ i = 1 ∨ i = 2 := by omega
  all_goals (simp at hi; subst hi; rfl)
theorem rdl3 {w : World} {v1 v2 v3 : Value} {l1 l2 l3 : Str} (h1 : RdB w v1 l1) (h2 : RdB w v2 l2) (h3 : RdB w v3 l3) : RdL w [v1, v2, v3] [l1, l2, l3] := by
  refine ⟨rfl, fun i v l hv hl => ?_⟩
  have hi3 := (List.getElem?_eq_some_iff.1 hv).1
  simp at hi3
  obtain rfl | rfl | rfl : i = 0 ∨ i = 1 ∨ i = 2 := by omega
  all_goals (simp at hv hl; subst hv hl; assumption)
def upB (rest : Str) : Bool := match rest with
  | [] => false
  | c :: _ => decide (53 ≤ c.toNat)
theorem ro_kept {x : Num} (g : Good x) {d k : Nat} (hd : d ≤ 6) (hk : ((d : Int) - x.fr.length).toNat = k) {all : Str} (ha : x.wh ++ (x.fr ++ zs k) = all) :
    val (all.take (x.wh.length + d)) + (if upB (all.drop (x.wh.length + d)) = true then 1 else 0) = roD x d ∧ x.wh.length + d ≤ all.length ∧ all.length ≤ 100 ∧ allD all := by
  have h1 := g.low
  have h2 := g.high
  have h3 := g.few
  have hlen : all.length = x.wh.length + (x.fr.length + k) := by rw [← ha]; simp [zs_len]
  refine ⟨?_, by omega, by omega, by rw [← ha]; exact allD_app.2 ⟨g.dw, allD_app.2 ⟨g.df, allD_zs _⟩⟩⟩
  unfold roD
  by_cases hle : x.fr.length ≤ d
  · rw [if_pos hle]
    have e1 : all.drop (x.wh.length + d) = [] := List.drop_eq_nil_of_le (by omega)
    have e2 : all.take (x.wh.length + d) = all := List.take_of_length_le (by omega)
    rw [e1, e2, ← ha, ← List.append_assoc, val_app, val_zs, zs_len, show d - x.fr.length = k by omega]
    rfl
  · rw [if_neg hle]
    have hk0 : k = 0 := by omega
    subst hk0
    rw [zs_zero, List.append_nil] at ha
    have e1 : all.take (x.wh.length + d) = x.wh ++ x.fr.take d := by rw [← ha, List.take_length_add_append]
    have e2 : all.drop (x.wh.length + d) = x.fr.drop d := by rw [← ha, List.drop_length_add_append]
    rw [e1, e2, List.drop_eq_getElem_cons (show d < x.fr.length by omega), getD_get (show d < x.fr.length by omega)]
    simp only [upB, decide_eq_true_eq]
theorem ro_of {x : Num} {d p : Nat} {q : Str} (hp : 1 ≤ p) (hq : q.length = p + d) (hv : val q = roD x d) (hd : allD q) : Ro x d (fin x.neg (q.take p) (q.drop p)) := by
  refine ⟨_, _, rfl, allD_take hd _, allD_drop hd _, ?_, ?_, ?_⟩
  · apply List.ne_nil_of_length_pos
    rw [List.length_take]
    omega
  · rw [List.length_drop]; omega
  · rw [List.take_append_drop, hv]
def RoPost (s : Str) (n : Int) (w : World) (e : Ending) (w' : World) : Prop := ((spl s = none ∧ e = .returned errArg) ∨ (∃ x, spl s = some x ∧ (n < 0 ∨ 6 < n) ∧ e = .returned (resV none)) ∨ ∃ x d o, spl s = some x ∧ n = (d : Nat) ∧ d ≤ 6 ∧ Ro x d o ∧ e = .returned (resV o)) ∧ Below w.heap.size w w'
set_option maxRecDepth 1000000 in
set_option maxHeartbeats 8000000 in
theorem round_any (s : ByteArray) (n : Int) (hs : s.size ≤ 1000) (w : World) : Calls Tryd.prog 32 #[.string s, .int .i64 n] w (RoPost s.data.toList n w) := by
  obtain ⟨iB, hiB, hzB, hkB, hbB⟩ := info_parts Tryd.infoB
  go_enter Tryd.func32, Tryd.ntmps32
  go_wp2_with fail
  refine (split_any s hs _).mono ?_
  rintro e w1 ⟨u, ok, x, rfl, ⟨a1, c1, a2, c2, rfl, ra, rf⟩, hy, hn, b1⟩
  have HXY := Lib.hid hy
  have HXN := Lib.hid hn
  have RA := Lib.hid (ra.alloc (.cells #[.bool x.neg, .slice a1 x.wh.length c1, .slice a2 x.fr.length c2] 54))
  have RF := Lib.hid (rf.alloc (.cells #[.bool x.neg, .slice a1 x.wh.length c1, .slice a2 x.fr.length c2] 54))
  have HB := Lib.hid (b1.alloc b1.size (.cells #[.bool x.neg, .slice a1 x.wh.length c1, .slice a2 x.fr.length c2] 54))
  have KX := Lib.hid (Blk.new w1 54 #[.bool x.neg, .slice a1 x.wh.length c1, .slice a2 x.fr.length c2])
  clear ra rf hy hn b1
  cases ok with
  | false =>
    have HV := Lib.hid (HXN.out rfl)
    go_wp2
    go_ret2
    exact ⟨.inl ⟨HV.out, rfl⟩, HB.out⟩
  | true =>
    have HY := Lib.hid (HXY.out rfl)
    have HG := Lib.hid (spl_some HY.out).1
    clear HXY HXN
    by_cases h0 : n < 0
    · go_wp2
      go_ret2
      exact ⟨.inr (.inl ⟨x, HY.out, .inl h0, rfl⟩), HB.out⟩
    by_cases h6 : 6 < n
    · go_wp2
      go_ret2
      exact ⟨.inr (.inl ⟨x, HY.out, .inr h6, rfl⟩), HB.out⟩
    obtain ⟨d, rfl⟩ : ∃ d : Nat, n = d := ⟨n.toNat, by omega⟩
    have hd6 : d ≤ 6 := by omega
    have hd7 : ¬ (d : Int) < 0 := by omega
    have hd8 : ¬ (6 : Int) < (d : Int) := by omega
    clear h0 h6
    obtain ⟨N1, hN1⟩ : ∃ N, x.wh.length = N := ⟨_, rfl⟩
    obtain ⟨N2, hN2⟩ : ∃ N, x.fr.length = N := ⟨_, rfl⟩
    have HN1 := Lib.hid hN1
    have HN2 := Lib.hid hN2
    have l0 : 1 ≤ N1 := by have := HG.out.low; omega
    have l1 : N1 ≤ 15 := by have := HG.out.high; omega
    have l2 : N2 ≤ 6 := by have := HG.out.few; omega
    rw [hN1, hN2] at RA RF HB KX ⊢
    clear hN1 hN2
    obtain ⟨nx, hnx⟩ : ∃ nx, x.neg = nx := ⟨_, rfl⟩
    have HNX := Lib.hid hnx
    rw [hnx] at RA RF HB KX ⊢
    clear hnx
    go_upto_region 7 with fail
    obtain ⟨W1, hW1⟩ : ∃ W1, w1.alloc (.cells #[.bool nx, .slice a1 N1 c1, .slice a2 N2 c2] 54) = W1 := ⟨_, rfl⟩
    obtain ⟨C6, hC6⟩ : ∃ C6, w1.heap.size = C6 := ⟨_, rfl⟩
    rw [hW1] at RA RF HB KX ⊢
    rw [hC6] at KX ⊢
    clear hW1 hC6
    obtain ⟨k, hk⟩ : ∃ k, ((d : Int) - (N2 : Int)).toNat = k := ⟨_, rfl⟩
    obtain ⟨all, hall⟩ : ∃ all, x.wh ++ (x.fr ++ zs k) = all := ⟨_, rfl⟩
    have HK := Lib.hid hk
    have HALL := Lib.hid hall
    have hkl : k ≤ 6 := by omega
    clear hk hall
    have wr2 : IntKind.i64.wrap ((d : Int) - (N2 : Int)) = (d : Int) - (N2 : Int) := wrap_fit (by omega) (by omega)
    have HKX : Hid (∀ wx, Below W1.heap.size W1 wx → wx.cell? ⟨C6, 1, none⟩ = some (.slice a1 N1 c1) ∧ wx.cell? ⟨C6, 2, none⟩ = some (.slice a2 N2 c2)) := Lib.hid (fun wx hb => ⟨(KX.out.below hb).cell 1, (KX.out.below hb).cell 2⟩)
    have Z0 : Below W1.heap.size W1 W1.drew := (Below.refl _ W1).drew
    have HRK : Hid (val (all.take (N1 + d)) + (if upB (all.drop (N1 + d)) = true then 1 else 0) = roD x d ∧ N1 + d ≤ all.length ∧ all.length ≤ 100 ∧ allD all) := Lib.hid (by
      have h := ro_kept HG.out hd6 (by rw [HN2.out]; exact HK.out) HALL.out
      rw [HN1.out] at h
      exact h)
    go_cut [9] from 28 to 39 (fun v9 wx => RdB wx v9 all ∧ Below W1.heap.size W1 wx)
    case first =>
      go_region_held3 (fun wx => wx.cell? ⟨C6, 1, none⟩ = some (.slice a1 N1 c1) ∧ wx.cell? ⟨C6, 2, none⟩ = some (.slice a2 N2 c2)) (first | exact HKX.out _ Z3 | exact HKX.out _ (Z2.alloc Z2.size _) | exact HKX.out _ Z2 | exact HKX.out _ (Below.refl _ _).drew) (first
        | (go_at_call 46; refine (zeros_at ((d : Int) - (N2 : Int)) k HK.out (by omega) (by omega) _).mono ?_; rintro e w6 ⟨a6, c6, rfl, r6, b6⟩; have Z2 : Below W1.heap.size W1 w6 := (Below.refl _ W1).drew.trans b6)
        | (go_at_call 45; refine (concat_any _ [.slice a1 N1 c1, .slice a2 N2 c2, .slice a6 k c6] [x.wh, x.fr, zs k] _ (rdv3 w6 _ _ _) (rdl3 ((RA.out.below Z2).alloc _) ((RF.out.below Z2).alloc _) (r6.alloc _)) (by have := HN1.out; have := HN2.out; simp [zs_len]; omega) (by simp)).mono ?_; rintro e w7 ⟨v7, rfl, o7, b7⟩; have Z3 : Below W1.heap.size W1 w7 := st (Z2.alloc Z2.size (.cells #[.slice a1 N1 c1, .slice a2 N2 c2, .slice a6 k c6] 52)) b7 (Z2.alloc Z2.size _).size))
      go_wp2_with fail
      go_meet
      refine ⟨?_, Z3⟩
      have e9 : [x.wh, x.fr, zs k].flatten = all := by rw [← HALL.out]; simp
      rw [e9] at o7
      exact o7.rd encB_len
    case rest =>
      obtain ⟨r9, hb9⟩ := hcut
      rename World => wc
      obtain ⟨hval, p2, p3, p4⟩ := HRK.out
      obtain ⟨a9, c9, rfl, q1, q2⟩ := r9.slice
      have R9 := Lib.hid r9
      have HB9 := Lib.hid hb9
      have KC := Lib.hid (KX.out.below hb9)
      have HBC := Lib.hid (HB.out.trans (hb9.mono HB.out.size))
      have HVAL := Lib.hid hval
      have HP4 := Lib.hid p4
      clear r9 hb9 wr2 Z0 HKX HRK HB9 hval p4
      obtain ⟨Lx, hLx⟩ : ∃ L, all.length = L := ⟨_, rfl⟩
      have HLX := Lib.hid hLx
      rw [hLx] at R9 p2 p3 q1 ⊢
      clear hLx
      obtain ⟨P, hP⟩ : ∃ P, N1 + d = P := ⟨_, rfl⟩
      have HP := Lib.hid hP
      rw [hP] at HVAL p2
      have RK := Lib.hid (R9.out.take P (by rw [HLX.out]; exact p2))
      obtain ⟨a10, c10, r10, _, m3, m4⟩ := R9.out.tail_ Tryd.underlying52 hiB hkB P (by rw [HLX.out]; exact p2)
      rw [HLX.out] at r10 m3 m4
      have RR := Lib.hid r10
      have cP : (N1 : Int) + (d : Int) = (P : Int) := by omega
      have cP2 : (P : Int) ≤ (c9 : Int) := by omega
      have cP3 : (P : Int) ≤ (Lx : Int) := by omega
      have wP : IntKind.i64.wrap (P : Int) = (P : Int) := wrap_fit (by omega) (by omega)
      clear r10 hP
      go_upto_region 8 with fail
      go_region
      have HBD := Lib.hid (HBC.out.drew)
      have KD : Hid (Blk C6 54 #[.bool nx, .slice a1 N1 c1, .slice a2 N2 c2] wc.drew) := Lib.hid KC.out.drew
      have RK2 : Hid (RdB wc.drew (.slice a9 P c9) (all.take P)) := Lib.hid (RK.out.below (Below.refl _ _).drew)
      have RR2 : Hid (RdB wc.drew (.slice a10 (Lx - P) c10) (all.drop P)) := Lib.hid (RR.out.below (Below.refl _ _).drew)
      obtain ⟨W3, hW3⟩ : ∃ W3, wc.drew = W3 := ⟨_, rfl⟩
      rw [hW3] at HBD KD RK2 RR2 ⊢
      clear hW3 KC HBC R9 RK RR m3 m4 cP2 cP3 wP
      obtain ⟨up, hup⟩ : ∃ up, upB (all.drop P) = up := ⟨_, rfl⟩
      have HUP := Lib.hid hup
      rw [hup] at HVAL
      clear hup
      obtain ⟨R, hR⟩ : ∃ R, Lx - P = R := ⟨_, rfl⟩
      have HRL : Hid ((all.drop P).length = R) := Lib.hid (by rw [List.length_drop, HLX.out, hR])
      rw [hR] at RR2 ⊢
      clear hR
      go_upto_region 9 with fail
      go_cut [58] from 50 to 58 (fun v58 wx => v58 = .bool up ∧ wx = W3)
      case first =>
        by_cases h0 : 0 < R
        · obtain ⟨bb, off, rfl, hx⟩ := RR2.out.byte 0 (by rw [HRL.out]; exact h0)
          rw [Nat.add_zero] at hx
          have hc : all.drop P = (all.drop P)[0]'(by rw [HRL.out]; exact h0) :: (all.drop P).drop 1 := by
            have h9 := List.drop_eq_getElem_cons (l := all.drop P) (i := 0) (by rw [HRL.out]; exact h0)
            rw [List.drop_zero] at h9
            exact h9
          obtain ⟨y, hy⟩ : ∃ y, (all.drop P)[0]'(by rw [HRL.out]; exact h0) = y := ⟨_, rfl⟩
          rw [hy] at hx hc
          have e1 : Hid (up = decide ((53 : Int) ≤ (y.toNat : Int))) := Lib.hid (by
            rw [← HUP.out, hc]
            unfold upB
            dsimp only
            rw [decide_eq_decide]
            omega)
          obtain ⟨yn, hyn⟩ : ∃ yn : Int, (y.toNat : Int) = yn := ⟨_, rfl⟩
          rw [hyn] at e1 hx
          have q1 : (0 : Int) < (R : Int) := by omega
          clear hc hy hyn h0
          go_wp2_with fail
          go_meet
          exact ⟨by rw [e1.out], rfl⟩
        · have e1 : Hid (up = false) := Lib.hid (by
            rw [← HUP.out, List.eq_nil_of_length_eq_zero (show (all.drop P).length = 0 by rw [HRL.out]; omega)]
            rfl)
          have q1 : ¬ (0 : Int) < (R : Int) := by omega
          clear h0
          go_wp2_with fail
          go_meet
          exact ⟨by rw [e1.out], rfl⟩
      case rest =>
        obtain ⟨rfl, hwc⟩ := hcut
        obtain rfl := hwc.symm
        go_upto_if 58 with fail
        go_cut [8, 10] from 59 to 62 (fun v8 v10 wx => ∃ (pt : Nat) (q : Str), v8 = .int .i64 pt ∧ RdB wx v10 q ∧ 1 ≤ pt ∧ pt ≤ 20 ∧ q.length = pt + d ∧ val q = roD x d ∧ allD q ∧ Blk C6 54 #[.bool nx, .slice a1 N1 c1, .slice a2 N2 c2] wx ∧ Below w.heap.size w wx)
        case first =>
          have hkd : allD (all.take P) := allD_take HP4.out _
          have hkl : (all.take P).length = P := by rw [List.length_take, HLX.out]; omega
          have HKD := Lib.hid hkd
          have HKL := Lib.hid hkl
          clear hkd hkl
          cases up with
          | false =>
            go_wp2_with fail
            go_meet
            exact ⟨N1, all.take P, rfl, RK2.out, l0, by omega, by rw [HKL.out, HP.out], HVAL.out, HKD.out, KD.out, HBD.out⟩
          | true =>
            go_wp2_with fail
            refine (increased_any _ (all.take P) _ RK2.out HKD.out (by rw [HKL.out]; omega)).mono ?_
            rintro e w5 ⟨v5, m5, rfl, r5, d5, hl5, hv5, b5⟩
            have Q := Lib.hid (And.intro r5 (And.intro d5 (And.intro hl5 (And.intro hv5 b5))))
            clear r5 d5 hl5 hv5 b5
            go_wp2_with fail
            go_meet
            exact ⟨N1 + 1, m5, val_int (by omega), Q.out.1, by omega, by omega, by rw [Q.out.2.2.1, HKL.out, ← HP.out]; omega, by rw [Q.out.2.2.2.1]; exact HVAL.out, Q.out.2.1, KD.out.below Q.out.2.2.2.2, st HBD.out Q.out.2.2.2.2 HBD.out.size⟩
        case rest =>
          obtain ⟨pt, q, rfl, rq, hp1, hp2, hql, hqv, hqd, kx, hbx⟩ := hcut
          rename World => wd
          have HSH : Hid (Ro x d (fin nx (q.take pt) (q.drop pt))) := Lib.hid (by rw [← HNX.out]; exact ro_of hp1 hql hqv hqd)
          have RQ := Lib.hid rq
          have KQ := Lib.hid kx
          have HBQ := Lib.hid hbx
          have HQL := Lib.hid hql
          clear rq kx hbx hql hqv hqd HBD KD RK2 RR2
          have m0 : wd.cell? ⟨C6, 0, none⟩ = some (.bool nx) := KQ.out.cell 0
          have m1 : wd.cell? ⟨C6, 1, none⟩ = some (.slice a1 N1 c1) := KQ.out.cell 1
          have m2 : wd.cell? ⟨C6, 2, none⟩ = some (.slice a2 N2 c2) := KQ.out.cell 2
          go_wp2_with fail
          refine (withDigits_any nx a1 N1 c1 a2 N2 c2 _ q pt wd RQ.out (by rw [HQL.out]; omega) hp1 (by rw [HQL.out]; omega)).mono ?_
          rintro e w7 ⟨u7, rfl, hrn, b7⟩
          have HB7 := Lib.hid (st HBQ.out b7 HBQ.out.size)
          obtain ⟨a5, c5, a6, c6, rfl, r5, r6⟩ := hrn
          have L5 : (dgN nx q pt).wh.length ≤ 1000 := by
            have := lead_len (q.take pt)
            rw [List.length_take] at this
            unfold dgN
            dsimp only
            omega
          have L6 : (dgN nx q pt).fr.length ≤ 1000 := by
            have := HQL.out
            unfold dgN
            dsimp only
            rw [List.length_drop]
            omega
          have R5 := Lib.hid r5
          have R6 := Lib.hid r6
          clear b7 r5 r6 m0 m1 m2
          go_wp2_with fail
          refine (text_any _ a5 _ c5 (dgN nx q pt).wh a6 _ c6 (dgN nx q pt).fr _ R5.out R6.out L5 L6).mono ?_
          rintro e w9 ⟨rfl, b9⟩
          have HB9 := Lib.hid (st HB7.out b9 HB7.out.size)
          have HT : Hid (txR ⟨(dgN nx q pt).neg, (dgN nx q pt).wh, (dgN nx q pt).fr⟩ = resV (fin nx (q.take pt) (q.drop pt))) := Lib.hid (txR_dgN nx q pt)
          rw [HT.out]
          obtain ⟨o, ho⟩ : ∃ o, fin nx (q.take pt) (q.drop pt) = o := ⟨_, rfl⟩
          rw [ho] at HSH ⊢
          clear b9 ho L5 L6 HT
          cases o with
          | none =>
            unfold resV
            go_wp2
            go_ret2
            exact ⟨.inr (.inr ⟨x, d, none, HY.out, rfl, hd6, HSH.out, rfl⟩), HB9.out⟩
          | some t =>
            unfold resV
            go_wp2
            go_ret2
            exact ⟨.inr (.inr ⟨x, d, some t, HY.out, rfl, hd6, HSH.out, rfl⟩), HB9.out⟩
end Go.Proofs.YteofkofgdhmpjaaDoor
