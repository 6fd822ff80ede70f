/- Of the reference: Shift. -/
import Derived.Test.YteofkofgdhmpjaaKu
namespace Go.Proofs.Yteofkofgdhmpjaa
open Go.RowKit
set_option linter.unusedVariables false

theorem rsh_digits {x : Num} (g : Good x) {n m : Int} (hm : m = min n 30) (hn : -6 ≤ n) (hb : ¬ (21 < n ∧ W x ≠ 0)) {a b : Nat} (ha : (x.fr.length - m : Int).toNat = a) (hbb : (m - x.fr.length : Int).toNat = b) {all : Str} (hall : zs a ++ (x.wh ++ (x.fr ++ zs b)) = all) {p : Nat} (hp : p = x.wh.length + x.fr.length + b) :
    Sh x n (fin x.neg (all.take p) (all.drop p)) ∧ all.length = p + a ∧ 1 ≤ p := by
  have h1 := g.low
  have hlen : all.length = p + a := by rw [← hall, hp]; simp [zs_len]; omega
  have hd : allD all := by rw [← hall]; exact allD_app.2 ⟨allD_zs _, allD_app.2 ⟨g.dw, allD_app.2 ⟨g.df, allD_zs _⟩⟩⟩
  refine ⟨sh_ref g ?_, hlen, by omega⟩
  rw [if_neg (fun h => h.elim (by omega) hb)]
  rw [← hm]
  refine ⟨_, _, rfl, allD_take hd _, allD_drop hd _, ?_, ?_, ?_⟩
  · apply List.ne_nil_of_length_pos
    rw [List.length_take]
    omega
  · rw [List.length_drop]
    unfold shF
    omega
  · rw [List.take_append_drop, ← hall, val_app, val_zs, Nat.zero_mul, Nat.zero_add, ← List.append_assoc, val_app, val_zs, zs_len]
    unfold shD
    rw [hbb]
    rfl
theorem str_add {P : Program} {x y z : Str} (h : x.length + y.length ≤ 9223372036854775807) (hz : x ++ y = z) (wx : World) : (Op.stringOp .add (ofL x) (ofL y)).run P wx = .ok (.string (ofL z)) wx := by
  have h2 := run_string_add_sum (P := P) (w := wx) (ofL x) (ofL y) (by rw [ofL_size, ofL_size]; exact h)
  rw [add_two, hz] at h2
  exact h2
theorem ext_ofL (l : Str) (a b : Nat) : (ofL l).extract a b = ofL ((l.drop a).take (b - a)) := ext_of _ _ _
set_option maxRecDepth 1000000 in
set_option maxHeartbeats 8000000 in
theorem refShift_any (s : ByteArray) (n : Int) (hs : s.size ≤ 9223372036854775807) (hn1 : -9223372036854775808 ≤ n) (hn2 : n ≤ 9223372036854775807) (w : World) : Calls Try.prog 14 #[.string s, .int .i64 n] w (ShPost s.data.toList n w) := by
  go_enter Try.func14, Try.ntmps14
  go_wp2_with fail
  refine (refSplit_any s hs _).mono ?_
  rintro e w1 ⟨ok, x, rfl, hy, hn, b1⟩
  unfold refN
  have HXY := Lib.hid hy
  have HXN := Lib.hid hn
  have HB := Lib.hid (b1.alloc b1.size (.cells #[.bool x.neg, .string (ofL x.wh), .string (ofL x.fr)] 45))
  have KX := Lib.hid (Blk.new w1 45 #[.bool x.neg, .string (ofL x.wh), .string (ofL x.fr)])
  have HZ1 := Lib.hid b1.size
  clear hy hn b1
  cases ok with
  | false =>
    have HV := Lib.hid (HXN.out rfl)
    go_wp2
    go_ret2
    exact ⟨.inl ⟨HV.out, rfl⟩, HB.out⟩
  | true =>
    have HY := Lib.hid (HXY.out rfl)
    have HG := Lib.hid (spl_some HY.out).1
    clear HXY HXN
    go_upto_region 4 with fail
    obtain ⟨W1, hW1⟩ : ∃ W1, w1.alloc (.cells #[.bool x.neg, .string (ofL x.wh), .string (ofL x.fr)] 45) = W1 := ⟨_, rfl⟩
    obtain ⟨C6, hC6⟩ : ∃ C6, w1.heap.size = C6 := ⟨_, rfl⟩
    rw [hW1] at HB KX ⊢
    rw [hC6] at KX HZ1 ⊢
    clear hW1 hC6
    obtain ⟨wh, hwh⟩ : ∃ wh, x.wh = wh := ⟨_, rfl⟩
    obtain ⟨fr, hfr⟩ : ∃ fr, x.fr = fr := ⟨_, rfl⟩
    obtain ⟨nx, hnx⟩ : ∃ nx, x.neg = nx := ⟨_, rfl⟩
    have HWH := Lib.hid hwh
    have HFR := Lib.hid hfr
    have HNX := Lib.hid hnx
    rw [hwh, hfr, hnx] at KX ⊢
    clear hwh hfr hnx
    have l0 : 1 ≤ wh.length := by rw [← HWH.out]; exact HG.out.low
    have l1 : wh.length ≤ 15 := by rw [← HWH.out]; exact HG.out.high
    have l2 : fr.length ≤ 6 := by rw [← HFR.out]; exact HG.out.few
    obtain ⟨N1, hN1⟩ : ∃ N, (ofL wh).size = N := ⟨_, rfl⟩
    obtain ⟨N2, hN2⟩ : ∃ N, (ofL fr).size = N := ⟨_, rfl⟩
    have HN1 : Hid (wh.length = N1) := Lib.hid (by rw [← hN1, ofL_size])
    have HN2 : Hid (fr.length = N2) := Lib.hid (by rw [← hN2, ofL_size])
    rw [HN1.out] at l0 l1
    rw [HN2.out] at l2
    have m0 : W1.cell? ⟨C6, 0, none⟩ = some (.bool nx) := KX.out.cell 0
    have m1 : W1.cell? ⟨C6, 1, none⟩ = some (.string (ofL wh)) := KX.out.cell 1
    have m2 : W1.cell? ⟨C6, 2, none⟩ = some (.string (ofL fr)) := KX.out.cell 2
    have hcat : ofL wh ++ ofL fr = ofL (wh ++ fr) := add_two wh fr
    have hZ := zero_any (ofL (wh ++ fr)) (by rw [ofL_size, List.length_append]; have := HN1.out; have := HN2.out; omega)
    rw [ofL_list] at hZ
    have HZ := Lib.hid hZ
    have HW0 : Hid (zero (wh ++ fr) = true ↔ W x = 0) := Lib.hid (by rw [← HWH.out, ← HFR.out]; exact W_zero HG.out)
    clear hZ
    obtain ⟨bad, hbad⟩ : ∃ bad, decide (n < -6 ∨ (21 < n ∧ W x ≠ 0)) = bad := ⟨_, rfl⟩
    have HBAD := Lib.hid hbad
    clear hbad
    go_cut [31] from 17 to 31 (fun v31 wx => v31 = .bool bad ∧ wx = W1)
    case first =>
      by_cases h6 : n < -6
      · have q1 : decide (n < -6) = true := decide_eq_true h6
        have HV : Hid (true = bad) := Lib.hid (by rw [← HBAD.out]; exact (decide_eq_true (.inl h6)).symm)
        clear h6
        go_wp2_with fail
        go_meet
        exact ⟨by rw [HV.out], rfl⟩
      · have q1 : decide (n < -6) = false := decide_eq_false h6
        by_cases h7 : 21 < n
        · have q2 : decide (21 < n) = true := decide_eq_true h7
          go_wp2_with fail
          refine (HZ.out _).mono ?_
          rintro e w6 ⟨rfl, hw6⟩
          obtain rfl := hw6.symm
          have HV : Hid ((!zero (wh ++ fr)) = bad) := Lib.hid (by
            rw [← HBAD.out, Bool.eq_iff_iff, decide_eq_true_eq, Bool.not_eq_true']
            constructor
            · intro h
              exact .inr ⟨h7, fun e => by rw [HW0.out.2 e] at h; cases h⟩
            · rintro (h | ⟨_, h⟩)
              · omega
              · cases hz : zero (wh ++ fr) with
                | false => rfl
                | true => exact absurd (HW0.out.1 hz) h)
          clear h6 h7
          go_wp2_with fail
          go_meet
          exact ⟨by rw [HV.out], rfl⟩
        · have q2 : decide (21 < n) = false := decide_eq_false h7
          have HV : Hid (false = bad) := Lib.hid (by rw [← HBAD.out]; exact (decide_eq_false (by omega)).symm)
          clear h6 h7
          go_wp2_with fail
          go_meet
          exact ⟨by rw [HV.out], rfl⟩
    case rest =>
      obtain ⟨rfl, hwc⟩ := hcut
      obtain rfl := hwc.symm
      cases bad with
      | true =>
        have HV : Hid (Sh x n none) := Lib.hid (sh_ref HG.out (by rw [if_pos (of_decide_eq_true HBAD.out)]))
        go_wp2
        go_ret2
        exact ⟨.inr ⟨x, none, HY.out, HV.out, rfl⟩, HB.out⟩
      | false =>
        have hok := of_decide_eq_false HBAD.out
        obtain ⟨m, hm⟩ : ∃ m, min n 30 = m := ⟨_, rfl⟩
        have mn := mn2 (P := Try.prog) (a := n) (b := 30) (M := m) (by split <;> omega)
        have hm1 : -6 ≤ m := by omega
        have hm2 : m ≤ 30 := by omega
        obtain ⟨a, ha⟩ : ∃ a, ((N2 : Int) - m).toNat = a := ⟨_, rfl⟩
        obtain ⟨b, hb⟩ : ∃ b, (m - (N2 : Int)).toNat = b := ⟨_, rfl⟩
        obtain ⟨all, hall⟩ : ∃ all, zs a ++ (wh ++ (fr ++ zs b)) = all := ⟨_, rfl⟩
        have HD9 : Hid (Sh x n (fin nx (all.take (N1 + N2 + b)) (all.drop (N1 + N2 + b))) ∧ all.length = N1 + N2 + b + a ∧ 1 ≤ N1 + N2 + b) := Lib.hid (by
          have h := rsh_digits HG.out hm.symm (by omega) (fun h => hok (.inr h)) (a := a) (b := b) (all := all) (by rw [HFR.out, HN2.out]; exact ha) (by rw [HFR.out, HN2.out]; exact hb) (by rw [HWH.out, HFR.out]; exact hall) (p := N1 + N2 + b) (by rw [HWH.out, HFR.out, HN1.out, HN2.out])
          rw [HNX.out] at h
          exact h)
        have HA := Lib.hid ha
        have HBB := Lib.hid hb
        have HALL := Lib.hid hall
        have ha2 : a ≤ 12 := by omega
        have hb2 : b ≤ 30 := by omega
        have wr1 : IntKind.i64.wrap (m - (N2 : Int)) = m - (N2 : Int) := wrap_fit (by omega) (by omega)
        have ng : -((N2 : Int) - m) = m - (N2 : Int) := by omega
        clear hm hok ha hb hall
        obtain ⟨A1, hA1⟩ : ∃ A1, zs a ++ wh = A1 := ⟨_, rfl⟩
        obtain ⟨A2, hA2⟩ : ∃ A2, A1 ++ fr = A2 := ⟨_, rfl⟩
        have hA1l : A1.length = a + N1 := by rw [← hA1, List.length_append, zs_len, HN1.out]
        have hA2l : A2.length = a + N1 + N2 := by rw [← hA2, List.length_append, hA1l, HN2.out]
        have c1 : ∀ wx, (Op.stringOp .add (ofL (zs a)) (ofL wh)).run Try.prog wx = .ok (.string (ofL A1)) wx := fun wx => str_add (by rw [zs_len]; have := HN1.out; omega) hA1 wx
        have c2 : ∀ wx, (Op.stringOp .add (ofL A1) (ofL fr)).run Try.prog wx = .ok (.string (ofL A2)) wx := fun wx => str_add (by have := HN2.out; omega) hA2 wx
        have c3 : ∀ wx, (Op.stringOp .add (ofL A2) (ofL (zs b))).run Try.prog wx = .ok (.string (ofL all)) wx := fun wx => str_add (by rw [zs_len]; omega) (by rw [← HALL.out, ← hA2, ← hA1]; simp) wx
        clear hA1 hA2 hA1l hA2l
        go_upto_region 8 with fail
        have hza := refZeros_any ((N2 : Int) - m) (by omega)
        have hzb := refZeros_any (m - (N2 : Int)) (by omega)
        rw [HA.out] at hza
        rw [HBB.out] at hzb
        have HZA := Lib.hid hza
        have HZB := Lib.hid hzb
        clear hza hzb
        go_region_held3 (fun wx => wx.cell? ⟨C6, 1, none⟩ = some (.string (ofL wh)) ∧ wx.cell? ⟨C6, 2, none⟩ = some (.string (ofL fr))) (exact ⟨m1, m2⟩) (first | (go_at_call 23; first | ((with_reducible refine (HZA.out _).mono ?_); rintro e w6 ⟨rfl, hw6⟩; obtain rfl := hw6.symm) | ((with_reducible refine (HZB.out _).mono ?_); rintro e w6 ⟨rfl, hw6⟩; obtain rfl := hw6.symm)))
        have K2 : Hid (Blk C6 45 #[.bool nx, .string (ofL wh), .string (ofL fr)] W1.drew) := Lib.hid KX.out.drew
        have HB2 := Lib.hid HB.out.drew
        obtain ⟨W2, hW2⟩ : ∃ W2, W1.drew = W2 := ⟨_, rfl⟩
        rw [hW2] at K2 HB2 ⊢
        clear hW2 c1 c2 c3 m0 m1 m2 hcat wr1 ng HZA HZB HZ KX HB
        obtain ⟨HSH, hlen, hp1⟩ := HD9.out
        obtain ⟨p, hp⟩ : ∃ p, N1 + N2 + b = p := ⟨_, rfl⟩
        rw [hp] at HSH hlen hp1
        obtain ⟨L, hL⟩ : ∃ L, (ofL all).size = L := ⟨_, rfl⟩
        have hL2 : L = p + a := by rw [← hL, ofL_size, hlen]
        obtain ⟨wq, hwq⟩ : ∃ wq, all.take p = wq := ⟨_, rfl⟩
        obtain ⟨fq, hfq⟩ : ∃ fq, all.drop p = fq := ⟨_, rfl⟩
        have x1 : (ofL all).extract 0 p = ofL wq := by rw [ext_ofL, ← hwq]; simp
        have x2 : (ofL all).extract p L = ofL fq := by rw [ext_ofL, ← hfq, List.take_of_length_le (by rw [List.length_drop]; omega)]
        rw [hwq, hfq] at HSH
        have HF := Lib.hid HSH
        have mx := mx2 (P := Try.prog) (a := 0) (b := (N2 : Int) - m) (M := (a : Int)) (by have := HA.out; split <;> omega)
        have cP : (L : Int) - (a : Int) = (p : Int) := by omega
        have wP : IntKind.i64.wrap (p : Int) = (p : Int) := wrap_fit (by omega) (by omega)
        have g1 : (0 : Int) ≤ (p : Int) := by omega
        have g2 : (p : Int) ≤ (L : Int) := by omega
        have hwl : wq.length ≤ 1000 := by rw [← hwq, List.length_take]; omega
        have hfl : fq.length ≤ 1000 := by rw [← hfq, List.length_drop]; omega
        have HWL := Lib.hid (And.intro hwl hfl)
        clear hwq hfq HSH hL2 hlen hp hwl hfl hp1 HD9
        have xc0 : W2.cell? ⟨C6, 0, none⟩ = some (.bool nx) := K2.out.cell 0
        have xc1 : W2.cell? ⟨C6, 1, none⟩ = some (.string (ofL wh)) := K2.out.cell 1
        have xc2 : W2.cell? ⟨C6, 2, none⟩ = some (.string (ofL fr)) := K2.out.cell 2
        have xd1 : W2.drew.cell? ⟨C6, 1, none⟩ = some (.string (ofL wh)) := K2.out.cell 1
        have xd2 : W2.drew.cell? ⟨C6, 2, none⟩ = some (.string (ofL fr)) := K2.out.cell 2
        have xf := K2.out.frozen
        have xg : ∀ i, W2.drew.frozen? ⟨C6, i, none⟩ = false := K2.out.frozen
        go_upto_region 10 with fail
        go_region
        go_wp2_with fail
        have HB3 := Lib.hid (((HB2.out.setCell (p := ⟨C6, 1, none⟩) HZ1.out (.string (ofL wq))).setCell (p := ⟨C6, 2, none⟩) HZ1.out (.string (ofL fq))).drew)
        refine (checked_any nx wq fq HWL.out.1 HWL.out.2 _).mono ?_
        rintro e w9 ⟨rfl, b9⟩
        have HB9 := Lib.hid (st HB3.out b9 HB3.out.size)
        obtain ⟨o, ho⟩ : ∃ o, fin nx wq fq = o := ⟨_, rfl⟩
        rw [ho] at HF ⊢
        clear b9 ho
        cases o with
        | none =>
          unfold resV
          go_wp2
          go_ret2
          exact ⟨.inr ⟨x, none, HY.out, HF.out, rfl⟩, HB9.out⟩
        | some t =>
          unfold resV
          go_wp2
          go_ret2
          exact ⟨.inr ⟨x, some t, HY.out, HF.out, rfl⟩, HB9.out⟩
end Go.Proofs.Yteofkofgdhmpjaa
