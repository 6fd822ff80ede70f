/- Of the program: Shift. -/
import Derived.Test.YteofkofgdhmpjaaDoorKm
namespace Go.Proofs.YteofkofgdhmpjaaDoor
open Go.RowKit
set_option linter.unusedVariables false

def resV : Option Str → Value
  | none => .tuple #[.string (ofL []), .int .i64 2]
  | some t => .tuple #[.string (ofL t), .int .i64 0]
theorem txR_dgN (b : Bool) (l : Str) (p : Nat) : txR (dgN b l p) = resV (fin b (l.take p) (l.drop p)) := by
  unfold txR fin dgN
  dsimp only
  split
  · rfl
  · rfl
def errArg : Value := .tuple #[.string (ofL []), .int .i64 1]
def ShPost (s : Str) (n : Int) (w : World) (e : Ending) (w' : World) : Prop := ((spl s = none ∧ e = .returned errArg) ∨ ∃ x o, spl s = some x ∧ Sh x n o ∧ e = .returned (resV o)) ∧ Below w.heap.size w w'
theorem sh_digits {x : Num} (g : Good x) {n m : Int} (hn : ¬ n < -6) (hm : m = min n 21) {all : Str} {j k : Nat} (hj : (-m).toNat = j) (hk : (m - x.fr.length).toNat = k) (ha : all = zs j ++ (x.wh ++ (x.fr ++ zs k))) {p : Nat} (hp : p = x.wh.length + m.toNat) :
    Sh x n (fin x.neg (all.take p) (all.drop p)) ∧ 1 ≤ p ∧ p ≤ all.length ∧ all.length ≤ 100 ∧ allD all := by
  have h1 := g.low
  have h2 := g.high
  have h3 := g.few
  have hlen : all.length = j + (x.wh.length + (x.fr.length + k)) := by rw [ha]; simp [zs_len]
  have hd : allD all := by rw [ha]; exact allD_app.2 ⟨allD_zs _, allD_app.2 ⟨g.dw, allD_app.2 ⟨g.df, allD_zs _⟩⟩⟩
  refine ⟨?_, by omega, by omega, by omega, hd⟩
  unfold Sh
  rw [if_neg hn, ← hm]
  refine ⟨_, _, rfl, allD_take hd _, allD_drop hd _, ?_, ?_, ?_⟩
  · apply List.ne_nil_of_length_pos
    rw [List.length_take]
    omega
  · rw [List.length_drop]
    unfold shF
    omega
  · rw [List.take_append_drop, ha, val_app, val_zs, Nat.zero_mul, Nat.zero_add, ← List.append_assoc, val_app, val_zs, zs_len]
    unfold shD
    rw [hk]
    rfl
set_option maxRecDepth 1000000 in
set_option maxHeartbeats 8000000 in
theorem shift_any (s : ByteArray) (n : Int) (hs : s.size ≤ 1000) (hn1 : -9223372036854775808 ≤ n) (hn2 : n ≤ 9223372036854775807) (w : World) : Calls Tryd.prog 33 #[.string s, .int .i64 n] w (ShPost s.data.toList n w) := by
  go_enter Tryd.func33, Tryd.ntmps33
  go_wp2_with fail
  refine (split_any s hs _).mono ?_
  rintro e w1 ⟨u, ok, x, rfl, ⟨a1, c1, a2, c2, rfl, ra, rf⟩, hy, hn, b1⟩
  have HXY := Lib.hid hy
  have HXN := Lib.hid hn
  have RA := Lib.hid (ra.alloc (.cells #[.bool x.neg, .slice a1 x.wh.length c1, .slice a2 x.fr.length c2] 54))
  have RF := Lib.hid (rf.alloc (.cells #[.bool x.neg, .slice a1 x.wh.length c1, .slice a2 x.fr.length c2] 54))
  have HB := Lib.hid (b1.alloc b1.size (.cells #[.bool x.neg, .slice a1 x.wh.length c1, .slice a2 x.fr.length c2] 54))
  have KX := Lib.hid (Blk.new w1 54 #[.bool x.neg, .slice a1 x.wh.length c1, .slice a2 x.fr.length c2])
  clear ra rf hy hn b1
  cases ok with
  | false =>
    have HV := Lib.hid (HXN.out rfl)
    go_wp2
    go_ret2
    exact ⟨.inl ⟨HV.out, rfl⟩, HB.out⟩
  | true =>
    have HY := Lib.hid (HXY.out rfl)
    have HG := Lib.hid (spl_some HY.out).1
    clear HXY HXN
    by_cases h6 : n < -6
    · have HV : Hid (Sh x n none) := Lib.hid (by unfold Sh; rw [if_pos h6])
      go_wp2
      go_ret2
      exact ⟨.inr ⟨x, none, HY.out, HV.out, rfl⟩, HB.out⟩
    obtain ⟨N1, hN1⟩ : ∃ N, x.wh.length = N := ⟨_, rfl⟩
    obtain ⟨N2, hN2⟩ : ∃ N, x.fr.length = N := ⟨_, rfl⟩
    have HN1 := Lib.hid hN1
    have HN2 := Lib.hid hN2
    have l1 : N1 ≤ 15 := by have := HG.out.high; omega
    have l2 : N2 ≤ 6 := by have := HG.out.few; omega
    rw [hN1, hN2] at RA RF HB KX ⊢
    clear hN1 hN2
    obtain ⟨nx, hnx⟩ : ∃ nx, x.neg = nx := ⟨_, rfl⟩
    have HNX := Lib.hid hnx
    rw [hnx] at RA RF HB KX ⊢
    clear hnx
    obtain ⟨m, hm⟩ : ∃ m, min n 21 = m := ⟨_, rfl⟩
    have mn := mn2 (P := Tryd.prog) (a := n) (b := 21) (M := m) (by split <;> omega)
    have hm1 : -6 ≤ m := by omega
    have hm2 : m ≤ 21 := by omega
    have HMM := Lib.hid hm
    clear hm
    go_upto_region 7 with fail
    obtain ⟨W1, hW1⟩ : ∃ W1, w1.alloc (.cells #[.bool nx, .slice a1 N1 c1, .slice a2 N2 c2] 54) = W1 := ⟨_, rfl⟩
    obtain ⟨C6, hC6⟩ : ∃ C6, w1.heap.size = C6 := ⟨_, rfl⟩
    rw [hW1] at RA RF HB KX ⊢
    rw [hC6] at KX ⊢
    clear hW1 hC6
    obtain ⟨j, hj⟩ : ∃ j, (-m).toNat = j := ⟨_, rfl⟩
    obtain ⟨k, hk⟩ : ∃ k, (m - (N2 : Int)).toNat = k := ⟨_, rfl⟩
    obtain ⟨all, hall⟩ : ∃ all, zs j ++ (x.wh ++ (x.fr ++ zs k)) = all := ⟨_, rfl⟩
    have HJ := Lib.hid hj
    have HK := Lib.hid hk
    have HALL := Lib.hid hall
    have hjl : j ≤ 6 := by omega
    have hkl : k ≤ 21 := by omega
    clear hj hk hall
    have wr1 : IntKind.i64.wrap (-m) = -m := wrap_fit (by omega) (by omega)
    have wr2 : IntKind.i64.wrap (m - (N2 : Int)) = m - (N2 : Int) := wrap_fit (by omega) (by omega)
    have HKX : Hid (∀ wx, Below W1.heap.size W1 wx → wx.cell? ⟨C6, 1, none⟩ = some (.slice a1 N1 c1) ∧ wx.cell? ⟨C6, 2, none⟩ = some (.slice a2 N2 c2)) := Lib.hid (fun wx hb => ⟨(KX.out.below hb).cell 1, (KX.out.below hb).cell 2⟩)
    have Z0 : Below W1.heap.size W1 W1.drew := (Below.refl _ W1).drew
    obtain ⟨M0, hM0⟩ : ∃ M0, m.toNat = M0 := ⟨_, rfl⟩
    have mx := mx2 (P := Tryd.prog) (a := m) (b := 0) (M := (M0 : Int)) (by split <;> omega)
    have HD9 : Hid (Sh x n (fin nx (all.take (N1 + M0)) (all.drop (N1 + M0))) ∧ 1 ≤ N1 + M0 ∧ N1 + M0 ≤ all.length ∧ all.length ≤ 100 ∧ allD all) := Lib.hid (by
      have h := sh_digits HG.out (n := n) (by omega) HMM.out.symm HJ.out (by rw [HN2.out]; exact HK.out) HALL.out.symm (p := N1 + M0) (by rw [HN1.out, hM0])
      rw [HNX.out] at h
      exact h)
    have hM1 : M0 ≤ 21 := by omega
    clear hM0
    go_cut [8] from 20 to 34 (fun v8 wx => RdB wx v8 all ∧ Below W1.heap.size W1 wx)
    case first =>
      go_region_held3 (fun wx => wx.cell? ⟨C6, 1, none⟩ = some (.slice a1 N1 c1) ∧ wx.cell? ⟨C6, 2, none⟩ = some (.slice a2 N2 c2)) (first | exact HKX.out _ Z3 | exact HKX.out _ (Z2.alloc Z2.size _) | exact HKX.out _ Z2 | exact HKX.out _ Z1 | exact HKX.out _ (Below.refl _ _).drew) (first
        | (go_at_call 46; first | ((with_reducible refine (zeros_at (-m) j HJ.out (by omega) (by omega) _).mono ?_); rintro e w5 ⟨a5, c5, rfl, r5, b5⟩; have Z1 : Below W1.heap.size W1 w5 := (Below.refl _ W1).drew.trans b5) | ((with_reducible refine (zeros_at (m - (N2 : Int)) k HK.out (by omega) (by omega) _).mono ?_); rintro e w6 ⟨a6, c6, rfl, r6, b6⟩; have Z2 : Below W1.heap.size W1 w6 := st Z1 b6 Z1.size))
        | (go_at_call 45; refine (concat_any _ [.slice a5 j c5, .slice a1 N1 c1, .slice a2 N2 c2, .slice a6 k c6] [zs j, x.wh, x.fr, zs k] _ (rdv4 w6 _ _ _ _) (rdl4 ((r5.below b6).alloc _) ((RA.out.below Z2).alloc _) ((RF.out.below Z2).alloc _) (r6.alloc _)) (by have := HN1.out; have := HN2.out; simp [zs_len]; omega) (by simp)).mono ?_; rintro e w7 ⟨v7, rfl, o7, b7⟩; have Z3 : Below W1.heap.size W1 w7 := st (Z2.alloc Z2.size (.cells #[.slice a5 j c5, .slice a1 N1 c1, .slice a2 N2 c2, .slice a6 k c6] 52)) b7 (Z2.alloc Z2.size _).size))
      go_wp2_with fail
      go_meet
      refine ⟨?_, Z3⟩
      have e9 : [zs j, x.wh, x.fr, zs k].flatten = all := by rw [← HALL.out]; simp
      rw [e9] at o7
      exact o7.rd encB_len
    case rest =>
      obtain ⟨r8, hb8⟩ := hcut
      rename World => wc
      obtain ⟨SHF, p1, p2, p3, p4⟩ := HD9.out
      have R8 := Lib.hid r8
      have HB8 := Lib.hid hb8
      have KC := Lib.hid (KX.out.below hb8)
      clear r8 hb8 wr1 wr2 Z0 HKX
      have HBC := Lib.hid (HB.out.trans (HB8.out.mono HB.out.size))
      have m0 : wc.cell? ⟨C6, 0, none⟩ = some (.bool nx) := KC.out.cell 0
      have m1 : wc.cell? ⟨C6, 1, none⟩ = some (.slice a1 N1 c1) := KC.out.cell 1
      have m2 : wc.cell? ⟨C6, 2, none⟩ = some (.slice a2 N2 c2) := KC.out.cell 2
      have WD := withDigits_any nx a1 N1 c1 a2 N2 c2 u8 all (N1 + M0) wc R8.out (by omega) p1 p2
      rw [Int.natCast_add] at WD
      have HWD := Lib.hid WD
      clear WD p1 p2 p4
      go_wp2_with fail
      refine HWD.out.mono ?_
      rintro e w7 ⟨u7, rfl, hrn, b7⟩
      have HB7 := Lib.hid (st HBC.out b7 HBC.out.size)
      obtain ⟨a5, c5, a6, c6, rfl, r5, r6⟩ := hrn
      have L5 : (dgN nx all (N1 + M0)).wh.length ≤ 1000 := by
        have := lead_len (all.take (N1 + M0))
        rw [List.length_take] at this
        unfold dgN
        dsimp only
        omega
      have L6 : (dgN nx all (N1 + M0)).fr.length ≤ 1000 := by
        unfold dgN
        dsimp only
        rw [List.length_drop]
        omega
      have R5 := Lib.hid r5
      have R6 := Lib.hid r6
      clear b7 r5 r6 m0 m1 m2
      go_wp2_with fail
      refine (text_any _ a5 _ c5 (dgN nx all (N1 + M0)).wh a6 _ c6 (dgN nx all (N1 + M0)).fr _ R5.out R6.out L5 L6).mono ?_
      rintro e w9 ⟨rfl, b9⟩
      have HB9 := Lib.hid (st HB7.out b9 HB7.out.size)
      have HT : Hid (txR ⟨(dgN nx all (N1 + M0)).neg, (dgN nx all (N1 + M0)).wh, (dgN nx all (N1 + M0)).fr⟩ = resV (fin nx (all.take (N1 + M0)) (all.drop (N1 + M0)))) := Lib.hid (txR_dgN nx all (N1 + M0))
      rw [HT.out]
      obtain ⟨o, ho⟩ : ∃ o, fin nx (all.take (N1 + M0)) (all.drop (N1 + M0)) = o := ⟨_, rfl⟩
      rw [ho] at SHF ⊢
      have HSH := Lib.hid SHF
      clear b9 ho SHF L5 L6
      cases o with
      | none =>
        unfold resV
        go_wp2
        go_ret2
        exact ⟨.inr ⟨x, none, HY.out, HSH.out, rfl⟩, HB9.out⟩
      | some t =>
        unfold resV
        go_wp2
        go_ret2
        exact ⟨.inr ⟨x, some t, HY.out, HSH.out, rfl⟩, HB9.out⟩
end Go.Proofs.YteofkofgdhmpjaaDoor
