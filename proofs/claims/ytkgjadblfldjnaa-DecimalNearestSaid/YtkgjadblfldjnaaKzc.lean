/- millionths. -/
import Derived.Test.YtkgjadblfldjnaaKzb
namespace Go.Proofs.Ytkgjadblfldjnaa
open Go.RowKit
set_option linter.unusedVariables false

def mil (s : Str) : Int × Bool := match spl s with
  | none => (0, false)
  | some x => if 9 < x.wh.length then (0, false) else (V x, true)
def padLeft (C : Nat) (wr : World) : Nat := match wr.cell? ⟨C, 2, none⟩ with
  | some (.string t) => 6 - t.size
  | _ => 0
theorem padLeft_eq {C : Nat} {wr : World} {t : ByteArray} (h : wr.cell? ⟨C, 2, none⟩ = some (.string t)) : padLeft C wr = 6 - t.size := by unfold padLeft; rw [h]
set_option maxRecDepth 1000000 in
set_option maxHeartbeats 4000000 in
theorem millionths_any (s : ByteArray) (hs : s.size ≤ 9223372036854775807) (w : World) : Calls Try.prog 28 #[.string s] w fun e w' => e = .returned (.tuple #[.int .i64 (mil s.data.toList).1, .bool (mil s.data.toList).2]) ∧ Below w.heap.size w w' := by
  go_enter Try.func28, Try.ntmps28
  go_wp2_with fail
  refine (refSplit_any s hs _).mono ?_
  rintro e w1 ⟨ok, x, rfl, hy, hn, b1⟩
  unfold refN
  have HXY := Lib.hid hy
  have HXN := Lib.hid hn
  have HB := Lib.hid (b1.alloc b1.size (.cells #[.bool x.neg, .string (ofL x.wh), .string (ofL x.fr)] 49))
  have KX := Lib.hid (Blk.new w1 49 #[.bool x.neg, .string (ofL x.wh), .string (ofL x.fr)])
  have HZ1 := Lib.hid b1.size
  clear hy hn b1
  cases ok with
  | false =>
    have HV : Hid (mil s.data.toList = (0, false)) := Lib.hid (by unfold mil; rw [HXN.out rfl])
    go_wp2
    go_ret2
    exact ⟨by rw [HV.out]; rfl, HB.out⟩
  | true =>
    have HY := Lib.hid (HXY.out rfl)
    have HG := Lib.hid (spl_some HY.out).1
    clear HXY HXN
    have HMI : Hid (mil s.data.toList = if 9 < x.wh.length then (0, false) else (V x, true)) := Lib.hid (by unfold mil; rw [HY.out])
    go_upto_region 2 with fail
    obtain ⟨W1, hW1⟩ : ∃ W1, w1.alloc (.cells #[.bool x.neg, .string (ofL x.wh), .string (ofL x.fr)] 49) = W1 := ⟨_, rfl⟩
    obtain ⟨C4, hC4⟩ : ∃ C4, w1.heap.size = C4 := ⟨_, rfl⟩
    rw [hW1] at HB KX ⊢
    rw [hC4] at KX HZ1 ⊢
    clear hW1 hC4
    obtain ⟨wh, hwh⟩ : ∃ wh, x.wh = wh := ⟨_, rfl⟩
    obtain ⟨fr, hfr⟩ : ∃ fr, x.fr = fr := ⟨_, rfl⟩
    obtain ⟨nx, hnx⟩ : ∃ nx, x.neg = nx := ⟨_, rfl⟩
    have HDW : Hid (allD wh) := Lib.hid (by rw [← hwh]; exact HG.out.dw)
    have HDF : Hid (allD fr) := Lib.hid (by rw [← hfr]; exact HG.out.df)
    have l2 : fr.length ≤ 6 := by rw [← hfr]; exact HG.out.few
    have HVX : Hid (V x = sg nx (val wh * 1000000 + val fr * 10 ^ (6 - fr.length))) := Lib.hid (by
      unfold V sg
      rw [(mag_eq HG.out).1, hwh, hfr, hnx])
    rw [hwh] at HMI
    rw [hwh, hfr, hnx] at KX ⊢
    clear hwh hfr hnx
    obtain ⟨N1, hN1⟩ : ∃ N, (ofL wh).size = N := ⟨_, rfl⟩
    have HN1 : Hid (wh.length = N1) := Lib.hid (by rw [← hN1, ofL_size])
    rw [HN1.out] at HMI
    have x1 : W1.cell? ⟨C4, 1, none⟩ = some (.string (ofL wh)) := KX.out.cell 1
    by_cases h9 : 9 < N1
    · have q1 : decide ((9 : Int) < (N1 : Int)) = true := decide_eq_true (by omega)
      have HV : Hid (mil s.data.toList = (0, false)) := Lib.hid (by rw [HMI.out, if_pos h9])
      clear h9
      go_wp2
      go_ret2
      exact ⟨by rw [HV.out]; rfl, HB.out⟩
    · have q1 : decide ((9 : Int) < (N1 : Int)) = false := decide_eq_false (by omega)
      have hN9 : N1 ≤ 9 := by omega
      have HV : Hid (mil s.data.toList = (V x, true)) := Lib.hid (by rw [HMI.out, if_neg h9])
      clear h9
      go_wp2
      go_loopw [23] (fun v23 wr => ∃ j : Nat, fr.length + j ≤ 6 ∧ Blk C4 49 #[.bool nx, .string (ofL wh), .string (ofL (fr ++ zs j))] wr ∧ Below w.heap.size w wr) (fun _ wr => padLeft C4 wr)
      case atStart => exact ⟨0, by omega, by rw [zs_zero, List.append_nil]; exact KX.out, HB.out⟩
      case round =>
        obtain ⟨j, hj, kr, hbr⟩ := hrel
        have KR := Lib.hid kr
        have HBR := Lib.hid hbr
        clear kr hbr x1
        have m0 : wr.cell? ⟨C4, 0, none⟩ = some (.bool nx) := KR.out.cell 0
        have m1 : wr.cell? ⟨C4, 1, none⟩ = some (.string (ofL wh)) := KR.out.cell 1
        have m2 : wr.cell? ⟨C4, 2, none⟩ = some (.string (ofL (fr ++ zs j))) := KR.out.cell 2
        have xf := KR.out.frozen
        obtain ⟨M, hM⟩ : ∃ M, (ofL (fr ++ zs j)).size = M := ⟨_, rfl⟩
        have hM2 : M = fr.length + j := by rw [← hM, ofL_size, List.length_append, zs_len]
        have HM := Lib.hid hM
        by_cases hlt : M < 6
        · have q2 : (M : Int) < 6 := by omega
          have HJ : Hid (ofL (fr ++ zs j) ++ ⟨#[48]⟩ = ofL (fr ++ zs (j + 1))) := Lib.hid (by rw [zs_succ, ← List.append_assoc, ← add_two]; rfl)
          have HJ2 : Hid (fr.length + (j + 1) ≤ 6) := Lib.hid (by omega)
          have HS : Hid ((ofL (fr ++ zs (j + 1))).size = M + 1) := Lib.hid (by rw [ofL_size, List.length_append, zs_len]; omega)
          have HPL : Hid (padLeft C4 wr = 6 - M) := Lib.hid (by rw [padLeft_eq m2, hM])
          have KN := Lib.hid (KR.out.put 2 (.string (ofL (fr ++ zs (j + 1)))))
          clear hM2
          go_wp2
          go_roundw
          case rel => exact ⟨j + 1, HJ2.out, by rw [HJ.out]; exact KN.out, HBR.out.setCell (p := ⟨C4, 2, none⟩) HZ1.out _⟩
          case measure =>
            rw [HPL.out, HJ.out, padLeft_eq (KN.out.cell 2), HS.out]
            omega
        · have q2 : ¬ (M : Int) < 6 := by omega
          obtain ⟨pd, hpd⟩ : ∃ pd, fr ++ zs j = pd := ⟨_, rfl⟩
          have hj6 : j = 6 - fr.length := by omega
          have hpv : val pd = val fr * 10 ^ (6 - fr.length) := by rw [← hpd, val_app, val_zs, zs_len, hj6]; rfl
          have hpD : allD pd := by rw [← hpd]; exact allD_app.2 ⟨HDF.out, allD_zs _⟩
          have hpl : pd.length = 6 := by rw [← hpd, List.length_append, zs_len]; omega
          have hcat : ofL wh ++ ofL pd = ofL (wh ++ pd) := add_two _ _
          have hVal := value_any (ofL (wh ++ pd)) (allD_app.2 ⟨HDW.out, hpD⟩) (by rw [ofL_size, List.length_append, hpl, HN1.out]; omega)
          rw [ofL_list] at hVal
          have hvv : val (wh ++ pd) = val wh * 1000000 + val fr * 10 ^ (6 - fr.length) := by rw [val_app, hpl, hpv]
          have hvb : val (wh ++ pd) < 10 ^ 15 := Nat.lt_of_lt_of_le (val_lt (allD_app.2 ⟨HDW.out, hpD⟩)) (Nat.pow_le_pow_right (by omega) (by rw [List.length_append, hpl, HN1.out]; omega))
          obtain ⟨Z, hZ⟩ : ∃ Z, val (wh ++ pd) = Z := ⟨_, rfl⟩
          rw [hZ] at hVal hvv hvb
          have hvb2 : Z < 1000000000000000 := hvb
          have HVAL := Lib.hid hVal
          have HVX2 : Hid (V x = sg nx Z) := Lib.hid (by rw [HVX.out, hvv])
          have sP : (ofL pd).size = 6 := by rw [ofL_size, hpl]
          rw [hpd] at m2 hM KR
          clear hpd hj6 hpv hpD hpl hVal hvv hvb hZ hM2 hM q2 hlt HM hj
          go_wp2_with fail
          refine (HVAL.out _).mono ?_
          rintro e w6 ⟨rfl, hw6⟩
          obtain rfl := hw6.symm
          cases nx with
          | false =>
            go_wp2
            go_ret2
            exact ⟨by rw [HV.out, HVX2.out]; rfl, HBR.out⟩
          | true =>
            go_wp2
            go_ret2
            exact ⟨by rw [HV.out, HVX2.out]; rfl, HBR.out⟩
end Go.Proofs.Ytkgjadblfldjnaa
