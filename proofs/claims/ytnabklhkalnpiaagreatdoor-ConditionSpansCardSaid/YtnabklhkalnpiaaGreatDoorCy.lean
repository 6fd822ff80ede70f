/- Of the reference: Relation, Holds. -/
import Derived.Test.YtnabklhkalnpiaaGreatDoorCx
namespace Go.Proofs.YtnabklhkalnpiaaGreatDoor
open Go.RowKit
set_option linter.unusedVariables false

set_option maxRecDepth 1000000 in
set_option maxHeartbeats 4000000 in
theorem relation_any (r : Rel) (a2 : Option Addr) (c2 : Nat) (s : ByteArray) (hs : s.size ≤ 9223372036854775807) (hok : 0 ≤ r.md ∧ r.md ≤ 100) (w : World) (hr : Rd 2 encP w (.slice a2 r.sp.length c2) r.sp) :
    Calls Tryz.prog 42 #[.agg #[.int .i64 r.op, .int .i64 r.md, .bool r.nt, .slice a2 r.sp.length c2], .string s] w fun e w' => e = .returned (.bool (hldR s.data.toList r)) ∧ Below w.heap.size w w' := by
  have HE := Lib.hid (hld_err (s := s.data.toList) (r := r))
  have HO := Lib.hid (hld_ok (s := s.data.toList) (r := r))
  obtain ⟨o, m, nt, sp⟩ := r
  dsimp only at hr hok HE HO ⊢
  obtain ⟨m0, m1⟩ := hok
  have K := Lib.hid ((Below.refl w.heap.size w).alloc (Nat.le_refl _) (.cells #[.int .i64 o, .int .i64 m, .bool nt, .slice a2 sp.length c2] 38))
  have KB := Lib.hid (Blk.new w 38 #[.int .i64 o, .int .i64 m, .bool nt, .slice a2 sp.length c2])
  have HR := Lib.hid hr
  have HF := Lib.hid (opR_fits s.data.toList o)
  clear hr
  go_enter Tryz.func42, Tryz.ntmps42
  go_wp2_with fail
  refine (refOperand_any s o hs _).mono ?_
  rintro e w2 ⟨rfl, b2⟩
  have B2 := Lib.hid (st K.out b2 K.out.size)
  have KB2 := Lib.hid (KB.out.below b2)
  have HR2 := Lib.hid (HR.out.below B2.out)
  obtain ⟨⟨n, er⟩, hp⟩ : ∃ p, opR s.data.toList o = p := ⟨_, rfl⟩
  rw [hp] at HE HO HF ⊢
  have n0 := HF.out.1
  have n1 := HF.out.2
  dsimp only at n0 n1 HE HO ⊢
  clear hp b2 HF
  have k1 : w2.cell? ⟨w.heap.size, 1, none⟩ = some (.int .i64 m) := KB2.out.cell 1
  have k2 : w2.cell? ⟨w.heap.size, 2, none⟩ = some (.bool nt) := KB2.out.cell 2
  have k3 : w2.cell? ⟨w.heap.size, 3, none⟩ = some (.slice a2 sp.length c2) := KB2.out.cell 3
  by_cases he : er = 0
  · subst he
    have t0 : ((0 : Int) != 0) = false := rfl
    have HXR := Lib.hid (HO.out rfl)
    clear HO HE
    by_cases hm : m = 0
    · subst hm
      have t1 : ((0 : Int) == 0) = true := rfl
      have HV : Hid (hldR s.data.toList ⟨o, 0, nt, sp⟩ = (inside sp n != nt)) := Lib.hid HXR.out
      have HIN : Hid (∀ wx, Below w2.heap.size w2 wx → Calls Tryz.prog 71 #[.slice a2 sp.length c2, .int .i64 n] wx fun e w' => e = .returned (.bool (inside sp n)) ∧ w' = wx) := Lib.hid (fun wx hb => inside_any _ sp n wx (HR2.out.below hb))
      obtain ⟨x, hx⟩ : ∃ x, inside sp n = x := ⟨_, rfl⟩
      rw [hx] at HIN HV
      clear hx HXR
      go_wp2_with fail
      go_quiet ((go_at_call 71; exact Calls.quiet_of_same (HIN.out _ (below_drewN (Below.refl _ _) _))))
      go_wp2
      go_ret
      exact ⟨by rw [HV.out]; rfl, below_drewN B2.out _⟩
    · have t1 : (m == 0) = false := by rw [beq_eq_false_iff_ne]; exact hm
      have t2 : (m != 0) = true := by rw [bne_iff_ne]; exact hm
      have HV0 : Hid (hldR s.data.toList ⟨o, m, nt, sp⟩ = (inside sp (n.tmod m) != nt)) := Lib.hid (by rw [HXR.out]; unfold rem; rw [if_neg hm])
      obtain ⟨j, hj⟩ : ∃ j, n.tmod m = j := ⟨_, rfl⟩
      rw [hj] at HV0
      have HIN : Hid (∀ wx, Below w2.heap.size w2 wx → Calls Tryz.prog 71 #[.slice a2 sp.length c2, .int .i64 j] wx fun e w' => e = .returned (.bool (inside sp j)) ∧ w' = wx) := Lib.hid (fun wx hb => inside_any _ sp j wx (HR2.out.below hb))
      obtain ⟨x, hx⟩ : ∃ x, inside sp j = x := ⟨_, rfl⟩
      rw [hx] at HIN HV0
      clear hx HXR
      go_wp2_with fail
      go_quiet ((go_at_call 71; exact Calls.quiet_of_same (HIN.out _ (below_drewN (Below.refl _ _) _))))
      go_wp2
      go_ret
      exact ⟨by rw [HV0.out]; rfl, below_drewN B2.out _⟩
  · have t0 : (er == 0) = false := by rw [beq_eq_false_iff_ne]; exact he
    have t0' : (er != 0) = true := by rw [bne_iff_ne]; exact he
    have HV := Lib.hid (HE.out he)
    clear HE HO he
    go_wp2
    go_ret
    exact ⟨by rw [HV.out]; rfl, B2.out⟩
theorem hldL_take {s : Str} {m : List Rel} {j : Nat} (h : j < m.length) : hldL s (m.take (j + 1)) = (hldL s (m.take j) && hldR s m[j]) := by
  unfold hldL
  rw [List.take_succ_eq_append_getElem h, List.all_append]
  simp
theorem hldC_hit {s : Str} {c : Cnd} {k : Nat} (h : k < c.length) (hq : hldL s c[k] = true) : hldC s c = true := any_hit h hq
theorem hldC_miss {s : Str} {c : Cnd} (h : ∀ (j : Nat) (hj : j < c.length), j < c.length → hldL s c[j] = false) : hldC s c = false := any_take_miss h
set_option maxRecDepth 1000000 in
set_option maxHeartbeats 8000000 in
theorem refHoldsC_any (v : Value) (c : Cnd) (s : ByteArray) (hs : s.size ≤ 9223372036854775807) (w : World) (hv : RdC w v c) (hl : cnt c ≤ 4611686018427387904) :
    Calls Tryz.prog 19 #[v, .string s] w fun e w' => e = .returned (.tuple #[.bool (holdR c s.data.toList).1, .int .i64 (holdR c s.data.toList).2]) ∧ Below w.heap.size w w' := by
  obtain ⟨a, cp, rfl, hc1, hc2⟩ := hv.slice
  have HU := Lib.hid hv
  clear hv
  go_enter Tryz.func19, Tryz.ntmps19
  go_wp2_with fail
  refine (refValidC_any _ c _ HU.out hl).mono ?_
  rintro e w2 ⟨rfl, b2⟩
  have B2 := Lib.hid b2
  have HU2 := Lib.hid (HU.out.below b2)
  clear b2
  obtain ⟨b, hb⟩ : ∃ b, okC c = b := ⟨_, rfl⟩
  have HB := Lib.hid hb
  rw [hb]
  clear hb
  cases b with
  | false =>
    have HX : Hid (holdR c s.data.toList = (false, 1)) := Lib.hid (by unfold holdR; rw [HB.out, if_neg (by simp)])
    go_wp2
    go_ret2
    exact ⟨by rw [HX.out]; rfl, B2.out⟩
  | true =>
    go_wp2_with fail
    refine (refValid_any s hs _).mono ?_
    rintro e w3 ⟨rfl, b3⟩
    have B3 := Lib.hid (st B2.out b3 B2.out.size)
    have HU3 := Lib.hid (HU2.out.below b3)
    clear b3
    obtain ⟨b, hb⟩ : ∃ b, (spl s.data.toList).isSome = b := ⟨_, rfl⟩
    have HS := Lib.hid hb
    rw [hb]
    clear hb
    cases b with
    | false =>
      have HX : Hid (holdR c s.data.toList = (false, 1)) := Lib.hid (by unfold holdR; rw [HS.out, if_neg (by simp)])
      go_wp2
      go_ret2
      exact ⟨by rw [HX.out]; rfl, B3.out⟩
    | true =>
      have HX : Hid (holdR c s.data.toList = (hldC s.data.toList c, 0)) := Lib.hid (by unfold holdR; rw [HS.out, HB.out, if_pos (by simp)])
      have HMD := Lib.hid (okC_md HB.out)
      go_wp2
      go_loopw [6] (fun v6 wr => ∃ k : Nat, k ≤ c.length ∧ v6 = .int .i64 k ∧ (∀ (j : Nat) (hj : j < c.length), j < k → hldL s.data.toList c[j] = false) ∧ Below w3.heap.size w3 wr) (fun v6 _ => c.length - (intOf v6).toNat)
      case atStart => exact ⟨0, Nat.zero_le _, rfl, fun j _ h => by omega, Below.refl _ _⟩
      case round =>
        obtain ⟨k, hk, rfl, hkd, hbw⟩ := hrel
        have HK := Lib.hid hkd
        have HBW := Lib.hid hbw
        have zr := hbw.size
        clear hkd hbw
        by_cases hlt : k < c.length
        · obtain ⟨bk, off, x1, x2, rfl, h0, h4⟩ := (HU3.out.below HBW.out).at_ k hlt
          have h9 : (k : Int) < (c.length : Int) := by omega
          have H4 := Lib.hid h4
          have HHIT := Lib.hid (hldC_hit (s := s.data.toList) hlt)
          have HMK := Lib.hid (HMD.out _ (List.getElem_mem hlt))
          obtain ⟨m, hm⟩ : ∃ m, c[k] = m := ⟨_, rfl⟩
          have HM := Lib.hid hm
          rw [hm] at h0 H4 HHIT HMK
          have hmb : m.length ≤ 9223372036854775807 := by obtain ⟨_, _, _, q1, q2⟩ := H4.out.slice; omega
          have H0 := Lib.hid h0
          clear h4 hm
          go_wp2
          go_loopw [7, 8] (fun v7 v8 wz => ∃ j : Nat, j ≤ m.length ∧ v8 = .int .i64 j ∧ v7 = .bool (hldL s.data.toList (m.take j)) ∧ Below wr.heap.size wr wz) (fun _ v8 _ => m.length - (intOf v8).toNat)
          case atStart => exact ⟨0, Nat.zero_le _, rfl, rfl, Below.refl _ _⟩
          case round =>
            obtain ⟨j, hj, rfl, rfl, hbz⟩ := hrel
            have HBZ := Lib.hid hbz
            have h0z := cell_later H0.out hbz
            clear hbz h0
            by_cases hjt : j < m.length
            · obtain ⟨bm, om, y1, y2, rfl, g0, g1, g2, g3, g4⟩ := (H4.out.below HBZ.out).at_ j hjt
              have h8 : (j : Int) < (m.length : Int) := by omega
              have G4 := Lib.hid g4
              have HTK := Lib.hid (hldL_take (s := s.data.toList) hjt)
              have HRM := Lib.hid (HMK.out _ (List.getElem_mem hjt))
              clear g4
              obtain ⟨r, hr⟩ : ∃ r, m[j] = r := ⟨_, rfl⟩
              rw [hr] at g0 g1 g2 g3 G4 HTK HRM
              clear hr
              obtain ⟨q, hq⟩ : ∃ q, hldL s.data.toList (m.take j) = q := ⟨_, rfl⟩
              rw [hq] at HTK ⊢
              clear hq
              cases q with
              | false =>
                go_wp2
                go_roundw
                case measure => simp [intOf]; omega
                case rel => exact ⟨j + 1, by omega, by go_num, by rw [HTK.out]; rfl, HBZ.out⟩
              | true =>
                go_wp2_with fail
                refine (relation_any r y1 y2 s hs HRM.out _ G4.out).mono ?_
                rintro e w4 ⟨rfl, b4⟩
                have HB4 := Lib.hid (st HBZ.out b4 HBZ.out.size)
                clear b4
                go_wp2
                go_roundw
                case measure => simp [intOf]; omega
                case rel => exact ⟨j + 1, by omega, by go_num, by rw [HTK.out]; rfl, HB4.out⟩
            · obtain rfl : j = m.length := by omega
              have h3 : ¬ (m.length : Int) < (m.length : Int) := by omega
              have HTL : Hid (hldL s.data.toList (m.take m.length) = hldL s.data.toList m) := Lib.hid (by rw [List.take_length])
              rw [HTL.out]
              obtain ⟨q, hq⟩ : ∃ q, hldL s.data.toList m = q := ⟨_, rfl⟩
              have HQ := Lib.hid hq
              rw [hq]
              clear hq HTL
              cases q with
              | true =>
                have HY : Hid (hldC s.data.toList c = true) := Lib.hid (HHIT.out HQ.out)
                go_wp2
                go_ret2
                exact ⟨by rw [HX.out, HY.out]; rfl, B3.out.trans ((st HBW.out HBZ.out zr).mono B3.out.size)⟩
              | false =>
                go_wp2
                go_roundw
                case measure => simp [intOf]; omega
                case rel => exact ⟨k + 1, by omega, by go_num, fun j hj hjk => by
                  rcases Nat.lt_or_ge j k with h | h
                  · exact HK.out j hj h
                  · obtain rfl : j = k := by omega
                    rw [HM.out]; exact HQ.out, st HBW.out HBZ.out zr⟩
        · obtain rfl : k = c.length := by omega
          have h3 : ¬ (c.length : Int) < (c.length : Int) := by omega
          have HY : Hid (hldC s.data.toList c = false) := Lib.hid (hldC_miss HK.out)
          go_wp2
          go_ret2
          exact ⟨by rw [HX.out, HY.out]; rfl, B3.out.trans (HBW.out.mono B3.out.size)⟩
end Go.Proofs.YtnabklhkalnpiaaGreatDoor
