/- Of calqueref08: Print. -/
import Derived.Test.YtnabklhkalnpiaaGreatDoorCzyb
namespace Go.Proofs.YtnabklhkalnpiaaGreatDoor
open Go.RowKit
set_option linter.unusedVariables false

def gap (sep : Str) (k : Nat) : Str := if k = 0 then [] else sep
theorem gap_pos (sep : Str) {k : Nat} (h : k ≠ 0) : gap sep k = sep := if_neg h
theorem jn_step (sep : Str) (l : List Str) (k : Nat) (h : k < l.length) : (jn sep (l.take k) ++ gap sep k) ++ l[k] = jn sep (l.take (k + 1)) := by
  rw [List.take_succ_eq_append_getElem h]
  by_cases hk : k = 0
  · subst hk
    simp [jn, gap]
  · rw [jn_snoc _ _ _ (by
      intro e
      have := congrArg List.length e
      rw [List.length_take, List.length_nil] at this
      omega), gap_pos _ hk, List.append_assoc]
def otT (c : Cnd) (k : Nat) : Str := jn [32, 111, 114, 32] ((c.map lstT).take k)
theorem otT_zero (c : Cnd) : otT c 0 = [] := rfl
theorem otT_all (c : Cnd) : otT c c.length = cndT c := by
  unfold otT cndT
  rw [List.take_of_length_le (by rw [List.length_map]; exact Nat.le_refl _)]
theorem otT_step (c : Cnd) (k : Nat) (h : k < c.length) : (otT c k ++ gap [32, 111, 114, 32] k) ++ lstT c[k] = otT c (k + 1) := by
  have := jn_step [32, 111, 114, 32] (c.map lstT) k (by rw [List.length_map]; exact h)
  rw [List.getElem_map] at this
  exact this
theorem otT_le (c : Cnd) (h : okC c = true) (k : Nat) : (otT c k).length ≤ 1000000 := by
  have h0 := len_le c h
  have h1 := jn_len [32, 111, 114, 32] 100000 ((c.map lstT).take k) (fun x hx => by
    obtain ⟨y, hy, rfl⟩ := List.mem_map.1 (List.mem_of_mem_take hx)
    exact lstT_le y ((okC_iff.1 h).2.1 y hy) (by have := h0.2 y hy; omega))
  rw [List.length_take, List.length_map] at h1
  have h2 : min k c.length * (100000 + ([32, 111, 114, 32] : Str).length) ≤ 6 * 100004 := Nat.mul_le_mul (by omega) (Nat.le_refl _)
  unfold otT
  omega
def inT (p : Str) (l : List Rel) (k : Nat) : Str := p ++ jn [32, 97, 110, 100, 32] ((l.map relT).take k)
theorem inT_zero (p : Str) (l : List Rel) : inT p l 0 = p := List.append_nil _
theorem inT_all (p : Str) (l : List Rel) : inT p l l.length = p ++ lstT l := by
  unfold inT lstT
  rw [List.take_of_length_le (by rw [List.length_map]; exact Nat.le_refl _)]
theorem inT_step (p : Str) (l : List Rel) (k : Nat) (h : k < l.length) : (inT p l k ++ gap [32, 97, 110, 100, 32] k) ++ relT l[k] = inT p l (k + 1) := by
  have := jn_step [32, 97, 110, 100, 32] (l.map relT) k (by rw [List.length_map]; exact h)
  rw [List.getElem_map] at this
  unfold inT
  rw [← this]
  simp
theorem inT_le (p : Str) (l : List Rel) (h : okL l = true) (hl : l.length ≤ 6) (hp : p.length ≤ 2000000) (k : Nat) : (inT p l k).length ≤ 3000000 := by
  have h1 := jn_len [32, 97, 110, 100, 32] 50 ((l.map relT).take k) (fun x hx => by
    obtain ⟨y, hy, rfl⟩ := List.mem_map.1 (List.mem_of_mem_take hx)
    exact relT_le y (okR_iff.1 ((okL_iff.1 h).2 y hy)).few)
  rw [List.length_take, List.length_map] at h1
  have h2 : min k l.length * (50 + ([32, 97, 110, 100, 32] : Str).length) ≤ 6 * 55 := Nat.mul_le_mul (by omega) (Nat.le_refl _)
  unfold inT
  rw [List.length_append]
  omega
set_option maxRecDepth 1000000 in
set_option maxHeartbeats 8000000 in
theorem refPrint_any (c : Cnd) (v : Value) (w : World) (hv : RdC w v c) (hl : cnt c ≤ 4611686018427387904) :
    Calls Tryz.prog 12 #[v] w fun e w' => e = .returned (.tuple #[.string (ofL (prtR c).1), .int .i64 (prtR c).2]) ∧ Below w.heap.size w w' := by
  have HV := Lib.hid hv
  obtain ⟨a, n, hva, _⟩ := hv.slice
  subst hva
  obtain ⟨vb, hvb⟩ : ∃ vb, okC c = vb := ⟨_, rfl⟩
  have HVB := Lib.hid hvb
  have hval := refValidC_any _ c w hv hl
  rw [hvb] at hval
  have HVA := Lib.hid hval
  clear hv hvb hval hl
  go_enter Tryz.func12, Tryz.ntmps12
  go_wp2_with fail
  refine HVA.out.mono ?_
  rintro e w2 ⟨rfl, b2⟩
  have B2 := Lib.hid b2
  have V2 := Lib.hid (HV.out.below b2)
  clear b2 HV HVA
  cases vb with
  | false =>
    have HP : Hid (prtR c = ([], 1)) := Lib.hid (by unfold prtR; rw [HVB.out, if_neg (by simp)])
    go_wp2
    go_ret2
    rw [HP.out]
    exact ⟨rfl, B2.out⟩
  | true =>
    have HP : Hid (prtR c = (cndT c, 0)) := Lib.hid (by unfold prtR; rw [HVB.out, if_pos rfl])
    have HLE := Lib.hid (len_le c HVB.out)
    have HOK := Lib.hid (okC_iff.1 HVB.out).2.1
    have HOZ := Lib.hid (otT_zero c)
    have HOA := Lib.hid (otT_all c)
    have HOS := Lib.hid (otT_step c)
    have HOL := Lib.hid (otT_le c HVB.out)
    have hcl := HLE.out.1
    obtain ⟨OT, hOT⟩ : ∃ OT, otT c = OT := ⟨_, rfl⟩
    rw [hOT] at HOZ HOA HOS HOL
    clear hOT
    go_wp2_with fail
    go_loopw [4, 5] (fun v4 v5 wr => ∃ k : Nat, k ≤ c.length ∧ v5 = .int .i64 k ∧ v4 = .string (ofL (OT k)) ∧ Below w2.heap.size w2 wr) (fun _ v5 _ => c.length - (intOf v5).toNat)
    case atStart => exact ⟨0, Nat.zero_le _, rfl, by rw [HOZ.out]; rfl, Below.refl _ _⟩
    case round =>
      obtain ⟨k, hk, rfl, rfl, hb⟩ := hrel
      have HB := Lib.hid hb
      have zr := hb.size
      clear hb
      by_cases hlt : k < c.length
      · obtain ⟨bk, off, y1, y2, rfl, h0, h4⟩ := (V2.out.below HB.out).at_ k hlt
        have h9 : (k : Int) < (c.length : Int) := by omega
        have HS := Lib.hid (HOS.out k hlt)
        have hol := HOL.out k
        have hml := HLE.out.2 c[k] (List.getElem_mem hlt)
        have HMO := Lib.hid (HOK.out c[k] (List.getElem_mem hlt))
        obtain ⟨m, hm⟩ : ∃ m, c[k] = m := ⟨_, rfl⟩
        rw [hm] at h0 h4 HS hml HMO
        have H4 := Lib.hid h4
        clear hm h4
        obtain ⟨S0, hS0⟩ : ∃ S0, OT k = S0 := ⟨_, rfl⟩
        obtain ⟨S1, hS1⟩ : ∃ S1, S0 ++ gap [32, 111, 114, 32] k = S1 := ⟨_, rfl⟩
        rw [hS0, hS1] at HS
        rw [hS0] at hol ⊢
        have HS1 := Lib.hid hS1
        have hl1 : S1.length ≤ 2000000 := by
          rw [← hS1, List.length_append]
          unfold gap
          split <;> simp <;> omega
        have H0 := Lib.hid h0
        clear hS0 hS1
        go_upto_if 17 with fail
        go_cut [4] from 16 to 19 (fun v4 wx => v4 = .string (ofL S1) ∧ wx = wr)
        case first =>
          by_cases hk0 : k = 0
          · subst hk0
            have HE : Hid (S0 = S1) := Lib.hid (by rw [← HS1.out]; exact (List.append_nil _).symm)
            clear hol hl1
            go_wp2_with fail
            go_meet
            exact ⟨by rw [HE.out], rfl⟩
          · have t0 : (0 : Int) < (k : Int) := by omega
            have p1 : ∀ wx, (Op.stringOp .add (ofL S0) ⟨#[32, 111, 114, 32]⟩).run Tryz.prog wx = .ok (.string (ofL S1)) wx := fun wx => str_add (y := [32, 111, 114, 32]) (by simp; omega) (by rw [← HS1.out, gap_pos _ hk0]) wx
            clear hol hl1 hk0
            go_wp2_with fail
            go_meet
            exact ⟨rfl, rfl⟩
        case rest =>
          obtain ⟨rfl, hwc⟩ := hcut
          obtain rfl := hwc.symm
          have HIZ := Lib.hid (inT_zero S1 m)
          have HIA := Lib.hid (inT_all S1 m)
          have HIS := Lib.hid (inT_step S1 m)
          have HIL := Lib.hid (inT_le S1 m HMO.out hml hl1)
          obtain ⟨IT, hIT⟩ : ∃ IT, inT S1 m = IT := ⟨_, rfl⟩
          rw [hIT] at HIZ HIA HIS HIL
          clear hIT hol hl1
          go_wp2_with fail
          go_loopw [4, 6] (fun v4 v6 wz => ∃ j : Nat, j ≤ m.length ∧ v6 = .int .i64 j ∧ v4 = .string (ofL (IT j)) ∧ Below wr.heap.size wr wz) (fun _ v6 _ => m.length - (intOf v6).toNat)
          case atStart => exact ⟨0, Nat.zero_le _, rfl, by rw [HIZ.out], Below.refl _ _⟩
          case round =>
            rename World => wz
            obtain ⟨j, hj, rfl, rfl, hbz⟩ := hrel
            have HBZ := Lib.hid hbz
            have h0z := cell_later H0.out hbz
            clear hbz h0
            by_cases hjt : j < m.length
            · obtain ⟨bm, om, q1, q2, rfl, g0, g1, g2, g3, g4⟩ := (H4.out.below HBZ.out).at_ j hjt
              have h8 : (j : Int) < (m.length : Int) := by omega
              have G4 := Lib.hid g4
              have HRO := Lib.hid ((okL_iff.1 HMO.out).2 m[j] (List.getElem_mem hjt))
              have HJS := Lib.hid (HIS.out j hjt)
              have hi1 := HIL.out j
              have hi2 := relT_le m[j] (okR_iff.1 HRO.out).few
              clear g4
              obtain ⟨r, hr⟩ : ∃ r, m[j] = r := ⟨_, rfl⟩
              rw [hr] at g0 g1 g2 g3 G4 HRO HJS hi2
              clear hr
              obtain ⟨T0, hT0⟩ : ∃ T0, IT j = T0 := ⟨_, rfl⟩
              obtain ⟨T1, hT1⟩ : ∃ T1, T0 ++ gap [32, 97, 110, 100, 32] j = T1 := ⟨_, rfl⟩
              obtain ⟨T2, hT2⟩ : ∃ T2, IT (j + 1) = T2 := ⟨_, rfl⟩
              have HT2 := Lib.hid hT2
              have HT1 := Lib.hid hT1
              rw [hT0, hT1, hT2] at HJS
              rw [hT0] at hi1 ⊢
              have hi3 : T1.length ≤ 3000010 := by
                rw [← hT1, List.length_append]
                unfold gap
                split <;> simp <;> omega
              clear hT0 hT1 hT2
              go_upto_if 30 with fail
              go_cut [4] from 29 to 32 (fun v4 wx => v4 = .string (ofL T1) ∧ wx = wz)
              case first =>
                by_cases hj0 : j = 0
                · subst hj0
                  have HE : Hid (T0 = T1) := Lib.hid (by rw [← HT1.out]; exact (List.append_nil _).symm)
                  clear hi1 hi2 hi3
                  go_wp2_with fail
                  go_meet
                  exact ⟨by rw [HE.out], rfl⟩
                · have t0 : (0 : Int) < (j : Int) := by omega
                  have p1 : ∀ wx, (Op.stringOp .add (ofL T0) ⟨#[32, 97, 110, 100, 32]⟩).run Tryz.prog wx = .ok (.string (ofL T1)) wx := fun wx => str_add (y := [32, 97, 110, 100, 32]) (by simp; omega) (by rw [← HT1.out, gap_pos _ hj0]) wx
                  clear hi1 hi2 hi3 hj0
                  go_wp2_with fail
                  go_meet
                  exact ⟨rfl, rfl⟩
              case rest =>
                obtain ⟨rfl, hwc⟩ := hcut
                obtain rfl := hwc.symm
                have q9 : ∀ wx, (Op.stringOp .add (ofL T1) (ofL (relT r))).run Tryz.prog wx = .ok (.string (ofL T2)) wx := fun wx => str_add (by omega) HJS.out wx
                clear hi1 hi2 hi3
                go_wp2_with fail
                refine (refRel_any r q1 q2 HRO.out _ G4.out).mono ?_
                rintro e w3 ⟨rfl, b3⟩
                have B3 := Lib.hid (st HBZ.out b3 HBZ.out.size)
                clear b3
                go_wp2
                go_roundw
                case measure => simp [intOf]; omega
                case rel => exact ⟨j + 1, by omega, by go_num, by rw [HT2.out], B3.out⟩
            · obtain rfl : j = m.length := by omega
              have h3 : ¬ (m.length : Int) < (m.length : Int) := by omega
              have HX : Hid (IT m.length = OT (k + 1)) := Lib.hid (by rw [HIA.out, HS.out])
              rw [HX.out]
              go_wp2
              go_roundw
              case measure => simp [intOf]; omega
              case rel => exact ⟨k + 1, by omega, by go_num, rfl, st HB.out HBZ.out zr⟩
      · obtain rfl : k = c.length := by omega
        have h3 : ¬ (c.length : Int) < (c.length : Int) := by omega
        rw [HOA.out]
        go_wp2
        go_ret2
        rw [HP.out]
        exact ⟨rfl, st B2.out HB.out B2.out.size⟩
end Go.Proofs.YtnabklhkalnpiaaGreatDoor
