/- Of the reference: Valid, Inside, Relation, Holds. -/
import Derived.Test.YtnabklhkalnpiaaGreatDoorCw
import Derived.Test.YtnabklhkalnpiaaGreatDoorCt
namespace Go.Proofs.YtnabklhkalnpiaaGreatDoor
open Go.RowKit
set_option linter.unusedVariables false

theorem cell_later {w w' : World} {p : Addr} {u : Value} (h : w.cell? p = some u) (hb : Below w.heap.size w w') : w'.cell? p = some u := (hb.cell (World.block_lt_of_cell? w p h)).trans h
theorem okL_bad {l : List Rel} {j : Nat} (hj : j < l.length) (h : okR l[j] = false) : okL l = false := by
  unfold okL
  rw [all_bad hj h, Bool.and_false]
theorem okL_good {l : List Rel} (h0 : l.length ≠ 0) (h : ∀ (j : Nat) (hj : j < l.length), j < l.length → okR l[j] = true) : okL l = true := by
  rw [okL_all h0]
  exact all_good h
set_option maxRecDepth 1000000 in
set_option maxHeartbeats 8000000 in
theorem refValidC_any (v : Value) (c : Cnd) (w : World) (hv : RdC w v c) (hl : cnt c ≤ 4611686018427387904) :
    Calls Tryz.prog 14 #[v] w fun e w' => e = .returned (.bool (okC c)) ∧ Below w.heap.size w w' := by
  obtain ⟨a, cp, rfl, hc1, hc2⟩ := hv.slice
  have HU := Lib.hid hv
  clear hv
  go_enter Tryz.func14, Tryz.ntmps14
  go_wp2
  go_loopw [3, 4] (fun v3 v4 wr => ∃ k : Nat, k ≤ c.length ∧ v4 = .int .i64 k ∧ v3 = .int .i64 (cnt (c.take k) : Nat) ∧ (∀ l ∈ c.take k, okL l = true) ∧ Below w.heap.size w wr) (fun _ v4 _ => c.length - (intOf v4).toNat)
  case atStart => exact ⟨0, Nat.zero_le _, rfl, rfl, fun l h => by simp at h, Below.refl _ _⟩
  case round =>
    obtain ⟨k, hk, rfl, rfl, hok, hb⟩ := hrel
    have HK := Lib.hid hok
    have HB := Lib.hid hb
    have zr := hb.size
    clear hok hb
    by_cases hlt : k < c.length
    · obtain ⟨bk, off, x1, x2, rfl, h0, h4⟩ := (HU.out.below HB.out).at_ k hlt
      have h9 : (k : Int) < (c.length : Int) := by omega
      have HS := Lib.hid (cnt_take_succ hlt)
      have HT := Lib.hid (List.take_succ_eq_append_getElem hlt)
      have HBAD := Lib.hid (okC_bad (c := c) hlt)
      have H4 := Lib.hid h4
      have hcl := cnt_take_le c (k + 1)
      rw [HS.out] at hcl
      obtain ⟨m, hm⟩ : ∃ m, c[k] = m := ⟨_, rfl⟩
      rw [hm] at h0 HS HT HBAD H4 hcl
      clear h4 hm
      obtain ⟨N, hN⟩ : ∃ N, cnt (c.take k) = N := ⟨_, rfl⟩
      rw [hN] at HS hcl ⊢
      clear hN
      by_cases hz : m.length = 0
      · have t0 : ((m.length : Int) == 0) = true := by rw [beq_iff_eq]; omega
        have HV := Lib.hid (HBAD.out (okL_nil hz))
        clear hz
        go_wp2
        go_ret
        exact ⟨by rw [HV.out]; rfl, HB.out⟩
      have t0 : ((m.length : Int) == 0) = false := by rw [beq_eq_false_iff_ne]; omega
      have t0' : (m.length == 0) = false := by rw [beq_eq_false_iff_ne]; omega
      have HZ := Lib.hid hz
      have H0 := Lib.hid h0
      clear hz
      go_wp2
      go_loopw [3, 5] (fun v3 v5 wz => ∃ j : Nat, j ≤ m.length ∧ v5 = .int .i64 j ∧ v3 = .int .i64 (N + j : Nat) ∧ (∀ (i : Nat) (hi : i < m.length), i < j → okR m[i] = true) ∧ Below wr.heap.size wr wz) (fun _ v5 _ => m.length - (intOf v5).toNat)
      case atStart => exact ⟨0, Nat.zero_le _, rfl, by simp, fun i _ h => by omega, Below.refl _ _⟩
      case round =>
        obtain ⟨j, hj, rfl, rfl, hjk, hbz⟩ := hrel
        have HJ := Lib.hid hjk
        have HBZ := Lib.hid hbz
        have h0z := cell_later H0.out hbz
        clear hjk hbz h0
        by_cases hjt : j < m.length
        · obtain ⟨bm, om, y1, y2, rfl, g0, g1, g2, g3, g4⟩ := (H4.out.below HBZ.out).at_ j hjt
          have h8 : (j : Int) < (m.length : Int) := by omega
          have G4 := Lib.hid g4
          have HBADL := Lib.hid (okL_bad (l := m) hjt)
          clear g4
          obtain ⟨r, hr⟩ : ∃ r, m[j] = r := ⟨_, rfl⟩
          have HR := Lib.hid hr
          rw [hr] at g0 g1 g2 g3 G4 HBADL
          clear hr
          go_wp2_with fail
          refine (proper_any r y1 y2 _ G4.out).mono ?_
          rintro e w2 ⟨rfl, b2⟩
          have HB2 := Lib.hid (st HBZ.out b2 HBZ.out.size)
          clear b2
          obtain ⟨b, hbb⟩ : ∃ b, okR r = b := ⟨_, rfl⟩
          have HQ := Lib.hid hbb
          rw [hbb]
          clear hbb
          cases b with
          | false =>
            have HV := Lib.hid (HBAD.out (HBADL.out HQ.out))
            go_wp2
            go_ret
            exact ⟨by rw [HV.out]; rfl, st HB.out HB2.out zr⟩
          | true =>
            go_wp2
            go_roundw
            case measure => simp [intOf]; omega
            case rel => exact ⟨j + 1, by omega, by go_num, by go_num, fun i hi hij => by
              rcases Nat.lt_or_ge i j with h | h
              · exact HJ.out i hi h
              · obtain rfl : i = j := by omega
                rw [HR.out]; exact HQ.out, HB2.out⟩
        · obtain rfl : j = m.length := by omega
          have h3 : ¬ (m.length : Int) < (m.length : Int) := by omega
          have HG := Lib.hid (okL_good HZ.out HJ.out)
          go_wp2
          go_roundw
          case measure => simp [intOf]; omega
          case rel => exact ⟨k + 1, by omega, by go_num, by rw [HS.out], fun l hl => by
            rw [HT.out] at hl
            rcases List.mem_append.1 hl with h | h
            · exact HK.out l h
            · simp at h; subst h; exact HG.out, st HB.out HBZ.out zr⟩
    · obtain rfl : k = c.length := by omega
      have h3 : ¬ (c.length : Int) < (c.length : Int) := by omega
      obtain ⟨N, hN⟩ : ∃ N, cnt (c.take c.length) = N := ⟨_, rfl⟩
      rw [hN]
      have HN : Hid (cnt c = N) := Lib.hid (by rw [← hN, List.take_length])
      have HA : Hid (∀ l ∈ c, okL l = true) := Lib.hid (by
        have h1 := HK.out
        rw [List.take_length] at h1
        exact h1)
      clear hN
      by_cases h0 : 0 < c.length
      · have t0 : (0 : Int) < (c.length : Int) := by omega
        by_cases h6 : N ≤ 6
        · have HW : Hid (okC c = true) := Lib.hid (okC_iff.2 ⟨h0, HA.out, by rw [HN.out]; exact h6⟩)
          have t6 : (N : Int) ≤ 6 := by omega
          go_wp2
          go_ret
          exact ⟨by rw [HW.out]; rfl, HB.out⟩
        · have HW : Hid (okC c = false) := Lib.hid (okC_many (k := c.length) (by rw [List.take_length, HN.out]; omega))
          have t6 : ¬ (N : Int) ≤ 6 := by omega
          go_wp2
          go_ret
          exact ⟨by rw [HW.out]; rfl, HB.out⟩
      · have t0 : ¬ (0 : Int) < (c.length : Int) := by omega
        have HW : Hid (okC c = false) := Lib.hid (by unfold okC; rw [decide_eq_false h0]; rfl)
        go_wp2
        go_ret
        exact ⟨by rw [HW.out]; rfl, HB.out⟩

set_option maxRecDepth 1000000 in
set_option maxHeartbeats 2000000 in
theorem inside_any (v : Value) (l : List (Int × Int)) (n : Int) (w : World) (hv : Rd 2 encP w v l) : Calls Tryz.prog 71 #[v, .int .i64 n] w fun e w' => e = .returned (.bool (inside l n)) ∧ w' = w := by
  obtain ⟨a, cp, rfl, hc1, hc2⟩ := hv.slice
  have HU := Lib.hid hv
  have HI : Hid (inside l n = l.any fun s => decide (s.1 ≤ n) && decide (n ≤ s.2)) := Lib.hid rfl
  clear hv
  go_enter Tryz.func71, Tryz.ntmps71
  go_wp2
  go_loopw [5] (fun v wr => ∃ k : Nat, k ≤ l.length ∧ v = .int .i64 k ∧ (∀ (j : Nat) (hj : j < l.length), j < k → (decide (l[j].1 ≤ n) && decide (n ≤ l[j].2)) = false) ∧ wr = w) (fun v _ => l.length - (intOf v).toNat)
  case atStart => exact ⟨0, Nat.zero_le _, rfl, fun j _ h => by omega, rfl⟩
  case round =>
    obtain ⟨k, hk, rfl, hkd, hw⟩ := hrel
    obtain rfl := hw.symm
    have HK := Lib.hid hkd
    clear hkd
    by_cases hlt : k < l.length
    · obtain ⟨bk, off, rfl, h0, h1⟩ := HU.out.span k hlt
      have h9 : (k : Int) < (l.length : Int) := by omega
      have HIT := Lib.hid (any_hit (q := fun s : Int × Int => decide (s.1 ≤ n) && decide (n ≤ s.2)) hlt)
      obtain ⟨⟨x, y⟩, hxy⟩ : ∃ s, l[k] = s := ⟨_, rfl⟩
      have HXY := Lib.hid hxy
      rw [hxy] at h0 h1 HIT
      dsimp only at h0 h1 HIT
      clear hxy
      by_cases hx : x ≤ n
      · have e1 := decide_eq_true hx
        by_cases hy : n ≤ y
        · have e2 := decide_eq_true hy
          have HV : Hid (inside l n = true) := Lib.hid (by rw [HI.out]; exact HIT.out (by rw [e1, e2]; rfl))
          clear HIT HXY
          go_wp2
          go_ret
          exact ⟨by rw [HV.out]; rfl, rfl⟩
        · have e2 := decide_eq_false hy
          have HG : Hid ((decide (x ≤ n) && decide (n ≤ y)) = false) := Lib.hid (by rw [e1, e2]; rfl)
          go_wp2
          go_roundw
          case measure => simp [intOf]; omega
          case rel => exact ⟨k + 1, by omega, by go_num, fun j hj hjk => by
            rcases Nat.lt_or_ge j k with h | h
            · exact HK.out j hj h
            · obtain rfl : j = k := by omega
              rw [HXY.out]; exact HG.out, (by first | rfl | trivial)⟩
      · have e1 := decide_eq_false hx
        have HG : Hid ((decide (x ≤ n) && decide (n ≤ y)) = false) := Lib.hid (by rw [e1]; rfl)
        go_wp2
        go_roundw
        case measure => simp [intOf]; omega
        case rel => exact ⟨k + 1, by omega, by go_num, fun j hj hjk => by
          rcases Nat.lt_or_ge j k with h | h
          · exact HK.out j hj h
          · obtain rfl : j = k := by omega
            rw [HXY.out]; exact HG.out, (by first | rfl | trivial)⟩
    · obtain rfl : k = l.length := by omega
      have h3 : ¬ (l.length : Int) < (l.length : Int) := by omega
      have HV : Hid (inside l n = false) := Lib.hid (by rw [HI.out]; exact any_take_miss (q := fun s : Int × Int => decide (s.1 ≤ n) && decide (n ≤ s.2)) HK.out)
      go_wp2
      go_ret
      exact ⟨by rw [HV.out]; rfl, rfl⟩
end Go.Proofs.YtnabklhkalnpiaaGreatDoor
