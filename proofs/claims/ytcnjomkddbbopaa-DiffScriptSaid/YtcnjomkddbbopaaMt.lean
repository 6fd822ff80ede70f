/- The reference's common part. -/
import Derived.Test.YtcnjomkddbbopaaMs
namespace Go.Proofs.Ytcnjomkddbbopaa
open Go.RowKit
set_option linter.unusedVariables false

def nxV : Option (Nat × Nat) → Value
  | some p => .tuple #[.int .i64 (p.1 : Int), .int .i64 (p.2 : Int)]
  | none => .tuple #[.int .i64 (-1), .int .i64 (-1)]
/-- What is left of row x from y on, and the rows behind it. -/
def restP (a b : List Str) (i j x y : Nat) : Option (Nat × Nat) := ((List.range' y (b.length - y)).map (fun y => (x, y)) ++ pairsFrom a.length b.length (x + 1) j).find? (okP a b i j)
theorem restP_start {a b : List Str} {i j x : Nat} (hx : x < a.length) : restP a b i j x j = (pairsFrom a.length b.length x j).find? (okP a b i j) := by
  unfold restP
  rw [pairsFrom_step hx]
theorem restP_end {a b : List Str} {i j x : Nat} : restP a b i j x b.length = (pairsFrom a.length b.length (x + 1) j).find? (okP a b i j) := by
  unfold restP
  simp
theorem restP_no {a b : List Str} {i j x y : Nat} (hy : y < b.length) (h : okP a b i j (x, y) = false) : restP a b i j x y = restP a b i j x (y + 1) := by
  unfold restP
  obtain ⟨k, hk⟩ : ∃ k, b.length - y = k + 1 := ⟨b.length - y - 1, by omega⟩
  rw [hk, List.range'_succ, show b.length - (y + 1) = k by omega, List.map_cons, List.cons_append, List.find?_cons, h]
theorem restP_yes {a b : List Str} {i j x y : Nat} (hy : y < b.length) (h : okP a b i j (x, y) = true) : restP a b i j x y = some (x, y) := by
  unfold restP
  obtain ⟨k, hk⟩ : ∃ k, b.length - y = k + 1 := ⟨b.length - y - 1, by omega⟩
  rw [hk, List.range'_succ, List.map_cons, List.cons_append, List.find?_cons, h]
theorem pairs_none {a b : List Str} {i j x : Nat} (hx : a.length ≤ x) : (pairsFrom a.length b.length x j).find? (okP a b i j) = none := by
  rw [List.find?_eq_none]
  intro p hp
  have := mem_pairsFrom.1 hp
  omega

set_option maxRecDepth 1000000 in
set_option maxHeartbeats 2000000 in
theorem next_any (va vb : Value) (a b : List Str) (T i j : Nat) (w : World) (ha : Rd 1 encT w va a) (hb : Rd 1 encT w vb b) (hT : Rws T a b 0 w) (hla : a.length ≤ 200) (hlb : b.length ≤ 200) (hi : i ≤ a.length) (hj : j ≤ b.length) :
    Calls Try.prog 29 #[va, vb, .slice (some ⟨T, 0, none⟩) (a.length + 1) (a.length + 1), .int .i64 i, .int .i64 j] w fun e w' => e = .returned (nxV (nxtP a b i j)) ∧ ∃ m, w' = w.drewN m := by
  obtain ⟨aa, ca, rfl, hca, hca2⟩ := ha.slice
  obtain ⟨ab, cb, rfl, hcb, hcb2⟩ := hb.slice
  have HA := Lib.hid ha
  have HB := Lib.hid hb
  have HT := Lib.hid hT
  clear ha hb hca hca2 hcb hcb2 hT
  go_enter Try.func29, Try.ntmps29
  go_wp2
  go_loopw [12] (fun v wr => ∃ x m : Nat, i ≤ x ∧ (x ≤ a.length ∨ x = i) ∧ v = .int .i64 x ∧ (pairsFrom a.length b.length x j).find? (okP a b i j) = nxtP a b i j ∧ wr = w.drewN m) (fun v _ => a.length - (intOf v).toNat)
  case atStart => exact ⟨i, 0, Nat.le_refl _, .inr rfl, rfl, rfl, rfl⟩
  case round =>
    obtain ⟨x, m, hix, hxa, rfl, hf, rfl⟩ := hrel
    have HF := Lib.hid hf
    clear hf
    by_cases hlt : x < a.length
    · have h3 : (x : Int) < (a.length : Int) := by omega
      go_wp2
      go_loopw [13] (fun v wx => ∃ y m2 : Nat, j ≤ y ∧ y ≤ b.length ∧ v = .int .i64 y ∧ restP a b i j x y = nxtP a b i j ∧ wx = w.drewN m2) (fun v _ => b.length - (intOf v).toNat)
      case atStart => exact ⟨j, m, Nat.le_refl _, hj, rfl, (restP_start hlt).trans HF.out, rfl⟩
      case round =>
        obtain ⟨y, m2, hjy, hyb, rfl, hp, rfl⟩ := hrel
        have HP := Lib.hid hp
        clear hp
        by_cases hlt2 : y < b.length
        · have g1 : (y : Int) < (b.length : Int) := by omega
          have g2 : (0 : Int) ≤ (x : Int) := by omega
          have g3 : (0 : Int) ≤ (y : Int) := by omega
          obtain ⟨ba, oa, rfl, x1⟩ := HA.out.str x hlt
          obtain ⟨bb, ob, rfl, x2⟩ := HB.out.str y hlt2
          have HOK := Lib.hid (okP_get (a := a) (b := b) (i := i) (j := j) (y := y) hlt)
          have HBY := Lib.hid (List.getElem?_eq_getElem hlt2)
          obtain ⟨s, hs⟩ : ∃ s, a[x] = s := ⟨_, rfl⟩
          obtain ⟨t, ht⟩ : ∃ t, b[y] = t := ⟨_, rfl⟩
          rw [hs] at x1 HOK
          rw [ht] at x2 HBY
          clear hs ht
          by_cases hst : s = t
          · subst hst
            obtain ⟨r1, c1, d1⟩ := HT.out.at_ (x + 1) (Nat.zero_le _) (by omega)
            obtain ⟨r2, c2, d2⟩ := HT.out.at_ i (Nat.zero_le _) hi
            have e1 := d1 (y + 1) (by omega)
            have e2 := d2 j hj
            have k1 := Lb_le a b (x + 1) (y + 1)
            have k2 := Lb_le a b i j
            have HL : Hid (okP a b i j (x, y) = true ↔ 1 + Lb a b (x + 1) (y + 1) = Lb a b i j) := Lib.hid (by
              rw [HOK.out, HBY.out]
              unfold Lb
              constructor
              · rintro ⟨_, h⟩; omega
              · intro h; exact ⟨rfl, by omega⟩)
            obtain ⟨n1, hn1⟩ : ∃ n, Lb a b (x + 1) (y + 1) = n := ⟨_, rfl⟩
            obtain ⟨n2, hn2⟩ : ∃ n, Lb a b i j = n := ⟨_, rfl⟩
            rw [hn1] at e1 k1 HL
            rw [hn2] at e2 k2 HL
            obtain ⟨k11, k12⟩ := k1
            obtain ⟨k21, k22⟩ := k2
            have q1 : (x : Int) + 1 < (a.length : Int) + 1 := by omega
            have q2 : (y : Int) + 1 < (b.length : Int) + 1 := by omega
            have q3 : (i : Int) < (a.length : Int) + 1 := by omega
            have q4 : (j : Int) < (b.length : Int) + 1 := by omega
            clear hn1 hn2 d1 d2
            by_cases hok : 1 + n1 = n2
            · have t1 : (1 + n1 == n2) = true := by rw [beq_iff_eq]; exact hok
              have HR : Hid (nxtP a b i j = some (x, y)) := Lib.hid (by rw [← HP.out]; exact restP_yes hlt2 (HL.out.2 hok))
              clear hok
              go_wp2_with fail
              go_quiet (fail)
              clear x1 x2 c1 c2 e1 e2
              go_wp2
              go_ret2
              rw [HR.out]
              exact ⟨rfl, by simp only [World.drewN_drewN]; exact ⟨_, rfl⟩⟩
            · have t1 : (1 + n1 == n2) = false := by rw [beq_eq_false_iff_ne]; exact hok
              have HR := Lib.hid ((restP_no hlt2 (by
                cases h : okP a b i j (x, y) with
                | false => rfl
                | true => exact absurd (HL.out.1 h) hok)).symm.trans HP.out)
              clear hok
              go_wp2_with fail
              go_quiet (fail)
              clear x1 x2 c1 c2 e1 e2
              go_wp2
              go_roundw
              case rel => exact ⟨y + 1, _, by omega, by omega, by go_num, HR.out, by first | rfl | (simp only [World.drewN_drewN]; rfl)⟩
              case measure => simp [intOf]; omega
          · obtain ⟨q1, q2⟩ := str_ne hst
            have HR := Lib.hid ((restP_no hlt2 (by
                cases h : okP a b i j (x, y) with
                | false => rfl
                | true =>
                  have := (HOK.out.1 h).1
                  rw [HBY.out] at this
                  exact absurd (Option.some.inj this).symm hst)).symm.trans HP.out)
            clear hst
            go_wp2_with fail
            go_quiet (fail)
            clear x1 x2
            go_wp2
            go_roundw
            case rel => exact ⟨y + 1, _, by omega, by omega, by go_num, HR.out, by first | rfl | (simp only [World.drewN_drewN]; rfl)⟩
            case measure => simp [intOf]; omega
        · obtain rfl : y = b.length := by omega
          have g1 : ¬ (b.length : Int) < (b.length : Int) := by omega
          have HR := Lib.hid (restP_end.symm.trans HP.out)
          go_wp2
          go_roundw
          case rel => exact ⟨x + 1, _, by omega, by omega, by go_num, HR.out, rfl⟩
          case measure => simp [intOf]; omega
    · have h3 : ¬ (x : Int) < (a.length : Int) := by omega
      have HR : Hid (nxtP a b i j = none) := Lib.hid (by rw [← HF.out]; exact pairs_none (by omega))
      go_wp2
      go_ret2
      rw [HR.out]
      exact ⟨rfl, _, rfl⟩

set_option maxRecDepth 1000000 in
set_option maxHeartbeats 2000000 in
theorem refCommon_any (va vb : Value) (a b : List Str) (w : World) (ha : Rd 1 encT w va a) (hb : Rd 1 encT w vb b) (hla : a.length ≤ 200) (hlb : b.length ≤ 200) :
    Calls Try.prog 13 #[va, vb] w fun e w' => ∃ v, e = .returned v ∧ Own1 2 encP w' w.heap.size 28 v (comm a b 0 0) ∧ Below w.heap.size w w' := by
  obtain ⟨aa, ca, rfl, hca, hca2⟩ := ha.slice
  obtain ⟨ab, cb, rfl, hcb, hcb2⟩ := hb.slice
  obtain ⟨iI, hiI, hzI, hkI, hbI⟩ := info_parts Try.infoPr
  have HA := Lib.hid ha
  have HB := Lib.hid hb
  clear ha hb hca hca2 hcb hcb2
  go_enter Try.func13, Try.ntmps13
  go_wp2_with fail
  refine (longest_any _ _ a b _ HA.out HB.out hla hlb).mono ?_
  rintro e w1 ⟨T, rfl, hT, b1⟩
  have HT := Lib.hid hT
  have HB1 := Lib.hid b1
  have A1 := Lib.hid (HA.out.below b1)
  have B1 := Lib.hid (HB.out.below b1)
  have z1 := b1.size
  clear hT b1
  go_wp2
  go_loopw [6, 7, 8] (fun v6 v7 v8 wr => ∃ (i j : Nat) (P : List (Nat × Nat)), v7 = .int .i64 i ∧ v8 = .int .i64 j ∧ i ≤ a.length ∧ j ≤ b.length ∧ Own1 2 encP wr w1.heap.size 28 v6 P ∧ P ++ comm a b i j = comm a b 0 0 ∧ P.length ≤ i ∧ Below w1.heap.size w1 wr) (fun _ v7 _ _ => a.length - (intOf v7).toNat)
  case atStart => exact ⟨0, 0, [], rfl, rfl, Nat.zero_le _, Nat.zero_le _, own1_nil _ _ _, rfl, Nat.le_refl _, Below.refl _ _⟩
  case round =>
    obtain ⟨i, j, P, rfl, rfl, hi, hj, hown, hP, hPi, hbw⟩ := hrel
    have HO := Lib.hid hown
    have HP := Lib.hid hP
    have HBW := Lib.hid hbw
    have zr := hbw.size
    clear hown hP hbw
    obtain ⟨ap, cp, hpv⟩ := HO.out.slice
    subst hpv
    go_wp2_with fail
    refine (next_any _ _ a b T i j _ (A1.out.below HBW.out) (B1.out.below HBW.out) (HT.out.below HBW.out) hla hlb hi hj).mono ?_
    rintro e w' ⟨rfl, m, rfl⟩
    cases hn : nxtP a b i j with
    | none =>
      have HC := Lib.hid (comm_none hn)
      clear hn
      unfold nxV
      go_wp2
      go_ret
      refine ⟨_, rfl, ?_, below_drewN (HB1.out.trans (HBW.out.mono z1)) _⟩
      have h := HP.out
      rw [HC.out, List.append_nil] at h
      rw [← h]
      exact (HO.out.below (below_drewN (Below.refl _ wr) m)).base z1
    | some p =>
      have HC := Lib.hid (comm_some hn)
      obtain ⟨h1, h2, h3, h4, _, _⟩ := nxtP_some hn
      obtain ⟨p1, p2⟩ := p
      clear hn
      simp only at h1 h2 h3 h4
      unfold nxV
      have g1 : ¬ (p1 : Int) < 0 := by omega
      have O1 := Lib.hid (HO.out.below (below_drewN (Below.refl _ wr) m))
      have BW1 := Lib.hid (below_drewN HBW.out m)
      dsimp only
      go_wp2_with (first | (at_builtin; refine wpList_append_at (w0 := wr.drewN m) (x := (p1, p2)) (N := wr.heap.size) rfl rfl _ _ 25 rfl w1.heap.size iI _ 16 Try.underlying25 hiI hzI hkI hbI (by omega) rfl (by omega) encP_len encP_one _ P rfl rfl O1.out rfl (by omega) zr ?_; intro v9 w9 y1 y2 y3) | go_in)
      have HY1 := Lib.hid y1
      have HY2 := Lib.hid y2
      clear y1 y2 y3
      go_wp2
      go_roundw
      case measure => simp [intOf]; omega
      case rel => exact ⟨p1 + 1, p2 + 1, _, by go_num, by go_num, by omega, by omega, HY1.out, by rw [← HP.out, HC.out, List.append_assoc]; rfl, by rw [List.length_append, List.length_singleton]; omega, BW1.out.trans HY2.out⟩
end Go.Proofs.Ytcnjomkddbbopaa
