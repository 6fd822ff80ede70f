/- distance.Cost. -/
import Derived.Test.YtbcpeoomkhcgnaaTm
namespace Go.Proofs.Ytbcpeoomkhcgnaa
open Go.RowKit
set_option linter.unusedVariables false

/-- What Cost answers. -/
def costV : Option Nat → Value
  | some n => .tuple #[.int .i64 n, .bool true]
  | none => .tuple #[.int .i64 0, .bool false]
theorem Rd.stp {w : World} {a : Option Addr} {n c : Nat} {l : List (Int × Int)} (h : Rd 2 encP w (.slice a n c) l) (i : Nat) (hi : i < l.length) : ∃ b off, a = some ⟨b, off, none⟩ ∧ w.cell? ⟨b, off + i * 2, none⟩ = some (.int .i64 (l[i].1)) ∧ w.cell? ⟨b, off + i * 2 + 1, none⟩ = some (.int .i64 (l[i].2)) := by
  obtain ⟨b, off, ha, _, hx⟩ := h.some_ i hi
  exact ⟨b, off, ha, hx 0 _ rfl, hx 1 _ rfl⟩
theorem four (p : Int) (i la : Nat) : (p = i ∧ i < la) ∨ (p = i ∧ ¬ i < la) ∨ (p ≠ i ∧ p = -1) ∨ (p ≠ i ∧ p ≠ -1) := by omega
set_option maxRecDepth 1000000 in
set_option maxHeartbeats 4000000 in
theorem cost_any (va vb vl : Value) (a b : List Str) (l : List (Int × Int)) (w : World) (ha : Rd 1 encT w va a) (hb : Rd 1 encT w vb b) (hl : Rd 2 encP w vl l) (hla : a.length ≤ 1000) (hlb : b.length ≤ 1000) (hll : l.length ≤ 10000) :
    Calls Try.prog 22 #[va, vb, vl] w fun e w' => e = .returned (costV (cst a b l 0 0 0)) ∧ Below w.heap.size w w' := by
  obtain ⟨aa, ca, rfl, hca, hca2⟩ := ha.slice
  obtain ⟨ab, cb, rfl, hcb, hcb2⟩ := hb.slice
  obtain ⟨al, cl, rfl, hcl, hcl2⟩ := hl.slice
  have HA := Lib.hid ha
  have HB := Lib.hid hb
  have HL := Lib.hid hl
  clear ha hb hl hca hca2 hcb hcb2 hcl hcl2
  obtain ⟨R, hR⟩ : ∃ R, cst a b l 0 0 0 = R := ⟨_, rfl⟩
  rw [hR]
  have HR := Lib.hid hR
  clear hR
  go_enter Try.func22, Try.ntmps22
  go_wp2
  go_loopw [8, 9, 10, 17] (fun v8 v9 v10 v17 wr => ∃ k i j n : Nat, k ≤ l.length ∧ i ≤ a.length ∧ j ≤ b.length ∧ n ≤ k ∧ v8 = .int .i64 n ∧ v9 = .int .i64 i ∧ v10 = .int .i64 j ∧ v17 = .int .i64 k ∧ cst a b (l.drop k) i j n = R ∧ Below w.heap.size w wr) (fun _ _ _ v17 _ => l.length - (intOf v17).toNat)
  case atStart => exact ⟨0, 0, 0, 0, Nat.zero_le _, Nat.zero_le _, Nat.zero_le _, Nat.le_refl _, rfl, rfl, rfl, rfl, by rw [List.drop_zero]; exact HR.out, Below.refl _ _⟩
  case round =>
    obtain ⟨k, i, j, n, hk, hi, hj, hn, rfl, rfl, rfl, rfl, hc, hbw⟩ := hrel
    have HBW := Lib.hid hbw
    have zr := hbw.size
    clear hbw
    by_cases hlt : k < l.length
    · have h3 : (k : Int) < (l.length : Int) := by omega
      have B1 : Below w.heap.size w wr := HBW.out
      obtain ⟨bl, ol, rfl, c0, c1⟩ := (HL.out.below B1).stp k hlt
      rw [List.drop_eq_getElem_cons hlt] at hc
      obtain ⟨x, hx⟩ : ∃ x, l[k] = x := ⟨_, rfl⟩
      rw [hx] at hc c0 c1
      obtain ⟨p, q⟩ := x
      dsimp only at c0 c1
      have HC := Lib.hid hc
      have HX := Lib.hid hx
      obtain ⟨W1, hW1⟩ : ∃ W1, wr.alloc (.cells #[.int .i64 p, .int .i64 q] 37) = W1 := ⟨_, rfl⟩
      have hBX : Blk wr.heap.size 37 #[.int .i64 p, .int .i64 q] W1 := by rw [← hW1]; exact Blk.new _ _ _
      have hB2 : Below w.heap.size w W1 := by rw [← hW1]; exact B1.alloc zr _
      have x0 : W1.cell? ⟨wr.heap.size, 0, none⟩ = some (.int .i64 p) := hBX.cell 0
      have x1 : W1.cell? ⟨wr.heap.size, 1, none⟩ = some (.int .i64 q) := hBX.cell 1
      have HB2 := Lib.hid hB2
      have HW1 := Lib.hid hW1
      have x0' : (wr.alloc (.cells #[.int .i64 p, .int .i64 q] 37)).cell? ⟨wr.heap.size, 0, none⟩ = some (.int .i64 p) := by rw [HW1.out]; exact x0
      have x1' : (wr.alloc (.cells #[.int .i64 p, .int .i64 q] 37)).cell? ⟨wr.heap.size, 1, none⟩ = some (.int .i64 q) := by rw [HW1.out]; exact x1
      clear hc hx B1 hBX hB2 hW1
      rcases four p i a.length with hA | hA | hA | hA
      · rcases four q j b.length with hB | hB | hB | hB
        · have tA : (p == (i : Int)) = true := by rw [beq_iff_eq]; omega
          have tA2 : (i : Int) < (a.length : Int) := by omega
          have tA3 : (p == -1) = false := by rw [beq_eq_false_iff_ne]; omega
          have tB : (q == (j : Int)) = true := by rw [beq_iff_eq]; omega
          have tB2 : (j : Int) < (b.length : Int) := by omega
          have tB3 : (q == -1) = false := by rw [beq_eq_false_iff_ne]; omega
          obtain ⟨ba, oa, rfl, sa⟩ := (HA.out.below HB2.out).str i hA.2
          obtain ⟨bb, ob, rfl, sb⟩ := (HB.out.below HB2.out).str j hB.2
          have HN : Hid (cst a b (l.drop (k + 1)) (i + 1) (j + 1) (n + prc (a[i]'hA.2) (b[j]'hB.2)) = R) := Lib.hid (by
            have h := HC.out
            rw [hA.1, hB.1, cst_pair hA.2 hB.2] at h
            exact h)
          obtain ⟨s, hs⟩ : ∃ s, a[i]'hA.2 = s := ⟨_, rfl⟩
          obtain ⟨t, ht⟩ : ∃ t, b[j]'hB.2 = t := ⟨_, rfl⟩
          rw [hs] at sa HN
          rw [ht] at sb HN
          have hpl := prc_le s t
          obtain ⟨pr, hpr⟩ : ∃ pr, prc s t = pr := ⟨_, rfl⟩
          have HPR : Hid (∀ wz, Calls Try.prog 29 #[.string (ofL s), .string (ofL t)] wz fun e w' => e = .returned (.int .i64 (pr : Int)) ∧ w' = wz) := Lib.hid (fun wz => by rw [← hpr]; exact price_any s t wz)
          rw [hpr] at HN hpl
          have HA1 := Lib.hid hA
          have HB1 := Lib.hid hB
          have sa' : (wr.alloc (.cells #[.int .i64 p, .int .i64 q] 37)).cell? ⟨ba, oa + i, none⟩ = some (.string (ofL s)) := by rw [HW1.out]; exact sa
          have sb' : (wr.alloc (.cells #[.int .i64 p, .int .i64 q] 37)).cell? ⟨bb, ob + j, none⟩ = some (.string (ofL t)) := by rw [HW1.out]; exact sb
          clear hs ht hpr hA hB x0 x1 sa sb
          go_wp2_with fail
          go_quiet ((go_at_call 29; refine Calls.quiet_of_same (HPR.out _)))
          go_wp2
          go_roundw
          case rel => exact ⟨k + 1, i + 1, j + 1, n + pr, by omega, by have := HA1.out.2; omega, by have := HB1.out.2; omega, by omega, by first | (go_num; done) | exact val_int (by omega), by go_num, by go_num, by go_num, HN.out, by rw [HW1.out]; exact below_drewN HB2.out _⟩
          case measure => simp [intOf]; omega
        · have tA : (p == (i : Int)) = true := by rw [beq_iff_eq]; omega
          have tA2 : (i : Int) < (a.length : Int) := by omega
          have tA3 : (p == -1) = false := by rw [beq_eq_false_iff_ne]; omega
          have tB : (q == (j : Int)) = true := by rw [beq_iff_eq]; omega
          have tB2 : ¬ (j : Int) < (b.length : Int) := by omega
          have tB3 : (q == -1) = false := by rw [beq_eq_false_iff_ne]; omega
          have HN : Hid (R = none) := Lib.hid (by rw [← HC.out]; exact cst_none (by omega) (by omega) (by omega))
          clear hA hB x0 x1
          go_wp2
          go_ret2
          exact ⟨by rw [HN.out]; rfl, by rw [HW1.out]; exact HB2.out⟩
        · have tA : (p == (i : Int)) = true := by rw [beq_iff_eq]; omega
          have tA2 : (i : Int) < (a.length : Int) := by omega
          have tA3 : (p == -1) = false := by rw [beq_eq_false_iff_ne]; omega
          have tB : (q == (j : Int)) = false := by rw [beq_eq_false_iff_ne]; omega
          have tB3 : (q == -1) = true := by rw [beq_iff_eq]; omega
          have HN : Hid (cst a b (l.drop (k + 1)) (i + 1) j (n + 1) = R) := Lib.hid (by
            have h := HC.out
            rw [hA.1, hB.2, cst_del hA.2] at h
            exact h)
          have HA1 := Lib.hid hA
          clear hA hB x0 x1
          go_wp2
          go_roundw
          case rel => exact ⟨k + 1, i + 1, j, n + 1, by omega, by have := HA1.out.2; omega, by omega, by omega, by go_num, by go_num, rfl, by go_num, HN.out, by rw [HW1.out]; exact HB2.out⟩
          case measure => simp [intOf]; omega
        · have tA : (p == (i : Int)) = true := by rw [beq_iff_eq]; omega
          have tA2 : (i : Int) < (a.length : Int) := by omega
          have tA3 : (p == -1) = false := by rw [beq_eq_false_iff_ne]; omega
          have tB : (q == (j : Int)) = false := by rw [beq_eq_false_iff_ne]; omega
          have tB3 : (q == -1) = false := by rw [beq_eq_false_iff_ne]; omega
          have HN : Hid (R = none) := Lib.hid (by rw [← HC.out]; exact cst_none (by omega) (by omega) (by omega))
          clear hA hB x0 x1
          go_wp2
          go_ret2
          exact ⟨by rw [HN.out]; rfl, by rw [HW1.out]; exact HB2.out⟩
      · rcases four q j b.length with hB | hB | hB | hB
        · have tA : (p == (i : Int)) = true := by rw [beq_iff_eq]; omega
          have tA2 : ¬ (i : Int) < (a.length : Int) := by omega
          have tA3 : (p == -1) = false := by rw [beq_eq_false_iff_ne]; omega
          have tB : (q == (j : Int)) = true := by rw [beq_iff_eq]; omega
          have tB2 : (j : Int) < (b.length : Int) := by omega
          have tB3 : (q == -1) = false := by rw [beq_eq_false_iff_ne]; omega
          have HN : Hid (R = none) := Lib.hid (by rw [← HC.out]; exact cst_none (by omega) (by omega) (by omega))
          clear hA hB x0 x1
          go_wp2
          go_ret2
          exact ⟨by rw [HN.out]; rfl, by rw [HW1.out]; exact HB2.out⟩
        · have tA : (p == (i : Int)) = true := by rw [beq_iff_eq]; omega
          have tA2 : ¬ (i : Int) < (a.length : Int) := by omega
          have tA3 : (p == -1) = false := by rw [beq_eq_false_iff_ne]; omega
          have tB : (q == (j : Int)) = true := by rw [beq_iff_eq]; omega
          have tB2 : ¬ (j : Int) < (b.length : Int) := by omega
          have tB3 : (q == -1) = false := by rw [beq_eq_false_iff_ne]; omega
          have HN : Hid (R = none) := Lib.hid (by rw [← HC.out]; exact cst_none (by omega) (by omega) (by omega))
          clear hA hB x0 x1
          go_wp2
          go_ret2
          exact ⟨by rw [HN.out]; rfl, by rw [HW1.out]; exact HB2.out⟩
        · have tA : (p == (i : Int)) = true := by rw [beq_iff_eq]; omega
          have tA2 : ¬ (i : Int) < (a.length : Int) := by omega
          have tA3 : (p == -1) = false := by rw [beq_eq_false_iff_ne]; omega
          have tB : (q == (j : Int)) = false := by rw [beq_eq_false_iff_ne]; omega
          have tB3 : (q == -1) = true := by rw [beq_iff_eq]; omega
          have HN : Hid (R = none) := Lib.hid (by rw [← HC.out]; exact cst_none (by omega) (by omega) (by omega))
          clear hA hB x0 x1
          go_wp2
          go_ret2
          exact ⟨by rw [HN.out]; rfl, by rw [HW1.out]; exact HB2.out⟩
        · have tA : (p == (i : Int)) = true := by rw [beq_iff_eq]; omega
          have tA2 : ¬ (i : Int) < (a.length : Int) := by omega
          have tA3 : (p == -1) = false := by rw [beq_eq_false_iff_ne]; omega
          have tB : (q == (j : Int)) = false := by rw [beq_eq_false_iff_ne]; omega
          have tB3 : (q == -1) = false := by rw [beq_eq_false_iff_ne]; omega
          have HN : Hid (R = none) := Lib.hid (by rw [← HC.out]; exact cst_none (by omega) (by omega) (by omega))
          clear hA hB x0 x1
          go_wp2
          go_ret2
          exact ⟨by rw [HN.out]; rfl, by rw [HW1.out]; exact HB2.out⟩
      · rcases four q j b.length with hB | hB | hB | hB
        · have tA : (p == (i : Int)) = false := by rw [beq_eq_false_iff_ne]; omega
          have tA3 : (p == -1) = true := by rw [beq_iff_eq]; omega
          have tB : (q == (j : Int)) = true := by rw [beq_iff_eq]; omega
          have tB2 : (j : Int) < (b.length : Int) := by omega
          have tB3 : (q == -1) = false := by rw [beq_eq_false_iff_ne]; omega
          have HN : Hid (cst a b (l.drop (k + 1)) i (j + 1) (n + 1) = R) := Lib.hid (by
            have h := HC.out
            rw [hB.1, hA.2, cst_ins hB.2] at h
            exact h)
          have HB1 := Lib.hid hB
          clear hA hB x0 x1
          go_wp2
          go_roundw
          case rel => exact ⟨k + 1, i, j + 1, n + 1, by omega, by omega, by have := HB1.out.2; omega, by omega, by go_num, rfl, by go_num, by go_num, HN.out, by rw [HW1.out]; exact HB2.out⟩
          case measure => simp [intOf]; omega
        · have tA : (p == (i : Int)) = false := by rw [beq_eq_false_iff_ne]; omega
          have tA3 : (p == -1) = true := by rw [beq_iff_eq]; omega
          have tB : (q == (j : Int)) = true := by rw [beq_iff_eq]; omega
          have tB2 : ¬ (j : Int) < (b.length : Int) := by omega
          have tB3 : (q == -1) = false := by rw [beq_eq_false_iff_ne]; omega
          have HN : Hid (R = none) := Lib.hid (by rw [← HC.out]; exact cst_none (by omega) (by omega) (by omega))
          clear hA hB x0 x1
          go_wp2
          go_ret2
          exact ⟨by rw [HN.out]; rfl, by rw [HW1.out]; exact HB2.out⟩
        · have tA : (p == (i : Int)) = false := by rw [beq_eq_false_iff_ne]; omega
          have tA3 : (p == -1) = true := by rw [beq_iff_eq]; omega
          have tB : (q == (j : Int)) = false := by rw [beq_eq_false_iff_ne]; omega
          have tB3 : (q == -1) = true := by rw [beq_iff_eq]; omega
          have HN : Hid (R = none) := Lib.hid (by rw [← HC.out]; exact cst_none (by omega) (by omega) (by omega))
          clear hA hB x0 x1
          go_wp2
          go_ret2
          exact ⟨by rw [HN.out]; rfl, by rw [HW1.out]; exact HB2.out⟩
        · have tA : (p == (i : Int)) = false := by rw [beq_eq_false_iff_ne]; omega
          have tA3 : (p == -1) = true := by rw [beq_iff_eq]; omega
          have tB : (q == (j : Int)) = false := by rw [beq_eq_false_iff_ne]; omega
          have tB3 : (q == -1) = false := by rw [beq_eq_false_iff_ne]; omega
          have HN : Hid (R = none) := Lib.hid (by rw [← HC.out]; exact cst_none (by omega) (by omega) (by omega))
          clear hA hB x0 x1
          go_wp2
          go_ret2
          exact ⟨by rw [HN.out]; rfl, by rw [HW1.out]; exact HB2.out⟩
      · rcases four q j b.length with hB | hB | hB | hB
        · have tA : (p == (i : Int)) = false := by rw [beq_eq_false_iff_ne]; omega
          have tA3 : (p == -1) = false := by rw [beq_eq_false_iff_ne]; omega
          have tB : (q == (j : Int)) = true := by rw [beq_iff_eq]; omega
          have tB2 : (j : Int) < (b.length : Int) := by omega
          have tB3 : (q == -1) = false := by rw [beq_eq_false_iff_ne]; omega
          have HN : Hid (R = none) := Lib.hid (by rw [← HC.out]; exact cst_none (by omega) (by omega) (by omega))
          clear hA hB x0 x1
          go_wp2
          go_ret2
          exact ⟨by rw [HN.out]; rfl, by rw [HW1.out]; exact HB2.out⟩
        · have tA : (p == (i : Int)) = false := by rw [beq_eq_false_iff_ne]; omega
          have tA3 : (p == -1) = false := by rw [beq_eq_false_iff_ne]; omega
          have tB : (q == (j : Int)) = true := by rw [beq_iff_eq]; omega
          have tB2 : ¬ (j : Int) < (b.length : Int) := by omega
          have tB3 : (q == -1) = false := by rw [beq_eq_false_iff_ne]; omega
          have HN : Hid (R = none) := Lib.hid (by rw [← HC.out]; exact cst_none (by omega) (by omega) (by omega))
          clear hA hB x0 x1
          go_wp2
          go_ret2
          exact ⟨by rw [HN.out]; rfl, by rw [HW1.out]; exact HB2.out⟩
        · have tA : (p == (i : Int)) = false := by rw [beq_eq_false_iff_ne]; omega
          have tA3 : (p == -1) = false := by rw [beq_eq_false_iff_ne]; omega
          have tB : (q == (j : Int)) = false := by rw [beq_eq_false_iff_ne]; omega
          have tB3 : (q == -1) = true := by rw [beq_iff_eq]; omega
          have HN : Hid (R = none) := Lib.hid (by rw [← HC.out]; exact cst_none (by omega) (by omega) (by omega))
          clear hA hB x0 x1
          go_wp2
          go_ret2
          exact ⟨by rw [HN.out]; rfl, by rw [HW1.out]; exact HB2.out⟩
        · have tA : (p == (i : Int)) = false := by rw [beq_eq_false_iff_ne]; omega
          have tA3 : (p == -1) = false := by rw [beq_eq_false_iff_ne]; omega
          have tB : (q == (j : Int)) = false := by rw [beq_eq_false_iff_ne]; omega
          have tB3 : (q == -1) = false := by rw [beq_eq_false_iff_ne]; omega
          have HN : Hid (R = none) := Lib.hid (by rw [← HC.out]; exact cst_none (by omega) (by omega) (by omega))
          clear hA hB x0 x1
          go_wp2
          go_ret2
          exact ⟨by rw [HN.out]; rfl, by rw [HW1.out]; exact HB2.out⟩
    · obtain rfl : k = l.length := by omega
      have h3 : ¬ (l.length : Int) < (l.length : Int) := by omega
      rw [List.drop_length] at hc
      by_cases hia : i < a.length
      · have HN : Hid (R = none) := Lib.hid (by rw [← hc]; exact cst_short (by omega))
        have t1 : (i : Int) < (a.length : Int) := by omega
        clear hc
        go_wp2
        go_ret2
        exact ⟨by rw [HN.out]; rfl, HBW.out⟩
      · by_cases hjb : j < b.length
        · have HN : Hid (R = none) := Lib.hid (by rw [← hc]; exact cst_short (by omega))
          have t1 : ¬ (i : Int) < (a.length : Int) := by omega
          have t2 : (j : Int) < (b.length : Int) := by omega
          clear hc
          go_wp2
          go_ret2
          exact ⟨by rw [HN.out]; rfl, HBW.out⟩
        · obtain rfl : i = a.length := by omega
          obtain rfl : j = b.length := by omega
          have HN : Hid (R = some n) := Lib.hid (by rw [← hc]; exact cst_end)
          have t1 : ¬ (a.length : Int) < (a.length : Int) := by omega
          have t2 : ¬ (b.length : Int) < (b.length : Int) := by omega
          clear hc
          go_wp2
          go_ret2
          exact ⟨by rw [HN.out]; rfl, HBW.out⟩
end Go.Proofs.Ytbcpeoomkhcgnaa
