/- The reference's Align. -/
import Derived.Test.YtbcpeoomkhcgnaaTw
namespace Go.Proofs.Ytbcpeoomkhcgnaa
open Go.RowKit
set_option linter.unusedVariables false

theorem Try.infoSr : (Try.prog.info? 36).map (fun i => (i.zero, i.size, i.bytes)) = some (some (.agg #[.int .i64 0, .int .i64 0]), 2, 16) := by kernel_rfl
theorem own_one (w : World) (base : Nat) (x : Int × Int) (hb : base ≤ w.heap.size) : Own1 2 encP (w.alloc (.cells #[.int .i64 x.1, .int .i64 x.2] 36)) base 36 (.slice (some ⟨w.heap.size, 0, none⟩) 1 1) [x] :=
  ⟨by simp [encP], .inr ⟨w.heap.size, 1, _, rfl, hb, heap_alloc_new w _, Nat.le_refl _, by decide, rfl, by simp [encP]⟩⟩
theorem grown_set (W : World) (b i : Nat) (v : Value) : W.grownBy (W.setCell ⟨b, i, none⟩ v) (some b) :=
  ⟨rfl, rfl, rfl, by simp [World.setCell], fun k _ hk => Below.heap_setCell _ _ _ _ (fun e => hk (by rw [e]))⟩
set_option maxRecDepth 1000000 in
set_option maxHeartbeats 4000000 in
theorem refAlign_any (va vb : Value) (a b : List Str) (w : World) (ha : Rd 1 encT w va a) (hb : Rd 1 encT w vb b) (hla : a.length ≤ 400) (hlb : b.length ≤ 400) :
    Calls Try.prog 21 #[va, vb] w fun e w' => (∃ v, e = .returned v ∧ Own1 2 encP w' w.heap.size 36 v (tr a b a.length b.length).reverse) ∧ Below w.heap.size w w' := by
  obtain ⟨aa, ca, rfl, hca, hca2⟩ := ha.slice
  obtain ⟨ab, cb, rfl, hcb, hcb2⟩ := hb.slice
  obtain ⟨iI, hiI, hzI, hkI, hbI⟩ := info_parts Try.infoSr
  have HA := Lib.hid ha
  have HB := Lib.hid hb
  clear ha hb hca hca2 hcb hcb2
  go_enter Try.func21, Try.ntmps21
  go_wp2_with fail
  refine (long_no aa a.length ca ab b.length cb hla hlb _).mono ?_
  rintro e w' ⟨rfl, hw'⟩
  obtain rfl := hw'.symm
  go_wp2_with fail
  refine (table_any _ _ a b _ HA.out HB.out hla hlb).mono ?_
  rintro e W ⟨T, rfl, hr, hbw⟩
  have HBW := Lib.hid hbw
  have zW := hbw.size
  have HTAB : Hid (∀ wx, Below W.heap.size W wx → ∀ i, i ≤ a.length → ∃ r, wx.cell? ⟨T, i, none⟩ = some (.slice (some ⟨r, 0, none⟩) (b.length + 1) (b.length + 1)) ∧ ∀ y, y ≤ b.length → wx.cell? ⟨r, y, none⟩ = some (.int .i64 (D a b i y : Int))) := Lib.hid (fun wx hx i hi => (hr.below hx).at_ i (by omega))
  clear hr hbw
  go_wp2
  go_loopw [6, 7, 8] (fun v6 v7 v8 wr => ∃ (i j : Nat) (L : List (Int × Int)), i ≤ a.length ∧ j ≤ b.length ∧ v7 = .int .i64 i ∧ v8 = .int .i64 j ∧ Own1 2 encP wr W.heap.size 36 v6 L ∧ (tr a b i j).reverse ++ L = (tr a b a.length b.length).reverse ∧ Below W.heap.size W wr) (fun _ v7 v8 _ => (intOf v7).toNat + (intOf v8).toNat)
  case atStart => exact ⟨a.length, b.length, [], Nat.le_refl _, Nat.le_refl _, rfl, rfl, own1_nil _ _ _, by rw [List.append_nil], Below.refl _ _⟩
  case round =>
    obtain ⟨i, j, L, hi, hj, rfl, rfl, hown, hL, hbw⟩ := hrel
    have HO := Lib.hid hown
    have HL := Lib.hid hL
    have HB1 := Lib.hid hbw
    have zr := hbw.size
    have hLl : L.length ≤ 800 := by
      have e1 := congrArg List.length hL
      have e2 := tr_length (a := a) (b := b) _ a.length b.length (Nat.le_refl _)
      rw [List.length_append, List.length_reverse, List.length_reverse] at e1
      omega
    obtain ⟨av, cv, hav⟩ := hown.slice
    obtain ⟨n7, hn7⟩ : ∃ n7, L.length = n7 := ⟨_, rfl⟩
    rw [hn7] at hav hLl
    subst hav
    have HN7 := Lib.hid hn7
    clear hown hL hn7
    rcases Nat.eq_zero_or_pos (i + j) with h0 | h0
    · obtain rfl : i = 0 := by omega
      obtain rfl : j = 0 := by omega
      have HR : Hid ((tr a b a.length b.length).reverse = L) := Lib.hid (by rw [← HL.out, tr_zero]; rfl)
      clear hbw
      go_wp2
      go_ret
      refine ⟨⟨_, rfl, ?_⟩, HBW.out.trans (HB1.out.mono zW)⟩
      rw [HR.out]
      exact HO.out.base zW
    · obtain ⟨W1, hW1⟩ : ∃ W1, wr.alloc (.cells #[.int .i64 0, .int .i64 0] 36) = W1 := ⟨_, rfl⟩
      have B1 : Below W.heap.size W W1 := by rw [← hW1]; exact hbw.alloc zr _
      have kS : Blk wr.heap.size 36 #[.int .i64 0, .int .i64 0] W1 := by rw [← hW1]; exact Blk.new _ _ _
      have O1 : Own1 2 encP W1 W.heap.size 36 (.slice av n7 cv) L := by rw [← hW1]; exact HO.out.below ((Below.refl _ wr).alloc (Nat.le_refl _) _)
      have zW1 : W1.heap.size = wr.heap.size + 1 := by rw [← hW1]; simp
      have nS : ∀ g, (Value.slice av n7 cv).ownBlock = some g → g < wr.heap.size := fun g hg => (HO.out.lt_ g hg).2
      have A1 := (HA.out.below HBW.out).below (B1.mono (Nat.le_refl _))
      have B2 := (HB.out.below HBW.out).below (B1.mono (Nat.le_refl _))
      obtain ⟨S, hS⟩ : ∃ S, wr.heap.size = S := ⟨_, rfl⟩
      have HW1 := Lib.hid hW1
      have HS := Lib.hid hS
      rw [hS] at kS zW1 nS
      have HBX := Lib.hid B1
      have HKS := Lib.hid kS
      have HOX := Lib.hid O1
      have hSW : W.heap.size ≤ S := by omega
      have HNS := Lib.hid nS
      have s0 : W1.cell? ⟨S, 0, none⟩ = some (.int .i64 0) := kS.cell 0
      have s1 : W1.cell? ⟨S, 1, none⟩ = some (.int .i64 0) := kS.cell 1
      have fs0 := kS.frozen 0
      have fs1 := kS.frozen 1
      clear O1 hW1 hS kS nS zr hbw
      rcases tr_cases hi hj h0 with ⟨p, q, rfl, rfl, hp, hq, hD1⟩ | ⟨p, rfl, hp, hne, hD1⟩ | ⟨q, rfl, hq, hne, hne2, hD1⟩
      · have HTR := Lib.hid (tr_pair hp hq hD1)
        have HSM := Lib.hid (D_same hp hq)
        obtain ⟨ba, oa, rfl, sa⟩ := A1.str p hp
        obtain ⟨bb, ob, rfl, sb⟩ := B2.str q hq
        obtain ⟨s, hs⟩ : ∃ s, a[p] = s := ⟨_, rfl⟩
        obtain ⟨t, ht⟩ : ∃ t, b[q] = t := ⟨_, rfl⟩
        rw [hs] at sa
        rw [ht] at sb
        rw [hs, ht] at hD1
        obtain ⟨g1, cg1, rg1⟩ := HTAB.out W1 B1 (p + 1) (by omega)
        have dx1 := rg1 (q + 1) (by omega)
        obtain ⟨x1, hx1⟩ : ∃ x, D a b (p + 1) (q + 1) = x := ⟨_, rfl⟩
        have lx1 := D_le a b (p + 1) (q + 1)
        rw [hx1] at dx1 lx1
        obtain ⟨g0, cg0, rg0⟩ := HTAB.out W1 B1 (p) (by omega)
        have dx0 := rg0 (q) (by omega)
        obtain ⟨x0, hx0⟩ : ∃ x, D a b (p) (q) = x := ⟨_, rfl⟩
        have lx0 := D_le a b (p) (q)
        rw [hx0] at dx0 lx0
        rw [hx1, hx0] at hD1
        have e8 : ((p + 1 : Nat) : Int) = (p : Int) + 1 := by omega
        have e9 : ((q + 1 : Nat) : Int) = (q : Int) + 1 := by omega
        rw [e8, e9]
        have q1 : (0 : Int) < (p : Int) + 1 := by omega
        have q3 : (p : Int) + 1 < (a.length : Int) + 1 := by omega
        have q5 : (p : Int) < (a.length : Int) + 1 := by omega
        have q7 : (p : Int) < (a.length : Int) := by omega
        have q9 : (p : Int) + 1 - 1 = (p : Int) := by omega
        have q2 : (0 : Int) < (q : Int) + 1 := by omega
        have q4 : (q : Int) + 1 < (b.length : Int) + 1 := by omega
        have q6 : (q : Int) < (b.length : Int) + 1 := by omega
        have q8 : (q : Int) < (b.length : Int) := by omega
        have q10 : (q : Int) + 1 - 1 = (q : Int) := by omega
        by_cases hst : s = t
        · have hpr : prc s t = 0 := if_pos hst
          rw [hpr] at hD1
          have t1 : ((x1 : Int) == (x0 : Int)) = true := by rw [beq_iff_eq]; omega
          have t2 : (x1 == x0) = true := by rw [beq_iff_eq]; omega
          subst hst
          clear hx1 hx0 hD1 hs ht hpr rg1 rg0 A1 B2 B1 HSM e8 e9
          go_upto_region 10 with fail
          rw [HS.out, HW1.out]
          go_wp2_with fail
          go_quiet (fail)
          clear sa sb cg1 dx1 cg0 dx0 t1 t2 q3 q4 q5 q6 q7 q8
          go_upto_region 17 with fail
          obtain ⟨W3, hW3⟩ : ∃ W3, ((W1.drewN nq).setCell ⟨S, 0, none⟩ (.int .i64 (p))).setCell ⟨S, 1, none⟩ (.int .i64 (q)) = W3 := ⟨_, rfl⟩
          rw [hW3]
          have K3 : Blk S 36 #[.int .i64 (p), .int .i64 (q)] W3 := by rw [← hW3]; exact ((HKS.out.below (below_drewN (Below.refl _ _) _)).put 0 _).put 1 _
          have B3 : Below W.heap.size W W3 := by rw [← hW3]; exact ((below_drewN HBX.out _).setCell (p := ⟨S, 0, none⟩) hSW _).setCell (p := ⟨S, 1, none⟩) hSW _
          have O3 : Own1 2 encP W3 W.heap.size 36 (.slice av n7 cv) L := by
            rw [← hW3]
            refine own_grown (row := some S) (own_grown (row := some S) (HOX.out.below (below_drewN (Below.refl _ _) _)) (grown_set _ _ _ _) (fun g hg e => by cases e; have := HNS.out _ hg; omega)) (grown_set _ _ _ _) (fun g hg e => by cases e; have := HNS.out _ hg; omega)
          have z3 := B3.size
          have zs0 := K3.cell 0
          have zs1 := K3.cell 1
          have E1 := Lib.hid (own_one W3 W.heap.size (p, q) z3)
          have R3 := Lib.hid ((O3.rd encP_len).alloc (.cells #[.int .i64 (p), .int .i64 (q)] 36))
          have HB3 := Lib.hid (B3.alloc z3 (.cells #[.int .i64 (p), .int .i64 (q)] 36))
          have zA := HB3.out.size
          clear hW3 B3 O3 K3
          go_wp2_with (at_builtin; refine wpList_append_rd rfl _ _ 33 rfl W.heap.size iI _ 16 Try.underlying33 hiI hzI hkI hbI (by omega) rfl (by omega) encP_len encP_one _ [(p, q)] L _ rfl E1.out rfl R3.out (by have := HN7.out; simp; omega) zA ?_; intro v9 w9 y1 y2)
          have HY1 := Lib.hid y1
          have HY2 := Lib.hid (HB3.out.trans y2)
          clear y1 y2
          go_wp2
          go_roundw
          case rel => exact ⟨p, q, _, by omega, by omega, by go_num, by go_num, HY1.out, by rw [← HL.out, HTR.out, List.reverse_cons, List.append_assoc], HY2.out⟩
          case measure => simp [intOf] <;> omega
        · have hpr : prc s t = 1 := if_neg hst
          rw [hpr] at hD1
          have t1 : ((x1 : Int) == (x0 : Int) + 1) = true := by rw [beq_iff_eq]; omega
          obtain ⟨t3, t4⟩ := str_ne hst
          clear hx1 hx0 hD1 hs ht hpr rg1 rg0 A1 B2 B1 HSM hst e8 e9
          go_upto_region 10 with fail
          rw [HS.out, HW1.out]
          go_wp2_with fail
          go_quiet (fail)
          revert nq
          intro nq1
          go_wp2_with fail
          go_quiet (fail)
          clear sa sb cg1 dx1 cg0 dx0 t1 t3 t4 q3 q4 q5 q6 q7 q8
          go_upto_region 17 with fail
          obtain ⟨W3, hW3⟩ : ∃ W3, ((W1.drewN (nq1 + nq)).setCell ⟨S, 0, none⟩ (.int .i64 (p))).setCell ⟨S, 1, none⟩ (.int .i64 (q)) = W3 := ⟨_, rfl⟩
          rw [hW3]
          have K3 : Blk S 36 #[.int .i64 (p), .int .i64 (q)] W3 := by rw [← hW3]; exact ((HKS.out.below (below_drewN (Below.refl _ _) _)).put 0 _).put 1 _
          have B3 : Below W.heap.size W W3 := by rw [← hW3]; exact ((below_drewN HBX.out _).setCell (p := ⟨S, 0, none⟩) hSW _).setCell (p := ⟨S, 1, none⟩) hSW _
          have O3 : Own1 2 encP W3 W.heap.size 36 (.slice av n7 cv) L := by
            rw [← hW3]
            refine own_grown (row := some S) (own_grown (row := some S) (HOX.out.below (below_drewN (Below.refl _ _) _)) (grown_set _ _ _ _) (fun g hg e => by cases e; have := HNS.out _ hg; omega)) (grown_set _ _ _ _) (fun g hg e => by cases e; have := HNS.out _ hg; omega)
          have z3 := B3.size
          have zs0 := K3.cell 0
          have zs1 := K3.cell 1
          have E1 := Lib.hid (own_one W3 W.heap.size (p, q) z3)
          have R3 := Lib.hid ((O3.rd encP_len).alloc (.cells #[.int .i64 (p), .int .i64 (q)] 36))
          have HB3 := Lib.hid (B3.alloc z3 (.cells #[.int .i64 (p), .int .i64 (q)] 36))
          have zA := HB3.out.size
          clear hW3 B3 O3 K3
          go_wp2_with (at_builtin; refine wpList_append_rd rfl _ _ 33 rfl W.heap.size iI _ 16 Try.underlying33 hiI hzI hkI hbI (by omega) rfl (by omega) encP_len encP_one _ [(p, q)] L _ rfl E1.out rfl R3.out (by have := HN7.out; simp; omega) zA ?_; intro v9 w9 y1 y2)
          have HY1 := Lib.hid y1
          have HY2 := Lib.hid (HB3.out.trans y2)
          clear y1 y2
          go_wp2
          go_roundw
          case rel => exact ⟨p, q, _, by omega, by omega, by go_num, by go_num, HY1.out, by rw [← HL.out, HTR.out, List.reverse_cons, List.append_assoc], HY2.out⟩
          case measure => simp [intOf] <;> omega
      · rcases j with _ | q
        · have HTR := Lib.hid (tr_del hne hD1)
          clear hne
          obtain ⟨g1, cg1, rg1⟩ := HTAB.out W1 B1 (p + 1) (by omega)
          have dx1 := rg1 (0) (by omega)
          obtain ⟨x1, hx1⟩ : ∃ x, D a b (p + 1) (0) = x := ⟨_, rfl⟩
          have lx1 := D_le a b (p + 1) (0)
          rw [hx1] at dx1 lx1
          obtain ⟨g0, cg0, rg0⟩ := HTAB.out W1 B1 (p) (by omega)
          have dx0 := rg0 (0) (by omega)
          obtain ⟨x0, hx0⟩ : ∃ x, D a b (p) (0) = x := ⟨_, rfl⟩
          have lx0 := D_le a b (p) (0)
          rw [hx0] at dx0 lx0
          rw [hx1, hx0] at hD1
          have t1 : ((x1 : Int) == (x0 : Int) + 1) = true := by rw [beq_iff_eq]; omega
          have e8 : ((p + 1 : Nat) : Int) = (p : Int) + 1 := by omega
          have e9 : ((0 : Nat) : Int) = 0 := rfl
          rw [e8, e9]
          have q1 : (0 : Int) < (p : Int) + 1 := by omega
          have q3 : (p : Int) + 1 < (a.length : Int) + 1 := by omega
          have q5 : (p : Int) < (a.length : Int) + 1 := by omega
          have q7 : (p : Int) < (a.length : Int) := by omega
          have q9 : (p : Int) + 1 - 1 = (p : Int) := by omega
          have q6 : (0 : Int) < (b.length : Int) + 1 := by omega
          clear hx1 hx0 hD1 rg1 rg0 A1 B2 B1 e8 e9
          go_upto_region 10 with fail
          rw [HS.out, HW1.out]
          go_wp2_with fail
          go_quiet (fail)
          revert nq
          intro nq1
          go_wp2_with fail
          go_quiet (fail)
          revert nq
          intro nq2
          go_wp2_with fail
          go_quiet (fail)
          clear cg1 dx1 cg0 dx0 t1 q3 q5 q6 q7
          go_upto_region 17 with fail
          obtain ⟨W3, hW3⟩ : ∃ W3, ((W1.drewN (nq1 + nq2 + nq)).setCell ⟨S, 0, none⟩ (.int .i64 (p))).setCell ⟨S, 1, none⟩ (.int .i64 (-1)) = W3 := ⟨_, rfl⟩
          rw [hW3]
          have K3 : Blk S 36 #[.int .i64 (p), .int .i64 (-1)] W3 := by rw [← hW3]; exact ((HKS.out.below (below_drewN (Below.refl _ _) _)).put 0 _).put 1 _
          have B3 : Below W.heap.size W W3 := by rw [← hW3]; exact ((below_drewN HBX.out _).setCell (p := ⟨S, 0, none⟩) hSW _).setCell (p := ⟨S, 1, none⟩) hSW _
          have O3 : Own1 2 encP W3 W.heap.size 36 (.slice av n7 cv) L := by
            rw [← hW3]
            refine own_grown (row := some S) (own_grown (row := some S) (HOX.out.below (below_drewN (Below.refl _ _) _)) (grown_set _ _ _ _) (fun g hg e => by cases e; have := HNS.out _ hg; omega)) (grown_set _ _ _ _) (fun g hg e => by cases e; have := HNS.out _ hg; omega)
          have z3 := B3.size
          have zs0 := K3.cell 0
          have zs1 := K3.cell 1
          have E1 := Lib.hid (own_one W3 W.heap.size (p, -1) z3)
          have R3 := Lib.hid ((O3.rd encP_len).alloc (.cells #[.int .i64 (p), .int .i64 (-1)] 36))
          have HB3 := Lib.hid (B3.alloc z3 (.cells #[.int .i64 (p), .int .i64 (-1)] 36))
          have zA := HB3.out.size
          clear hW3 B3 O3 K3
          go_wp2_with (at_builtin; refine wpList_append_rd rfl _ _ 33 rfl W.heap.size iI _ 16 Try.underlying33 hiI hzI hkI hbI (by omega) rfl (by omega) encP_len encP_one _ [(p, -1)] L _ rfl E1.out rfl R3.out (by have := HN7.out; simp; omega) zA ?_; intro v9 w9 y1 y2)
          have HY1 := Lib.hid y1
          have HY2 := Lib.hid (HB3.out.trans y2)
          clear y1 y2
          go_wp2
          go_roundw
          case rel => exact ⟨p, 0, _, by omega, by omega, by go_num, by first | rfl | (go_num; done) | exact val_int (by omega), HY1.out, by rw [← HL.out, HTR.out, List.reverse_cons, List.append_assoc], HY2.out⟩
          case measure => simp [intOf] <;> omega
        · have hq : q < b.length := by omega
          have HTR := Lib.hid (tr_del hne hD1)
          obtain ⟨ba, oa, rfl, sa⟩ := A1.str p hp
          obtain ⟨bb, ob, rfl, sb⟩ := B2.str q hq
          obtain ⟨s, hs⟩ : ∃ s, a[p] = s := ⟨_, rfl⟩
          obtain ⟨t, ht⟩ : ∃ t, b[q] = t := ⟨_, rfl⟩
          rw [hs] at sa
          rw [ht] at sb
          have hn1 := hne q rfl hp hq
          clear hne
          rw [hs, ht] at hn1
          obtain ⟨g1, cg1, rg1⟩ := HTAB.out W1 B1 (p + 1) (by omega)
          have dx1 := rg1 (q + 1) (by omega)
          obtain ⟨x1, hx1⟩ : ∃ x, D a b (p + 1) (q + 1) = x := ⟨_, rfl⟩
          have lx1 := D_le a b (p + 1) (q + 1)
          rw [hx1] at dx1 lx1
          obtain ⟨g0, cg0, rg0⟩ := HTAB.out W1 B1 p (by omega)
          have dx0 := rg0 q (by omega)
          have dx2 := rg0 (q + 1) (by omega)
          obtain ⟨x0, hx0⟩ : ∃ x, D a b p q = x := ⟨_, rfl⟩
          obtain ⟨x2, hx2⟩ : ∃ x, D a b p (q + 1) = x := ⟨_, rfl⟩
          have lx0 := D_le a b p q
          have lx2 := D_le a b p (q + 1)
          rw [hx0] at dx0 lx0
          rw [hx2] at dx2 lx2
          rw [hx1, hx0] at hn1
          rw [hx1, hx2] at hD1
          have hst : s ≠ t := fun e => by
            have h1 := D_same hp hq (by rw [hs, ht]; exact e)
            rw [hx1, hx0] at h1
            have h2 : prc s t = 0 := if_pos e
            omega
          have hpr : prc s t = 1 := if_neg hst
          rw [hpr] at hn1
          have t1 : ((x1 : Int) == (x0 : Int) + 1) = false := by rw [beq_eq_false_iff_ne]; omega
          obtain ⟨t3, t4⟩ := str_ne hst
          have t2 : ((x1 : Int) == (x2 : Int) + 1) = true := by rw [beq_iff_eq]; omega
          have e8 : ((p + 1 : Nat) : Int) = (p : Int) + 1 := by omega
          have e9 : ((q + 1 : Nat) : Int) = (q : Int) + 1 := by omega
          rw [e8, e9]
          have q1 : (0 : Int) < (p : Int) + 1 := by omega
          have q3 : (p : Int) + 1 < (a.length : Int) + 1 := by omega
          have q5 : (p : Int) < (a.length : Int) + 1 := by omega
          have q7 : (p : Int) < (a.length : Int) := by omega
          have q9 : (p : Int) + 1 - 1 = (p : Int) := by omega
          have q2 : (0 : Int) < (q : Int) + 1 := by omega
          have q4 : (q : Int) + 1 < (b.length : Int) + 1 := by omega
          have q6 : (q : Int) < (b.length : Int) + 1 := by omega
          have q8 : (q : Int) < (b.length : Int) := by omega
          have q10 : (q : Int) + 1 - 1 = (q : Int) := by omega
          clear hx1 hx0 hx2 hD1 hn1 hs ht hpr hst rg1 rg0 A1 B2 B1 e8
          go_upto_region 10 with fail
          rw [HS.out, HW1.out]
          go_wp2_with fail
          go_quiet (fail)
          revert nq
          intro nq1
          go_wp2_with fail
          go_quiet (fail)
          revert nq
          intro nq2
          go_wp2_with fail
          go_quiet (fail)
          clear sa sb cg1 dx1 cg0 dx0 dx2 t1 t2 t3 t4 q3 q4 q5 q6 q7 q8
          go_upto_region 17 with fail
          obtain ⟨W3, hW3⟩ : ∃ W3, ((W1.drewN (nq1 + nq2 + nq)).setCell ⟨S, 0, none⟩ (.int .i64 (p))).setCell ⟨S, 1, none⟩ (.int .i64 (-1)) = W3 := ⟨_, rfl⟩
          rw [hW3]
          have K3 : Blk S 36 #[.int .i64 (p), .int .i64 (-1)] W3 := by rw [← hW3]; exact ((HKS.out.below (below_drewN (Below.refl _ _) _)).put 0 _).put 1 _
          have B3 : Below W.heap.size W W3 := by rw [← hW3]; exact ((below_drewN HBX.out _).setCell (p := ⟨S, 0, none⟩) hSW _).setCell (p := ⟨S, 1, none⟩) hSW _
          have O3 : Own1 2 encP W3 W.heap.size 36 (.slice av n7 cv) L := by
            rw [← hW3]
            refine own_grown (row := some S) (own_grown (row := some S) (HOX.out.below (below_drewN (Below.refl _ _) _)) (grown_set _ _ _ _) (fun g hg e => by cases e; have := HNS.out _ hg; omega)) (grown_set _ _ _ _) (fun g hg e => by cases e; have := HNS.out _ hg; omega)
          have z3 := B3.size
          have zs0 := K3.cell 0
          have zs1 := K3.cell 1
          have E1 := Lib.hid (own_one W3 W.heap.size (p, -1) z3)
          have R3 := Lib.hid ((O3.rd encP_len).alloc (.cells #[.int .i64 (p), .int .i64 (-1)] 36))
          have HB3 := Lib.hid (B3.alloc z3 (.cells #[.int .i64 (p), .int .i64 (-1)] 36))
          have zA := HB3.out.size
          clear hW3 B3 O3 K3
          go_wp2_with (at_builtin; refine wpList_append_rd rfl _ _ 33 rfl W.heap.size iI _ 16 Try.underlying33 hiI hzI hkI hbI (by omega) rfl (by omega) encP_len encP_one _ [(p, -1)] L _ rfl E1.out rfl R3.out (by have := HN7.out; simp; omega) zA ?_; intro v9 w9 y1 y2)
          have HY1 := Lib.hid y1
          have HY2 := Lib.hid (HB3.out.trans y2)
          clear y1 y2
          go_wp2
          go_roundw
          case rel => exact ⟨p, q + 1, _, by omega, by omega, by go_num, by first | rfl | (go_num; done) | exact val_int (by omega), HY1.out, by rw [← HL.out, HTR.out, List.reverse_cons, List.append_assoc], HY2.out⟩
          case measure => simp [intOf] <;> omega
      · rcases i with _ | p
        · have HTR := Lib.hid (tr_ins hne hne2)
          clear hne hne2 hD1
          have e9 : ((q + 1 : Nat) : Int) = (q : Int) + 1 := by omega
          have e8 : ((0 : Nat) : Int) = 0 := rfl
          rw [e8, e9]
          have q2 : (0 : Int) < (q : Int) + 1 := by omega
          have q4 : (q : Int) + 1 < (b.length : Int) + 1 := by omega
          have q6 : (q : Int) < (b.length : Int) + 1 := by omega
          have q8 : (q : Int) < (b.length : Int) := by omega
          have q10 : (q : Int) + 1 - 1 = (q : Int) := by omega
          clear A1 B2 B1 e8 e9
          go_upto_region 10 with fail
          rw [HS.out, HW1.out]
          go_wp2_with fail
          go_quiet (fail)
          revert nq
          intro nq1
          go_wp2_with fail
          go_quiet (fail)
          revert nq
          intro nq2
          go_wp2_with fail
          go_quiet (fail)
          clear q4 q6 q8
          go_upto_region 17 with fail
          obtain ⟨W3, hW3⟩ : ∃ W3, ((W1.drewN (nq1 + nq2 + nq)).setCell ⟨S, 0, none⟩ (.int .i64 (-1))).setCell ⟨S, 1, none⟩ (.int .i64 (q)) = W3 := ⟨_, rfl⟩
          rw [hW3]
          have K3 : Blk S 36 #[.int .i64 (-1), .int .i64 (q)] W3 := by rw [← hW3]; exact ((HKS.out.below (below_drewN (Below.refl _ _) _)).put 0 _).put 1 _
          have B3 : Below W.heap.size W W3 := by rw [← hW3]; exact ((below_drewN HBX.out _).setCell (p := ⟨S, 0, none⟩) hSW _).setCell (p := ⟨S, 1, none⟩) hSW _
          have O3 : Own1 2 encP W3 W.heap.size 36 (.slice av n7 cv) L := by
            rw [← hW3]
            refine own_grown (row := some S) (own_grown (row := some S) (HOX.out.below (below_drewN (Below.refl _ _) _)) (grown_set _ _ _ _) (fun g hg e => by cases e; have := HNS.out _ hg; omega)) (grown_set _ _ _ _) (fun g hg e => by cases e; have := HNS.out _ hg; omega)
          have z3 := B3.size
          have zs0 := K3.cell 0
          have zs1 := K3.cell 1
          have E1 := Lib.hid (own_one W3 W.heap.size (-1, q) z3)
          have R3 := Lib.hid ((O3.rd encP_len).alloc (.cells #[.int .i64 (-1), .int .i64 (q)] 36))
          have HB3 := Lib.hid (B3.alloc z3 (.cells #[.int .i64 (-1), .int .i64 (q)] 36))
          have zA := HB3.out.size
          clear hW3 B3 O3 K3
          go_wp2_with (at_builtin; refine wpList_append_rd rfl _ _ 33 rfl W.heap.size iI _ 16 Try.underlying33 hiI hzI hkI hbI (by omega) rfl (by omega) encP_len encP_one _ [(-1, q)] L _ rfl E1.out rfl R3.out (by have := HN7.out; simp; omega) zA ?_; intro v9 w9 y1 y2)
          have HY1 := Lib.hid y1
          have HY2 := Lib.hid (HB3.out.trans y2)
          clear y1 y2
          go_wp2
          go_roundw
          case rel => exact ⟨0, q, _, by omega, by omega, by first | rfl | (go_num; done) | exact val_int (by omega), by go_num, HY1.out, by rw [← HL.out, HTR.out, List.reverse_cons, List.append_assoc], HY2.out⟩
          case measure => simp [intOf] <;> omega
        · have HTR := Lib.hid (tr_ins hne hne2)
          clear hD1
          have hp : p < a.length := by omega
          obtain ⟨ba, oa, rfl, sa⟩ := A1.str p hp
          obtain ⟨bb, ob, rfl, sb⟩ := B2.str q hq
          obtain ⟨s, hs⟩ : ∃ s, a[p] = s := ⟨_, rfl⟩
          obtain ⟨t, ht⟩ : ∃ t, b[q] = t := ⟨_, rfl⟩
          rw [hs] at sa
          rw [ht] at sb
          have hn1 := hne p rfl hp hq
          have hn2 := hne2 p rfl
          clear hne hne2
          rw [hs, ht] at hn1
          obtain ⟨g1, cg1, rg1⟩ := HTAB.out W1 B1 (p + 1) (by omega)
          have dx1 := rg1 (q + 1) (by omega)
          obtain ⟨x1, hx1⟩ : ∃ x, D a b (p + 1) (q + 1) = x := ⟨_, rfl⟩
          have lx1 := D_le a b (p + 1) (q + 1)
          rw [hx1] at dx1 lx1
          obtain ⟨g0, cg0, rg0⟩ := HTAB.out W1 B1 p (by omega)
          have dx0 := rg0 q (by omega)
          have dx2 := rg0 (q + 1) (by omega)
          obtain ⟨x0, hx0⟩ : ∃ x, D a b p q = x := ⟨_, rfl⟩
          obtain ⟨x2, hx2⟩ : ∃ x, D a b p (q + 1) = x := ⟨_, rfl⟩
          have lx0 := D_le a b p q
          have lx2 := D_le a b p (q + 1)
          rw [hx0] at dx0 lx0
          rw [hx2] at dx2 lx2
          rw [hx1, hx0] at hn1
          rw [hx1, hx2] at hn2
          have hst : s ≠ t := fun e => by
            have h1 := D_same hp hq (by rw [hs, ht]; exact e)
            rw [hx1, hx0] at h1
            have h2 : prc s t = 0 := if_pos e
            omega
          have hpr : prc s t = 1 := if_neg hst
          rw [hpr] at hn1
          have t1 : ((x1 : Int) == (x0 : Int) + 1) = false := by rw [beq_eq_false_iff_ne]; omega
          obtain ⟨t3, t4⟩ := str_ne hst
          have t2 : ((x1 : Int) == (x2 : Int) + 1) = false := by rw [beq_eq_false_iff_ne]; omega
          have e8 : ((p + 1 : Nat) : Int) = (p : Int) + 1 := by omega
          have e9 : ((q + 1 : Nat) : Int) = (q : Int) + 1 := by omega
          rw [e8, e9]
          have q1 : (0 : Int) < (p : Int) + 1 := by omega
          have q3 : (p : Int) + 1 < (a.length : Int) + 1 := by omega
          have q5 : (p : Int) < (a.length : Int) + 1 := by omega
          have q7 : (p : Int) < (a.length : Int) := by omega
          have q9 : (p : Int) + 1 - 1 = (p : Int) := by omega
          have q2 : (0 : Int) < (q : Int) + 1 := by omega
          have q4 : (q : Int) + 1 < (b.length : Int) + 1 := by omega
          have q6 : (q : Int) < (b.length : Int) + 1 := by omega
          have q8 : (q : Int) < (b.length : Int) := by omega
          have q10 : (q : Int) + 1 - 1 = (q : Int) := by omega
          clear hx1 hx0 hx2 hn1 hn2 hs ht hpr hst rg1 rg0 A1 B2 B1 e9
          go_upto_region 10 with fail
          rw [HS.out, HW1.out]
          go_wp2_with fail
          go_quiet (fail)
          revert nq
          intro nq1
          go_wp2_with fail
          go_quiet (fail)
          revert nq
          intro nq2
          go_wp2_with fail
          go_quiet (fail)
          clear sa sb cg1 dx1 cg0 dx0 dx2 t1 t2 t3 t4 q3 q4 q5 q6 q7 q8
          go_upto_region 17 with fail
          obtain ⟨W3, hW3⟩ : ∃ W3, ((W1.drewN (nq1 + nq2 + nq)).setCell ⟨S, 0, none⟩ (.int .i64 (-1))).setCell ⟨S, 1, none⟩ (.int .i64 (q)) = W3 := ⟨_, rfl⟩
          rw [hW3]
          have K3 : Blk S 36 #[.int .i64 (-1), .int .i64 (q)] W3 := by rw [← hW3]; exact ((HKS.out.below (below_drewN (Below.refl _ _) _)).put 0 _).put 1 _
          have B3 : Below W.heap.size W W3 := by rw [← hW3]; exact ((below_drewN HBX.out _).setCell (p := ⟨S, 0, none⟩) hSW _).setCell (p := ⟨S, 1, none⟩) hSW _
          have O3 : Own1 2 encP W3 W.heap.size 36 (.slice av n7 cv) L := by
            rw [← hW3]
            refine own_grown (row := some S) (own_grown (row := some S) (HOX.out.below (below_drewN (Below.refl _ _) _)) (grown_set _ _ _ _) (fun g hg e => by cases e; have := HNS.out _ hg; omega)) (grown_set _ _ _ _) (fun g hg e => by cases e; have := HNS.out _ hg; omega)
          have z3 := B3.size
          have zs0 := K3.cell 0
          have zs1 := K3.cell 1
          have E1 := Lib.hid (own_one W3 W.heap.size (-1, q) z3)
          have R3 := Lib.hid ((O3.rd encP_len).alloc (.cells #[.int .i64 (-1), .int .i64 (q)] 36))
          have HB3 := Lib.hid (B3.alloc z3 (.cells #[.int .i64 (-1), .int .i64 (q)] 36))
          have zA := HB3.out.size
          clear hW3 B3 O3 K3
          go_wp2_with (at_builtin; refine wpList_append_rd rfl _ _ 33 rfl W.heap.size iI _ 16 Try.underlying33 hiI hzI hkI hbI (by omega) rfl (by omega) encP_len encP_one _ [(-1, q)] L _ rfl E1.out rfl R3.out (by have := HN7.out; simp; omega) zA ?_; intro v9 w9 y1 y2)
          have HY1 := Lib.hid y1
          have HY2 := Lib.hid (HB3.out.trans y2)
          clear y1 y2
          go_wp2
          go_roundw
          case rel => exact ⟨p + 1, q, _, by omega, by omega, by first | rfl | (go_num; done) | exact val_int (by omega), by go_num, HY1.out, by rw [← HL.out, HTR.out, List.reverse_cons, List.append_assoc], HY2.out⟩
          case measure => simp [intOf] <;> omega
end Go.Proofs.Ytbcpeoomkhcgnaa
