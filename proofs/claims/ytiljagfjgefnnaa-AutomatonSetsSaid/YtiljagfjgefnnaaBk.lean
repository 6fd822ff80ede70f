/- Of the program: longer, Count, walked. -/
import Derived.Test.YtiljagfjgefnnaaBj
namespace Go.Proofs.Ytiljagfjgefnnaa
open Go.RowKit
set_option linter.unusedVariables false

def cnF (f : Nat → Nat) : Nat → Value := fun i => .int .i64 (f i : Nat)
theorem cnF_upd (f : Nat → Nat) (t x j : Nat) : upd (cnF f) t (.int .i64 (x : Nat)) j = cnF (fun k => if k = t then x else f k) j := by
  unfold upd cnF
  by_cases h : j = t
  · simp [h]
  · simp [h]
set_option maxRecDepth 1000000 in
set_option maxHeartbeats 8000000 in
theorem longer_any (r : RawD) (ok : DOk r) (n1 : r.nx.length ≤ 1000000) (cnt : Nat → Nat) (hcnt : 11 * sumTo cnt r.nx.length ≤ 4177248169415651) (a1 : Option Addr) (c1 : Nat) (a2 : Option Addr) (c2 : Nat) (w : World) (hN : RdRows w (.slice a1 r.nx.length c1) r.nx) (CB : Nat) (hC : Fn CB 3 r.nx.length (cnF cnt) w) :
    Calls Try.prog 50 #[.agg #[.int .i64 r.st, .slice a1 r.nx.length c1, .slice a2 r.ac.length c2], .slice (some ⟨CB, 0, none⟩) r.nx.length r.nx.length] w fun e w' => ∃ NB, e = .returned (.slice (some ⟨NB, 0, none⟩) r.nx.length r.nx.length) ∧ Fn NB 3 r.nx.length (cnF (accR (toA r) cnt r.nx.length 0)) w' ∧ w.heap.size ≤ NB ∧ Below w.heap.size w w' := by
  have BA := (Below.refl w.heap.size w).alloc (Nat.le_refl _) (.cells #[.int .i64 r.st, .slice a1 r.nx.length c1, .slice a2 r.ac.length c2] 29)
  have k0 := Blk.new w 29 #[.int .i64 r.st, .slice a1 r.nx.length c1, .slice a2 r.ac.length c2]
  obtain ⟨W0, hW0⟩ : ∃ W0, w.alloc (.cells #[.int .i64 r.st, .slice a1 r.nx.length c1, .slice a2 r.ac.length c2] 29) = W0 := ⟨_, rfl⟩
  have HN := Lib.hid (hN.below BA)
  have HC := Lib.hid (hC.below BA)
  have HBA := Lib.hid BA
  have K0 := Lib.hid k0
  rw [hW0] at HN HC HBA K0
  obtain ⟨g, hg⟩ : ∃ g, w.heap.size = g := ⟨_, rfl⟩
  have HG := Lib.hid hg
  have HW0 := Lib.hid hW0
  rw [hg] at K0
  obtain ⟨n, hn⟩ : ∃ n, r.nx.length = n := ⟨_, rfl⟩
  have HNL := Lib.hid hn
  have HOK := Lib.hid ok
  have HCN := Lib.hid hcnt
  have hmk := make_fn (P := Try.prog) 56 3 _ 1 8 Try.underlying56 Try.infoI (by omega) (by omega) n (by omega) W0
  have F0 := fn_made W0 3 #[.int .i64 0] n (by decide)
  have b1 := (Below.refl W0.heap.size W0).alloc (Nat.le_refl _) (.cells (madeCells #[.int .i64 0] n) 3)
  have F1 := F0.congr (g := cnF (accR (toA r) cnt 0 0)) (fun i hi => by simp [cnF, accR_zero, Nat.mod_one])
  obtain ⟨NB, hNB⟩ : ∃ NB, W0.heap.size = NB := ⟨_, rfl⟩
  have HNB := Lib.hid hNB
  obtain ⟨W1, hW1⟩ : ∃ W1, W0.alloc (.cells (madeCells #[.int .i64 0] n) 3) = W1 := ⟨_, rfl⟩
  have hmk2 : (Instr.makeSlice 56 (.int .i64 (n : Int)) (.int .i64 (n : Int))).run Try.prog W0 = .ok (.slice (some ⟨NB, 0, none⟩) n n) W1 := by
    rw [← hW1, ← hNB]
    have := hmk
    rw [Nat.mul_one] at this
    exact this
  rw [hW1] at F1 b1
  rw [hNB] at F1 b1
  have HF1 := Lib.hid F1
  have HB1 := Lib.hid b1
  have gNB : g < NB := by rw [← hNB]; exact K0.out.lt
  have CNB : CB < NB := by rw [← hNB]; exact HC.out.lt
  have f1 : W1.cell? ⟨g, 1, none⟩ = some (.slice a1 n c1) := by
    rw [← hn]
    exact (Blk.belowAt K0.out b1 gNB).cell 1
  rw [hn] at n1 hcnt HC HCN ⊢
  have HN2 : Hid (RdRows W0 (.slice a1 n c1) r.nx) := Lib.hid (by rw [← hn]; exact HN.out)
  clear hN hC BA k0 hW0 hg hmk F0 b1 F1 hNB hW1 ok hcnt HN
  go_enter Try.func50, Try.ntmps50
  go_upto_region 1 with fail
  rw [← HNL.out, HW0.out, HG.out, HNL.out]
  clear HW0
  go_wp2_with fail
  go_loopw [16] (fun v16 wr => ∃ s : Nat, s ≤ n ∧ v16 = .int .i64 (s : Nat) ∧ Fn NB 3 n (cnF (accR (toA r) cnt s 0)) wr ∧ Below NB W0 wr) (fun v16 _ => n - (intOf v16).toNat)
  case atStart => exact ⟨0, Nat.zero_le _, rfl, HF1.out, HB1.out⟩
  case round =>
    rename World => w1
    obtain ⟨s, hs, rfl, hfn, hb⟩ := hrel
    have HF2 := Lib.hid hfn
    have HB2 := Lib.hid hb
    have z1 := hb.size
    clear hfn hb HF1 HB1
    by_cases hlt : s < n
    · have h9 : (s : Int) < (n : Int) := by omega
      have hsr : s < r.nx.length := by rw [HNL.out]; exact hlt
      obtain ⟨b, off, x1, x2, e1, h0, h4⟩ := HN2.out.at_ s hsr
      subst e1
      have h11 := HOK.out.row _ (List.getElem_mem hsr)
      obtain ⟨b', off', e2, q0⟩ := h4.num 0 (by omega)
      subst e2
      clear q0
      rw [h11] at h0
      have HROW : Hid (∀ wr, Below NB W0 wr → ∀ c, c < 11 → wr.cell? ⟨b', off' + c, none⟩ = some (.int .i64 ((toA r).d s c : Nat))) := Lib.hid (fun wr hb c hc => by
        obtain ⟨h1, e, _⟩ := HOK.out.entry hsr hc
        obtain ⟨b3, off3, e3, h5⟩ := h4.num c h1
        cases e3
        rw [e] at h5
        exact (hb.cell (p := ⟨b', off' + c, none⟩) (by rw [← HNB.out]; exact World.block_lt_of_cell? _ _ h5)).trans h5)
      have h0' : w1.cell? ⟨b, off + s, none⟩ = some (.slice (some ⟨b', off', none⟩) 11 x2) := (HB2.out.cell (p := ⟨b, off + s, none⟩) (by rw [← HNB.out]; exact World.block_lt_of_cell? _ _ h0)).trans h0
      have HST : Hid (Fn NB 3 n (cnF (accR (toA r) cnt s 0)) w1) := HF2
      have HGO := Lib.hid HOK.out.ok
      clear h4 h11 h0
      go_wp2_with fail
      go_loopw [23] (fun v23 wr => ∃ c : Nat, c ≤ 11 ∧ v23 = .int .i64 (c : Nat) ∧ Fn NB 3 n (cnF (accR (toA r) cnt s c)) wr ∧ Below NB W0 wr) (fun v23 _ => 11 - (intOf v23).toNat)
      case atStart => exact ⟨0, by omega, rfl, HST.out, HB2.out⟩
      case round =>
        rename World => wz
        obtain ⟨c, hc, rfl, hfn, hb⟩ := hrel
        have HF3 := Lib.hid hfn
        have HB3 := Lib.hid hb
        have z2 := hb.size
        clear hfn hb HF2 HST h0'
        by_cases hct : c < 11
        · have h9c : (c : Int) < 11 := by omega
          have k1 := HROW.out wz HB3.out c hct
          have hT := HGO.out.go s c hsr hct
          have HAS : Hid (∀ t, accR (toA r) cnt s (c + 1) t = accR (toA r) cnt s c t + if (toA r).d s c = t then cnt s else 0) := Lib.hid (fun t => accR_step _ _ _ _ _)
          obtain ⟨T, hTT⟩ : ∃ T, (toA r).d s c = T := ⟨_, rfl⟩
          have hTn : T < n := by rw [← HNL.out, ← hTT]; exact hT
          rw [hTT] at k1 HAS
          have hTn' : (T : Int) < (n : Int) := by omega
          have e0 : wz.cell? ⟨NB, T, none⟩ = some (.int .i64 (accR (toA r) cnt s c T : Nat)) := HF3.out.cell hTn
          have HCW := Lib.hid (HC.out.belowAt HB3.out CNB)
          have e1 : wz.cell? ⟨CB, s, none⟩ = some (.int .i64 (cnt s : Nat)) := HCW.out.cell hlt
          have ef := HF3.out.frozen T
          have efd : wz.drew.frozen? ⟨NB, T, none⟩ = false := ef
          have e0d : wz.drew.cell? ⟨NB, T, none⟩ = some (.int .i64 (accR (toA r) cnt s c T : Nat)) := e0
          have e1d : wz.drew.cell? ⟨CB, s, none⟩ = some (.int .i64 (cnt s : Nat)) := e1
          have hle := accR_le (toA r) cnt hlt (c := c + 1) (by omega) T
          have HX := HAS.out T
          rw [if_pos rfl] at HX
          obtain ⟨X, hX⟩ : ∃ X, accR (toA r) cnt s c T = X := ⟨_, rfl⟩
          obtain ⟨Y, hY⟩ : ∃ Y, cnt s = Y := ⟨_, rfl⟩
          have HXX := Lib.hid hX
          have HYY := Lib.hid hY
          rw [hX] at e0 e0d HX
          rw [hY] at e1 e1d HX
          rw [HX] at hle
          have hw1 : IntKind.i64.wrap ((X : Int) + (Y : Int)) = (X : Int) + (Y : Int) := wrap_ok (by omega) (by have := HCN.out; omega)
          have HFN : Hid (Fn NB 3 n (cnF (accR (toA r) cnt s (c + 1))) ((wz.drewN 1).setCell ⟨NB, T, none⟩ (.int .i64 ((X : Int) + (Y : Int))))) := Lib.hid ((((HF3.out.below (below_drewN (Below.refl _ _) 1)).put hTn (.int .i64 ((X + Y : Nat) : Int))).congr (fun j hj => cnF_upd _ _ _ _)).congr (fun j hj => by
            unfold cnF
            dsimp only
            rw [HAS.out j]
            by_cases e : j = T
            · rw [if_pos e, if_pos e.symm, e, HXX.out, HYY.out]
            · rw [if_neg e, if_neg (fun h => e h.symm), Nat.add_zero]))
          clear hTT hT hX hY HX hle
          go_upto_region 8 with fail
          refine region_tail 10 (by kernel_rfl) (by decide +kernel) (by decide +kernel) ?_
          simp only [List.take_succ_cons, List.take_zero, List.drop_succ_cons, List.drop_zero]
          repeat (go_big_quiet_step (fail))
          refine wpQuiet_nil ?_
          go_wp2
          go_roundw
          case measure => simp [intOf] <;> omega
          case rel => exact ⟨c + 1, by omega, by go_num, HFN.out, (below_drewN HB3.out 1).setCell (p := ⟨NB, T, none⟩) (Nat.le_refl _) _⟩
        · have hc11 : c = 11 := by omega
          subst hc11
          have h9c : ¬ (11 : Int) < 11 := by omega
          have HF4 : Hid (Fn NB 3 n (cnF (accR (toA r) cnt (s + 1) 0)) wz) := HF3
          go_wp2_with fail
          go_roundw
          case measure => simp [intOf] <;> omega
          case rel => exact ⟨s + 1, by omega, by go_num, HF4.out, HB3.out⟩
    · obtain rfl : s = n := by omega
      have h9 : ¬ (s : Int) < (s : Int) := by omega
      have HFIN : Hid (w.heap.size ≤ NB ∧ Below w.heap.size w w1) := Lib.hid ⟨by have := HBA.out.size; have := HNB.out; omega, HBA.out.trans (HB2.out.mono (by have := HBA.out.size; have := HNB.out; omega))⟩
      go_wp2_with fail
      go_ret
      exact ⟨NB, rfl, HF2.out, HFIN.out⟩
def cntQ (r : RawD) (n : Int) (w : World) (e : Ending) (w' : World) : Prop := e = .returned (.tuple #[.int .i64 (cntR r n).1, .int .i64 (cntR r n).2]) ∧ Below w.heap.size w w'
set_option maxRecDepth 1000000 in
set_option maxHeartbeats 8000000 in
theorem countP_any (r : RawD) (n : Int) (a1 : Option Addr) (c1 : Nat) (a2 : Option Addr) (c2 : Nat) (w : World) (hN : RdRows w (.slice a1 r.nx.length c1) r.nx) (hF : Rd 1 encO w (.slice a2 r.ac.length c2) r.ac) :
    Calls Try.prog 34 #[.agg #[.int .i64 r.st, .slice a1 r.nx.length c1, .slice a2 r.ac.length c2], .int .i64 n] w (cntQ r n w) := by
  have BA := (Below.refl w.heap.size w).alloc (Nat.le_refl _) (.cells #[.int .i64 r.st, .slice a1 r.nx.length c1, .slice a2 r.ac.length c2] 29)
  have k0 := Blk.new w 29 #[.int .i64 r.st, .slice a1 r.nx.length c1, .slice a2 r.ac.length c2]
  obtain ⟨W0, hW0⟩ : ∃ W0, w.alloc (.cells #[.int .i64 r.st, .slice a1 r.nx.length c1, .slice a2 r.ac.length c2] 29) = W0 := ⟨_, rfl⟩
  have HN0 := Lib.hid (hN.below BA)
  have HF0 := Lib.hid (hF.below BA)
  have HBA := Lib.hid BA
  have k00 := Lib.hid k0
  rw [hW0] at HN0 HF0 HBA k00
  obtain ⟨g, hg⟩ : ∃ g, w.heap.size = g := ⟨_, rfl⟩
  have HG := Lib.hid hg
  have HW0 := Lib.hid hW0
  rw [hg] at k00
  have f0 : W0.cell? ⟨g, 0, none⟩ = some (.int .i64 r.st) := k00.out.cell 0
  have f1 : W0.cell? ⟨g, 1, none⟩ = some (.slice a1 r.nx.length c1) := k00.out.cell 1
  have f2 : W0.cell? ⟨g, 2, none⟩ = some (.slice a2 r.ac.length c2) := k00.out.cell 2
  clear hN hF BA k0 hW0 hg
  go_enter Try.func34, Try.ntmps34
  go_upto_region 1 with fail
  rw [HW0.out, HG.out]
  clear HW0
  go_wp2_with fail
  refine (validP_any r a1 c1 a2 c2 W0 HN0.out HF0.out).mono ?_
  rintro e wv ⟨rfl, bv⟩
  have HN := Lib.hid (HN0.out.below bv)
  have HF := Lib.hid (HF0.out.below bv)
  have HBV := Lib.hid (HBA.out.trans (bv.mono HBA.out.size))
  have K0 := Lib.hid (Blk.below k00.out bv)
  clear bv HN0 HF0 k00 f0 f1 f2 HBA
  cases hok : okD r with
  | false =>
    have HV : Hid (cntR r n = (0, 1)) := Lib.hid (by unfold cntR; rw [if_pos hok])
    clear hok
    go_wp2
    go_ret2
    exact ⟨by rw [HV.out]; rfl, HBV.out⟩
  | true =>
    have HOK := Lib.hid (okD_iff.1 hok)
    have HCR : Hid (cntR r n = if n < 0 ∨ 15 < n then (0, 2) else (((cntA (toA r) n.toNat (toA r).s0 : Nat) : Int), 0)) := Lib.hid (by unfold cntR; rw [if_neg (by rw [hok]; simp)])
    clear hok
    have hn0 := HOK.out.1.some_
    have hn1 := HOK.out.2
    by_cases hlo : n < 0
    · have HV : Hid (cntR r n = (0, 2)) := Lib.hid (by rw [HCR.out, if_pos (.inl hlo)])
      clear HCR
      go_wp2
      go_ret2
      exact ⟨by rw [HV.out]; rfl, HBV.out⟩
    by_cases hhi : (15 : Int) < n
    · have HV : Hid (cntR r n = (0, 2)) := Lib.hid (by rw [HCR.out, if_pos (.inr hhi)])
      clear HCR
      go_wp2
      go_ret2
      exact ⟨by rw [HV.out]; rfl, HBV.out⟩
    obtain ⟨N, hN⟩ : ∃ N : Nat, n = (N : Int) := ⟨n.toNat, by omega⟩
    subst hN
    have hN15 : N ≤ 15 := by omega
    have HV : Hid (cntR r (N : Int) = (((cntA (toA r) N (toA r).s0 : Nat) : Int), 0)) := Lib.hid (by
      rw [HCR.out, if_neg (by omega)]
      rfl)
    have HA := Lib.hid HOK.out.1.ok
    clear HCR
    obtain ⟨S, hS⟩ : ∃ S : Nat, r.st = (S : Int) := ⟨r.st.toNat, by have := HOK.out.1.st0; omega⟩
    have hSn : S < r.nx.length := by have := HOK.out.1.st1; omega
    have HSA : Hid ((toA r).s0 = S) := Lib.hid (by show r.st.toNat = S; rw [hS]; rfl)
    have hS' : (S : Int) < (r.nx.length : Int) := by omega
    have f1 : wv.cell? ⟨g, 1, none⟩ = some (.slice a1 r.nx.length c1) := K0.out.cell 1
    have HSE := Lib.hid hS
    have hmk := make_fn (P := Try.prog) 56 3 _ 1 8 Try.underlying56 Try.infoI (by omega) (by omega) r.nx.length (by omega) wv
    have F0 := fn_made wv 3 #[.int .i64 0] r.nx.length (by decide)
    have b1 := (Below.refl wv.heap.size wv).alloc (Nat.le_refl _) (.cells (madeCells #[.int .i64 0] r.nx.length) 3)
    have F1 := F0.congr (g := cnF fun _ => 0) (fun i hi => by simp [cnF, Nat.mod_one])
    obtain ⟨CB, hCB⟩ : ∃ CB, wv.heap.size = CB := ⟨_, rfl⟩
    have HCB := Lib.hid hCB
    obtain ⟨W1, hW1⟩ : ∃ W1, wv.alloc (.cells (madeCells #[.int .i64 0] r.nx.length) 3) = W1 := ⟨_, rfl⟩
    have hmk2 : (Instr.makeSlice 56 (.int .i64 (r.nx.length : Int)) (.int .i64 (r.nx.length : Int))).run Try.prog wv = .ok (.slice (some ⟨CB, 0, none⟩) r.nx.length r.nx.length) W1 := by
      rw [← hW1, ← hCB]
      have := hmk
      rw [Nat.mul_one] at this
      exact this
    rw [hW1] at F1 b1
    rw [hCB] at F1 b1
    have gCB : g < CB := by rw [← hCB]; exact K0.out.lt
    have K1 := Blk.belowAt K0.out b1 gCB
    have m0 : W1.cell? ⟨g, 0, none⟩ = some (.int .i64 (S : Int)) := by rw [← hS]; exact K1.cell 0
    have e0 : W1.cell? ⟨CB, S, none⟩ = some (.int .i64 ((0 : Nat) : Int)) := F1.cell hSn
    have ef := F1.frozen S
    have HST : Hid (Fn CB 3 r.nx.length (cnF (fwd (toA r) 0)) (W1.setCell ⟨CB, S, none⟩ (.int .i64 1))) := Lib.hid (((F1.put hSn (.int .i64 ((1 : Nat) : Int))).congr (fun j hj => cnF_upd _ _ _ _)).congr (fun j hj => by
      unfold cnF
      dsimp only
      rw [fwd_zero, HSA.out]
      by_cases e : j = S
      · rw [if_pos e, if_pos e.symm]
      · rw [if_neg e, if_neg (fun h => e h.symm)]))
    have HB1 := Lib.hid (b1.setCell (p := ⟨CB, S, none⟩) (Nat.le_refl _) (.int .i64 1))
    clear hmk F0 b1 F1 hCB hW1 K1 hS
    go_wp2_with fail
    go_loopw [6, 28] (fun v6 v28 wr => ∃ (k NB : Nat), k ≤ N ∧ v28 = .int .i64 (k : Nat) ∧ v6 = .slice (some ⟨NB, 0, none⟩) r.nx.length r.nx.length ∧ Fn NB 3 r.nx.length (cnF (fwd (toA r) k)) wr ∧ Below CB wv wr) (fun _ v28 _ => N - (intOf v28).toNat)
    case atStart => exact ⟨0, CB, Nat.zero_le _, rfl, rfl, HST.out, HB1.out⟩
    case round =>
      rename World => w2
      obtain ⟨k, NB, hk, rfl, rfl, hfn, hb⟩ := hrel
      have HF2 := Lib.hid hfn
      have HB2 := Lib.hid hb
      have K2 := Lib.hid (Blk.belowAt K0.out hb gCB)
      have m0 : w2.cell? ⟨g, 0, none⟩ = some (.int .i64 r.st) := K2.out.cell 0
      have m1 : w2.cell? ⟨g, 1, none⟩ = some (.slice a1 r.nx.length c1) := K2.out.cell 1
      have m2 : w2.cell? ⟨g, 2, none⟩ = some (.slice a2 r.ac.length c2) := K2.out.cell 2
      clear hfn hb HST HB1
      by_cases hlt : k < N
      · have h9 : (k : Int) < (N : Int) := by omega
        have HLO := Lib.hid (longer_any r HOK.out.1 (by omega) (fwd (toA r) k) (by
          have h1 := fwd_all HA.out k
          have h2 := pow11 (k := k + 1) (by omega)
          rw [Nat.pow_succ] at h2
          have h3 : sumTo (fwd (toA r) k) r.nx.length = 11 ^ k := h1
          rw [h3]
          omega) a1 c1 a2 c2 w2 (HN.out.below (HCB.out ▸ HB2.out)) NB HF2.out)
        go_wp2_with fail
        refine HLO.out.mono ?_
        rintro e w3 ⟨NB2, rfl, hf3, _, hb3⟩
        have HF3 : Hid (Fn NB2 3 r.nx.length (cnF (fwd (toA r) (k + 1))) w3) := Lib.hid (hf3.congr (fun j _ => by
          unfold cnF
          rw [fwd_succ]
          rfl))
        have HB3 := Lib.hid (HB2.out.trans (hb3.mono (by have := HB2.out.size; have := HCB.out; omega)))
        clear hf3 hb3 m0 m1 m2
        go_wp2_with fail
        go_roundw
        case measure => simp [intOf] <;> omega
        case rel => exact ⟨k + 1, NB2, by omega, by go_num, rfl, HF3.out, HB3.out⟩
      · obtain rfl : k = N := by omega
        have h9 : ¬ (k : Int) < (k : Int) := by omega
        have HALL : Hid (∀ i, i ≤ r.nx.length → sumTo (fun s => if (toA r).f s then fwd (toA r) k s else 0) i ≤ 4177248169415651) := Lib.hid (fun i hi => by
          have h1 : sumTo (fun s => if (toA r).f s then fwd (toA r) k s else 0) i ≤ sumTo (fwd (toA r) k) i := sumTo_mono (fun j _ => by split <;> omega)
          have h2 := sumTo_lex (g := fwd (toA r) k) hi
          have h3 : sumTo (fwd (toA r) k) r.nx.length = 11 ^ k := fwd_all HA.out k
          have h4 := pow11 hN15
          omega)
        clear m0 m1
        go_wp2_with fail
        go_loopw [7, 36] (fun v7 v36 wr => ∃ i : Nat, i ≤ r.nx.length ∧ v36 = .int .i64 (i : Nat) ∧ v7 = .int .i64 (sumTo (fun s => if (toA r).f s then fwd (toA r) k s else 0) i : Nat) ∧ wr = w2) (fun _ v36 _ => r.nx.length - (intOf v36).toNat)
        case atStart => exact ⟨0, Nat.zero_le _, rfl, rfl, rfl⟩
        case round =>
          obtain ⟨i, hi, rfl, rfl, hw⟩ := hrel
          obtain rfl := hw.symm
          by_cases hit : i < r.nx.length
          · have h8 : (i : Int) < (r.nx.length : Int) := by omega
            have hia : i < r.ac.length := by rw [HOK.out.1.ac]; exact hit
            have hia' : (i : Int) < (r.ac.length : Int) := by omega
            have HFW := Lib.hid (HF.out.below (HCB.out ▸ HB2.out))
            obtain ⟨b, off, rfl, g0⟩ := HFW.out.boo i hia
            have e0 : w2.cell? ⟨NB, i, none⟩ = some (.int .i64 (fwd (toA r) k i : Nat)) := HF2.out.cell hit
            have hle := HALL.out (i + 1) hit
            have HX := Lib.hid (sumTo_succ (fun s => if (toA r).f s then fwd (toA r) k s else 0) i)
            have HFI : Hid ((toA r).f i = r.ac.getD i false) := Lib.hid rfl
            rw [HX.out] at hle
            obtain ⟨X, hX⟩ : ∃ X, sumTo (fun s => if (toA r).f s then fwd (toA r) k s else 0) i = X := ⟨_, rfl⟩
            obtain ⟨Y, hY⟩ : ∃ Y, fwd (toA r) k i = Y := ⟨_, rfl⟩
            rw [hX] at HX hle ⊢
            rw [hY] at e0
            rw [hY] at HX hle
            clear hX hY
            try dsimp only at hle
            cases hfb : r.ac.getD i false with
            | false =>
              rw [hfb] at g0 HFI
              have HX2 : Hid (sumTo (fun s => if (toA r).f s then fwd (toA r) k s else 0) (i + 1) = X) := Lib.hid (by rw [HX.out]; (try dsimp only); rw [HFI.out]; simp)
              clear hfb hle
              go_wp2_with fail
              go_roundw
              case measure => simp [intOf] <;> omega
              case rel => exact ⟨i + 1, by omega, by go_num, by rw [HX2.out], (by first | rfl | trivial)⟩
            | true =>
              rw [hfb] at g0 HFI
              rw [HFI.out, if_pos rfl] at hle
              have hw1 : IntKind.i64.wrap ((X : Int) + (Y : Int)) = (X : Int) + (Y : Int) := wrap_ok (by omega) (by omega)
              have HX2 : Hid (sumTo (fun s => if (toA r).f s then fwd (toA r) k s else 0) (i + 1) = X + Y) := Lib.hid (by rw [HX.out]; (try dsimp only); rw [HFI.out, if_pos rfl])
              clear hfb hle
              go_wp2_with fail
              go_roundw
              case measure => simp [intOf] <;> omega
              case rel => exact ⟨i + 1, by omega, by go_num, by rw [HX2.out]; go_num, (by first | rfl | trivial)⟩
          · obtain rfl : i = r.nx.length := by omega
            have h8 : ¬ (r.nx.length : Int) < (r.nx.length : Int) := by omega
            have HEND : Hid (sumTo (fun s => if (toA r).f s then fwd (toA r) k s else 0) r.nx.length = cntA (toA r) k (toA r).s0) := Lib.hid (fwd_end HA.out k)
            have HFB := Lib.hid (HBV.out.trans (HB2.out.mono (by have := HBV.out.size; have := HCB.out; omega)))
            go_wp2_with fail
            go_ret2
            exact ⟨by rw [HV.out, HEND.out]; rfl, HFB.out⟩
end Go.Proofs.Ytiljagfjgefnnaa
