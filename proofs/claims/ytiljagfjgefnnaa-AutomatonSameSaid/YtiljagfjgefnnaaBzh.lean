/- Of the program: equal (of two minimal automata). -/
import Derived.Test.YtiljagfjgefnnaaBzg
namespace Go.Proofs.Ytiljagfjgefnnaa
open Go.RowKit
set_option linter.unusedVariables false

theorem eqD_all {p q : RawD} (hp : DOk p) (hq : DOk q) (hs : p.st = q.st) (hn : p.nx.length = q.nx.length) (h : ∀ s, s < p.nx.length → p.ac.getD s false = q.ac.getD s false ∧ ∀ c, c < 11 → (toA p).d s c = (toA q).d s c) : eqD p q = true := by
  refine eqD_yes ⟨hs, ext_get hn (fun s h1 h2 => ?_), ?_⟩
  · refine ext_get (by rw [hp.row _ (List.getElem_mem h1), hq.row _ (List.getElem_mem h2)]) (fun c h3 h4 => ?_)
    have hc : c < 11 := by rw [hp.row _ (List.getElem_mem h1)] at h3; exact h3
    obtain ⟨_, e1, _⟩ := hp.entry h1 hc
    obtain ⟨_, e2, _⟩ := hq.entry h2 hc
    rw [e1, e2, (h s h1).2 c hc]
  · refine ext_get (by rw [hp.ac, hq.ac, hn]) (fun s h1 h2 => ?_)
    have := (h s (by rw [← hp.ac]; exact h1)).1
    rw [List.getD_eq_getElem?_getD, List.getElem?_eq_getElem h1, List.getD_eq_getElem?_getD, List.getElem?_eq_getElem h2] at this
    exact this
set_option maxRecDepth 1000000 in
set_option maxHeartbeats 16000000 in
theorem equalP_any (p q : RawD) (hp : DOk p) (hq : DOk q) (hst : p.st = q.st) (a1 : Option Addr) (c1 : Nat) (a2 : Option Addr) (c2 : Nat) (a3 : Option Addr) (c3 : Nat) (a4 : Option Addr) (c4 : Nat) (w : World) (hN : RdRows w (.slice a1 p.nx.length c1) p.nx) (hF : Rd 1 encO w (.slice a2 p.ac.length c2) p.ac) (hN2 : RdRows w (.slice a3 q.nx.length c3) q.nx) (hF2 : Rd 1 encO w (.slice a4 q.ac.length c4) q.ac) :
    Calls Try.prog 47 #[.agg #[.int .i64 p.st, .slice a1 p.nx.length c1, .slice a2 p.ac.length c2], .agg #[.int .i64 q.st, .slice a3 q.nx.length c3, .slice a4 q.ac.length c4]] w fun e w' => e = .returned (.bool (eqD p q)) ∧ Below w.heap.size w w' := by
  have BA := (Below.refl w.heap.size w).alloc (Nat.le_refl _) (.cells #[.int .i64 p.st, .slice a1 p.nx.length c1, .slice a2 p.ac.length c2] 29)
  have BB := BA.alloc BA.size (.cells #[.int .i64 q.st, .slice a3 q.nx.length c3, .slice a4 q.ac.length c4] 29)
  have k0 := (Blk.new w 29 #[.int .i64 p.st, .slice a1 p.nx.length c1, .slice a2 p.ac.length c2]).alloc (.cells #[.int .i64 q.st, .slice a3 q.nx.length c3, .slice a4 q.ac.length c4] 29)
  have k1 := Blk.new (w.alloc (.cells #[.int .i64 p.st, .slice a1 p.nx.length c1, .slice a2 p.ac.length c2] 29)) 29 #[.int .i64 q.st, .slice a3 q.nx.length c3, .slice a4 q.ac.length c4]
  rw [World.size_alloc] at k1
  obtain ⟨W0, hW0⟩ : ∃ W0, (w.alloc (.cells #[.int .i64 p.st, .slice a1 p.nx.length c1, .slice a2 p.ac.length c2] 29)).alloc (.cells #[.int .i64 q.st, .slice a3 q.nx.length c3, .slice a4 q.ac.length c4] 29) = W0 := ⟨_, rfl⟩
  have HN := Lib.hid (hN.below BB)
  have HF := Lib.hid (hF.below BB)
  have HN2 := Lib.hid (hN2.below BB)
  have HF2 := Lib.hid (hF2.below BB)
  have HBA := Lib.hid BB
  have K0 := Lib.hid k0
  have K1 := Lib.hid k1
  rw [hW0] at HN HF HN2 HF2 HBA K0 K1
  obtain ⟨g, hg⟩ : ∃ g, w.heap.size = g := ⟨_, rfl⟩
  have HG := Lib.hid hg
  have HW0 := Lib.hid hW0
  rw [hg] at K0 K1
  have HP := Lib.hid hp
  have HQ := Lib.hid hq
  have HST := Lib.hid hst
  have hpm := hp.most
  have hqm := hq.most
  have HYES := Lib.hid (@eqD_all p q hp hq hst)
  have HNO : Hid (eqD p q = true → p.nx = q.nx ∧ p.ac = q.ac) := Lib.hid (fun h => (eqD_iff.1 h).2)
  obtain ⟨ev, hev⟩ : ∃ ev, eqD p q = ev := ⟨_, rfl⟩
  rw [hev] at HYES HNO ⊢
  have f1 : W0.cell? ⟨g, 1, none⟩ = some (.slice a1 p.nx.length c1) := K0.out.cell 1
  have g1 : W0.cell? ⟨g + 1, 1, none⟩ = some (.slice a3 q.nx.length c3) := K1.out.cell 1
  clear hN hF hN2 hF2 BA BB k0 k1 hW0 hg hp hq hst hev
  go_enter Try.func47, Try.ntmps47
  go_upto_region 1 with fail
  rw [HW0.out, HG.out]
  clear HW0
  by_cases e2 : p.nx.length = q.nx.length
  case neg =>
    have HV : Hid (ev = false) := Lib.hid (by
      cases ev with
      | false => rfl
      | true => exact absurd (by rw [(HNO.out rfl).1]) e2)
    have t2 : ((p.nx.length : Int) != (q.nx.length : Int)) = true := by rw [bne_iff_ne]; omega
    have t3 : (p.nx.length != q.nx.length) = true := by rw [bne_iff_ne]; exact e2
    clear e2
    go_wp2_with fail
    go_ret
    exact ⟨by rw [HV.out]; rfl, HBA.out⟩
  obtain ⟨n, hn⟩ : ∃ n, p.nx.length = n := ⟨_, rfl⟩
  have HNL := Lib.hid hn
  have HNQ := Lib.hid (e2.symm.trans hn)
  have t2 : ((n : Int) != (n : Int)) = false := by simp
  have hnq := e2.symm.trans hn
  have HAP : Hid (p.ac.length = n) := Lib.hid (by rw [HP.out.ac, hn])
  have HAQ : Hid (q.ac.length = n) := Lib.hid (by rw [HQ.out.ac, hnq])
  rw [hn] at f1 HYES hpm
  rw [hnq] at g1 hqm
  have HC : Hid (∀ wx, Below W0.heap.size W0 wx → wx.cell? ⟨g + 1, 1, none⟩ = some (.slice a3 n c3) ∧ wx.cell? ⟨g, 2, none⟩ = some (.slice a2 n c2) ∧ wx.cell? ⟨g + 1, 2, none⟩ = some (.slice a4 n c4) ∧ RdRows wx (.slice a1 n c1) p.nx ∧ RdRows wx (.slice a3 n c3) q.nx ∧ Rd 1 encO wx (.slice a2 n c2) p.ac ∧ Rd 1 encO wx (.slice a4 n c4) q.ac) := Lib.hid (fun wx hx => by
    have h1 := (Blk.below K0.out hx).cell 2
    have h2 := (Blk.below K1.out hx).cell 1
    have h3 := (Blk.below K1.out hx).cell 2
    have h4 := HN.out.below hx
    have h5 := HN2.out.below hx
    have h6 := HF.out.below hx
    have h7 := HF2.out.below hx
    rw [HNL.out] at h4
    rw [HNQ.out] at h5
    rw [HAP.out] at h6
    rw [HAQ.out] at h7
    replace h1 : wx.cell? ⟨g, 2, none⟩ = some (.slice a2 p.ac.length c2) := h1
    replace h2 : wx.cell? ⟨g + 1, 1, none⟩ = some (.slice a3 q.nx.length c3) := h2
    replace h3 : wx.cell? ⟨g + 1, 2, none⟩ = some (.slice a4 q.ac.length c4) := h3
    rw [HAP.out] at h1
    rw [HNQ.out] at h2
    rw [HAQ.out] at h3
    exact ⟨h2, h1, h3, h4, h5, h6, h7⟩)
  clear hn hnq e2
  go_wp2_with fail
  go_loopw [19] (fun v19 wr => ∃ s : Nat, s ≤ n ∧ v19 = .int .i64 (s : Nat) ∧ (∀ t, t < s → p.ac.getD t false = q.ac.getD t false ∧ ∀ c, c < 11 → (toA p).d t c = (toA q).d t c) ∧ Below W0.heap.size W0 wr) (fun v19 _ => n - (intOf v19).toNat)
  case atStart => exact ⟨0, Nat.zero_le _, rfl, fun t h => by omega, Below.refl _ _⟩
  case round =>
    rename World => w1
    obtain ⟨s, hs, rfl, hall, hb⟩ := hrel
    have HA := Lib.hid hall
    have B1 := Lib.hid hb
    clear hall hb f1 g1
    by_cases hlt : s < n
    · have h9 : (s : Int) < (n : Int) := by omega
      have HLT := Lib.hid hlt
      have HSP : Hid (s < p.nx.length) := Lib.hid (by rw [HNL.out]; exact hlt)
      have HSQ : Hid (s < q.nx.length) := Lib.hid (by rw [HNQ.out]; exact hlt)
      obtain ⟨r1, r2, r3, r4, r5, r6, r7⟩ := HC.out w1 B1.out
      obtain ⟨b1, o1, x1, x2, rfl, k1, hr1⟩ := r4.at_ s HSP.out
      rw [HP.out.row _ (List.getElem_mem HSP.out)] at k1 hr1
      obtain ⟨b2, o2, rfl, k2⟩ := r6.boo s (by rw [HAP.out]; exact hlt)
      obtain ⟨b4, o4, rfl, k4⟩ := r7.boo s (by rw [HAQ.out]; exact hlt)
      have HR1 := Lib.hid hr1
      obtain ⟨bp, hbp⟩ : ∃ bp, p.ac.getD s false = bp := ⟨_, rfl⟩
      obtain ⟨bq, hbq⟩ : ∃ bq, q.ac.getD s false = bq := ⟨_, rfl⟩
      have HBP := Lib.hid hbp
      have HBQ := Lib.hid hbq
      rw [hbp] at k2
      rw [hbq] at k4
      clear r1 r4 r5 r6 r7 hbp hbq hr1
      by_cases heq : bp = bq
      · subst heq
        have tb : (bp != bp) = false := by cases bp <;> rfl
        go_wp2_with fail
        go_quiet (fail)
        have HBD := Lib.hid (below_drewN B1.out nq)
        have HRD := Lib.hid (HR1.out.below (below_drewN (Below.refl w1.heap.size w1) nq))
        obtain ⟨w2, hw2⟩ : ∃ w2, w1.drewN nq = w2 := ⟨_, rfl⟩
        rw [hw2] at HBD HRD ⊢
        clear hw2 k1 k2 k4 r2 r3
        go_wp2_with fail
        go_loopw [37] (fun v37 wr => ∃ c : Nat, c ≤ 11 ∧ v37 = .int .i64 (c : Nat) ∧ (∀ e, e < c → (toA p).d s e = (toA q).d s e) ∧ wr = w2) (fun v37 _ => 11 - (intOf v37).toNat)
        case atStart => exact ⟨0, by omega, rfl, fun e h => by omega, rfl⟩
        case round =>
          obtain ⟨c, hc, rfl, hcs, hw⟩ := hrel
          obtain rfl := hw.symm
          have HCS := Lib.hid hcs
          clear hcs
          by_cases hct : c < 11
          · have h9c : (c : Int) < 11 := by omega
            obtain ⟨r1, r2, r3, r4, r5, r6, r7⟩ := HC.out w2 HBD.out
            obtain ⟨hcl, ep, _⟩ := HP.out.entry HSP.out hct
            obtain ⟨b5, o5, hx1, k5⟩ := HRD.out.num c hcl
            subst hx1
            rw [ep] at k5
            obtain ⟨b6, o6, b7, o7, x7, ha3, k6, k7⟩ := HQ.out.cells r5 HSQ.out hct
            subst ha3
            obtain ⟨y, hy⟩ : ∃ y, (toA p).d s c = y := ⟨_, rfl⟩
            obtain ⟨z, hz⟩ : ∃ z, (toA q).d s c = z := ⟨_, rfl⟩
            have HY := Lib.hid hy
            have HZ := Lib.hid hz
            rw [hy] at k5
            rw [hz] at k7
            clear r2 r3 r4 r5 r6 r7 ep hy hz
            by_cases hyz : y = z
            · subst hyz
              have ty : ((y : Int) != (y : Int)) = false := by simp
              go_wp2_with fail
              go_roundw
              case measure => simp [intOf] <;> omega
              case rel => exact ⟨c + 1, by omega, by go_num, fun e he => by
                rcases Nat.lt_or_ge e c with h | h
                · exact HCS.out e h
                · obtain rfl : e = c := by omega
                  rw [HY.out, HZ.out], (by first | rfl | trivial)⟩
            · have HV : Hid (ev = false) := Lib.hid (by
                cases ev with
                | false => rfl
                | true =>
                  refine absurd ?_ hyz
                  rw [← HY.out, ← HZ.out]
                  show ((p.nx.getD s []).getD c 0).toNat = ((q.nx.getD s []).getD c 0).toNat
                  rw [(HNO.out rfl).1])
              have ty : ((z : Int) != (y : Int)) = true := by rw [bne_iff_ne]; omega
              have ty2 : (z != y) = true := by rw [bne_iff_ne]; omega
              clear hyz
              go_wp2_with fail
              go_ret
              exact ⟨by rw [HV.out]; rfl, HBA.out.trans (HBD.out.mono HBA.out.size)⟩
          · have hc11 : c = 11 := by omega
            subst hc11
            have h9c : ¬ (11 : Int) < 11 := by omega
            go_wp2_with fail
            go_roundw
            case measure => (have := HLT.out); simp [intOf] <;> omega
            case rel => exact ⟨s + 1, HLT.out, by (have := HLT.out); go_num, fun t ht => by
              rcases Nat.lt_or_ge t s with h | h
              · exact HA.out t h
              · obtain rfl : t = s := by omega
                exact ⟨by rw [HBP.out, HBQ.out], HCS.out⟩, HBD.out⟩
      · have HV : Hid (ev = false) := Lib.hid (by
          cases ev with
          | false => rfl
          | true =>
            refine absurd ?_ heq
            rw [← HBP.out, ← HBQ.out, (HNO.out rfl).2])
        have tb : (bp != bq) = true := by cases bp <;> cases bq <;> first | rfl | exact absurd rfl heq
        have HBD := Lib.hid (fun k => below_drewN B1.out k)
        cases bp <;> cases bq <;> first | exact absurd rfl heq | (
          clear heq
          go_wp2_with fail
          go_quiet (fail)
          go_wp2_with fail
          go_ret
          exact ⟨by rw [HV.out]; rfl, HBA.out.trans ((HBD.out _).mono HBA.out.size)⟩)
    · obtain rfl : s = n := by omega
      have h9 : ¬ (s : Int) < (s : Int) := by omega
      have HV : Hid (ev = true) := Lib.hid (HYES.out (by rw [HNQ.out]) HA.out)
      go_wp2_with fail
      go_ret
      exact ⟨by rw [HV.out]; rfl, HBA.out.trans (B1.out.mono HBA.out.size)⟩
end Go.Proofs.Ytiljagfjgefnnaa
