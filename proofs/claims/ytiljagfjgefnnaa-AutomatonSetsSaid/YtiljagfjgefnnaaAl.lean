/- Of the reference: Count. -/
import Derived.Test.YtiljagfjgefnnaaAh
import Derived.Test.YtiljagfjgefnnaaAk
namespace Go.Proofs.Ytiljagfjgefnnaa
open Go.RowKit
set_option linter.unusedVariables false

def cntR (r : RawD) (n : Int) : Int × Int := if okD r = false then (0, 1) else if n < 0 ∨ 15 < n then (0, 2) else (cntA (toA r) n.toNat (toA r).s0, 0)
theorem pow11 {k : Nat} (h : k ≤ 15) : 11 ^ k ≤ 4177248169415651 := Nat.le_trans (Nat.pow_le_pow_right (by omega) h) (by decide)
theorem sum11 {A : Aut} {k : Nat} (h : k + 1 ≤ 15) (s : Nat) {c : Nat} (hc : c ≤ 11) : sumTo (fun c => cntA A k (A.d s c)) c ≤ 4177248169415651 := by
  have h1 := sumTo_le (g := fun c => cntA A k (A.d s c)) (b := 11 ^ k) (n := c) (fun e _ => cntA_le A k _)
  have h2 : c * 11 ^ k ≤ 11 * 11 ^ k := Nat.mul_le_mul_right _ hc
  have h3 := pow11 h
  rw [Nat.pow_succ, Nat.mul_comm] at h3
  omega
theorem wrap_ok {x : Int} (h0 : 0 ≤ x) (h1 : x ≤ 9000000000000000) : IntKind.i64.wrap x = x := by rw [IntKind.wrap_i64]; omega
set_option maxRecDepth 1000000 in
set_option maxHeartbeats 16000000 in
theorem count_any (r : RawD) (n : Int) (a1 : Option Addr) (c1 : Nat) (a2 : Option Addr) (c2 : Nat) (w : World) (hN : RdRows w (.slice a1 r.nx.length c1) r.nx) (hF : Rd 1 encO w (.slice a2 r.ac.length c2) r.ac) :
    Calls Try.prog 35 #[.agg #[.int .i64 r.st, .slice a1 r.nx.length c1, .slice a2 r.ac.length c2], .int .i64 n] w fun e w' => e = .returned (.tuple #[.int .i64 (cntR r n).1, .int .i64 (cntR r n).2]) ∧ Below w.heap.size w w' := by
  obtain ⟨iI, hiI, hzI, hkI, hbI⟩ := info_parts Try.infoI
  have BA := (Below.refl w.heap.size w).alloc (Nat.le_refl _) (.cells #[.int .i64 r.st, .slice a1 r.nx.length c1, .slice a2 r.ac.length c2] 25)
  have k0 := Blk.new w 25 #[.int .i64 r.st, .slice a1 r.nx.length c1, .slice a2 r.ac.length c2]
  obtain ⟨W0, hW0⟩ : ∃ W0, w.alloc (.cells #[.int .i64 r.st, .slice a1 r.nx.length c1, .slice a2 r.ac.length c2] 25) = W0 := ⟨_, rfl⟩
  have HN0 := Lib.hid (hN.below BA)
  have HF0 := Lib.hid (hF.below BA)
  have HBA := Lib.hid BA
  have k00 := Lib.hid k0
  rw [hW0] at HN0 HF0 HBA k00
  obtain ⟨g, hg⟩ : ∃ g, w.heap.size = g := ⟨_, rfl⟩
  have HG := Lib.hid hg
  have HW0 := Lib.hid hW0
  rw [hg] at k00
  have f0 : W0.cell? ⟨g, 0, none⟩ = some (.int .i64 r.st) := k00.out.cell 0
  have f1 : W0.cell? ⟨g, 1, none⟩ = some (.slice a1 r.nx.length c1) := k00.out.cell 1
  have f2 : W0.cell? ⟨g, 2, none⟩ = some (.slice a2 r.ac.length c2) := k00.out.cell 2
  clear hN hF BA k0 hW0 hg
  go_enter Try.func35, Try.ntmps35
  go_upto_region 1 with fail
  rw [HW0.out, HG.out]
  clear HW0
  go_wp2_with fail
  refine (valid_any r a1 c1 a2 c2 W0 HN0.out HF0.out).mono ?_
  rintro e wv ⟨rfl, bv⟩
  have HN := Lib.hid (HN0.out.below bv)
  have HF := Lib.hid (HF0.out.below bv)
  have HBV := Lib.hid (HBA.out.trans (bv.mono HBA.out.size))
  have K0 := Lib.hid (Blk.below k00.out bv)
  clear bv HN0 HF0 k00 f0 f1 f2 HBA
  cases hok : okD r with
  | false =>
    have HV : Hid (cntR r n = (0, 1)) := Lib.hid (by unfold cntR; rw [if_pos hok])
    clear hok
    go_wp2
    go_ret2
    exact ⟨by rw [HV.out]; rfl, HBV.out⟩
  | true =>
    have HOK := Lib.hid (okD_iff.1 hok)
    have HCR : Hid (cntR r n = if n < 0 ∨ 15 < n then (0, 2) else (((cntA (toA r) n.toNat (toA r).s0 : Nat) : Int), 0)) := Lib.hid (by unfold cntR; rw [if_neg (by rw [hok]; simp)])
    clear hok
    have hn0 := HOK.out.1.some_
    have hn1 := HOK.out.2
    by_cases hlo : n < 0
    · have HV : Hid (cntR r n = (0, 2)) := Lib.hid (by rw [HCR.out, if_pos (.inl hlo)])
      clear HCR
      go_wp2
      go_ret2
      exact ⟨by rw [HV.out]; rfl, HBV.out⟩
    by_cases hhi : (15 : Int) < n
    · have HV : Hid (cntR r n = (0, 2)) := Lib.hid (by rw [HCR.out, if_pos (.inr hhi)])
      clear HCR
      go_wp2
      go_ret2
      exact ⟨by rw [HV.out]; rfl, HBV.out⟩
    obtain ⟨N, hN⟩ : ∃ N : Nat, n = (N : Int) := ⟨n.toNat, by omega⟩
    subst hN
    have hN15 : N ≤ 15 := by omega
    have HV : Hid (cntR r (N : Int) = (((cntA (toA r) N (toA r).s0 : Nat) : Int), 0)) := Lib.hid (by
      rw [HCR.out, if_neg (by omega)]
      rfl)
    clear HCR
    have m1 : wv.cell? ⟨g, 1, none⟩ = some (.slice a1 r.nx.length c1) := K0.out.cell 1
    go_wp2_with fail
    go_loopw [6, 7] (fun v6 v7 wr => ∃ l : List Nat, l.length ≤ r.nx.length ∧ v7 = .int .i64 (l.length : Nat) ∧ Own1 1 encN wr wv.heap.size 3 v6 l ∧ (∀ s, s < l.length → l.getD s 0 = bit ((toA r).f s)) ∧ Below wv.heap.size wv wr) (fun _ v7 _ => r.nx.length - (intOf v7).toNat)
    case atStart => exact ⟨[], Nat.zero_le _, rfl, own1_nil _ _ _, fun s h => by simp at h, Below.refl _ _⟩
    case round =>
      rename World => w1
      obtain ⟨l, hk, rfl, own, hl, hb⟩ := hrel
      obtain ⟨va, vc, hva⟩ := own.slice
      subst hva
      have OW := Lib.hid own
      have HL := Lib.hid hl
      have HB := Lib.hid hb
      have z1 := hb.size
      have K1 := Lib.hid (Blk.below K0.out hb)
      have m1 : w1.cell? ⟨g, 1, none⟩ = some (.slice a1 r.nx.length c1) := K1.out.cell 1
      have m2 : w1.cell? ⟨g, 2, none⟩ = some (.slice a2 r.ac.length c2) := K1.out.cell 2
      clear own hl hb
      obtain ⟨k, hkk⟩ : ∃ k, l.length = k := ⟨_, rfl⟩
      have HK := Lib.hid hkk
      rw [hkk] at OW hk ⊢
      clear hkk
      by_cases hlt : k < r.nx.length
      · have hac : k < r.ac.length := by rw [HOK.out.1.ac]; exact hlt
        obtain ⟨b2, off2, rfl, h0⟩ := (HF.out.below HB.out).boo k hac
        have h9 : (k : Int) < (r.nx.length : Int) := by omega
        have h9' : (k : Int) < (r.ac.length : Int) := by omega
        obtain ⟨fb, hfb⟩ : ∃ fb, r.ac.getD k false = fb := ⟨_, rfl⟩
        have HFB := Lib.hid hfb
        rw [hfb] at h0
        clear hfb
        obtain ⟨nb, hnb⟩ : ∃ nb, bit fb = nb := ⟨_, rfl⟩
        have HNB := Lib.hid hnb
        clear hnb
        go_upto_if 33 with fail
        go_cut [8] from 29 to 33 (fun v8 wx => v8 = .int .i64 (nb : Nat) ∧ wx = w1)
        case first =>
          cases fb with
          | true =>
            have HE : Hid (nb = 1) := Lib.hid HNB.out.symm
            go_wp2_with fail
            go_meet
            exact ⟨by rw [HE.out]; rfl, rfl⟩
          | false =>
            have HE : Hid (nb = 0) := Lib.hid HNB.out.symm
            go_wp2_with fail
            go_meet
            exact ⟨by rw [HE.out]; rfl, rfl⟩
        case rest =>
          obtain ⟨rfl, hwc⟩ := hcut
          obtain rfl := hwc.symm
          have hls : l.length ≤ 1000000000 := by have := HK.out; omega
          clear m1 m2 h0
          go_wp2_with (first | (at_builtin; refine wpList_append_lie (w0 := w1) (x := nb) (N := w1.heap.size) rfl rfl _ _ 56 rfl wv.heap.size iI _ 8 Try.underlying56 hiI hzI hkI hbI (by omega) rfl (by omega) encN_len encN_one _ l rfl rfl OW.out rfl hls z1 ?_; intro v9 w9 y1) | go_in)
          obtain ⟨a9, c9, hv9⟩ := y1.1.slice
          rw [List.length_append, List.length_singleton, HK.out] at hv9
          subst hv9
          have O9 := Lib.hid y1.1
          have B9 := Lib.hid (HB.out.trans y1.2.1)
          have HSN : Hid (∀ s, s < (l ++ [nb]).length → (l ++ [nb]).getD s 0 = bit ((toA r).f s)) := Lib.hid (snoc_all (p := fun s y => y = bit ((toA r).f s)) HL.out (by rw [HK.out, ← HNB.out, ← HFB.out]; rfl))
          clear y1
          go_wp2
          go_roundw
          case measure => simp [intOf] <;> omega
          case rel => exact ⟨l ++ [nb], by rw [List.length_append, List.length_singleton, HK.out]; omega, by rw [List.length_append, List.length_singleton, HK.out]; go_num, O9.out, HSN.out, B9.out⟩
      · have hkn : k = r.nx.length := by omega
        have h9 : ¬ (k : Int) < (r.nx.length : Int) := by omega
        have HR0 := Lib.hid (OW.out.rd encN_len)
        have HSTART : Hid (∃ (k : Nat) (l : List Nat) (a : Option Addr) (c : Nat), k ≤ N ∧ Value.int .i64 (N : Nat) = .int .i64 (N - k : Nat) ∧ Value.slice va r.nx.length vc = .slice a r.nx.length c ∧ l.length = r.nx.length ∧ Rd 1 encN w1 (.slice a r.nx.length c) l ∧ (∀ s, s < r.nx.length → l.getD s 0 = cntA (toA r) k s) ∧ Below wv.heap.size wv w1) := Lib.hid ⟨0, l, va, vc, Nat.zero_le _, rfl, rfl, by rw [HK.out, hkn], by rw [← hkn]; exact HR0.out, fun s hs => by rw [HL.out s (by rw [HK.out]; omega), cntA_zero]; rfl, HB.out⟩
        have HKN := Lib.hid hkn
        clear m2
        go_wp2_with fail
        clear m1
        go_loopw [1, 6] (fun v1 v6 wr => ∃ (k : Nat) (l : List Nat) (a : Option Addr) (c : Nat), k ≤ N ∧ v1 = .int .i64 (N - k : Nat) ∧ v6 = .slice a r.nx.length c ∧ l.length = r.nx.length ∧ Rd 1 encN wr (.slice a r.nx.length c) l ∧ (∀ s, s < r.nx.length → l.getD s 0 = cntA (toA r) k s) ∧ Below wv.heap.size wv wr) (fun v1 _ _ => (intOf v1).toNat)
        case atStart => first | exact HSTART.out | (rw [HKN.out]; exact HSTART.out)
        case round =>
          rename World => w2
          obtain ⟨k2, l2, a, c, hk2, rfl, rfl, hl2, hr2, hc2, hb2⟩ := hrel
          have HR2 := Lib.hid hr2
          have HC2 := Lib.hid hc2
          have HB2 := Lib.hid hb2
          have HL2 := Lib.hid hl2
          have z2 := hb2.size
          have K2 := Lib.hid (Blk.below K0.out hb2)
          clear hr2 hc2 hb2 hl2 HSTART HR0 OW HL HB K1 hkn hlt h9 hk z1
          by_cases hlast : k2 < N
          · have q : (0 : Int) < ((N - k2 : Nat) : Int) := by omega
            have hk15 : k2 + 1 ≤ 15 := by omega
            have n1 : w2.cell? ⟨g, 1, none⟩ = some (.slice a1 r.nx.length c1) := K2.out.cell 1
            go_wp2_with fail
            go_loopw [9, 10] (fun v9 v10 wr => ∃ next : List Nat, next.length ≤ r.nx.length ∧ v10 = .int .i64 (next.length : Nat) ∧ Own1 1 encN wr w2.heap.size 3 v9 next ∧ (∀ s, s < next.length → next.getD s 0 = cntA (toA r) (k2 + 1) s) ∧ Below w2.heap.size w2 wr) (fun _ v10 _ => r.nx.length - (intOf v10).toNat)
            case atStart => exact ⟨[], Nat.zero_le _, rfl, own1_nil _ _ _, fun s h => by simp at h, Below.refl _ _⟩
            case round =>
              rename World => wz
              obtain ⟨next, hk, rfl, own, hnx, hb3⟩ := hrel
              obtain ⟨pa, pc, hpa⟩ := own.slice
              subst hpa
              have OZ := Lib.hid own
              have HX := Lib.hid hnx
              have HB3 := Lib.hid hb3
              have z3 := hb3.size
              have KZ := Lib.hid (Blk.below K2.out hb3)
              have n1 : wz.cell? ⟨g, 1, none⟩ = some (.slice a1 r.nx.length c1) := KZ.out.cell 1
              clear own hnx hb3
              obtain ⟨i, hii⟩ : ∃ i, next.length = i := ⟨_, rfl⟩
              have HI := Lib.hid hii
              rw [hii] at OZ hk ⊢
              clear hii
              by_cases hlt : i < r.nx.length
              · have h9 : (i : Int) < (r.nx.length : Int) := by omega
                go_wp2_with fail
                go_loopw [11, 12] (fun v11 v12 wr => ∃ c : Nat, c ≤ 11 ∧ v12 = .int .i64 (c : Nat) ∧ v11 = .int .i64 (sumTo (fun c => cntA (toA r) k2 ((toA r).d i c)) c : Nat) ∧ wr = wz) (fun _ v12 _ => 11 - (intOf v12).toNat)
                case atStart => exact ⟨0, Nat.zero_le _, rfl, rfl, rfl⟩
                case round =>
                  obtain ⟨e, he, rfl, rfl, hw⟩ := hrel
                  obtain rfl := hw.symm
                  have HS1 := Lib.hid (sum11 (A := toA r) hk15 i he)
                  by_cases het : e < 11
                  · have h8 : (e : Int) < 11 := by omega
                    have HS2 := Lib.hid (sum11 (A := toA r) hk15 i (c := e + 1) het)
                    have HSE : Hid (sumTo (fun c => cntA (toA r) k2 ((toA r).d i c)) (e + 1) = sumTo (fun c => cntA (toA r) k2 ((toA r).d i c)) e + cntA (toA r) k2 ((toA r).d i e)) := Lib.hid rfl
                    obtain ⟨b, off, b', off', x2, rfl, g0, g1⟩ := HOK.out.1.cells ((HN.out.below HB2.out).below HB3.out) hlt het
                    have hT : (toA r).d i e < r.nx.length := HOK.out.1.ok.go i e hlt het
                    obtain ⟨T, hTT⟩ : ∃ T, (toA r).d i e = T := ⟨_, rfl⟩
                    rw [hTT] at g1 hT HSE
                    obtain ⟨bo, oo, e2, j0⟩ := (HR2.out.below HB3.out).nat T (by rw [HL2.out]; exact hT)
                    subst e2
                    rw [HC2.out T hT] at j0
                    obtain ⟨y, hy⟩ : ∃ y, cntA (toA r) k2 T = y := ⟨_, rfl⟩
                    rw [hy] at j0 HSE
                    obtain ⟨x, hx⟩ : ∃ x, sumTo (fun c => cntA (toA r) k2 ((toA r).d i c)) e = x := ⟨_, rfl⟩
                    rw [hx] at HS1 HSE ⊢
                    rw [HSE.out] at HS2
                    have hT' : (T : Int) < (r.nx.length : Int) := by omega
                    have hw1 : IntKind.i64.wrap ((x : Int) + (y : Int)) = (x : Int) + (y : Int) := wrap_ok (by omega) (by have := HS2.out; omega)
                    clear hTT hy hx
                    go_wp2
                    go_roundw
                    case measure => simp [intOf] <;> omega
                    case rel => exact ⟨e + 1, by omega, by go_num, by rw [HSE.out]; go_num, (by first | rfl | trivial)⟩
                  · obtain rfl : e = 11 := by omega
                    have HSV : Hid (sumTo (fun c => cntA (toA r) k2 ((toA r).d i c)) 11 = cntA (toA r) (k2 + 1) i) := Lib.hid (cntA_succ _ _ _).symm
                    obtain ⟨x, hx⟩ : ∃ x, sumTo (fun c => cntA (toA r) k2 ((toA r).d i c)) 11 = x := ⟨_, rfl⟩
                    rw [hx] at HSV ⊢
                    have hnl : next.length ≤ 1000000000 := by have := HI.out; omega
                    clear hx
                    go_wp2_with (first | (at_builtin; refine wpList_append_lie (w0 := wz) (x := x) (N := wz.heap.size) rfl rfl _ _ 56 rfl w2.heap.size iI _ 8 Try.underlying56 hiI hzI hkI hbI (by omega) rfl (by omega) encN_len encN_one _ next rfl rfl OZ.out rfl hnl z3 ?_; intro v9 w9 y1) | go_in)
                    have O9 := Lib.hid y1.1
                    have B9 := Lib.hid (HB3.out.trans y1.2.1)
                    have HSN : Hid (∀ s, s < (next ++ [x]).length → (next ++ [x]).getD s 0 = cntA (toA r) (k2 + 1) s) := Lib.hid (snoc_all (p := fun s y => y = cntA (toA r) (k2 + 1) s) HX.out (by rw [HI.out, HSV.out]))
                    clear y1
                    go_wp2
                    go_roundw
                    case measure => simp [intOf] <;> omega
                    case rel => exact ⟨next ++ [x], by rw [List.length_append, List.length_singleton, HI.out]; omega, by rw [List.length_append, List.length_singleton, HI.out]; go_num, O9.out, HSN.out, B9.out⟩
              · have hin : i = r.nx.length := by omega
                have h9 : ¬ (i : Int) < (r.nx.length : Int) := by omega
                have HRD := Lib.hid (OZ.out.rd encN_len)
                have HFIN : Hid (next.length = r.nx.length ∧ Rd 1 encN wz (.slice pa r.nx.length pc) next ∧ (∀ s, s < r.nx.length → next.getD s 0 = cntA (toA r) (k2 + 1) s) ∧ Below wv.heap.size wv wz) := Lib.hid ⟨by rw [HI.out, hin], by rw [← hin]; exact HRD.out, fun s hs => HX.out s (by rw [HI.out, hin]; exact hs), HB2.out.trans (HB3.out.mono z2)⟩
                have HIN := Lib.hid hin
                have hd : IntKind.i64.wrap (((N - k2 : Nat) : Int) - 1) = ((N - k2 : Nat) : Int) - 1 := wrap_ok (by omega) (by omega)
                clear hin
                go_wp2_with fail
                go_roundw
                case measure => simp [intOf] <;> omega
                case rel => exact ⟨k2 + 1, next, pa, pc, by omega, by go_num, by rw [HIN.out], HFIN.out.1, HFIN.out.2.1, HFIN.out.2.2.1, HFIN.out.2.2.2⟩
          · obtain rfl : k2 = N := by omega
            have q : ¬ (0 : Int) < ((k2 - k2 : Nat) : Int) := by omega
            obtain ⟨S, hS⟩ : ∃ S : Nat, r.st = (S : Int) := ⟨r.st.toNat, by have := HOK.out.1.st0; omega⟩
            have hSn : S < r.nx.length := by have := HOK.out.1.st1; omega
            have hS' : (S : Int) < (r.nx.length : Int) := by omega
            have n0 : w2.cell? ⟨g, 0, none⟩ = some (.int .i64 r.st) := K2.out.cell 0
            rw [hS] at n0
            obtain ⟨bo, oo, rfl, j0⟩ := HR2.out.nat S (by rw [HL2.out]; exact hSn)
            rw [HC2.out S hSn] at j0
            have HSS : Hid ((toA r).s0 = S) := Lib.hid (by show r.st.toNat = S; rw [hS]; rfl)
            rw [HSS.out] at HV
            have HB9 := Lib.hid (HBV.out.trans (HB2.out.mono HBV.out.size))
            obtain ⟨y, hy⟩ : ∃ y, cntA (toA r) k2 S = y := ⟨_, rfl⟩
            rw [hy] at j0 HV
            clear hS hy
            go_wp2
            go_ret2
            exact ⟨by rw [HV.out]; rfl, HB9.out⟩
end Go.Proofs.Ytiljagfjgefnnaa
