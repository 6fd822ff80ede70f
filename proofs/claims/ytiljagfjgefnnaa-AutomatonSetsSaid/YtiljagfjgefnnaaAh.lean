/- Of the reference: classes. -/
import Derived.Test.YtiljagfjgefnnaaAg
namespace Go.Proofs.Ytiljagfjgefnnaa
open Go.RowKit
set_option linter.unusedVariables false

def ClsP (r : RawD) (w : World) (e : Ending) (w' : World) : Prop := ∃ (a : Option Addr) (c : Nat) (l : List Nat), e = .returned (.slice a l.length c) ∧ Rd 1 encN w' (.slice a l.length c) l ∧ l.length = r.nx.length ∧ Cls (toA r) (fun s => l.getD s 0) ∧ Below w.heap.size w w'
def bit (b : Bool) : Nat := if b = true then 1 else 0
theorem bit_inj {a b : Bool} : bit a = bit b ↔ a = b := by cases a <;> cases b <;> simp [bit]
theorem of_start {A : Aut} {l : List Nat} (hl : l.length = A.n) (h : ∀ s, s < l.length → l.getD s 0 = bit (A.f s)) : OfOk A 0 l :=
  ⟨hl, fun s t hs ht => by rw [h s (by omega), h t (by omega), bit_inj, er_zero]⟩
theorem snoc_all {l : List Nat} {x : Nat} {p : Nat → Nat → Prop} (h : ∀ s, s < l.length → p s (l.getD s 0)) (hx : p l.length x) : ∀ s, s < (l ++ [x]).length → p s ((l ++ [x]).getD s 0) := fun s hs => by
  rw [List.length_append, List.length_singleton] at hs
  rcases Nat.lt_or_ge s l.length with k | k
  · rw [getD_snoc k]
    exact h s k
  · obtain rfl : s = l.length := by omega
    rw [getD_last]
    exact hx
set_option maxRecDepth 1000000 in
set_option maxHeartbeats 16000000 in
theorem classes_any (r : RawD) (ok : DOk r) (a1 : Option Addr) (c1 : Nat) (a2 : Option Addr) (c2 : Nat) (w : World) (hN : RdRows w (.slice a1 r.nx.length c1) r.nx) (hF : Rd 1 encO w (.slice a2 r.ac.length c2) r.ac) :
    Calls Try.prog 56 #[.agg #[.int .i64 r.st, .slice a1 r.nx.length c1, .slice a2 r.ac.length c2]] w (ClsP r w) := by
  obtain ⟨iI, hiI, hzI, hkI, hbI⟩ := info_parts Try.infoI
  have BA := (Below.refl w.heap.size w).alloc (Nat.le_refl _) (.cells #[.int .i64 r.st, .slice a1 r.nx.length c1, .slice a2 r.ac.length c2] 25)
  have k0 := Blk.new w 25 #[.int .i64 r.st, .slice a1 r.nx.length c1, .slice a2 r.ac.length c2]
  obtain ⟨W0, hW0⟩ : ∃ W0, w.alloc (.cells #[.int .i64 r.st, .slice a1 r.nx.length c1, .slice a2 r.ac.length c2] 25) = W0 := ⟨_, rfl⟩
  have HN := Lib.hid (hN.below BA)
  have HF := Lib.hid (hF.below BA)
  have HBA := Lib.hid BA
  have K0 := Lib.hid k0
  rw [hW0] at HN HF HBA K0
  obtain ⟨g, hg⟩ : ∃ g, w.heap.size = g := ⟨_, rfl⟩
  have HG := Lib.hid hg
  have HW0 := Lib.hid hW0
  rw [hg] at K0
  have HOK := Lib.hid ok
  have hn0 := ok.some_
  have hn1 := ok.most
  have f1 : W0.cell? ⟨g, 1, none⟩ = some (.slice a1 r.nx.length c1) := K0.out.cell 1
  clear hN hF BA k0 hW0 hg ok
  go_enter Try.func56, Try.ntmps56
  go_upto_region 1 with fail
  rw [HW0.out, HG.out]
  clear HW0
  go_wp2_with fail
  go_loopw [4, 6] (fun v4 v6 wr => ∃ l : List Nat, l.length ≤ r.nx.length ∧ v6 = .int .i64 (l.length : Nat) ∧ Own1 1 encN wr W0.heap.size 3 v4 l ∧ (∀ s, s < l.length → l.getD s 0 = bit ((toA r).f s)) ∧ Below W0.heap.size W0 wr) (fun _ v6 _ => r.nx.length - (intOf v6).toNat)
  case atStart => exact ⟨[], Nat.zero_le _, rfl, own1_nil _ _ _, fun s h => by simp at h, Below.refl _ _⟩
  case round =>
    rename World => w1
    obtain ⟨l, hk, rfl, own, hl, hb⟩ := hrel
    obtain ⟨va, vc, hva⟩ := own.slice
    subst hva
    have OW := Lib.hid own
    have HL := Lib.hid hl
    have HB := Lib.hid hb
    have z1 := hb.size
    have K1 := Lib.hid (Blk.below K0.out hb)
    have m1 : w1.cell? ⟨g, 1, none⟩ = some (.slice a1 r.nx.length c1) := K1.out.cell 1
    have m2 : w1.cell? ⟨g, 2, none⟩ = some (.slice a2 r.ac.length c2) := K1.out.cell 2
    clear own hl hb f1
    obtain ⟨k, hkk⟩ : ∃ k, l.length = k := ⟨_, rfl⟩
    have HK := Lib.hid hkk
    rw [hkk] at OW hk ⊢
    clear hkk
    by_cases hlt : k < r.nx.length
    · have hac : k < r.ac.length := by rw [HOK.out.ac]; exact hlt
      obtain ⟨b2, off2, rfl, h0⟩ := (HF.out.below HB.out).boo k hac
      have h9 : (k : Int) < (r.nx.length : Int) := by omega
      have h9' : (k : Int) < (r.ac.length : Int) := by omega
      obtain ⟨fb, hfb⟩ : ∃ fb, r.ac.getD k false = fb := ⟨_, rfl⟩
      have HFB := Lib.hid hfb
      rw [hfb] at h0
      clear hfb
      obtain ⟨nb, hnb⟩ : ∃ nb, bit fb = nb := ⟨_, rfl⟩
      have HNB := Lib.hid hnb
      clear hnb
      go_upto_if 24 with fail
      go_cut [7] from 20 to 24 (fun v7 wx => v7 = .int .i64 (nb : Nat) ∧ wx = w1)
      case first =>
        cases fb with
        | true =>
          have HE : Hid (nb = 1) := Lib.hid HNB.out.symm
          go_wp2_with fail
          go_meet
          exact ⟨by rw [HE.out]; rfl, rfl⟩
        | false =>
          have HE : Hid (nb = 0) := Lib.hid HNB.out.symm
          go_wp2_with fail
          go_meet
          exact ⟨by rw [HE.out]; rfl, rfl⟩
      case rest =>
        obtain ⟨rfl, hwc⟩ := hcut
        obtain rfl := hwc.symm
        have hls : l.length ≤ 1000000000 := by have := HK.out; omega
        clear m1 m2 h0
        go_wp2_with (first | (at_builtin; refine wpList_append_lie (w0 := w1) (x := nb) (N := w1.heap.size) rfl rfl _ _ 56 rfl W0.heap.size iI _ 8 Try.underlying56 hiI hzI hkI hbI (by omega) rfl (by omega) encN_len encN_one _ l rfl rfl OW.out rfl hls z1 ?_; intro v9 w9 y1) | go_in)
        obtain ⟨a9, c9, hv9⟩ := y1.1.slice
        rw [List.length_append, List.length_singleton, HK.out] at hv9
        subst hv9
        have O9 := Lib.hid y1.1
        have B9 := Lib.hid (HB.out.trans y1.2.1)
        have HSN : Hid (∀ s, s < (l ++ [nb]).length → (l ++ [nb]).getD s 0 = bit ((toA r).f s)) := Lib.hid (snoc_all (p := fun s y => y = bit ((toA r).f s)) HL.out (by rw [HK.out, ← HNB.out, ← HFB.out]; rfl))
        clear y1
        go_wp2
        go_roundw
        case measure => simp [intOf] <;> omega
        case rel => exact ⟨l ++ [nb], by rw [List.length_append, List.length_singleton, HK.out]; omega, by rw [List.length_append, List.length_singleton, HK.out]; go_num, O9.out, HSN.out, B9.out⟩
    · have hkn : k = r.nx.length := by omega
      have h9 : ¬ (k : Int) < (r.nx.length : Int) := by omega
      have HO0 : Hid (OfOk (toA r) 0 l) := Lib.hid (of_start (by rw [HK.out, hkn]; rfl) HL.out)
      have HR0 := Lib.hid (OW.out.rd encN_len)
      clear m1 m2
      go_wp2_with fail
      go_loopw [4, 5] (fun v4 v5 wr => ∃ (rk m : Nat) (l : List Nat) (a : Option Addr) (c : Nat), v4 = .slice a r.nx.length c ∧ Rd 1 encN wr (.slice a r.nx.length c) l ∧ v5 = .int .i64 (m : Nat) ∧ OfOk (toA r) rk l ∧ ((rk = 0 ∧ m = 1) ∨ OfOnto (toA r) l m) ∧ m ≤ r.nx.length ∧ Below W0.heap.size W0 wr) (fun _ v5 _ => r.nx.length - (intOf v5).toNat)
      case atStart => exact ⟨0, 1, l, va, vc, by first | rfl | rw [hkn], by rw [← hkn]; exact HR0.out, rfl, HO0.out, .inl ⟨rfl, rfl⟩, hn0, HB.out⟩
      case round =>
        rename World => w2
        obtain ⟨rk, m, l, a, c, rfl, hr2, rfl, ho2, hm2, hmn, hb2⟩ := hrel
        have HR2 := Lib.hid hr2
        have HO2 := Lib.hid ho2
        have HM2 := Lib.hid hm2
        have HB2 := Lib.hid hb2
        have z2 := hb2.size
        clear hr2 ho2 hm2 hb2 OW HL HB K1 HK HO0 HR0 h9 hkn hlt hk z1
        go_wp2_with fail
        go_loopw [8, 9, 10] (fun v8 v9 v10 wr => ∃ (next first : List Nat), next.length ≤ r.nx.length ∧ v10 = .int .i64 (next.length : Nat) ∧ Own1 1 encN wr w2.heap.size 3 v8 next ∧ Own1 1 encN wr w2.heap.size 3 v9 first ∧ Apart v8 v9 ∧ Ref (toA r) rk l next.length next first ∧ Below w2.heap.size w2 wr) (fun _ _ v10 _ => r.nx.length - (intOf v10).toNat)
        case atStart => exact ⟨[], [], Nat.zero_le _, rfl, own1_nil _ _ _, own1_nil _ _ _, apart_nil _, Ref.start _ _ _, Below.refl _ _⟩
        case round =>
          rename World => wz
          obtain ⟨next, first, hk, rfl, own8, own9, hap, href, hb3⟩ := hrel
          obtain ⟨pa, pc, hpa⟩ := own8.slice
          subst hpa
          obtain ⟨qa, qc, hqa⟩ := own9.slice
          subst hqa
          have O8 := Lib.hid own8
          have O9 := Lib.hid own9
          have AP := Lib.hid hap
          have HRF := Lib.hid href
          have HB3 := Lib.hid hb3
          have z3 := hb3.size
          have hfl := href.le
          have KZ := Lib.hid (Blk.below (Blk.below K0.out HB2.out) hb3)
          clear own8 own9 hap href hb3
          obtain ⟨i, hii⟩ : ∃ i, next.length = i := ⟨_, rfl⟩
          have HI := Lib.hid hii
          rw [hii] at O8 HRF hk hfl AP ⊢
          clear hii
          by_cases hlt : i < r.nx.length
          · have h9 : (i : Int) < (r.nx.length : Int) := by omega
            have HOZ := Lib.hid ((HR2.out.below HB3.out))
            have HNZ := Lib.hid ((HN.out.below HB2.out).below HB3.out)
            have HF9 := Lib.hid (O9.out.rd encN_len)
            go_wp2_with fail
            go_loopw [11] (fun v11 wr => ∃ q : Nat, q ≤ first.length ∧ v11 = .int .i64 (q : Nat) ∧ (∀ j, j < q → ¬ Er (toA r) (rk + 1) i (first.getD j 0)) ∧ Below wz.heap.size wz wr) (fun v11 _ => first.length - (intOf v11).toNat)
            case atStart => exact ⟨0, Nat.zero_le _, rfl, fun j h => by omega, Below.refl _ _⟩
            case round =>
              rename World => wq
              obtain ⟨q, hq, rfl, hqn, hb4⟩ := hrel
              have HQN := Lib.hid hqn
              have HB4 := Lib.hid hb4
              have z4 := hb4.size
              have KQ := Lib.hid (Blk.below KZ.out hb4)
              clear hqn hb4
              by_cases hql : q < first.length
              · have hyl := HRF.out.lt _ (getD_mem hql)
                obtain ⟨bq, oq, rfl, j0⟩ := (HF9.out.below HB4.out).nat q hql
                have HERF := Lib.hid (fun (y : Nat) (hy : y < r.nx.length) => alk_iff HOK.out.ok HO2.out (a := i) (b := y) hlt hy)
                obtain ⟨y, hy⟩ : ∃ y, first.getD q 0 = y := ⟨_, rfl⟩
                have HY := Lib.hid hy
                rw [hy] at hyl j0
                have hyn : y < r.nx.length := by omega
                have HAI := Lib.hid (HERF.out y hyn)
                have h8 : (q : Int) < (first.length : Int) := by omega
                obtain ⟨ab, hab⟩ : ∃ ab, alk (toA r) l i y = ab := ⟨_, rfl⟩
                have HAB := Lib.hid hab
                have HAL : Hid (∀ W, Below wq.heap.size wq W → Calls Try.prog 65 #[.agg #[.int .i64 r.st, .slice a1 r.nx.length c1, .slice a2 r.ac.length c2], .slice a r.nx.length c, .int .i64 (i : Int), .int .i64 (y : Int)] W fun e w' => e = .returned (.bool ab) ∧ Below W.heap.size W w') := Lib.hid (fun W hW => by
                  have := alike_any r HOK.out a1 c1 a2 r.ac.length c2 a c l HO2.out.len i y hlt hyn W ((HNZ.out.below HB4.out).below hW) ((HOZ.out.below HB4.out).below hW)
                  rw [hab] at this
                  exact this)
                have HCE : Hid (∀ wx, Below wq.heap.size wq wx → wx.cell? ⟨g, 0, none⟩ = some (.int .i64 r.st) ∧ wx.cell? ⟨g, 1, none⟩ = some (.slice a1 r.nx.length c1) ∧ wx.cell? ⟨g, 2, none⟩ = some (.slice a2 r.ac.length c2) ∧ wx.cell? ⟨bq, oq + q, none⟩ = some (.int .i64 (y : Nat))) := Lib.hid (fun wx hx => by
                  have k := Blk.below KQ.out hx
                  exact ⟨k.cell 0, k.cell 1, k.cell 2, (hx.cell (p := ⟨bq, oq + q, none⟩) (World.block_lt_of_cell? wq _ j0)).trans j0⟩)
                obtain ⟨u0, u1, u2, u3⟩ := HCE.out wq (Below.refl _ _)
                clear hy hab HERF hyl
                go_wp2_with fail
                go_region_held3 (fun wx => wx.cell? ⟨g, 0, none⟩ = some (.int .i64 r.st) ∧ wx.cell? ⟨g, 1, none⟩ = some (.slice a1 r.nx.length c1) ∧ wx.cell? ⟨g, 2, none⟩ = some (.slice a2 r.ac.length c2) ∧ wx.cell? ⟨bq, oq + q, none⟩ = some (.int .i64 (y : Nat))) (first | exact HCE.out _ B5 | exact HCE.out _ (Below.refl _ _).drew) ((go_at_call 65; refine (HAL.out _ (by first | exact Below.refl _ _ | exact (Below.refl _ _).drew)).mono ?_; rintro e w5 ⟨rfl, b5⟩; have B5 : Below wq.heap.size wq w5 := (Below.refl _ wq).drew.trans b5; clear b5))
                have BW := Lib.hid (HB4.out.trans (B5.mono z4))
                have B5' := Lib.hid B5
                clear u0 u1 u2 u3 j0 B5
                cases ab with
                | false =>
                  have HNE : Hid (¬ Er (toA r) (rk + 1) i y) := Lib.hid (fun h => by have := HAI.out.2 h; rw [HAB.out] at this; cases this)
                  go_wp2
                  go_roundw
                  case measure => simp [intOf] <;> omega
                  case rel => exact ⟨q + 1, by omega, by go_num, fun j hj => by
                    rcases Nat.lt_or_ge j q with h | h
                    · exact HQN.out j h
                    · obtain rfl : j = q := by omega
                      rw [HY.out]; exact HNE.out, BW.out⟩
                | true =>
                  have HEQ : Hid (Er (toA r) (rk + 1) i (first.getD q 0)) := Lib.hid (by rw [HY.out]; exact HAI.out.1 HAB.out)
                  have O8' : Hid (Own1 1 encN w5 w2.heap.size 3 (.slice pa i pc) next) := Lib.hid (own_below O8.out BW.out)
                  have O9' : Hid (Own1 1 encN w5 w2.heap.size 3 (.slice (some ⟨bq, oq, none⟩) first.length qc) first) := Lib.hid (own_below O9.out BW.out)
                  have hnl : next.length ≤ 1000000000 := by have := HI.out; omega
                  have z5 : w2.heap.size ≤ w5.heap.size := Nat.le_trans z3 BW.out.size
                  have t : ((q : Int) == (first.length : Int)) = false := by rw [beq_eq_false_iff_ne]; omega
                  have t' : (q == first.length) = false := by rw [beq_eq_false_iff_ne]; omega
                  have HQL := Lib.hid hql
                  clear h8
                  go_wp2_with (first | (at_builtin; refine wpList_append_lie (w0 := w5) (x := q) (N := w5.heap.size) rfl rfl _ _ 56 rfl w2.heap.size iI _ 8 Try.underlying56 hiI hzI hkI hbI (by omega) rfl (by omega) encN_len encN_one _ next rfl rfl O8'.out rfl hnl z5 ?_; intro v9 w9 y1) | go_in)
                  have HN9 : Hid (Own1 1 encN w9 w2.heap.size 3 v9 (next ++ [q]) ∧ Own1 1 encN w9 w2.heap.size 3 (.slice (some ⟨bq, oq, none⟩) first.length qc) first ∧ Apart v9 (.slice (some ⟨bq, oq, none⟩) first.length qc) ∧ Ref (toA r) rk l (next ++ [q]).length (next ++ [q]) first ∧ Below w2.heap.size w2 w9) := Lib.hid (by
                    obtain ⟨k1, k2⟩ := y1.other O9'.out AP.out
                    refine ⟨y1.1, k1, k2, ?_, (HB3.out.trans (BW.out.mono z3)).trans y1.2.1⟩
                    have := HRF.out.old HQL.out HEQ.out
                    rw [List.length_append, List.length_singleton, HI.out]
                    exact this)
                  have hnn : (next ++ [q]).length = i + 1 := by rw [List.length_append, List.length_singleton, HI.out]
                  have HNN := Lib.hid hnn
                  clear y1 t t' hnn
                  go_wp2
                  go_roundw
                  case measure => simp [intOf] <;> omega
                  case rel => exact ⟨next ++ [q], first, by rw [HNN.out]; omega, by rw [HNN.out]; go_num, HN9.out.1, HN9.out.2.1, HN9.out.2.2.1, HN9.out.2.2.2.1, HN9.out.2.2.2.2⟩
              · obtain rfl : q = first.length := by omega
                have h8 : ¬ (first.length : Int) < (first.length : Int) := by omega
                have HQL : Hid (∀ j, j < first.length → ¬ Er (toA r) (rk + 1) i (first.getD j 0)) := HQN
                have u0 : wq.cell? ⟨g, 0, none⟩ = some (.int .i64 r.st) := KQ.out.cell 0
                have u1 : wq.cell? ⟨g, 1, none⟩ = some (.slice a1 r.nx.length c1) := KQ.out.cell 1
                have u2 : wq.cell? ⟨g, 2, none⟩ = some (.slice a2 r.ac.length c2) := KQ.out.cell 2
                have hnl : next.length ≤ 1000000000 := by have := HI.out; omega
                have hfl2 : first.length ≤ 1000000000 := by omega
                have BQ : Hid (∀ n, Below wz.heap.size wz (wq.drewN n)) := Lib.hid (fun n => below_drewN HB4.out n)
                obtain ⟨fl, hflx⟩ : ∃ fl, first.length = fl := ⟨_, rfl⟩
                have HFL := Lib.hid hflx
                rw [hflx] at O9 AP hfl hfl2
                go_wp2_with fail
                go_quiet (fail)
                obtain ⟨wd, hwd⟩ : ∃ wd, wq.drewN nq = wd := ⟨_, rfl⟩
                have BD := BQ.out nq
                rw [hwd] at BD ⊢
                have O8d : Hid (Own1 1 encN wd w2.heap.size 3 (.slice pa i pc) next) := Lib.hid (own_below O8.out BD)
                have O9d : Hid (Own1 1 encN wd w2.heap.size 3 (.slice qa fl qc) first) := Lib.hid (own_below O9.out BD)
                have APS := Lib.hid (Apart.symm AP.out)
                have z5 : w2.heap.size ≤ wd.heap.size := Nat.le_trans z3 BD.size
                have HBD := Lib.hid BD
                have hfl3 : first.length ≤ 1000000000 := by have := HFL.out; omega
                clear u0 u1 u2 hwd BQ BD
                go_wp2_with (first | (at_builtin; refine wpList_append_lie (w0 := wd) (x := i) (N := wd.heap.size) rfl rfl _ _ 56 rfl w2.heap.size iI _ 8 Try.underlying56 hiI hzI hkI hbI (by omega) rfl (by omega) encN_len encN_one _ first rfl rfl O9d.out rfl hfl3 z5 ?_; intro v9 w9 y1) | (at_builtin; refine wpList_append_lie (w0 := w9) (x := fl) (N := w9.heap.size) rfl rfl _ _ 56 rfl w2.heap.size iI _ 8 Try.underlying56 hiI hzI hkI hbI (by omega) rfl (by omega) encN_len encN_one _ next rfl rfl (y1.other O8d.out APS.out).1 rfl hnl (Nat.le_trans z5 y1.2.1.size) ?_; intro v10 w10 y2) | go_in)
                have HN9 : Hid (Own1 1 encN w10 w2.heap.size 3 v10 (next ++ [fl]) ∧ Own1 1 encN w10 w2.heap.size 3 v9 (first ++ [i]) ∧ Apart v10 v9 ∧ Ref (toA r) rk l (next ++ [fl]).length (next ++ [fl]) (first ++ [i]) ∧ Below w2.heap.size w2 w10) := Lib.hid (by
                  obtain ⟨k1, k2⟩ := y1.other O8d.out APS.out
                  obtain ⟨k3, k4⟩ := y2.other y1.1 (Apart.symm k2)
                  refine ⟨y2.1, k3, k4, ?_, ((HB3.out.trans (HBD.out.mono z3)).trans y1.2.1).trans y2.2.1⟩
                  have := HRF.out.new_ HQL.out
                  rw [HFL.out] at this
                  rw [List.length_append, List.length_singleton, HI.out]
                  exact this)
                have hnn : (next ++ [fl]).length = i + 1 := by rw [List.length_append, List.length_singleton, HI.out]
                have HNN := Lib.hid hnn
                clear y1 y2 hnn hflx
                go_wp2
                go_roundw
                case measure => simp [intOf] <;> omega
                case rel => exact ⟨next ++ [fl], first ++ [i], by rw [HNN.out]; omega, by rw [HNN.out]; go_num, HN9.out.1, HN9.out.2.1, HN9.out.2.2.1, HN9.out.2.2.2.1, HN9.out.2.2.2.2⟩
          · have hin : i = r.nx.length := by omega
            have h9 : ¬ (i : Int) < (r.nx.length : Int) := by omega
            obtain ⟨fl, hflx⟩ : ∃ fl, first.length = fl := ⟨_, rfl⟩
            have HFL := Lib.hid hflx
            have HDN := Lib.hid (show OfOk (toA r) (rk + 1) next ∧ OfOnto (toA r) next fl by
              have h := HRF.out
              rw [show i = (toA r).n from hin] at h
              have := h.done
              rw [hflx] at this
              exact this)
            have hmc := more_count HO2.out HM2.out HDN.out.1 HDN.out.2 hn0
            have HE := Lib.hid (fun (e : fl = m) => ref_end HOK.out.ok HO2.out HM2.out HDN.out.1 (by rw [← e]; exact HDN.out.2))
            have HRD := Lib.hid (O8.out.rd encN_len)
            rw [hflx] at hfl
            have HIN := Lib.hid hin
            by_cases hfm : fl = m
            · have t : ((fl : Int) == (m : Int)) = true := by rw [beq_iff_eq]; omega
              have t' : (fl == m) = true := by rw [beq_iff_eq]; exact hfm
              have HFIN : Hid (ClsP r w (.returned (.slice pa i pc)) wz) := Lib.hid ⟨pa, pc, next, by rw [HI.out], by rw [HI.out]; exact HRD.out, by rw [HI.out, hin], HE.out hfm, HBA.out.trans ((HB2.out.trans (HB3.out.mono z2)).mono HBA.out.size)⟩
              clear hfm hin hmc
              go_wp2_with fail
              go_ret
              exact HFIN.out
            · have t : ((fl : Int) == (m : Int)) = false := by rw [beq_eq_false_iff_ne]; omega
              have t' : (fl == m) = false := by rw [beq_eq_false_iff_ne]; exact hfm
              have hlt' : m < fl := by omega
              have HFIN : Hid (Rd 1 encN wz (.slice pa r.nx.length pc) next ∧ OfOk (toA r) (rk + 1) next ∧ OfOnto (toA r) next fl ∧ Below W0.heap.size W0 wz) := Lib.hid ⟨by rw [← hin]; exact HRD.out, HDN.out.1, HDN.out.2, HB2.out.trans (HB3.out.mono z2)⟩
              clear hfm hmc
              go_wp2_with fail
              go_roundw
              case measure => simp [intOf] <;> omega
              case rel => exact ⟨rk + 1, fl, next, pa, pc, by rw [HIN.out], HFIN.out.1, rfl, HFIN.out.2.1, .inr HFIN.out.2.2.1, by omega, HFIN.out.2.2.2⟩
end Go.Proofs.Ytiljagfjgefnnaa
