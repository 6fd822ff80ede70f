/- Of the reference: minimal. -/
import Derived.Test.YtiljagfjgefnnaaAs
import Derived.Test.YtiljagfjgefnnaaAr
import Derived.Deep.RegionHeld3
import Derived.Test.YtiljagfjgefnnaaAt
namespace Go.Proofs.Ytiljagfjgefnnaa
open Go.RowKit
set_option linter.unusedVariables false

theorem stepLie {w : World} {base gout : Nat} {v4 v5 v8 vN vF : Value} {A : Aut} {cl : Nat → Nat} {fd : List Nat} {s c : Nat} {raws : List RawS} {l : List (List Nat)} {acc : List Bool} {f4 f5 f8 : List Nat} (h : MS w base gout v4 v5 v8 vN vF f4 f5 f8 raws l acc)
    (e5 : (rowK A cl fd s (c + 1)).2 = f5) (e4 : f4 = f5.map cl) (e8 : (rowK A cl fd s (c + 1)).1 = f8) : MS w base gout v4 v5 v8 vN vF ((rowK A cl fd s (c + 1)).2.map cl) (rowK A cl fd s (c + 1)).2 (rowK A cl fd s (c + 1)).1 raws l acc := by
  rw [e5, e8, ← e4]
  exact h
set_option maxRecDepth 1000000 in
set_option maxHeartbeats 16000000 in
theorem minimal_any (r : RawD) (ok : DOk r) (a1 : Option Addr) (c1 : Nat) (a2 : Option Addr) (c2 : Nat) (w : World) (hN : RdRows w (.slice a1 r.nx.length c1) r.nx) (hF : Rd 1 encO w (.slice a2 r.ac.length c2) r.ac) :
    Calls Try.prog 41 #[.agg #[.int .i64 r.st, .slice a1 r.nx.length c1, .slice a2 r.ac.length c2]] w (MinP r w) := by
  obtain ⟨iI, hiI, hzI, hkI, hbI⟩ := info_parts Try.infoI
  obtain ⟨iO, hiO, hzO, hkO, hbO⟩ := info_parts Try.infoO
  obtain ⟨iR, hiR, hzR, hkR, hbR⟩ := info_parts Try.infoRow
  have BA := (Below.refl w.heap.size w).alloc (Nat.le_refl _) (.cells #[.int .i64 r.st, .slice a1 r.nx.length c1, .slice a2 r.ac.length c2] 25)
  have BB := BA.alloc BA.size (.cells #[.int .i64 0, .slice none 0 0, .slice none 0 0] 25)
  have k0 := (Blk.new w 25 #[.int .i64 r.st, .slice a1 r.nx.length c1, .slice a2 r.ac.length c2]).alloc (.cells #[.int .i64 0, .slice none 0 0, .slice none 0 0] 25)
  have kr := Blk.new (w.alloc (.cells #[.int .i64 r.st, .slice a1 r.nx.length c1, .slice a2 r.ac.length c2] 25)) 25 #[.int .i64 0, .slice none 0 0, .slice none 0 0]
  rw [World.size_alloc] at kr
  obtain ⟨W0, hW0⟩ : ∃ W0, (w.alloc (.cells #[.int .i64 r.st, .slice a1 r.nx.length c1, .slice a2 r.ac.length c2] 25)).alloc (.cells #[.int .i64 0, .slice none 0 0, .slice none 0 0] 25) = W0 := ⟨_, rfl⟩
  have HN := Lib.hid (hN.below BB)
  have HF := Lib.hid (hF.below BB)
  have HBA := Lib.hid BB
  have K0 := Lib.hid k0
  have KR := Lib.hid kr
  rw [hW0] at HN HF HBA K0 KR
  obtain ⟨g, hg⟩ : ∃ g, w.heap.size = g := ⟨_, rfl⟩
  have HG := Lib.hid hg
  have HW0 := Lib.hid hW0
  rw [hg] at K0 KR
  have HOK := Lib.hid ok
  have HA := Lib.hid ok.ok
  have hn0 := ok.some_
  have hn1 := ok.most
  obtain ⟨S, hS⟩ : ∃ S : Nat, r.st = (S : Int) := ⟨r.st.toNat, by have := ok.st0; omega⟩
  have hSn : S < r.nx.length := by have := ok.st1; omega
  have HSA : Hid ((toA r).s0 = S) := Lib.hid (by show r.st.toNat = S; rw [hS]; rfl)
  have HCL := Lib.hid (classes_any r ok a1 c1 a2 c2 W0 HN.out HF.out)
  rw [hS] at K0 HCL
  have f0 : W0.cell? ⟨g, 0, none⟩ = some (.int .i64 (S : Int)) := K0.out.cell 0
  have f1 : W0.cell? ⟨g, 1, none⟩ = some (.slice a1 r.nx.length c1) := K0.out.cell 1
  have f2 : W0.cell? ⟨g, 2, none⟩ = some (.slice a2 r.ac.length c2) := K0.out.cell 2
  clear hN hF BA BB k0 kr hW0 hg ok hS
  go_enter Try.func41, Try.ntmps41
  go_upto_region 1 with fail
  rw [HW0.out, HG.out]
  clear HW0
  go_wp2_with fail
  refine HCL.out.mono ?_
  rintro e wc ⟨pa, pc, cls, rfl, hr0, hlen, hcl, bc⟩
  rw [hlen] at hr0 ⊢
  have HR0 := Lib.hid hr0
  have HCls := Lib.hid hcl
  have HB0 := Lib.hid bc
  have HLEN := Lib.hid hlen
  have KC := Lib.hid (Blk.below K0.out bc)
  have KRC := Lib.hid (Blk.below KR.out bc)
  have zc := bc.size
  clear hr0 hcl bc hlen f0 f1 f2 HCL
  obtain ⟨cl, hcle⟩ : ∃ cl : Nat → Nat, (fun s => cls.getD s 0) = cl := ⟨_, rfl⟩
  have HCE : Hid (∀ s, cls.getD s 0 = cl s) := Lib.hid (fun s => by rw [← hcle])
  rw [hcle] at HCls
  clear hcle
  have f0 : wc.cell? ⟨g, 0, none⟩ = some (.int .i64 (S : Int)) := KC.out.cell 0
  obtain ⟨bo, oo, rfl, j0⟩ := HR0.out.nat S (by rw [HLEN.out]; exact hSn)
  rw [HCE.out] at j0
  have hS' : (S : Int) < (r.nx.length : Int) := by omega
  have ba := (Below.refl wc.heap.size wc).alloc (Nat.le_refl _) (.cells #[.int .i64 (cl S : Nat)] 3)
  have bb := ba.alloc ba.size (.cells #[.int .i64 (S : Nat)] 3)
  have bz := bb.alloc bb.size (.cells #[.int .i64 0, .slice none 0 0, .slice none 0 0] 25)
  have o4 := own_num wc wc.heap.size (Nat.le_refl _) (cl S)
  have o5 := own_num (wc.alloc (.cells #[.int .i64 (cl S : Nat)] 3)) wc.heap.size ba.size S
  have ko := Blk.new ((wc.alloc (.cells #[.int .i64 (cl S : Nat)] 3)).alloc (.cells #[.int .i64 (S : Nat)] 3)) 25 #[.int .i64 0, .slice none 0 0, .slice none 0 0]
  have HMS : Hid (MS (((wc.alloc (.cells #[.int .i64 (cl S : Nat)] 3)).alloc (.cells #[.int .i64 (S : Nat)] 3)).alloc (.cells #[.int .i64 0, .slice none 0 0, .slice none 0 0] 25)) wc.heap.size (wc.heap.size + 1 + 1) (.slice (some ⟨wc.heap.size, 0, none⟩) 1 1) (.slice (some ⟨wc.heap.size + 1, 0, none⟩) 1 1) (.slice none 0 0) (.slice none 0 0) (.slice none 0 0) ((fdK (toA r) cl 0).map cl) (fdK (toA r) cl 0) [] [] (outN (toA r) cl 0) (outF (toA r) cl 0)) := Lib.hid (by
    rw [World.size_alloc] at o5 ko
    rw [World.size_alloc] at ko
    rw [fdK_zero, HSA.out]
    have b1 := (Below.refl _ (wc.alloc (.cells #[.int .i64 (cl S : Nat)] 3))).alloc (Nat.le_refl _) (.cells #[.int .i64 (S : Nat)] 3)
    have b2 := b1.alloc b1.size (.cells #[.int .i64 0, .slice none 0 0, .slice none 0 0] 25)
    have b3 := (Below.refl _ ((wc.alloc (.cells #[.int .i64 (cl S : Nat)] 3)).alloc (.cells #[.int .i64 (S : Nat)] 3))).alloc (Nat.le_refl _) (.cells #[.int .i64 0, .slice none 0 0, .slice none 0 0] 25)
    refine ⟨⟨own_below o4 b2, own_below o5 b3, own1_nil _ _ _, fun b hb hb' => ?_, fun b _ hb' => (by cases hb'), fun b _ hb' => (by cases hb'), rowsOk_nil _, (fun x hx => by cases hx), apR_nil _, apR_nil _, apR_nil _, apR_nil _, apR_nil _, own1_nil _ _ _, own1_nil _ _ _⟩, ko⟩
    have h1 : (some wc.heap.size : Option Nat) = some b := hb
    have h2 : (some (wc.heap.size + 1) : Option Nat) = some b := hb'
    injection h1 with h1
    injection h2 with h2
    omega)
  have HBZ := Lib.hid bz
  have f0b : (wc.alloc (.cells #[.int .i64 (cl S : Nat)] 3)).cell? ⟨g, 0, none⟩ = some (.int .i64 (S : Int)) := (KC.out.alloc (.cells #[.int .i64 (cl S : Nat)] 3)).cell 0
  clear ba bb bz o4 o5 ko
  go_wp2_with fail
  obtain ⟨W1, hW1⟩ : ∃ W1, ((wc.alloc (.cells #[.int .i64 (cl S : Nat)] 3)).alloc (.cells #[.int .i64 (S : Nat)] 3)).alloc (.cells #[.int .i64 0, .slice none 0 0, .slice none 0 0] 25) = W1 := ⟨_, rfl⟩
  rw [hW1] at HMS HBZ ⊢
  obtain ⟨base, hbase⟩ : ∃ base, wc.heap.size = base := ⟨_, rfl⟩
  have HBS := Lib.hid hbase
  rw [hbase] at HMS HBZ ⊢
  obtain ⟨gout, hgout⟩ : ∃ gout, base + 1 + 1 = gout := ⟨_, rfl⟩
  rw [hgout] at HMS ⊢
  have HGE := Lib.hid hgout
  clear hW1 hbase hgout f0 j0 f0b
  go_loopw [4, 5, 7] (fun v4 v5 v7 wr => ∃ (i : Nat) (vN vF : Value) (raws : List RawS), v7 = .int .i64 (i : Nat) ∧ (∀ j, j < i → j < (fdK (toA r) cl j).length) ∧ i ≤ (fdK (toA r) cl i).length ∧ MS wr base gout v4 v5 (.slice none 0 0) vN vF ((fdK (toA r) cl i).map cl) (fdK (toA r) cl i) [] raws (outN (toA r) cl i) (outF (toA r) cl i) ∧ Below base wc wr) (fun _ _ v7 _ => r.nx.length + 1 - (intOf v7).toNat)
  case atStart => exact ⟨0, _, _, [], rfl, fun j h => by omega, Nat.zero_le _, HMS.out, HBZ.out⟩
  case round =>
    rename World => w1
    obtain ⟨i, vN, vF, raws, rfl, hgood, hile, hms, hb1⟩ := hrel
    have hfdok := fdK_ok cl HA.out i hgood
    have hfdl : (fdK (toA r) cl i).length ≤ r.nx.length := hfdok.len
    obtain ⟨p4, q4, hp4⟩ := hms.o4.slice
    subst hp4
    obtain ⟨p5, q5, hp5⟩ := hms.o5.slice
    subst hp5
    have HM := Lib.hid hms
    have HB1 := Lib.hid hb1
    have HGD := Lib.hid hgood
    have HFO := Lib.hid hfdok
    have z1 := hb1.size
    clear hms hb1 hgood hfdok HMS HBZ
    rw [List.length_map] at HM ⊢
    obtain ⟨FD, hFD⟩ : ∃ FD, fdK (toA r) cl i = FD := ⟨_, rfl⟩
    have HFD := Lib.hid hFD
    rw [hFD] at HM HFO hile hfdl ⊢
    clear hFD
    by_cases hlt : i < FD.length
    · have h9 : (i : Int) < (FD.length : Int) := by omega
      obtain ⟨s, hs⟩ : ∃ s, FD.getD i 0 = s := ⟨_, rfl⟩
      have HS := Lib.hid hs
      have hsn : s < r.nx.length := by rw [← hs]; exact HFO.out.lt _ (getD_mem hlt)
      clear hs
      have HM0 : Hid (MS w1 base gout (.slice p4 FD.length q4) (.slice p5 FD.length q5) (.slice none 0 0) vN vF ((rowK (toA r) cl FD s 0).2.map cl) (rowK (toA r) cl FD s 0).2 (rowK (toA r) cl FD s 0).1 raws (outN (toA r) cl i) (outF (toA r) cl i)) := HM
      go_wp2_with fail
      go_loopw [4, 5, 8, 9] (fun v4 v5 v8 v9 wr => ∃ c : Nat, c ≤ 11 ∧ v9 = .int .i64 (c : Nat) ∧ MS wr base gout v4 v5 v8 vN vF ((rowK (toA r) cl FD s c).2.map cl) (rowK (toA r) cl FD s c).2 (rowK (toA r) cl FD s c).1 raws (outN (toA r) cl i) (outF (toA r) cl i) ∧ Below base wc wr) (fun _ _ _ v9 _ => 11 - (intOf v9).toNat)
      case atStart => exact ⟨0, by omega, rfl, HM0.out, HB1.out⟩
      case round =>
        rename World => wz
        obtain ⟨c, hc, rfl, hms, hb2⟩ := hrel
        have hrl : (rowK (toA r) cl FD s c).2.length ≤ r.nx.length := row_len_le HA.out HFO.out (show s < (toA r).n from hsn) hc
        have hpre := rowK_pre (toA r) cl FD s c
        have hRl := rowK_len (toA r) cl FD s c
        obtain ⟨p4, q4, hp4⟩ := hms.o4.slice
        subst hp4
        obtain ⟨p5, q5, hp5⟩ := hms.o5.slice
        subst hp5
        obtain ⟨p8, q8, hp8⟩ := hms.o8.slice
        subst hp8
        have HM2 := Lib.hid hms
        have HB2 := Lib.hid hb2
        have z2 := hb2.size
        clear hms hb2 HM HM0
        rw [List.length_map] at HM2 ⊢
        obtain ⟨F, hF⟩ : ∃ F, (rowK (toA r) cl FD s c).2 = F := ⟨_, rfl⟩
        obtain ⟨R, hR⟩ : ∃ R, (rowK (toA r) cl FD s c).1 = R := ⟨_, rfl⟩
        have HFF := Lib.hid hF
        have HRR := Lib.hid hR
        have HE5 : Hid ((rowK (toA r) cl FD s (c + 1)).2 = add cl F ((toA r).d s c) ∧ (rowK (toA r) cl FD s (c + 1)).1 = R ++ [idx (F.map cl) (cl ((toA r).d s c))]) := Lib.hid (by
          rw [rowK_succ]
          unfold rowStp
          rw [hF, hR]
          exact ⟨rfl, rfl⟩)
        rw [hF, hR] at HM2
        rw [hF] at hrl hpre ⊢
        rw [hR] at hRl ⊢
        have hFl := hpre.length_le
        have HFI : Hid (F.getD i 0 = s) := Lib.hid (by rw [pre_getD hpre hlt]; exact HS.out)
        have HRL := Lib.hid hRl
        rw [hRl] at HM2 ⊢
        clear hF hR hpre hRl
        by_cases hct : c < 11
        · have h9c : (c : Int) < 11 := by omega
          have hi5 : i < F.length := by omega
          have hi5' : (i : Int) < (F.length : Int) := by omega
          have hs5' : (s : Int) < (r.nx.length : Int) := by omega
          obtain ⟨b5, off5, hp5, k5⟩ := (HM2.out.o5.rd encN_len).nat i hi5
          subst hp5
          rw [HFI.out] at k5
          have HBW : Hid (Below W0.heap.size W0 wz) := Lib.hid (HB0.out.trans (HB2.out.mono (by have := HBS.out; omega)))
          obtain ⟨b, off, b', off', x2, rfl, k0, k1⟩ := HOK.out.cells (HN.out.below HBW.out) hsn hct
          have hdT := HOK.out.ok.go s c hsn hct
          have hdT1 : (toA r).d s c < r.nx.length := hdT
          obtain ⟨T, hT⟩ : ∃ T, (toA r).d s c = T := ⟨_, rfl⟩
          have HTT := Lib.hid hT
          rw [hT] at k1 hdT1 HE5
          obtain ⟨bo2, oo2, e2, j0⟩ := (HR0.out.below (HBS.out ▸ HB2.out)).nat T (by rw [HLEN.out]; exact hdT1)
          cases e2
          rw [HCE.out] at j0
          have hT' : (T : Int) < (r.nx.length : Int) := by omega
          have HIX : Hid (∀ n, Calls Try.prog 48 #[.slice p4 F.length q4, .int .i64 (cl T : Nat)] (wz.drewN n) fun e w' => e = .returned (.int .i64 (idxV (F.map cl) (cl T))) ∧ w' = wz.drewN n) := Lib.hid (fun n => by
            have := index_any p4 q4 (F.map cl) (cl T) (wz.drewN n)
            rw [List.length_map] at this
            have q := ((HM2.out.o4.rd encN_len).drewN n)
            exact this q)
          have kd : wz.cell? ⟨g, 1, none⟩ = some (.slice (some ⟨b, off, none⟩) r.nx.length c1) := (Blk.below KC.out (HBS.out ▸ HB2.out)).cell 1
          have kdd : wz.drew.cell? ⟨g, 1, none⟩ = some (.slice (some ⟨b, off, none⟩) r.nx.length c1) := kd
          have k0d : wz.drew.cell? ⟨b, off + s, none⟩ = some (.slice (some ⟨b', off', none⟩) 11 x2) := k0
          have k1d : wz.drew.cell? ⟨b', off' + c, none⟩ = some (.int .i64 (T : Nat)) := k1
          have k5d : wz.drew.cell? ⟨b5, off5 + i, none⟩ = some (.int .i64 (s : Nat)) := k5
          clear hT hdT
          go_wp2_with fail
          go_quiet (fail)
          have HIQ := Lib.hid (HIX.out nq)
          have j0' : (wz.drewN nq).cell? ⟨bo, oo + T, none⟩ = some (.int .i64 (cl T : Nat)) := j0
          have HMQ := Lib.hid (HM2.out.below (below_drewN (Below.refl _ _) nq))
          have HBQ := Lib.hid (below_drewN HB2.out nq)
          obtain ⟨wd, hwd⟩ : ∃ wd, wz.drewN nq = wd := ⟨_, rfl⟩
          rw [hwd] at HIQ j0' HMQ HBQ ⊢
          clear hwd HIX kd kdd k0 k0d k1 k1d k5 k5d j0
          have zd : base ≤ wd.heap.size := by have := HBQ.out.size; have := HBS.out; omega
          have hR1 : R.length ≤ 1000000000 := by rw [HRL.out]; omega
          have hF1 : F.length ≤ 1000000000 := by omega
          have hF2 : (F.map cl).length ≤ 1000000000 := by rw [List.length_map]; exact hF1
          by_cases hV : idx (F.map cl) (cl T) < F.length
          · have HV1 : Hid (idxV (F.map cl) (cl T) = (idx (F.map cl) (cl T) : Int)) := Lib.hid (idxV_pos (by rw [List.length_map]; exact hV))
            have HAD := Lib.hid (add_old hV)
            obtain ⟨V, hVe⟩ : ∃ V, idx (F.map cl) (cl T) = V := ⟨_, rfl⟩
            rw [hVe] at HV1 HE5
            rw [HV1.out] at HIQ
            have t0 : ¬ (V : Int) < 0 := by omega
            clear hVe hV HV1
            go_wp2_with fail
            refine HIQ.out.mono ?_
            rintro e we ⟨rfl, hwe⟩
            obtain rfl := hwe.symm
            clear hwe HIQ
            go_wp2_with (first | (at_builtin; refine wpList_append_lie (w0 := wd) (x := V) (N := wd.heap.size) rfl rfl _ _ 56 rfl base iI _ 8 Try.underlying56 hiI hzI hkI hbI (by omega) rfl (by omega) encN_len encN_one _ (R) rfl rfl (HMQ.out.o8) rfl hR1 zd ?_; intro v9 w9 y1) | go_in)
            have HST := Lib.hid (stepLie (HMQ.out.g8 y1) (by rw [HE5.out.1, HAD.out]) rfl HE5.out.2)
            have HB9 := Lib.hid (HBQ.out.trans y1.2.1)
            clear y1 j0'
            go_wp2
            go_roundw
            case measure => simp [intOf] <;> omega
            case rel => exact ⟨c + 1, by omega, by go_num, HST.out, HB9.out⟩
          · have HV1 : Hid (idxV (F.map cl) (cl T) = -1) := Lib.hid (idxV_neg (by rw [List.length_map]; exact hV))
            have HAD := Lib.hid (add_new hV)
            have HVF : Hid (idx (F.map cl) (cl T) = F.length) := Lib.hid (by have := idx_le (F.map cl) (cl T); rw [List.length_map] at this; omega)
            rw [HV1.out] at HIQ
            rw [HVF.out] at HE5
            obtain ⟨U, hU⟩ : ∃ U, cl T = U := ⟨_, rfl⟩
            have HU := Lib.hid hU
            rw [hU] at j0' HIQ
            obtain ⟨m, hm⟩ : ∃ m, F.length = m := ⟨_, rfl⟩
            have HMF := Lib.hid hm
            rw [hm] at HIQ HE5 HMQ ⊢
            clear hU hV HV1
            go_wp2_with fail
            refine HIQ.out.mono ?_
            rintro e we ⟨rfl, hwe⟩
            obtain rfl := hwe.symm
            clear hwe HIQ
            have HJ : Hid (∀ wx, Below wd.heap.size wd wx → wx.cell? ⟨bo, oo + T, none⟩ = some (.int .i64 (U : Nat))) := Lib.hid (fun wx hx => (hx.cell (p := ⟨bo, oo + T, none⟩) (World.block_lt_of_cell? wd _ j0')).trans j0')
            go_wp2_with (first | (at_builtin; refine wpList_append_lie (w0 := wd) (x := U) (N := wd.heap.size) rfl rfl _ _ 56 rfl base iI _ 8 Try.underlying56 hiI hzI hkI hbI (by omega) rfl (by omega) encN_len encN_one _ (F.map cl) rfl rfl (HMQ.out.o4) rfl hF2 zd ?_; intro v9 w9 y1; have M1 := HMQ.out.g4 y1; have B1 := HBQ.out.trans y1.2.1; have zd1 := Nat.le_trans zd y1.2.1.size) | (at_builtin; refine wpList_append_lie (w0 := w9) (x := T) (N := w9.heap.size) rfl rfl _ _ 56 rfl base iI _ 8 Try.underlying56 hiI hzI hkI hbI (by omega) rfl (by omega) encN_len encN_one _ (F) rfl rfl (M1.o5) rfl hF1 zd1 ?_; intro v10 w10 y2; have M2 := M1.g5 y2; have B2 := B1.trans y2.2.1; have zd2 := Nat.le_trans zd1 y2.2.1.size) | (at_builtin; refine wpList_append_lie (w0 := w10) (x := m) (N := w10.heap.size) rfl rfl _ _ 56 rfl base iI _ 8 Try.underlying56 hiI hzI hkI hbI (by omega) rfl (by omega) encN_len encN_one _ (R) rfl rfl (M2.o8) rfl hR1 zd2 ?_; intro v11 w11 y3) | go_in)
            have HST := Lib.hid (stepLie (M2.g8 y3) (by rw [HE5.out.1, HAD.out]) (by rw [List.map_append, ← HU.out]; rfl) HE5.out.2)
            have HB9 := Lib.hid (B2.trans y3.2.1)
            clear y1 y2 y3 j0' M1 M2 B1 B2
            go_wp2
            go_roundw
            case measure => simp [intOf] <;> omega
            case rel => exact ⟨c + 1, by omega, by go_num, HST.out, HB9.out⟩
        · obtain rfl : c = 11 := by omega
          have hi5 : i < F.length := by omega
          have hi5' : (i : Int) < (F.length : Int) := by omega
          have hs5' : (s : Int) < (r.nx.length : Int) := by omega
          obtain ⟨b5, off5, hp5, k5⟩ := (HM2.out.o5.rd encN_len).nat i hi5
          subst hp5
          rw [HFI.out] at k5
          have HBW : Hid (Below W0.heap.size W0 wz) := Lib.hid (HB0.out.trans (HB2.out.mono (by have := HBS.out; omega)))
          obtain ⟨bf, of, rfl, kf⟩ := (HF.out.below HBW.out).boo s (by rw [HOK.out.ac]; exact hsn)
          have HFV : Hid (r.ac.getD s false = (toA r).f s) := Lib.hid rfl
          obtain ⟨fb, hfb⟩ : ∃ fb, r.ac.getD s false = fb := ⟨_, rfl⟩
          rw [hfb] at kf HFV
          have hac : (s : Int) < (r.ac.length : Int) := by rw [HOK.out.ac]; exact hs5'
          have HFB := Lib.hid hfb
          clear hfb
          have hrw : raws.length ≤ 1000000000 := by rw [HM2.out.rows.len, outN_len]; omega
          have hoF : (outF (toA r) cl i).length ≤ 1000000000 := by rw [outF_len]; omega
          go_upto_region 18 with fail
          have zb : base ≤ wz.heap.size := by have := HBS.out; omega
          have XD := (Below.refl wz.heap.size wz).drew
          have MD := HM2.out.below XD
          have HC5 : Hid (∀ wx vN8 vF8 rN8 r8 l8 f8 (a8 : List Bool), MS1 wx base gout (.slice p4 F.length q4) (.slice (some ⟨b5, off5, none⟩) F.length q5) (.slice p8 11 q8) vN8 vF8 (F.map cl) F f8 rN8 r8 l8 a8 → Blk gout 25 #[.int .i64 0, vN, vF] wx → Below base wc wx → wx.cell? ⟨gout, 1, none⟩ = some vN ∧ wx.cell? ⟨gout, 2, none⟩ = some vF ∧ wx.cell? ⟨g, 2, none⟩ = some (.slice (some ⟨bf, of, none⟩) r.ac.length c2) ∧ wx.cell? ⟨b5, off5 + i, none⟩ = some (.int .i64 (s : Nat)) ∧ wx.cell? ⟨bf, of + s, none⟩ = some (.bool fb)) := Lib.hid (by
            intro wx vN8 vF8 rN8 r8 l8 f8 a8 h1 h2 h3
            obtain ⟨b6, off6, e6, k6⟩ := (h1.o5.rd encN_len).nat i hi5
            cases e6
            rw [HFI.out] at k6
            obtain ⟨b7, off7, e7, k7⟩ := (HF.out.below (HB0.out.trans (h3.mono (by have := HBS.out; omega)))).boo s (by rw [HOK.out.ac]; exact hsn)
            cases e7
            rw [HFB.out] at k7
            exact ⟨h2.cell 1, h2.cell 2, (Blk.below KC.out (HBS.out ▸ h3)).cell 2, k6, k7⟩)
          have HC3 : Hid (∀ wx vN8 vF8 rN8 r8 l8 f8 (a8 : List Bool), MS1 wx base gout (.slice p4 F.length q4) (.slice (some ⟨b5, off5, none⟩) F.length q5) (.slice p8 11 q8) vN8 vF8 (F.map cl) F f8 rN8 r8 l8 a8 → Below base wc wx → wx.cell? ⟨g, 2, none⟩ = some (.slice (some ⟨bf, of, none⟩) r.ac.length c2) ∧ wx.cell? ⟨b5, off5 + i, none⟩ = some (.int .i64 (s : Nat)) ∧ wx.cell? ⟨bf, of + s, none⟩ = some (.bool fb)) := Lib.hid (by
            intro wx vN8 vF8 rN8 r8 l8 f8 a8 h1 h3
            obtain ⟨b6, off6, e6, k6⟩ := (h1.o5.rd encN_len).nat i hi5
            cases e6
            rw [HFI.out] at k6
            obtain ⟨b7, off7, e7, k7⟩ := (HF.out.below (HB0.out.trans (h3.mono (by have := HBS.out; omega)))).boo s (by rw [HOK.out.ac]; exact hsn)
            cases e7
            rw [HFB.out] at k7
            exact ⟨(Blk.below KC.out (HBS.out ▸ h3)).cell 2, k6, k7⟩)
          have HGO : Hid (base ≤ gout) := Lib.hid (by have := HGE.out; omega)
          have HNX : Hid (fdK (toA r) cl (i + 1) = F ∧ outN (toA r) cl (i + 1) = outN (toA r) cl i ++ [R] ∧ outF (toA r) cl (i + 1) = outF (toA r) cl i ++ [fb]) := Lib.hid (by
            refine ⟨by rw [fdK_succ, HFD.out, HS.out, HFF.out], ?_, ?_⟩
            · rw [outN_succ]
              unfold rowsK
              rw [HFD.out, HS.out, HRR.out]
            · rw [outF_succ (by rw [HFD.out]; exact hlt), HFD.out, HS.out, HFV.out])
          have CD := Lib.hid (HB2.out.trans (XD.mono zb))
          obtain ⟨wd, hwd⟩ : ∃ wd, wz.drew = wd := ⟨_, rfl⟩
          rw [hwd] at MD CD
          have M0 := Lib.hid MD.toMS1
          have K0 := Lib.hid MD.ko
          have zd : base ≤ wd.heap.size := by rw [← hwd]; exact Nat.le_trans zb XD.size
          have hS : (fun wx : World => wx.cell? ⟨gout, 1, none⟩ = some vN ∧ wx.cell? ⟨gout, 2, none⟩ = some vF ∧ wx.cell? ⟨g, 2, none⟩ = some (.slice (some ⟨bf, of, none⟩) r.ac.length c2) ∧ wx.cell? ⟨b5, off5 + i, none⟩ = some (.int .i64 (s : Nat)) ∧ wx.cell? ⟨bf, of + s, none⟩ = some (.bool fb)) wd := HC5.out _ _ _ _ _ _ _ _ M0.out K0.out CD.out
          clear XD MD k5 kf
          refine region_hd 18 (fun wx : World => wx.cell? ⟨gout, 1, none⟩ = some vN ∧ wx.cell? ⟨gout, 2, none⟩ = some vF ∧ wx.cell? ⟨g, 2, none⟩ = some (.slice (some ⟨bf, of, none⟩) r.ac.length c2) ∧ wx.cell? ⟨b5, off5 + i, none⟩ = some (.int .i64 (s : Nat)) ∧ wx.cell? ⟨bf, of + s, none⟩ = some (.bool fb)) (by kernel_rfl) (by kernel_rfl) ?_
          rw [hwd]
          clear hwd
          refine hd_taken 0 (some 69) _ ?hdv0 rfl rfl (by kernel_rfl) (fun _ _ _ h => h) (Or.inl ⟨by rfl, ?hdy0⟩) hS ?hdr0
          case hdy0 => (intro wx hx; (try dsimp only at hx); go_simp; try with_reducible rfl)
          try simp only [Act.put, List.setIfInBounds_toArray, List.set_cons_zero, List.set_cons_succ]
          refine hd_taken 1 (some 70) _ ?hdv1 rfl rfl (by kernel_rfl) (fun _ _ _ h => h) (Or.inl ⟨by rfl, ?hdy1⟩) hS ?hdr1
          case hdy1 => (intro wx hx; (try dsimp only at hx); go_simp; try with_reducible rfl)
          try simp only [Act.put, List.setIfInBounds_toArray, List.set_cons_zero, List.set_cons_succ]
          refine hd_taken 2 (some 71) _ ?hdv2 rfl rfl (by kernel_rfl) (fun _ _ _ h => h) (Or.inl ⟨by rfl, ?hdy2⟩) hS ?hdr2
          case hdy2 => (intro wx hx; (try dsimp only at hx); go_simp; try with_reducible rfl)
          try simp only [Act.put, List.setIfInBounds_toArray, List.set_cons_zero, List.set_cons_succ]
          refine hd_taken 5 (some 74) _ ?hdv5 rfl rfl (by kernel_rfl) (fun _ _ _ h => h) (Or.inl ⟨by rfl, ?hdy5⟩) hS ?hdr5
          case hdy5 => (intro wx hx; (try dsimp only at hx); go_simp; try with_reducible rfl)
          try simp only [Act.put, List.setIfInBounds_toArray, List.set_cons_zero, List.set_cons_succ]
          refine hd_taken 6 (some 75) _ ?hdv6 rfl rfl (by kernel_rfl) (fun _ _ _ h => h) (Or.inl ⟨by rfl, ?hdy6⟩) hS ?hdr6
          case hdy6 => (intro wx hx; (try dsimp only at hx); go_simp; try with_reducible rfl)
          try simp only [Act.put, List.setIfInBounds_toArray, List.set_cons_zero, List.set_cons_succ]
          refine hd_taken 7 (some 76) _ ?hdv7 rfl rfl (by kernel_rfl) (fun _ _ _ h => h) (Or.inl ⟨by rfl, ?hdy7⟩) hS ?hdr7
          case hdy7 => (intro wx hx; (try dsimp only at hx); go_simp; try with_reducible rfl)
          try simp only [Act.put, List.setIfInBounds_toArray, List.set_cons_zero, List.set_cons_succ]
          refine hd_taken 8 (some 77) _ ?hdv8 rfl rfl (by kernel_rfl) (fun _ _ _ h => h) (Or.inl ⟨by rfl, ?hdy8⟩) hS ?hdr8
          case hdy8 => (intro wx hx; (try dsimp only at hx); go_simp; try with_reducible rfl)
          try simp only [Act.put, List.setIfInBounds_toArray, List.set_cons_zero, List.set_cons_succ]
          refine hd_taken 9 (some 78) _ ?hdv9 rfl rfl (by kernel_rfl) (fun _ _ _ h => h) (Or.inl ⟨by rfl, ?hdy9⟩) hS ?hdr9
          case hdy9 => (intro wx hx; (try dsimp only at hx); go_simp; try with_reducible rfl)
          try simp only [Act.put, List.setIfInBounds_toArray, List.set_cons_zero, List.set_cons_succ]
          refine hd_taken 10 (some 79) _ ?hdv10 rfl rfl (by kernel_rfl) (fun _ _ _ h => h) (Or.inl ⟨by rfl, ?hdy10⟩) hS ?hdr10
          case hdy10 => (intro wx hx; (try dsimp only at hx); go_simp; try with_reducible rfl)
          try simp only [Act.put, List.setIfInBounds_toArray, List.set_cons_zero, List.set_cons_succ]
          refine hd_taken 11 (some 80) _ ?hdv11 rfl rfl (by kernel_rfl) (fun _ _ _ h => h) (Or.inl ⟨by rfl, ?hdy11⟩) hS ?hdr11
          case hdy11 => (intro wx hx; (try dsimp only at hx); go_simp; try with_reducible rfl)
          try simp only [Act.put, List.setIfInBounds_toArray, List.set_cons_zero, List.set_cons_succ]
          refine hd_taken 12 (some 81) _ ?hdv12 rfl rfl (by kernel_rfl) (fun _ _ _ h => h) (Or.inl ⟨by rfl, ?hdy12⟩) hS ?hdr12
          case hdy12 => (intro wx hx; (try dsimp only at hx); go_simp; try with_reducible rfl)
          try simp only [Act.put, List.setIfInBounds_toArray, List.set_cons_zero, List.set_cons_succ]
          refine hd_taken 13 (some 82) _ ?hdv13 rfl rfl (by kernel_rfl) (fun _ _ _ h => h) (Or.inl ⟨by rfl, ?hdy13⟩) hS ?hdr13
          case hdy13 => (intro wx hx; (try dsimp only at hx); go_simp; try with_reducible rfl)
          try simp only [Act.put, List.setIfInBounds_toArray, List.set_cons_zero, List.set_cons_succ]
          refine hd_taken 14 (some 83) _ ?hdv14 rfl rfl (by kernel_rfl) (fun _ _ _ h => h) (Or.inl ⟨by rfl, ?hdy14⟩) hS ?hdr14
          case hdy14 => (intro wx hx; (try dsimp only at hx); go_simp; try with_reducible rfl)
          try simp only [Act.put, List.setIfInBounds_toArray, List.set_cons_zero, List.set_cons_succ]
          refine hd_listA [3, 15] (by kernel_rfl) (by decide) (by decide) (fun i hi => ?_)
          simp only [List.mem_cons, List.not_mem_nil, or_false] at hi
          rcases hi with rfl | rfl
          · refine ⟨_, rfl, fun K3 hK3 => ?_⟩
            go_simp
            obtain ⟨w3x, hw3⟩ : ∃ wx, wd.alloc (.cells #[.slice p8 11 q8] 56) = wx := ⟨_, rfl⟩
            have b3 := (Below.refl wd.heap.size wd).alloc (Nat.le_refl _) (.cells #[.slice p8 11 q8] 56)
            have f3 := Blk.new wd 56 #[.slice p8 11 q8]
            rw [hw3] at b3 f3 ⊢
            obtain ⟨B3, hB3⟩ : ∃ B, wd.heap.size = B := ⟨_, rfl⟩
            rw [hB3] at f3 ⊢
            have kA := Lib.hid f3
            have M3 := Lib.hid (M0.out.below b3)
            have KO3 := Lib.hid (Blk.below K0.out b3)
            have C3 := Lib.hid (CD.out.trans (b3.mono zd))
            have z3 : base ≤ w3x.heap.size := Nat.le_trans zd b3.size
            have hS3 : (fun wx : World => wx.cell? ⟨gout, 1, none⟩ = some vN ∧ wx.cell? ⟨gout, 2, none⟩ = some vF ∧ wx.cell? ⟨g, 2, none⟩ = some (.slice (some ⟨bf, of, none⟩) r.ac.length c2) ∧ wx.cell? ⟨b5, off5 + i, none⟩ = some (.int .i64 (s : Nat)) ∧ wx.cell? ⟨bf, of + s, none⟩ = some (.bool fb)) w3x := HC5.out _ _ _ _ _ _ _ _ M3.out KO3.out C3.out
            clear hw3 b3 f3 hB3
            refine hK3.out _ _ hS3 ?_
            clear hK3 K3
            try simp only [Act.put, List.setIfInBounds_toArray, List.set_cons_zero, List.set_cons_succ]
            refine hd_listA [4, 15] (by kernel_rfl) (by decide) (by decide) (fun i hi => ?_)
            simp only [List.mem_cons, List.not_mem_nil, or_false] at hi
            rcases hi with rfl | rfl
            · refine ⟨_, rfl, fun K4 hK4 => ?_⟩
              refine step_append_blk (w := w3x) (x := (⟨p8, 11, q8⟩ : RawS)) (by rfl) _ _ 22 (by rfl) base iR _ 24 Try.underlying22 hiR hzR hkR hbR (by omega) rfl (by omega) encS_len encS_one _ raws (by rfl) (by rfl) M3.out.oN (by rfl) kA.out hrw z3 ?_
              intro v1 w4x y1
              obtain ⟨pv1, nv1, cv1, hv1⟩ := lie_slice y1
              subst hv1
              have M4 := Lib.hid (M3.out.gN y1)
              have KO4 := Lib.hid (y1.blk KO3.out (own_type M3.out.oN KO3.out (by decide))).1
              have C4 := Lib.hid (C3.out.trans y1.2.1)
              have z4 : base ≤ w4x.heap.size := Nat.le_trans z3 y1.2.1.size
              have hS4 : (fun wx : World => wx.cell? ⟨gout, 1, none⟩ = some vN ∧ wx.cell? ⟨gout, 2, none⟩ = some vF ∧ wx.cell? ⟨g, 2, none⟩ = some (.slice (some ⟨bf, of, none⟩) r.ac.length c2) ∧ wx.cell? ⟨b5, off5 + i, none⟩ = some (.int .i64 (s : Nat)) ∧ wx.cell? ⟨bf, of + s, none⟩ = some (.bool fb)) w4x := HC5.out _ _ _ _ _ _ _ _ M4.out KO4.out C4.out
              clear y1
              refine hK4.out _ _ hS4 ?_
              clear hK4 K4
              try simp only [Act.put, List.setIfInBounds_toArray, List.set_cons_zero, List.set_cons_succ]
              refine hd_taken 17 (some 86) _ ?hdv17 rfl rfl (by kernel_rfl) (fun _ _ _ h => h) (Or.inl ⟨by rfl, ?hdy17⟩) hS4 ?hdr17
              case hdy17 => (intro wx hx; (try dsimp only at hx); go_simp; try with_reducible rfl)
              try simp only [Act.put, List.setIfInBounds_toArray, List.set_cons_zero, List.set_cons_succ]
              refine hd_listA [15] (by kernel_rfl) (by decide) (by decide) (fun i hi => ?_)
              simp only [List.mem_cons, List.not_mem_nil, or_false] at hi
              subst hi
              refine ⟨_, rfl, fun K15 hK15 => ?_⟩
              go_simp
              obtain ⟨w15x, hw15⟩ : ∃ wx, w4x.alloc (.cells #[.bool fb] 4) = wx := ⟨_, rfl⟩
              have b15 := (Below.refl w4x.heap.size w4x).alloc (Nat.le_refl _) (.cells #[.bool fb] 4)
              have f15 := Blk.new w4x 4 #[.bool fb]
              rw [hw15] at b15 f15 ⊢
              obtain ⟨B15, hB15⟩ : ∃ B, w4x.heap.size = B := ⟨_, rfl⟩
              rw [hB15] at f15 ⊢
              have kB := Lib.hid f15
              have M15 := Lib.hid (M4.out.below b15)
              have KO15 := Lib.hid (Blk.below KO4.out b15)
              have C15 := Lib.hid (C4.out.trans (b15.mono z4))
              have z15 : base ≤ w15x.heap.size := Nat.le_trans z4 b15.size
              have hS15 : (fun wx : World => wx.cell? ⟨gout, 1, none⟩ = some vN ∧ wx.cell? ⟨gout, 2, none⟩ = some vF ∧ wx.cell? ⟨g, 2, none⟩ = some (.slice (some ⟨bf, of, none⟩) r.ac.length c2) ∧ wx.cell? ⟨b5, off5 + i, none⟩ = some (.int .i64 (s : Nat)) ∧ wx.cell? ⟨bf, of + s, none⟩ = some (.bool fb)) w15x := HC5.out _ _ _ _ _ _ _ _ M15.out KO15.out C15.out
              clear hw15 b15 f15 hB15
              refine hK15.out _ _ hS15 ?_
              clear hK15 K15
              try simp only [Act.put, List.setIfInBounds_toArray, List.set_cons_zero, List.set_cons_succ]
              refine hd_listA [16] (by kernel_rfl) (by decide) (by decide) (fun i hi => ?_)
              simp only [List.mem_cons, List.not_mem_nil, or_false] at hi
              subst hi
              refine ⟨_, rfl, fun K16 hK16 => ?_⟩
              refine step_append_blk (w := w15x) (x := fb) (by rfl) _ _ 23 (by rfl) base iO _ 1 Try.underlying23 hiO hzO hkO hbO (by omega) rfl (by omega) encO_len encO_one _ (outF (toA r) cl i) (by rfl) (by rfl) M15.out.oF (by rfl) kB.out hoF z15 ?_
              intro v2 w16x y2
              obtain ⟨pv2, nv2, cv2, hv2⟩ := lie_slice y2
              subst hv2
              have M16 := Lib.hid (M15.out.gF y2)
              have KO16 := Lib.hid (y2.blk KO15.out (own_type M15.out.oF KO15.out (by decide))).1
              have C16 := Lib.hid (C15.out.trans y2.2.1)
              have z16 : base ≤ w16x.heap.size := Nat.le_trans z15 y2.2.1.size
              have hS16 : (fun wx : World => wx.cell? ⟨gout, 1, none⟩ = some vN ∧ wx.cell? ⟨gout, 2, none⟩ = some vF ∧ wx.cell? ⟨g, 2, none⟩ = some (.slice (some ⟨bf, of, none⟩) r.ac.length c2) ∧ wx.cell? ⟨b5, off5 + i, none⟩ = some (.int .i64 (s : Nat)) ∧ wx.cell? ⟨bf, of + s, none⟩ = some (.bool fb)) w16x := HC5.out _ _ _ _ _ _ _ _ M16.out KO16.out C16.out
              clear y2
              refine hK16.out _ _ hS16 ?_
              clear hK16 K16
              try simp only [Act.put, List.setIfInBounds_toArray, List.set_cons_zero, List.set_cons_succ]
              refine hd_done (by kernel_rfl) ?_
              simp only [List.drop_succ_cons, List.drop_zero]
              have e1 := KO16.out.cell 1
              have e2 := KO16.out.cell 2
              have ef := KO16.out.frozen
              have M3 := M16.out.set KO16.out 1 (.slice pv1 nv1 cv1)
              have K3 := KO16.out.put 1 (.slice pv1 nv1 cv1)
              have C3 := C16.out.setCell (p := ⟨gout, 1, none⟩) HGO.out (.slice pv1 nv1 cv1)
              have M4 := M3.set K3 2 (.slice pv2 nv2 cv2)
              have K4 := K3.put 2 (.slice pv2 nv2 cv2)
              have C4 := Lib.hid (C3.setCell (p := ⟨gout, 2, none⟩) HGO.out (.slice pv2 nv2 cv2))
              have HFN := Lib.hid (M4.fin HRL.out K4)
              clear M3 K3 C3 M4 K4
              go_wp2
              go_roundw
              case measure => simp [intOf] <;> omega
              case rel => exact ⟨i + 1, _, _, _, by go_num, fun j hj => by
                rcases Nat.lt_or_ge j i with h | h
                · exact HGD.out j h
                · obtain rfl : j = i := by omega
                  rw [HFD.out]
                  exact hlt, by rw [HNX.out.1]; omega, by rw [HNX.out.1, HNX.out.2.1, HNX.out.2.2]; exact HFN.out, C4.out⟩
            · refine ⟨_, rfl, fun K15 hK15 => ?_⟩
              go_simp
              obtain ⟨w15x, hw15⟩ : ∃ wx, w3x.alloc (.cells #[.bool fb] 4) = wx := ⟨_, rfl⟩
              have b15 := (Below.refl w3x.heap.size w3x).alloc (Nat.le_refl _) (.cells #[.bool fb] 4)
              have f15 := Blk.new w3x 4 #[.bool fb]
              rw [hw15] at b15 f15 ⊢
              obtain ⟨B15, hB15⟩ : ∃ B, w3x.heap.size = B := ⟨_, rfl⟩
              rw [hB15] at f15 ⊢
              have kB := Lib.hid f15
              have M15 := Lib.hid (M3.out.below b15)
              have KO15 := Lib.hid (Blk.below KO3.out b15)
              have C15 := Lib.hid (C3.out.trans (b15.mono z3))
              have z15 : base ≤ w15x.heap.size := Nat.le_trans z3 b15.size
              have kA := Lib.hid (Blk.below kA.out b15)
              have hS15 : (fun wx : World => wx.cell? ⟨gout, 1, none⟩ = some vN ∧ wx.cell? ⟨gout, 2, none⟩ = some vF ∧ wx.cell? ⟨g, 2, none⟩ = some (.slice (some ⟨bf, of, none⟩) r.ac.length c2) ∧ wx.cell? ⟨b5, off5 + i, none⟩ = some (.int .i64 (s : Nat)) ∧ wx.cell? ⟨bf, of + s, none⟩ = some (.bool fb)) w15x := HC5.out _ _ _ _ _ _ _ _ M15.out KO15.out C15.out
              clear hw15 b15 f15 hB15
              refine hK15.out _ _ hS15 ?_
              clear hK15 K15
              try simp only [Act.put, List.setIfInBounds_toArray, List.set_cons_zero, List.set_cons_succ]
              refine hd_listA [4] (by kernel_rfl) (by decide) (by decide) (fun i hi => ?_)
              simp only [List.mem_cons, List.not_mem_nil, or_false] at hi
              subst hi
              refine ⟨_, rfl, fun K4 hK4 => ?_⟩
              refine step_append_blk (w := w15x) (x := (⟨p8, 11, q8⟩ : RawS)) (by rfl) _ _ 22 (by rfl) base iR _ 24 Try.underlying22 hiR hzR hkR hbR (by omega) rfl (by omega) encS_len encS_one _ raws (by rfl) (by rfl) M15.out.oN (by rfl) kA.out hrw z15 ?_
              intro v1 w4x y1
              obtain ⟨pv1, nv1, cv1, hv1⟩ := lie_slice y1
              subst hv1
              have M4 := Lib.hid (M15.out.gN y1)
              have KO4 := Lib.hid (y1.blk KO15.out (own_type M15.out.oN KO15.out (by decide))).1
              have C4 := Lib.hid (C15.out.trans y1.2.1)
              have z4 : base ≤ w4x.heap.size := Nat.le_trans z15 y1.2.1.size
              have kB := Lib.hid (y1.blk kB.out (own_type M15.out.oN kB.out (by decide))).1
              have hS4 : (fun wx : World => wx.cell? ⟨gout, 1, none⟩ = some vN ∧ wx.cell? ⟨gout, 2, none⟩ = some vF ∧ wx.cell? ⟨g, 2, none⟩ = some (.slice (some ⟨bf, of, none⟩) r.ac.length c2) ∧ wx.cell? ⟨b5, off5 + i, none⟩ = some (.int .i64 (s : Nat)) ∧ wx.cell? ⟨bf, of + s, none⟩ = some (.bool fb)) w4x := HC5.out _ _ _ _ _ _ _ _ M4.out KO4.out C4.out
              clear y1
              refine hK4.out _ _ hS4 ?_
              clear hK4 K4
              try simp only [Act.put, List.setIfInBounds_toArray, List.set_cons_zero, List.set_cons_succ]
              refine hd_taken 17 (some 86) _ ?hdva17 rfl rfl (by kernel_rfl) (fun _ _ _ h => h) (Or.inl ⟨by rfl, ?hdya17⟩) hS4 ?hdra17
              case hdya17 => (intro wx hx; (try dsimp only at hx); go_simp; try with_reducible rfl)
              try simp only [Act.put, List.setIfInBounds_toArray, List.set_cons_zero, List.set_cons_succ]
              refine hd_listA [16] (by kernel_rfl) (by decide) (by decide) (fun i hi => ?_)
              simp only [List.mem_cons, List.not_mem_nil, or_false] at hi
              subst hi
              refine ⟨_, rfl, fun K16 hK16 => ?_⟩
              refine step_append_blk (w := w4x) (x := fb) (by rfl) _ _ 23 (by rfl) base iO _ 1 Try.underlying23 hiO hzO hkO hbO (by omega) rfl (by omega) encO_len encO_one _ (outF (toA r) cl i) (by rfl) (by rfl) M4.out.oF (by rfl) kB.out hoF z4 ?_
              intro v2 w16x y2
              obtain ⟨pv2, nv2, cv2, hv2⟩ := lie_slice y2
              subst hv2
              have M16 := Lib.hid (M4.out.gF y2)
              have KO16 := Lib.hid (y2.blk KO4.out (own_type M4.out.oF KO4.out (by decide))).1
              have C16 := Lib.hid (C4.out.trans y2.2.1)
              have z16 : base ≤ w16x.heap.size := Nat.le_trans z4 y2.2.1.size
              have hS16 : (fun wx : World => wx.cell? ⟨gout, 1, none⟩ = some vN ∧ wx.cell? ⟨gout, 2, none⟩ = some vF ∧ wx.cell? ⟨g, 2, none⟩ = some (.slice (some ⟨bf, of, none⟩) r.ac.length c2) ∧ wx.cell? ⟨b5, off5 + i, none⟩ = some (.int .i64 (s : Nat)) ∧ wx.cell? ⟨bf, of + s, none⟩ = some (.bool fb)) w16x := HC5.out _ _ _ _ _ _ _ _ M16.out KO16.out C16.out
              clear y2
              refine hK16.out _ _ hS16 ?_
              clear hK16 K16
              try simp only [Act.put, List.setIfInBounds_toArray, List.set_cons_zero, List.set_cons_succ]
              refine hd_done (by kernel_rfl) ?_
              simp only [List.drop_succ_cons, List.drop_zero]
              have e1 := KO16.out.cell 1
              have e2 := KO16.out.cell 2
              have ef := KO16.out.frozen
              have M3 := M16.out.set KO16.out 1 (.slice pv1 nv1 cv1)
              have K3 := KO16.out.put 1 (.slice pv1 nv1 cv1)
              have C3 := C16.out.setCell (p := ⟨gout, 1, none⟩) HGO.out (.slice pv1 nv1 cv1)
              have M4 := M3.set K3 2 (.slice pv2 nv2 cv2)
              have K4 := K3.put 2 (.slice pv2 nv2 cv2)
              have C4 := Lib.hid (C3.setCell (p := ⟨gout, 2, none⟩) HGO.out (.slice pv2 nv2 cv2))
              have HFN := Lib.hid (M4.fin HRL.out K4)
              clear M3 K3 C3 M4 K4
              go_wp2
              go_roundw
              case measure => simp [intOf] <;> omega
              case rel => exact ⟨i + 1, _, _, _, by go_num, fun j hj => by
                rcases Nat.lt_or_ge j i with h | h
                · exact HGD.out j h
                · obtain rfl : j = i := by omega
                  rw [HFD.out]
                  exact hlt, by rw [HNX.out.1]; omega, by rw [HNX.out.1, HNX.out.2.1, HNX.out.2.2]; exact HFN.out, C4.out⟩
          · refine ⟨_, rfl, fun K15 hK15 => ?_⟩
            go_simp
            obtain ⟨w15x, hw15⟩ : ∃ wx, wd.alloc (.cells #[.bool fb] 4) = wx := ⟨_, rfl⟩
            have b15 := (Below.refl wd.heap.size wd).alloc (Nat.le_refl _) (.cells #[.bool fb] 4)
            have f15 := Blk.new wd 4 #[.bool fb]
            rw [hw15] at b15 f15 ⊢
            obtain ⟨B15, hB15⟩ : ∃ B, wd.heap.size = B := ⟨_, rfl⟩
            rw [hB15] at f15 ⊢
            have kB := Lib.hid f15
            have M15 := Lib.hid (M0.out.below b15)
            have KO15 := Lib.hid (Blk.below K0.out b15)
            have C15 := Lib.hid (CD.out.trans (b15.mono zd))
            have z15 : base ≤ w15x.heap.size := Nat.le_trans zd b15.size
            have hS15 : (fun wx : World => wx.cell? ⟨gout, 1, none⟩ = some vN ∧ wx.cell? ⟨gout, 2, none⟩ = some vF ∧ wx.cell? ⟨g, 2, none⟩ = some (.slice (some ⟨bf, of, none⟩) r.ac.length c2) ∧ wx.cell? ⟨b5, off5 + i, none⟩ = some (.int .i64 (s : Nat)) ∧ wx.cell? ⟨bf, of + s, none⟩ = some (.bool fb)) w15x := HC5.out _ _ _ _ _ _ _ _ M15.out KO15.out C15.out
            clear hw15 b15 f15 hB15
            refine hK15.out _ _ hS15 ?_
            clear hK15 K15
            try simp only [Act.put, List.setIfInBounds_toArray, List.set_cons_zero, List.set_cons_succ]
            refine hd_listA [3] (by kernel_rfl) (by decide) (by decide) (fun i hi => ?_)
            simp only [List.mem_cons, List.not_mem_nil, or_false] at hi
            subst hi
            refine ⟨_, rfl, fun K3 hK3 => ?_⟩
            go_simp
            obtain ⟨w3x, hw3⟩ : ∃ wx, w15x.alloc (.cells #[.slice p8 11 q8] 56) = wx := ⟨_, rfl⟩
            have b3 := (Below.refl w15x.heap.size w15x).alloc (Nat.le_refl _) (.cells #[.slice p8 11 q8] 56)
            have f3 := Blk.new w15x 56 #[.slice p8 11 q8]
            rw [hw3] at b3 f3 ⊢
            obtain ⟨B3, hB3⟩ : ∃ B, w15x.heap.size = B := ⟨_, rfl⟩
            rw [hB3] at f3 ⊢
            have kA := Lib.hid f3
            have M3 := Lib.hid (M15.out.below b3)
            have KO3 := Lib.hid (Blk.below KO15.out b3)
            have C3 := Lib.hid (C15.out.trans (b3.mono z15))
            have z3 : base ≤ w3x.heap.size := Nat.le_trans z15 b3.size
            have kB := Lib.hid (Blk.below kB.out b3)
            have hS3 : (fun wx : World => wx.cell? ⟨gout, 1, none⟩ = some vN ∧ wx.cell? ⟨gout, 2, none⟩ = some vF ∧ wx.cell? ⟨g, 2, none⟩ = some (.slice (some ⟨bf, of, none⟩) r.ac.length c2) ∧ wx.cell? ⟨b5, off5 + i, none⟩ = some (.int .i64 (s : Nat)) ∧ wx.cell? ⟨bf, of + s, none⟩ = some (.bool fb)) w3x := HC5.out _ _ _ _ _ _ _ _ M3.out KO3.out C3.out
            clear hw3 b3 f3 hB3
            refine hK3.out _ _ hS3 ?_
            clear hK3 K3
            try simp only [Act.put, List.setIfInBounds_toArray, List.set_cons_zero, List.set_cons_succ]
            refine hd_listA [4] (by kernel_rfl) (by decide) (by decide) (fun i hi => ?_)
            simp only [List.mem_cons, List.not_mem_nil, or_false] at hi
            subst hi
            refine ⟨_, rfl, fun K4 hK4 => ?_⟩
            refine step_append_blk (w := w3x) (x := (⟨p8, 11, q8⟩ : RawS)) (by rfl) _ _ 22 (by rfl) base iR _ 24 Try.underlying22 hiR hzR hkR hbR (by omega) rfl (by omega) encS_len encS_one _ raws (by rfl) (by rfl) M3.out.oN (by rfl) kA.out hrw z3 ?_
            intro v1 w4x y1
            obtain ⟨pv1, nv1, cv1, hv1⟩ := lie_slice y1
            subst hv1
            have M4 := Lib.hid (M3.out.gN y1)
            have KO4 := Lib.hid (y1.blk KO3.out (own_type M3.out.oN KO3.out (by decide))).1
            have C4 := Lib.hid (C3.out.trans y1.2.1)
            have z4 : base ≤ w4x.heap.size := Nat.le_trans z3 y1.2.1.size
            have kB := Lib.hid (y1.blk kB.out (own_type M3.out.oN kB.out (by decide))).1
            have hS4 : (fun wx : World => wx.cell? ⟨gout, 1, none⟩ = some vN ∧ wx.cell? ⟨gout, 2, none⟩ = some vF ∧ wx.cell? ⟨g, 2, none⟩ = some (.slice (some ⟨bf, of, none⟩) r.ac.length c2) ∧ wx.cell? ⟨b5, off5 + i, none⟩ = some (.int .i64 (s : Nat)) ∧ wx.cell? ⟨bf, of + s, none⟩ = some (.bool fb)) w4x := HC5.out _ _ _ _ _ _ _ _ M4.out KO4.out C4.out
            clear y1
            refine hK4.out _ _ hS4 ?_
            clear hK4 K4
            try simp only [Act.put, List.setIfInBounds_toArray, List.set_cons_zero, List.set_cons_succ]
            refine hd_taken 17 (some 86) _ ?hdvb17 rfl rfl (by kernel_rfl) (fun _ _ _ h => h) (Or.inl ⟨by rfl, ?hdyb17⟩) hS4 ?hdrb17
            case hdyb17 => (intro wx hx; (try dsimp only at hx); go_simp; try with_reducible rfl)
            try simp only [Act.put, List.setIfInBounds_toArray, List.set_cons_zero, List.set_cons_succ]
            refine hd_listA [16] (by kernel_rfl) (by decide) (by decide) (fun i hi => ?_)
            simp only [List.mem_cons, List.not_mem_nil, or_false] at hi
            subst hi
            refine ⟨_, rfl, fun K16 hK16 => ?_⟩
            refine step_append_blk (w := w4x) (x := fb) (by rfl) _ _ 23 (by rfl) base iO _ 1 Try.underlying23 hiO hzO hkO hbO (by omega) rfl (by omega) encO_len encO_one _ (outF (toA r) cl i) (by rfl) (by rfl) M4.out.oF (by rfl) kB.out hoF z4 ?_
            intro v2 w16x y2
            obtain ⟨pv2, nv2, cv2, hv2⟩ := lie_slice y2
            subst hv2
            have M16 := Lib.hid (M4.out.gF y2)
            have KO16 := Lib.hid (y2.blk KO4.out (own_type M4.out.oF KO4.out (by decide))).1
            have C16 := Lib.hid (C4.out.trans y2.2.1)
            have z16 : base ≤ w16x.heap.size := Nat.le_trans z4 y2.2.1.size
            have hS16 : (fun wx : World => wx.cell? ⟨gout, 1, none⟩ = some vN ∧ wx.cell? ⟨gout, 2, none⟩ = some vF ∧ wx.cell? ⟨g, 2, none⟩ = some (.slice (some ⟨bf, of, none⟩) r.ac.length c2) ∧ wx.cell? ⟨b5, off5 + i, none⟩ = some (.int .i64 (s : Nat)) ∧ wx.cell? ⟨bf, of + s, none⟩ = some (.bool fb)) w16x := HC5.out _ _ _ _ _ _ _ _ M16.out KO16.out C16.out
            clear y2
            refine hK16.out _ _ hS16 ?_
            clear hK16 K16
            try simp only [Act.put, List.setIfInBounds_toArray, List.set_cons_zero, List.set_cons_succ]
            refine hd_done (by kernel_rfl) ?_
            simp only [List.drop_succ_cons, List.drop_zero]
            have e1 := KO16.out.cell 1
            have e2 := KO16.out.cell 2
            have ef := KO16.out.frozen
            have M3 := M16.out.set KO16.out 1 (.slice pv1 nv1 cv1)
            have K3 := KO16.out.put 1 (.slice pv1 nv1 cv1)
            have C3 := C16.out.setCell (p := ⟨gout, 1, none⟩) HGO.out (.slice pv1 nv1 cv1)
            have M4 := M3.set K3 2 (.slice pv2 nv2 cv2)
            have K4 := K3.put 2 (.slice pv2 nv2 cv2)
            have C4 := Lib.hid (C3.setCell (p := ⟨gout, 2, none⟩) HGO.out (.slice pv2 nv2 cv2))
            have HFN := Lib.hid (M4.fin HRL.out K4)
            clear M3 K3 C3 M4 K4
            go_wp2
            go_roundw
            case measure => simp [intOf] <;> omega
            case rel => exact ⟨i + 1, _, _, _, by go_num, fun j hj => by
              rcases Nat.lt_or_ge j i with h | h
              · exact HGD.out j h
              · obtain rfl : j = i := by omega
                rw [HFD.out]
                exact hlt, by rw [HNX.out.1]; omega, by rw [HNX.out.1, HNX.out.2.1, HNX.out.2.2]; exact HFN.out, C4.out⟩
    · have him : i = FD.length := by omega
      have h9 : ¬ (i : Int) < (FD.length : Int) := by omega
      have HIM := Lib.hid him
      have HST : Hid (Stop (toA r) cl i) := Lib.hid ⟨HGD.out, by rw [HFD.out]; exact him.symm⟩
      have t0 : w1.cell? ⟨gout, 0, none⟩ = some (.int .i64 0) := HM.out.ko.cell 0
      have t1 : w1.cell? ⟨gout, 1, none⟩ = some vN := HM.out.ko.cell 1
      have t2 : w1.cell? ⟨gout, 2, none⟩ = some vF := HM.out.ko.cell 2
      have hgb : g + 1 < wc.heap.size := KRC.out.lt
      have KR1 : Hid (Blk (g + 1) 25 #[.int .i64 0, .slice none 0 0, .slice none 0 0] w1) := Lib.hid ((HB1.out.block (g + 1) (by have := HBS.out; omega)).trans KRC.out)
      have xf := KR1.out.frozen
      clear him
      obtain ⟨pn, cn, hpn⟩ := HM.out.oN.slice
      obtain ⟨pf, cf, hpf⟩ := HM.out.oF.slice
      have hrl : raws.length = i := by rw [HM.out.rows.len, outN_len]
      have hfl : (outF (toA r) cl i).length = i := outF_len _ _ _
      rw [hrl] at hpn
      rw [hfl] at hpf
      subst hpn hpf
      have HFIN : Hid (Blk (g + 1) 25 #[.int .i64 0, .slice pn i cn, .slice pf i cf] (put3 w1 (g + 1) (.int .i64 0) (.slice pn i cn) (.slice pf i cf)) ∧ MinP r w (.returned (.agg #[.int .i64 0, .slice pn i cn, .slice pf i cf])) (put3 w1 (g + 1) (.int .i64 0) (.slice pn i cn) (.slice pf i cf))) := Lib.hid (by
        obtain ⟨p1, p2⟩ := put3_ok (n := w.heap.size) (a' := .int .i64 0) (b' := .slice pn i cn) (c' := .slice pf i cf) KR1.out (by have := HG.out; omega)
        have hg := put3_grown w1 (g + 1) (.int .i64 0) (.slice pn i cn) (.slice pf i cf)
        have hlt : ∀ b, base ≤ b → (some (g + 1) : Option Nat) ≠ some b := fun b hb e => by
          injection e with e
          have := HBS.out
          omega
        have hbl : Below w.heap.size w w1 := HBA.out.trans ((HB0.out.trans (HB1.out.mono (by have := HBS.out; omega))).mono HBA.out.size)
        have hwb : w.heap.size ≤ base := by have := HBS.out; have := HBA.out.size; omega
        exact ⟨p1, i, cl, pn, cn, pf, cf, raws, HCls.out, HST.out, rfl, Own1.base (own_grown HM.out.oN hg (fun b hb => hlt b (own_lt HM.out.oN b hb).1)) hwb, HM.out.rows.grown hg (fun x hx b hb => hlt b (HM.out.rlo x hx b hb).1), fun x hx b hb => Nat.le_trans hwb (HM.out.rlo x hx b hb).1, Own1.base (own_grown HM.out.oF hg (fun b hb => hlt b (own_lt HM.out.oF b hb).1)) hwb, hbl.trans p2⟩)
      have y0 : w1.cell? ⟨g + 1, 0, none⟩ = some (.int .i64 0) := KR1.out.cell 0
      have y1 : w1.cell? ⟨g + 1, 1, none⟩ = some (.slice none 0 0) := KR1.out.cell 1
      have y2 : w1.cell? ⟨g + 1, 2, none⟩ = some (.slice none 0 0) := KR1.out.cell 2
      go_wp2
      exact bodyPost_ret (v := .agg #[.int .i64 0, .slice pn i cn, .slice pf i cf]) (resD2 rfl HFIN.out.1) rfl HFIN.out.2
end Go.Proofs.Ytiljagfjgefnnaa
