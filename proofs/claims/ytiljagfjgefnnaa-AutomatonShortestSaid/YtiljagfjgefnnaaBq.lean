/- Of the reference: Shortest. -/
import Derived.Test.YtiljagfjgefnnaaBi
import Derived.Test.YtiljagfjgefnnaaAs
import Derived.Test.YtiljagfjgefnnaaAr
import Derived.Test.YtiljagfjgefnnaaAe
namespace Go.Proofs.Ytiljagfjgefnnaa
open Go.RowKit
set_option linter.unusedVariables false

def encW (v : List Nat) : List Value := encT (strW v)
theorem encW_len (v : List Nat) : (encW v).length = 1 := rfl
theorem encW_one (v : List Nat) : ∀ u ∈ encW v, u.oneCell' = true := encT_one _
theorem Rd.wrd {w : World} {a : Option Addr} {n c : Nat} {l : List (List Nat)} (h : Rd 1 encW w (.slice a n c) l) (i : Nat) (hi : i < l.length) : ∃ b off, a = some ⟨b, off, none⟩ ∧ w.cell? ⟨b, off + i, none⟩ = some (.string (ofL (strW (l.getD i [])))) := by
  obtain ⟨b, off, h1, h2⟩ := h.one i hi rfl
  refine ⟨b, off, h1, ?_⟩
  rw [List.getD_eq_getElem?_getD, List.getElem?_eq_getElem hi]
  exact h2
theorem own_wrd (w : World) (base : Nat) (hb : base ≤ w.heap.size) (v : List Nat) : Own1 1 encW (w.alloc (.cells #[.string (ofL (strW v))] 9)) base 9 (.slice (some ⟨w.heap.size, 0, none⟩) 1 1) [v] :=
  ⟨by rfl, .inr ⟨w.heap.size, 1, #[.string (ofL (strW v))], rfl, hb, heap_alloc_new w _, Nat.le_refl _, by decide, rfl, rfl⟩⟩
theorem Srch.short {A : Aut} {i c : Nat} {F : List Nat} {W : List (List Nat)} (h : Srch A i c F W) : ∀ m k, k < m → k < F.length → (W.getD k []).length ≤ k := by
  intro m
  induction m with
  | zero => intro k hk; omega
  | succ m ih =>
    intro k hk hF
    rcases h.from_ k hF with e | ⟨j, e, h1, h2⟩
    · rw [e]; simp
    · have hjF : j < F.length := by have := h.le; omega
      have hjk : j < k := by
        rcases Nat.lt_trichotomy j k with h3 | h3 | h3
        · exact h3
        · subst h3
          exact absurd (congrArg List.length h1) (by simp)
        · exfalso
          have h4 := h.inc k j h3 hjF
          rw [h1] at h4
          exact bef_irr _ (bef_trans h4 (bef_longer _ _))
      have := ih j (by omega) hjF
      rw [h1, List.length_append, List.length_singleton]
      omega
theorem Srch.wlt {A : Aut} {i c : Nat} {F : List Nat} {W : List (List Nat)} (hA : A.Ok) (h : Srch A i c F W) : ∀ j, j < F.length → F.getD j 0 < A.n := fun j hj => by
  obtain ⟨h1, h2⟩ := h.run j hj
  rw [← h2]
  exact hA.run_lt _ _ hA.st h1
def ShR (r : RawD) (w : World) (e : Ending) (w' : World) : Prop := ((okD r = false ∧ e = .returned (.tuple #[.string (ofL []), .bool false, .int .i64 1])) ∨ (okD r = true ∧ ((∃ v, First (toA r) v ∧ v.length ≤ 1000000 ∧ e = .returned (.tuple #[.string (ofL (strW v)), .bool true, .int .i64 0])) ∨ (Never (toA r) ∧ e = .returned (.tuple #[.string (ofL []), .bool false, .int .i64 0]))))) ∧ Below w.heap.size w w'
theorem strW_snoc (v : List Nat) (c : Nat) : strW v ++ [chrN c] = strW (v ++ [c]) := by unfold strW; rw [List.map_append]; rfl
theorem mem_getD {l : List Nat} {x : Nat} : x ∈ l ↔ ∃ k, k < l.length ∧ l.getD k 0 = x := by
  constructor
  · intro h
    obtain ⟨k, hk, e⟩ := List.getElem_of_mem h
    exact ⟨k, hk, by rw [getD_get hk]; exact e⟩
  · rintro ⟨k, hk, e⟩
    rw [getD_get hk] at e
    exact e ▸ List.getElem_mem hk
set_option maxRecDepth 1000000 in
set_option maxHeartbeats 16000000 in
theorem shortestR_any (r : RawD) (a1 : Option Addr) (c1 : Nat) (a2 : Option Addr) (c2 : Nat) (w : World) (hN : RdRows w (.slice a1 r.nx.length c1) r.nx) (hF : Rd 1 encO w (.slice a2 r.ac.length c2) r.ac) :
    Calls Try.prog 32 #[.agg #[.int .i64 r.st, .slice a1 r.nx.length c1, .slice a2 r.ac.length c2]] w (ShR r w) := by
  obtain ⟨iI, hiI, hzI, hkI, hbI⟩ := info_parts Try.infoI
  obtain ⟨iT, hiT, hzT, hkT, hbT⟩ := info_parts Try.infoT
  have BA := (Below.refl w.heap.size w).alloc (Nat.le_refl _) (.cells #[.int .i64 r.st, .slice a1 r.nx.length c1, .slice a2 r.ac.length c2] 25)
  have k0 := Blk.new w 25 #[.int .i64 r.st, .slice a1 r.nx.length c1, .slice a2 r.ac.length c2]
  obtain ⟨W0, hW0⟩ : ∃ W0, w.alloc (.cells #[.int .i64 r.st, .slice a1 r.nx.length c1, .slice a2 r.ac.length c2] 25) = W0 := ⟨_, rfl⟩
  have HN := Lib.hid (hN.below BA)
  have HF := Lib.hid (hF.below BA)
  have HBA := Lib.hid BA
  have K0 := Lib.hid k0
  rw [hW0] at HN HF HBA K0
  obtain ⟨g, hg⟩ : ∃ g, w.heap.size = g := ⟨_, rfl⟩
  have HG := Lib.hid hg
  have HW0 := Lib.hid hW0
  rw [hg] at K0
  have f0 : W0.cell? ⟨g, 0, none⟩ = some (.int .i64 r.st) := K0.out.cell 0
  have f1 : W0.cell? ⟨g, 1, none⟩ = some (.slice a1 r.nx.length c1) := K0.out.cell 1
  have f2 : W0.cell? ⟨g, 2, none⟩ = some (.slice a2 r.ac.length c2) := K0.out.cell 2
  have HV0 := Lib.hid (valid_any r a1 c1 a2 c2 W0 HN.out HF.out)
  clear hN hF BA k0 hW0 hg
  go_enter Try.func32, Try.ntmps32
  go_upto_region 1 with fail
  rw [HW0.out, HG.out]
  clear HW0
  go_wp2_with fail
  refine HV0.out.mono ?_
  rintro e w2 ⟨rfl, b2⟩
  have B2 := Lib.hid (st HBA.out b2 HBA.out.size)
  have N2 := Lib.hid (HN.out.below b2)
  have F2 := Lib.hid (HF.out.below b2)
  have K2 := Lib.hid (Blk.below K0.out b2)
  clear f0 f1 f2 b2 HV0 HN HF K0
  cases hok : okD r with
  | false =>
    have HFIN : Hid (ShR r w (.returned (.tuple #[.string (ofL []), .bool false, .int .i64 1])) w2) := Lib.hid ⟨.inl ⟨hok, rfl⟩, B2.out⟩
    clear hok
    go_wp2_with fail
    go_ret3
    exact HFIN.out
  | true =>
    have HOK := Lib.hid hok
    have HD := Lib.hid (okD_iff.1 hok).1
    have hn2 := (okD_iff.1 hok).2
    have HST0 : Hid (((toA r).s0 : Int) = r.st) := Lib.hid (by have := HD.out.st0; show ((r.st.toNat : Nat) : Int) = _; omega)
    obtain ⟨s0, hs0⟩ : ∃ s0, (toA r).s0 = s0 := ⟨_, rfl⟩
    have HS0 := Lib.hid hs0
    rw [hs0] at HST0
    have f0 : w2.cell? ⟨g, 0, none⟩ = some (.int .i64 (s0 : Int)) := by rw [HST0.out]; exact K2.out.cell 0
    clear hok hs0
    go_wp2_with fail
    have A1 := (Below.refl w2.heap.size w2).alloc (Nat.le_refl _) (.cells #[.int .i64 (s0 : Int)] 3)
    have A2 := A1.alloc A1.size (.cells #[.string (ofL [])] 9)
    have oF := (own_num w2 w2.heap.size (Nat.le_refl _) s0)
    have oF' := own_below oF ((Below.refl _ (w2.alloc (.cells #[.int .i64 (s0 : Int)] 3))).alloc (Nat.le_refl _) (.cells #[.string (ofL [])] 9))
    have oW := own_wrd (w2.alloc (.cells #[.int .i64 (s0 : Int)] 3)) w2.heap.size A1.size []
    rw [World.size_alloc] at oW
    have HSS : Hid (Srch (toA r) 0 0 [s0] [[]]) := Lib.hid (by rw [← HS0.out]; exact srch_start _)
    have HA2 := Lib.hid A2
    have HOF := Lib.hid oF'
    have HOW := Lib.hid oW
    clear A1 A2 oF oF' oW f0
    go_loopw [5, 6, 7] (fun v5 v6 v7 wr => ∃ (i : Nat) (F : List Nat) (W : List (List Nat)), i ≤ F.length ∧ v7 = .int .i64 (i : Nat) ∧ Own1 1 encN wr w2.heap.size 3 v5 F ∧ Own1 1 encW wr w2.heap.size 9 v6 W ∧ Srch (toA r) i 0 F W ∧ (∀ j, j < i → (toA r).f (F.getD j 0) = false) ∧ Below w2.heap.size w2 wr) (fun _ _ v7 _ => r.nx.length - (intOf v7).toNat)
    case atStart => exact ⟨0, [s0], [[]], Nat.zero_le _, rfl, HOF.out, HOW.out, HSS.out, fun j h => by omega, HA2.out⟩
    case round =>
      rename World => w3
      obtain ⟨i, F, W, hiF, rfl, own5, own6, hsr, hno, hb3⟩ := hrel
      obtain ⟨p5, q5, hp5⟩ := own5.slice
      subst hp5
      obtain ⟨p6, q6, hp6⟩ := own6.slice
      subst hp6
      have hle : F.length ≤ r.nx.length := hsr.len_le HD.out.ok
      have HWL := Lib.hid hsr.len
      have O5 := Lib.hid own5
      have O6 := Lib.hid own6
      have HSR := Lib.hid hsr
      have HNO := Lib.hid hno
      have HB3 := Lib.hid hb3
      have z3 := hb3.size
      have K3 := Lib.hid (Blk.below K2.out hb3)
      have N3 := Lib.hid (N2.out.below hb3)
      have F3 := Lib.hid (F2.out.below hb3)
      clear own5 own6 hsr hno hb3 HSS HA2 HOF HOW
      have hwl := HWL.out
      rw [HWL.out] at O6 ⊢
      clear hwl
      by_cases hlt : i < F.length
      · have h9 : (i : Int) < (F.length : Int) := by omega
        have hsn := HSR.out.wlt HD.out.ok i hlt
        have hsn1 : F.getD i 0 < r.nx.length := hsn
        obtain ⟨s, hs⟩ : ∃ s, F.getD i 0 = s := ⟨_, rfl⟩
        have HS := Lib.hid hs
        rw [hs] at hsn1
        obtain ⟨b5, off5, rfl, k5⟩ := (O5.out.rd encN_len).nat i hlt
        rw [hs] at k5
        have hsac : s < r.ac.length := by rw [HD.out.ac]; exact hsn1
        obtain ⟨b2, off2, rfl, k2⟩ := F3.out.boo s hsac
        obtain ⟨fb, hfb⟩ : ∃ fb, r.ac.getD s false = fb := ⟨_, rfl⟩
        have HFB : Hid ((toA r).f (F.getD i 0) = fb) := Lib.hid (by rw [hs]; exact hfb)
        rw [hfb] at k2
        clear hs hsn hfb
        have hs9 : (s : Int) < (r.ac.length : Int) := by omega
        have f2 : w3.cell? ⟨g, 2, none⟩ = some (.slice (some ⟨b2, off2, none⟩) r.ac.length c2) := K3.out.cell 2
        obtain ⟨b6, off6, rfl, k6⟩ := (O6.out.rd encW_len).wrd i (by rw [HWL.out]; exact hlt)
        go_wp2_with fail
        go_quiet (fail)
        cases fb with
        | true =>
          have HFIN : Hid (ShR r w (.returned (.tuple #[.string (ofL (strW (W.getD i []))), .bool true, .int .i64 0])) (w3.drewN nq)) := Lib.hid ⟨.inr ⟨HOK.out, .inl ⟨_, HSR.out.first hlt HFB.out HNO.out, by have := HSR.out.short (i + 1) i (by omega) hlt; omega, rfl⟩⟩, below_drewN (B2.out.trans (HB3.out.mono B2.out.size)) nq⟩
          go_wp2_with fail
          go_ret3
          exact HFIN.out
        | false =>
          clear f2 k2 k5 k6 hs9
          have HBD := Lib.hid (below_drewN (Below.refl w3.heap.size w3) nq)
          obtain ⟨w4, hw4⟩ : ∃ w4, w3.drewN nq = w4 := ⟨_, rfl⟩
          rw [hw4] at HBD ⊢
          clear hw4
          go_wp2_with fail
          go_loopw [5, 6, 8] (fun v5 v6 v8 wr => ∃ (c : Nat) (F2 : List Nat) (W2 : List (List Nat)), c ≤ 11 ∧ v8 = .int .i64 (c : Nat) ∧ i < F2.length ∧ F2.getD i 0 = s ∧ (∀ j, j ≤ i → F2.getD j 0 = F.getD j 0) ∧ Own1 1 encN wr w2.heap.size 3 v5 F2 ∧ Own1 1 encW wr w2.heap.size 9 v6 W2 ∧ Srch (toA r) i c F2 W2 ∧ Below w2.heap.size w2 wr) (fun _ _ v8 _ => 11 - (intOf v8).toNat)
          case atStart => exact ⟨0, F, W, by omega, rfl, hlt, HS.out, fun _ _ => rfl, own_below O5.out HBD.out, by have := own_below O6.out HBD.out; exact this, HSR.out, HB3.out.trans (HBD.out.mono z3)⟩
          case round =>
            rename World => wz
            obtain ⟨c, G, V, hc, rfl, hiG, hsG, hpre, own5, own6, hsr, hb4⟩ := hrel
            obtain ⟨p5, q5, hp5⟩ := own5.slice
            subst hp5
            obtain ⟨p6, q6, hp6⟩ := own6.slice
            subst hp6
            have hGle : G.length ≤ r.nx.length := hsr.len_le HD.out.ok
            have P5 := Lib.hid own5
            have P6 := Lib.hid own6
            have HSZ := Lib.hid hsr
            have HVL := Lib.hid hsr.len
            have HPRE := Lib.hid hpre
            have HSG := Lib.hid hsG
            have HB4 := Lib.hid hb4
            have z4 := hb4.size
            have K4 := Lib.hid (Blk.below K2.out hb4)
            have N4 := Lib.hid (N2.out.below hb4)
            clear own5 own6 hsr hb4 hpre hsG
            rw [HVL.out] at P6 ⊢
            by_cases hct : c < 11
            · have h9c : (c : Int) < 11 := by omega
              have hi5' : (i : Int) < (G.length : Int) := by omega
              obtain ⟨b5, off5, rfl, k5⟩ := (P5.out.rd encN_len).nat i hiG
              rw [HSG.out] at k5
              obtain ⟨b6, off6, rfl, k6⟩ := (P6.out.rd encW_len).wrd i (by rw [HVL.out]; exact hiG)
              have hs9 : (s : Int) < (r.nx.length : Int) := by omega
              obtain ⟨b1, off1, b', off', x2, rfl, j1, j2⟩ := HD.out.cells N4.out hsn1 hct
              have f1 : wz.cell? ⟨g, 1, none⟩ = some (.slice (some ⟨b1, off1, none⟩) r.nx.length c1) := K4.out.cell 1
              obtain ⟨t, ht⟩ : ∃ t, (toA r).d s c = t := ⟨_, rfl⟩
              have HT : Hid ((toA r).d (G.getD i 0) c = t) := Lib.hid (by rw [HSG.out]; exact ht)
              rw [ht] at j2
              clear ht
              have HIX : Hid (∀ n, Calls Try.prog 48 #[.slice (some ⟨b5, off5, none⟩) G.length q5, .int .i64 (t : Int)] (wz.drewN n) fun e w' => e = .returned (.int .i64 (idxV G t)) ∧ w' = wz.drewN n) := Lib.hid (fun n => index_any _ _ G t (wz.drewN n) ((P5.out.rd encN_len).below (below_drewN (Below.refl _ _) n)))
              obtain ⟨u, hu⟩ : ∃ u, strW (V.getD i []) = u := ⟨_, rfl⟩
              have HU := Lib.hid hu
              have HUL : Hid (u.length + 1 ≤ 9223372036854775807) := Lib.hid (by
                rw [← hu]
                unfold strW
                rw [List.length_map]
                have := HSZ.out.short (i + 1) i (by omega) hiG
                omega)
              rw [hu] at k6
              clear hu
              go_wp2_with fail
              go_quiet (fail)
              go_wp2_with fail
              refine (HIX.out nq).mono ?_
              rintro e we ⟨rfl, hwe⟩
              obtain rfl := hwe
              have HBD4 := Lib.hid (below_drewN (Below.refl wz.heap.size wz) nq)
              obtain ⟨w5, hw5⟩ : ∃ w5, wz.drewN nq = w5 := ⟨_, rfl⟩
              have k6' : w5.cell? ⟨b6, off6 + i, none⟩ = some (.string (ofL u)) := by rw [← hw5]; exact k6
              rw [hw5] at HBD4 ⊢
              clear hw5 j1 j2 f1 k5 k6 HIX
              have Q5 := Lib.hid (own_below P5.out HBD4.out)
              have Q6 := Lib.hid (own_below P6.out HBD4.out)
              have B5 := Lib.hid (HB4.out.trans (HBD4.out.mono z4))
              have z5 := B5.out.size
              by_cases hmem : idx G t < G.length
              · have HOLD : Hid (Srch (toA r) i (c + 1) G V) := Lib.hid (HSZ.out.old hiG hmem (by rw [HT.out]; exact (getD_get hmem).trans (idx_get hmem)))
                rw [idxV_pos hmem]
                have d1 : ¬ ((idx G t : Nat) : Int) < 0 := by omega
                obtain ⟨ix, hix⟩ : ∃ ix, idx G t = ix := ⟨_, rfl⟩
                rw [hix] at d1 ⊢
                clear hix hmem
                go_wp2_with fail
                go_roundw
                case measure => simp [intOf] <;> omega
                case rel => exact ⟨c + 1, G, V, by omega, by go_num, hiG, HSG.out, HPRE.out, Q5.out, Q6.out, HOLD.out, B5.out⟩
              · have HNEW : Hid (Srch (toA r) i (c + 1) (G ++ [t]) (V ++ [V.getD i [] ++ [c]])) := Lib.hid (by
                  have := HSZ.out.new_ hiG hct (fun k hk e => hmem (idx_lt.2 (mem_getD.2 ⟨k, hk, by rw [← HT.out]; exact e⟩)))
                  rw [HT.out] at this
                  exact this)
                rw [idxV_neg hmem]
                clear hmem
                have hGl : G.length ≤ 1000000000 := by omega
                have hVl : V.length ≤ 1000000000 := by have := HVL.out; omega
                obtain ⟨gl, hgl⟩ : ∃ gl, G.length = gl := ⟨_, rfl⟩
                have HGL := Lib.hid hgl
                have hi6 : (i : Int) < (gl : Int) := by omega
                go_wp2_with fail
                go_upto_region 14 with fail
                have hS : (fun wx : World => wx.cell? ⟨b6, off6 + i, none⟩ = some (.string (ofL u))) w5.drew := k6'
                refine region_hd 13 (fun wx : World => wx.cell? ⟨b6, off6 + i, none⟩ = some (.string (ofL u))) (by kernel_rfl) (by kernel_rfl) ?_
                refine hd_taken 0 (some 54) _ ?hdv0 rfl rfl (by kernel_rfl) (fun _ _ _ h => h) (Or.inl ⟨by rfl, ?hdy0⟩) hS ?hdr0
                case hdy0 => (intro wx hx; (try dsimp only at hx); go_simp; try with_reducible rfl)
                try simp only [Act.put, List.setIfInBounds_toArray, List.set_cons_zero, List.set_cons_succ]
                refine hd_taken 1 (some 55) _ ?hdv1 rfl rfl (by kernel_rfl) (fun _ _ _ h => h) (Or.inl ⟨by rfl, ?hdy1⟩) hS ?hdr1
                case hdy1 => (intro wx hx; (try dsimp only at hx); go_simp; try with_reducible rfl)
                try simp only [Act.put, List.setIfInBounds_toArray, List.set_cons_zero, List.set_cons_succ]
                refine hd_taken 4 (some 58) _ ?hdv4 rfl rfl (by kernel_rfl) (fun _ _ _ h => h) (Or.inl ⟨by rfl, ?hdy4⟩) hS ?hdr4
                case hdy4 => (intro wx hx; (try dsimp only at hx); go_simp; try with_reducible rfl)
                try simp only [Act.put, List.setIfInBounds_toArray, List.set_cons_zero, List.set_cons_succ]
                refine hd_taken 5 (some 59) _ ?hdv5 rfl rfl (by kernel_rfl) (fun _ _ _ h => h) (Or.inl ⟨by rfl, ?hdy5⟩) hS ?hdr5
                case hdy5 => (intro wx hx; (try dsimp only at hx); go_simp; try with_reducible rfl)
                try simp only [Act.put, List.setIfInBounds_toArray, List.set_cons_zero, List.set_cons_succ]
                refine hd_taken 6 (some 60) _ ?hdv6 rfl rfl (by kernel_rfl) (fun _ _ _ h => h) (Or.inl ⟨by rfl, ?hdy6⟩) hS ?hdr6
                case hdy6 => (intro wx hx; (try dsimp only at hx); go_simp; try with_reducible rfl)
                try simp only [Act.put, List.setIfInBounds_toArray, List.set_cons_zero, List.set_cons_succ]
                refine hd_taken 7 (some 61) _ ?hdv7 rfl rfl (by kernel_rfl) (fun _ _ _ h => h) (Or.inl ⟨by rfl, ?hdy7⟩) hS ?hdr7
                case hdy7 => (intro wx hx; (try dsimp only at hx); go_simp; try with_reducible rfl)
                try simp only [Act.put, List.setIfInBounds_toArray, List.set_cons_zero, List.set_cons_succ]
                refine hd_taken 8 (some 62) _ ?hdv8 rfl rfl (by kernel_rfl) (fun _ _ _ h => h) (Or.inl ⟨by rfl, ?hdy8⟩) hS ?hdr8
                case hdy8 => (intro wx hx; (try dsimp only at hx); go_simp; try with_reducible rfl)
                try simp only [Act.put, List.setIfInBounds_toArray, List.set_cons_zero, List.set_cons_succ]
                refine hd_taken 9 (some 63) _ ?hdv9 rfl rfl (by kernel_rfl) (fun _ _ _ h => h) (Or.inl ⟨by rfl, ?hdy9⟩) hS ?hdr9
                case hdy9 => (intro wx hx; (try dsimp only at hx); go_simp; try with_reducible rfl)
                try simp only [Act.put, List.setIfInBounds_toArray, List.set_cons_zero, List.set_cons_succ]
                have bA := ((Below.refl w5.heap.size w5).drew).alloc (Nat.le_refl _) (.cells #[.int .i64 (t : Int)] 3)
                have hS2 : (fun wx : World => wx.cell? ⟨b6, off6 + i, none⟩ = some (.string (ofL u))) (w5.drew.alloc (.cells #[.int .i64 (t : Int)] 3)) := (bA.cell (p := ⟨b6, off6 + i, none⟩) (World.block_lt_of_cell? w5 _ k6')).trans k6'
                refine hd_one 2 _ rfl (by kernel_rfl) (by decide) (fun K2 hK2 => ?_)
                go_simp
                refine hK2.out _ _ hS2 ?_
                clear hK2 K2 hS
                try simp only [Act.put, List.setIfInBounds_toArray, List.set_cons_zero, List.set_cons_succ]
                have oA := own_below Q5.out bA
                have oB := own_below Q6.out bA
                have kA := Blk.new w5.drew 3 #[.int .i64 (t : Int)]
                have hAG : gl ≤ 1000000000 := by omega
                have zA : w2.heap.size ≤ (w5.drew.alloc (.cells #[.int .i64 (t : Int)] 3)).heap.size := Nat.le_trans z5 bA.size
                refine hd_one 3 _ rfl (by kernel_rfl) (by decide) (fun K3 hK3 => ?_)
                have oA' : Own1 1 encN (w5.drew.alloc (.cells #[.int .i64 (t : Int)] 3)) w2.heap.size 3 (.slice (some ⟨b5, off5, none⟩) gl q5) G := by rw [← hgl]; exact oA
                have oB' : Own1 1 encW (w5.drew.alloc (.cells #[.int .i64 (t : Int)] 3)) w2.heap.size 9 (.slice (some ⟨b6, off6, none⟩) gl q6) V := by rw [← hgl]; exact oB
                refine step_append_blk (w := w5.drew.alloc (.cells #[.int .i64 (t : Int)] 3)) (x := t) (by rfl) _ _ 56 (by rfl) w2.heap.size iI _ 8 Try.underlying56 hiI hzI hkI hbI (by omega) rfl (by omega) encN_len encN_one _ G (by rfl) (by rfl) oA' (by rfl) kA hGl zA ?_
                intro v7 w7 y1
                have oB7 := y1.kind (.inr ⟨_, oA'⟩) oB' (by decide)
                have b7 := (B5.out.trans (bA.mono z5)).trans y1.2.1
                obtain ⟨_, _, hpp, k7⟩ := (oB7.rd encW_len).wrd i (by rw [HVL.out]; exact hiG)
                cases hpp
                rw [HU.out] at k7
                have hS3 : (fun wx : World => wx.cell? ⟨b6, off6 + i, none⟩ = some (.string (ofL u))) w7 := k7
                have HB7 := Lib.hid b7
                have HO7 := Lib.hid y1.1
                have HOB7 := Lib.hid oB7
                obtain ⟨p7, q7, hp7⟩ := lie_at y1
                obtain ⟨gl2, hgl2⟩ : ∃ gl2, (G ++ [t]).length = gl2 := ⟨_, rfl⟩
                rw [hgl2] at hp7
                have HGL2 := Lib.hid hgl2
                clear hgl2
                subst hp7
                refine hK3.out _ _ hS3 ?_
                clear hK3 K3 oA oA' oB oB' kA y1 oB7 b7 k7 hS2 bA
                try simp only [Act.put, List.setIfInBounds_toArray, List.set_cons_zero, List.set_cons_succ]
                refine hd_one 10 _ rfl (by kernel_rfl) (by decide) (fun K4 hK4 => ?_)
                go_simp
                refine (character_any c hct w7).mono ?_
                rintro e we ⟨rfl, rfl⟩
                dsimp only
                refine hK4.out _ _ hS3 ?_
                clear hK4 K4
                try simp only [Act.put, List.setIfInBounds_toArray, List.set_cons_zero, List.set_cons_succ]
                have hadd : ∀ wx, (Op.stringOp .add (ofL u) (ofL [chrN c])).run Try.prog wx = .ok (.string (ofL (u ++ [chrN c]))) wx := fun wx => str_addS (by rw [List.length_singleton]; exact HUL.out) rfl wx
                refine hd_taken 11 (some 65) _ ?hdv11 rfl rfl (by kernel_rfl) (fun _ _ _ h => h) (Or.inl ⟨by rfl, ?hdy11⟩) hS3 ?hdr11
                case hdy11 => (intro wx hx; (try dsimp only at hx); go_simp; try with_reducible rfl)
                try simp only [Act.put, List.setIfInBounds_toArray, List.set_cons_zero, List.set_cons_succ]
                obtain ⟨u2, hu2⟩ : ∃ u2, u ++ [chrN c] = u2 := ⟨_, rfl⟩
                rw [hu2]
                have HU2 : Hid (u2 = strW (V.getD i [] ++ [c])) := Lib.hid (by rw [← hu2, ← HU.out, strW_snoc])
                clear hadd hu2
                have bB := (Below.refl we.heap.size we).alloc (Nat.le_refl _) (.cells #[.string (ofL u2)] 9)
                have hS4 : (fun wx : World => wx.cell? ⟨b6, off6 + i, none⟩ = some (.string (ofL u))) (we.alloc (.cells #[.string (ofL u2)] 9)) := (bB.cell (p := ⟨b6, off6 + i, none⟩) (World.block_lt_of_cell? we _ hS3)).trans hS3
                refine hd_one 12 _ rfl (by kernel_rfl) (by decide) (fun K5 hK5 => ?_)
                go_simp
                refine hK5.out _ _ hS4 ?_
                clear hK5 K5 hS3 hS4 bB
                try simp only [Act.put, List.setIfInBounds_toArray, List.set_cons_zero, List.set_cons_succ]
                refine hd_done (by kernel_rfl) ?_
                simp only [List.drop_succ_cons, List.drop_zero]
                refine wpList_append_lie (w0 := we) (x := V.getD i [] ++ [c]) (N := we.heap.size) rfl rfl _ _ 71 rfl w2.heap.size iT _ 16 Try.underlying71 hiT hzT hkT hbT (by omega) rfl (by omega) encW_len encW_one _ V (by rw [HU2.out]; rfl) rfl HOB7.out rfl hVl HB7.out.size ?_
                intro v8 w8 y2
                obtain ⟨p8, q8, hp8⟩ := lie_at y2
                obtain ⟨vl2, hvl2⟩ : ∃ vl2, (V ++ [V.getD i [] ++ [c]]).length = vl2 := ⟨_, rfl⟩
                rw [hvl2] at hp8
                clear hvl2
                subst hp8
                have HFIN : Hid (i < (G ++ [t]).length ∧ (G ++ [t]).getD i 0 = s ∧ (∀ j, j ≤ i → (G ++ [t]).getD j 0 = F.getD j 0) ∧ Own1 1 encN w8 w2.heap.size 3 (.slice p7 gl2 q7) (G ++ [t]) ∧ Own1 1 encW w8 w2.heap.size 9 (.slice p8 vl2 q8) (V ++ [V.getD i [] ++ [c]]) ∧ Srch (toA r) i (c + 1) (G ++ [t]) (V ++ [V.getD i [] ++ [c]]) ∧ Below w2.heap.size w2 w8) := Lib.hid ⟨by rw [List.length_append]; omega, by rw [getD_app hiG]; exact HSG.out, fun j hj => by rw [getD_app (by omega)]; exact HPRE.out j hj, y2.kind (.inr ⟨_, HOB7.out⟩) HO7.out (by decide), y2.1, HNEW.out, HB7.out.trans y2.2.1⟩
                clear y2
                go_wp2
                go_roundw
                case measure => simp [intOf] <;> omega
                case rel => exact ⟨c + 1, _, _, by omega, by go_num, HFIN.out⟩
            · have hc11 : c = 11 := by omega
              subst hc11
              have h9c : ¬ (11 : Int) < 11 := by omega
              have HNX : Hid (Srch (toA r) (i + 1) 0 G V ∧ (∀ j, j < i + 1 → (toA r).f (G.getD j 0) = false)) := Lib.hid ⟨HSZ.out.next hiG, fun j hj => by
                rw [HPRE.out j (by omega)]
                rcases Nat.lt_or_ge j i with h | h
                · exact HNO.out j h
                · obtain rfl : j = i := by omega
                  exact HFB.out⟩
              go_wp2_with fail
              go_roundw
              case measure => simp [intOf] <;> omega
              case rel => exact ⟨i + 1, G, V, by omega, by go_num, P5.out, P6.out, HNX.out.1, HNX.out.2, HB4.out⟩
      · obtain rfl : i = F.length := by omega
        have h9 : ¬ (F.length : Int) < (F.length : Int) := by omega
        have HFIN : Hid (ShR r w (.returned (.tuple #[.string (ofL []), .bool false, .int .i64 0])) w3) := Lib.hid ⟨.inr ⟨HOK.out, .inr ⟨HSR.out.never HNO.out, rfl⟩⟩, B2.out.trans (HB3.out.mono B2.out.size)⟩
        obtain ⟨fl, hfl⟩ : ∃ fl, F.length = fl := ⟨_, rfl⟩
        rw [hfl] at h9 ⊢
        clear hfl
        go_wp2_with fail
        go_ret3
        exact HFIN.out
end Go.Proofs.Ytiljagfjgefnnaa
