/- Of the program: Shortest. -/
import Derived.Test.YtiljagfjgefnnaaBe
import Derived.Test.YtiljagfjgefnnaaBh
namespace Go.Proofs.Ytiljagfjgefnnaa
open Go.RowKit
set_option linter.unusedVariables false

theorem Srch.firstAll {B : Aut} {m s : Nat} {W : List (List Nat)} (h : Srch B m 0 (List.range m) W) (hs : s < m) (hf : B.f s = true) (hn : ∀ j, j < s → B.f j = false) : First B (W.getD s []) := by
  have gr : ∀ {j}, j < m → (List.range m).getD j 0 = j := fun hj => by rw [getD_get (by rw [List.length_range]; exact hj), List.getElem_range]
  obtain ⟨h1, h2⟩ := h.run s (by rw [List.length_range]; exact hs)
  rw [gr hs] at h2
  refine ⟨h1, by show B.f (B.run B.s0 _) = true; rw [h2]; exact hf, fun v hv hb => ?_⟩
  obtain ⟨j, k1, k2, k3⟩ := h.each v.reverse (by rw [List.reverse_reverse]; exact hv)
  rw [List.reverse_reverse] at k2 k3
  rw [List.length_range] at k1
  have k4 : B.run B.s0 v = j := by
    rcases k3 with k3 | k3
    · rw [k3, gr k1]
    · omega
  show B.f (B.run B.s0 v) = false
  rw [k4]
  by_cases hj : s ≤ j
  · exfalso
    have : befE (W.getD s []) (W.getD j []) := by
      rcases Nat.lt_or_ge s j with h3 | h3
      · exact .inr (h.inc s j h3 (by rw [List.length_range]; exact k1))
      · rw [show j = s by omega]
        exact .inl rfl
    exact befE_not (this.trans k2) hb
  · exact hn j (by omega)
theorem Srch.neverAll {B : Aut} {m : Nat} {W : List (List Nat)} (h : Srch B m 0 (List.range m) W) (hn : ∀ j, j < m → B.f j = false) : Never B := by
  have h' : Srch B (List.range m).length 0 (List.range m) W := by rw [List.length_range]; exact h
  refine h'.never (fun j hj => ?_)
  rw [List.length_range] at hj
  rw [getD_get (by rw [List.length_range]; exact hj), List.getElem_range]
  exact hn j hj
theorem never_of {B : Aut} (hB : B.Ok) (h : ∀ j, j < B.n → B.f j = false) : Never B := fun v hv => h _ (hB.run_lt v _ hB.st hv)
def ShP (r : RawD) (w : World) (e : Ending) (w' : World) : Prop := ((okD r = false ∧ e = .returned (.tuple #[.string (ofL []), .bool false, .int .i64 1])) ∨ (okD r = true ∧ ((∃ v, First (toA r) v ∧ e = .returned (.tuple #[.string (ofL (strW v)), .bool true, .int .i64 0])) ∨ (Never (toA r) ∧ e = .returned (.tuple #[.string (ofL []), .bool false, .int .i64 0]))))) ∧ Below w.heap.size w w'
theorem id_cls (A : Aut) : Snd A id := fun s t _ _ e => by cases e; exact Eqv.refl _ _
set_option maxRecDepth 1000000 in
set_option maxHeartbeats 8000000 in
theorem shortestP_any (r : RawD) (a1 : Option Addr) (c1 : Nat) (a2 : Option Addr) (c2 : Nat) (w : World) (hN : RdRows w (.slice a1 r.nx.length c1) r.nx) (hF : Rd 1 encO w (.slice a2 r.ac.length c2) r.ac) :
    Calls Try.prog 29 #[.agg #[.int .i64 r.st, .slice a1 r.nx.length c1, .slice a2 r.ac.length c2]] w (ShP r w) := by
  have BA := (Below.refl w.heap.size w).alloc (Nat.le_refl _) (.cells #[.int .i64 r.st, .slice a1 r.nx.length c1, .slice a2 r.ac.length c2] 29)
  have k0 := Blk.new w 29 #[.int .i64 r.st, .slice a1 r.nx.length c1, .slice a2 r.ac.length c2]
  obtain ⟨W0, hW0⟩ : ∃ W0, w.alloc (.cells #[.int .i64 r.st, .slice a1 r.nx.length c1, .slice a2 r.ac.length c2] 29) = W0 := ⟨_, rfl⟩
  have HN := Lib.hid (hN.below BA)
  have HF := Lib.hid (hF.below BA)
  have HBA := Lib.hid BA
  have K0 := Lib.hid k0
  rw [hW0] at HN HF HBA K0
  obtain ⟨g, hg⟩ : ∃ g, w.heap.size = g := ⟨_, rfl⟩
  have HG := Lib.hid hg
  have HW0 := Lib.hid hW0
  rw [hg] at K0
  have f0 : W0.cell? ⟨g, 0, none⟩ = some (.int .i64 r.st) := K0.out.cell 0
  have f1 : W0.cell? ⟨g, 1, none⟩ = some (.slice a1 r.nx.length c1) := K0.out.cell 1
  have f2 : W0.cell? ⟨g, 2, none⟩ = some (.slice a2 r.ac.length c2) := K0.out.cell 2
  have HV0 := Lib.hid (validP_any r a1 c1 a2 c2 W0 HN.out HF.out)
  clear hN hF BA k0 hW0 hg
  go_enter Try.func29, Try.ntmps29
  go_upto_region 1 with fail
  rw [HW0.out, HG.out]
  clear HW0
  go_wp2_with fail
  refine HV0.out.mono ?_
  rintro e w2 ⟨rfl, b2⟩
  have B2 := Lib.hid (st HBA.out b2 HBA.out.size)
  have N2 := Lib.hid (HN.out.below b2)
  have F2 := Lib.hid (HF.out.below b2)
  have K2 := Lib.hid (Blk.below K0.out b2)
  clear f0 f1 f2 b2 HV0
  cases hok : okD r with
  | false =>
    have HFIN : Hid (ShP r w (.returned (.tuple #[.string (ofL []), .bool false, .int .i64 1])) w2) := Lib.hid ⟨.inl ⟨hok, rfl⟩, B2.out⟩
    clear hok
    go_wp2_with fail
    go_ret3
    exact HFIN.out
  | true =>
    have HOK := Lib.hid hok
    have HD := Lib.hid (okD_iff.1 hok).1
    have HX := Lib.hid (graphOf_any r HD.out a1 c1 a2 c2 w2 N2.out F2.out)
    have f0 : w2.cell? ⟨g, 0, none⟩ = some (.int .i64 r.st) := K2.out.cell 0
    have f1 : w2.cell? ⟨g, 1, none⟩ = some (.slice a1 r.nx.length c1) := K2.out.cell 1
    have f2 : w2.cell? ⟨g, 2, none⟩ = some (.slice a2 r.ac.length c2) := K2.out.cell 2
    clear hok
    go_wp2_with fail
    refine HX.out.mono ?_
    rintro e w3 ⟨m, b1, d1, b2, d2, hst, rfl, hn, hf, hb⟩
    have ba := (Below.refl w3.heap.size w3).alloc (Nat.le_refl _) (.cells #[.slice b1 m d1, .slice b2 m d2] 62)
    have kg := Blk.new w3 62 #[.slice b1 m d1, .slice b2 m d2]
    obtain ⟨gg, hgg⟩ : ∃ gg, w3.heap.size = gg := ⟨_, rfl⟩
    have HGG := Lib.hid hgg
    have HST := Lib.hid hst
    have HRN := Lib.hid ((hn.rd encG_len).below ba)
    have HRF := Lib.hid ((hf.rd encO_len).below ba)
    have HKG : Hid (Blk gg 62 #[.slice b1 m d1, .slice b2 m d2] (w3.alloc (.cells #[.slice b1 m d1, .slice b2 m d2] 62))) := Lib.hid (by rw [← hgg]; exact kg)
    have HB4 := Lib.hid ((B2.out.trans (hb.mono B2.out.size)).alloc (Nat.le_trans B2.out.size hb.size) (.cells #[.slice b1 m d1, .slice b2 m d2] 62))
    have hmle : m ≤ r.nx.length := hst.le HD.out.ok
    have hm0 : 0 < m := hst.pos
    have hn1 := HD.out.most
    have HB3 := Lib.hid (B2.out.trans (hb.mono B2.out.size))
    clear hst hn hf hb HX f0 f1 f2 ba kg hgg
    go_upto_region 4 with fail
    obtain ⟨W4, hW4⟩ : ∃ W4, w3.alloc (.cells #[.slice b1 m d1, .slice b2 m d2] 62) = W4 := ⟨_, rfl⟩
    rw [hW4] at HRN HRF HKG HB4 ⊢
    rw [HGG.out]
    clear hW4
    have HGL : Hid (Eqv (minA (toA r) id m) (toA r) (minA (toA r) id m).s0 (toA r).s0) := Lib.hid (HST.out.start HD.out.ok (id_cls _))
    have HGO := Lib.hid (HST.out.minOk)
    have HFL : Hid (∀ j, (outF (toA r) id m).getD j false = (minA (toA r) id m).f j) := Lib.hid (fun j => rfl)
    have y0 : W4.cell? ⟨gg, 0, none⟩ = some (.slice b1 m d1) := HKG.out.cell 0
    have y1 : W4.cell? ⟨gg, 1, none⟩ = some (.slice b2 m d2) := HKG.out.cell 1
    go_wp2_with fail
    go_loopw [16] (fun v wr => ∃ k : Nat, k ≤ m ∧ v = .int .i64 k ∧ (∀ j, j < k → (minA (toA r) id m).f j = false) ∧ wr = W4) (fun v _ => m - (intOf v).toNat)
    case atStart => exact ⟨0, Nat.zero_le _, rfl, fun j h => by omega, rfl⟩
    case round =>
      obtain ⟨k, hk, rfl, hkd, hw⟩ := hrel
      obtain rfl := hw.symm
      have HK := Lib.hid hkd
      clear hkd
      by_cases hlt : k < m
      · have h9 : (k : Int) < (m : Int) := by omega
        obtain ⟨b, off, rfl, g0⟩ := HRF.out.boo k (by rw [outF_len]; exact hlt)
        rw [HFL.out] at g0
        cases hfk : (minA (toA r) id m).f k with
        | false =>
          have HFK := Lib.hid hfk
          rw [hfk] at g0
          clear hfk
          go_wp2_with fail
          go_roundw
          case measure => simp [intOf]; omega
          case rel => exact ⟨k + 1, by omega, by go_num, fun j hj => by
            rcases Nat.lt_or_ge j k with h | h
            · exact HK.out j h
            · obtain rfl : j = k := by omega
              exact HFK.out, (by first | rfl | trivial)⟩
        | true =>
          have HFK := Lib.hid hfk
          rw [hfk] at g0
          clear hfk
          have HFW := Lib.hid (firstWord_any (minA (toA r) id m) HST.out.bf (outN (toA r) id m) m (outN_len _ _ _) (minA_n _ _ _) (fun i c _ _ => rfl) hm0 (by omega) b1 d1 (.slice (some ⟨b, off, none⟩) m d2) ⟨_, _, _, rfl⟩ _ HRN.out k hlt)
          go_wp2_with fail
          refine HFW.out.mono ?_
          rintro e w5 ⟨W, hsr, rfl, hb5⟩
          have HFIN : Hid (ShP r w (.returned (.tuple #[.string (ofL (strW (W.getD k []))), .bool true, .int .i64 0])) w5) := Lib.hid ⟨.inr ⟨HOK.out, .inl ⟨_, First.eqv HGL.out (hsr.firstAll hlt HFK.out HK.out), rfl⟩⟩, HB4.out.trans (hb5.mono HB4.out.size)⟩
          clear hsr hb5
          go_wp2_with fail
          go_ret3
          exact HFIN.out
      · obtain rfl : k = m := by omega
        have h3 : ¬ (k : Int) < (k : Int) := by omega
        have HFIN : Hid (ShP r w (.returned (.tuple #[.string (ofL []), .bool false, .int .i64 0])) W4) := Lib.hid ⟨.inr ⟨HOK.out, .inr ⟨Never.eqv HGL.out (never_of HGO.out (fun j hj => HK.out j (by rw [minA_n] at hj; exact hj))), rfl⟩⟩, HB4.out⟩
        go_wp2_with fail
        go_ret3
        exact HFIN.out
end Go.Proofs.Ytiljagfjgefnnaa
