/- What was made, as raw lists; the law AutomatonCount. -/
import Derived.Test.YtiljagfjgefnnaaBze
import Derived.Test.YtiljagfjgefnnaaBm
import Derived.Test.YtiljagfjgefnnaaAl
namespace Go.Proofs.Ytiljagfjgefnnaa
open Go.RowKit
set_option linter.unusedVariables false

def mkR (nx : List (List Nat)) (ac : List Bool) : RawD := ⟨0, nx.map (fun x => x.map Int.ofNat), ac⟩
theorem mkR_toA (nx : List (List Nat)) (ac : List Bool) : toA (mkR nx ac) = mkA nx ac := by
  unfold toA mkR mkA
  dsimp only
  rw [List.length_map]
  congr 1
  funext s c
  rw [List.getD_eq_getElem?_getD (l := List.map _ nx), List.getElem?_map, List.getD_eq_getElem?_getD (l := nx)]
  cases nx[s]? with
  | none => simp
  | some x =>
    show ((x.map Int.ofNat).getD c 0).toNat = x.getD c 0
    rw [List.getD_eq_getElem?_getD, List.getElem?_map, List.getD_eq_getElem?_getD]
    cases x[c]? <;> rfl
theorem fn_rd1 {α : Type} {enc : α → List Value} {w : World} {B n : Nat} {t : TypeId} {f : Nat → Value} (h : Fn B t n f w) (hn : n ≤ 1000000) (u m cp : Nat) (hm : u + m ≤ n) (hcp : m ≤ cp) (hcp2 : cp ≤ 1000000) (l : List α) (hl : l.length = m) (he : ∀ i x, l[i]? = some x → enc x = [f (u + i)]) : Rd 1 enc w (.slice (some ⟨B, u, none⟩) m cp) l := by
  subst hl
  refine ⟨⟨_, cp, rfl, hcp, by omega, fun _ => ⟨B, u, rfl, h.lt, fun i x hx j v hv => ?_⟩⟩, fun k c hc => by cases hc⟩
  rw [he i x hx] at hv
  have hj : j = 0 := by have := (List.getElem?_eq_some_iff.1 hv).1; simp at this; exact this
  subst hj
  simp at hv
  subst hv
  have hi := (List.getElem?_eq_some_iff.1 hx).1
  rw [Nat.mul_one, Nat.add_zero]
  exact h.cell (by omega)
theorem made_rows {w : World} {N LB CB AB k : Nat} {nx : List (List Nat)} {ac : List Bool} (h : MadeD w N LB CB AB k (fun j => (nx.getD (j / 11) []).getD (j % 11) 0) (fun i => ac.getD i false)) (hk : k ≤ 2000) (hn : nx.length = k) (hr : ∀ x ∈ nx, x.length = 11) (ha : ac.length = k) : RdRows w (.slice (some ⟨LB, 0, none⟩) (mkR nx ac).nx.length k) (mkR nx ac).nx ∧ Rd 1 encO w (.slice (some ⟨AB, 0, none⟩) (mkR nx ac).ac.length k) (mkR nx ac).ac := by
  have hlen : (mkR nx ac).nx.length = k := by show (nx.map _).length = k; rw [List.length_map, hn]
  have halen : (mkR nx ac).ac.length = k := ha
  rw [hlen, halen]
  refine ⟨⟨(List.range k).map fun i => (⟨some ⟨CB, i * 11, none⟩, 11, 11⟩ : RawS), ?_, by rw [List.length_map, List.length_range, hlen], fun i h1 h2 => ?_⟩, ?_⟩
  · refine fn_rd1 h.l (by omega) 0 k k (by omega) (Nat.le_refl _) (by omega) _ (by rw [List.length_map, List.length_range]) (fun i x hx => ?_)
    have hi := (List.getElem?_eq_some_iff.1 hx).1
    have he := (List.getElem?_eq_some_iff.1 hx).2
    rw [List.getElem_map, List.getElem_range] at he
    subst he
    rw [Nat.zero_add]
    rfl
  · rw [List.length_map, List.length_range] at h1
    have hin : i < nx.length := by omega
    have e1 : ((List.range k).map fun i => (⟨some ⟨CB, i * 11, none⟩, 11, 11⟩ : RawS))[i]'(by rw [List.length_map, List.length_range]; exact h1) = ⟨some ⟨CB, i * 11, none⟩, 11, 11⟩ := by rw [List.getElem_map, List.getElem_range]
    rw [e1]
    have e2 : (mkR nx ac).nx[i]'h2 = (nx[i]'hin).map Int.ofNat := List.getElem_map _
    rw [e2]
    have hx11 := hr _ (List.getElem_mem hin)
    refine fn_rd1 h.c (by omega) (i * 11) 11 11 (by omega) (Nat.le_refl _) (by omega) _ (by rw [List.length_map, hx11]) (fun c x hx => ?_)
    rw [List.getElem?_map] at hx
    have hc : c < 11 := by
      rcases Nat.lt_or_ge c 11 with h5 | h5
      · exact h5
      · rw [List.getElem?_eq_none (by omega)] at hx; cases hx
    rw [List.getElem?_eq_getElem (by omega)] at hx
    injection hx with hx
    subst hx
    show [Value.int .i64 _] = [Value.int .i64 (((nx.getD ((i * 11 + c) / 11) []).getD ((i * 11 + c) % 11) 0 : Nat) : Int)]
    rw [show (i * 11 + c) / 11 = i by omega, show (i * 11 + c) % 11 = c by omega, List.getD_eq_getElem?_getD (l := nx), List.getElem?_eq_getElem hin]
    show _ = [Value.int .i64 (((nx[i]'hin).getD c 0 : Nat) : Int)]
    rw [List.getD_eq_getElem?_getD, List.getElem?_eq_getElem (by omega)]
    rfl
  · refine fn_rd1 h.a (by omega) 0 k k (by omega) (Nat.le_refl _) (by omega) _ ha (fun i x hx => ?_)
    rw [Nat.zero_add]
    show [Value.bool x] = [Value.bool (ac.getD i false)]
    rw [List.getD_eq_getElem?_getD, show ac[i]? = some x from hx]
    rfl
theorem made_ok {G : Aut} {cl : Nat → Nat} {k : Nat} (hs : Stop G cl k) (hk : k ≤ 2000) : okD (mkR (outN G cl k) (outF G cl k)) = true := by
  have hl : (mkR (outN G cl k) (outF G cl k)).nx.length = k := by show (List.map _ _).length = k; rw [List.length_map, outN_len]
  have hmin := hs.minOk
  rw [okD_iff]
  refine ⟨⟨by rw [hl]; exact hs.pos, by rw [hl]; omega, by rw [hl]; exact outF_len _ _ _, by show (0 : Int) ≤ 0; omega, by rw [hl]; show (0 : Int) < (k : Int); have := hs.pos; omega, fun x hx => ?_, fun x hx y hy => ?_⟩, by rw [hl]; exact hk⟩
  · obtain ⟨z, hz, rfl⟩ := List.mem_map.1 hx
    rw [List.length_map]
    unfold outN at hz
    obtain ⟨i, _, rfl⟩ := List.mem_map.1 hz
    exact rowK_len _ _ _ _ 11
  · rw [hl]
    obtain ⟨z, hz, rfl⟩ := List.mem_map.1 hx
    obtain ⟨v, hv, rfl⟩ := List.mem_map.1 hy
    obtain ⟨s, hsl, hse⟩ := List.getElem_of_mem hz
    obtain ⟨c, hcl, hce⟩ := List.getElem_of_mem hv
    have hz11 : z.length = 11 := by
      unfold outN at hz
      obtain ⟨i, _, rfl⟩ := List.mem_map.1 hz
      exact rowK_len _ _ _ _ 11
    rw [outN_len] at hsl
    have := hmin.go s c (by rw [minA_n]; exact hsl) (by omega)
    rw [minA_n] at this
    have e : (minA G cl k).d s c = v := by
      show ((outN G cl k).getD s []).getD c 0 = v
      rw [List.getD_eq_getElem?_getD (l := outN G cl k), List.getElem?_eq_getElem (by rw [outN_len]; exact hsl), hse]
      show z.getD c 0 = v
      rw [List.getD_eq_getElem?_getD, List.getElem?_eq_getElem hcl, hce]
      rfl
    rw [e] at this
    exact ⟨by show (0 : Int) ≤ (v : Int); omega, by show (v : Int) < (k : Int); omega⟩
/-- What GotP hands over, as raw lists. -/
theorem GotP.raw {B : Aut} {N n : Nat} {e : Ending} {w' : World} (h : GotP B N n e w') (hn : n ≤ 2000) : ∃ (r : RawD) (x1 x2 : Nat), okD r = true ∧ r.st = 0 ∧ Eqv (toA r) B (toA r).s0 B.s0 ∧ e = .returned (.tuple #[.agg #[.int .i64 r.st, .slice (some ⟨x1, 0, none⟩) r.nx.length r.nx.length, .slice (some ⟨x2, 0, none⟩) r.ac.length r.ac.length], .int .i64 0]) ∧ RdRows w' (.slice (some ⟨x1, 0, none⟩) r.nx.length r.nx.length) r.nx ∧ Rd 1 encO w' (.slice (some ⟨x2, 0, none⟩) r.ac.length r.ac.length) r.ac ∧ r.nx.length ≤ n ∧ ∃ (G : Aut) (cl : Nat → Nat) (k : Nat), G.Ok ∧ Eqv G B G.s0 B.s0 ∧ Cls G cl ∧ Stop G cl k ∧ r = mkR (outN G cl k) (outF G cl k) := by
  obtain ⟨G, cl, k, LB, CB, AB, hG, heq, hcl, hst, hkn, he, hmd⟩ := h
  have hl : (mkR (outN G cl k) (outF G cl k)).nx.length = k := by show (List.map _ _).length = k; rw [List.length_map, outN_len]
  have ha : (mkR (outN G cl k) (outF G cl k)).ac.length = k := outF_len _ _ _
  obtain ⟨h1, h2⟩ := made_rows hmd (by omega) (outN_len _ _ _) (fun x hx => by
    unfold outN at hx
    obtain ⟨i, _, rfl⟩ := List.mem_map.1 hx
    exact rowK_len _ _ _ _ 11) (outF_len _ _ _)
  refine ⟨mkR (outN G cl k) (outF G cl k), LB, AB, made_ok hst (by omega), rfl, ?_, ?_, ?_, ?_, by rw [hl]; exact hkn, G, cl, k, hG, heq, hcl, hst, rfl⟩
  · rw [mkR_toA]
    exact (hst.start hG hcl.snd).trans heq
  · rw [he, hl, ha]
    rfl
  · rw [hl] at h1 ⊢; exact h1
  · rw [ha] at h2 ⊢; exact h2
set_option maxRecDepth 1000000 in
set_option maxHeartbeats 8000000 in
theorem automatonCount_walk (r : RawD) (a1 : Option Addr) (c1 : Nat) (a2 : Option Addr) (c2 : Nat) (n : Int) (w : World) (hN : RdRows w (.slice a1 r.nx.length c1) r.nx) (hF : Rd 1 encO w (.slice a2 r.ac.length c2) r.ac) {hp0 : Prop} (hs0 : hp0) :
    Calls Try.prog 10 #[.agg #[.int .i64 r.st, .slice a1 r.nx.length c1, .slice a2 r.ac.length c2], .int .i64 n] w fun e w' => e = .returned (.bool true) ∧ Below w.heap.size w w' := by
  have BA := (Below.refl w.heap.size w).alloc (Nat.le_refl _) (.cells #[.int .i64 r.st, .slice a1 r.nx.length c1, .slice a2 r.ac.length c2] 25)
  have k0 := Blk.new w 25 #[.int .i64 r.st, .slice a1 r.nx.length c1, .slice a2 r.ac.length c2]
  obtain ⟨W0, hW0⟩ : ∃ W0, w.alloc (.cells #[.int .i64 r.st, .slice a1 r.nx.length c1, .slice a2 r.ac.length c2] 25) = W0 := ⟨_, rfl⟩
  have HN := Lib.hid (hN.below BA)
  have HF := Lib.hid (hF.below BA)
  have HBA := Lib.hid BA
  have K0 := Lib.hid k0
  rw [hW0] at HN HF HBA K0
  obtain ⟨g, hg⟩ : ∃ g, w.heap.size = g := ⟨_, rfl⟩
  have HG := Lib.hid hg
  have HW0 := Lib.hid hW0
  rw [hg] at K0
  clear hN hF BA k0 hW0 hg
  go_enter Try.func10, Try.ntmps10
  go_upto_region 1 with fail
  rw [HW0.out, HG.out]
  clear HW0
  go_wp2_with fail
  refine (awake_any W0).mono ?_
  rintro e w1 ⟨rfl, b1⟩
  have HN1 := Lib.hid (HN.out.below b1)
  have HF1 := Lib.hid (HF.out.below b1)
  have HB1 := Lib.hid (st HBA.out b1 HBA.out.size)
  have K1 := Lib.hid (Blk.below K0.out b1)
  clear b1 HN HF HBA K0
  have f0 : w1.cell? ⟨g, 0, none⟩ = some (.int .i64 r.st) := K1.out.cell 0
  have f1 : w1.cell? ⟨g, 1, none⟩ = some (.slice a1 r.nx.length c1) := K1.out.cell 1
  have f2 : w1.cell? ⟨g, 2, none⟩ = some (.slice a2 r.ac.length c2) := K1.out.cell 2
  have HFW := Lib.hid (few_any r a1 c1 a2 c2 40 (by omega) w1 HN1.out HF1.out)
  go_wp2_with fail
  refine HFW.out.mono ?_
  rintro e w2 ⟨⟨b, rfl, hb⟩, b2⟩
  have HN2 := Lib.hid (HN1.out.below b2)
  have HF2 := Lib.hid (HF1.out.below b2)
  have HB2 := Lib.hid (st HB1.out b2 HB1.out.size)
  have K2 := Lib.hid (Blk.below K1.out b2)
  clear b2 HN1 HF1 HB1 K1 f0 f1 f2 HFW
  cases b with
  | false =>
    clear hb
    go_wp2_with fail
    refine (awake_any w2).mono ?_
    rintro e w3 ⟨rfl, b3⟩
    have HB3 := Lib.hid (st HB2.out b3 HB2.out.size)
    clear b3
    go_wp2_with fail
    go_ret
    exact ⟨rfl, HB3.out⟩
  | true =>
    have HMO := Lib.hid (hb rfl)
    clear hb
    have f0 : w2.cell? ⟨g, 0, none⟩ = some (.int .i64 r.st) := K2.out.cell 0
    have f1 : w2.cell? ⟨g, 1, none⟩ = some (.slice a1 r.nx.length c1) := K2.out.cell 1
    have f2 : w2.cell? ⟨g, 2, none⟩ = some (.slice a2 r.ac.length c2) := K2.out.cell 2
    go_wp2_with fail
    refine (to_any r.st a1 r.nx.length c1 a2 r.ac.length c2 w2).mono ?_
    rintro e w3 ⟨rfl, b3⟩
    have HN3 := Lib.hid (HN2.out.below b3)
    have HF3 := Lib.hid (HF2.out.below b3)
    have HB3 := Lib.hid (st HB2.out b3 HB2.out.size)
    have K3 := Lib.hid (Blk.below K2.out b3)
    clear b3 f0 f1 f2 HN2 HF2 HB2 K2
    have HP := Lib.hid (countP_any r n a1 c1 a2 c2 w3 HN3.out HF3.out)
    obtain ⟨p, hp⟩ : ∃ p, cntR r n = p := ⟨_, rfl⟩
    have HCR := Lib.hid hp
    obtain ⟨pa, pe⟩ := p
    clear hp
    go_wp2_with fail
    refine HP.out.mono ?_
    rintro e w4 ⟨rfl, b4⟩
    rw [HCR.out]
    clear HP
    have HN4 := Lib.hid (HN3.out.below b4)
    have HF4 := Lib.hid (HF3.out.below b4)
    have HB4 := Lib.hid (st HB3.out b4 HB3.out.size)
    have K4 := Lib.hid (Blk.below K3.out b4)
    clear b4  HN3 HF3 HB3 K3
    have f0 : w4.cell? ⟨g, 0, none⟩ = some (.int .i64 r.st) := K4.out.cell 0
    have f1 : w4.cell? ⟨g, 1, none⟩ = some (.slice a1 r.nx.length c1) := K4.out.cell 1
    have f2 : w4.cell? ⟨g, 2, none⟩ = some (.slice a2 r.ac.length c2) := K4.out.cell 2
    have HQ := Lib.hid (count_any r n a1 c1 a2 c2 w4 HN4.out HF4.out)
    go_wp2_with fail
    refine HQ.out.mono ?_
    rintro e w5 ⟨rfl, b5⟩
    rw [HCR.out]
    clear HQ
    have HN5 := Lib.hid (HN4.out.below b5)
    have HF5 := Lib.hid (HF4.out.below b5)
    have HB5 := Lib.hid (st HB4.out b5 HB4.out.size)
    have K5 := Lib.hid (Blk.below K4.out b5)
    clear b5 f0 f1 f2 HN4 HF4 HB4 K4
    by_cases hpe : pe = 0
    case neg =>
      have t1 : (pa != pa) = false := by simp
      have t2 : (pe != pe) = false := by simp
      have t3 : (pe != 0) = true := by rw [bne_iff_ne]; exact hpe
      go_wp2_with fail
      go_ret
      exact ⟨rfl, HB5.out⟩
    case pos =>
      subst hpe
      have HOK : Hid (okD r = true ∧ 0 ≤ n ∧ n ≤ 15 ∧ pa = (cntA (toA r) n.toNat (toA r).s0 : Nat)) := Lib.hid (by
        have h5 := HCR.out
        unfold cntR at h5
        split at h5
        · injection h5 with _ h6; cases h6
        · rename_i h7
          split at h5
          · injection h5 with _ h6; cases h6
          · rename_i h8
            injection h5 with h6 _
            exact ⟨by simpa using h7, by omega, by omega, h6.symm⟩)
      have HNB := Lib.hid (HOK.out.2)
      have t1 : (pa != pa) = false := by simp
      have f0 : w5.cell? ⟨g, 0, none⟩ = some (.int .i64 r.st) := K5.out.cell 0
      have f1 : w5.cell? ⟨g, 1, none⟩ = some (.slice a1 r.nx.length c1) := K5.out.cell 1
      have f2 : w5.cell? ⟨g, 2, none⟩ = some (.slice a2 r.ac.length c2) := K5.out.cell 2
      go_wp2_with fail
      refine (to_any r.st a1 r.nx.length c1 a2 r.ac.length c2 w5).mono ?_
      rintro e w6 ⟨rfl, b6⟩
      have HN6 := Lib.hid (HN5.out.below b6)
      have HF6 := Lib.hid (HF5.out.below b6)
      have HB6 := Lib.hid (st HB5.out b6 HB5.out.size)
      have K6 := Lib.hid (Blk.below K5.out b6)
      clear b6 f0 f1 f2 HN5 HF5 HB5 K5
      have HC := Lib.hid (complP_any r a1 c1 a2 c2 w6 HN6.out HF6.out)
      go_wp2_with fail
      refine HC.out.mono ?_
      rintro e w7 ⟨hcase, b7⟩
      have HN2 : Hid (r.nx.length ≤ 2000) := Lib.hid (okD_iff.1 HOK.out.1).2
      have hg : GotP (compl (toA r)) w6.heap.size r.nx.length e w7 := by
        rcases hcase with ⟨h5, _⟩ | ⟨_, h5⟩
        · rw [HOK.out.1] at h5; cases h5
        · exact h5
      obtain ⟨r2, x1, x2, hok2, hst2, heq2, rfl, hn2, hf2, _, _⟩ := hg.raw HN2.out
      have HOK2 := Lib.hid hok2
      have HEQ2 := Lib.hid heq2
      have HB7 := Lib.hid (st HB6.out b7 HB6.out.size)
      have bA := (Below.refl w7.heap.size w7).alloc (Nat.le_refl _) (.cells #[.int .i64 r2.st, .slice (some ⟨x1, 0, none⟩) r2.nx.length r2.nx.length, .slice (some ⟨x2, 0, none⟩) r2.ac.length r2.ac.length] 29)
      have kA := Blk.new w7 29 #[.int .i64 r2.st, .slice (some ⟨x1, 0, none⟩) r2.nx.length r2.nx.length, .slice (some ⟨x2, 0, none⟩) r2.ac.length r2.ac.length]
      obtain ⟨w8, hw8⟩ : ∃ w8, w7.alloc (.cells #[.int .i64 r2.st, .slice (some ⟨x1, 0, none⟩) r2.nx.length r2.nx.length, .slice (some ⟨x2, 0, none⟩) r2.ac.length r2.ac.length] 29) = w8 := ⟨_, rfl⟩
      obtain ⟨nb, hnb⟩ : ∃ nb, w7.heap.size = nb := ⟨_, rfl⟩
      have HB8 := Lib.hid (HB7.out.trans (bA.mono HB7.out.size))
      have HN8 := Lib.hid (hn2.below bA)
      have HF8 := Lib.hid (hf2.below bA)
      rw [hw8] at kA HB8 HN8 HF8
      rw [hnb] at kA
      have HW8 := Lib.hid hw8
      have HNB8 := Lib.hid hnb
      have g0 : w8.cell? ⟨nb, 0, none⟩ = some (.int .i64 r2.st) := kA.cell 0
      have g1 : w8.cell? ⟨nb, 1, none⟩ = some (.slice (some ⟨x1, 0, none⟩) r2.nx.length r2.nx.length) := kA.cell 1
      have g2 : w8.cell? ⟨nb, 2, none⟩ = some (.slice (some ⟨x2, 0, none⟩) r2.ac.length r2.ac.length) := kA.cell 2
      have HCP := Lib.hid (countP_any r2 n (some ⟨x1, 0, none⟩) r2.nx.length (some ⟨x2, 0, none⟩) r2.ac.length w8 HN8.out HF8.out)
      clear hcase b7 hg hok2 hst2 heq2 hn2 hf2 bA kA hw8 hnb HC HN6 HF6 HB6 K6
      go_upto_region 10 with fail
      rw [HW8.out, HNB8.out]
      go_wp2_with fail
      refine HCP.out.mono ?_
      rintro e w9 ⟨rfl, b9⟩
      have HB9 := Lib.hid (st HB8.out b9 HB8.out.size)
      have HC2 : Hid (cntR r2 n = (((cntA (toA r2) n.toNat (toA r2).s0 : Nat) : Int), 0)) := Lib.hid (by
        unfold cntR
        rw [if_neg (by rw [HOK2.out]; simp), if_neg (by have := HNB.out; omega)])
      rw [HC2.out]
      have HSUM : Hid (cntA (toA r) n.toNat (toA r).s0 + cntA (toA r2) n.toNat (toA r2).s0 = 11 ^ n.toNat) := Lib.hid (by rw [cntA_eqv n.toNat HEQ2.out]; exact cntA_compl _ _ _)
      obtain ⟨A1, hA1⟩ : ∃ A1, cntA (toA r) n.toNat (toA r).s0 = A1 := ⟨_, rfl⟩
      obtain ⟨A2, hA2⟩ : ∃ A2, cntA (toA r2) n.toNat (toA r2).s0 = A2 := ⟨_, rfl⟩
      have HPA : Hid (pa = (A1 : Int)) := Lib.hid (by rw [← hA1]; exact HOK.out.2.2.2)
      rw [hA1, hA2] at HSUM
      rw [hA2]
      clear hA1 hA2 b9 HCP g0 g1 g2
      obtain ⟨k, hk⟩ : ∃ k : Nat, n = (k : Int) := ⟨n.toNat, by have := HNB.out; omega⟩
      have hk15 : k ≤ 15 := by have := HNB.out; omega
      have HS2 : Hid (A1 + A2 = 11 ^ k) := Lib.hid (by have := HSUM.out; rw [hk] at this; simpa using this)
      have hpa := HPA.out
      subst hpa
      subst hk
      clear t1
      go_wp2_with fail
      go_loopw [13, 14] (fun v13 v14 wr => ∃ i : Nat, i ≤ k ∧ v14 = .int .i64 (i : Nat) ∧ v13 = .int .i64 ((11 ^ i : Nat) : Int) ∧ wr = w9) (fun _ v14 _ => k - (intOf v14).toNat)
      case atStart => exact ⟨0, Nat.zero_le _, rfl, rfl, rfl⟩
      case round =>
        obtain ⟨i, hi, rfl, rfl, hwr⟩ := hrel
        obtain rfl := hwr.symm
        obtain ⟨y, hy⟩ : ∃ y, 11 ^ i = y := ⟨_, rfl⟩
        have HY := Lib.hid hy
        rw [hy]
        by_cases hlt : i < k
        · have h9 : (i : Int) < (k : Int) := by omega
          have hyb : y * 11 ≤ 4177248169415651 := by
            have := pow11 (k := i + 1) (by omega)
            rw [Nat.pow_succ, hy] at this
            exact this
          have HNX : Hid (11 ^ (i + 1) = y * 11) := Lib.hid (by rw [Nat.pow_succ, hy])
          obtain ⟨z, hz⟩ : ∃ z, y * 11 = z := ⟨_, rfl⟩
          have HZ := Lib.hid hz
          have d1 : IntKind.i64.wrap ((y : Int) * 11) = (z : Int) := by rw [IntKind.wrap_i64]; omega
          clear hy hz hyb
          go_wp2_with fail
          go_roundw
          case measure => simp [intOf] <;> omega
          case rel => exact ⟨i + 1, by omega, by go_num, by rw [HNX.out, HZ.out], (by first | rfl | trivial)⟩
        · obtain rfl : i = k := by omega
          have h9 : ¬ (i : Int) < (i : Int) := by omega
          have hyb : y ≤ 4177248169415651 := by rw [← hy]; exact pow11 hk15
          have hs2 : A1 + A2 = y := by rw [← hy]; exact HS2.out
          have d1 : IntKind.i64.wrap ((A1 : Int) + (A2 : Int)) = (y : Int) := by rw [IntKind.wrap_i64]; omega
          have t5 : ((y : Int) == (y : Int)) = true := by simp
          clear hy hs2
          go_wp2_with fail
          go_ret
          exact ⟨rfl, HB9.out⟩
end Go.Proofs.Ytiljagfjgefnnaa
