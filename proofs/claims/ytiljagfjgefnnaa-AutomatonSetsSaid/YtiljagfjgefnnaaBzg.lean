/- Minimal automata, as raw lists; the law AutomatonMinimal. -/
import Derived.Test.YtiljagfjgefnnaaBzf
import Derived.Test.YtiljagfjgefnnaaAj
import Derived.Test.YtiljagfjgefnnaaAm
import Derived.Test.YtiljagfjgefnnaaAp
namespace Go.Proofs.Ytiljagfjgefnnaa
open Go.RowKit
set_option linter.unusedVariables false

theorem minC_holds : MinC := fun r ok a1 c1 a2 c2 w hN hF => minimal_any r ok a1 c1 a2 c2 w hN hF
/-- The one minimal automaton of B. -/
def IsMin (B : Aut) (q : RawD) : Prop := ∃ (G : Aut) (cl : Nat → Nat) (k : Nat), G.Ok ∧ Eqv G B G.s0 B.s0 ∧ Cls G cl ∧ Stop G cl k ∧ k ≤ 2000 ∧ q = mkR (outN G cl k) (outF G cl k)
theorem IsMin.uniq {B : Aut} {p q : RawD} (h : IsMin B p) (h' : IsMin B q) : p = q := by
  obtain ⟨G, cl, k, hG, he, hc, hs, _, rfl⟩ := h
  obtain ⟨G', cl', k', hG', he', hc', hs', _, rfl⟩ := h'
  obtain ⟨rfl, h1, h2⟩ := canon hG hG' hc hc' (he.trans he'.symm) hs hs'
  rw [h1, h2]
theorem IsMin.ok {B : Aut} {q : RawD} (h : IsMin B q) : okD q = true := by
  obtain ⟨G, cl, k, _, _, _, hs, hk, rfl⟩ := h
  exact made_ok hs hk
theorem IsMin.eqv {B : Aut} {q : RawD} (h : IsMin B q) : Eqv (toA q) B (toA q).s0 B.s0 := by
  obtain ⟨G, cl, k, hG, he, hc, hs, _, rfl⟩ := h
  rw [mkR_toA]
  exact (hs.start hG hc.snd).trans he
theorem IsMin.of {A B : Aut} {q : RawD} (h : IsMin A q) (he : Eqv A B A.s0 B.s0) : IsMin B q := by
  obtain ⟨G, cl, k, hG, h1, hc, hs, hk, rfl⟩ := h
  exact ⟨G, cl, k, hG, h1.trans he, hc, hs, hk, rfl⟩
theorem IsMin.run {r q : RawD} (h : IsMin (toA r) q) (hok : okD r = true) (s : Str) : runP q s = runP r s := by
  unfold runP
  rw [h.ok, hok, h.eqv _ (word_wdN s)]
def zeroR : RawD := ⟨0, [], []⟩
/-- What Minimal gives, as raw lists. -/
def GotRaw (B : Aut) (ok : Bool) (n : Nat) (q : RawD) (pe : Int) : Prop := (ok = false ∧ pe = 1 ∧ q = zeroR) ∨ (ok = true ∧ pe = 0 ∧ IsMin B q ∧ q.nx.length ≤ n)
theorem GotRaw.uniq {B : Aut} {ok : Bool} {n m : Nat} {p q : RawD} {x y : Int} (h : GotRaw B ok n p x) (h' : GotRaw B ok m q y) : p = q ∧ x = y := by
  rcases h with ⟨a1, a2, a3⟩ | ⟨a1, a2, a3, _⟩ <;> rcases h' with ⟨b1, b2, b3⟩ | ⟨b1, b2, b3, _⟩
  · exact ⟨by rw [a3, b3], by rw [a2, b2]⟩
  · rw [a1] at b1; cases b1
  · rw [a1] at b1; cases b1
  · exact ⟨a3.uniq b3, by rw [a2, b2]⟩
def Raws (q : RawD) (pe : Int) (e : Ending) (w' : World) : Prop := ∃ (a1 : Option Addr) (c1 : Nat) (a2 : Option Addr) (c2 : Nat), e = .returned (.tuple #[.agg #[.int .i64 q.st, .slice a1 q.nx.length c1, .slice a2 q.ac.length c2], .int .i64 pe]) ∧ RdRows w' (.slice a1 q.nx.length c1) q.nx ∧ Rd 1 encO w' (.slice a2 q.ac.length c2) q.ac
theorem raws_zero (pe : Int) (w' : World) : Raws zeroR pe (.returned (.tuple #[.agg #[.int .i64 0, .slice none 0 0, .slice none 0 0], .int .i64 pe])) w' :=
  ⟨none, 0, none, 0, rfl, ⟨[], rd_nil w', rfl, fun i h _ => by simp at h⟩, rd_nil w'⟩
theorem GotQ.raws {r : RawD} {w w' : World} {e : Ending} (h : GotQ r w e w') : ∃ q pe, Raws q pe e w' ∧ GotRaw (toA r) (okD r) r.nx.length q pe := by
  rcases h.1 with ⟨h1, h2⟩ | ⟨h1, h2⟩
  · have h2 : e = .returned (.tuple #[.agg #[.int .i64 0, .slice none 0 0, .slice none 0 0], .int .i64 1]) := h2
    subst h2
    exact ⟨zeroR, 1, raws_zero 1 w', .inl ⟨h1, rfl, rfl⟩⟩
  · have hn := (okD_iff.1 h1).2
    obtain ⟨q, x1, x2, _, _, _, he, hN, hF, hl, G, cl, k, hG, heq, hc, hs, hq⟩ := h2.raw hn
    refine ⟨q, 0, ⟨_, _, _, _, he, hN, hF⟩, .inr ⟨h1, rfl, ⟨G, cl, k, hG, heq, hc, hs, ?_, hq⟩, hl⟩⟩
    have : q.nx.length = k := by rw [hq]; show (List.map _ _).length = k; rw [List.length_map, outN_len]
    omega
theorem rd_ofNat {w : World} {v : Value} {l : List Nat} (h : Rd 1 encN w v l) : Rd 1 encI w v (l.map Int.ofNat) := by
  obtain ⟨⟨a, c, hv, h1, h2, h3⟩, h4⟩ := h
  refine ⟨⟨a, c, by rw [List.length_map]; exact hv, by rw [List.length_map]; exact h1, h2, fun hne => ?_⟩, h4⟩
  obtain ⟨b, off, ha, hlt, hc⟩ := h3 (fun e => hne (by rw [e]; rfl))
  refine ⟨b, off, ha, hlt, fun i x hx j u hu => ?_⟩
  rw [List.getElem?_map] at hx
  cases hy : l[i]? with
  | none => rw [hy] at hx; cases hx
  | some y =>
    rw [hy] at hx
    injection hx with hx
    subst hx
    exact hc i y hy j u hu
theorem GotM.raws {r : RawD} {w w' : World} {e : Ending} (h : GotM r w e w') : ∃ q pe, Raws q pe e w' ∧ GotRaw (toA r) (okD r) r.nx.length q pe := by
  rcases h.1 with ⟨h1, h2⟩ | ⟨h1, m, cl, a1, c1, a2, c2, raws, hc, hs, he, hN, hrows, _, hF⟩
  · have h2 : e = .returned (.tuple #[.agg #[.int .i64 0, .slice none 0 0, .slice none 0 0], .int .i64 1]) := h2
    subst h2
    exact ⟨zeroR, 1, raws_zero 1 w', .inl ⟨h1, rfl, rfl⟩⟩
  · have hd := okD_iff.1 h1
    have hmn : m ≤ r.nx.length := hs.le hd.1.ok
    have hl : (mkR (outN (toA r) cl m) (outF (toA r) cl m)).nx.length = m := by show (List.map _ _).length = m; rw [List.length_map, outN_len]
    have ha : (mkR (outN (toA r) cl m) (outF (toA r) cl m)).ac.length = m := outF_len _ _ _
    refine ⟨mkR (outN (toA r) cl m) (outF (toA r) cl m), 0, ⟨a1, c1, a2, c2, by rw [he, hl, ha]; rfl, ?_, ?_⟩, .inr ⟨h1, rfl, ⟨toA r, cl, m, hd.1.ok, Eqv.refl _ _, hc, hs, by omega, rfl⟩, by rw [hl]; exact hmn⟩⟩
    · rw [hl]
      refine ⟨raws, hN.rd encS_len, ?_, fun i h5 h6 => ?_⟩
      · rw [hrows.len, outN_len, hl]
      · have h7 : i < (outN (toA r) cl m).length := by rw [← hrows.len]; exact h5
        have := rd_ofNat (hrows.rd i h5 h7)
        have e2 : (mkR (outN (toA r) cl m) (outF (toA r) cl m)).nx[i]'h6 = ((outN (toA r) cl m)[i]'h7).map Int.ofNat := List.getElem_map _
        rw [e2]
        exact this
    · rw [ha]
      exact hF.rd encO_len
set_option maxRecDepth 1000000 in
set_option maxHeartbeats 8000000 in
theorem automatonMinimal_walk (r : RawD) (a1 : Option Addr) (c1 : Nat) (a2 : Option Addr) (c2 : Nat) (s : ByteArray) (w : World) (hN : RdRows w (.slice a1 r.nx.length c1) r.nx) (hF : Rd 1 encO w (.slice a2 r.ac.length c2) r.ac) (hs : s.size ≤ maxLen) :
    Calls Try.prog 4 #[.agg #[.int .i64 r.st, .slice a1 r.nx.length c1, .slice a2 r.ac.length c2], .string s] w fun e w' => e = .returned (.bool true) ∧ Below w.heap.size w w' := by
  have hm : maxLen = 9223372036854775807 := by decide
  rw [hm] at hs
  clear hm
  have BA := (Below.refl w.heap.size w).alloc (Nat.le_refl _) (.cells #[.int .i64 r.st, .slice a1 r.nx.length c1, .slice a2 r.ac.length c2] 25)
  have k0 := Blk.new w 25 #[.int .i64 r.st, .slice a1 r.nx.length c1, .slice a2 r.ac.length c2]
  obtain ⟨W0, hW0⟩ : ∃ W0, w.alloc (.cells #[.int .i64 r.st, .slice a1 r.nx.length c1, .slice a2 r.ac.length c2] 25) = W0 := ⟨_, rfl⟩
  have HN := Lib.hid (hN.below BA)
  have HF := Lib.hid (hF.below BA)
  have HBA := Lib.hid BA
  have K0 := Lib.hid k0
  rw [hW0] at HN HF HBA K0
  obtain ⟨g, hg⟩ : ∃ g, w.heap.size = g := ⟨_, rfl⟩
  have HG := Lib.hid hg
  have HW0 := Lib.hid hW0
  rw [hg] at K0
  clear hN hF BA k0 hW0 hg
  go_enter Try.func4, Try.ntmps4
  go_upto_region 1 with fail
  rw [HW0.out, HG.out]
  clear HW0
  go_wp2_with fail
  refine (awake_any W0).mono ?_
  rintro e w1 ⟨rfl, b1⟩
  have HN1 := Lib.hid (HN.out.below b1)
  have HF1 := Lib.hid (HF.out.below b1)
  have HB1 := Lib.hid (st HBA.out b1 HBA.out.size)
  have K1 := Lib.hid (Blk.below K0.out b1)
  clear b1 HN HF HBA K0
  have f0 : w1.cell? ⟨g, 0, none⟩ = some (.int .i64 r.st) := K1.out.cell 0
  have f1 : w1.cell? ⟨g, 1, none⟩ = some (.slice a1 r.nx.length c1) := K1.out.cell 1
  have f2 : w1.cell? ⟨g, 2, none⟩ = some (.slice a2 r.ac.length c2) := K1.out.cell 2
  have HFW := Lib.hid (few_any r a1 c1 a2 c2 40 (by omega) w1 HN1.out HF1.out)
  go_wp2_with fail
  refine HFW.out.mono ?_
  rintro e w2 ⟨⟨b, rfl, hb⟩, b2⟩
  have HN2 := Lib.hid (HN1.out.below b2)
  have HF2 := Lib.hid (HF1.out.below b2)
  have HB2 := Lib.hid (st HB1.out b2 HB1.out.size)
  have K2 := Lib.hid (Blk.below K1.out b2)
  clear b2 HN1 HF1 HB1 K1 f0 f1 f2 HFW
  cases b with
  | false =>
    clear hb
    go_wp2_with fail
    refine (awake_any w2).mono ?_
    rintro e w3 ⟨rfl, b3⟩
    have HB3 := Lib.hid (st HB2.out b3 HB2.out.size)
    clear b3
    go_wp2_with fail
    go_ret
    exact ⟨rfl, HB3.out⟩
  | true =>
    have HMO := Lib.hid (hb rfl)
    clear hb
    by_cases h200 : 200 < s.size
    · have t1 : (200 : Int) < (s.size : Int) := by omega
      go_wp2_with fail
      refine (awake_any w2).mono ?_
      rintro e w3 ⟨rfl, b3⟩
      have HB3 := Lib.hid (st HB2.out b3 HB2.out.size)
      clear b3
      go_wp2_with fail
      go_ret
      exact ⟨rfl, HB3.out⟩
    have t1 : ¬ (200 : Int) < (s.size : Int) := by omega
    have HS := Lib.hid hs
    have f0 : w2.cell? ⟨g, 0, none⟩ = some (.int .i64 r.st) := K2.out.cell 0
    have f1 : w2.cell? ⟨g, 1, none⟩ = some (.slice a1 r.nx.length c1) := K2.out.cell 1
    have f2 : w2.cell? ⟨g, 2, none⟩ = some (.slice a2 r.ac.length c2) := K2.out.cell 2
    go_wp2_with fail
    refine (to_any r.st a1 r.nx.length c1 a2 r.ac.length c2 w2).mono ?_
    rintro e w3 ⟨rfl, b3⟩
    have HN3 := Lib.hid (HN2.out.below b3)
    have HF3 := Lib.hid (HF2.out.below b3)
    have K3 := Lib.hid (Blk.below K2.out b3)
    have HB3 := Lib.hid (st HB2.out b3 HB2.out.size)
    clear b3 f0 f1 f2 HN2 HF2 K2 HB2
    have HP := Lib.hid (minP_any r a1 c1 a2 c2 w3 HN3.out HF3.out)
    go_wp2_with fail
    refine HP.out.mono ?_
    rintro e w4 hgot
    have b4 := hgot.2
    obtain ⟨p, pe, ⟨p1, pc1, p2, pc2, rfl, hpN, hpF⟩, hgr⟩ := hgot.raws
    have GP := Lib.hid hgr
    have NP4 := Lib.hid hpN
    have FP4 := Lib.hid hpF
    have HN4 := Lib.hid (HN3.out.below b4)
    have HF4 := Lib.hid (HF3.out.below b4)
    have K4 := Lib.hid (Blk.below K3.out b4)
    have HB4 := Lib.hid (st HB3.out b4 HB3.out.size)
    clear b4 hgot hpN hpF hgr HP HN3 HF3 K3 HB3
    have b5 := (Below.refl w4.heap.size w4).alloc (Nat.le_refl _) (.cells #[.int .i64 p.st, .slice p1 p.nx.length pc1, .slice p2 p.ac.length pc2] 29)
    have k5 := Blk.new w4 29 #[.int .i64 p.st, .slice p1 p.nx.length pc1, .slice p2 p.ac.length pc2]
    obtain ⟨w5, hw5⟩ : ∃ wx, w4.alloc (.cells #[.int .i64 p.st, .slice p1 p.nx.length pc1, .slice p2 p.ac.length pc2] 29) = wx := ⟨_, rfl⟩
    obtain ⟨n5, hn5⟩ : ∃ B, w4.heap.size = B := ⟨_, rfl⟩
    rw [hw5] at b5 k5
    rw [hn5] at k5
    have HW5 := Lib.hid hw5
    have Hn5 := Lib.hid hn5
    have Kp5 := Lib.hid k5
    have HN5 := Lib.hid (HN4.out.below b5)
    have HF5 := Lib.hid (HF4.out.below b5)
    have K5 := Lib.hid (Blk.below K4.out b5)
    have NP5 := Lib.hid (NP4.out.below b5)
    have FP5 := Lib.hid (FP4.out.below b5)
    have HB5 := Lib.hid (st HB4.out b5 HB4.out.size)
    clear b5 k5 hw5 hn5 HN4 HF4 K4 NP4 FP4 HB4
    go_upto_region 4 with fail
    rw [HW5.out, Hn5.out]
    have f0 : w5.cell? ⟨g, 0, none⟩ = some (.int .i64 r.st) := K5.out.cell 0
    have f1 : w5.cell? ⟨g, 1, none⟩ = some (.slice a1 r.nx.length c1) := K5.out.cell 1
    have f2 : w5.cell? ⟨g, 2, none⟩ = some (.slice a2 r.ac.length c2) := K5.out.cell 2
    have HQ := Lib.hid (minimalR_any minC_holds r a1 c1 a2 c2 w5 HN5.out HF5.out)
    go_wp2_with fail
    refine HQ.out.mono ?_
    rintro e w6 hgot
    have b6 := hgot.2
    obtain ⟨q, qe, ⟨q1, qc1, q2, qc2, rfl, hqN, hqF⟩, hgr⟩ := hgot.raws
    obtain ⟨rfl, rfl⟩ := GotRaw.uniq GP.out hgr
    have NQ6 := Lib.hid hqN
    have FQ6 := Lib.hid hqF
    have HN6 := Lib.hid (HN5.out.below b6)
    have HF6 := Lib.hid (HF5.out.below b6)
    have K6 := Lib.hid (Blk.below K5.out b6)
    have NP6 := Lib.hid (NP5.out.below b6)
    have FP6 := Lib.hid (FP5.out.below b6)
    have Kp6 := Lib.hid (Blk.below Kp5.out b6)
    have HB6 := Lib.hid (st HB5.out b6 HB5.out.size)
    clear b6 hgot hqN hqF hgr HQ f0 f1 f2 HN5 HF5 K5 NP5 FP5 Kp5 HB5
    have b7 := (Below.refl w6.heap.size w6).alloc (Nat.le_refl _) (.cells #[.int .i64 p.st, .slice q1 p.nx.length qc1, .slice q2 p.ac.length qc2] 25)
    have k7 := Blk.new w6 25 #[.int .i64 p.st, .slice q1 p.nx.length qc1, .slice q2 p.ac.length qc2]
    obtain ⟨w7, hw7⟩ : ∃ wx, w6.alloc (.cells #[.int .i64 p.st, .slice q1 p.nx.length qc1, .slice q2 p.ac.length qc2] 25) = wx := ⟨_, rfl⟩
    obtain ⟨n7, hn7⟩ : ∃ B, w6.heap.size = B := ⟨_, rfl⟩
    rw [hw7] at b7 k7
    rw [hn7] at k7
    have HW7 := Lib.hid hw7
    have Hn7 := Lib.hid hn7
    have Kq7 := Lib.hid k7
    have HN7 := Lib.hid (HN6.out.below b7)
    have HF7 := Lib.hid (HF6.out.below b7)
    have K7 := Lib.hid (Blk.below K6.out b7)
    have NP7 := Lib.hid (NP6.out.below b7)
    have FP7 := Lib.hid (FP6.out.below b7)
    have Kp7 := Lib.hid (Blk.below Kp6.out b7)
    have NQ7 := Lib.hid (NQ6.out.below b7)
    have FQ7 := Lib.hid (FQ6.out.below b7)
    have HB7 := Lib.hid (st HB6.out b7 HB6.out.size)
    clear b7 k7 hw7 hn7 HN6 HF6 K6 NP6 FP6 Kp6 NQ6 FQ6 HB6
    go_upto_region 5 with fail
    rw [HW7.out, Hn7.out]
    have HSS : Hid (∀ wx, Blk n5 29 #[.int .i64 p.st, .slice p1 p.nx.length pc1, .slice p2 p.ac.length pc2] wx → Blk n7 25 #[.int .i64 p.st, .slice q1 p.nx.length qc1, .slice q2 p.ac.length qc2] wx → (fun wx : World => wx.cell? ⟨n5, 0, none⟩ = some (.int .i64 p.st) ∧ wx.cell? ⟨n5, 1, none⟩ = some (.slice p1 p.nx.length pc1) ∧ wx.cell? ⟨n5, 2, none⟩ = some (.slice p2 p.ac.length pc2) ∧ wx.cell? ⟨n7, 0, none⟩ = some (.int .i64 p.st) ∧ wx.cell? ⟨n7, 1, none⟩ = some (.slice q1 p.nx.length qc1) ∧ wx.cell? ⟨n7, 2, none⟩ = some (.slice q2 p.ac.length qc2)) wx) := Lib.hid (fun wx h1 h2 => ⟨h1.cell 0, h1.cell 1, h1.cell 2, h2.cell 0, h2.cell 1, h2.cell 2⟩)
    have bd := (Below.refl w7.heap.size w7).drew
    obtain ⟨w8, hw8⟩ : ∃ w8, w7.drew = w8 := ⟨_, rfl⟩
    have HW8 := Lib.hid hw8
    rw [hw8] at bd
    have HN8 := Lib.hid (HN7.out.below bd)
    have HF8 := Lib.hid (HF7.out.below bd)
    have K8 := Lib.hid (Blk.below K7.out bd)
    have NP8 := Lib.hid (NP7.out.below bd)
    have FP8 := Lib.hid (FP7.out.below bd)
    have Kp8 := Lib.hid (Blk.below Kp7.out bd)
    have NQ8 := Lib.hid (NQ7.out.below bd)
    have FQ8 := Lib.hid (FQ7.out.below bd)
    have Kq8 := Lib.hid (Blk.below Kq7.out bd)
    have HB8 := Lib.hid (st HB7.out bd HB7.out.size)
    clear bd hw8 HN7 HF7 K7 NP7 FP7 Kp7 NQ7 FQ7 Kq7 HB7
    have hS8 := HSS.out w8 Kp8.out Kq8.out
    have tpe : (pe != pe) = false := by simp
    refine region_hd 7 (fun wx : World => wx.cell? ⟨n5, 0, none⟩ = some (.int .i64 p.st) ∧ wx.cell? ⟨n5, 1, none⟩ = some (.slice p1 p.nx.length pc1) ∧ wx.cell? ⟨n5, 2, none⟩ = some (.slice p2 p.ac.length pc2) ∧ wx.cell? ⟨n7, 0, none⟩ = some (.int .i64 p.st) ∧ wx.cell? ⟨n7, 1, none⟩ = some (.slice q1 p.nx.length qc1) ∧ wx.cell? ⟨n7, 2, none⟩ = some (.slice q2 p.ac.length qc2)) (by kernel_rfl) (by kernel_rfl) ?_
    rw [HW8.out]
    refine hd_taken 0 (some 35) _ ?hdv0 rfl rfl (by kernel_rfl) (fun _ _ _ h => h) (Or.inl ⟨by rfl, ?hdy0⟩) hS8 ?hdr0
    case hdy0 => (intro wx hx; (try dsimp only at hx); go_simp; try with_reducible rfl)
    try simp only [Act.put, List.setIfInBounds_toArray, List.set_cons_zero, List.set_cons_succ]
    refine hd_taken 1 (some 36) _ ?hdv1 rfl rfl (by kernel_rfl) (fun _ _ _ h => h) (Or.inl ⟨by rfl, ?hdy1⟩) hS8 ?hdr1
    case hdy1 => (intro wx hx; (try dsimp only at hx); go_simp; try with_reducible rfl)
    try simp only [Act.put, List.setIfInBounds_toArray, List.set_cons_zero, List.set_cons_succ]
    refine hd_taken 2 (some 37) _ ?hdv2 rfl rfl (by kernel_rfl) (fun _ _ _ h => h) (Or.inl ⟨by rfl, ?hdy2⟩) hS8 ?hdr2
    case hdy2 => (intro wx hx; (try dsimp only at hx); go_simp; try with_reducible rfl)
    try simp only [Act.put, List.setIfInBounds_toArray, List.set_cons_zero, List.set_cons_succ]
    refine hd_taken 3 (some 38) _ ?hdv3 rfl rfl (by kernel_rfl) (fun _ _ _ h => h) (Or.inl ⟨by rfl, ?hdy3⟩) hS8 ?hdr3
    case hdy3 => (intro wx hx; (try dsimp only at hx); go_simp; try with_reducible rfl)
    try simp only [Act.put, List.setIfInBounds_toArray, List.set_cons_zero, List.set_cons_succ]
    refine hd_taken 4 (some 39) _ ?hdv4 rfl rfl (by kernel_rfl) (fun _ _ _ h => h) (Or.inl ⟨by rfl, ?hdy4⟩) hS8 ?hdr4
    case hdy4 => (intro wx hx; (try dsimp only at hx); go_simp; try with_reducible rfl)
    try simp only [Act.put, List.setIfInBounds_toArray, List.set_cons_zero, List.set_cons_succ]
    refine hd_taken 6 (some 41) _ ?hdv6 rfl rfl (by kernel_rfl) (fun _ _ _ h => h) (Or.inl ⟨by rfl, ?hdy6⟩) hS8 ?hdr6
    case hdy6 => (intro wx hx; (try dsimp only at hx); go_simp; try with_reducible rfl)
    try simp only [Act.put, List.setIfInBounds_toArray, List.set_cons_zero, List.set_cons_succ]
    refine hd_one 5 _ rfl (by kernel_rfl) (by decide) (fun K9k hK9 => ?_)
    go_simp
    refine (from_any p.st p1 p.nx.length pc1 p2 p.ac.length pc2 w8).mono ?_
    rintro e w9 ⟨rfl, b9⟩
    try dsimp only
    have HN9 := Lib.hid (HN8.out.below b9)
    have HF9 := Lib.hid (HF8.out.below b9)
    have K9 := Lib.hid (Blk.below K8.out b9)
    have NP9 := Lib.hid (NP8.out.below b9)
    have FP9 := Lib.hid (FP8.out.below b9)
    have Kp9 := Lib.hid (Blk.below Kp8.out b9)
    have NQ9 := Lib.hid (NQ8.out.below b9)
    have FQ9 := Lib.hid (FQ8.out.below b9)
    have Kq9 := Lib.hid (Blk.below Kq8.out b9)
    have HB9 := Lib.hid (st HB8.out b9 HB8.out.size)
    clear b9  HN8 HF8 K8 NP8 FP8 Kp8 NQ8 FQ8 Kq8 HB8
    have hS9 := HSS.out w9 Kp9.out Kq9.out
    refine hK9.out _ _ hS9 ?_
    clear hK9 K9k hS8
    try simp only [Act.put, List.setIfInBounds_toArray, List.set_cons_zero, List.set_cons_succ]
    refine hd_done (by kernel_rfl) ?_
    simp only [List.drop_succ_cons, List.drop_zero]
    have HE9 := Lib.hid (equalD_any p p p1 pc1 p2 pc2 q1 qc1 q2 qc2 w9 NP9.out FP9.out NQ9.out FQ9.out)
    have HEY : Hid (eqD p p = true) := Lib.hid (eqD_yes ⟨rfl, rfl, rfl⟩)
    clear hS9
    go_wp2_with fail
    refine HE9.out.mono ?_
    rintro e w10 ⟨rfl, b10⟩
    rw [HEY.out]
    have HN10 := Lib.hid (HN9.out.below b10)
    have HF10 := Lib.hid (HF9.out.below b10)
    have K10 := Lib.hid (Blk.below K9.out b10)
    have NP10 := Lib.hid (NP9.out.below b10)
    have FP10 := Lib.hid (FP9.out.below b10)
    have Kp10 := Lib.hid (Blk.below Kp9.out b10)
    have NQ10 := Lib.hid (NQ9.out.below b10)
    have FQ10 := Lib.hid (FQ9.out.below b10)
    have Kq10 := Lib.hid (Blk.below Kq9.out b10)
    have HB10 := Lib.hid (st HB9.out b10 HB9.out.size)
    clear b10 HE9 HN9 HF9 K9 NP9 FP9 Kp9 NQ9 FQ9 Kq9 HB9
    rcases GP.out with ⟨_, hpe, _⟩ | ⟨hok, hpe, hmin, hple⟩
    · subst hpe
      go_wp2_with fail
      go_ret
      exact ⟨rfl, HB10.out⟩
    subst hpe
    have HOK := Lib.hid hok
    have HMIN := Lib.hid hmin
    have HPLE : Hid ((p.nx.length : Int) ≤ (r.nx.length : Int)) := Lib.hid (by omega)
    have HM := Lib.hid (minP_any p p1 pc1 p2 pc2 w10 NP10.out FP10.out)
    obtain ⟨y0, y1, y2, _, _, _⟩ := HSS.out w10 Kp10.out Kq10.out
    clear hok hmin hple tpe
    go_wp2_with fail
    refine HM.out.mono ?_
    rintro e w11 hgot
    have b11 := hgot.2
    obtain ⟨q, qe, ⟨x1, xc1, x2, xc2, rfl, hqN, hqF⟩, hgr⟩ := hgot.raws
    have hqp : q = p ∧ qe = 0 := by
      rcases hgr with ⟨h5, _⟩ | ⟨_, h6, h7, _⟩
      · rw [HMIN.out.ok] at h5; cases h5
      · exact ⟨(h7.of HMIN.out.eqv).uniq HMIN.out, h6⟩
    obtain ⟨rfl, rfl⟩ := hqp
    have NX11 := Lib.hid hqN
    have FX11 := Lib.hid hqF
    have HN11 := Lib.hid (HN10.out.below b11)
    have HF11 := Lib.hid (HF10.out.below b11)
    have K11 := Lib.hid (Blk.below K10.out b11)
    have NP11 := Lib.hid (NP10.out.below b11)
    have FP11 := Lib.hid (FP10.out.below b11)
    have Kp11 := Lib.hid (Blk.below Kp10.out b11)
    have NQ11 := Lib.hid (NQ10.out.below b11)
    have FQ11 := Lib.hid (FQ10.out.below b11)
    have Kq11 := Lib.hid (Blk.below Kq10.out b11)
    have HB11 := Lib.hid (st HB10.out b11 HB10.out.size)
    clear b11 hgot hqN hqF hgr HM y0 y1 y2 HN10 HF10 K10 NP10 FP10 Kp10 NQ10 FQ10 Kq10 HB10
    have b12 := (Below.refl w11.heap.size w11).alloc (Nat.le_refl _) (.cells #[.int .i64 q.st, .slice x1 q.nx.length xc1, .slice x2 q.ac.length xc2] 29)
    have k12 := Blk.new w11 29 #[.int .i64 q.st, .slice x1 q.nx.length xc1, .slice x2 q.ac.length xc2]
    obtain ⟨w12, hw12⟩ : ∃ wx, w11.alloc (.cells #[.int .i64 q.st, .slice x1 q.nx.length xc1, .slice x2 q.ac.length xc2] 29) = wx := ⟨_, rfl⟩
    obtain ⟨n9, hn9⟩ : ∃ B, w11.heap.size = B := ⟨_, rfl⟩
    rw [hw12] at b12 k12
    rw [hn9] at k12
    have HW12 := Lib.hid hw12
    have Hn9 := Lib.hid hn9
    have Kx12 := Lib.hid k12
    have HN12 := Lib.hid (HN11.out.below b12)
    have HF12 := Lib.hid (HF11.out.below b12)
    have K12 := Lib.hid (Blk.below K11.out b12)
    have NP12 := Lib.hid (NP11.out.below b12)
    have FP12 := Lib.hid (FP11.out.below b12)
    have Kp12 := Lib.hid (Blk.below Kp11.out b12)
    have NQ12 := Lib.hid (NQ11.out.below b12)
    have FQ12 := Lib.hid (FQ11.out.below b12)
    have Kq12 := Lib.hid (Blk.below Kq11.out b12)
    have NX12 := Lib.hid (NX11.out.below b12)
    have FX12 := Lib.hid (FX11.out.below b12)
    have HB12 := Lib.hid (st HB11.out b12 HB11.out.size)
    clear b12 k12 hw12 hn9 HN11 HF11 K11 NP11 FP11 Kp11 NQ11 FQ11 Kq11 NX11 FX11 HB11
    go_upto_region 10 with fail
    rw [HW12.out, Hn9.out]
    have HST : Hid (∀ wx, Blk g 25 #[.int .i64 r.st, .slice a1 r.nx.length c1, .slice a2 r.ac.length c2] wx → Blk n5 29 #[.int .i64 q.st, .slice p1 q.nx.length pc1, .slice p2 q.ac.length pc2] wx → Blk n7 25 #[.int .i64 q.st, .slice q1 q.nx.length qc1, .slice q2 q.ac.length qc2] wx → Blk n9 29 #[.int .i64 q.st, .slice x1 q.nx.length xc1, .slice x2 q.ac.length xc2] wx → (fun wx : World => wx.cell? ⟨g, 0, none⟩ = some (.int .i64 r.st) ∧ wx.cell? ⟨g, 1, none⟩ = some (.slice a1 r.nx.length c1) ∧ wx.cell? ⟨g, 2, none⟩ = some (.slice a2 r.ac.length c2) ∧ wx.cell? ⟨n5, 0, none⟩ = some (.int .i64 q.st) ∧ wx.cell? ⟨n5, 1, none⟩ = some (.slice p1 q.nx.length pc1) ∧ wx.cell? ⟨n5, 2, none⟩ = some (.slice p2 q.ac.length pc2) ∧ wx.cell? ⟨n7, 0, none⟩ = some (.int .i64 q.st) ∧ wx.cell? ⟨n7, 1, none⟩ = some (.slice q1 q.nx.length qc1) ∧ wx.cell? ⟨n7, 2, none⟩ = some (.slice q2 q.ac.length qc2) ∧ wx.cell? ⟨n9, 0, none⟩ = some (.int .i64 q.st) ∧ wx.cell? ⟨n9, 1, none⟩ = some (.slice x1 q.nx.length xc1) ∧ wx.cell? ⟨n9, 2, none⟩ = some (.slice x2 q.ac.length xc2)) wx) := Lib.hid (fun wx h1 h2 h3 h4 => ⟨h1.cell 0, h1.cell 1, h1.cell 2, h2.cell 0, h2.cell 1, h2.cell 2, h3.cell 0, h3.cell 1, h3.cell 2, h4.cell 0, h4.cell 1, h4.cell 2⟩)
    have bd := (Below.refl w12.heap.size w12).drew
    obtain ⟨w13, hw13⟩ : ∃ w13, w12.drew = w13 := ⟨_, rfl⟩
    have HW13 := Lib.hid hw13
    rw [hw13] at bd
    have HN13 := Lib.hid (HN12.out.below bd)
    have HF13 := Lib.hid (HF12.out.below bd)
    have K13 := Lib.hid (Blk.below K12.out bd)
    have NP13 := Lib.hid (NP12.out.below bd)
    have FP13 := Lib.hid (FP12.out.below bd)
    have Kp13 := Lib.hid (Blk.below Kp12.out bd)
    have NQ13 := Lib.hid (NQ12.out.below bd)
    have FQ13 := Lib.hid (FQ12.out.below bd)
    have Kq13 := Lib.hid (Blk.below Kq12.out bd)
    have NX13 := Lib.hid (NX12.out.below bd)
    have FX13 := Lib.hid (FX12.out.below bd)
    have Kx13 := Lib.hid (Blk.below Kx12.out bd)
    have HB13 := Lib.hid (st HB12.out bd HB12.out.size)
    clear bd hw13 HN12 HF12 K12 NP12 FP12 Kp12 NQ12 FQ12 Kq12 NX12 FX12 Kx12 HB12
    have hS13 := HST.out w13 K13.out Kp13.out Kq13.out Kx13.out
    have HRN := Lib.hid (HMIN.out.run HOK.out s.data.toList)
    obtain ⟨z, hz⟩ : ∃ z, runP r s.data.toList = z := ⟨_, rfl⟩
    have HZ := Lib.hid hz
    clear hz
    have hple := HPLE.out
    refine region_hd 25 (fun wx : World => wx.cell? ⟨g, 0, none⟩ = some (.int .i64 r.st) ∧ wx.cell? ⟨g, 1, none⟩ = some (.slice a1 r.nx.length c1) ∧ wx.cell? ⟨g, 2, none⟩ = some (.slice a2 r.ac.length c2) ∧ wx.cell? ⟨n5, 0, none⟩ = some (.int .i64 q.st) ∧ wx.cell? ⟨n5, 1, none⟩ = some (.slice p1 q.nx.length pc1) ∧ wx.cell? ⟨n5, 2, none⟩ = some (.slice p2 q.ac.length pc2) ∧ wx.cell? ⟨n7, 0, none⟩ = some (.int .i64 q.st) ∧ wx.cell? ⟨n7, 1, none⟩ = some (.slice q1 q.nx.length qc1) ∧ wx.cell? ⟨n7, 2, none⟩ = some (.slice q2 q.ac.length qc2) ∧ wx.cell? ⟨n9, 0, none⟩ = some (.int .i64 q.st) ∧ wx.cell? ⟨n9, 1, none⟩ = some (.slice x1 q.nx.length xc1) ∧ wx.cell? ⟨n9, 2, none⟩ = some (.slice x2 q.ac.length xc2)) (by kernel_rfl) (by kernel_rfl) ?_
    rw [HW13.out]
    refine hd_taken 0 (some 52) _ ?hdva0 rfl rfl (by kernel_rfl) (fun _ _ _ h => h) (Or.inl ⟨by rfl, ?hdya0⟩) hS13 ?hdra0
    case hdya0 => (intro wx hx; (try dsimp only at hx); go_simp; try with_reducible rfl)
    try simp only [Act.put, List.setIfInBounds_toArray, List.set_cons_zero, List.set_cons_succ]
    refine hd_taken 1 (some 53) _ ?hdva1 rfl rfl (by kernel_rfl) (fun _ _ _ h => h) (Or.inl ⟨by rfl, ?hdya1⟩) hS13 ?hdra1
    case hdya1 => (intro wx hx; (try dsimp only at hx); go_simp; try with_reducible rfl)
    try simp only [Act.put, List.setIfInBounds_toArray, List.set_cons_zero, List.set_cons_succ]
    refine hd_taken 2 (some 54) _ ?hdva2 rfl rfl (by kernel_rfl) (fun _ _ _ h => h) (Or.inl ⟨by rfl, ?hdya2⟩) hS13 ?hdra2
    case hdya2 => (intro wx hx; (try dsimp only at hx); go_simp; try with_reducible rfl)
    try simp only [Act.put, List.setIfInBounds_toArray, List.set_cons_zero, List.set_cons_succ]
    refine hd_taken 3 (some 55) _ ?hdva3 rfl rfl (by kernel_rfl) (fun _ _ _ h => h) (Or.inl ⟨by rfl, ?hdya3⟩) hS13 ?hdra3
    case hdya3 => (intro wx hx; (try dsimp only at hx); go_simp; try with_reducible rfl)
    try simp only [Act.put, List.setIfInBounds_toArray, List.set_cons_zero, List.set_cons_succ]
    refine hd_taken 5 (some 57) _ ?hdva5 rfl rfl (by kernel_rfl) (fun _ _ _ h => h) (Or.inl ⟨by rfl, ?hdya5⟩) hS13 ?hdra5
    case hdya5 => (intro wx hx; (try dsimp only at hx); go_simp; try with_reducible rfl)
    try simp only [Act.put, List.setIfInBounds_toArray, List.set_cons_zero, List.set_cons_succ]
    refine hd_one 4 _ rfl (by kernel_rfl) (by decide) (fun K14k hK14 => ?_)
    go_simp
    refine (from_any q.st x1 q.nx.length xc1 x2 q.ac.length xc2 w13).mono ?_
    rintro e w14 ⟨rfl, b14⟩
    try dsimp only
    have HN14 := Lib.hid (HN13.out.below b14)
    have HF14 := Lib.hid (HF13.out.below b14)
    have K14 := Lib.hid (Blk.below K13.out b14)
    have NP14 := Lib.hid (NP13.out.below b14)
    have FP14 := Lib.hid (FP13.out.below b14)
    have Kp14 := Lib.hid (Blk.below Kp13.out b14)
    have NQ14 := Lib.hid (NQ13.out.below b14)
    have FQ14 := Lib.hid (FQ13.out.below b14)
    have Kq14 := Lib.hid (Blk.below Kq13.out b14)
    have NX14 := Lib.hid (NX13.out.below b14)
    have FX14 := Lib.hid (FX13.out.below b14)
    have Kx14 := Lib.hid (Blk.below Kx13.out b14)
    have HB14 := Lib.hid (st HB13.out b14 HB13.out.size)
    clear b14  HN13 HF13 K13 NP13 FP13 Kp13 NQ13 FQ13 Kq13 NX13 FX13 Kx13 HB13
    have hS14 := HST.out w14 K14.out Kp14.out Kq14.out Kx14.out
    refine hK14.out _ _ hS14 ?_
    clear hK14 K14k hS13
    try simp only [Act.put, List.setIfInBounds_toArray, List.set_cons_zero, List.set_cons_succ]
    refine hd_one 6 _ rfl (by kernel_rfl) (by decide) (fun K15k hK15 => ?_)
    go_simp
    refine (equalD_any q q x1 xc1 x2 xc2 q1 qc1 q2 qc2 w14 NX14.out FX14.out NQ14.out FQ14.out).mono ?_
    rintro e w15 ⟨rfl, b15⟩
    try dsimp only
    have HN15 := Lib.hid (HN14.out.below b15)
    have HF15 := Lib.hid (HF14.out.below b15)
    have K15 := Lib.hid (Blk.below K14.out b15)
    have NP15 := Lib.hid (NP14.out.below b15)
    have FP15 := Lib.hid (FP14.out.below b15)
    have Kp15 := Lib.hid (Blk.below Kp14.out b15)
    have NQ15 := Lib.hid (NQ14.out.below b15)
    have FQ15 := Lib.hid (FQ14.out.below b15)
    have Kq15 := Lib.hid (Blk.below Kq14.out b15)
    have NX15 := Lib.hid (NX14.out.below b15)
    have FX15 := Lib.hid (FX14.out.below b15)
    have Kx15 := Lib.hid (Blk.below Kx14.out b15)
    have HB15 := Lib.hid (st HB14.out b15 HB14.out.size)
    clear b15  HN14 HF14 K14 NP14 FP14 Kp14 NQ14 FQ14 Kq14 NX14 FX14 Kx14 HB14
    have hS15 := HST.out w15 K15.out Kp15.out Kq15.out Kx15.out
    rw [HEY.out]
    refine hK15.out _ _ hS15 ?_
    clear hK15 K15k hS14
    try simp only [Act.put, List.setIfInBounds_toArray, List.set_cons_zero, List.set_cons_succ]
    refine hd_taken 7 (some 59) _ ?hdvb7 rfl rfl (by kernel_rfl) (fun _ _ _ h => h) (Or.inl ⟨by rfl, ?hdyb7⟩) hS15 ?hdrb7
    case hdyb7 => (intro wx hx; (try dsimp only at hx); go_simp; try with_reducible rfl)
    try simp only [Act.put, List.setIfInBounds_toArray, List.set_cons_zero, List.set_cons_succ]
    refine hd_taken 8 (some 60) _ ?hdvb8 rfl rfl (by kernel_rfl) (fun _ _ _ h => h) (Or.inl ⟨by rfl, ?hdyb8⟩) hS15 ?hdrb8
    case hdyb8 => (intro wx hx; (try dsimp only at hx); go_simp; try with_reducible rfl)
    try simp only [Act.put, List.setIfInBounds_toArray, List.set_cons_zero, List.set_cons_succ]
    refine hd_taken 9 (some 61) _ ?hdvb9 rfl rfl (by kernel_rfl) (fun _ _ _ h => h) (Or.inl ⟨by rfl, ?hdyb9⟩) hS15 ?hdrb9
    case hdyb9 => (intro wx hx; (try dsimp only at hx); go_simp; try with_reducible rfl)
    try simp only [Act.put, List.setIfInBounds_toArray, List.set_cons_zero, List.set_cons_succ]
    refine hd_taken 10 (some 62) _ ?hdvb10 rfl rfl (by kernel_rfl) (fun _ _ _ h => h) (Or.inl ⟨by rfl, ?hdyb10⟩) hS15 ?hdrb10
    case hdyb10 => (intro wx hx; (try dsimp only at hx); go_simp; try with_reducible rfl)
    try simp only [Act.put, List.setIfInBounds_toArray, List.set_cons_zero, List.set_cons_succ]
    refine hd_taken 12 (some 64) _ ?hdvb12 rfl rfl (by kernel_rfl) (fun _ _ _ h => h) (Or.inl ⟨by rfl, ?hdyb12⟩) hS15 ?hdrb12
    case hdyb12 => (intro wx hx; (try dsimp only at hx); go_simp; try with_reducible rfl)
    try simp only [Act.put, List.setIfInBounds_toArray, List.set_cons_zero, List.set_cons_succ]
    refine hd_taken 14 (some 66) _ ?hdvb14 rfl rfl (by kernel_rfl) (fun _ _ _ h => h) (Or.inl ⟨by rfl, ?hdyb14⟩) hS15 ?hdrb14
    case hdyb14 => (intro wx hx; (try dsimp only at hx); go_simp; try with_reducible rfl)
    try simp only [Act.put, List.setIfInBounds_toArray, List.set_cons_zero, List.set_cons_succ]
    refine hd_one 11 _ rfl (by kernel_rfl) (by decide) (fun K16k hK16 => ?_)
    go_simp
    refine (runP_any q p1 pc1 p2 pc2 s HS.out w15 NP15.out FP15.out).mono ?_
    rintro e w16 ⟨rfl, b16⟩
    try dsimp only
    have HN16 := Lib.hid (HN15.out.below b16)
    have HF16 := Lib.hid (HF15.out.below b16)
    have K16 := Lib.hid (Blk.below K15.out b16)
    have NP16 := Lib.hid (NP15.out.below b16)
    have FP16 := Lib.hid (FP15.out.below b16)
    have Kp16 := Lib.hid (Blk.below Kp15.out b16)
    have NQ16 := Lib.hid (NQ15.out.below b16)
    have FQ16 := Lib.hid (FQ15.out.below b16)
    have Kq16 := Lib.hid (Blk.below Kq15.out b16)
    have NX16 := Lib.hid (NX15.out.below b16)
    have FX16 := Lib.hid (FX15.out.below b16)
    have Kx16 := Lib.hid (Blk.below Kx15.out b16)
    have HB16 := Lib.hid (st HB15.out b16 HB15.out.size)
    clear b16  HN15 HF15 K15 NP15 FP15 Kp15 NQ15 FQ15 Kq15 NX15 FX15 Kx15 HB15
    have hS16 := HST.out w16 K16.out Kp16.out Kq16.out Kx16.out
    rw [HRN.out, HZ.out]
    refine hK16.out _ _ hS16 ?_
    clear hK16 K16k hS15
    try simp only [Act.put, List.setIfInBounds_toArray, List.set_cons_zero, List.set_cons_succ]
    refine hd_one 13 _ rfl (by kernel_rfl) (by decide) (fun K17k hK17 => ?_)
    go_simp
    refine (to_any r.st a1 r.nx.length c1 a2 r.ac.length c2 w16).mono ?_
    rintro e w17 ⟨rfl, b17⟩
    try dsimp only
    have HN17 := Lib.hid (HN16.out.below b17)
    have HF17 := Lib.hid (HF16.out.below b17)
    have K17 := Lib.hid (Blk.below K16.out b17)
    have NP17 := Lib.hid (NP16.out.below b17)
    have FP17 := Lib.hid (FP16.out.below b17)
    have Kp17 := Lib.hid (Blk.below Kp16.out b17)
    have NQ17 := Lib.hid (NQ16.out.below b17)
    have FQ17 := Lib.hid (FQ16.out.below b17)
    have Kq17 := Lib.hid (Blk.below Kq16.out b17)
    have NX17 := Lib.hid (NX16.out.below b17)
    have FX17 := Lib.hid (FX16.out.below b17)
    have Kx17 := Lib.hid (Blk.below Kx16.out b17)
    have HB17 := Lib.hid (st HB16.out b17 HB16.out.size)
    clear b17  HN16 HF16 K16 NP16 FP16 Kp16 NQ16 FQ16 Kq16 NX16 FX16 Kx16 HB16
    have hS17 := HST.out w17 K17.out Kp17.out Kq17.out Kx17.out
    refine hK17.out _ _ hS17 ?_
    clear hK17 K17k hS16
    try simp only [Act.put, List.setIfInBounds_toArray, List.set_cons_zero, List.set_cons_succ]
    refine hd_one 15 _ rfl (by kernel_rfl) (by decide) (fun K18k hK18 => ?_)
    go_simp
    refine (runP_any r a1 c1 a2 c2 s HS.out w17 HN17.out HF17.out).mono ?_
    rintro e w18 ⟨rfl, b18⟩
    try dsimp only
    have HN18 := Lib.hid (HN17.out.below b18)
    have HF18 := Lib.hid (HF17.out.below b18)
    have K18 := Lib.hid (Blk.below K17.out b18)
    have NP18 := Lib.hid (NP17.out.below b18)
    have FP18 := Lib.hid (FP17.out.below b18)
    have Kp18 := Lib.hid (Blk.below Kp17.out b18)
    have NQ18 := Lib.hid (NQ17.out.below b18)
    have FQ18 := Lib.hid (FQ17.out.below b18)
    have Kq18 := Lib.hid (Blk.below Kq17.out b18)
    have NX18 := Lib.hid (NX17.out.below b18)
    have FX18 := Lib.hid (FX17.out.below b18)
    have Kx18 := Lib.hid (Blk.below Kx17.out b18)
    have HB18 := Lib.hid (st HB17.out b18 HB17.out.size)
    clear b18  HN17 HF17 K17 NP17 FP17 Kp17 NQ17 FQ17 Kq17 NX17 FX17 Kx17 HB17
    have hS18 := HST.out w18 K18.out Kp18.out Kq18.out Kx18.out
    rw [HZ.out]
    have tz : (z == z) = true := by simp
    refine hK18.out _ _ hS18 ?_
    clear hK18 K18k hS17
    try simp only [Act.put, List.setIfInBounds_toArray, List.set_cons_zero, List.set_cons_succ]
    refine hd_taken 16 (some 68) _ ?hdvc16 rfl rfl (by kernel_rfl) (fun _ _ _ h => h) (Or.inl ⟨by rfl, ?hdyc16⟩) hS18 ?hdrc16
    case hdyc16 => (intro wx hx; (try dsimp only at hx); go_simp; try with_reducible rfl)
    try simp only [Act.put, List.setIfInBounds_toArray, List.set_cons_zero, List.set_cons_succ]
    refine hd_taken 17 (some 69) _ ?hdvc17 rfl rfl (by kernel_rfl) (fun _ _ _ h => h) (Or.inl ⟨by rfl, ?hdyc17⟩) hS18 ?hdrc17
    case hdyc17 => (intro wx hx; (try dsimp only at hx); go_simp; try with_reducible rfl)
    try simp only [Act.put, List.setIfInBounds_toArray, List.set_cons_zero, List.set_cons_succ]
    refine hd_taken 18 (some 70) _ ?hdvc18 rfl rfl (by kernel_rfl) (fun _ _ _ h => h) (Or.inl ⟨by rfl, ?hdyc18⟩) hS18 ?hdrc18
    case hdyc18 => (intro wx hx; (try dsimp only at hx); go_simp; try with_reducible rfl)
    try simp only [Act.put, List.setIfInBounds_toArray, List.set_cons_zero, List.set_cons_succ]
    refine hd_taken 19 (some 71) _ ?hdvc19 rfl rfl (by kernel_rfl) (fun _ _ _ h => h) (Or.inl ⟨by rfl, ?hdyc19⟩) hS18 ?hdrc19
    case hdyc19 => (intro wx hx; (try dsimp only at hx); go_simp; try with_reducible rfl)
    try simp only [Act.put, List.setIfInBounds_toArray, List.set_cons_zero, List.set_cons_succ]
    refine hd_taken 20 (some 72) _ ?hdvc20 rfl rfl (by kernel_rfl) (fun _ _ _ h => h) (Or.inl ⟨by rfl, ?hdyc20⟩) hS18 ?hdrc20
    case hdyc20 => (intro wx hx; (try dsimp only at hx); go_simp; try with_reducible rfl)
    try simp only [Act.put, List.setIfInBounds_toArray, List.set_cons_zero, List.set_cons_succ]
    refine hd_taken 21 (some 73) _ ?hdvc21 rfl rfl (by kernel_rfl) (fun _ _ _ h => h) (Or.inl ⟨by rfl, ?hdyc21⟩) hS18 ?hdrc21
    case hdyc21 => (intro wx hx; (try dsimp only at hx); go_simp; try with_reducible rfl)
    try simp only [Act.put, List.setIfInBounds_toArray, List.set_cons_zero, List.set_cons_succ]
    refine hd_taken 22 (some 74) _ ?hdvc22 rfl rfl (by kernel_rfl) (fun _ _ _ h => h) (Or.inl ⟨by rfl, ?hdyc22⟩) hS18 ?hdrc22
    case hdyc22 => (intro wx hx; (try dsimp only at hx); go_simp; try with_reducible rfl)
    try simp only [Act.put, List.setIfInBounds_toArray, List.set_cons_zero, List.set_cons_succ]
    refine hd_taken 23 (some 75) _ ?hdvc23 rfl rfl (by kernel_rfl) (fun _ _ _ h => h) (Or.inl ⟨by rfl, ?hdyc23⟩) hS18 ?hdrc23
    case hdyc23 => (intro wx hx; (try dsimp only at hx); go_simp; try with_reducible rfl)
    try simp only [Act.put, List.setIfInBounds_toArray, List.set_cons_zero, List.set_cons_succ]
    refine hd_taken 24 (some 76) _ ?hdvc24 rfl rfl (by kernel_rfl) (fun _ _ _ h => h) (Or.inl ⟨by rfl, ?hdyc24⟩) hS18 ?hdrc24
    case hdyc24 => (intro wx hx; (try dsimp only at hx); go_simp; try with_reducible rfl)
    try simp only [Act.put, List.setIfInBounds_toArray, List.set_cons_zero, List.set_cons_succ]
    refine hd_done (by kernel_rfl) ?_
    simp only [List.drop_succ_cons, List.drop_zero]
    go_wp2_with fail
    go_ret
    exact ⟨by simp, HB18.out⟩
end Go.Proofs.Ytiljagfjgefnnaa
