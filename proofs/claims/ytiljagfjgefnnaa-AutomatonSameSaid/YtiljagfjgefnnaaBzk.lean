/- The law AutomatonSame. -/
import Derived.Test.YtiljagfjgefnnaaBzj
namespace Go.Proofs.Ytiljagfjgefnnaa
open Go.RowKit
set_option linter.unusedVariables false

set_option maxRecDepth 1000000 in
set_option maxHeartbeats 16000000 in
theorem automatonSame_walk (r : RawD) (a1 : Option Addr) (c1 : Nat) (a2 : Option Addr) (c2 : Nat) (t : RawD) (a3 : Option Addr) (c3 : Nat) (a4 : Option Addr) (c4 : Nat) (s : ByteArray) (w : World) (hN : RdRows w (.slice a1 r.nx.length c1) r.nx) (hF : Rd 1 encO w (.slice a2 r.ac.length c2) r.ac) (hN2 : RdRows w (.slice a3 t.nx.length c3) t.nx) (hF2 : Rd 1 encO w (.slice a4 t.ac.length c4) t.ac) (hs : s.size ≤ maxLen) :
    Calls Try.prog 8 #[.agg #[.int .i64 r.st, .slice a1 r.nx.length c1, .slice a2 r.ac.length c2], .agg #[.int .i64 t.st, .slice a3 t.nx.length c3, .slice a4 t.ac.length c4], .string s] w fun e w' => e = .returned (.bool true) ∧ Below w.heap.size w w' := by
  have hm : maxLen = 9223372036854775807 := by decide
  rw [hm] at hs
  clear hm
  have BA := (Below.refl w.heap.size w).alloc (Nat.le_refl _) (.cells #[.int .i64 r.st, .slice a1 r.nx.length c1, .slice a2 r.ac.length c2] 25)
  have BB := BA.alloc BA.size (.cells #[.int .i64 t.st, .slice a3 t.nx.length c3, .slice a4 t.ac.length c4] 25)
  have k0 := (Blk.new w 25 #[.int .i64 r.st, .slice a1 r.nx.length c1, .slice a2 r.ac.length c2]).alloc (.cells #[.int .i64 t.st, .slice a3 t.nx.length c3, .slice a4 t.ac.length c4] 25)
  have k1 := Blk.new (w.alloc (.cells #[.int .i64 r.st, .slice a1 r.nx.length c1, .slice a2 r.ac.length c2] 25)) 25 #[.int .i64 t.st, .slice a3 t.nx.length c3, .slice a4 t.ac.length c4]
  rw [World.size_alloc] at k1
  obtain ⟨W0, hW0⟩ : ∃ W0, (w.alloc (.cells #[.int .i64 r.st, .slice a1 r.nx.length c1, .slice a2 r.ac.length c2] 25)).alloc (.cells #[.int .i64 t.st, .slice a3 t.nx.length c3, .slice a4 t.ac.length c4] 25) = W0 := ⟨_, rfl⟩
  have HN0 := Lib.hid (hN.below BB)
  have HF0 := Lib.hid (hF.below BB)
  have HM0 := Lib.hid (hN2.below BB)
  have HG0 := Lib.hid (hF2.below BB)
  have HB0 := Lib.hid BB
  have K0 := Lib.hid k0
  have L0 := Lib.hid k1
  rw [hW0] at HN0 HF0 HM0 HG0 HB0 K0 L0
  obtain ⟨g, hg⟩ : ∃ g, w.heap.size = g := ⟨_, rfl⟩
  have HGE := Lib.hid hg
  have HW0 := Lib.hid hW0
  rw [hg] at K0 L0
  have HS := Lib.hid hs
  clear hN hF hN2 hF2 BA BB k0 k1 hW0 hg
  go_enter Try.func8, Try.ntmps8
  go_upto_region 1 with fail
  rw [HW0.out, HGE.out]
  clear HW0
  go_wp2_with fail
  refine (awake_any W0).mono ?_
  rintro e w1 ⟨rfl, b1⟩
  have HN1 := Lib.hid (HN0.out.below b1)
  have HF1 := Lib.hid (HF0.out.below b1)
  have HM1 := Lib.hid (HM0.out.below b1)
  have HG1 := Lib.hid (HG0.out.below b1)
  have K1 := Lib.hid (Blk.below K0.out b1)
  have L1 := Lib.hid (Blk.below L0.out b1)
  have HB1 := Lib.hid (st HB0.out b1 HB0.out.size)
  clear b1  HN0 HF0 HM0 HG0 K0 L0 HB0
  have f0 : w1.cell? ⟨g, 0, none⟩ = some (.int .i64 r.st) := K1.out.cell 0
  have f1 : w1.cell? ⟨g, 1, none⟩ = some (.slice a1 r.nx.length c1) := K1.out.cell 1
  have f2 : w1.cell? ⟨g, 2, none⟩ = some (.slice a2 r.ac.length c2) := K1.out.cell 2
  have h0 : w1.cell? ⟨g + 1, 0, none⟩ = some (.int .i64 t.st) := L1.out.cell 0
  have h1 : w1.cell? ⟨g + 1, 1, none⟩ = some (.slice a3 t.nx.length c3) := L1.out.cell 1
  have h2 : w1.cell? ⟨g + 1, 2, none⟩ = some (.slice a4 t.ac.length c4) := L1.out.cell 2
  have HFW := Lib.hid (few_any r a1 c1 a2 c2 30 (by omega) w1 HN1.out HF1.out)
  go_wp2_with fail
  refine HFW.out.mono ?_
  rintro e w2 ⟨⟨b, rfl, hb⟩, b2⟩
  have HN2 := Lib.hid (HN1.out.below b2)
  have HF2 := Lib.hid (HF1.out.below b2)
  have HM2 := Lib.hid (HM1.out.below b2)
  have HG2 := Lib.hid (HG1.out.below b2)
  have K2 := Lib.hid (Blk.below K1.out b2)
  have L2 := Lib.hid (Blk.below L1.out b2)
  have HB2 := Lib.hid (st HB1.out b2 HB1.out.size)
  clear b2 HFW f0 f1 f2 h0 h1 h2 HN1 HF1 HM1 HG1 K1 L1 HB1
  cases b with
  | false =>
    clear hb
    go_wp2_with fail
    refine (awake_any w2).mono ?_
    rintro e wq ⟨rfl, bq⟩
    have HBQ := Lib.hid (st HB2.out bq HB2.out.size)
    clear bq
    go_wp2_with fail
    go_ret
    exact ⟨rfl, HBQ.out⟩
  | true =>
  clear hb
  have f0 : w2.cell? ⟨g, 0, none⟩ = some (.int .i64 r.st) := K2.out.cell 0
  have f1 : w2.cell? ⟨g, 1, none⟩ = some (.slice a1 r.nx.length c1) := K2.out.cell 1
  have f2 : w2.cell? ⟨g, 2, none⟩ = some (.slice a2 r.ac.length c2) := K2.out.cell 2
  have h0 : w2.cell? ⟨g + 1, 0, none⟩ = some (.int .i64 t.st) := L2.out.cell 0
  have h1 : w2.cell? ⟨g + 1, 1, none⟩ = some (.slice a3 t.nx.length c3) := L2.out.cell 1
  have h2 : w2.cell? ⟨g + 1, 2, none⟩ = some (.slice a4 t.ac.length c4) := L2.out.cell 2
  have HFW := Lib.hid (few_any t a3 c3 a4 c4 30 (by omega) w2 HM2.out HG2.out)
  go_wp2_with fail
  refine HFW.out.mono ?_
  rintro e w3 ⟨⟨b, rfl, hb⟩, b3⟩
  have HN3 := Lib.hid (HN2.out.below b3)
  have HF3 := Lib.hid (HF2.out.below b3)
  have HM3 := Lib.hid (HM2.out.below b3)
  have HG3 := Lib.hid (HG2.out.below b3)
  have K3 := Lib.hid (Blk.below K2.out b3)
  have L3 := Lib.hid (Blk.below L2.out b3)
  have HB3 := Lib.hid (st HB2.out b3 HB2.out.size)
  clear b3 HFW f0 f1 f2 h0 h1 h2 HN2 HF2 HM2 HG2 K2 L2 HB2
  cases b with
  | false =>
    clear hb
    go_wp2_with fail
    refine (awake_any w3).mono ?_
    rintro e wq ⟨rfl, bq⟩
    have HBQ := Lib.hid (st HB3.out bq HB3.out.size)
    clear bq
    go_wp2_with fail
    go_ret
    exact ⟨rfl, HBQ.out⟩
  | true =>
  clear hb
  by_cases h200 : 200 < s.size
  · have t1 : (200 : Int) < (s.size : Int) := by omega
    go_wp2_with fail
    refine (awake_any w3).mono ?_
    rintro e wq ⟨rfl, bq⟩
    have HBQ := Lib.hid (st HB3.out bq HB3.out.size)
    clear bq
    go_wp2_with fail
    go_ret
    exact ⟨rfl, HBQ.out⟩
  have t1 : ¬ (200 : Int) < (s.size : Int) := by omega
  go_upto_region 3 with fail
  have HSS : Hid (∀ wx, Blk g 25 #[.int .i64 r.st, .slice a1 r.nx.length c1, .slice a2 r.ac.length c2] wx → Blk (g + 1) 25 #[.int .i64 t.st, .slice a3 t.nx.length c3, .slice a4 t.ac.length c4] wx → (fun wx : World => wx.cell? ⟨g, 0, none⟩ = some (.int .i64 r.st) ∧ wx.cell? ⟨g, 1, none⟩ = some (.slice a1 r.nx.length c1) ∧ wx.cell? ⟨g, 2, none⟩ = some (.slice a2 r.ac.length c2) ∧ wx.cell? ⟨g + 1, 0, none⟩ = some (.int .i64 t.st) ∧ wx.cell? ⟨g + 1, 1, none⟩ = some (.slice a3 t.nx.length c3) ∧ wx.cell? ⟨g + 1, 2, none⟩ = some (.slice a4 t.ac.length c4)) wx) := Lib.hid (fun wx h1 h2 => ⟨h1.cell 0, h1.cell 1, h1.cell 2, h2.cell 0, h2.cell 1, h2.cell 2⟩)
  have bd := (Below.refl w3.heap.size w3).drew
  obtain ⟨w4, hw4⟩ : ∃ wx, w3.drew = wx := ⟨_, rfl⟩
  have HW4 := Lib.hid hw4
  rw [hw4] at bd
  have HN4 := Lib.hid (HN3.out.below bd)
  have HF4 := Lib.hid (HF3.out.below bd)
  have HM4 := Lib.hid (HM3.out.below bd)
  have HG4 := Lib.hid (HG3.out.below bd)
  have K4 := Lib.hid (Blk.below K3.out bd)
  have L4 := Lib.hid (Blk.below L3.out bd)
  have HB4 := Lib.hid (st HB3.out bd HB3.out.size)
  clear bd hw4 HN3 HF3 HM3 HG3 K3 L3 HB3
  have hS4 := HSS.out w4 K4.out L4.out
  refine region_hd 9 (fun wx : World => wx.cell? ⟨g, 0, none⟩ = some (.int .i64 r.st) ∧ wx.cell? ⟨g, 1, none⟩ = some (.slice a1 r.nx.length c1) ∧ wx.cell? ⟨g, 2, none⟩ = some (.slice a2 r.ac.length c2) ∧ wx.cell? ⟨g + 1, 0, none⟩ = some (.int .i64 t.st) ∧ wx.cell? ⟨g + 1, 1, none⟩ = some (.slice a3 t.nx.length c3) ∧ wx.cell? ⟨g + 1, 2, none⟩ = some (.slice a4 t.ac.length c4)) (by kernel_rfl) (by kernel_rfl) ?_
  rw [HW4.out]
  refine hd_taken 0 (some 34) _ ?hdv0 rfl rfl (by kernel_rfl) (fun _ _ _ h => h) (Or.inl ⟨by rfl, ?hdy0⟩) hS4 ?hdr0
  case hdy0 => (intro wx hx; (try dsimp only at hx); go_simp; try with_reducible rfl)
  try simp only [Act.put, List.setIfInBounds_toArray, List.set_cons_zero, List.set_cons_succ]
  refine hd_taken 2 (some 36) _ ?hdv2 rfl rfl (by kernel_rfl) (fun _ _ _ h => h) (Or.inl ⟨by rfl, ?hdy2⟩) hS4 ?hdr2
  case hdy2 => (intro wx hx; (try dsimp only at hx); go_simp; try with_reducible rfl)
  try simp only [Act.put, List.setIfInBounds_toArray, List.set_cons_zero, List.set_cons_succ]
  refine hd_one 1 _ rfl (by kernel_rfl) (by decide) (fun K5k hK5 => ?_)
  go_simp
  refine (to_any r.st a1 r.nx.length c1 a2 r.ac.length c2 w4).mono ?_
  rintro e w5 ⟨rfl, b5⟩
  try dsimp only
  have HN5 := Lib.hid (HN4.out.below b5)
  have HF5 := Lib.hid (HF4.out.below b5)
  have HM5 := Lib.hid (HM4.out.below b5)
  have HG5 := Lib.hid (HG4.out.below b5)
  have K5 := Lib.hid (Blk.below K4.out b5)
  have L5 := Lib.hid (Blk.below L4.out b5)
  have HB5 := Lib.hid (st HB4.out b5 HB4.out.size)
  clear b5  HN4 HF4 HM4 HG4 K4 L4 HB4
  have hS5 := HSS.out w5 K5.out L5.out
  refine hK5.out _ _ hS5 ?_
  clear hK5 K5k hS4
  try simp only [Act.put, List.setIfInBounds_toArray, List.set_cons_zero, List.set_cons_succ]
  refine hd_one 3 _ rfl (by kernel_rfl) (by decide) (fun K6k hK6 => ?_)
  go_simp
  refine (to_any t.st a3 t.nx.length c3 a4 t.ac.length c4 w5).mono ?_
  rintro e w6 ⟨rfl, b6⟩
  try dsimp only
  have HN6 := Lib.hid (HN5.out.below b6)
  have HF6 := Lib.hid (HF5.out.below b6)
  have HM6 := Lib.hid (HM5.out.below b6)
  have HG6 := Lib.hid (HG5.out.below b6)
  have K6 := Lib.hid (Blk.below K5.out b6)
  have L6 := Lib.hid (Blk.below L5.out b6)
  have HB6 := Lib.hid (st HB5.out b6 HB5.out.size)
  clear b6  HN5 HF5 HM5 HG5 K5 L5 HB5
  have hS6 := HSS.out w6 K6.out L6.out
  refine hK6.out _ _ hS6 ?_
  clear hK6 K6k hS5
  try simp only [Act.put, List.setIfInBounds_toArray, List.set_cons_zero, List.set_cons_succ]
  refine hd_one 4 _ rfl (by kernel_rfl) (by decide) (fun K7k hK7 => ?_)
  go_simp
  refine (sameP_any r t a1 c1 a2 c2 a3 c3 a4 c4 w6 HN6.out HF6.out HM6.out HG6.out).mono ?_
  rintro e w7 ⟨hsame, b7⟩
  obtain ⟨bv, pv, rfl, hsv⟩ : ∃ (bv : Bool) (pv : Int), e = .returned (.tuple #[.bool bv, .int .i64 pv]) ∧ ((¬ (okD r = true ∧ okD t = true) ∧ bv = false ∧ pv = 1) ∨ (okD r = true ∧ okD t = true ∧ pv = 0 ∧ ∃ p q, IsMin (toA r) p ∧ IsMin (toA t) q ∧ bv = eqD p q)) := by
    rcases hsame with ⟨h5, h6⟩ | ⟨h5, h6, p, q, h7, h8, h9⟩
    · exact ⟨_, _, h6, .inl ⟨h5, rfl, rfl⟩⟩
    · exact ⟨_, _, h9, .inr ⟨h5, h6, rfl, p, q, h7, h8, rfl⟩⟩
  have HSV := Lib.hid hsv
  clear hsame hsv
  try dsimp only
  have HN7 := Lib.hid (HN6.out.below b7)
  have HF7 := Lib.hid (HF6.out.below b7)
  have HM7 := Lib.hid (HM6.out.below b7)
  have HG7 := Lib.hid (HG6.out.below b7)
  have K7 := Lib.hid (Blk.below K6.out b7)
  have L7 := Lib.hid (Blk.below L6.out b7)
  have HB7 := Lib.hid (st HB6.out b7 HB6.out.size)
  clear b7  HN6 HF6 HM6 HG6 K6 L6 HB6
  have hS7 := HSS.out w7 K7.out L7.out
  refine hK7.out _ _ hS7 ?_
  clear hK7 K7k hS6
  try simp only [Act.put, List.setIfInBounds_toArray, List.set_cons_zero, List.set_cons_succ]
  refine hd_taken 5 (some 33) _ ?hdva5 rfl rfl (by kernel_rfl) (fun _ _ _ h => h) (Or.inl ⟨by rfl, ?hdya5⟩) hS7 ?hdra5
  case hdya5 => (intro wx hx; (try dsimp only at hx); go_simp; try with_reducible rfl)
  try simp only [Act.put, List.setIfInBounds_toArray, List.set_cons_zero, List.set_cons_succ]
  refine hd_taken 6 (some 39) _ ?hdva6 rfl rfl (by kernel_rfl) (fun _ _ _ h => h) (Or.inl ⟨by rfl, ?hdya6⟩) hS7 ?hdra6
  case hdya6 => (intro wx hx; (try dsimp only at hx); go_simp; try with_reducible rfl)
  try simp only [Act.put, List.setIfInBounds_toArray, List.set_cons_zero, List.set_cons_succ]
  refine hd_taken 7 (some 40) _ ?hdva7 rfl rfl (by kernel_rfl) (fun _ _ _ h => h) (Or.inl ⟨by rfl, ?hdya7⟩) hS7 ?hdra7
  case hdya7 => (intro wx hx; (try dsimp only at hx); go_simp; try with_reducible rfl)
  try simp only [Act.put, List.setIfInBounds_toArray, List.set_cons_zero, List.set_cons_succ]
  refine hd_taken 8 (some 7) _ ?hdva8 rfl rfl (by kernel_rfl) (fun _ _ _ h => h) (Or.inl ⟨by rfl, ?hdya8⟩) hS7 ?hdra8
  case hdya8 => (intro wx hx; (try dsimp only at hx); go_simp; try with_reducible rfl)
  try simp only [Act.put, List.setIfInBounds_toArray, List.set_cons_zero, List.set_cons_succ]
  refine hd_done (by kernel_rfl) ?_
  simp only [List.drop_succ_cons, List.drop_zero]
  have f0 : w7.cell? ⟨g, 0, none⟩ = some (.int .i64 r.st) := K7.out.cell 0
  have f1 : w7.cell? ⟨g, 1, none⟩ = some (.slice a1 r.nx.length c1) := K7.out.cell 1
  have f2 : w7.cell? ⟨g, 2, none⟩ = some (.slice a2 r.ac.length c2) := K7.out.cell 2
  have h0 : w7.cell? ⟨g + 1, 0, none⟩ = some (.int .i64 t.st) := L7.out.cell 0
  have h1 : w7.cell? ⟨g + 1, 1, none⟩ = some (.slice a3 t.nx.length c3) := L7.out.cell 1
  have h2 : w7.cell? ⟨g + 1, 2, none⟩ = some (.slice a4 t.ac.length c4) := L7.out.cell 2
  have HQ := Lib.hid (sameR_any r t a1 c1 a2 c2 a3 c3 a4 c4 w7 HN7.out HF7.out HM7.out HG7.out)
  clear hS7
  go_wp2_with fail
  refine HQ.out.mono ?_
  rintro e w8 ⟨hsame, b8⟩
  have he : e = .returned (.tuple #[.bool bv, .int .i64 pv]) := by
    rcases hsame with ⟨h5, h6⟩ | ⟨h5, h6, p, q, h7, h8, h9⟩ <;> rcases HSV.out with ⟨i5, i6, i7⟩ | ⟨i5, i6, i7, p', q', i8, i9, i10⟩
    · rw [h6, i6, i7]
    · exact absurd ⟨i5, i6⟩ h5
    · exact absurd ⟨h5, h6⟩ i5
    · rw [h9, i7, i10, h7.uniq i8, h8.uniq i9]
  subst he
  have HN8 := Lib.hid (HN7.out.below b8)
  have HF8 := Lib.hid (HF7.out.below b8)
  have HM8 := Lib.hid (HM7.out.below b8)
  have HG8 := Lib.hid (HG7.out.below b8)
  have K8 := Lib.hid (Blk.below K7.out b8)
  have L8 := Lib.hid (Blk.below L7.out b8)
  have HB8 := Lib.hid (st HB7.out b8 HB7.out.size)
  clear b8 hsame HQ f0 f1 f2 h0 h1 h2 HN7 HF7 HM7 HG7 K7 L7 HB7
  have tv : (pv != pv) = false := by simp
  have tb : (bv != bv) = false := by cases bv <;> rfl
  rcases HSV.out with ⟨_, rfl, rfl⟩ | ⟨hok1, hok2, rfl, p, q, hp, hq, hbv⟩
  · go_wp2_with fail
    go_ret
    exact ⟨rfl, HB8.out⟩
  have HOK1 := Lib.hid hok1
  have HOK2 := Lib.hid hok2
  have HPM := Lib.hid hp
  have HQM := Lib.hid hq
  have HBV := Lib.hid hbv
  clear hok1 hok2 hp hq hbv
  have f0 : w8.cell? ⟨g, 0, none⟩ = some (.int .i64 r.st) := K8.out.cell 0
  have f1 : w8.cell? ⟨g, 1, none⟩ = some (.slice a1 r.nx.length c1) := K8.out.cell 1
  have f2 : w8.cell? ⟨g, 2, none⟩ = some (.slice a2 r.ac.length c2) := K8.out.cell 2
  have h0 : w8.cell? ⟨g + 1, 0, none⟩ = some (.int .i64 t.st) := L8.out.cell 0
  have h1 : w8.cell? ⟨g + 1, 1, none⟩ = some (.slice a3 t.nx.length c3) := L8.out.cell 1
  have h2 : w8.cell? ⟨g + 1, 2, none⟩ = some (.slice a4 t.ac.length c4) := L8.out.cell 2
  go_wp2_with fail
  refine (to_any r.st a1 r.nx.length c1 a2 r.ac.length c2 w8).mono ?_
  rintro e w9 ⟨rfl, b9⟩
  have HN9 := Lib.hid (HN8.out.below b9)
  have HF9 := Lib.hid (HF8.out.below b9)
  have HM9 := Lib.hid (HM8.out.below b9)
  have HG9 := Lib.hid (HG8.out.below b9)
  have K9 := Lib.hid (Blk.below K8.out b9)
  have L9 := Lib.hid (Blk.below L8.out b9)
  have HB9 := Lib.hid (st HB8.out b9 HB8.out.size)
  clear b9 f0 f1 f2 h0 h1 h2 HN8 HF8 HM8 HG8 K8 L8 HB8
  have HP := Lib.hid (minP_any r a1 c1 a2 c2 w9 HN9.out HF9.out)
  go_wp2_with fail
  refine HP.out.mono ?_
  rintro e w10 hgot
  have b10 := hgot.2
  obtain ⟨qx, pe, ⟨x1, xc1, x2, xc2, rfl, hpN, hpF⟩, hgr⟩ := hgot.raws
  have hqp : p = qx ∧ 0 = pe := by
    rcases hgr with ⟨h5, _⟩ | ⟨_, h6, h7, _⟩
    · rw [HOK1.out] at h5; cases h5
    · exact ⟨HPM.out.uniq h7, h6.symm⟩
  obtain ⟨rfl, rfl⟩ := hqp
  have Np10 := Lib.hid hpN
  have Fp10 := Lib.hid hpF
  have HN10 := Lib.hid (HN9.out.below b10)
  have HF10 := Lib.hid (HF9.out.below b10)
  have HM10 := Lib.hid (HM9.out.below b10)
  have HG10 := Lib.hid (HG9.out.below b10)
  have K10 := Lib.hid (Blk.below K9.out b10)
  have L10 := Lib.hid (Blk.below L9.out b10)
  have HB10 := Lib.hid (st HB9.out b10 HB9.out.size)
  clear b10 hgot hpN hpF hgr HP HN9 HF9 HM9 HG9 K9 L9 HB9
  have b11 := (Below.refl w10.heap.size w10).alloc (Nat.le_refl _) (.cells #[.int .i64 p.st, .slice x1 p.nx.length xc1, .slice x2 p.ac.length xc2] 29)
  have k11 := Blk.new w10 29 #[.int .i64 p.st, .slice x1 p.nx.length xc1, .slice x2 p.ac.length xc2]
  obtain ⟨w11, hw11⟩ : ∃ wx, w10.alloc (.cells #[.int .i64 p.st, .slice x1 p.nx.length xc1, .slice x2 p.ac.length xc2] 29) = wx := ⟨_, rfl⟩
  obtain ⟨n5, hn5⟩ : ∃ B, w10.heap.size = B := ⟨_, rfl⟩
  rw [hw11] at b11 k11
  rw [hn5] at k11
  have HW11 := Lib.hid hw11
  have Hn5 := Lib.hid hn5
  have Kp11 := Lib.hid k11
  have HN11 := Lib.hid (HN10.out.below b11)
  have HF11 := Lib.hid (HF10.out.below b11)
  have HM11 := Lib.hid (HM10.out.below b11)
  have HG11 := Lib.hid (HG10.out.below b11)
  have K11 := Lib.hid (Blk.below K10.out b11)
  have L11 := Lib.hid (Blk.below L10.out b11)
  have Np11 := Lib.hid (Np10.out.below b11)
  have Fp11 := Lib.hid (Fp10.out.below b11)
  have HB11 := Lib.hid (st HB10.out b11 HB10.out.size)
  clear b11 k11 hw11 hn5 HN10 HF10 HM10 HG10 K10 L10 Np10 Fp10 HB10
  go_upto_region 8 with fail
  rw [HW11.out, Hn5.out]
  have f0 : w11.cell? ⟨g, 0, none⟩ = some (.int .i64 r.st) := K11.out.cell 0
  have f1 : w11.cell? ⟨g, 1, none⟩ = some (.slice a1 r.nx.length c1) := K11.out.cell 1
  have f2 : w11.cell? ⟨g, 2, none⟩ = some (.slice a2 r.ac.length c2) := K11.out.cell 2
  have h0 : w11.cell? ⟨g + 1, 0, none⟩ = some (.int .i64 t.st) := L11.out.cell 0
  have h1 : w11.cell? ⟨g + 1, 1, none⟩ = some (.slice a3 t.nx.length c3) := L11.out.cell 1
  have h2 : w11.cell? ⟨g + 1, 2, none⟩ = some (.slice a4 t.ac.length c4) := L11.out.cell 2
  go_wp2_with fail
  refine (to_any t.st a3 t.nx.length c3 a4 t.ac.length c4 w11).mono ?_
  rintro e w12 ⟨rfl, b12⟩
  have HN12 := Lib.hid (HN11.out.below b12)
  have HF12 := Lib.hid (HF11.out.below b12)
  have HM12 := Lib.hid (HM11.out.below b12)
  have HG12 := Lib.hid (HG11.out.below b12)
  have K12 := Lib.hid (Blk.below K11.out b12)
  have L12 := Lib.hid (Blk.below L11.out b12)
  have Np12 := Lib.hid (Np11.out.below b12)
  have Fp12 := Lib.hid (Fp11.out.below b12)
  have Kp12 := Lib.hid (Blk.below Kp11.out b12)
  have HB12 := Lib.hid (st HB11.out b12 HB11.out.size)
  clear b12 f0 f1 f2 h0 h1 h2 HN11 HF11 HM11 HG11 K11 L11 Np11 Fp11 Kp11 HB11
  have HP := Lib.hid (minP_any t a3 c3 a4 c4 w12 HM12.out HG12.out)
  go_wp2_with fail
  refine HP.out.mono ?_
  rintro e w13 hgot
  have b13 := hgot.2
  obtain ⟨qx, pe, ⟨y1, yc1, y2, yc2, rfl, hpN, hpF⟩, hgr⟩ := hgot.raws
  have hqp : q = qx ∧ 0 = pe := by
    rcases hgr with ⟨h5, _⟩ | ⟨_, h6, h7, _⟩
    · rw [HOK2.out] at h5; cases h5
    · exact ⟨HQM.out.uniq h7, h6.symm⟩
  obtain ⟨rfl, rfl⟩ := hqp
  have Nq13 := Lib.hid hpN
  have Fq13 := Lib.hid hpF
  have HN13 := Lib.hid (HN12.out.below b13)
  have HF13 := Lib.hid (HF12.out.below b13)
  have HM13 := Lib.hid (HM12.out.below b13)
  have HG13 := Lib.hid (HG12.out.below b13)
  have K13 := Lib.hid (Blk.below K12.out b13)
  have L13 := Lib.hid (Blk.below L12.out b13)
  have Np13 := Lib.hid (Np12.out.below b13)
  have Fp13 := Lib.hid (Fp12.out.below b13)
  have Kp13 := Lib.hid (Blk.below Kp12.out b13)
  have HB13 := Lib.hid (st HB12.out b13 HB12.out.size)
  clear b13 hgot hpN hpF hgr HP HN12 HF12 HM12 HG12 K12 L12 Np12 Fp12 Kp12 HB12
  have b14 := (Below.refl w13.heap.size w13).alloc (Nat.le_refl _) (.cells #[.int .i64 q.st, .slice y1 q.nx.length yc1, .slice y2 q.ac.length yc2] 29)
  have k14 := Blk.new w13 29 #[.int .i64 q.st, .slice y1 q.nx.length yc1, .slice y2 q.ac.length yc2]
  obtain ⟨w14, hw14⟩ : ∃ wx, w13.alloc (.cells #[.int .i64 q.st, .slice y1 q.nx.length yc1, .slice y2 q.ac.length yc2] 29) = wx := ⟨_, rfl⟩
  obtain ⟨n6, hn6⟩ : ∃ B, w13.heap.size = B := ⟨_, rfl⟩
  rw [hw14] at b14 k14
  rw [hn6] at k14
  have HW14 := Lib.hid hw14
  have Hn6 := Lib.hid hn6
  have Kq14 := Lib.hid k14
  have HN14 := Lib.hid (HN13.out.below b14)
  have HF14 := Lib.hid (HF13.out.below b14)
  have HM14 := Lib.hid (HM13.out.below b14)
  have HG14 := Lib.hid (HG13.out.below b14)
  have K14 := Lib.hid (Blk.below K13.out b14)
  have L14 := Lib.hid (Blk.below L13.out b14)
  have Np14 := Lib.hid (Np13.out.below b14)
  have Fp14 := Lib.hid (Fp13.out.below b14)
  have Kp14 := Lib.hid (Blk.below Kp13.out b14)
  have Nq14 := Lib.hid (Nq13.out.below b14)
  have Fq14 := Lib.hid (Fq13.out.below b14)
  have HB14 := Lib.hid (st HB13.out b14 HB13.out.size)
  clear b14 k14 hw14 hn6 HN13 HF13 HM13 HG13 K13 L13 Np13 Fp13 Kp13 Nq13 Fq13 HB13
  go_upto_region 9 with fail
  rw [HW14.out, Hn6.out]
  have HST : Hid (∀ wx, Blk g 25 #[.int .i64 r.st, .slice a1 r.nx.length c1, .slice a2 r.ac.length c2] wx → Blk (g + 1) 25 #[.int .i64 t.st, .slice a3 t.nx.length c3, .slice a4 t.ac.length c4] wx → Blk n5 29 #[.int .i64 p.st, .slice x1 p.nx.length xc1, .slice x2 p.ac.length xc2] wx → Blk n6 29 #[.int .i64 q.st, .slice y1 q.nx.length yc1, .slice y2 q.ac.length yc2] wx → (fun wx : World => wx.cell? ⟨g, 0, none⟩ = some (.int .i64 r.st) ∧ wx.cell? ⟨g, 1, none⟩ = some (.slice a1 r.nx.length c1) ∧ wx.cell? ⟨g, 2, none⟩ = some (.slice a2 r.ac.length c2) ∧ wx.cell? ⟨g + 1, 0, none⟩ = some (.int .i64 t.st) ∧ wx.cell? ⟨g + 1, 1, none⟩ = some (.slice a3 t.nx.length c3) ∧ wx.cell? ⟨g + 1, 2, none⟩ = some (.slice a4 t.ac.length c4) ∧ wx.cell? ⟨n5, 0, none⟩ = some (.int .i64 p.st) ∧ wx.cell? ⟨n5, 1, none⟩ = some (.slice x1 p.nx.length xc1) ∧ wx.cell? ⟨n5, 2, none⟩ = some (.slice x2 p.ac.length xc2) ∧ wx.cell? ⟨n6, 0, none⟩ = some (.int .i64 q.st) ∧ wx.cell? ⟨n6, 1, none⟩ = some (.slice y1 q.nx.length yc1) ∧ wx.cell? ⟨n6, 2, none⟩ = some (.slice y2 q.ac.length yc2)) wx) := Lib.hid (fun wx h1 h2 h3 h4 => ⟨h1.cell 0, h1.cell 1, h1.cell 2, h2.cell 0, h2.cell 1, h2.cell 2, h3.cell 0, h3.cell 1, h3.cell 2, h4.cell 0, h4.cell 1, h4.cell 2⟩)
  have bd := (Below.refl w14.heap.size w14).drew
  obtain ⟨w15, hw15⟩ : ∃ wx, w14.drew = wx := ⟨_, rfl⟩
  have HW15 := Lib.hid hw15
  rw [hw15] at bd
  have HN15 := Lib.hid (HN14.out.below bd)
  have HF15 := Lib.hid (HF14.out.below bd)
  have HM15 := Lib.hid (HM14.out.below bd)
  have HG15 := Lib.hid (HG14.out.below bd)
  have K15 := Lib.hid (Blk.below K14.out bd)
  have L15 := Lib.hid (Blk.below L14.out bd)
  have Np15 := Lib.hid (Np14.out.below bd)
  have Fp15 := Lib.hid (Fp14.out.below bd)
  have Kp15 := Lib.hid (Blk.below Kp14.out bd)
  have Nq15 := Lib.hid (Nq14.out.below bd)
  have Fq15 := Lib.hid (Fq14.out.below bd)
  have Kq15 := Lib.hid (Blk.below Kq14.out bd)
  have HB15 := Lib.hid (st HB14.out bd HB14.out.size)
  clear bd hw15 HN14 HF14 HM14 HG14 K14 L14 Np14 Fp14 Kp14 Nq14 Fq14 Kq14 HB14
  have hS15 := HST.out w15 K15.out L15.out Kp15.out Kq15.out
  have HEQ : Hid (bv = true → runP r s.data.toList = runP t s.data.toList) := Lib.hid (fun h => by
    have h5 := eqD_iff.1 (HBV.out.symm.trans h)
    have h6 : p = q := by
      obtain ⟨u1, u2, u3⟩ := p
      obtain ⟨v1, v2, v3⟩ := q
      obtain ⟨i1, i2, i3⟩ := h5
      dsimp only at i1 i2 i3
      rw [i1, i2, i3]
    rw [← HPM.out.run HOK1.out s.data.toList, h6, HQM.out.run HOK2.out s.data.toList])
  refine region_hd 26 (fun wx : World => wx.cell? ⟨g, 0, none⟩ = some (.int .i64 r.st) ∧ wx.cell? ⟨g, 1, none⟩ = some (.slice a1 r.nx.length c1) ∧ wx.cell? ⟨g, 2, none⟩ = some (.slice a2 r.ac.length c2) ∧ wx.cell? ⟨g + 1, 0, none⟩ = some (.int .i64 t.st) ∧ wx.cell? ⟨g + 1, 1, none⟩ = some (.slice a3 t.nx.length c3) ∧ wx.cell? ⟨g + 1, 2, none⟩ = some (.slice a4 t.ac.length c4) ∧ wx.cell? ⟨n5, 0, none⟩ = some (.int .i64 p.st) ∧ wx.cell? ⟨n5, 1, none⟩ = some (.slice x1 p.nx.length xc1) ∧ wx.cell? ⟨n5, 2, none⟩ = some (.slice x2 p.ac.length xc2) ∧ wx.cell? ⟨n6, 0, none⟩ = some (.int .i64 q.st) ∧ wx.cell? ⟨n6, 1, none⟩ = some (.slice y1 q.nx.length yc1) ∧ wx.cell? ⟨n6, 2, none⟩ = some (.slice y2 q.ac.length yc2)) (by kernel_rfl) (by kernel_rfl) ?_
  rw [HW15.out]
  refine hd_taken 0 (some 79) _ ?hdvb0 rfl rfl (by kernel_rfl) (fun _ _ _ h => h) (Or.inl ⟨by rfl, ?hdyb0⟩) hS15 ?hdrb0
  case hdyb0 => (intro wx hx; (try dsimp only at hx); go_simp; try with_reducible rfl)
  try simp only [Act.put, List.setIfInBounds_toArray, List.set_cons_zero, List.set_cons_succ]
  refine hd_taken 1 (some 80) _ ?hdvb1 rfl rfl (by kernel_rfl) (fun _ _ _ h => h) (Or.inl ⟨by rfl, ?hdyb1⟩) hS15 ?hdrb1
  case hdyb1 => (intro wx hx; (try dsimp only at hx); go_simp; try with_reducible rfl)
  try simp only [Act.put, List.setIfInBounds_toArray, List.set_cons_zero, List.set_cons_succ]
  refine hd_taken 2 (some 81) _ ?hdvb2 rfl rfl (by kernel_rfl) (fun _ _ _ h => h) (Or.inl ⟨by rfl, ?hdyb2⟩) hS15 ?hdrb2
  case hdyb2 => (intro wx hx; (try dsimp only at hx); go_simp; try with_reducible rfl)
  try simp only [Act.put, List.setIfInBounds_toArray, List.set_cons_zero, List.set_cons_succ]
  refine hd_taken 3 (some 82) _ ?hdvb3 rfl rfl (by kernel_rfl) (fun _ _ _ h => h) (Or.inl ⟨by rfl, ?hdyb3⟩) hS15 ?hdrb3
  case hdyb3 => (intro wx hx; (try dsimp only at hx); go_simp; try with_reducible rfl)
  try simp only [Act.put, List.setIfInBounds_toArray, List.set_cons_zero, List.set_cons_succ]
  refine hd_taken 4 (some 83) _ ?hdvb4 rfl rfl (by kernel_rfl) (fun _ _ _ h => h) (Or.inl ⟨by rfl, ?hdyb4⟩) hS15 ?hdrb4
  case hdyb4 => (intro wx hx; (try dsimp only at hx); go_simp; try with_reducible rfl)
  try simp only [Act.put, List.setIfInBounds_toArray, List.set_cons_zero, List.set_cons_succ]
  refine hd_taken 5 (some 84) _ ?hdvb5 rfl rfl (by kernel_rfl) (fun _ _ _ h => h) (Or.inl ⟨by rfl, ?hdyb5⟩) hS15 ?hdrb5
  case hdyb5 => (intro wx hx; (try dsimp only at hx); go_simp; try with_reducible rfl)
  try simp only [Act.put, List.setIfInBounds_toArray, List.set_cons_zero, List.set_cons_succ]
  refine hd_taken 6 (some 85) _ ?hdvb6 rfl rfl (by kernel_rfl) (fun _ _ _ h => h) (Or.inl ⟨by rfl, ?hdyb6⟩) hS15 ?hdrb6
  case hdyb6 => (intro wx hx; (try dsimp only at hx); go_simp; try with_reducible rfl)
  try simp only [Act.put, List.setIfInBounds_toArray, List.set_cons_zero, List.set_cons_succ]
  refine hd_taken 7 (some 86) _ ?hdvb7 rfl rfl (by kernel_rfl) (fun _ _ _ h => h) (Or.inl ⟨by rfl, ?hdyb7⟩) hS15 ?hdrb7
  case hdyb7 => (intro wx hx; (try dsimp only at hx); go_simp; try with_reducible rfl)
  try simp only [Act.put, List.setIfInBounds_toArray, List.set_cons_zero, List.set_cons_succ]
  refine hd_taken 8 (some 87) _ ?hdvb8 rfl rfl (by kernel_rfl) (fun _ _ _ h => h) (Or.inl ⟨by rfl, ?hdyb8⟩) hS15 ?hdrb8
  case hdyb8 => (intro wx hx; (try dsimp only at hx); go_simp; try with_reducible rfl)
  try simp only [Act.put, List.setIfInBounds_toArray, List.set_cons_zero, List.set_cons_succ]
  refine hd_taken 10 (some 89) _ ?hdvb10 rfl rfl (by kernel_rfl) (fun _ _ _ h => h) (Or.inl ⟨by rfl, ?hdyb10⟩) hS15 ?hdrb10
  case hdyb10 => (intro wx hx; (try dsimp only at hx); go_simp; try with_reducible rfl)
  try simp only [Act.put, List.setIfInBounds_toArray, List.set_cons_zero, List.set_cons_succ]
  refine hd_one 9 _ rfl (by kernel_rfl) (by decide) (fun K16k hK16 => ?_)
  go_simp
  refine (from_any p.st x1 p.nx.length xc1 x2 p.ac.length xc2 w15).mono ?_
  rintro e w16 ⟨rfl, b16⟩
  try dsimp only
  have HN16 := Lib.hid (HN15.out.below b16)
  have HF16 := Lib.hid (HF15.out.below b16)
  have HM16 := Lib.hid (HM15.out.below b16)
  have HG16 := Lib.hid (HG15.out.below b16)
  have K16 := Lib.hid (Blk.below K15.out b16)
  have L16 := Lib.hid (Blk.below L15.out b16)
  have Np16 := Lib.hid (Np15.out.below b16)
  have Fp16 := Lib.hid (Fp15.out.below b16)
  have Kp16 := Lib.hid (Blk.below Kp15.out b16)
  have Nq16 := Lib.hid (Nq15.out.below b16)
  have Fq16 := Lib.hid (Fq15.out.below b16)
  have Kq16 := Lib.hid (Blk.below Kq15.out b16)
  have HB16 := Lib.hid (st HB15.out b16 HB15.out.size)
  clear b16  HN15 HF15 HM15 HG15 K15 L15 Np15 Fp15 Kp15 Nq15 Fq15 Kq15 HB15
  have hS16 := HST.out w16 K16.out L16.out Kp16.out Kq16.out
  refine hK16.out _ _ hS16 ?_
  clear hK16 K16k hS15
  try simp only [Act.put, List.setIfInBounds_toArray, List.set_cons_zero, List.set_cons_succ]
  refine hd_one 11 _ rfl (by kernel_rfl) (by decide) (fun K17k hK17 => ?_)
  go_simp
  refine (from_any q.st y1 q.nx.length yc1 y2 q.ac.length yc2 w16).mono ?_
  rintro e w17 ⟨rfl, b17⟩
  try dsimp only
  have HN17 := Lib.hid (HN16.out.below b17)
  have HF17 := Lib.hid (HF16.out.below b17)
  have HM17 := Lib.hid (HM16.out.below b17)
  have HG17 := Lib.hid (HG16.out.below b17)
  have K17 := Lib.hid (Blk.below K16.out b17)
  have L17 := Lib.hid (Blk.below L16.out b17)
  have Np17 := Lib.hid (Np16.out.below b17)
  have Fp17 := Lib.hid (Fp16.out.below b17)
  have Kp17 := Lib.hid (Blk.below Kp16.out b17)
  have Nq17 := Lib.hid (Nq16.out.below b17)
  have Fq17 := Lib.hid (Fq16.out.below b17)
  have Kq17 := Lib.hid (Blk.below Kq16.out b17)
  have HB17 := Lib.hid (st HB16.out b17 HB16.out.size)
  clear b17  HN16 HF16 HM16 HG16 K16 L16 Np16 Fp16 Kp16 Nq16 Fq16 Kq16 HB16
  have hS17 := HST.out w17 K17.out L17.out Kp17.out Kq17.out
  refine hK17.out _ _ hS17 ?_
  clear hK17 K17k hS16
  try simp only [Act.put, List.setIfInBounds_toArray, List.set_cons_zero, List.set_cons_succ]
  refine hd_one 12 _ rfl (by kernel_rfl) (by decide) (fun K18k hK18 => ?_)
  go_simp
  refine (equalD_any p q x1 xc1 x2 xc2 y1 yc1 y2 yc2 w17 Np17.out Fp17.out Nq17.out Fq17.out).mono ?_
  rintro e w18 ⟨rfl, b18⟩
  try dsimp only
  have HN18 := Lib.hid (HN17.out.below b18)
  have HF18 := Lib.hid (HF17.out.below b18)
  have HM18 := Lib.hid (HM17.out.below b18)
  have HG18 := Lib.hid (HG17.out.below b18)
  have K18 := Lib.hid (Blk.below K17.out b18)
  have L18 := Lib.hid (Blk.below L17.out b18)
  have Np18 := Lib.hid (Np17.out.below b18)
  have Fp18 := Lib.hid (Fp17.out.below b18)
  have Kp18 := Lib.hid (Blk.below Kp17.out b18)
  have Nq18 := Lib.hid (Nq17.out.below b18)
  have Fq18 := Lib.hid (Fq17.out.below b18)
  have Kq18 := Lib.hid (Blk.below Kq17.out b18)
  have HB18 := Lib.hid (st HB17.out b18 HB17.out.size)
  clear b18  HN17 HF17 HM17 HG17 K17 L17 Np17 Fp17 Kp17 Nq17 Fq17 Kq17 HB17
  have hS18 := HST.out w18 K18.out L18.out Kp18.out Kq18.out
  rw [← HBV.out]
  refine hK18.out _ _ hS18 ?_
  clear hK18 K18k hS17
  try simp only [Act.put, List.setIfInBounds_toArray, List.set_cons_zero, List.set_cons_succ]
  have teq : (bv == bv) = true := by cases bv <;> rfl
  cases hbv : bv with
  | true =>
    have heq := HEQ.out hbv
    subst hbv
    obtain ⟨z, hz⟩ : ∃ z, runP r s.data.toList = z := ⟨_, rfl⟩
    have HZ := Lib.hid hz
    have HZ2 := Lib.hid (heq.symm.trans hz)
    have tz : (z == z) = true := by cases z <;> rfl
    clear hz heq
    refine hd_taken 13 (some 92) _ ?hdvc13 rfl rfl (by kernel_rfl) (fun _ _ _ h => h) (Or.inl ⟨by rfl, ?hdyc13⟩) hS18 ?hdrc13
    case hdyc13 => (intro wx hx; (try dsimp only at hx); go_simp; try with_reducible rfl)
    try simp only [Act.put, List.setIfInBounds_toArray, List.set_cons_zero, List.set_cons_succ]
    refine hd_taken 14 (some 93) _ ?hdvc14 rfl rfl (by kernel_rfl) (fun _ _ _ h => h) (Or.inl ⟨by rfl, ?hdyc14⟩) hS18 ?hdrc14
    case hdyc14 => (intro wx hx; (try dsimp only at hx); go_simp; try with_reducible rfl)
    try simp only [Act.put, List.setIfInBounds_toArray, List.set_cons_zero, List.set_cons_succ]
    refine hd_taken 15 (some 94) _ ?hdvc15 rfl rfl (by kernel_rfl) (fun _ _ _ h => h) (Or.inl ⟨by rfl, ?hdyc15⟩) hS18 ?hdrc15
    case hdyc15 => (intro wx hx; (try dsimp only at hx); go_simp; try with_reducible rfl)
    try simp only [Act.put, List.setIfInBounds_toArray, List.set_cons_zero, List.set_cons_succ]
    refine hd_taken 16 (some 95) _ ?hdvc16 rfl rfl (by kernel_rfl) (fun _ _ _ h => h) (Or.inl ⟨by rfl, ?hdyc16⟩) hS18 ?hdrc16
    case hdyc16 => (intro wx hx; (try dsimp only at hx); go_simp; try with_reducible rfl)
    try simp only [Act.put, List.setIfInBounds_toArray, List.set_cons_zero, List.set_cons_succ]
    refine hd_taken 17 (some 96) _ ?hdvc17 rfl rfl (by kernel_rfl) (fun _ _ _ h => h) (Or.inl ⟨by rfl, ?hdyc17⟩) hS18 ?hdrc17
    case hdyc17 => (intro wx hx; (try dsimp only at hx); go_simp; try with_reducible rfl)
    try simp only [Act.put, List.setIfInBounds_toArray, List.set_cons_zero, List.set_cons_succ]
    refine hd_taken 18 (some 97) _ ?hdvc18 rfl rfl (by kernel_rfl) (fun _ _ _ h => h) (Or.inl ⟨by rfl, ?hdyc18⟩) hS18 ?hdrc18
    case hdyc18 => (intro wx hx; (try dsimp only at hx); go_simp; try with_reducible rfl)
    try simp only [Act.put, List.setIfInBounds_toArray, List.set_cons_zero, List.set_cons_succ]
    refine hd_taken 19 (some 98) _ ?hdvc19 rfl rfl (by kernel_rfl) (fun _ _ _ h => h) (Or.inl ⟨by rfl, ?hdyc19⟩) hS18 ?hdrc19
    case hdyc19 => (intro wx hx; (try dsimp only at hx); go_simp; try with_reducible rfl)
    try simp only [Act.put, List.setIfInBounds_toArray, List.set_cons_zero, List.set_cons_succ]
    refine hd_taken 21 (some 100) _ ?hdvc21 rfl rfl (by kernel_rfl) (fun _ _ _ h => h) (Or.inl ⟨by rfl, ?hdyc21⟩) hS18 ?hdrc21
    case hdyc21 => (intro wx hx; (try dsimp only at hx); go_simp; try with_reducible rfl)
    try simp only [Act.put, List.setIfInBounds_toArray, List.set_cons_zero, List.set_cons_succ]
    refine hd_taken 23 (some 102) _ ?hdvc23 rfl rfl (by kernel_rfl) (fun _ _ _ h => h) (Or.inl ⟨by rfl, ?hdyc23⟩) hS18 ?hdrc23
    case hdyc23 => (intro wx hx; (try dsimp only at hx); go_simp; try with_reducible rfl)
    try simp only [Act.put, List.setIfInBounds_toArray, List.set_cons_zero, List.set_cons_succ]
    refine hd_taken 25 (some 104) _ ?hdvc25 rfl rfl (by kernel_rfl) (fun _ _ _ h => h) (Or.inl ⟨by rfl, ?hdyc25⟩) hS18 ?hdrc25
    case hdyc25 => (intro wx hx; (try dsimp only at hx); go_simp; try with_reducible rfl)
    try simp only [Act.put, List.setIfInBounds_toArray, List.set_cons_zero, List.set_cons_succ]
    refine hd_one 20 _ rfl (by kernel_rfl) (by decide) (fun K19k hK19 => ?_)
    go_simp
    refine (to_any r.st a1 r.nx.length c1 a2 r.ac.length c2 w18).mono ?_
    rintro e w19 ⟨rfl, b19⟩
    try dsimp only
    have HN19 := Lib.hid (HN18.out.below b19)
    have HF19 := Lib.hid (HF18.out.below b19)
    have HM19 := Lib.hid (HM18.out.below b19)
    have HG19 := Lib.hid (HG18.out.below b19)
    have K19 := Lib.hid (Blk.below K18.out b19)
    have L19 := Lib.hid (Blk.below L18.out b19)
    have Np19 := Lib.hid (Np18.out.below b19)
    have Fp19 := Lib.hid (Fp18.out.below b19)
    have Kp19 := Lib.hid (Blk.below Kp18.out b19)
    have Nq19 := Lib.hid (Nq18.out.below b19)
    have Fq19 := Lib.hid (Fq18.out.below b19)
    have Kq19 := Lib.hid (Blk.below Kq18.out b19)
    have HB19 := Lib.hid (st HB18.out b19 HB18.out.size)
    clear b19  HN18 HF18 HM18 HG18 K18 L18 Np18 Fp18 Kp18 Nq18 Fq18 Kq18 HB18
    have hS19 := HST.out w19 K19.out L19.out Kp19.out Kq19.out
    refine hK19.out _ _ hS19 ?_
    clear hK19 K19k hS18
    try simp only [Act.put, List.setIfInBounds_toArray, List.set_cons_zero, List.set_cons_succ]
    refine hd_one 22 _ rfl (by kernel_rfl) (by decide) (fun K20k hK20 => ?_)
    go_simp
    refine (runP_any r a1 c1 a2 c2 s HS.out w19 HN19.out HF19.out).mono ?_
    rintro e w20 ⟨rfl, b20⟩
    try dsimp only
    have HN20 := Lib.hid (HN19.out.below b20)
    have HF20 := Lib.hid (HF19.out.below b20)
    have HM20 := Lib.hid (HM19.out.below b20)
    have HG20 := Lib.hid (HG19.out.below b20)
    have K20 := Lib.hid (Blk.below K19.out b20)
    have L20 := Lib.hid (Blk.below L19.out b20)
    have Np20 := Lib.hid (Np19.out.below b20)
    have Fp20 := Lib.hid (Fp19.out.below b20)
    have Kp20 := Lib.hid (Blk.below Kp19.out b20)
    have Nq20 := Lib.hid (Nq19.out.below b20)
    have Fq20 := Lib.hid (Fq19.out.below b20)
    have Kq20 := Lib.hid (Blk.below Kq19.out b20)
    have HB20 := Lib.hid (st HB19.out b20 HB19.out.size)
    clear b20  HN19 HF19 HM19 HG19 K19 L19 Np19 Fp19 Kp19 Nq19 Fq19 Kq19 HB19
    have hS20 := HST.out w20 K20.out L20.out Kp20.out Kq20.out
    rw [HZ.out]
    refine hK20.out _ _ hS20 ?_
    clear hK20 K20k hS19
    try simp only [Act.put, List.setIfInBounds_toArray, List.set_cons_zero, List.set_cons_succ]
    refine hd_one 24 _ rfl (by kernel_rfl) (by decide) (fun K21k hK21 => ?_)
    go_simp
    refine (to_any t.st a3 t.nx.length c3 a4 t.ac.length c4 w20).mono ?_
    rintro e w21 ⟨rfl, b21⟩
    try dsimp only
    have HN21 := Lib.hid (HN20.out.below b21)
    have HF21 := Lib.hid (HF20.out.below b21)
    have HM21 := Lib.hid (HM20.out.below b21)
    have HG21 := Lib.hid (HG20.out.below b21)
    have K21 := Lib.hid (Blk.below K20.out b21)
    have L21 := Lib.hid (Blk.below L20.out b21)
    have Np21 := Lib.hid (Np20.out.below b21)
    have Fp21 := Lib.hid (Fp20.out.below b21)
    have Kp21 := Lib.hid (Blk.below Kp20.out b21)
    have Nq21 := Lib.hid (Nq20.out.below b21)
    have Fq21 := Lib.hid (Fq20.out.below b21)
    have Kq21 := Lib.hid (Blk.below Kq20.out b21)
    have HB21 := Lib.hid (st HB20.out b21 HB20.out.size)
    clear b21  HN20 HF20 HM20 HG20 K20 L20 Np20 Fp20 Kp20 Nq20 Fq20 Kq20 HB20
    have hS21 := HST.out w21 K21.out L21.out Kp21.out Kq21.out
    refine hK21.out _ _ hS21 ?_
    clear hK21 K21k hS20
    try simp only [Act.put, List.setIfInBounds_toArray, List.set_cons_zero, List.set_cons_succ]
    refine hd_done (by kernel_rfl) ?_
    simp only [List.drop_succ_cons, List.drop_zero]
    have HLR := Lib.hid (runP_any t a3 c3 a4 c4 s HS.out w21 HM21.out HG21.out)
    clear hS21
    go_wp2_with fail
    refine HLR.out.mono ?_
    rintro e w22 ⟨rfl, b22⟩
    rw [HZ2.out]
    have HB22 := Lib.hid (st HB21.out b22 HB21.out.size)
    clear b22
    go_wp2_with fail
    go_ret
    exact ⟨by simp, HB22.out⟩
  | false =>
    subst hbv
    clear HEQ
    refine hd_taken 13 (some 92) _ ?hdvd13 rfl rfl (by kernel_rfl) (fun _ _ _ h => h) (Or.inl ⟨by rfl, ?hdyd13⟩) hS18 ?hdrd13
    case hdyd13 => (intro wx hx; (try dsimp only at hx); go_simp; try with_reducible rfl)
    try simp only [Act.put, List.setIfInBounds_toArray, List.set_cons_zero, List.set_cons_succ]
    refine hd_taken 14 (some 93) _ ?hdvd14 rfl rfl (by kernel_rfl) (fun _ _ _ h => h) (Or.inl ⟨by rfl, ?hdyd14⟩) hS18 ?hdrd14
    case hdyd14 => (intro wx hx; (try dsimp only at hx); go_simp; try with_reducible rfl)
    try simp only [Act.put, List.setIfInBounds_toArray, List.set_cons_zero, List.set_cons_succ]
    refine hd_taken 15 (some 94) _ ?hdvd15 rfl rfl (by kernel_rfl) (fun _ _ _ h => h) (Or.inl ⟨by rfl, ?hdyd15⟩) hS18 ?hdrd15
    case hdyd15 => (intro wx hx; (try dsimp only at hx); go_simp; try with_reducible rfl)
    try simp only [Act.put, List.setIfInBounds_toArray, List.set_cons_zero, List.set_cons_succ]
    refine hd_taken 16 (some 95) _ ?hdvd16 rfl rfl (by kernel_rfl) (fun _ _ _ h => h) (Or.inl ⟨by rfl, ?hdyd16⟩) hS18 ?hdrd16
    case hdyd16 => (intro wx hx; (try dsimp only at hx); go_simp; try with_reducible rfl)
    try simp only [Act.put, List.setIfInBounds_toArray, List.set_cons_zero, List.set_cons_succ]
    refine hd_taken 17 (some 96) _ ?hdvd17 rfl rfl (by kernel_rfl) (fun _ _ _ h => h) (Or.inl ⟨by rfl, ?hdyd17⟩) hS18 ?hdrd17
    case hdyd17 => (intro wx hx; (try dsimp only at hx); go_simp; try with_reducible rfl)
    try simp only [Act.put, List.setIfInBounds_toArray, List.set_cons_zero, List.set_cons_succ]
    refine hd_taken 18 (some 97) _ ?hdvd18 rfl rfl (by kernel_rfl) (fun _ _ _ h => h) (Or.inl ⟨by rfl, ?hdyd18⟩) hS18 ?hdrd18
    case hdyd18 => (intro wx hx; (try dsimp only at hx); go_simp; try with_reducible rfl)
    try simp only [Act.put, List.setIfInBounds_toArray, List.set_cons_zero, List.set_cons_succ]
    refine hd_taken 19 (some 98) _ undef rfl rfl (by kernel_rfl) (fun _ _ _ h => h) (Or.inr ⟨by rfl, rfl⟩) hS18 ?_
    try simp only [Act.put, List.setIfInBounds_toArray, List.set_cons_zero, List.set_cons_succ]
    refine hd_taken 20 (some 99) _ undef rfl rfl (by kernel_rfl) (fun _ _ _ h => h) (Or.inr ⟨by rfl, rfl⟩) hS18 ?_
    try simp only [Act.put, List.setIfInBounds_toArray, List.set_cons_zero, List.set_cons_succ]
    refine hd_taken 21 (some 100) _ undef rfl rfl (by kernel_rfl) (fun _ _ _ h => h) (Or.inr ⟨by rfl, rfl⟩) hS18 ?_
    try simp only [Act.put, List.setIfInBounds_toArray, List.set_cons_zero, List.set_cons_succ]
    refine hd_taken 22 (some 101) _ undef rfl rfl (by kernel_rfl) (fun _ _ _ h => h) (Or.inr ⟨by rfl, rfl⟩) hS18 ?_
    try simp only [Act.put, List.setIfInBounds_toArray, List.set_cons_zero, List.set_cons_succ]
    refine hd_taken 23 (some 102) _ undef rfl rfl (by kernel_rfl) (fun _ _ _ h => h) (Or.inr ⟨by rfl, rfl⟩) hS18 ?_
    try simp only [Act.put, List.setIfInBounds_toArray, List.set_cons_zero, List.set_cons_succ]
    refine hd_taken 24 (some 103) _ undef rfl rfl (by kernel_rfl) (fun _ _ _ h => h) (Or.inr ⟨by rfl, rfl⟩) hS18 ?_
    try simp only [Act.put, List.setIfInBounds_toArray, List.set_cons_zero, List.set_cons_succ]
    refine hd_taken 25 (some 104) _ undef rfl rfl (by kernel_rfl) (fun _ _ _ h => h) (Or.inr ⟨by rfl, rfl⟩) hS18 ?_
    try simp only [Act.put, List.setIfInBounds_toArray, List.set_cons_zero, List.set_cons_succ]
    refine hd_done (by kernel_rfl) ?_
    simp only [List.drop_succ_cons, List.drop_zero]
    clear hS18
    go_wp2_with fail
    go_ret
    exact ⟨by simp, HB18.out⟩
end Go.Proofs.Ytiljagfjgefnnaa
