/- The law AutomatonWords. -/
import Derived.Test.YtiljagfjgefnnaaBzq
namespace Go.Proofs.Ytiljagfjgefnnaa
open Go.RowKit
set_option linter.unusedVariables false

theorem isW_yes {r : RawD} {s : Str} (hok : okD r = true) (h : isW s = true) : runP r s = (toA r).acc (toA r).s0 (wdN s) := by
  unfold runP
  rw [hok, h]
  rfl
theorem IsMin.runE {B : Aut} {q : RawD} (h : IsMin B q) {s : Str} (hw : isW s = true) : runP q s = B.acc B.s0 (wdN s) := by
  rw [isW_yes h.ok hw, h.eqv _ (word_wdN s)]
set_option maxRecDepth 1000000 in
set_option maxHeartbeats 16000000 in
theorem automatonWords_walk (r : RawD) (a1 : Option Addr) (ac1 : Nat) (a2 : Option Addr) (ac2 : Nat) (t : RawD) (b1 : Option Addr) (bc1 : Nat) (b2 : Option Addr) (bc2 : Nat) (s : ByteArray) (w : World) (hN : RdRows w (.slice a1 r.nx.length ac1) r.nx) (hF : Rd 1 encO w (.slice a2 r.ac.length ac2) r.ac) (hN2 : RdRows w (.slice b1 t.nx.length bc1) t.nx) (hF2 : Rd 1 encO w (.slice b2 t.ac.length bc2) t.ac) (hs : s.size ≤ maxLen) :
    Calls Try.prog 6 #[.agg #[.int .i64 r.st, .slice a1 r.nx.length ac1, .slice a2 r.ac.length ac2], .agg #[.int .i64 t.st, .slice b1 t.nx.length bc1, .slice b2 t.ac.length bc2], .string s] w fun e w' => e = .returned (.bool true) ∧ Below w.heap.size w w' := by
  have hm : maxLen = 9223372036854775807 := by decide
  rw [hm] at hs
  clear hm
  have HS := Lib.hid hs
  have BA := (Below.refl w.heap.size w).alloc (Nat.le_refl _) (.cells #[.int .i64 r.st, .slice a1 r.nx.length ac1, .slice a2 r.ac.length ac2] 25)
  have BB := BA.alloc BA.size (.cells #[.int .i64 t.st, .slice b1 t.nx.length bc1, .slice b2 t.ac.length bc2] 25)
  have k0 := (Blk.new w 25 #[.int .i64 r.st, .slice a1 r.nx.length ac1, .slice a2 r.ac.length ac2]).alloc (.cells #[.int .i64 t.st, .slice b1 t.nx.length bc1, .slice b2 t.ac.length bc2] 25)
  have k1 := Blk.new (w.alloc (.cells #[.int .i64 r.st, .slice a1 r.nx.length ac1, .slice a2 r.ac.length ac2] 25)) 25 #[.int .i64 t.st, .slice b1 t.nx.length bc1, .slice b2 t.ac.length bc2]
  rw [World.size_alloc] at k1
  obtain ⟨w0, hW0⟩ : ∃ W0, (w.alloc (.cells #[.int .i64 r.st, .slice a1 r.nx.length ac1, .slice a2 r.ac.length ac2] 25)).alloc (.cells #[.int .i64 t.st, .slice b1 t.nx.length bc1, .slice b2 t.ac.length bc2] 25) = W0 := ⟨_, rfl⟩
  have HNr0 := Lib.hid (hN.below BB)
  have HFr0 := Lib.hid (hF.below BB)
  have HNt0 := Lib.hid (hN2.below BB)
  have HFt0 := Lib.hid (hF2.below BB)
  have HB0 := Lib.hid BB
  have Kr0 := Lib.hid k0
  have Kt0 := Lib.hid k1
  rw [hW0] at HNr0 HFr0 HNt0 HFt0 HB0 Kr0 Kt0
  obtain ⟨g, hg⟩ : ∃ g, w.heap.size = g := ⟨_, rfl⟩
  have HGE := Lib.hid hg
  have HW0 := Lib.hid hW0
  rw [hg] at Kr0 Kt0
  clear hN hF hN2 hF2 BA BB k0 k1 hW0 hg
  go_enter Try.func6, Try.ntmps6
  go_upto_region 1 with fail
  rw [HW0.out, HGE.out]
  clear HW0
  go_wp2_with fail
  refine (awake_any w0).mono ?_
  rintro e w1 ⟨rfl, b1⟩
  have HNr1 := Lib.hid (HNr0.out.below b1)
  have HFr1 := Lib.hid (HFr0.out.below b1)
  have HNt1 := Lib.hid (HNt0.out.below b1)
  have HFt1 := Lib.hid (HFt0.out.below b1)
  have Kr1 := Lib.hid (Blk.below Kr0.out b1)
  have Kt1 := Lib.hid (Blk.below Kt0.out b1)
  have HB1 := Lib.hid (st HB0.out b1 HB0.out.size)
  clear b1  HNr0 HFr0 HNt0 HFt0 Kr0 Kt0 HB0
  have fKr0 : w1.cell? ⟨g, 0, none⟩ = some (.int .i64 r.st) := Kr1.out.cell 0
  have fKr1 : w1.cell? ⟨g, 1, none⟩ = some (.slice a1 r.nx.length ac1) := Kr1.out.cell 1
  have fKr2 : w1.cell? ⟨g, 2, none⟩ = some (.slice a2 r.ac.length ac2) := Kr1.out.cell 2
  have HFW := Lib.hid (few_any r a1 ac1 a2 ac2 12 (by omega) w1 HNr1.out HFr1.out)
  go_wp2_with fail
  refine HFW.out.mono ?_
  rintro e w2 ⟨⟨b, rfl, hb⟩, b2⟩
  have HNr2 := Lib.hid (HNr1.out.below b2)
  have HFr2 := Lib.hid (HFr1.out.below b2)
  have HNt2 := Lib.hid (HNt1.out.below b2)
  have HFt2 := Lib.hid (HFt1.out.below b2)
  have Kr2 := Lib.hid (Blk.below Kr1.out b2)
  have Kt2 := Lib.hid (Blk.below Kt1.out b2)
  have HB2 := Lib.hid (st HB1.out b2 HB1.out.size)
  clear b2 HFW fKr0 fKr1 fKr2 HNr1 HFr1 HNt1 HFt1 Kr1 Kt1 HB1
  cases b with
  | false =>
    clear hb
    go_wp2_with fail
    refine (awake_any w2).mono ?_
    rintro e wq ⟨rfl, bq⟩
    have HBQ := Lib.hid (st HB2.out bq HB2.out.size)
    clear bq
    go_wp2_with fail
    go_ret
    exact ⟨rfl, HBQ.out⟩
  | true =>
  have HLr := Lib.hid (hb rfl)
  clear hb
  have fKt0 : w2.cell? ⟨(g + 1), 0, none⟩ = some (.int .i64 t.st) := Kt2.out.cell 0
  have fKt1 : w2.cell? ⟨(g + 1), 1, none⟩ = some (.slice b1 t.nx.length bc1) := Kt2.out.cell 1
  have fKt2 : w2.cell? ⟨(g + 1), 2, none⟩ = some (.slice b2 t.ac.length bc2) := Kt2.out.cell 2
  have HFW := Lib.hid (few_any t b1 bc1 b2 bc2 12 (by omega) w2 HNt2.out HFt2.out)
  go_wp2_with fail
  refine HFW.out.mono ?_
  rintro e w3 ⟨⟨b, rfl, hb⟩, b3⟩
  have HNr3 := Lib.hid (HNr2.out.below b3)
  have HFr3 := Lib.hid (HFr2.out.below b3)
  have HNt3 := Lib.hid (HNt2.out.below b3)
  have HFt3 := Lib.hid (HFt2.out.below b3)
  have Kr3 := Lib.hid (Blk.below Kr2.out b3)
  have Kt3 := Lib.hid (Blk.below Kt2.out b3)
  have HB3 := Lib.hid (st HB2.out b3 HB2.out.size)
  clear b3 HFW fKt0 fKt1 fKt2 HNr2 HFr2 HNt2 HFt2 Kr2 Kt2 HB2
  cases b with
  | false =>
    clear hb
    go_wp2_with fail
    refine (awake_any w3).mono ?_
    rintro e wq ⟨rfl, bq⟩
    have HBQ := Lib.hid (st HB3.out bq HB3.out.size)
    clear bq
    go_wp2_with fail
    go_ret
    exact ⟨rfl, HBQ.out⟩
  | true =>
  have HLt := Lib.hid (hb rfl)
  clear hb
  by_cases h200 : 200 < s.size
  · have t1 : (200 : Int) < (s.size : Int) := by omega
    go_wp2_with fail
    refine (awake_any w3).mono ?_
    rintro e wq ⟨rfl, bq⟩
    have HBQ := Lib.hid (st HB3.out bq HB3.out.size)
    clear bq
    go_wp2_with fail
    go_ret
    exact ⟨rfl, HBQ.out⟩
  have t1 : ¬ (200 : Int) < (s.size : Int) := by omega
  have fKr0 : w3.cell? ⟨g, 0, none⟩ = some (.int .i64 r.st) := Kr3.out.cell 0
  have fKr1 : w3.cell? ⟨g, 1, none⟩ = some (.slice a1 r.nx.length ac1) := Kr3.out.cell 1
  have fKr2 : w3.cell? ⟨g, 2, none⟩ = some (.slice a2 r.ac.length ac2) := Kr3.out.cell 2
  have HFW := Lib.hid (valid_any r a1 ac1 a2 ac2 w3 HNr3.out HFr3.out)
  go_wp2_with fail
  refine HFW.out.mono ?_
  rintro e w4 ⟨rfl, b4⟩
  have HNr4 := Lib.hid (HNr3.out.below b4)
  have HFr4 := Lib.hid (HFr3.out.below b4)
  have HNt4 := Lib.hid (HNt3.out.below b4)
  have HFt4 := Lib.hid (HFt3.out.below b4)
  have Kr4 := Lib.hid (Blk.below Kr3.out b4)
  have Kt4 := Lib.hid (Blk.below Kt3.out b4)
  have HB4 := Lib.hid (st HB3.out b4 HB3.out.size)
  clear b4 HFW fKr0 fKr1 fKr2 HNr3 HFr3 HNt3 HFt3 Kr3 Kt3 HB3
  cases hok : okD r with
  | false =>
    clear hok
    go_wp2_with fail
    refine (awake_any w4).mono ?_
    rintro e wq ⟨rfl, bq⟩
    have HBQ := Lib.hid (st HB4.out bq HB4.out.size)
    clear bq
    go_wp2_with fail
    go_ret
    exact ⟨rfl, HBQ.out⟩
  | true =>
  have HOKr := Lib.hid hok
  clear hok
  have fKt0 : w4.cell? ⟨(g + 1), 0, none⟩ = some (.int .i64 t.st) := Kt4.out.cell 0
  have fKt1 : w4.cell? ⟨(g + 1), 1, none⟩ = some (.slice b1 t.nx.length bc1) := Kt4.out.cell 1
  have fKt2 : w4.cell? ⟨(g + 1), 2, none⟩ = some (.slice b2 t.ac.length bc2) := Kt4.out.cell 2
  have HFW := Lib.hid (valid_any t b1 bc1 b2 bc2 w4 HNt4.out HFt4.out)
  go_wp2_with fail
  refine HFW.out.mono ?_
  rintro e w5 ⟨rfl, b5⟩
  have HNr5 := Lib.hid (HNr4.out.below b5)
  have HFr5 := Lib.hid (HFr4.out.below b5)
  have HNt5 := Lib.hid (HNt4.out.below b5)
  have HFt5 := Lib.hid (HFt4.out.below b5)
  have Kr5 := Lib.hid (Blk.below Kr4.out b5)
  have Kt5 := Lib.hid (Blk.below Kt4.out b5)
  have HB5 := Lib.hid (st HB4.out b5 HB4.out.size)
  clear b5 HFW fKt0 fKt1 fKt2 HNr4 HFr4 HNt4 HFt4 Kr4 Kt4 HB4
  cases hok : okD t with
  | false =>
    clear hok
    go_wp2_with fail
    refine (awake_any w5).mono ?_
    rintro e wq ⟨rfl, bq⟩
    have HBQ := Lib.hid (st HB5.out bq HB5.out.size)
    clear bq
    go_wp2_with fail
    go_ret
    exact ⟨rfl, HBQ.out⟩
  | true =>
  have HOKt := Lib.hid hok
  clear hok
  have HRT : Hid (r.nx.length * t.nx.length ≤ 144) := Lib.hid (Nat.mul_le_mul HLr.out HLt.out)
  have HR := Lib.hid (okD_iff.1 HOKr.out).1
  have HT := Lib.hid (okD_iff.1 HOKt.out).1
  go_wp2_with fail
  go_loopw [7] (fun v7 wr => ∃ k : Nat, k ≤ s.size ∧ v7 = .int .i64 k ∧ (∀ (j : Nat) (hj : j < s.data.toList.length), j < k → okc s.data.toList[j] = true) ∧ wr = w5) (fun v7 _ => s.size - (intOf v7).toNat)
  case atStart => exact ⟨0, Nat.zero_le _, rfl, fun j _ h => by omega, rfl⟩
  case round =>
    obtain ⟨k, hk, rfl, hkd, hw⟩ := hrel
    obtain rfl := hw.symm
    have HK := Lib.hid hkd
    clear hkd
    by_cases hlt : k < s.size
    · have hlt2 : k < s.data.toList.length := by rw [len_data]; exact hlt
      have h9 : (k : Int) < (s.size : Int) := by omega
      have hby := byte_at s hlt
      obtain ⟨c, hc⟩ : ∃ c, s.data.toList[k] = c := ⟨_, rfl⟩
      have HC := Lib.hid hc
      rw [hc] at hby
      have hcn := c.toNat_lt
      have hsc := symbol_any c.toNat (by omega)
      have hle := symI_le c.toNat (by omega)
      rw [hby] at hsc hle hcn
      have HSC := Lib.hid hsc
      have HBY := Lib.hid hby
      clear hc hby hsc
      go_wp2_with fail
      refine (HSC.out _).mono ?_
      rintro e w3 ⟨rfl, hw3⟩
      obtain rfl := hw3.symm
      rw [← HBY.out] at hle ⊢
      obtain ⟨y, hy⟩ : ∃ y, symI c.toNat = y := ⟨_, rfl⟩
      have HY := Lib.hid hy
      rw [hy] at hle ⊢
      clear hy
      by_cases hneg : y < 0
      · go_wp2_with fail
        go_ret
        exact ⟨rfl, HB5.out⟩
      · have HOC : Hid (okc c = true) := Lib.hid (by unfold okc; rw [HY.out, decide_eq_true (by omega)])
        go_wp2_with fail
        go_roundw
        case measure => simp [intOf]; omega
        case rel => exact ⟨k + 1, by omega, by go_num, fun j hj hjk => by
          rcases Nat.lt_or_ge j k with h | h
          · exact HK.out j hj h
          · obtain rfl : j = k := by omega
            rw [HC.out]; exact HOC.out, (by first | rfl | trivial)⟩
    obtain rfl : k = s.size := by omega
    have h3 : ¬ (s.size : Int) < (s.size : Int) := by omega
    have HW : Hid (isW s.data.toList = true) := Lib.hid (isW_all (fun j hj => HK.out j hj (by rw [← len_data]; exact hj)))
    clear HK hk hlt
    go_upto_region 8 with fail
    have HSS : Hid (∀ wx, Below w5.heap.size w5 wx → (fun wx : World => wx.cell? ⟨g, 0, none⟩ = some (.int .i64 r.st) ∧ wx.cell? ⟨g, 1, none⟩ = some (.slice a1 r.nx.length ac1) ∧ wx.cell? ⟨g, 2, none⟩ = some (.slice a2 r.ac.length ac2) ∧ wx.cell? ⟨(g + 1), 0, none⟩ = some (.int .i64 t.st) ∧ wx.cell? ⟨(g + 1), 1, none⟩ = some (.slice b1 t.nx.length bc1) ∧ wx.cell? ⟨(g + 1), 2, none⟩ = some (.slice b2 t.ac.length bc2)) wx) := Lib.hid (fun wx hb => ⟨(Blk.below Kr5.out hb).cell 0, (Blk.below Kr5.out hb).cell 1, (Blk.below Kr5.out hb).cell 2, (Blk.below Kt5.out hb).cell 0, (Blk.below Kt5.out hb).cell 1, (Blk.below Kt5.out hb).cell 2⟩)
    have BX := Lib.hid ((Below.refl w5.heap.size w5).drew)
    refine region_hd 7 (fun wx : World => wx.cell? ⟨g, 0, none⟩ = some (.int .i64 r.st) ∧ wx.cell? ⟨g, 1, none⟩ = some (.slice a1 r.nx.length ac1) ∧ wx.cell? ⟨g, 2, none⟩ = some (.slice a2 r.ac.length ac2) ∧ wx.cell? ⟨(g + 1), 0, none⟩ = some (.int .i64 t.st) ∧ wx.cell? ⟨(g + 1), 1, none⟩ = some (.slice b1 t.nx.length bc1) ∧ wx.cell? ⟨(g + 1), 2, none⟩ = some (.slice b2 t.ac.length bc2)) (by kernel_rfl) (by kernel_rfl) ?_
    obtain ⟨X, hX⟩ : ∃ X, w5.drew = X := ⟨_, rfl⟩
    rw [hX] at BX ⊢
    clear hX
    have hSX := HSS.out X BX.out
    refine hd_taken 0 (some 55) _ ?hdv0 rfl rfl (by kernel_rfl) (fun _ _ _ h => h) (Or.inl ⟨by rfl, ?hdy0⟩) hSX ?hdr0
    case hdy0 => (intro wx hx; (try dsimp only at hx); go_simp; try with_reducible rfl)
    try simp only [Act.put, List.setIfInBounds_toArray, List.set_cons_zero, List.set_cons_succ]
    refine hd_taken 2 (some 57) _ ?hdv2 rfl rfl (by kernel_rfl) (fun _ _ _ h => h) (Or.inl ⟨by rfl, ?hdy2⟩) hSX ?hdr2
    case hdy2 => (intro wx hx; (try dsimp only at hx); go_simp; try with_reducible rfl)
    try simp only [Act.put, List.setIfInBounds_toArray, List.set_cons_zero, List.set_cons_succ]
    refine hd_taken 4 (some 59) _ ?hdv4 rfl rfl (by kernel_rfl) (fun _ _ _ h => h) (Or.inl ⟨by rfl, ?hdy4⟩) hSX ?hdr4
    case hdy4 => (intro wx hx; (try dsimp only at hx); go_simp; try with_reducible rfl)
    try simp only [Act.put, List.setIfInBounds_toArray, List.set_cons_zero, List.set_cons_succ]
    refine hd_taken 6 (some 61) _ ?hdv6 rfl rfl (by kernel_rfl) (fun _ _ _ h => h) (Or.inl ⟨by rfl, ?hdy6⟩) hSX ?hdr6
    case hdy6 => (intro wx hx; (try dsimp only at hx); go_simp; try with_reducible rfl)
    try simp only [Act.put, List.setIfInBounds_toArray, List.set_cons_zero, List.set_cons_succ]
    refine hd_one 1 _ rfl (by kernel_rfl) (by decide) (fun K1 hK1 => ?_)
    go_simp
    refine (to_any r.st a1 r.nx.length ac1 a2 r.ac.length ac2 X).mono ?_
    rintro e Y ⟨rfl, bb⟩
    try dsimp only
    have BY := Lib.hid (st BX.out bb BX.out.size)
    have hSY := HSS.out Y BY.out
    refine hK1.out _ _ hSY ?_
    clear hK1 K1 hSX bb
    try simp only [Act.put, List.setIfInBounds_toArray, List.set_cons_zero, List.set_cons_succ]
    refine hd_one 3 _ rfl (by kernel_rfl) (by decide) (fun K3 hK3 => ?_)
    go_simp
    refine (runP_any r a1 ac1 a2 ac2 s HS.out Y (HNr5.out.below BY.out) (HFr5.out.below BY.out)).mono ?_
    rintro e Z ⟨rfl, bb⟩
    try dsimp only
    have BZ := Lib.hid (st BY.out bb BY.out.size)
    have hSZ := HSS.out Z BZ.out
    refine hK3.out _ _ hSZ ?_
    clear hK3 K3 hSY bb
    try simp only [Act.put, List.setIfInBounds_toArray, List.set_cons_zero, List.set_cons_succ]
    refine hd_one 5 _ rfl (by kernel_rfl) (by decide) (fun K5 hK5 => ?_)
    go_simp
    refine (to_any t.st b1 t.nx.length bc1 b2 t.ac.length bc2 Z).mono ?_
    rintro e V ⟨rfl, bb⟩
    try dsimp only
    have BV := Lib.hid (st BZ.out bb BZ.out.size)
    have hSV := HSS.out V BV.out
    refine hK5.out _ _ hSV ?_
    clear hK5 K5 hSZ bb
    try simp only [Act.put, List.setIfInBounds_toArray, List.set_cons_zero, List.set_cons_succ]
    refine hd_done (by kernel_rfl) ?_
    simp only [List.drop_succ_cons, List.drop_zero]
    have HE := Lib.hid (runP_any t b1 bc1 b2 bc2 s HS.out V (HNt5.out.below BV.out) (HFt5.out.below BV.out))
    clear hSV HSS
    go_wp2_with fail
    refine HE.out.mono ?_
    rintro e w6 ⟨rfl, bf⟩
    have b6 := st BV.out bf BV.out.size
    have HPV : Hid ((toA r).acc (toA r).s0 (wdN s.data.toList) = runP r s.data.toList) := Lib.hid (isW_yes HOKr.out HW.out).symm
    have HQV : Hid ((toA t).acc (toA t).s0 (wdN s.data.toList) = runP t s.data.toList) := Lib.hid (isW_yes HOKt.out HW.out).symm
    obtain ⟨P, hP⟩ : ∃ P, runP r s.data.toList = P := ⟨_, rfl⟩
    obtain ⟨Q, hQ⟩ : ∃ Q, runP t s.data.toList = Q := ⟨_, rfl⟩
    rw [hP] at HPV ⊢
    rw [hQ] at HQV ⊢
    clear hP hQ bf HE BX BY BZ
    have HNr6 := Lib.hid (HNr5.out.below b6)
    have HFr6 := Lib.hid (HFr5.out.below b6)
    have HNt6 := Lib.hid (HNt5.out.below b6)
    have HFt6 := Lib.hid (HFt5.out.below b6)
    have Kr6 := Lib.hid (Blk.below Kr5.out b6)
    have Kt6 := Lib.hid (Blk.below Kt5.out b6)
    have HB6 := Lib.hid (st HB5.out b6 HB5.out.size)
    clear b6 BV HNr5 HFr5 HNt5 HFt5 Kr5 Kt5 HB5
    go_upto_region 9 with fail
    have fKr0 : w6.cell? ⟨g, 0, none⟩ = some (.int .i64 r.st) := Kr6.out.cell 0
    have fKr1 : w6.cell? ⟨g, 1, none⟩ = some (.slice a1 r.nx.length ac1) := Kr6.out.cell 1
    have fKr2 : w6.cell? ⟨g, 2, none⟩ = some (.slice a2 r.ac.length ac2) := Kr6.out.cell 2
    go_wp2_with fail
    refine (to_any r.st a1 r.nx.length ac1 a2 r.ac.length ac2 w6).mono ?_
    rintro e w7 ⟨rfl, b7⟩
    have HNr7 := Lib.hid (HNr6.out.below b7)
    have HFr7 := Lib.hid (HFr6.out.below b7)
    have HNt7 := Lib.hid (HNt6.out.below b7)
    have HFt7 := Lib.hid (HFt6.out.below b7)
    have Kr7 := Lib.hid (Blk.below Kr6.out b7)
    have Kt7 := Lib.hid (Blk.below Kt6.out b7)
    have HB7 := Lib.hid (st HB6.out b7 HB6.out.size)
    clear b7 fKr0 fKr1 fKr2 HNr6 HFr6 HNt6 HFt6 Kr6 Kt6 HB6
    have HP := Lib.hid (complP_any r a1 ac1 a2 ac2 w7 HNr7.out HFr7.out)
    go_wp2_with fail
    refine HP.out.mono ?_
    rintro e w8 hgot
    have b8 := hgot.2
    obtain ⟨x, pex, ⟨x1, xc1, x2, xc2, rfl, hpN, hpF⟩, hgr⟩ := hgot.raws
    have HNx8 := Lib.hid hpN
    have HFx8 := Lib.hid hpF
    have HGRx := Lib.hid hgr
    have HNr8 := Lib.hid (HNr7.out.below b8)
    have HFr8 := Lib.hid (HFr7.out.below b8)
    have HNt8 := Lib.hid (HNt7.out.below b8)
    have HFt8 := Lib.hid (HFt7.out.below b8)
    have Kr8 := Lib.hid (Blk.below Kr7.out b8)
    have Kt8 := Lib.hid (Blk.below Kt7.out b8)
    have HB8 := Lib.hid (st HB7.out b8 HB7.out.size)
    clear b8 hgot hpN hpF hgr HP  HNr7 HFr7 HNt7 HFt7 Kr7 Kt7 HB7
    obtain ⟨rfl, hmin, hle⟩ : pex = 0 ∧ IsMin (compl (toA r)) x ∧ x.nx.length ≤ r.nx.length := by
      rcases HGRx.out with ⟨h5, _⟩ | ⟨_, h6, h7, h8⟩
      · exact absurd h5 (by simp [HOKr.out])
      · exact ⟨h6, h7, h8⟩
    have HMx := Lib.hid hmin
    have HLx := Lib.hid hle
    clear hmin hle
    have b9 := (Below.refl w8.heap.size w8).alloc (Nat.le_refl _) (.cells #[.int .i64 x.st, .slice x1 x.nx.length xc1, .slice x2 x.ac.length xc2] 29)
    have k9 := Blk.new w8 29 #[.int .i64 x.st, .slice x1 x.nx.length xc1, .slice x2 x.ac.length xc2]
    obtain ⟨w9, hw9⟩ : ∃ wx, w8.alloc (.cells #[.int .i64 x.st, .slice x1 x.nx.length xc1, .slice x2 x.ac.length xc2] 29) = wx := ⟨_, rfl⟩
    obtain ⟨n10, hn10⟩ : ∃ B, w8.heap.size = B := ⟨_, rfl⟩
    rw [hw9] at b9 k9
    rw [hn10] at k9
    have HW9 := Lib.hid hw9
    have Hn10 := Lib.hid hn10
    have Kx9 := Lib.hid k9
    have HNr9 := Lib.hid (HNr8.out.below b9)
    have HFr9 := Lib.hid (HFr8.out.below b9)
    have HNt9 := Lib.hid (HNt8.out.below b9)
    have HFt9 := Lib.hid (HFt8.out.below b9)
    have Kr9 := Lib.hid (Blk.below Kr8.out b9)
    have Kt9 := Lib.hid (Blk.below Kt8.out b9)
    have HNx9 := Lib.hid (HNx8.out.below b9)
    have HFx9 := Lib.hid (HFx8.out.below b9)
    have HB9 := Lib.hid (st HB8.out b9 HB8.out.size)
    clear b9 k9 hw9 hn10 HNr8 HFr8 HNt8 HFt8 Kr8 Kt8 HNx8 HFx8 HB8
    go_upto_region 10 with fail
    rw [HW9.out, Hn10.out]
    have HSS : Hid (∀ wx, Below w9.heap.size w9 wx → (fun wx : World => wx.cell? ⟨g, 0, none⟩ = some (.int .i64 r.st) ∧ wx.cell? ⟨g, 1, none⟩ = some (.slice a1 r.nx.length ac1) ∧ wx.cell? ⟨g, 2, none⟩ = some (.slice a2 r.ac.length ac2) ∧ wx.cell? ⟨(g + 1), 0, none⟩ = some (.int .i64 t.st) ∧ wx.cell? ⟨(g + 1), 1, none⟩ = some (.slice b1 t.nx.length bc1) ∧ wx.cell? ⟨(g + 1), 2, none⟩ = some (.slice b2 t.ac.length bc2)) wx) := Lib.hid (fun wx hb => ⟨(Blk.below Kr9.out hb).cell 0, (Blk.below Kr9.out hb).cell 1, (Blk.below Kr9.out hb).cell 2, (Blk.below Kt9.out hb).cell 0, (Blk.below Kt9.out hb).cell 1, (Blk.below Kt9.out hb).cell 2⟩)
    go_cut [12, 13] from 69 to 76 (fun vp ve wx => CutQ (prodA (toA r) (toA t) (fun x y => x && y)) (okD r && okD t) (r.nx.length * t.nx.length) w9 vp ve wx)
    case first =>
      refine region_hd 10 (fun wx : World => wx.cell? ⟨g, 0, none⟩ = some (.int .i64 r.st) ∧ wx.cell? ⟨g, 1, none⟩ = some (.slice a1 r.nx.length ac1) ∧ wx.cell? ⟨g, 2, none⟩ = some (.slice a2 r.ac.length ac2) ∧ wx.cell? ⟨(g + 1), 0, none⟩ = some (.int .i64 t.st) ∧ wx.cell? ⟨(g + 1), 1, none⟩ = some (.slice b1 t.nx.length bc1) ∧ wx.cell? ⟨(g + 1), 2, none⟩ = some (.slice b2 t.ac.length bc2)) (by kernel_rfl) (by kernel_rfl) ?_
      have BX := Lib.hid ((Below.refl w9.heap.size w9).drew)
      obtain ⟨X, hX⟩ : ∃ X, w9.drew = X := ⟨_, rfl⟩
      rw [hX] at BX ⊢
      clear hX
      have hSX := HSS.out X BX.out
      refine hd_taken 0 (some 70) _ ?hdva0 rfl rfl (by kernel_rfl) (fun _ _ _ h => h) (Or.inl ⟨by rfl, ?hdya0⟩) hSX ?hdra0
      case hdya0 => (intro wx hx; (try dsimp only at hx); go_simp; try with_reducible rfl)
      try simp only [Act.put, List.setIfInBounds_toArray, List.set_cons_zero, List.set_cons_succ]
      refine hd_taken 2 (some 72) _ ?hdva2 rfl rfl (by kernel_rfl) (fun _ _ _ h => h) (Or.inl ⟨by rfl, ?hdya2⟩) hSX ?hdra2
      case hdya2 => (intro wx hx; (try dsimp only at hx); go_simp; try with_reducible rfl)
      try simp only [Act.put, List.setIfInBounds_toArray, List.set_cons_zero, List.set_cons_succ]
      refine hd_list [1, 8] (by kernel_rfl) (by decide) (by decide) (fun i hi => ?_)
      simp only [List.mem_cons, List.not_mem_nil, or_false] at hi
      rcases hi with rfl | rfl
      · refine ⟨_, rfl, fun K1 hK1 => ?_⟩
        go_simp
        refine (to_any r.st a1 r.nx.length ac1 a2 r.ac.length ac2 X).mono ?_
        rintro e X_1 ⟨rfl, bb⟩
        try dsimp only
        have BX_1 := Lib.hid (st BX.out bb BX.out.size)
        have hSX_1 := HSS.out X_1 BX_1.out
        refine hK1.out _ _ hSX_1 ?_
        clear hK1 K1 hSX bb
        try simp only [Act.put, List.setIfInBounds_toArray, List.set_cons_zero, List.set_cons_succ]
        refine hd_list [3, 8] (by kernel_rfl) (by decide) (by decide) (fun i hi => ?_)
        simp only [List.mem_cons, List.not_mem_nil, or_false] at hi
        rcases hi with rfl | rfl
        · refine ⟨_, rfl, fun K3 hK3 => ?_⟩
          go_simp
          refine (to_any t.st b1 t.nx.length bc1 b2 t.ac.length bc2 X_1).mono ?_
          rintro e X_1_3 ⟨rfl, bb⟩
          try dsimp only
          have BX_1_3 := Lib.hid (st BX_1.out bb BX_1.out.size)
          have hSX_1_3 := HSS.out X_1_3 BX_1_3.out
          refine hK3.out _ _ hSX_1_3 ?_
          clear hK3 K3 hSX_1 bb
          try simp only [Act.put, List.setIfInBounds_toArray, List.set_cons_zero, List.set_cons_succ]
          refine hd_list [4, 8] (by kernel_rfl) (by decide) (by decide) (fun i hi => ?_)
          simp only [List.mem_cons, List.not_mem_nil, or_false] at hi
          rcases hi with rfl | rfl
          · refine ⟨_, rfl, fun K4 hK4 => ?_⟩
            go_simp
            refine (andP_any r t (by have := HRT.out; omega) a1 ac1 a2 ac2 b1 bc1 b2 bc2 X_1_3 (HNr9.out.below BX_1_3.out) (HFr9.out.below BX_1_3.out) (HNt9.out.below BX_1_3.out) (HFt9.out.below BX_1_3.out)).mono ?_
            rintro e X_1_3_4 hgot
            have bb := hgot.2
            obtain ⟨z, pez, z1, zc1, z2, zc2, rfl, hgr, hkept⟩ := hgot.kept (by have := HRT.out; omega)
            try dsimp only
            have HGRz := Lib.hid hgr
            have HKEPT := Lib.hid hkept
            have BX_1_3_4 := Lib.hid (st BX_1_3.out bb BX_1_3.out.size)
            clear hgot hgr hkept
            have hSX_1_3_4 := HSS.out X_1_3_4 BX_1_3_4.out
            refine hK4.out _ _ hSX_1_3_4 ?_
            clear hK4 K4 hSX_1_3 bb
            try simp only [Act.put, List.setIfInBounds_toArray, List.set_cons_zero, List.set_cons_succ]
            refine hd_taken 5 (some 69) _ ?hdvb5 rfl rfl (by kernel_rfl) (fun _ _ _ h => h) (Or.inl ⟨by rfl, ?hdyb5⟩) hSX_1_3_4 ?hdrb5
            case hdyb5 => (intro wx hx; (try dsimp only at hx); go_simp; try with_reducible rfl)
            try simp only [Act.put, List.setIfInBounds_toArray, List.set_cons_zero, List.set_cons_succ]
            refine hd_taken 6 (some 75) _ ?hdvb6 rfl rfl (by kernel_rfl) (fun _ _ _ h => h) (Or.inl ⟨by rfl, ?hdyb6⟩) hSX_1_3_4 ?hdrb6
            case hdyb6 => (intro wx hx; (try dsimp only at hx); go_simp; try with_reducible rfl)
            try simp only [Act.put, List.setIfInBounds_toArray, List.set_cons_zero, List.set_cons_succ]
            refine hd_taken 7 (some 76) _ ?hdvb7 rfl rfl (by kernel_rfl) (fun _ _ _ h => h) (Or.inl ⟨by rfl, ?hdyb7⟩) hSX_1_3_4 ?hdrb7
            case hdyb7 => (intro wx hx; (try dsimp only at hx); go_simp; try with_reducible rfl)
            try simp only [Act.put, List.setIfInBounds_toArray, List.set_cons_zero, List.set_cons_succ]
            refine hd_list [8] (by kernel_rfl) (by decide) (by decide) (fun i hi => ?_)
            simp only [List.mem_cons, List.not_mem_nil, or_false] at hi
            subst hi
            refine ⟨_, rfl, fun K8 hK8 => ?_⟩
            go_simp
            have bb := (Below.refl X_1_3_4.heap.size X_1_3_4).alloc (Nat.le_refl _) (.cells #[.int .i64 0, .slice none 0 0, .slice none 0 0] 29)
            have kp := Blk.new X_1_3_4 29 #[.int .i64 0, .slice none 0 0, .slice none 0 0]
            obtain ⟨p, hp⟩ : ∃ p, X_1_3_4.heap.size = p := ⟨_, rfl⟩
            obtain ⟨X_1_3_4_8, hX_1_3_4_8⟩ : ∃ X_1_3_4_8, X_1_3_4.alloc (.cells #[.int .i64 0, .slice none 0 0, .slice none 0 0] 29) = X_1_3_4_8 := ⟨_, rfl⟩
            rw [hX_1_3_4_8] at bb kp
            have BX_1_3_4_8 := Lib.hid (st BX_1_3_4.out bb BX_1_3_4.out.size)
            have HPG : Hid (w9.heap.size ≤ p) := Lib.hid (by rw [← hp]; exact BX_1_3_4.out.size)
            rw [hp] at kp
            have KPX_1_3_4_8 := Lib.hid kp
            have HPA : Hid (Below X_1_3_4.heap.size X_1_3_4 X_1_3_4_8) := Lib.hid bb
            rw [hp] at HPA
            have HPE := Lib.hid hp
            rw [hp, hX_1_3_4_8]
            have hSX_1_3_4_8 := HSS.out X_1_3_4_8 BX_1_3_4_8.out
            refine hK8.out _ _ hSX_1_3_4_8 ?_
            clear hK8 K8 hSX_1_3_4 bb kp hp hX_1_3_4_8
            try simp only [Act.put, List.setIfInBounds_toArray, List.set_cons_zero, List.set_cons_succ]
            have xf := KPX_1_3_4_8.out.frozen
            have y0 : X_1_3_4_8.cell? ⟨p, 0, none⟩ = some (.int .i64 0) := KPX_1_3_4_8.out.cell 0
            have y1 : X_1_3_4_8.cell? ⟨p, 1, none⟩ = some (.slice none 0 0) := KPX_1_3_4_8.out.cell 1
            have y2 : X_1_3_4_8.cell? ⟨p, 2, none⟩ = some (.slice none 0 0) := KPX_1_3_4_8.out.cell 2
            have HFIN : Hid (CutQ (prodA (toA r) (toA t) (fun x y => x && y)) (okD r && okD t) (r.nx.length * t.nx.length) w9 (.pointer (some ⟨p, 0, none⟩)) (.int .i64 pez) (put3 X_1_3_4_8 p (.int .i64 z.st) (.slice z1 z.nx.length zc1) (.slice z2 z.ac.length zc2)) ∧ Below w9.heap.size w9 (put3 X_1_3_4_8 p (.int .i64 z.st) (.slice z1 z.nx.length zc1) (.slice z2 z.ac.length zc2))) := Lib.hid (by
              obtain ⟨p1, p2⟩ := put3_ok (n := p) (a' := .int .i64 z.st) (b' := .slice z1 z.nx.length zc1) (c' := .slice z2 z.ac.length zc2) KPX_1_3_4_8.out (Nat.le_refl p)
              obtain ⟨r1, r2⟩ := HKEPT.out _ _ (Fr.of_below (X := fun _ => False) ((HPA.out.trans p2).mono (Nat.le_of_eq HPE.out))) (fun b e => e.elim)
              have hb := BX_1_3_4_8.out.trans (p2.mono HPG.out)
              exact ⟨⟨p, z, pez, z1, zc1, z2, zc2, rfl, rfl, p1, r1, r2, HGRz.out, hb⟩, hb⟩)
            have hSF := HSS.out (put3 X_1_3_4_8 p (.int .i64 z.st) (.slice z1 z.nx.length zc1) (.slice z2 z.ac.length zc2)) HFIN.out.2
            refine hd_one 9 _ rfl (by kernel_rfl) (by decide) (fun KS hKS => ?_)
            go_simp
            refine hKS.out _ _ hSF ?_
            clear hKS KS hSX_1_3_4_8 xf y0 y1 y2 hSF HSS
            try simp only [Act.put, List.setIfInBounds_toArray, List.set_cons_zero, List.set_cons_succ]
            refine hd_done (by kernel_rfl) ?_
            simp only [List.drop_succ_cons, List.drop_zero]
            go_wp2_with fail
            go_meet
            exact HFIN.out.1
          · refine ⟨_, rfl, fun K8 hK8 => ?_⟩
            go_simp
            have bb := (Below.refl X_1_3.heap.size X_1_3).alloc (Nat.le_refl _) (.cells #[.int .i64 0, .slice none 0 0, .slice none 0 0] 29)
            have kp := Blk.new X_1_3 29 #[.int .i64 0, .slice none 0 0, .slice none 0 0]
            obtain ⟨p, hp⟩ : ∃ p, X_1_3.heap.size = p := ⟨_, rfl⟩
            obtain ⟨X_1_3_8, hX_1_3_8⟩ : ∃ X_1_3_8, X_1_3.alloc (.cells #[.int .i64 0, .slice none 0 0, .slice none 0 0] 29) = X_1_3_8 := ⟨_, rfl⟩
            rw [hX_1_3_8] at bb kp
            have BX_1_3_8 := Lib.hid (st BX_1_3.out bb BX_1_3.out.size)
            have HPG : Hid (w9.heap.size ≤ p) := Lib.hid (by rw [← hp]; exact BX_1_3.out.size)
            rw [hp] at kp
            have KPX_1_3_8 := Lib.hid kp
            rw [hp, hX_1_3_8]
            have hSX_1_3_8 := HSS.out X_1_3_8 BX_1_3_8.out
            refine hK8.out _ _ hSX_1_3_8 ?_
            clear hK8 K8 hSX_1_3 bb kp hp hX_1_3_8
            try simp only [Act.put, List.setIfInBounds_toArray, List.set_cons_zero, List.set_cons_succ]
            refine hd_list [4] (by kernel_rfl) (by decide) (by decide) (fun i hi => ?_)
            simp only [List.mem_cons, List.not_mem_nil, or_false] at hi
            subst hi
            refine ⟨_, rfl, fun K4 hK4 => ?_⟩
            go_simp
            refine (andP_any r t (by have := HRT.out; omega) a1 ac1 a2 ac2 b1 bc1 b2 bc2 X_1_3_8 (HNr9.out.below BX_1_3_8.out) (HFr9.out.below BX_1_3_8.out) (HNt9.out.below BX_1_3_8.out) (HFt9.out.below BX_1_3_8.out)).mono ?_
            rintro e X_1_3_8_4 hgot
            have bb := hgot.2
            obtain ⟨z, pez, z1, zc1, z2, zc2, rfl, hgr, hkept⟩ := hgot.kept (by have := HRT.out; omega)
            try dsimp only
            have HGRz := Lib.hid hgr
            have HKEPT := Lib.hid hkept
            have BX_1_3_8_4 := Lib.hid (st BX_1_3_8.out bb BX_1_3_8.out.size)
            have HPL : Hid (p < X_1_3_8.heap.size) := Lib.hid KPX_1_3_8.out.lt
            have KPX_1_3_8_4 := Lib.hid (Blk.below KPX_1_3_8.out bb)
            clear hgot hgr hkept
            have hSX_1_3_8_4 := HSS.out X_1_3_8_4 BX_1_3_8_4.out
            refine hK4.out _ _ hSX_1_3_8_4 ?_
            clear hK4 K4 hSX_1_3_8 bb
            try simp only [Act.put, List.setIfInBounds_toArray, List.set_cons_zero, List.set_cons_succ]
            refine hd_taken 5 (some 69) _ ?hdvc5 rfl rfl (by kernel_rfl) (fun _ _ _ h => h) (Or.inl ⟨by rfl, ?hdyc5⟩) hSX_1_3_8_4 ?hdrc5
            case hdyc5 => (intro wx hx; (try dsimp only at hx); go_simp; try with_reducible rfl)
            try simp only [Act.put, List.setIfInBounds_toArray, List.set_cons_zero, List.set_cons_succ]
            refine hd_taken 6 (some 75) _ ?hdvc6 rfl rfl (by kernel_rfl) (fun _ _ _ h => h) (Or.inl ⟨by rfl, ?hdyc6⟩) hSX_1_3_8_4 ?hdrc6
            case hdyc6 => (intro wx hx; (try dsimp only at hx); go_simp; try with_reducible rfl)
            try simp only [Act.put, List.setIfInBounds_toArray, List.set_cons_zero, List.set_cons_succ]
            refine hd_taken 7 (some 76) _ ?hdvc7 rfl rfl (by kernel_rfl) (fun _ _ _ h => h) (Or.inl ⟨by rfl, ?hdyc7⟩) hSX_1_3_8_4 ?hdrc7
            case hdyc7 => (intro wx hx; (try dsimp only at hx); go_simp; try with_reducible rfl)
            try simp only [Act.put, List.setIfInBounds_toArray, List.set_cons_zero, List.set_cons_succ]
            have xf := KPX_1_3_8_4.out.frozen
            have y0 : X_1_3_8_4.cell? ⟨p, 0, none⟩ = some (.int .i64 0) := KPX_1_3_8_4.out.cell 0
            have y1 : X_1_3_8_4.cell? ⟨p, 1, none⟩ = some (.slice none 0 0) := KPX_1_3_8_4.out.cell 1
            have y2 : X_1_3_8_4.cell? ⟨p, 2, none⟩ = some (.slice none 0 0) := KPX_1_3_8_4.out.cell 2
            have HFIN : Hid (CutQ (prodA (toA r) (toA t) (fun x y => x && y)) (okD r && okD t) (r.nx.length * t.nx.length) w9 (.pointer (some ⟨p, 0, none⟩)) (.int .i64 pez) (put3 X_1_3_8_4 p (.int .i64 z.st) (.slice z1 z.nx.length zc1) (.slice z2 z.ac.length zc2)) ∧ Below w9.heap.size w9 (put3 X_1_3_8_4 p (.int .i64 z.st) (.slice z1 z.nx.length zc1) (.slice z2 z.ac.length zc2))) := Lib.hid (by
              obtain ⟨p1, p2⟩ := put3_ok (n := w9.heap.size) (a' := .int .i64 z.st) (b' := .slice z1 z.nx.length zc1) (c' := .slice z2 z.ac.length zc2) KPX_1_3_8_4.out HPG.out
              obtain ⟨r1, r2⟩ := HKEPT.out _ _ (Fr.grown (put3_grown X_1_3_8_4 p (.int .i64 z.st) (.slice z1 z.nx.length zc1) (.slice z2 z.ac.length zc2)) (X := fun b => b = p) (fun k e => by injection e with e; exact e.symm)) (fun b e => by have e : b = p := e; rw [e]; exact HPL.out)
              have hb := BX_1_3_8_4.out.trans (p2)
              exact ⟨⟨p, z, pez, z1, zc1, z2, zc2, rfl, rfl, p1, r1, r2, HGRz.out, hb⟩, hb⟩)
            have hSF := HSS.out (put3 X_1_3_8_4 p (.int .i64 z.st) (.slice z1 z.nx.length zc1) (.slice z2 z.ac.length zc2)) HFIN.out.2
            refine hd_one 9 _ rfl (by kernel_rfl) (by decide) (fun KS hKS => ?_)
            go_simp
            refine hKS.out _ _ hSF ?_
            clear hKS KS hSX_1_3_8_4 xf y0 y1 y2 hSF HSS
            try simp only [Act.put, List.setIfInBounds_toArray, List.set_cons_zero, List.set_cons_succ]
            refine hd_done (by kernel_rfl) ?_
            simp only [List.drop_succ_cons, List.drop_zero]
            go_wp2_with fail
            go_meet
            exact HFIN.out.1
        · refine ⟨_, rfl, fun K8 hK8 => ?_⟩
          go_simp
          have bb := (Below.refl X_1.heap.size X_1).alloc (Nat.le_refl _) (.cells #[.int .i64 0, .slice none 0 0, .slice none 0 0] 29)
          have kp := Blk.new X_1 29 #[.int .i64 0, .slice none 0 0, .slice none 0 0]
          obtain ⟨p, hp⟩ : ∃ p, X_1.heap.size = p := ⟨_, rfl⟩
          obtain ⟨X_1_8, hX_1_8⟩ : ∃ X_1_8, X_1.alloc (.cells #[.int .i64 0, .slice none 0 0, .slice none 0 0] 29) = X_1_8 := ⟨_, rfl⟩
          rw [hX_1_8] at bb kp
          have BX_1_8 := Lib.hid (st BX_1.out bb BX_1.out.size)
          have HPG : Hid (w9.heap.size ≤ p) := Lib.hid (by rw [← hp]; exact BX_1.out.size)
          rw [hp] at kp
          have KPX_1_8 := Lib.hid kp
          rw [hp, hX_1_8]
          have hSX_1_8 := HSS.out X_1_8 BX_1_8.out
          refine hK8.out _ _ hSX_1_8 ?_
          clear hK8 K8 hSX_1 bb kp hp hX_1_8
          try simp only [Act.put, List.setIfInBounds_toArray, List.set_cons_zero, List.set_cons_succ]
          refine hd_list [3] (by kernel_rfl) (by decide) (by decide) (fun i hi => ?_)
          simp only [List.mem_cons, List.not_mem_nil, or_false] at hi
          subst hi
          refine ⟨_, rfl, fun K3 hK3 => ?_⟩
          go_simp
          refine (to_any t.st b1 t.nx.length bc1 b2 t.ac.length bc2 X_1_8).mono ?_
          rintro e X_1_8_3 ⟨rfl, bb⟩
          try dsimp only
          have BX_1_8_3 := Lib.hid (st BX_1_8.out bb BX_1_8.out.size)
          have KPX_1_8_3 := Lib.hid (Blk.below KPX_1_8.out bb)
          have hSX_1_8_3 := HSS.out X_1_8_3 BX_1_8_3.out
          refine hK3.out _ _ hSX_1_8_3 ?_
          clear hK3 K3 hSX_1_8 bb
          try simp only [Act.put, List.setIfInBounds_toArray, List.set_cons_zero, List.set_cons_succ]
          refine hd_list [4] (by kernel_rfl) (by decide) (by decide) (fun i hi => ?_)
          simp only [List.mem_cons, List.not_mem_nil, or_false] at hi
          subst hi
          refine ⟨_, rfl, fun K4 hK4 => ?_⟩
          go_simp
          refine (andP_any r t (by have := HRT.out; omega) a1 ac1 a2 ac2 b1 bc1 b2 bc2 X_1_8_3 (HNr9.out.below BX_1_8_3.out) (HFr9.out.below BX_1_8_3.out) (HNt9.out.below BX_1_8_3.out) (HFt9.out.below BX_1_8_3.out)).mono ?_
          rintro e X_1_8_3_4 hgot
          have bb := hgot.2
          obtain ⟨z, pez, z1, zc1, z2, zc2, rfl, hgr, hkept⟩ := hgot.kept (by have := HRT.out; omega)
          try dsimp only
          have HGRz := Lib.hid hgr
          have HKEPT := Lib.hid hkept
          have BX_1_8_3_4 := Lib.hid (st BX_1_8_3.out bb BX_1_8_3.out.size)
          have HPL : Hid (p < X_1_8_3.heap.size) := Lib.hid KPX_1_8_3.out.lt
          have KPX_1_8_3_4 := Lib.hid (Blk.below KPX_1_8_3.out bb)
          clear hgot hgr hkept
          have hSX_1_8_3_4 := HSS.out X_1_8_3_4 BX_1_8_3_4.out
          refine hK4.out _ _ hSX_1_8_3_4 ?_
          clear hK4 K4 hSX_1_8_3 bb
          try simp only [Act.put, List.setIfInBounds_toArray, List.set_cons_zero, List.set_cons_succ]
          refine hd_taken 5 (some 69) _ ?hdvd5 rfl rfl (by kernel_rfl) (fun _ _ _ h => h) (Or.inl ⟨by rfl, ?hdyd5⟩) hSX_1_8_3_4 ?hdrd5
          case hdyd5 => (intro wx hx; (try dsimp only at hx); go_simp; try with_reducible rfl)
          try simp only [Act.put, List.setIfInBounds_toArray, List.set_cons_zero, List.set_cons_succ]
          refine hd_taken 6 (some 75) _ ?hdvd6 rfl rfl (by kernel_rfl) (fun _ _ _ h => h) (Or.inl ⟨by rfl, ?hdyd6⟩) hSX_1_8_3_4 ?hdrd6
          case hdyd6 => (intro wx hx; (try dsimp only at hx); go_simp; try with_reducible rfl)
          try simp only [Act.put, List.setIfInBounds_toArray, List.set_cons_zero, List.set_cons_succ]
          refine hd_taken 7 (some 76) _ ?hdvd7 rfl rfl (by kernel_rfl) (fun _ _ _ h => h) (Or.inl ⟨by rfl, ?hdyd7⟩) hSX_1_8_3_4 ?hdrd7
          case hdyd7 => (intro wx hx; (try dsimp only at hx); go_simp; try with_reducible rfl)
          try simp only [Act.put, List.setIfInBounds_toArray, List.set_cons_zero, List.set_cons_succ]
          have xf := KPX_1_8_3_4.out.frozen
          have y0 : X_1_8_3_4.cell? ⟨p, 0, none⟩ = some (.int .i64 0) := KPX_1_8_3_4.out.cell 0
          have y1 : X_1_8_3_4.cell? ⟨p, 1, none⟩ = some (.slice none 0 0) := KPX_1_8_3_4.out.cell 1
          have y2 : X_1_8_3_4.cell? ⟨p, 2, none⟩ = some (.slice none 0 0) := KPX_1_8_3_4.out.cell 2
          have HFIN : Hid (CutQ (prodA (toA r) (toA t) (fun x y => x && y)) (okD r && okD t) (r.nx.length * t.nx.length) w9 (.pointer (some ⟨p, 0, none⟩)) (.int .i64 pez) (put3 X_1_8_3_4 p (.int .i64 z.st) (.slice z1 z.nx.length zc1) (.slice z2 z.ac.length zc2)) ∧ Below w9.heap.size w9 (put3 X_1_8_3_4 p (.int .i64 z.st) (.slice z1 z.nx.length zc1) (.slice z2 z.ac.length zc2))) := Lib.hid (by
            obtain ⟨p1, p2⟩ := put3_ok (n := w9.heap.size) (a' := .int .i64 z.st) (b' := .slice z1 z.nx.length zc1) (c' := .slice z2 z.ac.length zc2) KPX_1_8_3_4.out HPG.out
            obtain ⟨r1, r2⟩ := HKEPT.out _ _ (Fr.grown (put3_grown X_1_8_3_4 p (.int .i64 z.st) (.slice z1 z.nx.length zc1) (.slice z2 z.ac.length zc2)) (X := fun b => b = p) (fun k e => by injection e with e; exact e.symm)) (fun b e => by have e : b = p := e; rw [e]; exact HPL.out)
            have hb := BX_1_8_3_4.out.trans (p2)
            exact ⟨⟨p, z, pez, z1, zc1, z2, zc2, rfl, rfl, p1, r1, r2, HGRz.out, hb⟩, hb⟩)
          have hSF := HSS.out (put3 X_1_8_3_4 p (.int .i64 z.st) (.slice z1 z.nx.length zc1) (.slice z2 z.ac.length zc2)) HFIN.out.2
          refine hd_one 9 _ rfl (by kernel_rfl) (by decide) (fun KS hKS => ?_)
          go_simp
          refine hKS.out _ _ hSF ?_
          clear hKS KS hSX_1_8_3_4 xf y0 y1 y2 hSF HSS
          try simp only [Act.put, List.setIfInBounds_toArray, List.set_cons_zero, List.set_cons_succ]
          refine hd_done (by kernel_rfl) ?_
          simp only [List.drop_succ_cons, List.drop_zero]
          go_wp2_with fail
          go_meet
          exact HFIN.out.1
      · refine ⟨_, rfl, fun K8 hK8 => ?_⟩
        go_simp
        have bb := (Below.refl X.heap.size X).alloc (Nat.le_refl _) (.cells #[.int .i64 0, .slice none 0 0, .slice none 0 0] 29)
        have kp := Blk.new X 29 #[.int .i64 0, .slice none 0 0, .slice none 0 0]
        obtain ⟨p, hp⟩ : ∃ p, X.heap.size = p := ⟨_, rfl⟩
        obtain ⟨X_8, hX_8⟩ : ∃ X_8, X.alloc (.cells #[.int .i64 0, .slice none 0 0, .slice none 0 0] 29) = X_8 := ⟨_, rfl⟩
        rw [hX_8] at bb kp
        have BX_8 := Lib.hid (st BX.out bb BX.out.size)
        have HPG : Hid (w9.heap.size ≤ p) := Lib.hid (by rw [← hp]; exact BX.out.size)
        rw [hp] at kp
        have KPX_8 := Lib.hid kp
        rw [hp, hX_8]
        have hSX_8 := HSS.out X_8 BX_8.out
        refine hK8.out _ _ hSX_8 ?_
        clear hK8 K8 hSX bb kp hp hX_8
        try simp only [Act.put, List.setIfInBounds_toArray, List.set_cons_zero, List.set_cons_succ]
        refine hd_list [1] (by kernel_rfl) (by decide) (by decide) (fun i hi => ?_)
        simp only [List.mem_cons, List.not_mem_nil, or_false] at hi
        subst hi
        refine ⟨_, rfl, fun K1 hK1 => ?_⟩
        go_simp
        refine (to_any r.st a1 r.nx.length ac1 a2 r.ac.length ac2 X_8).mono ?_
        rintro e X_8_1 ⟨rfl, bb⟩
        try dsimp only
        have BX_8_1 := Lib.hid (st BX_8.out bb BX_8.out.size)
        have KPX_8_1 := Lib.hid (Blk.below KPX_8.out bb)
        have hSX_8_1 := HSS.out X_8_1 BX_8_1.out
        refine hK1.out _ _ hSX_8_1 ?_
        clear hK1 K1 hSX_8 bb
        try simp only [Act.put, List.setIfInBounds_toArray, List.set_cons_zero, List.set_cons_succ]
        refine hd_list [3] (by kernel_rfl) (by decide) (by decide) (fun i hi => ?_)
        simp only [List.mem_cons, List.not_mem_nil, or_false] at hi
        subst hi
        refine ⟨_, rfl, fun K3 hK3 => ?_⟩
        go_simp
        refine (to_any t.st b1 t.nx.length bc1 b2 t.ac.length bc2 X_8_1).mono ?_
        rintro e X_8_1_3 ⟨rfl, bb⟩
        try dsimp only
        have BX_8_1_3 := Lib.hid (st BX_8_1.out bb BX_8_1.out.size)
        have KPX_8_1_3 := Lib.hid (Blk.below KPX_8_1.out bb)
        have hSX_8_1_3 := HSS.out X_8_1_3 BX_8_1_3.out
        refine hK3.out _ _ hSX_8_1_3 ?_
        clear hK3 K3 hSX_8_1 bb
        try simp only [Act.put, List.setIfInBounds_toArray, List.set_cons_zero, List.set_cons_succ]
        refine hd_list [4] (by kernel_rfl) (by decide) (by decide) (fun i hi => ?_)
        simp only [List.mem_cons, List.not_mem_nil, or_false] at hi
        subst hi
        refine ⟨_, rfl, fun K4 hK4 => ?_⟩
        go_simp
        refine (andP_any r t (by have := HRT.out; omega) a1 ac1 a2 ac2 b1 bc1 b2 bc2 X_8_1_3 (HNr9.out.below BX_8_1_3.out) (HFr9.out.below BX_8_1_3.out) (HNt9.out.below BX_8_1_3.out) (HFt9.out.below BX_8_1_3.out)).mono ?_
        rintro e X_8_1_3_4 hgot
        have bb := hgot.2
        obtain ⟨z, pez, z1, zc1, z2, zc2, rfl, hgr, hkept⟩ := hgot.kept (by have := HRT.out; omega)
        try dsimp only
        have HGRz := Lib.hid hgr
        have HKEPT := Lib.hid hkept
        have BX_8_1_3_4 := Lib.hid (st BX_8_1_3.out bb BX_8_1_3.out.size)
        have HPL : Hid (p < X_8_1_3.heap.size) := Lib.hid KPX_8_1_3.out.lt
        have KPX_8_1_3_4 := Lib.hid (Blk.below KPX_8_1_3.out bb)
        clear hgot hgr hkept
        have hSX_8_1_3_4 := HSS.out X_8_1_3_4 BX_8_1_3_4.out
        refine hK4.out _ _ hSX_8_1_3_4 ?_
        clear hK4 K4 hSX_8_1_3 bb
        try simp only [Act.put, List.setIfInBounds_toArray, List.set_cons_zero, List.set_cons_succ]
        refine hd_taken 5 (some 69) _ ?hdve5 rfl rfl (by kernel_rfl) (fun _ _ _ h => h) (Or.inl ⟨by rfl, ?hdye5⟩) hSX_8_1_3_4 ?hdre5
        case hdye5 => (intro wx hx; (try dsimp only at hx); go_simp; try with_reducible rfl)
        try simp only [Act.put, List.setIfInBounds_toArray, List.set_cons_zero, List.set_cons_succ]
        refine hd_taken 6 (some 75) _ ?hdve6 rfl rfl (by kernel_rfl) (fun _ _ _ h => h) (Or.inl ⟨by rfl, ?hdye6⟩) hSX_8_1_3_4 ?hdre6
        case hdye6 => (intro wx hx; (try dsimp only at hx); go_simp; try with_reducible rfl)
        try simp only [Act.put, List.setIfInBounds_toArray, List.set_cons_zero, List.set_cons_succ]
        refine hd_taken 7 (some 76) _ ?hdve7 rfl rfl (by kernel_rfl) (fun _ _ _ h => h) (Or.inl ⟨by rfl, ?hdye7⟩) hSX_8_1_3_4 ?hdre7
        case hdye7 => (intro wx hx; (try dsimp only at hx); go_simp; try with_reducible rfl)
        try simp only [Act.put, List.setIfInBounds_toArray, List.set_cons_zero, List.set_cons_succ]
        have xf := KPX_8_1_3_4.out.frozen
        have y0 : X_8_1_3_4.cell? ⟨p, 0, none⟩ = some (.int .i64 0) := KPX_8_1_3_4.out.cell 0
        have y1 : X_8_1_3_4.cell? ⟨p, 1, none⟩ = some (.slice none 0 0) := KPX_8_1_3_4.out.cell 1
        have y2 : X_8_1_3_4.cell? ⟨p, 2, none⟩ = some (.slice none 0 0) := KPX_8_1_3_4.out.cell 2
        have HFIN : Hid (CutQ (prodA (toA r) (toA t) (fun x y => x && y)) (okD r && okD t) (r.nx.length * t.nx.length) w9 (.pointer (some ⟨p, 0, none⟩)) (.int .i64 pez) (put3 X_8_1_3_4 p (.int .i64 z.st) (.slice z1 z.nx.length zc1) (.slice z2 z.ac.length zc2)) ∧ Below w9.heap.size w9 (put3 X_8_1_3_4 p (.int .i64 z.st) (.slice z1 z.nx.length zc1) (.slice z2 z.ac.length zc2))) := Lib.hid (by
          obtain ⟨p1, p2⟩ := put3_ok (n := w9.heap.size) (a' := .int .i64 z.st) (b' := .slice z1 z.nx.length zc1) (c' := .slice z2 z.ac.length zc2) KPX_8_1_3_4.out HPG.out
          obtain ⟨r1, r2⟩ := HKEPT.out _ _ (Fr.grown (put3_grown X_8_1_3_4 p (.int .i64 z.st) (.slice z1 z.nx.length zc1) (.slice z2 z.ac.length zc2)) (X := fun b => b = p) (fun k e => by injection e with e; exact e.symm)) (fun b e => by have e : b = p := e; rw [e]; exact HPL.out)
          have hb := BX_8_1_3_4.out.trans (p2)
          exact ⟨⟨p, z, pez, z1, zc1, z2, zc2, rfl, rfl, p1, r1, r2, HGRz.out, hb⟩, hb⟩)
        have hSF := HSS.out (put3 X_8_1_3_4 p (.int .i64 z.st) (.slice z1 z.nx.length zc1) (.slice z2 z.ac.length zc2)) HFIN.out.2
        refine hd_one 9 _ rfl (by kernel_rfl) (by decide) (fun KS hKS => ?_)
        go_simp
        refine hKS.out _ _ hSF ?_
        clear hKS KS hSX_8_1_3_4 xf y0 y1 y2 hSF HSS
        try simp only [Act.put, List.setIfInBounds_toArray, List.set_cons_zero, List.set_cons_succ]
        refine hd_done (by kernel_rfl) ?_
        simp only [List.drop_succ_cons, List.drop_zero]
        go_wp2_with fail
        go_meet
        exact HFIN.out.1
    case rest =>
    rename World => w10
    obtain ⟨n12, z, pez, z1, zc1, z2, zc2, rfl, rfl, hk, hpN, hpF, hgr, b10⟩ := hcut
    have HNz10 := Lib.hid hpN
    have HFz10 := Lib.hid hpF
    have Kz10 := Lib.hid hk
    have HGRz := Lib.hid hgr
    have HNr10 := Lib.hid (HNr9.out.below b10)
    have HFr10 := Lib.hid (HFr9.out.below b10)
    have HNt10 := Lib.hid (HNt9.out.below b10)
    have HFt10 := Lib.hid (HFt9.out.below b10)
    have Kr10 := Lib.hid (Blk.below Kr9.out b10)
    have Kt10 := Lib.hid (Blk.below Kt9.out b10)
    have HNx10 := Lib.hid (HNx9.out.below b10)
    have HFx10 := Lib.hid (HFx9.out.below b10)
    have Kx10 := Lib.hid (Blk.below Kx9.out b10)
    have HB10 := Lib.hid (st HB9.out b10 HB9.out.size)
    clear b10 hk hpN hpF hgr HSS HNr9 HFr9 HNt9 HFt9 Kr9 Kt9 HNx9 HFx9 Kx9 HB9
    obtain ⟨rfl, hmin, hle⟩ : pez = 0 ∧ IsMin (prodA (toA r) (toA t) (fun x y => x && y)) z ∧ z.nx.length ≤ r.nx.length * t.nx.length := by
      rcases HGRz.out with ⟨h5, _⟩ | ⟨_, h6, h7, h8⟩
      · exact absurd h5 (by simp [HOKr.out, HOKt.out])
      · exact ⟨h6, h7, h8⟩
    have HMz := Lib.hid hmin
    have HLz := Lib.hid hle
    clear hmin hle
    go_upto_region 11 with fail
    have HSS : Hid (∀ wx, Below w10.heap.size w10 wx → (fun wx : World => wx.cell? ⟨g, 0, none⟩ = some (.int .i64 r.st) ∧ wx.cell? ⟨g, 1, none⟩ = some (.slice a1 r.nx.length ac1) ∧ wx.cell? ⟨g, 2, none⟩ = some (.slice a2 r.ac.length ac2) ∧ wx.cell? ⟨(g + 1), 0, none⟩ = some (.int .i64 t.st) ∧ wx.cell? ⟨(g + 1), 1, none⟩ = some (.slice b1 t.nx.length bc1) ∧ wx.cell? ⟨(g + 1), 2, none⟩ = some (.slice b2 t.ac.length bc2)) wx) := Lib.hid (fun wx hb => ⟨(Blk.below Kr10.out hb).cell 0, (Blk.below Kr10.out hb).cell 1, (Blk.below Kr10.out hb).cell 2, (Blk.below Kt10.out hb).cell 0, (Blk.below Kt10.out hb).cell 1, (Blk.below Kt10.out hb).cell 2⟩)
    go_cut [14, 15] from 77 to 84 (fun vp ve wx => CutQ (prodA (toA r) (toA t) (fun x y => x || y)) (okD r && okD t) (r.nx.length * t.nx.length) w10 vp ve wx)
    case first =>
      refine region_hd 10 (fun wx : World => wx.cell? ⟨g, 0, none⟩ = some (.int .i64 r.st) ∧ wx.cell? ⟨g, 1, none⟩ = some (.slice a1 r.nx.length ac1) ∧ wx.cell? ⟨g, 2, none⟩ = some (.slice a2 r.ac.length ac2) ∧ wx.cell? ⟨(g + 1), 0, none⟩ = some (.int .i64 t.st) ∧ wx.cell? ⟨(g + 1), 1, none⟩ = some (.slice b1 t.nx.length bc1) ∧ wx.cell? ⟨(g + 1), 2, none⟩ = some (.slice b2 t.ac.length bc2)) (by kernel_rfl) (by kernel_rfl) ?_
      have BX := Lib.hid ((Below.refl w10.heap.size w10).drew)
      obtain ⟨X, hX⟩ : ∃ X, w10.drew = X := ⟨_, rfl⟩
      rw [hX] at BX ⊢
      clear hX
      have hSX := HSS.out X BX.out
      refine hd_taken 0 (some 78) _ ?hdvf0 rfl rfl (by kernel_rfl) (fun _ _ _ h => h) (Or.inl ⟨by rfl, ?hdyf0⟩) hSX ?hdrf0
      case hdyf0 => (intro wx hx; (try dsimp only at hx); go_simp; try with_reducible rfl)
      try simp only [Act.put, List.setIfInBounds_toArray, List.set_cons_zero, List.set_cons_succ]
      refine hd_taken 2 (some 80) _ ?hdvf2 rfl rfl (by kernel_rfl) (fun _ _ _ h => h) (Or.inl ⟨by rfl, ?hdyf2⟩) hSX ?hdrf2
      case hdyf2 => (intro wx hx; (try dsimp only at hx); go_simp; try with_reducible rfl)
      try simp only [Act.put, List.setIfInBounds_toArray, List.set_cons_zero, List.set_cons_succ]
      refine hd_list [1, 8] (by kernel_rfl) (by decide) (by decide) (fun i hi => ?_)
      simp only [List.mem_cons, List.not_mem_nil, or_false] at hi
      rcases hi with rfl | rfl
      · refine ⟨_, rfl, fun K1 hK1 => ?_⟩
        go_simp
        refine (to_any r.st a1 r.nx.length ac1 a2 r.ac.length ac2 X).mono ?_
        rintro e X_1 ⟨rfl, bb⟩
        try dsimp only
        have BX_1 := Lib.hid (st BX.out bb BX.out.size)
        have hSX_1 := HSS.out X_1 BX_1.out
        refine hK1.out _ _ hSX_1 ?_
        clear hK1 K1 hSX bb
        try simp only [Act.put, List.setIfInBounds_toArray, List.set_cons_zero, List.set_cons_succ]
        refine hd_list [3, 8] (by kernel_rfl) (by decide) (by decide) (fun i hi => ?_)
        simp only [List.mem_cons, List.not_mem_nil, or_false] at hi
        rcases hi with rfl | rfl
        · refine ⟨_, rfl, fun K3 hK3 => ?_⟩
          go_simp
          refine (to_any t.st b1 t.nx.length bc1 b2 t.ac.length bc2 X_1).mono ?_
          rintro e X_1_3 ⟨rfl, bb⟩
          try dsimp only
          have BX_1_3 := Lib.hid (st BX_1.out bb BX_1.out.size)
          have hSX_1_3 := HSS.out X_1_3 BX_1_3.out
          refine hK3.out _ _ hSX_1_3 ?_
          clear hK3 K3 hSX_1 bb
          try simp only [Act.put, List.setIfInBounds_toArray, List.set_cons_zero, List.set_cons_succ]
          refine hd_list [4, 8] (by kernel_rfl) (by decide) (by decide) (fun i hi => ?_)
          simp only [List.mem_cons, List.not_mem_nil, or_false] at hi
          rcases hi with rfl | rfl
          · refine ⟨_, rfl, fun K4 hK4 => ?_⟩
            go_simp
            refine (orP_any r t (by have := HRT.out; omega) a1 ac1 a2 ac2 b1 bc1 b2 bc2 X_1_3 (HNr10.out.below BX_1_3.out) (HFr10.out.below BX_1_3.out) (HNt10.out.below BX_1_3.out) (HFt10.out.below BX_1_3.out)).mono ?_
            rintro e X_1_3_4 hgot
            have bb := hgot.2
            obtain ⟨o, peo, o1, oc1, o2, oc2, rfl, hgr, hkept⟩ := hgot.kept (by have := HRT.out; omega)
            try dsimp only
            have HGRo := Lib.hid hgr
            have HKEPT := Lib.hid hkept
            have BX_1_3_4 := Lib.hid (st BX_1_3.out bb BX_1_3.out.size)
            clear hgot hgr hkept
            have hSX_1_3_4 := HSS.out X_1_3_4 BX_1_3_4.out
            refine hK4.out _ _ hSX_1_3_4 ?_
            clear hK4 K4 hSX_1_3 bb
            try simp only [Act.put, List.setIfInBounds_toArray, List.set_cons_zero, List.set_cons_succ]
            refine hd_taken 5 (some 77) _ ?hdvg5 rfl rfl (by kernel_rfl) (fun _ _ _ h => h) (Or.inl ⟨by rfl, ?hdyg5⟩) hSX_1_3_4 ?hdrg5
            case hdyg5 => (intro wx hx; (try dsimp only at hx); go_simp; try with_reducible rfl)
            try simp only [Act.put, List.setIfInBounds_toArray, List.set_cons_zero, List.set_cons_succ]
            refine hd_taken 6 (some 83) _ ?hdvg6 rfl rfl (by kernel_rfl) (fun _ _ _ h => h) (Or.inl ⟨by rfl, ?hdyg6⟩) hSX_1_3_4 ?hdrg6
            case hdyg6 => (intro wx hx; (try dsimp only at hx); go_simp; try with_reducible rfl)
            try simp only [Act.put, List.setIfInBounds_toArray, List.set_cons_zero, List.set_cons_succ]
            refine hd_taken 7 (some 84) _ ?hdvg7 rfl rfl (by kernel_rfl) (fun _ _ _ h => h) (Or.inl ⟨by rfl, ?hdyg7⟩) hSX_1_3_4 ?hdrg7
            case hdyg7 => (intro wx hx; (try dsimp only at hx); go_simp; try with_reducible rfl)
            try simp only [Act.put, List.setIfInBounds_toArray, List.set_cons_zero, List.set_cons_succ]
            refine hd_list [8] (by kernel_rfl) (by decide) (by decide) (fun i hi => ?_)
            simp only [List.mem_cons, List.not_mem_nil, or_false] at hi
            subst hi
            refine ⟨_, rfl, fun K8 hK8 => ?_⟩
            go_simp
            have bb := (Below.refl X_1_3_4.heap.size X_1_3_4).alloc (Nat.le_refl _) (.cells #[.int .i64 0, .slice none 0 0, .slice none 0 0] 29)
            have kp := Blk.new X_1_3_4 29 #[.int .i64 0, .slice none 0 0, .slice none 0 0]
            obtain ⟨p, hp⟩ : ∃ p, X_1_3_4.heap.size = p := ⟨_, rfl⟩
            obtain ⟨X_1_3_4_8, hX_1_3_4_8⟩ : ∃ X_1_3_4_8, X_1_3_4.alloc (.cells #[.int .i64 0, .slice none 0 0, .slice none 0 0] 29) = X_1_3_4_8 := ⟨_, rfl⟩
            rw [hX_1_3_4_8] at bb kp
            have BX_1_3_4_8 := Lib.hid (st BX_1_3_4.out bb BX_1_3_4.out.size)
            have HPG : Hid (w10.heap.size ≤ p) := Lib.hid (by rw [← hp]; exact BX_1_3_4.out.size)
            rw [hp] at kp
            have KPX_1_3_4_8 := Lib.hid kp
            have HPA : Hid (Below X_1_3_4.heap.size X_1_3_4 X_1_3_4_8) := Lib.hid bb
            rw [hp] at HPA
            have HPE := Lib.hid hp
            rw [hp, hX_1_3_4_8]
            have hSX_1_3_4_8 := HSS.out X_1_3_4_8 BX_1_3_4_8.out
            refine hK8.out _ _ hSX_1_3_4_8 ?_
            clear hK8 K8 hSX_1_3_4 bb kp hp hX_1_3_4_8
            try simp only [Act.put, List.setIfInBounds_toArray, List.set_cons_zero, List.set_cons_succ]
            have xf := KPX_1_3_4_8.out.frozen
            have y0 : X_1_3_4_8.cell? ⟨p, 0, none⟩ = some (.int .i64 0) := KPX_1_3_4_8.out.cell 0
            have y1 : X_1_3_4_8.cell? ⟨p, 1, none⟩ = some (.slice none 0 0) := KPX_1_3_4_8.out.cell 1
            have y2 : X_1_3_4_8.cell? ⟨p, 2, none⟩ = some (.slice none 0 0) := KPX_1_3_4_8.out.cell 2
            have HFIN : Hid (CutQ (prodA (toA r) (toA t) (fun x y => x || y)) (okD r && okD t) (r.nx.length * t.nx.length) w10 (.pointer (some ⟨p, 0, none⟩)) (.int .i64 peo) (put3 X_1_3_4_8 p (.int .i64 o.st) (.slice o1 o.nx.length oc1) (.slice o2 o.ac.length oc2)) ∧ Below w10.heap.size w10 (put3 X_1_3_4_8 p (.int .i64 o.st) (.slice o1 o.nx.length oc1) (.slice o2 o.ac.length oc2))) := Lib.hid (by
              obtain ⟨p1, p2⟩ := put3_ok (n := p) (a' := .int .i64 o.st) (b' := .slice o1 o.nx.length oc1) (c' := .slice o2 o.ac.length oc2) KPX_1_3_4_8.out (Nat.le_refl p)
              obtain ⟨r1, r2⟩ := HKEPT.out _ _ (Fr.of_below (X := fun _ => False) ((HPA.out.trans p2).mono (Nat.le_of_eq HPE.out))) (fun b e => e.elim)
              have hb := BX_1_3_4_8.out.trans (p2.mono HPG.out)
              exact ⟨⟨p, o, peo, o1, oc1, o2, oc2, rfl, rfl, p1, r1, r2, HGRo.out, hb⟩, hb⟩)
            have hSF := HSS.out (put3 X_1_3_4_8 p (.int .i64 o.st) (.slice o1 o.nx.length oc1) (.slice o2 o.ac.length oc2)) HFIN.out.2
            refine hd_one 9 _ rfl (by kernel_rfl) (by decide) (fun KS hKS => ?_)
            go_simp
            refine hKS.out _ _ hSF ?_
            clear hKS KS hSX_1_3_4_8 xf y0 y1 y2 hSF HSS
            try simp only [Act.put, List.setIfInBounds_toArray, List.set_cons_zero, List.set_cons_succ]
            refine hd_done (by kernel_rfl) ?_
            simp only [List.drop_succ_cons, List.drop_zero]
            go_wp2_with fail
            go_meet
            exact HFIN.out.1
          · refine ⟨_, rfl, fun K8 hK8 => ?_⟩
            go_simp
            have bb := (Below.refl X_1_3.heap.size X_1_3).alloc (Nat.le_refl _) (.cells #[.int .i64 0, .slice none 0 0, .slice none 0 0] 29)
            have kp := Blk.new X_1_3 29 #[.int .i64 0, .slice none 0 0, .slice none 0 0]
            obtain ⟨p, hp⟩ : ∃ p, X_1_3.heap.size = p := ⟨_, rfl⟩
            obtain ⟨X_1_3_8, hX_1_3_8⟩ : ∃ X_1_3_8, X_1_3.alloc (.cells #[.int .i64 0, .slice none 0 0, .slice none 0 0] 29) = X_1_3_8 := ⟨_, rfl⟩
            rw [hX_1_3_8] at bb kp
            have BX_1_3_8 := Lib.hid (st BX_1_3.out bb BX_1_3.out.size)
            have HPG : Hid (w10.heap.size ≤ p) := Lib.hid (by rw [← hp]; exact BX_1_3.out.size)
            rw [hp] at kp
            have KPX_1_3_8 := Lib.hid kp
            rw [hp, hX_1_3_8]
            have hSX_1_3_8 := HSS.out X_1_3_8 BX_1_3_8.out
            refine hK8.out _ _ hSX_1_3_8 ?_
            clear hK8 K8 hSX_1_3 bb kp hp hX_1_3_8
            try simp only [Act.put, List.setIfInBounds_toArray, List.set_cons_zero, List.set_cons_succ]
            refine hd_list [4] (by kernel_rfl) (by decide) (by decide) (fun i hi => ?_)
            simp only [List.mem_cons, List.not_mem_nil, or_false] at hi
            subst hi
            refine ⟨_, rfl, fun K4 hK4 => ?_⟩
            go_simp
            refine (orP_any r t (by have := HRT.out; omega) a1 ac1 a2 ac2 b1 bc1 b2 bc2 X_1_3_8 (HNr10.out.below BX_1_3_8.out) (HFr10.out.below BX_1_3_8.out) (HNt10.out.below BX_1_3_8.out) (HFt10.out.below BX_1_3_8.out)).mono ?_
            rintro e X_1_3_8_4 hgot
            have bb := hgot.2
            obtain ⟨o, peo, o1, oc1, o2, oc2, rfl, hgr, hkept⟩ := hgot.kept (by have := HRT.out; omega)
            try dsimp only
            have HGRo := Lib.hid hgr
            have HKEPT := Lib.hid hkept
            have BX_1_3_8_4 := Lib.hid (st BX_1_3_8.out bb BX_1_3_8.out.size)
            have HPL : Hid (p < X_1_3_8.heap.size) := Lib.hid KPX_1_3_8.out.lt
            have KPX_1_3_8_4 := Lib.hid (Blk.below KPX_1_3_8.out bb)
            clear hgot hgr hkept
            have hSX_1_3_8_4 := HSS.out X_1_3_8_4 BX_1_3_8_4.out
            refine hK4.out _ _ hSX_1_3_8_4 ?_
            clear hK4 K4 hSX_1_3_8 bb
            try simp only [Act.put, List.setIfInBounds_toArray, List.set_cons_zero, List.set_cons_succ]
            refine hd_taken 5 (some 77) _ ?hdvh5 rfl rfl (by kernel_rfl) (fun _ _ _ h => h) (Or.inl ⟨by rfl, ?hdyh5⟩) hSX_1_3_8_4 ?hdrh5
            case hdyh5 => (intro wx hx; (try dsimp only at hx); go_simp; try with_reducible rfl)
            try simp only [Act.put, List.setIfInBounds_toArray, List.set_cons_zero, List.set_cons_succ]
            refine hd_taken 6 (some 83) _ ?hdvh6 rfl rfl (by kernel_rfl) (fun _ _ _ h => h) (Or.inl ⟨by rfl, ?hdyh6⟩) hSX_1_3_8_4 ?hdrh6
            case hdyh6 => (intro wx hx; (try dsimp only at hx); go_simp; try with_reducible rfl)
            try simp only [Act.put, List.setIfInBounds_toArray, List.set_cons_zero, List.set_cons_succ]
            refine hd_taken 7 (some 84) _ ?hdvh7 rfl rfl (by kernel_rfl) (fun _ _ _ h => h) (Or.inl ⟨by rfl, ?hdyh7⟩) hSX_1_3_8_4 ?hdrh7
            case hdyh7 => (intro wx hx; (try dsimp only at hx); go_simp; try with_reducible rfl)
            try simp only [Act.put, List.setIfInBounds_toArray, List.set_cons_zero, List.set_cons_succ]
            have xf := KPX_1_3_8_4.out.frozen
            have y0 : X_1_3_8_4.cell? ⟨p, 0, none⟩ = some (.int .i64 0) := KPX_1_3_8_4.out.cell 0
            have y1 : X_1_3_8_4.cell? ⟨p, 1, none⟩ = some (.slice none 0 0) := KPX_1_3_8_4.out.cell 1
            have y2 : X_1_3_8_4.cell? ⟨p, 2, none⟩ = some (.slice none 0 0) := KPX_1_3_8_4.out.cell 2
            have HFIN : Hid (CutQ (prodA (toA r) (toA t) (fun x y => x || y)) (okD r && okD t) (r.nx.length * t.nx.length) w10 (.pointer (some ⟨p, 0, none⟩)) (.int .i64 peo) (put3 X_1_3_8_4 p (.int .i64 o.st) (.slice o1 o.nx.length oc1) (.slice o2 o.ac.length oc2)) ∧ Below w10.heap.size w10 (put3 X_1_3_8_4 p (.int .i64 o.st) (.slice o1 o.nx.length oc1) (.slice o2 o.ac.length oc2))) := Lib.hid (by
              obtain ⟨p1, p2⟩ := put3_ok (n := w10.heap.size) (a' := .int .i64 o.st) (b' := .slice o1 o.nx.length oc1) (c' := .slice o2 o.ac.length oc2) KPX_1_3_8_4.out HPG.out
              obtain ⟨r1, r2⟩ := HKEPT.out _ _ (Fr.grown (put3_grown X_1_3_8_4 p (.int .i64 o.st) (.slice o1 o.nx.length oc1) (.slice o2 o.ac.length oc2)) (X := fun b => b = p) (fun k e => by injection e with e; exact e.symm)) (fun b e => by have e : b = p := e; rw [e]; exact HPL.out)
              have hb := BX_1_3_8_4.out.trans (p2)
              exact ⟨⟨p, o, peo, o1, oc1, o2, oc2, rfl, rfl, p1, r1, r2, HGRo.out, hb⟩, hb⟩)
            have hSF := HSS.out (put3 X_1_3_8_4 p (.int .i64 o.st) (.slice o1 o.nx.length oc1) (.slice o2 o.ac.length oc2)) HFIN.out.2
            refine hd_one 9 _ rfl (by kernel_rfl) (by decide) (fun KS hKS => ?_)
            go_simp
            refine hKS.out _ _ hSF ?_
            clear hKS KS hSX_1_3_8_4 xf y0 y1 y2 hSF HSS
            try simp only [Act.put, List.setIfInBounds_toArray, List.set_cons_zero, List.set_cons_succ]
            refine hd_done (by kernel_rfl) ?_
            simp only [List.drop_succ_cons, List.drop_zero]
            go_wp2_with fail
            go_meet
            exact HFIN.out.1
        · refine ⟨_, rfl, fun K8 hK8 => ?_⟩
          go_simp
          have bb := (Below.refl X_1.heap.size X_1).alloc (Nat.le_refl _) (.cells #[.int .i64 0, .slice none 0 0, .slice none 0 0] 29)
          have kp := Blk.new X_1 29 #[.int .i64 0, .slice none 0 0, .slice none 0 0]
          obtain ⟨p, hp⟩ : ∃ p, X_1.heap.size = p := ⟨_, rfl⟩
          obtain ⟨X_1_8, hX_1_8⟩ : ∃ X_1_8, X_1.alloc (.cells #[.int .i64 0, .slice none 0 0, .slice none 0 0] 29) = X_1_8 := ⟨_, rfl⟩
          rw [hX_1_8] at bb kp
          have BX_1_8 := Lib.hid (st BX_1.out bb BX_1.out.size)
          have HPG : Hid (w10.heap.size ≤ p) := Lib.hid (by rw [← hp]; exact BX_1.out.size)
          rw [hp] at kp
          have KPX_1_8 := Lib.hid kp
          rw [hp, hX_1_8]
          have hSX_1_8 := HSS.out X_1_8 BX_1_8.out
          refine hK8.out _ _ hSX_1_8 ?_
          clear hK8 K8 hSX_1 bb kp hp hX_1_8
          try simp only [Act.put, List.setIfInBounds_toArray, List.set_cons_zero, List.set_cons_succ]
          refine hd_list [3] (by kernel_rfl) (by decide) (by decide) (fun i hi => ?_)
          simp only [List.mem_cons, List.not_mem_nil, or_false] at hi
          subst hi
          refine ⟨_, rfl, fun K3 hK3 => ?_⟩
          go_simp
          refine (to_any t.st b1 t.nx.length bc1 b2 t.ac.length bc2 X_1_8).mono ?_
          rintro e X_1_8_3 ⟨rfl, bb⟩
          try dsimp only
          have BX_1_8_3 := Lib.hid (st BX_1_8.out bb BX_1_8.out.size)
          have KPX_1_8_3 := Lib.hid (Blk.below KPX_1_8.out bb)
          have hSX_1_8_3 := HSS.out X_1_8_3 BX_1_8_3.out
          refine hK3.out _ _ hSX_1_8_3 ?_
          clear hK3 K3 hSX_1_8 bb
          try simp only [Act.put, List.setIfInBounds_toArray, List.set_cons_zero, List.set_cons_succ]
          refine hd_list [4] (by kernel_rfl) (by decide) (by decide) (fun i hi => ?_)
          simp only [List.mem_cons, List.not_mem_nil, or_false] at hi
          subst hi
          refine ⟨_, rfl, fun K4 hK4 => ?_⟩
          go_simp
          refine (orP_any r t (by have := HRT.out; omega) a1 ac1 a2 ac2 b1 bc1 b2 bc2 X_1_8_3 (HNr10.out.below BX_1_8_3.out) (HFr10.out.below BX_1_8_3.out) (HNt10.out.below BX_1_8_3.out) (HFt10.out.below BX_1_8_3.out)).mono ?_
          rintro e X_1_8_3_4 hgot
          have bb := hgot.2
          obtain ⟨o, peo, o1, oc1, o2, oc2, rfl, hgr, hkept⟩ := hgot.kept (by have := HRT.out; omega)
          try dsimp only
          have HGRo := Lib.hid hgr
          have HKEPT := Lib.hid hkept
          have BX_1_8_3_4 := Lib.hid (st BX_1_8_3.out bb BX_1_8_3.out.size)
          have HPL : Hid (p < X_1_8_3.heap.size) := Lib.hid KPX_1_8_3.out.lt
          have KPX_1_8_3_4 := Lib.hid (Blk.below KPX_1_8_3.out bb)
          clear hgot hgr hkept
          have hSX_1_8_3_4 := HSS.out X_1_8_3_4 BX_1_8_3_4.out
          refine hK4.out _ _ hSX_1_8_3_4 ?_
          clear hK4 K4 hSX_1_8_3 bb
          try simp only [Act.put, List.setIfInBounds_toArray, List.set_cons_zero, List.set_cons_succ]
          refine hd_taken 5 (some 77) _ ?hdvi5 rfl rfl (by kernel_rfl) (fun _ _ _ h => h) (Or.inl ⟨by rfl, ?hdyi5⟩) hSX_1_8_3_4 ?hdri5
          case hdyi5 => (intro wx hx; (try dsimp only at hx); go_simp; try with_reducible rfl)
          try simp only [Act.put, List.setIfInBounds_toArray, List.set_cons_zero, List.set_cons_succ]
          refine hd_taken 6 (some 83) _ ?hdvi6 rfl rfl (by kernel_rfl) (fun _ _ _ h => h) (Or.inl ⟨by rfl, ?hdyi6⟩) hSX_1_8_3_4 ?hdri6
          case hdyi6 => (intro wx hx; (try dsimp only at hx); go_simp; try with_reducible rfl)
          try simp only [Act.put, List.setIfInBounds_toArray, List.set_cons_zero, List.set_cons_succ]
          refine hd_taken 7 (some 84) _ ?hdvi7 rfl rfl (by kernel_rfl) (fun _ _ _ h => h) (Or.inl ⟨by rfl, ?hdyi7⟩) hSX_1_8_3_4 ?hdri7
          case hdyi7 => (intro wx hx; (try dsimp only at hx); go_simp; try with_reducible rfl)
          try simp only [Act.put, List.setIfInBounds_toArray, List.set_cons_zero, List.set_cons_succ]
          have xf := KPX_1_8_3_4.out.frozen
          have y0 : X_1_8_3_4.cell? ⟨p, 0, none⟩ = some (.int .i64 0) := KPX_1_8_3_4.out.cell 0
          have y1 : X_1_8_3_4.cell? ⟨p, 1, none⟩ = some (.slice none 0 0) := KPX_1_8_3_4.out.cell 1
          have y2 : X_1_8_3_4.cell? ⟨p, 2, none⟩ = some (.slice none 0 0) := KPX_1_8_3_4.out.cell 2
          have HFIN : Hid (CutQ (prodA (toA r) (toA t) (fun x y => x || y)) (okD r && okD t) (r.nx.length * t.nx.length) w10 (.pointer (some ⟨p, 0, none⟩)) (.int .i64 peo) (put3 X_1_8_3_4 p (.int .i64 o.st) (.slice o1 o.nx.length oc1) (.slice o2 o.ac.length oc2)) ∧ Below w10.heap.size w10 (put3 X_1_8_3_4 p (.int .i64 o.st) (.slice o1 o.nx.length oc1) (.slice o2 o.ac.length oc2))) := Lib.hid (by
            obtain ⟨p1, p2⟩ := put3_ok (n := w10.heap.size) (a' := .int .i64 o.st) (b' := .slice o1 o.nx.length oc1) (c' := .slice o2 o.ac.length oc2) KPX_1_8_3_4.out HPG.out
            obtain ⟨r1, r2⟩ := HKEPT.out _ _ (Fr.grown (put3_grown X_1_8_3_4 p (.int .i64 o.st) (.slice o1 o.nx.length oc1) (.slice o2 o.ac.length oc2)) (X := fun b => b = p) (fun k e => by injection e with e; exact e.symm)) (fun b e => by have e : b = p := e; rw [e]; exact HPL.out)
            have hb := BX_1_8_3_4.out.trans (p2)
            exact ⟨⟨p, o, peo, o1, oc1, o2, oc2, rfl, rfl, p1, r1, r2, HGRo.out, hb⟩, hb⟩)
          have hSF := HSS.out (put3 X_1_8_3_4 p (.int .i64 o.st) (.slice o1 o.nx.length oc1) (.slice o2 o.ac.length oc2)) HFIN.out.2
          refine hd_one 9 _ rfl (by kernel_rfl) (by decide) (fun KS hKS => ?_)
          go_simp
          refine hKS.out _ _ hSF ?_
          clear hKS KS hSX_1_8_3_4 xf y0 y1 y2 hSF HSS
          try simp only [Act.put, List.setIfInBounds_toArray, List.set_cons_zero, List.set_cons_succ]
          refine hd_done (by kernel_rfl) ?_
          simp only [List.drop_succ_cons, List.drop_zero]
          go_wp2_with fail
          go_meet
          exact HFIN.out.1
      · refine ⟨_, rfl, fun K8 hK8 => ?_⟩
        go_simp
        have bb := (Below.refl X.heap.size X).alloc (Nat.le_refl _) (.cells #[.int .i64 0, .slice none 0 0, .slice none 0 0] 29)
        have kp := Blk.new X 29 #[.int .i64 0, .slice none 0 0, .slice none 0 0]
        obtain ⟨p, hp⟩ : ∃ p, X.heap.size = p := ⟨_, rfl⟩
        obtain ⟨X_8, hX_8⟩ : ∃ X_8, X.alloc (.cells #[.int .i64 0, .slice none 0 0, .slice none 0 0] 29) = X_8 := ⟨_, rfl⟩
        rw [hX_8] at bb kp
        have BX_8 := Lib.hid (st BX.out bb BX.out.size)
        have HPG : Hid (w10.heap.size ≤ p) := Lib.hid (by rw [← hp]; exact BX.out.size)
        rw [hp] at kp
        have KPX_8 := Lib.hid kp
        rw [hp, hX_8]
        have hSX_8 := HSS.out X_8 BX_8.out
        refine hK8.out _ _ hSX_8 ?_
        clear hK8 K8 hSX bb kp hp hX_8
        try simp only [Act.put, List.setIfInBounds_toArray, List.set_cons_zero, List.set_cons_succ]
        refine hd_list [1] (by kernel_rfl) (by decide) (by decide) (fun i hi => ?_)
        simp only [List.mem_cons, List.not_mem_nil, or_false] at hi
        subst hi
        refine ⟨_, rfl, fun K1 hK1 => ?_⟩
        go_simp
        refine (to_any r.st a1 r.nx.length ac1 a2 r.ac.length ac2 X_8).mono ?_
        rintro e X_8_1 ⟨rfl, bb⟩
        try dsimp only
        have BX_8_1 := Lib.hid (st BX_8.out bb BX_8.out.size)
        have KPX_8_1 := Lib.hid (Blk.below KPX_8.out bb)
        have hSX_8_1 := HSS.out X_8_1 BX_8_1.out
        refine hK1.out _ _ hSX_8_1 ?_
        clear hK1 K1 hSX_8 bb
        try simp only [Act.put, List.setIfInBounds_toArray, List.set_cons_zero, List.set_cons_succ]
        refine hd_list [3] (by kernel_rfl) (by decide) (by decide) (fun i hi => ?_)
        simp only [List.mem_cons, List.not_mem_nil, or_false] at hi
        subst hi
        refine ⟨_, rfl, fun K3 hK3 => ?_⟩
        go_simp
        refine (to_any t.st b1 t.nx.length bc1 b2 t.ac.length bc2 X_8_1).mono ?_
        rintro e X_8_1_3 ⟨rfl, bb⟩
        try dsimp only
        have BX_8_1_3 := Lib.hid (st BX_8_1.out bb BX_8_1.out.size)
        have KPX_8_1_3 := Lib.hid (Blk.below KPX_8_1.out bb)
        have hSX_8_1_3 := HSS.out X_8_1_3 BX_8_1_3.out
        refine hK3.out _ _ hSX_8_1_3 ?_
        clear hK3 K3 hSX_8_1 bb
        try simp only [Act.put, List.setIfInBounds_toArray, List.set_cons_zero, List.set_cons_succ]
        refine hd_list [4] (by kernel_rfl) (by decide) (by decide) (fun i hi => ?_)
        simp only [List.mem_cons, List.not_mem_nil, or_false] at hi
        subst hi
        refine ⟨_, rfl, fun K4 hK4 => ?_⟩
        go_simp
        refine (orP_any r t (by have := HRT.out; omega) a1 ac1 a2 ac2 b1 bc1 b2 bc2 X_8_1_3 (HNr10.out.below BX_8_1_3.out) (HFr10.out.below BX_8_1_3.out) (HNt10.out.below BX_8_1_3.out) (HFt10.out.below BX_8_1_3.out)).mono ?_
        rintro e X_8_1_3_4 hgot
        have bb := hgot.2
        obtain ⟨o, peo, o1, oc1, o2, oc2, rfl, hgr, hkept⟩ := hgot.kept (by have := HRT.out; omega)
        try dsimp only
        have HGRo := Lib.hid hgr
        have HKEPT := Lib.hid hkept
        have BX_8_1_3_4 := Lib.hid (st BX_8_1_3.out bb BX_8_1_3.out.size)
        have HPL : Hid (p < X_8_1_3.heap.size) := Lib.hid KPX_8_1_3.out.lt
        have KPX_8_1_3_4 := Lib.hid (Blk.below KPX_8_1_3.out bb)
        clear hgot hgr hkept
        have hSX_8_1_3_4 := HSS.out X_8_1_3_4 BX_8_1_3_4.out
        refine hK4.out _ _ hSX_8_1_3_4 ?_
        clear hK4 K4 hSX_8_1_3 bb
        try simp only [Act.put, List.setIfInBounds_toArray, List.set_cons_zero, List.set_cons_succ]
        refine hd_taken 5 (some 77) _ ?hdvj5 rfl rfl (by kernel_rfl) (fun _ _ _ h => h) (Or.inl ⟨by rfl, ?hdyj5⟩) hSX_8_1_3_4 ?hdrj5
        case hdyj5 => (intro wx hx; (try dsimp only at hx); go_simp; try with_reducible rfl)
        try simp only [Act.put, List.setIfInBounds_toArray, List.set_cons_zero, List.set_cons_succ]
        refine hd_taken 6 (some 83) _ ?hdvj6 rfl rfl (by kernel_rfl) (fun _ _ _ h => h) (Or.inl ⟨by rfl, ?hdyj6⟩) hSX_8_1_3_4 ?hdrj6
        case hdyj6 => (intro wx hx; (try dsimp only at hx); go_simp; try with_reducible rfl)
        try simp only [Act.put, List.setIfInBounds_toArray, List.set_cons_zero, List.set_cons_succ]
        refine hd_taken 7 (some 84) _ ?hdvj7 rfl rfl (by kernel_rfl) (fun _ _ _ h => h) (Or.inl ⟨by rfl, ?hdyj7⟩) hSX_8_1_3_4 ?hdrj7
        case hdyj7 => (intro wx hx; (try dsimp only at hx); go_simp; try with_reducible rfl)
        try simp only [Act.put, List.setIfInBounds_toArray, List.set_cons_zero, List.set_cons_succ]
        have xf := KPX_8_1_3_4.out.frozen
        have y0 : X_8_1_3_4.cell? ⟨p, 0, none⟩ = some (.int .i64 0) := KPX_8_1_3_4.out.cell 0
        have y1 : X_8_1_3_4.cell? ⟨p, 1, none⟩ = some (.slice none 0 0) := KPX_8_1_3_4.out.cell 1
        have y2 : X_8_1_3_4.cell? ⟨p, 2, none⟩ = some (.slice none 0 0) := KPX_8_1_3_4.out.cell 2
        have HFIN : Hid (CutQ (prodA (toA r) (toA t) (fun x y => x || y)) (okD r && okD t) (r.nx.length * t.nx.length) w10 (.pointer (some ⟨p, 0, none⟩)) (.int .i64 peo) (put3 X_8_1_3_4 p (.int .i64 o.st) (.slice o1 o.nx.length oc1) (.slice o2 o.ac.length oc2)) ∧ Below w10.heap.size w10 (put3 X_8_1_3_4 p (.int .i64 o.st) (.slice o1 o.nx.length oc1) (.slice o2 o.ac.length oc2))) := Lib.hid (by
          obtain ⟨p1, p2⟩ := put3_ok (n := w10.heap.size) (a' := .int .i64 o.st) (b' := .slice o1 o.nx.length oc1) (c' := .slice o2 o.ac.length oc2) KPX_8_1_3_4.out HPG.out
          obtain ⟨r1, r2⟩ := HKEPT.out _ _ (Fr.grown (put3_grown X_8_1_3_4 p (.int .i64 o.st) (.slice o1 o.nx.length oc1) (.slice o2 o.ac.length oc2)) (X := fun b => b = p) (fun k e => by injection e with e; exact e.symm)) (fun b e => by have e : b = p := e; rw [e]; exact HPL.out)
          have hb := BX_8_1_3_4.out.trans (p2)
          exact ⟨⟨p, o, peo, o1, oc1, o2, oc2, rfl, rfl, p1, r1, r2, HGRo.out, hb⟩, hb⟩)
        have hSF := HSS.out (put3 X_8_1_3_4 p (.int .i64 o.st) (.slice o1 o.nx.length oc1) (.slice o2 o.ac.length oc2)) HFIN.out.2
        refine hd_one 9 _ rfl (by kernel_rfl) (by decide) (fun KS hKS => ?_)
        go_simp
        refine hKS.out _ _ hSF ?_
        clear hKS KS hSX_8_1_3_4 xf y0 y1 y2 hSF HSS
        try simp only [Act.put, List.setIfInBounds_toArray, List.set_cons_zero, List.set_cons_succ]
        refine hd_done (by kernel_rfl) ?_
        simp only [List.drop_succ_cons, List.drop_zero]
        go_wp2_with fail
        go_meet
        exact HFIN.out.1
    case rest =>
    rename World => w11
    obtain ⟨n14, o, peo, o1, oc1, o2, oc2, rfl, rfl, hk, hpN, hpF, hgr, b11⟩ := hcut
    have HNo11 := Lib.hid hpN
    have HFo11 := Lib.hid hpF
    have Ko11 := Lib.hid hk
    have HGRo := Lib.hid hgr
    have HNr11 := Lib.hid (HNr10.out.below b11)
    have HFr11 := Lib.hid (HFr10.out.below b11)
    have HNt11 := Lib.hid (HNt10.out.below b11)
    have HFt11 := Lib.hid (HFt10.out.below b11)
    have Kr11 := Lib.hid (Blk.below Kr10.out b11)
    have Kt11 := Lib.hid (Blk.below Kt10.out b11)
    have HNx11 := Lib.hid (HNx10.out.below b11)
    have HFx11 := Lib.hid (HFx10.out.below b11)
    have Kx11 := Lib.hid (Blk.below Kx10.out b11)
    have HNz11 := Lib.hid (HNz10.out.below b11)
    have HFz11 := Lib.hid (HFz10.out.below b11)
    have Kz11 := Lib.hid (Blk.below Kz10.out b11)
    have HB11 := Lib.hid (st HB10.out b11 HB10.out.size)
    clear b11 hk hpN hpF hgr HSS HNr10 HFr10 HNt10 HFt10 Kr10 Kt10 HNx10 HFx10 Kx10 HNz10 HFz10 Kz10 HB10
    obtain ⟨rfl, hmin, hle⟩ : peo = 0 ∧ IsMin (prodA (toA r) (toA t) (fun x y => x || y)) o ∧ o.nx.length ≤ r.nx.length * t.nx.length := by
      rcases HGRo.out with ⟨h5, _⟩ | ⟨_, h6, h7, h8⟩
      · exact absurd h5 (by simp [HOKr.out, HOKt.out])
      · exact ⟨h6, h7, h8⟩
    have HMo := Lib.hid hmin
    have HLo := Lib.hid hle
    clear hmin hle
    have RX : Hid (runP x s.data.toList = !P) := Lib.hid (by rw [HMx.out.runE HW.out, compl_acc, show (compl (toA r)).s0 = (toA r).s0 from rfl, HPV.out])
    have RZ : Hid (runP z s.data.toList = (P && Q)) := Lib.hid (by rw [HMz.out.runE HW.out, prod_start HR.out.ok HT.out.ok (word_wdN _), HPV.out, HQV.out])
    have RO : Hid (runP o s.data.toList = (P || Q)) := Lib.hid (by rw [HMo.out.runE HW.out, prod_start HR.out.ok HT.out.ok (word_wdN _), HPV.out, HQV.out])
    go_upto_region 12 with fail
    have fKx0 : w11.cell? ⟨n10, 0, none⟩ = some (.int .i64 x.st) := Kx11.out.cell 0
    have fKx1 : w11.cell? ⟨n10, 1, none⟩ = some (.slice x1 x.nx.length xc1) := Kx11.out.cell 1
    have fKx2 : w11.cell? ⟨n10, 2, none⟩ = some (.slice x2 x.ac.length xc2) := Kx11.out.cell 2
    have fKz0 : w11.cell? ⟨n12, 0, none⟩ = some (.int .i64 z.st) := Kz11.out.cell 0
    have fKz1 : w11.cell? ⟨n12, 1, none⟩ = some (.slice z1 z.nx.length zc1) := Kz11.out.cell 1
    have fKz2 : w11.cell? ⟨n12, 2, none⟩ = some (.slice z2 z.ac.length zc2) := Kz11.out.cell 2
    have fKo0 : w11.cell? ⟨n14, 0, none⟩ = some (.int .i64 o.st) := Ko11.out.cell 0
    have fKo1 : w11.cell? ⟨n14, 1, none⟩ = some (.slice o1 o.nx.length oc1) := Ko11.out.cell 1
    have fKo2 : w11.cell? ⟨n14, 2, none⟩ = some (.slice o2 o.ac.length oc2) := Ko11.out.cell 2
    cases P <;> cases Q
    all_goals (
      have HRX := Lib.hid (runP_any x x1 xc1 x2 xc2 s HS.out w11 HNx11.out HFx11.out)
      go_wp2_with fail
      refine HRX.out.mono ?_
      rintro e wa ⟨rfl, ba⟩
      have rx := RX.out
      simp only [Bool.not_true, Bool.not_false] at rx
      rw [rx]
      have ga0 := (Blk.below Kz11.out ba).cell 0
      have ga1 := (Blk.below Kz11.out ba).cell 1
      have ga2 := (Blk.below Kz11.out ba).cell 2
      simp only [List.getElem?_toArray, List.getElem?_cons_zero, List.getElem?_cons_succ] at ga0 ga1 ga2
      have HRZ := Lib.hid (runP_any z z1 zc1 z2 zc2 s HS.out wa (HNz11.out.below ba) (HFz11.out.below ba))
      clear rx HRX fKx0 fKx1 fKx2 fKz0 fKz1 fKz2 fKo0 fKo1 fKo2
      go_wp2_with fail
      refine HRZ.out.mono ?_
      rintro e wb ⟨rfl, bb⟩
      have bab := st ba bb ba.size
      have rz := RZ.out
      simp only [Bool.and_true, Bool.and_false, Bool.true_and, Bool.false_and] at rz
      rw [rz]
      have gb0 := (Blk.below Ko11.out bab).cell 0
      have gb1 := (Blk.below Ko11.out bab).cell 1
      have gb2 := (Blk.below Ko11.out bab).cell 2
      simp only [List.getElem?_toArray, List.getElem?_cons_zero, List.getElem?_cons_succ] at gb0 gb1 gb2
      have HRO := Lib.hid (runP_any o o1 oc1 o2 oc2 s HS.out wb (HNo11.out.below bab) (HFo11.out.below bab))
      clear rz HRZ ga0 ga1 ga2 ba bb
      go_wp2_with fail
      refine HRO.out.mono ?_
      rintro e wc ⟨rfl, bc⟩
      have ro := RO.out
      simp only [Bool.or_true, Bool.or_false, Bool.true_or, Bool.false_or] at ro
      rw [ro]
      have HBF := Lib.hid (st (HB11.out.trans (bab.mono HB11.out.size)) bc (Nat.le_trans HB11.out.size bab.size))
      clear ro HRO bc bab gb0 gb1 gb2
      go_wp2_with fail
      go_ret
      exact ⟨rfl, HBF.out⟩)
end Go.Proofs.Ytiljagfjgefnnaa
