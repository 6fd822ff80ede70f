/- The law AutomatonRun. -/
import Derived.Test.YtiljagfjgefnnaaBm
namespace Go.Proofs.Ytiljagfjgefnnaa
open Go.RowKit
set_option linter.unusedVariables false

set_option maxRecDepth 1000000 in
set_option maxHeartbeats 8000000 in
theorem automatonRun_walk (r : RawD) (a1 : Option Addr) (c1 : Nat) (a2 : Option Addr) (c2 : Nat) (s : ByteArray) (w : World) (hN : RdRows w (.slice a1 r.nx.length c1) r.nx) (hF : Rd 1 encO w (.slice a2 r.ac.length c2) r.ac) (hs : s.size ≤ maxLen) :
    Calls Try.prog 3 #[.agg #[.int .i64 r.st, .slice a1 r.nx.length c1, .slice a2 r.ac.length c2], .string s] w fun e w' => e = .returned (.bool true) ∧ Below w.heap.size w w' := by
  have hm : maxLen = 9223372036854775807 := by decide
  rw [hm] at hs
  clear hm
  have BA := (Below.refl w.heap.size w).alloc (Nat.le_refl _) (.cells #[.int .i64 r.st, .slice a1 r.nx.length c1, .slice a2 r.ac.length c2] 25)
  have k0 := Blk.new w 25 #[.int .i64 r.st, .slice a1 r.nx.length c1, .slice a2 r.ac.length c2]
  obtain ⟨W0, hW0⟩ : ∃ W0, w.alloc (.cells #[.int .i64 r.st, .slice a1 r.nx.length c1, .slice a2 r.ac.length c2] 25) = W0 := ⟨_, rfl⟩
  have HN := Lib.hid (hN.below BA)
  have HF := Lib.hid (hF.below BA)
  have HBA := Lib.hid BA
  have K0 := Lib.hid k0
  rw [hW0] at HN HF HBA K0
  obtain ⟨g, hg⟩ : ∃ g, w.heap.size = g := ⟨_, rfl⟩
  have HG := Lib.hid hg
  have HW0 := Lib.hid hW0
  rw [hg] at K0
  clear hN hF BA k0 hW0 hg
  go_enter Try.func3, Try.ntmps3
  go_upto_region 1 with fail
  rw [HW0.out, HG.out]
  clear HW0
  go_wp2_with fail
  refine (awake_any W0).mono ?_
  rintro e w1 ⟨rfl, b1⟩
  have HN1 := Lib.hid (HN.out.below b1)
  have HF1 := Lib.hid (HF.out.below b1)
  have HB1 := Lib.hid (st HBA.out b1 HBA.out.size)
  have K1 := Lib.hid (Blk.below K0.out b1)
  clear b1 HN HF HBA K0
  have f0 : w1.cell? ⟨g, 0, none⟩ = some (.int .i64 r.st) := K1.out.cell 0
  have f1 : w1.cell? ⟨g, 1, none⟩ = some (.slice a1 r.nx.length c1) := K1.out.cell 1
  have f2 : w1.cell? ⟨g, 2, none⟩ = some (.slice a2 r.ac.length c2) := K1.out.cell 2
  have HFW := Lib.hid (few_any r a1 c1 a2 c2 40 (by omega) w1 HN1.out HF1.out)
  go_wp2_with fail
  refine HFW.out.mono ?_
  rintro e w2 ⟨⟨b, rfl, hb⟩, b2⟩
  have HN2 := Lib.hid (HN1.out.below b2)
  have HF2 := Lib.hid (HF1.out.below b2)
  have HB2 := Lib.hid (st HB1.out b2 HB1.out.size)
  have K2 := Lib.hid (Blk.below K1.out b2)
  clear b2 HN1 HF1 HB1 K1 f0 f1 f2 HFW
  cases b with
  | false =>
    clear hb
    go_wp2_with fail
    refine (awake_any w2).mono ?_
    rintro e w3 ⟨rfl, b3⟩
    have HB3 := Lib.hid (st HB2.out b3 HB2.out.size)
    clear b3
    go_wp2_with fail
    go_ret
    exact ⟨rfl, HB3.out⟩
  | true =>
    have HMO := Lib.hid (hb rfl)
    clear hb
    by_cases h200 : 200 < s.size
    · have t1 : (200 : Int) < (s.size : Int) := by omega
      go_wp2_with fail
      refine (awake_any w2).mono ?_
      rintro e w3 ⟨rfl, b3⟩
      have HB3 := Lib.hid (st HB2.out b3 HB2.out.size)
      clear b3
      go_wp2_with fail
      go_ret
      exact ⟨rfl, HB3.out⟩
    have t1 : ¬ (200 : Int) < (s.size : Int) := by omega
    obtain ⟨v, hv⟩ : ∃ v, okD r = v := ⟨_, rfl⟩
    have HV := Lib.hid hv
    obtain ⟨z, hz⟩ : ∃ z, runP r s.data.toList = z := ⟨_, rfl⟩
    have HZ := Lib.hid hz
    clear hv hz
    go_upto_region 3 with fail
    obtain ⟨CS, hCS⟩ : ∃ CS : World → Prop, CS = fun wx => wx.cell? ⟨g, 0, none⟩ = some (.int .i64 r.st) ∧ wx.cell? ⟨g, 1, none⟩ = some (.slice a1 r.nx.length c1) ∧ wx.cell? ⟨g, 2, none⟩ = some (.slice a2 r.ac.length c2) := ⟨_, rfl⟩
    have HCS : Hid (∀ wx, Blk g 25 #[.int .i64 r.st, .slice a1 r.nx.length c1, .slice a2 r.ac.length c2] wx → wx.cell? ⟨g, 0, none⟩ = some (.int .i64 r.st) ∧ wx.cell? ⟨g, 1, none⟩ = some (.slice a1 r.nx.length c1) ∧ wx.cell? ⟨g, 2, none⟩ = some (.slice a2 r.ac.length c2)) := Lib.hid (fun wx h => ⟨h.cell 0, h.cell 1, h.cell 2⟩)
    clear hCS CS
    have bd := (Below.refl w2.heap.size w2).drew
    have HN3 := Lib.hid (HN2.out.below bd)
    have HF3 := Lib.hid (HF2.out.below bd)
    have HB3 := Lib.hid (st HB2.out bd HB2.out.size)
    have K3 := Lib.hid (Blk.below K2.out bd)
    clear bd
    have hS := HCS.out _ K3.out
    refine region_hd 13 (fun wx : World => wx.cell? ⟨g, 0, none⟩ = some (.int .i64 r.st) ∧ wx.cell? ⟨g, 1, none⟩ = some (.slice a1 r.nx.length c1) ∧ wx.cell? ⟨g, 2, none⟩ = some (.slice a2 r.ac.length c2)) (by kernel_rfl) (by kernel_rfl) ?_
    refine hd_taken 0 (some 18) _ ?hdv0 rfl rfl (by kernel_rfl) (fun _ _ _ h => h) (Or.inl ⟨by rfl, ?hdy0⟩) hS ?hdr0
    case hdy0 => (intro wx hx; (try dsimp only at hx); go_simp; try with_reducible rfl)
    try simp only [Act.put, List.setIfInBounds_toArray, List.set_cons_zero, List.set_cons_succ]
    refine hd_taken 3 (some 21) _ ?hdv3 rfl rfl (by kernel_rfl) (fun _ _ _ h => h) (Or.inl ⟨by rfl, ?hdy3⟩) hS ?hdr3
    case hdy3 => (intro wx hx; (try dsimp only at hx); go_simp; try with_reducible rfl)
    try simp only [Act.put, List.setIfInBounds_toArray, List.set_cons_zero, List.set_cons_succ]
    refine hd_one 1 _ rfl (by kernel_rfl) (by decide) (fun K1 hK1 => ?_)
    go_simp
    refine (to_any r.st a1 r.nx.length c1 a2 r.ac.length c2 _).mono ?_
    rintro e w4 ⟨rfl, b4⟩
    try dsimp only
    have HN4 := Lib.hid (HN3.out.below b4)
    have HF4 := Lib.hid (HF3.out.below b4)
    have HB4 := Lib.hid (st HB3.out b4 HB3.out.size)
    have KK4 := Lib.hid (Blk.below K3.out b4)
    have hS4 := HCS.out _ KK4.out
    clear b4
    refine hK1.out _ _ hS4 ?_
    clear hK1 K1
    try simp only [Act.put, List.setIfInBounds_toArray, List.set_cons_zero, List.set_cons_succ]
    refine hd_one 2 _ rfl (by kernel_rfl) (by decide) (fun K2 hK2 => ?_)
    go_simp
    refine (validP_any r a1 c1 a2 c2 w4 HN4.out HF4.out).mono ?_
    rintro e w5 ⟨rfl, b5⟩
    try dsimp only
    have HN5 := Lib.hid (HN4.out.below b5)
    have HF5 := Lib.hid (HF4.out.below b5)
    have HB5 := Lib.hid (st HB4.out b5 HB4.out.size)
    have KK5 := Lib.hid (Blk.below KK4.out b5)
    have hS5 := HCS.out _ KK5.out
    clear b5
    rw [HV.out]
    refine hK2.out _ _ hS5 ?_
    clear hK2 K2
    try simp only [Act.put, List.setIfInBounds_toArray, List.set_cons_zero, List.set_cons_succ]
    refine hd_one 4 _ rfl (by kernel_rfl) (by decide) (fun K4 hK4 => ?_)
    go_simp
    refine (valid_any r a1 c1 a2 c2 w5 HN5.out HF5.out).mono ?_
    rintro e w6 ⟨rfl, b6⟩
    try dsimp only
    have HN6 := Lib.hid (HN5.out.below b6)
    have HF6 := Lib.hid (HF5.out.below b6)
    have HB6 := Lib.hid (st HB5.out b6 HB5.out.size)
    have KK6 := Lib.hid (Blk.below KK5.out b6)
    have hS6 := HCS.out _ KK6.out
    clear b6
    rw [HV.out]
    refine hK4.out _ _ hS6 ?_
    clear hK4 K4
    try simp only [Act.put, List.setIfInBounds_toArray, List.set_cons_zero, List.set_cons_succ]
    refine hd_taken 5 (some 23) _ ?hdv5 rfl rfl (by kernel_rfl) (fun _ _ _ h => h) (Or.inl ⟨by rfl, ?hdy5⟩) hS6 ?hdr5
    case hdy5 => (intro wx hx; (try dsimp only at hx); go_simp; try with_reducible rfl)
    try simp only [Act.put, List.setIfInBounds_toArray, List.set_cons_zero, List.set_cons_succ]
    refine hd_taken 6 (some 24) _ ?hdv6 rfl rfl (by kernel_rfl) (fun _ _ _ h => h) (Or.inl ⟨by rfl, ?hdy6⟩) hS6 ?hdr6
    case hdy6 => (intro wx hx; (try dsimp only at hx); go_simp; try with_reducible rfl)
    try simp only [Act.put, List.setIfInBounds_toArray, List.set_cons_zero, List.set_cons_succ]
    refine hd_taken 7 (some 25) _ ?hdv7 rfl rfl (by kernel_rfl) (fun _ _ _ h => h) (Or.inl ⟨by rfl, ?hdy7⟩) hS6 ?hdr7
    case hdy7 => (intro wx hx; (try dsimp only at hx); go_simp; try with_reducible rfl)
    try simp only [Act.put, List.setIfInBounds_toArray, List.set_cons_zero, List.set_cons_succ]
    refine hd_taken 9 (some 27) _ ?hdv9 rfl rfl (by kernel_rfl) (fun _ _ _ h => h) (Or.inl ⟨by rfl, ?hdy9⟩) hS6 ?hdr9
    case hdy9 => (intro wx hx; (try dsimp only at hx); go_simp; try with_reducible rfl)
    try simp only [Act.put, List.setIfInBounds_toArray, List.set_cons_zero, List.set_cons_succ]
    refine hd_taken 11 (some 29) _ ?hdv11 rfl rfl (by kernel_rfl) (fun _ _ _ h => h) (Or.inl ⟨by rfl, ?hdy11⟩) hS6 ?hdr11
    case hdy11 => (intro wx hx; (try dsimp only at hx); go_simp; try with_reducible rfl)
    try simp only [Act.put, List.setIfInBounds_toArray, List.set_cons_zero, List.set_cons_succ]
    refine hd_taken 12 (some 30) _ ?hdv12 rfl rfl (by kernel_rfl) (fun _ _ _ h => h) (Or.inl ⟨by rfl, ?hdy12⟩) hS6 ?hdr12
    case hdy12 => (intro wx hx; (try dsimp only at hx); go_simp; try with_reducible rfl)
    try simp only [Act.put, List.setIfInBounds_toArray, List.set_cons_zero, List.set_cons_succ]
    refine hd_one 8 _ rfl (by kernel_rfl) (by decide) (fun K8 hK8 => ?_)
    go_simp
    refine (to_any r.st a1 r.nx.length c1 a2 r.ac.length c2 _).mono ?_
    rintro e w7 ⟨rfl, b7⟩
    try dsimp only
    have HN7 := Lib.hid (HN6.out.below b7)
    have HF7 := Lib.hid (HF6.out.below b7)
    have HB7 := Lib.hid (st HB6.out b7 HB6.out.size)
    have KK7 := Lib.hid (Blk.below KK6.out b7)
    have hS7 := HCS.out _ KK7.out
    clear b7
    refine hK8.out _ _ hS7 ?_
    clear hK8 K8
    try simp only [Act.put, List.setIfInBounds_toArray, List.set_cons_zero, List.set_cons_succ]
    refine hd_one 10 _ rfl (by kernel_rfl) (by decide) (fun K10 hK10 => ?_)
    go_simp
    refine (runP_any r a1 c1 a2 c2 s hs w7 HN7.out HF7.out).mono ?_
    rintro e w8 ⟨rfl, b8⟩
    try dsimp only
    have HN8 := Lib.hid (HN7.out.below b8)
    have HF8 := Lib.hid (HF7.out.below b8)
    have HB8 := Lib.hid (st HB7.out b8 HB7.out.size)
    have KK8 := Lib.hid (Blk.below KK7.out b8)
    have hS8 := HCS.out _ KK8.out
    clear b8
    rw [HZ.out]
    refine hK10.out _ _ hS8 ?_
    clear hK10 K10
    try simp only [Act.put, List.setIfInBounds_toArray, List.set_cons_zero, List.set_cons_succ]
    refine hd_done (by kernel_rfl) ?_
    simp only [List.drop_succ_cons, List.drop_zero]
    go_wp2_with fail
    refine (run_any r a1 c1 a2 c2 s hs w8 HN8.out HF8.out).mono ?_
    rintro e w9 ⟨rfl, b9⟩
    have HB9 := Lib.hid (st HB8.out b9 HB8.out.size)
    rw [HZ.out]
    clear b9
    go_wp2_with fail
    go_ret
    exact ⟨by simp, HB9.out⟩
end Go.Proofs.Ytiljagfjgefnnaa
