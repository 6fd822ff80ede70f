/- The law AutomatonShortest. -/
import Derived.Test.YtiljagfjgefnnaaBr
namespace Go.Proofs.Ytiljagfjgefnnaa
open Go.RowKit
set_option linter.unusedVariables false

set_option maxRecDepth 1000000 in
set_option maxHeartbeats 8000000 in
theorem automatonShortest_walk (r : RawD) (a1 : Option Addr) (c1 : Nat) (a2 : Option Addr) (c2 : Nat) (s : ByteArray) (w : World) (hN : RdRows w (.slice a1 r.nx.length c1) r.nx) (hF : Rd 1 encO w (.slice a2 r.ac.length c2) r.ac) (hs : s.size ≤ maxLen) :
    Calls Try.prog 9 #[.agg #[.int .i64 r.st, .slice a1 r.nx.length c1, .slice a2 r.ac.length c2], .string s] w fun e w' => e = .returned (.bool true) ∧ Below w.heap.size w w' := by
  have hm : maxLen = 9223372036854775807 := by decide
  rw [hm] at hs
  clear hm
  have BA := (Below.refl w.heap.size w).alloc (Nat.le_refl _) (.cells #[.int .i64 r.st, .slice a1 r.nx.length c1, .slice a2 r.ac.length c2] 25)
  have k0 := Blk.new w 25 #[.int .i64 r.st, .slice a1 r.nx.length c1, .slice a2 r.ac.length c2]
  obtain ⟨W0, hW0⟩ : ∃ W0, w.alloc (.cells #[.int .i64 r.st, .slice a1 r.nx.length c1, .slice a2 r.ac.length c2] 25) = W0 := ⟨_, rfl⟩
  have HN := Lib.hid (hN.below BA)
  have HF := Lib.hid (hF.below BA)
  have HBA := Lib.hid BA
  have K0 := Lib.hid k0
  rw [hW0] at HN HF HBA K0
  obtain ⟨g, hg⟩ : ∃ g, w.heap.size = g := ⟨_, rfl⟩
  have HG := Lib.hid hg
  have HW0 := Lib.hid hW0
  rw [hg] at K0
  clear hN hF BA k0 hW0 hg
  go_enter Try.func9, Try.ntmps9
  go_upto_region 1 with fail
  rw [HW0.out, HG.out]
  clear HW0
  go_wp2_with fail
  refine (awake_any W0).mono ?_
  rintro e w1 ⟨rfl, b1⟩
  have HN1 := Lib.hid (HN.out.below b1)
  have HF1 := Lib.hid (HF.out.below b1)
  have HB1 := Lib.hid (st HBA.out b1 HBA.out.size)
  have K1 := Lib.hid (Blk.below K0.out b1)
  clear b1 HN HF HBA K0
  have f0 : w1.cell? ⟨g, 0, none⟩ = some (.int .i64 r.st) := K1.out.cell 0
  have f1 : w1.cell? ⟨g, 1, none⟩ = some (.slice a1 r.nx.length c1) := K1.out.cell 1
  have f2 : w1.cell? ⟨g, 2, none⟩ = some (.slice a2 r.ac.length c2) := K1.out.cell 2
  have HFW := Lib.hid (few_any r a1 c1 a2 c2 40 (by omega) w1 HN1.out HF1.out)
  go_wp2_with fail
  refine HFW.out.mono ?_
  rintro e w2 ⟨⟨b, rfl, hb⟩, b2⟩
  have HN2 := Lib.hid (HN1.out.below b2)
  have HF2 := Lib.hid (HF1.out.below b2)
  have HB2 := Lib.hid (st HB1.out b2 HB1.out.size)
  have K2 := Lib.hid (Blk.below K1.out b2)
  clear b2 HN1 HF1 HB1 K1 f0 f1 f2 HFW
  cases b with
  | false =>
    clear hb
    go_wp2_with fail
    refine (awake_any w2).mono ?_
    rintro e w3 ⟨rfl, b3⟩
    have HB3 := Lib.hid (st HB2.out b3 HB2.out.size)
    clear b3
    go_wp2_with fail
    go_ret
    exact ⟨rfl, HB3.out⟩
  | true =>
    have HMO := Lib.hid (hb rfl)
    clear hb
    by_cases h200 : 200 < s.size
    · have t1 : (200 : Int) < (s.size : Int) := by omega
      go_wp2_with fail
      refine (awake_any w2).mono ?_
      rintro e w3 ⟨rfl, b3⟩
      have HB3 := Lib.hid (st HB2.out b3 HB2.out.size)
      clear b3
      go_wp2_with fail
      go_ret
      exact ⟨rfl, HB3.out⟩
    have t1 : ¬ (200 : Int) < (s.size : Int) := by omega
    have HS := Lib.hid hs
    obtain ⟨z, hz⟩ : ∃ z, runP r s.data.toList = z := ⟨_, rfl⟩
    have HZ := Lib.hid hz
    clear hz
    have f0 : w2.cell? ⟨g, 0, none⟩ = some (.int .i64 r.st) := K2.out.cell 0
    have f1 : w2.cell? ⟨g, 1, none⟩ = some (.slice a1 r.nx.length c1) := K2.out.cell 1
    have f2 : w2.cell? ⟨g, 2, none⟩ = some (.slice a2 r.ac.length c2) := K2.out.cell 2
    go_wp2_with fail
    refine (to_any r.st a1 r.nx.length c1 a2 r.ac.length c2 w2).mono ?_
    rintro e w3 ⟨rfl, b3⟩
    have HN3 := Lib.hid (HN2.out.below b3)
    have HF3 := Lib.hid (HF2.out.below b3)
    have HB3 := Lib.hid (st HB2.out b3 HB2.out.size)
    have K3 := Lib.hid (Blk.below K2.out b3)
    clear b3 f0 f1 f2 HN2 HF2 HB2 K2
    have HP := Lib.hid (shortestP_any r a1 c1 a2 c2 w3 HN3.out HF3.out)
    go_wp2_with fail
    refine HP.out.mono ?_
    rintro e w4 ⟨hcase, b4⟩
    have HN4 := Lib.hid (HN3.out.below b4)
    have HF4 := Lib.hid (HF3.out.below b4)
    have HB4 := Lib.hid (st HB3.out b4 HB3.out.size)
    have K4 := Lib.hid (Blk.below K3.out b4)
    clear b4 HN3 HF3 HB3 K3
    have HQ := Lib.hid (shortestR_any r a1 c1 a2 c2 w4 HN4.out HF4.out)
    clear HP
    rcases hcase with ⟨hok, rfl⟩ | ⟨hok, ⟨v, hv, rfl⟩ | ⟨hv, rfl⟩⟩
    · have HRV : Hid (runP r s.data.toList = false) := Lib.hid (bad_no hok _)
      have f0 : w4.cell? ⟨g, 0, none⟩ = some (.int .i64 r.st) := K4.out.cell 0
      have f1 : w4.cell? ⟨g, 1, none⟩ = some (.slice a1 r.nx.length c1) := K4.out.cell 1
      have f2 : w4.cell? ⟨g, 2, none⟩ = some (.slice a2 r.ac.length c2) := K4.out.cell 2
      go_wp2_with fail
      refine HQ.out.mono ?_
      rintro e w5 ⟨hcase, b5⟩
      have hcase2 : e = .returned (.tuple #[.string (ofL []), .bool false, .int .i64 1]) := by
        rcases hcase with ⟨_, h⟩ | ⟨h, _⟩
        · exact h
        · rw [hok] at h; cases h
      subst hcase2
      clear hcase HQ
      have HN5 := Lib.hid (HN4.out.below b5)
      have HF5 := Lib.hid (HF4.out.below b5)
      have HB5 := Lib.hid (st HB4.out b5 HB4.out.size)
      have K5 := Lib.hid (Blk.below K4.out b5)
      clear b5 f0 f1 f2 HN4 HF4 HB4 K4
      have f0 : w5.cell? ⟨g, 0, none⟩ = some (.int .i64 r.st) := K5.out.cell 0
      have f1 : w5.cell? ⟨g, 1, none⟩ = some (.slice a1 r.nx.length c1) := K5.out.cell 1
      have f2 : w5.cell? ⟨g, 2, none⟩ = some (.slice a2 r.ac.length c2) := K5.out.cell 2
      go_wp2_with fail
      refine (to_any r.st a1 r.nx.length c1 a2 r.ac.length c2 w5).mono ?_
      rintro e w6 ⟨rfl, b6⟩
      have HN6 := Lib.hid (HN5.out.below b6)
      have HF6 := Lib.hid (HF5.out.below b6)
      have HB6 := Lib.hid (st HB5.out b6 HB5.out.size)
      have K6 := Lib.hid (Blk.below K5.out b6)
      clear b6 f0 f1 f2 HN5 HF5 HB5 K5
      have HR := Lib.hid (runP_any r a1 c1 a2 c2 s HS.out w6 HN6.out HF6.out)
      go_wp2_with fail
      refine HR.out.mono ?_
      rintro e w7 ⟨rfl, b7⟩
      rw [HRV.out]
      have HB7 := Lib.hid (st HB6.out b7 HB6.out.size)
      clear b7
      go_wp2_with fail
      go_ret
      exact ⟨rfl, HB7.out⟩
    · have HV := Lib.hid hv
      have HOK := Lib.hid hok
      have f0 : w4.cell? ⟨g, 0, none⟩ = some (.int .i64 r.st) := K4.out.cell 0
      have f1 : w4.cell? ⟨g, 1, none⟩ = some (.slice a1 r.nx.length c1) := K4.out.cell 1
      have f2 : w4.cell? ⟨g, 2, none⟩ = some (.slice a2 r.ac.length c2) := K4.out.cell 2
      go_wp2_with fail
      refine HQ.out.mono ?_
      rintro e w5 ⟨hcase, b5⟩
      have hcase2 : e = .returned (.tuple #[.string (ofL (strW v)), .bool true, .int .i64 0]) ∧ v.length ≤ 1000000 := by
        rcases hcase with ⟨h, _⟩ | ⟨_, ⟨u, hu, hul, h⟩ | ⟨hu, h⟩⟩
        · rw [hok] at h; cases h
        · obtain rfl := hv.uniq hu; exact ⟨h, hul⟩
        · exact (hv.never hu).elim
      obtain ⟨rfl, hvn⟩ := hcase2
      clear hcase HQ
      have HN5 := Lib.hid (HN4.out.below b5)
      have HF5 := Lib.hid (HF4.out.below b5)
      have HB5 := Lib.hid (st HB4.out b5 HB4.out.size)
      have K5 := Lib.hid (Blk.below K4.out b5)
      clear b5 f0 f1 f2 HN4 HF4 HB4 K4
      obtain ⟨sv, hsv⟩ : ∃ sv, ofL (strW v) = sv := ⟨_, rfl⟩
      have HSV : Hid (sv.data.toList = strW v) := Lib.hid (by rw [← hsv]; rfl)
      rw [hsv]
      have hvl : sv.size ≤ 9223372036854775807 := by rw [← hsv, ofL_size]; unfold strW; rw [List.length_map]; omega
      have HVL := Lib.hid hvl
      clear hv hok hsv hvl
      have f0 : w5.cell? ⟨g, 0, none⟩ = some (.int .i64 r.st) := K5.out.cell 0
      have f1 : w5.cell? ⟨g, 1, none⟩ = some (.slice a1 r.nx.length c1) := K5.out.cell 1
      have f2 : w5.cell? ⟨g, 2, none⟩ = some (.slice a2 r.ac.length c2) := K5.out.cell 2
      go_wp2_with fail
      refine (to_any r.st a1 r.nx.length c1 a2 r.ac.length c2 w5).mono ?_
      rintro e w6 ⟨rfl, b6⟩
      have HN6 := Lib.hid (HN5.out.below b6)
      have HF6 := Lib.hid (HF5.out.below b6)
      have HB6 := Lib.hid (st HB5.out b6 HB5.out.size)
      have K6 := Lib.hid (Blk.below K5.out b6)
      clear b6 f0 f1 f2 HN5 HF5 HB5 K5
      have HR := Lib.hid (runP_any r a1 c1 a2 c2 sv HVL.out w6 HN6.out HF6.out)
      have HRT : Hid (runP r sv.data.toList = true) := Lib.hid (by rw [HSV.out]; exact First.runs HOK.out HV.out)
      go_wp2_with fail
      refine HR.out.mono ?_
      rintro e w7 ⟨rfl, b7⟩
      rw [HRT.out]
      clear HR
      have HN7 := Lib.hid (HN6.out.below b7)
      have HF7 := Lib.hid (HF6.out.below b7)
      have HB7 := Lib.hid (st HB6.out b7 HB6.out.size)
      have K7 := Lib.hid (Blk.below K6.out b7)
      clear b7 HN6 HF6 HB6 K6
      have f0 : w7.cell? ⟨g, 0, none⟩ = some (.int .i64 r.st) := K7.out.cell 0
      have f1 : w7.cell? ⟨g, 1, none⟩ = some (.slice a1 r.nx.length c1) := K7.out.cell 1
      have f2 : w7.cell? ⟨g, 2, none⟩ = some (.slice a2 r.ac.length c2) := K7.out.cell 2
      go_wp2_with fail
      refine (to_any r.st a1 r.nx.length c1 a2 r.ac.length c2 w7).mono ?_
      rintro e w8 ⟨rfl, b8⟩
      have HN8 := Lib.hid (HN7.out.below b8)
      have HF8 := Lib.hid (HF7.out.below b8)
      have HB8 := Lib.hid (st HB7.out b8 HB7.out.size)
      have K8 := Lib.hid (Blk.below K7.out b8)
      clear b8 f0 f1 f2 HN7 HF7 HB7 K7
      have HR := Lib.hid (runP_any r a1 c1 a2 c2 s HS.out w8 HN8.out HF8.out)
      go_wp2_with fail
      refine HR.out.mono ?_
      rintro e w9 ⟨rfl, b9⟩
      rw [HZ.out]
      clear HR
      have HN9 := Lib.hid (HN8.out.below b9)
      have HF9 := Lib.hid (HF8.out.below b9)
      have HB9 := Lib.hid (st HB8.out b9 HB8.out.size)
      have K9 := Lib.hid (Blk.below K8.out b9)
      clear b9 HN8 HF8 HB8 K8
      cases z with
      | false =>
        go_wp2_with fail
        go_ret
        exact ⟨rfl, HB9.out⟩
      | true =>
        have HBE := Lib.hid (before_any s sv HS.out HVL.out w9)
        have HBF : Hid (bfR s.data.toList sv.data.toList = false) := Lib.hid (by rw [HSV.out]; exact First.nothing HV.out HZ.out)
        go_wp2_with fail
        refine HBE.out.mono ?_
        rintro e w10 ⟨rfl, b10⟩
        rw [HBF.out]
        have HB10 := Lib.hid (st HB9.out b10 HB9.out.size)
        clear b10
        go_wp2_with fail
        go_ret
        exact ⟨rfl, HB10.out⟩
    · have HRV : Hid (runP r s.data.toList = false) := Lib.hid (Never.no hv _)
      have f0 : w4.cell? ⟨g, 0, none⟩ = some (.int .i64 r.st) := K4.out.cell 0
      have f1 : w4.cell? ⟨g, 1, none⟩ = some (.slice a1 r.nx.length c1) := K4.out.cell 1
      have f2 : w4.cell? ⟨g, 2, none⟩ = some (.slice a2 r.ac.length c2) := K4.out.cell 2
      go_wp2_with fail
      refine HQ.out.mono ?_
      rintro e w5 ⟨hcase, b5⟩
      have hcase2 : e = .returned (.tuple #[.string (ofL []), .bool false, .int .i64 0]) := by
        rcases hcase with ⟨h, _⟩ | ⟨_, ⟨u, hu, _, h⟩ | ⟨hu, h⟩⟩
        · rw [hok] at h; cases h
        · exact (hu.never hv).elim
        · exact h
      subst hcase2
      clear hcase HQ
      have HN5 := Lib.hid (HN4.out.below b5)
      have HF5 := Lib.hid (HF4.out.below b5)
      have HB5 := Lib.hid (st HB4.out b5 HB4.out.size)
      have K5 := Lib.hid (Blk.below K4.out b5)
      clear b5 f0 f1 f2 HN4 HF4 HB4 K4
      have f0 : w5.cell? ⟨g, 0, none⟩ = some (.int .i64 r.st) := K5.out.cell 0
      have f1 : w5.cell? ⟨g, 1, none⟩ = some (.slice a1 r.nx.length c1) := K5.out.cell 1
      have f2 : w5.cell? ⟨g, 2, none⟩ = some (.slice a2 r.ac.length c2) := K5.out.cell 2
      go_wp2_with fail
      refine (to_any r.st a1 r.nx.length c1 a2 r.ac.length c2 w5).mono ?_
      rintro e w6 ⟨rfl, b6⟩
      have HN6 := Lib.hid (HN5.out.below b6)
      have HF6 := Lib.hid (HF5.out.below b6)
      have HB6 := Lib.hid (st HB5.out b6 HB5.out.size)
      have K6 := Lib.hid (Blk.below K5.out b6)
      clear b6 f0 f1 f2 HN5 HF5 HB5 K5
      have HR := Lib.hid (runP_any r a1 c1 a2 c2 s HS.out w6 HN6.out HF6.out)
      go_wp2_with fail
      refine HR.out.mono ?_
      rintro e w7 ⟨rfl, b7⟩
      rw [HRV.out]
      have HB7 := Lib.hid (st HB6.out b7 HB6.out.size)
      clear b7
      go_wp2_with fail
      go_ret
      exact ⟨rfl, HB7.out⟩
end Go.Proofs.Ytiljagfjgefnnaa
