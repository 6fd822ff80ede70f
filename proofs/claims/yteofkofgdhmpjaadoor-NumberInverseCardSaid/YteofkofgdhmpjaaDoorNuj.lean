/- The laws of layer 15: Format, Parse. -/
import Derived.Test.YteofkofgdhmpjaaDoorNui
namespace Go.Proofs.YteofkofgdhmpjaaDoor
open Go.RowKit
set_option linter.unusedVariables false

theorem fewY_sm {x : SyN} (p1 : -9223372036854775808 ≤ x.pr) (p2 : x.pr ≤ 9223372036854775807) (s1 : -9223372036854775808 ≤ x.se) (s2 : x.se ≤ 9223372036854775807) (h : fewY x = true) : SmY x := by
  unfold fewY at h
  simp only [Bool.and_eq_true, decide_eq_true_eq] at h
  obtain ⟨⟨⟨a, b⟩, c⟩, d⟩ := h
  exact ⟨by omega, by omega, by omega, by omega, p1, p2, s1, s2⟩
theorem par_zero {x : SyN} {s : Str} (h : ¬ (parR x s).2 = 0) : (parR x s).1 = [] := by
  unfold parR at h ⊢
  by_cases hd : x.de = []
  · rw [if_pos hd]
  · rw [if_neg hd] at h ⊢
    cases hs : spl (numT x s) with
    | none => rfl
    | some n =>
      rw [hs] at h
      by_cases k : texR x n = s
      · exact absurd (by simp [k]) h
      · simp [k]
theorem strY (x : Str) : ((ofL x).toList == (ofL x).toList) = true ∧ ((ofL x).toList != (ofL x).toList) = false := ⟨beq_self_eq_true _, by rw [bne_eq_false_iff_eq]⟩
section
variable {EV : World → Prop} (C : NuC EV)
include C
set_option maxRecDepth 1000000 in
set_option maxHeartbeats 8000000 in
theorem numberParse_walk (x : SyN) (p1 : -9223372036854775808 ≤ x.pr) (p2 : x.pr ≤ 9223372036854775807) (s1 : -9223372036854775808 ≤ x.se) (s2 : x.se ≤ 9223372036854775807) (s : Str) (hs : s.length ≤ 9223372036854775807) (w : World) (E : EV w) : Calls Tryd.prog 3 #[.agg #[.string (ofL x.de), .string (ofL x.gr), .string (ofL x.mi), .string (ofL x.pe), .int .i64 x.pr, .int .i64 x.se], .string (ofL s)] w fun e w' => e = .returned (.bool true) ∧ Below w.heap.size w w' := by
  have HAW := Lib.hid (fun w E => awake15_any C w E)
  have HFW := Lib.hid (fun w => few15_any x w)
  have HL : Hid (∀ {w w' : World}, EV w → Below w.heap.size w w' → EV w') := Lib.hid C.later
  have HSM := Lib.hid (fewY_sm p1 p2 s1 s2)
  obtain ⟨fb, hfb⟩ : ∃ fb, fewY x = fb := ⟨_, rfl⟩
  rw [hfb] at HFW HSM
  clear hfb
  have HP1 := Lib.hid (fun (h : SmY x) (a : s.length ≤ 100) w E => C.parse x s w h (by omega) E)
  have HP2 := Lib.hid (fun (h : SmY x) (a : s.length ≤ 100) w => parse15_zero x h s (by omega) w)
  have HPT := Lib.hid (fun t h => @par_text x s t h)
  have HF1 := Lib.hid (fun (h : SmY x) t (a : t.length ≤ 1000) w E => C.format x t [] w h a (by decide) E)
  have HPL := Lib.hid (fun n g hd => @fmt_plain x n g hd)
  obtain ⟨de, e1⟩ : ∃ de, x.de = de := ⟨_, rfl⟩
  obtain ⟨gr, e2⟩ : ∃ gr, x.gr = gr := ⟨_, rfl⟩
  obtain ⟨mi, e3⟩ : ∃ mi, x.mi = mi := ⟨_, rfl⟩
  obtain ⟨pe, e4⟩ : ∃ pe, x.pe = pe := ⟨_, rfl⟩
  obtain ⟨p, e5⟩ : ∃ p, x.pr = p := ⟨_, rfl⟩
  obtain ⟨q, e6⟩ : ∃ q, x.se = q := ⟨_, rfl⟩
  rw [e1, e2, e3, e4, e5, e6] at HFW
  rw [e1, e2, e3, e4, e5, e6] at HP1 HP2 HF1
  rw [e1, e2, e3, e4, e5, e6]
  have E0 := Lib.hid E
  clear E p1 p2 s1 s2 e1 e2 e3 e4 e5 e6
  have B0 := Lib.hid ((Below.refl w.heap.size w).alloc (Nat.le_refl _) (.cells #[.string (ofL de), .string (ofL gr), .string (ofL mi), .string (ofL pe), .int .i64 p, .int .i64 q] 23))
  have K0 := Lib.hid (Blk.new w 23 #[.string (ofL de), .string (ofL gr), .string (ofL mi), .string (ofL pe), .int .i64 p, .int .i64 q])
  go_enter Tryd.func3, Tryd.ntmps3
  go_wp2_with fail
  refine (HAW.out _ (HL.out E0.out B0.out)).mono ?_
  rintro e w1 ⟨rfl, b1⟩
  have B1 := Lib.hid (stt B0.out b1 B0.out.size)
  have K1 := Lib.hid (K0.out.below b1)
  clear b1
  have d0 : w1.cell? ⟨w.heap.size, 0, none⟩ = some (.string (ofL de)) := K1.out.cell 0
  have d1 : w1.cell? ⟨w.heap.size, 1, none⟩ = some (.string (ofL gr)) := K1.out.cell 1
  have d2 : w1.cell? ⟨w.heap.size, 2, none⟩ = some (.string (ofL mi)) := K1.out.cell 2
  have d3 : w1.cell? ⟨w.heap.size, 3, none⟩ = some (.string (ofL pe)) := K1.out.cell 3
  have d4 : w1.cell? ⟨w.heap.size, 4, none⟩ = some (.int .i64 p) := K1.out.cell 4
  have d5 : w1.cell? ⟨w.heap.size, 5, none⟩ = some (.int .i64 q) := K1.out.cell 5
  go_wp2_with fail
  clear d0 d1 d2 d3 d4 d5
  refine (HFW.out _).mono ?_
  rintro e w2 ⟨rfl, b2⟩
  have B2 := Lib.hid (stt B1.out b2 B1.out.size)
  have K2 := Lib.hid (K1.out.below b2)
  clear b2
  cases fb with
  | false =>
    go_wp2_with fail
    refine (HAW.out _ (HL.out E0.out B2.out)).mono ?_
    rintro e w3 ⟨rfl, b3⟩
    have B3 := Lib.hid (stt B2.out b3 B2.out.size)
    clear b3
    go_wp2
    go_ret
    exact ⟨rfl, B3.out⟩
  | true =>
  have HSN := Lib.hid (HSM.out rfl)
  have hzs : (ofL s).size = s.length := ofL_size s
  by_cases h1 : 100 < s.length
  · have k1 : decide ((100 : Int) < (s.length : Int)) = true := decide_eq_true (by omega)
    have k1' : decide (100 < s.length) = true := decide_eq_true h1
    clear h1
    go_wp2_with fail
    refine (HAW.out _ (HL.out E0.out B2.out)).mono ?_
    rintro e w3 ⟨rfl, b3⟩
    have B3 := Lib.hid (stt B2.out b3 B2.out.size)
    clear b3
    go_wp2
    go_ret
    exact ⟨rfl, B3.out⟩
  have k1 : decide ((100 : Int) < (s.length : Int)) = false := decide_eq_false (by omega)
  have k1' : decide (100 < s.length) = false := decide_eq_false h1
  have HP3 := Lib.hid (HP1.out HSN.out (by omega))
  have HP4 := Lib.hid (HP2.out HSN.out (by omega))
  clear h1 HP1 HP2
  have HPZ := Lib.hid (@par_zero x s)
  obtain ⟨R, hR⟩ : ∃ R, parR x s = R := ⟨_, rfl⟩
  rw [hR] at HP3 HP4 HPT HPZ
  clear hR
  obtain ⟨t, en⟩ := R
  simp only at HP3 HP4 HPT HPZ
  have d0 : w2.cell? ⟨w.heap.size, 0, none⟩ = some (.string (ofL de)) := K2.out.cell 0
  have d1 : w2.cell? ⟨w.heap.size, 1, none⟩ = some (.string (ofL gr)) := K2.out.cell 1
  have d2 : w2.cell? ⟨w.heap.size, 2, none⟩ = some (.string (ofL mi)) := K2.out.cell 2
  have d3 : w2.cell? ⟨w.heap.size, 3, none⟩ = some (.string (ofL pe)) := K2.out.cell 3
  have d4 : w2.cell? ⟨w.heap.size, 4, none⟩ = some (.int .i64 p) := K2.out.cell 4
  have d5 : w2.cell? ⟨w.heap.size, 5, none⟩ = some (.int .i64 q) := K2.out.cell 5
  have B3 := Lib.hid (B2.out.alloc B2.out.size (.cells #[.string ⟨#[]⟩, .string ⟨#[]⟩, .string ⟨#[]⟩, .slice none 0 0, .slice none 0 0, .string (ofL de), .string (ofL gr), .string (ofL mi), .string (ofL pe), .int .i64 p, .int .i64 q, .slice none 0 0, .slice none 0 0, .slice none 0 0, .slice none 0 0, .slice none 0 0] 32))
  have N3 := Lib.hid (Blk.new w2 32 #[.string ⟨#[]⟩, .string ⟨#[]⟩, .string ⟨#[]⟩, .slice none 0 0, .slice none 0 0, .string (ofL de), .string (ofL gr), .string (ofL mi), .string (ofL pe), .int .i64 p, .int .i64 q, .slice none 0 0, .slice none 0 0, .slice none 0 0, .slice none 0 0, .slice none 0 0])
  go_wp2_with fail
  clear d0 d1 d2 d3 d4 d5
  refine (HP3.out _ (HL.out E0.out B3.out)).mono ?_
  rintro e w4 ⟨rfl, b4⟩
  have B4 := Lib.hid (stt B3.out b4 B3.out.size)
  have N4 := Lib.hid (N3.out.below b4)
  clear b4
  obtain ⟨g1, hg1⟩ : ∃ g1, w2.heap.size = g1 := ⟨_, rfl⟩
  rw [hg1] at N4 ⊢
  clear hg1 N3 B3
  have d0 : w4.cell? ⟨g1, 0, none⟩ = some (.string ⟨#[]⟩) := N4.out.cell 0
  have d1 : w4.cell? ⟨g1, 1, none⟩ = some (.string ⟨#[]⟩) := N4.out.cell 1
  have d2 : w4.cell? ⟨g1, 2, none⟩ = some (.string ⟨#[]⟩) := N4.out.cell 2
  have d3 : w4.cell? ⟨g1, 3, none⟩ = some (.slice none 0 0) := N4.out.cell 3
  have d4 : w4.cell? ⟨g1, 4, none⟩ = some (.slice none 0 0) := N4.out.cell 4
  have d5 : w4.cell? ⟨g1, 5, none⟩ = some (.string (ofL de)) := N4.out.cell 5
  have d6 : w4.cell? ⟨g1, 6, none⟩ = some (.string (ofL gr)) := N4.out.cell 6
  have d7 : w4.cell? ⟨g1, 7, none⟩ = some (.string (ofL mi)) := N4.out.cell 7
  have d8 : w4.cell? ⟨g1, 8, none⟩ = some (.string (ofL pe)) := N4.out.cell 8
  have d9 : w4.cell? ⟨g1, 9, none⟩ = some (.int .i64 p) := N4.out.cell 9
  have d10 : w4.cell? ⟨g1, 10, none⟩ = some (.int .i64 q) := N4.out.cell 10
  have d11 : w4.cell? ⟨g1, 11, none⟩ = some (.slice none 0 0) := N4.out.cell 11
  have d12 : w4.cell? ⟨g1, 12, none⟩ = some (.slice none 0 0) := N4.out.cell 12
  have d13 : w4.cell? ⟨g1, 13, none⟩ = some (.slice none 0 0) := N4.out.cell 13
  have d14 : w4.cell? ⟨g1, 14, none⟩ = some (.slice none 0 0) := N4.out.cell 14
  have d15 : w4.cell? ⟨g1, 15, none⟩ = some (.slice none 0 0) := N4.out.cell 15
  go_wp2_with fail
  clear d0 d1 d2 d3 d4 d5 d6 d7 d8 d9 d10 d11 d12 d13 d14 d15
  refine (HP4.out _).mono ?_
  rintro e w5 ⟨rfl, b5⟩
  have B5 := Lib.hid (stt B4.out b5 B4.out.size)
  have N5 := Lib.hid (N4.out.below b5)
  clear b5
  obtain ⟨z1, z2⟩ := strY t
  by_cases he : en = 0
  · subst he
    obtain ⟨hde, n, gn, hnt, htx⟩ := HPT.out t rfl
    have HFN := Lib.hid (fun w E => HF1.out HSN.out t (by rw [← hnt]; have := txt_len gn; omega) w E)
    have HPN : Hid (FmtP x t [] (s, 0)) := Lib.hid (by rw [← hnt, ← htx]; exact HPL.out n gn hde)
    clear hde gn hnt htx
    have d0 : w5.cell? ⟨g1, 0, none⟩ = some (.string ⟨#[]⟩) := N5.out.cell 0
    have d1 : w5.cell? ⟨g1, 1, none⟩ = some (.string ⟨#[]⟩) := N5.out.cell 1
    have d2 : w5.cell? ⟨g1, 2, none⟩ = some (.string ⟨#[]⟩) := N5.out.cell 2
    have d3 : w5.cell? ⟨g1, 3, none⟩ = some (.slice none 0 0) := N5.out.cell 3
    have d4 : w5.cell? ⟨g1, 4, none⟩ = some (.slice none 0 0) := N5.out.cell 4
    have d5 : w5.cell? ⟨g1, 5, none⟩ = some (.string (ofL de)) := N5.out.cell 5
    have d6 : w5.cell? ⟨g1, 6, none⟩ = some (.string (ofL gr)) := N5.out.cell 6
    have d7 : w5.cell? ⟨g1, 7, none⟩ = some (.string (ofL mi)) := N5.out.cell 7
    have d8 : w5.cell? ⟨g1, 8, none⟩ = some (.string (ofL pe)) := N5.out.cell 8
    have d9 : w5.cell? ⟨g1, 9, none⟩ = some (.int .i64 p) := N5.out.cell 9
    have d10 : w5.cell? ⟨g1, 10, none⟩ = some (.int .i64 q) := N5.out.cell 10
    have d11 : w5.cell? ⟨g1, 11, none⟩ = some (.slice none 0 0) := N5.out.cell 11
    have d12 : w5.cell? ⟨g1, 12, none⟩ = some (.slice none 0 0) := N5.out.cell 12
    have d13 : w5.cell? ⟨g1, 13, none⟩ = some (.slice none 0 0) := N5.out.cell 13
    have d14 : w5.cell? ⟨g1, 14, none⟩ = some (.slice none 0 0) := N5.out.cell 14
    have d15 : w5.cell? ⟨g1, 15, none⟩ = some (.slice none 0 0) := N5.out.cell 15
    go_wp2_with fail
    clear d0 d1 d2 d3 d4 d5 d6 d7 d8 d9 d10 d11 d12 d13 d14 d15
    refine (HFN.out _ (HL.out E0.out B5.out)).mono ?_
    rintro e w6 ⟨r, hr, rfl, b6⟩
    obtain rfl := hr.uniq HPN.out
    have B6 := Lib.hid (stt B5.out b6 B5.out.size)
    clear b6 hr
    obtain ⟨y1, y2⟩ := strY s
    go_wp2
    go_ret
    exact ⟨rfl, B6.out⟩
  · have k2 : (((en : Nat) : Int) != 0) = true := by rw [bne_iff_ne]; omega
    have k3 : (((en : Nat) : Int) == 0) = false := by rw [beq_eq_false_iff_ne]; omega
    have HT0 : Hid (t = []) := Lib.hid (HPZ.out he)
    obtain ⟨q1, q2⟩ := empY HT0.out
    have q3 : (ofL t).toList.isEmpty = true := by rw [HT0.out, ByteArray.toList_eq]; rfl
    go_wp2
    go_ret
    exact ⟨rfl, B5.out⟩
end
end Go.Proofs.YteofkofgdhmpjaaDoor
