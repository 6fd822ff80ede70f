/- The laws of layer 15: Format, Parse. -/
import Derived.Test.YteofkofgdhmpjaaNui
namespace Go.Proofs.Yteofkofgdhmpjaa
open Go.RowKit
set_option linter.unusedVariables false

theorem fewY_sm {x : SyN} (p1 : -9223372036854775808 ≤ x.pr) (p2 : x.pr ≤ 9223372036854775807) (s1 : -9223372036854775808 ≤ x.se) (s2 : x.se ≤ 9223372036854775807) (h : fewY x = true) : SmY x := by
  unfold fewY at h
  simp only [Bool.and_eq_true, decide_eq_true_eq] at h
  obtain ⟨⟨⟨a, b⟩, c⟩, d⟩ := h
  exact ⟨by omega, by omega, by omega, by omega, p1, p2, s1, s2⟩
theorem par_zero {x : SyN} {s : Str} (h : ¬ (parR x s).2 = 0) : (parR x s).1 = [] := by
  unfold parR at h ⊢
  by_cases hd : x.de = []
  · rw [if_pos hd]
  · rw [if_neg hd] at h ⊢
    cases hs : spl (numT x s) with
    | none => rfl
    | some n =>
      rw [hs] at h
      by_cases k : texR x n = s
      · exact absurd (by simp [k]) h
      · simp [k]
theorem strY (x : Str) : ((ofL x).toList == (ofL x).toList) = true ∧ ((ofL x).toList != (ofL x).toList) = false := ⟨beq_self_eq_true _, by rw [bne_eq_false_iff_eq]⟩
section
variable {EV : World → Prop} (C : NuC EV)
include C
set_option maxRecDepth 1000000 in
set_option maxHeartbeats 8000000 in
theorem numberFormat_walk (x : SyN) (p1 : -9223372036854775808 ≤ x.pr) (p2 : x.pr ≤ 9223372036854775807) (s1 : -9223372036854775808 ≤ x.se) (s2 : x.se ≤ 9223372036854775807) (n sty : Str) (hn : n.length ≤ 9223372036854775807) (hst : sty.length ≤ 9223372036854775807) (w : World) (E : EV w) : Calls Try.prog 3 #[.agg #[.string (ofL x.de), .string (ofL x.gr), .string (ofL x.mi), .string (ofL x.pe), .int .i64 x.pr, .int .i64 x.se], .string (ofL n), .string (ofL sty)] w fun e w' => e = .returned (.bool true) ∧ Below w.heap.size w w' := by
  have HAW := Lib.hid (fun w E => awake15_any C w E)
  have HFW := Lib.hid (fun w => few15_any x w)
  have HL : Hid (∀ {w w' : World}, EV w → Below w.heap.size w w' → EV w') := Lib.hid C.later
  have HSM := Lib.hid (fewY_sm p1 p2 s1 s2)
  obtain ⟨fb, hfb⟩ : ∃ fb, fewY x = fb := ⟨_, rfl⟩
  rw [hfb] at HFW HSM
  clear hfb
  have HF1 := Lib.hid (fun (h : SmY x) (a : n.length ≤ 60) (b : sty.length ≤ 60) w E => C.format x n sty w h (by omega) (by omega) E)
  have HF2 := Lib.hid (fun (h : SmY x) (a : n.length ≤ 60) (b : sty.length ≤ 60) w => format15_zero x h n sty (by omega) (by omega) w)
  obtain ⟨de, e1⟩ : ∃ de, x.de = de := ⟨_, rfl⟩
  obtain ⟨gr, e2⟩ : ∃ gr, x.gr = gr := ⟨_, rfl⟩
  obtain ⟨mi, e3⟩ : ∃ mi, x.mi = mi := ⟨_, rfl⟩
  obtain ⟨pe, e4⟩ : ∃ pe, x.pe = pe := ⟨_, rfl⟩
  obtain ⟨p, e5⟩ : ∃ p, x.pr = p := ⟨_, rfl⟩
  obtain ⟨q, e6⟩ : ∃ q, x.se = q := ⟨_, rfl⟩
  rw [e1, e2, e3, e4, e5, e6] at HFW
  rw [e1, e2, e3, e4, e5, e6] at HF1 HF2
  rw [e1, e2, e3, e4, e5, e6]
  have E0 := Lib.hid E
  clear E p1 p2 s1 s2 e1 e2 e3 e4 e5 e6
  have B0 := Lib.hid ((Below.refl w.heap.size w).alloc (Nat.le_refl _) (.cells #[.string (ofL de), .string (ofL gr), .string (ofL mi), .string (ofL pe), .int .i64 p, .int .i64 q] 23))
  have K0 := Lib.hid (Blk.new w 23 #[.string (ofL de), .string (ofL gr), .string (ofL mi), .string (ofL pe), .int .i64 p, .int .i64 q])
  go_enter Try.func3, Try.ntmps3
  go_wp2_with fail
  refine (HAW.out _ (HL.out E0.out B0.out)).mono ?_
  rintro e w1 ⟨rfl, b1⟩
  have B1 := Lib.hid (stt B0.out b1 B0.out.size)
  have K1 := Lib.hid (K0.out.below b1)
  clear b1
  have d0 : w1.cell? ⟨w.heap.size, 0, none⟩ = some (.string (ofL de)) := K1.out.cell 0
  have d1 : w1.cell? ⟨w.heap.size, 1, none⟩ = some (.string (ofL gr)) := K1.out.cell 1
  have d2 : w1.cell? ⟨w.heap.size, 2, none⟩ = some (.string (ofL mi)) := K1.out.cell 2
  have d3 : w1.cell? ⟨w.heap.size, 3, none⟩ = some (.string (ofL pe)) := K1.out.cell 3
  have d4 : w1.cell? ⟨w.heap.size, 4, none⟩ = some (.int .i64 p) := K1.out.cell 4
  have d5 : w1.cell? ⟨w.heap.size, 5, none⟩ = some (.int .i64 q) := K1.out.cell 5
  go_wp2_with fail
  clear d0 d1 d2 d3 d4 d5
  refine (HFW.out _).mono ?_
  rintro e w2 ⟨rfl, b2⟩
  have B2 := Lib.hid (stt B1.out b2 B1.out.size)
  have K2 := Lib.hid (K1.out.below b2)
  clear b2
  cases fb with
  | false =>
    go_wp2_with fail
    refine (HAW.out _ (HL.out E0.out B2.out)).mono ?_
    rintro e w3 ⟨rfl, b3⟩
    have B3 := Lib.hid (stt B2.out b3 B2.out.size)
    clear b3
    go_wp2
    go_ret
    exact ⟨rfl, B3.out⟩
  | true =>
  have SM := HSM.out rfl
  have HSN := Lib.hid SM
  clear SM
  have hzn : (ofL n).size = n.length := ofL_size n
  have hzs : (ofL sty).size = sty.length := ofL_size sty
  by_cases h1 : 60 < n.length
  · have k1 : decide ((60 : Int) < (n.length : Int)) = true := decide_eq_true (by omega)
    have k1' : decide (60 < n.length) = true := decide_eq_true h1
    clear h1
    go_wp2_with fail
    refine (HAW.out _ (HL.out E0.out B2.out)).mono ?_
    rintro e w3 ⟨rfl, b3⟩
    have B3 := Lib.hid (stt B2.out b3 B2.out.size)
    clear b3
    go_wp2
    go_ret
    exact ⟨rfl, B3.out⟩
  have k1 : decide ((60 : Int) < (n.length : Int)) = false := decide_eq_false (by omega)
  have k1' : decide (60 < n.length) = false := decide_eq_false h1
  by_cases h2 : 60 < sty.length
  · have k2 : decide ((60 : Int) < (sty.length : Int)) = true := decide_eq_true (by omega)
    have k2' : decide (60 < sty.length) = true := decide_eq_true h2
    clear h1 h2
    go_wp2_with fail
    refine (HAW.out _ (HL.out E0.out B2.out)).mono ?_
    rintro e w3 ⟨rfl, b3⟩
    have B3 := Lib.hid (stt B2.out b3 B2.out.size)
    clear b3
    go_wp2
    go_ret
    exact ⟨rfl, B3.out⟩
  have k2 : decide ((60 : Int) < (sty.length : Int)) = false := decide_eq_false (by omega)
  have k2' : decide (60 < sty.length) = false := decide_eq_false h2
  have HF3 := Lib.hid (HF1.out HSN.out (by omega) (by omega))
  have HF4 := Lib.hid (HF2.out HSN.out (by omega) (by omega))
  clear h1 h2 HF1 HF2
  have d0 : w2.cell? ⟨w.heap.size, 0, none⟩ = some (.string (ofL de)) := K2.out.cell 0
  have d1 : w2.cell? ⟨w.heap.size, 1, none⟩ = some (.string (ofL gr)) := K2.out.cell 1
  have d2 : w2.cell? ⟨w.heap.size, 2, none⟩ = some (.string (ofL mi)) := K2.out.cell 2
  have d3 : w2.cell? ⟨w.heap.size, 3, none⟩ = some (.string (ofL pe)) := K2.out.cell 3
  have d4 : w2.cell? ⟨w.heap.size, 4, none⟩ = some (.int .i64 p) := K2.out.cell 4
  have d5 : w2.cell? ⟨w.heap.size, 5, none⟩ = some (.int .i64 q) := K2.out.cell 5
  go_wp2_with fail
  clear d0 d1 d2 d3 d4 d5
  refine (HF3.out _ (HL.out E0.out B2.out)).mono ?_
  rintro e w3 ⟨r, hr, rfl, b3⟩
  have B3 := Lib.hid (stt B2.out b3 B2.out.size)
  have K3 := Lib.hid (K2.out.below b3)
  have HR := Lib.hid hr
  clear b3 hr
  have d0 : w3.cell? ⟨w.heap.size, 0, none⟩ = some (.string (ofL de)) := K3.out.cell 0
  have d1 : w3.cell? ⟨w.heap.size, 1, none⟩ = some (.string (ofL gr)) := K3.out.cell 1
  have d2 : w3.cell? ⟨w.heap.size, 2, none⟩ = some (.string (ofL mi)) := K3.out.cell 2
  have d3 : w3.cell? ⟨w.heap.size, 3, none⟩ = some (.string (ofL pe)) := K3.out.cell 3
  have d4 : w3.cell? ⟨w.heap.size, 4, none⟩ = some (.int .i64 p) := K3.out.cell 4
  have d5 : w3.cell? ⟨w.heap.size, 5, none⟩ = some (.int .i64 q) := K3.out.cell 5
  go_wp2_with fail
  clear d0 d1 d2 d3 d4 d5
  refine (HF4.out _).mono ?_
  rintro e w4 ⟨r2, hr2, rfl, b4⟩
  obtain rfl := hr2.uniq HR.out
  have B4 := Lib.hid (stt B3.out b4 B3.out.size)
  clear b4 hr2 HR
  obtain ⟨r1, rn⟩ := r2
  obtain ⟨z1, z2⟩ := strY r1
  go_wp2
  go_ret
  exact ⟨rfl, B4.out⟩
end
end Go.Proofs.Yteofkofgdhmpjaa
