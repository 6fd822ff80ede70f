/- The laws of layer 15: Styles, the first call fails. -/
import Derived.Test.YteofkofgdhmpjaaNuma
namespace Go.Proofs.Yteofkofgdhmpjaa
open Go.RowKit
set_option linter.unusedVariables false
section
variable {EV : World → Prop} (C : NuC EV)
include C
set_option maxRecDepth 1000000 in
set_option maxHeartbeats 16000000 in
theorem numberStyles_NS (x : SyN) (p1 : -9223372036854775808 ≤ x.pr) (p2 : x.pr ≤ 9223372036854775807) (s1 : -9223372036854775808 ≤ x.se) (s2 : x.se ≤ 9223372036854775807) (s : Str) (hA : ∀ n, spl s = some n → Ro n 0 none) (hB : ∀ n, spl s = some n → ¬ Sh n 2 none) (hs : s.length ≤ 9223372036854775807) (w : World) (E : EV w) : Calls Try.prog 5 #[.agg #[.string (ofL x.de), .string (ofL x.gr), .string (ofL x.mi), .string (ofL x.pe), .int .i64 x.pr, .int .i64 x.se], .string (ofL s)] w fun e w' => e = .returned (.bool true) ∧ Below w.heap.size w w' := by
  have hs9 : (ofL s).size ≤ 9223372036854775807 := by rw [ofL_size]; exact hs
  have HVA := Lib.hid (fun w => refValid_any (ofL s) hs9 w)
  have HRO := Lib.hid (fun w => refRound_any (ofL s) 0 hs9 w)
  have HSH := Lib.hid (fun w => refShift_any (ofL s) 2 hs9 (by decide) (by decide) w)
  rw [show (ofL s).data.toList = s from rfl] at HVA HRO HSH
  clear hs9
  have HAW := Lib.hid (fun w E => awake15_any C w E)
  have HFW := Lib.hid (fun w => few15_any x w)
  have HL : Hid (∀ {w w' : World}, EV w → Below w.heap.size w w' → EV w') := Lib.hid C.later
  have HSM := Lib.hid (fewY_sm p1 p2 s1 s2)
  obtain ⟨fb, hfb⟩ : ∃ fb, fewY x = fb := ⟨_, rfl⟩
  rw [hfb] at HFW HSM
  clear hfb
  have HF1 := Lib.hid (fun (h : SmY x) t sty (a : t.length ≤ 1000) (b : sty.length ≤ 1000) w E => C.format x t sty w h a b E)
  have HPL := Lib.hid (fun n g hd => @fmt_plain x n g hd)
  have HD := Lib.hid (fun n sty g h hd => @fmt_data x n sty g h hd)
  have HI := Lib.hid (fun n g hd o h => @fmt_int x n g hd o h)
  have HPE := Lib.hid (fun n g hd o h => @fmt_per x n g hd o h)
  have HTL := Lib.hid (fun (h : SmY x) n (g : Good n) => tex_len h g)
  have hpl : SmY x → x.pe.length ≤ 1000 := fun h => h.pe
  obtain ⟨de, e1⟩ : ∃ de, x.de = de := ⟨_, rfl⟩
  obtain ⟨gr, e2⟩ : ∃ gr, x.gr = gr := ⟨_, rfl⟩
  obtain ⟨mi, e3⟩ : ∃ mi, x.mi = mi := ⟨_, rfl⟩
  obtain ⟨pe, e4⟩ : ∃ pe, x.pe = pe := ⟨_, rfl⟩
  obtain ⟨p, e5⟩ : ∃ p, x.pr = p := ⟨_, rfl⟩
  obtain ⟨q, e6⟩ : ∃ q, x.se = q := ⟨_, rfl⟩
  rw [e1, e2, e3, e4, e5, e6] at HFW
  rw [e1, e2, e3, e4, e5, e6] at HF1
  rw [e4] at hpl
  have E1 := Lib.hid e1
  have E4 := Lib.hid e4
  rw [e1, e2, e3, e4, e5, e6]
  have E0 := Lib.hid E
  clear E p1 p2 s1 s2 e1 e2 e3 e4 e5 e6
  have B0 := Lib.hid ((Below.refl w.heap.size w).alloc (Nat.le_refl _) (.cells #[.string (ofL de), .string (ofL gr), .string (ofL mi), .string (ofL pe), .int .i64 p, .int .i64 q] 23))
  have K0 := Lib.hid (Blk.new w 23 #[.string (ofL de), .string (ofL gr), .string (ofL mi), .string (ofL pe), .int .i64 p, .int .i64 q])
  go_enter Try.func5, Try.ntmps5
  go_wp2_with fail
  refine (HAW.out _ (HL.out E0.out B0.out)).mono ?_
  rintro e w1 ⟨rfl, b1⟩
  have B1 := Lib.hid (stt B0.out b1 B0.out.size)
  have K1 := Lib.hid (K0.out.below b1)
  clear b1
  have d0 : w1.cell? ⟨w.heap.size, 0, none⟩ = some (.string (ofL de)) := K1.out.cell 0
  have d1 : w1.cell? ⟨w.heap.size, 1, none⟩ = some (.string (ofL gr)) := K1.out.cell 1
  have d2 : w1.cell? ⟨w.heap.size, 2, none⟩ = some (.string (ofL mi)) := K1.out.cell 2
  have d3 : w1.cell? ⟨w.heap.size, 3, none⟩ = some (.string (ofL pe)) := K1.out.cell 3
  have d4 : w1.cell? ⟨w.heap.size, 4, none⟩ = some (.int .i64 p) := K1.out.cell 4
  have d5 : w1.cell? ⟨w.heap.size, 5, none⟩ = some (.int .i64 q) := K1.out.cell 5
  go_wp2_with fail
  clear d0 d1 d2 d3 d4 d5
  refine (HFW.out _).mono ?_
  rintro e w2 ⟨rfl, b2⟩
  have B2 := Lib.hid (stt B1.out b2 B1.out.size)
  have K2 := Lib.hid (K1.out.below b2)
  clear b2
  cases fb with
  | false =>
    go_wp2_with fail
    refine (HAW.out _ (HL.out E0.out B2.out)).mono ?_
    rintro e w3 ⟨rfl, b3⟩
    have B3 := Lib.hid (stt B2.out b3 B2.out.size)
    clear b3
    go_wp2
    go_ret
    exact ⟨rfl, B3.out⟩
  | true =>
  have SM := HSM.out rfl
  have hpe := hpl SM
  have HFF := Lib.hid (HF1.out SM)
  have HTLL := Lib.hid (HTL.out SM)
  clear SM HF1 HTL HSM hpl
  obtain ⟨vb, hvb⟩ : ∃ vb, (spl s).isSome = vb := ⟨_, rfl⟩
  rw [hvb] at HVA
  have HVB := Lib.hid hvb
  clear hvb
  go_wp2_with fail
  refine (HVA.out _).mono ?_
  rintro e w3 ⟨rfl, b3⟩
  have B3 := Lib.hid (stt B2.out b3 B2.out.size)
  have K3 := Lib.hid (K2.out.below b3)
  clear b3
  cases vb with
  | false =>
    go_wp2_with fail
    refine (HAW.out _ (HL.out E0.out B3.out)).mono ?_
    rintro e w4 ⟨rfl, b4⟩
    have B4 := Lib.hid (stt B3.out b4 B3.out.size)
    clear b4
    go_wp2
    go_ret
    exact ⟨rfl, B4.out⟩
  | true =>
  obtain ⟨n, hn⟩ := Option.isSome_iff_exists.1 HVB.out
  obtain ⟨gn, hsn⟩ := spl_some hn
  have hsl : s.length ≤ 1000 := by rw [← hsn]; have := txt_len gn; omega
  have HFI := Lib.hid (fun w E => HFF.out s intT hsl (by decide) w E)
  have HFP := Lib.hid (fun w E => HFF.out s perT hsl (by decide) w E)
  have HN := Lib.hid hn
  have HA1 := Lib.hid (hA n hn)
  have HB1 := Lib.hid (hB n hn)
  have HG := Lib.hid gn
  have HSN := Lib.hid hsn
  clear hn gn hsn hsl hA hB
  have d0 : w3.cell? ⟨w.heap.size, 0, none⟩ = some (.string (ofL de)) := K3.out.cell 0
  have d1 : w3.cell? ⟨w.heap.size, 1, none⟩ = some (.string (ofL gr)) := K3.out.cell 1
  have d2 : w3.cell? ⟨w.heap.size, 2, none⟩ = some (.string (ofL mi)) := K3.out.cell 2
  have d3 : w3.cell? ⟨w.heap.size, 3, none⟩ = some (.string (ofL pe)) := K3.out.cell 3
  have d4 : w3.cell? ⟨w.heap.size, 4, none⟩ = some (.int .i64 p) := K3.out.cell 4
  have d5 : w3.cell? ⟨w.heap.size, 5, none⟩ = some (.int .i64 q) := K3.out.cell 5
  have B4 := Lib.hid (B3.out.alloc B3.out.size (.cells #[.string ⟨#[]⟩, .string ⟨#[]⟩, .string ⟨#[]⟩, .slice none 0 0, .slice none 0 0, .string (ofL de), .string (ofL gr), .string (ofL mi), .string (ofL pe), .int .i64 p, .int .i64 q, .slice none 0 0, .slice none 0 0, .slice none 0 0, .slice none 0 0, .slice none 0 0] 35))
  have K4 := Lib.hid (K3.out.alloc (.cells #[.string ⟨#[]⟩, .string ⟨#[]⟩, .string ⟨#[]⟩, .slice none 0 0, .slice none 0 0, .string (ofL de), .string (ofL gr), .string (ofL mi), .string (ofL pe), .int .i64 p, .int .i64 q, .slice none 0 0, .slice none 0 0, .slice none 0 0, .slice none 0 0, .slice none 0 0] 35))
  have N4 := Lib.hid (Blk.new w3 35 #[.string ⟨#[]⟩, .string ⟨#[]⟩, .string ⟨#[]⟩, .slice none 0 0, .slice none 0 0, .string (ofL de), .string (ofL gr), .string (ofL mi), .string (ofL pe), .int .i64 p, .int .i64 q, .slice none 0 0, .slice none 0 0, .slice none 0 0, .slice none 0 0, .slice none 0 0])
  go_upto_region 4 with fail
  obtain ⟨w4, hw4⟩ : ∃ w4, w3.alloc (.cells #[.string ⟨#[]⟩, .string ⟨#[]⟩, .string ⟨#[]⟩, .slice none 0 0, .slice none 0 0, .string (ofL de), .string (ofL gr), .string (ofL mi), .string (ofL pe), .int .i64 p, .int .i64 q, .slice none 0 0, .slice none 0 0, .slice none 0 0, .slice none 0 0, .slice none 0 0] 35) = w4 := ⟨_, rfl⟩
  rw [hw4] at B4 K4 N4 ⊢
  clear d0 d1 d2 d3 d4 d5
  go_cut [6, 7] from 18 to 37 (fun v6 v7 wx => ∃ (t1 : Str) (n1 : Nat), v6 = .string (ofL t1) ∧ v7 = .int .i64 (n1 : Int) ∧ (∃ o1, Ro n 0 o1 ∧ ((o1 = none ∧ t1 = [] ∧ n1 = 2) ∨ (o1 = some t1 ∧ n1 = 0))) ∧ Below w4.heap.size w4 wx)
  case first =>
    go_wp2_with fail
    refine (HRO.out _).mono ?_
    rintro e w5 ⟨hp, b5⟩
    have HB5 := Lib.hid b5
    obtain ⟨o1, hro, rfl⟩ : ∃ o, Ro n 0 o ∧ e = .returned (resV o) := by
      rcases hp with ⟨h, _⟩ | ⟨y, h, h2, _⟩ | ⟨y, d, o, h, h2, _, h3, rfl⟩
      · rw [HN.out] at h; cases h
      · omega
      · rw [HN.out] at h
        injection h with h
        subst h
        obtain rfl : d = 0 := by omega
        exact ⟨o, h3, rfl⟩
    have HROO := Lib.hid hro
    clear hp b5 hro
    cases o1 with
    | none =>
      rw [show resV none = .tuple #[.string (ofL []), .int .i64 ((2 : Nat) : Int)] from rfl]
      go_wp2_with fail
      go_meet
      exact ⟨[], 2, rfl, rfl, ⟨none, HROO.out, .inl ⟨rfl, rfl, rfl⟩⟩, HB5.out⟩
    | some t =>
      rw [show resV (some t) = .tuple #[.string (ofL t), .int .i64 ((0 : Nat) : Int)] from rfl]
      go_wp2_with fail
      go_meet
      exact ⟨t, 0, rfl, rfl, ⟨some t, HROO.out, .inr ⟨rfl, rfl⟩⟩, HB5.out⟩
  case rest =>
  obtain ⟨t1, n1, rfl, rfl, ⟨o1, hro, hc1⟩, b5⟩ := hcut
  rename World => w5
  have B5 := Lib.hid (stt B4.out b5 B4.out.size)
  have K5 := Lib.hid (K4.out.below b5)
  have N5 := Lib.hid (N4.out.below b5)
  have HR1 := Lib.hid hro
  clear b5 hro
  obtain ⟨g1, hg1⟩ : ∃ g1, w3.heap.size = g1 := ⟨_, rfl⟩
  rw [hg1] at N5 ⊢
  clear hg1 N4 B4 K4
  obtain rfl : o1 = none := res_one HR1.out HA1.out
  obtain ⟨rfl, rfl⟩ : t1 = [] ∧ n1 = 2 := by
    rcases hc1 with ⟨_, h1, h2⟩ | ⟨h, _⟩
    · exact ⟨h1, h2⟩
    · cases h
  clear hc1
  have d0 : w5.cell? ⟨g1, 0, none⟩ = some (.string ⟨#[]⟩) := N5.out.cell 0
  have d1 : w5.cell? ⟨g1, 1, none⟩ = some (.string ⟨#[]⟩) := N5.out.cell 1
  have d2 : w5.cell? ⟨g1, 2, none⟩ = some (.string ⟨#[]⟩) := N5.out.cell 2
  have d3 : w5.cell? ⟨g1, 3, none⟩ = some (.slice none 0 0) := N5.out.cell 3
  have d4 : w5.cell? ⟨g1, 4, none⟩ = some (.slice none 0 0) := N5.out.cell 4
  have d5 : w5.cell? ⟨g1, 5, none⟩ = some (.string (ofL de)) := N5.out.cell 5
  have d6 : w5.cell? ⟨g1, 6, none⟩ = some (.string (ofL gr)) := N5.out.cell 6
  have d7 : w5.cell? ⟨g1, 7, none⟩ = some (.string (ofL mi)) := N5.out.cell 7
  have d8 : w5.cell? ⟨g1, 8, none⟩ = some (.string (ofL pe)) := N5.out.cell 8
  have d9 : w5.cell? ⟨g1, 9, none⟩ = some (.int .i64 p) := N5.out.cell 9
  have d10 : w5.cell? ⟨g1, 10, none⟩ = some (.int .i64 q) := N5.out.cell 10
  have d11 : w5.cell? ⟨g1, 11, none⟩ = some (.slice none 0 0) := N5.out.cell 11
  have d12 : w5.cell? ⟨g1, 12, none⟩ = some (.slice none 0 0) := N5.out.cell 12
  have d13 : w5.cell? ⟨g1, 13, none⟩ = some (.slice none 0 0) := N5.out.cell 13
  have d14 : w5.cell? ⟨g1, 14, none⟩ = some (.slice none 0 0) := N5.out.cell 14
  have d15 : w5.cell? ⟨g1, 15, none⟩ = some (.slice none 0 0) := N5.out.cell 15
  go_wp2_with fail
  clear d0 d1 d2 d3 d4 d5 d6 d7 d8 d9 d10 d11 d12 d13 d14 d15
  refine (HFI.out _ (HL.out E0.out B5.out)).mono ?_
  rintro e w6 ⟨r1, hr1, rfl, b6⟩
  have B6 := Lib.hid (stt B5.out b6 B5.out.size)
  have K6 := Lib.hid (K5.out.below b6)
  have N6 := Lib.hid (N5.out.below b6)
  have HQ1 := Lib.hid hr1
  clear b6 hr1
  go_upto_region 6 with fail
  go_cut [10, 11] from 18 to 48 (fun v10 v11 wx => ∃ (t2 : Str) (n2 : Nat), v10 = .string (ofL t2) ∧ v11 = .int .i64 (n2 : Int) ∧ (∃ o2, Sh n 2 o2 ∧ ((o2 = none ∧ t2 = [] ∧ n2 = 2) ∨ (o2 = some t2 ∧ n2 = 0))) ∧ Below w6.heap.size w6 wx)
  case first =>
    go_wp2_with fail
    refine (HSH.out _).mono ?_
    rintro e w7 ⟨hp, b7⟩
    have HB7 := Lib.hid b7
    obtain ⟨o2, hsh, rfl⟩ : ∃ o, Sh n 2 o ∧ e = .returned (resV o) := by
      rcases hp with ⟨h, _⟩ | ⟨y, o, h, h3, rfl⟩
      · rw [HN.out] at h; cases h
      · rw [HN.out] at h
        injection h with h
        subst h
        exact ⟨o, h3, rfl⟩
    have HSHH := Lib.hid hsh
    clear hp b7 hsh
    cases o2 with
    | none =>
      rw [show resV none = .tuple #[.string (ofL []), .int .i64 ((2 : Nat) : Int)] from rfl]
      go_wp2_with fail
      go_meet
      exact ⟨[], 2, rfl, rfl, ⟨none, HSHH.out, .inl ⟨rfl, rfl, rfl⟩⟩, HB7.out⟩
    | some t =>
      rw [show resV (some t) = .tuple #[.string (ofL t), .int .i64 ((0 : Nat) : Int)] from rfl]
      go_wp2_with fail
      go_meet
      exact ⟨t, 0, rfl, rfl, ⟨some t, HSHH.out, .inr ⟨rfl, rfl⟩⟩, HB7.out⟩
  case rest =>
  obtain ⟨t2, n2, rfl, rfl, ⟨o2, hsh, hc2⟩, b7⟩ := hcut
  rename World => w7
  have B7 := Lib.hid (stt B6.out b7 B6.out.size)
  have K7 := Lib.hid (K6.out.below b7)
  have N7 := Lib.hid (N6.out.below b7)
  have HR2 := Lib.hid hsh
  clear b7 hsh
  obtain ⟨rfl, rfl⟩ : o2 = some t2 ∧ n2 = 0 := by
    rcases hc2 with ⟨rfl, _⟩ | h
    · exact absurd HR2.out HB1.out
    · exact h
  clear hc2
  have d0 : w7.cell? ⟨g1, 0, none⟩ = some (.string ⟨#[]⟩) := N7.out.cell 0
  have d1 : w7.cell? ⟨g1, 1, none⟩ = some (.string ⟨#[]⟩) := N7.out.cell 1
  have d2 : w7.cell? ⟨g1, 2, none⟩ = some (.string ⟨#[]⟩) := N7.out.cell 2
  have d3 : w7.cell? ⟨g1, 3, none⟩ = some (.slice none 0 0) := N7.out.cell 3
  have d4 : w7.cell? ⟨g1, 4, none⟩ = some (.slice none 0 0) := N7.out.cell 4
  have d5 : w7.cell? ⟨g1, 5, none⟩ = some (.string (ofL de)) := N7.out.cell 5
  have d6 : w7.cell? ⟨g1, 6, none⟩ = some (.string (ofL gr)) := N7.out.cell 6
  have d7 : w7.cell? ⟨g1, 7, none⟩ = some (.string (ofL mi)) := N7.out.cell 7
  have d8 : w7.cell? ⟨g1, 8, none⟩ = some (.string (ofL pe)) := N7.out.cell 8
  have d9 : w7.cell? ⟨g1, 9, none⟩ = some (.int .i64 p) := N7.out.cell 9
  have d10 : w7.cell? ⟨g1, 10, none⟩ = some (.int .i64 q) := N7.out.cell 10
  have d11 : w7.cell? ⟨g1, 11, none⟩ = some (.slice none 0 0) := N7.out.cell 11
  have d12 : w7.cell? ⟨g1, 12, none⟩ = some (.slice none 0 0) := N7.out.cell 12
  have d13 : w7.cell? ⟨g1, 13, none⟩ = some (.slice none 0 0) := N7.out.cell 13
  have d14 : w7.cell? ⟨g1, 14, none⟩ = some (.slice none 0 0) := N7.out.cell 14
  have d15 : w7.cell? ⟨g1, 15, none⟩ = some (.slice none 0 0) := N7.out.cell 15
  go_wp2_with fail
  clear d0 d1 d2 d3 d4 d5 d6 d7 d8 d9 d10 d11 d12 d13 d14 d15
  refine (HFP.out _ (HL.out E0.out B7.out)).mono ?_
  rintro e w8 ⟨r2, hr2, rfl, b8⟩
  have B8 := Lib.hid (stt B7.out b8 B7.out.size)
  have K8 := Lib.hid (K7.out.below b8)
  have N8 := Lib.hid (N7.out.below b8)
  have HQ2 := Lib.hid hr2
  clear b8 hr2
  have c0 : w8.cell? ⟨w.heap.size, 0, none⟩ = some (.string (ofL de)) := K8.out.cell 0
  obtain ⟨db, hdb⟩ : ∃ b, decide (de = []) = b := ⟨_, rfl⟩
  have q0 : ((ofL de).toList == ([] : List UInt8)) = db := by
    rw [ByteArray.toList_eq, ← hdb]
    by_cases h : de = []
    · rw [h]; rfl
    · rw [decide_eq_false h, beq_eq_false_iff_ne]; exact h
  have HDB := Lib.hid hdb
  clear hdb
  go_upto_region 8 with fail
  go_cut [57] from 18 to 57 (fun v57 wx => v57 = .bool db ∧ wx = w8)
  case first =>
    go_wp2_with fail
    go_meet
    exact ⟨rfl, rfl⟩
  case rest =>
  obtain ⟨rfl, hwc⟩ := hcut
  obtain rfl := hwc.symm
  clear hwc q0 c0
  by_cases hde : de = []
  · obtain rfl : db = true := by rw [← HDB.out]; exact decide_eq_true hde
    obtain rfl := HQ1.out.uniq (by rw [← HSN.out]; exact HD.out n intT HG.out (.inr (.inl rfl)) (by rw [E1.out]; exact hde))
    obtain rfl := HQ2.out.uniq (by rw [← HSN.out]; exact HD.out n perT HG.out (.inr (.inr rfl)) (by rw [E1.out]; exact hde))
    clear hde
    go_wp2
    go_ret
    exact ⟨rfl, B8.out⟩
  obtain rfl : db = false := by rw [← HDB.out]; exact decide_eq_false hde
  have hde2 : x.de ≠ [] := by rw [E1.out]; exact hde
  obtain rfl := HQ1.out.uniq (by rw [← HSN.out]; exact HI.out n HG.out hde2 _ HR1.out)
  obtain rfl := HQ2.out.uniq (by rw [← HSN.out]; exact HPE.out n HG.out hde2 _ HR2.out)
  have HDE := Lib.hid hde2
  clear hde hde2
  have HPN : Hid (∀ y, Good y → FmtP x (txt y) [] (texR x y, 0)) := Lib.hid (fun y gy => HPL.out y gy HDE.out)
  rw [E4.out]
  rw [show texO x [] none = ([], 2) from rfl]
  obtain ⟨y2, gy2, hy2⟩ : ∃ y, Good y ∧ txt y = t2 := shY_of HR2.out
  have e2 : numO t2 = y2 := by rw [← hy2]; exact numO_of gy2
  rw [show texO x pe (some t2) = (texR x (numO t2) ++ pe, 0) from rfl, e2]
  have HF2 := Lib.hid (fun w E => HFF.out t2 [] (by rw [← hy2]; have := txt_len gy2; omega) (by decide) w E)
  have HP2 : Hid (FmtP x t2 [] (texR x y2, 0)) := Lib.hid (by rw [← hy2]; exact HPN.out y2 gy2)
  have htl := HTLL.out y2 gy2
  obtain ⟨T2, hT2⟩ : ∃ T, texR x y2 = T := ⟨_, rfl⟩
  rw [hT2] at HP2 htl ⊢
  obtain ⟨F2, hF2⟩ : ∃ F, T2 ++ pe = F := ⟨_, rfl⟩
  have s1 : ∀ wx, (Op.stringOp .add (ofL T2) (ofL pe)).run Try.prog wx = .ok (.string (ofL F2)) wx := fun wx => str_add (by omega) hF2 wx
  rw [hF2]
  obtain ⟨y1, y2'⟩ := strY F2
  clear gy2 hy2 e2 hT2 hF2 htl
  have d0 : w8.cell? ⟨g1, 0, none⟩ = some (.string ⟨#[]⟩) := N8.out.cell 0
  have d1 : w8.cell? ⟨g1, 1, none⟩ = some (.string ⟨#[]⟩) := N8.out.cell 1
  have d2 : w8.cell? ⟨g1, 2, none⟩ = some (.string ⟨#[]⟩) := N8.out.cell 2
  have d3 : w8.cell? ⟨g1, 3, none⟩ = some (.slice none 0 0) := N8.out.cell 3
  have d4 : w8.cell? ⟨g1, 4, none⟩ = some (.slice none 0 0) := N8.out.cell 4
  have d5 : w8.cell? ⟨g1, 5, none⟩ = some (.string (ofL de)) := N8.out.cell 5
  have d6 : w8.cell? ⟨g1, 6, none⟩ = some (.string (ofL gr)) := N8.out.cell 6
  have d7 : w8.cell? ⟨g1, 7, none⟩ = some (.string (ofL mi)) := N8.out.cell 7
  have d8 : w8.cell? ⟨g1, 8, none⟩ = some (.string (ofL pe)) := N8.out.cell 8
  have d9 : w8.cell? ⟨g1, 9, none⟩ = some (.int .i64 p) := N8.out.cell 9
  have d10 : w8.cell? ⟨g1, 10, none⟩ = some (.int .i64 q) := N8.out.cell 10
  have d11 : w8.cell? ⟨g1, 11, none⟩ = some (.slice none 0 0) := N8.out.cell 11
  have d12 : w8.cell? ⟨g1, 12, none⟩ = some (.slice none 0 0) := N8.out.cell 12
  have d13 : w8.cell? ⟨g1, 13, none⟩ = some (.slice none 0 0) := N8.out.cell 13
  have d14 : w8.cell? ⟨g1, 14, none⟩ = some (.slice none 0 0) := N8.out.cell 14
  have d15 : w8.cell? ⟨g1, 15, none⟩ = some (.slice none 0 0) := N8.out.cell 15
  go_wp2_with fail
  clear d0 d1 d2 d3 d4 d5 d6 d7 d8 d9 d10 d11 d12 d13 d14 d15
  refine (HF2.out _ (HL.out E0.out B8.out)).mono ?_
  rintro e w10 ⟨r, hr, rfl, b10⟩
  obtain rfl := hr.uniq HP2.out
  have B10 := Lib.hid (stt B8.out b10 B8.out.size)
  have K10 := Lib.hid (K8.out.below b10)
  clear b10 hr
  have c3 : w10.cell? ⟨w.heap.size, 3, none⟩ = some (.string (ofL pe)) := K10.out.cell 3
  go_wp2
  go_ret
  exact ⟨rfl, B10.out⟩
end
end Go.Proofs.Yteofkofgdhmpjaa
