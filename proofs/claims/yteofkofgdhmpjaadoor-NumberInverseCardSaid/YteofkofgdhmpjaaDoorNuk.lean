/- The laws of layer 15: Inverse. -/
import Derived.Test.YteofkofgdhmpjaaDoorNuj
namespace Go.Proofs.YteofkofgdhmpjaaDoor
open Go.RowKit
set_option linter.unusedVariables false

section
variable {EV : World → Prop} (C : NuC EV)
include C
set_option maxRecDepth 1000000 in
set_option maxHeartbeats 8000000 in
theorem numberInverse_walk (x : SyN) (p1 : -9223372036854775808 ≤ x.pr) (p2 : x.pr ≤ 9223372036854775807) (s1 : -9223372036854775808 ≤ x.se) (s2 : x.se ≤ 9223372036854775807) (s : Str) (hs : s.length ≤ 9223372036854775807) (w : World) (E : EV w) : Calls Tryd.prog 4 #[.agg #[.string (ofL x.de), .string (ofL x.gr), .string (ofL x.mi), .string (ofL x.pe), .int .i64 x.pr, .int .i64 x.se], .string (ofL s)] w fun e w' => e = .returned (.bool true) ∧ Below w.heap.size w w' := by
  have HVA := Lib.hid (fun w => refValid_any (ofL s) (by rw [ofL_size]; exact hs) w)
  rw [show (ofL s).data.toList = s from rfl] at HVA
  have HAW := Lib.hid (fun w E => awake15_any C w E)
  have HFW := Lib.hid (fun w => few15_any x w)
  have HL : Hid (∀ {w w' : World}, EV w → Below w.heap.size w w' → EV w') := Lib.hid C.later
  have HSM := Lib.hid (fewY_sm p1 p2 s1 s2)
  obtain ⟨fb, hfb⟩ : ∃ fb, fewY x = fb := ⟨_, rfl⟩
  rw [hfb] at HFW HSM
  clear hfb
  have HS1 := Lib.hid (fun (h : SmY x) w E => C.sound x w h E)
  have HS2 := Lib.hid (fun (h : SmY x) w => sound_any x h w)
  have HF1 := Lib.hid (fun (h : SmY x) (a : s.length ≤ 1000) w E => C.format x s [] w h a (by decide) E)
  have HP1 := Lib.hid (fun (h : SmY x) t (a : t.length ≤ 100000) w E => C.parse x t w h a E)
  have HSO := Lib.hid (@sound_of x)
  have HPL := Lib.hid (fun n g hd => @fmt_plain x n g hd)
  have HPB := Lib.hid (fun h n g => @par_back x h n g)
  have HTL := Lib.hid (fun (h : SmY x) n (g : Good n) => tex_len h g)
  obtain ⟨de, e1⟩ : ∃ de, x.de = de := ⟨_, rfl⟩
  obtain ⟨gr, e2⟩ : ∃ gr, x.gr = gr := ⟨_, rfl⟩
  obtain ⟨mi, e3⟩ : ∃ mi, x.mi = mi := ⟨_, rfl⟩
  obtain ⟨pe, e4⟩ : ∃ pe, x.pe = pe := ⟨_, rfl⟩
  obtain ⟨p, e5⟩ : ∃ p, x.pr = p := ⟨_, rfl⟩
  obtain ⟨q, e6⟩ : ∃ q, x.se = q := ⟨_, rfl⟩
  rw [e1, e2, e3, e4, e5, e6] at HFW
  rw [e1, e2, e3, e4, e5, e6] at HS1 HS2 HF1 HP1
  rw [e1, e2, e3, e4, e5, e6]
  have E0 := Lib.hid E
  clear E p1 p2 s1 s2 e1 e2 e3 e4 e5 e6
  have B0 := Lib.hid ((Below.refl w.heap.size w).alloc (Nat.le_refl _) (.cells #[.string (ofL de), .string (ofL gr), .string (ofL mi), .string (ofL pe), .int .i64 p, .int .i64 q] 23))
  have K0 := Lib.hid (Blk.new w 23 #[.string (ofL de), .string (ofL gr), .string (ofL mi), .string (ofL pe), .int .i64 p, .int .i64 q])
  go_enter Tryd.func4, Tryd.ntmps4
  go_wp2_with fail
  refine (HAW.out _ (HL.out E0.out B0.out)).mono ?_
  rintro e w1 ⟨rfl, b1⟩
  have B1 := Lib.hid (stt B0.out b1 B0.out.size)
  have K1 := Lib.hid (K0.out.below b1)
  clear b1
  have d0 : w1.cell? ⟨w.heap.size, 0, none⟩ = some (.string (ofL de)) := K1.out.cell 0
  have d1 : w1.cell? ⟨w.heap.size, 1, none⟩ = some (.string (ofL gr)) := K1.out.cell 1
  have d2 : w1.cell? ⟨w.heap.size, 2, none⟩ = some (.string (ofL mi)) := K1.out.cell 2
  have d3 : w1.cell? ⟨w.heap.size, 3, none⟩ = some (.string (ofL pe)) := K1.out.cell 3
  have d4 : w1.cell? ⟨w.heap.size, 4, none⟩ = some (.int .i64 p) := K1.out.cell 4
  have d5 : w1.cell? ⟨w.heap.size, 5, none⟩ = some (.int .i64 q) := K1.out.cell 5
  go_wp2_with fail
  clear d0 d1 d2 d3 d4 d5
  refine (HFW.out _).mono ?_
  rintro e w2 ⟨rfl, b2⟩
  have B2 := Lib.hid (stt B1.out b2 B1.out.size)
  have K2 := Lib.hid (K1.out.below b2)
  clear b2
  cases fb with
  | false =>
    go_wp2_with fail
    refine (HAW.out _ (HL.out E0.out B2.out)).mono ?_
    rintro e w3 ⟨rfl, b3⟩
    have B3 := Lib.hid (stt B2.out b3 B2.out.size)
    clear b3
    go_wp2
    go_ret
    exact ⟨rfl, B3.out⟩
  | true =>
  have SM := HSM.out rfl
  have HSS1 := Lib.hid (HS1.out SM)
  have HSS2 := Lib.hid (HS2.out SM)
  have HFF1 := Lib.hid (HF1.out SM)
  have HPP1 := Lib.hid (HP1.out SM)
  have HTLL := Lib.hid (HTL.out SM)
  clear SM HS1 HS2 HF1 HP1 HTL HSM
  obtain ⟨vb, hvb⟩ : ∃ vb, (spl s).isSome = vb := ⟨_, rfl⟩
  rw [hvb] at HVA
  have HVB := Lib.hid hvb
  clear hvb
  go_wp2_with fail
  refine (HVA.out _).mono ?_
  rintro e w3 ⟨rfl, b3⟩
  have B3 := Lib.hid (stt B2.out b3 B2.out.size)
  have K3 := Lib.hid (K2.out.below b3)
  clear b3
  cases vb with
  | false =>
    go_wp2_with fail
    refine (HAW.out _ (HL.out E0.out B3.out)).mono ?_
    rintro e w4 ⟨rfl, b4⟩
    have B4 := Lib.hid (stt B3.out b4 B3.out.size)
    clear b4
    go_wp2
    go_ret
    exact ⟨rfl, B4.out⟩
  | true =>
  obtain ⟨n, hn⟩ := Option.isSome_iff_exists.1 HVB.out
  obtain ⟨gn, hsn⟩ := spl_some hn
  have HG := Lib.hid gn
  have HSN := Lib.hid hsn
  clear hn gn hsn
  obtain ⟨sb, hsb⟩ : ∃ sb, souR x = sb := ⟨_, rfl⟩
  rw [hsb] at HSS1 HSS2 HSO
  clear hsb
  have HCE : Hid (∀ wx, Below w3.heap.size w3 wx → wx.cell? ⟨w.heap.size, 0, none⟩ = some (.string (ofL de)) ∧ wx.cell? ⟨w.heap.size, 1, none⟩ = some (.string (ofL gr)) ∧ wx.cell? ⟨w.heap.size, 2, none⟩ = some (.string (ofL mi)) ∧ wx.cell? ⟨w.heap.size, 3, none⟩ = some (.string (ofL pe)) ∧ wx.cell? ⟨w.heap.size, 4, none⟩ = some (.int .i64 p) ∧ wx.cell? ⟨w.heap.size, 5, none⟩ = some (.int .i64 q)) := Lib.hid (fun wx hb => ⟨(K3.out.below hb).cell 0, (K3.out.below hb).cell 1, (K3.out.below hb).cell 2, (K3.out.below hb).cell 3, (K3.out.below hb).cell 4, (K3.out.below hb).cell 5⟩)
  go_wp2_with fail
  go_region_held3 (fun wx => wx.cell? ⟨w.heap.size, 0, none⟩ = some (.string (ofL de)) ∧ wx.cell? ⟨w.heap.size, 1, none⟩ = some (.string (ofL gr)) ∧ wx.cell? ⟨w.heap.size, 2, none⟩ = some (.string (ofL mi)) ∧ wx.cell? ⟨w.heap.size, 3, none⟩ = some (.string (ofL pe)) ∧ wx.cell? ⟨w.heap.size, 4, none⟩ = some (.int .i64 p) ∧ wx.cell? ⟨w.heap.size, 5, none⟩ = some (.int .i64 q)) (first | exact HCE.out _ B5 | exact HCE.out _ B4 | exact HCE.out _ (Below.refl _ _).drew) (first | (go_at_call 11; refine (HSS1.out _ (HL.out E0.out B3.out.drew)).mono ?_; rintro e w4 ⟨rfl, b4⟩; have B4 : Below w3.heap.size w3 w4 := (Below.refl _ w3).drew.trans b4; clear b4) | (go_at_call 12; refine (HSS2.out _).mono ?_; rintro e w5 ⟨rfl, b5⟩; have B5 : Below w3.heap.size w3 w5 := stt B4 b5 B4.size; clear b5))
  all_goals
    have B6 := Lib.hid (stt B3.out B5 B3.out.size)
    have K6 := Lib.hid (K3.out.below B5)
    have z0 : (sb != sb) = false := by cases sb <;> rfl
    have d0 : w5.cell? ⟨w.heap.size, 0, none⟩ = some (.string (ofL de)) := K6.out.cell 0
    have d1 : w5.cell? ⟨w.heap.size, 1, none⟩ = some (.string (ofL gr)) := K6.out.cell 1
    have d2 : w5.cell? ⟨w.heap.size, 2, none⟩ = some (.string (ofL mi)) := K6.out.cell 2
    have d3 : w5.cell? ⟨w.heap.size, 3, none⟩ = some (.string (ofL pe)) := K6.out.cell 3
    have d4 : w5.cell? ⟨w.heap.size, 4, none⟩ = some (.int .i64 p) := K6.out.cell 4
    have d5 : w5.cell? ⟨w.heap.size, 5, none⟩ = some (.int .i64 q) := K6.out.cell 5
    go_wp2_with fail
    clear d0 d1 d2 d3 d4 d5
    refine (HSS2.out _).mono ?_
    rintro e w6 ⟨rfl, b6⟩
    have B7 := Lib.hid (stt B6.out b6 B6.out.size)
    have K7 := Lib.hid (K6.out.below b6)
    clear b6
    cases sb with
    | false =>
      go_wp2
      go_ret
      exact ⟨rfl, B7.out⟩
    | true =>
    have HSD := Lib.hid (HSO.out rfl)
    have HPN : Hid (FmtP x s [] (texR x n, 0)) := Lib.hid (by rw [← HSN.out]; exact HPL.out n HG.out HSD.out.de)
    have HPR : Hid (parR x (texR x n) = (s, 0)) := Lib.hid (by rw [← HSN.out]; exact HPB.out HSD.out n HG.out)
    have hsl : s.length ≤ 1000 := by rw [← HSN.out]; have := txt_len HG.out; omega
    have HFN := Lib.hid (fun w E => HFF1.out hsl w E)
    have HPQ := Lib.hid (fun w E => HPP1.out (texR x n) (by have := HTLL.out n HG.out; omega) w E)
    rw [HPR.out] at HPQ
    obtain ⟨T, hT⟩ : ∃ T, texR x n = T := ⟨_, rfl⟩
    rw [hT] at HPN HPQ
    clear hT hsl HPR
    have d0 : w6.cell? ⟨w.heap.size, 0, none⟩ = some (.string (ofL de)) := K7.out.cell 0
    have d1 : w6.cell? ⟨w.heap.size, 1, none⟩ = some (.string (ofL gr)) := K7.out.cell 1
    have d2 : w6.cell? ⟨w.heap.size, 2, none⟩ = some (.string (ofL mi)) := K7.out.cell 2
    have d3 : w6.cell? ⟨w.heap.size, 3, none⟩ = some (.string (ofL pe)) := K7.out.cell 3
    have d4 : w6.cell? ⟨w.heap.size, 4, none⟩ = some (.int .i64 p) := K7.out.cell 4
    have d5 : w6.cell? ⟨w.heap.size, 5, none⟩ = some (.int .i64 q) := K7.out.cell 5
    have B8 := Lib.hid (B7.out.alloc B7.out.size (.cells #[.string ⟨#[]⟩, .string ⟨#[]⟩, .string ⟨#[]⟩, .slice none 0 0, .slice none 0 0, .string (ofL de), .string (ofL gr), .string (ofL mi), .string (ofL pe), .int .i64 p, .int .i64 q, .slice none 0 0, .slice none 0 0, .slice none 0 0, .slice none 0 0, .slice none 0 0] 32))
    have N8 := Lib.hid (Blk.new w6 32 #[.string ⟨#[]⟩, .string ⟨#[]⟩, .string ⟨#[]⟩, .slice none 0 0, .slice none 0 0, .string (ofL de), .string (ofL gr), .string (ofL mi), .string (ofL pe), .int .i64 p, .int .i64 q, .slice none 0 0, .slice none 0 0, .slice none 0 0, .slice none 0 0, .slice none 0 0])
    go_wp2_with fail
    clear d0 d1 d2 d3 d4 d5
    refine (HFN.out _ (HL.out E0.out B8.out)).mono ?_
    rintro e w8 ⟨r, hr, rfl, b8⟩
    obtain rfl := hr.uniq HPN.out
    have B9 := Lib.hid (stt B8.out b8 B8.out.size)
    have N9 := Lib.hid (N8.out.below b8)
    clear b8 hr
    obtain ⟨g1, hg1⟩ : ∃ g1, w6.heap.size = g1 := ⟨_, rfl⟩
    rw [hg1] at N9 ⊢
    clear hg1 N8 B8
    have d0 : w8.cell? ⟨g1, 0, none⟩ = some (.string ⟨#[]⟩) := N9.out.cell 0
    have d1 : w8.cell? ⟨g1, 1, none⟩ = some (.string ⟨#[]⟩) := N9.out.cell 1
    have d2 : w8.cell? ⟨g1, 2, none⟩ = some (.string ⟨#[]⟩) := N9.out.cell 2
    have d3 : w8.cell? ⟨g1, 3, none⟩ = some (.slice none 0 0) := N9.out.cell 3
    have d4 : w8.cell? ⟨g1, 4, none⟩ = some (.slice none 0 0) := N9.out.cell 4
    have d5 : w8.cell? ⟨g1, 5, none⟩ = some (.string (ofL de)) := N9.out.cell 5
    have d6 : w8.cell? ⟨g1, 6, none⟩ = some (.string (ofL gr)) := N9.out.cell 6
    have d7 : w8.cell? ⟨g1, 7, none⟩ = some (.string (ofL mi)) := N9.out.cell 7
    have d8 : w8.cell? ⟨g1, 8, none⟩ = some (.string (ofL pe)) := N9.out.cell 8
    have d9 : w8.cell? ⟨g1, 9, none⟩ = some (.int .i64 p) := N9.out.cell 9
    have d10 : w8.cell? ⟨g1, 10, none⟩ = some (.int .i64 q) := N9.out.cell 10
    have d11 : w8.cell? ⟨g1, 11, none⟩ = some (.slice none 0 0) := N9.out.cell 11
    have d12 : w8.cell? ⟨g1, 12, none⟩ = some (.slice none 0 0) := N9.out.cell 12
    have d13 : w8.cell? ⟨g1, 13, none⟩ = some (.slice none 0 0) := N9.out.cell 13
    have d14 : w8.cell? ⟨g1, 14, none⟩ = some (.slice none 0 0) := N9.out.cell 14
    have d15 : w8.cell? ⟨g1, 15, none⟩ = some (.slice none 0 0) := N9.out.cell 15
    go_wp2_with fail
    clear d0 d1 d2 d3 d4 d5 d6 d7 d8 d9 d10 d11 d12 d13 d14 d15
    refine (HPQ.out _ (HL.out E0.out B9.out)).mono ?_
    rintro e w10 ⟨rfl, b10⟩
    have B10 := Lib.hid (stt B9.out b10 B9.out.size)
    clear b10
    obtain ⟨y1, y2⟩ := strY s
    go_wp2
    go_ret
    exact ⟨rfl, B10.out⟩
end
end Go.Proofs.YteofkofgdhmpjaaDoor
