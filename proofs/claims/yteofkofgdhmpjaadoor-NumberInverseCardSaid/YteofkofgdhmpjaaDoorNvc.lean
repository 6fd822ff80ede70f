/- Of the program of layer 15: isStyle, styled, Format. -/
import Derived.Test.YteofkofgdhmpjaaDoorNvb
import Derived.Test.YteofkofgdhmpjaaDoorKi
import Derived.Test.YteofkofgdhmpjaaDoorKo
namespace Go.Proofs.YteofkofgdhmpjaaDoor
open Go.RowKit
set_option linter.unusedVariables false

set_option maxRecDepth 1000000 in
set_option maxHeartbeats 4000000 in
theorem isStyle_any (st : Str) (w : World) : Calls Tryd.prog 19 #[.string (ofL st)] w fun e w' => e = .returned (.bool (decide (st = [] ∨ st = intT ∨ st = perT))) ∧ w' = w := by
  have k0 : (ofL st).toList.isEmpty = decide (st = []) := by
    rw [ByteArray.toList_eq]
    by_cases h : st = []
    · rw [h]; rfl
    · rw [decide_eq_false h, List.isEmpty_eq_false_iff]; exact h
  have k4 : ((ofL st).toList == ([105, 110, 116, 101, 103, 101, 114] : List UInt8)) = decide (st = intT) := by
    rw [ByteArray.toList_eq]
    by_cases h : st = intT
    · rw [h]; rfl
    · rw [decide_eq_false h, beq_eq_false_iff_ne]; exact h
  have k5 : ((ofL st).toList == ([112, 101, 114, 99, 101, 110, 116] : List UInt8)) = decide (st = perT) := by
    rw [ByteArray.toList_eq]
    by_cases h : st = perT
    · rw [h]; rfl
    · rw [decide_eq_false h, beq_eq_false_iff_ne]; exact h
  have k6 : ((ofL st).toList == ([] : List UInt8)) = decide (st = []) := by
    rw [ByteArray.toList_eq]
    by_cases h : st = []
    · rw [h]; rfl
    · rw [decide_eq_false h, beq_eq_false_iff_ne]; exact h
  have HV : Hid (decide (st = [] ∨ st = intT ∨ st = perT) = (decide (st = []) || (decide (st = intT) || decide (st = perT)))) := Lib.hid (by
    by_cases h1 : st = [] <;> by_cases h2 : st = intT <;> by_cases h3 : st = perT <;> simp [h1, h2, h3])
  rw [HV.out]
  clear HV
  obtain ⟨v1, h1⟩ : ∃ b, decide (st = []) = b := ⟨_, rfl⟩
  obtain ⟨v2, h2⟩ : ∃ b, decide (st = intT) = b := ⟨_, rfl⟩
  obtain ⟨v3, h3⟩ : ∃ b, decide (st = perT) = b := ⟨_, rfl⟩
  rw [h1] at k0 k6
  rw [h2] at k4
  rw [h3] at k5
  rw [h1, h2, h3]
  obtain ⟨S, hS⟩ : ∃ S, ofL st = S := ⟨_, rfl⟩
  rw [hS] at k0 k4 k5 k6 ⊢
  clear h1 h2 h3 hS
  cases v1 <;> cases v2 <;> cases v3 <;>
    (go_enter Tryd.func19, Tryd.ntmps19
     go_wp2
     go_ret
     exact ⟨rfl, rfl⟩)
/-- What is written for a number in a style. -/
def StyO (n : Num) (st : Str) (o : Option Str) : Prop := (st = [] ∧ o = some (txt n)) ∨ (st = intT ∧ Ro n 0 o) ∨ (st = perT ∧ Sh n 2 o)
def SdPost (n : Num) (st : Str) (w : World) (e : Ending) (w' : World) : Prop := (∃ o, StyO n st o ∧ e = .returned (resV o)) ∧ Below w.heap.size w w'
set_option maxRecDepth 1000000 in
set_option maxHeartbeats 4000000 in
theorem styled_any (n : Num) (g : Good n) (st : Str) (hst : st = [] ∨ st = intT ∨ st = perT) (w : World) : Calls Tryd.prog 20 #[.string (ofL (txt n)), .string (ofL st)] w (SdPost n st w) := by
  have hn := spl_of g
  have htl := txt_len g
  have hs : (ofL (txt n)).size ≤ 1000 := by rw [ofL_size]; omega
  have HRO := Lib.hid (fun w => round_any (ofL (txt n)) 0 hs w)
  have HSH := Lib.hid (fun w => shift_any (ofL (txt n)) 2 hs (by decide) (by decide) w)
  rw [show (ofL (txt n)).data.toList = txt n from rfl] at HRO HSH
  have HN := Lib.hid hn
  obtain ⟨E, hE⟩ : ∃ E : Ending → World → Prop, SdPost n st w = E := ⟨_, rfl⟩
  have HE : Hid (∀ o w', StyO n st o → Below w.heap.size w w' → E (.returned (resV o)) w') := Lib.hid (fun o w' h hb => by rw [← hE]; exact ⟨⟨o, h, rfl⟩, hb⟩)
  rw [hE]
  have HX : Hid (E (.returned (.tuple #[.string (ofL (txt n)), .int .i64 0])) w ∨ st ≠ []) := Lib.hid (by
    by_cases h : st = []
    · exact .inl (by have := HE.out (some (txt n)) w (.inl ⟨h, rfl⟩) (Below.refl _ _); exact this)
    · exact .inr h)
  obtain ⟨S, hS⟩ : ∃ S, ofL (txt n) = S := ⟨_, rfl⟩
  rw [hS] at HRO HSH HX ⊢
  clear hE hn htl hs hS
  have k0 : (ofL st).toList.isEmpty = decide (st = []) := by
    rw [ByteArray.toList_eq]
    by_cases h : st = []
    · rw [h]; rfl
    · rw [decide_eq_false h, List.isEmpty_eq_false_iff]; exact h
  have k4 : ((ofL st).toList == ([105, 110, 116, 101, 103, 101, 114] : List UInt8)) = decide (st = intT) := by
    rw [ByteArray.toList_eq]
    by_cases h : st = intT
    · rw [h]; rfl
    · rw [decide_eq_false h, beq_eq_false_iff_ne]; exact h
  have k5 : ((ofL st).toList == ([112, 101, 114, 99, 101, 110, 116] : List UInt8)) = decide (st = perT) := by
    rw [ByteArray.toList_eq]
    by_cases h : st = perT
    · rw [h]; rfl
    · rw [decide_eq_false h, beq_eq_false_iff_ne]; exact h
  have k6 : ((ofL st).toList == ([] : List UInt8)) = decide (st = []) := by
    rw [ByteArray.toList_eq]
    by_cases h : st = []
    · rw [h]; rfl
    · rw [decide_eq_false h, beq_eq_false_iff_ne]; exact h
  obtain ⟨v1, h1⟩ : ∃ b, decide (st = []) = b := ⟨_, rfl⟩
  obtain ⟨v2, h2⟩ : ∃ b, decide (st = intT) = b := ⟨_, rfl⟩
  obtain ⟨v3, h3⟩ : ∃ b, decide (st = perT) = b := ⟨_, rfl⟩
  rw [h1] at k0 k6
  rw [h2] at k4
  rw [h3] at k5
  have HV2 := Lib.hid h2
  have HV3 := Lib.hid h3
  obtain ⟨T, hT⟩ : ∃ T, ofL st = T := ⟨_, rfl⟩
  rw [hT] at k0 k4 k5 k6 ⊢
  cases v2 with
  | true =>
    have HI : Hid (∀ o w', Ro n 0 o → Below w.heap.size w w' → E (.returned (resV o)) w') := Lib.hid (fun o w' h hb => HE.out o w' (.inr (.inl ⟨of_decide_eq_true HV2.out, h⟩)) hb)
    clear h1 h2 h3 hst hT HX
    go_enter Tryd.func20, Tryd.ntmps20
    go_wp2_with fail
    refine (HRO.out _).mono ?_
    rintro e w2 ⟨hp, b2⟩
    obtain ⟨o, hro, rfl⟩ : ∃ o, Ro n 0 o ∧ e = .returned (resV o) := by
      rcases hp with ⟨h, _⟩ | ⟨y, h, h2, _⟩ | ⟨y, d, o, h, h2, _, h3, rfl⟩
      · rw [HN.out] at h; cases h
      · omega
      · rw [HN.out] at h
        injection h with h
        subst h
        obtain rfl : d = 0 := by omega
        exact ⟨o, h3, rfl⟩
    have HR := Lib.hid (HI.out o w2 hro b2)
    clear hp hro b2
    cases o with
    | none =>
      unfold resV at HR ⊢
      go_wp2
      skip
      exact HR.out
    | some t =>
      unfold resV at HR ⊢
      go_wp2
      skip
      exact HR.out
  | false =>
  cases v3 with
  | true =>
    have HI : Hid (∀ o w', Sh n 2 o → Below w.heap.size w w' → E (.returned (resV o)) w') := Lib.hid (fun o w' h hb => HE.out o w' (.inr (.inr ⟨of_decide_eq_true HV3.out, h⟩)) hb)
    clear h1 h2 h3 hst hT HX
    go_enter Tryd.func20, Tryd.ntmps20
    go_wp2_with fail
    refine (HSH.out _).mono ?_
    rintro e w2 ⟨hp, b2⟩
    obtain ⟨o, hro, rfl⟩ : ∃ o, Sh n 2 o ∧ e = .returned (resV o) := by
      rcases hp with ⟨h, _⟩ | ⟨y, o, h, h3, rfl⟩
      · rw [HN.out] at h; cases h
      · rw [HN.out] at h
        injection h with h
        subst h
        exact ⟨o, h3, rfl⟩
    have HR := Lib.hid (HI.out o w2 hro b2)
    clear hp hro b2
    cases o with
    | none =>
      unfold resV at HR ⊢
      go_wp2
      skip
      exact HR.out
    | some t =>
      unfold resV at HR ⊢
      go_wp2
      skip
      exact HR.out
  | false =>
    have hst0 : st = [] := by
      rcases hst with h | h | h
      · exact h
      · rw [decide_eq_true h] at h2; cases h2
      · rw [decide_eq_true h] at h3; cases h3
    have HR : Hid (E (.returned (.tuple #[.string S, .int .i64 0])) w) := Lib.hid (HX.out.resolve_right (fun h => h hst0))
    clear h1 h2 h3 hst hT HX hst0
    go_enter Tryd.func20, Tryd.ntmps20
    go_wp2
    skip
    exact HR.out
/-- What comes of a style. -/
theorem fmt_styo {x : SyN} {n : Num} {st : Str} {o : Option Str} (g : Good n) (hd : x.de ≠ []) (h : StyO n st o) : FmtP x (txt n) st (texO x (if st = perT then x.pe else []) o) ∧ (o = none ∨ ∃ y, Good y ∧ o = some (txt y)) := by
  rcases h with ⟨rfl, rfl⟩ | ⟨rfl, h⟩ | ⟨rfl, h⟩
  · refine ⟨?_, .inr ⟨n, g, rfl⟩⟩
    rw [if_neg (by decide), show texO x [] (some (txt n)) = (texR x (numO (txt n)) ++ [], 0) from rfl, numO_of g, List.append_nil]
    exact fmt_plain g hd
  · refine ⟨by rw [if_neg (by decide)]; exact fmt_int g hd h, ?_⟩
    cases o with
    | none => exact .inl rfl
    | some t => obtain ⟨y, gy, rfl⟩ := roY_of h; exact .inr ⟨y, gy, rfl⟩
  · refine ⟨by rw [if_pos rfl]; exact fmt_per g hd h, ?_⟩
    cases o with
    | none => exact .inl rfl
    | some t => obtain ⟨y, gy, rfl⟩ := shY_of h; exact .inr ⟨y, gy, rfl⟩
set_option maxRecDepth 1000000 in
set_option maxHeartbeats 8000000 in
theorem formatP_any (x : SyN) (hx : SmY x) (s st : Str) (hs : s.length ≤ 1000) (hst : st.length ≤ 1000) (w : World) (hm : MaxL w) : Calls Tryd.prog 9 #[.agg #[.string ⟨#[]⟩, .string ⟨#[]⟩, .string ⟨#[]⟩, .slice none 0 0, .slice none 0 0, .string (ofL x.de), .string (ofL x.gr), .string (ofL x.mi), .string (ofL x.pe), .int .i64 x.pr, .int .i64 x.se, .slice none 0 0, .slice none 0 0, .slice none 0 0, .slice none 0 0, .slice none 0 0], .string (ofL s), .string (ofL st)] w (FmtPost x s st w) := by
  have HVA := Lib.hid (fun w => valid_any9 (ofL s) (by rw [ofL_size]; omega) w)
  rw [show (ofL s).data.toList = s from rfl] at HVA
  have HIS := Lib.hid (fun w => isStyle_any st w)
  have HSD := Lib.hid (fun n (g : Good n) h w => styled_any n g st h w)
  have HTX := Lib.hid (fun n (g : Good n) w hm => textP_any x hx n g w hm)
  have HTL := Lib.hid (fun n (g : Good n) => tex_len hx g)
  have hpe := hx.pe
  have F0 := Lib.hid (fun h => @fmt_bad x s st h)
  have F1 := Lib.hid (fun h1 h2 h3 => @fmt_style x s st h1 h2 h3)
  have F2 := Lib.hid (fun n g h hd => @fmt_data x n st g h hd)
  have F3 := Lib.hid (fun n o g hd h => @fmt_styo x n st o g hd h)
  have F6 : Hid (∀ n, Good n → numO (txt n) = n) := Lib.hid (fun n g => numO_of g)
  obtain ⟨E, hE⟩ : ∃ E : Ending → World → Prop, FmtPost x s st w = E := ⟨_, rfl⟩
  have HE : Hid (∀ (r : Str × Nat) (w' : World), FmtP x s st r → Below w.heap.size w w' → E (.returned (.tuple #[.string (ofL r.1), .int .i64 (r.2 : Nat)])) w') := Lib.hid (fun r w' h hb => by rw [← hE]; exact ⟨r, h, rfl, hb⟩)
  rw [hE]
  clear hE
  obtain ⟨de, e1⟩ : ∃ de, x.de = de := ⟨_, rfl⟩
  obtain ⟨gr, e2⟩ : ∃ gr, x.gr = gr := ⟨_, rfl⟩
  obtain ⟨mi, e3⟩ : ∃ mi, x.mi = mi := ⟨_, rfl⟩
  obtain ⟨pe, e4⟩ : ∃ pe, x.pe = pe := ⟨_, rfl⟩
  obtain ⟨p, e5⟩ : ∃ p, x.pr = p := ⟨_, rfl⟩
  obtain ⟨q, e6⟩ : ∃ q, x.se = q := ⟨_, rfl⟩
  rw [e1, e2, e3, e4, e5, e6] at HTX
  rw [e4] at hpe
  rw [e1, e2, e3, e4, e5, e6]
  have E1 := Lib.hid e1
  have E4 := Lib.hid e4
  clear hx e1 e2 e3 e4 e5 e6
  have HM := Lib.hid hm
  clear hm hst
  have B0 := Lib.hid ((Below.refl w.heap.size w).alloc (Nat.le_refl _) (.cells #[.string ⟨#[]⟩, .string ⟨#[]⟩, .string ⟨#[]⟩, .slice none 0 0, .slice none 0 0, .string (ofL de), .string (ofL gr), .string (ofL mi), .string (ofL pe), .int .i64 p, .int .i64 q, .slice none 0 0, .slice none 0 0, .slice none 0 0, .slice none 0 0, .slice none 0 0] 32))
  have B1 := Lib.hid (B0.out.alloc B0.out.size (.cells #[.string (ofL de), .string (ofL gr), .string (ofL mi), .string (ofL pe), .int .i64 p, .int .i64 q] 23))
  have K1 := Lib.hid (Blk.new (w.alloc (.cells #[.string ⟨#[]⟩, .string ⟨#[]⟩, .string ⟨#[]⟩, .slice none 0 0, .slice none 0 0, .string (ofL de), .string (ofL gr), .string (ofL mi), .string (ofL pe), .int .i64 p, .int .i64 q, .slice none 0 0, .slice none 0 0, .slice none 0 0, .slice none 0 0, .slice none 0 0] 32)) 23 #[.string (ofL de), .string (ofL gr), .string (ofL mi), .string (ofL pe), .int .i64 p, .int .i64 q])
  rw [show (w.alloc (.cells #[.string ⟨#[]⟩, .string ⟨#[]⟩, .string ⟨#[]⟩, .slice none 0 0, .slice none 0 0, .string (ofL de), .string (ofL gr), .string (ofL mi), .string (ofL pe), .int .i64 p, .int .i64 q, .slice none 0 0, .slice none 0 0, .slice none 0 0, .slice none 0 0, .slice none 0 0] 32)).heap.size = w.heap.size + 1 by simp] at K1
  obtain ⟨W1, hW1⟩ : ∃ W1, (w.alloc (.cells #[.string ⟨#[]⟩, .string ⟨#[]⟩, .string ⟨#[]⟩, .slice none 0 0, .slice none 0 0, .string (ofL de), .string (ofL gr), .string (ofL mi), .string (ofL pe), .int .i64 p, .int .i64 q, .slice none 0 0, .slice none 0 0, .slice none 0 0, .slice none 0 0, .slice none 0 0] 32)).alloc (.cells #[.string (ofL de), .string (ofL gr), .string (ofL mi), .string (ofL pe), .int .i64 p, .int .i64 q] 23) = W1 := ⟨_, rfl⟩
  rw [hW1] at B1 K1
  have HW1 := Lib.hid hW1
  clear hW1 B0
  have HM1 : Hid (MaxL W1) := Lib.hid (HM.out.below B1.out)
  obtain ⟨vb, hvb⟩ : ∃ vb, (spl s).isSome = vb := ⟨_, rfl⟩
  rw [hvb] at HVA
  have HVB := Lib.hid hvb
  obtain ⟨sb, hsb⟩ : ∃ sb, decide (st = [] ∨ st = intT ∨ st = perT) = sb := ⟨_, rfl⟩
  rw [hsb] at HIS
  have HSB := Lib.hid hsb
  have k5 : ((ofL st).toList == ([112, 101, 114, 99, 101, 110, 116] : List UInt8)) = decide (st = perT) := by
    rw [ByteArray.toList_eq]
    by_cases h : st = perT
    · rw [h]; rfl
    · rw [decide_eq_false h, beq_eq_false_iff_ne]; exact h
  obtain ⟨v3, h3⟩ : ∃ b, decide (st = perT) = b := ⟨_, rfl⟩
  rw [h3] at k5
  have HV3 := Lib.hid h3
  obtain ⟨bd, hbd⟩ : ∃ b, decide (de = []) = b := ⟨_, rfl⟩
  have k6 : ((ofL de).toList == ([] : List UInt8)) = bd := by
    rw [ByteArray.toList_eq, ← hbd]
    by_cases h : de = []
    · rw [h]; rfl
    · rw [decide_eq_false h, beq_eq_false_iff_ne]; exact h
  have HBD := Lib.hid hbd
  clear hvb hsb h3 hbd
  obtain ⟨S, hS⟩ : ∃ S, ofL s = S := ⟨_, rfl⟩
  rw [hS] at HVA ⊢
  have HS := Lib.hid hS
  obtain ⟨T, hT⟩ : ∃ T, ofL st = T := ⟨_, rfl⟩
  rw [hT] at HIS HSD k5 ⊢
  clear hS hT hs
  go_enter Tryd.func9, Tryd.ntmps9
  go_wp2_with fail
  rw [HW1.out]
  refine (HVA.out _).mono ?_
  rintro e w2 ⟨rfl, b2⟩
  have B2 := Lib.hid (stt B1.out b2 B1.out.size)
  have K2 := Lib.hid (K1.out.below b2)
  clear b2
  cases vb with
  | false =>
    have HR := Lib.hid (HE.out _ w2 (F0.out (by cases h : spl s with | none => rfl | some n => have := HVB.out; rw [h] at this; cases this)) B2.out)
    go_wp2
    skip
    exact HR.out
  | true =>
  obtain ⟨n, hn⟩ : ∃ n, spl s = some n := by
    cases h : spl s with
    | none => have := HVB.out; rw [h] at this; cases this
    | some n => exact ⟨n, rfl⟩
  obtain ⟨gn, hsn⟩ := spl_some hn
  have HG := Lib.hid gn
  subst hsn
  rw [← HS.out]
  clear hn gn F0 HVB
  cases sb with
  | false =>
    have HR := Lib.hid (HE.out _ w2 (F1.out (fun h => of_decide_eq_false HSB.out (.inl h)) (fun h => of_decide_eq_false HSB.out (.inr (.inl h))) (fun h => of_decide_eq_false HSB.out (.inr (.inr h)))) B2.out)
    go_wp2_with fail
    refine (HIS.out _).mono ?_
    rintro e w3 ⟨rfl, hw3⟩
    obtain rfl := hw3
    go_wp2
    skip
    exact HR.out
  | true =>
  have c0 : w2.cell? ⟨w.heap.size + 1, 0, none⟩ = some (.string (ofL de)) := K2.out.cell 0
  cases bd with
  | true =>
    have HR := Lib.hid (HE.out _ w2 (F2.out n HG.out (of_decide_eq_true HSB.out) (by rw [E1.out]; exact of_decide_eq_true HBD.out)) B2.out)
    go_wp2_with fail
    refine (HIS.out _).mono ?_
    rintro e w3 ⟨rfl, hw3⟩
    obtain rfl := hw3
    go_wp2
    skip
    exact HR.out
  | false =>
  have HD : Hid (x.de ≠ []) := Lib.hid (by rw [E1.out]; exact of_decide_eq_false HBD.out)
  go_wp2_with fail
  refine (HIS.out _).mono ?_
  rintro e w3 ⟨rfl, hw3⟩
  obtain rfl := hw3
  go_wp2_with fail
  refine (HSD.out n HG.out (of_decide_eq_true HSB.out) _).mono ?_
  rintro e w4 ⟨⟨o, ho, rfl⟩, b4⟩
  have B4 := Lib.hid (stt B2.out b4 B2.out.size)
  have K4 := Lib.hid (K2.out.below b4)
  obtain ⟨hf, hy⟩ := F3.out n o HG.out HD.out ho
  have HF := Lib.hid hf
  clear b4 ho hf c0
  cases o with
  | none =>
    have HR := Lib.hid (HE.out ([], 2) w4 HF.out B4.out)
    clear hy
    unfold resV
    go_wp2
    skip
    exact HR.out
  | some t =>
  obtain ⟨y, gy, rfl⟩ : ∃ y, Good y ∧ t = txt y := by
    rcases hy with h | ⟨y, gy, h⟩
    · cases h
    · injection h with h; exact ⟨y, gy, h⟩
  have HT1 := Lib.hid (fun w hm => HTX.out y gy w hm)
  have htl := HTL.out y gy
  have HF2 : Hid (FmtP x (txt n) st (texR x y ++ (if st = perT then x.pe else []), 0)) := Lib.hid (by
    have := HF.out
    rw [show ∀ z, texO x z (some (txt y)) = (texR x (numO (txt y)) ++ z, 0) from fun _ => rfl, F6.out y gy] at this
    exact this)
  obtain ⟨R, hR⟩ : ∃ R, texR x y = R := ⟨_, rfl⟩
  rw [hR] at HT1 HF2 htl
  clear hy gy hR HF
  unfold resV
  have d0 : w4.cell? ⟨w.heap.size + 1, 0, none⟩ = some (.string (ofL de)) := K4.out.cell 0
  have d1 : w4.cell? ⟨w.heap.size + 1, 1, none⟩ = some (.string (ofL gr)) := K4.out.cell 1
  have d2 : w4.cell? ⟨w.heap.size + 1, 2, none⟩ = some (.string (ofL mi)) := K4.out.cell 2
  have d3 : w4.cell? ⟨w.heap.size + 1, 3, none⟩ = some (.string (ofL pe)) := K4.out.cell 3
  have d4 : w4.cell? ⟨w.heap.size + 1, 4, none⟩ = some (.int .i64 p) := K4.out.cell 4
  have d5 : w4.cell? ⟨w.heap.size + 1, 5, none⟩ = some (.int .i64 q) := K4.out.cell 5
  go_wp2_with fail
  clear d0 d1 d2 d3 d4 d5
  refine (HT1.out _ (HM.out.below B4.out)).mono ?_
  rintro e w5 ⟨rfl, b5⟩
  have B5 := Lib.hid (stt B4.out b5 B4.out.size)
  have K5 := Lib.hid (K4.out.below b5)
  clear b5
  cases v3 with
  | true =>
    obtain ⟨RP, hRP⟩ : ∃ RP, R ++ pe = RP := ⟨_, rfl⟩
    have s1 : ∀ wx, (Op.stringOp .add (ofL R) (ofL pe)).run Tryd.prog wx = .ok (.string (ofL RP)) wx := fun wx => str_add (by omega) hRP wx
    have c3 : w5.cell? ⟨w.heap.size + 1, 3, none⟩ = some (.string (ofL pe)) := K5.out.cell 3
    have HR := Lib.hid (HE.out (RP, 0) w5 (by have := HF2.out; rw [if_pos (of_decide_eq_true HV3.out), E4.out, hRP] at this; exact this) B5.out)
    clear hRP htl
    go_wp2
    skip
    exact HR.out
  | false =>
    have HR := Lib.hid (HE.out (R, 0) w5 (by have := HF2.out; rw [if_neg (of_decide_eq_false HV3.out), List.append_nil] at this; exact this) B5.out)
    go_wp2
    skip
    exact HR.out
end Go.Proofs.YteofkofgdhmpjaaDoor
