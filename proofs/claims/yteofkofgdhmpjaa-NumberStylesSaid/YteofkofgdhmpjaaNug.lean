/- Of the reference of layer 15: Format. -/
import Derived.Test.YteofkofgdhmpjaaNuf
namespace Go.Proofs.Yteofkofgdhmpjaa
open Go.RowKit
set_option linter.unusedVariables false

/-- What a locale has besides its symbols. -/
structure Sl3 where
  a : Option Addr
  n : Nat
  c : Nat
structure LocN where
  tg : ByteArray
  pa : ByteArray
  di : ByteArray
  ca : Sl3
  oc : Sl3
  li : Sl3
  un : Sl3
  da : Sl3
  mo : Sl3
  dy : Sl3
theorem stt {b : Nat} {w w1 w2 : World} (h : Below b w w1) (h2 : Below w1.heap.size w1 w2) (hs : b ≤ w1.heap.size) : Below b w w2 := st h h2 hs
theorem txt_len {n : Num} (hn : Good n) : (txt n).length ≤ 23 := by
  have h1 := hn.high
  have h2 := hn.few
  unfold txt
  rw [List.length_append, List.length_append]
  have e1 : (if n.neg = true then ([45] : Str) else []).length ≤ 1 := by split <;> simp
  have e2 : (if n.fr = [] then ([] : Str) else 46 :: n.fr).length ≤ 7 := by split <;> simp <;> omega
  omega
theorem tex_len {x : SyN} (hx : SmY x) {n : Num} (hn : Good n) : (texR x n).length ≤ 30000 := by
  have h1 := grp_le hx hn
  have h2 := hx.de
  have h3 := hx.mi
  have h4 := hn.few
  unfold texR
  rw [List.length_append, List.length_append]
  have e1 : (if n.neg = true then x.mi else []).length ≤ 1000 := by
    split
    · exact h3
    · exact Nat.zero_le _
  have e2 : (if n.fr = [] then ([] : Str) else x.de ++ n.fr).length ≤ 1006 := by split <;> simp <;> omega
  omega
def FmtPost (x : SyN) (s st : Str) (w : World) (e : Ending) (w' : World) : Prop := ∃ r : Str × Nat, FmtP x s st r ∧ e = .returned (.tuple #[.string (ofL r.1), .int .i64 (r.2 : Nat)]) ∧ Below w.heap.size w w'
theorem fmt_bad {x : SyN} {s st : Str} (h : spl s = none) : FmtP x s st ([], 1) := by unfold FmtP; rw [h]
theorem fmt_style {x : SyN} {s st : Str} (h1 : st ≠ []) (h2 : st ≠ intT) (h3 : st ≠ perT) : FmtP x s st ([], 1) := by
  unfold FmtP
  cases spl s with
  | none => rfl
  | some n => exact (if_pos (show st ≠ [] ∧ st ≠ intT ∧ st ≠ perT from ⟨h1, h2, h3⟩)).mpr rfl
theorem fmt_data {x : SyN} {n : Num} {st : Str} (g : Good n) (h : st = [] ∨ st = intT ∨ st = perT) (hd : x.de = []) : FmtP x (txt n) st ([], 18) := by
  unfold FmtP
  rw [spl_of g]
  simp only
  rw [if_neg (by rcases h with h | h | h <;> simp [h]), if_pos hd]
  trivial
theorem fmt_int {x : SyN} {n : Num} (g : Good n) (hd : x.de ≠ []) {o : Option Str} (h : Ro n 0 o) : FmtP x (txt n) intT (texO x [] o) := by
  unfold FmtP
  rw [spl_of g]
  simp only
  rw [if_neg (by simp), if_neg hd, if_neg (by decide), if_pos trivial]
  exact ⟨o, h, rfl⟩
theorem fmt_per {x : SyN} {n : Num} (g : Good n) (hd : x.de ≠ []) {o : Option Str} (h : Sh n 2 o) : FmtP x (txt n) perT (texO x x.pe o) := by
  unfold FmtP
  rw [spl_of g]
  simp only
  rw [if_neg (by simp), if_neg hd, if_neg (by decide), if_neg (by decide)]
  exact ⟨o, h, rfl⟩
theorem res_of {neg : Bool} {D F : Nat} {t : Str} (h : Res neg D F (some t)) : ∃ y, Good y ∧ txt y = t := by
  obtain ⟨y, h1, h2, _⟩ := res_some h
  exact ⟨y, h1, h2⟩
theorem roY_of {n : Num} {t : Str} (h : Ro n 0 (some t)) : ∃ y, Good y ∧ txt y = t := res_of h
theorem shY_of {n : Num} {t : Str} (h : Sh n 2 (some t)) : ∃ y, Good y ∧ txt y = t := by
  unfold Sh at h
  rw [if_neg (by decide)] at h
  exact res_of h
set_option maxRecDepth 1000000 in
set_option maxHeartbeats 8000000 in
theorem format15_any (l : LocN) (x : SyN) (hx : SmY x) (s sty : Str) (hs : s.length ≤ 100000) (hst : sty.length ≤ 100000) (w : World) : Calls Try.prog 9 #[.agg #[.string l.tg, .string l.pa, .string l.di, .slice l.ca.a l.ca.n l.ca.c, .slice l.oc.a l.oc.n l.oc.c, .string (ofL x.de), .string (ofL x.gr), .string (ofL x.mi), .string (ofL x.pe), .int .i64 x.pr, .int .i64 x.se, .slice l.li.a l.li.n l.li.c, .slice l.un.a l.un.n l.un.c, .slice l.da.a l.da.n l.da.c, .slice l.mo.a l.mo.n l.mo.c, .slice l.dy.a l.dy.n l.dy.c], .string (ofL s), .string (ofL sty)] w (FmtPost x s sty w) := by
  have hs9 : (ofL s).size ≤ 9223372036854775807 := by rw [ofL_size]; omega
  have HV := Lib.hid (fun w => refValid_any (ofL s) hs9 w)
  have HRO := Lib.hid (fun w => refRound_any (ofL s) 0 hs9 w)
  have HSH := Lib.hid (fun w => refShift_any (ofL s) 2 hs9 (by decide) (by decide) w)
  rw [show (ofL s).data.toList = s from rfl] at HV HRO HSH
  have HTX := Lib.hid (fun n (hn : Good n) w => text15_any x hx n hn w)
  have HTL := Lib.hid (fun n (hn : Good n) => tex_len hx hn)
  have hpe := hx.pe
  have F0 := Lib.hid (fun h => @fmt_bad x s sty h)
  have F1 := Lib.hid (fun h1 h2 h3 => @fmt_style x s sty h1 h2 h3)
  have F2 := Lib.hid (fun n g h hd => @fmt_data x n sty g h hd)
  have F3 := Lib.hid (fun n g hd => @fmt_plain x n g hd)
  have F4 := Lib.hid (fun n g hd o h => @fmt_int x n g hd o h)
  have F5 := Lib.hid (fun n g hd o h => @fmt_per x n g hd o h)
  have F6 : Hid (∀ n, Good n → numO (txt n) = n) := Lib.hid (fun n g => numO_of g)
  obtain ⟨E, hE⟩ : ∃ E : Ending → World → Prop, FmtPost x s sty w = E := ⟨_, rfl⟩
  have HE : Hid (∀ (r : Str × Nat) (w' : World), FmtP x s sty r → Below w.heap.size w w' → E (.returned (.tuple #[.string (ofL r.1), .int .i64 (r.2 : Nat)])) w') := Lib.hid (fun r w' h hb => by rw [← hE]; exact ⟨r, h, rfl, hb⟩)
  rw [hE]
  clear hE
  obtain ⟨X, hX⟩ : ∃ X : SyN, x = X := ⟨_, rfl⟩
  obtain ⟨de, e1⟩ : ∃ de, x.de = de := ⟨_, rfl⟩
  obtain ⟨gr, e2⟩ : ∃ gr, x.gr = gr := ⟨_, rfl⟩
  obtain ⟨mi, e3⟩ : ∃ mi, x.mi = mi := ⟨_, rfl⟩
  obtain ⟨pe, e4⟩ : ∃ pe, x.pe = pe := ⟨_, rfl⟩
  obtain ⟨p, e5⟩ : ∃ p, x.pr = p := ⟨_, rfl⟩
  obtain ⟨q, e6⟩ : ∃ q, x.se = q := ⟨_, rfl⟩
  rw [e1, e2, e3, e4, e5, e6] at HTX
  rw [e4] at hpe
  rw [e1, e2, e3, e4, e5, e6]
  have E1 := Lib.hid e1
  have E4 := Lib.hid e4
  clear hx e1 e2 e3 e4 e5 e6 hs9 hX
  have B0 := Lib.hid ((Below.refl w.heap.size w).alloc (Nat.le_refl _) (.cells #[.string l.tg, .string l.pa, .string l.di, .slice l.ca.a l.ca.n l.ca.c, .slice l.oc.a l.oc.n l.oc.c, .string (ofL de), .string (ofL gr), .string (ofL mi), .string (ofL pe), .int .i64 p, .int .i64 q, .slice l.li.a l.li.n l.li.c, .slice l.un.a l.un.n l.un.c, .slice l.da.a l.da.n l.da.c, .slice l.mo.a l.mo.n l.mo.c, .slice l.dy.a l.dy.n l.dy.c] 35))
  have K0 := Lib.hid (Blk.new w 35 #[.string l.tg, .string l.pa, .string l.di, .slice l.ca.a l.ca.n l.ca.c, .slice l.oc.a l.oc.n l.oc.c, .string (ofL de), .string (ofL gr), .string (ofL mi), .string (ofL pe), .int .i64 p, .int .i64 q, .slice l.li.a l.li.n l.li.c, .slice l.un.a l.un.n l.un.c, .slice l.da.a l.da.n l.da.c, .slice l.mo.a l.mo.n l.mo.c, .slice l.dy.a l.dy.n l.dy.c])
  obtain ⟨W0, hW0⟩ : ∃ W0, w.alloc (.cells #[.string l.tg, .string l.pa, .string l.di, .slice l.ca.a l.ca.n l.ca.c, .slice l.oc.a l.oc.n l.oc.c, .string (ofL de), .string (ofL gr), .string (ofL mi), .string (ofL pe), .int .i64 p, .int .i64 q, .slice l.li.a l.li.n l.li.c, .slice l.un.a l.un.n l.un.c, .slice l.da.a l.da.n l.da.c, .slice l.mo.a l.mo.n l.mo.c, .slice l.dy.a l.dy.n l.dy.c] 35) = W0 := ⟨_, rfl⟩
  rw [hW0] at B0 K0
  have HW0 := Lib.hid hW0
  clear hW0
  obtain ⟨t, ht⟩ : ∃ t, ofL s = t := ⟨_, rfl⟩
  rw [ht] at HV HRO HSH ⊢
  have HTS := Lib.hid ht
  clear ht
  obtain ⟨vb, hvb⟩ : ∃ vb, (spl s).isSome = vb := ⟨_, rfl⟩
  rw [hvb] at HV
  have HVB := Lib.hid hvb
  clear hvb
  have k1 : ((ofL sty).toList != ([] : List UInt8)) = !decide (sty = []) := by
    rw [ByteArray.toList_eq]
    by_cases h : sty = []
    · rw [h]; rfl
    · rw [decide_eq_false h]; exact bne_iff_ne.2 h
  have k2 : ((ofL sty).toList != ([105, 110, 116, 101, 103, 101, 114] : List UInt8)) = !decide (sty = intT) := by
    rw [ByteArray.toList_eq]
    by_cases h : sty = intT
    · rw [h]; rfl
    · rw [decide_eq_false h]; exact bne_iff_ne.2 h
  have k3 : ((ofL sty).toList != ([112, 101, 114, 99, 101, 110, 116] : List UInt8)) = !decide (sty = perT) := by
    rw [ByteArray.toList_eq]
    by_cases h : sty = perT
    · rw [h]; rfl
    · rw [decide_eq_false h]; exact bne_iff_ne.2 h
  have k4 : ((ofL sty).toList == ([105, 110, 116, 101, 103, 101, 114] : List UInt8)) = decide (sty = intT) := by
    rw [ByteArray.toList_eq]
    by_cases h : sty = intT
    · rw [h]; rfl
    · rw [decide_eq_false h, beq_eq_false_iff_ne]; exact h
  have k5 : ((ofL sty).toList == ([112, 101, 114, 99, 101, 110, 116] : List UInt8)) = decide (sty = perT) := by
    rw [ByteArray.toList_eq]
    by_cases h : sty = perT
    · rw [h]; rfl
    · rw [decide_eq_false h, beq_eq_false_iff_ne]; exact h
  have k0 : (ofL sty).toList.isEmpty = decide (sty = []) := by
    rw [ByteArray.toList_eq]
    by_cases h : sty = []
    · rw [h]; rfl
    · rw [decide_eq_false h, List.isEmpty_eq_false_iff]; exact h
  obtain ⟨v1, hv1⟩ : ∃ b, decide (sty = []) = b := ⟨_, rfl⟩
  rw [hv1] at k0
  obtain ⟨v2, hv2⟩ : ∃ b, decide (sty = intT) = b := ⟨_, rfl⟩
  obtain ⟨v3, hv3⟩ : ∃ b, decide (sty = perT) = b := ⟨_, rfl⟩
  rw [hv1] at k1
  rw [hv2] at k2 k4
  rw [hv3] at k3 k5
  have HV1 := Lib.hid hv1
  have HV2 := Lib.hid hv2
  have HV3 := Lib.hid hv3
  obtain ⟨S, hS⟩ : ∃ S, ofL sty = S := ⟨_, rfl⟩
  rw [hS] at k0 k1 k2 k3 k4 k5 ⊢
  clear hv1 hv2 hv3 hS hst
  go_enter Try.func9, Try.ntmps9
  go_wp2_with fail
  rw [HW0.out]
  refine (HV.out _).mono ?_
  rintro e w1 ⟨rfl, b1⟩
  have B1 := Lib.hid (stt B0.out b1 B0.out.size)
  have K1 := Lib.hid (K0.out.below b1)
  clear b1
  cases vb with
  | false =>
    have HR := Lib.hid (F0.out (by cases h : spl s with | none => rfl | some n => have := HVB.out; rw [h] at this; cases this))
    go_wp2
    skip
    exact HE.out _ _ HR.out B1.out
  | true =>
  obtain ⟨n, hn⟩ : ∃ n, spl s = some n := by
    cases h : spl s with
    | none => have := HVB.out; rw [h] at this; cases this
    | some n => exact ⟨n, rfl⟩
  obtain ⟨gn, hsn⟩ := spl_some hn
  have HN := Lib.hid hn
  have HG := Lib.hid gn
  have HSN := Lib.hid hsn
  clear hn gn hsn F0
  have c5 : w1.cell? ⟨w.heap.size, 5, none⟩ = some (.string (ofL de)) := K1.out.cell 5
  have c8 : w1.cell? ⟨w.heap.size, 8, none⟩ = some (.string (ofL pe)) := K1.out.cell 8
  have D1 : Hid (∀ (w' : World), Below w.heap.size w w' → (sty = [] ∨ sty = intT ∨ sty = perT) → de = [] → E (.returned (.tuple #[.string (ofL []), .int .i64 18])) w') := Lib.hid (fun w' hb h hd => HE.out ([], 18) w' (by rw [← HSN.out]; exact F2.out n HG.out h (by rw [E1.out]; exact hd)) hb)
  obtain ⟨bd, hbd⟩ : ∃ b, decide (de = []) = b := ⟨_, rfl⟩
  have k6 : ((ofL de).toList == ([] : List UInt8)) = bd := by
    rw [ByteArray.toList_eq, ← hbd]
    by_cases h : de = []
    · rw [h]; rfl
    · rw [decide_eq_false h, beq_eq_false_iff_ne]; exact h
  have HBD := Lib.hid hbd
  clear hbd
  cases v1 with
  | true =>
    simp only [Bool.not_true] at k1
    have hs0 : sty = [] := of_decide_eq_true HV1.out
    cases bd with
    | true =>
      have HD := Lib.hid (fun w' hb => D1.out w' hb (.inl hs0) (of_decide_eq_true HBD.out))
      clear hs0
      go_wp2
      skip
      exact HD.out _ B1.out
    | false =>
      obtain rfl : v2 = false := by
        cases v2 with
        | false => rfl
        | true => exact absurd (hs0.symm.trans (of_decide_eq_true HV2.out)) (by decide)
      obtain rfl : v3 = false := by
        cases v3 with
        | false => rfl
        | true => exact absurd (hs0.symm.trans (of_decide_eq_true HV3.out)) (by decide)
      have HR : Hid (FmtP x s sty (texR x n, 0)) := Lib.hid (by rw [hs0, ← HSN.out]; exact F3.out n HG.out (by rw [E1.out]; exact of_decide_eq_false HBD.out))
      have HT1 : Hid (∀ w, Calls Try.prog 19 #[.agg #[.string (ofL de), .string (ofL gr), .string (ofL mi), .string (ofL pe), .int .i64 p, .int .i64 q], .string t] w fun e w' => e = .returned (.string (ofL (texR x n))) ∧ Below w.heap.size w w') := Lib.hid (by rw [← HTS.out, ← HSN.out]; exact HTX.out n HG.out)
      have htl := HTL.out n HG.out
      obtain ⟨R, hR⟩ : ∃ R, texR x n = R := ⟨_, rfl⟩
      rw [hR] at HT1 HR htl
      have c6 : w1.cell? ⟨w.heap.size, 6, none⟩ = some (.string (ofL gr)) := K1.out.cell 6
      have c7 : w1.cell? ⟨w.heap.size, 7, none⟩ = some (.string (ofL mi)) := K1.out.cell 7
      have c9 : w1.cell? ⟨w.heap.size, 9, none⟩ = some (.int .i64 p) := K1.out.cell 9
      have c10 : w1.cell? ⟨w.heap.size, 10, none⟩ = some (.int .i64 q) := K1.out.cell 10
      have s1 : ∀ wx, (Op.stringOp .add (ofL R) ⟨#[]⟩).run Try.prog wx = .ok (.string (ofL R)) wx := fun wx => str_add (x := R) (y := []) (by simp; omega) (List.append_nil _) wx
      clear hs0 hR htl
      go_wp2_with fail
      refine (HT1.out _).mono ?_
      rintro e w2 ⟨rfl, b2⟩
      have B2 := Lib.hid (stt B1.out b2 B1.out.size)
      clear b2
      go_wp2
      skip
      exact HE.out _ _ HR.out B2.out
  | false =>
  simp only [Bool.not_false] at k1
  cases v2 with
  | true =>
    simp only [Bool.not_true] at k2
    have hs0 : sty = intT := of_decide_eq_true HV2.out
    have hs1 := Lib.hid hs0
    obtain rfl : v3 = false := by
      cases v3 with
      | false => rfl
      | true => exact absurd (hs0.symm.trans (of_decide_eq_true HV3.out)) (by decide)
    cases bd with
    | true =>
      have HD := Lib.hid (fun w' hb => D1.out w' hb (.inr (.inl hs0)) (of_decide_eq_true HBD.out))
      clear hs0
      go_wp2
      skip
      exact HD.out _ B1.out
    | false =>
      have hde : x.de ≠ [] := by rw [E1.out]; exact of_decide_eq_false HBD.out
      have HR : Hid (∀ o, Ro n 0 o → FmtP x s sty (texO x [] o)) := Lib.hid (fun o h => by rw [hs0, ← HSN.out]; exact F4.out n HG.out hde o h)
      clear hs0 hde
      go_wp2_with fail
      refine (HRO.out _).mono ?_
      rintro e w2 ⟨hp, b2⟩
      obtain ⟨o, hro, rfl⟩ : ∃ o, Ro n 0 o ∧ e = .returned (resV o) := by
        rcases hp with ⟨h, _⟩ | ⟨y, h, h2, _⟩ | ⟨y, d, o, h, h2, _, h3, rfl⟩
        · rw [HN.out] at h; cases h
        · omega
        · rw [HN.out] at h
          injection h with h
          subst h
          obtain rfl : d = 0 := by omega
          exact ⟨o, h3, rfl⟩
      have B2 := Lib.hid (stt B1.out b2 B1.out.size)
      have K2 := Lib.hid (K1.out.below b2)
      have HR2 := Lib.hid (HR.out o hro)
      have HRO2 := Lib.hid hro
      clear b2 hp hro c5 c8
      have c8 : w2.cell? ⟨w.heap.size, 8, none⟩ = some (.string (ofL pe)) := K2.out.cell 8
      cases o with
      | none =>
        unfold resV
        go_wp2
        skip
        exact HE.out ([], 2) _ HR2.out B2.out
      | some u =>
        obtain ⟨y, gy, hy⟩ := roY_of HRO2.out
        have HR3 : Hid (FmtP x s sty (texR x y ++ [], 0)) := Lib.hid (by
          have e : numO u = y := by rw [← hy]; exact F6.out y gy
          have h3 := HR2.out
          rw [show texO x [] (some u) = (texR x (numO u) ++ [], 0) from rfl, e] at h3
          exact h3)
        have HT1 : Hid (∀ w, Calls Try.prog 19 #[.agg #[.string (ofL de), .string (ofL gr), .string (ofL mi), .string (ofL pe), .int .i64 p, .int .i64 q], .string (ofL u)] w fun e w' => e = .returned (.string (ofL (texR x y))) ∧ Below w.heap.size w w') := Lib.hid (by rw [← hy]; exact HTX.out y gy)
        have htl := HTL.out y gy
        obtain ⟨R, hR⟩ : ∃ R, texR x y = R := ⟨_, rfl⟩
        rw [hR] at HT1 HR3 htl
        have c5 : w2.cell? ⟨w.heap.size, 5, none⟩ = some (.string (ofL de)) := K2.out.cell 5
        have c6 : w2.cell? ⟨w.heap.size, 6, none⟩ = some (.string (ofL gr)) := K2.out.cell 6
        have c7 : w2.cell? ⟨w.heap.size, 7, none⟩ = some (.string (ofL mi)) := K2.out.cell 7
        have c9 : w2.cell? ⟨w.heap.size, 9, none⟩ = some (.int .i64 p) := K2.out.cell 9
        have c10 : w2.cell? ⟨w.heap.size, 10, none⟩ = some (.int .i64 q) := K2.out.cell 10
        rw [List.append_nil] at HR3
        have s1 : ∀ wx, (Op.stringOp .add (ofL R) ⟨#[]⟩).run Try.prog wx = .ok (.string (ofL R)) wx := fun wx => str_add (x := R) (y := []) (by simp; omega) (List.append_nil _) wx
        clear hR htl gy hy
        unfold resV
        go_wp2_with fail
        refine (HT1.out _).mono ?_
        rintro e w3 ⟨rfl, b3⟩
        have B3 := Lib.hid (stt B2.out b3 B2.out.size)
        clear b3
        go_wp2
        skip
        exact HE.out _ _ HR3.out B3.out
  | false =>
  simp only [Bool.not_false] at k2
  cases v3 with
  | true =>
    simp only [Bool.not_true] at k3
    have hs0 : sty = perT := of_decide_eq_true HV3.out
    have hs1 := Lib.hid hs0
    cases bd with
    | true =>
      have HD := Lib.hid (fun w' hb => D1.out w' hb (.inr (.inr hs0)) (of_decide_eq_true HBD.out))
      clear hs0
      go_wp2
      skip
      exact HD.out _ B1.out
    | false =>
      have hde : x.de ≠ [] := by rw [E1.out]; exact of_decide_eq_false HBD.out
      have HR : Hid (∀ o, Sh n 2 o → FmtP x s sty (texO x x.pe o)) := Lib.hid (fun o h => by rw [hs0, ← HSN.out]; exact F5.out n HG.out hde o h)
      clear hs0 hde
      go_wp2_with fail
      refine (HSH.out _).mono ?_
      rintro e w2 ⟨hp, b2⟩
      obtain ⟨o, hro, rfl⟩ : ∃ o, Sh n 2 o ∧ e = .returned (resV o) := by
        rcases hp with ⟨h, _⟩ | ⟨y, o, h, h3, rfl⟩
        · rw [HN.out] at h; cases h
        · rw [HN.out] at h
          injection h with h
          subst h
          exact ⟨o, h3, rfl⟩
      have B2 := Lib.hid (stt B1.out b2 B1.out.size)
      have K2 := Lib.hid (K1.out.below b2)
      have HR2 := Lib.hid (HR.out o hro)
      have HRO2 := Lib.hid hro
      clear b2 hp hro c5 c8
      have c8 : w2.cell? ⟨w.heap.size, 8, none⟩ = some (.string (ofL pe)) := K2.out.cell 8
      cases o with
      | none =>
        unfold resV
        go_wp2
        skip
        exact HE.out ([], 2) _ HR2.out B2.out
      | some u =>
        obtain ⟨y, gy, hy⟩ := shY_of HRO2.out
        have HR3 : Hid (FmtP x s sty (texR x y ++ x.pe, 0)) := Lib.hid (by
          have e : numO u = y := by rw [← hy]; exact F6.out y gy
          have h3 := HR2.out
          rw [show texO x x.pe (some u) = (texR x (numO u) ++ x.pe, 0) from rfl, e] at h3
          exact h3)
        have HT1 : Hid (∀ w, Calls Try.prog 19 #[.agg #[.string (ofL de), .string (ofL gr), .string (ofL mi), .string (ofL pe), .int .i64 p, .int .i64 q], .string (ofL u)] w fun e w' => e = .returned (.string (ofL (texR x y))) ∧ Below w.heap.size w w') := Lib.hid (by rw [← hy]; exact HTX.out y gy)
        have htl := HTL.out y gy
        obtain ⟨R, hR⟩ : ∃ R, texR x y = R := ⟨_, rfl⟩
        rw [hR] at HT1 HR3 htl
        have c5 : w2.cell? ⟨w.heap.size, 5, none⟩ = some (.string (ofL de)) := K2.out.cell 5
        have c6 : w2.cell? ⟨w.heap.size, 6, none⟩ = some (.string (ofL gr)) := K2.out.cell 6
        have c7 : w2.cell? ⟨w.heap.size, 7, none⟩ = some (.string (ofL mi)) := K2.out.cell 7
        have c9 : w2.cell? ⟨w.heap.size, 9, none⟩ = some (.int .i64 p) := K2.out.cell 9
        have c10 : w2.cell? ⟨w.heap.size, 10, none⟩ = some (.int .i64 q) := K2.out.cell 10
        obtain ⟨R2, hR2⟩ : ∃ R2, R ++ x.pe = R2 := ⟨_, rfl⟩
        rw [hR2] at HR3
        have s1 : ∀ wx, (Op.stringOp .add (ofL R) (ofL pe)).run Try.prog wx = .ok (.string (ofL R2)) wx := fun wx => str_add (by omega) (by rw [← hR2, E4.out]) wx
        clear hR2
        clear hR htl gy hy
        unfold resV
        go_wp2_with fail
        refine (HT1.out _).mono ?_
        rintro e w3 ⟨rfl, b3⟩
        have B3 := Lib.hid (stt B2.out b3 B2.out.size)
        clear b3
        go_wp2
        skip
        exact HE.out _ _ HR3.out B3.out
  | false =>
    simp only [Bool.not_false] at k3
    have HR := Lib.hid (F1.out (of_decide_eq_false HV1.out) (of_decide_eq_false HV2.out) (of_decide_eq_false HV3.out))
    go_wp2
    skip
    exact HE.out _ _ HR.out B1.out
end Go.Proofs.Yteofkofgdhmpjaa
