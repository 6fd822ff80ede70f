/- Of the reference of layer 15: Text, without. -/
import Derived.Test.YteofkofgdhmpjaaDoorNud
namespace Go.Proofs.YteofkofgdhmpjaaDoor
open Go.RowKit
set_option linter.unusedVariables false

theorem empY {s : Str} (h : s = []) : ((ofL s).toList == ([] : List UInt8)) = true ∧ ((ofL s).toList != ([] : List UInt8)) = false := by
  rw [ByteArray.toList_eq]
  subst h
  exact ⟨rfl, rfl⟩
theorem empN {s : Str} (h : ¬ s = []) : ((ofL s).toList == ([] : List UInt8)) = false ∧ ((ofL s).toList != ([] : List UInt8)) = true := by
  rw [ByteArray.toList_eq]
  exact ⟨by rw [beq_eq_false_iff_ne]; exact h, by rw [bne_iff_ne]; exact h⟩
/-- Symbols of usual sizes. -/
structure SmY (x : SyN) : Prop where
  de : x.de.length ≤ 1000
  gr : x.gr.length ≤ 1000
  mi : x.mi.length ≤ 1000
  pe : x.pe.length ≤ 1000
  p1 : -9223372036854775808 ≤ x.pr
  p2 : x.pr ≤ 9223372036854775807
  s1 : -9223372036854775808 ≤ x.se
  s2 : x.se ≤ 9223372036854775807
theorem good_wh {n : Num} (g : Good n) : n.wh.length ≤ 15 := g.high
theorem grp_le {x : SyN} (h : SmY x) {n : Num} (g : Good n) : (grpR x n.wh).length ≤ 20000 := by
  have h1 := grp_len x n.wh
  have h2 := g.high
  have h3 := h.gr
  have : (x.gr.length + 1) * n.wh.length ≤ 1001 * 15 := Nat.mul_le_mul (by omega) h2
  omega
set_option maxRecDepth 1000000 in
set_option maxHeartbeats 4000000 in
theorem text15_any (x : SyN) (hx : SmY x) (n : Num) (hn : Good n) (w : World) : Calls Tryd.prog 18 #[.agg #[.string (ofL x.de), .string (ofL x.gr), .string (ofL x.mi), .string (ofL x.pe), .int .i64 x.pr, .int .i64 x.se], .string (ofL (txt n))] w fun e w' => e = .returned (.string (ofL (texR x n))) ∧ Below w.heap.size w w' := by
  have hsz : (ofL (txt n)).size ≤ 9223372036854775807 := by
    rw [ofL_size]
    have h1 := hn.high
    have h2 := hn.few
    unfold txt
    rw [List.length_append, List.length_append]
    have e1 : (if n.neg = true then ([45] : Str) else []).length ≤ 1 := by split <;> simp
    have e2 : (if n.fr = [] then ([] : Str) else 46 :: n.fr).length ≤ 7 := by split <;> simp <;> omega
    omega
  have HSP := Lib.hid (fun w => refSplit_any (ofL (txt n)) hsz w)
  have HN : Hid (spl (txt n) = some n) := Lib.hid (spl_of hn)
  have HGR := Lib.hid (fun w => group15_any x n.wh (by have := hn.high; omega) hx.gr hx.p1 hx.p2 hx.s1 hx.s2 w)
  have HT : Hid (texR x n = (if n.neg = true then x.mi else []) ++ (grpR x n.wh ++ (if n.fr = [] then [] else x.de ++ n.fr))) := Lib.hid rfl
  have gle := grp_le hx hn
  obtain ⟨G, hG⟩ : ∃ G, grpR x n.wh = G := ⟨_, rfl⟩
  rw [hG] at HGR HT gle
  obtain ⟨R, hR⟩ : ∃ R, texR x n = R := ⟨_, rfl⟩
  rw [hR] at HT ⊢
  have hfr : n.fr.length ≤ 6 := hn.few
  have hde := hx.de
  have hmi := hx.mi
  obtain ⟨de, e1⟩ : ∃ de, x.de = de := ⟨_, rfl⟩
  obtain ⟨gr, e2⟩ : ∃ gr, x.gr = gr := ⟨_, rfl⟩
  obtain ⟨mi, e3⟩ : ∃ mi, x.mi = mi := ⟨_, rfl⟩
  obtain ⟨pe, e4⟩ : ∃ pe, x.pe = pe := ⟨_, rfl⟩
  obtain ⟨p, e5⟩ : ∃ p, x.pr = p := ⟨_, rfl⟩
  obtain ⟨q, e6⟩ : ∃ q, x.se = q := ⟨_, rfl⟩
  rw [e1, e2, e3, e4, e5, e6] at HGR
  rw [e1, e3] at HT
  rw [e1] at hde
  rw [e3] at hmi
  rw [e1, e2, e3, e4, e5, e6]
  obtain ⟨t, et⟩ : ∃ t, txt n = t := ⟨_, rfl⟩
  rw [et] at HSP HN ⊢
  obtain ⟨neg, wh, fr⟩ := n
  clear hx hn hG hR e1 e2 e3 e4 e5 e6 et hsz
  simp only at HGR HT hfr
  have B0 := Lib.hid ((Below.refl w.heap.size w).alloc (Nat.le_refl _) (.cells #[.string (ofL de), .string (ofL gr), .string (ofL mi), .string (ofL pe), .int .i64 p, .int .i64 q] 23))
  have K0 := Lib.hid (Blk.new w 23 #[.string (ofL de), .string (ofL gr), .string (ofL mi), .string (ofL pe), .int .i64 p, .int .i64 q])
  obtain ⟨W0, hW0⟩ : ∃ W0, w.alloc (.cells #[.string (ofL de), .string (ofL gr), .string (ofL mi), .string (ofL pe), .int .i64 p, .int .i64 q] 23) = W0 := ⟨_, rfl⟩
  rw [hW0] at B0 K0
  have HW0 := Lib.hid hW0
  clear hW0
  go_enter Tryd.func18, Tryd.ntmps18
  go_wp2_with fail
  rw [HW0.out]
  refine (HSP.out _).mono ?_
  rintro e w1 ⟨ok, y, rfl, hy, hno, b1⟩
  obtain rfl : ok = true := by
    cases ok with
    | true => rfl
    | false =>
      have := hno rfl
      rw [show (ofL t).data.toList = t from rfl, HN.out] at this
      cases this
  have hy2 := hy rfl
  rw [show (ofL t).data.toList = t from rfl, HN.out] at hy2
  injection hy2 with hy2
  subst hy2
  have B1 := Lib.hid (st B0.out b1 B0.out.size)
  have K1 := Lib.hid (K0.out.below b1)
  clear hy hno b1
  unfold refN
  simp only
  have B2 := Lib.hid (B1.out.alloc B1.out.size (.cells #[.bool neg, .string (ofL wh), .string (ofL fr)] 44))
  have K2 := Lib.hid (K1.out.alloc (.cells #[.bool neg, .string (ofL wh), .string (ofL fr)] 44))
  have N2 := Lib.hid (Blk.new w1 44 #[.bool neg, .string (ofL wh), .string (ofL fr)])
  have d0 : (w1.alloc (.cells #[.bool neg, .string (ofL wh), .string (ofL fr)] 44)).cell? ⟨w.heap.size, 0, none⟩ = some (.string (ofL de)) := K2.out.cell 0
  have d1 : (w1.alloc (.cells #[.bool neg, .string (ofL wh), .string (ofL fr)] 44)).cell? ⟨w.heap.size, 1, none⟩ = some (.string (ofL gr)) := K2.out.cell 1
  have d2 : (w1.alloc (.cells #[.bool neg, .string (ofL wh), .string (ofL fr)] 44)).cell? ⟨w.heap.size, 2, none⟩ = some (.string (ofL mi)) := K2.out.cell 2
  have d3 : (w1.alloc (.cells #[.bool neg, .string (ofL wh), .string (ofL fr)] 44)).cell? ⟨w.heap.size, 3, none⟩ = some (.string (ofL pe)) := K2.out.cell 3
  have d4 : (w1.alloc (.cells #[.bool neg, .string (ofL wh), .string (ofL fr)] 44)).cell? ⟨w.heap.size, 4, none⟩ = some (.int .i64 p) := K2.out.cell 4
  have d5 : (w1.alloc (.cells #[.bool neg, .string (ofL wh), .string (ofL fr)] 44)).cell? ⟨w.heap.size, 5, none⟩ = some (.int .i64 q) := K2.out.cell 5
  go_wp2_with fail
  clear d0 d1 d2 d3 d4 d5
  refine (HGR.out _).mono ?_
  rintro e w3 ⟨rfl, b3⟩
  have B3 := Lib.hid (st B2.out b3 B2.out.size)
  have K3 := Lib.hid (K2.out.below b3)
  have N3 := Lib.hid (N2.out.below b3)
  clear b3
  obtain ⟨g1, hg1⟩ : ∃ g1, w1.heap.size = g1 := ⟨_, rfl⟩
  rw [hg1] at N3 ⊢
  clear hg1
  have c0 : w3.cell? ⟨w.heap.size, 0, none⟩ = some (.string (ofL de)) := K3.out.cell 0
  have c2 : w3.cell? ⟨w.heap.size, 2, none⟩ = some (.string (ofL mi)) := K3.out.cell 2
  have f0 : w3.cell? ⟨g1, 0, none⟩ = some (.bool neg) := N3.out.cell 0
  have f2 : w3.cell? ⟨g1, 2, none⟩ = some (.string (ofL fr)) := N3.out.cell 2
  by_cases hf : fr = []
  · obtain ⟨q1, q2⟩ := empY hf
    rw [if_pos hf, List.append_nil] at HT
    clear hf
    cases neg with
    | false =>
      rw [if_neg (by decide), List.nil_append] at HT
      go_wp2
      go_ret
      exact ⟨by rw [HT.out]; rfl, B3.out⟩
    | true =>
      rw [if_pos rfl] at HT
      have s2 : ∀ wx, (Op.stringOp .add (ofL mi) (ofL G)).run Tryd.prog wx = .ok (.string (ofL R)) wx := fun wx => str_add (by omega) HT.out.symm wx
      go_wp2
      go_ret
      exact ⟨rfl, B3.out⟩
  · obtain ⟨q1, q2⟩ := empN hf
    rw [if_neg hf] at HT
    clear hf
    obtain ⟨y1, hy1⟩ : ∃ y1, de ++ fr = y1 := ⟨_, rfl⟩
    have hy1n : y1.length ≤ 2000 := by rw [← hy1, List.length_append]; omega
    have s0 : ∀ wx, (Op.stringOp .add (ofL de) (ofL fr)).run Tryd.prog wx = .ok (.string (ofL y1)) wx := fun wx => str_add (by omega) hy1 wx
    rw [hy1] at HT
    clear hy1
    obtain ⟨y2, hy2⟩ : ∃ y2, G ++ y1 = y2 := ⟨_, rfl⟩
    have hy2n : y2.length ≤ 30000 := by rw [← hy2, List.length_append]; omega
    have s1 : ∀ wx, (Op.stringOp .add (ofL G) (ofL y1)).run Tryd.prog wx = .ok (.string (ofL y2)) wx := fun wx => str_add (by omega) hy2 wx
    rw [hy2] at HT
    clear hy2
    cases neg with
    | false =>
      rw [if_neg (by decide), List.nil_append] at HT
      go_wp2
      go_ret
      exact ⟨by rw [HT.out]; rfl, B3.out⟩
    | true =>
      rw [if_pos rfl] at HT
      have s2 : ∀ wx, (Op.stringOp .add (ofL mi) (ofL y2)).run Tryd.prog wx = .ok (.string (ofL R)) wx := fun wx => str_add (by omega) HT.out.symm wx
      go_wp2
      go_ret
      exact ⟨rfl, B3.out⟩
/-! ### without -/
theorem wit_cut {t s : Str} (h : t ≠ [] ∧ begB s t = true) (hs : s ≠ []) : witR t s.length s = witR t (s.drop t.length).length (s.drop t.length) := by
  cases s with
  | nil => exact absurd rfl hs
  | cons c s =>
    have hp : 0 < t.length := List.length_pos_iff.2 h.1
    rw [List.length_cons, witR, if_pos h]
    exact wit_fuel t _ _ _ (by rw [List.length_drop, List.length_cons]; omega) (Nat.le_refl _)
theorem wit_one {t : Str} {c : UInt8} {s : Str} (h : ¬ (t ≠ [] ∧ begB (c :: s) t = true)) : witR t (c :: s).length (c :: s) = c :: witR t s.length s := by
  rw [List.length_cons, witR, if_neg h]
set_option maxRecDepth 1000000 in
set_option maxHeartbeats 4000000 in
theorem without_any (s t : Str) (hs : s.length ≤ 100000) (ht : t.length ≤ 100000) (w : World) : Calls Tryd.prog 17 #[.string (ofL s), .string (ofL t)] w fun e w' => e = .returned (.string (ofL (witR t s.length s))) ∧ Below w.heap.size w w' := by
  have HBG := Lib.hid (fun (s' : Str) (h : s'.length ≤ 100000) w => begins_any s' t (by omega) (by omega) w)
  have HC := Lib.hid (fun (s' : Str) => @wit_cut t s')
  have HO := Lib.hid (fun (c : UInt8) (s' : Str) => @wit_one t c s')
  obtain ⟨R, hR⟩ : ∃ R, witR t s.length s = R := ⟨_, rfl⟩
  have HL : Hid (R.length ≤ 100000) := Lib.hid (by
    rw [← hR]
    have : ∀ (f : Nat) (s : Str), (witR t f s).length ≤ s.length := fun f => by
      induction f with
      | zero => intro s; exact Nat.zero_le _
      | succ f ih =>
        intro s
        cases s with
        | nil => exact Nat.zero_le _
        | cons c s =>
          rw [witR]
          split
          · exact Nat.le_trans (ih _) (by rw [List.length_drop]; omega)
          · have := ih s; simp; exact this
    exact Nat.le_trans (this _ _) hs)
  have HR := Lib.hid hR
  rw [hR]
  clear hR
  obtain ⟨T, hT⟩ : ∃ T, ofL t = T := ⟨_, rfl⟩
  have hTn : T.size = t.length := by rw [← hT, ofL_size]
  have hTE : ∃ bt, (T.toList == ([] : List UInt8)) = bt ∧ (bt = true ↔ t = []) := ⟨_, rfl, by rw [← hT, ByteArray.toList_eq, beq_iff_eq]; rfl⟩
  obtain ⟨bt, hbt, hbt2⟩ := hTE
  have hbt3 : (T.toList != ([] : List UInt8)) = !bt := by rw [← hbt]; rfl
  have HB2 := Lib.hid hbt2
  rw [hT] at HBG ⊢
  obtain ⟨m, em⟩ : ∃ m, t.length = m := ⟨_, rfl⟩
  rw [em] at hTn ht
  have HM := Lib.hid em
  clear hT hbt2 em
  go_enter Tryd.func17, Tryd.ntmps17
  go_wp2
  go_loopw [0, 5] (fun v0 v5 wr => ∃ (r o : Str), v0 = .string (ofL r) ∧ v5 = .string (ofL o) ∧ r.length ≤ 100000 ∧ o ++ witR t r.length r = R ∧ Below w.heap.size w wr) (fun v0 _ _ => (match v0 with | .string b => b.size | _ => 0))
  case atStart => exact ⟨s, [], rfl, rfl, hs, HR.out, Below.refl _ _⟩
  case round =>
    obtain ⟨r, o, rfl, rfl, hr, ho, hbw⟩ := hrel
    have HO2 := Lib.hid ho
    have HX := Lib.hid hbw
    clear ho hbw
    by_cases h0 : r = []
    · obtain ⟨q1, q2⟩ := empY h0
      have HE : Hid (o = R) := Lib.hid (by have := HO2.out; rw [h0] at this; simpa [witR] using this)
      clear h0
      go_wp2
      go_ret
      exact ⟨by rw [HE.out]; rfl, HX.out⟩
    · obtain ⟨q1, q2⟩ := empN h0
      have hol : o.length ≤ 100000 := by
        have := HL.out
        rw [← HO2.out, List.length_append] at this
        omega
      cases bt with
      | true =>
        have ht0 : t = [] := HB2.out.1 rfl
        have HNB := Lib.hid (show ¬ (t ≠ [] ∧ begB r t = true) from fun k => k.1 ht0)
        clear ht0
        obtain ⟨c, r', rfl⟩ : ∃ c r', r = c :: r' := by
          cases r with
          | nil => exact absurd rfl h0
          | cons c r' => exact ⟨c, r', rfl⟩
        have cu1 : ∀ wx, (Instr.slice 9 (.string (ofL (c :: r'))) none (some (.int .i64 1)) none).run Tryd.prog wx = .ok (.string (ofL [c])) wx := cutY_to (c :: r') (a := 1) (by simp) rfl
        have cu2 : ∀ wx, (Instr.slice 9 (.string (ofL (c :: r'))) (some (.int .i64 1)) none none).run Tryd.prog wx = .ok (.string (ofL r')) wx := cutY_from (c :: r') (a := 1) (by simp) rfl
        obtain ⟨o2, ho2⟩ : ∃ o2, o ++ [c] = o2 := ⟨_, rfl⟩
        have s1 : ∀ wx, (Op.stringOp .add (ofL o) (ofL [c])).run Tryd.prog wx = .ok (.string (ofL o2)) wx := fun wx => str_add (by simp; omega) ho2 wx
        have HN2 : Hid (o2 ++ witR t r'.length r' = R) := Lib.hid (by
          have := HO2.out
          rw [HO.out c r' HNB.out] at this
          rw [← ho2, List.append_assoc]
          exact this)
        have hr' : r'.length ≤ 100000 := by rw [List.length_cons] at hr; omega
        obtain ⟨C, hC⟩ : ∃ C, ofL (c :: r') = C := ⟨_, rfl⟩
        have HCN : Hid (C.size = r'.length + 1) := Lib.hid (by rw [← hC, ofL_size]; rfl)
        have HHR := Lib.hid hr'
        rw [hC] at q1 q2 cu1 cu2 ⊢
        clear hC ho2 hol h0 hr hr'
        go_wp2
        go_quiet (fail)
        go_wp2
        go_roundw
        case rel => exact ⟨r', o2, rfl, rfl, HHR.out, HN2.out, below_drewN HX.out _⟩
        case measure => simp only [HCN.out, ofL_size]; omega
      | false =>
        have HT0 : Hid (¬ t = []) := Lib.hid (fun k => by have := HB2.out.2 k; cases this)
        have HBR := Lib.hid (fun wx => HBG.out r hr wx)
        obtain ⟨bb, hbb⟩ : ∃ bb, begB r t = bb := ⟨_, rfl⟩
        rw [hbb] at HBR
        have HBB := Lib.hid hbb
        clear hbb
        cases bb with
        | true =>
          have hmr : m ≤ r.length := by
            have := begB_iff.1 HBB.out
            obtain ⟨u, hu⟩ := this
            rw [hu, List.length_append, HM.out]
            omega
          have cu : ∀ wx, (Instr.slice 9 (.string (ofL r)) (some (.int .i64 (m : Int))) none none).run Tryd.prog wx = .ok (.string (ofL (r.drop m))) wx := cutY_from r hmr rfl
          obtain ⟨r', hr1⟩ : ∃ r', r.drop m = r' := ⟨_, rfl⟩
          have HN2 : Hid (o ++ witR t r'.length r' = R) := Lib.hid (by
            have := HO2.out
            rw [HC.out r ⟨HT0.out, HBB.out⟩ h0, HM.out, hr1] at this
            exact this)
          have HHR : Hid (r'.length ≤ 100000 ∧ r'.length < r.length) := Lib.hid (by
            have hm0 : 0 < m := by rw [← HM.out]; exact List.length_pos_iff.2 HT0.out
            rw [← hr1, List.length_drop]
            omega)
          rw [hr1] at cu
          obtain ⟨C, hC⟩ : ∃ C, ofL r = C := ⟨_, rfl⟩
          have HCN : Hid (C.size = r.length) := Lib.hid (by rw [← hC, ofL_size])
          rw [hC] at q1 q2 cu HBR ⊢
          clear hC hr1 hmr hol h0 hr
          go_wp2_with fail
          refine (HBR.out _).mono ?_
          rintro e w6 ⟨rfl, hw6⟩
          obtain rfl := hw6.symm
          go_wp2
          go_roundw
          case rel => exact ⟨r', o, rfl, rfl, HHR.out.1, HN2.out, HX.out⟩
          case measure => simp only [HCN.out, ofL_size]; exact HHR.out.2
        | false =>
        have HNB := Lib.hid (show ¬ (t ≠ [] ∧ begB r t = true) from fun k => by rw [HBB.out] at k; cases k.2)
        obtain ⟨c, r', rfl⟩ : ∃ c r', r = c :: r' := by
          cases r with
          | nil => exact absurd rfl h0
          | cons c r' => exact ⟨c, r', rfl⟩
        have cu1 : ∀ wx, (Instr.slice 9 (.string (ofL (c :: r'))) none (some (.int .i64 1)) none).run Tryd.prog wx = .ok (.string (ofL [c])) wx := cutY_to (c :: r') (a := 1) (by simp) rfl
        have cu2 : ∀ wx, (Instr.slice 9 (.string (ofL (c :: r'))) (some (.int .i64 1)) none none).run Tryd.prog wx = .ok (.string (ofL r')) wx := cutY_from (c :: r') (a := 1) (by simp) rfl
        obtain ⟨o2, ho2⟩ : ∃ o2, o ++ [c] = o2 := ⟨_, rfl⟩
        have s1 : ∀ wx, (Op.stringOp .add (ofL o) (ofL [c])).run Tryd.prog wx = .ok (.string (ofL o2)) wx := fun wx => str_add (by simp; omega) ho2 wx
        have HN2 : Hid (o2 ++ witR t r'.length r' = R) := Lib.hid (by
          have := HO2.out
          rw [HO.out c r' HNB.out] at this
          rw [← ho2, List.append_assoc]
          exact this)
        have hr' : r'.length ≤ 100000 := by rw [List.length_cons] at hr; omega
        obtain ⟨C, hC⟩ : ∃ C, ofL (c :: r') = C := ⟨_, rfl⟩
        have HCN : Hid (C.size = r'.length + 1) := Lib.hid (by rw [← hC, ofL_size]; rfl)
        have HHR := Lib.hid hr'
        rw [hC] at q1 q2 cu1 cu2 HBR ⊢
        clear hC ho2 hol h0 hr hr'
        go_wp2_with fail
        refine (HBR.out _).mono ?_
        rintro e w6 ⟨rfl, hw6⟩
        obtain rfl := hw6.symm
        go_wp2
        go_quiet (fail)
        go_wp2
        go_roundw
        case rel => exact ⟨r', o2, rfl, rfl, HHR.out, HN2.out, below_drewN HX.out _⟩
        case measure => simp only [HCN.out, ofL_size]; omega
end Go.Proofs.YteofkofgdhmpjaaDoor
