/- Of the reference of layer 15: Parse. -/
import Derived.Test.YteofkofgdhmpjaaDoorNug
namespace Go.Proofs.YteofkofgdhmpjaaDoor
open Go.RowKit
set_option linter.unusedVariables false

theorem pla_le (t : Str) : ∀ s : Str, plaR t s ≤ s.length
  | [] => Nat.le_refl _
  | c :: s => by
    have := pla_le t s
    rw [plaR, List.length_cons]
    split <;> omega
theorem pla_hit {t s : Str} {k : Nat} (hk : k < s.length) (h : begB (s.drop k) t = true) : plaR t (s.drop k) = 0 := by
  cases hd : s.drop k with
  | nil => rfl
  | cons c r => rw [hd] at h; rw [plaR, if_pos h]
theorem pla_miss {t s : Str} {k : Nat} (hk : k < s.length) (h : begB (s.drop k) t = false) : plaR t (s.drop k) = plaR t (s.drop (k + 1)) + 1 := by
  have hd : s.drop k = s[k] :: s.drop (k + 1) := List.drop_eq_getElem_cons hk
  rw [hd] at h ⊢
  rw [plaR, h, if_neg (by decide)]
theorem parR_data {x : SyN} {s : Str} (h : x.de = []) : parR x s = ([], 18) := by unfold parR; rw [if_pos h]
theorem parR_bad {x : SyN} {s : Str} (h : ¬ x.de = []) (k : (spl (numT x s)).isSome = false) : parR x s = ([], 3) := by
  unfold parR
  rw [if_neg h]
  cases hs : spl (numT x s) with
  | none => rfl
  | some n => rw [hs] at k; cases k
theorem parR_ok {x : SyN} {s : Str} (h : ¬ x.de = []) {n : Num} (k : spl (numT x s) = some n) : parR x s = if texR x n = s then (numT x s, 0) else ([], 3) := by
  unfold parR
  rw [if_neg h, k]
theorem wit_le (t : Str) : ∀ (f : Nat) (s : Str), (witR t f s).length ≤ s.length := fun f => by
  induction f with
  | zero => intro s; exact Nat.zero_le _
  | succ f ih =>
    intro s
    cases s with
    | nil => exact Nat.zero_le _
    | cons c s =>
      rw [witR]
      split
      · exact Nat.le_trans (ih _) (by rw [List.length_drop]; omega)
      · have := ih s; simp; exact this
/-- The number's string, in the order in which it is made. -/
theorem numT_eq (x : SyN) (s : Str) (neg : Bool) (hn : neg = (decide (x.mi ≠ []) && begB s x.mi)) (rest : Str) (hr : rest = if neg = true then s.drop x.mi.length else s) (k : Nat) (hk : k = plaR x.de rest) :
    numT x s = ((if neg = true then ([45] : Str) else []) ++ witR x.gr (rest.take k).length (rest.take k)) ++ (if k < rest.length then 46 :: rest.drop (k + x.de.length) else []) := by
  subst hk hr
  subst hn
  unfold numT
  simp only
  rw [List.append_assoc]
  have e : ∀ r : Str, (r.take (plaR x.de r)).length = plaR x.de r := fun r => by rw [List.length_take]; have := pla_le x.de r; omega
  rw [e]
set_option maxRecDepth 1000000 in
set_option maxHeartbeats 8000000 in
theorem parse15_any (l : LocN) (x : SyN) (hx : SmY x) (s : Str) (hs : s.length ≤ 100000) (w : World) : Calls Tryd.prog 8 #[.agg #[.string l.tg, .string l.pa, .string l.di, .slice l.ca.a l.ca.n l.ca.c, .slice l.oc.a l.oc.n l.oc.c, .string (ofL x.de), .string (ofL x.gr), .string (ofL x.mi), .string (ofL x.pe), .int .i64 x.pr, .int .i64 x.se, .slice l.li.a l.li.n l.li.c, .slice l.un.a l.un.n l.un.c, .slice l.da.a l.da.n l.da.c, .slice l.mo.a l.mo.n l.mo.c, .slice l.dy.a l.dy.n l.dy.c], .string (ofL s)] w fun e w' => e = .returned (.tuple #[.string (ofL (parR x s).1), .int .i64 ((parR x s).2 : Nat)]) ∧ Below w.heap.size w w' := by
  have HTX := Lib.hid (fun n (hn : Good n) w => text15_any x hx n hn w)
  have HP0 := Lib.hid (fun h => @parR_data x s h)
  have HP1 := Lib.hid (fun h k => @parR_bad x s h k)
  have HP2 := Lib.hid (fun h n k => @parR_ok x s h n k)
  have HNT := Lib.hid (numT_eq x s)
  obtain ⟨R, hR⟩ : ∃ R, parR x s = R := ⟨_, rfl⟩
  obtain ⟨T, hT⟩ : ∃ T, numT x s = T := ⟨_, rfl⟩
  rw [hR] at HP0 HP1 HP2 ⊢
  rw [hT] at HP1 HP2 HNT
  have hde := hx.de
  have hgr := hx.gr
  have hmi := hx.mi
  obtain ⟨de, e1⟩ : ∃ de, x.de = de := ⟨_, rfl⟩
  obtain ⟨gr, e2⟩ : ∃ gr, x.gr = gr := ⟨_, rfl⟩
  obtain ⟨mi, e3⟩ : ∃ mi, x.mi = mi := ⟨_, rfl⟩
  obtain ⟨pe, e4⟩ : ∃ pe, x.pe = pe := ⟨_, rfl⟩
  obtain ⟨p, e5⟩ : ∃ p, x.pr = p := ⟨_, rfl⟩
  obtain ⟨q, e6⟩ : ∃ q, x.se = q := ⟨_, rfl⟩
  rw [e1, e2, e3, e4, e5, e6] at HTX
  rw [e1] at HP0 HP1 HP2 HNT hde
  rw [e2] at HNT hgr
  rw [e3] at HNT hmi
  rw [e1, e2, e3, e4, e5, e6]
  clear hx e1 e2 e3 e4 e5 e6 hR hT
  have B0 := Lib.hid ((Below.refl w.heap.size w).alloc (Nat.le_refl _) (.cells #[.string l.tg, .string l.pa, .string l.di, .slice l.ca.a l.ca.n l.ca.c, .slice l.oc.a l.oc.n l.oc.c, .string (ofL de), .string (ofL gr), .string (ofL mi), .string (ofL pe), .int .i64 p, .int .i64 q, .slice l.li.a l.li.n l.li.c, .slice l.un.a l.un.n l.un.c, .slice l.da.a l.da.n l.da.c, .slice l.mo.a l.mo.n l.mo.c, .slice l.dy.a l.dy.n l.dy.c] 32))
  have B1 := Lib.hid (B0.out.alloc B0.out.size (.cells #[.string (ofL de), .string (ofL gr), .string (ofL mi), .string (ofL pe), .int .i64 p, .int .i64 q] 23))
  have K1 := Lib.hid (Blk.new (w.alloc (.cells #[.string l.tg, .string l.pa, .string l.di, .slice l.ca.a l.ca.n l.ca.c, .slice l.oc.a l.oc.n l.oc.c, .string (ofL de), .string (ofL gr), .string (ofL mi), .string (ofL pe), .int .i64 p, .int .i64 q, .slice l.li.a l.li.n l.li.c, .slice l.un.a l.un.n l.un.c, .slice l.da.a l.da.n l.da.c, .slice l.mo.a l.mo.n l.mo.c, .slice l.dy.a l.dy.n l.dy.c] 32)) 23 #[.string (ofL de), .string (ofL gr), .string (ofL mi), .string (ofL pe), .int .i64 p, .int .i64 q])
  rw [show (w.alloc (.cells #[.string l.tg, .string l.pa, .string l.di, .slice l.ca.a l.ca.n l.ca.c, .slice l.oc.a l.oc.n l.oc.c, .string (ofL de), .string (ofL gr), .string (ofL mi), .string (ofL pe), .int .i64 p, .int .i64 q, .slice l.li.a l.li.n l.li.c, .slice l.un.a l.un.n l.un.c, .slice l.da.a l.da.n l.da.c, .slice l.mo.a l.mo.n l.mo.c, .slice l.dy.a l.dy.n l.dy.c] 32)).heap.size = w.heap.size + 1 by simp] at K1
  obtain ⟨bd, hbd⟩ : ∃ b, decide (de = []) = b := ⟨_, rfl⟩
  have k6 : ((ofL de).toList == ([] : List UInt8)) = bd := by
    rw [ByteArray.toList_eq, ← hbd]
    by_cases h : de = []
    · rw [h]; rfl
    · rw [decide_eq_false h, beq_eq_false_iff_ne]; exact h
  have HBD := Lib.hid hbd
  clear hbd
  cases bd with
  | true =>
    have HR : Hid (R = ([], 18)) := Lib.hid (HP0.out (of_decide_eq_true HBD.out))
    go_enter Tryd.func8, Tryd.ntmps8
    go_wp2
    go_ret2
    exact ⟨by rw [HR.out]; rfl, B1.out⟩
  | false =>
  have hde0 : ¬ de = [] := of_decide_eq_false HBD.out
  have HDE := Lib.hid hde0
  clear hde0
  obtain ⟨W1, hW1⟩ : ∃ W1, (w.alloc (.cells #[.string l.tg, .string l.pa, .string l.di, .slice l.ca.a l.ca.n l.ca.c, .slice l.oc.a l.oc.n l.oc.c, .string (ofL de), .string (ofL gr), .string (ofL mi), .string (ofL pe), .int .i64 p, .int .i64 q, .slice l.li.a l.li.n l.li.c, .slice l.un.a l.un.n l.un.c, .slice l.da.a l.da.n l.da.c, .slice l.mo.a l.mo.n l.mo.c, .slice l.dy.a l.dy.n l.dy.c] 32)).alloc (.cells #[.string (ofL de), .string (ofL gr), .string (ofL mi), .string (ofL pe), .int .i64 p, .int .i64 q] 23) = W1 := ⟨_, rfl⟩
  rw [hW1] at B1 K1
  have HW1 := Lib.hid hW1
  clear hW1 B0
  have c0 : W1.cell? ⟨w.heap.size + 1, 0, none⟩ = some (.string (ofL de)) := K1.out.cell 0
  have c1 : W1.cell? ⟨w.heap.size + 1, 1, none⟩ = some (.string (ofL gr)) := K1.out.cell 1
  have c2 : W1.cell? ⟨w.heap.size + 1, 2, none⟩ = some (.string (ofL mi)) := K1.out.cell 2
  obtain ⟨bm, hbm⟩ : ∃ b, decide (mi = []) = b := ⟨_, rfl⟩
  have k7 : ((ofL mi).toList != ([] : List UInt8)) = !bm := by
    rw [ByteArray.toList_eq, ← hbm]
    by_cases h : mi = []
    · rw [h]; rfl
    · rw [decide_eq_false h]; exact bne_iff_ne.2 h
  have k8 : (ofL mi).toList.isEmpty = bm := by
    rw [ByteArray.toList_eq, ← hbm]
    by_cases h : mi = []
    · rw [h]; rfl
    · rw [decide_eq_false h, List.isEmpty_eq_false_iff]; exact h
  obtain ⟨neg, hneg⟩ : ∃ b, (decide (mi ≠ []) && begB s mi) = b := ⟨_, rfl⟩
  have HNG : Hid (neg = (!bm && begB s mi)) := Lib.hid (by rw [← hneg, ← hbm]; by_cases h : mi = [] <;> simp [h])
  obtain ⟨r, hr⟩ : ∃ r, (if neg = true then s.drop mi.length else s) = r := ⟨_, rfl⟩
  have hrl : r.length ≤ 100000 := by
    rw [← hr]
    split
    · rw [List.length_drop]; omega
    · exact hs
  obtain ⟨sg, hsg⟩ : ∃ sg, (if neg = true then ([45] : Str) else []) = sg := ⟨_, rfl⟩
  have hsgl : sg.length ≤ 1 := by rw [← hsg]; split <;> simp
  have HNT2 : Hid (∀ k, k = plaR de r → T = (sg ++ witR gr (r.take k).length (r.take k)) ++ (if k < r.length then 46 :: r.drop (k + de.length) else [])) := Lib.hid (fun k hk => by rw [← hsg]; exact HNT.out neg hneg.symm r hr.symm k hk)
  have HRR := Lib.hid hr
  have HSG := Lib.hid hsg
  clear hneg hr hsg HNT hbm
  go_enter Tryd.func8, Tryd.ntmps8
  go_upto_region 5 with fail
  rw [HW1.out]
  go_cut [25] from 17 to 25 (fun v25 wx => v25 = .bool neg ∧ wx = W1)
  case first =>
    cases bm with
    | true =>
      simp only [Bool.not_true] at k7
      have HN0 : Hid (neg = false) := Lib.hid (by rw [HNG.out]; rfl)
      go_wp2_with fail
      go_meet
      exact ⟨by rw [HN0.out], rfl⟩
    | false =>
      simp only [Bool.not_false] at k7
      have HBE := Lib.hid (fun wx => begins_any s mi (by omega) (by omega) wx)
      obtain ⟨bb, hbb⟩ : ∃ bb, begB s mi = bb := ⟨_, rfl⟩
      rw [hbb] at HBE HNG
      clear hbb
      have HN0 : Hid (neg = bb) := Lib.hid (by rw [HNG.out]; rfl)
      go_wp2_with fail
      refine (HBE.out _).mono ?_
      rintro e w6 ⟨rfl, hw6⟩
      obtain rfl := hw6.symm
      clear hw6
      go_wp2_with fail
      go_meet
      exact ⟨by rw [HN0.out], rfl⟩
  case rest =>
  obtain ⟨rfl, hwc⟩ := hcut
  obtain rfl := hwc.symm
  clear hwc
  have HBB : Hid (neg = true → begB s mi = true) := Lib.hid (fun h => by have := HNG.out; rw [h] at this; cases bm with | true => cases this | false => exact this.symm)
  clear k7 k8 HNG
  go_upto_if 25 with fail
  go_cut [7, 8] from 26 to 30 (fun v7 v8 wx => v7 = .string (ofL r) ∧ v8 = .string (ofL sg) ∧ wx = W1)
  case first =>
    cases neg with
    | true =>
      have hmr : mi.length ≤ s.length := by
        obtain ⟨u, hu⟩ := begB_iff.1 (HBB.out rfl)
        rw [hu, List.length_append]
        omega
      have cu : ∀ wx, (Instr.slice 9 (.string (ofL s)) (some (.int .i64 (mi.length : Int))) none none).run Tryd.prog wx = .ok (.string (ofL (s.drop mi.length))) wx := cutY_from s hmr rfl
      rw [show s.drop mi.length = r by rw [← HRR.out]; rfl] at cu
      have HS0 : Hid (([45] : Str) = sg) := Lib.hid (by rw [← HSG.out]; rfl)
      have hsz : (ofL mi).size = mi.length := ofL_size mi
      clear hmr
      go_wp2_with fail
      go_meet
      exact ⟨rfl, by rw [← HS0.out]; rfl, rfl⟩
    | false =>
      have HR0 : Hid (s = r) := Lib.hid (by rw [← HRR.out]; rfl)
      have HS0 : Hid (([] : Str) = sg) := Lib.hid (by rw [← HSG.out]; rfl)
      go_wp2_with fail
      go_meet
      exact ⟨by rw [HR0.out], by rw [← HS0.out]; rfl, rfl⟩
  case rest =>
  obtain ⟨rfl, rfl, hwc⟩ := hcut
  obtain rfl := hwc.symm
  clear hwc
  clear HBB HRR HSG c2 HW1
  have hsr : (ofL r).size = r.length := ofL_size r
  go_wp2
  go_loopw [9] (fun v9 wr => ∃ k : Nat, k ≤ r.length ∧ v9 = .int .i64 k ∧ plaR de r = k + plaR de (r.drop k) ∧ Below W1.heap.size W1 wr) (fun v9 _ => r.length - (intOf v9).toNat)
  case atStart => exact ⟨0, Nat.zero_le _, rfl, by rw [List.drop_zero, Nat.zero_add], Below.refl _ _⟩
  case round =>
    obtain ⟨k, hk, rfl, hkp, hbw⟩ := hrel
    have HKP := Lib.hid hkp
    have HX := Lib.hid hbw
    clear hkp hbw
    have c0 : wr.cell? ⟨w.heap.size + 1, 0, none⟩ = some (.string (ofL de)) := (K1.out.below HX.out).cell 0
    have HC0 : Hid (∀ wx, Below wr.heap.size wr wx → wx.cell? ⟨w.heap.size + 1, 0, none⟩ = some (.string (ofL de))) := Lib.hid (fun wx hb => ((K1.out.below HX.out).below hb).cell 0)
    by_cases hlt : k < r.length
    · have k8 : decide ((k : Int) < (r.length : Int)) = true := decide_eq_true (by omega)
      have k8' : decide (k < r.length) = true := decide_eq_true hlt
      have cu : ∀ wx, (Instr.slice 9 (.string (ofL r)) (some (.int .i64 (k : Int))) none none).run Tryd.prog wx = .ok (.string (ofL (r.drop k))) wx := cutY_from r (by omega) rfl
      have HBE := Lib.hid (fun wx => begins_any (r.drop k) de (by rw [List.length_drop]; omega) (by omega) wx)
      obtain ⟨bb, hbb⟩ : ∃ bb, begB (r.drop k) de = bb := ⟨_, rfl⟩
      rw [hbb] at HBE
      have HBT := Lib.hid hbb
      have HMI := Lib.hid (fun h => pla_miss (t := de) (s := r) (k := k) hlt h)
      have HHI := Lib.hid (fun h => pla_hit (t := de) (s := r) (k := k) hlt h)
      obtain ⟨D, hD⟩ : ∃ D, r.drop k = D := ⟨_, rfl⟩
      rw [hD] at HBE cu HBT HMI HHI HKP
      have HDD := Lib.hid hD
      clear hbb hD
      cases bb with
      | false =>
        have HN : Hid (plaR de r = (k + 1) + plaR de (r.drop (k + 1))) := Lib.hid (by rw [HKP.out, HMI.out HBT.out]; omega)
        have HLT := Lib.hid hlt
        clear hlt
        go_wp2_with fail
        go_quiet ((go_at_call 16; exact Calls.quiet_of_same (HBE.out _)))
        go_wp2
        go_roundw
        case rel => exact ⟨k + 1, HLT.out, by go_num, HN.out, by first | exact HX.out.drew | exact below_drewN HX.out _⟩
        case measure => simp [intOf]; have := HLT.out; omega
      | true =>
        have HK : Hid (k = plaR de r) := Lib.hid (by rw [HKP.out, HHI.out HBT.out]; rfl)
        rw [← HDD.out] at HBT
        go_wp2_with fail
        go_quiet ((go_at_call 16; exact Calls.quiet_of_same (HBE.out _)))
        go_wp2_with fail
        have HQ := Lib.hid (below_drewN (Below.refl wr.heap.size wr) nq)
        obtain ⟨wq, hwq⟩ : ∃ wq, wr.drewN nq = wq := ⟨_, rfl⟩
        rw [hwq] at HQ ⊢
        have HX := Lib.hid (stt HX.out HQ.out HX.out.size)
        clear hwq HQ
        obtain ⟨P, hP⟩ : ∃ P, r.take k = P := ⟨_, rfl⟩
        have hPl : P.length ≤ 100000 := by rw [← hP, List.length_take]; omega
        have ct : ∀ wx, (Instr.slice 9 (.string (ofL r)) none (some (.int .i64 (k : Int))) none).run Tryd.prog wx = .ok (.string (ofL P)) wx := by rw [← hP]; exact cutY_to r hk rfl
        have HWO := Lib.hid (fun wx => without_any P gr hPl (by omega) wx)
        have hYl := wit_le gr P.length P
        obtain ⟨Y, hY⟩ : ∃ Y, witR gr P.length P = Y := ⟨_, rfl⟩
        rw [hY] at HWO hYl
        obtain ⟨Z, hZ⟩ : ∃ Z, sg ++ Y = Z := ⟨_, rfl⟩
        have hZl : Z.length ≤ 100001 := by rw [← hZ, List.length_append]; omega
        have s1 : ∀ wx, (Op.stringOp .add (ofL sg) (ofL Y)).run Tryd.prog wx = .ok (.string (ofL Z)) wx := fun wx => str_add (by omega) hZ wx
        have HTE : Hid (T = Z ++ (if k < r.length then 46 :: r.drop (k + de.length) else [])) := Lib.hid (by rw [HNT2.out k HK.out, hP, hY, hZ])
        have KX := Lib.hid (K1.out.below HX.out)
        have HCE : Hid (∀ wx, Below wq.heap.size wq wx → wx.cell? ⟨w.heap.size + 1, 1, none⟩ = some (.string (ofL gr))) := Lib.hid (fun wx hb => (KX.out.below hb).cell 1)
        clear hP hY hZ hYl hPl c0 c1
        go_region_held3 (fun wx => wx.cell? ⟨w.heap.size + 1, 1, none⟩ = some (.string (ofL gr))) (first | exact HCE.out _ B5 | exact HCE.out _ (Below.refl _ _).drew) (first | (go_at_call 17; refine (HWO.out _).mono ?_; rintro e w5 ⟨rfl, b5⟩; have B5 : Below wq.heap.size wq w5 := (Below.refl _ wq).drew.trans b5))
        all_goals
          have BX := Lib.hid (stt HX.out B5 HX.out.size)
          have KW := Lib.hid (KX.out.below B5)
          have c0 : w5.cell? ⟨w.heap.size + 1, 0, none⟩ = some (.string (ofL de)) := KW.out.cell 0
          have hkd : k + de.length ≤ r.length := by
            obtain ⟨u, hu⟩ := begB_iff.1 HBT.out
            have := congrArg List.length hu
            rw [List.length_drop, List.length_append] at this
            omega
          obtain ⟨F, hF⟩ : ∃ F, r.drop (k + de.length) = F := ⟨_, rfl⟩
          have hFl : F.length ≤ 100000 := by rw [← hF, List.length_drop]; omega
          have cf : ∀ wx, (Instr.slice 9 (.string (ofL r)) (some (.int .i64 ((k : Int) + (de.length : Int)))) none none).run Tryd.prog wx = .ok (.string (ofL F)) wx := by rw [← hF]; exact cutY_from r hkd (by omega)
          rw [if_pos hlt, hF] at HTE
          have s2 : ∀ wx, (Op.stringOp .add ⟨#[46]⟩ (ofL F)).run Tryd.prog wx = .ok (.string (ofL (46 :: F))) wx := fun wx => str_add (x := [46]) (y := F) (by simp; omega) rfl wx
          obtain ⟨F2, hF2⟩ : ∃ F2, 46 :: F = F2 := ⟨_, rfl⟩
          rw [hF2] at s2 HTE
          have hF2l : F2.length ≤ 100001 := by rw [← hF2, List.length_cons]; omega
          have s3 : ∀ wx, (Op.stringOp .add (ofL Z) (ofL F2)).run Tryd.prog wx = .ok (.string (ofL T)) wx := fun wx => str_add (by omega) HTE.out.symm wx
          have HTL : Hid (T.length ≤ 300000) := Lib.hid (by rw [HTE.out, List.length_append]; omega)
          have k9 : decide ((k : Int) < (r.length : Int)) = true := decide_eq_true (by omega)
          have k9' : decide (k < r.length) = true := decide_eq_true hlt
          have hsd : (ofL de).size = de.length := ofL_size de
          have hwr : IntKind.i64.wrap ((k : Int) + (de.length : Int)) = (k : Int) + (de.length : Int) := by rw [IntKind.wrap_i64]; omega
          clear hF hF2 hF2l hFl hkd hlt
          have hTn : (ofL T).size ≤ 9223372036854775807 := by rw [ofL_size]; have := HTL.out; omega
          have HVA := Lib.hid (fun wx => refValid_any (ofL T) hTn wx)
          rw [show (ofL T).data.toList = T from rfl] at HVA
          obtain ⟨vb, hvb⟩ : ∃ vb, (spl T).isSome = vb := ⟨_, rfl⟩
          rw [hvb] at HVA
          have HVB := Lib.hid hvb
          clear hvb hTn
          go_wp2_with fail
          refine (HVA.out _).mono ?_
          rintro e w6 ⟨rfl, b6⟩
          have B6 := Lib.hid (stt BX.out b6 BX.out.size)
          have K6 := Lib.hid (KW.out.below b6)
          clear b6
          cases vb with
          | false =>
            have HRE : Hid (R = ([], 3)) := Lib.hid (HP1.out HDE.out HVB.out)
            go_wp2
            go_ret2
            exact ⟨by rw [HRE.out]; rfl, stt B1.out B6.out B1.out.size⟩
          | true =>
            obtain ⟨n, hn⟩ := Option.isSome_iff_exists.1 HVB.out
            obtain ⟨gn, hsn⟩ := spl_some hn
            have HT1 : Hid (∀ w, Calls Tryd.prog 18 #[.agg #[.string (ofL de), .string (ofL gr), .string (ofL mi), .string (ofL pe), .int .i64 p, .int .i64 q], .string (ofL T)] w fun e w' => e = .returned (.string (ofL (texR x n))) ∧ Below w.heap.size w w') := Lib.hid (by rw [← hsn]; exact HTX.out n gn)
            have HRE := Lib.hid (HP2.out HDE.out n hn)
            have g6 : ((ofL (texR x n)).toList != (ofL s).toList) = !decide (texR x n = s) := by
              rw [bne, beq_of]
            have g5 : ((ofL (texR x n)).toList == (ofL s).toList) = decide (texR x n = s) := beq_of _ _
            obtain ⟨eq, heq⟩ : ∃ b, decide (texR x n = s) = b := ⟨_, rfl⟩
            rw [heq] at g5 g6
            have HEQ := Lib.hid heq
            obtain ⟨X, hX⟩ : ∃ X, texR x n = X := ⟨_, rfl⟩
            rw [hX] at HT1 g5 g6 HRE HEQ
            have d0 : w6.cell? ⟨w.heap.size + 1, 0, none⟩ = some (.string (ofL de)) := K6.out.cell 0
            have d1 : w6.cell? ⟨w.heap.size + 1, 1, none⟩ = some (.string (ofL gr)) := K6.out.cell 1
            have d2 : w6.cell? ⟨w.heap.size + 1, 2, none⟩ = some (.string (ofL mi)) := K6.out.cell 2
            have d3 : w6.cell? ⟨w.heap.size + 1, 3, none⟩ = some (.string (ofL pe)) := K6.out.cell 3
            have d4 : w6.cell? ⟨w.heap.size + 1, 4, none⟩ = some (.int .i64 p) := K6.out.cell 4
            have d5 : w6.cell? ⟨w.heap.size + 1, 5, none⟩ = some (.int .i64 q) := K6.out.cell 5
            clear hn gn hsn heq hX
            go_wp2_with fail
            clear d0 d1 d2 d3 d4 d5
            refine (HT1.out _).mono ?_
            rintro e w7 ⟨rfl, b7⟩
            have B7 := Lib.hid (stt B6.out b7 B6.out.size)
            clear b7
            cases eq with
            | true =>
              simp only [Bool.not_true] at g6
              have HR2 : Hid (R = (T, 0)) := Lib.hid (by rw [HRE.out, if_pos (of_decide_eq_true HEQ.out)])
              go_wp2
              go_ret2
              exact ⟨by rw [HR2.out]; rfl, stt B1.out B7.out B1.out.size⟩
            | false =>
              simp only [Bool.not_false] at g6
              have HR2 : Hid (R = ([], 3)) := Lib.hid (by rw [HRE.out, if_neg (of_decide_eq_false HEQ.out)])
              go_wp2
              go_ret2
              exact ⟨by rw [HR2.out]; rfl, stt B1.out B7.out B1.out.size⟩
    · have k8 : decide ((k : Int) < (r.length : Int)) = false := decide_eq_false (by omega)
      have k8' : decide (k < r.length) = false := decide_eq_false hlt
      have HK : Hid (k = plaR de r) := Lib.hid (by rw [HKP.out, show k = r.length by omega, List.drop_length]; rfl)
      go_wp2_with fail
      go_quiet (fail)
      go_wp2_with fail
      have HQ := Lib.hid (below_drewN (Below.refl wr.heap.size wr) nq)
      obtain ⟨wq, hwq⟩ : ∃ wq, wr.drewN nq = wq := ⟨_, rfl⟩
      rw [hwq] at HQ ⊢
      have HX := Lib.hid (stt HX.out HQ.out HX.out.size)
      clear hwq HQ
      obtain ⟨P, hP⟩ : ∃ P, r.take k = P := ⟨_, rfl⟩
      have hPl : P.length ≤ 100000 := by rw [← hP, List.length_take]; omega
      have ct : ∀ wx, (Instr.slice 9 (.string (ofL r)) none (some (.int .i64 (k : Int))) none).run Tryd.prog wx = .ok (.string (ofL P)) wx := by rw [← hP]; exact cutY_to r hk rfl
      have HWO := Lib.hid (fun wx => without_any P gr hPl (by omega) wx)
      have hYl := wit_le gr P.length P
      obtain ⟨Y, hY⟩ : ∃ Y, witR gr P.length P = Y := ⟨_, rfl⟩
      rw [hY] at HWO hYl
      obtain ⟨Z, hZ⟩ : ∃ Z, sg ++ Y = Z := ⟨_, rfl⟩
      have hZl : Z.length ≤ 100001 := by rw [← hZ, List.length_append]; omega
      have s1 : ∀ wx, (Op.stringOp .add (ofL sg) (ofL Y)).run Tryd.prog wx = .ok (.string (ofL Z)) wx := fun wx => str_add (by omega) hZ wx
      have HTE : Hid (T = Z ++ (if k < r.length then 46 :: r.drop (k + de.length) else [])) := Lib.hid (by rw [HNT2.out k HK.out, hP, hY, hZ])
      have KX := Lib.hid (K1.out.below HX.out)
      have HCE : Hid (∀ wx, Below wq.heap.size wq wx → wx.cell? ⟨w.heap.size + 1, 1, none⟩ = some (.string (ofL gr))) := Lib.hid (fun wx hb => (KX.out.below hb).cell 1)
      clear hP hY hZ hYl hPl c0 c1
      go_region_held3 (fun wx => wx.cell? ⟨w.heap.size + 1, 1, none⟩ = some (.string (ofL gr))) (first | exact HCE.out _ B5 | exact HCE.out _ (Below.refl _ _).drew) (first | (go_at_call 17; refine (HWO.out _).mono ?_; rintro e w5 ⟨rfl, b5⟩; have B5 : Below wq.heap.size wq w5 := (Below.refl _ wq).drew.trans b5))
      all_goals
        have BX := Lib.hid (stt HX.out B5 HX.out.size)
        have KW := Lib.hid (KX.out.below B5)
        have c0 : w5.cell? ⟨w.heap.size + 1, 0, none⟩ = some (.string (ofL de)) := KW.out.cell 0
        rw [if_neg hlt, List.append_nil] at HTE
        obtain rfl : T = Z := HTE.out
        have HTL : Hid (T.length ≤ 300000) := Lib.hid (by omega)
        have k9 : decide ((k : Int) < (r.length : Int)) = false := decide_eq_false (by omega)
        have k9' : decide (k < r.length) = false := decide_eq_false hlt
        clear hlt
        have hTn : (ofL T).size ≤ 9223372036854775807 := by rw [ofL_size]; have := HTL.out; omega
        have HVA := Lib.hid (fun wx => refValid_any (ofL T) hTn wx)
        rw [show (ofL T).data.toList = T from rfl] at HVA
        obtain ⟨vb, hvb⟩ : ∃ vb, (spl T).isSome = vb := ⟨_, rfl⟩
        rw [hvb] at HVA
        have HVB := Lib.hid hvb
        clear hvb hTn
        go_wp2_with fail
        refine (HVA.out _).mono ?_
        rintro e w6 ⟨rfl, b6⟩
        have B6 := Lib.hid (stt BX.out b6 BX.out.size)
        have K6 := Lib.hid (KW.out.below b6)
        clear b6
        cases vb with
        | false =>
          have HRE : Hid (R = ([], 3)) := Lib.hid (HP1.out HDE.out HVB.out)
          go_wp2
          go_ret2
          exact ⟨by rw [HRE.out]; rfl, stt B1.out B6.out B1.out.size⟩
        | true =>
          obtain ⟨n, hn⟩ := Option.isSome_iff_exists.1 HVB.out
          obtain ⟨gn, hsn⟩ := spl_some hn
          have HT1 : Hid (∀ w, Calls Tryd.prog 18 #[.agg #[.string (ofL de), .string (ofL gr), .string (ofL mi), .string (ofL pe), .int .i64 p, .int .i64 q], .string (ofL T)] w fun e w' => e = .returned (.string (ofL (texR x n))) ∧ Below w.heap.size w w') := Lib.hid (by rw [← hsn]; exact HTX.out n gn)
          have HRE := Lib.hid (HP2.out HDE.out n hn)
          have g6 : ((ofL (texR x n)).toList != (ofL s).toList) = !decide (texR x n = s) := by
            rw [bne, beq_of]
          have g5 : ((ofL (texR x n)).toList == (ofL s).toList) = decide (texR x n = s) := beq_of _ _
          obtain ⟨eq, heq⟩ : ∃ b, decide (texR x n = s) = b := ⟨_, rfl⟩
          rw [heq] at g5 g6
          have HEQ := Lib.hid heq
          obtain ⟨X, hX⟩ : ∃ X, texR x n = X := ⟨_, rfl⟩
          rw [hX] at HT1 g5 g6 HRE HEQ
          have d0 : w6.cell? ⟨w.heap.size + 1, 0, none⟩ = some (.string (ofL de)) := K6.out.cell 0
          have d1 : w6.cell? ⟨w.heap.size + 1, 1, none⟩ = some (.string (ofL gr)) := K6.out.cell 1
          have d2 : w6.cell? ⟨w.heap.size + 1, 2, none⟩ = some (.string (ofL mi)) := K6.out.cell 2
          have d3 : w6.cell? ⟨w.heap.size + 1, 3, none⟩ = some (.string (ofL pe)) := K6.out.cell 3
          have d4 : w6.cell? ⟨w.heap.size + 1, 4, none⟩ = some (.int .i64 p) := K6.out.cell 4
          have d5 : w6.cell? ⟨w.heap.size + 1, 5, none⟩ = some (.int .i64 q) := K6.out.cell 5
          clear hn gn hsn heq hX
          go_wp2_with fail
          clear d0 d1 d2 d3 d4 d5
          refine (HT1.out _).mono ?_
          rintro e w7 ⟨rfl, b7⟩
          have B7 := Lib.hid (stt B6.out b7 B6.out.size)
          clear b7
          cases eq with
          | true =>
            simp only [Bool.not_true] at g6
            have HR2 : Hid (R = (T, 0)) := Lib.hid (by rw [HRE.out, if_pos (of_decide_eq_true HEQ.out)])
            go_wp2
            go_ret2
            exact ⟨by rw [HR2.out]; rfl, stt B1.out B7.out B1.out.size⟩
          | false =>
            simp only [Bool.not_false] at g6
            have HR2 : Hid (R = ([], 3)) := Lib.hid (by rw [HRE.out, if_neg (of_decide_eq_false HEQ.out)])
            go_wp2
            go_ret2
            exact ⟨by rw [HR2.out]; rfl, stt B1.out B7.out B1.out.size⟩
end Go.Proofs.YteofkofgdhmpjaaDoor
