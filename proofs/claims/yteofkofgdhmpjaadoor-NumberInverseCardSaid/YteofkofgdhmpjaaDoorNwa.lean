/- Of the program of layer 15: read. -/
import Derived.Test.YteofkofgdhmpjaaDoorNvc
import Derived.Test.YteofkofgdhmpjaaDoorNuh
namespace Go.Proofs.YteofkofgdhmpjaaDoor
open Go.RowKit
set_option linter.unusedVariables false

theorem replG_any (s g : Str) (h0 : g ≠ []) (hs : s.length ≤ 1000000) (w : World) (hm : MaxL w) : Calls Tryd.prog 28 #[.string (ofL s), .string (ofL g), .string ⟨#[]⟩] w fun e w' => e = .returned (.string (ofL (witR g s.length s))) ∧ Below w.heap.size w w' := by
  obtain ⟨⟨m, hm⟩, hp⟩ := hm
  have h3 : (⟨#[]⟩ : ByteArray).size = 0 := rfl
  have hg := List.length_pos_iff.2 h0
  refine (Tryd.strings_ReplaceAll (ofL s) (ofL g) ⟨#[]⟩ m w (by rw [ofL_size]; omega) hm (by rw [ofL_size]; omega) (by rw [h3, Nat.mul_zero, ofL_size]; omega)).mono ?_
  rintro e w' ⟨rfl, hw⟩
  refine ⟨?_, hw⟩
  have e1 : Lib.replaceAll (ofL s).data.toList (ofL g).data.toList (⟨#[]⟩ : ByteArray).data.toList = witR g s.length s := replAll_wit h0 s
  rw [e1]
  rfl
theorem numT_len (x : SyN) (s : Str) : (numT x s).length ≤ s.length + 2 := by
  have e := numT_eq x s _ rfl _ rfl _ rfl
  obtain ⟨r, hr⟩ : ∃ r, (if (decide (x.mi ≠ []) && begB s x.mi) = true then s.drop x.mi.length else s) = r := ⟨_, rfl⟩
  have hrl : r.length ≤ s.length := by
    rw [← hr]
    split
    · rw [List.length_drop]; omega
    · exact Nat.le_refl _
  rw [hr] at e
  rw [e]
  have h1 := wit_le x.gr (r.take (plaR x.de r)).length (r.take (plaR x.de r))
  have h2 := pla_le x.de r
  rw [List.length_take] at h1
  simp only [List.length_append]
  split <;> split <;> simp <;> omega
theorem ne_str {t : Str} {b : Bool} (h : decide (t = []) = b) : ((ofL t).toList != ([] : List UInt8)) = !b ∧ (ofL t).toList.isEmpty = b := by
  rw [ByteArray.toList_eq, ← h]
  by_cases k : t = []
  · rw [k]; exact ⟨rfl, rfl⟩
  · rw [decide_eq_false k]; exact ⟨bne_iff_ne.2 k, by rw [List.isEmpty_eq_false_iff]; exact k⟩
set_option maxRecDepth 1000000 in
set_option maxHeartbeats 8000000 in
theorem read_any (x : SyN) (hx : SmY x) (hd : x.de ≠ []) (s : Str) (hs : s.length ≤ 100000) (w : World) (hm : MaxL w) : Calls Tryd.prog 13 #[.agg #[.string (ofL x.de), .string (ofL x.gr), .string (ofL x.mi), .string (ofL x.pe), .int .i64 x.pr, .int .i64 x.se], .string (ofL s)] w fun e w' => e = .returned (.string (ofL (numT x s))) ∧ Below w.heap.size w w' := by
  have HNT := Lib.hid (numT_eq x s)
  obtain ⟨T, hT⟩ : ∃ T, numT x s = T := ⟨_, rfl⟩
  rw [hT] at HNT ⊢
  clear hT
  obtain ⟨de, e1⟩ : ∃ de, x.de = de := ⟨_, rfl⟩
  obtain ⟨gr, e2⟩ : ∃ gr, x.gr = gr := ⟨_, rfl⟩
  obtain ⟨mi, e3⟩ : ∃ mi, x.mi = mi := ⟨_, rfl⟩
  obtain ⟨pe, e4⟩ : ∃ pe, x.pe = pe := ⟨_, rfl⟩
  obtain ⟨p, e5⟩ : ∃ p, x.pr = p := ⟨_, rfl⟩
  obtain ⟨q, e6⟩ : ∃ q, x.se = q := ⟨_, rfl⟩
  rw [e1, e2, e3] at HNT
  rw [e1] at hd
  rw [e1, e2, e3, e4, e5, e6]
  clear hx e1 e2 e3 e4 e5 e6
  obtain ⟨bm, hbm⟩ : ∃ b, decide (mi = []) = b := ⟨_, rfl⟩
  obtain ⟨k7, k8⟩ := ne_str hbm
  obtain ⟨bg, hbg⟩ : ∃ b, decide (gr = []) = b := ⟨_, rfl⟩
  obtain ⟨g7, g8⟩ := ne_str hbg
  have HGB := Lib.hid hbg
  obtain ⟨bb, hbb⟩ : ∃ b, begB s mi = b := ⟨_, rfl⟩
  obtain ⟨neg, hneg⟩ : ∃ b, (decide (mi ≠ []) && begB s mi) = b := ⟨_, rfl⟩
  have HNG : Hid (neg = (!bm && bb)) := Lib.hid (by rw [← hneg, ← hbm, ← hbb]; by_cases h : mi = [] <;> simp [h])
  obtain ⟨r, hr⟩ : ∃ r, (if neg = true then s.drop mi.length else s) = r := ⟨_, rfl⟩
  have hrl : r.length ≤ 100000 := by
    rw [← hr]
    split
    · rw [List.length_drop]; omega
    · exact hs
  obtain ⟨sg, hsg⟩ : ∃ sg, (if neg = true then ([45] : Str) else []) = sg := ⟨_, rfl⟩
  have hsgl : sg.length ≤ 1 := by rw [← hsg]; split <;> simp
  have HNT2 : Hid (T = (sg ++ witR gr (r.take (plaR de r)).length (r.take (plaR de r))) ++ (if plaR de r < r.length then 46 :: r.drop (plaR de r + de.length) else [])) := Lib.hid (by rw [← hsg]; exact HNT.out neg hneg.symm r hr.symm _ rfl)
  have HCP := Lib.hid (fun w => cutP_any s mi w)
  rw [hbb] at HCP
  obtain ⟨U, hU⟩ : ∃ U, (if bb = true then s.drop mi.length else s) = U := ⟨_, rfl⟩
  rw [hU] at HCP
  have HU := Lib.hid hU
  clear hU
  have HCS := Lib.hid (fun w hm => cutS_any r de hd (by omega) w hm)
  obtain ⟨cb, hcb⟩ : ∃ b, decide (plaR de r < r.length) = b := ⟨_, rfl⟩
  obtain ⟨A, hA⟩ : ∃ A, r.take (plaR de r) = A := ⟨_, rfl⟩
  have hAl : A.length ≤ 100000 := by rw [← hA, List.length_take]; omega
  obtain ⟨B, hB⟩ : ∃ B, (cutR r de).2.1 = B := ⟨_, rfl⟩
  have HB : Hid (cb = true → r.drop (plaR de r + de.length) = B) := Lib.hid (fun h => by rw [← hB]; unfold cutR; rw [if_pos (by rw [h] at hcb; exact of_decide_eq_true hcb)])
  have hBl : B.length ≤ 100000 := by
    rw [← hB]; unfold cutR
    split
    · simp only [List.length_drop]; omega
    · simp
  have hCA : (cutR r de).1 = A := by
    rw [← hA]; unfold cutR
    split
    · rfl
    · have := pla_le de r
      rw [List.take_of_length_le (by omega)]
  have hCC : (cutR r de).2.2 = cb := by
    rw [← hcb]; unfold cutR
    split
    · rw [decide_eq_true (by assumption)]
    · rw [decide_eq_false (by assumption)]
  rw [hCA, hB, hCC] at HCS
  have HCB := Lib.hid hcb
  obtain ⟨Y, hY⟩ : ∃ Y, witR gr A.length A = Y := ⟨_, rfl⟩
  have hYl : Y.length ≤ 100000 := by rw [← hY]; have := wit_le gr A.length A; omega
  obtain ⟨Z, hZ⟩ : ∃ Z, sg ++ Y = Z := ⟨_, rfl⟩
  have hZl : Z.length ≤ 100001 := by rw [← hZ, List.length_append]; omega
  have HTE : Hid (T = Z ++ (if cb = true then 46 :: B else [])) := Lib.hid (by
    rw [HNT2.out, hA, hY, hZ, ← hcb]
    by_cases h : plaR de r < r.length
    · rw [if_pos h, if_pos (decide_eq_true h), HB.out (by rw [← hcb]; exact decide_eq_true h)]
    · rw [if_neg h, if_neg (by rw [decide_eq_false h]; decide)])
  have HRR := Lib.hid hr
  have HSG := Lib.hid hsg
  have HYY := Lib.hid hY
  have s1 : ∀ wx, (Op.stringOp .add (ofL sg) (ofL Y)).run Tryd.prog wx = .ok (.string (ofL Z)) wx := fun wx => str_add (by omega) hZ wx
  have HRG := Lib.hid (fun (h : gr ≠ []) w hm => replG_any A gr h (by omega) w hm)
  rw [hY] at HRG
  have HM := Lib.hid hm
  clear hm hneg hr hsg HNT hbm hbg hbb HNT2 hcb hA hB HB hCA hCC hY hZ hd hAl hsgl hrl
  have B0 := Lib.hid ((Below.refl w.heap.size w).alloc (Nat.le_refl _) (.cells #[.string (ofL de), .string (ofL gr), .string (ofL mi), .string (ofL pe), .int .i64 p, .int .i64 q] 23))
  have K0 := Lib.hid (Blk.new w 23 #[.string (ofL de), .string (ofL gr), .string (ofL mi), .string (ofL pe), .int .i64 p, .int .i64 q])
  obtain ⟨W1, hW1⟩ : ∃ W1, w.alloc (.cells #[.string (ofL de), .string (ofL gr), .string (ofL mi), .string (ofL pe), .int .i64 p, .int .i64 q] 23) = W1 := ⟨_, rfl⟩
  rw [hW1] at B0 K0
  have HW1 := Lib.hid hW1
  clear hW1
  have c1 : W1.cell? ⟨w.heap.size, 1, none⟩ = some (.string (ofL gr)) := K0.out.cell 1
  have c2 : W1.cell? ⟨w.heap.size, 2, none⟩ = some (.string (ofL mi)) := K0.out.cell 2
  have c0 : W1.cell? ⟨w.heap.size, 0, none⟩ = some (.string (ofL de)) := K0.out.cell 0
  go_enter Tryd.func13, Tryd.ntmps13
  go_upto_region 2 with fail
  rw [HW1.out]
  go_wp2_with fail
  refine (HCP.out _).mono ?_
  rintro e w2 ⟨rfl, hw2⟩
  obtain rfl := hw2.symm
  clear hw2
  go_upto_region 3 with fail
  go_cut [23] from 18 to 23 (fun v23 wx => v23 = .bool neg ∧ wx = W1)
  case first =>
    cases bm with
    | true =>
      simp only [Bool.not_true] at k7
      have HN0 : Hid (neg = false) := Lib.hid (by rw [HNG.out]; rfl)
      cases bb with
      | true =>
        go_wp2_with fail
        go_meet
        exact ⟨by rw [HN0.out], rfl⟩
      | false =>
        go_wp2_with fail
        go_meet
        exact ⟨by rw [HN0.out], rfl⟩
    | false =>
      simp only [Bool.not_false] at k7
      cases bb with
      | true =>
        have HN0 : Hid (neg = true) := Lib.hid (by rw [HNG.out]; rfl)
        go_wp2_with fail
        go_meet
        exact ⟨by rw [HN0.out], rfl⟩
      | false =>
        have HN0 : Hid (neg = false) := Lib.hid (by rw [HNG.out]; rfl)
        go_wp2_with fail
        go_meet
        exact ⟨by rw [HN0.out], rfl⟩
  case rest =>
  obtain ⟨rfl, hwc⟩ := hcut
  obtain rfl := hwc.symm
  clear hwc k7 k8
  go_upto_if 23 with fail
  go_cut [1, 5] from 24 to 24 (fun v1 v5 wx => v1 = .string (ofL r) ∧ v5 = .string (ofL sg) ∧ wx = W1)
  case first =>
    cases neg with
    | true =>
      have HBB : Hid (bb = true) := Lib.hid (by
        have h := HNG.out
        cases bb with
        | true => rfl
        | false => rw [Bool.and_false] at h; cases h)
      have HR0 : Hid (U = r) := Lib.hid (by rw [← HU.out, ← HRR.out, HBB.out])
      have HS0 : Hid (([45] : Str) = sg) := Lib.hid (by rw [← HSG.out]; rfl)
      go_wp2_with fail
      go_meet
      exact ⟨by rw [HR0.out], by rw [← HS0.out]; rfl, rfl⟩
    | false =>
      have HR0 : Hid (s = r) := Lib.hid (by rw [← HRR.out]; rfl)
      have HS0 : Hid (([] : Str) = sg) := Lib.hid (by rw [← HSG.out]; rfl)
      go_wp2_with fail
      go_meet
      exact ⟨by rw [HR0.out], by rw [← HS0.out]; rfl, rfl⟩
  case rest =>
  obtain ⟨rfl, rfl, hwc⟩ := hcut
  obtain rfl := hwc.symm
  clear hwc
  clear HRR HSG c2 HW1 HCP
  have HM1 : Hid (MaxL W1) := Lib.hid (HM.out.below B0.out)
  go_wp2_with fail
  refine (HCS.out _ HM1.out).mono ?_
  rintro e w3 ⟨rfl, b3⟩
  have B3 := Lib.hid (stt B0.out b3 B0.out.size)
  have K3 := Lib.hid (K0.out.below b3)
  have HM3 : Hid (MaxL w3) := Lib.hid (HM1.out.below b3)
  clear b3 c0 c1
  have c1 : w3.cell? ⟨w.heap.size, 1, none⟩ = some (.string (ofL gr)) := K3.out.cell 1
  cases bg with
  | true =>
    simp only [Bool.not_true] at g7
    have HAY : Hid (A = Y) := Lib.hid (by rw [← HYY.out, of_decide_eq_true HGB.out]; exact (wit_nil _ _ (Nat.le_refl _)).symm)
    rw [HAY.out]
    cases cb with
    | true =>
      have HTT : Hid (T = Z ++ 46 :: B) := Lib.hid (by rw [HTE.out, if_pos rfl])
      obtain ⟨Z1, hZ1⟩ : ∃ Z1, Z ++ [46] = Z1 := ⟨_, rfl⟩
      have s2 : ∀ wx, (Op.stringOp .add (ofL Z) ⟨#[46]⟩).run Tryd.prog wx = .ok (.string (ofL Z1)) wx := fun wx => str_add (x := Z) (y := [46]) (by simp; omega) hZ1 wx
      have hZ1l : Z1.length ≤ 100002 := by rw [← hZ1, List.length_append]; simp; omega
      have s3 : ∀ wx, (Op.stringOp .add (ofL Z1) (ofL B)).run Tryd.prog wx = .ok (.string (ofL T)) wx := fun wx => str_add (by omega) (by rw [HTT.out, ← hZ1]; simp) wx
      clear hZ1 hZ1l
      go_wp2
      go_ret
      exact ⟨rfl, B3.out⟩
    | false =>
      have HTT : Hid (T = Z) := Lib.hid (by rw [HTE.out, if_neg (by decide), List.append_nil])
      go_wp2
      go_ret
      exact ⟨by rw [HTT.out]; rfl, B3.out⟩
  | false =>
    simp only [Bool.not_false] at g7
    have HGN : Hid (gr ≠ []) := Lib.hid (of_decide_eq_false HGB.out)
    go_wp2_with fail
    refine (HRG.out HGN.out _ HM3.out).mono ?_
    rintro e w4 ⟨rfl, b4⟩
    have B4 := Lib.hid (stt B3.out b4 B3.out.size)
    clear b4
    cases cb with
    | true =>
      have HTT : Hid (T = Z ++ 46 :: B) := Lib.hid (by rw [HTE.out, if_pos rfl])
      obtain ⟨Z1, hZ1⟩ : ∃ Z1, Z ++ [46] = Z1 := ⟨_, rfl⟩
      have s2 : ∀ wx, (Op.stringOp .add (ofL Z) ⟨#[46]⟩).run Tryd.prog wx = .ok (.string (ofL Z1)) wx := fun wx => str_add (x := Z) (y := [46]) (by simp; omega) hZ1 wx
      have hZ1l : Z1.length ≤ 100002 := by rw [← hZ1, List.length_append]; simp; omega
      have s3 : ∀ wx, (Op.stringOp .add (ofL Z1) (ofL B)).run Tryd.prog wx = .ok (.string (ofL T)) wx := fun wx => str_add (by omega) (by rw [HTT.out, ← hZ1]; simp) wx
      clear hZ1 hZ1l
      go_wp2
      go_ret
      exact ⟨rfl, B4.out⟩
    | false =>
      have HTT : Hid (T = Z) := Lib.hid (by rw [HTE.out, if_neg (by decide), List.append_nil])
      go_wp2
      go_ret
      exact ⟨by rw [HTT.out]; rfl, B4.out⟩
end Go.Proofs.YteofkofgdhmpjaaDoor
