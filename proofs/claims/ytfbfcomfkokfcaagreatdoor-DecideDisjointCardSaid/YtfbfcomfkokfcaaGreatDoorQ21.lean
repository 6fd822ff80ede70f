/- What the row stands on, part 21. -/
import Derived.Test.YtfbfcomfkokfcaaGreatDoorQ20

/- Of the reference of layer 10: first. -/
namespace Go.Proofs.YtfbfcomfkokfcaaGreatDoor
open Go.RowKit
set_option linter.unusedVariables false

/-! ### The candidates in the reference's order -/
def candP (A F : List Str) (i j : Nat) : List Str := ((A.take i).flatMap fun a => F.map (tx0 a)) ++ (F.take j).map (tx0 (A.getD i []))
theorem candP_zero (A F : List Str) : candP A F 0 0 = [] := by unfold candP; simp
theorem candP_start (A F : List Str) (i : Nat) : candP A F i 0 = (A.take i).flatMap fun a => F.map (tx0 a) := by unfold candP; simp
theorem candP_end {A F : List Str} {i : Nat} (h : i < A.length) : candP A F i F.length = candP A F (i + 1) 0 := by
  rw [candP_start]
  unfold candP
  rw [List.take_length, List.take_succ_eq_append_getElem h, List.flatMap_append, List.flatMap_cons, List.flatMap_nil, List.append_nil]
  congr 2
  rw [List.getD_eq_getElem?_getD, List.getElem?_eq_getElem h]
  rfl
theorem candP_succ {A F : List Str} {i j : Nat} (hi : i < A.length) (h : j < F.length) : candP A F i (j + 1) = candP A F i j ++ [tx0 A[i] F[j]] := by
  unfold candP
  rw [List.take_succ_eq_append_getElem h, List.map_append, ← List.append_assoc]
  congr 2
  rw [List.getD_eq_getElem?_getD, List.getElem?_eq_getElem hi]
  rfl
theorem candP_last {A F : List Str} : candP A F A.length 0 = A.flatMap fun a => F.map (tx0 a) := by rw [candP_start, List.take_length]
theorem cands_out (l : List Rel) : cands l = (outW l 401).flatMap fun a => (frs l 7).map (tx0 a) := by
  unfold cands outW
  rw [List.flatMap_map]
theorem bestOf_snoc (p : Str → Bool) (L : List Str) (s : Str) : bestOf p (L ++ [s]) = stepB p (bestOf p L) s := by
  unfold bestOf
  rw [List.foldl_append]
  rfl
theorem bestOf_mem (p : Str → Bool) : ∀ (L : List Str) (o : Option Str) (b : Str), L.foldl (stepB p) o = some b → b ∈ L ∨ o = some b
  | [], o, b, h => .inr h
  | s :: L, o, b, h => by
    rcases bestOf_mem p L _ b h with k | k
    · exact .inl (by simp [k])
    · unfold stepB at k
      split at k
      · injection k with k; subst k; exact .inl (by simp)
      · exact .inr k
def bbS (ps : Bool) (o : Option Str) (s : Str) : Bool := ps && (match o with | none => true | some b => befB s b)
theorem stepB_bb (p : Str → Bool) (o : Option Str) (s : Str) : stepB p o s = if bbS (p s) o s = true then some s else o := by
  unfold stepB bbS
  cases hp : p s with
  | false => simp
  | true =>
    cases o with
    | none => simp
    | some b => simp

/-! ### first -/
def BestV (o : Option Str) (v10 v11 : Value) : Prop := v10 = .string (ofL (o.getD [])) ∧ v11 = .bool o.isSome
def RelsI (w0 : World) (B : Nat) (l : List Cnd) (k : Nat) (v6 : Value) (wr : World) : Prop := ∃ raws : List RawR, Own1 4 encR wr B 72 v6 raws ∧ raws.length = (relsC (l.take k)).length ∧ (∀ (i : Nat) (a : i < raws.length) (b : i < (relsC (l.take k)).length), RdRel w0 raws[i] (relsC (l.take k))[i]) ∧ Below B w0 wr
theorem relsC_len {l : List Cnd} (h : ∀ c ∈ l, okC c = true) : (relsC l).length ≤ l.length * 6 := by
  rw [rels_cnt]
  induction l with
  | nil => exact Nat.zero_le _
  | cons c l ih =>
    have h1 := (okC_iff.1 (h c (by simp))).2.2
    have h2 := ih (fun d hd => h d (by simp [hd]))
    show cnt c + cntA_ l ≤ _
    rw [List.length_cons]
    omega
set_option maxRecDepth 1000000 in
set_option maxHeartbeats 16000000 in
theorem first_any (l : List Cnd) (v : Value) (h10 : l.length ≤ 10) (hok : ∀ c ∈ l, okC c = true) (p : Nat) (hp : p ≤ 3) (w : World) (hv : RdCs w v l) :
    Calls Tryz.prog 68 #[v, .int .i64 (p : Int)] w fun e w' => e = .returned (.tuple #[.string (ofL ((firstR l p).getD [])), .bool (firstR l p).isSome]) ∧ Below w.heap.size w w' := by
  obtain ⟨iR, hiR, hzR, hkR, hbR⟩ := info_parts Tryz.infoR
  obtain ⟨a, cp, rfl, hc1, hc2⟩ := hv.slice
  have HU := Lib.hid hv
  have HOK := Lib.hid hok
  have HFR : Hid (firstR l p = bestOf (pS l p) (cands (relsC l))) := Lib.hid rfl
  have HCG := Lib.hid (fun s => @cands_good (relsC l) s)
  have HRL : Hid ((relsC l).length ≤ 60) := Lib.hid (by have := relsC_len hok; omega)
  have HRO := Lib.hid (relsC_ok hok)
  obtain ⟨FR, hFR⟩ : ∃ o, firstR l p = o := ⟨_, rfl⟩
  rw [hFR] at HFR ⊢
  clear hv hok hFR
  go_enter Tryz.func68, Tryz.ntmps68
  go_wp2_with fail
  go_loopw [6, 7] (fun v6 v7 wr => ∃ k : Nat, k ≤ l.length ∧ v7 = .int .i64 k ∧ RelsI w w.heap.size l k v6 wr) (fun _ v7 _ => l.length - (intOf v7).toNat)
  case atStart => exact ⟨0, Nat.zero_le _, rfl, [], own1_nil _ _ _, rfl, fun i a b => by simp at a, Below.refl _ _⟩
  case round =>
    rename World => wj
    obtain ⟨k, hk, rfl, raws, ho, hl, hr, hb⟩ := hrel
    have HO2 := Lib.hid ho
    have HL := Lib.hid hl
    have HR := Lib.hid hr
    have HB2 := Lib.hid hb
    clear ho hl hr hb
    by_cases hlt : k < l.length
    · obtain ⟨bk, off, x1, x2, rfl, c0, hcd⟩ := HU.out.at_ k hlt
      have c0 := (HB2.out.cell (p := ⟨bk, off + k, none⟩) (World.block_lt_of_cell? _ _ c0)).trans c0
      have h9 : (k : Int) < (l.length : Int) := by omega
      have HT := Lib.hid (relsC_take hlt)
      have HAL := Lib.hid (all_any l[k] (HOK.out _ (List.getElem_mem hlt)) _ w wj HB2.out hcd)
      have HL6 : Hid ((l[k].flatMap id).length ≤ 6) := Lib.hid (by rw [flat_cnt]; exact (okC_iff.1 (HOK.out _ (List.getElem_mem hlt))).2.2)
      have HL60 : Hid ((relsC (l.take k)).length ≤ 60) := Lib.hid (by
        have := relsC_len (l := l.take k) (fun c hc => HOK.out c (List.mem_of_mem_take hc))
        have := List.length_take_le k l
        omega)
      obtain ⟨m, hm⟩ : ∃ m, l[k] = m := ⟨_, rfl⟩
      rw [hm] at c0 HT HAL HL6
      clear hm hcd
      go_wp2_with fail
      refine HAL.out.mono ?_
      rintro e w2 ⟨⟨v2, rw1, rfl, hr1, hl1, hr2⟩, b2⟩
      have HO3 := Lib.hid (HO2.out.below b2)
      have HR1 := Lib.hid hr1
      have HAP := Lib.hid (rel_app HL.out HR.out hr2)
      have HLN : Hid ((raws ++ rw1).length = (relsC (l.take (k + 1))).length) := Lib.hid (by rw [HT.out, List.length_append, List.length_append, HL.out, hl1])
      have HSM : Hid (raws.length + rw1.length ≤ 66) := Lib.hid (by have e1 := HL.out; have e2 := HL6.out; have e3 := HL60.out; omega)
      have HB3 := Lib.hid (st HB2.out b2 HB2.out.size)
      have HZW : Hid (w.heap.size ≤ w2.heap.size) := Lib.hid HB3.out.size
      clear hr1 hl1 hr2 b2 HO2 HAL
      go_wp2_with (first | (at_builtin; refine wpList_append_rd (w := w2) rfl _ _ 68 rfl w.heap.size iR _ 48 Tryz.underlying68 hiR hzR hkR hbR (by omega) rfl (by omega) encR_len encR_one _ raws rw1 _ rfl HO3.out rfl HR1.out (by have := HSM.out; omega) HZW.out ?_; intro v9 w9 y9 b9; have Y9 := Lib.hid y9; have B9 := Lib.hid b9; clear y9 b9) | fail)
      go_wp2
      go_roundw
      case measure => simp [intOf]; omega
      case rel => exact ⟨k + 1, by omega, by go_num, raws ++ rw1, Y9.out, HLN.out, by rw [HT.out]; exact HAP.out, HB3.out.trans B9.out⟩
    · obtain rfl : k = l.length := by omega
      have h3 : ¬ (l.length : Int) < (l.length : Int) := by omega
      have HL2 := HL.out
      have HR2 := HR.out
      rw [List.take_length] at HL2 HR2
      obtain ⟨rs, hrs⟩ : ∃ rs, relsC l = rs := ⟨_, rfl⟩
      rw [hrs] at HL2 HR2 HFR HCG HRL HRO
      have HRE : Hid (RdRels wj _ rs) := Lib.hid ⟨raws, HO2.out.rd encR_len, HL2, fun i a b => (HR2 i a b).below HB2.out⟩
      obtain ⟨p6, q6, h6⟩ := HO2.out.slice
      subst h6
      rw [HL2] at HRE
      try rw [HL2]
      clear HL2 HR2 hrs HO2 HL HR
      obtain ⟨N1, hN1⟩ : ∃ N, N = 401 := ⟨_, rfl⟩
      obtain ⟨N2, hN2⟩ : ∃ N, N = 7 := ⟨_, rfl⟩
      have HWH := Lib.hid (wholes_any N1 hN1 _ rs HRO.out (by have := HRL.out; omega) wj HRE.out)
      have HCO : Hid (cands rs = (outW rs N1).flatMap fun a => (frs rs N2).map (tx0 a)) := Lib.hid (by rw [hN1, hN2]; exact cands_out rs)
      have HAN : Hid ((outW rs N1).length ≤ 401) := Lib.hid (by rw [hN1]; exact outW_len rs 401)
      have HFN : Hid ((frs rs N2).length ≤ 21000) := Lib.hid (by rw [hN2]; exact frs_len rs 7 (by omega))
      have HN2 := Lib.hid hN2
      obtain ⟨A, hA⟩ : ∃ A, outW rs N1 = A := ⟨_, rfl⟩
      rw [hA] at HWH HCO HAN
      clear hA hN1 hN2
      go_wp2_with fail
      refine HWH.out.mono ?_
      rintro e w4 ⟨⟨v8, rfl, o8⟩, b4⟩
      have HFC := Lib.hid (refFractions_any N2 HN2.out _ rs HRO.out (by have := HRL.out; omega) w4 (HRE.out.below b4))
      have HB4 := Lib.hid (st HB2.out b4 HB2.out.size)
      have HA4 := Lib.hid (o8.rd encT_len)
      obtain ⟨F, hF⟩ : ∃ F, frs rs N2 = F := ⟨_, rfl⟩
      rw [hF] at HFC HCO HFN
      obtain ⟨p8, q8, h8⟩ := o8.slice
      subst h8
      clear o8 b4 hF HWH HRE HB2
      go_wp2_with fail
      refine HFC.out.mono ?_
      rintro e w5 ⟨⟨v9, rfl, o9⟩, b5⟩
      have HB5 := Lib.hid (st HB4.out b5 HB4.out.size)
      have HA5 := Lib.hid (HA4.out.below b5)
      have HF5 := Lib.hid (o9.rd encT_len)
      obtain ⟨p9, q9, h9⟩ := o9.slice
      subst h9
      clear o9 b5 HFC HB4 HA4
      rw [HCO.out] at HFR HCG
      clear HCO
      have HGD : Hid (∀ (i j : Nat) (hi : i < A.length) (hj : j < F.length), isU (tx0 A[i] F[j])) := Lib.hid (fun i j hi hj => HCG.out _ (List.mem_flatMap.2 ⟨_, List.getElem_mem hi, List.mem_map.2 ⟨_, List.getElem_mem hj, rfl⟩⟩))
      obtain ⟨PS, hPS⟩ : ∃ f, pS l p = f := ⟨_, rfl⟩
      rw [hPS] at HFR
      have HPS := Lib.hid hPS
      clear hPS
      have HGB : Hid (∀ (i j : Nat) (b : Str), i < A.length → bestOf PS (candP A F i j) = some b → isU b) := Lib.hid (fun i j b hi hb => HCG.out b (by
        rcases bestOf_mem PS _ none b hb with k | k
        · unfold candP at k
          rcases List.mem_append.1 k with k | k
          · obtain ⟨x, hx, k⟩ := List.mem_flatMap.1 k
            exact List.mem_flatMap.2 ⟨x, List.mem_of_mem_take hx, k⟩
          · obtain ⟨y, hy, k⟩ := List.mem_map.1 k
            rw [List.getD_eq_getElem?_getD, List.getElem?_eq_getElem hi] at k
            exact List.mem_flatMap.2 ⟨_, List.getElem_mem hi, List.mem_map.2 ⟨y, List.mem_of_mem_take hy, k⟩⟩
        · cases k))
      have HLAST : Hid (FR = bestOf PS (candP A F A.length 0)) := Lib.hid (by rw [candP_last]; exact HFR.out)
      have HZ5 : Hid (Below w.heap.size w w5 ∧ w.heap.size ≤ w5.heap.size) := Lib.hid ⟨HB5.out, HB5.out.size⟩
      clear HFR HCG HB5
      go_wp2_with fail
      go_loopw [10, 11, 12] (fun v10 v11 v12 wr => ∃ i : Nat, i ≤ A.length ∧ v12 = .int .i64 i ∧ BestV (bestOf PS (candP A F i 0)) v10 v11 ∧ Below w5.heap.size w5 wr) (fun _ _ v12 _ => A.length - (intOf v12).toNat)
      case atStart => exact ⟨0, Nat.zero_le _, rfl, by rw [candP_zero]; exact ⟨rfl, rfl⟩, Below.refl _ _⟩
      case round =>
        rename World => w6
        obtain ⟨i, hi, rfl, hbv, hb⟩ := hrel
        have HBV := Lib.hid hbv
        have HB6 := Lib.hid hb
        obtain ⟨e10, e11⟩ := hbv
        subst e10 e11
        clear hb
        by_cases hlt : i < A.length
        · have h9 : (i : Int) < (A.length : Int) := by omega
          go_wp2_with fail
          go_loopw [10, 11, 13] (fun v10 v11 v13 wr => ∃ j : Nat, j ≤ F.length ∧ v13 = .int .i64 j ∧ BestV (bestOf PS (candP A F i j)) v10 v11 ∧ Below w5.heap.size w5 wr) (fun _ _ v13 _ => F.length - (intOf v13).toNat)
          case atStart => exact ⟨0, Nat.zero_le _, rfl, HBV.out, HB6.out⟩
          case round =>
            rename World => W0
            obtain ⟨j, hj, rfl, hbv, hb⟩ := hrel
            have HB7 := Lib.hid hb
            clear hb
            by_cases hjt : j < F.length
            · have h9j : (j : Int) < (F.length : Int) := by omega
              have HST := Lib.hid (candP_succ hlt hjt)
              have HGS := Lib.hid (HGD.out i j hlt hjt)
              have HGO := Lib.hid (fun b => HGB.out i j b hlt)
              obtain ⟨bA, oA, rfl, cA⟩ := Rd.str (HA5.out.below HB7.out) i hlt
              obtain ⟨bF, oF, rfl, cF⟩ := Rd.str (HF5.out.below HB7.out) j hjt
              obtain ⟨X, hX⟩ : ∃ X, A[i] = X := ⟨_, rfl⟩
              obtain ⟨Y, hY⟩ : ∃ Y, F[j] = Y := ⟨_, rfl⟩
              rw [hX] at HST HGS cA
              rw [hY] at HST HGS cF
              obtain ⟨S, hS⟩ : ∃ S, tx0 X Y = S := ⟨_, rfl⟩
              rw [hS] at HST HGS
              have HSE := Lib.hid hS
              obtain ⟨o, ho⟩ : ∃ o, bestOf PS (candP A F i j) = o := ⟨_, rfl⟩
              have HOE := Lib.hid ho
              rw [ho] at hbv HGO
              obtain ⟨e10, e11⟩ := hbv
              obtain ⟨bst, hbs⟩ : ∃ b, o.getD [] = b := ⟨_, rfl⟩
              obtain ⟨ok, hok⟩ : ∃ b, o.isSome = b := ⟨_, rfl⟩
              rw [hbs] at e10
              rw [hok] at e11
              subst e10 e11
              have HOS : Hid (ok = true → o = some bst) := Lib.hid (fun e => by
                cases o with
                | none => rw [e] at hok; cases hok
                | some b => rw [← hbs]; rfl)
              have HON : Hid (ok = false → o = none) := Lib.hid (fun e => by
                cases o with
                | none => rfl
                | some b => rw [e] at hok; cases hok)
              have HOB : Hid (o.getD [] = bst ∧ o.isSome = ok) := Lib.hid ⟨hbs, hok⟩
              obtain ⟨yz, hyz⟩ : ∃ b, decide (Y = []) = b := ⟨_, rfl⟩
              have HYZ := Lib.hid hyz
              have z1 : ((ofL Y).toList == ([] : List UInt8)) = yz := by rw [← hyz, ByteArray.toList_eq, ofL_list, Bool.eq_iff_iff, beq_iff_eq, decide_eq_true_eq]
              have z2 : ((ofL Y).toList != ([] : List UInt8)) = !yz := by rw [← z1]; rfl
              have z3 : (ofL Y).toList.isEmpty = yz := by rw [← hyz, ByteArray.toList_eq, ofL_list]; cases Y <;> rfl
              clear hX hY hS ho hbs hok hyz
              go_upto_if 52 with fail
              go_cut [14] from 53 to 59 (fun v14 wx => v14 = .string (ofL S) ∧ wx = W0)
              case first =>
                cases yz
                · have hy : Y ≠ [] := of_decide_eq_false HYZ.out
                  have he : X ++ (46 :: Y) = S := by rw [← HSE.out]; unfold tx0; rw [if_neg hy]
                  have hlen := (isU_len HGS.out).1
                  have hln : X.length + (Y.length + 1) ≤ 22 := by rw [← he, List.length_append, List.length_cons] at hlen; exact hlen
                  obtain ⟨YY, hYY⟩ : ∃ YY, (46 :: Y : Str) = YY := ⟨_, rfl⟩
                  rw [hYY] at he
                  have hyl : YY.length = Y.length + 1 := by rw [← hYY]; rfl
                  have p1 : ∀ wx, (Op.stringOp .add ⟨#[46]⟩ (ofL Y)).run Tryz.prog wx = .ok (.string (ofL YY)) wx := fun wx => str_add (x := [46]) (by simp; omega) hYY wx
                  have p2 : ∀ wx, (Op.stringOp .add (ofL X) (ofL YY)).run Tryz.prog wx = .ok (.string (ofL S)) wx := fun wx => str_add (by omega) he wx
                  clear he hlen hln hYY hyl hy
                  go_wp2_with fail
                  go_meet
                  exact ⟨rfl, rfl⟩
                · have hy : Y = [] := of_decide_eq_true HYZ.out
                  have HE : Hid (X = S) := Lib.hid (by rw [← HSE.out]; unfold tx0; rw [if_pos hy, List.append_nil])
                  clear hy
                  go_wp2_with fail
                  go_meet
                  exact ⟨by rw [HE.out], rfl⟩
              case rest =>
                obtain ⟨rfl, hwc⟩ := hcut
                obtain rfl := hwc.symm
                clear hwc z1 z2 z3 cA cF
                have HSH := Lib.hid (shows_any l _ (by omega) HOK.out S HGS.out p hp W0 (HU.out.below (HZ5.out.1.trans (HB7.out.mono HZ5.out.2))))
                obtain ⟨ps, hps⟩ : ∃ b, PS S = b := ⟨_, rfl⟩
                rw [HPS.out, hps] at HSH
                obtain ⟨bb, hbb⟩ : ∃ b, bbS ps o S = b := ⟨_, rfl⟩
                have HBB := Lib.hid hbb
                have HSN : Hid (bestOf PS (candP A F i (j + 1)) = if bb = true then some S else o) := Lib.hid (by rw [HST.out, bestOf_snoc, HOE.out, stepB_bb, hps, hbb])
                clear hps hbb
                go_upto_region 17 with fail
                go_cut [72] from 60 to 72 (fun v72 wx => v72 = .bool bb ∧ Below W0.heap.size W0 wx)
                case first =>
                  go_wp2_with fail
                  refine HSH.out.mono ?_
                  rintro e w7 ⟨rfl, b7⟩
                  have HB8 := Lib.hid b7
                  clear b7 HSH
                  cases ps
                  · have HE : Hid (bb = false) := Lib.hid (by rw [← HBB.out]; rfl)
                    go_wp2_with fail
                    go_meet
                    exact ⟨by rw [HE.out], HB8.out⟩
                  · cases ok
                    · have HE : Hid (bb = true) := Lib.hid (by rw [← HBB.out, HON.out rfl]; rfl)
                      go_wp2_with fail
                      go_meet
                      exact ⟨by rw [HE.out], HB8.out⟩
                    · have HE : Hid (bb = befB S bst) := Lib.hid (by rw [← HBB.out, HOS.out rfl]; rfl)
                      have hub := HGO.out bst (HOS.out rfl)
                      have HBF := Lib.hid (beforeR_any (ofL S) (ofL bst) (isU_dp HGS.out) (isU_dp hub) (by rw [ofL_size]; have := (isU_len HGS.out).1; omega) (by rw [ofL_size]; have := (isU_len hub).1; omega) w7)
                      rw [show (ofL S).data.toList = S from rfl, show (ofL bst).data.toList = bst from rfl, ← HE.out] at HBF
                      clear hub
                      go_wp2_with fail
                      refine HBF.out.mono ?_
                      rintro e w8 ⟨rfl, b8⟩
                      have HB9 := Lib.hid (st HB8.out b8 HB8.out.size)
                      clear b8 HBF
                      go_wp2_with fail
                      go_meet
                      exact ⟨rfl, HB9.out⟩
                case rest =>
                  obtain ⟨rfl, hbx⟩ := hcut
                  rename World => w9
                  have HB9 := Lib.hid (st HB7.out hbx HB7.out.size)
                  clear hbx HSH
                  have han := HAN.out
                  have hfn := HFN.out
                  cases bb
                  · have HN : Hid (BestV (bestOf PS (candP A F i (j + 1))) (.string (ofL bst)) (.bool ok)) := Lib.hid (by rw [HSN.out, if_neg (by decide)]; exact ⟨by rw [HOB.out.1], by rw [HOB.out.2]⟩)
                    go_wp2
                    go_roundw
                    case measure => simp [intOf]; omega
                    case rel => exact ⟨j + 1, by omega, by go_num, HN.out, HB9.out⟩
                  · have HN : Hid (BestV (bestOf PS (candP A F i (j + 1))) (.string (ofL S)) (.bool true)) := Lib.hid (by rw [HSN.out, if_pos rfl]; exact ⟨rfl, rfl⟩)
                    go_wp2
                    go_roundw
                    case measure => simp [intOf]; omega
                    case rel => exact ⟨j + 1, by omega, by go_num, HN.out, HB9.out⟩
            · have h9j : ¬ (j : Int) < (F.length : Int) := by omega
              have HCE : Hid (candP A F i j = candP A F (i + 1) 0) := Lib.hid (by rw [show j = F.length by omega]; exact candP_end hlt)
              rw [HCE.out] at hbv
              have HBE := Lib.hid hbv
              obtain ⟨e10, e11⟩ := hbv
              subst e10 e11
              have han := HAN.out
              have hfn := HFN.out
              go_wp2
              go_roundw
              case measure => simp [intOf]; omega
              case rel => exact ⟨i + 1, by omega, by go_num, HBE.out, HB7.out⟩
        · have h9 : ¬ (i : Int) < (A.length : Int) := by omega
          have HE : Hid (bestOf PS (candP A F i 0) = FR) := Lib.hid (by rw [HLAST.out, show i = A.length by omega])
          go_wp2
          go_ret2
          exact ⟨by rw [HE.out]; rfl, HZ5.out.1.trans (HB6.out.mono HZ5.out.2)⟩
end Go.Proofs.YtfbfcomfkokfcaaGreatDoor


/- Of the reference of layer 10: Satisfiable, Total, Equivalent, Disjoint. -/
namespace Go.Proofs.YtfbfcomfkokfcaaGreatDoor
open Go.RowKit
set_option linter.unusedVariables false

def validB (cs : List Cnd) : Bool := cs.all (fun c => okC c) && decide (cs.length ≤ 10)
theorem validB_iff {cs : List Cnd} : validB cs = true ↔ (∀ c ∈ cs, okC c = true) ∧ cs.length ≤ 10 := by
  unfold validB
  rw [Bool.and_eq_true, List.all_eq_true, decide_eq_true_eq]
theorem valB_any (l : List Cnd) (v : Value) (hl : ∀ c ∈ l, cnt c ≤ 4611686018427387904) (w : World) (hv : RdCs w v l) :
    Calls Tryz.prog 67 #[v] w fun e w' => e = .returned (.bool (validB l)) ∧ Below w.heap.size w w' := by
  refine (valid10_any l v hl w hv).mono ?_
  rintro e w' ⟨⟨b, rfl, hb⟩, hw⟩
  have : b = validB l := by rw [Bool.eq_iff_iff, hb, validB_iff]
  exact ⟨by rw [this], hw⟩
/-- What the reference finds: with neg, the answer is turned. -/
def findR (cs : List Cnd) (k : Nat) (neg : Bool) : Str × Bool × Nat := if validB cs = true then ((firstR cs k).getD [], (firstR cs k).isSome != neg, 0) else ([], false, 1)
def FindP (cs : List Cnd) (k : Nat) (neg : Bool) (w : World) (e : Ending) (w' : World) : Prop := e = .returned (.tuple #[.string (ofL (findR cs k neg).1), .bool (findR cs k neg).2.1, .int .i64 ((findR cs k neg).2.2 : Nat)]) ∧ Below w.heap.size w w'
theorem findR_ok {cs : List Cnd} {k : Nat} {neg : Bool} (h : validB cs = true) : findR cs k neg = ((firstR cs k).getD [], (firstR cs k).isSome != neg, 0) := by unfold findR; rw [if_pos h]
theorem findR_bad {cs : List Cnd} {k : Nat} {neg : Bool} (h : validB cs = false) : findR cs k neg = ([], false, 1) := by unfold findR; rw [if_neg (by rw [h]; decide)]

/-! ### Satisfiable -/
set_option maxRecDepth 1000000 in
set_option maxHeartbeats 8000000 in
theorem refSat_any (a : Cnd) (u : Value) (hcn : cnt a ≤ 4611686018427387904) (w : World) (hu : RdC w u a) :
    Calls Tryz.prog 25 #[u] w (FindP [a] 0 false w) := by
  obtain ⟨x1, n1, rfl, _⟩ := hu.slice
  have HRD := Lib.hid (rdCs_one hu 23)
  have HW := Lib.hid (below_al w (.cells #[.slice x1 a.length n1] 23))
  have HVA := Lib.hid (valB_any [a] _ (fun c hc => by rw [List.mem_singleton.1 hc]; exact hcn) _ HRD.out)
  have HOK := Lib.hid (@validB_iff [a])
  have HYES := Lib.hid (@findR_ok [a] 0 false)
  have HNO := Lib.hid (@findR_bad [a] 0 false)
  have HU := Lib.hid hu
  obtain ⟨b, hb⟩ : ∃ b, validB [a] = b := ⟨_, rfl⟩
  rw [hb] at HVA HOK HYES HNO
  unfold FindP
  obtain ⟨R, hR⟩ : ∃ R, findR [a] 0 false = R := ⟨_, rfl⟩
  rw [hR] at HYES HNO ⊢
  clear hb hcn hu hR
  go_enter Tryz.func25, Tryz.ntmps25
  go_wp2_with fail
  refine HVA.out.mono ?_
  rintro e w2 ⟨rfl, b2⟩
  have HB2 := Lib.hid (st HW.out b2 HW.out.size)
  clear b2 HVA HW HRD
  cases b
  · have HE := Lib.hid (HNO.out rfl)
    clear HYES HNO HOK
    go_wp2
    go_ret3
    exact ⟨by rw [HE.out]; rfl, HB2.out⟩
  · have HE := Lib.hid (HYES.out rfl)
    have hok := (HOK.out.1 rfl).1
    have HU2 := Lib.hid (HU.out.below HB2.out)
    have HRD := Lib.hid (rdCs_one HU2.out 23)
    have HFI := Lib.hid (first_any [a] _ (by simp) hok 0 (by omega) _ HRD.out)
    have HW := Lib.hid (st HB2.out (below_al w2 (.cells #[.slice x1 a.length n1] 23)) HB2.out.size)
    clear HYES HNO HOK hok
    obtain ⟨F, hF⟩ : ∃ F, firstR [a] 0 = F := ⟨_, rfl⟩
    rw [hF] at HFI HE
    rw [show ((0 : Nat) : Int) = 0 from rfl] at HFI
    clear hF
    go_wp2_with fail
    refine HFI.out.mono ?_
    rintro e w3 ⟨rfl, b3⟩
    have HB3 := Lib.hid (st HW.out b3 HW.out.size)
    clear b3 HFI
    go_wp2
    go_ret3
    exact ⟨by rw [HE.out]; simp, HB3.out⟩

/-! ### Total -/
set_option maxRecDepth 1000000 in
set_option maxHeartbeats 8000000 in
theorem refTotal_any (cs : List Cnd) (u : Value) (hcn : ∀ c ∈ cs, cnt c ≤ 4611686018427387904) (w : World) (hu : RdCs w u cs) :
    Calls Tryz.prog 29 #[u] w (FindP cs 1 true w) := by
  have HVA := Lib.hid (valB_any cs _ hcn w hu)
  have HOK := Lib.hid (@validB_iff cs)
  have HYES := Lib.hid (@findR_ok cs 1 true)
  have HNO := Lib.hid (@findR_bad cs 1 true)
  have HU := Lib.hid hu
  obtain ⟨b, hb⟩ : ∃ b, validB cs = b := ⟨_, rfl⟩
  rw [hb] at HVA HOK HYES HNO
  unfold FindP
  obtain ⟨R, hR⟩ : ∃ R, findR cs 1 true = R := ⟨_, rfl⟩
  rw [hR] at HYES HNO ⊢
  clear hb hcn hu hR
  go_enter Tryz.func29, Tryz.ntmps29
  go_wp2_with fail
  refine HVA.out.mono ?_
  rintro e w2 ⟨rfl, b2⟩
  have HB2 := Lib.hid b2
  clear b2 HVA
  cases b
  · have HE := Lib.hid (HNO.out rfl)
    clear HYES HNO HOK
    go_wp2
    go_ret3
    exact ⟨by rw [HE.out]; rfl, HB2.out⟩
  · have HE := Lib.hid (HYES.out rfl)
    have hok := HOK.out.1 rfl
    have HFI := Lib.hid (first_any cs _ hok.2 hok.1 1 (by omega) w2 (HU.out.below HB2.out))
    clear HYES HNO HOK hok
    obtain ⟨F, hF⟩ : ∃ F, firstR cs 1 = F := ⟨_, rfl⟩
    rw [hF] at HFI HE
    rw [show ((1 : Nat) : Int) = 1 from rfl] at HFI
    clear hF
    go_wp2_with fail
    refine HFI.out.mono ?_
    rintro e w3 ⟨rfl, b3⟩
    have HB3 := Lib.hid (st HB2.out b3 HB2.out.size)
    clear b3 HFI
    go_wp2
    go_ret3
    exact ⟨by rw [HE.out]; simp, HB3.out⟩

/-! ### Equivalent -/
set_option maxRecDepth 1000000 in
set_option maxHeartbeats 8000000 in
theorem refEqu_any (a b : Cnd) (u v : Value) (hca : cnt a ≤ 4611686018427387904) (hcb : cnt b ≤ 4611686018427387904) (w : World) (hu : RdC w u a) (hv : RdC w v b) :
    Calls Tryz.prog 34 #[u, v] w (FindP [a, b] 3 true w) := by
  obtain ⟨x1, n1, rfl, _⟩ := hu.slice
  obtain ⟨x2, n2, rfl, _⟩ := hv.slice
  have HRD := Lib.hid (rdCs_two hu hv 23)
  have HW := Lib.hid (below_al w (.cells #[.slice x1 a.length n1, .slice x2 b.length n2] 23))
  have HVA := Lib.hid (valB_any [a, b] _ (fun c hc => by
    rcases List.mem_cons.1 hc with rfl | hc
    · exact hca
    · rw [List.mem_singleton.1 hc]; exact hcb) _ HRD.out)
  have HOK := Lib.hid (@validB_iff [a, b])
  have HYES := Lib.hid (@findR_ok [a, b] 3 true)
  have HNO := Lib.hid (@findR_bad [a, b] 3 true)
  have HU := Lib.hid hu
  have HV := Lib.hid hv
  obtain ⟨q, hq⟩ : ∃ q, validB [a, b] = q := ⟨_, rfl⟩
  rw [hq] at HVA HOK HYES HNO
  unfold FindP
  obtain ⟨R, hR⟩ : ∃ R, findR [a, b] 3 true = R := ⟨_, rfl⟩
  rw [hR] at HYES HNO ⊢
  clear hq hca hcb hu hv hR
  go_enter Tryz.func34, Tryz.ntmps34
  go_wp2_with fail
  refine HVA.out.mono ?_
  rintro e w2 ⟨rfl, b2⟩
  have HB2 := Lib.hid (st HW.out b2 HW.out.size)
  clear b2 HVA HW HRD
  cases q
  · have HE := Lib.hid (HNO.out rfl)
    clear HYES HNO HOK
    go_wp2
    go_ret3
    exact ⟨by rw [HE.out]; rfl, HB2.out⟩
  · have HE := Lib.hid (HYES.out rfl)
    have hok := (HOK.out.1 rfl).1
    have HRD := Lib.hid (rdCs_two (HU.out.below HB2.out) (HV.out.below HB2.out) 23)
    have HFI := Lib.hid (first_any [a, b] _ (by simp) hok 3 (by omega) _ HRD.out)
    have HW := Lib.hid (st HB2.out (below_al w2 (.cells #[.slice x1 a.length n1, .slice x2 b.length n2] 23)) HB2.out.size)
    clear HYES HNO HOK hok
    obtain ⟨F, hF⟩ : ∃ F, firstR [a, b] 3 = F := ⟨_, rfl⟩
    rw [hF] at HFI HE
    rw [show ((3 : Nat) : Int) = 3 from rfl] at HFI
    clear hF
    go_wp2_with fail
    refine HFI.out.mono ?_
    rintro e w3 ⟨rfl, b3⟩
    have HB3 := Lib.hid (st HW.out b3 HW.out.size)
    clear b3 HFI
    go_wp2
    go_ret3
    exact ⟨by rw [HE.out]; simp, HB3.out⟩
end Go.Proofs.YtfbfcomfkokfcaaGreatDoor


/- Of the reference of layer 10: Disjoint. -/
namespace Go.Proofs.YtfbfcomfkokfcaaGreatDoor
open Go.RowKit
set_option linter.unusedVariables false

theorem disP_isSome {cs : List Cnd} {i j : Nat} (hi : i < cs.length) (hj : j < cs.length) : disP cs i j = firstR [cs[i], cs[j]] 2 := by
  unfold disP
  rw [List.getD_eq_getElem?_getD, List.getD_eq_getElem?_getD, List.getElem?_eq_getElem hi, List.getElem?_eq_getElem hj]
  rfl
def DisRP (cs : List Cnd) (q : Bool) (w : World) (e : Ending) (w' : World) : Prop := ∃ i j W er, e = .returned (.tuple #[.int .i64 (i : Nat), .int .i64 (j : Nat), .string (ofL W), .int .i64 (er : Nat)]) ∧ (if q = true then DisA cs (i, j, W, er) else (i, j, W, er) = (0, 0, [], 1)) ∧ Below w.heap.size w w'
set_option maxRecDepth 1000000 in
set_option maxHeartbeats 16000000 in
theorem refDis_any (rs : List (Str × Cnd)) (v : Value) (h12 : rs.length ≤ 100) (hcn : ∀ c ∈ rs.map Prod.snd, cnt c ≤ 4611686018427387904) (w : World) (hv : RdRules w v rs) :
    Calls Tryz.prog 32 #[v] w (DisRP (rs.map Prod.snd) (validB (rs.map Prod.snd)) w) := by
  obtain ⟨iC, hiC, hzC, hkC, hbC⟩ := info_parts Tryz.infoCo
  obtain ⟨ac, cc, rfl, hc1, hc2⟩ := hv.slice
  have HV := Lib.hid hv
  have HCN := Lib.hid hcn
  have HLC : Hid ((rs.map Prod.snd).length = rs.length) := Lib.hid (List.length_map _)
  obtain ⟨cs, hcs⟩ : ∃ cs, rs.map Prod.snd = cs := ⟨_, rfl⟩
  have HCS := Lib.hid hcs
  rw [hcs] at HCN HLC ⊢
  have HOK := Lib.hid (@validB_iff cs)
  obtain ⟨q, hq⟩ : ∃ q, validB cs = q := ⟨_, rfl⟩
  have HVQ := Lib.hid hq
  rw [hq] at HOK ⊢
  clear hq
  have HN0 : Hid (GatC w rs 0 (.slice none 0 0) w) := Lib.hid ⟨⟨[], own1_nil _ _ _, rfl, fun i h _ => by simp at h⟩, Below.refl _ _⟩
  clear hv hcn hcs
  go_enter Tryz.func32, Tryz.ntmps32
  go_wp2
  go_loopw [6, 7] (fun v6 v7 wr => ∃ k : Nat, k ≤ rs.length ∧ v7 = .int .i64 k ∧ GatC w rs k v6 wr) (fun _ v7 _ => rs.length - (intOf v7).toNat)
  case atStart => exact ⟨0, Nat.zero_le _, rfl, HN0.out⟩
  case round =>
    rename World => wr
    obtain ⟨k, hk, rfl, hg⟩ := hrel
    have HG := Lib.hid hg
    clear hg HN0
    by_cases hlt : k < rs.length
    · obtain ⟨bk, off, s, x1, x2, rfl, hlb, h0, h1, hcd⟩ := HV.out.at_ k hlt
      have h1 := (HG.out.bw.cell (p := ⟨bk, off + k * 2 + 1, none⟩) hlb).trans h1
      have h9 : (k : Int) < (rs.length : Int) := by omega
      obtain ⟨n, hn⟩ : ∃ n, rs[k].2.length = n := ⟨_, rfl⟩
      rw [hn] at h1 hcd
      have HCD := Lib.hid hcd
      obtain ⟨raws, ho, hl, hr⟩ := HG.out.ex
      obtain ⟨p6, c6, rfl⟩ := ho.slice
      have HO := Lib.hid ho
      have HB := Lib.hid HG.out.bw
      have HL := Lib.hid hl
      have HR := Lib.hid hr
      have HZW : Hid (w.heap.size ≤ wr.heap.size) := Lib.hid HB.out.size
      clear ho hl hr hcd hn hlb h0
      go_wp2_with (first | (at_builtin; refine wpList_append_lie (w0 := wr) (x := (⟨x1, n, x2⟩ : RawS)) (N := wr.heap.size) rfl rfl _ _ 26 rfl w.heap.size iC _ 24 Tryz.underlying26 hiC hzC hkC hbC (by omega) rfl (by omega) encS_len encS_one _ raws rfl rfl HO.out rfl (by have := HL.out; omega) HZW.out ?_; intro v9 w9 y9; obtain ⟨p8, q8, e8⟩ := y9.1.slice; subst e8; have Y9 := Lib.hid y9; clear y9) | fail)
      have HGN : Hid (GatC w rs (k + 1) (.slice p8 (raws ++ [(⟨x1, n, x2⟩ : RawS)]).length q8) w9) := Lib.hid ⟨⟨_, Y9.out.1, by rw [List.length_append, HL.out]; rfl, fun i a b => by
        rw [List.length_append] at a
        by_cases hi : i < raws.length
        · rw [List.getElem_append_left hi]
          exact HR.out i hi b
        · have hk' : i = raws.length := by simp at a; omega
          subst hk'
          rw [List.getElem_append_right (Nat.le_refl _)]
          have e2 : rs[raws.length].2 = rs[k].2 := by simp only [HL.out]
          rw [e2]
          simpa using HCD.out⟩, HB.out.trans Y9.out.2.1⟩
      go_wp2
      go_roundw
      case measure => simp [intOf]; omega
      case rel => exact ⟨k + 1, by omega, by go_num, by first | exact HGN.out | (have := HGN.out; simpa using this)⟩
    · obtain rfl : k = rs.length := by omega
      have h3 : ¬ (rs.length : Int) < (rs.length : Int) := by omega
      have hrd := HG.out.rd
      rw [HCS.out] at hrd
      obtain ⟨p6, c6, rfl, _, _⟩ := hrd.slice
      have HRD := Lib.hid hrd
      have HB1 := Lib.hid HG.out.bw
      have HVA := Lib.hid (valB_any cs _ HCN.out wr HRD.out)
      have hlen : cs.length ≤ 100 := by have := HLC.out; omega
      rw [HVQ.out] at HVA
      clear hrd HG HV HVQ
      go_wp2_with fail
      refine HVA.out.mono ?_
      rintro e w2 ⟨rfl, b2⟩
      have H2 := Lib.hid (st HB1.out b2 HB1.out.size)
      have HRD2 := Lib.hid (HRD.out.below b2)
      clear b2 HVA HRD HB1
      cases q
      · go_wp2
        (try simp only [Exit.inBlock, Exit.then])
        refine bodyPost_ret (results_tmp4 rfl _ _ _) rfl ?_
        exact ⟨0, 0, [], 1, rfl, by rw [if_neg (by decide)], H2.out⟩
      · have HOKA : Hid (∀ c ∈ cs, okC c = true) := Lib.hid (HOK.out.1 rfl).1
        clear HOK
        go_wp2_with fail
        go_loopw [8] (fun v8 wx => ∃ i : Nat, i ≤ cs.length ∧ v8 = .int .i64 i ∧ NoneB cs i 0 ∧ Below w2.heap.size w2 wx) (fun v8 _ => cs.length - (intOf v8).toNat)
        case atStart => exact ⟨0, Nat.zero_le _, rfl, none_zero cs, Below.refl _ _⟩
        case round =>
          rename World => wi
          obtain ⟨i, hi, rfl, hno, hbi⟩ := hrel
          have HNO := Lib.hid hno
          have HBI := Lib.hid hbi
          clear hno hbi
          by_cases hlt : i < cs.length
          · have h9 : (i : Int) < (cs.length : Int) := by omega
            have HN1 := Lib.hid (none_first HNO.out)
            go_wp2_with fail
            go_loopw [9] (fun v9 wx => ∃ j : Nat, i < j ∧ j ≤ cs.length ∧ v9 = .int .i64 j ∧ NoneB cs i j ∧ Below w2.heap.size w2 wx) (fun v9 _ => cs.length - (intOf v9).toNat)
            case atStart => exact ⟨i + 1, by omega, by omega, by go_num, HN1.out, HBI.out⟩
            case round =>
              rename World => wj
              obtain ⟨j, hij, hj, rfl, hno, hbj⟩ := hrel
              have HNJ := Lib.hid hno
              have HBJ := Lib.hid hbj
              clear hno hbj
              by_cases hlj : j < cs.length
              · have h8 : (j : Int) < (cs.length : Int) := by omega
                have HRJ := Lib.hid (HRD2.out.below HBJ.out)
                obtain ⟨bC, oC, x1, x2, rfl, ci, hci⟩ := HRJ.out.at_ i hlt
                obtain ⟨bC', oC', y1, y2, hpe, cj, hcj⟩ := HRJ.out.at_ j hlj
                injection hpe with hpe
                injection hpe with hpe1 hpe2
                subst hpe1 hpe2
                have HRD := Lib.hid (rdCs_two hci hcj 23)
                have HFI := Lib.hid (first_any [cs[i], cs[j]] _ (by simp) (fun c hc => by
                  rcases List.mem_cons.1 hc with rfl | hc
                  · exact HOKA.out _ (List.getElem_mem hlt)
                  · rw [List.mem_singleton.1 hc]; exact HOKA.out _ (List.getElem_mem hlj)) 2 (by omega) _ (HRD.out.below (Below.refl _ _).drew))
                rw [← disP_isSome hlt hlj, show ((2 : Nat) : Int) = 2 from rfl] at HFI
                obtain ⟨n1, hn1⟩ : ∃ n, cs[i].length = n := ⟨_, rfl⟩
                obtain ⟨n2, hn2⟩ : ∃ n, cs[j].length = n := ⟨_, rfl⟩
                rw [hn1] at ci HFI
                rw [hn2] at cj HFI
                obtain ⟨D, hD⟩ : ∃ D, disP cs i j = D := ⟨_, rfl⟩
                rw [hD] at HFI
                have HD := Lib.hid hD
                have HSZ := Lib.hid (show Below wj.heap.size wj (wj.alloc (.cells #[.slice x1 n1 x2, .slice y1 n2 y2] 23)).drew from (below_al _ _).drew)
                have HKP : Hid (∀ wx, Below wj.heap.size wj wx → wx.cell? ⟨bC, oC + i, none⟩ = some (.slice x1 n1 x2) ∧ wx.cell? ⟨bC, oC + j, none⟩ = some (.slice y1 n2 y2)) := Lib.hid (fun wx hb => ⟨(hb.cell (p := ⟨bC, oC + i, none⟩) (World.block_lt_of_cell? _ _ ci)).trans ci, (hb.cell (p := ⟨bC, oC + j, none⟩) (World.block_lt_of_cell? _ _ cj)).trans cj⟩)
                clear hD hn1 hn2 hci hcj HRD
                have HBW : Hid (∀ w7, Below wj.heap.size wj w7 → Below w2.heap.size w2 w7) := Lib.hid (fun w7 hb => st HBJ.out hb HBJ.out.size)
                have HBE : Hid (∀ w7, Below w2.heap.size w2 w7 → Below w.heap.size w w7) := Lib.hid (fun w7 hb => st H2.out hb H2.out.size)
                cases D with
                | none =>
                  have HNN := Lib.hid (none_next HNJ.out HD.out)
                  go_upto_region 14 with fail
                  go_region_held3 (fun wx => wx.cell? ⟨bC, oC + i, none⟩ = some (.slice x1 n1 x2) ∧ wx.cell? ⟨bC, oC + j, none⟩ = some (.slice y1 n2 y2)) (first | exact ⟨ci, cj⟩ | exact HKP.out _ HSZ.out | exact HKP.out _ HB7.out) ((go_at_call 68; refine (HFI.out).mono ?_; rintro e w7 ⟨rfl, b7⟩; have HB7 := Lib.hid (HSZ.out.trans (b7.mono HSZ.out.size)); clear b7))
                  all_goals (
                    go_wp2_with fail
                    go_roundw
                    case measure => simp [intOf]; omega
                    case rel => exact ⟨j + 1, by omega, by omega, by go_num, HNN.out, HBW.out _ HB7.out⟩)
                | some A =>
                  go_upto_region 14 with fail
                  go_region_held3 (fun wx => wx.cell? ⟨bC, oC + i, none⟩ = some (.slice x1 n1 x2) ∧ wx.cell? ⟨bC, oC + j, none⟩ = some (.slice y1 n2 y2)) (first | exact ⟨ci, cj⟩ | exact HKP.out _ HSZ.out | exact HKP.out _ HB7.out) ((go_at_call 68; refine (HFI.out).mono ?_; rintro e w7 ⟨rfl, b7⟩; have HB7 := Lib.hid (HSZ.out.trans (b7.mono HSZ.out.size)); clear b7))
                  all_goals (
                    go_wp2
                    (try simp only [Exit.inBlock, Exit.then])
                    refine bodyPost_ret (results_tmp4 rfl _ _ _) rfl ?_
                    exact ⟨i, j, A, 19, rfl, by rw [if_pos rfl]; exact .inl ⟨i, j, A, hij, hlj, HD.out, HNJ.out, rfl⟩, HBE.out _ (HBW.out _ HB7.out)⟩)
              · obtain rfl : j = cs.length := by omega
                have h7 : ¬ (cs.length : Int) < (cs.length : Int) := by omega
                have HNR := Lib.hid (none_row HNJ.out (Nat.le_refl _))
                go_wp2_with fail
                go_roundw
                case measure => simp [intOf]; omega
                case rel => exact ⟨i + 1, by omega, by go_num, HNR.out, HBJ.out⟩
          · obtain rfl : i = cs.length := by omega
            have h7 : ¬ (cs.length : Int) < (cs.length : Int) := by omega
            have HNA := Lib.hid (none_all HNO.out (Nat.le_refl _))
            have HBE := Lib.hid (st H2.out HBI.out H2.out.size)
            go_wp2
            (try simp only [Exit.inBlock, Exit.then])
            refine bodyPost_ret (results_tmp4 rfl _ _ _) rfl ?_
            exact ⟨0, 0, [], 0, rfl, by rw [if_pos rfl]; exact .inr ⟨HNA.out, rfl⟩, HBE.out⟩
end Go.Proofs.YtfbfcomfkokfcaaGreatDoor


/- Of law 10: Unsigned, count; the law of Satisfiable. -/
namespace Go.Proofs.YtfbfcomfkokfcaaGreatDoor
open Go.RowKit Go.Maps
set_option linter.unusedVariables false

/-! ### Unsigned -/
def uns (s : Str) : Bool := (spl s).isSome && decide (s.head? ≠ some 45)
theorem uns_iff {s : Str} : uns s = true ↔ isU s := by
  unfold uns
  rw [Bool.and_eq_true, decide_eq_true_eq, isU_iff]
theorem spl_nil : spl [] = none := by rfl
set_option maxRecDepth 1000000 in
set_option maxHeartbeats 4000000 in
theorem unsigned_any (s : ByteArray) (hs : s.size ≤ 9223372036854775807) (w : World) :
    Calls Tryz.prog 26 #[.string s] w fun e w' => e = .returned (.bool (uns s.data.toList)) ∧ Below w.heap.size w w' := by
  have HVA := Lib.hid (refValid_any s hs w)
  have HUN : Hid (uns s.data.toList = ((spl s.data.toList).isSome && decide (s.data.toList.head? ≠ some 45))) := Lib.hid rfl
  have HE0 : Hid (s.size = 0 → (spl s.data.toList).isSome = false) := Lib.hid (fun h => by rw [data_nil h, spl_nil]; rfl)
  obtain ⟨b, hb⟩ : ∃ b, (spl s.data.toList).isSome = b := ⟨_, rfl⟩
  rw [hb] at HVA HUN HE0
  clear hb
  obtain ⟨R, hR⟩ : ∃ R, uns s.data.toList = R := ⟨_, rfl⟩
  rw [hR] at HUN ⊢
  clear hR
  go_enter Tryz.func26, Tryz.ntmps26
  go_wp2_with fail
  refine HVA.out.mono ?_
  rintro e w2 ⟨rfl, b2⟩
  have B2 := Lib.hid b2
  clear b2 HVA
  cases b
  · have HE : Hid (R = false) := Lib.hid (by rw [HUN.out]; rfl)
    go_wp2
    go_ret
    exact ⟨by rw [HE.out]; rfl, B2.out⟩
  · have h0 : 0 < s.size := by
      rcases Nat.eq_zero_or_pos s.size with h | h
      · have := HE0.out h; cases this
      · exact h
    have HE : Hid (R = !decide ((s[0]'h0).toNat = 45)) := Lib.hid (by
      rw [HUN.out, Bool.true_and, head_data h0, ← decide_not, decide_eq_decide, Ne, Option.some_inj]
      constructor
      · intro h e
        exact h (UInt8.toNat_inj.1 e)
      · intro h e
        exact h (by rw [e]; rfl))
    obtain ⟨q, hq⟩ : ∃ q, decide ((s[0]'h0).toNat = 45) = q := ⟨_, rfl⟩
    rw [hq] at HE
    have z1 : ((((s[0]'h0).toNat : Nat) : Int) == 45) = q := by rw [← hq, Bool.eq_iff_iff, beq_iff_eq, decide_eq_true_eq]; omega
    have z2 : ((((s[0]'h0).toNat : Nat) : Int) != 45) = !q := by rw [← z1]; rfl
    clear hq HE0 HUN
    go_wp2
    go_ret
    exact ⟨by rw [HE.out]; rfl, B2.out⟩

/-! ### count -/
set_option maxRecDepth 1000000 in
set_option maxHeartbeats 8000000 in
theorem count10_any (l : List Cnd) (v : Value) (h10 : l.length ≤ 100) (hok : ∀ c ∈ l, okC c = true) (s : Str) (hs : isU s) (w : World) (hv : RdCs w v l) :
    Calls Tryz.prog 30 #[v, .string (ofL s)] w fun e w' => e = .returned (.int .i64 (cntH l s : Nat)) ∧ Below w.heap.size w w' := by
  obtain ⟨a, cp, rfl, hc1, hc2⟩ := hv.slice
  have HU := Lib.hid hv
  have HOK := Lib.hid hok
  have HS := Lib.hid hs
  have HSL : Hid ((ofL s).size ≤ 1000) := Lib.hid (by rw [ofL_size]; have := (isU_len hs).1; omega)
  clear hv hok hs
  go_enter Tryz.func30, Tryz.ntmps30
  go_wp2
  go_loopw [5, 11] (fun v5 v11 wr => ∃ k : Nat, k ≤ l.length ∧ v11 = .int .i64 k ∧ v5 = .int .i64 (cntH (l.take k) s : Nat) ∧ Below w.heap.size w wr) (fun _ v11 _ => l.length - (intOf v11).toNat)
  case atStart => exact ⟨0, Nat.zero_le _, rfl, rfl, Below.refl _ _⟩
  case round =>
    rename World => wj
    obtain ⟨k, hk, rfl, rfl, hb⟩ := hrel
    have HB := Lib.hid hb
    clear hb
    have hcl : cntH (l.take k) s ≤ 100 := by have := cntH_le (l.take k) s; have := List.length_take_le k l; omega
    by_cases hlt : k < l.length
    · obtain ⟨b, off, x1, x2, rfl, h0, h4⟩ := HU.out.at_ k hlt
      have h0 := (HB.out.cell (p := ⟨b, off + k, none⟩) (World.block_lt_of_cell? _ _ h0)).trans h0
      have h9 : (k : Int) < (l.length : Int) := by omega
      have HCT := Lib.hid (cntH_take (s := s) hlt)
      have HOM := Lib.hid (HOK.out l[k] (List.getElem_mem hlt))
      obtain ⟨q, hq⟩ : ∃ q, cntH (l.take k) s = q := ⟨_, rfl⟩
      rw [hq] at HCT hcl ⊢
      obtain ⟨m, hm⟩ : ∃ m, l[k] = m := ⟨_, rfl⟩
      rw [hm] at h0 h4 HCT HOM
      clear hm hq
      have HF := Lib.hid (holdsC_any _ m (ofL s) HSL.out wj (h4.below HB.out) (fun l hl => by have := (okC_iff.1 HOM.out).2.2; have := cnt_get hl; omega))
      rw [show (ofL s).data.toList = s from rfl, holdR_ok HOM.out (isU_spl HS.out)] at HF
      obtain ⟨bv, hbv⟩ : ∃ b, hldC s m = b := ⟨_, rfl⟩
      rw [hbv] at HF HCT
      clear h4 hbv
      go_wp2_with fail
      refine HF.out.mono ?_
      rintro e w2 ⟨rfl, b2⟩
      have HB2 := Lib.hid (st HB.out b2 HB.out.size)
      clear b2 HF
      cases bv with
      | false =>
        have HC2 : Hid (cntH (l.take (k + 1)) s = q) := Lib.hid (by rw [HCT.out]; rfl)
        go_wp2
        go_roundw
        case measure => simp [intOf]; omega
        case rel => exact ⟨k + 1, by omega, by go_num, by rw [HC2.out], HB2.out⟩
      | true =>
        have HC2 : Hid (cntH (l.take (k + 1)) s = q + 1) := Lib.hid (by rw [HCT.out]; rfl)
        go_wp2
        go_roundw
        case measure => simp [intOf]; omega
        case rel => exact ⟨k + 1, by omega, by go_num, by rw [HC2.out]; go_num, HB2.out⟩
    · obtain rfl : k = l.length := by omega
      have h3 : ¬ (l.length : Int) < (l.length : Int) := by omega
      rw [List.take_length] at hcl ⊢
      go_wp2
      go_ret
      exact ⟨rfl, HB.out⟩
end Go.Proofs.YtfbfcomfkokfcaaGreatDoor


/- Of law 10: the law of Satisfiable, walked. -/
namespace Go.Proofs.YtfbfcomfkokfcaaGreatDoor
open Go.RowKit Go.Maps
set_option linter.unusedVariables false

theorem validB_one {a : Cnd} : validB [a] = okC a := by
  unfold validB
  simp
theorem sat_find (a : Cnd) (u : Value) (hbig : ∀ l ∈ a, l.length ≤ 4611686018427387904) (w : World) (hu : RdC w u a) (hm : MaxL w) :
    Calls Tryz.prog 24 #[u] w (FindP [a] 0 false w) := by
  cases ha : okC a with
  | true =>
    refine (sat_any a u ha w hu hm).mono ?_
    rintro e w' ⟨rfl, h⟩
    refine ⟨?_, h⟩
    rw [findR_ok (by rw [validB_one]; exact ha)]
    dsimp only
    rw [firstR_ne (fun c hc => by rw [List.mem_singleton.1 hc]; exact ha), Bool.bne_false]
    rfl
  | false =>
    refine (satBad_any a u hbig (by rw [ha]; decide) w hu hm).mono ?_
    rintro e w' ⟨rfl, h⟩
    refine ⟨?_, h⟩
    rw [findR_bad (by rw [validB_one]; exact ha)]
    rfl
theorem tot_find (cs : List Cnd) (u : Value) (hbig : ∀ c ∈ cs, ∀ l ∈ c, l.length ≤ 4611686018427387904) (w : World) (hu : RdCs w u cs) (hm : MaxL w) :
    Calls Tryz.prog 28 #[u] w (FindP cs 1 true w) := by
  cases hv : validB cs with
  | true =>
    obtain ⟨h1, h2⟩ := validB_iff.1 hv
    refine (total_any cs u h2 h1 w hu hm).mono ?_
    rintro e w' ⟨rfl, h⟩
    refine ⟨?_, h⟩
    rw [findR_ok hv]
    dsimp only
    rw [firstR_ne h1]
    generalize (firstR cs 1).getD [] = A
    have e : decide (A = []) = (decide (A ≠ []) != true) := by by_cases h : A = [] <;> simp [h]
    rw [e]
    rfl
  | false =>
    refine (totalBad_any cs u hbig (fun h => by rw [validB_iff.2 ⟨h.2, h.1⟩] at hv; cases hv) w hu).mono ?_
    rintro e w' ⟨rfl, h⟩
    refine ⟨?_, h⟩
    rw [findR_bad hv]
    rfl
theorem validB_two {a b : Cnd} : validB [a, b] = (okC a && okC b) := by
  unfold validB
  simp
theorem equ_find (a b : Cnd) (u v : Value) (hbig : ∀ c ∈ [a, b], ∀ l ∈ c, l.length ≤ 4611686018427387904) (w : World) (hu : RdC w u a) (hv : RdC w v b) (hm : MaxL w) :
    Calls Tryz.prog 33 #[u, v] w (FindP [a, b] 3 true w) := by
  cases hq : validB [a, b] with
  | true =>
    have h1 := (validB_iff.1 hq).1
    refine (equ_any a b u v (h1 a (by simp)) (h1 b (by simp)) w hu hv hm).mono ?_
    rintro e w' ⟨rfl, h⟩
    refine ⟨?_, h⟩
    rw [findR_ok hq]
    dsimp only
    rw [firstR_ne h1]
    generalize (firstR [a, b] 3).getD [] = A
    have e : decide (A = []) = (decide (A ≠ []) != true) := by by_cases h : A = [] <;> simp [h]
    rw [e]
    rfl
  | false =>
    refine (equBad_any a b u v hbig (fun h => by rw [validB_two, h.1, h.2] at hq; cases hq) w hu hv).mono ?_
    rintro e w' ⟨rfl, h⟩
    refine ⟨?_, h⟩
    rw [findR_bad hq]
    rfl
theorem pS_one (c : Cnd) (s : Str) : pS [c] 0 s = hldC s c := by
  unfold pS cntH
  rw [List.filter_cons, List.filter_nil]
  cases hldC s c <;> rfl
theorem sat_some {c : Cnd} (hok : okC c = true) {b : Str} (h : firstR [c] 0 = some b) : isU b ∧ hldC b c = true ∧ ∀ t, isU t → hldC t c = true → befB t b = false := by
  obtain ⟨h1, h2, h3⟩ := firstR_some (fun d hd => by rw [List.mem_singleton.1 hd]; exact hok) h
  refine ⟨h1, by rw [← pS_one]; exact h2, fun t ht hc => ?_⟩
  rw [Bool.eq_false_iff]
  intro hb
  exact h3 t ht (by rw [pS_one]; exact hc) (befB_iff.1 hb)
theorem sat_none {c : Cnd} (hok : okC c = true) (h : firstR [c] 0 = none) : ∀ t, isU t → hldC t c = false := fun t ht => by
  rw [← pS_one]
  exact firstR_none (fun d hd => by rw [List.mem_singleton.1 hd]; exact hok) h t ht
set_option maxRecDepth 1000000 in
set_option maxHeartbeats 16000000 in
theorem decideSatisfiable_walk (c : Cnd) (v : Value) (s : ByteArray) (hs : s.size ≤ maxLen) (w : World) (hv : RdC w v c) (hl : ∀ l ∈ c, l.length ≤ 140737488355328) (hm : MaxL w) :
    Calls Tryz.prog 5 #[v, .string s] w fun e w' => e = .returned (.bool true) ∧ Below w.heap.size w w' := by
  have hmx : maxLen = 9223372036854775807 := by decide
  rw [hmx] at hs
  have HM := Lib.hid hm
  have HV := Lib.hid hv
  have HL := Lib.hid hl
  obtain ⟨a, cp, hva, _⟩ := hv.slice
  subst hva
  clear hm hv hl hmx
  go_enter Tryz.func5, Tryz.ntmps5
  go_wp2_with fail
  refine (awake_d _ HM.out).mono ?_
  rintro e w1 ⟨rfl, b1⟩
  have B1 := Lib.hid b1
  have M1 := Lib.hid (HM.out.below b1)
  have V1 := Lib.hid (HV.out.below b1)
  have F1 := Lib.hid (fewL_any [c] _ _ (rdCs_one V1.out 23))
  have K1 := Lib.hid (below_al w1 (.cells #[.slice a c.length cp] 23))
  clear b1
  go_wp2_with fail
  refine F1.out.mono ?_
  rintro e w2 ⟨⟨bf, rfl, hf⟩, hw2⟩
  subst hw2
  have B2 := Lib.hid (st B1.out K1.out B1.out.size)
  have M2 := Lib.hid (M1.out.below K1.out)
  have V2 := Lib.hid (V1.out.below K1.out)
  have HF := Lib.hid hf
  clear hf F1
  obtain ⟨w3, hw3⟩ : ∃ x, w1.alloc (.cells #[.slice a c.length cp] 23) = x := ⟨_, rfl⟩
  rw [hw3] at B2 M2 V2
  rw [hw3]
  clear hw3 K1 B1 M1 V1
  cases bf with
  | false =>
    go_wp2_with fail
    refine (awake_d _ M2.out).mono ?_
    rintro e w4 ⟨rfl, b4⟩
    have B4 := Lib.hid (st B2.out b4 B2.out.size)
    clear b4
    go_wp2
    go_ret
    exact ⟨rfl, B4.out⟩
  | true =>
    have H30 : Hid (c.length ≤ 30) := Lib.hid ((HF.out rfl).2 c (List.mem_singleton.2 rfl))
    have HP := Lib.hid (sat_find c _ (fun l hx => Nat.le_trans (HL.out l hx) (by decide)) w3 V2.out M2.out)
    have HQ := Lib.hid (fun w4 (b4 : Below w3.heap.size w3 w4) => refSat_any c _ (cnt_few10 H30.out HL.out) w4 (V2.out.below b4))
    unfold FindP at HP HQ
    have HYES := Lib.hid (@findR_ok [c] 0 false)
    have HNO := Lib.hid (@findR_bad [c] 0 false)
    obtain ⟨R, hR⟩ : ∃ R, findR [c] 0 false = R := ⟨_, rfl⟩
    rw [hR] at HP HQ HYES HNO
    have HOK := Lib.hid (@validB_one c)
    obtain ⟨q, hq⟩ : ∃ q, validB [c] = q := ⟨_, rfl⟩
    rw [hq] at HYES HNO HOK
    obtain ⟨A, okb, er⟩ := R
    dsimp only at HP HQ
    clear hR hq
    go_wp2_with fail
    refine HP.out.mono ?_
    rintro e w4 ⟨rfl, b4⟩
    have B4 := Lib.hid (st B2.out b4 B2.out.size)
    have V4 := Lib.hid (V2.out.below b4)
    have HQ4 := Lib.hid (HQ.out w4 b4)
    clear b4 HP HQ M2
    go_wp2_with fail
    refine HQ4.out.mono ?_
    rintro e w5 ⟨rfl, b5⟩
    have B5 := Lib.hid (st B4.out b5 B4.out.size)
    have V5 := Lib.hid (V4.out.below b5)
    clear b5 HQ4 V4 B4 V2 B2
    cases q
    · have he := HNO.out rfl
      injection he with he1 he
      injection he with he2 he3
      subst he1 he2 he3
      go_wp2
      go_ret
      exact ⟨rfl, B5.out⟩
    · have hok : okC c = true := HOK.out.symm
      have HSO := Lib.hid (fun b => @sat_some c hok b)
      have HNN := Lib.hid (@sat_none c hok)
      have HCK := Lib.hid hok
      have he := HYES.out rfl
      obtain ⟨F, hF⟩ : ∃ F, firstR [c] 0 = F := ⟨_, rfl⟩
      rw [hF] at he HSO HNN
      injection he with he1 he
      injection he with he2 he3
      subst he1 he2 he3
      have HUN := Lib.hid (fun w => unsigned_any s hs w)
      have HUI := Lib.hid (@uns_iff s.data.toList)
      obtain ⟨us, hus⟩ : ∃ b, uns s.data.toList = b := ⟨_, rfl⟩
      rw [hus] at HUN HUI
      have HHN : Hid (∀ w', us = true → Below w5.heap.size w5 w' → Calls Tryz.prog 22 #[.slice a c.length cp, .string s] w' fun e w2 => e = .returned (.tuple #[.bool (hldC s.data.toList c), .int .i64 0]) ∧ Below w'.heap.size w' w2) := Lib.hid (fun w' hu hb => by
        have hU := HUI.out.1 hu
        have h := holdsC_any _ c s (by have := (isU_len hU).1; rw [len_data] at this; omega) w' (V5.out.below hb) (fun l hx => Nat.le_trans (HL.out l hx) (by decide))
        rw [holdR_ok HCK.out (isU_spl hU)] at h
        exact h)
      clear hok hF hus HYES HNO HOK
      cases F with
      | none =>
        have HN := HNN.out rfl
        go_wp2_with fail
        refine (HUN.out _).mono ?_
        rintro e w6 ⟨rfl, b6⟩
        have B6 := Lib.hid (st B5.out b6 B5.out.size)
        cases us with
        | false =>
          go_wp2
          go_ret
          exact ⟨rfl, B6.out⟩
        | true =>
          have H6 := Lib.hid (HHN.out w6 rfl b6)
          rw [HN _ (HUI.out.1 rfl)] at H6
          clear b6 HHN
          go_wp2_with fail
          refine H6.out.mono ?_
          rintro e w7 ⟨rfl, b7⟩
          have B7 := Lib.hid (st B6.out b7 B6.out.size)
          clear b7
          go_wp2
          go_ret
          exact ⟨rfl, B7.out⟩
      | some b =>
        obtain ⟨hub, hhb, hbef⟩ := HSO.out b rfl
        have HUB := Lib.hid hub
        have HBF := Lib.hid hbef
        have H5 := Lib.hid (holdsC_any _ c (ofL b) (by rw [ofL_size]; have := (isU_len hub).1; omega) w5 V5.out (fun l hx => Nat.le_trans (HL.out l hx) (by decide)))
        rw [show (ofL b).data.toList = b from rfl, holdR_ok HCK.out (isU_spl hub), hhb] at H5
        clear hub hhb hbef HSO HNN
        go_wp2_with fail
        refine H5.out.mono ?_
        rintro e w6 ⟨rfl, b6⟩
        have B6 := Lib.hid (st B5.out b6 B5.out.size)
        have B56 := Lib.hid b6
        clear b6 H5
        go_wp2_with fail
        refine (HUN.out _).mono ?_
        rintro e w7 ⟨rfl, b7⟩
        have B7 := Lib.hid (st B6.out b7 B6.out.size)
        have B57 := Lib.hid (st B56.out b7 B56.out.size)
        clear b7
        cases us with
        | false =>
          go_wp2
          go_ret
          exact ⟨rfl, B7.out⟩
        | true =>
          have H7 := Lib.hid (HHN.out w7 rfl B57.out)
          have HXB := Lib.hid (HBF.out s.data.toList (HUI.out.1 rfl))
          have HB8 := Lib.hid (fun w => beforeR_any s (ofL b) (isU_dp (HUI.out.1 rfl)) (isU_dp HUB.out) hs (by rw [ofL_size]; have := (isU_len HUB.out).1; omega) w)
          rw [show (ofL b).data.toList = b from rfl] at HB8
          obtain ⟨X, hX⟩ : ∃ X, hldC s.data.toList c = X := ⟨_, rfl⟩
          rw [hX] at H7 HXB
          clear hX HHN HBF
          go_wp2_with fail
          refine H7.out.mono ?_
          rintro e w8 ⟨rfl, b8⟩
          have B8 := Lib.hid (st B7.out b8 B7.out.size)
          clear b8 H7
          cases X with
          | false =>
            go_wp2
            go_ret
            exact ⟨rfl, B8.out⟩
          | true =>
            have he := HXB.out rfl
            rw [he] at HB8
            clear he
            go_wp2_with fail
            refine (HB8.out _).mono ?_
            rintro e w9 ⟨rfl, b9⟩
            have B9 := Lib.hid (st B8.out b9 B8.out.size)
            clear b9
            go_wp2
            go_ret
            exact ⟨rfl, B9.out⟩
end Go.Proofs.YtfbfcomfkokfcaaGreatDoor


/- Of law 10: the laws of Total and Equivalent, walked. -/
namespace Go.Proofs.YtfbfcomfkokfcaaGreatDoor
open Go.RowKit Go.Maps
set_option linter.unusedVariables false

theorem tot_some {l : List Cnd} (hok : ∀ c ∈ l, okC c = true) {b : Str} (h : firstR l 1 = some b) : isU b ∧ cntH l b = 0 ∧ ∀ t, isU t → cntH l t = 0 → befB t b = false := by
  obtain ⟨h1, h2, h3⟩ := firstR_some hok h
  have e : ∀ t, pS l 1 t = decide (cntH l t = 0) := fun t => rfl
  refine ⟨h1, of_decide_eq_true ((e b).symm.trans h2), fun t ht hc => ?_⟩
  rw [Bool.eq_false_iff]
  intro hb
  exact h3 t ht ((e t).trans (decide_eq_true hc)) (befB_iff.1 hb)
theorem tot_none {l : List Cnd} (hok : ∀ c ∈ l, okC c = true) (h : firstR l 1 = none) : ∀ t, isU t → 0 < cntH l t := fun t ht => by
  have h1 := firstR_none hok h t ht
  have e : pS l 1 t = decide (cntH l t = 0) := rfl
  rw [e, decide_eq_false_iff_not] at h1
  omega
theorem equ_some {l : List Cnd} (hok : ∀ c ∈ l, okC c = true) {b : Str} (h : firstR l 3 = some b) : isU b ∧ cntH l b = 1 ∧ ∀ t, isU t → cntH l t = 1 → befB t b = false := by
  obtain ⟨h1, h2, h3⟩ := firstR_some hok h
  have e : ∀ t, pS l 3 t = decide (cntH l t = 1) := fun t => rfl
  refine ⟨h1, of_decide_eq_true ((e b).symm.trans h2), fun t ht hc => ?_⟩
  rw [Bool.eq_false_iff]
  intro hb
  exact h3 t ht ((e t).trans (decide_eq_true hc)) (befB_iff.1 hb)
theorem equ_none {l : List Cnd} (hok : ∀ c ∈ l, okC c = true) (h : firstR l 3 = none) : ∀ t, isU t → cntH l t ≠ 1 := fun t ht => by
  have h1 := firstR_none hok h t ht
  have e : pS l 3 t = decide (cntH l t = 1) := rfl
  rw [e, decide_eq_false_iff_not] at h1
  exact h1
set_option maxRecDepth 1000000 in
set_option maxHeartbeats 16000000 in
theorem decideTotal_walk (l : List Cnd) (v : Value) (s : ByteArray) (hs : s.size ≤ maxLen) (w : World) (hv : RdCs w v l) (hl : ∀ c ∈ l, ∀ k ∈ c, k.length ≤ 140737488355328) (hm : MaxL w) :
    Calls Tryz.prog 6 #[v, .string s] w fun e w' => e = .returned (.bool true) ∧ Below w.heap.size w w' := by
  have hmx : maxLen = 9223372036854775807 := by decide
  rw [hmx] at hs
  have HM := Lib.hid hm
  have HV := Lib.hid hv
  have HL := Lib.hid hl
  obtain ⟨a, cp, hva, _⟩ := hv.slice
  subst hva
  clear hm hv hl hmx
  go_enter Tryz.func6, Tryz.ntmps6
  go_wp2_with fail
  refine (awake_d _ HM.out).mono ?_
  rintro e w1 ⟨rfl, b1⟩
  have B2 := Lib.hid b1
  have M2 := Lib.hid (HM.out.below b1)
  have V2 := Lib.hid (HV.out.below b1)
  have F1 := Lib.hid (fewL_any l _ w1 V2.out)
  clear b1
  go_wp2_with fail
  refine F1.out.mono ?_
  rintro e w2 ⟨⟨bf, rfl, hf⟩, hw2⟩
  obtain rfl := hw2.symm
  have HF := Lib.hid hf
  clear hf F1 hw2
  cases bf with
  | false =>
    go_wp2_with fail
    refine (awake_d _ M2.out).mono ?_
    rintro e w4 ⟨rfl, b4⟩
    have B4 := Lib.hid (st B2.out b4 B2.out.size)
    clear b4
    go_wp2
    go_ret
    exact ⟨rfl, B4.out⟩
  | true =>
    have HL12 : Hid (l.length ≤ 12) := Lib.hid (HF.out rfl).1
    have HP := Lib.hid (tot_find l _ (fun x hx k hk => Nat.le_trans (HL.out x hx k hk) (by decide)) w1 V2.out M2.out)
    have HQ := Lib.hid (fun w4 (b4 : Below w1.heap.size w1 w4) => refTotal_any l _ (fun x hx => cnt_few10 ((HF.out rfl).2 x hx) (HL.out x hx)) w4 (V2.out.below b4))
    unfold FindP at HP HQ
    have HYES := Lib.hid (@findR_ok l 1 true)
    have HNO := Lib.hid (@findR_bad l 1 true)
    obtain ⟨R, hR⟩ : ∃ R, findR l 1 true = R := ⟨_, rfl⟩
    rw [hR] at HP HQ HYES HNO
    have HOK := Lib.hid (@validB_iff l)
    obtain ⟨q, hq⟩ : ∃ q, validB l = q := ⟨_, rfl⟩
    rw [hq] at HYES HNO HOK
    obtain ⟨A, okb, er⟩ := R
    dsimp only at HP HQ
    clear hR hq
    go_wp2_with fail
    refine HP.out.mono ?_
    rintro e w4 ⟨rfl, b4⟩
    have B4 := Lib.hid (st B2.out b4 B2.out.size)
    have V4 := Lib.hid (V2.out.below b4)
    have HQ4 := Lib.hid (HQ.out w4 b4)
    clear b4 HP HQ M2
    go_wp2_with fail
    refine HQ4.out.mono ?_
    rintro e w5 ⟨rfl, b5⟩
    have B5 := Lib.hid (st B4.out b5 B4.out.size)
    have RD := Lib.hid (V4.out.below b5)
    clear b5 HQ4 V4 B4 V2 B2
    cases q
    · have he := HNO.out rfl
      injection he with he1 he
      injection he with he2 he3
      subst he1 he2 he3
      go_wp2
      go_ret
      exact ⟨rfl, B5.out⟩
    · have hok : ∀ x ∈ l, okC x = true := (HOK.out.1 rfl).1
      have HSO := Lib.hid (fun b => @tot_some l hok b)
      have HNN := Lib.hid (@tot_none l hok)
      have HCK := Lib.hid hok
      have he := HYES.out rfl
      obtain ⟨F, hF⟩ : ∃ F, firstR l 1 = F := ⟨_, rfl⟩
      rw [hF] at he HSO HNN
      injection he with he1 he
      injection he with he2 he3
      subst he1 he2 he3
      have HUN := Lib.hid (fun w => unsigned_any s hs w)
      have HUI := Lib.hid (@uns_iff s.data.toList)
      obtain ⟨us, hus⟩ : ∃ b, uns s.data.toList = b := ⟨_, rfl⟩
      rw [hus] at HUN HUI
      have HCN : Hid (∀ w', us = true → Below w5.heap.size w5 w' → Calls Tryz.prog 30 #[.slice a l.length cp, .string s] w' fun e w2 => e = .returned (.int .i64 (cntH l s.data.toList : Nat)) ∧ Below w'.heap.size w' w2) := Lib.hid (fun w' hu hb => by
        have h := count10_any l _ (by have := HL12.out; omega) HCK.out s.data.toList (HUI.out.1 hu) w' (RD.out.below hb)
        rw [of_data] at h
        exact h)
      have HCB : Hid (∀ b, isU b → Calls Tryz.prog 30 #[.slice a l.length cp, .string (ofL b)] w5 fun e w2 => e = .returned (.int .i64 (cntH l b : Nat)) ∧ Below w5.heap.size w5 w2) := Lib.hid (fun b hu => count10_any l _ (by have := HL12.out; omega) HCK.out b hu w5 RD.out)
      obtain ⟨n, hn⟩ : ∃ n, cntH l s.data.toList = n := ⟨_, rfl⟩
      have HNE := Lib.hid hn
      rw [hn] at HCN
      have hn100 : n ≤ 100 := by rw [← hn]; have := cntH_le l s.data.toList; have := HL12.out; omega
      clear hok hF hus HYES HNO HOK hn
      cases F with
      | none =>
        have HN := Lib.hid (fun hu => HNN.out rfl s.data.toList (HUI.out.1 hu))
        rw [HNE.out] at HN
        clear HNN HSO
        go_wp2_with fail
        refine (HUN.out _).mono ?_
        rintro e w6 ⟨rfl, b6⟩
        have B6 := Lib.hid (st B5.out b6 B5.out.size)
        cases us with
        | false =>
          go_wp2
          go_ret
          exact ⟨rfl, B6.out⟩
        | true =>
          have H6 := Lib.hid (HCN.out w6 rfl b6)
          have t1 : decide ((0 : Int) < (n : Int)) = true := by have := HN.out rfl; rw [decide_eq_true_eq]; omega
          have t2 : decide (0 < n) = true := decide_eq_true (HN.out rfl)
          clear b6 HCN
          go_wp2_with fail
          refine H6.out.mono ?_
          rintro e w7 ⟨rfl, b7⟩
          have B7 := Lib.hid (st B6.out b7 B6.out.size)
          clear b7
          go_wp2
          go_ret
          exact ⟨rfl, B7.out⟩
      | some b =>
        obtain ⟨hub, hhb, hbef⟩ := HSO.out b rfl
        have HUB := Lib.hid hub
        have HBF := Lib.hid (fun hu => hbef s.data.toList (HUI.out.1 hu))
        rw [HNE.out] at HBF
        have H5 := Lib.hid (HCB.out b hub)
        rw [hhb] at H5
        clear hub hhb hbef HSO HNN
        go_wp2_with fail
        refine H5.out.mono ?_
        rintro e w6 ⟨rfl, b6⟩
        have B6 := Lib.hid (st B5.out b6 B5.out.size)
        have B56 := Lib.hid b6
        clear b6 H5
        go_wp2_with fail
        refine (HUN.out _).mono ?_
        rintro e w7 ⟨rfl, b7⟩
        have B7 := Lib.hid (st B6.out b7 B6.out.size)
        have B57 := Lib.hid (st B56.out b7 B56.out.size)
        clear b7
        cases us with
        | false =>
          go_wp2
          go_ret
          exact ⟨rfl, B7.out⟩
        | true =>
          have H7 := Lib.hid (HCN.out w7 rfl B57.out)
          have HB8 := Lib.hid (fun w => beforeR_any s (ofL b) (isU_dp (HUI.out.1 rfl)) (isU_dp HUB.out) hs (by rw [ofL_size]; have := (isU_len HUB.out).1; omega) w)
          rw [show (ofL b).data.toList = b from rfl] at HB8
          clear HCN HCB
          by_cases hz : n = 0
          · have he := HBF.out rfl hz
            rw [he] at HB8
            have t1 : decide ((0 : Int) < (n : Int)) = false := decide_eq_false (by omega)
            have t2 : decide (0 < n) = false := decide_eq_false (by omega)
            clear he hz HNE
            go_wp2_with fail
            refine H7.out.mono ?_
            rintro e w8 ⟨rfl, b8⟩
            have B8 := Lib.hid (st B7.out b8 B7.out.size)
            clear b8 H7
            go_wp2_with fail
            refine (HB8.out _).mono ?_
            rintro e w9 ⟨rfl, b9⟩
            have B9 := Lib.hid (st B8.out b9 B8.out.size)
            clear b9
            go_wp2
            go_ret
            exact ⟨rfl, B9.out⟩
          · have t1 : decide ((0 : Int) < (n : Int)) = true := decide_eq_true (by omega)
            have t2 : decide (0 < n) = true := decide_eq_true (by omega)
            clear hz HNE
            go_wp2_with fail
            refine H7.out.mono ?_
            rintro e w8 ⟨rfl, b8⟩
            have B8 := Lib.hid (st B7.out b8 B7.out.size)
            clear b8 H7
            go_wp2
            go_ret
            exact ⟨rfl, B8.out⟩
end Go.Proofs.YtfbfcomfkokfcaaGreatDoor


/- Of law 10: the law of Equivalent, walked. -/
namespace Go.Proofs.YtfbfcomfkokfcaaGreatDoor
open Go.RowKit Go.Maps
set_option linter.unusedVariables false

set_option maxRecDepth 1000000 in
set_option maxHeartbeats 16000000 in
theorem decideEquivalent_walk (c d : Cnd) (u v : Value) (s : ByteArray) (hs : s.size ≤ maxLen) (w : World) (hu : RdC w u c) (hlu : ∀ k ∈ c, k.length ≤ 140737488355328) (hv : RdC w v d) (hlv : ∀ k ∈ d, k.length ≤ 140737488355328) (hm : MaxL w) :
    Calls Tryz.prog 8 #[u, v, .string s] w fun e w' => e = .returned (.bool true) ∧ Below w.heap.size w w' := by
  have hmx : maxLen = 9223372036854775807 := by decide
  rw [hmx] at hs
  have HM := Lib.hid hm
  have HU := Lib.hid hu
  have HV := Lib.hid hv
  have HLU := Lib.hid hlu
  have HLV := Lib.hid hlv
  have HL : Hid (∀ x ∈ [c, d], ∀ k ∈ x, k.length ≤ 140737488355328) := Lib.hid (fun x hx => by
    rcases List.mem_cons.1 hx with rfl | hx
    · exact hlu
    · rw [List.mem_singleton.1 hx]; exact hlv)
  obtain ⟨a1, p1, hva, _⟩ := hu.slice
  subst hva
  obtain ⟨a2, p2, hva, _⟩ := hv.slice
  subst hva
  clear hm hu hv hlu hlv hmx
  go_enter Tryz.func8, Tryz.ntmps8
  go_wp2_with fail
  refine (awake_d _ HM.out).mono ?_
  rintro e w1 ⟨rfl, b1⟩
  have B1 := Lib.hid b1
  have M1 := Lib.hid (HM.out.below b1)
  have U1 := Lib.hid (HU.out.below b1)
  have V1 := Lib.hid (HV.out.below b1)
  have F1 := Lib.hid (fewL_any [c, d] _ _ (rdCs_two U1.out V1.out 23))
  have K1 := Lib.hid (below_al w1 (.cells #[.slice a1 c.length p1, .slice a2 d.length p2] 23))
  clear b1
  go_wp2_with fail
  refine F1.out.mono ?_
  rintro e w2 ⟨⟨bf, rfl, hf⟩, hw2⟩
  subst hw2
  have B2 := Lib.hid (st B1.out K1.out B1.out.size)
  have M2 := Lib.hid (M1.out.below K1.out)
  have U2 := Lib.hid (U1.out.below K1.out)
  have V2 := Lib.hid (V1.out.below K1.out)
  have HF := Lib.hid hf
  clear hf F1
  obtain ⟨w3, hw3⟩ : ∃ x, w1.alloc (.cells #[.slice a1 c.length p1, .slice a2 d.length p2] 23) = x := ⟨_, rfl⟩
  rw [hw3] at B2 M2 U2 V2
  rw [hw3]
  clear hw3 K1 B1 M1 U1 V1
  cases bf with
  | false =>
    go_wp2_with fail
    refine (awake_d _ M2.out).mono ?_
    rintro e w4 ⟨rfl, b4⟩
    have B4 := Lib.hid (st B2.out b4 B2.out.size)
    clear b4
    go_wp2
    go_ret
    exact ⟨rfl, B4.out⟩
  | true =>
    have HL12 : Hid ([c, d].length ≤ 12) := Lib.hid (HF.out rfl).1
    have HP := Lib.hid (equ_find c d _ _ (fun x hx k hk => Nat.le_trans (HL.out x hx k hk) (by decide)) w3 U2.out V2.out M2.out)
    have HQ := Lib.hid (fun w4 (b4 : Below w3.heap.size w3 w4) => refEqu_any c d _ _ (cnt_few10 ((HF.out rfl).2 c (by simp)) HLU.out) (cnt_few10 ((HF.out rfl).2 d (by simp)) HLV.out) w4 (U2.out.below b4) (V2.out.below b4))
    unfold FindP at HP HQ
    have HYES := Lib.hid (@findR_ok [c, d] 3 true)
    have HNO := Lib.hid (@findR_bad [c, d] 3 true)
    obtain ⟨R, hR⟩ : ∃ R, findR [c, d] 3 true = R := ⟨_, rfl⟩
    rw [hR] at HP HQ HYES HNO
    have HOK := Lib.hid (@validB_iff [c, d])
    obtain ⟨q, hq⟩ : ∃ q, validB [c, d] = q := ⟨_, rfl⟩
    rw [hq] at HYES HNO HOK
    obtain ⟨A, okb, er⟩ := R
    dsimp only at HP HQ
    clear hR hq
    go_wp2_with fail
    refine HP.out.mono ?_
    rintro e w4 ⟨rfl, b4⟩
    have B4 := Lib.hid (st B2.out b4 B2.out.size)
    have U4 := Lib.hid (U2.out.below b4)
    have V4 := Lib.hid (V2.out.below b4)
    have HQ4 := Lib.hid (HQ.out w4 b4)
    clear b4 HP HQ M2
    go_wp2_with fail
    refine HQ4.out.mono ?_
    rintro e w5 ⟨rfl, b5⟩
    have B5 := Lib.hid (st B4.out b5 B4.out.size)
    have U5 := Lib.hid (U4.out.below b5)
    have V5 := Lib.hid (V4.out.below b5)
    clear b5 HQ4 U4 V4 B4 U2 V2 B2
    cases q
    · have he := HNO.out rfl
      injection he with he1 he
      injection he with he2 he3
      subst he1 he2 he3
      go_wp2
      go_ret
      exact ⟨rfl, B5.out⟩
    · have hok : ∀ x ∈ [c, d], okC x = true := (HOK.out.1 rfl).1
      have HSO := Lib.hid (fun b => @equ_some [c, d] hok b)
      have HNN := Lib.hid (@equ_none [c, d] hok)
      have HCK := Lib.hid hok
      have he := HYES.out rfl
      obtain ⟨F, hF⟩ : ∃ F, firstR [c, d] 3 = F := ⟨_, rfl⟩
      rw [hF] at he HSO HNN
      injection he with he1 he
      injection he with he2 he3
      subst he1 he2 he3
      have HUN := Lib.hid (fun w => unsigned_any s hs w)
      have HUI := Lib.hid (@uns_iff s.data.toList)
      obtain ⟨us, hus⟩ : ∃ b, uns s.data.toList = b := ⟨_, rfl⟩
      rw [hus] at HUN HUI
      have RD := Lib.hid (rdCs_two U5.out V5.out 23)
      have BA := Lib.hid (st B5.out (below_al w5 (.cells #[.slice a1 c.length p1, .slice a2 d.length p2] 23)) B5.out.size)
      obtain ⟨wa, hwa⟩ : ∃ x, w5.alloc (.cells #[.slice a1 c.length p1, .slice a2 d.length p2] 23) = x := ⟨_, rfl⟩
      have HWA := Lib.hid hwa
      obtain ⟨bB, hbB⟩ : ∃ x, w5.heap.size = x := ⟨_, rfl⟩
      have HBB := Lib.hid hbB
      rw [hwa, hbB] at RD
      rw [hwa] at BA
      clear hwa hbB
      have HCN : Hid (∀ w', us = true → Below wa.heap.size wa w' → Calls Tryz.prog 30 #[.slice (some ⟨bB, 0, none⟩) 2 2, .string s] w' fun e w2 => e = .returned (.int .i64 (cntH [c, d] s.data.toList : Nat)) ∧ Below w'.heap.size w' w2) := Lib.hid (fun w' hu hb => by
        have h := count10_any [c, d] _ (by have := HL12.out; omega) HCK.out s.data.toList (HUI.out.1 hu) w' (RD.out.below hb)
        rw [of_data] at h
        exact h)
      have HCB : Hid (∀ b, isU b → Calls Tryz.prog 30 #[.slice (some ⟨bB, 0, none⟩) 2 2, .string (ofL b)] wa fun e w2 => e = .returned (.int .i64 (cntH [c, d] b : Nat)) ∧ Below wa.heap.size wa w2) := Lib.hid (fun b hu => count10_any [c, d] _ (by have := HL12.out; omega) HCK.out b hu wa RD.out)
      obtain ⟨n, hn⟩ : ∃ n, cntH [c, d] s.data.toList = n := ⟨_, rfl⟩
      have HNE := Lib.hid hn
      rw [hn] at HCN
      have hn100 : n ≤ 100 := by rw [← hn]; have := cntH_le [c, d] s.data.toList; have := HL12.out; omega
      clear hok hF hus HYES HNO HOK hn
      cases F with
      | none =>
        have HN := Lib.hid (fun hu => HNN.out rfl s.data.toList (HUI.out.1 hu))
        rw [HNE.out] at HN
        clear HNN HSO
        go_upto_region 10 with fail
        rw [HWA.out]
        try rw [HBB.out]
        go_wp2_with fail
        refine (HUN.out _).mono ?_
        rintro e w6 ⟨rfl, b6⟩
        have B6 := Lib.hid (st BA.out b6 BA.out.size)
        cases us with
        | false =>
          go_wp2
          go_ret
          exact ⟨rfl, B6.out⟩
        | true =>
          have H6 := Lib.hid (HCN.out w6 rfl b6)
          have t1 : ((n : Int) != 1) = true := by have := HN.out rfl; simp; omega
          have t2 : ((n : Int) == 1) = false := by have := HN.out rfl; rw [beq_eq_false_iff_ne]; omega
          clear b6 HCN
          go_wp2_with fail
          refine H6.out.mono ?_
          rintro e w7 ⟨rfl, b7⟩
          have B7 := Lib.hid (st B6.out b7 B6.out.size)
          clear b7
          go_wp2
          go_ret
          exact ⟨rfl, B7.out⟩
      | some b =>
        obtain ⟨hub, hhb, hbef⟩ := HSO.out b rfl
        have HUB := Lib.hid hub
        have HBF := Lib.hid (fun hu => hbef s.data.toList (HUI.out.1 hu))
        rw [HNE.out] at HBF
        have H5 := Lib.hid (HCB.out b hub)
        rw [hhb] at H5
        clear hub hhb hbef HSO HNN
        go_upto_region 10 with fail
        rw [HWA.out]
        try rw [HBB.out]
        go_wp2_with fail
        refine H5.out.mono ?_
        rintro e w6 ⟨rfl, b6⟩
        have B6 := Lib.hid (st BA.out b6 BA.out.size)
        have B56 := Lib.hid b6
        clear b6 H5
        go_wp2_with fail
        refine (HUN.out _).mono ?_
        rintro e w7 ⟨rfl, b7⟩
        have B7 := Lib.hid (st B6.out b7 B6.out.size)
        have B57 := Lib.hid (st B56.out b7 B56.out.size)
        clear b7
        cases us with
        | false =>
          go_wp2
          go_ret
          exact ⟨rfl, B7.out⟩
        | true =>
          have H7 := Lib.hid (HCN.out w7 rfl B57.out)
          have HB8 := Lib.hid (fun w => beforeR_any s (ofL b) (isU_dp (HUI.out.1 rfl)) (isU_dp HUB.out) hs (by rw [ofL_size]; have := (isU_len HUB.out).1; omega) w)
          rw [show (ofL b).data.toList = b from rfl] at HB8
          clear HCN HCB
          by_cases hz : n = 1
          · have he := HBF.out rfl hz
            rw [he] at HB8
            have t1 : ((n : Int) != 1) = false := by simp; omega
            have t2 : ((n : Int) == 1) = true := by rw [beq_iff_eq]; omega
            clear he hz HNE
            go_wp2_with fail
            refine H7.out.mono ?_
            rintro e w8 ⟨rfl, b8⟩
            have B8 := Lib.hid (st B7.out b8 B7.out.size)
            clear b8 H7
            go_wp2_with fail
            refine (HB8.out _).mono ?_
            rintro e w9 ⟨rfl, b9⟩
            have B9 := Lib.hid (st B8.out b9 B8.out.size)
            clear b9
            go_wp2
            go_ret
            exact ⟨rfl, B9.out⟩
          · have t1 : ((n : Int) != 1) = true := by simp; omega
            have t2 : ((n : Int) == 1) = false := by rw [beq_eq_false_iff_ne]; omega
            clear hz HNE
            go_wp2_with fail
            refine H7.out.mono ?_
            rintro e w8 ⟨rfl, b8⟩
            have B8 := Lib.hid (st B7.out b8 B7.out.size)
            clear b8 H7
            go_wp2
            go_ret
            exact ⟨rfl, B8.out⟩
end Go.Proofs.YtfbfcomfkokfcaaGreatDoor


