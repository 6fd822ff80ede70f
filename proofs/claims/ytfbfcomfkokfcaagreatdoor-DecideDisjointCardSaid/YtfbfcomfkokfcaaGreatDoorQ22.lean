/- What the row stands on, part 22. -/
import Derived.Test.YtfbfcomfkokfcaaGreatDoorQ21

/- Of law 10: the law of Disjoint, walked. -/
namespace Go.Proofs.YtfbfcomfkokfcaaGreatDoor
open Go.RowKit Go.Maps
set_option linter.unusedVariables false

theorem encRu_one (x : Str × RawS) : ∀ u ∈ encRu x, u.oneCell' = true := by
  intro u hu
  simp [encRu] at hu
  rcases hu with rfl | rfl <;> rfl
theorem Tryz.infoRu : (Tryz.prog.info? 57).map (fun i => (i.zero, i.size, i.bytes)) = some (some (.agg #[.string ⟨#[]⟩, .slice none 0 0]), 2, 40) := by kernel_rfl
theorem dis_prog (rs : List (Str × Cnd)) (v : Value) (h1000 : rs.length ≤ 1000) (hbig : ∀ c ∈ rs.map Prod.snd, ∀ l ∈ c, l.length ≤ 4611686018427387904) (w : World) (hv : RdRules w v rs) (hm : MaxL w) :
    Calls Tryz.prog 31 #[v] w (DisRP (rs.map Prod.snd) (validB (rs.map Prod.snd)) w) := by
  have hlen : (rs.map Prod.snd).length = rs.length := List.length_map _
  cases hq : validB (rs.map Prod.snd) with
  | true =>
    obtain ⟨h1, h2⟩ := validB_iff.1 hq
    refine (disjoint_any rs v (by omega) h1 w hv hm).mono ?_
    rintro e w' ⟨i, j, W, er, rfl, hA, hb⟩
    exact ⟨i, j, W, er, rfl, by rw [if_pos rfl]; exact hA, hb⟩
  | false =>
    refine (disjointBad_any rs v h1000 hbig (fun h => by
      rw [validB_iff.2 ⟨h.2, by omega⟩] at hq
      cases hq) w hv).mono ?_
    rintro e w' ⟨rfl, hb⟩
    exact ⟨0, 0, [], 1, rfl, by rw [if_neg (by decide)], hb⟩
theorem two_of {α : Type} (p : α → Bool) : ∀ l : List α, 2 ≤ (l.filter p).length → ∃ (i j : Nat) (hi : i < l.length) (hj : j < l.length), i < j ∧ p l[i] = true ∧ p l[j] = true
  | [], h => by simp at h
  | x :: l, h => by
    rw [List.filter_cons] at h
    by_cases hx : p x = true
    · rw [if_pos hx, List.length_cons] at h
      have h1 : 0 < (l.filter p).length := by omega
      obtain ⟨y, hy⟩ := List.exists_mem_of_length_pos h1
      obtain ⟨hy1, hy2⟩ := List.mem_filter.1 hy
      obtain ⟨k, hk, rfl⟩ := List.getElem_of_mem hy1
      exact ⟨0, k + 1, by simp, by simp; exact hk, by omega, hx, hy2⟩
    · rw [if_neg hx] at h
      obtain ⟨i, j, hi, hj, h1, h2, h3⟩ := two_of p l h
      exact ⟨i + 1, j + 1, by simp; exact hi, by simp; exact hj, by omega, h2, h3⟩
theorem dis_none {cs : List Cnd} (hok : ∀ c ∈ cs, okC c = true) (h : ∀ i j, i < j → j < cs.length → disP cs i j = none) : ∀ t, isU t → cntH cs t ≤ 1 := fun t ht => by
  rcases Nat.lt_or_ge 1 (cntH cs t) with h2 | h2
  · exfalso
    obtain ⟨i, j, hi, hj, hij, h3, h4⟩ := two_of (fun c => hldC t c) cs h2
    have h5 := h i j hij hj
    rw [disP_isSome hi hj] at h5
    have h6 := firstR_none (l := [cs[i], cs[j]]) (fun c hc => by
      rcases List.mem_cons.1 hc with rfl | hc
      · exact hok _ (List.getElem_mem hi)
      · rw [List.mem_singleton.1 hc]; exact hok _ (List.getElem_mem hj)) h5 t ht
    have e : pS [cs[i], cs[j]] 2 t = true := by
      unfold pS cntH
      rw [List.filter_cons, if_pos h3, List.filter_cons, if_pos h4]
      rfl
    rw [e] at h6
    cases h6
  · exact h2
theorem dis_some {cs : List Cnd} (hok : ∀ c ∈ cs, okC c = true) {i j : Nat} (hij : i < j) (hj : j < cs.length) {W : Str} (h : disP cs i j = some W) : isU W ∧ cntH [cs[i]'(by omega), cs[j]] W = 2 := by
  have hi : i < cs.length := by omega
  rw [disP_isSome hi hj] at h
  obtain ⟨h1, h2, h3⟩ := firstR_some (l := [cs[i], cs[j]]) (fun c hc => by
      rcases List.mem_cons.1 hc with rfl | hc
      · exact hok _ (List.getElem_mem hi)
      · rw [List.mem_singleton.1 hc]; exact hok _ (List.getElem_mem hj)) h
  exact ⟨h1, of_decide_eq_true h2⟩
def rulesF (l : List Cnd) : List (Str × Cnd) := l.map fun c => ([102, 101, 119], c)
theorem rulesF_snd (l : List Cnd) : (rulesF l).map Prod.snd = l := by
  unfold rulesF
  rw [List.map_map]
  exact List.map_id _
theorem rulesF_len (l : List Cnd) : (rulesF l).length = l.length := List.length_map _
def RulI (w : World) (B : Nat) (l : List Cnd) (k : Nat) (v : Value) (wr : World) : Prop := ∃ raws : List (Str × RawS), Own1 2 encRu wr B 57 v raws ∧ raws.length = k ∧ (∀ (i : Nat) (h : i < raws.length) (h' : i < l.length), RdC w (.slice raws[i].2.a raws[i].2.n raws[i].2.c) l[i]) ∧ Below B w wr
theorem RulI.rd {w wr : World} {B : Nat} {l : List Cnd} {v : Value} (h : RulI w B l l.length v wr) (hB : B = w.heap.size) : RdRules wr v (rulesF l) := by
  obtain ⟨raws, h1, h2, h3, h4⟩ := h
  subst hB
  refine ⟨raws, h1.rd encRu_len, by rw [rulesF_len, h2], fun i a b => ?_⟩
  have hi : i < l.length := by rw [rulesF_len] at b; exact b
  have e : (rulesF l)[i].2 = l[i] := by simp [rulesF]
  rw [e]
  exact (h3 i a hi).below h4
theorem disRP_same {cs : List Cnd} {q : Bool} {a b : Nat × Nat × Str × Nat} (ha : if q = true then DisA cs (a.1, a.2.1, a.2.2.1, a.2.2.2) else (a.1, a.2.1, a.2.2.1, a.2.2.2) = (0, 0, [], 1)) (hb : if q = true then DisA cs (b.1, b.2.1, b.2.2.1, b.2.2.2) else (b.1, b.2.1, b.2.2.1, b.2.2.2) = (0, 0, [], 1)) : a = b := by
  cases q
  · rw [if_neg (by decide)] at ha hb
    exact ha.trans hb.symm
  · rw [if_pos rfl] at ha hb
    exact ha.uniq hb
set_option maxRecDepth 1000000 in
set_option maxHeartbeats 16000000 in
theorem decideDisjoint_walk (l : List Cnd) (v : Value) (s : ByteArray) (hs : s.size ≤ maxLen) (w : World) (hv : RdCs w v l) (hl : ∀ c ∈ l, ∀ k ∈ c, k.length ≤ 140737488355328) (hm : MaxL w) :
    Calls Tryz.prog 7 #[v, .string s] w fun e w' => e = .returned (.bool true) ∧ Below w.heap.size w w' := by
  have hmx : maxLen = 9223372036854775807 := by decide
  rw [hmx] at hs
  obtain ⟨iU, hiU, hzU, hkU, hbU⟩ := info_parts Tryz.infoRu
  have HM := Lib.hid hm
  have HV := Lib.hid hv
  have HL := Lib.hid hl
  obtain ⟨a, cp, hva, hc1, hc2⟩ := hv.slice
  subst hva
  clear hm hv hl hmx
  go_enter Tryz.func7, Tryz.ntmps7
  go_wp2_with fail
  refine (awake_d _ HM.out).mono ?_
  rintro e w1 ⟨rfl, b1⟩
  have B2 := Lib.hid b1
  have M2 := Lib.hid (HM.out.below b1)
  have V2 := Lib.hid (HV.out.below b1)
  have F1 := Lib.hid (fewL_any l _ w1 V2.out)
  clear b1
  go_wp2_with fail
  refine F1.out.mono ?_
  rintro e w2 ⟨⟨bf, rfl, hf⟩, hw2⟩
  obtain rfl := hw2.symm
  have HF := Lib.hid hf
  clear hf F1 hw2
  cases bf with
  | false =>
    go_wp2_with fail
    refine (awake_d _ M2.out).mono ?_
    rintro e w4 ⟨rfl, b4⟩
    have B4 := Lib.hid (st B2.out b4 B2.out.size)
    clear b4
    go_wp2
    go_ret
    exact ⟨rfl, B4.out⟩
  | true =>
    have HL12 : Hid (l.length ≤ 12) := Lib.hid (HF.out rfl).1
    have HC30 : Hid (∀ c ∈ l, c.length ≤ 30) := Lib.hid (HF.out rfl).2
    clear HF
    obtain ⟨B0, hB0⟩ : ∃ b, w1.heap.size = b := ⟨_, rfl⟩
    have HB0 := Lib.hid hB0
    have HST : Hid (RulI w1 B0 l 0 (.slice none 0 0) w1) := Lib.hid ⟨[], own1_nil _ _ _, rfl, fun i a b => by simp at a, by rw [← hB0]; exact Below.refl _ _⟩
    clear hB0
    go_wp2_with fail
    go_loopw [5, 25] (fun v5 v25 wr => ∃ k : Nat, k ≤ l.length ∧ v25 = .int .i64 k ∧ RulI w1 B0 l k v5 wr) (fun _ v25 _ => l.length - (intOf v25).toNat)
    case atStart => exact ⟨0, Nat.zero_le _, rfl, HST.out⟩
    case round =>
      rename World => wj
      obtain ⟨k, hk, rfl, hri⟩ := hrel
      have hl12 := HL12.out
      by_cases hlt : k < l.length
      · obtain ⟨raws, ho, hlr, hr, hb⟩ := hri
        have HO := Lib.hid ho
        have HLR := Lib.hid hlr
        have HR := Lib.hid hr
        have HB := Lib.hid hb
        clear ho hlr hr hb
        have HBW : Hid (Below w1.heap.size w1 wj) := Lib.hid (by rw [HB0.out]; exact HB.out)
        obtain ⟨bk, off, x1, x2, rfl, h0, h4⟩ := V2.out.at_ k hlt
        have h0 := (HBW.out.cell (p := ⟨bk, off + k, none⟩) (World.block_lt_of_cell? _ _ h0)).trans h0
        have h9 : (k : Int) < (l.length : Int) := by omega
        have HCD := Lib.hid h4
        obtain ⟨n, hn⟩ : ∃ n, l[k].length = n := ⟨_, rfl⟩
        rw [hn] at h0
        have HNL := Lib.hid hn
        have HZW : Hid (B0 ≤ wj.heap.size) := Lib.hid (by rw [← HB0.out]; exact HBW.out.size)
        clear h4 hn
        go_wp2_with (first | (at_builtin; refine wpList_append_lie (w0 := wj) (x := (([102, 101, 119], ⟨x1, n, x2⟩) : Str × RawS)) (N := wj.heap.size) rfl rfl _ _ 55 rfl B0 iU _ 40 Tryz.underlying55 hiU hzU hkU hbU (by omega) rfl (by omega) encRu_len encRu_one _ raws rfl rfl HO.out rfl (by have := HLR.out; omega) HZW.out ?_; intro v9 w9 y9; have Y9 := Lib.hid y9; clear y9) | fail)
        have HGN : Hid (RulI w1 B0 l (k + 1) v9 w9) := Lib.hid ⟨_, Y9.out.1, by rw [List.length_append, HLR.out]; rfl, fun i a b => by
          rw [List.length_append] at a
          by_cases hi : i < raws.length
          · rw [List.getElem_append_left hi]
            exact HR.out i hi b
          · have hk' : i = raws.length := by simp at a; omega
            subst hk'
            rw [List.getElem_append_right (Nat.le_refl _)]
            have e2 : l[raws.length] = l[k] := by simp only [HLR.out]
            rw [e2]
            have := HCD.out
            rw [HNL.out] at this
            simpa using this, HB.out.trans Y9.out.2.1⟩
        clear Y9
        go_wp2
        go_roundw
        case measure => simp [intOf]; omega
        case rel => exact ⟨k + 1, by omega, by go_num, HGN.out⟩
      · obtain rfl : k = l.length := by omega
        have h3 : ¬ (l.length : Int) < (l.length : Int) := by omega
        have hRD := hri.rd HB0.out.symm
        have HBJ : Hid (Below w1.heap.size w1 wj) := Lib.hid (by rw [HB0.out]; exact hri.choose_spec.2.2.2)
        obtain ⟨p5, q5, rfl, _, _⟩ := hRD.slice
        have HRD := Lib.hid hRD
        have HSN := Lib.hid (rulesF_snd l)
        have HSL := Lib.hid (rulesF_len l)
        have B3 := Lib.hid (st B2.out HBJ.out B2.out.size)
        have M3 := Lib.hid (M2.out.below HBJ.out)
        have V3 := Lib.hid (V2.out.below HBJ.out)
        have HP := Lib.hid (dis_prog (rulesF l) _ (by rw [rulesF_len]; omega) (by rw [rulesF_snd]; exact fun x hx k hk => Nat.le_trans (HL.out x hx k hk) (by decide)) wj HRD.out M3.out)
        have HQ := Lib.hid (fun w4 (b4 : Below wj.heap.size wj w4) => refDis_any (rulesF l) _ (by rw [rulesF_len]; omega) (by rw [rulesF_snd]; exact fun x hx => cnt_few10 (HC30.out x hx) (HL.out x hx)) w4 (HRD.out.below b4))
        rw [HSN.out] at HP HQ
        clear hri hRD HBJ V2 M2 HRD
        go_wp2_with fail
        refine HP.out.mono ?_
        rintro e w4 ⟨i, j, W, er, rfl, hA, b4⟩
        have B4 := Lib.hid (st B3.out b4 B3.out.size)
        have V4 := Lib.hid (V3.out.below b4)
        have HQ4 := Lib.hid (HQ.out w4 b4)
        have HA := Lib.hid hA
        clear b4 HP HQ M3 hA
        go_wp2_with fail
        refine HQ4.out.mono ?_
        rintro e w5 ⟨i', j', W', er', rfl, hA', b5⟩
        have B5 := Lib.hid (st B4.out b5 B4.out.size)
        have V5 := Lib.hid (V4.out.below b5)
        have hsame := disRP_same (a := (i, j, W, er)) (b := (i', j', W', er')) HA.out hA'
        injection hsame with e1 hsame
        injection hsame with e2 hsame
        injection hsame with e3 e4
        subst e1 e2 e3 e4
        clear b5 HQ4 V4 B4 V3 B3 B2 hA'
        have HOK := Lib.hid (@validB_iff l)
        obtain ⟨q, hq⟩ : ∃ q, validB l = q := ⟨_, rfl⟩
        have hA := HA.out
        rw [hq] at hA HOK
        clear HA hq
        cases q
        · rw [if_neg (by decide)] at hA
          injection hA with e1 hA
          injection hA with e2 hA
          injection hA with e3 e4
          subst e1 e2 e3 e4
          go_wp2
          go_ret
          exact ⟨rfl, B5.out⟩
        · rw [if_pos rfl] at hA
          have hok : ∀ x ∈ l, okC x = true := (HOK.out.1 rfl).1
          have HCK := Lib.hid hok
          rcases hA with ⟨i', j', W', hij, hj, hd, hnb, hr⟩ | ⟨hnn, hr⟩
          · injection hr with e1 hr
            injection hr with e2 hr
            injection hr with e3 e4
            subst e1 e2 e3 e4
            have hil : i < l.length := by omega
            obtain ⟨hUW, hC2⟩ := dis_some hok hij hj hd
            obtain ⟨bC, oC, x1, x2, rfl, ci, hci⟩ := V5.out.at_ i hil
            obtain ⟨bC', oC', y1, y2, hpe, cj, hcj⟩ := V5.out.at_ j hj
            injection hpe with hpe
            injection hpe with hpe1 hpe2
            subst hpe1 hpe2
            have h7 : (i : Int) < (l.length : Int) := by omega
            have h8 : (j : Int) < (l.length : Int) := by omega
            have HRD := Lib.hid (rdCs_two hci hcj 23)
            have HCT := Lib.hid (count10_any [l[i], l[j]] _ (by simp) (fun c hc => by
              rcases List.mem_cons.1 hc with rfl | hc
              · exact hok _ (List.getElem_mem hil)
              · rw [List.mem_singleton.1 hc]; exact hok _ (List.getElem_mem hj)) W hUW _ (HRD.out.below (Below.refl _ _).drew))
            rw [hC2] at HCT
            obtain ⟨n1, hn1⟩ : ∃ n, l[i].length = n := ⟨_, rfl⟩
            obtain ⟨n2, hn2⟩ : ∃ n, l[j].length = n := ⟨_, rfl⟩
            rw [hn1] at ci HCT
            rw [hn2] at cj HCT
            have HSZ := Lib.hid (show Below w5.heap.size w5 (w5.alloc (.cells #[.slice x1 n1 x2, .slice y1 n2 y2] 23)).drew from (below_al _ _).drew)
            have HKP : Hid (∀ wx, Below w5.heap.size w5 wx → wx.cell? ⟨bC, oC + i, none⟩ = some (.slice x1 n1 x2) ∧ wx.cell? ⟨bC, oC + j, none⟩ = some (.slice y1 n2 y2)) := Lib.hid (fun wx hb => ⟨(hb.cell (p := ⟨bC, oC + i, none⟩) (World.block_lt_of_cell? _ _ ci)).trans ci, (hb.cell (p := ⟨bC, oC + j, none⟩) (World.block_lt_of_cell? _ _ cj)).trans cj⟩)
            clear hn1 hn2 hci hcj HRD hUW hC2 hd hnb hok
            go_upto_region 14 with fail
            go_region_held3 (fun wx => wx.cell? ⟨bC, oC + i, none⟩ = some (.slice x1 n1 x2) ∧ wx.cell? ⟨bC, oC + j, none⟩ = some (.slice y1 n2 y2)) (first | exact ⟨ci, cj⟩ | exact HKP.out _ HSZ.out | exact HKP.out _ HB7.out) ((go_at_call 30; refine (HCT.out).mono ?_; rintro e w7 ⟨rfl, b7⟩; have HB7 := Lib.hid (HSZ.out.trans (b7.mono HSZ.out.size)); clear b7))
            all_goals (
              have HBE := Lib.hid (st B5.out HB7.out B5.out.size)
              go_wp2
              go_ret
              exact ⟨rfl, HBE.out⟩)
          · injection hr with e1 hr
            injection hr with e2 hr
            injection hr with e3 e4
            subst e1 e2 e3 e4
            have HNN := Lib.hid (dis_none hok hnn)
            have HUN := Lib.hid (fun w => unsigned_any s hs w)
            have HUI := Lib.hid (@uns_iff s.data.toList)
            obtain ⟨us, hus⟩ : ∃ b, uns s.data.toList = b := ⟨_, rfl⟩
            rw [hus] at HUN HUI
            clear hok hnn hus
            go_wp2_with fail
            refine (HUN.out _).mono ?_
            rintro e w6 ⟨rfl, b6⟩
            have B6 := Lib.hid (st B5.out b6 B5.out.size)
            cases us with
            | false =>
              go_wp2
              go_ret
              exact ⟨rfl, B6.out⟩
            | true =>
              have H6 := Lib.hid (count10_any l _ (by omega) HCK.out s.data.toList (HUI.out.1 rfl) w6 (V5.out.below b6))
              rw [of_data] at H6
              have hle := HNN.out s.data.toList (HUI.out.1 rfl)
              obtain ⟨n, hn⟩ : ∃ n, cntH l s.data.toList = n := ⟨_, rfl⟩
              rw [hn] at H6 hle
              have t1 : (n : Int) ≤ 1 := by omega
              clear b6 hn
              go_wp2_with fail
              refine H6.out.mono ?_
              rintro e w7 ⟨rfl, b7⟩
              have B7 := Lib.hid (st B6.out b7 B6.out.size)
              clear b7
              go_wp2
              go_ret
              exact ⟨rfl, B7.out⟩
end Go.Proofs.YtfbfcomfkokfcaaGreatDoor


