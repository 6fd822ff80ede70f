/- What the row stands on, part 18. -/
import Derived.Lib.AppendZerosOnto
import Derived.Lib.SliceRun
import Derived.Lib.Walk
import Derived.Test.YtfbfcomfkokfcaaGreatDoorQ17

/- Of decide: Weight. -/
namespace Go.Proofs.YtfbfcomfkokfcaaGreatDoor
open Go.RowKit Go.Maps
set_option linter.unusedVariables false

/-! ### slices.Grow of a list that is not there yet -/
theorem own_fresh (w : World) (n G : Nat) (hG : n ≤ G) (hG63 : G ≤ maxLen) (Z : Array Value) (hz : Z.size = 4) :
    Own1 4 encR (w.alloc (.cells (Builtin.zeroCells Z n ++ Builtin.zeroCells Z (G - n)) 72)).drew w.heap.size 72 (.slice (some ⟨w.heap.size, 0, none⟩) 0 G) ([] : List RawR) := by
  refine ⟨rfl, .inr ⟨w.heap.size, G, Builtin.zeroCells Z n ++ Builtin.zeroCells Z (G - n), rfl, Nat.le_refl _, heap_alloc_new w _, ?_⟩⟩
  refine ⟨Nat.zero_le _, hG63, ?_, ?_⟩
  · rw [Array.size_append, size_zeroCells, size_zeroCells, hz, ← Nat.add_mul]
    congr 1
    omega
  · simp
set_option maxRecDepth 1000000 in
set_option maxHeartbeats 8000000 in
theorem growR_any (n : Nat) (h0 : 0 < n) (h6 : n ≤ 100) (w : World) :
    Calls Tryz.prog 79 #[.slice none 0 0, .int .i64 (n : Int)] w fun e w' => ∃ v, e = .returned v ∧ Own1 4 encR w' w.heap.size 72 v ([] : List RawR) ∧ Below w.heap.size w w' := by
  obtain ⟨iR, hiR, hzR, hkR, hbR⟩ := info_parts Tryz.infoR
  have h1 : ¬ ((n : Int) < 0) := by omega
  have h4 : (n : Int) > 0 := by omega
  obtain ⟨z, hz⟩ : ∃ z, z = Value.agg #[.int .i64 0, .int .i64 0, .bool false, .slice none 0 0] := ⟨_, rfl⟩
  have hz4 : z.cells.size = 4 := by rw [hz]; rfl
  rw [← hz] at hzR
  obtain ⟨Z, hZ⟩ : ∃ Z, z.cells = Z := ⟨_, rfl⟩
  rw [hZ] at hz4
  have hold : (Builtin.firstCells iR.size 0 (.slice none 0 0)).run Tryz.prog w.drew = .ok #[] w.drew := run_firstCells_none w.drew iR.size 0 0 0
  have hrz : ∀ ty, (Builtin.append_ #[68, 3] ty #[.slice none 0 0, .int .i64 (n : Int)]).run Tryz.prog w = .ok (.slice (some ⟨w.heap.size, 0, none⟩) n (grownCap w n 0 72)) (w.alloc (.cells (Builtin.zeroCells Z n ++ Builtin.zeroCells Z (grownCap w n 0 72 - n)) 72)).drew := fun ty => by
    have h := Go.Lib.run_append_grow_zeros (P := Tryz.prog) w 68 3 ty 72 iR z .i64 .i64 Tryz.underlying68 Tryz.underlying3 hiR hzR none 0 0 [] hold n h0 (by omega) (by omega) (by omega) (by rw [hbR]; omega) (growslice_fits (by omega) (by rw [hbR]; omega))
    rw [Nat.zero_add, hZ] at h
    rw [h]
    have e0 : (([] : List Value).toArray ++ Builtin.zeroCells Z n ++ Builtin.zeroCells Z (grownCap w n 0 72 - n)) = Builtin.zeroCells Z n ++ Builtin.zeroCells Z (grownCap w n 0 72 - n) := by simp
    rw [e0]
    rfl
  have hGn : n ≤ grownCap w n 0 72 := grownCap_ge w _ _ _
  have hG63 : grownCap w n 0 72 ≤ maxLen := grownCap_le_maxLen w n 0 72 (by unfold maxLen; omega)
  obtain ⟨G, hG⟩ : ∃ G, G = grownCap w n 0 72 := ⟨_, rfl⟩
  rw [← hG] at hrz hGn hG63
  have HO := Lib.hid (own_fresh w n G hGn hG63 Z hz4)
  have HB := Lib.hid (Below.drew (below_al w (.cells (Builtin.zeroCells Z n ++ Builtin.zeroCells Z (G - n)) 72)))
  have hG64 : G ≤ 9223372036854775807 := by unfold maxLen at hG63; omega
  clear hold hG hZ hz hz4 hiR hzR hkR hbR hG63
  go_enter Tryz.func79, Tryz.ntmps79
  go_wp2_with (at_builtin; refine Go.Lib.wpList_append_run _ rfl _ _ _ _ rfl _ _ rfl rfl _ _ (hrz _) ?_)
  all_goals (go_ret; exact ⟨_, rfl, HO.out, HB.out⟩)
end Go.Proofs.YtfbfcomfkokfcaaGreatDoor


/- Of decide: slices.Concat of a condition, Weight. -/
namespace Go.Proofs.YtfbfcomfkokfcaaGreatDoor
open Go.RowKit Go.Maps
set_option linter.unusedVariables false

theorem rel_app {w : World} {A A' : List RawR} {B B' : List Rel} (hl : A.length = B.length) (h : ∀ (i : Nat) (a : i < A.length) (b : i < B.length), RdRel w A[i] B[i]) (h' : ∀ (i : Nat) (a : i < A'.length) (b : i < B'.length), RdRel w A'[i] B'[i]) :
    ∀ (i : Nat) (a : i < (A ++ A').length) (b : i < (B ++ B').length), RdRel w (A ++ A')[i] (B ++ B')[i] := fun i a b => by
  by_cases hi : i < A.length
  · rw [List.getElem_append_left hi, List.getElem_append_left (show i < B.length by omega)]
    exact h i hi (by omega)
  · rw [List.length_append] at a b
    rw [List.getElem_append_right (by omega), List.getElem_append_right (by omega)]
    have e : i - A.length = i - B.length := by omega
    have := h' (i - B.length) (by omega) (by omega)
    simp only [hl]
    exact this
set_option maxRecDepth 1000000 in
set_option maxHeartbeats 8000000 in
theorem concat_any (c : Cnd) (hok : okC c = true) (v : Value) (w : World) (hv : RdC w v c) :
    Calls Tryz.prog 40 #[v] w fun e w' => ∃ v', e = .returned v' ∧ RdRels w' v' (c.flatMap id) ∧ Below w.heap.size w w' := by
  obtain ⟨iR, hiR, hzR, hkR, hbR⟩ := info_parts Tryz.infoR
  have hokc := okC_iff.1 hok
  obtain ⟨FL, hFL⟩ : ∃ F, c.flatMap id = F := ⟨_, rfl⟩
  rw [hFL]
  have HFL := Lib.hid hFL
  clear hFL
  obtain ⟨ac, cc, rfl, hc1, hc2⟩ := hv.slice
  have HU := Lib.hid hv
  have HCN : Hid (cnt c ≤ 6) := Lib.hid hokc.2.2
  have HC1 : Hid (0 < cnt c) := Lib.hid (by have := len_le_cnt hokc.2.1; omega)
  have HFC := Lib.hid (flat_cnt c)
  have HZ0 : Hid (cnt (c.take 0) = 0) := Lib.hid rfl
  clear hv hok hokc
  go_enter Tryz.func40, Tryz.ntmps40
  go_wp2
  go_loopw [3, 11] (fun v3 v11 wr => ∃ k : Nat, k ≤ c.length ∧ v11 = .int .i64 k ∧ v3 = .int .i64 (cnt (c.take k) : Nat) ∧ wr = w) (fun _ v11 _ => c.length - (intOf v11).toNat)
  case atStart => exact ⟨0, Nat.zero_le _, rfl, by rw [HZ0.out]; rfl, rfl⟩
  case round =>
    rename World => wr
    obtain ⟨k, hk, rfl, rfl, hwr⟩ := hrel
    obtain rfl : w = wr := hwr.symm
    clear hwr
    obtain ⟨S, hS⟩ : ∃ S, cnt (c.take k) = S := ⟨_, rfl⟩
    rw [hS]
    by_cases hlt : k < c.length
    · obtain ⟨bk, off, x1, x2, rfl, c0, hcd⟩ := HU.out.at_ k hlt
      have h9 : (k : Int) < (c.length : Int) := by omega
      have HT := Lib.hid (cnt_take_succ hlt)
      have HLE := Lib.hid (cnt_take_le c (k + 1))
      obtain ⟨l, hl⟩ : ∃ l, c[k] = l := ⟨_, rfl⟩
      rw [hl] at c0 HT
      obtain ⟨n, hn⟩ : ∃ n, l.length = n := ⟨_, rfl⟩
      rw [hn, hS] at HT
      rw [hn] at c0
      have h8 : ¬ ((S : Int) + (n : Int) < 0) := by omega
      have h7 : S + n ≤ 6 := by have := HT.out; have := HLE.out; have := HCN.out; omega
      clear hl hn hS hcd
      go_wp2
      go_roundw
      case measure => simp [intOf]; omega
      case rel => exact ⟨k + 1, by omega, by go_num, by rw [HT.out] <;> go_num, by first | rfl | trivial⟩
    · obtain rfl : k = c.length := by omega
      have h3 : ¬ (c.length : Int) < (c.length : Int) := by omega
      have HSE : Hid (S = cnt c) := Lib.hid (by rw [← hS, List.take_length])
      have HGR := Lib.hid (growR_any S (by rw [HSE.out]; exact HC1.out) (by have := HSE.out; have := HCN.out; omega) w)
      clear hS
      go_wp2_with fail
      refine HGR.out.mono ?_
      rintro e w1 ⟨v1, rfl, ho, hb⟩
      have HO := Lib.hid ho
      have HB := Lib.hid hb
      clear ho hb
      go_wp2_with fail
      go_loopw [6, 27] (fun v6 v27 wr => ∃ (k : Nat) (raws : List RawR), k ≤ c.length ∧ v27 = .int .i64 k ∧ Own1 4 encR wr w.heap.size 72 v6 raws ∧ raws.length = ((c.take k).flatMap id).length ∧ (∀ (i : Nat) (a : i < raws.length) (b : i < ((c.take k).flatMap id).length), RdRel w raws[i] ((c.take k).flatMap id)[i]) ∧ Below w.heap.size w wr) (fun _ v27 _ => c.length - (intOf v27).toNat)
      case atStart => exact ⟨0, [], Nat.zero_le _, rfl, HO.out, rfl, fun i a b => by simp at a, HB.out⟩
      case round =>
        rename World => wj
        obtain ⟨k, raws, hk, rfl, ho, hl, hr, hb⟩ := hrel
        have HO2 := Lib.hid ho
        have HL := Lib.hid hl
        have HR := Lib.hid hr
        have HB2 := Lib.hid hb
        clear ho hl hr hb
        by_cases hlt : k < c.length
        · obtain ⟨bk, off, x1, x2, rfl, c0, hcd⟩ := HU.out.at_ k hlt
          have c0 := (HB2.out.cell (p := ⟨bk, off + k, none⟩) (World.block_lt_of_cell? _ _ c0)).trans c0
          have h9 : (k : Int) < (c.length : Int) := by omega
          have HF := Lib.hid (flat_take hlt)
          have HT := Lib.hid (cnt_take_succ hlt)
          have HLE := Lib.hid (cnt_take_le c (k + 1))
          have HFK := Lib.hid (flat_cnt (c.take k))
          obtain ⟨l, hl⟩ : ∃ l, c[k] = l := ⟨_, rfl⟩
          rw [hl] at c0 HF HT hcd
          obtain ⟨rw1, q1, q2, q3⟩ := hcd
          have HQ1 := Lib.hid (q1.below HB2.out)
          have HAP := Lib.hid (rel_app HL.out HR.out q3)
          have HLN : Hid ((raws ++ rw1).length = ((c.take (k + 1)).flatMap id).length) := Lib.hid (by rw [HF.out, List.length_append, List.length_append, HL.out, q2])
          have HSM : Hid (raws.length + rw1.length ≤ 6) := Lib.hid (by
            have e1 := HL.out; have e2 := HFK.out; have e3 := HT.out; have e4 := HLE.out; have e5 := HCN.out
            omega)
          have HZW : Hid (w.heap.size ≤ wj.heap.size) := Lib.hid HB2.out.size
          clear hl q1 q2 q3
          go_wp2_with (first | (at_builtin; refine wpList_append_rd (w := wj) rfl _ _ 68 rfl w.heap.size iR _ 48 Tryz.underlying68 hiR hzR hkR hbR (by omega) rfl (by omega) encR_len encR_one _ raws rw1 _ rfl HO2.out rfl HQ1.out (by have := HSM.out; omega) HZW.out ?_; intro v9 w9 y9 b9; have Y9 := Lib.hid y9; have B9 := Lib.hid b9; clear y9 b9) | go_in)
          go_roundw
          case measure => simp [intOf]; omega
          case rel => exact ⟨k + 1, raws ++ rw1, by omega, by go_num, Y9.out, HLN.out, by rw [HF.out]; exact HAP.out, HB2.out.trans B9.out⟩
        · obtain rfl : k = c.length := by omega
          have h3 : ¬ (c.length : Int) < (c.length : Int) := by omega
          have HEND : Hid (RdRels wj _ FL) := Lib.hid (by
            rw [← HFL.out]
            have e1 := HL.out
            have e2 := HR.out
            rw [List.take_length] at e1 e2
            exact ⟨raws, HO2.out.rd encR_len, e1, fun i a b => (e2 i a b).below HB2.out⟩)
          go_wp2
          go_ret
          exact ⟨_, rfl, HEND.out, HB2.out⟩

/-! ### Weight -/
def wgtS (m : Nat) (r : Rel) : Nat := min (m * siz r) 1000000
def wgt (c : Cnd) : Nat := (c.flatMap id).foldl wgtS 1
theorem siz_le {r : Rel} (h : OkR r) : siz r ≤ 10404 := by
  have h0 := siz0_le h
  unfold siz
  split
  · exact Nat.mul_le_mul h0 h0
  · omega
theorem wgt_take (L : List Rel) {k : Nat} (h : k < L.length) : (L.take (k + 1)).foldl wgtS 1 = wgtS ((L.take k).foldl wgtS 1) L[k] := by
  rw [List.take_succ_eq_append_getElem h, List.foldl_append]
  rfl
theorem wgt_le (L : List Rel) : L.foldl wgtS 1 ≤ 1000000 := by
  rcases List.eq_nil_or_concat L with rfl | ⟨l, r, rfl⟩
  · show (1 : Nat) ≤ 1000000; omega
  · rw [List.concat_eq_append, List.foldl_append]
    exact Nat.min_le_right _ _
set_option maxRecDepth 1000000 in
set_option maxHeartbeats 8000000 in
theorem weight_any (c : Cnd) (hok : okC c = true) (hbig : ∀ l ∈ c, l.length ≤ 4611686018427387904) (v : Value) (w : World) (hv : RdC w v c) :
    Calls Tryz.prog 13 #[v] w fun e w' => e = .returned (.tuple #[.int .i64 (wgt c : Nat), .int .i64 0]) ∧ Below w.heap.size w w' := by
  have HVA := Lib.hid (valid_cond_any v c w hv hbig)
  rw [hok] at HVA
  have HCA := Lib.hid (fun w2 (hb : Below w.heap.size w w2) => concat_any c hok v w2 (hv.below hb))
  have HOK : Hid (∀ r ∈ c.flatMap id, OkR r) := Lib.hid (fun r hr => relsC_ok (l := [c]) (fun d hd => by rw [List.mem_singleton.1 hd]; exact hok) r (by unfold relsC; simpa using hr))
  obtain ⟨ac, cc, rfl, _, _⟩ := hv.slice
  obtain ⟨L, hL⟩ : ∃ L, c.flatMap id = L := ⟨_, rfl⟩
  have HWG : Hid (wgt c = L.foldl wgtS 1) := Lib.hid (by rw [← hL]; rfl)
  rw [hL] at HCA HOK
  obtain ⟨WG, hWG⟩ : ∃ W, wgt c = W := ⟨_, rfl⟩
  rw [hWG] at HWG ⊢
  clear hv hok hbig hL hWG
  go_enter Tryz.func13, Tryz.ntmps13
  go_wp2_with fail
  refine HVA.out.mono ?_
  rintro e w1 ⟨rfl, h1⟩
  have H1 := Lib.hid h1
  clear h1
  go_wp2_with fail
  refine (HCA.out w1 H1.out).mono ?_
  rintro e w2 ⟨v2, rfl, hrd, h2⟩
  obtain ⟨p2, c2, rfl, _, _⟩ := hrd.slice
  have HRD := Lib.hid hrd
  have H2 := Lib.hid (st H1.out h2 H1.out.size)
  clear hrd h2
  go_wp2_with fail
  go_loopw [4, 13] (fun v4 v13 wr => ∃ k : Nat, k ≤ L.length ∧ v13 = .int .i64 k ∧ v4 = .int .i64 ((L.take k).foldl wgtS 1 : Nat) ∧ Below w2.heap.size w2 wr) (fun _ v13 _ => L.length - (intOf v13).toNat)
  case atStart => exact ⟨0, Nat.zero_le _, rfl, rfl, Below.refl _ _⟩
  case round =>
    obtain ⟨k, hk, rfl, rfl, hb⟩ := hrel
    have HB := Lib.hid hb
    clear hb
    have HML : Hid ((L.take k).foldl wgtS 1 ≤ 1000000) := Lib.hid (wgt_le _)
    obtain ⟨M, hM⟩ : ∃ M, (L.take k).foldl wgtS 1 = M := ⟨_, rfl⟩
    rw [hM] at HML ⊢
    by_cases hlt : k < L.length
    · obtain ⟨bk, off, x1, x2, rfl, c0, d1, d2, d3, hsp⟩ := (HRD.out.below HB.out).at_ k hlt
      have h9 : (k : Int) < (L.length : Int) := by omega
      have HST := Lib.hid (wgt_take L hlt)
      rw [hM] at HST
      have hr := HOK.out _ (List.getElem_mem hlt)
      obtain ⟨r, hre⟩ : ∃ r, L[k] = r := ⟨_, rfl⟩
      rw [hre] at c0 d1 d2 d3 hsp HST hr
      have HSL := Lib.hid (siz_le hr)
      have HSZ := Lib.hid (fun wx (hb : Below wr.heap.size wr wx) => size_any r hr x1 x2 wx (hsp.below hb))
      obtain ⟨S, hS⟩ : ∃ S, siz r = S := ⟨_, rfl⟩
      rw [hS] at HSZ HSL
      have HST2 : Hid ((L.take (k + 1)).foldl wgtS 1 = min (M * S) 1000000) := Lib.hid (by rw [HST.out, ← hS]; rfl)
      have HMM : Hid (M * S ≤ 1000000 * 10404) := Lib.hid (Nat.mul_le_mul HML.out HSL.out)
      obtain ⟨T, hT⟩ : ∃ T, M * S = T := ⟨_, rfl⟩
      rw [hT] at HST2 HMM
      have s1 : (M : Int) * (S : Int) = (T : Int) := by rw [← hT]; exact (Int.natCast_mul M S).symm
      have hTT : T ≤ 10404000000 := by have := HMM.out; omega
      obtain ⟨ro, rm, rn, rs⟩ := r
      dsimp only at c0 d1 d2 d3 HSZ
      have HBX := Lib.hid (HB.out.alloc HB.out.size (.cells #[.int .i64 ro, .int .i64 rm, .bool rn, .slice x1 rs.length x2] 72))
      have HAL := Lib.hid (below_al wr (.cells #[.int .i64 ro, .int .i64 rm, .bool rn, .slice x1 rs.length x2] 72))
      have HKB := Lib.hid (Blk.new wr 72 #[.int .i64 ro, .int .i64 rm, .bool rn, .slice x1 rs.length x2])
      obtain ⟨wb, hwb⟩ : ∃ wb, wr.alloc (.cells #[.int .i64 ro, .int .i64 rm, .bool rn, .slice x1 rs.length x2] 72) = wb := ⟨_, rfl⟩
      rw [hwb] at HBX HAL HKB
      have HWB := Lib.hid hwb
      have k0 : wb.cell? ⟨wr.heap.size, 0, none⟩ = some (.int .i64 ro) := HKB.out.cell 0
      have k1 : wb.cell? ⟨wr.heap.size, 1, none⟩ = some (.int .i64 rm) := HKB.out.cell 1
      have k2 : wb.cell? ⟨wr.heap.size, 2, none⟩ = some (.bool rn) := HKB.out.cell 2
      have k3 : wb.cell? ⟨wr.heap.size, 3, none⟩ = some (.slice x1 rs.length x2) := HKB.out.cell 3
      have HSB := Lib.hid (HSZ.out wb HAL.out)
      clear hM hre hS hT hr hsp hwb HSZ
      go_upto_region 7 with fail
      rw [HWB.out]
      clear c0 d1 d2 d3
      go_wp2_with fail
      refine HSB.out.mono ?_
      rintro e w5 ⟨rfl, h5⟩
      have H5 := Lib.hid (st HBX.out h5 HBX.out.size)
      clear h5
      by_cases hmin : T ≤ 1000000
      · have q1 : (if (T : Int) < 1000000 then (T : Int) else 1000000) = (T : Int) := by split <;> omega
        have q2 : (if (1000000 : Int) < (T : Int) then (1000000 : Int) else (T : Int)) = (T : Int) := by split <;> omega
        have HGO : Hid ((L.take (k + 1)).foldl wgtS 1 = T) := Lib.hid (by rw [HST2.out]; omega)
        go_wp2
        go_roundw
        case measure => simp [intOf]; omega
        case rel => exact ⟨k + 1, by omega, by go_num, by rw [HGO.out] <;> go_num, H5.out⟩
      · have q1 : (if (T : Int) < 1000000 then (T : Int) else 1000000) = 1000000 := by split <;> omega
        have q2 : (if (1000000 : Int) < (T : Int) then (1000000 : Int) else (T : Int)) = 1000000 := by split <;> omega
        have HGO : Hid ((L.take (k + 1)).foldl wgtS 1 = 1000000) := Lib.hid (by rw [HST2.out]; omega)
        go_wp2
        go_roundw
        case measure => simp [intOf]; omega
        case rel => exact ⟨k + 1, by omega, by go_num, by rw [HGO.out] <;> go_num, H5.out⟩
    · obtain rfl : k = L.length := by omega
      have h3 : ¬ (L.length : Int) < (L.length : Int) := by omega
      have HME : Hid (M = WG) := Lib.hid (by rw [← hM, List.take_length, HWG.out])
      have HBE := Lib.hid (st H2.out HB.out H2.out.size)
      clear hM
      go_wp2
      go_ret2
      exact ⟨by rw [HME.out]; rfl, HBE.out⟩
end Go.Proofs.YtfbfcomfkokfcaaGreatDoor


/- Of the reference's parser: longest. -/
namespace Go.Proofs.YtfbfcomfkokfcaaGreatDoor
open Go.RowKit Go.Maps
set_option linter.unusedVariables false

def inR (lo hi : Nat) (c : UInt8) : Bool := decide (lo ≤ c.toNat) && decide (c.toNat ≤ hi)
def lngS (l : Str) (lo hi : Nat) : Nat := (l.takeWhile (inR lo hi)).length
theorem lng_stop {lo hi : Nat} : ∀ {l : Str} {k : Nat}, k ≤ l.length → (∀ (i : Nat) (h : i < l.length), i < k → inR lo hi l[i] = true) → (∀ h : k < l.length, inR lo hi l[k] = false) → lngS l lo hi = k
  | [], k, hk, _, _ => by simp at hk; rw [hk]; rfl
  | c :: l, 0, _, _, hn => by
    have h := hn (by simp)
    have h : inR lo hi c = false := h
    unfold lngS
    rw [List.takeWhile_cons, if_neg (by rw [h]; decide)]
    rfl
  | c :: l, k + 1, hk, hy, hn => by
    have h0 : inR lo hi c = true := hy 0 (by simp) (by omega)
    have ih := lng_stop (lo := lo) (hi := hi) (l := l) (k := k) (by simpa using hk) (fun i h hi' => hy (i + 1) (by simpa using h) (by omega)) (fun h => hn (by simpa using h))
    unfold lngS at ih ⊢
    rw [List.takeWhile_cons, if_pos h0, List.length_cons, ih]
set_option maxRecDepth 1000000 in
set_option maxHeartbeats 4000000 in
theorem longest_any2 (s : ByteArray) (lo hi : Nat) (hs : s.size ≤ 1000) (w : World) :
    Calls Tryz.prog 184 #[.string s, .int .u8 (lo : Int), .int .u8 (hi : Int)] w fun e w' => e = .returned (.int .i64 (lngS s.data.toList lo hi : Nat)) ∧ w' = w := by
  have HLS := Lib.hid (len_dataA s)
  go_enter Tryz.func184, Tryz.ntmps184
  go_wp2_with fail
  go_loopw [7] (fun v7 wr => ∃ k : Nat, k ≤ s.size ∧ v7 = .int .i64 k ∧ (∀ (i : Nat) (h : i < s.data.toList.length), i < k → inR lo hi s.data.toList[i] = true) ∧ wr = w) (fun v7 _ => s.size - (intOf v7).toNat)
  case atStart => exact ⟨0, Nat.zero_le _, rfl, fun i _ h => by omega, rfl⟩
  case round =>
    rename World => wr
    obtain ⟨k, hk, rfl, hp, hwr⟩ := hrel
    obtain rfl : w = wr := hwr.symm
    have HP := Lib.hid hp
    clear hp hwr
    by_cases hlt : k < s.size
    · have h9 : (k : Int) < (s.size : Int) := by omega
      have HC := Lib.hid (byte_atA s hlt)
      by_cases h1 : lo ≤ (s[k]'hlt).toNat
      · have t1 : (lo : Int) ≤ ((s[k]'hlt).toNat : Int) := by omega
        by_cases h2 : (s[k]'hlt).toNat ≤ hi
        · have t2 : ((s[k]'hlt).toNat : Int) ≤ (hi : Int) := by omega
          have HN : Hid (∀ (i : Nat) (h : i < s.data.toList.length), i < k + 1 → inR lo hi s.data.toList[i] = true) := Lib.hid (fun i h hi' => by
            by_cases he : i < k
            · exact HP.out i h he
            · obtain rfl : i = k := by omega
              rw [HC.out]
              unfold inR
              rw [decide_eq_true h1, decide_eq_true h2]
              rfl)
          clear h1 h2
          go_wp2_with fail
          go_roundw
          case measure => simp [intOf]; omega
          case rel => exact ⟨k + 1, by omega, by go_num, HN.out, by first | rfl | trivial⟩
        · have t2 : ¬ ((s[k]'hlt).toNat : Int) ≤ (hi : Int) := by omega
          have HE : Hid (lngS s.data.toList lo hi = k) := Lib.hid (lng_stop (by rw [HLS.out]; exact hk) HP.out (fun h => by
            rw [HC.out]
            unfold inR
            rw [decide_eq_false h2, Bool.and_false]))
          clear h1 h2
          go_wp2_with fail
          go_ret
          exact ⟨by rw [HE.out]; rfl, rfl⟩
      · have t1 : ¬ (lo : Int) ≤ ((s[k]'hlt).toNat : Int) := by omega
        have HE : Hid (lngS s.data.toList lo hi = k) := Lib.hid (lng_stop (by rw [HLS.out]; exact hk) HP.out (fun h => by
          rw [HC.out]
          unfold inR
          rw [decide_eq_false h1, Bool.false_and]))
        clear h1
        go_wp2_with fail
        go_ret
        exact ⟨by rw [HE.out]; rfl, rfl⟩
    · obtain rfl : k = s.size := by omega
      have h3 : ¬ (s.size : Int) < (s.size : Int) := by omega
      have HE : Hid (lngS s.data.toList lo hi = s.size) := Lib.hid (lng_stop (by rw [HLS.out]; exact Nat.le_refl _) HP.out (fun h => absurd h (by rw [HLS.out]; omega)))
      go_wp2_with fail
      go_ret
      exact ⟨by rw [HE.out]; rfl, rfl⟩
end Go.Proofs.YtfbfcomfkokfcaaGreatDoor


/- Of the reference's parser: next. -/
namespace Go.Proofs.YtfbfcomfkokfcaaGreatDoor
open Go.RowKit Go.Maps
set_option linter.unusedVariables false

theorem resWord {W : World} {tm : Array Value} {B : Nat} {t : TypeId} {a b v : Value} (t2 : tm[4]?.getD undef = .pointer (some ⟨B, 0, none⟩)) (t3 : tm[5]?.getD undef = v) (h : Blk B t #[a, b] W) :
    (results Tryz.f159 tm).run Tryz.prog W = .ok (.tuple #[.agg #[a, b], v]) W := by
  have a0 : W.cell? ⟨B, 0, none⟩ = some a := h.cell 0
  have a1 : W.cell? ⟨B, 1, none⟩ = some b := h.cell 1
  simp [results, Tryz.f159, go_sem, t2, t3, a0, a1]
theorem cut_from (s : ByteArray) {a : Nat} (h : a ≤ s.size) (wx : World) : (Instr.slice 9 (.string s) (some (.int .i64 (a : Int))) none none).run Tryz.prog wx = .ok (.string (s.extract a s.size)) wx := by
  have e := run_slice_string_from_if (P := Tryz.prog) (w := wx) 9 s .i64 (a : Int) Tryz.underlying9
  rw [e, if_pos ⟨by omega, by omega⟩, Int.toNat_natCast]
theorem cut_mid (s : ByteArray) {a b : Nat} (h : a ≤ b) (h2 : b ≤ s.size) {B : Int} (hB : B = (b : Int)) (wx : World) : (Instr.slice 9 (.string s) (some (.int .i64 (a : Int))) (some (.int .i64 B)) none).run Tryz.prog wx = .ok (.string (s.extract a b)) wx := by
  subst hB
  have e := run_slice_string (P := Tryz.prog) (w := wx) 9 s .i64 .i64 (a : Int) (b : Int) Tryz.underlying9 (by omega) (by omega) (by omega)
  rw [Int.toNat_natCast, Int.toNat_natCast] at e
  exact e
/-- The spaces at i are passed: at is the first byte that is none. -/
structure SpT (s : ByteArray) (i at_ : Nat) : Prop where
  lo : i ≤ at_
  hi : at_ ≤ s.size
  sp : ∀ (k : Nat) (h : k < s.size), i ≤ k → k < at_ → (s[k]'h).toNat = 32
  no : ∀ (h : at_ < s.size), (s[at_]'h).toNat ≠ 32 ∧ (s[at_]'h).toNat ≠ 9 ∧ (s[at_]'h).toNat ≠ 10

set_option maxRecDepth 1000000 in
set_option maxHeartbeats 8000000 in
theorem next_end (s : ByteArray) (i at_ : Nat) (hs : s.size ≤ 1000) (h : SpT s i at_) (he : at_ = s.size) (w : World) :
    Calls Tryz.prog 159 #[.string s, .int .i64 (i : Int)] w fun e w' => e = .returned (.tuple #[.agg #[.string ⟨#[]⟩, .int .i64 (at_ : Int)], .int .i64 ((at_ : Nat) : Int)]) ∧ Below w.heap.size w w' := by
  have HS := Lib.hid h
  have HB := Lib.hid (below_al w (.cells #[.string ⟨#[]⟩, .int .i64 (at_ : Int)] 180))
  have HK := Lib.hid (Blk.new w 180 #[.string ⟨#[]⟩, .int .i64 (at_ : Int)])
  have HE := Lib.hid he
  clear he
  clear h
  go_enter Tryz.func159, Tryz.ntmps159
  go_wp2_with fail
  go_loopw [1] (fun v1 wr => ∃ k : Nat, i ≤ k ∧ k ≤ at_ ∧ v1 = .int .i64 k ∧ wr = w.alloc (.cells #[.string ⟨#[]⟩, .int .i64 0] 180)) (fun v1 _ => at_ - (intOf v1).toNat)
  case atStart => exact ⟨i, Nat.le_refl _, HS.out.lo, rfl, rfl⟩
  case round =>
    rename World => wr
    obtain ⟨k, hk0, hk, rfl, hwr⟩ := hrel
    have hat := HS.out.hi
    by_cases hlt : k < at_
    · have hlk : k < s.size := by omega
      have h9 : (k : Int) < (s.size : Int) := by omega
      have t1 : (((s[k]'hlk).toNat : Int) == 32) = true := by rw [beq_iff_eq]; have := HS.out.sp k hlk hk0 hlt; omega
      go_wp2_with fail
      go_roundw
      case measure => simp [intOf]; omega
      case rel => exact ⟨k + 1, by omega, by omega, by go_num, by first | exact hwr | trivial⟩
    · obtain rfl : k = at_ := by omega
      clear hlt hk hk0
      subst hwr
      have t0 : ¬ ((k : Int) < (s.size : Int)) := by have := HE.out; omega
      have t4 : ((k : Int) == (s.size : Int)) = true := by rw [beq_iff_eq]; have := HE.out; omega
      go_wp2
      exact bodyPost_ret (v := .tuple #[.agg #[.string ⟨#[]⟩, .int .i64 (k : Int)], .int .i64 ((k : Nat) : Int)]) (resWord rfl (by first | rfl | go_num) HK.out) rfl ⟨rfl, HB.out⟩

set_option maxRecDepth 1000000 in
set_option maxHeartbeats 8000000 in
theorem next_word (s : ByteArray) (i at_ : Nat) (hs : s.size ≤ 1000) (h : SpT s i at_) (hlt : at_ < s.size) (R T : ByteArray) (n : Nat) (hR : s.extract at_ s.size = R) (hn : lngS R.data.toList 97 122 = n) (h0 : 0 < n) (hT : s.extract at_ (at_ + n) = T) (hn2 : at_ + n ≤ s.size) (w : World) :
    Calls Tryz.prog 159 #[.string s, .int .i64 (i : Int)] w fun e w' => e = .returned (.tuple #[.agg #[.string T, .int .i64 (at_ : Int)], .int .i64 (((at_ + n) : Nat) : Int)]) ∧ Below w.heap.size w w' := by
  have HS := Lib.hid h
  have HB := Lib.hid (below_al w (.cells #[.string T, .int .i64 (at_ : Int)] 180))
  have HK := Lib.hid (Blk.new w 180 #[.string T, .int .i64 (at_ : Int)])
  have HLT := Lib.hid hlt
  have c1 := cut_from s h.hi
  have c2 := cut_mid s (Nat.le_add_right at_ n) hn2 (Int.natCast_add at_ n).symm
  rw [hR] at c1
  rw [hT] at c2
  have hRs : R.size ≤ 1000 := by rw [← hR, ByteArray.size_extract]; omega
  have HLO := Lib.hid (longest_any2 R 97 122 hRs)
  rw [hn] at HLO
  have t5 : ((n : Int) == 0) = false := by rw [beq_eq_false_iff_ne]; omega
  have HTX := Lib.hid hT
  clear hR hn hT hRs hlt
  clear h
  go_enter Tryz.func159, Tryz.ntmps159
  go_wp2_with fail
  go_loopw [1] (fun v1 wr => ∃ k : Nat, i ≤ k ∧ k ≤ at_ ∧ v1 = .int .i64 k ∧ wr = w.alloc (.cells #[.string ⟨#[]⟩, .int .i64 0] 180)) (fun v1 _ => at_ - (intOf v1).toNat)
  case atStart => exact ⟨i, Nat.le_refl _, HS.out.lo, rfl, rfl⟩
  case round =>
    rename World => wr
    obtain ⟨k, hk0, hk, rfl, hwr⟩ := hrel
    have hat := HS.out.hi
    by_cases hlt : k < at_
    · have hlk : k < s.size := by omega
      have h9 : (k : Int) < (s.size : Int) := by omega
      have t1 : (((s[k]'hlk).toNat : Int) == 32) = true := by rw [beq_iff_eq]; have := HS.out.sp k hlk hk0 hlt; omega
      go_wp2_with fail
      go_roundw
      case measure => simp [intOf]; omega
      case rel => exact ⟨k + 1, by omega, by omega, by go_num, by first | exact hwr | trivial⟩
    · obtain rfl : k = at_ := by omega
      clear hlt hk hk0
      subst hwr
      have hlt := HLT.out
      have hlk : k < s.size := hlt
      have h9 : (k : Int) < (s.size : Int) := by omega
      have hne := HS.out.no hlk
      have t1 : (((s[k]'hlk).toNat : Int) == 32) = false := by rw [beq_eq_false_iff_ne]; omega
      have t2 : (((s[k]'hlk).toNat : Int) == 9) = false := by rw [beq_eq_false_iff_ne]; omega
      have t3 : (((s[k]'hlk).toNat : Int) == 10) = false := by rw [beq_eq_false_iff_ne]; omega
      have t4 : ((k : Int) == (s.size : Int)) = false := by rw [beq_eq_false_iff_ne]; omega
      clear hne
      go_wp2_with fail
      refine (HLO.out _).mono ?_
      rintro e w3 ⟨rfl, hw3⟩
      obtain rfl := hw3.symm
      go_wp2
      try rw [HTX.out]
      exact bodyPost_ret (v := .tuple #[.agg #[.string T, .int .i64 (k : Int)], .int .i64 (((k + n) : Nat) : Int)]) (resWord rfl (by first | rfl | go_num) HK.out) rfl ⟨rfl, HB.out⟩

set_option maxRecDepth 1000000 in
set_option maxHeartbeats 8000000 in
theorem next_num (s : ByteArray) (i at_ : Nat) (hs : s.size ≤ 1000) (h : SpT s i at_) (hlt : at_ < s.size) (R T : ByteArray) (n : Nat) (hR : s.extract at_ s.size = R) (hn0 : lngS R.data.toList 97 122 = 0) (hn : lngS R.data.toList 48 57 = n) (h0 : 0 < n) (hT : s.extract at_ (at_ + n) = T) (hn2 : at_ + n ≤ s.size) (w : World) :
    Calls Tryz.prog 159 #[.string s, .int .i64 (i : Int)] w fun e w' => e = .returned (.tuple #[.agg #[.string T, .int .i64 (at_ : Int)], .int .i64 (((at_ + n) : Nat) : Int)]) ∧ Below w.heap.size w w' := by
  have HS := Lib.hid h
  have HB := Lib.hid (below_al w (.cells #[.string T, .int .i64 (at_ : Int)] 180))
  have HK := Lib.hid (Blk.new w 180 #[.string T, .int .i64 (at_ : Int)])
  have HLT := Lib.hid hlt
  have c1 := cut_from s h.hi
  have c2 := cut_mid s (Nat.le_add_right at_ n) hn2 (Int.natCast_add at_ n).symm
  rw [hR] at c1
  rw [hT] at c2
  have hRs : R.size ≤ 1000 := by rw [← hR, ByteArray.size_extract]; omega
  have HLO := Lib.hid (longest_any2 R 97 122 hRs)
  have HLP := Lib.hid (longest_any2 R 48 57 hRs)
  rw [hn0] at HLO
  rw [hn] at HLP
  have t5 : ((n : Int) == 0) = false := by rw [beq_eq_false_iff_ne]; omega
  have HTX := Lib.hid hT
  clear hR hn hn0 hT hRs hlt
  clear h
  go_enter Tryz.func159, Tryz.ntmps159
  go_wp2_with fail
  go_loopw [1] (fun v1 wr => ∃ k : Nat, i ≤ k ∧ k ≤ at_ ∧ v1 = .int .i64 k ∧ wr = w.alloc (.cells #[.string ⟨#[]⟩, .int .i64 0] 180)) (fun v1 _ => at_ - (intOf v1).toNat)
  case atStart => exact ⟨i, Nat.le_refl _, HS.out.lo, rfl, rfl⟩
  case round =>
    rename World => wr
    obtain ⟨k, hk0, hk, rfl, hwr⟩ := hrel
    have hat := HS.out.hi
    by_cases hlt : k < at_
    · have hlk : k < s.size := by omega
      have h9 : (k : Int) < (s.size : Int) := by omega
      have t1 : (((s[k]'hlk).toNat : Int) == 32) = true := by rw [beq_iff_eq]; have := HS.out.sp k hlk hk0 hlt; omega
      go_wp2_with fail
      go_roundw
      case measure => simp [intOf]; omega
      case rel => exact ⟨k + 1, by omega, by omega, by go_num, by first | exact hwr | trivial⟩
    · obtain rfl : k = at_ := by omega
      clear hlt hk hk0
      subst hwr
      have hlt := HLT.out
      have hlk : k < s.size := hlt
      have h9 : (k : Int) < (s.size : Int) := by omega
      have hne := HS.out.no hlk
      have t1 : (((s[k]'hlk).toNat : Int) == 32) = false := by rw [beq_eq_false_iff_ne]; omega
      have t2 : (((s[k]'hlk).toNat : Int) == 9) = false := by rw [beq_eq_false_iff_ne]; omega
      have t3 : (((s[k]'hlk).toNat : Int) == 10) = false := by rw [beq_eq_false_iff_ne]; omega
      have t4 : ((k : Int) == (s.size : Int)) = false := by rw [beq_eq_false_iff_ne]; omega
      clear hne
      go_wp2_with fail
      refine (HLO.out _).mono ?_
      rintro e w3 ⟨rfl, hw3⟩
      obtain rfl := hw3.symm
      go_wp2_with fail
      refine (HLP.out _).mono ?_
      rintro e w3 ⟨rfl, hw3⟩
      obtain rfl := hw3.symm
      go_wp2
      try rw [HTX.out]
      exact bodyPost_ret (v := .tuple #[.agg #[.string T, .int .i64 (k : Int)], .int .i64 (((k + n) : Nat) : Int)]) (resWord rfl (by first | rfl | go_num) HK.out) rfl ⟨rfl, HB.out⟩

set_option maxRecDepth 1000000 in
set_option maxHeartbeats 8000000 in
theorem next_sym (s : ByteArray) (i at_ : Nat) (hs : s.size ≤ 1000) (h : SpT s i at_) (hlt : at_ + 2 ≤ s.size) (R T X : ByteArray) (b : Nat) (hR : s.extract at_ s.size = R) (hn0 : lngS R.data.toList 97 122 = 0) (hn : lngS R.data.toList 48 57 = 0) (hX : s.extract at_ (at_ + 2) = X) (hX1 : X.toList ≠ [33, 61]) (hX2 : X.toList ≠ [46, 46]) (hb : ∀ h : at_ < s.size, (s[at_]'h).toNat = b) (hb2 : b = 37 ∨ b = 61) (hT : s.extract at_ (at_ + 1) = T) (w : World) :
    Calls Tryz.prog 159 #[.string s, .int .i64 (i : Int)] w fun e w' => e = .returned (.tuple #[.agg #[.string T, .int .i64 (at_ : Int)], .int .i64 (((at_ + 1) : Nat) : Int)]) ∧ Below w.heap.size w w' := by
  have HS := Lib.hid h
  have HB := Lib.hid (below_al w (.cells #[.string T, .int .i64 (at_ : Int)] 180))
  have HK := Lib.hid (Blk.new w 180 #[.string T, .int .i64 (at_ : Int)])
  have HLT := Lib.hid hlt
  have c1 := cut_from s h.hi
  have c2 := cut_mid s (show at_ ≤ at_ + 1 by omega) (by omega) (show (at_ : Int) + 1 = ((at_ + 1 : Nat) : Int) by omega)
  have c3 := cut_mid s (show at_ ≤ at_ + 2 by omega) hlt (show (at_ : Int) + 2 = ((at_ + 2 : Nat) : Int) by omega)
  rw [hR] at c1
  rw [hT] at c2
  rw [hX] at c3
  have x1 : (X.toList == [33, 61]) = false := by rw [beq_eq_false_iff_ne]; exact hX1
  have x2 : (X.toList == [46, 46]) = false := by rw [beq_eq_false_iff_ne]; exact hX2
  have hRs : R.size ≤ 1000 := by rw [← hR, ByteArray.size_extract]; omega
  have HLO := Lib.hid (longest_any2 R 97 122 hRs)
  have HLP := Lib.hid (longest_any2 R 48 57 hRs)
  rw [hn0] at HLO
  rw [hn] at HLP
  have HTX := Lib.hid hT
  have HXX := Lib.hid hX
  have HBB := Lib.hid hb
  clear hR hn hn0 hT hX hX1 hX2 hRs hb
  clear h
  go_enter Tryz.func159, Tryz.ntmps159
  go_wp2_with fail
  go_loopw [1] (fun v1 wr => ∃ k : Nat, i ≤ k ∧ k ≤ at_ ∧ v1 = .int .i64 k ∧ wr = w.alloc (.cells #[.string ⟨#[]⟩, .int .i64 0] 180)) (fun v1 _ => at_ - (intOf v1).toNat)
  case atStart => exact ⟨i, Nat.le_refl _, HS.out.lo, rfl, rfl⟩
  case round =>
    rename World => wr
    obtain ⟨k, hk0, hk, rfl, hwr⟩ := hrel
    have hat := HS.out.hi
    by_cases hlt : k < at_
    · have hlk : k < s.size := by omega
      have h9 : (k : Int) < (s.size : Int) := by omega
      have t1 : (((s[k]'hlk).toNat : Int) == 32) = true := by rw [beq_iff_eq]; have := HS.out.sp k hlk hk0 hlt; omega
      go_wp2_with fail
      go_roundw
      case measure => simp [intOf]; omega
      case rel => exact ⟨k + 1, by omega, by omega, by go_num, by first | exact hwr | trivial⟩
    · obtain rfl : k = at_ := by omega
      clear hlt hk hk0
      subst hwr
      have hlt : k < s.size := by have := HLT.out; omega
      have hlk : k < s.size := hlt
      have h9 : (k : Int) < (s.size : Int) := by omega
      have hne := HS.out.no hlk
      have t1 : (((s[k]'hlk).toNat : Int) == 32) = false := by rw [beq_eq_false_iff_ne]; omega
      have t2 : (((s[k]'hlk).toNat : Int) == 9) = false := by rw [beq_eq_false_iff_ne]; omega
      have t3 : (((s[k]'hlk).toNat : Int) == 10) = false := by rw [beq_eq_false_iff_ne]; omega
      have t4 : ((k : Int) == (s.size : Int)) = false := by rw [beq_eq_false_iff_ne]; omega
      clear hne
      have h8 : (k : Int) + 1 < (s.size : Int) := by have := HLT.out; omega
      go_wp2_with fail
      refine (HLO.out _).mono ?_
      rintro e w3 ⟨rfl, hw3⟩
      obtain rfl := hw3.symm
      go_wp2_with fail
      refine (HLP.out _).mono ?_
      rintro e w3 ⟨rfl, hw3⟩
      obtain rfl := hw3.symm
      have hbb := HBB.out hlk
      rcases hb2 with rfl | rfl
      · have t6 : (((s[k]'hlk).toNat : Int) == 37) = true := by rw [beq_iff_eq]; omega
        clear hbb
        go_wp2
        (try rw [HTX.out])
        exact bodyPost_ret (v := .tuple #[.agg #[.string T, .int .i64 (k : Int)], .int .i64 (((k + 1) : Nat) : Int)]) (resWord rfl (by first | rfl | go_num) HK.out) rfl ⟨rfl, HB.out⟩
      · have t6 : (((s[k]'hlk).toNat : Int) == 37) = false := by rw [beq_eq_false_iff_ne]; omega
        have t7 : (((s[k]'hlk).toNat : Int) == 61) = true := by rw [beq_iff_eq]; omega
        clear hbb
        go_wp2
        (try rw [HTX.out])
        exact bodyPost_ret (v := .tuple #[.agg #[.string T, .int .i64 (k : Int)], .int .i64 (((k + 1) : Nat) : Int)]) (resWord rfl (by first | rfl | go_num) HK.out) rfl ⟨rfl, HB.out⟩
end Go.Proofs.YtfbfcomfkokfcaaGreatDoor


/- Of the reference's parser: is, number. -/
namespace Go.Proofs.YtfbfcomfkokfcaaGreatDoor
open Go.RowKit Go.Maps
set_option linter.unusedVariables false

/-- The parser's box while nothing has failed: the text, the offset behind the word, the word and its offset. -/
def PrB (w : World) (g : Nat) (s T : ByteArray) (tq wat : Nat) : Prop := Blk g 182 #[.string s, .int .i64 (tq : Int), .string T, .int .i64 (wat : Int), .int .i64 0, .int .i64 0] w
theorem PrB.below {w w' : World} {g : Nat} {s T : ByteArray} {tq wat : Nat} (h : PrB w g s T tq wat) (hb : Below w.heap.size w w') : PrB w' g s T tq wat := Blk.below h hb
set_option maxRecDepth 1000000 in
set_option maxHeartbeats 4000000 in
theorem is_any (g : Nat) (s T x : ByteArray) (tq wat : Nat) (b : Bool) (hb : (T.toList == x.toList) = b) (w : World) (h : PrB w g s T tq wat) :
    Calls Tryz.prog 124 #[.pointer (some ⟨g, 0, none⟩), .string x] w fun e w' => e = .returned (.bool b) ∧ w' = w := by
  have c4 : w.cell? ⟨g, 5, none⟩ = some (.int .i64 0) := Blk.cell h 5
  have c2 : w.cell? ⟨g, 2, none⟩ = some (.string T) := Blk.cell h 2
  clear h
  go_enter Tryz.func124, Tryz.ntmps124
  go_wp2
  go_ret
  exact ⟨rfl, rfl⟩
set_option maxRecDepth 1000000 in
set_option maxHeartbeats 4000000 in
theorem number_any (g : Nat) (s T : ByteArray) (tq wat : Nat) (hd : allD T.data.toList) (h1 : 0 < T.size) (h3 : T.size ≤ 3) (hz : ∀ h : 0 < T.size, (T[0]'h).toNat ≠ 48 ∨ T.size = 1) (w : World) (h : PrB w g s T tq wat) :
    Calls Tryz.prog 160 #[.pointer (some ⟨g, 0, none⟩)] w fun e w' => e = .returned (.int .i64 (val T.data.toList : Int)) ∧ w' = w := by
  have c2 : w.cell? ⟨g, 2, none⟩ = some (.string T) := Blk.cell h 2
  have HV := Lib.hid (value_any T hd (by omega))
  have hne : (T.toList == ([] : List UInt8)) = false := by
    rw [beq_eq_false_iff_ne, ByteArray.toList_eq]
    intro e
    have : T.data.toList.length = 0 := by rw [e]; rfl
    rw [len_dataA] at this
    omega
  have hne2 : T.toList.isEmpty = false := by
    rw [beq_eq_false_iff_ne] at hne
    cases hl : T.toList with
    | nil => exact absurd hl hne
    | cons a l => rfl
  have hc : isD (T[0]'h1) = true := by rw [← byte_atA T h1]; exact hd _ (List.getElem_mem _)
  have hc := isD_iff.1 hc
  have t1 : ¬ (((T[0]'h1).toNat : Int) < 48) := by omega
  have t2 : ¬ ((57 : Int) < ((T[0]'h1).toNat : Int)) := by omega
  have t3 : ¬ ((3 : Int) < (T.size : Int)) := by omega
  clear h hd
  by_cases h4 : T.size = 1
  · have t4 : ¬ ((1 : Int) < (T.size : Int)) := by omega
    clear hz h4 hc
    go_enter Tryz.func160, Tryz.ntmps160
    go_wp2_with fail
    refine (HV.out _).mono ?_
    rintro e w2 ⟨rfl, hw2⟩
    obtain rfl := hw2.symm
    go_wp2
    go_ret
    exact ⟨rfl, rfl⟩
  · have t4 : ((1 : Int) < (T.size : Int)) := by omega
    have t5 : (((T[0]'h1).toNat : Int) == 48) = false := by rw [beq_eq_false_iff_ne]; have := hz h1; omega
    clear hz h4 hc
    go_enter Tryz.func160, Tryz.ntmps160
    go_wp2_with fail
    refine (HV.out _).mono ?_
    rintro e w2 ⟨rfl, hw2⟩
    obtain rfl := hw2.symm
    go_wp2
    go_ret
    exact ⟨rfl, rfl⟩
end Go.Proofs.YtfbfcomfkokfcaaGreatDoor


/- Of the reference's parser: step. -/
namespace Go.Proofs.YtfbfcomfkokfcaaGreatDoor
open Go.RowKit Go.Maps
set_option linter.unusedVariables false

set_option maxRecDepth 1000000 in
set_option maxHeartbeats 16000000 in
theorem step_any (g : Nat) (s T : ByteArray) (tq wat : Nat) (T2 : ByteArray) (wat2 tq2 : Nat)
    (hN : ∀ w, Calls Tryz.prog 159 #[.string s, .int .i64 (tq : Int)] w fun e w' => e = .returned (.tuple #[.agg #[.string T2, .int .i64 (wat2 : Int)], .int .i64 (tq2 : Int)]) ∧ Below w.heap.size w w')
    (w : World) (h : PrB w g s T tq wat) :
    Calls Tryz.prog 120 #[.pointer (some ⟨g, 0, none⟩)] w fun e w' => e = .returned (.tuple #[]) ∧ PrB w' g s T2 tq2 wat2 ∧ But g w w' := by
  have HN := Lib.hid hN
  have HP := Lib.hid h
  have c5 : w.cell? ⟨g, 5, none⟩ = some (.int .i64 0) := Blk.cell h 5
  have BW := (Below.refl w.heap.size w).drew
  have hS : (fun wx : World => wx.cell? ⟨g, 0, none⟩ = some (.string s) ∧ wx.cell? ⟨g, 1, none⟩ = some (.int .i64 (tq : Int))) w.drew := ⟨Blk.cell (PrB.below h BW) 0, Blk.cell (PrB.below h BW) 1⟩
  have HSX : Hid (∀ wx, Below w.drew.heap.size w.drew wx → wx.cell? ⟨g, 0, none⟩ = some (.string s) ∧ wx.cell? ⟨g, 1, none⟩ = some (.int .i64 (tq : Int))) := Lib.hid (fun wx hb => ⟨Blk.cell (PrB.below (PrB.below HP.out ((Below.refl w.heap.size w).drew)) hb) 0, Blk.cell (PrB.below (PrB.below HP.out ((Below.refl w.heap.size w).drew)) hb) 1⟩)
  clear hN h
  go_enter Tryz.func120, Tryz.ntmps120
  go_upto_region 1 with fail
  clear c5
  refine region_hd 17 (fun wx : World => wx.cell? ⟨g, 0, none⟩ = some (.string s) ∧ wx.cell? ⟨g, 1, none⟩ = some (.int .i64 (tq : Int))) (by kernel_rfl) (by kernel_rfl) ?_
  refine hd_taken 0 (some 8) _ ?hdv0 rfl rfl (by kernel_rfl) (fun _ _ _ h => h) (Or.inl ⟨by kernel_rfl, ?hdy0⟩) hS ?hdr0
  case hdy0 => (intro wx hx; (try dsimp only at hx); go_simp; try with_reducible rfl)
  try simp only [Act.put, List.setIfInBounds_toArray, List.set_cons_zero, List.set_cons_succ]
  refine hd_taken 1 (some 9) _ ?hdv1 rfl rfl (by kernel_rfl) (fun _ _ _ h => h) (Or.inl ⟨by kernel_rfl, ?hdy1⟩) hS ?hdr1
  case hdy1 => (intro wx hx; (try dsimp only at hx); go_simp; try with_reducible rfl)
  try simp only [Act.put, List.setIfInBounds_toArray, List.set_cons_zero, List.set_cons_succ]
  refine hd_taken 2 (some 10) _ ?hdv2 rfl rfl (by kernel_rfl) (fun _ _ _ h => h) (Or.inl ⟨by kernel_rfl, ?hdy2⟩) hS ?hdr2
  case hdy2 => (intro wx hx; (try dsimp only at hx); go_simp; try with_reducible rfl)
  try simp only [Act.put, List.setIfInBounds_toArray, List.set_cons_zero, List.set_cons_succ]
  refine hd_taken 3 (some 11) _ ?hdv3 rfl rfl (by kernel_rfl) (fun _ _ _ h => h) (Or.inl ⟨by kernel_rfl, ?hdy3⟩) hS ?hdr3
  case hdy3 => (intro wx hx; (try dsimp only at hx); go_simp; try with_reducible rfl)
  try simp only [Act.put, List.setIfInBounds_toArray, List.set_cons_zero, List.set_cons_succ]
  refine hd_taken 4 (some 12) _ ?hdv4 rfl rfl (by kernel_rfl) (fun _ _ _ h => h) (Or.inl ⟨by kernel_rfl, ?hdy4⟩) hS ?hdr4
  case hdy4 => (intro wx hx; (try dsimp only at hx); go_simp; try with_reducible rfl)
  try simp only [Act.put, List.setIfInBounds_toArray, List.set_cons_zero, List.set_cons_succ]
  refine hd_taken 5 (some 13) _ ?hdv5 rfl rfl (by kernel_rfl) (fun _ _ _ h => h) (Or.inl ⟨by kernel_rfl, ?hdy5⟩) hS ?hdr5
  case hdy5 => (intro wx hx; (try dsimp only at hx); go_simp; try with_reducible rfl)
  try simp only [Act.put, List.setIfInBounds_toArray, List.set_cons_zero, List.set_cons_succ]
  refine hd_taken 6 (some 14) _ ?hdv6 rfl rfl (by kernel_rfl) (fun _ _ _ h => h) (Or.inl ⟨by kernel_rfl, ?hdy6⟩) hS ?hdr6
  case hdy6 => (intro wx hx; (try dsimp only at hx); go_simp; try with_reducible rfl)
  try simp only [Act.put, List.setIfInBounds_toArray, List.set_cons_zero, List.set_cons_succ]
  refine hd_taken 7 (some 15) _ ?hdv7 rfl rfl (by kernel_rfl) (fun _ _ _ h => h) (Or.inl ⟨by kernel_rfl, ?hdy7⟩) hS ?hdr7
  case hdy7 => (intro wx hx; (try dsimp only at hx); go_simp; try with_reducible rfl)
  try simp only [Act.put, List.setIfInBounds_toArray, List.set_cons_zero, List.set_cons_succ]
  refine hd_taken 8 (some 16) _ ?hdv8 rfl rfl (by kernel_rfl) (fun _ _ _ h => h) (Or.inl ⟨by kernel_rfl, ?hdy8⟩) hS ?hdr8
  case hdy8 => (intro wx hx; (try dsimp only at hx); go_simp; try with_reducible rfl)
  try simp only [Act.put, List.setIfInBounds_toArray, List.set_cons_zero, List.set_cons_succ]
  refine hd_taken 9 (some 17) _ ?hdv9 rfl rfl (by kernel_rfl) (fun _ _ _ h => h) (Or.inl ⟨by kernel_rfl, ?hdy9⟩) hS ?hdr9
  case hdy9 => (intro wx hx; (try dsimp only at hx); go_simp; try with_reducible rfl)
  try simp only [Act.put, List.setIfInBounds_toArray, List.set_cons_zero, List.set_cons_succ]
  refine hd_one 10 _ rfl (by kernel_rfl) (by decide) (fun K10 hK10 => ?_)
  go_simp
  refine (HN.out _).mono ?_
  rintro e w2 ⟨rfl, b2⟩
  try dsimp only
  refine hK10.out _ _ (HSX.out _ b2) ?_
  clear hK10 K10
  try simp only [Act.put, List.setIfInBounds_toArray, List.set_cons_zero, List.set_cons_succ]
  refine hd_taken 11 (some 7) _ ?hdva11 rfl rfl (by kernel_rfl) (fun _ _ _ h => h) (Or.inl ⟨by kernel_rfl, ?hdya11⟩) (HSX.out _ b2) ?hdra11
  case hdya11 => (intro wx hx; (try dsimp only at hx); go_simp; try with_reducible rfl)
  try simp only [Act.put, List.setIfInBounds_toArray, List.set_cons_zero, List.set_cons_succ]
  refine hd_taken 12 (some 19) _ ?hdva12 rfl rfl (by kernel_rfl) (fun _ _ _ h => h) (Or.inl ⟨by kernel_rfl, ?hdya12⟩) (HSX.out _ b2) ?hdra12
  case hdya12 => (intro wx hx; (try dsimp only at hx); go_simp; try with_reducible rfl)
  try simp only [Act.put, List.setIfInBounds_toArray, List.set_cons_zero, List.set_cons_succ]
  refine hd_taken 13 (some 20) _ ?hdva13 rfl rfl (by kernel_rfl) (fun _ _ _ h => h) (Or.inl ⟨by kernel_rfl, ?hdya13⟩) (HSX.out _ b2) ?hdra13
  case hdya13 => (intro wx hx; (try dsimp only at hx); go_simp; try with_reducible rfl)
  try simp only [Act.put, List.setIfInBounds_toArray, List.set_cons_zero, List.set_cons_succ]
  refine hd_taken 14 (some 21) _ ?hdva14 rfl rfl (by kernel_rfl) (fun _ _ _ h => h) (Or.inl ⟨by kernel_rfl, ?hdya14⟩) (HSX.out _ b2) ?hdra14
  case hdya14 => (intro wx hx; (try dsimp only at hx); go_simp; try with_reducible rfl)
  try simp only [Act.put, List.setIfInBounds_toArray, List.set_cons_zero, List.set_cons_succ]
  refine hd_taken 15 (some 22) _ ?hdva15 rfl rfl (by kernel_rfl) (fun _ _ _ h => h) (Or.inl ⟨by kernel_rfl, ?hdya15⟩) (HSX.out _ b2) ?hdra15
  case hdya15 => (intro wx hx; (try dsimp only at hx); go_simp; try with_reducible rfl)
  try simp only [Act.put, List.setIfInBounds_toArray, List.set_cons_zero, List.set_cons_succ]
  have k2 : Blk g 182 #[.string s, .int .i64 (tq : Int), .string T, .int .i64 (wat : Int), .int .i64 0, .int .i64 0] w2 := PrB.below (PrB.below HP.out BW) b2
  have e2 : w2.cell? ⟨g, 2, none⟩ = some (.string T) := k2.cell 2
  have e3 : w2.cell? ⟨g, 3, none⟩ = some (.int .i64 (wat : Int)) := k2.cell 3
  have f2 : w2.frozen? ⟨g, 2, none⟩ = false := k2.frozen 2
  have f3 : w2.frozen? ⟨g, 3, none⟩ = false := k2.frozen 3
  have k3 := (k2.put 2 (.string T2)).put 3 (.int .i64 (wat2 : Int))
  have e4 : (w2.setCell ⟨g, 2, none⟩ (.string T2)).cell? ⟨g, 3, none⟩ = some (.int .i64 (wat : Int)) := (k2.put 2 (.string T2)).cell 3
  have f4 : (w2.setCell ⟨g, 2, none⟩ (.string T2)).frozen? ⟨g, 3, none⟩ = false := (k2.put 2 (.string T2)).frozen 3
  refine hd_one 16 _ rfl (by kernel_rfl) (by decide) (fun K16 hK16 => ?_)
  go_simp
  obtain ⟨w3, hw3⟩ : ∃ w3, (w2.setCell ⟨g, 2, none⟩ (.string T2)).setCell ⟨g, 3, none⟩ (.int .i64 (wat2 : Int)) = w3 := ⟨_, rfl⟩
  have HBU : Hid (But g w w3) := Lib.hid (by
    rw [← hw3]
    exact ((But.of_below BW).then_ b2).trans ((But.setCell g w2 2 _).trans (But.setCell g _ 3 _)))
  rw [hw3] at k3 ⊢
  have K3 : Hid (Blk g 182 #[.string s, .int .i64 (tq : Int), .string T2, .int .i64 (wat2 : Int), .int .i64 0, .int .i64 0] w3) := Lib.hid k3
  refine hK16.out _ _ ⟨K3.out.cell 0, K3.out.cell 1⟩ ?_
  clear hK16 K16
  try simp only [Act.put, List.setIfInBounds_toArray, List.set_cons_zero, List.set_cons_succ]
  refine hd_done (by kernel_rfl) ?_
  simp only [List.drop_succ_cons, List.drop_zero]
  have K4 : Hid (PrB (w3.setCell ⟨g, 1, none⟩ (.int .i64 (tq2 : Int))) g s T2 tq2 wat2) := Lib.hid (K3.out.put 1 (.int .i64 (tq2 : Int)))
  have HB4 := Lib.hid (HBU.out.trans (But.setCell g w3 1 (.int .i64 (tq2 : Int))))
  have r1 : w3.cell? ⟨g, 1, none⟩ = some (.int .i64 (tq : Int)) := K3.out.cell 1
  have r2 : w3.frozen? ⟨g, 1, none⟩ = false := K3.out.frozen 1
  clear hS hw3 k2 k3 e2 e3 e4 f2 f3 f4 BW b2
  go_wp2
  refine bodyPost_end (results_none rfl _ _ _) rfl ?_
  exact ⟨rfl, K4.out, HB4.out⟩
end Go.Proofs.YtfbfcomfkokfcaaGreatDoor


/- Of the reference's parser: span, of one number. -/
namespace Go.Proofs.YtfbfcomfkokfcaaGreatDoor
open Go.RowKit Go.Maps
set_option linter.unusedVariables false

theorem resSpanR {W : World} {tm : Array Value} {B : Nat} {t : TypeId} {a b : Value} (t2 : tm[4]?.getD undef = .pointer (some ⟨B, 0, none⟩)) (h : Blk B t #[a, b] W) :
    (results Tryz.f161 tm).run Tryz.prog W = .ok (.agg #[a, b]) W := by
  have a0 : W.cell? ⟨B, 0, none⟩ = some a := h.cell 0
  have a1 : W.cell? ⟨B, 1, none⟩ = some b := h.cell 1
  simp [results, Tryz.f161, go_sem, t2, a0, a1]
theorem but_set {g : Nat} {w w' : World} (h : But g w w') (b i : Nat) (hb : w.heap.size ≤ b) (u : Value) : But g w (w'.setCell ⟨b, i, none⟩ u) :=
  ⟨h.os, h.tape, h.output, by simp only [World.setCell, Array.size_modify]; exact h.size, fun k hk hg => by
    exact (Below.heap_setCell w' ⟨b, i, none⟩ u k (by show k ≠ b; omega)).trans (h.block k hk hg)⟩
set_option maxRecDepth 1000000 in
set_option maxHeartbeats 16000000 in
theorem span1_any (g : Nat) (s T : ByteArray) (tq wat : Nat) (T2 : ByteArray) (wat2 tq2 : Nat) (o : Int) (n : Nat)
    (hd : allD T.data.toList) (h1 : 0 < T.size) (h3 : T.size ≤ 3) (hz : ∀ h : 0 < T.size, (T[0]'h).toNat ≠ 48 ∨ T.size = 1) (hn : val T.data.toList = n) (hb : (n : Int) ≤ bnd o) (h2 : (T2.toList == (ofL [46, 46]).toList) = false)
    (hN : ∀ w, Calls Tryz.prog 159 #[.string s, .int .i64 (tq : Int)] w fun e w' => e = .returned (.tuple #[.agg #[.string T2, .int .i64 (wat2 : Int)], .int .i64 (tq2 : Int)]) ∧ Below w.heap.size w w')
    (w : World) (h : PrB w g s T tq wat) :
    Calls Tryz.prog 161 #[.pointer (some ⟨g, 0, none⟩), .int .i64 o] w fun e w' => e = .returned (.agg #[.int .i64 (n : Int), .int .i64 (n : Int)]) ∧ PrB w' g s T2 tq2 wat2 ∧ But g w w' := by
  have hg : g < w.heap.size := Blk.lt h
  obtain ⟨w1, hw1⟩ : ∃ w1, w.alloc (.cells #[.int .i64 0, .int .i64 0] 123) = w1 := ⟨_, rfl⟩
  have B1 : Below w.heap.size w w1 := by rw [← hw1]; exact below_al _ _
  have P1 := Lib.hid (PrB.below h B1)
  have K4 := Blk.new w 123 #[.int .i64 0, .int .i64 0]
  rw [hw1] at K4
  have HNU := Lib.hid (number_any g s T tq wat hd h1 h3 hz w1 P1.out)
  rw [hn] at HNU
  obtain ⟨w2, hw2⟩ : ∃ w2, w1.alloc (.cells #[.int .i64 (n : Int), .int .i64 0] 123) = w2 := ⟨_, rfl⟩
  have B2 : Below w1.heap.size w1 w2 := by rw [← hw2]; exact below_al _ _
  have K5 := Blk.new w1 123 #[.int .i64 (n : Int), .int .i64 0]
  rw [hw2] at K5
  have HP2 := Lib.hid (PrB.below P1.out B2)
  have HK4 := Lib.hid (Blk.below K4 B2)
  have HK5 := Lib.hid K5
  have HB2 := Lib.hid (B1.trans (B2.mono B1.size))
  have HW1 := Lib.hid hw1
  have HW2 := Lib.hid hw2
  have HBO := Lib.hid (fun wx => bound_any o wx)
  obtain ⟨bo, hbo⟩ : ∃ b, bnd o = b := ⟨_, rfl⟩
  rw [hbo] at HBO hb
  have t1 : ¬ (bo < (n : Int)) := by omega
  have hs1 : w1.heap.size = w.heap.size + 1 := by rw [← hw1]; exact Array.size_push _
  obtain ⟨b5, hb5⟩ : ∃ b, w1.heap.size = b := ⟨_, rfl⟩
  obtain ⟨b4, hb4⟩ : ∃ b, w.heap.size = b := ⟨_, rfl⟩
  have r0 : w2.cell? ⟨b5, 0, none⟩ = some (.int .i64 (n : Int)) := by rw [← hb5]; exact HK5.out.cell 0
  have HB5 := Lib.hid hb5
  have HB4 := Lib.hid hb4
  have HNE : Hid (g < b4 ∧ b4 < b5) := Lib.hid (by omega)
  rw [hb4] at HK4
  rw [hb5] at HK5
  have HH2 := Lib.hid h2
  have HNN := Lib.hid hN
  have HBE := Lib.hid hb
  clear hd h1 h3 hz hn h2 hN h hw1 hw2 B1 B2 K4 K5 hs1 hg hb hbo
  go_enter Tryz.func161, Tryz.ntmps161
  go_upto_region 1 with fail
  rw [HW1.out]
  (try rw [hb4])
  go_wp2_with fail
  refine HNU.out.mono ?_
  rintro e wx ⟨rfl, hwx⟩
  obtain rfl := hwx.symm
  go_upto_region 2 with fail
  rw [HW2.out]
  (try rw [hb5])
  go_quiet ((go_at_call 98; exact Calls.quiet_of_same (HBO.out _)))
  have BD : Below w2.heap.size w2 (w2.drewN nq) := below_drewN (Below.refl _ _) nq
  have HPD := Lib.hid (PrB.below HP2.out BD)
  have HK4D := Lib.hid (Blk.below HK4.out BD)
  have HK5D := Lib.hid (Blk.below HK5.out BD)
  have HBD := Lib.hid ((But.of_below (g := g) HB2.out).trans (But.of_below BD))
  obtain ⟨wd, hwd⟩ : ∃ wd, w2.drewN nq = wd := ⟨_, rfl⟩
  rw [hwd] at HPD HK4D HK5D HBD ⊢
  clear r0 hwd BD
  have HST := Lib.hid (step_any g s T tq wat T2 wat2 tq2 HNN.out wd HPD.out)
  go_wp2_with fail
  refine HST.out.mono ?_
  rintro e w3 ⟨rfl, p3, b3⟩
  have k4 := Blk.but HK4D.out b3 (by have := HNE.out; omega)
  have k5 := Blk.but HK5D.out b3 (by have := HNE.out; omega)
  have r1 : w3.cell? ⟨b5, 0, none⟩ = some (.int .i64 (n : Int)) := k5.cell 0
  have r2 : w3.cell? ⟨b5, 1, none⟩ = some (.int .i64 0) := k5.cell 1
  have r3 : w3.frozen? ⟨b5, 1, none⟩ = false := k5.frozen 1
  obtain ⟨w4, hw4⟩ : ∃ w4, w3.setCell ⟨b5, 1, none⟩ (.int .i64 (n : Int)) = w4 := ⟨_, rfl⟩
  have HW4 := Lib.hid hw4
  have HP4 : Hid (PrB w4 g s T2 tq2 wat2) := Lib.hid (by rw [← hw4]; exact Blk.far p3 (p := ⟨b5, 1, none⟩) (by show g ≠ b5; have := HNE.out; omega) _)
  have HK44 : Hid (Blk b4 123 #[.int .i64 0, .int .i64 0] w4) := Lib.hid (by rw [← hw4]; exact Blk.far k4 (p := ⟨b5, 1, none⟩) (by show b4 ≠ b5; have := HNE.out; omega) _)
  have HK54 : Hid (Blk b5 123 #[.int .i64 (n : Int), .int .i64 (n : Int)] w4) := Lib.hid (by rw [← hw4]; exact k5.put 1 (.int .i64 (n : Int)))
  have HB3 := Lib.hid (HBD.out.trans b3)
  have HIS := Lib.hid (is_any g s T2 (ofL [46, 46]) tq2 wat2 false HH2.out w4 HP4.out)
  clear p3 b3 k4 k5 hw4
  go_upto_region 6 with fail
  rw [HW4.out]
  clear r1 r2 r3
  have q0 : w4.cell? ⟨b5, 0, none⟩ = some (.int .i64 (n : Int)) := HK54.out.cell 0
  have q1 : w4.cell? ⟨b5, 1, none⟩ = some (.int .i64 (n : Int)) := HK54.out.cell 1
  have q2 : w4.cell? ⟨b4, 0, none⟩ = some (.int .i64 0) := HK44.out.cell 0
  have q3 : w4.cell? ⟨b4, 1, none⟩ = some (.int .i64 0) := HK44.out.cell 1
  have q4 : w4.frozen? ⟨b4, 0, none⟩ = false := HK44.out.frozen 0
  have q5 : w4.frozen? ⟨b4, 1, none⟩ = false := HK44.out.frozen 1
  have q6 : (w4.setCell ⟨b4, 0, none⟩ (.int .i64 (n : Int))).cell? ⟨b4, 1, none⟩ = some (.int .i64 0) := (HK44.out.put 0 (.int .i64 (n : Int))).cell 1
  have q7 : (w4.setCell ⟨b4, 0, none⟩ (.int .i64 (n : Int))).frozen? ⟨b4, 1, none⟩ = false := (HK44.out.put 0 (.int .i64 (n : Int))).frozen 1
  have HFI : Hid (Blk b4 123 #[.int .i64 (n : Int), .int .i64 (n : Int)] ((w4.setCell ⟨b4, 0, none⟩ (.int .i64 (n : Int))).setCell ⟨b4, 1, none⟩ (.int .i64 (n : Int)))) := Lib.hid ((HK44.out.put 0 (.int .i64 (n : Int))).put 1 (.int .i64 (n : Int)))
  have HPF : Hid (PrB ((w4.setCell ⟨b4, 0, none⟩ (.int .i64 (n : Int))).setCell ⟨b4, 1, none⟩ (.int .i64 (n : Int))) g s T2 tq2 wat2) := Lib.hid (Blk.far (Blk.far HP4.out (p := ⟨b4, 0, none⟩) (by show g ≠ b4; have := HNE.out; omega) _) (p := ⟨b4, 1, none⟩) (by show g ≠ b4; have := HNE.out; omega) _)
  have HBF : Hid (But g w ((w4.setCell ⟨b4, 0, none⟩ (.int .i64 (n : Int))).setCell ⟨b4, 1, none⟩ (.int .i64 (n : Int)))) := Lib.hid (by
    have e5 : w.heap.size ≤ b5 := by have := HNE.out; have := HB4.out; omega
    have e4 : w.heap.size ≤ b4 := by have := HB4.out; omega
    have x1 := but_set HB3.out b5 1 e5 (.int .i64 (n : Int))
    rw [HW4.out] at x1
    exact but_set (but_set x1 b4 0 e4 _) b4 1 e4 _)
  go_wp2_with fail
  refine HIS.out.mono ?_
  rintro e wz ⟨rfl, hwz⟩
  obtain rfl := hwz.symm
  go_wp2
  exact bodyPost_ret (v := .agg #[.int .i64 (n : Int), .int .i64 (n : Int)]) (resSpanR rfl HFI.out) rfl ⟨rfl, HPF.out, HBF.out⟩
end Go.Proofs.YtfbfcomfkokfcaaGreatDoor


/- Of the reference's parser: relation. -/
namespace Go.Proofs.YtfbfcomfkokfcaaGreatDoor
open Go.RowKit Go.Maps
set_option linter.unusedVariables false

structure RB (w0 : World) (g b2 b3 : Nat) (s T : ByteArray) (tq wat : Nat) (op md : Int) (nt : Bool) (sp : Value) (wr : World) : Prop where
  p : PrB wr g s T tq wat
  k2 : Blk b2 72 #[.int .i64 0, .int .i64 0, .bool false, .slice none 0 0] wr
  k3 : Blk b3 72 #[.int .i64 op, .int .i64 md, .bool nt, sp] wr
  bu : But g w0 wr
  lo : w0.heap.size ≤ b2
  ne : b2 < b3
  gl : g < b2
section
variable {w0 wr w' : World} {g b2 b3 : Nat} {s T T' : ByteArray} {tq wat tq' wat' : Nat} {op md : Int} {nt : Bool} {sp : Value}
theorem RB.next (h : RB w0 g b2 b3 s T tq wat op md nt sp wr) (p : PrB w' g s T' tq' wat') (b : But g wr w') : RB w0 g b2 b3 s T' tq' wat' op md nt sp w' :=
  ⟨p, Blk.but h.k2 b (by have := h.gl; omega), Blk.but h.k3 b (by have := h.gl; have := h.ne; omega), h.bu.trans b, h.lo, h.ne, h.gl⟩
theorem RB.below (h : RB w0 g b2 b3 s T tq wat op md nt sp wr) (b : Below wr.heap.size wr w') : RB w0 g b2 b3 s T tq wat op md nt sp w' := h.next (PrB.below h.p b) (But.of_below b)
theorem RB.put (h : RB w0 g b2 b3 s T tq wat op md nt sp wr) (i : Nat) (u : Value) : PrB (wr.setCell ⟨b3, i, none⟩ u) g s T tq wat ∧ Blk b2 72 #[.int .i64 0, .int .i64 0, .bool false, .slice none 0 0] (wr.setCell ⟨b3, i, none⟩ u) ∧ But g w0 (wr.setCell ⟨b3, i, none⟩ u) :=
  ⟨Blk.far h.p (p := ⟨b3, i, none⟩) (by show g ≠ b3; have := h.gl; have := h.ne; omega) u, Blk.far h.k2 (p := ⟨b3, i, none⟩) (by show b2 ≠ b3; have := h.ne; omega) u, but_set h.bu b3 i (by have := h.lo; have := h.ne; omega) u⟩
theorem RB.set0 (h : RB w0 g b2 b3 s T tq wat op md nt sp wr) (x : Int) : RB w0 g b2 b3 s T tq wat x md nt sp (wr.setCell ⟨b3, 0, none⟩ (.int .i64 x)) :=
  ⟨(h.put 0 _).1, (h.put 0 _).2.1, h.k3.put 0 _, (h.put 0 _).2.2, h.lo, h.ne, h.gl⟩
theorem RB.set1 (h : RB w0 g b2 b3 s T tq wat op md nt sp wr) (x : Int) : RB w0 g b2 b3 s T tq wat op x nt sp (wr.setCell ⟨b3, 1, none⟩ (.int .i64 x)) :=
  ⟨(h.put 1 _).1, (h.put 1 _).2.1, h.k3.put 1 _, (h.put 1 _).2.2, h.lo, h.ne, h.gl⟩
theorem RB.set2 (h : RB w0 g b2 b3 s T tq wat op md nt sp wr) (x : Bool) : RB w0 g b2 b3 s T tq wat op md x sp (wr.setCell ⟨b3, 2, none⟩ (.bool x)) :=
  ⟨(h.put 2 _).1, (h.put 2 _).2.1, h.k3.put 2 _, (h.put 2 _).2.2, h.lo, h.ne, h.gl⟩
theorem RB.set3 (h : RB w0 g b2 b3 s T tq wat op md nt sp wr) (x : Value) : RB w0 g b2 b3 s T tq wat op md nt x (wr.setCell ⟨b3, 3, none⟩ x) :=
  ⟨(h.put 3 _).1, (h.put 3 _).2.1, h.k3.put 3 _, (h.put 3 _).2.2, h.lo, h.ne, h.gl⟩
end
def letS : Str := [110, 105, 118, 119, 102, 116]
theorem let_cut {c : Nat} (hc : c < 6) (wx : World) : (Instr.slice 9 (.string ⟨#[110, 105, 118, 119, 102, 116]⟩) (some (.int .i64 (c : Int))) (some (.int .i64 ((c : Int) + 1))) none).run Tryz.prog wx = .ok (.string (ofL [letS.getD c 0])) wx := by
  have h := run_slice_string (P := Tryz.prog) (w := wx) 9 ⟨#[110, 105, 118, 119, 102, 116]⟩ .i64 .i64 (c : Int) ((c : Int) + 1) Tryz.underlying9 (by omega) (by omega) (by show (c : Int) + 1 ≤ 6; omega)
  have e : (⟨#[110, 105, 118, 119, 102, 116]⟩ : ByteArray).extract (c : Int).toNat ((c : Int) + 1).toNat = ofL [letS.getD c 0] := by
    have e1 : ((c : Int) + 1).toNat = c + 1 := by omega
    rw [Int.toNat_natCast, e1]
    have : ∀ k : Fin 6, (⟨#[110, 105, 118, 119, 102, 116]⟩ : ByteArray).extract k.val (k.val + 1) = ofL [letS.getD k.val 0] := by decide +kernel
    exact this ⟨c, hc⟩
  rw [e] at h
  exact h
theorem let_eq : ∀ (a b : Fin 6), ((ofL [letS.getD a.val 0]).toList == (ofL [letS.getD b.val 0]).toList) = decide (a.val = b.val) := by
  intro a b
  rw [toL, toL]
  revert a b
  decide +kernel
end Go.Proofs.YtfbfcomfkokfcaaGreatDoor


