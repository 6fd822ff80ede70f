/- The reference's Apply; the law DiffApply. -/
import Derived.Test.YtcnjomkddbbopaaMw
import Derived.Test.YtcnjomkddbbopaaMq
namespace Go.Proofs.Ytcnjomkddbbopaa
open Go.RowKit
set_option linter.unusedVariables false

set_option maxRecDepth 1000000 in
set_option maxHeartbeats 2000000 in
theorem refApply_any (va vs : Value) (a : List Str) (s : List Ed) (w : World) (ha : Rd 1 encT w va a) (hs : Rd 2 encE w vs s) (hla : a.length ≤ 200) (hls : s.length ≤ 200) :
    Calls Try.prog 24 #[va, vs] w fun e w' => ∃ v, e = .returned (.tuple #[v, .int .i64 (apR a s).1]) ∧ Own1 1 encT w' w.heap.size 9 v (apR a s).2 ∧ Below w.heap.size w w' := by
  obtain ⟨aa, ca, rfl, hca, hca2⟩ := ha.slice
  obtain ⟨asx, cs, rfl, hcs, hcs2⟩ := hs.slice
  obtain ⟨iS, hiS, hzS, hkS, hbS⟩ := info_parts Try.infoT
  have HA := Lib.hid ha
  have HS := Lib.hid hs
  clear ha hs hca hca2 hcs hcs2
  go_enter Try.func24, Try.ntmps24
  go_wp2
  go_loopw [6] (fun v wr => ∃ k : Nat, k ≤ s.length ∧ v = .int .i64 k ∧ Kinds (s.take k) ∧ wr = w) (fun v _ => s.length - (intOf v).toNat)
  case atStart => exact ⟨0, Nat.zero_le _, rfl, fun e he => by simp at he, rfl⟩
  case round =>
    obtain ⟨k, hk, rfl, hkd, hww⟩ := hrel
    obtain rfl := hww.symm
    have HKT := Lib.hid hkd
    clear hkd
    by_cases hlt : k < s.length
    · obtain ⟨bk, off, rfl, h0, h1⟩ := HS.out.ed k hlt
      have h3 : (k : Int) < (s.length : Int) := by omega
      have HM := Lib.hid (List.getElem_mem hlt)
      have HT := Lib.hid (List.take_succ_eq_append_getElem hlt)
      obtain ⟨q, hq⟩ : ∃ q, s[k] = q := ⟨_, rfl⟩
      rw [hq] at h0 h1 HT HM
      obtain ⟨q1, t⟩ := q
      dsimp only at h0 h1
      clear hq h1
      by_cases hq1 : 1 ≤ q1 ∧ q1 ≤ 3
      · obtain ⟨g1, g2⟩ := hq1
        have HK2 : Hid (Kinds (s.take (k + 1))) := Lib.hid (by
          rw [HT.out]
          exact kinds_append HKT.out (fun e he => by simp at he; subst he; exact ⟨g1, g2⟩))
        have g3 : ¬ q1 < 1 := by omega
        have g4 : ¬ 3 < q1 := by omega
        go_wp2
        go_roundw
        case measure => simp [intOf]; omega
        case rel => exact ⟨k + 1, by omega, by go_num, HK2.out, by first | rfl | trivial⟩
      · have hkf : kindsB s = false := by
          cases h : kindsB s with
          | false => rfl
          | true => exact absurd ((kindsB_iff s).1 h _ HM.out) hq1
        have HAP := Lib.hid (apR_unk (a := a) hkf)
        clear hkf
        by_cases g1 : q1 < 1
        · go_wp2
          go_ret2
          rw [HAP.out]
          exact ⟨_, rfl, own1_nil _ _ _, Below.refl _ _⟩
        · have g2 : 3 < q1 := by omega
          go_wp2
          go_ret2
          rw [HAP.out]
          exact ⟨_, rfl, own1_nil _ _ _, Below.refl _ _⟩
    · obtain rfl : k = s.length := by omega
      have h3 : ¬ (s.length : Int) < (s.length : Int) := by omega
      have hkk : Kinds s := by have := HKT.out; rwa [List.take_length] at this
      have HKK := Lib.hid hkk
      have HK := Lib.hid ((kindsB_iff s).2 hkk)
      clear hkk
      go_wp2
      go_loopw [7, 8, 9] (fun v7 v8 v9 wr => ∃ (k p : Nat) (out : List Str), k ≤ s.length ∧ v9 = .int .i64 k ∧ p ≤ a.length ∧ v8 = .int .i64 p ∧ out.length ≤ k ∧ Own1 1 encT wr w.heap.size 9 v7 out ∧ runE a s [] = runE (a.drop p) (s.drop k) out ∧ Below w.heap.size w wr) (fun _ _ v9 _ => s.length - (intOf v9).toNat)
      case atStart => exact ⟨0, 0, [], Nat.zero_le _, rfl, Nat.zero_le _, rfl, Nat.le_refl _, own1_nil _ _ _, rfl, Below.refl _ _⟩
      case round =>
        obtain ⟨k, p, out, hk, rfl, hp, rfl, hol, hown, hrun, hb⟩ := hrel
        have HO := Lib.hid hown
        have HRN := Lib.hid hrun
        have HB := Lib.hid hb
        have zr := hb.size
        obtain ⟨av, cv, hav⟩ := hown.slice
        subst hav
        clear hown hrun hb
        by_cases hlt : k < s.length
        · obtain ⟨bk, off, rfl, h0, h1⟩ := (HS.out.below HB.out).ed k hlt
          have h3 : (k : Int) < (s.length : Int) := by omega
          have HM := Lib.hid (HKK.out _ (List.getElem_mem hlt))
          have HD := Lib.hid (List.drop_eq_getElem_cons hlt)
          obtain ⟨q, hq⟩ : ∃ q, s[k] = q := ⟨_, rfl⟩
          rw [hq] at h0 h1 HM HD
          obtain ⟨q1, t⟩ := q
          dsimp only at h0 h1 HM
          clear hq
          have hq3 : q1 = 1 ∨ q1 = 2 ∨ q1 = 3 := by have := HM.out; omega
          rcases hq3 with e3 | e3 | e3
          · subst e3
            have HRU : Hid (runE a s [] = runE (a.drop p) ((1, t) :: s.drop (k + 1)) out) := Lib.hid (by rw [HRN.out, HD.out])
            have BW : Hid (Below w.heap.size w (wr.alloc (.cells #[.int .i64 1, .string (ofL t)] 59))) := Lib.hid (HB.out.alloc zr _)
            obtain ⟨wz, hwz⟩ : ∃ wz, wr.alloc (.cells #[.int .i64 1, .string (ofL t)] 59) = wz := ⟨_, rfl⟩
            have kE := Blk.new wr 59 #[.int .i64 1, .string (ofL t)]
            have O1 := Lib.hid (HO.out.below ((Below.refl _ wr).alloc (Nat.le_refl _) (.cells #[.int .i64 1, .string (ofL t)] 59)))
            have zz : wz.heap.size = wr.heap.size + 1 := by rw [← hwz]; simp
            rw [hwz] at BW kE O1
            have k0 : wz.cell? ⟨wr.heap.size, 0, none⟩ = some (.int .i64 1) := kE.cell 0
            have k1 : wz.cell? ⟨wr.heap.size, 1, none⟩ = some (.string (ofL t)) := kE.cell 1
            clear kE
            go_upto_region 13 with fail
            try rw [hwz]
            clear hwz h0 h1
            by_cases hpl : p < a.length
            · have HDA := Lib.hid (List.drop_eq_getElem_cons hpl)
              obtain ⟨br, orr, rfl, x1⟩ := (HA.out.below BW.out).str p hpl
              obtain ⟨x, hx⟩ : ∃ x, a[p] = x := ⟨_, rfl⟩
              rw [hx] at x1 HDA
              have u0 : ¬ (a.length : Int) ≤ (p : Int) := by omega
              have d0 := decide_eq_false u0
              have d1 := decide_eq_false (show ¬ a.length ≤ p by omega)
              have u1 : (p : Int) < (a.length : Int) := by omega
              clear hx
              by_cases hxt : x = t
              · subst hxt
                have HR1 : Hid (runE a s [] = runE (a.drop (p + 1)) (s.drop (k + 1)) (out ++ [x])) := Lib.hid (by rw [HRU.out, HDA.out, run_keep])
                go_big_quiet (fail)
                clear x1 u0 d0 d1
                have HO2 := Lib.hid (O1.out.below (below_drewN (Below.refl _ wz) nq))
                go_wp2_with (first | (at_builtin; refine wpList_append_at (w0 := wz.drewN nq) (x := x) (N := wr.heap.size + 1) (by simp [zz]) rfl _ _ 22 rfl w.heap.size iS _ 16 Try.underlying22 hiS hzS hkS hbS (by omega) rfl (by omega) encT_len encT_one _ out rfl rfl HO2.out rfl (by omega) (by omega) ?_; intro v9 w9 y1 y2 y3) | go_in)
                have HY1 := Lib.hid y1
                have HY2 := Lib.hid y2
                clear y1 y2 y3
                go_wp2
                go_roundw
                case measure => simp [intOf]; omega
                case rel => exact ⟨k + 1, p + 1, out ++ [x], by omega, by go_num, by omega, by go_num, by rw [List.length_append, List.length_singleton]; omega, HY1.out, HR1.out, (below_drewN BW.out nq).trans HY2.out⟩
              · obtain ⟨q5, q6⟩ := str_ne hxt
                have HAP := Lib.hid (apR_none HK.out (HRU.out.trans (by rw [HDA.out]; exact run_ne (by omega) hxt)))
                clear hxt
                go_big_quiet (fail)
                clear x1 k0 k1
                go_wp2
                go_ret2
                rw [HAP.out]
                exact ⟨_, rfl, own1_nil _ _ _, below_drewN BW.out _⟩
            · obtain rfl : p = a.length := by omega
              have HAP := Lib.hid (apR_none HK.out (HRU.out.trans (by rw [List.drop_length]; exact run_out (by omega))))
              have u0 : (a.length : Int) ≤ (a.length : Int) := by omega
              go_big_quiet (fail)
              clear k0 k1
              go_wp2
              go_ret2
              rw [HAP.out]
              exact ⟨_, rfl, own1_nil _ _ _, below_drewN BW.out _⟩
          · subst e3
            have HRU : Hid (runE a s [] = runE (a.drop p) ((2, t) :: s.drop (k + 1)) out) := Lib.hid (by rw [HRN.out, HD.out])
            have BW : Hid (Below w.heap.size w (wr.alloc (.cells #[.int .i64 2, .string (ofL t)] 59))) := Lib.hid (HB.out.alloc zr _)
            obtain ⟨wz, hwz⟩ : ∃ wz, wr.alloc (.cells #[.int .i64 2, .string (ofL t)] 59) = wz := ⟨_, rfl⟩
            have kE := Blk.new wr 59 #[.int .i64 2, .string (ofL t)]
            have O1 := Lib.hid (HO.out.below ((Below.refl _ wr).alloc (Nat.le_refl _) (.cells #[.int .i64 2, .string (ofL t)] 59)))
            have zz : wz.heap.size = wr.heap.size + 1 := by rw [← hwz]; simp
            rw [hwz] at BW kE O1
            have k0 : wz.cell? ⟨wr.heap.size, 0, none⟩ = some (.int .i64 2) := kE.cell 0
            have k1 : wz.cell? ⟨wr.heap.size, 1, none⟩ = some (.string (ofL t)) := kE.cell 1
            clear kE
            go_upto_region 13 with fail
            try rw [hwz]
            clear hwz h0 h1
            by_cases hpl : p < a.length
            · have HDA := Lib.hid (List.drop_eq_getElem_cons hpl)
              obtain ⟨br, orr, rfl, x1⟩ := (HA.out.below BW.out).str p hpl
              obtain ⟨x, hx⟩ : ∃ x, a[p] = x := ⟨_, rfl⟩
              rw [hx] at x1 HDA
              have u0 : ¬ (a.length : Int) ≤ (p : Int) := by omega
              have d0 := decide_eq_false u0
              have d1 := decide_eq_false (show ¬ a.length ≤ p by omega)
              have u1 : (p : Int) < (a.length : Int) := by omega
              clear hx
              by_cases hxt : x = t
              · subst hxt
                have HR1 : Hid (runE a s [] = runE (a.drop (p + 1)) (s.drop (k + 1)) (out)) := Lib.hid (by rw [HRU.out, HDA.out, run_del])
                go_big_quiet (fail)
                clear x1 u0 d0 d1
                go_wp2
                go_roundw
                case measure => simp [intOf]; omega
                case rel => exact ⟨k + 1, p + 1, out, by omega, by go_num, by omega, by go_num, by omega, O1.out.below (below_drewN (Below.refl _ wz) _), HR1.out, below_drewN BW.out _⟩
              · obtain ⟨q5, q6⟩ := str_ne hxt
                have HAP := Lib.hid (apR_none HK.out (HRU.out.trans (by rw [HDA.out]; exact run_ne (by omega) hxt)))
                clear hxt
                go_big_quiet (fail)
                clear x1 k0 k1
                go_wp2
                go_ret2
                rw [HAP.out]
                exact ⟨_, rfl, own1_nil _ _ _, below_drewN BW.out _⟩
            · obtain rfl : p = a.length := by omega
              have HAP := Lib.hid (apR_none HK.out (HRU.out.trans (by rw [List.drop_length]; exact run_out (by omega))))
              have u0 : (a.length : Int) ≤ (a.length : Int) := by omega
              go_big_quiet (fail)
              clear k0 k1
              go_wp2
              go_ret2
              rw [HAP.out]
              exact ⟨_, rfl, own1_nil _ _ _, below_drewN BW.out _⟩
          · subst e3
            have HR1 : Hid (runE a s [] = runE (a.drop p) (s.drop (k + 1)) (out ++ [t])) := Lib.hid (by rw [HRN.out, HD.out, run_ins])
            have BW : Hid (Below w.heap.size w (wr.alloc (.cells #[.int .i64 3, .string (ofL t)] 59))) := Lib.hid (HB.out.alloc zr _)
            have O1 := Lib.hid (HO.out.below ((Below.refl _ wr).alloc (Nat.le_refl _) (.cells #[.int .i64 3, .string (ofL t)] 59)))
            go_wp2_with (first | (at_builtin; refine wpList_append_at (w0 := wr.alloc (.cells #[.int .i64 3, .string (ofL t)] 59)) (x := t) (N := wr.heap.size + 1) (by simp) rfl _ _ 22 rfl w.heap.size iS _ 16 Try.underlying22 hiS hzS hkS hbS (by omega) rfl (by omega) encT_len encT_one _ out rfl rfl O1.out rfl (by omega) (by omega) ?_; intro v9 w9 y1 y2 y3) | go_in)
            have HY1 := Lib.hid y1
            have HY2 := Lib.hid y2
            clear y1 y2 y3
            go_wp2
            go_roundw
            case measure => simp [intOf]; omega
            case rel => exact ⟨k + 1, p, out ++ [t], by omega, by go_num, hp, rfl, by rw [List.length_append, List.length_singleton]; omega, HY1.out, HR1.out, BW.out.trans HY2.out⟩
        · obtain rfl : k = s.length := by omega
          have h3 : ¬ (s.length : Int) < (s.length : Int) := by omega
          have HR1 : Hid (runE a s [] = runE (a.drop p) [] out) := Lib.hid (by rw [HRN.out, List.drop_length])
          by_cases hpl : p < a.length
          · have HAP := Lib.hid (apR_none HK.out (HR1.out.trans (by rw [List.drop_eq_getElem_cons hpl]; simp [runE])))
            have u3 : (p : Int) < (a.length : Int) := by omega
            go_wp2
            go_ret2
            rw [HAP.out]
            exact ⟨_, rfl, own1_nil _ _ _, HB.out⟩
          · obtain rfl : p = a.length := by omega
            have HAP := Lib.hid (apR_some HK.out (HR1.out.trans (show runE (a.drop a.length) ([] : List Ed) out = some out by rw [List.drop_length]; simp [runE])))
            have u3 : ¬ (a.length : Int) < (a.length : Int) := by omega
            go_wp2
            go_ret2
            rw [HAP.out]
            exact ⟨_, rfl, HO.out, HB.out⟩
end Go.Proofs.Ytcnjomkddbbopaa
