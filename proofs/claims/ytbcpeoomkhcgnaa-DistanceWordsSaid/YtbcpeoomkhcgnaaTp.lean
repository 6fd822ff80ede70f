/- The reference's Words. -/
import Derived.Test.YtbcpeoomkhcgnaaTm
namespace Go.Proofs.Ytbcpeoomkhcgnaa
open Go.RowKit
set_option linter.unusedVariables false

theorem drop_get {l : Str} {f i : Nat} (h : i < (l.drop f).length) : (l.drop f)[i] = l[f + i]'(by rw [List.length_drop] at h; omega) := by simp
theorem run_from {l : Str} {f m : Nat} (h0 : f < m) (hm : m ≤ l.length) (h1 : ∀ i (h : i < l.length), f ≤ i → i < m → rn l[i] = true) (h2 : ∀ h : m < l.length, rn l[m] = false) : Starts (l.drop f) (m - f) := by
  refine starts_run (by omega) (by rw [List.length_drop]; omega) (fun i h hi => ?_) (fun h => ?_)
  · rw [drop_get h]; exact h1 _ _ (by omega) (by omega)
  · rw [drop_get h]
    have e : f + (m - f) = m := by omega
    have h3 : m < l.length := by rw [List.length_drop] at h; omega
    have := h2 h3
    simpa [e] using this
theorem space_from {l : Str} {f : Nat} (h : f < l.length) (h1 : rn l[f] = false) (h2 : sp l[f] = true) : words (l.drop f) = words (l.drop (f + 1)) := by
  rw [List.drop_eq_getElem_cons h]
  exact words_space h1 h2
theorem sign_from {l : Str} {f : Nat} (h : f < l.length) (h1 : rn l[f] = false) (h2 : sp l[f] = false) : words (l.drop f) = (l.drop f).take 1 :: words (l.drop (f + 1)) := by
  rw [List.drop_eq_getElem_cons h]
  exact words_sign h1 h2
set_option maxRecDepth 1000000 in
set_option maxHeartbeats 2000000 in
theorem refWords_any (s : ByteArray) (hs : s.size ≤ 100000) (w : World) :
    Calls Try.prog 13 #[.string s] w fun e w' => (∃ v, e = .returned v ∧ Own1 1 encT w' w.heap.size 9 v (words s.data.toList)) ∧ Below w.heap.size w w' := by
  obtain ⟨iI, hiI, hzI, hkI, hbI⟩ := info_parts Try.infoT
  go_enter Try.func13, Try.ntmps13
  go_wp2
  go_loopw [3, 4] (fun v3 v4 wr => ∃ (f : Nat) (L : List Str), v4 = .int .i64 f ∧ f ≤ s.size ∧ Own1 1 encT wr w.heap.size 9 v3 L ∧ L ++ words (s.data.toList.drop f) = words s.data.toList ∧ Below w.heap.size w wr) (fun _ v4 _ => s.size - (intOf v4).toNat)
  case atStart => exact ⟨0, [], rfl, Nat.zero_le _, own1_nil _ _ _, by rw [List.drop_zero]; rfl, Below.refl _ _⟩
  case round =>
    obtain ⟨f, L, rfl, hf, hown, hL, hb⟩ := hrel
    have HO := Lib.hid hown
    have HL := Lib.hid hL
    have HB := Lib.hid hb
    have zr := hb.size
    have hLl : L.length ≤ 100000 := by
      have e1 := congrArg List.length hL
      have e2 := words_count s.data.toList
      rw [len_data] at e2
      rw [List.length_append] at e1
      omega
    obtain ⟨av, cv, hav⟩ := hown.slice
    obtain ⟨n7, hn7⟩ : ∃ n7, L.length = n7 := ⟨_, rfl⟩
    rw [hn7] at hav hLl
    subst hav
    have HN7 := Lib.hid hn7
    clear hown hL hb hn7
    by_cases hlt : f < s.size
    · have hlt' : (f : Int) < (s.size : Int) := by omega
      have hfl : f < s.data.toList.length := by rw [len_data]; exact hlt
      have K0 := kind_any (s[f]'hlt).toNat
      cases hsp : spN (s[f]'hlt).toNat with
      | true =>
        have HW := Lib.hid (space_from hfl (sp_not_rn hsp) hsp)
        have hk : knd (s[f]'hlt).toNat = 0 := by unfold knd; rw [hsp]; rfl
        rw [hk] at K0
        have HK := Lib.hid K0
        clear K0 hsp hk hfl
        go_wp2
        go_loopw [5] (fun v5 wx => v5 = .int .i64 ((f : Int) + 1) ∧ wx = wr) (fun _ _ => 0)
        case atStart => exact ⟨rfl, rfl⟩
        case round =>
          obtain ⟨rfl, hwx⟩ := hrel
          obtain rfl := hwx.symm
          go_wp2_with fail
          refine (HK.out _).mono ?_
          rintro e w' ⟨rfl, hw'⟩
          obtain rfl := hw'.symm
          go_wp2_with fail
          refine (HK.out _).mono ?_
          rintro e w' ⟨rfl, hw'⟩
          obtain rfl := hw'.symm
          go_wp2
          go_roundw
          case rel => exact ⟨f + 1, L, by go_num, by omega, HO.out, by rw [← HL.out, HW.out], HB.out⟩
          case measure => simp [intOf]; omega
      | false =>
        cases hr : rnN (s[f]'hlt).toNat with
        | false =>
          have HW := Lib.hid (sign_from hfl hr hsp)
          have hk : knd (s[f]'hlt).toNat = 2 := by unfold knd; rw [hsp, hr]; rfl
          rw [hk] at K0
          have HK := Lib.hid K0
          have HX := Lib.hid (ext_of s f (f + 1))
          clear K0 hsp hk hfl hr
          go_wp2
          go_loopw [5] (fun v5 wx => v5 = .int .i64 ((f : Int) + 1) ∧ wx = wr) (fun _ _ => 0)
          case atStart => exact ⟨rfl, rfl⟩
          case round =>
            obtain ⟨rfl, hwx⟩ := hrel
            obtain rfl := hwx.symm
            have g1 : (f : Int) ≤ (f : Int) + 1 := by omega
            have g2 : (f : Int) + 1 ≤ (s.size : Int) := by omega
            go_wp2_with fail
            refine (HK.out _).mono ?_
            rintro e w' ⟨rfl, hw'⟩
            obtain rfl := hw'.symm
            go_wp2_with fail
            refine (HK.out _).mono ?_
            rintro e w' ⟨rfl, hw'⟩
            obtain rfl := hw'.symm
            go_wp2_with (at_builtin; refine wpList_append_at (w0 := wr) (x := (s.data.toList.drop f).take 1) (N := wr.heap.size) rfl rfl _ _ 23 rfl w.heap.size iI _ 16 Try.underlying23 hiI hzI hkI hbI (by omega) rfl (by omega) encT_len encT_one _ L (by rw [HX.out, Nat.add_sub_cancel_left]; simp [encT]) rfl HO.out rfl (by have := HN7.out; omega) zr ?_; intro v9 w9 y1 y2 y3)
            have HY1 := Lib.hid y1
            have HY2 := Lib.hid (HB.out.trans y2)
            clear y1 y2 y3
            go_wp2
            go_roundw
            case rel => exact ⟨f + 1, _, by go_num, by omega, HY1.out, by rw [← HL.out, HW.out, List.append_assoc]; rfl, HY2.out⟩
            case measure => simp [intOf]; omega
        | true =>
          have hk : knd (s[f]'hlt).toNat = 1 := by unfold knd; rw [hsp, hr]; rfl
          rw [hk] at K0
          have HK := Lib.hid K0
          have HR := Lib.hid hr
          clear K0 hsp hk hr
          go_wp2
          go_loopw [5] (fun v5 wx => ∃ m : Nat, f < m ∧ m ≤ s.size ∧ v5 = .int .i64 m ∧ (∀ i (h : i < s.data.toList.length), f ≤ i → i < m → rn s.data.toList[i] = true) ∧ wx = wr) (fun v5 _ => s.size - (intOf v5).toNat)
          case atStart => exact ⟨f + 1, by omega, by omega, by first | rfl | go_num, fun i h h1 h2 => by
            obtain rfl : i = f := by omega
            exact HR.out, rfl⟩
          case round =>
            obtain ⟨m, hm1, hm2, rfl, hall, hwx⟩ := hrel
            obtain rfl := hwx.symm
            have HA := Lib.hid hall
            clear hall
            by_cases hms : m < s.size
            · have g1 : (m : Int) < (s.size : Int) := by omega
              have K1 := kind_any (s[m]'hms).toNat
              cases hr2 : rnN (s[m]'hms).toNat with
              | true =>
                have hsp2 : spN (s[m]'hms).toNat = false := by
                  cases h : spN (s[m]'hms).toNat with
                  | false => rfl
                  | true => rw [sp_not_rn h] at hr2; cases hr2
                have hk2 : knd (s[m]'hms).toNat = 1 := by unfold knd; rw [hsp2, hr2]; rfl
                rw [hk2] at K1
                have HK1 := Lib.hid K1
                have HR2 := Lib.hid hr2
                clear K1 hsp2 hk2 hr2
                go_wp2_with fail
                refine (HK.out _).mono ?_
                rintro e w' ⟨rfl, hw'⟩
                obtain rfl := hw'.symm
                go_wp2_with fail
                refine (HK1.out _).mono ?_
                rintro e w' ⟨rfl, hw'⟩
                obtain rfl := hw'.symm
                go_wp2
                go_roundw
                case rel => exact ⟨m + 1, by omega, by omega, by go_num, fun i h h1 h2 => by
                  rcases Nat.lt_or_ge i m with h3 | h3
                  · exact HA.out i h h1 h3
                  · obtain rfl : i = m := by omega
                    exact HR2.out, by trivial⟩
                case measure => simp [intOf]; omega
              | false =>
                have hk2 : ((knd (s[m]'hms).toNat) == 1) = false := by unfold knd; rw [hr2]; cases spN (s[m]'hms).toNat <;> rfl
                obtain ⟨kv, hkv⟩ : ∃ kv, knd (s[m]'hms).toNat = kv := ⟨_, rfl⟩
                rw [hkv] at K1 hk2
                have HK1 := Lib.hid K1
                have HST := Lib.hid (run_from hm1 (by rw [len_data]; exact hm2) HA.out (fun h => hr2))
                have HX := Lib.hid (ext_of s f m)
                have g2 : (f : Int) ≤ (m : Int) := by omega
                have g3 : (m : Int) ≤ (s.size : Int) := by omega
                clear K1 hr2 hkv
                go_wp2_with fail
                refine (HK.out _).mono ?_
                rintro e w' ⟨rfl, hw'⟩
                obtain rfl := hw'.symm
                go_wp2_with fail
                refine (HK1.out _).mono ?_
                rintro e w' ⟨rfl, hw'⟩
                obtain rfl := hw'.symm
                go_wp2_with fail
                refine (HK.out _).mono ?_
                rintro e w' ⟨rfl, hw'⟩
                obtain rfl := hw'.symm
                go_wp2_with (at_builtin; refine wpList_append_at (w0 := wr) (x := (s.data.toList.drop f).take (m - f)) (N := wr.heap.size) rfl rfl _ _ 23 rfl w.heap.size iI _ 16 Try.underlying23 hiI hzI hkI hbI (by omega) rfl (by omega) encT_len encT_one _ L (by rw [HX.out]; simp [encT]) rfl HO.out rfl (by have := HN7.out; omega) zr ?_; intro v9 w9 y1 y2 y3)
                have HY1 := Lib.hid y1
                have HY2 := Lib.hid (HB.out.trans y2)
                clear y1 y2 y3
                go_wp2
                go_roundw
                case rel => exact ⟨m, _, by go_num, by omega, HY1.out, by rw [← HL.out, HST.out.2.2, List.append_assoc, List.drop_drop, show f + (m - f) = m by omega]; rfl, HY2.out⟩
                case measure => simp [intOf]; omega
            · obtain rfl : m = s.size := by omega
              have g1 : ¬ (s.size : Int) < (s.size : Int) := by omega
              have HST := Lib.hid (run_from hm1 (by rw [len_data]; exact hm2) HA.out (fun h => by rw [len_data] at h; omega))
              have HX := Lib.hid (ext_of s f s.size)
              have g2 : (f : Int) ≤ (s.size : Int) := by omega
              go_wp2_with fail
              refine (HK.out _).mono ?_
              rintro e w' ⟨rfl, hw'⟩
              obtain rfl := hw'.symm
              go_wp2_with fail
              refine (HK.out _).mono ?_
              rintro e w' ⟨rfl, hw'⟩
              obtain rfl := hw'.symm
              go_wp2_with (at_builtin; refine wpList_append_at (w0 := wr) (x := (s.data.toList.drop f).take (s.size - f)) (N := wr.heap.size) rfl rfl _ _ 23 rfl w.heap.size iI _ 16 Try.underlying23 hiI hzI hkI hbI (by omega) rfl (by omega) encT_len encT_one _ L (by rw [HX.out]; simp [encT]) rfl HO.out rfl (by have := HN7.out; omega) zr ?_; intro v9 w9 y1 y2 y3)
              have HY1 := Lib.hid y1
              have HY2 := Lib.hid (HB.out.trans y2)
              clear y1 y2 y3
              go_wp2
              go_roundw
              case rel => exact ⟨s.size, _, by go_num, by omega, HY1.out, by rw [← HL.out, HST.out.2.2, List.append_assoc, List.drop_drop, show f + (s.size - f) = s.size by omega]; rfl, HY2.out⟩
              case measure => simp [intOf]; omega
    · obtain rfl : f = s.size := by omega
      have hw0 : words (s.data.toList.drop s.size) = [] := by rw [List.drop_eq_nil_of_le (by rw [len_data]; exact Nat.le_refl _)]; rfl
      have HW := Lib.hid hw0
      have hlt' : ¬ (s.size : Int) < (s.size : Int) := by omega
      clear hw0
      go_wp2
      go_ret
      refine ⟨⟨_, rfl, ?_⟩, HB.out⟩
      have := HO.out
      rw [← HL.out, HW.out, List.append_nil]
      exact this
end Go.Proofs.Ytbcpeoomkhcgnaa
