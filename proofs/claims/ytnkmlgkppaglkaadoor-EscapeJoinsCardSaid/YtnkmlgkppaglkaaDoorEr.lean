/- The law EscapeJoins. -/
import Derived.Test.YtnkmlgkppaglkaaDoorEq
namespace Go.Proofs.YtnkmlgkppaglkaaDoor
open Go.RowKit
set_option linter.unusedVariables false

set_option maxRecDepth 100000 in
set_option maxHeartbeats 2000000 in
theorem escapeJoins_walk (st : Int) (s t : ByteArray) (hst : (Lit.int .i64 st).wf = true) (hs : s.size ≤ maxLen) (ht : t.size ≤ maxLen) (w : World) (E : Env w) :
    Calls Tryd.prog 8 #[.int .i64 st, .string s, .string t] w fun e w' => e = .returned (.bool true) ∧ Below w.heap.size w w' := by
  clear hst
  by_cases h3 : 300 < s.size
  · have b3 : decide ((300 : Int) < s.size) = true := decide_eq_true (by omega)
    go_enter Tryd.func8, Tryd.ntmps8
    go_wp2_with fail
    refine (awake_any _ E).mono ?_
    rintro e w1 ⟨rfl, D1⟩
    go_wp2_with fail
    refine (awake_any _ (E.below D1)).mono ?_
    rintro e w2 ⟨rfl, D2⟩
    go_wp2
    go_ret
    exact ⟨rfl, below2 D1 D2⟩
  have b3 : decide ((300 : Int) < s.size) = false := decide_eq_false (by omega)
  by_cases h4 : 300 < t.size
  · have b4 : decide ((300 : Int) < t.size) = true := decide_eq_true (by omega)
    go_enter Tryd.func8, Tryd.ntmps8
    go_wp2_with fail
    refine (awake_any _ E).mono ?_
    rintro e w1 ⟨rfl, D1⟩
    go_wp2_with fail
    refine (awake_any _ (E.below D1)).mono ?_
    rintro e w2 ⟨rfl, D2⟩
    go_wp2
    go_ret
    exact ⟨rfl, below2 D1 D2⟩
  have b4 : decide ((300 : Int) < t.size) = false := decide_eq_false (by omega)
  by_cases h1 : st = 1
  · subst h1
    obtain ⟨n, hn1⟩ : ∃ n : Nat, n = 1 := ⟨1, rfl⟩
    have hcast : (1 : Int) = (n : Int) := by omega
    have Hn : Hid (n = 1 ∨ n = 2 ∨ n = 3 ∨ n = 4) := Lib.hid (.inl hn1)
    by_cases h0 : 0 < t.size
    · have b0 : decide ((0 : Int) < t.size) = true := decide_eq_true (by omega)
      have hb := byt_get t 0 h0
      by_cases h32 : (t[0]'h0).toNat = 32
      · have q : ((t[0]'h0).toNat : Int) = 32 := by omega
        clear hb h32 hcast Hn hn1
        go_enter Tryd.func8, Tryd.ntmps8
        go_wp2_with fail
        refine (awake_any _ E).mono ?_
        rintro e w1 ⟨rfl, D1⟩
        go_wp2_with fail
        refine (awake_any _ (E.below D1)).mono ?_
        rintro e w2 ⟨rfl, D2⟩
        go_wp2
        go_ret
        exact ⟨rfl, below2 D1 D2⟩
      · have q : ¬ ((t[0]'h0).toNat : Int) = 32 := by omega
        subst hn1
        have hj : escL 1 (s ++ t).data.toList = escL 1 s.data.toList ++ escL 1 t.data.toList := by
          rw [data_app]
          exact escL_append 1 _ _ (fun h => h32 (by rw [hb]; exact h.2.2))
        have hla := escL_len 1 s.data.toList
        have hlb := escL_len 1 t.data.toList
        rw [len_data] at hla hlb
        clear hb h32 hcast
        go_enter Tryd.func8, Tryd.ntmps8
        go_wp2_with fail
        refine (awake_any _ E).mono ?_
        rintro e w1 ⟨rfl, D1⟩
        go_wp2_with fail
        refine (escape_st 1 (s ++ t) _ (E.below D1) (by rw [size_app]; omega) (.inl rfl)).mono ?_
        rintro e w2 ⟨rfl, D2⟩
        rw [hj]
        have D12 := below2 D1 D2
        go_wp2_with fail
        refine (escape_st 1 s _ (E.below D12) (by omega) (.inl rfl)).mono ?_
        rintro e w3 ⟨rfl, D3⟩
        have D13 := below2 D12 D3
        go_wp2_with fail
        refine (escape_st 1 t _ (E.below D13) (by omega) (.inl rfl)).mono ?_
        rintro e w4 ⟨rfl, D4⟩
        have D := below2 D13 D4
        generalize escL 1 s.data.toList = a at hla ⊢
        generalize escL 1 t.data.toList = b at hlb ⊢
        clear hj D1 D2 D12 D3 D13 D4 E
        go_wp2
        go_ret
        refine ⟨?_, D⟩
        simp [ByteArray.toList_eq]
    · have b0 : decide ((0 : Int) < t.size) = false := decide_eq_false (by omega)
      subst hn1
      have hj : escL 1 (s ++ t).data.toList = escL 1 s.data.toList ++ escL 1 t.data.toList := by
        rw [data_app]
        exact escL_append 1 _ _ (fun h => h0 (by rw [← len_data]; exact h.2.1))
      have hla := escL_len 1 s.data.toList
      have hlb := escL_len 1 t.data.toList
      rw [len_data] at hla hlb
      clear hcast
      go_enter Tryd.func8, Tryd.ntmps8
      go_wp2_with fail
      refine (awake_any _ E).mono ?_
      rintro e w1 ⟨rfl, D1⟩
      go_wp2_with fail
      refine (escape_st 1 (s ++ t) _ (E.below D1) (by rw [size_app]; omega) (.inl rfl)).mono ?_
      rintro e w2 ⟨rfl, D2⟩
      rw [hj]
      have D12 := below2 D1 D2
      go_wp2_with fail
      refine (escape_st 1 s _ (E.below D12) (by omega) (.inl rfl)).mono ?_
      rintro e w3 ⟨rfl, D3⟩
      have D13 := below2 D12 D3
      go_wp2_with fail
      refine (escape_st 1 t _ (E.below D13) (by omega) (.inl rfl)).mono ?_
      rintro e w4 ⟨rfl, D4⟩
      have D := below2 D13 D4
      generalize escL 1 s.data.toList = a at hla ⊢
      generalize escL 1 t.data.toList = b at hlb ⊢
      clear hj D1 D2 D12 D3 D13 D4 E
      go_wp2
      go_ret
      refine ⟨?_, D⟩
      simp [ByteArray.toList_eq]
  · by_cases hx : isSt st = true
    · obtain ⟨n, rfl, hn⟩ := st_nat hx
      have q1 : ((n : Int) == 1) = false := by simp; omega
      have Hn := Lib.hid hn
      have hj : escL n (s ++ t).data.toList = escL n s.data.toList ++ escL n t.data.toList := by
        rw [data_app]
        exact escL_append n _ _ (fun h => h1 (by rw [h.1]; rfl))
      have hla := escL_len n s.data.toList
      have hlb := escL_len n t.data.toList
      rw [len_data] at hla hlb
      clear hx h1 hn
      go_enter Tryd.func8, Tryd.ntmps8
      go_wp2_with fail
      refine (awake_any _ E).mono ?_
      rintro e w1 ⟨rfl, D1⟩
      go_wp2_with fail
      refine (escape_st n (s ++ t) _ (E.below D1) (by rw [size_app]; omega) Hn.out).mono ?_
      rintro e w2 ⟨rfl, D2⟩
      rw [hj]
      have D12 := below2 D1 D2
      go_wp2_with fail
      refine (escape_st n s _ (E.below D12) (by omega) Hn.out).mono ?_
      rintro e w3 ⟨rfl, D3⟩
      have D13 := below2 D12 D3
      go_wp2_with fail
      refine (escape_st n t _ (E.below D13) (by omega) Hn.out).mono ?_
      rintro e w4 ⟨rfl, D4⟩
      have D := below2 D13 D4
      generalize escL n s.data.toList = a at hla ⊢
      generalize escL n t.data.toList = b at hlb ⊢
      clear hj D1 D2 D12 D3 D13 D4 E
      go_wp2
      go_ret
      refine ⟨?_, D⟩
      simp [ByteArray.toList_eq]
    · have hx' := Bool.eq_false_iff.2 hx
      have q1 : (st == 1) = false := by simpa using h1
      clear hx h1
      go_enter Tryd.func8, Tryd.ntmps8
      go_wp2_with fail
      refine (awake_any _ E).mono ?_
      rintro e w1 ⟨rfl, D1⟩
      go_wp2_with fail
      refine (escape_no st (s ++ t) _ hx').mono ?_
      rintro e w' ⟨rfl, rfl⟩
      go_wp2_with fail
      refine (escape_no st s _ hx').mono ?_
      rintro e w' ⟨rfl, rfl⟩
      go_wp2_with fail
      refine (escape_no st t _ hx').mono ?_
      rintro e w' ⟨rfl, rfl⟩
      go_wp2
      go_ret
      refine ⟨?_, D1⟩
      first | rfl | (simp [ByteArray.toList_eq]; done) | (congr 2)
end Go.Proofs.YtnkmlgkppaglkaaDoor
