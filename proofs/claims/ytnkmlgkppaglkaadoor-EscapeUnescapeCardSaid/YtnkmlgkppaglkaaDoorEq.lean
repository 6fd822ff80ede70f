/- The laws EscapeInverse, EscapeJoins, EscapeLetters. -/
import Derived.Test.YtnkmlgkppaglkaaDoorEn
import Derived.Test.YtnkmlgkppaglkaaDoorEp
namespace Go.Proofs.YtnkmlgkppaglkaaDoor
open Go.RowKit
set_option linter.unusedVariables false

theorem isSt_nat {n : Nat} (h : n = 1 ∨ n = 2 ∨ n = 3 ∨ n = 4) : isSt (n : Int) = true := by unfold isSt; simp; omega
theorem toList_mk (l : List UInt8) : (⟨l.toArray⟩ : ByteArray).toList = l := by rw [ByteArray.toList_eq]
theorem mk_toList (s : ByteArray) : (⟨s.data.toList.toArray⟩ : ByteArray) = s := by cases s; simp

set_option maxRecDepth 100000 in
set_option maxHeartbeats 1000000 in
theorem escapeInverse_walk (st : Int) (s : ByteArray) (hst : (Lit.int .i64 st).wf = true) (hs : s.size ≤ maxLen) (w : World) (E : Env w) :
    Calls Tryd.prog 5 #[.int .i64 st, .string s] w fun e w' => e = .returned (.bool true) ∧ Below w.heap.size w w' := by
  clear hst
  by_cases h3 : 300 < s.size
  · go_enter Tryd.func5, Tryd.ntmps5
    go_wp2_with fail
    refine (awake_any _ E).mono ?_
    rintro e w1 ⟨rfl, D1⟩
    go_wp2_with fail
    refine (awake_any _ (E.below D1)).mono ?_
    rintro e w2 ⟨rfl, D2⟩
    go_wp2
    go_ret
    exact ⟨rfl, below2 D1 D2⟩
  · by_cases hx : isSt st = true
    · obtain ⟨t, rfl, ht⟩ := st_nat hx
      go_enter Tryd.func5, Tryd.ntmps5
      go_wp2_with fail
      refine (awake_any _ E).mono ?_
      rintro e w1 ⟨rfl, D1⟩
      go_wp2_with fail
      refine (style_any _ _).mono ?_
      rintro e w' ⟨rfl, rfl⟩
      rw [hx]
      clear hx
      go_wp2_with fail
      refine (escape_st t s _ (E.below D1) (by omega) ht).mono ?_
      rintro e w2 ⟨rfl, D2⟩
      have D12 := below2 D1 D2
      have hl := escL_len t s.data.toList
      rw [len_data] at hl
      go_wp2_with fail
      refine (unescape_st t ⟨(escL t s.data.toList).toArray⟩ _ (E.below D12) (by rw [size_mk]; omega) ht).mono ?_
      rintro e w3 ⟨he, D3⟩
      rw [mk_data, un_escL] at he
      simp only [mk_toList] at he
      have he : e = .returned (.tuple #[.string s, .int .i64 0, .int .i64 0]) := he
      subst he
      have D := below2 D12 D3
      clear hl D1 D2 D12 D3
      go_wp2
      go_ret
      refine ⟨?_, D⟩
      simp
    · have hx' := Bool.eq_false_iff.2 hx
      clear hx
      go_enter Tryd.func5, Tryd.ntmps5
      go_wp2_with fail
      refine (awake_any _ E).mono ?_
      rintro e w1 ⟨rfl, D1⟩
      go_wp2_with fail
      refine (style_any _ _).mono ?_
      rintro e w' ⟨rfl, rfl⟩
      rw [hx']
      clear hx'
      go_wp2_with fail
      refine (awake_any _ (E.below D1)).mono ?_
      rintro e w2 ⟨rfl, D2⟩
      go_wp2
      go_ret
      exact ⟨rfl, below2 D1 D2⟩
end Go.Proofs.YtnkmlgkppaglkaaDoor
