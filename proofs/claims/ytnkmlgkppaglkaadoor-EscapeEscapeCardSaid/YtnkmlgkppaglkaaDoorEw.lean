/- The law EscapeEscape. -/
import Derived.Test.YtnkmlgkppaglkaaDoorEv
namespace Go.Proofs.YtnkmlgkppaglkaaDoor
open Go.RowKit
set_option linter.unusedVariables false

set_option maxRecDepth 100000 in
set_option maxHeartbeats 2000000 in
theorem escapeEscape_walk (st : Int) (s : ByteArray) (hst : (Lit.int .i64 st).wf = true) (hs : s.size ≤ maxLen) (w : World) (E : Env w) :
    Calls Tryd.prog 3 #[.int .i64 st, .string s] w fun e w' => e = .returned (.bool true) ∧ Below w.heap.size w w' := by
  clear hst
  by_cases h3 : 300 < s.size
  · go_enter Tryd.func3, Tryd.ntmps3
    go_wp2_with fail
    refine (awake_any _ E).mono ?_
    rintro e w1 ⟨rfl, D1⟩
    go_wp2_with fail
    refine (awake_any _ (E.below D1)).mono ?_
    rintro e w2 ⟨rfl, D2⟩
    go_wp2
    go_ret
    exact ⟨rfl, below2 D1 D2⟩
  · by_cases hx : isSt st = true
    · obtain ⟨n, rfl, hn⟩ := st_nat hx
      have hl := escL_len n s.data.toList
      rw [len_data] at hl
      have e1 := fun W hW => escape_st n s W hW (by omega) hn
      have e2 := fun W => refEscape_st n s W (by omega) hn
      generalize escL n s.data.toList = l at hl e1 e2
      clear hx hn
      go_enter Tryd.func3, Tryd.ntmps3
      go_wp2_with fail
      refine (awake_any _ E).mono ?_
      rintro e w1 ⟨rfl, D1⟩
      go_wp2_with fail
      refine (e1 _ (E.below D1)).mono ?_
      rintro e w2 ⟨rfl, D2⟩
      go_wp2_with fail
      refine (e2 _).mono ?_
      rintro e w3 ⟨rfl, D3⟩
      have D := below2 (below2 D1 D2) D3
      clear e1 e2 D1 D2 D3
      go_wp2
      go_ret
      refine ⟨?_, D⟩
      simp
    · have hx' := Bool.eq_false_iff.2 hx
      clear hx
      go_enter Tryd.func3, Tryd.ntmps3
      go_wp2_with fail
      refine (awake_any _ E).mono ?_
      rintro e w1 ⟨rfl, D1⟩
      go_wp2_with fail
      refine (escape_no st s _ hx').mono ?_
      rintro e w' ⟨rfl, rfl⟩
      go_wp2_with fail
      refine (refEscape_no st s _ hx').mono ?_
      rintro e w' ⟨rfl, rfl⟩
      go_wp2
      go_ret
      exact ⟨rfl, D1⟩
end Go.Proofs.YtnkmlgkppaglkaaDoor
