/- awake: the examples of the document; the law EscapeEnd. -/
import Derived.Test.YtnkmlgkppaglkaaDoorEm
import Derived.OpenShut
namespace Go.Proofs.YtnkmlgkppaglkaaDoor
open Go.RowKit
set_option linter.unusedVariables false

theorem aw1 : un 1 [97, 92, 113] = (false, [], 1) := by kernel_rfl
theorem aw2 : escL 1 [32, 97, 61, 98] = [92, 32, 97, 92, 61, 98] := by kernel_rfl
theorem aw3 : escL 4 [7] = [38, 35, 55, 59] := by
  have h7 : entL 7 = numL 7 := by kernel_rfl
  have e : escL 4 [7] = entL 7 ++ [] := by kernel_rfl
  rw [e, h7, List.append_nil]
  unfold numL
  rw [dec1 (by decide)]
  decide

def AwPost (w : World) (e : Ending) (w' : World) : Prop := e = .returned (.bool true) ∧ Below w.heap.size w w'
set_option maxRecDepth 100000 in
set_option maxHeartbeats 1000000 in
theorem awake_any (w : World) (E : Env w) : Calls Tryd.prog 10 #[] w (AwPost w) := by
  go_enter Tryd.func10, Tryd.ntmps10
  go_wp2_with fail
  refine (unescape_st 1 ⟨#[97, 92, 113]⟩ _ E (by decide) (.inl rfl)).mono ?_
  rintro e w1 ⟨he, D1⟩
  rw [show (⟨#[97, 92, 113]⟩ : ByteArray).data.toList = [97, 92, 113] from rfl, aw1] at he
  have he : e = .returned (.tuple #[.string ⟨#[]⟩, .int .i64 1, .int .i64 3]) := he
  subst he
  go_wp2_with fail
  refine (escape_st 1 ⟨#[32, 97, 61, 98]⟩ _ (E.below D1) (by decide) (.inl rfl)).mono ?_
  rintro e w2 ⟨he, D2⟩
  rw [show (⟨#[32, 97, 61, 98]⟩ : ByteArray).data.toList = [32, 97, 61, 98] from rfl, aw2] at he
  have he : e = .returned (.string ⟨#[92, 32, 97, 92, 61, 98]⟩) := he
  subst he
  have D12 := D1.trans (D2.mono D1.size)
  go_wp2_with fail
  refine (escape_st 4 ⟨#[7]⟩ _ (E.below D12) (by decide) (.inr (.inr (.inr rfl)))).mono ?_
  rintro e w3 ⟨he, D3⟩
  rw [show (⟨#[7]⟩ : ByteArray).data.toList = [7] from rfl, aw3] at he
  have he : e = .returned (.string ⟨#[38, 35, 55, 59]⟩) := he
  subst he
  go_wp2
  go_ret
  exact ⟨rfl, D12.trans (D3.mono D12.size)⟩

theorem st_nat {st : Int} (h : isSt st = true) : ∃ n : Nat, st = n ∧ (n = 1 ∨ n = 2 ∨ n = 3 ∨ n = 4) := by
  have := isSt_cases h
  exact ⟨st.toNat, by omega, by omega⟩
theorem u8_nat {d : Int} (h : (Lit.int .u8 d).wf = true) : ∃ n : Nat, d = n ∧ n < 256 := by
  have : 0 ≤ d ∧ d ≤ 255 := bounds_u8 h
  exact ⟨d.toNat, by omega, by omega⟩
theorem below2 {a b c : World} (h : Below a.heap.size a b) (k : Below b.heap.size b c) : Below a.heap.size a c := h.trans (k.mono h.size)

set_option maxRecDepth 100000 in
set_option maxHeartbeats 1000000 in
theorem escapeEnd_walk (st : Int) (s : ByteArray) (d : Int) (hst : (Lit.int .i64 st).wf = true) (hs : s.size ≤ maxLen) (hd : (Lit.int .u8 d).wf = true) (w : World) (E : Env w) :
    Calls Tryd.prog 6 #[.int .i64 st, .string s, .int .u8 d] w fun e w' => e = .returned (.bool true) ∧ Below w.heap.size w w' := by
  obtain ⟨n, rfl, hn⟩ := u8_nat hd
  clear hd
  by_cases h3 : 300 < s.size
  · go_enter Tryd.func6, Tryd.ntmps6
    go_wp2_with fail
    refine (awake_any _ E).mono ?_
    rintro e w1 ⟨rfl, D1⟩
    go_wp2_with fail
    refine (awake_any _ (E.below D1)).mono ?_
    rintro e w2 ⟨rfl, D2⟩
    go_wp2
    go_ret
    exact ⟨rfl, below2 D1 D2⟩
  · by_cases hx : isSt st = true
    · obtain ⟨t, rfl, ht⟩ := st_nat hx
      clear hx hst
      go_enter Tryd.func6, Tryd.ntmps6
      go_wp2_with fail
      refine (awake_any _ E).mono ?_
      rintro e w1 ⟨rfl, D1⟩
      go_wp2_with fail
      refine (end_st t s n _ (by omega) ht).mono ?_
      rintro e w' ⟨rfl, rfl⟩
      go_wp2_with fail
      refine (refEnd_st t s n _ (by omega) ht).mono ?_
      rintro e w' ⟨rfl, rfl⟩
      generalize endV 0 (endF t n s.data.toList) = r
      go_wp2
      go_ret
      refine ⟨?_, D1⟩
      simp
    · have hx' := Bool.eq_false_iff.2 hx
      clear hx
      go_enter Tryd.func6, Tryd.ntmps6
      go_wp2_with fail
      refine (awake_any _ E).mono ?_
      rintro e w1 ⟨rfl, D1⟩
      go_wp2_with fail
      refine (end_no st s n _ hx').mono ?_
      rintro e w' ⟨rfl, rfl⟩
      go_wp2_with fail
      refine (refEnd_no st s n _ hx').mono ?_
      rintro e w' ⟨rfl, rfl⟩
      go_wp2
      go_ret
      exact ⟨rfl, D1⟩
end Go.Proofs.YtnkmlgkppaglkaaDoor
