/- distance.Similar; lists that are too long. -/
import Derived.Test.YtbcpeoomkhcgnaaTf
namespace Go.Proofs.Ytbcpeoomkhcgnaa
open Go.RowKit
set_option linter.unusedVariables false

theorem distance_long (aa : Option Addr) (la ca : Nat) (ab : Option Addr) (lb cb : Nat) (w : World) (h : 400 < la ∨ 400 < lb) :
    Calls Try.prog 16 #[.slice aa la ca, .slice ab lb cb] w fun e w' => e = .returned (.int .i64 (-1)) ∧ Below w.heap.size w w' := by
  by_cases h1 : 400 < la
  · clear h
    go_enter Try.func16, Try.ntmps16
    go_wp2_with fail
    refine (isLong_yes aa la ca h1 _).mono ?_
    rintro e w' ⟨rfl, rfl⟩
    go_wp2
    go_ret
    exact ⟨rfl, (Below.refl _ w).alloc (Nat.le_refl _) _⟩
  · have h2 : 400 < lb := by omega
    have h3 : la ≤ 400 := by omega
    clear h h1
    go_enter Try.func16, Try.ntmps16
    go_wp2_with fail
    refine (isLong_no aa la ca h3 _).mono ?_
    rintro e w' ⟨rfl, rfl⟩
    go_wp2_with fail
    refine (isLong_yes ab lb cb h2 _).mono ?_
    rintro e w' ⟨rfl, rfl⟩
    go_wp2
    go_ret
    exact ⟨rfl, (Below.refl _ w).alloc (Nat.le_refl _) _⟩
theorem align_long (aa : Option Addr) (la ca : Nat) (ab : Option Addr) (lb cb : Nat) (w : World) (h : 400 < la ∨ 400 < lb) :
    Calls Try.prog 18 #[.slice aa la ca, .slice ab lb cb] w fun e w' => e = .returned (.slice none 0 0) ∧ w' = w := by
  by_cases h1 : 400 < la
  · clear h
    go_enter Try.func18, Try.ntmps18
    go_wp2_with fail
    refine (isLong_yes aa la ca h1 _).mono ?_
    rintro e w' ⟨rfl, rfl⟩
    go_wp2
    go_ret
    exact ⟨rfl, rfl⟩
  · have h2 : 400 < lb := by omega
    have h3 : la ≤ 400 := by omega
    clear h h1
    go_enter Try.func18, Try.ntmps18
    go_wp2_with fail
    refine (isLong_no aa la ca h3 _).mono ?_
    rintro e w' ⟨rfl, rfl⟩
    go_wp2_with fail
    refine (isLong_yes ab lb cb h2 _).mono ?_
    rintro e w' ⟨rfl, rfl⟩
    go_wp2
    go_ret
    exact ⟨rfl, rfl⟩

/-! ### Similar -/
theorem wrap_nat {n : Nat} (h : n ≤ 400000) : wrap64 (n : Int) = (n : Int) := by unfold wrap64; omega
def sim (a b : List Str) : Int := if max a.length b.length = 0 then 1000 else (((max a.length b.length - lev a b) * 1000 / max a.length b.length : Nat) : Int)
theorem sim_zero {a b : List Str} (h : max a.length b.length = 0) : sim a b = 1000 := if_pos h
theorem sim_pos {a b : List Str} {m d : Nat} (h : max a.length b.length = m) (h0 : m ≠ 0) (hd : lev a b = d) : sim a b = (((m - d) * 1000 / m : Nat) : Int) := by
  unfold sim
  rw [h, hd, if_neg h0]
theorem sim_comm (a b : List Str) : sim a b = sim b a := by unfold sim; rw [lev_comm a b, Nat.max_comm]
set_option maxRecDepth 1000000 in
set_option maxHeartbeats 1000000 in
theorem similar_any (va vb : Value) (a b : List Str) (w : World) (ha : Rd 1 encT w va a) (hb : Rd 1 encT w vb b) (hla : a.length ≤ 400) (hlb : b.length ≤ 400) :
    Calls Try.prog 17 #[va, vb] w fun e w' => e = .returned (.int .i64 (sim a b)) ∧ Below w.heap.size w w' := by
  obtain ⟨aa, ca, rfl, hca, hca2⟩ := ha.slice
  obtain ⟨ab, cb, rfl, hcb, hcb2⟩ := hb.slice
  have HA := Lib.hid ha
  have HB := Lib.hid hb
  clear ha hb hca hca2 hcb hcb2
  obtain ⟨m, hm⟩ : ∃ m, max a.length b.length = m := ⟨_, rfl⟩
  obtain ⟨d, hd⟩ : ∃ d, lev a b = d := ⟨_, rfl⟩
  have hdm : d ≤ m := by rw [← hd, ← hm]; exact lev_high a b
  have hif : (if a.length < b.length then (b.length : Int) else (a.length : Int)) = (m : Int) := by rw [← hm]; split <;> omega
  have hm4 : m ≤ 400 := by omega
  have DA := distance_any _ _ a b w HA.out HB.out hla hlb
  rw [hd] at DA
  have HDA := Lib.hid DA
  have HM := Lib.hid hm
  have HD := Lib.hid hd
  have hd0 : ¬ (d : Int) < 0 := by omega
  clear DA hm hd
  rcases Nat.eq_zero_or_pos m with h0 | h0
  · have h00 : (m : Int) = 0 := by omega
    have HS := Lib.hid (sim_zero (HM.out.trans h0))
    subst h0
    go_enter Try.func17, Try.ntmps17
    go_wp2_with fail
    refine HDA.out.mono ?_
    rintro e w1 ⟨rfl, b1⟩
    have HB1 := Lib.hid b1
    clear b1
    go_wp2
    go_ret
    exact ⟨ret_int HS.out.symm, HB1.out⟩
  · have h00 : ¬ (m : Int) = 0 := by omega
    have h01 : ¬ m = 0 := by omega
    have HS := Lib.hid (sim_pos HM.out h01 HD.out)
    obtain ⟨r, hr⟩ : ∃ r, (m - d) * 1000 / m = r := ⟨_, rfl⟩
    have hq : (((m : Int) - (d : Int)) * 1000).tdiv (m : Int) = (r : Int) := by
      have e : ((m : Int) - (d : Int)) * 1000 = (((m - d) * 1000 : Nat) : Int) := by omega
      rw [e, ← hr]
      exact (Int.ofNat_tdiv _ _).symm
    have hrl : r ≤ 400000 := by
      rw [← hr]
      exact Nat.le_trans (Nat.div_le_self _ _) (by omega)
    rw [hr] at HS
    have HW := Lib.hid (wrap_nat hrl)
    clear hr hrl
    go_enter Try.func17, Try.ntmps17
    go_wp2_with fail
    refine HDA.out.mono ?_
    rintro e w1 ⟨rfl, b1⟩
    have HB1 := Lib.hid b1
    clear b1
    go_wp2
    go_ret
    exact ⟨ret_int (HW.out.trans HS.out.symm), HB1.out⟩
theorem similar_long (aa : Option Addr) (la ca : Nat) (ab : Option Addr) (lb cb : Nat) (w : World) (h : 400 < la ∨ 400 < lb) (h1 : la ≤ 410) (h2 : lb ≤ 410) :
    Calls Try.prog 17 #[.slice aa la ca, .slice ab lb cb] w fun e w' => e = .returned (.int .i64 (-1)) ∧ Below w.heap.size w w' := by
  have HL := Lib.hid (distance_long aa la ca ab lb cb w h)
  clear h
  obtain ⟨m, hm⟩ : ∃ m, max la lb = m := ⟨_, rfl⟩
  have hif : (if la < lb then (lb : Int) else (la : Int)) = (m : Int) := by rw [← hm]; split <;> omega
  clear hm
  go_enter Try.func17, Try.ntmps17
  go_wp2_with fail
  refine HL.out.mono ?_
  rintro e w1 ⟨rfl, b1⟩
  have HB1 := Lib.hid b1
  clear b1
  go_wp2
  go_ret
  exact ⟨rfl, HB1.out⟩
end Go.Proofs.Ytbcpeoomkhcgnaa
