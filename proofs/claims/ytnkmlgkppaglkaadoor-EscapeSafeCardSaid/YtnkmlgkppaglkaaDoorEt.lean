/- The law EscapeSafe. -/
import Derived.Test.YtnkmlgkppaglkaaDoorEs
namespace Go.Proofs.YtnkmlgkppaglkaaDoor
open Go.RowKit
set_option linter.unusedVariables false

def EndIs (n : Nat) (t : ByteArray) (d v : Int) : Prop := ∀ W, Calls Tryd.prog 16 #[.int .i64 n, .string t, .int .u8 d] W fun e w' => e = .returned (.int .i64 v) ∧ W = w'
theorem end_none (n d : Nat) (hn : n = 1 ∨ n = 2 ∨ n = 3 ∨ n = 4) (l : List UInt8) (hl : l.length ≤ 1099511627776) (h : endF n d l = none) : EndIs n ⟨l.toArray⟩ d (-1) := fun W => by
  have := end_st n ⟨l.toArray⟩ d W (by rw [size_mk]; exact hl) hn
  rw [mk_data, h] at this
  exact this
theorem end_some (n d k : Nat) (hn : n = 1 ∨ n = 2 ∨ n = 3 ∨ n = 4) (l r : List UInt8) (hl : l.length + r.length ≤ 1099511627776) (h : endF n d (l ++ r) = some k) : EndIs n (⟨l.toArray⟩ ++ ⟨r.toArray⟩) d k := fun W => by
  have := end_st n (⟨l.toArray⟩ ++ ⟨r.toArray⟩) d W (by rw [size_app, size_mk, size_mk]; exact hl) hn
  rw [data_app, mk_data, mk_data, h] at this
  simpa [endV] using this
theorem inL_no (c : Nat) (l : List UInt8) (h : ∀ x ∈ l, x.toNat ≠ c) : inL c l = false := by
  unfold inL
  rw [List.any_eq_false]
  intro x hx
  simp [h x hx]

set_option maxRecDepth 100000 in
set_option maxHeartbeats 4000000 in
theorem escapeSafe_walk (st : Int) (s : ByteArray) (hst : (Lit.int .i64 st).wf = true) (hs : s.size ≤ maxLen) (w : World) (E : Env w) :
    Calls Tryd.prog 7 #[.int .i64 st, .string s] w fun e w' => e = .returned (.bool true) ∧ Below w.heap.size w w' := by
  clear hst
  by_cases h3 : 300 < s.size
  · have b3 : decide ((300 : Int) < s.size) = true := decide_eq_true (by omega)
    go_enter Tryd.func7, Tryd.ntmps7
    go_wp2_with fail
    refine (awake_any _ E).mono ?_
    rintro e w1 ⟨rfl, D1⟩
    go_wp2_with fail
    refine (awake_any _ (E.below D1)).mono ?_
    rintro e w2 ⟨rfl, D2⟩
    go_wp2
    go_ret
    exact ⟨rfl, below2 D1 D2⟩
  have b3 : decide ((300 : Int) < s.size) = false := decide_eq_false (by omega)
  by_cases hx : isSt st = true
  · obtain ⟨n, rfl, hn⟩ := st_nat hx
    have hlen := escL_len n s.data.toList
    rw [len_data] at hlen
    have hcl := escL_clean n s.data.toList true
    have hsk := fun d hd r => escL_skip n d hn hd s.data.toList r true
    have hes := fun W hW => escape_st n s W hW (by omega) hn
    have hcl : ∀ c ∈ escL n s.data.toList, c.toNat ≠ 10 ∧ (n = 4 → c.toNat ≠ 60) := hcl
    have hsk : ∀ d, Delim n d → ∀ r, endF n d (escL n s.data.toList ++ r) = (endF n d r).map (· + (escL n s.data.toList).length) := hsk
    generalize escL n s.data.toList = l at hlen hcl hsk hes
    have i10 := in_any 10 ⟨l.toArray⟩ (by rw [size_mk]; omega)
    rw [mk_data, inL_no 10 l (fun x hx => (hcl x hx).1)] at i10
    have n0 : ∀ d, Delim n d → EndIs n ⟨l.toArray⟩ d (-1) := fun d hd => end_none n d hn l (by omega) (by have := hsk d hd []; rw [List.append_nil] at this; rw [this]; rfl)
    by_cases h4 : n = 4
    · have i60 := in_any 60 ⟨l.toArray⟩ (by rw [size_mk]; omega)
      rw [mk_data, inL_no 60 l (fun x hx => (hcl x hx).2 h4)] at i60
      subst h4
      have e1 := n0 34 (.inr ⟨by decide, rfl⟩)
      have e2 := end_some 4 34 l.length hn l [34, 120] (by simp; omega) (by rw [hsk 34 (.inr ⟨by decide, rfl⟩)]; simp [endF])
      clear n0 hcl hsk hn
      go_enter Tryd.func7, Tryd.ntmps7
      go_wp2_with fail
      refine (awake_any _ E).mono ?_
      rintro e w1 ⟨rfl, D1⟩
      go_wp2_with fail
      refine (style_any _ _).mono ?_
      rintro e w' ⟨rfl, rfl⟩
      rw [show isSt 4 = true from rfl]
      clear hx
      go_wp2_with fail
      refine (hes _ (E.below D1)).mono ?_
      rintro e w2 ⟨rfl, D2⟩
      have D := below2 D1 D2
      clear D1 D2 hes
      go_wp2_with fail
      refine (i10 _).mono ?_
      rintro e w' ⟨rfl, rfl⟩
      go_wp2_with fail
      refine (i60 _).mono ?_
      rintro e w' ⟨rfl, rfl⟩
      go_wp2_with fail
      refine (e1 _).mono ?_
      rintro e w' ⟨rfl, rfl⟩
      go_wp2_with fail
      refine (e2 _).mono ?_
      rintro e w' ⟨rfl, rfl⟩
      go_wp2
      go_ret
      refine ⟨?_, D⟩
      simp
    · have q4 : ((n : Int) == 4) = false := by simp; omega
      by_cases h1 : n = 1
      · subst h1
        have e1 := n0 61 (.inl ⟨rfl, .inl rfl⟩)
        have e2 := n0 58 (.inl ⟨rfl, .inr (.inl rfl)⟩)
        have e3 := end_some 1 61 l.length hn l [61, 35] (by simp; omega) (by rw [hsk 61 (.inl ⟨rfl, .inl rfl⟩)]; simp [endF])
        have e4 := end_some 1 35 l.length hn l [35] (by simp; omega) (by rw [hsk 35 (.inl ⟨rfl, .inr (.inr rfl)⟩)]; simp [endF])
        clear n0 hcl hsk hn h4
        go_enter Tryd.func7, Tryd.ntmps7
        go_wp2_with fail
        refine (awake_any _ E).mono ?_
        rintro e w1 ⟨rfl, D1⟩
        go_wp2_with fail
        refine (style_any _ _).mono ?_
        rintro e w' ⟨rfl, rfl⟩
        rw [show isSt 1 = true from rfl]
        clear hx
        go_wp2_with fail
        refine (hes _ (E.below D1)).mono ?_
        rintro e w2 ⟨rfl, D2⟩
        have D := below2 D1 D2
        clear D1 D2 hes
        go_wp2_with fail
        refine (i10 _).mono ?_
        rintro e w' ⟨rfl, rfl⟩
        go_wp2_with fail
        refine (e1 _).mono ?_
        rintro e w' ⟨rfl, rfl⟩
        go_wp2_with fail
        refine (e2 _).mono ?_
        rintro e w' ⟨rfl, rfl⟩
        go_wp2_with fail
        refine (e3 _).mono ?_
        rintro e w' ⟨rfl, rfl⟩
        go_wp2_with fail
        refine (e4 _).mono ?_
        rintro e w' ⟨rfl, rfl⟩
        go_wp2
        go_ret
        refine ⟨?_, D⟩
        simp
      · have q1 : ((n : Int) == 1) = false := by simp; omega
        have e1 := n0 34 (.inr ⟨h1, rfl⟩)
        have e2 := end_some n 34 l.length hn l [34, 120] (by simp; omega) (by rw [hsk 34 (.inr ⟨h1, rfl⟩)]; simp [endF])
        clear n0 hcl hsk hn h4 h1
        go_enter Tryd.func7, Tryd.ntmps7
        go_wp2_with fail
        refine (awake_any _ E).mono ?_
        rintro e w1 ⟨rfl, D1⟩
        go_wp2_with fail
        refine (style_any _ _).mono ?_
        rintro e w' ⟨rfl, rfl⟩
        rw [hx]
        clear hx
        go_wp2_with fail
        refine (hes _ (E.below D1)).mono ?_
        rintro e w2 ⟨rfl, D2⟩
        have D := below2 D1 D2
        clear D1 D2 hes
        go_wp2_with fail
        refine (i10 _).mono ?_
        rintro e w' ⟨rfl, rfl⟩
        go_wp2_with fail
        refine (e1 _).mono ?_
        rintro e w' ⟨rfl, rfl⟩
        go_wp2_with fail
        refine (e2 _).mono ?_
        rintro e w' ⟨rfl, rfl⟩
        go_wp2
        go_ret
        refine ⟨?_, D⟩
        simp
  · have hx' := Bool.eq_false_iff.2 hx
    clear hx
    go_enter Tryd.func7, Tryd.ntmps7
    go_wp2_with fail
    refine (awake_any _ E).mono ?_
    rintro e w1 ⟨rfl, D1⟩
    go_wp2_with fail
    refine (style_any _ _).mono ?_
    rintro e w' ⟨rfl, rfl⟩
    rw [hx']
    go_wp2_with fail
    refine (awake_any _ (E.below D1)).mono ?_
    rintro e w2 ⟨rfl, D2⟩
    go_wp2
    go_ret
    exact ⟨rfl, below2 D1 D2⟩

end Go.Proofs.YtnkmlgkppaglkaaDoor
