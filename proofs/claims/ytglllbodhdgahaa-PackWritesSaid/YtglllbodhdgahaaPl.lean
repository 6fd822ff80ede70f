/- The reader of the program: rest, Fail, Bounded, Int, String, Offset, End. -/
import Derived.Test.YtglllbodhdgahaaPk
namespace Go.Proofs.Ytglllbodhdgahaa
open Go.RowKit
set_option linter.unusedVariables false

/-- A reader of the program. -/
def PR (w : World) (g : Nat) (v : Value) (l : List UInt8) (at_ : Nat) (bad : Bool) : Prop :=
  at_ ≤ l.length ∧ Blk g 58 #[v, .int .i64 (at_ : Nat), .int .i64 (if bad then 4 else 0)] w ∧ RdB w v l
theorem noByte3 {v : Value} {a b : Int} {l : List UInt8} {w : World} (h : RdB w v l) : NoByte #[v, .int .i64 a, .int .i64 b] := by
  obtain ⟨x, c, rfl⟩ := h.slice
  intro i u hu n e
  subst e
  match i, hu with
  | 0, hu => simp at hu
  | 1, hu => simp at hu
  | 2, hu => simp at hu
  | i + 3, hu => simp at hu
theorem PR.but {w w' : World} {g g' : Nat} {v : Value} {l : List UInt8} {at_ : Nat} {bad : Bool} {t : TypeId} {cs : Array Value} (h : PR w g v l at_ bad) (hne : g ≠ g') (hg : Blk g' t cs w) (hn : NoByte cs) (hb : But g' w w') : PR w' g v l at_ bad := by
  obtain ⟨h1, h2, h3⟩ := h
  exact ⟨h1, h2.but hb hne, h3.but hg hn hb⟩
theorem PR.below {w w' : World} {g : Nat} {v : Value} {l : List UInt8} {at_ : Nat} {bad : Bool} (h : PR w g v l at_ bad) (hb : Below w.heap.size w w') : PR w' g v l at_ bad := by
  obtain ⟨h1, h2, h3⟩ := h
  exact ⟨h1, h2.below hb, h3.below hb⟩
theorem PR.drewN {w : World} {g : Nat} {v : Value} {l : List UInt8} {at_ : Nat} {bad : Bool} (h : PR w g v l at_ bad) (n : Nat) : PR (w.drewN n) g v l at_ bad := h.below (below_drewN (Below.refl _ _) n)
theorem PR.setAt {w : World} {g : Nat} {v : Value} {l : List UInt8} {at_ : Nat} {bad : Bool} (h : PR w g v l at_ bad) (k : Nat) (hk : k ≤ l.length) (q : Int) (hq : q = (k : Int)) : PR (w.setCell ⟨g, 1, none⟩ (.int .i64 q)) g v l k bad := by
  subst hq
  obtain ⟨h1, h2, h3⟩ := h
  exact ⟨hk, h2.put 1 _, h3.but h2 (noByte3 h3) (But.setCell g w 1 _)⟩
theorem PR.setBad {w : World} {g : Nat} {v : Value} {l : List UInt8} {at_ : Nat} {bad : Bool} (h : PR w g v l at_ bad) : PR (w.setCell ⟨g, 2, none⟩ (.int .i64 4)) g v l at_ true := by
  obtain ⟨h1, h2, h3⟩ := h
  exact ⟨h1, h2.put 2 _, h3.but h2 (noByte3 h3) (But.setCell g w 2 _)⟩
theorem PR.lt {w : World} {g : Nat} {v : Value} {l : List UInt8} {at_ : Nat} {bad : Bool} (h : PR w g v l at_ bad) : g < w.heap.size := by
  obtain ⟨_, h2, _⟩ := h
  exact h2.lt
/-- What can still be read. -/
def restOf (l : List UInt8) (at_ : Nat) (bad : Bool) : List UInt8 := if bad then [] else l.drop at_
theorem restOf_le (l : List UInt8) (at_ : Nat) (bad : Bool) (h : at_ ≤ l.length) : at_ + (restOf l at_ bad).length ≤ l.length := by
  unfold restOf
  split
  · simp; omega
  · rw [List.length_drop]; omega
def RestPost (w : World) (l : List UInt8) (e : Ending) (w' : World) : Prop := ∃ v, e = .returned v ∧ RdB w v l ∧ ∃ n, w' = w.drewN n

set_option maxRecDepth 1000000 in
set_option maxHeartbeats 400000 in
theorem rest_any (w : World) (g : Nat) (v : Value) (l : List UInt8) (at_ : Nat) (bad : Bool) (h : PR w g v l at_ bad) :
    Calls Try.prog 39 #[.pointer (some ⟨g, 0, none⟩)] w (RestPost w (restOf l at_ bad)) := by
  obtain ⟨hle, hblk, hrd⟩ := h
  have c0 : w.cell? ⟨g, 0, none⟩ = some v := hblk.cell 0
  have c1 : w.cell? ⟨g, 1, none⟩ = some (.int .i64 (at_ : Nat)) := hblk.cell 1
  have c2 : w.cell? ⟨g, 2, none⟩ = some (.int .i64 (if bad then 4 else 0)) := hblk.cell 2
  clear hblk
  cases bad
  · obtain ⟨a, c, rfl⟩ := hrd.slice
    obtain ⟨vc, hvc, hs1, hs2⟩ := cut_eqs (w := w) (a := a) (c := c) at_ hle
    have HC := Lib.hid (show RdB w vc (l.drop at_) by rw [← hvc]; exact hrd.cut at_ hle)
    clear hvc hrd
    simp only [Bool.false_eq_true, if_false] at c2
    go_enter Try.func39, Try.ntmps39
    go_wp2
    go_quiet (fail)
    go_wp2
    go_ret
    exact ⟨_, rfl, HC.out, _, rfl⟩
  · simp only [if_true] at c2
    clear hrd
    go_enter Try.func39, Try.ntmps39
    go_wp2
    go_ret
    exact ⟨_, rfl, rdB_nil _, 0, rfl⟩
def NonePost (P : World → Prop) (e : Ending) (w' : World) : Prop := e = .returned (.tuple #[]) ∧ P w'
set_option maxRecDepth 1000000 in
theorem fail_any (w : World) (g : Nat) (v : Value) (l : List UInt8) (at_ : Nat) (bad : Bool) (h : PR w g v l at_ bad) :
    Calls Try.prog 29 #[.pointer (some ⟨g, 0, none⟩)] w (NonePost fun w' => PR w' g v l at_ true ∧ But g w w') := by
  have H := Lib.hid h
  obtain ⟨hle, hblk, hrd⟩ := h
  have c2 : w.cell? ⟨g, 2, none⟩ = some (.int .i64 (if bad then 4 else 0)) := hblk.cell 2
  have f2 := hblk.frozen 2
  clear hblk hrd
  go_enter Try.func29, Try.ntmps29
  go_wp2
  go_end0
  exact ⟨rfl, H.out.setBad, But.setCell _ _ _ _⟩
set_option maxRecDepth 1000000 in
theorem offset_any (w : World) (g : Nat) (v : Value) (l : List UInt8) (at_ : Nat) (bad : Bool) (h : PR w g v l at_ bad) :
    Calls Try.prog 30 #[.pointer (some ⟨g, 0, none⟩)] w (Drn w (.int .i64 (at_ : Nat))) := by
  obtain ⟨hle, hblk, hrd⟩ := h
  have c1 : w.cell? ⟨g, 1, none⟩ = some (.int .i64 (at_ : Nat)) := hblk.cell 1
  clear hblk hrd
  go_enter Try.func30, Try.ntmps30
  go_wp2
  go_ret
  exact ⟨rfl, 0, rfl⟩
def endV (l : List UInt8) (at_ : Nat) (bad : Bool) : Int := if at_ = l.length ∧ bad = false then 0 else 4
set_option maxRecDepth 1000000 in
theorem end_any (w : World) (g : Nat) (v : Value) (l : List UInt8) (at_ : Nat) (bad : Bool) (h : PR w g v l at_ bad) :
    Calls Try.prog 31 #[.pointer (some ⟨g, 0, none⟩)] w (Drn w (.int .i64 (endV l at_ bad))) := by
  obtain ⟨hle, hblk, hrd⟩ := h
  obtain ⟨a, c, rfl⟩ := hrd.slice
  have c0 : w.cell? ⟨g, 0, none⟩ = some (.slice a l.length c) := hblk.cell 0
  have c1 : w.cell? ⟨g, 1, none⟩ = some (.int .i64 (at_ : Nat)) := hblk.cell 1
  have c2 : w.cell? ⟨g, 2, none⟩ = some (.int .i64 (if bad then 4 else 0)) := hblk.cell 2
  clear hblk hrd
  by_cases hlt : at_ < l.length
  · have R := Lib.hid (show endV l at_ bad = 4 from if_neg (by omega))
    have q : (at_ : Int) < (l.length : Int) := by omega
    rw [R.out]
    clear c2
    go_enter Try.func31, Try.ntmps31
    go_wp2
    go_quiet (fail)
    go_wp2
    go_ret
    exact ⟨rfl, _, rfl⟩
  · have q : ¬ (at_ : Int) < (l.length : Int) := by omega
    have R := Lib.hid (show endV l at_ bad = if bad then 4 else 0 by unfold endV; cases bad <;> simp; omega)
    rw [R.out]
    obtain ⟨x, hx⟩ : ∃ x : Int, (if bad then 4 else 0) = x := ⟨_, rfl⟩
    rw [hx] at c2 ⊢
    clear hx R
    go_enter Try.func31, Try.ntmps31
    go_wp2
    go_quiet (fail)
    go_wp2
    go_ret
    exact ⟨rfl, _, rfl⟩

/-! ### Reading -/
/-- What is read, and where the reader stands behind it. -/
def MvPost (w : World) (g : Nat) (v : Value) (l : List UInt8) (x : Value) (at_ : Nat) (bad : Bool) (e : Ending) (w' : World) : Prop := e = .returned x ∧ PR w' g v l at_ bad ∧ But g w w'
theorem mv_fail {w w1 w2 : World} {g at_ : Nat} {v : Value} {l : List UInt8} {bad : Bool} {k : Nat} (hk : k = 0) (n : Nat) (h : PR w2 g v l at_ true) (hb : But g (w.drewN n) w2) : PR w2 g v l (at_ + k) (bad || decide (k = 0)) ∧ But g w w2 := by
  subst hk
  exact ⟨by simpa using h, (But.drewN g w n).trans hb⟩
theorem rdB_in {b : List UInt8} {lo hi n : Int} {k : Nat} (h : rdI b = (n, k)) (h1 : lo ≤ n) (h2 : n ≤ hi) : rdB b lo hi = (n, k) := by
  unfold rdB
  rw [h, if_neg (by show ¬ (n < lo ∨ hi < n); omega)]
theorem rdB_out {b : List UInt8} {lo hi n : Int} {k : Nat} (h : rdI b = (n, k)) (h1 : k = 0 ∨ n < lo ∨ hi < n) : rdB b lo hi = (0, 0) := by
  unfold rdB
  rw [h]
  show (if n < lo ∨ hi < n then _ else _) = _
  by_cases h2 : n < lo ∨ hi < n
  · rw [if_pos h2]
  · rcases h1 with h1 | h1
    · subst h1; rw [if_neg h2, rdI_zero h]
    · exact absurd h1 h2

set_option maxRecDepth 1000000 in
set_option maxHeartbeats 400000 in
theorem bounded_any (w : World) (g : Nat) (v : Value) (l : List UInt8) (at_ : Nat) (bad : Bool) (lo hi : Int) (h : PR w g v l at_ bad) :
    Calls Try.prog 22 #[.pointer (some ⟨g, 0, none⟩), .int .i64 lo, .int .i64 hi] w (MvPost w g v l (.int .i64 (rdB (restOf l at_ bad) lo hi).1) (at_ + (rdB (restOf l at_ bad) lo hi).2) (bad || decide ((rdB (restOf l at_ bad) lo hi).2 = 0))) := by
  have H := Lib.hid h
  have hle := restOf_le l at_ bad h.1
  obtain ⟨⟨n, k⟩, hp⟩ : ∃ p, rdI (restOf l at_ bad) = p := ⟨_, rfl⟩
  have hkl := rdI_le (restOf l at_ bad)
  rw [hp] at hkl
  replace hkl : k ≤ (restOf l at_ bad).length := hkl
  have HP := Lib.hid hp
  have HL := Lib.hid h.1
  have hlen := h.2
  obtain ⟨_, hv0⟩ := hlen
  have hl47 := hv0.len
  clear hv0
  by_cases hbd : k = 0 ∨ n < lo ∨ hi < n
  · have R := Lib.hid (rdB_out hp hbd)
    rw [R.out]
    clear h hp
    rcases Nat.eq_zero_or_pos k with hk0 | hk0
    · subst hk0
      clear hbd
      go_enter Try.func22, Try.ntmps22
      go_wp2_with fail
      refine (rest_any _ g v l at_ bad H.out).mono ?_
      rintro e w' ⟨v1, rfl, h1, m, rfl⟩
      have H1 := Lib.hid h1; clear h1
      go_wp2_with fail
      refine (decodeInt_any _ _ _ (H1.out.drewN m)).mono ?_
      rw [HP.out]
      rintro e w' ⟨rfl, m2, rfl⟩
      have P2 := Lib.hid (H.out.drewN (m + m2))
      go_wp2_with fail
      refine (fail_any _ g v l at_ bad P2.out).mono ?_
      rintro e w3 ⟨rfl, h3, h4⟩
      have Q := Lib.hid (And.intro h3 h4); clear h3 h4
      go_wp2
      go_ret
      exact ⟨rfl, by simpa using Q.out.1, (But.drewN g w (m + m2)).trans Q.out.2⟩
    · have q0 : ((k : Int) == 0) = false := by rw [beq_eq_false_iff_ne]; omega
      by_cases h1 : n < lo
      · clear hbd
        go_enter Try.func22, Try.ntmps22
        go_wp2_with fail
        refine (rest_any _ g v l at_ bad H.out).mono ?_
        rintro e w' ⟨v1, rfl, h1, m, rfl⟩
        have H1 := Lib.hid h1; clear h1
        go_wp2_with fail
        refine (decodeInt_any _ _ _ (H1.out.drewN m)).mono ?_
        rw [HP.out]
        rintro e w' ⟨rfl, m2, rfl⟩
        have P2 := Lib.hid (H.out.drewN (m + m2))
        go_wp2_with fail
        refine (fail_any _ g v l at_ bad P2.out).mono ?_
        rintro e w3 ⟨rfl, h3, h4⟩
        have Q := Lib.hid (And.intro h3 h4); clear h3 h4
        go_wp2
        go_ret
        exact ⟨rfl, by simpa using Q.out.1, (But.drewN g w (m + m2)).trans Q.out.2⟩
      · have h2 : hi < n := by rcases hbd with h | h | h <;> omega
        clear hbd
        go_enter Try.func22, Try.ntmps22
        go_wp2_with fail
        refine (rest_any _ g v l at_ bad H.out).mono ?_
        rintro e w' ⟨v1, rfl, h1, m, rfl⟩
        have H1 := Lib.hid h1; clear h1
        go_wp2_with fail
        refine (decodeInt_any _ _ _ (H1.out.drewN m)).mono ?_
        rw [HP.out]
        rintro e w' ⟨rfl, m2, rfl⟩
        have P2 := Lib.hid (H.out.drewN (m + m2))
        go_wp2_with fail
        refine (fail_any _ g v l at_ bad P2.out).mono ?_
        rintro e w3 ⟨rfl, h3, h4⟩
        have Q := Lib.hid (And.intro h3 h4); clear h3 h4
        go_wp2
        go_ret
        exact ⟨rfl, by simpa using Q.out.1, (But.drewN g w (m + m2)).trans Q.out.2⟩
  · have R := Lib.hid (rdB_in (lo := lo) (hi := hi) hp (by omega) (by omega))
    rw [R.out]
    have q0 : ((k : Int) == 0) = false := by rw [beq_eq_false_iff_ne]; omega
    have q1 : ¬ n < lo := by omega
    have q2 : ¬ hi < n := by omega
    have hk0 : 0 < k := by omega
    have hat : at_ + k ≤ l.length := by omega
    cases bad
    · clear h hp hbd
      go_enter Try.func22, Try.ntmps22
      go_wp2_with fail
      refine (rest_any _ g v l at_ false H.out).mono ?_
      rintro e w' ⟨v1, rfl, h1, m, rfl⟩
      have H1 := Lib.hid h1; clear h1
      go_wp2_with fail
      refine (decodeInt_any _ _ _ (H1.out.drewN m)).mono ?_
      rw [HP.out]
      rintro e w' ⟨rfl, m2, rfl⟩
      have P2 := Lib.hid (H.out.drewN (m + m2))
      obtain ⟨_, hblk, _⟩ := H.out.drewN (m + m2)
      have c1 : (w.drewN (m + m2)).cell? ⟨g, 1, none⟩ = some (.int .i64 (at_ : Nat)) := hblk.cell 1
      have f1 := hblk.frozen 1
      clear hblk
      go_wp2
      go_ret
      refine ⟨rfl, ?_, (But.drewN g w (m + m2)).trans (But.setCell _ _ _ _)⟩
      have e1 : (false || decide (k = 0)) = false := by rw [decide_eq_false (by omega)]; rfl
      rw [e1]
      exact P2.out.setAt (at_ + k) hat _ (by omega)
    · exfalso
      have h3 : rdI (restOf l at_ true) = (0, 0) := rfl
      rw [hp] at h3
      injection h3 with h4 h5
      omega

set_option maxRecDepth 1000000 in
theorem rint_any (w : World) (g : Nat) (v : Value) (l : List UInt8) (at_ : Nat) (bad : Bool) (h : PR w g v l at_ bad) :
    Calls Try.prog 20 #[.pointer (some ⟨g, 0, none⟩)] w (MvPost w g v l (.int .i64 (rdI (restOf l at_ bad)).1) (at_ + (rdI (restOf l at_ bad)).2) (bad || decide ((rdI (restOf l at_ bad)).2 = 0))) := by
  have H := Lib.hid h; clear h
  go_enter Try.func20, Try.ntmps20
  go_wp2_with fail
  refine (bounded_any _ g v l at_ bad _ _ H.out).mono ?_
  rw [rdB_all]
  rintro e w1 ⟨rfl, h1, h2⟩
  have Q := Lib.hid (And.intro h1 h2); clear h1 h2
  go_wp2
  go_ret
  exact ⟨rfl, Q.out.1, Q.out.2⟩
set_option maxRecDepth 1000000 in
set_option maxHeartbeats 400000 in
theorem rstring_any (w : World) (g : Nat) (v : Value) (l : List UInt8) (at_ : Nat) (bad : Bool) (h : PR w g v l at_ bad) :
    Calls Try.prog 24 #[.pointer (some ⟨g, 0, none⟩)] w (MvPost w g v l (.string (ofL (rdS (restOf l at_ bad)).1)) (at_ + (rdS (restOf l at_ bad)).2) (bad || decide ((rdS (restOf l at_ bad)).2 = 0))) := by
  have H := Lib.hid h
  have hle := restOf_le l at_ bad h.1
  obtain ⟨⟨s, k⟩, hp⟩ : ∃ p, rdS (restOf l at_ bad) = p := ⟨_, rfl⟩
  have hkl := rdS_le (restOf l at_ bad)
  rw [hp] at hkl
  replace hkl : k ≤ (restOf l at_ bad).length := hkl
  have HP := Lib.hid hp
  obtain ⟨_, hv0⟩ := h.2
  have hl47 := hv0.len
  clear hv0
  rw [hp]
  rcases Nat.eq_zero_or_pos k with hk0 | hk0
  · subst hk0
    obtain rfl := rdS_zero hp
    clear h hp
    go_enter Try.func24, Try.ntmps24
    go_wp2_with fail
    refine (rest_any _ g v l at_ bad H.out).mono ?_
    rintro e w' ⟨v1, rfl, h1, m, rfl⟩
    have H1 := Lib.hid h1; clear h1
    go_wp2_with fail
    refine (decodeString_any _ _ _ (H1.out.drewN m)).mono ?_
    rw [HP.out]
    rintro e w' ⟨rfl, m2, rfl⟩
    have P2 := Lib.hid (H.out.drewN (m + m2))
    go_wp2_with fail
    refine (fail_any _ g v l at_ bad P2.out).mono ?_
    rintro e w3 ⟨rfl, h3, h4⟩
    have Q := Lib.hid (And.intro h3 h4); clear h3 h4
    go_wp2
    go_ret
    exact ⟨rfl, by simpa using Q.out.1, (But.drewN g w (m + m2)).trans Q.out.2⟩
  · have q0 : ((k : Int) == 0) = false := by rw [beq_eq_false_iff_ne]; omega
    have hat : at_ + k ≤ l.length := by omega
    cases bad
    · clear h hp
      go_enter Try.func24, Try.ntmps24
      go_wp2_with fail
      refine (rest_any _ g v l at_ false H.out).mono ?_
      rintro e w' ⟨v1, rfl, h1, m, rfl⟩
      have H1 := Lib.hid h1; clear h1
      go_wp2_with fail
      refine (decodeString_any _ _ _ (H1.out.drewN m)).mono ?_
      rw [HP.out]
      rintro e w' ⟨rfl, m2, rfl⟩
      have P2 := Lib.hid (H.out.drewN (m + m2))
      obtain ⟨_, hblk, _⟩ := H.out.drewN (m + m2)
      have c1 : (w.drewN (m + m2)).cell? ⟨g, 1, none⟩ = some (.int .i64 (at_ : Nat)) := hblk.cell 1
      have f1 := hblk.frozen 1
      clear hblk
      go_wp2
      go_ret
      refine ⟨rfl, ?_, (But.drewN g w (m + m2)).trans (But.setCell _ _ _ _)⟩
      have e1 : (false || decide (k = 0)) = false := by rw [decide_eq_false (by omega)]; rfl
      rw [e1]
      exact P2.out.setAt (at_ + k) hat _ (by omega)
    · exfalso
      have h3 : rdS (restOf l at_ true) = ([], 0) := rfl
      rw [hp] at h3
      injection h3 with h4 h5
      omega
end Go.Proofs.Ytglllbodhdgahaa
