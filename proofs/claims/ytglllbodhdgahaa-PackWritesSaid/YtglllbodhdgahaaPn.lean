/- The reader of the specification. -/
import Derived.Test.YtglllbodhdgahaaPm
namespace Go.Proofs.Ytglllbodhdgahaa
open Go.RowKit
set_option linter.unusedVariables false

/-- A reader of the specification. -/
def SR (w : World) (g : Nat) (v : Value) (l : List UInt8) (at_ : Nat) (bad : Bool) : Prop :=
  at_ ≤ l.length ∧ Blk g 39 #[v, .int .i64 (at_ : Nat), .bool bad] w ∧ RdB w v l
theorem noByteS {v : Value} {a : Int} {b : Bool} {l : List UInt8} {w : World} (h : RdB w v l) : NoByte #[v, .int .i64 a, .bool b] := by
  obtain ⟨x, c, rfl⟩ := h.slice
  intro i u hu n e
  subst e
  match i, hu with
  | 0, hu => simp at hu
  | 1, hu => simp at hu
  | 2, hu => simp at hu
  | i + 3, hu => simp at hu
theorem SR.but {w w' : World} {g g' : Nat} {v : Value} {l : List UInt8} {at_ : Nat} {bad : Bool} {t : TypeId} {cs : Array Value} (h : SR w g v l at_ bad) (hne : g ≠ g') (hg : Blk g' t cs w) (hn : NoByte cs) (hb : But g' w w') : SR w' g v l at_ bad := by
  obtain ⟨h1, h2, h3⟩ := h
  exact ⟨h1, h2.but hb hne, h3.but hg hn hb⟩
theorem SR.below {w w' : World} {g : Nat} {v : Value} {l : List UInt8} {at_ : Nat} {bad : Bool} (h : SR w g v l at_ bad) (hb : Below w.heap.size w w') : SR w' g v l at_ bad := by
  obtain ⟨h1, h2, h3⟩ := h
  exact ⟨h1, h2.below hb, h3.below hb⟩
theorem SR.drewN {w : World} {g : Nat} {v : Value} {l : List UInt8} {at_ : Nat} {bad : Bool} (h : SR w g v l at_ bad) (n : Nat) : SR (w.drewN n) g v l at_ bad := h.below (below_drewN (Below.refl _ _) n)
theorem SR.setAt {w : World} {g : Nat} {v : Value} {l : List UInt8} {at_ : Nat} {bad : Bool} (h : SR w g v l at_ bad) (k : Nat) (hk : k ≤ l.length) (q : Int) (hq : q = (k : Int)) : SR (w.setCell ⟨g, 1, none⟩ (.int .i64 q)) g v l k bad := by
  subst hq
  obtain ⟨h1, h2, h3⟩ := h
  exact ⟨hk, h2.put 1 _, h3.but h2 (noByteS h3) (But.setCell g w 1 _)⟩
theorem SR.setBad {w : World} {g : Nat} {v : Value} {l : List UInt8} {at_ : Nat} {bad : Bool} (h : SR w g v l at_ bad) : SR (w.setCell ⟨g, 2, none⟩ (.bool true)) g v l at_ true := by
  obtain ⟨h1, h2, h3⟩ := h
  exact ⟨h1, h2.put 2 _, h3.but h2 (noByteS h3) (But.setCell g w 2 _)⟩

set_option maxRecDepth 1000000 in
set_option maxHeartbeats 400000 in
theorem refRest_any (w : World) (g : Nat) (v : Value) (l : List UInt8) (at_ : Nat) (bad : Bool) (h : SR w g v l at_ bad) :
    Calls Try.prog 36 #[.pointer (some ⟨g, 0, none⟩)] w (RestPost w (restOf l at_ bad)) := by
  obtain ⟨hle, hblk, hrd⟩ := h
  have c0 : w.cell? ⟨g, 0, none⟩ = some v := hblk.cell 0
  have c1 : w.cell? ⟨g, 1, none⟩ = some (.int .i64 (at_ : Nat)) := hblk.cell 1
  have c2 : w.cell? ⟨g, 2, none⟩ = some (.bool bad) := hblk.cell 2
  clear hblk
  cases bad
  · obtain ⟨a, c, rfl⟩ := hrd.slice
    obtain ⟨vc, hvc, hs1, hs2⟩ := cut_eqs (w := w) (a := a) (c := c) at_ hle
    have HC := Lib.hid (show RdB w vc (l.drop at_) by rw [← hvc]; exact hrd.cut at_ hle)
    clear hvc hrd
    go_enter Try.func36, Try.ntmps36
    go_wp2
    go_quiet (fail)
    go_wp2
    go_ret
    exact ⟨_, rfl, HC.out, _, rfl⟩
  · clear hrd
    go_enter Try.func36, Try.ntmps36
    go_wp2
    go_ret
    exact ⟨_, rfl, rdB_nil _, 0, rfl⟩
set_option maxRecDepth 1000000 in
set_option maxHeartbeats 400000 in
theorem move_any (w : World) (g : Nat) (v : Value) (l : List UInt8) (at_ k : Nat) (bad : Bool) (h : SR w g v l at_ bad) (hk : at_ + k ≤ l.length) :
    Calls Try.prog 37 #[.pointer (some ⟨g, 0, none⟩), .int .i64 (k : Nat)] w (NonePost fun w' => SR w' g v l (at_ + k) (bad || decide (k = 0)) ∧ But g w w') := by
  have H := Lib.hid h
  have hl := h.2.2.len
  have c1 : w.cell? ⟨g, 1, none⟩ = some (.int .i64 (at_ : Nat)) := h.2.1.cell 1
  have c2 : w.cell? ⟨g, 2, none⟩ = some (.bool bad) := h.2.1.cell 2
  have f1 := h.2.1.frozen 1
  have f2 := h.2.1.frozen 2
  clear h
  rcases Nat.eq_zero_or_pos k with h0 | h0
  · subst h0
    go_enter Try.func37, Try.ntmps37
    go_wp2
    go_end0
    refine ⟨rfl, ?_, (But.setCell _ _ _ _).trans (But.setCell _ _ _ _)⟩
    have R := H.out.setBad.setAt (at_ + 0) hk (at_ : Int) (by omega)
    simpa using R
  · have q0 : ((k : Int) == 0) = false := by rw [beq_eq_false_iff_ne]; omega
    go_enter Try.func37, Try.ntmps37
    go_wp2
    go_end0
    refine ⟨rfl, ?_, But.setCell _ _ _ _⟩
    have e1 : (bad || decide (k = 0)) = bad := by rw [decide_eq_false (by omega)]; simp
    rw [e1]
    exact H.out.setAt (at_ + k) hk _ (by omega)
def MsPost (w : World) (g : Nat) (v : Value) (l : List UInt8) (x : Value) (at_ : Nat) (bad : Bool) (e : Ending) (w' : World) : Prop := e = .returned x ∧ SR w' g v l at_ bad ∧ But g w w'
theorem rdB_eq {b : List UInt8} {lo hi n : Int} {k : Nat} (h : rdI b = (n, k)) : rdB b lo hi = if n < lo ∨ hi < n then (0, 0) else (n, k) := by
  unfold rdB
  rw [h]
def SsPost (w : World) (g : Nat) (v : Value) (l : List UInt8) (at_ : Nat) (bad : Bool) (p : List (List UInt8) × Nat) (e : Ending) (w' : World) : Prop :=
  ∃ x, e = .returned x ∧ RdT w' x p.1 ∧ SR w' g v l (at_ + p.2) (bad || decide (p.2 = 0)) ∧ But g w w'
theorem RdT.butS {g : Nat} {t : TypeId} {w w' : World} {x : Value} {ls : List (List UInt8)} {b : Nat} (h : RdT w x ls) (hb : Below w.heap.size w w') : RdT w' x ls := h.below hb
theorem RdT.butR {g : Nat} {v : Value} {l : List UInt8} {at_ : Nat} {bad : Bool} {w w' : World} {x : Value} {ls : List (List UInt8)} (h : RdT w x ls) (hs : SR w g v l at_ bad) (hb : But g w w') : RdT w' x ls := by
  obtain ⟨a0, c0, rfl⟩ := hs.2.2.slice
  have hg := hs.2.1
  obtain ⟨a', c', hv, hx⟩ := h
  refine ⟨a', c', hv, fun hne => ?_⟩
  obtain ⟨b, off, ha, hlt, hc⟩ := hx hne
  have hbg : b ≠ g := by
    intro e
    subst e
    have h3 := hc 0 (List.length_pos_iff.2 hne)
    rw [hg.cell] at h3
    generalize off + 0 = i at h3
    match i, h3 with
    | 0, hu => simp at hu
    | 1, hu => simp at hu
    | 2, hu => simp at hu
    | i + 3, hu => simp at hu
  exact ⟨b, off, ha, Nat.lt_of_lt_of_le hlt hb.size, fun i hi => (World.cell?_of_block (w := w) (a := ⟨b, off + i, none⟩) (hb.block b hlt hbg)).trans (hc i hi)⟩

set_option maxRecDepth 1000000 in
set_option maxHeartbeats 400000 in
theorem sint_any (w : World) (g : Nat) (v : Value) (l : List UInt8) (at_ : Nat) (bad : Bool) (h : SR w g v l at_ bad) :
    Calls Try.prog 21 #[.pointer (some ⟨g, 0, none⟩)] w (MsPost w g v l (.int .i64 (rdI (restOf l at_ bad)).1) (at_ + (rdI (restOf l at_ bad)).2) (bad || decide ((rdI (restOf l at_ bad)).2 = 0))) := by
  have H := Lib.hid h
  have hle := restOf_le l at_ bad h.1
  obtain ⟨⟨n, k⟩, hp⟩ : ∃ p, rdI (restOf l at_ bad) = p := ⟨_, rfl⟩
  have hkl := rdI_le (restOf l at_ bad)
  rw [hp] at hkl
  replace hkl : k ≤ (restOf l at_ bad).length := hkl
  have HK : Hid (at_ + k ≤ l.length) := Lib.hid (by omega)
  have HP := Lib.hid hp
  rw [hp]
  clear h hp hle hkl
  go_enter Try.func21, Try.ntmps21
  go_wp2_with fail
  refine (refRest_any _ g v l at_ bad H.out).mono ?_
  rintro e w' ⟨v1, rfl, h1, m, rfl⟩
  have H1 := Lib.hid (h1.drewN m); clear h1
  go_wp2_with fail
  refine (refReadInt_any _ _ _ H1.out).mono ?_
  rw [HP.out]
  rintro e w2 ⟨rfl, b2⟩
  have P2 := Lib.hid ((H.out.drewN m).below b2)
  have B2 : Hid (But g w w2) := Lib.hid ((But.drewN g w m).trans (But.of_below b2))
  clear b2
  go_wp2_with fail
  refine (move_any _ g v l at_ k bad P2.out HK.out).mono ?_
  rintro e w3 ⟨rfl, h3, h4⟩
  have Q := Lib.hid (And.intro h3 (B2.out.trans h4)); clear h3 h4
  go_wp2
  go_ret
  exact ⟨rfl, Q.out.1, Q.out.2⟩

set_option maxRecDepth 1000000 in
set_option maxHeartbeats 400000 in
theorem sstring_any (w : World) (g : Nat) (v : Value) (l : List UInt8) (at_ : Nat) (bad : Bool) (h : SR w g v l at_ bad) :
    Calls Try.prog 25 #[.pointer (some ⟨g, 0, none⟩)] w (MsPost w g v l (.string (ofL (rdS (restOf l at_ bad)).1)) (at_ + (rdS (restOf l at_ bad)).2) (bad || decide ((rdS (restOf l at_ bad)).2 = 0))) := by
  have H := Lib.hid h
  have hle := restOf_le l at_ bad h.1
  obtain ⟨⟨s, k⟩, hp⟩ : ∃ p, rdS (restOf l at_ bad) = p := ⟨_, rfl⟩
  have hkl := rdS_le (restOf l at_ bad)
  rw [hp] at hkl
  replace hkl : k ≤ (restOf l at_ bad).length := hkl
  have HK : Hid (at_ + k ≤ l.length) := Lib.hid (by omega)
  have HP := Lib.hid hp
  rw [hp]
  clear h hp hle hkl
  go_enter Try.func25, Try.ntmps25
  go_wp2_with fail
  refine (refRest_any _ g v l at_ bad H.out).mono ?_
  rintro e w' ⟨v1, rfl, h1, m, rfl⟩
  have H1 := Lib.hid (h1.drewN m); clear h1
  go_wp2_with fail
  refine (refReadString_any _ _ _ H1.out).mono ?_
  rw [HP.out]
  rintro e w2 ⟨rfl, b2⟩
  have P2 := Lib.hid ((H.out.drewN m).below b2)
  have B2 : Hid (But g w w2) := Lib.hid ((But.drewN g w m).trans (But.of_below b2))
  clear b2
  go_wp2_with fail
  refine (move_any _ g v l at_ k bad P2.out HK.out).mono ?_
  rintro e w3 ⟨rfl, h3, h4⟩
  have Q := Lib.hid (And.intro h3 (B2.out.trans h4)); clear h3 h4
  go_wp2
  go_ret
  exact ⟨rfl, Q.out.1, Q.out.2⟩

set_option maxRecDepth 1000000 in
set_option maxHeartbeats 400000 in
theorem sstrings_any (w : World) (g : Nat) (v : Value) (l : List UInt8) (at_ : Nat) (bad : Bool) (most : Int) (h : SR w g v l at_ bad) (hl : l.length ≤ 1000000) :
    Calls Try.prog 28 #[.pointer (some ⟨g, 0, none⟩), .int .i64 most] w (SsPost w g v l at_ bad (rdL (restOf l at_ bad) most)) := by
  have H := Lib.hid h
  have hle := restOf_le l at_ bad h.1
  obtain ⟨⟨s, k⟩, hp⟩ : ∃ p, rdL (restOf l at_ bad) most = p := ⟨_, rfl⟩
  have hkl := rdL_le (restOf l at_ bad) most
  rw [hp] at hkl
  replace hkl : k ≤ (restOf l at_ bad).length := hkl
  have HK : Hid (at_ + k ≤ l.length) := Lib.hid (by omega)
  have HR : Hid ((restOf l at_ bad).length ≤ 1000000) := Lib.hid (by omega)
  have HP := Lib.hid hp
  rw [hp]
  clear h hp hle hkl
  go_enter Try.func28, Try.ntmps28
  go_wp2_with fail
  refine (refRest_any _ g v l at_ bad H.out).mono ?_
  rintro e w' ⟨v1, rfl, h1, m, rfl⟩
  have H1 := Lib.hid (h1.drewN m); clear h1
  go_wp2_with fail
  refine (refReadStrings_any _ _ most _ H1.out HR.out).mono ?_
  rw [HP.out]
  rintro e w2 ⟨y, rfl, ht, b2⟩
  have P2 := Lib.hid ((H.out.drewN m).below b2)
  have B2 : Hid (But g w w2) := Lib.hid ((But.drewN g w m).trans (But.of_below b2))
  have HT := Lib.hid ht
  clear b2 ht
  go_wp2_with fail
  refine (move_any _ g v l at_ k bad P2.out HK.out).mono ?_
  rintro e w3 ⟨rfl, h3, h4⟩
  have Q := Lib.hid (And.intro h3 (And.intro (HT.out.butR P2.out h4) (B2.out.trans h4))); clear h3 h4
  go_wp2
  go_ret
  exact ⟨_, rfl, Q.out.2.1, Q.out.1, Q.out.2.2⟩

set_option maxRecDepth 1000000 in
set_option maxHeartbeats 400000 in
theorem sbounded_any (w : World) (g : Nat) (v : Value) (l : List UInt8) (at_ : Nat) (bad : Bool) (lo hi : Int) (h : SR w g v l at_ bad) :
    Calls Try.prog 23 #[.pointer (some ⟨g, 0, none⟩), .int .i64 lo, .int .i64 hi] w (MsPost w g v l (.int .i64 (rdB (restOf l at_ bad) lo hi).1) (at_ + (rdB (restOf l at_ bad) lo hi).2) (bad || decide ((rdB (restOf l at_ bad) lo hi).2 = 0))) := by
  have H := Lib.hid h
  have hle := restOf_le l at_ bad h.1
  obtain ⟨⟨n, k⟩, hp⟩ : ∃ p, rdI (restOf l at_ bad) = p := ⟨_, rfl⟩
  have hkl := rdI_le (restOf l at_ bad)
  rw [hp] at hkl
  replace hkl : k ≤ (restOf l at_ bad).length := hkl
  have HK : Hid (at_ + k ≤ l.length) := Lib.hid (by omega)
  have HK0 : Hid (at_ + 0 ≤ l.length) := Lib.hid (by omega)
  have HP := Lib.hid hp
  rw [rdB_eq hp]
  clear h hp hle hkl
  by_cases h1 : n < lo
  · rw [if_pos (.inl h1)]
    go_enter Try.func23, Try.ntmps23
    go_wp2_with fail
    refine (refRest_any _ g v l at_ bad H.out).mono ?_
    rintro e w' ⟨v1, rfl, h1, m, rfl⟩
    have H1 := Lib.hid (h1.drewN m); clear h1
    go_wp2_with fail
    refine (refReadInt_any _ _ _ H1.out).mono ?_
    rw [HP.out]
    rintro e w2 ⟨rfl, b2⟩
    have P2 := Lib.hid ((H.out.drewN m).below b2)
    have B2 : Hid (But g w w2) := Lib.hid ((But.drewN g w m).trans (But.of_below b2))
    clear b2
    go_wp2_with fail
    refine (move_any _ g v l at_ 0 bad P2.out HK0.out).mono ?_
    rintro e w3 ⟨rfl, h3, h4⟩
    have Q := Lib.hid (And.intro h3 (B2.out.trans h4)); clear h3 h4
    go_wp2
    go_ret
    exact ⟨rfl, Q.out.1, Q.out.2⟩
  · by_cases h2 : hi < n
    · rw [if_pos (.inr h2)]
      go_enter Try.func23, Try.ntmps23
      go_wp2_with fail
      refine (refRest_any _ g v l at_ bad H.out).mono ?_
      rintro e w' ⟨v1, rfl, h1, m, rfl⟩
      have H1 := Lib.hid (h1.drewN m); clear h1
      go_wp2_with fail
      refine (refReadInt_any _ _ _ H1.out).mono ?_
      rw [HP.out]
      rintro e w2 ⟨rfl, b2⟩
      have P2 := Lib.hid ((H.out.drewN m).below b2)
      have B2 : Hid (But g w w2) := Lib.hid ((But.drewN g w m).trans (But.of_below b2))
      clear b2
      go_wp2_with fail
      refine (move_any _ g v l at_ 0 bad P2.out HK0.out).mono ?_
      rintro e w3 ⟨rfl, h3, h4⟩
      have Q := Lib.hid (And.intro h3 (B2.out.trans h4)); clear h3 h4
      go_wp2
      go_ret
      exact ⟨rfl, Q.out.1, Q.out.2⟩
    · rw [if_neg (by omega)]
      go_enter Try.func23, Try.ntmps23
      go_wp2_with fail
      refine (refRest_any _ g v l at_ bad H.out).mono ?_
      rintro e w' ⟨v1, rfl, h1, m, rfl⟩
      have H1 := Lib.hid (h1.drewN m); clear h1
      go_wp2_with fail
      refine (refReadInt_any _ _ _ H1.out).mono ?_
      rw [HP.out]
      rintro e w2 ⟨rfl, b2⟩
      have P2 := Lib.hid ((H.out.drewN m).below b2)
      have B2 : Hid (But g w w2) := Lib.hid ((But.drewN g w m).trans (But.of_below b2))
      clear b2
      go_wp2_with fail
      refine (move_any _ g v l at_ k bad P2.out HK.out).mono ?_
      rintro e w3 ⟨rfl, h3, h4⟩
      have Q := Lib.hid (And.intro h3 (B2.out.trans h4)); clear h3 h4
      go_wp2
      go_ret
      exact ⟨rfl, Q.out.1, Q.out.2⟩
end Go.Proofs.Ytglllbodhdgahaa
