/- The reader of the program: Read, list, Strings. -/
import Derived.Test.YtglllbodhdgahaaPl
namespace Go.Proofs.Ytglllbodhdgahaa
open Go.RowKit
set_option linter.unusedVariables false

/-- A new reader. -/
def NewPost (w : World) (l : List UInt8) (e : Ending) (w' : World) : Prop := ∃ g u, e = .returned (.pointer (some ⟨g, 0, none⟩)) ∧ PR w' g u l 0 false ∧ Below w.heap.size w w' ∧ w.heap.size ≤ g
set_option maxRecDepth 1000000 in
theorem read_any (v : Value) (l : List UInt8) (w : World) (hv : RdB w v l) (hl : l.length ≤ 1000000) :
    Calls Try.prog 19 #[v] w (NewPost w l) := by
  have HV := Lib.hid hv; clear hv
  go_enter Try.func19, Try.ntmps19
  go_wp2_with fail
  refine (copied_any _ l 0 _ HV.out (by omega)).mono ?_
  rintro e w1 ⟨v1, rfl, o1, b1⟩
  have z1 := b1.size
  have H1 := Lib.hid (o1.rd (by omega)); clear o1
  obtain ⟨a, c, rfl⟩ := H1.out.slice
  go_wp2
  go_ret
  exact ⟨w1.heap.size, .slice a l.length c, rfl, ⟨Nat.zero_le _, Blk.new _ _ _, H1.out.alloc _⟩, b1.alloc z1 _, z1⟩

theorem PR.of {w w' : World} {g : Nat} {v : Value} {l : List UInt8} {at_ at2 : Nat} {bad bad2 : Bool} (h : PR w g v l at_ bad) (hb : But g w w') (h2 : at2 ≤ l.length) (hk : Blk g 58 #[v, .int .i64 (at2 : Nat), .int .i64 (if bad2 then 4 else 0)] w') : PR w' g v l at2 bad2 :=
  ⟨h2, hk, h.2.2.but h.2.1 (noByte3 h.2.2) hb⟩
theorem But.then {g : Nat} {w a b : World} (h : But g w a) (k : Below w.heap.size a b) : But g w b :=
  ⟨k.os.trans h.os, k.tape.trans h.tape, k.output.trans h.output, Nat.le_trans h.size k.size, fun i hi hg => (k.block i hi).trans (h.block i hi hg)⟩
theorem OwnT.but {w a : World} {base g : Nat} {e : TypeId} {v : Value} {l : List (List UInt8)} (h : OwnT w base e v l) (hb : But g w a) (hg : g < base) : OwnT a base e v l := by
  refine ⟨h.1, ?_⟩
  rcases h.2 with h0 | ⟨k, cap, cur, hv, hB, hk, hr⟩
  · exact .inl h0
  · exact .inr ⟨k, cap, cur, hv, hB, (hb.block k (Array.getElem?_eq_some_iff.1 hk).1 (by omega)).trans hk, hr⟩
theorem OwnT.slice {w : World} {base : Nat} {e : TypeId} {v : Value} {l : List (List UInt8)} (h : OwnT w base e v l) : ∃ a c, v = .slice a l.length c := (RdT.of_own h).slice

/-! ### The list of strings -/
def fnV (g : Nat) : Value := .func (.func 24) #[.pointer (some ⟨g, 0, none⟩)] #[]
def lenOf (v : Value) : Nat := match v with | .slice _ n _ => n | _ => 0
structure LsRel (w : World) (g : Nat) (v : Value) (l : List UInt8) (at0 N : Nat) (R : Option (List (List UInt8) × Nat)) (v7 : Value) (wr : World) (i rel : Nat) (bad : Bool) (pre : List (List UInt8)) : Prop where
  len : pre.length = i
  iN : i ≤ N
  le : at0 + rel ≤ l.length
  ile : bad = false → i ≤ rel
  own : OwnT wr w.heap.size 9 v7 pre
  pr : PR wr g v l (at0 + rel) bad
  good : bad = false → rdA (N - i) (l.drop at0) rel pre = R
  none_ : bad = true → R = none
  but : But g w wr
def ListPost (w : World) (g : Nat) (v : Value) (l : List UInt8) (at0 : Nat) (R : Option (List (List UInt8) × Nat)) (e : Ending) (w' : World) : Prop :=
  ∃ x, e = .returned x ∧ But g w w' ∧ ((R = none ∧ ∃ k, PR w' g v l k true) ∨ ∃ ls k, R = some (ls, k) ∧ PR w' g v l (at0 + k) false ∧ RdT w' x ls)

set_option maxRecDepth 1000000 in
theorem list_zero (w : World) (g : Nat) (v : Value) (l : List UInt8) (at_ : Nat) (bad : Bool) (F : Value) (h : PR w g v l at_ bad) :
    Calls Try.prog 42 #[.pointer (some ⟨g, 0, none⟩), .int .i64 0, F] w (Drn w (.slice none 0 0)) := by
  clear h
  go_enter Try.func42, Try.ntmps42
  go_wp2
  refine wp_loop_rounds 1 ?_
  rw [rounds_succ]
  go_wp2
  go_ret
  exact ⟨rfl, 0, rfl⟩

set_option maxRecDepth 1000000 in
set_option maxHeartbeats 1000000 in
theorem list_any (w : World) (g : Nat) (v : Value) (l : List UInt8) (at0 j N : Nat) (R : Option (List (List UInt8) × Nat)) (h : PR w g v l (at0 + j) false) (hl : l.length ≤ 1000000) (hR : rdA N (l.drop at0) j [] = R) :
    Calls Try.prog 42 #[.pointer (some ⟨g, 0, none⟩), .int .i64 (N : Nat), fnV g] w (ListPost w g v l at0 R) := by
  obtain ⟨i0, hi, hz0, hz1, hz2⟩ := info_parts Try.infoS
  have H := Lib.hid h
  have hlt := h.lt
  have hle := h.1
  have HR := Lib.hid hR
  clear h hR
  unfold fnV
  go_enter Try.func42, Try.ntmps42
  go_wp2
  go_loopw [7] (fun v7 wr => ∃ i rel bad pre, LsRel w g v l at0 N R v7 wr i rel bad pre) (fun v7 _ => N - lenOf v7)
  case atStart => exact ⟨0, j, false, [], rfl, Nat.zero_le _, hle, (fun _ => Nat.zero_le _), ownT_nil _ _ _, H.out, fun _ => HR.out, (fun h => by cases h), But.refl _ _⟩
  case round =>
    obtain ⟨i, rel, bad, pre, hrel⟩ := hrel
    have Hr := Lib.hid hrel
    obtain ⟨a, c, rfl⟩ := hrel.own.slice
    have hlen := hrel.len
    subst hlen
    have hiN := hrel.iN
    have hle2 := hrel.le
    have hblk := hrel.pr.2.1
    have c2 : wr.cell? ⟨g, 2, none⟩ = some (.int .i64 (if bad then 4 else 0)) := hblk.cell 2
    clear hrel hblk
    cases bad
    · simp only [Bool.false_eq_true, if_false] at c2
      by_cases hlt2 : pre.length < N
      · have q1 : (pre.length : Int) < (N : Int) := by omega
        have hd : restOf l (at0 + rel) false = (l.drop at0).drop rel := by unfold restOf; simp [List.drop_drop]
        obtain ⟨⟨s, k⟩, hs⟩ : ∃ p, rdS ((l.drop at0).drop rel) = p := ⟨_, rfl⟩
        have HS := Lib.hid hs
        have HD := Lib.hid hd
        clear hs hd
        go_wp2_with fail
        refine (rstring_any wr g v l (at0 + rel) false Hr.out.pr).mono ?_
        rw [HD.out, HS.out]
        rintro e w2 ⟨rfl, h2, b2⟩
        have hkl := rdS_le ((l.drop at0).drop rel)
        rw [HS.out, List.length_drop, List.length_drop] at hkl
        replace hkl : k ≤ l.length - at0 - rel := hkl
        have z1 := Hr.out.but.size
        have z2 := b2.size
        have HO := Lib.hid (Hr.out.own.but b2 hlt)
        have HB := Lib.hid (Hr.out.but.trans b2)
        have HP := Lib.hid h2
        have hpl : pre.length ≤ 1000000000000 := by have := Hr.out.ile rfl; omega
        have HPL := Lib.hid hpl
        clear h2 b2 hpl c2
        go_wp2_with (at_builtin; go_loud (refine wpList_append_str (W := w2) rfl _ _ 23 rfl w.heap.size i0 Try.underlying23 hi hz0 hz1 hz2 _ pre rfl HO.out rfl HPL.out (by omega) (Below.refl _ _) ?_))
        · intro v3 w3 o3 b3
          have HN := Lib.hid (HB.out.then b3)
          have hblk := HP.out.2.1
          have hB3 : Blk g 58 #[v, .int .i64 ((at0 + rel + k : Nat) : Int), .int .i64 (if (false || decide (k = 0)) then 4 else 0)] w3 := (b3.block g hlt).trans hblk
          have R3 := Lib.hid (show LsRel w g v l at0 N R v3 w3 (pre.length + 1) (rel + k) (false || decide (k = 0)) (pre ++ [s]) from
            ⟨by simp, by omega, by omega, fun hf => by
              have hk : k ≠ 0 := fun e => by rw [decide_eq_true e] at hf; cases hf
              have := Hr.out.ile rfl
              omega, o3, by rw [← Nat.add_assoc]; exact H.out.of HN.out (by omega) hB3, fun hf => by
                have hk : k ≠ 0 := fun e => by rw [decide_eq_true e] at hf; cases hf
                have h4 := Hr.out.good rfl
                rw [rdA_step (by omega) (by rw [HS.out]; exact hk), HS.out] at h4
                rw [show N - (pre.length + 1) = N - pre.length - 1 from by omega]
                exact h4, fun hf => by
                have hk : k = 0 := by
                  rcases Nat.eq_zero_or_pos k with h | h
                  · exact h
                  · rw [decide_eq_false (by omega)] at hf; cases hf
                rw [← Hr.out.good rfl]
                exact rdA_stop (by omega) (by rw [HS.out]; exact hk), HN.out⟩)
          have hn3 : lenOf v3 = pre.length + 1 := by
            obtain ⟨a3, c3, e3⟩ := o3.slice
            rw [e3]; simp [lenOf]
          have HN3 := Lib.hid hn3
          clear o3 b3 hblk hB3 hn3
          go_wp2
          go_roundw
          case rel => exact ⟨_, _, _, _, R3.out⟩
          case measure => have := HN3.out; simp only [lenOf] at this ⊢; omega
      · have hN : pre.length = N := by omega
        have q1 : ¬ (pre.length : Int) < (N : Int) := by omega
        have HN := Lib.hid hN
        clear hN hlt2
        go_wp2
        go_ret
        refine ⟨_, rfl, Hr.out.but, .inr ⟨pre, rel, ?_, Hr.out.pr, RdT.of_own Hr.out.own⟩⟩
        have h4 := Hr.out.good rfl
        rw [HN.out, Nat.sub_self, rdA_zero] at h4
        exact h4.symm
    · simp only [if_true] at c2
      by_cases hlt2 : pre.length < N
      · have q1 : (pre.length : Int) < (N : Int) := by omega
        go_wp2
        go_ret
        exact ⟨_, rfl, Hr.out.but, .inl ⟨Hr.out.none_ rfl, _, Hr.out.pr⟩⟩
      · have q1 : ¬ (pre.length : Int) < (N : Int) := by omega
        go_wp2
        go_ret
        exact ⟨_, rfl, Hr.out.but, .inl ⟨Hr.out.none_ rfl, _, Hr.out.pr⟩⟩

/-! ### Strings -/
theorem rdB_nat {b : List UInt8} {most n : Int} {k : Nat} (h : rdB b 0 most = (n, k)) (hk : k ≠ 0) : ∃ N : Nat, n = (N : Int) ∧ rdI b = ((N : Int), k) ∧ (N : Int) ≤ most := by
  unfold rdB at h
  split at h
  · injection h with e1 e2; omega
  · rename_i hc
    have h1 : (rdI b).1 = n := by rw [h]
    rw [h1] at hc
    exact ⟨n.toNat, by omega, by rw [h]; congr 1; omega, by omega⟩
theorem rdL_none {b : List UInt8} {most n : Int} (h : rdB b 0 most = (n, 0)) : rdL b most = ([], 0) := by
  unfold rdB at h
  split at h
  · rename_i hc
    exact rdL_bad (n := (rdI b).1) (j := (rdI b).2) rfl (by rcases hc with h1 | h1; · exact .inr (.inl h1)
                                                            · exact .inr (.inr h1))
  · exact rdL_bad h (.inl rfl)
def StrsPost (w : World) (g : Nat) (v : Value) (l : List UInt8) (at_ : Nat) (bad : Bool) (p : List (List UInt8) × Nat) (e : Ending) (w' : World) : Prop :=
  ∃ x, e = .returned x ∧ RdT w' x p.1 ∧ PR w' g v l (at_ + p.2) (bad || decide (p.2 = 0)) ∧ But g w w'

theorem RdT.but {g : Nat} {t : TypeId} {v : Value} {p q : Int} {w w' : World} {x : Value} {ls : List (List UInt8)} {a : Option Addr} {n c : Nat} (h : RdT w x ls) (hg : Blk g t #[.slice a n c, .int .i64 p, .int .i64 q] w) (hb : But g w w') : RdT w' x ls := by
  obtain ⟨a', c', hv, hx⟩ := h
  refine ⟨a', c', hv, fun hne => ?_⟩
  obtain ⟨b, off, ha, hlt, hc⟩ := hx hne
  have hbg : b ≠ g := by
    intro e
    subst e
    have h3 := hc 0 (List.length_pos_iff.2 hne)
    rw [hg.cell] at h3
    generalize off + 0 = i at h3
    match i, h3 with
    | 0, hu => simp at hu
    | 1, hu => simp at hu
    | 2, hu => simp at hu
    | i + 3, hu => simp at hu
  exact ⟨b, off, ha, Nat.lt_of_lt_of_le hlt hb.size, fun i hi => (World.cell?_of_block (w := w) (a := ⟨b, off + i, none⟩) (hb.block b hlt hbg)).trans (hc i hi)⟩
theorem But.after {g : Nat} {w a b : World} (h : Below w.heap.size w a) (k : But g a b) : But g w b :=
  ⟨k.os.trans h.os, k.tape.trans h.tape, k.output.trans h.output, Nat.le_trans h.size k.size, fun i hi hg => (k.block i (Nat.lt_of_lt_of_le hi h.size) hg).trans (h.block i hi)⟩

set_option maxRecDepth 1000000 in
set_option maxHeartbeats 1000000 in
theorem rstrings_any (w : World) (g : Nat) (v : Value) (l : List UInt8) (at_ : Nat) (bad : Bool) (most : Int) (h : PR w g v l at_ bad) (hl : l.length ≤ 1000000) :
    Calls Try.prog 27 #[.pointer (some ⟨g, 0, none⟩), .int .i64 most] w (StrsPost w g v l at_ bad (rdL (restOf l at_ bad) most)) := by
  have H := Lib.hid h
  have hlt := h.lt
  have hle := h.1
  have c0 : w.cell? ⟨g, 0, none⟩ = some v := h.2.1.cell 0
  have c1 : w.cell? ⟨g, 1, none⟩ = some (.int .i64 (at_ : Nat)) := h.2.1.cell 1
  have c2 : w.cell? ⟨g, 2, none⟩ = some (.int .i64 (if bad then 4 else 0)) := h.2.1.cell 2
  obtain ⟨a, c, rfl⟩ := h.2.2.slice
  obtain ⟨x, hx⟩ : ∃ x : Int, (if bad then 4 else 0) = x := ⟨_, rfl⟩
  rw [hx] at c2
  have HX := Lib.hid hx
  have A1 : Hid (PR (w.alloc (.cells #[.slice a l.length c, .int .i64 (at_ : Nat), .int .i64 x] 58)) w.heap.size (.slice a l.length c) l at_ bad) := Lib.hid ⟨hle, by rw [← hx]; exact Blk.new _ _ _, h.2.2.alloc _⟩
  have G1 : Hid (PR (w.alloc (.cells #[.slice a l.length c, .int .i64 (at_ : Nat), .int .i64 x] 58)) g (.slice a l.length c) l at_ bad) := Lib.hid (h.below ((Below.refl _ _).alloc (Nat.le_refl _) _))
  obtain ⟨⟨n, k⟩, hp⟩ : ∃ p, rdB (restOf l at_ bad) 0 most = p := ⟨_, rfl⟩
  have HP := Lib.hid hp
  clear h hx hp
  go_enter Try.func27, Try.ntmps27
  go_wp2_with fail
  refine (bounded_any _ w.heap.size _ l at_ bad 0 most A1.out).mono ?_
  rw [HP.out]
  rintro e w2 ⟨rfl, a2, b2⟩
  have A2 := Lib.hid a2
  have B2 : Hid (Below w.heap.size w w2) := Lib.hid (((Below.refl _ w).alloc (Nat.le_refl _) _).trans (b2.below (Nat.le_refl _) (by simp)))
  have G2 := Lib.hid (G1.out.but (by omega) A1.out.2.1 (noByte3 A1.out.2.2) b2)
  have z2 := B2.out.size
  clear a2 b2 c0 c1 c2
  rcases Nat.eq_zero_or_pos k with hk0 | hk0
  · subst hk0
    have hn := rdB_zero HP.out
    subst hn
    have R := Lib.hid (rdL_none HP.out)
    have e0 : (bad || decide (0 = 0)) = true := by simp
    rw [e0] at A2
    clear e0
    go_wp2_with fail
    refine (list_zero _ w.heap.size _ l _ true _ A2.out).mono ?_
    rintro e w' ⟨rfl, m, rfl⟩
    have A3 := Lib.hid (A2.out.drewN m)
    have G3 := Lib.hid (G2.out.drewN m)
    have d2 : (w2.drewN m).cell? ⟨w.heap.size, 2, none⟩ = some (.int .i64 4) := A3.out.2.1.cell 2
    go_wp2_with fail
    refine (fail_any _ g _ l at_ bad G3.out).mono ?_
    rintro e w3 ⟨rfl, h3, h4⟩
    have Q := Lib.hid (And.intro h3 h4); clear h3 h4 d2
    go_wp2
    go_ret
    exact ⟨_, rfl, by rw [R.out]; exact rdT_nil _, by rw [R.out]; simpa using Q.out.1, But.after (below_drewN B2.out m) Q.out.2⟩
  · cases bad
    · obtain ⟨N, rfl, hI, hm⟩ := rdB_nat HP.out (by omega)
      obtain ⟨R, hR⟩ : ∃ R, rdA N (l.drop at_) k [] = R := ⟨_, rfl⟩
      have hrest : restOf l at_ false = l.drop at_ := rfl
      have HL := Lib.hid (show rdL (restOf l at_ false) most = R.getD ([], 0) by rw [rdL_go hI hk0 hm, hrest, hR])
      have e0 : (false || decide (k = 0)) = false := by rw [decide_eq_false (by omega)]; rfl
      rw [e0] at A2
      have HR := Lib.hid hR
      have HI := Lib.hid hI
      clear hI hR e0 hrest
      go_wp2_with fail
      refine (list_any _ w.heap.size _ l at_ k N R A2.out hl HR.out).mono ?_
      rintro e w3 ⟨y, rfl, b3, h3⟩
      have z3 := b3.size
      have B3 := Lib.hid (B2.out.trans (b3.below (Nat.le_refl _) z2))
      have G3 := Lib.hid (G2.out.but (by omega) A2.out.2.1 (noByte3 A2.out.2.2) b3)
      clear b3
      rcases h3 with ⟨hN, kk, p3⟩ | ⟨ls, kk, hS, p3, ht⟩
      · have HN := Lib.hid hN
        have d2 : w3.cell? ⟨w.heap.size, 2, none⟩ = some (.int .i64 4) := p3.2.1.cell 2
        clear p3 hN
        go_wp2_with fail
        refine (fail_any _ g _ l at_ false G3.out).mono ?_
        rintro e w4 ⟨rfl, h3, h4⟩
        have Q := Lib.hid (And.intro h3 h4); clear h3 h4 d2
        go_wp2
        go_ret
        refine ⟨_, rfl, by rw [HL.out, HN.out]; exact rdT_nil _, by rw [HL.out, HN.out]; simpa using Q.out.1, But.after B3.out Q.out.2⟩
      · have HS := Lib.hid hS
        have HT := Lib.hid ht
        have d2 : w3.cell? ⟨w.heap.size, 2, none⟩ = some (.int .i64 0) := p3.2.1.cell 2
        have d1 : w3.cell? ⟨w.heap.size, 1, none⟩ = some (.int .i64 ((at_ + kk : Nat) : Int)) := p3.2.1.cell 1
        have hkk := p3.1
        have f1 := G3.out.2.1.frozen 1
        have g1 : w3.cell? ⟨g, 1, none⟩ = some (.int .i64 (at_ : Nat)) := G3.out.2.1.cell 1
        have hpos : Hid (kk ≠ 0) := Lib.hid (by
          have h5 := HR.out
          rw [HS.out] at h5
          obtain ⟨_, _, _, _, _, _, h6⟩ := rdA_ok _ _ _ _ _ _ h5 (by
            have := (rdI_ok HI.out (by omega)).2.2.1
            exact this)
          omega)
        obtain ⟨tt, htt⟩ : ∃ tt : Int, ((at_ + kk : Nat) : Int) = tt := ⟨_, rfl⟩
        rw [htt] at d1
        have HTT := Lib.hid htt
        clear p3 hS ht htt
        go_wp2
        go_ret
        refine ⟨_, rfl, ?_, ?_, But.after B3.out (But.setCell _ _ _ _)⟩
        · rw [HL.out, HS.out]
          exact HT.out.but (v := .slice none 0 0) G3.out.2.1 (But.setCell _ _ _ _)
        · rw [HL.out, HS.out]
          have e1 : (false || decide (kk = 0)) = false := by rw [decide_eq_false hpos.out]; rfl
          show PR _ _ _ _ (at_ + kk) (false || decide (kk = 0))
          rw [e1]
          exact G3.out.setAt (at_ + kk) hkk _ HTT.out.symm
    · exfalso
      have h3 := HP.out
      have h4 : rdB (restOf l at_ true) 0 most = (0, 0) := rdB_out (n := 0) (k := 0) rfl (.inl rfl)
      rw [h4] at h3
      injection h3 with h5 h6
      omega
end Go.Proofs.Ytglllbodhdgahaa
