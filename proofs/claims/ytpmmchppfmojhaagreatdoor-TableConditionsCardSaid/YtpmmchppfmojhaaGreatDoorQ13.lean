/- What the row stands on, part 13. -/
import Derived.StillTail
import Derived.Test.YtpmmchppfmojhaaGreatDoorQ12

/- A region that draws its order, whose last operations stand in one order behind all others: first the head in whatever order, under a condition on the world that each of its steps keeps, then the tail in the text's order. -/
namespace Go.Proofs.YtpmmchppfmojhaaGreatDoor
set_option linter.unusedVariables false
section
variable {P : Program} {ops : Array Oper} {Q : Exit → Act → World → Prop} {md : Region.Mode} {S : World → Prop}
/-- The head, in whatever order; f: how many are left of it; L: what is asked behind it. -/
def wpHd (P : Program) (md : Region.Mode) (ops : Array Oper) (Q : Exit → Act → World → Prop) (S : World → Prop) (n : Nat) (L : Array Bool → Act → World → Prop) : Nat → Array Bool → Act → World → Prop
  | 0, listed, a, w => L listed a w
  | f + 1, listed, a, w => Region.ready md ops listed ≠ [] ∧ ∀ i ∈ Region.ready md ops listed, i < n ∧ wpOp P ops Q i (fun a' w' => S w' ∧ wpHd P md ops Q S n L f (listed.setIfInBounds i true) a' w') a w
theorem any_of_hd {n g : Nat} {L : Array Bool → Act → World → Prop} (hL : ∀ listed a w, L listed a w → wpAny P md ops Q g listed a w) :
    ∀ (f : Nat) (listed : Array Bool) (a : Act) (w : World), wpHd P md ops Q S n L f listed a w → wpAny P md ops Q (f + g) listed a w
  | 0, listed, a, w, h => by rw [Nat.zero_add]; exact hL _ _ _ h
  | f + 1, listed, a, w, h => by
    rw [show f + 1 + g = (f + g) + 1 by omega]
    exact ⟨fun h0 => absurd h0 h.1, fun i hi => wpOp_mono (fun a' w' h' => any_of_hd hL f _ a' w' h'.2) (h.2 i hi).2⟩
/-- What yields in every world that meets S may be taken first. -/
theorem hd_first {n i : Nat} {oi : Oper} {v : Value} {L : Array Bool → Act → World → Prop} (hi : ops[i]? = some oi) (hsel : ∀ (j : Nat) (o : Oper) cs b, ops[j]? = some o → o.op ≠ .select cs b)
    (hQ : ∀ c a w, Q (.panic c) (a.put oi.dst v) w → Q (.panic c) a w)
    (hs : Region.sinkB md ops n = true) (hc : Region.chainB md ops n = true) (hn : n < ops.size) (hin : i < n)
    (hdone : ∀ listed a w, L listed a w → ∀ j ∈ Region.ready md ops listed, n ≤ j) :
    ∀ (f : Nat) (listed : Array Bool) (a : Act) (w : World), HeadInv md ops n listed →
      (∀ j oj, ops[j]? = some oj → j ≠ i → listed.getD j true = false → (∀ e ∈ oj.after, Region.binds md e = true → e.on ≠ i) → oi.apart ops oj = true) →
      i ∈ Region.ready md ops listed → YieldsIf P ops S oi v a → S w →
      wpHd P md ops Q S n L f (listed.setIfInBounds i true) (a.put oi.dst v) w → wpHd P md ops Q S n L (f + 1) listed a w := by
  intro f
  induction f with
  | zero =>
    intro listed a w inv _ hr hy hS H
    have hun := (mem_ready.1 hr).1
    refine ⟨fun h => (by rw [h] at hr; cases hr), fun j hj => ?_⟩
    have hjn : j < n := by
      rcases Nat.lt_or_ge j n with h | h
      · exact h
      · exact absurd hj (tail_waits hs hc hn inv _ i rfl hin hun j h)
    refine ⟨hjn, ?_⟩
    by_cases hji : j = i
    · subst hji; exact hy.wpOp hi hS ⟨hS, H⟩
    · have := hdone _ _ _ H j (ready_mono hj hji)
      omega
  | succ f ih =>
    intro listed a w inv hfree hr hy hS H
    have hun := (mem_ready.1 hr).1
    refine ⟨fun h => (by rw [h] at hr; cases hr), fun j hj => ?_⟩
    have hjn : j < n := by
      rcases Nat.lt_or_ge j n with h | h
      · exact h
      · exact absurd hj (tail_waits hs hc hn inv _ i rfl hin hun j h)
    refine ⟨hjn, ?_⟩
    by_cases hji : j = i
    · subst hji; exact hy.wpOp hi hS ⟨hS, H⟩
    · have h1 := (H.2 j (ready_mono hj hji)).2
      obtain ⟨hjun, oj, hoj, hall⟩ := mem_ready.1 hj
      have hnot : ∀ e ∈ oj.after, Region.binds md e = true → e.on ≠ i := fun e he hb heq => by
        have h1 := hall e he hb
        rw [heq, getD_both hun] at h1
        cases h1
      have h2 := wpOp_putIf hoj (hfree j oj hoj hji hjun hnot) (fun cs b => hsel i oi cs b hi) (fun cs b => hsel j oj cs b hoj) hQ hy h1
      have hfree' : ∀ k ok, ops[k]? = some ok → k ≠ i → (listed.setIfInBounds j true).getD k true = false →
          (∀ e ∈ ok.after, Region.binds md e = true → e.on ≠ i) → oi.apart ops ok = true := fun k ok hk hki hun hno => by
        refine hfree k ok hk hki ?_ hno
        by_cases hjk : j = k
        · subst hjk; exact hjun
        · rw [getD_set_ne true hjk] at hun; exact hun
      refine wpOp_mono (fun a' w' h3 => ⟨h3.2.1, ih (listed.setIfInBounds j true) a' w' (inv.set hj hjn) hfree' (ready_mono hr (Ne.symm hji)) h3.1 h3.2.1 ?_⟩) h2
      rw [Array.setIfInBounds_comm _ _ hji]
      exact h3.2.2
/-- The head's walk, with what it knows of the list by itself. -/
def HdG (P : Program) (ops : Array Oper) (Q : Exit → Act → World → Prop) (S : World → Prop) (n : Nat) (t : List Oper) (f : Nat) (listed : Array Bool) (a : Act) (w : World) : Prop :=
  HeadInv .any ops n listed → wpHd P .any ops Q S n (fun listed a w => Region.seqB .any ops t.length n listed = true ∧ wpList P ops Q t a w) f listed a w
def hdB (ops : Array Oper) (n : Nat) : Bool := Region.noSelect ops && decide (n < ops.size) && Region.sinkB .any ops n && Region.chainB .any ops n
theorem hd_take {n : Nat} {t : List Oper} {f : Nat} {listed : Array Bool} {a : Act} {w : World} (i : Nat) (oi : Oper) (v : Value) (hi : ops[i]? = some oi)
    (hB : (hdB ops n && decide (i < n) && Region.free .any ops listed i && (Region.ready .any ops listed).contains i) = true)
    (hQ : ∀ c a w, Q (.panic c) (a.put oi.dst v) w → Q (.panic c) a w) (hy : YieldsIf P ops S oi v a) (hS : S w)
    (h : HdG P ops Q S n t f (listed.setIfInBounds i true) (a.put oi.dst v) w) : HdG P ops Q S n t (f + 1) listed a w := fun inv => by
  unfold hdB at hB
  simp only [Bool.and_eq_true, decide_eq_true_eq] at hB
  obtain ⟨⟨⟨⟨⟨⟨hsel, hn⟩, hs⟩, hc⟩, hin⟩, hf⟩, hr⟩ := hB
  have hr' : i ∈ Region.ready .any ops listed := by simpa using hr
  exact hd_first hi (Region.noSelect_spec hsel) hQ hs hc hn hin (fun listed a w hL => seqB_ready hL.1) f listed a w inv (Region.free_spec hi hf) hr' hy hS (h (inv.set hr' hin))
/-- .. where its result goes, written out. -/
theorem hd_taken {n : Nat} {t : List Oper} {f : Nat} {listed : Array Bool} {a : Act} {w : World} (i : Nat) (d : Option Tmp) (oi : Oper) (v : Value) (hi : ops[i]? = some oi) (hd : oi.dst = d)
    (hB : (hdB ops n && decide (i < n) && Region.free .any ops listed i && (Region.ready .any ops listed).contains i) = true)
    (hQ : ∀ c a w, Q (.panic c) (a.put d v) w → Q (.panic c) a w) (hy : YieldsIf P ops S oi v a) (hS : S w)
    (h : HdG P ops Q S n t f (listed.setIfInBounds i true) (a.put d v) w) : HdG P ops Q S n t (f + 1) listed a w := by
  subst hd
  exact hd_take i oi v hi hB hQ hy hS h
/-- One of those that may come up, written out. -/
theorem hd_step {n : Nat} {t : List Oper} {f : Nat} {listed : Array Bool} {a : Act} {w : World} {i : Nat} {oi : Oper} (hi : ops[i]? = some oi)
    (h : ∀ K' : Act → World → Prop, Shut (∀ a w, S w → HdG P ops Q S n t f (listed.setIfInBounds i true) a w → K' a w) → if Region.wanted oi (yielded ops a.tmps) = true then Oper.wp P oi a w K' Q else K' (a.put oi.dst undef) w)
    (inv : HeadInv .any ops n (listed.setIfInBounds i true)) :
    wpOp P ops Q i (fun a' w' => S w' ∧ wpHd P .any ops Q S n (fun listed a w => Region.seqB .any ops t.length n listed = true ∧ wpList P ops Q t a w) f (listed.setIfInBounds i true) a' w') a w :=
  wpOp_step hi (fun K hK => h K (fun a w hS hG => hK a w ⟨hS, hG inv⟩))
theorem hd_one {n : Nat} {t : List Oper} {f : Nat} {listed : Array Bool} {a : Act} {w : World} (i : Nat) (oi : Oper) (hi : ops[i]? = some oi) (hr : Region.ready .any ops listed = [i]) (hin : i < n)
    (h : ∀ K' : Act → World → Prop, Shut (∀ a w, S w → HdG P ops Q S n t f (listed.setIfInBounds i true) a w → K' a w) → if Region.wanted oi (yielded ops a.tmps) = true then Oper.wp P oi a w K' Q else K' (a.put oi.dst undef) w) : HdG P ops Q S n t (f + 1) listed a w := fun inv => by
  refine ⟨by rw [hr]; simp, fun j hj => ?_⟩
  have hj0 := hj
  rw [hr, List.mem_singleton] at hj
  subst hj
  exact ⟨hin, hd_step hi h (inv.set hj0 hin)⟩
theorem hd_two {n : Nat} {t : List Oper} {f : Nat} {listed : Array Bool} {a : Act} {w : World} (i k : Nat) (oi ok : Oper) (hi : ops[i]? = some oi) (hk : ops[k]? = some ok) (hr : Region.ready .any ops listed = [i, k]) (hin : i < n) (hkn : k < n)
    (h : ∀ K' : Act → World → Prop, Shut (∀ a w, S w → HdG P ops Q S n t f (listed.setIfInBounds i true) a w → K' a w) → if Region.wanted oi (yielded ops a.tmps) = true then Oper.wp P oi a w K' Q else K' (a.put oi.dst undef) w)
    (h2 : ∀ K' : Act → World → Prop, Shut (∀ a w, S w → HdG P ops Q S n t f (listed.setIfInBounds k true) a w → K' a w) → if Region.wanted ok (yielded ops a.tmps) = true then Oper.wp P ok a w K' Q else K' (a.put ok.dst undef) w) : HdG P ops Q S n t (f + 1) listed a w := fun inv => by
  refine ⟨by rw [hr]; simp, fun j hj => ?_⟩
  have hj0 := hj
  rw [hr] at hj
  rcases List.mem_cons.1 hj with rfl | hj
  · exact ⟨hin, hd_step hi h (inv.set hj0 hin)⟩
  · rw [List.mem_singleton] at hj
    subst hj
    exact ⟨hkn, hd_step hk h2 (inv.set hj0 hkn)⟩
theorem hd_done {n : Nat} {t : List Oper} {listed : Array Bool} {a : Act} {w : World} (hB : Region.seqB .any ops t.length n listed = true) (h : wpList P ops Q t a w) : HdG P ops Q S n t 0 listed a w := fun _ => ⟨hB, h⟩
theorem region_hd {id : Nat} {l : List Oper} {a : Act} {w : World} (n : Nat) (S : World → Prop) (hm : P.follows .mixedOrders = true) (hB : hdB l.toArray n = true)
    (h : HdG P l.toArray Q S n (l.drop n) n (Array.replicate l.length false) a w.drew) : (Code.region id l.toArray true).wp P Q a w := by
  have hB' := hB
  unfold hdB at hB'
  simp only [Bool.and_eq_true, decide_eq_true_eq] at hB'
  obtain ⟨⟨⟨hsel, hn⟩, hs⟩, hc⟩ := hB'
  have hn' : n < l.length := by simpa using hn
  refine wp_region_any hm ?_
  have inv0 : HeadInv .any l.toArray n (Array.replicate l.length false) :=
    ⟨by simp, fun j oj _ hl => (by rw [getD_replicate_false] at hl; cases hl), fun t _ ht => getD_in (by simpa using ht) (getD_replicate_false _ _)⟩
  have hlen : (l.drop n).length = l.length - n := by simp
  have := any_of_hd (g := (l.drop n).length) (fun listed a w hL => wpAny_of_seq (l.drop n) n listed a w (fun j => by simp) hL.1 hL.2) n _ a w.drew (h inv0)
  rw [hlen, show n + (l.length - n) = l.length by omega] at this
  rw [show l.toArray.size = l.length from by simp]
  exact this
end
end Go.Proofs.YtpmmchppfmojhaaGreatDoor


/- The laws LexemeTokens and LexemeSpell, given the program's functions. -/
namespace Go.Proofs.YtpmmchppfmojhaaGreatDoor
open Go.RowKit
set_option linter.unusedVariables false

theorem toksF_len : ∀ (f o : Nat) (s : List UInt8) (ts : List Tok), toksF f o s = .inr ts → ts.length ≤ s.length
  | 0, o, s, ts, h => by injection h with h; subst h; exact Nat.zero_le _
  | f + 1, o, s, ts, h => by
    rw [toksF] at h
    split at h
    · injection h with h; subst h; exact Nat.zero_le _
    · cases h1 : oneR (s.drop (skN false s)) with
      | bad d e => rw [h1] at h; cases h
      | tok kd tx n =>
        rw [h1] at h
        dsimp only at h
        have h2 := (oneR_ok h1).2
        have h3 : (s.drop (skN false s)).length = s.length - skN false s := List.length_drop
        have h4 : (s.drop (skN false s + n)).length = s.length - (skN false s + n) := List.length_drop
        cases h5 : toksF f (o + skN false s + n) (s.drop (skN false s + n)) with
        | inl e => rw [h5] at h; cases h
        | inr r =>
          rw [h5] at h
          injection h with h
          subst h
          have := toksF_len f _ _ r h5
          rw [List.length_cons]
          omega
theorem rT_len (s : List UInt8) : (rT (toks s)).1.length ≤ s.length := by
  cases h : toks s with
  | inl p => exact Nat.zero_le _
  | inr ts => exact toksF_len _ _ _ _ h
section
variable {EV : World → Prop} (C : LexC EV)
include C
end
end Go.Proofs.YtpmmchppfmojhaaGreatDoor


