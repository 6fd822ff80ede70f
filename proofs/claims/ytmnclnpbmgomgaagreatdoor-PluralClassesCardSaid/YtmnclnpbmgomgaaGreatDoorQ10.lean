/- What the row stands on, part 10. -/
import Derived.StillTail
import Derived.Test.YtmnclnpbmgomgaaGreatDoorQ9

/- A region that draws its order, whose last operations stand in one order behind all others: first the head in whatever order, under a condition on the world that each of its steps keeps, then the tail in the text's order. -/
namespace Go.Proofs.YtmnclnpbmgomgaaGreatDoor
set_option linter.unusedVariables false
section
variable {P : Program} {ops : Array Oper} {Q : Exit → Act → World → Prop} {md : Region.Mode} {S : World → Prop}
/-- The head, in whatever order; f: how many are left of it; L: what is asked behind it. -/
def wpHd (P : Program) (md : Region.Mode) (ops : Array Oper) (Q : Exit → Act → World → Prop) (S : World → Prop) (n : Nat) (L : Array Bool → Act → World → Prop) : Nat → Array Bool → Act → World → Prop
  | 0, listed, a, w => L listed a w
  | f + 1, listed, a, w => Region.ready md ops listed ≠ [] ∧ ∀ i ∈ Region.ready md ops listed, i < n ∧ wpOp P ops Q i (fun a' w' => S w' ∧ wpHd P md ops Q S n L f (listed.setIfInBounds i true) a' w') a w
theorem any_of_hd {n g : Nat} {L : Array Bool → Act → World → Prop} (hL : ∀ listed a w, L listed a w → wpAny P md ops Q g listed a w) :
    ∀ (f : Nat) (listed : Array Bool) (a : Act) (w : World), wpHd P md ops Q S n L f listed a w → wpAny P md ops Q (f + g) listed a w
  | 0, listed, a, w, h => by rw [Nat.zero_add]; exact hL _ _ _ h
  | f + 1, listed, a, w, h => by
    rw [show f + 1 + g = (f + g) + 1 by omega]
    exact ⟨fun h0 => absurd h0 h.1, fun i hi => wpOp_mono (fun a' w' h' => any_of_hd hL f _ a' w' h'.2) (h.2 i hi).2⟩
/-- What yields in every world that meets S may be taken first. -/
theorem hd_first {n i : Nat} {oi : Oper} {v : Value} {L : Array Bool → Act → World → Prop} (hi : ops[i]? = some oi) (hsel : ∀ (j : Nat) (o : Oper) cs b, ops[j]? = some o → o.op ≠ .select cs b)
    (hQ : ∀ c a w, Q (.panic c) (a.put oi.dst v) w → Q (.panic c) a w)
    (hs : Region.sinkB md ops n = true) (hc : Region.chainB md ops n = true) (hn : n < ops.size) (hin : i < n)
    (hdone : ∀ listed a w, L listed a w → ∀ j ∈ Region.ready md ops listed, n ≤ j) :
    ∀ (f : Nat) (listed : Array Bool) (a : Act) (w : World), HeadInv md ops n listed →
      (∀ j oj, ops[j]? = some oj → j ≠ i → listed.getD j true = false → (∀ e ∈ oj.after, Region.binds md e = true → e.on ≠ i) → oi.apart ops oj = true) →
      i ∈ Region.ready md ops listed → YieldsIf P ops S oi v a → S w →
      wpHd P md ops Q S n L f (listed.setIfInBounds i true) (a.put oi.dst v) w → wpHd P md ops Q S n L (f + 1) listed a w := by
  intro f
  induction f with
  | zero =>
    intro listed a w inv _ hr hy hS H
    have hun := (mem_ready.1 hr).1
    refine ⟨fun h => (by rw [h] at hr; cases hr), fun j hj => ?_⟩
    have hjn : j < n := by
      rcases Nat.lt_or_ge j n with h | h
      · exact h
      · exact absurd hj (tail_waits hs hc hn inv _ i rfl hin hun j h)
    refine ⟨hjn, ?_⟩
    by_cases hji : j = i
    · subst hji; exact hy.wpOp hi hS ⟨hS, H⟩
    · have := hdone _ _ _ H j (ready_mono hj hji)
      omega
  | succ f ih =>
    intro listed a w inv hfree hr hy hS H
    have hun := (mem_ready.1 hr).1
    refine ⟨fun h => (by rw [h] at hr; cases hr), fun j hj => ?_⟩
    have hjn : j < n := by
      rcases Nat.lt_or_ge j n with h | h
      · exact h
      · exact absurd hj (tail_waits hs hc hn inv _ i rfl hin hun j h)
    refine ⟨hjn, ?_⟩
    by_cases hji : j = i
    · subst hji; exact hy.wpOp hi hS ⟨hS, H⟩
    · have h1 := (H.2 j (ready_mono hj hji)).2
      obtain ⟨hjun, oj, hoj, hall⟩ := mem_ready.1 hj
      have hnot : ∀ e ∈ oj.after, Region.binds md e = true → e.on ≠ i := fun e he hb heq => by
        have h1 := hall e he hb
        rw [heq, getD_both hun] at h1
        cases h1
      have h2 := wpOp_putIf hoj (hfree j oj hoj hji hjun hnot) (fun cs b => hsel i oi cs b hi) (fun cs b => hsel j oj cs b hoj) hQ hy h1
      have hfree' : ∀ k ok, ops[k]? = some ok → k ≠ i → (listed.setIfInBounds j true).getD k true = false →
          (∀ e ∈ ok.after, Region.binds md e = true → e.on ≠ i) → oi.apart ops ok = true := fun k ok hk hki hun hno => by
        refine hfree k ok hk hki ?_ hno
        by_cases hjk : j = k
        · subst hjk; exact hjun
        · rw [getD_set_ne true hjk] at hun; exact hun
      refine wpOp_mono (fun a' w' h3 => ⟨h3.2.1, ih (listed.setIfInBounds j true) a' w' (inv.set hj hjn) hfree' (ready_mono hr (Ne.symm hji)) h3.1 h3.2.1 ?_⟩) h2
      rw [Array.setIfInBounds_comm _ _ hji]
      exact h3.2.2
/-- The head's walk, with what it knows of the list by itself. -/
def HdG (P : Program) (ops : Array Oper) (Q : Exit → Act → World → Prop) (S : World → Prop) (n : Nat) (t : List Oper) (f : Nat) (listed : Array Bool) (a : Act) (w : World) : Prop :=
  HeadInv .any ops n listed → wpHd P .any ops Q S n (fun listed a w => Region.seqB .any ops t.length n listed = true ∧ wpList P ops Q t a w) f listed a w
def hdB (ops : Array Oper) (n : Nat) : Bool := Region.noSelect ops && decide (n < ops.size) && Region.sinkB .any ops n && Region.chainB .any ops n
theorem hd_take {n : Nat} {t : List Oper} {f : Nat} {listed : Array Bool} {a : Act} {w : World} (i : Nat) (oi : Oper) (v : Value) (hi : ops[i]? = some oi)
    (hB : (hdB ops n && decide (i < n) && Region.free .any ops listed i && (Region.ready .any ops listed).contains i) = true)
    (hQ : ∀ c a w, Q (.panic c) (a.put oi.dst v) w → Q (.panic c) a w) (hy : YieldsIf P ops S oi v a) (hS : S w)
    (h : HdG P ops Q S n t f (listed.setIfInBounds i true) (a.put oi.dst v) w) : HdG P ops Q S n t (f + 1) listed a w := fun inv => by
  unfold hdB at hB
  simp only [Bool.and_eq_true, decide_eq_true_eq] at hB
  obtain ⟨⟨⟨⟨⟨⟨hsel, hn⟩, hs⟩, hc⟩, hin⟩, hf⟩, hr⟩ := hB
  have hr' : i ∈ Region.ready .any ops listed := by simpa using hr
  exact hd_first hi (Region.noSelect_spec hsel) hQ hs hc hn hin (fun listed a w hL => seqB_ready hL.1) f listed a w inv (Region.free_spec hi hf) hr' hy hS (h (inv.set hr' hin))
/-- .. where its result goes, written out. -/
theorem hd_taken {n : Nat} {t : List Oper} {f : Nat} {listed : Array Bool} {a : Act} {w : World} (i : Nat) (d : Option Tmp) (oi : Oper) (v : Value) (hi : ops[i]? = some oi) (hd : oi.dst = d)
    (hB : (hdB ops n && decide (i < n) && Region.free .any ops listed i && (Region.ready .any ops listed).contains i) = true)
    (hQ : ∀ c a w, Q (.panic c) (a.put d v) w → Q (.panic c) a w) (hy : YieldsIf P ops S oi v a) (hS : S w)
    (h : HdG P ops Q S n t f (listed.setIfInBounds i true) (a.put d v) w) : HdG P ops Q S n t (f + 1) listed a w := by
  subst hd
  exact hd_take i oi v hi hB hQ hy hS h
/-- One of those that may come up, written out. -/
theorem hd_step {n : Nat} {t : List Oper} {f : Nat} {listed : Array Bool} {a : Act} {w : World} {i : Nat} {oi : Oper} (hi : ops[i]? = some oi)
    (h : ∀ K' : Act → World → Prop, Shut (∀ a w, S w → HdG P ops Q S n t f (listed.setIfInBounds i true) a w → K' a w) → if Region.wanted oi (yielded ops a.tmps) = true then Oper.wp P oi a w K' Q else K' (a.put oi.dst undef) w)
    (inv : HeadInv .any ops n (listed.setIfInBounds i true)) :
    wpOp P ops Q i (fun a' w' => S w' ∧ wpHd P .any ops Q S n (fun listed a w => Region.seqB .any ops t.length n listed = true ∧ wpList P ops Q t a w) f (listed.setIfInBounds i true) a' w') a w :=
  wpOp_step hi (fun K hK => h K (fun a w hS hG => hK a w ⟨hS, hG inv⟩))
theorem hd_one {n : Nat} {t : List Oper} {f : Nat} {listed : Array Bool} {a : Act} {w : World} (i : Nat) (oi : Oper) (hi : ops[i]? = some oi) (hr : Region.ready .any ops listed = [i]) (hin : i < n)
    (h : ∀ K' : Act → World → Prop, Shut (∀ a w, S w → HdG P ops Q S n t f (listed.setIfInBounds i true) a w → K' a w) → if Region.wanted oi (yielded ops a.tmps) = true then Oper.wp P oi a w K' Q else K' (a.put oi.dst undef) w) : HdG P ops Q S n t (f + 1) listed a w := fun inv => by
  refine ⟨by rw [hr]; simp, fun j hj => ?_⟩
  have hj0 := hj
  rw [hr, List.mem_singleton] at hj
  subst hj
  exact ⟨hin, hd_step hi h (inv.set hj0 hin)⟩
theorem hd_done {n : Nat} {t : List Oper} {listed : Array Bool} {a : Act} {w : World} (hB : Region.seqB .any ops t.length n listed = true) (h : wpList P ops Q t a w) : HdG P ops Q S n t 0 listed a w := fun _ => ⟨hB, h⟩
theorem region_hd {id : Nat} {l : List Oper} {a : Act} {w : World} (n : Nat) (S : World → Prop) (hm : P.follows .mixedOrders = true) (hB : hdB l.toArray n = true)
    (h : HdG P l.toArray Q S n (l.drop n) n (Array.replicate l.length false) a w.drew) : (Code.region id l.toArray true).wp P Q a w := by
  have hB' := hB
  unfold hdB at hB'
  simp only [Bool.and_eq_true, decide_eq_true_eq] at hB'
  obtain ⟨⟨⟨hsel, hn⟩, hs⟩, hc⟩ := hB'
  have hn' : n < l.length := by simpa using hn
  refine wp_region_any hm ?_
  have inv0 : HeadInv .any l.toArray n (Array.replicate l.length false) :=
    ⟨by simp, fun j oj _ hl => (by rw [getD_replicate_false] at hl; cases hl), fun t _ ht => getD_in (by simpa using ht) (getD_replicate_false _ _)⟩
  have hlen : (l.drop n).length = l.length - n := by simp
  have := any_of_hd (g := (l.drop n).length) (fun listed a w hL => wpAny_of_seq (l.drop n) n listed a w (fun j => by simp) hL.1 hL.2) n _ a w.drew (h inv0)
  rw [hlen, show n + (l.length - n) = l.length by omega] at this
  rw [show l.toArray.size = l.length from by simp]
  exact this
end
end Go.Proofs.YtmnclnpbmgomgaaGreatDoor


/- Of the reference of layer 10: vector. -/
namespace Go.Proofs.YtmnclnpbmgomgaaGreatDoor
open Go.RowKit
set_option linter.unusedVariables false

def bitC (b : Bool) : UInt8 := if b = true then 49 else 48
def bitsOf (l : List Bool) : Str := l.map bitC
theorem bitC_inj {a b : Bool} (h : bitC a = bitC b) : a = b := by revert h; cases a <;> cases b <;> decide
theorem bitsOf_inj : ∀ {a b : List Bool}, bitsOf a = bitsOf b → a = b
  | [], [], _ => rfl
  | [], _ :: _, h => by cases h
  | _ :: _, [], h => by cases h
  | x :: a, y :: b, h => by
    have h : bitC x :: bitsOf a = bitC y :: bitsOf b := h
    injection h with h1 h2
    rw [bitC_inj h1, bitsOf_inj h2]
theorem bitsOf_len (l : List Bool) : (bitsOf l).length = l.length := List.length_map _
def vecS (l : List Rel) (s : Str) (first : Bool) : Str := bitsOf ((l.filter fun r => isWh r == first).map (hldR s))
theorem vecS_take {l : List Rel} {s : Str} {first : Bool} {k : Nat} (h : k < l.length) : vecS (l.take (k + 1)) s first = vecS (l.take k) s first ++ (if isWh l[k] = first then [bitC (hldR s l[k])] else []) := by
  unfold vecS bitsOf
  rw [List.take_succ_eq_append_getElem h, List.filter_append, List.map_append, List.map_append, List.filter_cons, List.filter_nil]
  congr 1
  by_cases e : isWh l[k] = first
  · rw [if_pos (by rw [e]; exact beq_self_eq_true first), if_pos e]; rfl
  · rw [if_neg (by rw [beq_iff_eq]; exact e), if_neg e]; rfl
theorem vecS_len (l : List Rel) (s : Str) (first : Bool) : (vecS l s first).length ≤ l.length := by
  unfold vecS
  rw [bitsOf_len, List.length_map]
  exact List.length_filter_le _ _
theorem add_bit {P : Program} {x : Str} (h : x.length ≤ 1000000) (wx : World) : (Op.stringOp .add (ofL x) ⟨#[49]⟩).run P wx = .ok (.string (ofL (x ++ [49]))) wx ∧ (Op.stringOp .add (ofL x) ⟨#[48]⟩).run P wx = .ok (.string (ofL (x ++ [48]))) wx :=
  ⟨str_add (y := [49]) (by rw [List.length_singleton]; omega) rfl wx, str_add (y := [48]) (by rw [List.length_singleton]; omega) rfl wx⟩
set_option maxRecDepth 1000000 in
set_option maxHeartbeats 4000000 in
theorem vector_any (v : Value) (l : List Rel) (hl : ∀ r ∈ l, OkR r) (hn : l.length ≤ 1000) (s : ByteArray) (hs : s.size ≤ 9223372036854775807) (first : Bool) (w : World) (hv : RdRels w v l) :
    Calls Tryz.prog 147 #[v, .string s, .bool first] w fun e w' => e = .returned (.string (ofL (vecS l s.data.toList first))) ∧ Below w.heap.size w w' := by
  obtain ⟨a, cp, rfl, hc1, hc2⟩ := hv.slice
  have HU := Lib.hid hv
  have HL := Lib.hid hl
  have HNN := Lib.hid hn
  have HSS := Lib.hid hs
  clear hv hl hn hs
  go_enter Tryz.func147, Tryz.ntmps147
  go_wp2_with fail
  go_loopw [7, 8] (fun v7 v8 wr => ∃ k : Nat, k ≤ l.length ∧ v8 = .int .i64 k ∧ v7 = .string (ofL (vecS (l.take k) s.data.toList first)) ∧ Below w.heap.size w wr) (fun _ v8 _ => l.length - (intOf v8).toNat)
  case atStart => exact ⟨0, Nat.zero_le _, rfl, rfl, Below.refl _ _⟩
  case round =>
    rename World => w1
    obtain ⟨k, hk, rfl, rfl, hb⟩ := hrel
    have HB := Lib.hid hb
    have hXl := vecS_len (l.take k) s.data.toList first
    rw [List.length_take] at hXl
    clear hb
    obtain ⟨X, hX⟩ : ∃ X, vecS (l.take k) s.data.toList first = X := ⟨_, rfl⟩
    have HX := Lib.hid hX
    rw [hX] at hXl ⊢
    have HXL : Hid (X.length ≤ 1000000) := Lib.hid (by have := HNN.out; omega)
    clear hX hXl
    by_cases hlt : k < l.length
    · have HST := Lib.hid (vecS_take (s := s.data.toList) (first := first) hlt)
      obtain ⟨b, off, x1, x2, rfl, e0, e1, e2, e3, e4⟩ := (HU.out.below HB.out).at_ k hlt
      have HOK := Lib.hid (HL.out _ (List.getElem_mem hlt))
      obtain ⟨r, hr⟩ : ∃ r, l[k] = r := ⟨_, rfl⟩
      have HRE := Lib.hid hr
      rw [hr] at e0 e1 e2 e3 e4 HST HOK
      have h9 : (k : Int) < (l.length : Int) := by omega
      have HWH := Lib.hid (whole_any r x1 x2 w1)
      clear hr e4
      go_wp2_with fail
      refine HWH.out.mono ?_
      rintro e w2 ⟨rfl, b2⟩
      have HB2 := Lib.hid (st HB.out b2 HB.out.size)
      clear b2 e0 e1 e2 e3 HWH
      cases hq : (isWh r == first) with
      | false =>
        have hne : ¬ isWh r = first := by rw [← beq_iff_eq, hq]; decide
        have t1 : (isWh r != first) = true := by rw [bne, hq]; rfl
        have HG : Hid (vecS (l.take (k + 1)) s.data.toList first = X) := Lib.hid (by rw [HST.out, if_neg hne, HX.out, List.append_nil])
        obtain ⟨q, hqq⟩ : ∃ q, isWh r = q := ⟨_, rfl⟩
        rw [hqq] at t1 ⊢
        clear hq hne hqq
        cases q <;> cases first
        all_goals first | (exfalso; revert t1; decide) | skip
        all_goals (
          clear t1
          go_wp2
          go_roundw
          case measure => simp [intOf]; omega
          case rel => exact ⟨k + 1, by omega, by go_num, by rw [HG.out], HB2.out⟩)
      | true =>
        have he : isWh r = first := beq_iff_eq.1 hq
        obtain ⟨b', off', y1, y2, hba, e0, e1, e2, e3, e4⟩ := (HU.out.below HB2.out).at_ k hlt
        cases hba
        rw [HRE.out] at e0 e1 e2 e3 e4
        have HRL := Lib.hid (relation_any r y1 y2 s HSS.out (okMod_le HOK.out.md) w2 e4)
        have HG0 : Hid (vecS (l.take (k + 1)) s.data.toList first = X ++ [bitC (hldR s.data.toList r)]) := Lib.hid (by rw [HST.out, if_pos he, HX.out])
        rw [he]
        clear hq he e4
        cases first
        all_goals (
          go_wp2_with fail
          refine HRL.out.mono ?_
          rintro e w3 ⟨rfl, b3⟩
          have HB3 := Lib.hid (st HB2.out b3 HB2.out.size)
          clear b3 e0 e1 e2 e3 HRL
          obtain ⟨z, hz⟩ : ∃ z, hldR s.data.toList r = z := ⟨_, rfl⟩
          rw [hz] at HG0 ⊢
          clear hz
          cases z
          · have HG := HG0
            have p1 : ∀ wx, (Op.stringOp .add (ofL X) ⟨#[48]⟩).run Tryz.prog wx = .ok (.string (ofL (X ++ [48]))) wx := fun wx => (add_bit HXL.out wx).2
            obtain ⟨Y, hY⟩ : ∃ Y, X ++ [48] = Y := ⟨_, rfl⟩
            have HY : Hid (X ++ [bitC false] = Y) := Lib.hid hY
            rw [hY] at p1
            clear hY
            go_wp2
            go_roundw
            case measure => simp [intOf]; omega
            case rel => exact ⟨k + 1, by omega, by go_num, by rw [HG.out, HY.out], HB3.out⟩
          · have HG := HG0
            have p1 : ∀ wx, (Op.stringOp .add (ofL X) ⟨#[49]⟩).run Tryz.prog wx = .ok (.string (ofL (X ++ [49]))) wx := fun wx => (add_bit HXL.out wx).1
            obtain ⟨Y, hY⟩ : ∃ Y, X ++ [49] = Y := ⟨_, rfl⟩
            have HY : Hid (X ++ [bitC true] = Y) := Lib.hid hY
            rw [hY] at p1
            clear hY
            go_wp2
            go_roundw
            case measure => simp [intOf]; omega
            case rel => exact ⟨k + 1, by omega, by go_num, by rw [HG.out, HY.out], HB3.out⟩)
    · obtain rfl : k = l.length := by omega
      have h3 : ¬ (l.length : Int) < (l.length : Int) := by omega
      have HG : Hid (vecS l s.data.toList first = X) := Lib.hid (by rw [← HX.out, List.take_length])
      go_wp2
      go_ret
      exact ⟨by rw [HG.out]; rfl, HB.out⟩
end Go.Proofs.YtmnclnpbmgomgaaGreatDoor


/- Of the reference of layer 10: place, padded. -/
namespace Go.Proofs.YtmnclnpbmgomgaaGreatDoor
open Go.RowKit
set_option linter.unusedVariables false

/-- The place of a string in a list, or -1. -/
def plc (l : List Str) (s : Str) : Int := if l.findIdx (fun x => x == s) < l.length then (l.findIdx (fun x => x == s) : Int) else -1
theorem plc_hit {l : List Str} {s : Str} {k : Nat} (h : k < l.length) (e : l[k] = s) (hb : ∀ (j : Nat) (hj : j < l.length), j < k → l[j] ≠ s) : plc l s = k := by
  have : l.findIdx (fun x => x == s) = k := by
    rw [List.findIdx_eq h]
    exact ⟨by rw [e]; exact beq_self_eq_true s, fun j hj => by rw [beq_eq_false_iff_ne]; exact hb j (by omega) hj⟩
  unfold plc
  rw [this, if_pos h]
theorem plc_miss {l : List Str} {s : Str} (hb : ∀ (j : Nat) (hj : j < l.length), l[j] ≠ s) : plc l s = -1 := by
  unfold plc
  rw [if_neg]
  intro h
  have := List.findIdx_getElem (w := h)
  rw [beq_iff_eq] at this
  exact hb _ h this
set_option maxRecDepth 1000000 in
set_option maxHeartbeats 4000000 in
theorem place_any (v : Value) (l : List Str) (s : Str) (w : World) (hv : Rd 1 encT w v l) :
    Calls Tryz.prog 149 #[v, .string (ofL s)] w fun e w' => e = .returned (.int .i64 (plc l s)) ∧ w' = w := by
  obtain ⟨a, cp, rfl, hc1, hc2⟩ := hv.slice
  have HU := Lib.hid hv
  clear hv
  go_enter Tryz.func149, Tryz.ntmps149
  go_wp2_with fail
  go_loopw [5] (fun v5 wr => ∃ k : Nat, k ≤ l.length ∧ v5 = .int .i64 k ∧ (∀ (j : Nat) (hj : j < l.length), j < k → l[j] ≠ s) ∧ wr = w) (fun v5 _ => l.length - (intOf v5).toNat)
  case atStart => exact ⟨0, Nat.zero_le _, rfl, fun j _ h => by omega, rfl⟩
  case round =>
    obtain ⟨k, hk, rfl, hkd, hw⟩ := hrel
    obtain rfl := hw.symm
    have HK := Lib.hid hkd
    clear hkd
    by_cases hlt : k < l.length
    · obtain ⟨b, off, rfl, e0⟩ := HU.out.str k hlt
      have h9 : (k : Int) < (l.length : Int) := by omega
      obtain ⟨x, hx⟩ : ∃ x, l[k] = x := ⟨_, rfl⟩
      have HX := Lib.hid hx
      rw [hx] at e0
      clear hx
      by_cases hxs : x = s
      · have t1 : ((ofL x).toList == (ofL s).toList) = true := by rw [hxs]; exact beq_self_eq_true _
        have HP : Hid (plc l s = k) := Lib.hid (plc_hit hlt (by rw [HX.out, hxs]) HK.out)
        go_wp2
        go_ret
        exact ⟨by rw [HP.out]; rfl, rfl⟩
      · have t1 := (str_ne hxs).1
        go_wp2
        go_roundw
        case measure => simp [intOf]; omega
        case rel => exact ⟨k + 1, by omega, by go_num, fun j hj hjk => by
          rcases Nat.lt_or_ge j k with h | h
          · exact HK.out j hj h
          · obtain rfl : j = k := by omega
            rw [HX.out]; exact hxs, (by first | rfl | trivial)⟩
    · obtain rfl : k = l.length := by omega
      have h3 : ¬ (l.length : Int) < (l.length : Int) := by omega
      have HP : Hid (plc l s = -1) := Lib.hid (plc_miss fun j hj => HK.out j hj hj)
      go_wp2
      go_ret
      exact ⟨by rw [HP.out]; rfl, rfl⟩
theorem zs_cons (n : Nat) : 48 :: zs n = zs (n + 1) := by unfold zs; rw [List.replicate_succ]
theorem zs_front (n : Nat) (x : Str) : [48] ++ (zs n ++ x) = zs (n + 1) ++ x := by rw [← zs_cons]; rfl
/-- Digits with zeros at both ends. -/
def pdS (n width k : Nat) : Str := zs (width - (dtx n).length) ++ dtx n ++ zs k
set_option maxRecDepth 1000000 in
set_option maxHeartbeats 4000000 in
theorem padded_any (n width k : Nat) (hn : n < 1000) (hw : width ≤ 1000) (hk : k ≤ 1000) (w : World) :
    Calls Tryz.prog 150 #[.int .i64 n, .int .i64 width, .int .i64 k] w fun e w' => e = .returned (.string (ofL (pdS n width k))) ∧ Below w.heap.size w w' := by
  have HD := Lib.hid (dec_any n hn w)
  have hdl := dtx_len n
  obtain ⟨D, hD⟩ : ∃ D, dtx n = D := ⟨_, rfl⟩
  have HDE := Lib.hid hD
  rw [hD] at HD hdl
  have HDL := Lib.hid hdl
  clear hD hdl
  go_enter Tryz.func150, Tryz.ntmps150
  go_wp2_with fail
  refine HD.out.mono ?_
  rintro e w1 ⟨rfl, b1⟩
  have HB1 := Lib.hid b1
  clear b1 HD
  go_wp2_with fail
  go_loopw [7] (fun v7 wr => ∃ j : Nat, (j = 0 ∨ D.length + j ≤ width) ∧ v7 = .string (ofL (zs j ++ D)) ∧ wr = w1) (fun v7 _ => width - (match v7 with | .string s => s.size | _ => 0))
  case atStart => exact ⟨0, .inl rfl, rfl, rfl⟩
  case round =>
    obtain ⟨j, hj, rfl, hw1⟩ := hrel
    obtain rfl := hw1.symm
    have hjl : (zs j ++ D).length = j + D.length := by rw [List.length_append, zs_len]
    have HJL := Lib.hid hjl
    have hd1 := HDL.out.1
    have hd2 := HDL.out.2
    have hsz : ((ofL (zs j ++ D)).size : Int) = ((j + D.length : Nat) : Int) := by rw [ofL_size, hjl]
    by_cases hlt : j + D.length < width
    · have h9 : ((j + D.length : Nat) : Int) < (width : Int) := by omega
      have p1 : ∀ wx, (Op.stringOp .add ⟨#[48]⟩ (ofL (zs j ++ D))).run Tryz.prog wx = .ok (.string (ofL (zs (j + 1) ++ D))) wx := fun wx => str_add (x := [48]) (by rw [hjl, List.length_singleton]; omega) (zs_front j D) wx
      obtain ⟨X, hX⟩ : ∃ X, zs j ++ D = X := ⟨_, rfl⟩
      obtain ⟨Y, hY⟩ : ∃ Y, zs (j + 1) ++ D = Y := ⟨_, rfl⟩
      have HY := Lib.hid hY
      have HYL : Hid ((ofL Y).size = (ofL X).size + 1) := Lib.hid (by rw [← hX, ← hY, ofL_size, ofL_size, List.length_append, List.length_append, zs_len, zs_len]; omega)
      have HXL : Hid ((ofL X).size = j + D.length) := Lib.hid (by rw [ofL_size, ← hX, hjl])
      rw [hX] at hsz p1 ⊢
      rw [hY] at p1
      clear hX hY hjl HJL
      go_wp2
      go_roundw
      case measure => (have h1 := HYL.out; have h2 := HXL.out; simp; omega)
      case rel => exact ⟨j + 1, .inr (by omega), by rw [HY.out], (by first | rfl | trivial)⟩
    · have h9 : ¬ ((j + D.length : Nat) : Int) < (width : Int) := by omega
      have hje : j = width - D.length := by omega
      obtain ⟨X, hX⟩ : ∃ X, zs j ++ D = X := ⟨_, rfl⟩
      have HX : Hid (zs (width - D.length) ++ D = X) := Lib.hid (by rw [← hje]; exact hX)
      have HXL : Hid (X.length ≤ 2000) := Lib.hid (by rw [← hX, hjl]; omega)
      rw [hX] at hsz ⊢
      clear hX hjl HJL hj hje
      go_wp2
      go_loopw [7, 8] (fun v7 v8 wr => ∃ i : Nat, i ≤ k ∧ v8 = .int .i64 i ∧ v7 = .string (ofL (X ++ zs i)) ∧ wr = w1) (fun _ v8 _ => k - (intOf v8).toNat)
      case atStart => exact ⟨0, Nat.zero_le _, rfl, by rw [zs_zero, List.append_nil], rfl⟩
      case round =>
        obtain ⟨i, hi, rfl, rfl, hw2⟩ := hrel
        obtain rfl := hw2.symm
        by_cases hik : i < k
        · have h9' : (i : Int) < (k : Int) := by omega
          have p1 : ∀ wx, (Op.stringOp .add (ofL (X ++ zs i)) ⟨#[48]⟩).run Tryz.prog wx = .ok (.string (ofL (X ++ zs (i + 1)))) wx := fun wx => str_add (y := [48]) (by rw [List.length_append, zs_len, List.length_singleton]; have := HXL.out; omega) (by rw [zs_succ, List.append_assoc]) wx
          obtain ⟨Z, hZ⟩ : ∃ Z, X ++ zs i = Z := ⟨_, rfl⟩
          obtain ⟨Y, hY⟩ : ∃ Y, X ++ zs (i + 1) = Y := ⟨_, rfl⟩
          have HY := Lib.hid hY
          rw [hZ] at p1 ⊢
          rw [hY] at p1
          clear hZ hY
          go_wp2
          go_roundw
          case measure => simp [intOf]; omega
          case rel => exact ⟨i + 1, by omega, by go_num, by rw [HY.out], (by first | rfl | trivial)⟩
        · obtain rfl : i = k := by omega
          have h3 : ¬ (i : Int) < (i : Int) := by omega
          have HP : Hid (pdS n width i = X ++ zs i) := Lib.hid (by unfold pdS; rw [HDE.out, HX.out])
          obtain ⟨Z, hZ⟩ : ∃ Z, X ++ zs i = Z := ⟨_, rfl⟩
          rw [hZ] at HP ⊢
          clear hZ
          go_wp2
          go_ret
          exact ⟨by rw [HP.out]; rfl, HB1.out⟩
end Go.Proofs.YtmnclnpbmgomgaaGreatDoor


/- Of the reference of layer 10: Before. -/
namespace Go.Proofs.YtmnclnpbmgomgaaGreatDoor
open Go.RowKit
set_option linter.unusedVariables false

theorem lexW_pre : ∀ (u v v' : List Nat), lexW (u ++ v) (u ++ v') ↔ lexW v v'
  | [], v, v' => Iff.rfl
  | a :: u, v, v' => by
    show a < a ∨ (a = a ∧ lexW (u ++ v) (u ++ v')) ↔ _
    rw [lexW_pre u v v']
    constructor
    · rintro (h | ⟨_, h⟩)
      · omega
      · exact h
    · intro h; exact .inr ⟨rfl, h⟩
theorem split_at {α : Type} {l : List α} {k : Nat} (h : k < l.length) : l = l.take k ++ l[k] :: l.drop (k + 1) := by
  rw [List.getElem_cons_drop, List.take_append_drop]
theorem befB_at {a b : Str} {k : Nat} (hl : a.length = b.length) (h1 : k < a.length) (h2 : k < b.length) (hp : a.take k = b.take k) (hne : sy0 a[k] ≠ sy0 b[k]) : befB a b = decide (sy0 a[k] < sy0 b[k]) := by
  have e : ∀ {s : Str} (h : k < s.length), wd0 s = wd0 (s.take k) ++ sy0 s[k] :: wd0 (s.drop (k + 1)) := fun {s} h => by
    conv => lhs; rw [split_at h]
    unfold wd0
    rw [List.map_append, List.map_cons]
  have : befB a b = true ↔ sy0 a[k] < sy0 b[k] := by
    rw [befB_iff]
    unfold befS bef
    rw [wd0_len, wd0_len, e h1, e h2, hp, lexW_pre]
    show a.length < b.length ∨ (a.length = b.length ∧ (sy0 a[k] < sy0 b[k] ∨ (sy0 a[k] = sy0 b[k] ∧ _))) ↔ _
    constructor
    · rintro (h | ⟨_, h | ⟨h, _⟩⟩)
      · omega
      · exact h
      · exact absurd h hne
    · intro h
      exact .inr ⟨hl, .inl h⟩
  by_cases h : sy0 a[k] < sy0 b[k]
  · rw [decide_eq_true h, this.2 h]
  · rw [decide_eq_false h]
    cases hb : befB a b with
    | false => rfl
    | true => exact absurd (this.1 hb) h
theorem befB_len {a b : Str} (h : a.length ≠ b.length) : befB a b = decide (a.length < b.length) := by
  have : befB a b = true ↔ a.length < b.length := by
    rw [befB_iff]
    unfold befS bef
    rw [wd0_len, wd0_len]
    exact ⟨fun k => by rcases k with k | ⟨k, _⟩; exact k; exact absurd k h, fun k => .inl k⟩
  by_cases k : a.length < b.length
  · rw [decide_eq_true k, this.2 k]
  · rw [decide_eq_false k]
    cases hb : befB a b with
    | false => rfl
    | true => exact absurd (this.1 hb) k
theorem befB_same (a : Str) : befB a a = false := by
  cases hb : befB a a with
  | false => rfl
  | true => exact absurd (befB_iff.1 hb) (bef_irr _)
theorem sym_dp {c : UInt8} (h : isDP c) : symI c.toNat = (sy0 c : Int) := by
  rcases h with h | rfl
  · rw [sy0_digit h]
    have h1 := isD_iff.1 h
    unfold symI dg
    rw [if_neg (by omega), if_neg (by omega)]
    omega
  · rfl
theorem take_next {a b : Str} {k : Nat} (hp : a.take k = b.take k) (h1 : k < a.length) (h2 : k < b.length) (e : a[k] = b[k]) : a.take (k + 1) = b.take (k + 1) := by
  rw [List.take_succ_eq_append_getElem h1, List.take_succ_eq_append_getElem h2, hp, e]
theorem len_dataA (s : ByteArray) : s.data.toList.length = s.size := Array.length_toList
theorem byte_atA (s : ByteArray) {k : Nat} (h : k < s.size) : s.data.toList[k]'(by rw [len_dataA]; exact h) = s[k] := Array.getElem_toList ..
set_option maxRecDepth 1000000 in
set_option maxHeartbeats 4000000 in
theorem beforeR_any (a b : ByteArray) (ha : ∀ c ∈ a.data.toList, isDP c) (hb : ∀ c ∈ b.data.toList, isDP c) (h1 : a.size ≤ 9223372036854775807) (h2 : b.size ≤ 9223372036854775807) (w : World) :
    Calls Tryz.prog 24 #[.string a, .string b] w fun e w' => e = .returned (.bool (befB a.data.toList b.data.toList)) ∧ Below w.heap.size w w' := by
  have HA := Lib.hid ha
  have HB := Lib.hid hb
  have hla := len_dataA a
  have hlb := len_dataA b
  have HLA := Lib.hid hla
  have HLB := Lib.hid hlb
  clear ha hb hla hlb
  by_cases hl : a.size = b.size
  · have t1 : ((a.size : Int) != (b.size : Int)) = false := by rw [hl]; simp
    have HL := Lib.hid hl
    have t2 : ¬ a.size ≠ b.size := fun h => h hl
    clear hl
    go_enter Tryz.func24, Tryz.ntmps24
    go_wp2_with fail
    go_loopw [5] (fun v5 wr => ∃ k : Nat, k ≤ a.size ∧ v5 = .int .i64 k ∧ a.data.toList.take k = b.data.toList.take k ∧ Below w.heap.size w wr) (fun v5 _ => a.size - (intOf v5).toNat)
    case atStart => exact ⟨0, Nat.zero_le _, rfl, rfl, Below.refl _ _⟩
    case round =>
      rename World => w1
      obtain ⟨k, hk, rfl, hp, hb1⟩ := hrel
      have HP := Lib.hid hp
      have HB1 := Lib.hid hb1
      clear hp hb1
      by_cases hlt : k < a.size
      · have hlt2 : k < b.size := by have := HL.out; omega
        have h9 : (k : Int) < (a.size : Int) := by omega
        have h9b : (k : Int) < (b.size : Int) := by omega
        have HC := Lib.hid (byte_atA a hlt)
        have HD := Lib.hid (byte_atA b hlt2)
        have hca := HA.out _ (List.getElem_mem (by rw [HLA.out]; exact hlt : k < a.data.toList.length))
        have hcb := HB.out _ (List.getElem_mem (by rw [HLB.out]; exact hlt2 : k < b.data.toList.length))
        rw [HC.out] at hca
        rw [HD.out] at hcb
        have HCA := Lib.hid hca
        have HCB := Lib.hid hcb
        clear hca hcb
        by_cases heq : a[k] = b[k]
        · have t3 : (((a[k]'hlt).toNat : Int) != ((b[k]'hlt2).toNat : Int)) = false := by rw [heq]; simp
          have HN := Lib.hid (take_next HP.out (by rw [HLA.out]; exact hlt) (by rw [HLB.out]; exact hlt2) (by rw [HC.out, HD.out]; exact heq))
          clear heq
          go_wp2_with fail
          go_quiet (fail)
          go_wp2
          go_roundw
          case measure => simp [intOf]; omega
          case rel => exact ⟨k + 1, by omega, by go_num, HN.out, by first | exact below_drewN HB1.out _ | exact HB1.out.drew⟩
        · have t3 : (((a[k]'hlt).toNat : Int) != ((b[k]'hlt2).toNat : Int)) = true := by
            rw [bne_iff_ne]
            intro e
            apply heq
            apply UInt8.toNat_inj.1
            omega
          have hne : sy0 a[k] ≠ sy0 b[k] := fun e => heq (sy0_inj HCA.out HCB.out e)
          have HV : Hid (befB a.data.toList b.data.toList = decide (sy0 a[k] < sy0 b[k])) := Lib.hid (by
            have := befB_at (a := a.data.toList) (b := b.data.toList) (k := k) (by rw [HLA.out, HLB.out, HL.out]) (by rw [HLA.out]; exact hlt) (by rw [HLB.out]; exact hlt2) HP.out (by rw [HC.out, HD.out]; exact hne)
            rw [this, HC.out, HD.out])
          have HSA := Lib.hid (symbol_any (a[k]'hlt).toNat (by have := (a[k]'hlt).toNat_lt; omega))
          have HSB := Lib.hid (symbol_any (b[k]'hlt2).toNat (by have := (b[k]'hlt2).toNat_lt; omega))
          have HEA := Lib.hid (sym_dp HCA.out)
          have HEB := Lib.hid (sym_dp HCB.out)
          rw [HEA.out] at HSA
          rw [HEB.out] at HSB
          clear heq hne
          go_wp2_with fail
          go_quiet (fail)
          go_wp2_with fail
          have HB2 := Lib.hid (below_drewN HB1.out nq)
          obtain ⟨w2, hw2⟩ : ∃ w2, w1.drewN nq = w2 := ⟨_, rfl⟩
          rw [hw2] at HB2 ⊢
          clear hw2 nq
          go_quiet ((go_at_call 52; first | (with_reducible exact Calls.quiet_of_same (HSA.out _)) | (with_reducible exact Calls.quiet_of_same (HSB.out _))))
          go_wp2
          go_ret
          exact ⟨by rw [HV.out]; first | rfl | simp, by first | exact below_drewN HB2.out _ | exact HB2.out.drew⟩
      · obtain rfl : k = a.size := by omega
        have h3 : ¬ (a.size : Int) < (a.size : Int) := by omega
        have HV : Hid (befB a.data.toList b.data.toList = false) := Lib.hid (by
          have e : a.data.toList = b.data.toList := by
            have := HP.out
            rw [← HLA.out, List.take_length, HLA.out, HL.out, ← HLB.out, List.take_length] at this
            exact this
          rw [e]
          exact befB_same _)
        go_wp2
        go_ret
        exact ⟨by rw [HV.out]; rfl, HB1.out⟩
  · have t1 : ((a.size : Int) != (b.size : Int)) = true := by rw [bne_iff_ne]; omega
    have HV : Hid (befB a.data.toList b.data.toList = decide (a.size < b.size)) := Lib.hid (by
      rw [befB_len (by rw [HLA.out, HLB.out]; exact hl), HLA.out, HLB.out])
    go_enter Tryz.func24, Tryz.ntmps24
    go_wp2
    go_ret
    exact ⟨by rw [HV.out]; rfl, Below.refl _ _⟩
end Go.Proofs.YtmnclnpbmgomgaaGreatDoor


/- Of the reference of layer 7: Text (as in stage 8). -/
namespace Go.Proofs.YtmnclnpbmgomgaaGreatDoor
open Go.RowKit
set_option linter.unusedVariables false
set_option maxRecDepth 1000000 in
set_option maxHeartbeats 4000000 in
theorem refText14_any (b : Bool) (wh fr : Str) (l1 : wh.length ≤ 1000) (l2 : fr.length ≤ 1000) (w : World) :
    Calls Tryz.prog 19 #[.agg #[.bool b, .string (ofL wh), .string (ofL fr)]] w fun e w' => e = .returned (.string (ofL (txt ⟨b && !zero (wh ++ fr), wh, fr⟩))) ∧ Below w.heap.size w w' := by
  have HB := Lib.hid ((Below.refl w.heap.size w).alloc (Nat.le_refl _) (.cells #[.bool b, .string (ofL wh), .string (ofL fr)] 33))
  have s1 : (ofL wh).size ≤ 1000 := by rw [ofL_size]; exact l1
  have s2 : (ofL fr).size ≤ 1000 := by rw [ofL_size]; exact l2
  have e0 : ofL wh ++ ofL fr = ofL (wh ++ fr) := add_two wh fr
  have hZ := zero_any (ofL (wh ++ fr)) (by rw [ofL_size, List.length_append]; omega)
  rw [ofL_list] at hZ
  have HZ := Lib.hid hZ
  clear hZ
  obtain ⟨zb, hzb⟩ : ∃ zb, zero (wh ++ fr) = zb := ⟨_, rfl⟩
  rw [hzb] at HZ ⊢
  clear hzb
  by_cases hf : fr = []
  · have e1 : ((ofL fr).toList == ([] : List UInt8)) = true := by rw [ByteArray.toList_eq, hf]; rfl
    have HT : ∀ nb, Hid (txt ⟨nb, wh, fr⟩ = (if nb = true then [45] else []) ++ wh) := fun nb => Lib.hid (by unfold txt; rw [hf]; simp)
    clear hf
    go_enter Tryz.func19, Tryz.ntmps19
    cases b with
    | false =>
      go_wp2
      go_ret
      exact ⟨by rw [Bool.false_and, (HT _).out]; rfl, HB.out⟩
    | true =>
      have e4 : (⟨#[45]⟩ : ByteArray) ++ ofL wh = ofL (45 :: wh) := add_pre 45 wh
      go_wp2_with fail
      refine (HZ.out _).mono ?_
      rintro e w6 ⟨rfl, hw6⟩
      obtain rfl := hw6.symm
      cases zb with
      | true =>
        go_wp2
        go_ret
        exact ⟨by rw [(HT _).out]; rfl, HB.out⟩
      | false =>
        go_wp2
        go_ret
        exact ⟨by rw [(HT _).out]; rfl, HB.out⟩
  · have e1 : ((ofL fr).toList == ([] : List UInt8)) = false := by rw [ByteArray.toList_eq, beq_eq_false_iff_ne]; exact hf
    have e2 : (⟨#[46]⟩ : ByteArray) ++ ofL fr = ofL (46 :: fr) := add_pre 46 fr
    have e3 : ofL wh ++ ofL (46 :: fr) = ofL (wh ++ 46 :: fr) := add_two _ _
    have s3 : (ofL (46 :: fr)).size ≤ 1001 := by rw [ofL_size, List.length_cons]; omega
    have s4 : (ofL (wh ++ 46 :: fr)).size ≤ 2002 := by rw [ofL_size, List.length_append, List.length_cons]; omega
    have HT : ∀ nb, Hid (txt ⟨nb, wh, fr⟩ = (if nb = true then [45] else []) ++ (wh ++ 46 :: fr)) := fun nb => Lib.hid (by unfold txt; dsimp only; rw [if_neg hf])
    clear hf
    go_enter Tryz.func19, Tryz.ntmps19
    cases b with
    | false =>
      go_wp2
      go_ret
      exact ⟨by rw [Bool.false_and, (HT _).out]; rfl, HB.out⟩
    | true =>
      have e4 : (⟨#[45]⟩ : ByteArray) ++ ofL (wh ++ 46 :: fr) = ofL (45 :: (wh ++ 46 :: fr)) := add_pre 45 _
      go_wp2_with fail
      refine (HZ.out _).mono ?_
      rintro e w6 ⟨rfl, hw6⟩
      obtain rfl := hw6.symm
      cases zb with
      | true =>
        go_wp2
        go_ret
        exact ⟨by rw [(HT _).out]; rfl, HB.out⟩
      | false =>
        go_wp2
        go_ret
        exact ⟨by rw [(HT _).out]; rfl, HB.out⟩
end Go.Proofs.YtmnclnpbmgomgaaGreatDoor


/- Of the reference of layer 10: Unsigned. -/
namespace Go.Proofs.YtmnclnpbmgomgaaGreatDoor
open Go.RowKit Go.Maps
set_option linter.unusedVariables false

def uns (s : Str) : Bool := (spl s).isSome && decide (s.head? ≠ some 45)
theorem uns_iff {s : Str} : uns s = true ↔ isU s := by
  unfold uns
  rw [Bool.and_eq_true, decide_eq_true_eq, isU_iff]
theorem spl_nil : spl [] = none := by rfl
set_option maxRecDepth 1000000 in
set_option maxHeartbeats 4000000 in
theorem unsigned_any (s : ByteArray) (hs : s.size ≤ 9223372036854775807) (w : World) :
    Calls Tryz.prog 23 #[.string s] w fun e w' => e = .returned (.bool (uns s.data.toList)) ∧ Below w.heap.size w w' := by
  have HVA := Lib.hid (refValid_any s hs w)
  have HUN : Hid (uns s.data.toList = ((spl s.data.toList).isSome && decide (s.data.toList.head? ≠ some 45))) := Lib.hid rfl
  have HE0 : Hid (s.size = 0 → (spl s.data.toList).isSome = false) := Lib.hid (fun h => by rw [data_nil h, spl_nil]; rfl)
  obtain ⟨b, hb⟩ : ∃ b, (spl s.data.toList).isSome = b := ⟨_, rfl⟩
  rw [hb] at HVA HUN HE0
  clear hb
  obtain ⟨R, hR⟩ : ∃ R, uns s.data.toList = R := ⟨_, rfl⟩
  rw [hR] at HUN ⊢
  clear hR
  go_enter Tryz.func23, Tryz.ntmps23
  go_wp2_with fail
  refine HVA.out.mono ?_
  rintro e w2 ⟨rfl, b2⟩
  have B2 := Lib.hid b2
  clear b2 HVA
  cases b
  · have HE : Hid (R = false) := Lib.hid (by rw [HUN.out]; rfl)
    go_wp2
    go_ret
    exact ⟨by rw [HE.out]; rfl, B2.out⟩
  · have h0 : 0 < s.size := by
      rcases Nat.eq_zero_or_pos s.size with h | h
      · have := HE0.out h; cases this
      · exact h
    have HE : Hid (R = !decide ((s[0]'h0).toNat = 45)) := Lib.hid (by
      rw [HUN.out, Bool.true_and, head_data h0, ← decide_not, decide_eq_decide, Ne, Option.some_inj]
      constructor
      · intro h e
        exact h (UInt8.toNat_inj.1 e)
      · intro h e
        exact h (by rw [e]; rfl))
    obtain ⟨q, hq⟩ : ∃ q, decide ((s[0]'h0).toNat = 45) = q := ⟨_, rfl⟩
    rw [hq] at HE
    have z1 : ((((s[0]'h0).toNat : Nat) : Int) == 45) = q := by rw [← hq, Bool.eq_iff_iff, beq_iff_eq, decide_eq_true_eq]; omega
    have z2 : ((((s[0]'h0).toNat : Nat) : Int) != 45) = !q := by rw [← z1]; rfl
    clear hq HE0 HUN
    go_wp2
    go_ret
    exact ⟨by rw [HE.out]; rfl, B2.out⟩

/-! ### count -/
end Go.Proofs.YtmnclnpbmgomgaaGreatDoor


