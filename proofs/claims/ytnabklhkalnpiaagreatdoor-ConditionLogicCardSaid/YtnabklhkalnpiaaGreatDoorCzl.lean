/- Plain: every condition is parsed from its text. -/
import Derived.Test.YtnabklhkalnpiaaGreatDoorCza
namespace Go.Proofs.YtnabklhkalnpiaaGreatDoor
set_option linter.unusedVariables false

def noH (p : UInt8 → Bool) (R : Str) : Bool := match R with
  | [] => true
  | c :: _ => !p c
theorem cF_app (p : UInt8 → Bool) (t R : Str) (h : ∀ c ∈ t, p c = true) (hR : noH p R = true) : cF p (t ++ R) = t.length := by
  unfold cF
  rw [List.takeWhile_append_of_pos h]
  cases R with
  | nil => simp
  | cons c R =>
    have : p c = false := by simpa [noH] using hR
    rw [List.takeWhile_cons, this]
    simp
theorem cF_zero (p : UInt8 → Bool) (c : UInt8) (R : Str) (h : p c = false) : cF p (c :: R) = 0 := by
  unfold cF
  rw [List.takeWhile_cons, h]
  rfl
theorem N_max (c : UInt8) (t R : Str) (k : Nat) (hw : isW c = false) (h1 : c ≠ 33) (h2 : c ≠ 46) (hm : max 1 (max (cF isA ((c :: t) ++ R)) (cF isD ((c :: t) ++ R))) = (c :: t).length) : N ((c :: t) ++ R) k = ⟨c :: t, R, k⟩ := by
  have dw : ((c :: t) ++ R).dropWhile isW = (c :: t) ++ R := by
    rw [List.cons_append, List.dropWhile_cons, hw]
    rfl
  have ht : tokN ((c :: t) ++ R) = (c :: t).length := by
    unfold tokN
    rw [if_neg (by simp), if_neg, hm]
    rintro (h | h)
    · rw [List.cons_append, List.take_succ_cons] at h
      injection h with e
      exact h1 e
    · rw [List.cons_append, List.take_succ_cons] at h
      injection h with e
      exact h2 e
  unfold N
  rw [dw, ht, List.take_left, List.drop_left]
theorem N_blank (R : Str) (k : Nat) : N (32 :: R) k = N R k := rfl
theorem N_one (c : UInt8) (R : Str) (k : Nat) (hw : isW c = false) (h1 : c ≠ 33) (h2 : c ≠ 46) (ha : isA c = false) (hd : isD c = false) : N (c :: R) k = ⟨[c], R, k⟩ := by
  refine N_max c [] R k hw h1 h2 ?_
  rw [List.cons_append, cF_zero _ _ _ ha, cF_zero _ _ _ hd]
  rfl
theorem N_two (c d : UInt8) (R : Str) (k : Nat) (h : (c = 33 ∧ d = 61) ∨ (c = 46 ∧ d = 46)) : N (c :: d :: R) k = ⟨[c, d], R, k⟩ := by
  rcases h with ⟨rfl, rfl⟩ | ⟨rfl, rfl⟩ <;> rfl
theorem N_word (c : UInt8) (t R : Str) (k : Nat) (h : ∀ x ∈ c :: t, isA x = true) (hR : noH isA R = true) : N ((c :: t) ++ R) k = ⟨c :: t, R, k⟩ := by
  have hc := h c (by simp)
  have h0 : 97 ≤ c.toNat ∧ c.toNat ≤ 122 := by simpa [isA] using hc
  have hd : isD c = false := by simp [isD]; omega
  have hw : isW c = false := by
    simp only [isW, Bool.or_eq_false_iff, beq_eq_false_iff_ne]
    refine ⟨⟨?_, ?_⟩, ?_⟩ <;> (intro e; rw [e] at h0; revert h0; decide)
  refine N_max c t R k hw (by intro e; rw [e] at h0; revert h0; decide) (by intro e; rw [e] at h0; revert h0; decide) ?_
  rw [cF_app isA _ _ h hR, List.cons_append, cF_zero _ _ _ hd]
  simp
theorem N_num (t R : Str) (k : Nat) (ht : t ≠ []) (h : ∀ x ∈ t, isD x = true) (hR : noH isD R = true) : N (t ++ R) k = ⟨t, R, k⟩ := by
  cases t with
  | nil => exact absurd rfl ht
  | cons c t =>
    have hc := h c (by simp)
    have h0 : 48 ≤ c.toNat ∧ c.toNat ≤ 57 := by simpa [isD] using hc
    have hd : isA c = false := by simp [isA]; omega
    have hw : isW c = false := by
      simp only [isW, Bool.or_eq_false_iff, beq_eq_false_iff_ne]
      refine ⟨⟨?_, ?_⟩, ?_⟩ <;> (intro e; rw [e] at h0; revert h0; decide)
    refine N_max c t R k hw (by intro e; rw [e] at h0; revert h0; decide) (by intro e; rw [e] at h0; revert h0; decide) ?_
    rw [cF_app isD _ _ h hR, List.cons_append, cF_zero _ _ _ hd]
    simp
theorem dtx_fin : ∀ n : Fin 101, isNum (dtx n.val) = true ∧ val (dtx n.val) = n.val ∧ (dtx n.val).all isD = true ∧ dtx n.val ≠ [] := by decide +kernel
theorem dtx_ok (n : Nat) (h : n ≤ 100) : isNum (dtx n) = true ∧ val (dtx n) = n ∧ (∀ x ∈ dtx n, isD x = true) ∧ dtx n ≠ [] := by
  have := dtx_fin ⟨n, by omega⟩
  exact ⟨this.1, this.2.1, List.all_eq_true.1 this.2.2.1, this.2.2.2⟩
def tk (R : Str) : Str := (N R 0).tok
theorem N_tok (R : Str) (m : Nat) : (N R m).tok = tk R := rfl
theorem N_n (R : Str) (m : Nat) : (N R m).n = m := rfl
theorem nxt_mk (t R : Str) (m : Nat) : nxt ⟨t, R, m⟩ = N R m := rfl
theorem num_at (n : Nat) (h : n ≤ 100) (R : Str) (m : Nat) (hR : noH isD R = true) : N (dtx n ++ R) m = ⟨dtx n, R, m⟩ := N_num _ _ _ (dtx_ok n h).2.2.2 (dtx_ok n h).2.2.1 hR
theorem span_back (o : Int) (k : Nat) (s : Int × Int) (R : Str) (m : Nat) (hs : okSp o s = true) (hk : k < 4) (hR : noH isD R = true) (hT : tk R ≠ [46, 46]) : spanM o k (N (spT s ++ R) m) = some (s, N R m) := by
  unfold okSp at hs
  simp only [Bool.and_eq_true, decide_eq_true_eq] at hs
  obtain ⟨⟨h1, h2⟩, h3⟩ := hs
  obtain ⟨a, b⟩ := s
  dsimp only at h1 h2 h3
  obtain ⟨a0, a1⟩ := okEnd_le h1
  obtain ⟨b0, b1⟩ := okEnd_le h2
  obtain ⟨A, rfl⟩ : ∃ A : Nat, a = (A : Int) := ⟨a.toNat, by omega⟩
  obtain ⟨B, rfl⟩ : ∃ B : Nat, b = (B : Int) := ⟨b.toNat, by omega⟩
  obtain ⟨da, va, _, _⟩ := dtx_ok A (by omega)
  obtain ⟨db, vb, _, _⟩ := dtx_ok B (by omega)
  unfold spT
  dsimp only
  rw [Int.toNat_natCast, Int.toNat_natCast]
  by_cases e : (B : Int) = (A : Int)
  · rw [if_pos e, List.append_nil, num_at A (by omega) R m hR]
    unfold spanM
    dsimp only
    rw [va, if_pos ⟨da, h1, hk⟩, nxt_mk, N_tok, if_neg hT, e]
  · have hAB : A ≤ B := by omega
    rw [if_neg e, List.append_assoc, List.append_assoc, num_at A (by omega) _ m (by rfl)]
    have e1 : nxt ⟨dtx A, [46, 46] ++ (dtx B ++ R), m⟩ = ⟨[46, 46], dtx B ++ R, m⟩ := N_two 46 46 _ m (.inr ⟨rfl, rfl⟩)
    have e2 : nxt ⟨[46, 46], dtx B ++ R, m⟩ = ⟨dtx B, R, m⟩ := num_at B (by omega) R m hR
    unfold spanM
    dsimp only
    rw [va, if_pos ⟨da, h1, hk⟩, e1, if_pos rfl, e2]
    dsimp only
    rw [vb, if_pos ⟨db, h2, hAB⟩, nxt_mk]
/-- What may follow a relation. -/
structure Fol (R : Str) : Prop where
  d : noH isD R = true
  p : tk R ≠ [46, 46]
  c : tk R ≠ [44]
theorem jn_flat (sep : Str) : ∀ (x : Str) (l : List Str), jn sep (x :: l) = x ++ l.flatMap (fun y => sep ++ y)
  | x, [] => by simp [jn]
  | x, y :: l => by
    rw [jn_cons sep x (by simp), jn_flat sep y l, List.flatMap_cons, List.append_assoc]
def spR (l : List (Int × Int)) (R : Str) : Str := l.flatMap (fun s => [44] ++ spT s) ++ R
theorem spR_cons (s : Int × Int) (l : List (Int × Int)) (R : Str) : spR (s :: l) R = 44 :: (spT s ++ spR l R) := by
  unfold spR
  rw [List.flatMap_cons, List.append_assoc, List.append_assoc]
  rfl
theorem spsT_cons (s : Int × Int) (l : List (Int × Int)) (R : Str) : spsT (s :: l) ++ R = spT s ++ spR l R := by
  unfold spsT spR
  rw [List.map_cons, jn_flat, List.append_assoc, List.flatMap_map]
theorem spR_fol (l : List (Int × Int)) {R : Str} (h : Fol R) : noH isD (spR l R) = true ∧ tk (spR l R) ≠ [46, 46] := by
  cases l with
  | nil => exact ⟨h.d, h.p⟩
  | cons s l =>
    rw [spR_cons]
    refine ⟨rfl, ?_⟩
    unfold tk
    rw [N_one 44 _ 0 rfl (by decide) (by decide) rfl rfl]
    show ([44] : Str) ≠ [46, 46]
    decide
theorem spans_back (o : Int) {R : Str} (hR : Fol R) (m : Nat) : ∀ (l : List (Int × Int)) (f : Nat) (acc : List (Int × Int)), (∀ s ∈ l, okSp o s = true) → l.length < f → acc.length + l.length ≤ 4 → spansM f o acc (N (spR l R) m) = some (acc ++ l, N R m)
  | [], 0, acc, _, hf, _ => by simp at hf
  | [], f + 1, acc, _, hf, _ => by
    have e : spR [] R = R := rfl
    rw [e, spansM, N_tok, if_neg hR.c, List.append_nil]
  | s :: l, 0, acc, _, hf, _ => by simp at hf
  | s :: l, f + 1, acc, hs, hf, h4 => by
    rw [List.length_cons] at hf h4
    obtain ⟨g1, g2⟩ := spR_fol l hR
    rw [spR_cons, N_one 44 _ m rfl (by decide) (by decide) rfl rfl, spansM]
    dsimp only
    rw [if_pos rfl, nxt_mk, span_back o acc.length s (spR l R) m (hs s (by simp)) (by omega) g1 g2]
    dsimp only
    rw [spans_back o hR m l f (acc ++ [s]) (fun x hx => hs x (by simp [hx])) (by omega) (by rw [List.length_append, List.length_singleton]; omega), List.append_assoc]
    rfl
theorem letr_ok : ∀ o : Fin 7, 1 ≤ o.val → opM [letr (o.val : Int)] = (o.val : Int) ∧ isA (letr (o.val : Int)) = true := by decide +kernel
theorem sgn_back (b : Bool) (Y : Str) (m : Nat) : sgnM (N (sgnT b ++ Y) m) = some (b, N Y m) ∧ tk (sgnT b ++ Y) ≠ [37] := by
  cases b with
  | true =>
    have e : N (sgnT true ++ Y) m = ⟨[33, 61], 32 :: Y, m⟩ := N_two 33 61 (32 :: Y) m (.inl ⟨rfl, rfl⟩)
    have e0 : N (sgnT true ++ Y) 0 = ⟨[33, 61], 32 :: Y, 0⟩ := N_two 33 61 (32 :: Y) 0 (.inl ⟨rfl, rfl⟩)
    refine ⟨?_, ?_⟩
    · rw [e]; rfl
    · unfold tk; rw [e0]; show ([33, 61] : Str) ≠ [37]; decide
  | false =>
    have e : ∀ k, N (sgnT false ++ Y) k = ⟨[61], 32 :: Y, k⟩ := fun k => N_one 61 (32 :: Y) k rfl (by decide) (by decide) rfl rfl
    refine ⟨?_, ?_⟩
    · rw [e]; rfl
    · unfold tk; rw [e]; show ([61] : Str) ≠ [37]; decide
theorem rel_back (r : Rel) {R : Str} (hR : Fol R) (m : Nat) (hr : okR r = true) (hm : m < 6) : relM (N (relT r ++ R) m) = some (r, N R (m + 1)) := by
  obtain ⟨lo, hi, md, s1, few, sp⟩ := okR_iff.1 hr
  obtain ⟨o, d, b, l⟩ := r
  dsimp only at lo hi md s1 few sp
  obtain ⟨d0, d1⟩ := okMod_le md
  obtain ⟨D, rfl⟩ : ∃ D : Nat, d = (D : Int) := ⟨d.toNat, by omega⟩
  obtain ⟨O, rfl⟩ : ∃ O : Nat, o = (O : Int) := ⟨o.toNat, by omega⟩
  obtain ⟨L1, L2⟩ := letr_ok ⟨O, by omega⟩ (by show 1 ≤ O; omega)
  dsimp only at L1 L2
  obtain ⟨s, l, rfl⟩ : ∃ s l', l = s :: l' := by
    cases l with
    | nil => simp at s1
    | cons s l' => exact ⟨s, l', rfl⟩
  rw [List.length_cons] at few
  obtain ⟨g1, g2⟩ := spR_fol l hR
  obtain ⟨Y, hY⟩ : ∃ Y, spT s ++ spR l R = Y := ⟨_, rfl⟩
  have hB : ∀ k, relB (O : Int) (D : Int) b (N Y k) = some (⟨O, D, b, s :: l⟩, N R k) := fun k => by
    unfold relB
    rw [← hY, span_back (O : Int) 0 s (spR l R) k (sp s (by simp)) (by omega) g1 g2]
    dsimp only
    rw [spans_back (O : Int) hR k l 4 [s] (fun x hx => sp x (by simp [hx])) (by omega) (by rw [List.length_singleton]; omega)]
    rfl
  have hA : ∀ k, relA (O : Int) (D : Int) (N (sgnT b ++ Y) k) = some (⟨O, D, b, s :: l⟩, N R k) := fun k => by
    unfold relA
    rw [(sgn_back b Y k).1]
    exact hB k
  have hT : relT ⟨(O : Int), (D : Int), b, s :: l⟩ ++ R = letr (O : Int) :: ((if (D : Int) = 0 then [] else [32, 37, 32] ++ dtx D) ++ (sgnT b ++ Y)) := by
    unfold relT relH
    dsimp only
    rw [Int.toNat_natCast, List.append_assoc, List.append_assoc, List.append_assoc, spsT_cons, hY]
    rfl
  have hO : ∀ k, relO (O : Int) (N ((if (D : Int) = 0 then [] else [32, 37, 32] ++ dtx D) ++ (sgnT b ++ Y)) k) = some (⟨O, D, b, s :: l⟩, N R k) := fun k => by
    unfold relO
    have hM : modM (O : Int) (N ((if (D : Int) = 0 then [] else [32, 37, 32] ++ dtx D) ++ (sgnT b ++ Y)) k) = some ((D : Int), N (sgnT b ++ Y) k) := by
      by_cases hD : (D : Int) = 0
      · rw [if_pos hD, List.nil_append, hD]
        unfold modM
        rw [N_tok, if_neg (sgn_back b Y k).2]
      · rw [if_neg hD, List.append_assoc]
        have e1 : N ([32, 37, 32] ++ (dtx D ++ (sgnT b ++ Y))) k = ⟨[37], 32 :: (dtx D ++ (sgnT b ++ Y)), k⟩ := N_one 37 (32 :: (dtx D ++ (sgnT b ++ Y))) k rfl (by decide) (by decide) rfl rfl
        have e2 : nxt ⟨[37], 32 :: (dtx D ++ (sgnT b ++ Y)), k⟩ = ⟨dtx D, sgnT b ++ Y, k⟩ := num_at D (by omega) _ k (by cases b <;> rfl)
        obtain ⟨dd, vd, _, _⟩ := dtx_ok D (by omega)
        rw [e1]
        unfold modM
        rw [if_pos rfl, e2]
        dsimp only
        rw [vd, if_pos ⟨dd, md⟩, nxt_mk]
    rw [hM]
    exact hA k
  have hX : noH isA ((if (D : Int) = 0 then [] else [32, 37, 32] ++ dtx D) ++ (sgnT b ++ Y)) = true := by
    split
    · cases b <;> rfl
    · rfl
  rw [hT]
  have e := N_word (letr (O : Int)) [] _ m (fun x hx => by simp at hx; subst hx; exact L2) hX
  rw [List.singleton_append] at e
  rw [e]
  unfold relM
  dsimp only
  rw [L1, if_pos ⟨by omega, hm⟩]
  exact hO (m + 1)
/-! ### lists of relations -/
def rlR (l : List Rel) (R : Str) : Str := l.flatMap (fun r => [32, 97, 110, 100, 32] ++ relT r) ++ R
theorem rlR_cons (r : Rel) (l : List Rel) (R : Str) : rlR (r :: l) R = 32 :: (97 :: [110, 100] ++ (32 :: (relT r ++ rlR l R))) := by
  unfold rlR
  rw [List.flatMap_cons, List.append_assoc, List.append_assoc]
  rfl
theorem N_and (r : Rel) (l : List Rel) (R : Str) (k : Nat) : N (rlR (r :: l) R) k = ⟨[97, 110, 100], 32 :: (relT r ++ rlR l R), k⟩ := by
  rw [rlR_cons, N_blank]
  exact N_word 97 [110, 100] _ k (by decide) rfl
theorem lstT_cons (r : Rel) (l : List Rel) (R : Str) : lstT (r :: l) ++ R = relT r ++ rlR l R := by
  unfold lstT rlR
  rw [List.map_cons, jn_flat, List.append_assoc, List.flatMap_map]
theorem rlR_fol (l : List Rel) {R : Str} (h : Fol R) : Fol (rlR l R) := by
  cases l with
  | nil => exact h
  | cons r l =>
    refine ⟨?_, ?_, ?_⟩
    · rw [rlR_cons]; rfl
    · unfold tk; rw [N_and]; show ([97, 110, 100] : Str) ≠ [46, 46]; decide
    · unfold tk; rw [N_and]; show ([97, 110, 100] : Str) ≠ [44]; decide
theorem rels_back {R : Str} (hR : Fol R) (hA : tk R ≠ [97, 110, 100]) : ∀ (l : List Rel) (f m : Nat) (acc : List Rel), (∀ r ∈ l, okR r = true) → l.length < f → m + l.length ≤ 6 → relsM f acc (N (rlR l R) m) = some (acc ++ l, N R (m + l.length))
  | [], 0, m, acc, _, hf, _ => by simp at hf
  | [], f + 1, m, acc, _, hf, _ => by
    have e : rlR [] R = R := rfl
    rw [e, relsM, N_tok, if_neg hA, List.append_nil]
    rfl
  | r :: l, 0, m, acc, _, hf, _ => by simp at hf
  | r :: l, f + 1, m, acc, hs, hf, h6 => by
    rw [List.length_cons] at hf h6
    rw [N_and, relsM]
    dsimp only
    rw [if_pos rfl, nxt_mk, N_blank, rel_back r (rlR_fol l hR) m (hs r (by simp)) (by omega)]
    dsimp only
    rw [rels_back hR hA l f (m + 1) (acc ++ [r]) (fun x hx => hs x (by simp [hx])) (by omega) (by omega), List.append_assoc, List.length_cons, show m + 1 + l.length = m + (l.length + 1) by omega]
    rfl
theorem lst_back (l : List Rel) {R : Str} (hR : Fol R) (hA : tk R ≠ [97, 110, 100]) (m : Nat) (hl : okL l = true) (h6 : m + l.length ≤ 6) : lstM (N (lstT l ++ R) m) = some (l, N R (m + l.length)) := by
  obtain ⟨h0, h1⟩ := okL_iff.1 hl
  cases l with
  | nil => simp at h0
  | cons r l =>
    rw [List.length_cons] at h6
    rw [lstT_cons]
    unfold lstM
    rw [rel_back r (rlR_fol l hR) m (h1 r (by simp)) (by omega)]
    dsimp only
    rw [rels_back hR hA l 7 (m + 1) [r] (fun x hx => h1 x (by simp [hx])) (by omega) (by omega), List.length_cons, show m + 1 + l.length = m + (l.length + 1) by omega]
    rfl
/-! ### conditions -/
def cnR (c : Cnd) : Str := c.flatMap (fun l => [32, 111, 114, 32] ++ lstT l)
theorem cnR_cons (l : List Rel) (c : Cnd) : cnR (l :: c) = 32 :: (111 :: [114] ++ (32 :: (lstT l ++ cnR c))) := by
  unfold cnR
  rw [List.flatMap_cons, List.append_assoc]
  rfl
theorem N_or (l : List Rel) (c : Cnd) (k : Nat) : N (cnR (l :: c)) k = ⟨[111, 114], 32 :: (lstT l ++ cnR c), k⟩ := by
  rw [cnR_cons, N_blank]
  exact N_word 111 [114] _ k (by decide) rfl
theorem cndT_cons (l : List Rel) (c : Cnd) : cndT (l :: c) = lstT l ++ cnR c := by
  unfold cndT cnR
  rw [List.map_cons, jn_flat, List.flatMap_map]
theorem cnR_fol (c : Cnd) : Fol (cnR c) ∧ tk (cnR c) ≠ [97, 110, 100] := by
  cases c with
  | nil => exact ⟨⟨rfl, by decide, by decide⟩, by decide⟩
  | cons l c =>
    refine ⟨⟨?_, ?_, ?_⟩, ?_⟩
    · rw [cnR_cons]; rfl
    · unfold tk; rw [N_or]; show ([111, 114] : Str) ≠ [46, 46]; decide
    · unfold tk; rw [N_or]; show ([111, 114] : Str) ≠ [44]; decide
    · unfold tk; rw [N_or]; show ([111, 114] : Str) ≠ [97, 110, 100]; decide
theorem lsts_back : ∀ (c : Cnd) (f m : Nat) (acc : Cnd), (∀ l ∈ c, okL l = true) → c.length < f → m + cnt c ≤ 6 → lstsM f acc (N (cnR c) m) = some (acc ++ c, N [] (m + cnt c))
  | [], 0, m, acc, _, hf, _ => by simp at hf
  | [], f + 1, m, acc, _, hf, _ => by
    have e : cnR [] = [] := rfl
    rw [e, lstsM, N_tok, if_neg (by decide), List.append_nil, cnt_nil]
    rfl
  | l :: c, 0, m, acc, _, hf, _ => by simp at hf
  | l :: c, f + 1, m, acc, hs, hf, h6 => by
    rw [List.length_cons] at hf
    rw [cnt_cons] at h6
    obtain ⟨g1, g2⟩ := cnR_fol c
    rw [N_or, lstsM]
    dsimp only
    rw [if_pos rfl, nxt_mk, N_blank, lst_back l g1 g2 m (hs l (by simp)) (by omega)]
    dsimp only
    rw [lsts_back c f (m + l.length) (acc ++ [l]) (fun x hx => hs x (by simp [hx])) (by omega) (by omega), List.append_assoc, cnt_cons, show m + l.length + cnt c = m + (l.length + cnt c) by omega]
    rfl
theorem len_cnt : ∀ (c : Cnd), (∀ l ∈ c, okL l = true) → c.length ≤ cnt c
  | [], _ => by simp
  | l :: c, h => by
    have h1 := (okL_iff.1 (h l (by simp))).1
    have h2 := len_cnt c (fun x hx => h x (by simp [hx]))
    rw [cnt_cons, List.length_cons]
    omega
theorem prs_back (c : Cnd) (h : okC c = true) : prsM (cndT c) = some c := by
  obtain ⟨h0, h1, h2⟩ := okC_iff.1 h
  cases c with
  | nil => simp at h0
  | cons l c =>
    rw [cnt_cons] at h2
    obtain ⟨g1, g2⟩ := cnR_fol c
    have g3 := (okL_iff.1 (h1 l (by simp))).1
    have g4 := len_cnt c (fun x hx => h1 x (by simp [hx]))
    unfold prsM cndM
    rw [cndT_cons, lst_back l g1 g2 0 (h1 l (by simp)) (by omega)]
    dsimp only
    rw [lsts_back c 7 (0 + l.length) [l] (fun x hx => h1 x (by simp [hx])) (by omega) (by omega)]
    rfl
end Go.Proofs.YtnabklhkalnpiaaGreatDoor
