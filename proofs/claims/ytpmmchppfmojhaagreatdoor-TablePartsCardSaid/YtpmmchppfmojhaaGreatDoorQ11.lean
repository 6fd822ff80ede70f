/- What the row stands on, part 11. -/
import Derived.OpenShut
import Derived.RegionTactic
import Derived.ChangeAlike
import Derived.Test.YtpmmchppfmojhaaGreatDoorQ10

/- The specification's backslash. -/
namespace Go.Proofs.YtpmmchppfmojhaaGreatDoor
open Go.RowKit
set_option linter.unusedVariables false

/-- The specification's size of a sequence is 0 where there is none. -/
def nz (p : RdOf2) : RdOf2 := if p.1 = [] then ([], 0) else p
end Go.Proofs.YtpmmchppfmojhaaGreatDoor


/- Tokens, plain: one token after another, with offsets. -/
namespace Go.Proofs.YtpmmchppfmojhaaGreatDoor
set_option linter.unusedVariables false

theorem sk_idemB : ∀ (b : Bool) (s : List UInt8), skN false (s.drop (skN b s)) = 0
  | false, [] => rfl
  | true, [] => rfl
  | false, c :: l => by
    by_cases h1 : isBlk c = true
    · rw [show skN false (c :: l) = skN false l + 1 by rw [skN, if_pos h1], List.drop_succ_cons]
      exact sk_idemB false l
    · by_cases h2 : c.toNat = 35
      · rw [show skN false (c :: l) = skN true l + 1 by rw [skN, if_neg h1, if_pos h2], List.drop_succ_cons]
        exact sk_idemB true l
      · have e : skN false (c :: l) = 0 := by rw [skN, if_neg h1, if_neg h2]
        rw [e, List.drop_zero, e]
  | true, c :: l => by
    by_cases h1 : c.toNat = 10
    · rw [show skN true (c :: l) = skN false l + 1 by rw [skN, if_pos h1], List.drop_succ_cons]
      exact sk_idemB false l
    · rw [show skN true (c :: l) = skN true l + 1 by rw [skN, if_neg h1], List.drop_succ_cons]
      exact sk_idemB true l
theorem sk_idem (s : List UInt8) : skN false (s.drop (skN false s)) = 0 := sk_idemB false s
theorem toksF_fuel : ∀ (f g o : Nat) (s : List UInt8), s.length < f → s.length < g → toksF f o s = toksF g o s
  | 0, g, o, s, h, _ => by omega
  | f + 1, 0, o, s, _, h => by omega
  | f + 1, g + 1, o, s, hf, hg => by
    rw [toksF, toksF]
    split
    · rfl
    · cases h : oneR (s.drop (skN false s)) with
      | bad d e => rfl
      | tok kd tx n =>
        dsimp only
        have h1 := (oneR_ok h).2
        have h2 : (s.drop (skN false s)).length = s.length - skN false s := List.length_drop
        have h3 : (s.drop (skN false s + n)).length = s.length - (skN false s + n) := List.length_drop
        rw [toksF_fuel f g _ (s.drop (skN false s + n)) (by omega) (by omega)]
def toksN (o : Nat) (s : List UInt8) : (Nat × Nat) ⊕ List Tok := toksF (s.length + 1) o s
def catT (x : List Tok) : (Nat × Nat) ⊕ List Tok → (Nat × Nat) ⊕ List Tok
  | .inl e => .inl e
  | .inr y => .inr (x ++ y)
theorem catT_nil (r : (Nat × Nat) ⊕ List Tok) : catT [] r = r := by cases r <;> rfl
theorem catT_cat (x y : List Tok) (r : (Nat × Nat) ⊕ List Tok) : catT x (catT y r) = catT (x ++ y) r := by
  cases r with
  | inl e => rfl
  | inr z => show Sum.inr _ = Sum.inr _; rw [List.append_assoc]
theorem tkN_nil {o : Nat} {s : List UInt8} (h : s.drop (skN false s) = []) : toksN o s = .inr [] := by unfold toksN; rw [toksF, if_pos h]
theorem tkN_bad {o : Nat} {s : List UInt8} (h : s.drop (skN false s) ≠ []) {d e : Nat} (h1 : oneR (s.drop (skN false s)) = .bad d e) : toksN o s = .inl (o + skN false s + d, e) := by unfold toksN; rw [toksF, if_neg h, h1]
theorem tkN_tok {o : Nat} {s : List UInt8} (h : s.drop (skN false s) ≠ []) {kd n : Nat} {tx : List UInt8} (h1 : oneR (s.drop (skN false s)) = .tok kd tx n) : toksN o s = catT [⟨kd, tx, o + skN false s⟩] (toksN (o + skN false s + n) (s.drop (skN false s + n))) := by
  have h2 := (oneR_ok h1).2
  have h3 : (s.drop (skN false s)).length = s.length - skN false s := List.length_drop
  have h4 : (s.drop (skN false s + n)).length = s.length - (skN false s + n) := List.length_drop
  have e : toksN o s = toksF (s.length + 1) o s := rfl
  rw [e, toksF, if_neg h, h1]
  dsimp only
  unfold toksN
  rw [toksF_fuel s.length ((s.drop (skN false s + n)).length + 1) _ (s.drop (skN false s + n)) (by omega) (by omega)]
  cases toksF ((s.drop (skN false s + n)).length + 1) (o + skN false s + n) (s.drop (skN false s + n)) <;> rfl
theorem tkN_skip (o : Nat) (s : List UInt8) : toksN o s = toksN (o + skN false s) (s.drop (skN false s)) := by
  have hi := sk_idem s
  have hd : (s.drop (skN false s)).drop (skN false (s.drop (skN false s))) = s.drop (skN false s) := by rw [hi]; rfl
  by_cases h0 : s.drop (skN false s) = []
  · rw [tkN_nil h0, tkN_nil (by rw [hd]; exact h0)]
  · cases h1 : oneR (s.drop (skN false s)) with
    | bad d e =>
      rw [tkN_bad h0 h1, tkN_bad (by rw [hd]; exact h0) (by rw [hd]; exact h1), hi, Nat.add_zero]
    | tok kd tx n =>
      have a := tkN_tok (o := o) h0 h1
      have b := tkN_tok (o := o + skN false s) (s := s.drop (skN false s)) (by rw [hd]; exact h0) (by rw [hd]; exact h1)
      rw [a, b, hi, Nat.add_zero, Nat.zero_add, List.drop_drop]
theorem at_bad {o d e : Nat} {r : List UInt8} (hz : skN false r = 0) (h : oneR r = .bad d e) (hr : r ≠ []) : toksN o r = .inl (o + d, e) := by
  rw [tkN_bad (by rw [hz]; exact hr) (by rw [hz]; exact h), hz, Nat.add_zero]
theorem at_tok {o kd n : Nat} {tx r : List UInt8} (hz : skN false r = 0) (h : oneR r = .tok kd tx n) (hr : r ≠ []) :
    toksN o r = catT [⟨kd, tx, o⟩] (toksN (o + n + skN false (r.drop n)) ((r.drop n).drop (skN false (r.drop n)))) := by
  have a := tkN_tok (o := o) (s := r) (by rw [hz]; exact hr) (by rw [hz]; exact h)
  have b := tkN_skip (o + n) (r.drop n)
  rw [a, hz, Nat.add_zero, Nat.zero_add, b]
theorem toks_N (s : List UInt8) : toks s = toksN (skN false s) (s.drop (skN false s)) := by
  show toksN 0 s = _
  rw [tkN_skip, Nat.zero_add]
end Go.Proofs.YtpmmchppfmojhaaGreatDoor


/- Tables, plain: what is read is a valid table, whose text is not much longer. -/
namespace Go.Proofs.YtpmmchppfmojhaaGreatDoor
set_option linter.unusedVariables false

/-! ### Weights of tokens -/
/-- At most what a token takes in a text. -/
def wt (t : KT) : Nat := if t.1 = 2 then t.2.length / 4 + 2 else t.2.length
def wtL (l : Ts) : Nat := (l.map wt).sum
theorem wtL_cons (t : KT) (l : Ts) : wtL (t :: l) = wt t + wtL l := by unfold wtL; rw [List.map_cons, List.sum_cons]
theorem wtL_app (l m : Ts) : wtL (l ++ m) = wtL l + wtL m := by unfold wtL; rw [List.map_append, List.sum_append]
theorem un_le4 (st : Nat) : ∀ (n : Nat) (l : List UInt8), l.length ≤ n → (un st l).2.1.length ≤ 4 * l.length
  | n, [], _ => by rw [un_nil]; exact Nat.le_refl _
  | 0, c :: l, h => by simp at h
  | n + 1, c :: l, hl => by
    have hne : (c :: l) ≠ [] := by simp
    by_cases h1 : (rd st (c :: l)).1 = []
    · rw [un_stop hne h1]; exact Nat.zero_le _
    · have hok := rd_ok st (c :: l)
      have hp := hok.2.2 h1
      have h5 : ((c :: l).drop (rd st (c :: l)).2).length = (c :: l).length - (rd st (c :: l)).2 := List.length_drop
      have hcl : (c :: l).length = l.length + 1 := rfl
      have ih := un_le4 st n ((c :: l).drop (rd st (c :: l)).2) (by rw [h5]; omega)
      rw [un_go hne h1]
      unfold jn
      split
      · show ((rd st (c :: l)).1 ++ _).length ≤ _
        rw [List.length_append]
        have := hok.1
        rw [h5] at ih
        omega
      · exact Nat.zero_le _
theorem one_wt {s : Str} {kd n : Nat} {tx : Str} (h : oneR s = .tok kd tx n) : wt (kd, tx) ≤ n := by
  cases s with
  | nil => cases h
  | cons c l =>
    rw [oneR_cons] at h
    split at h
    · cases h
    · split at h
      · injection h with h1 h2 h3
        subst h1 h2 h3
        show (if (1 : Nat) = 2 then _ else (List.take (wordN (c :: l)) (c :: l)).length) ≤ _
        rw [if_neg (by decide), List.length_take]
        exact Nat.min_le_left _ _
      · split at h
        · unfold quoR at h
          split at h
          · cases h
          · split at h
            · cases h
            · split at h
              · cases h
              · split at h
                · cases h
                · rename_i k hk _ _ _
                  injection h with h1 h2 h3
                  subst h1 h2 h3
                  unfold wt
                  rw [if_pos rfl]
                  have := un_le4 2 (l.take k).length (l.take k) (Nat.le_refl _)
                  rw [List.length_take] at this
                  dsimp only
                  omega
        · split at h
          · injection h with h1 h2 h3
            subst h1 h2 h3
            exact Nat.le_refl _
          · cases h
theorem gtF_wt : ∀ (f : Nat) (s : Str) (l : Ts), gtF f s = .inr l → wtL l ≤ s.length
  | 0, s, l, h => by
    rw [gtF] at h
    injection h with h
    subst h
    exact Nat.zero_le _
  | f + 1, s, l, h => by
    rw [gtF] at h
    split at h
    · injection h with h
      subst h
      exact Nat.zero_le _
    · cases h1 : oneR (s.drop (skN false s)) with
      | bad d e => rw [h1] at h; cases h
      | tok kd tx n =>
        rw [h1] at h
        dsimp only at h
        cases h2 : gtF f (s.drop (skN false s + n)) with
        | inl e => rw [h2] at h; cases h
        | inr m =>
          rw [h2] at h
          injection h with h
          subst h
          have h3 := gtF_wt f _ m h2
          have h4 := one_wt h1
          have h5 := (oneR_ok h1).2.2
          rw [List.length_drop] at h3 h5
          show wtL ((kd, tx) :: m) ≤ _
          rw [wtL_cons]
          omega
theorem gt_wt {s : Str} {l : Ts} (h : gt s = .inr l) : wtL l ≤ s.length := gtF_wt _ _ _ h
theorem gt_ok {s : Str} {l : Ts} (h : gt s = .inr l) : ∀ t ∈ l, OkTok t.1 t.2 := gt_okF _ _ _ h
/-! ### Lengths of lines -/
theorem sp_len (t : KT) : (spR t.1 t.2).length ≤ 24 * wt t := by
  unfold spR wt
  by_cases h : t.1 = 2
  · rw [if_pos h, if_pos h]
    have := escL_len 2 t.2
    simp only [List.length_cons, List.length_append, List.length_nil]
    omega
  · rw [if_neg h, if_neg h]; omega
theorem lineF_wt : ∀ l : Ts, (lineF l).length ≤ 24 * wtL l + l.length
  | [] => Nat.le_refl _
  | t :: l => by
    have ih := lineF_wt l
    have := sp_len t
    have e : lineF (t :: l) = (32 :: spR t.1 t.2) ++ lineF l := rfl
    rw [e, wtL_cons, List.length_append, List.length_cons, List.length_cons]
    omega
theorem lineS_wt (l : Ts) : (lineS l).length ≤ 24 * wtL l + l.length := by
  have := lineF_wt l
  unfold lineS
  rw [List.length_drop]
  omega
theorem itX_len (l : Ts) : (itX l).length ≤ 24 * wtL l + l.length + 3 := by
  have := lineS_wt l
  unfold itX
  simp only [List.length_cons, List.length_append, List.length_nil]
  omega
theorem enX_len (l : Ts) : (enX l).length ≤ 24 * wtL l + l.length + 2 := by
  have := lineS_wt l
  unfold enX
  simp only [List.length_cons, List.length_append, List.length_nil]
  omega
theorem wt_pos {t : KT} (h : OkTok t.1 t.2) : 1 ≤ wt t := by
  unfold wt
  split
  · omega
  · rcases h with ⟨_, h, _⟩ | ⟨h, _⟩ | ⟨_, c, h, _⟩
    · omega
    · contradiction
    · rw [h]; exact Nat.le_refl _
theorem wtL_len : ∀ {l : Ts}, (∀ t ∈ l, OkTok t.1 t.2) → l.length ≤ wtL l
  | [], _ => Nat.le_refl _
  | t :: l, h => by
    have ih := wtL_len (l := l) (fun x hx => h x (by simp [hx]))
    have := wt_pos (h t (by simp))
    rw [wtL_cons, List.length_cons]
    omega
theorem esc_asc : ∀ (f : Bool) (l : Str), asc l → escF 2 f l = l
  | _, [], _ => rfl
  | f, c :: l, h => by
    have hc := h c (by simp)
    unfold okB at hc
    have e : escOne 2 c.toNat f = [c] := by
      unfold escOne
      have h1 : tb 2 c.toNat f = false := by
        unfold tb
        simp
        omega
      have h2 : ctl c.toNat = false := by
        unfold ctl
        simp
        omega
      rw [if_neg (by decide), if_neg (by rw [h1]; decide), if_neg (by rw [h2]; decide)]
      congr 1
      exact UInt8.toNat_inj.1 (by rw [UInt8.toNat_ofNat']; omega)
    rw [escF, e, esc_asc false l (fun x hx => h x (by simp [hx]))]
    rfl
theorem ruX_len {k : Str} {u : Rul} (hc : okC u.2 = true) : (ruX k u).length ≤ k.length + u.1.length + 350 := by
  have h1 := cnd_len hc
  have h2 : escL 2 (cndT u.2) = cndT u.2 := esc_asc true _ (asc_cnd hc)
  unfold ruX itX
  have e : lineS [(1, k), (1, u.1), (2, cndT u.2)] = k ++ (32 :: u.1 ++ (32 :: (34 :: (escL 2 (cndT u.2) ++ [34])))) := by
    show List.drop 1 ((32 :: k) ++ ((32 :: u.1) ++ ((32 :: (34 :: (escL 2 (cndT u.2) ++ [34]))) ++ []))) = _
    rw [List.append_nil]
    rfl
  rw [e, h2]
  simp only [List.length_cons, List.length_append, List.length_nil]
  omega
/-! ### What a step of the parser has read -/
theorem thn_inv {α β : Type} {o : Option (α × Ts)} {f : α → Ts → Option β} {b : β} (h : thn o f = some b) : ∃ a r, o = some (a, r) ∧ f a r = some b := by
  cases o with
  | none => cases h
  | some p => exact ⟨p.1, p.2, rfl, h⟩
theorem tk1_inv {kd : Nat} {l r : Ts} {t : Str} (h : tk1 kd l = some (t, r)) : l = (kd, t) :: r := by
  cases l with
  | nil => cases h
  | cons a l =>
    have h : (if a.1 = kd then some (a.2, l) else none) = some (t, r) := h
    split at h
    · rename_i hk
      injection h with h
      injection h with h1 h2
      subst h1 h2 hk
      rfl
    · cases h
theorem mkP_inv {c : UInt8} {l r : Ts} {u : Unit} (h : mkP c l = some (u, r)) : l = (3, [c]) :: r := by
  obtain ⟨t, r2, h1, h2⟩ := thn_inv h
  split at h2
  · rename_i ht
    injection h2 with h2
    injection h2 with _ h3
    subst h3 ht
    exact tk1_inv h1
  · cases h2
theorem choP_inv {L : List Str} {l r : Ts} {t : Str} (h : choP L l = some (t, r)) : l = (1, t) :: r ∧ t ∈ L := by
  obtain ⟨t2, r2, h1, h2⟩ := thn_inv h
  split at h2
  · rename_i ht
    injection h2 with h2
    injection h2 with h3 h4
    subst h3 h4
    exact ⟨tk1_inv h1, ht⟩
  · cases h2
theorem numP_inv {m n : Nat} {l r : Ts} (h : numP m l = some (n, r)) : ∃ t, l = (1, t) :: r ∧ n ≤ m := by
  obtain ⟨t2, r2, h1, h2⟩ := thn_inv h
  split at h2
  · rename_i ht
    injection h2 with h2
    injection h2 with h3 h4
    subst h3 h4
    exact ⟨t2, tk1_inv h1, ht.2⟩
  · cases h2
theorem manyP_inv : ∀ {n : Nat} {l r : Ts} {ts : List Str}, manyP n l = some (ts, r) → l = ts.map (fun t => ((2, t) : KT)) ++ r ∧ ts.length = n
  | 0, l, r, ts, h => by
    injection h with h
    injection h with h1 h2
    subst h1 h2
    exact ⟨rfl, rfl⟩
  | n + 1, l, r, ts, h => by
    obtain ⟨t, r2, h1, h2⟩ := thn_inv h
    obtain ⟨ts2, r3, h3, h4⟩ := thn_inv h2
    injection h4 with h4
    injection h4 with h5 h6
    subst h5 h6
    obtain ⟨h7, h8⟩ := manyP_inv h3
    have h9 := tk1_inv h1
    subst h7 h9
    exact ⟨rfl, by rw [List.length_cons, h8]⟩
theorem rulP_inv {l r : Ts} {u : Rul} (h : rulP l = some (u, r)) : ∃ t, l = (1, u.1) :: (2, t) :: r ∧ u.1 ∈ clsL ∧ okC u.2 = true := by
  obtain ⟨c, r2, h1, h2⟩ := thn_inv h
  obtain ⟨t, r3, h3, h4⟩ := thn_inv h2
  obtain ⟨h5, h6⟩ := choP_inv h1
  have h7 := tk1_inv h3
  cases hp : prsM t with
  | none => rw [hp] at h4; cases h4
  | some d =>
    rw [hp] at h4
    injection h4 with h4
    injection h4 with h8 h9
    subst h8 h9 h7 h5
    exact ⟨t, rfl, h6, prs_ok hp⟩
theorem semi_inv {α : Type} {x y : α} {l r : Ts} (h : semi x l = some (y, r)) : y = x ∧ l = SC :: r := by
  obtain ⟨u, r2, h1, h2⟩ := thn_inv h
  injection h2 with h2
  injection h2 with h3 h4
  subst h3 h4
  exact ⟨rfl, mkP_inv h1⟩
end Go.Proofs.YtpmmchppfmojhaaGreatDoor


/- Tables, plain: what is read is a valid table, whose text is not much longer: items, entries, all. -/
namespace Go.Proofs.YtpmmchppfmojhaaGreatDoor
set_option linter.unusedVariables false

theorem itX_40 {m : Ts} (h : ∀ t ∈ m, OkTok t.1 t.2) : (itX m).length ≤ 40 * (wtL m + 1) := by
  have h1 := itX_len m
  have h2 := wtL_len h
  omega
theorem enX_40 {m : Ts} (h : ∀ t ∈ m, OkTok t.1 t.2) : (enX m).length ≤ 40 * (wtL m + 1) := by
  have h1 := enX_len m
  have h2 := wtL_len h
  omega
theorem wt_SC : wt SC = 1 := rfl
theorem decT_len (n : Nat) : (decT n).length ≤ 4 := by
  unfold decT
  split
  · have := (dtx_len n).2; omega
  · exact Nat.le_refl _
theorem decT_len9 {n : Nat} (h : n ≤ 9) : (decT n).length = 1 := by
  unfold decT dtx
  rw [if_pos (by omega), if_pos (by omega)]
  rfl
theorem itsX_len (x : Loc) : (itsX x).length = (dirX x.dir).length + (x.ca.flatMap (ruX kCar)).length + (x.oc.flatMap (ruX kOrd)).length + (syX x.sy).length + (x.li.flatMap liX).length + (x.un.flatMap unX).length + (x.da.flatMap daX).length + (namX kMon x.mo).length + (namX kDay x.dy).length := by
  unfold itsX
  simp only [List.length_append]
  omega
theorem flat_snoc {α : Type} (g : α → Str) (l : List α) (a : α) : ((l ++ [a]).flatMap g).length = (l.flatMap g).length + (g a).length := by
  rw [List.flatMap_append, List.length_append, List.flatMap_cons, List.flatMap_nil, List.append_nil]
theorem nd_snoc {α : Type} {a : α} {l : List α} (h : l.Nodup) (ha : a ∉ l) : (l ++ [a]).Nodup := by
  rw [List.nodup_append]
  refine ⟨h, by simp, ?_⟩
  intro x hx y hy
  rw [List.mem_singleton] at hy
  subst hy
  rintro rfl
  exact ha hx
theorem mem_snoc {α : Type} {p : α → Prop} {l : List α} {a : α} (h : ∀ x ∈ l, p x) (ha : p a) : ∀ x ∈ l ++ [a], p x := by
  intro x hx
  rcases List.mem_append.1 hx with h1 | h1
  · exact h x h1
  · obtain rfl := List.mem_singleton.1 h1; exact ha
theorem map2_ok {ts : List Str} {r : Ts} (h : ∀ t ∈ ts.map (fun t => ((2, t) : KT)) ++ r, OkTok t.1 t.2) : ∀ y ∈ ts, okX y := fun y hy => h (2, y) (List.mem_append_left _ (List.mem_map.2 ⟨y, hy, rfl⟩))
theorem four {ts : List Str} (h : ts.length = 4) : ts = [ts.getD 0 [], ts.getD 1 [], ts.getD 2 [], ts.getD 3 []] := by
  match ts, h with
  | [a, b, c, d], _ => rfl
/-- What an item keeps. -/
def ItI (x x2 : Loc) (l r : Ts) : Prop := LocV x2 ∧ x2.tag = x.tag ∧ x2.par = x.par ∧ (itsX x2).length + 40 * wtL r ≤ (itsX x).length + 40 * wtL l ∧ ∃ u, l = u ++ r
set_option maxHeartbeats 1000000 in
theorem item_inv {x x2 : Loc} {l r : Ts} (hl : ∀ t ∈ l, OkTok t.1 t.2) (hv : LocV x) (h : itemP x l = some (x2, r)) : ItI x x2 l r := by
  obtain ⟨k, r1, h1, h'⟩ := thn_inv h
  have e1 := tk1_inv h1
  clear h h1
  subst e1
  have h := h'
  clear h'
  by_cases c1 : k = kDir
  · subst c1
    rw [if_pos rfl] at h
    obtain ⟨d, r2, h2, h⟩ := thn_inv h
    obtain ⟨e2, hd⟩ := choP_inv h2
    split at h
    · rename_i h0
      obtain ⟨e3, e4⟩ := semi_inv h
      subst e2 e3 e4
      refine ⟨{ hv with dir := .inr hd }, rfl, rfl, ?_, ⟨[(1, kDir), (1, d), SC], rfl⟩⟩
      have ho : ∀ t ∈ ([(1, kDir), (1, d)] : Ts), OkTok t.1 t.2 := fun t ht => hl t (List.mem_append_left (SC :: r) ht)
      have h40 := itX_40 ho
      have hx : (dirX x.dir).length = 0 := by unfold dirX; rw [if_pos h0]; rfl
      have hx2 : (dirX d).length ≤ 40 * (wtL [(1, kDir), (1, d)] + 1) := by
        unfold dirX
        split
        · exact Nat.zero_le _
        · exact h40
      rw [itsX_len, itsX_len, hx, wtL_cons, wtL_cons, wtL_cons, wt_SC]
      rw [wtL_cons, wtL_cons, show wtL [] = 0 from rfl] at hx2
      dsimp only
      omega
    · cases h
  rw [if_neg c1] at h
  by_cases c2 : k = kCar
  · subst c2
    rw [if_pos rfl] at h
    obtain ⟨u, r2, h2, h⟩ := thn_inv h
    obtain ⟨t, e2, hcl, hok⟩ := rulP_inv h2
    split at h
    · cases h
    · rename_i hnd
      obtain ⟨e3, e4⟩ := semi_inv h
      subst e2 e3 e4
      refine ⟨{ hv with ca := ⟨mem_snoc hv.ca.1 ⟨hcl, hok⟩, by rw [List.map_append]; exact nd_snoc hv.ca.2 hnd⟩ }, rfl, rfl, ?_, ⟨[(1, kCar), (1, u.1), (2, t), SC], rfl⟩⟩
      have hru := ruX_len (k := kCar) hok
      have w1 : wt (1, kCar) = 8 := rfl
      have w2 : wt (1, u.1) = u.1.length := rfl
      have w3 : 2 ≤ wt (2, t) := Nat.le_add_left _ _
      have hk : kCar.length = 8 := rfl
      rw [itsX_len, itsX_len]
      dsimp only
      rw [flat_snoc, wtL_cons, wtL_cons, wtL_cons, wtL_cons, wt_SC, w1, w2]
      have h3 : 3 ≤ u.1.length := (show ∀ c ∈ clsL, 3 ≤ c.length by decide) _ hcl
      omega
  rw [if_neg c2] at h
  by_cases c3 : k = kOrd
  · subst c3
    rw [if_pos rfl] at h
    obtain ⟨u, r2, h2, h⟩ := thn_inv h
    obtain ⟨t, e2, hcl, hok⟩ := rulP_inv h2
    split at h
    · cases h
    · rename_i hnd
      obtain ⟨e3, e4⟩ := semi_inv h
      subst e2 e3 e4
      refine ⟨{ hv with oc := ⟨mem_snoc hv.oc.1 ⟨hcl, hok⟩, by rw [List.map_append]; exact nd_snoc hv.oc.2 hnd⟩ }, rfl, rfl, ?_, ⟨[(1, kOrd), (1, u.1), (2, t), SC], rfl⟩⟩
      have hru := ruX_len (k := kOrd) hok
      have w1 : wt (1, kOrd) = 7 := rfl
      have w2 : wt (1, u.1) = u.1.length := rfl
      have w3 : 2 ≤ wt (2, t) := Nat.le_add_left _ _
      have hk : kOrd.length = 7 := rfl
      rw [itsX_len, itsX_len]
      dsimp only
      rw [flat_snoc, wtL_cons, wtL_cons, wtL_cons, wtL_cons, wt_SC, w1, w2]
      have h3 : 3 ≤ u.1.length := (show ∀ c ∈ clsL, 3 ≤ c.length by decide) _ hcl
      omega
  rw [if_neg c3] at h
  by_cases c4 : k = kSym
  · subst c4
    rw [if_pos rfl] at h
    obtain ⟨ts, r2, h2, h⟩ := thn_inv h
    obtain ⟨p, r3, h3, h⟩ := thn_inv h
    obtain ⟨s, r4, h4, h⟩ := thn_inv h
    obtain ⟨e2, e2n⟩ := manyP_inv h2
    obtain ⟨t3, e3, hp⟩ := numP_inv h3
    obtain ⟨t4, e4, hs⟩ := numP_inv h4
    split at h
    · cases h
    rename_i hde
    split at h
    · rename_i h0
      obtain ⟨e5, e6⟩ := semi_inv h
      subst e2 e3 e4 e5 e6
      have e7 := four e2n
      have hmt := map2_ok (ts := ts) (r := (1, t3) :: (1, t4) :: SC :: r) (fun t ht => hl t (List.mem_cons_of_mem _ ht))
      have hsx : symOk ⟨ts.getD 0 [], ts.getD 1 [], ts.getD 2 [], ts.getD 3 [], p, s⟩ := by
        refine .inr ⟨hde, hmt _ ?_, hmt _ ?_, hmt _ ?_, hmt _ ?_, by dsimp only; omega, by dsimp only; omega, by dsimp only; omega, by dsimp only; omega⟩
        · rw [e7]; simp
        · rw [e7]; simp
        · rw [e7]; simp
        · rw [e7]; simp
      refine ⟨{ hv with sy := hsx }, rfl, rfl, ?_, ⟨(1, kSym) :: (ts.map (fun t => ((2, t) : KT)) ++ [(1, t3), (1, t4), SC]), by simp⟩⟩
      have hx : (syX x.sy).length = 0 := by unfold syX; rw [if_pos h0]; rfl
      obtain ⟨a, ha⟩ : ∃ a, ts.getD 0 [] = a := ⟨_, rfl⟩
      obtain ⟨b, hb⟩ : ∃ a, ts.getD 1 [] = a := ⟨_, rfl⟩
      obtain ⟨c, hc⟩ : ∃ a, ts.getD 2 [] = a := ⟨_, rfl⟩
      obtain ⟨d, hd⟩ : ∃ a, ts.getD 3 [] = a := ⟨_, rfl⟩
      rw [ha, hb, hc, hd] at e7 hsx ⊢
      rw [ha] at hde
      have hx2 : (syX ⟨a, b, c, d, p, s⟩).length ≤ 24 * wtL [(1, kSym), (2, a), (2, b), (2, c), (2, d), (1, decT p), (1, decT s)] + 10 := by
        unfold syX
        rw [if_neg hde]
        have := itX_len [(1, kSym), (2, a), (2, b), (2, c), (2, d), (1, decT p), (1, decT s)]
        exact this
      have w5 : wt (1, decT p) = 1 := decT_len9 hp
      have w6 : wt (1, decT s) = 1 := decT_len9 hs
      have w7 : wt (1, kSym) = 7 := rfl
      simp only [wtL_cons, w5, w6, w7, show wtL [] = 0 from rfl] at hx2
      rw [itsX_len, itsX_len, hx, e7]
      dsimp only
      simp only [List.map_cons, List.map_nil, List.cons_append, List.nil_append, wtL_cons, wt_SC, w7]
      omega
    · cases h
  rw [if_neg c4] at h
  by_cases c5 : k = kLis
  · subst c5
    rw [if_pos rfl] at h
    obtain ⟨s, r2, h2, h⟩ := thn_inv h
    obtain ⟨ts, r3, h3, h⟩ := thn_inv h
    have e2 := tk1_inv h2
    obtain ⟨e3, e3n⟩ := manyP_inv h3
    split at h
    · cases h
    · rename_i hnd
      rw [not_or] at hnd
      obtain ⟨e5, e6⟩ := semi_inv h
      subst e2 e3 e5 e6
      have e7 := four e3n
      have hmt := map2_ok (ts := ts) (r := SC :: r) (fun t ht => hl t (List.mem_cons_of_mem _ (List.mem_cons_of_mem _ ht)))
      have hs : okW s := hl (1, s) (by simp)
      have hk : OkTok 1 kLis := hl (1, kLis) (by simp)
      obtain ⟨a, ha⟩ : ∃ a, ts.getD 0 [] = a := ⟨_, rfl⟩
      obtain ⟨b, hb⟩ : ∃ a, ts.getD 1 [] = a := ⟨_, rfl⟩
      obtain ⟨c, hc⟩ : ∃ a, ts.getD 2 [] = a := ⟨_, rfl⟩
      obtain ⟨d, hd⟩ : ∃ a, ts.getD 3 [] = a := ⟨_, rfl⟩
      rw [ha, hb, hc, hd] at e7 ⊢
      subst e7
      have oa := hmt a (by simp)
      have ob := hmt b (by simp)
      have oc := hmt c (by simp)
      have od := hmt d (by simp)
      refine ⟨{ hv with li := mem_snoc hv.li ⟨hs, oa, ob, oc, od⟩, liN := by rw [List.map_append]; exact nd_snoc hv.liN hnd.1, liL := by rw [List.length_append, List.length_singleton]; have := hnd.2; omega }, rfl, rfl, ?_, ⟨[(1, kLis), (1, s), (2, a), (2, b), (2, c), (2, d), SC], rfl⟩⟩
      have ho : ∀ t ∈ ([(1, kLis), (1, s), (2, a), (2, b), (2, c), (2, d)] : Ts), OkTok t.1 t.2 := by
        intro t ht
        simp only [List.mem_cons, List.not_mem_nil, or_false] at ht
        rcases ht with rfl | rfl | rfl | rfl | rfl | rfl
        · exact hk
        · exact hs
        · exact oa
        · exact ob
        · exact oc
        · exact od
      have h40 := itX_40 ho
      have hlx : (liX ⟨s, a, b, c, d⟩).length = (itX [(1, kLis), (1, s), (2, a), (2, b), (2, c), (2, d)]).length := rfl
      rw [itsX_len, itsX_len]
      dsimp only
      simp only [wtL_cons, show wtL [] = 0 from rfl] at h40
      simp only [List.map_cons, List.map_nil, List.cons_append, List.nil_append, flat_snoc, wtL_cons, wt_SC, hlx]
      omega
  rw [if_neg c5] at h
  by_cases c6 : k = kUni
  · subst c6
    rw [if_pos rfl] at h
    obtain ⟨u, r2, h2, h⟩ := thn_inv h
    obtain ⟨c, r3, h3, h⟩ := thn_inv h
    obtain ⟨p, r4, h4, h⟩ := thn_inv h
    have e2 := tk1_inv h2
    obtain ⟨e3, hcl⟩ := choP_inv h3
    have e4 := tk1_inv h4
    split at h
    · cases h
    · rename_i hnd
      rw [not_or] at hnd
      obtain ⟨e5, e6⟩ := semi_inv h
      subst e2 e3 e4 e5 e6
      have ho : ∀ t ∈ ([(1, kUni), (1, u), (1, c), (2, p)] : Ts), OkTok t.1 t.2 := fun t ht => hl t (List.mem_append_left (SC :: r) ht)
      refine ⟨{ hv with un := mem_snoc hv.un ⟨ho (1, u) (by simp), hcl, ho (2, p) (by simp)⟩, unN := by rw [List.map_append]; exact nd_snoc hv.unN hnd.1, unL := by rw [List.length_append, List.length_singleton]; have := hnd.2; omega }, rfl, rfl, ?_, ⟨[(1, kUni), (1, u), (1, c), (2, p), SC], rfl⟩⟩
      have h40 := itX_40 ho
      have hlx : (unX ⟨u, c, p⟩).length = (itX [(1, kUni), (1, u), (1, c), (2, p)]).length := rfl
      rw [itsX_len, itsX_len]
      dsimp only
      simp only [wtL_cons, show wtL [] = 0 from rfl] at h40
      simp only [flat_snoc, wtL_cons, wt_SC, hlx]
      omega
  rw [if_neg c6] at h
  by_cases c7 : k = kDat
  · subst c7
    rw [if_pos rfl] at h
    obtain ⟨s, r2, h2, h⟩ := thn_inv h
    obtain ⟨p, r4, h4, h⟩ := thn_inv h
    have e2 := tk1_inv h2
    have e4 := tk1_inv h4
    split at h
    · cases h
    · rename_i hnd
      rw [not_or] at hnd
      obtain ⟨e5, e6⟩ := semi_inv h
      subst e2 e4 e5 e6
      have ho : ∀ t ∈ ([(1, kDat), (1, s), (2, p)] : Ts), OkTok t.1 t.2 := fun t ht => hl t (List.mem_append_left (SC :: r) ht)
      refine ⟨{ hv with da := mem_snoc hv.da ⟨ho (1, s) (by simp), ho (2, p) (by simp)⟩, daN := by rw [List.map_append]; exact nd_snoc hv.daN hnd.1, daL := by rw [List.length_append, List.length_singleton]; have := hnd.2; omega }, rfl, rfl, ?_, ⟨[(1, kDat), (1, s), (2, p), SC], rfl⟩⟩
      have h40 := itX_40 ho
      have hlx : (daX (s, p)).length = (itX [(1, kDat), (1, s), (2, p)]).length := rfl
      rw [itsX_len, itsX_len]
      dsimp only
      simp only [wtL_cons, show wtL [] = 0 from rfl] at h40
      simp only [flat_snoc, wtL_cons, wt_SC, hlx]
      omega
  rw [if_neg c7] at h
  by_cases c8 : k = kMon
  · subst c8
    rw [if_pos rfl] at h
    obtain ⟨ts, r3, h3, h⟩ := thn_inv h
    obtain ⟨e3, e3n⟩ := manyP_inv h3
    split at h
    · rename_i h0
      obtain ⟨e5, e6⟩ := semi_inv h
      subst e3 e5 e6
      have hmt := map2_ok (ts := ts) (r := SC :: r) (fun t ht => hl t (List.mem_cons_of_mem _ ht))
      refine ⟨{ hv with mo := hmt, moL := .inr e3n }, rfl, rfl, ?_, ⟨(1, kMon) :: (ts.map (fun t => ((2, t) : KT)) ++ [SC]), by simp⟩⟩
      have ho : ∀ t ∈ ((1, kMon) :: ts.map (fun t => ((2, t) : KT)) : Ts), OkTok t.1 t.2 := fun t ht => hl t (by
        rcases List.mem_cons.1 ht with rfl | h
        · simp
        · exact List.mem_cons_of_mem _ (List.mem_append_left _ h))
      have h40 := itX_40 ho
      have hx : (namX kMon x.mo).length = 0 := by unfold namX; rw [if_pos h0]; rfl
      have hx2 : (namX kMon ts).length ≤ (itX ((1, kMon) :: ts.map (fun t => ((2, t) : KT)))).length := by
        unfold namX
        split
        · exact Nat.zero_le _
        · exact Nat.le_refl _
      rw [itsX_len, itsX_len, hx]
      dsimp only
      rw [wtL_cons] at h40
      rw [wtL_cons, wtL_app, wtL_cons, wt_SC]
      omega
    · cases h
  rw [if_neg c8] at h
  by_cases c9 : k = kDay
  · subst c9
    rw [if_pos rfl] at h
    obtain ⟨ts, r3, h3, h⟩ := thn_inv h
    obtain ⟨e3, e3n⟩ := manyP_inv h3
    split at h
    · rename_i h0
      obtain ⟨e5, e6⟩ := semi_inv h
      subst e3 e5 e6
      have hmt := map2_ok (ts := ts) (r := SC :: r) (fun t ht => hl t (List.mem_cons_of_mem _ ht))
      refine ⟨{ hv with dy := hmt, dyL := .inr e3n }, rfl, rfl, ?_, ⟨(1, kDay) :: (ts.map (fun t => ((2, t) : KT)) ++ [SC]), by simp⟩⟩
      have ho : ∀ t ∈ ((1, kDay) :: ts.map (fun t => ((2, t) : KT)) : Ts), OkTok t.1 t.2 := fun t ht => hl t (by
        rcases List.mem_cons.1 ht with rfl | h
        · simp
        · exact List.mem_cons_of_mem _ (List.mem_append_left _ h))
      have h40 := itX_40 ho
      have hx : (namX kDay x.dy).length = 0 := by unfold namX; rw [if_pos h0]; rfl
      have hx2 : (namX kDay ts).length ≤ (itX ((1, kDay) :: ts.map (fun t => ((2, t) : KT)))).length := by
        unfold namX
        split
        · exact Nat.zero_le _
        · exact Nat.le_refl _
      rw [itsX_len, itsX_len, hx]
      dsimp only
      rw [wtL_cons] at h40
      rw [wtL_cons, wtL_app, wtL_cons, wt_SC]
      omega
    · cases h
  rw [if_neg c9] at h
  cases h
end Go.Proofs.YtpmmchppfmojhaaGreatDoor


/- Tables, plain: what is read is a valid table, whose text is not much longer: locales, entries, texts. -/
namespace Go.Proofs.YtpmmchppfmojhaaGreatDoor
set_option linter.unusedVariables false

theorem ok_suf {l u r : Ts} (h : l = u ++ r) (hl : ∀ t ∈ l, OkTok t.1 t.2) : ∀ t ∈ r, OkTok t.1 t.2 := fun t ht => hl t (by rw [h]; exact List.mem_append_right _ ht)
theorem its_inv : ∀ (f : Nat) (x x2 : Loc) (l r : Ts), (∀ t ∈ l, OkTok t.1 t.2) → LocV x → itemsP f x l = some (x2, r) → ItI x x2 l r
  | 0, x, x2, l, r, _, _, h => by cases h
  | f + 1, x, x2, l, r, hl, hv, h => by
    rw [itemsP] at h
    split at h
    · obtain ⟨y, r1, h1, h2⟩ := thn_inv h
      obtain ⟨a1, a2, a3, a4, u, a5⟩ := item_inv hl hv h1
      obtain ⟨b1, b2, b3, b4, v, b5⟩ := its_inv f y x2 r1 r (ok_suf a5 hl) a1 h2
      exact ⟨b1, b2.trans a2, b3.trans a3, by omega, u ++ v, by rw [a5, b5, List.append_assoc]⟩
    · injection h with h
      injection h with h1 h2
      subst h1 h2
      exact ⟨hv, rfl, rfl, Nat.le_refl _, [], rfl⟩
theorem parP_inv {l r : Ts} {par : Str} (h : parP l = some (par, r)) : (par = [] ∧ l = r) ∨ l = (1, kPar) :: (1, par) :: r := by
  unfold parP at h
  split at h
  · rename_i hh
    obtain ⟨k, r1, h1, h2⟩ := thn_inv h
    have e1 := tk1_inv h1
    have e2 := tk1_inv h2
    subst e1 e2
    injection hh with hh
    injection hh with _ hk
    subst hk
    exact .inr rfl
  · injection h with h
    injection h with h1 h2
    exact .inl ⟨h1.symm, h2⟩
theorem loc_inv {l r : Ts} {x : Loc} (hl : ∀ t ∈ l, OkTok t.1 t.2) (h : locP l = some (x, r)) : LocV x ∧ (loX x).length + 40 * wtL r ≤ 40 * (6 + wtL l) ∧ ∃ u, l = u ++ r := by
  obtain ⟨tag, r1, h1, ha⟩ := thn_inv h
  obtain ⟨par, r2, h2, hb⟩ := thn_inv ha
  obtain ⟨u3, r3, h3, hc⟩ := thn_inv hb
  obtain ⟨y, r4, h4, hd⟩ := thn_inv hc
  obtain ⟨u5, r5, h5, he⟩ := thn_inv hd
  injection he with he
  injection he with e6 e7
  subst e6 e7
  have e1 := tk1_inv h1
  have e3 := mkP_inv h3
  have e5 := mkP_inv h5
  subst e3 e5
  clear ha hb hc hd h1 h3 h5 h
  have hlen : ∀ a b c : Nat, (lineS ((1, kLoc) :: (1, tag) :: (if par = [] then [] else [(1, kPar), (1, par)]))).length ≤ 24 * (6 + tag.length + (if par = [] then 0 else 6 + par.length)) + 4 := fun _ _ _ => by
    by_cases h0 : par = []
    · rw [if_pos h0, if_pos h0]
      have := lineS_wt [(1, kLoc), (1, tag)]
      simp only [wtL_cons, show wtL [] = 0 from rfl, show wt (1, kLoc) = 6 from rfl, show wt (1, tag) = tag.length from rfl, List.length_cons, List.length_nil] at this
      omega
    · rw [if_neg h0, if_neg h0]
      have := lineS_wt [(1, kLoc), (1, tag), (1, kPar), (1, par)]
      simp only [wtL_cons, show wtL [] = 0 from rfl, show wt (1, kLoc) = 6 from rfl, show wt (1, tag) = tag.length from rfl, show wt (1, kPar) = 6 from rfl, show wt (1, par) = par.length from rfl, List.length_cons, List.length_nil] at this
      omega
  have hlx : ∀ z : Loc, z.tag = tag → z.par = par → (loX z).length ≤ 24 * (6 + tag.length + (if par = [] then 0 else 6 + par.length)) + 4 + 5 + (itsX z).length := by
    intro z ht hp
    have := hlen 0 0 0
    unfold loX parTk
    rw [ht, hp]
    simp only [List.length_append, List.length_cons, List.length_nil] at this ⊢
    omega
  rcases parP_inv h2 with ⟨hp0, e2⟩ | e2
  · subst e2 e1
    have hl3 : ∀ t ∈ r3, OkTok t.1 t.2 := fun t ht => hl t (by simp [ht])
    have hv0 : LocV (loc0 tag par) := ⟨hl (1, tag) (by simp), .inl hp0, .inl rfl, ⟨(fun r h => by cases h), List.nodup_nil⟩, ⟨(fun r h => by cases h), List.nodup_nil⟩, .inl rfl, (fun r h => by cases h), List.nodup_nil, Nat.zero_le _, (fun r h => by cases h), List.nodup_nil, Nat.zero_le _, (fun r h => by cases h), List.nodup_nil, Nat.zero_le _, (fun r h => by cases h), .inl rfl, (fun r h => by cases h), .inl rfl⟩
    obtain ⟨a1, a2, a3, a4, u, a5⟩ := its_inv _ _ _ _ _ hl3 hv0 h4
    refine ⟨a1, ?_, ⟨(1, tag) :: (3, [123]) :: (u ++ [(3, [125])]), by rw [a5]; simp⟩⟩
    have hx := hlx y a2 a3
    rw [if_pos hp0] at hx
    rw [show (itsX (loc0 tag par)).length = 0 from rfl, wtL_cons] at a4
    rw [wtL_cons, wtL_cons, show wt (1, tag) = tag.length from rfl]
    have w3 : wt (3, [123]) = 1 := rfl
    have w4 : wt (3, [125]) = 1 := rfl
    omega
  · subst e2 e1
    have hl3 : ∀ t ∈ r3, OkTok t.1 t.2 := fun t ht => hl t (by simp [ht])
    have hpw : okW par := hl (1, par) (by simp)
    have hv0 : LocV (loc0 tag par) := ⟨hl (1, tag) (by simp), .inr hpw, .inl rfl, ⟨(fun r h => by cases h), List.nodup_nil⟩, ⟨(fun r h => by cases h), List.nodup_nil⟩, .inl rfl, (fun r h => by cases h), List.nodup_nil, Nat.zero_le _, (fun r h => by cases h), List.nodup_nil, Nat.zero_le _, (fun r h => by cases h), List.nodup_nil, Nat.zero_le _, (fun r h => by cases h), .inl rfl, (fun r h => by cases h), .inl rfl⟩
    obtain ⟨a1, a2, a3, a4, u, a5⟩ := its_inv _ _ _ _ _ hl3 hv0 h4
    refine ⟨a1, ?_, ⟨(1, tag) :: (1, kPar) :: (1, par) :: (3, [123]) :: (u ++ [(3, [125])]), by rw [a5]; simp⟩⟩
    have hx := hlx y a2 a3
    have hle : (if par = [] then 0 else 6 + par.length) ≤ 6 + par.length := by split <;> omega
    rw [show (itsX (loc0 tag par)).length = 0 from rfl, wtL_cons] at a4
    rw [wtL_cons, wtL_cons, wtL_cons, wtL_cons, show wt (1, tag) = tag.length from rfl, show wt (1, kPar) = 6 from rfl, show wt (1, par) = par.length from rfl]
    have w3 : wt (3, [123]) = 1 := rfl
    have w4 : wt (3, [125]) = 1 := rfl
    omega
theorem tabX_len (t : Tab) : (tabX t).length = (t.lo.flatMap loX).length + (t.al.flatMap alX).length + (t.ne.flatMap neX).length := by
  unfold tabX
  simp only [List.length_append]
  omega
def EnI (t t2 : Tab) (l r : Ts) : Prop := TabV t2 ∧ (tabX t2).length + 40 * wtL r ≤ (tabX t).length + 40 * wtL l ∧ ∃ u, l = u ++ r
theorem ent_inv {t t2 : Tab} {l r : Ts} (hl : ∀ t ∈ l, OkTok t.1 t.2) (hv : TabV t) (h : entP t l = some (t2, r)) : EnI t t2 l r := by
  obtain ⟨k, r1, h1, h'⟩ := thn_inv h
  have e1 := tk1_inv h1
  clear h h1
  subst e1
  have h := h'
  clear h'
  by_cases c1 : k = kLoc
  · subst c1
    rw [if_pos rfl] at h
    obtain ⟨x, r2, h2, h3⟩ := thn_inv h
    obtain ⟨a1, a2, u, a3⟩ := loc_inv (fun t ht => hl t (List.mem_cons_of_mem _ ht)) h2
    split at h3
    · cases h3
    · rename_i hn
      injection h3 with h3
      injection h3 with e2 e3
      subst e2 e3
      refine ⟨{ hv with lo := mem_snoc hv.lo a1, loL := by rw [List.length_append, List.length_singleton]; omega }, ?_, ⟨(1, kLoc) :: u, by rw [a3]; rfl⟩⟩
      rw [tabX_len, tabX_len]
      dsimp only
      rw [flat_snoc, wtL_cons, show wt (1, kLoc) = 6 from rfl]
      omega
  rw [if_neg c1] at h
  by_cases c2 : k = kAli
  · subst c2
    rw [if_pos rfl] at h
    obtain ⟨f, r2, h2, h3⟩ := thn_inv h
    obtain ⟨g, r3, h4, h5⟩ := thn_inv h3
    have e2 := tk1_inv h2
    have e3 := tk1_inv h4
    split at h5
    · cases h5
    · rename_i hn
      obtain ⟨e4, e5⟩ := semi_inv h5
      subst e2 e3 e4 e5
      have ho : ∀ t ∈ ([(1, kAli), (1, f), (1, g)] : Ts), OkTok t.1 t.2 := fun t ht => hl t (List.mem_append_left (SC :: r) ht)
      refine ⟨{ hv with al := mem_snoc hv.al ⟨ho (1, f) (by simp), ho (1, g) (by simp)⟩, alL := by rw [List.length_append, List.length_singleton]; omega }, ?_, ⟨[(1, kAli), (1, f), (1, g), SC], rfl⟩⟩
      have h40 := enX_40 ho
      have hlx : (alX (f, g)).length = (enX [(1, kAli), (1, f), (1, g)]).length := rfl
      rw [tabX_len, tabX_len]
      dsimp only
      simp only [wtL_cons, show wtL [] = 0 from rfl] at h40
      simp only [flat_snoc, wtL_cons, wt_SC, hlx]
      omega
  rw [if_neg c2] at h
  by_cases c3 : k = kNea
  · subst c3
    rw [if_pos rfl] at h
    obtain ⟨f, r2, h2, h3⟩ := thn_inv h
    obtain ⟨g, r3, h4, h5⟩ := thn_inv h3
    obtain ⟨n, r4, h6, h7⟩ := thn_inv h5
    have e2 := tk1_inv h2
    have e3 := tk1_inv h4
    obtain ⟨tn, e4, hn1⟩ := numP_inv h6
    split at h7
    · cases h7
    · rename_i hn
      obtain ⟨e5, e6⟩ := semi_inv h7
      subst e2 e3 e4 e5 e6
      have of_ : okW f := hl (1, f) (by simp)
      have og : okW g := hl (1, g) (by simp)
      refine ⟨{ hv with ne := mem_snoc hv.ne ⟨of_, og, by dsimp only; omega, by dsimp only; omega⟩, neL := by rw [List.length_append, List.length_singleton]; omega }, ?_, ⟨[(1, kNea), (1, f), (1, g), (1, tn), SC], rfl⟩⟩
      have h40 := enX_len [(1, kNea), (1, f), (1, g), (1, decT n)]
      have hlx : (neX ⟨f, g, (n : Int)⟩).length = (enX [(1, kNea), (1, f), (1, g), (1, decT n)]).length := rfl
      have w1 : wt (1, kNea) = 4 := rfl
      have w2 : wt (1, decT n) ≤ 4 := decT_len n
      have w3 : 1 ≤ wt (1, tn) := wt_pos (hl (1, tn) (by simp))
      rw [tabX_len, tabX_len]
      dsimp only
      simp only [wtL_cons, show wtL [] = 0 from rfl, List.length_cons, List.length_nil] at h40
      simp only [flat_snoc, wtL_cons, wt_SC, hlx]
      omega
  rw [if_neg c3] at h
  cases h
theorem ents_inv : ∀ (f : Nat) (t t2 : Tab) (l : Ts), (∀ t ∈ l, OkTok t.1 t.2) → TabV t → entsP f t l = some t2 → TabV t2 ∧ (tabX t2).length ≤ (tabX t).length + 40 * wtL l
  | 0, t, t2, l, _, _, h => by cases h
  | f + 1, t, t2, l, hl, hv, h => by
    rw [entsP] at h
    split at h
    · injection h with h
      subst h
      exact ⟨hv, by omega⟩
    · obtain ⟨t1, r1, h1, h2⟩ := thn_inv h
      obtain ⟨a1, a2, u, a3⟩ := ent_inv hl hv h1
      obtain ⟨b1, b2⟩ := ents_inv f t1 t2 r1 (ok_suf a3 hl) a1 h2
      exact ⟨b1, by omega⟩
theorem tab0_ok : TabV tab0 := ⟨(fun x h => by cases h), Nat.zero_le _, (fun x h => by cases h), Nat.zero_le _, (fun x h => by cases h), Nat.zero_le _⟩
/-- What is read is a valid table; its text is at most 40 times as long. -/
theorem text_inv {s : Str} {t : Tab} (h : prsT s = some t) : TabV t ∧ (tabX t).length ≤ 40 * s.length := by
  unfold prsT at h
  split at h
  · cases hg : gt s with
    | inl e => rw [hg] at h; cases h
    | inr l =>
      rw [hg] at h
      obtain ⟨h1, h2⟩ := ents_inv _ _ _ _ (gt_ok hg) tab0_ok h
      refine ⟨h1, ?_⟩
      have h3 := gt_wt hg
      have h4 : (tabX tab0).length = 0 := rfl
      omega
  · cases h
end Go.Proofs.YtpmmchppfmojhaaGreatDoor


/- Tables, plain: two texts, one behind the other. -/
namespace Go.Proofs.YtpmmchppfmojhaaGreatDoor
set_option linter.unusedVariables false

/-- What is read does not depend on what follows. -/
def App {α : Type} (p : Ts → Option (α × Ts)) : Prop := ∀ (l r : Ts) (a : α) (R : Ts), p l = some (a, r) → p (l ++ R) = some (a, r ++ R)
theorem app_tk1 (kd : Nat) : App (tk1 kd) := fun l r a R h => by
  rw [tk1_inv h, List.cons_append, tk1_cons]
theorem app_thn {α β : Type} {p : Ts → Option (α × Ts)} {f : α → Ts → Option (β × Ts)} (h : App p) (k : ∀ a, App (f a)) : App (fun l => thn (p l) f) := fun l r b R e => by
  obtain ⟨a, r1, h1, h2⟩ := thn_inv e
  show thn (p (l ++ R)) f = _
  rw [h l r1 a R h1]
  exact k a r1 r b R h2
theorem app_none {α : Type} : App (fun _ => (none : Option (α × Ts))) := fun l r a R h => by cases h
theorem app_some {α : Type} (a : α) : App (fun l => some (a, l)) := fun l r b R h => by
  injection h with h
  injection h with h1 h2
  subst h1 h2
  rfl
theorem app_ite {α : Type} {c : Prop} [Decidable c] {f g : Ts → Option (α × Ts)} (h : App f) (k : App g) : App (fun l => if c then f l else g l) := fun l r a R e => by
  by_cases hc : c
  · simp only [if_pos hc] at e ⊢
    exact h l r a R e
  · simp only [if_neg hc] at e ⊢
    exact k l r a R e
theorem app_mk (c : UInt8) : App (mkP c) := app_thn (app_tk1 3) (fun t => app_ite (app_some ()) app_none)
theorem app_cho (L : List Str) : App (choP L) := app_thn (app_tk1 1) (fun t => app_ite (app_some t) app_none)
theorem app_num (m : Nat) : App (numP m) := app_thn (app_tk1 1) (fun t => app_ite (app_some _) app_none)
theorem app_many : ∀ n : Nat, App (manyP n)
  | 0 => app_some []
  | n + 1 => app_thn (app_tk1 2) (fun t => app_thn (app_many n) (fun ts => app_some _))
theorem app_rul : App rulP := app_thn (app_cho clsL) (fun c => app_thn (app_tk1 2) (fun t => by cases prsM t with
  | none => exact app_none
  | some d => exact app_some (c, d)))
theorem app_semi {α : Type} (x : α) : App (semi x) := app_thn (app_mk 59) (fun _ => app_some x)
theorem app_item (x : Loc) : App (itemP x) := app_thn (app_tk1 1) (fun k =>
  app_ite (app_thn (app_cho dirL) (fun d => app_ite (app_semi _) app_none))
  (app_ite (app_thn app_rul (fun u => app_ite app_none (app_semi _)))
  (app_ite (app_thn app_rul (fun u => app_ite app_none (app_semi _)))
  (app_ite (app_thn (app_many 4) (fun ts => app_thn (app_num 9) (fun p => app_thn (app_num 9) (fun s => app_ite app_none (app_ite (app_semi _) app_none)))))
  (app_ite (app_thn (app_tk1 1) (fun s => app_thn (app_many 4) (fun ts => app_ite app_none (app_semi _))))
  (app_ite (app_thn (app_tk1 1) (fun u => app_thn (app_cho cls6) (fun c => app_thn (app_tk1 2) (fun p => app_ite app_none (app_semi _)))))
  (app_ite (app_thn (app_tk1 1) (fun s => app_thn (app_tk1 2) (fun p => app_ite app_none (app_semi _))))
  (app_ite (app_thn (app_many 12) (fun ts => app_ite (app_semi _) app_none))
  (app_ite (app_thn (app_many 7) (fun ts => app_ite (app_semi _) app_none)) app_none)))))))))
theorem its_app : ∀ (f : Nat) (x x2 : Loc) (l r R : Ts), itemsP f x l = some (x2, r) → r ≠ [] → ∀ g, f ≤ g → itemsP g x (l ++ R) = some (x2, r ++ R)
  | 0, x, x2, l, r, R, h, _, _, _ => by cases h
  | f + 1, x, x2, l, r, R, h, hr, 0, hg => by omega
  | f + 1, x, x2, l, r, R, h, hr, g + 1, hg => by
    rw [itemsP] at h ⊢
    split at h
    · rename_i hh
      have hh2 : (l ++ R).head?.map Prod.fst = some 1 := by
        cases l with
        | nil => cases hh
        | cons a l => exact hh
      rw [if_pos hh2]
      obtain ⟨y, r1, h1, h2⟩ := thn_inv h
      rw [app_item x l r1 y R h1, thn_some]
      exact its_app f y x2 r1 r R h2 hr g (by omega)
    · rename_i hh
      injection h with h
      injection h with h1 h2
      subst h1 h2
      have hh2 : ¬ (l ++ R).head?.map Prod.fst = some 1 := by
        cases l with
        | nil => exact absurd rfl hr
        | cons a l => exact hh
      rw [if_neg hh2]
theorem par_app {l r R : Ts} {par : Str} (h : parP l = some (par, r)) (hr : r ≠ []) : parP (l ++ R) = some (par, r ++ R) := by
  cases l with
  | nil =>
    unfold parP at h
    rw [if_neg (by simp)] at h
    injection h with h
    injection h with _ h2
    exact absurd h2.symm hr
  | cons a l =>
    unfold parP at h ⊢
    have e : ((a :: l) ++ R).head? = (a :: l).head? := rfl
    rw [e]
    split at h
    · rename_i hh
      rw [if_pos hh]
      exact app_thn (app_tk1 1) (fun _ => app_tk1 1) _ _ _ R h
    · rename_i hh
      rw [if_neg hh]
      injection h with h
      injection h with h1 h2
      subst h1 h2
      rfl
theorem mk_ne {c : UInt8} {l r : Ts} {u : Unit} (h : mkP c l = some (u, r)) : l ≠ [] := by rw [mkP_inv h]; simp
theorem app_loc : App locP := fun l r x R h => by
  obtain ⟨tag, r1, h1, ha⟩ := thn_inv h
  obtain ⟨par, r2, h2, hb⟩ := thn_inv ha
  obtain ⟨u3, r3, h3, hc⟩ := thn_inv hb
  obtain ⟨y, r4, h4, hd⟩ := thn_inv hc
  obtain ⟨u5, r5, h5, he⟩ := thn_inv hd
  injection he with he
  injection he with e6 e7
  subst e6 e7
  unfold locP
  rw [app_tk1 1 _ _ _ R h1, thn_some, par_app h2 (mk_ne h3), thn_some, app_mk 123 _ _ _ R h3, thn_some, its_app _ _ _ _ _ R h4 (mk_ne h5) _ (by rw [List.length_append]; omega), thn_some, app_mk 125 _ _ _ R h5, thn_some]
theorem app_ent (t : Tab) : App (entP t) := app_thn (app_tk1 1) (fun k =>
  app_ite (app_thn app_loc (fun x => app_ite app_none (app_some _)))
  (app_ite (app_thn (app_tk1 1) (fun f => app_thn (app_tk1 1) (fun g => app_ite app_none (app_semi _))))
  (app_ite (app_thn (app_tk1 1) (fun f => app_thn (app_tk1 1) (fun g => app_thn (app_num 1000) (fun n => app_ite app_none (app_semi _))))) app_none)))
/-- What is left is no longer. -/
def Sho {α : Type} (p : Ts → Option (α × Ts)) : Prop := ∀ (l r : Ts) (a : α), p l = some (a, r) → r.length ≤ l.length
theorem sho_tk1 (kd : Nat) : Sho (tk1 kd) := fun l r a h => by rw [tk1_inv h, List.length_cons]; omega
theorem sho_thn {α β : Type} {p : Ts → Option (α × Ts)} {f : α → Ts → Option (β × Ts)} (h : Sho p) (k : ∀ a, Sho (f a)) : Sho (fun l => thn (p l) f) := fun l r b e => by
  obtain ⟨a, r1, h1, h2⟩ := thn_inv e
  have := h l r1 a h1
  have := k a r1 r b h2
  omega
theorem sho_none {α : Type} : Sho (fun _ => (none : Option (α × Ts))) := fun l r a h => by cases h
theorem sho_some {α : Type} (a : α) : Sho (fun l => some (a, l)) := fun l r b h => by
  injection h with h
  injection h with h1 h2
  subst h2
  exact Nat.le_refl _
theorem sho_ite {α : Type} {c : Prop} [Decidable c] {f g : Ts → Option (α × Ts)} (h : Sho f) (k : Sho g) : Sho (fun l => if c then f l else g l) := fun l r a e => by
  by_cases hc : c
  · simp only [if_pos hc] at e
    exact h l r a e
  · simp only [if_neg hc] at e
    exact k l r a e
theorem sho_mk (c : UInt8) : Sho (mkP c) := sho_thn (sho_tk1 3) (fun t => sho_ite (sho_some ()) sho_none)
theorem sho_cho (L : List Str) : Sho (choP L) := sho_thn (sho_tk1 1) (fun t => sho_ite (sho_some t) sho_none)
theorem sho_num (m : Nat) : Sho (numP m) := sho_thn (sho_tk1 1) (fun t => sho_ite (sho_some _) sho_none)
theorem sho_many : ∀ n : Nat, Sho (manyP n)
  | 0 => sho_some []
  | n + 1 => sho_thn (sho_tk1 2) (fun t => sho_thn (sho_many n) (fun ts => sho_some _))
theorem sho_rul : Sho rulP := sho_thn (sho_cho clsL) (fun c => sho_thn (sho_tk1 2) (fun t => by cases prsM t with
  | none => exact sho_none
  | some d => exact sho_some (c, d)))
theorem sho_semi {α : Type} (x : α) : Sho (semi x) := sho_thn (sho_mk 59) (fun _ => sho_some x)
theorem sho_item (x : Loc) : Sho (itemP x) := sho_thn (sho_tk1 1) (fun k =>
  sho_ite (sho_thn (sho_cho dirL) (fun d => sho_ite (sho_semi _) sho_none))
  (sho_ite (sho_thn sho_rul (fun u => sho_ite sho_none (sho_semi _)))
  (sho_ite (sho_thn sho_rul (fun u => sho_ite sho_none (sho_semi _)))
  (sho_ite (sho_thn (sho_many 4) (fun ts => sho_thn (sho_num 9) (fun p => sho_thn (sho_num 9) (fun s => sho_ite sho_none (sho_ite (sho_semi _) sho_none)))))
  (sho_ite (sho_thn (sho_tk1 1) (fun s => sho_thn (sho_many 4) (fun ts => sho_ite sho_none (sho_semi _))))
  (sho_ite (sho_thn (sho_tk1 1) (fun u => sho_thn (sho_cho cls6) (fun c => sho_thn (sho_tk1 2) (fun p => sho_ite sho_none (sho_semi _)))))
  (sho_ite (sho_thn (sho_tk1 1) (fun s => sho_thn (sho_tk1 2) (fun p => sho_ite sho_none (sho_semi _))))
  (sho_ite (sho_thn (sho_many 12) (fun ts => sho_ite (sho_semi _) sho_none))
  (sho_ite (sho_thn (sho_many 7) (fun ts => sho_ite (sho_semi _) sho_none)) sho_none)))))))))
theorem its_len : ∀ (f : Nat) (x x2 : Loc) (l r : Ts), itemsP f x l = some (x2, r) → r.length ≤ l.length
  | 0, x, x2, l, r, h => by cases h
  | f + 1, x, x2, l, r, h => by
    rw [itemsP] at h
    split at h
    · obtain ⟨y, r1, h1, h2⟩ := thn_inv h
      have := sho_item x l r1 y h1
      have := its_len f y x2 r1 r h2
      omega
    · injection h with h
      injection h with h1 h2
      subst h2
      exact Nat.le_refl _
theorem par_len {l r : Ts} {par : Str} (h : parP l = some (par, r)) : r.length ≤ l.length := by
  rcases parP_inv h with ⟨_, e⟩ | e
  · rw [e]; exact Nat.le_refl _
  · rw [e, List.length_cons, List.length_cons]; omega
theorem ents_app : ∀ (f : Nat) (t t2 : Tab) (l : Ts), entsP f t l = some t2 → ∃ k, k ≤ l.length ∧ ∀ (g : Nat) (R : Ts), entsP (g + k) t (l ++ R) = entsP g t2 R
  | 0, t, t2, l, h => by cases h
  | f + 1, t, t2, l, h => by
    rw [entsP] at h
    split at h
    · rename_i h0
      injection h with h
      subst h h0
      exact ⟨0, Nat.zero_le _, fun g R => rfl⟩
    · rename_i h0
      obtain ⟨t1, r1, h1, h2⟩ := thn_inv h
      obtain ⟨k, hk, h3⟩ := ents_app f t1 t2 r1 h2
      have hlt : r1.length < l.length := by
        have hne : entP t l = some (t1, r1) := h1
        obtain ⟨kk, q, q1, q2⟩ := thn_inv hne
        have e := tk1_inv q1
        subst e
        have : r1.length ≤ q.length := by
          by_cases c1 : kk = kLoc
          · rw [if_pos c1] at q2
            obtain ⟨x, r2, p2, p3⟩ := thn_inv q2
            split at p3
            · cases p3
            · injection p3 with p3
              injection p3 with _ p4
              subst p4
              obtain ⟨tag, s1, z1, ha⟩ := thn_inv p2
              obtain ⟨par, s2, z2, hb⟩ := thn_inv ha
              obtain ⟨u3, s3, z3, hc⟩ := thn_inv hb
              obtain ⟨y, s4, z4, hd⟩ := thn_inv hc
              obtain ⟨u5, s5, z5, he⟩ := thn_inv hd
              injection he with he
              injection he with _ e7
              subst e7
              have y1 := tk1_inv z1
              have y3 := mkP_inv z3
              have y5 := mkP_inv z5
              have y4 := its_len _ _ _ _ _ z4
              have y2 := par_len z2
              subst y1 y3 y5
              simp only [List.length_cons] at y2 y4 ⊢
              omega
          · rw [if_neg c1] at q2
            by_cases c2 : kk = kAli
            · rw [if_pos c2] at q2
              obtain ⟨a, r2, p2, p3⟩ := thn_inv q2
              obtain ⟨b, r3, p4, p5⟩ := thn_inv p3
              have y1 := tk1_inv p2
              have y2 := tk1_inv p4
              split at p5
              · cases p5
              · have y3 := (semi_inv p5).2
                subst y1 y2 y3
                simp only [List.length_cons]
                omega
            · rw [if_neg c2] at q2
              by_cases c3 : kk = kNea
              · rw [if_pos c3] at q2
                obtain ⟨a, r2, p2, p3⟩ := thn_inv q2
                obtain ⟨b, r3, p4, p5⟩ := thn_inv p3
                obtain ⟨n, r4, p6, p7⟩ := thn_inv p5
                have y1 := tk1_inv p2
                have y2 := tk1_inv p4
                obtain ⟨tn, y4, _⟩ := numP_inv p6
                split at p7
                · cases p7
                · have y3 := (semi_inv p7).2
                  subst y1 y2 y4 y3
                  simp only [List.length_cons]
                  omega
              · rw [if_neg c3] at q2; cases q2
        rw [List.length_cons]
        omega
      refine ⟨k + 1, by omega, fun g R => ?_⟩
      rw [show g + (k + 1) = (g + k) + 1 by omega, entsP, if_neg (by
        intro e
        rw [List.append_eq_nil_iff] at e
        exact h0 e.1), app_ent t l r1 t1 R h1, thn_some, h3]
end Go.Proofs.YtpmmchppfmojhaaGreatDoor


/- Tables, plain: the tables of two texts, one behind the other. -/
namespace Go.Proofs.YtpmmchppfmojhaaGreatDoor
set_option linter.unusedVariables false

def tadd (x y : Tab) : Tab := ⟨x.lo ++ y.lo, x.al ++ y.al, x.ne ++ y.ne⟩
theorem tadd_zero (x : Tab) : tadd x tab0 = x := by
  unfold tadd tab0
  simp only [List.append_nil]
/-- Together they are not too many. -/
def Fits (x t : Tab) : Prop := x.lo.length + t.lo.length ≤ 60 ∧ x.al.length + t.al.length ≤ 200 ∧ x.ne.length + t.ne.length ≤ 200
def LeT (t u : Tab) : Prop := t.lo.length ≤ u.lo.length ∧ t.al.length ≤ u.al.length ∧ t.ne.length ≤ u.ne.length
theorem ent_le {t t1 : Tab} {l r : Ts} (h : entP t l = some (t1, r)) : LeT t t1 := by
  obtain ⟨k, r1, h1, h2⟩ := thn_inv h
  by_cases c1 : k = kLoc
  · rw [if_pos c1] at h2
    obtain ⟨x, r2, h3, h4⟩ := thn_inv h2
    split at h4
    · cases h4
    · injection h4 with h4
      injection h4 with h5 h6
      subst h5
      exact ⟨by dsimp only; rw [List.length_append]; omega, Nat.le_refl _, Nat.le_refl _⟩
  rw [if_neg c1] at h2
  by_cases c2 : k = kAli
  · rw [if_pos c2] at h2
    obtain ⟨f, r2, h3, h4⟩ := thn_inv h2
    obtain ⟨g, r3, h5, h6⟩ := thn_inv h4
    split at h6
    · cases h6
    · obtain ⟨h7, _⟩ := semi_inv h6
      subst h7
      exact ⟨Nat.le_refl _, by dsimp only; rw [List.length_append]; omega, Nat.le_refl _⟩
  rw [if_neg c2] at h2
  by_cases c3 : k = kNea
  · rw [if_pos c3] at h2
    obtain ⟨f, r2, h3, h4⟩ := thn_inv h2
    obtain ⟨g, r3, h5, h6⟩ := thn_inv h4
    obtain ⟨n, r4, h7, h8⟩ := thn_inv h6
    split at h8
    · cases h8
    · obtain ⟨h9, _⟩ := semi_inv h8
      subst h9
      exact ⟨Nat.le_refl _, Nat.le_refl _, by dsimp only; rw [List.length_append]; omega⟩
  rw [if_neg c3] at h2
  cases h2
theorem ents_le : ∀ (f : Nat) (t t2 : Tab) (l : Ts), entsP f t l = some t2 → LeT t t2
  | 0, t, t2, l, h => by cases h
  | f + 1, t, t2, l, h => by
    rw [entsP] at h
    split at h
    · injection h with h
      subst h
      exact ⟨Nat.le_refl _, Nat.le_refl _, Nat.le_refl _⟩
    · obtain ⟨t1, r1, h1, h2⟩ := thn_inv h
      obtain ⟨a1, a2, a3⟩ := ent_le h1
      obtain ⟨b1, b2, b3⟩ := ents_le f t1 t2 r1 h2
      exact ⟨by omega, by omega, by omega⟩
theorem semi_fwd {α β : Type} {x y : α} {l r : Ts} (h : semi x l = some (y, r)) (z : β) : semi z l = some (z, r) := by
  rw [(semi_inv h).2]
  exact semi_cons z r
theorem ent_add {x t t1 : Tab} {l r : Ts} (h : entP t l = some (t1, r)) (hf : Fits x t1) : entP (tadd x t) l = some (tadd x t1, r) := by
  obtain ⟨k, r1, h1, h2⟩ := thn_inv h
  obtain ⟨f1, f2, f3⟩ := hf
  unfold entP
  rw [h1, thn_some]
  by_cases c1 : k = kLoc
  · rw [if_pos c1] at h2 ⊢
    obtain ⟨y, r2, h3, h4⟩ := thn_inv h2
    split at h4
    · cases h4
    · injection h4 with h4
      injection h4 with h5 h6
      subst h5 h6
      dsimp only at f1
      rw [List.length_append, List.length_singleton] at f1
      rw [h3, thn_some, if_neg (by unfold tadd; rw [List.length_append]; omega)]
      unfold tadd
      dsimp only
      rw [List.append_assoc]
  rw [if_neg c1] at h2 ⊢
  by_cases c2 : k = kAli
  · rw [if_pos c2] at h2 ⊢
    obtain ⟨f, r2, h3, h4⟩ := thn_inv h2
    obtain ⟨g, r3, h5, h6⟩ := thn_inv h4
    split at h6
    · cases h6
    · have h7 := (semi_inv h6).1
      subst h7
      dsimp only at f2
      rw [List.length_append, List.length_singleton] at f2
      rw [h3, thn_some, h5, thn_some, if_neg (by unfold tadd; rw [List.length_append]; omega), semi_fwd h6]
      unfold tadd
      dsimp only
      rw [List.append_assoc]
  rw [if_neg c2] at h2 ⊢
  by_cases c3 : k = kNea
  · rw [if_pos c3] at h2 ⊢
    obtain ⟨f, r2, h3, h4⟩ := thn_inv h2
    obtain ⟨g, r3, h5, h6⟩ := thn_inv h4
    obtain ⟨n, r4, h7, h8⟩ := thn_inv h6
    split at h8
    · cases h8
    · have h9 := (semi_inv h8).1
      subst h9
      dsimp only at f3
      rw [List.length_append, List.length_singleton] at f3
      rw [h3, thn_some, h5, thn_some, h7, thn_some, if_neg (by unfold tadd; rw [List.length_append]; omega), semi_fwd h8]
      unfold tadd
      dsimp only
      rw [List.append_assoc]
  rw [if_neg c3] at h2
  cases h2
theorem ents_add : ∀ (f : Nat) (x t t2 : Tab) (l : Ts), entsP f t l = some t2 → Fits x t2 → entsP f (tadd x t) l = some (tadd x t2)
  | 0, x, t, t2, l, h, _ => by cases h
  | f + 1, x, t, t2, l, h, hf => by
    rw [entsP] at h ⊢
    split at h
    · rename_i h0
      injection h with h
      subst h
      rw [if_pos h0]
    · rename_i h0
      obtain ⟨t1, r1, h1, h2⟩ := thn_inv h
      have hl := ents_le f t1 t2 r1 h2
      have hf1 : Fits x t1 := by
        obtain ⟨a1, a2, a3⟩ := hl
        obtain ⟨b1, b2, b3⟩ := hf
        exact ⟨by omega, by omega, by omega⟩
      rw [if_neg h0, ent_add h1 hf1, thn_some]
      exact ents_add f x t1 t2 r1 h2 hf
theorem parT_add {la lb : Ts} {x y : Tab} (ha : parT la = some x) (hb : parT lb = some y) (hf : Fits x y) : parT (la ++ lb) = some (tadd x y) := by
  obtain ⟨k, hk, h1⟩ := ents_app _ _ _ _ ha
  have h2 := ents_add _ x _ _ _ hb hf
  rw [tadd_zero] at h2
  obtain ⟨j, hj, h3⟩ := ents_app _ _ _ _ h2
  unfold parT
  obtain ⟨g, hg⟩ : ∃ g, (la ++ lb).length + 1 = ((g + 1) + j) + k := ⟨(la ++ lb).length - j - k, by rw [List.length_append]; omega⟩
  rw [hg, h1 ((g + 1) + j) lb]
  have h4 := h3 (g + 1) []
  rw [List.append_nil] at h4
  rw [h4, entsP, if_pos rfl]
/-- The tables of two texts with a line feed in between. -/
theorem prs_parts {a b : Str} {x y : Tab} (ha : prsT a = some x) (hb : prsT b = some y) (hf : Fits x y) (hl : (a ++ 10 :: b).length ≤ 200000) : prsT (a ++ 10 :: b) = some (tadd x y) := by
  unfold prsT at ha hb ⊢
  rw [if_pos hl]
  split at ha
  · split at hb
    · cases ga : gt a with
      | inl e => rw [ga] at ha; cases ha
      | inr la =>
        rw [ga] at ha
        cases gb : gt b with
        | inl e => rw [gb] at hb; cases hb
        | inr lb =>
          rw [gb] at hb
          rw [gt_app a.length a b la (Nat.le_refl _) ga, gb]
          exact parT_add ha hb hf
    · cases hb
  · cases ha
end Go.Proofs.YtpmmchppfmojhaaGreatDoor


