/- What the row stands on, part 7. -/
import Derived.Test.YtmnclnpbmgomgaaGreatDoorQ6

/- Plain facts on decisions: the search over the classes, and the first number with a property. -/
namespace Go.Proofs.YtmnclnpbmgomgaaGreatDoor
set_option linter.unusedVariables false

/-! ### The list of fractions -/
def fI (l : List Rel) (out : List Str) (s : Str) : Nat := out.findIdx fun o => decide (vecZ l o = vecZ l s)
def stepF (l : List Rel) (b : Nat) (out : List Str) (s : Str) : List Str :=
  if fI l out s < out.length then (if b ≤ fI l out s ∧ val s < val (out.getD (fI l out s) []) then out.set (fI l out s) s else out) else out ++ [s]
structure FI (l : List Rel) (P : Str → Prop) (n b : Nat) (out : List Str) : Prop where
  good : ∀ o ∈ out, allD o ∧ o.length ≤ n
  low : ∀ i, i < b → (out.getD i []).length < n
  high : ∀ i, b ≤ i → i < out.length → (out.getD i []).length = n
  cov : ∀ s, P s → ∃ o ∈ out, vecZ l o = vecZ l s ∧ o.length ≤ s.length ∧ (o.length = s.length → val o ≤ val s)
  ble : b ≤ out.length
theorem getD_mem0 {out : List Str} {i : Nat} (h : i < out.length) : out.getD i [] ∈ out := by
  rw [List.getD_eq_getElem?_getD, List.getElem?_eq_getElem h]
  exact List.getElem_mem h
theorem getD_set0 {out : List Str} {i k : Nat} (s : Str) (hk : k < out.length) : (out.set k s).getD i [] = if i = k then s else out.getD i [] := by
  rw [List.getD_eq_getElem?_getD, List.getElem?_set, List.getD_eq_getElem?_getD]
  by_cases h : k = i
  · subst h
    rw [if_pos rfl, if_pos rfl, if_pos hk]
    rfl
  · rw [if_neg h, if_neg (fun e => h e.symm)]
theorem getD_app0 {out : List Str} {i : Nat} (s : Str) : (out ++ [s]).getD i [] = if i < out.length then out.getD i [] else if i = out.length then s else [] := by
  rw [List.getD_eq_getElem?_getD, List.getD_eq_getElem?_getD]
  by_cases h : i < out.length
  · rw [if_pos h, List.getElem?_append_left h]
  · rw [if_neg h, List.getElem?_append_right (by omega)]
    by_cases h2 : i = out.length
    · rw [if_pos h2, h2, Nat.sub_self]; rfl
    · rw [if_neg h2, List.getElem?_eq_none (by simp; omega)]; rfl
theorem fI_get {l : List Rel} {out : List Str} {s : Str} (h : fI l out s < out.length) : vecZ l (out.getD (fI l out s) []) = vecZ l s := by
  have := List.findIdx_getElem (w := h)
  rw [List.getD_eq_getElem?_getD, List.getElem?_eq_getElem h]
  exact of_decide_eq_true this
theorem mem_set0 {out : List Str} {k : Nat} {s x : Str} (h : x ∈ out.set k s) : x ∈ out ∨ x = s := List.mem_or_eq_of_mem_set h
theorem FI.step {l : List Rel} {P : Str → Prop} {n b : Nat} {out : List Str} (h : FI l P n b out) {s : Str} (hs : allD s) (hn : s.length = n) : FI l (fun x => P x ∨ x = s) n b (stepF l b out s) := by
  unfold stepF
  split
  · rename_i hk
    have hc := fI_get hk
    split
    · rename_i hb
      have hlen : (out.getD (fI l out s) []).length = n := h.high _ hb.1 hk
      have hset : s ∈ out.set (fI l out s) s := List.mem_iff_getElem.2 ⟨fI l out s, by rw [List.length_set]; exact hk, by simp⟩
      refine ⟨fun o ho => ?_, fun i hi => ?_, fun i hi hl => ?_, fun x hx => ?_, by rw [List.length_set]; exact h.ble⟩
      · rcases mem_set0 ho with ho | rfl
        · exact h.good o ho
        · exact ⟨hs, by omega⟩
      · rw [getD_set0 s hk, if_neg (by omega)]
        exact h.low i hi
      · rw [getD_set0 s hk]
        split
        · exact hn
        · exact h.high i hi (by rw [List.length_set] at hl; exact hl)
      · rcases hx with hx | rfl
        · obtain ⟨o, h1, h2, h3, h4⟩ := h.cov x hx
          obtain ⟨j, hj, rfl⟩ := List.mem_iff_getElem.1 h1
          by_cases hjk : j = fI l out s
          · have e : out[j] = out.getD (fI l out s) [] := by rw [← hjk, List.getD_eq_getElem?_getD, List.getElem?_eq_getElem hj]; rfl
            rw [e] at h2 h3 h4
            refine ⟨s, hset, hc.symm.trans h2, by omega, fun e' => ?_⟩
            have := h4 (by omega)
            omega
          · exact ⟨out[j], List.mem_iff_getElem.2 ⟨j, by rw [List.length_set]; exact hj, by rw [List.getElem_set_ne (fun e => hjk e.symm)]⟩, h2, h3, h4⟩
        · exact ⟨x, hset, rfl, Nat.le_refl _, fun _ => Nat.le_refl _⟩
    · rename_i hb
      refine ⟨h.good, h.low, h.high, fun x hx => ?_, h.ble⟩
      rcases hx with hx | rfl
      · exact h.cov x hx
      · have hm := getD_mem0 hk
        refine ⟨_, hm, hc, by have := (h.good _ hm).2; omega, fun e => ?_⟩
        rcases Nat.lt_or_ge (fI l out x) b with k | k
        · have := h.low _ k; omega
        · have : ¬ val x < val (out.getD (fI l out x) []) := fun e2 => hb ⟨k, e2⟩
          omega
  · refine ⟨fun o ho => ?_, fun i hi => ?_, fun i hi hl => ?_, fun x hx => ?_, by rw [List.length_append]; have := h.ble; omega⟩
    · rcases List.mem_append.1 ho with ho | ho
      · exact h.good o ho
      · obtain rfl := List.mem_singleton.1 ho
        exact ⟨hs, by omega⟩
    · rw [getD_app0, if_pos (Nat.lt_of_lt_of_le hi h.ble)]
      exact h.low i hi
    · rw [getD_app0]
      split
      · rename_i h1; exact h.high i hi h1
      · rw [if_pos (by rw [List.length_append, List.length_singleton] at hl; omega)]
        exact hn
    · rcases hx with hx | rfl
      · obtain ⟨o, h1, h2⟩ := h.cov x hx
        exact ⟨o, List.mem_append_left _ h1, h2⟩
      · exact ⟨x, by simp, rfl, Nat.le_refl _, fun _ => Nat.le_refl _⟩
theorem FI.fold {l : List Rel} {n b : Nat} : ∀ {E : List Str} {P : Str → Prop} {out : List Str}, FI l P n b out → (∀ s ∈ E, allD s ∧ s.length = n) → FI l (fun x => P x ∨ x ∈ E) n b (E.foldl (stepF l b) out)
  | [], P, out, h, _ => ⟨h.good, h.low, h.high, fun s hs => h.cov s (by rcases hs with hs | hs; exact hs; cases hs), h.ble⟩
  | s :: E, P, out, h, hE => by
    have h1 := h.step (hE s (by simp)).1 (hE s (by simp)).2
    have h2 := FI.fold (E := E) h1 (fun x hx => hE x (by simp [hx]))
    exact ⟨h2.good, h2.low, h2.high, fun x hx => h2.cov x (by
      rcases hx with hx | hx
      · exact .inl (.inl hx)
      · rcases List.mem_cons.1 hx with rfl | hx
        · exact .inl (.inr rfl)
        · exact .inr hx), h2.ble⟩
def frs (l : List Rel) : Nat → List Str
  | 0 => []
  | n + 1 => (enF n (n + 1)).foldl (stepF l (frs l n).length) (frs l n)
theorem enF_good {n : Nat} {s : Str} (h : s ∈ enF n (n + 1)) : allD s ∧ s.length = n := by
  obtain ⟨w, t, hw, ht, ho, rfl⟩ := enF_of h
  exact ⟨strE_good (by omega), strE_len ho (by omega)⟩
theorem frs_ok (l : List Rel) : ∀ n, FI l (fun s => ∃ m, m < n ∧ s ∈ enF m (m + 1)) n (frs l n).length (frs l n)
  | 0 => ⟨fun o ho => (by cases ho), fun i hi => (by cases hi), fun i _ hl => (by cases hl), fun s hs => (by obtain ⟨m, hm, _⟩ := hs; omega), Nat.le_refl _⟩
  | n + 1 => by
    have h0 := frs_ok l n
    have h1 : FI l (fun s => ∃ m, m < n ∧ s ∈ enF m (m + 1)) n (frs l n).length (frs l n) := h0
    have h2 := h1.fold (fun s hs => enF_good hs)
    have e : (enF n (n + 1)).foldl (stepF l (frs l n).length) (frs l n) = frs l (n + 1) := rfl
    rw [e] at h2
    refine ⟨fun o ho => ⟨(h2.good o ho).1, by have := (h2.good o ho).2; omega⟩, fun i hi => ?_, fun i hi hl => by omega, fun s hs => ?_, Nat.le_refl _⟩
    · have := (h2.good _ (getD_mem0 hi)).2
      omega
    · obtain ⟨m, hm, hs⟩ := hs
      refine h2.cov s ?_
      rcases Nat.lt_or_ge m n with k | k
      · exact .inl ⟨m, k, hs⟩
      · obtain rfl : m = n := by omega
        exact .inr hs
theorem fracts_has {l : List Rel} (h : ∀ r ∈ l, OkR r) {fr : Str} (hf : allD fr) (h6 : fr.length ≤ 6) : ∃ o ∈ frs l 7, vecZ l o = vecZ l fr ∧ o.length ≤ fr.length ∧ (o.length = fr.length → val o ≤ val fr) := by
  obtain ⟨w, t, hw, ht, ho, hv, hle⟩ := fract_has h hf
  have hl := strE_len ho hw
  obtain ⟨o, h1, h2, h3, h4⟩ := (frs_ok l 7).cov _ ⟨fr.length, by omega, enF_mem (by omega) ht ho⟩
  rw [hl] at h3 h4
  exact ⟨o, h1, h2.trans hv, h3, fun e => Nat.le_trans (h4 e) hle⟩
theorem frs_good {l : List Rel} {n : Nat} {o : Str} (h : o ∈ frs l n) : allD o ∧ o.length < n := by
  have h0 := frs_ok l n
  obtain ⟨i, hi, e⟩ := List.mem_iff_getElem.1 h
  have h1 := h0.low i hi
  rw [List.getD_eq_getElem?_getD, List.getElem?_eq_getElem hi, e] at h1
  exact ⟨(h0.good _ h).1, h1⟩
theorem fracts_good {l : List Rel} {o : Str} (h : o ∈ frs l 7) : allD o ∧ o.length ≤ 6 := by
  have := frs_good h
  exact ⟨this.1, by omega⟩

/-! ### The first number -/
instance decLexW : ∀ v w : List Nat, Decidable (lexW v w)
  | a :: v, b :: w => by
    have := decLexW v w
    exact inferInstanceAs (Decidable (a < b ∨ (a = b ∧ lexW v w)))
  | [], _ => .isFalse (fun h => by cases h)
  | _ :: _, [] => .isFalse (fun h => by cases h)
instance decBef (v w : List Nat) : Decidable (bef v w) := inferInstanceAs (Decidable (v.length < w.length ∨ (v.length = w.length ∧ lexW v w)))
def befB (s t : Str) : Bool := decide (bef (wd0 s) (wd0 t))
theorem befB_iff {s t : Str} : befB s t = true ↔ befS s t := by unfold befB befS; exact decide_eq_true_iff
def stepB (p : Str → Bool) (best : Option Str) (s : Str) : Option Str := if p s = true ∧ (∀ b, best = some b → befB s b = true) then some s else best
def bestOf (p : Str → Bool) (cs : List Str) : Option Str := cs.foldl (stepB p) none
structure BestI (p : Str → Bool) (cs : List Str) (o : Option Str) : Prop where
  no : o = none → ∀ s ∈ cs, p s = false
  yes : ∀ b, o = some b → b ∈ cs ∧ p b = true ∧ ∀ s ∈ cs, p s = true → ¬ befS s b
theorem BestI.step {p : Str → Bool} {cs : List Str} {o : Option Str} (h : BestI p cs o) (s : Str) : BestI p (cs ++ [s]) (stepB p o s) := by
  unfold stepB
  split
  · rename_i hp
    refine ⟨fun e => (by cases e), fun b e => ?_⟩
    injection e with e
    subst e
    refine ⟨by simp, hp.1, fun x hx hpx => ?_⟩
    rcases List.mem_append.1 hx with hx | hx
    · cases o with
      | none => rw [h.no rfl x hx] at hpx; cases hpx
      | some b =>
        have h1 := befB_iff.1 (hp.2 b rfl)
        obtain ⟨_, _, h2⟩ := h.yes b rfl
        exact fun k => h2 x hx hpx (bef_trans k h1)
    · obtain rfl := List.mem_singleton.1 hx
      exact bef_irr _
  · rename_i hp
    refine ⟨fun e x hx => ?_, fun b e => ?_⟩
    · rcases List.mem_append.1 hx with hx | hx
      · exact h.no e x hx
      · obtain rfl := List.mem_singleton.1 hx
        cases hq : p x with
        | false => rfl
        | true => exact absurd ⟨hq, fun b e2 => by rw [e] at e2; cases e2⟩ hp
    · obtain ⟨h1, h2, h3⟩ := h.yes b e
      refine ⟨List.mem_append_left _ h1, h2, fun x hx hpx => ?_⟩
      rcases List.mem_append.1 hx with hx | hx
      · exact h3 x hx hpx
      · obtain rfl := List.mem_singleton.1 hx
        intro k
        refine hp ⟨hpx, fun b' e2 => ?_⟩
        rw [e] at e2
        injection e2 with e2
        rw [← e2]
        exact befB_iff.2 k
theorem best_ok (p : Str → Bool) : ∀ cs : List Str, BestI p cs (bestOf p cs) := fun cs => by
  unfold bestOf
  have : ∀ (E : List Str) (cs : List Str) (o : Option Str), BestI p cs o → BestI p (cs ++ E) (E.foldl (stepB p) o) := by
    intro E
    induction E with
    | nil => intro cs o h; rw [List.append_nil]; exact h
    | cons s E ih =>
      intro cs o h
      have h1 := ih _ _ (h.step s)
      rw [List.append_assoc] at h1
      exact h1
  exact this cs [] none ⟨fun _ s hs => (by cases hs), fun b e => (by cases e)⟩
/-- An unsigned number. -/
def isU (s : Str) : Prop := ∃ x, Good x ∧ x.neg = false ∧ txt x = s
def FirstN (p : Str → Bool) (s : Str) : Prop := isU s ∧ p s = true ∧ ∀ t, isU t → p t = true → ¬ befS t s
def NoneN (p : Str → Bool) : Prop := ∀ t, isU t → p t = false
theorem txt_tx0 {x : Num} (h : x.neg = false) : txt x = tx0 x.wh x.fr := by
  unfold txt tx0
  rw [h]
  rfl
def isDP (c : UInt8) : Prop := isD c = true ∨ c = 46
theorem isU_dp {s : Str} (h : isU s) : ∀ c ∈ s, isDP c := by
  obtain ⟨x, g, hn, rfl⟩ := h
  rw [txt_tx0 hn]
  intro c hc
  unfold tx0 at hc
  rcases List.mem_append.1 hc with hc | hc
  · exact .inl (g.dw c hc)
  · split at hc
    · cases hc
    · rcases List.mem_cons.1 hc with rfl | hc
      · exact .inr rfl
      · exact .inl (g.df c hc)
theorem sy0_inj {c d : UInt8} (hc : isDP c) (hd : isDP d) (h : sy0 c = sy0 d) : c = d := by
  rcases hc with hc | rfl <;> rcases hd with hd | rfl
  · rw [sy0_digit hc, sy0_digit hd] at h
    exact dg_inj hc hd h
  · rw [sy0_digit hc] at h
    have := dg_le hc
    have : sy0 46 = 10 := rfl
    omega
  · rw [sy0_digit hd] at h
    have := dg_le hd
    have : sy0 46 = 10 := rfl
    omega
  · rfl
theorem wd0_inj : ∀ {s t : Str}, (∀ c ∈ s, isDP c) → (∀ c ∈ t, isDP c) → wd0 s = wd0 t → s = t
  | [], [], _, _, _ => rfl
  | [], _ :: _, _, _, h => by cases h
  | _ :: _, [], _, _, h => by cases h
  | c :: s, d :: t, hs, ht, h => by
    have h : sy0 c :: wd0 s = sy0 d :: wd0 t := h
    injection h with h1 h2
    rw [sy0_inj (hs c (by simp)) (ht d (by simp)) h1, wd0_inj (fun x hx => hs x (by simp [hx])) (fun x hx => ht x (by simp [hx])) h2]
theorem FirstN.uniq {p : Str → Bool} {s t : Str} (h : FirstN p s) (k : FirstN p t) : s = t := by
  rcases bef_total (wd0 s) (wd0 t) with e | e | e
  · exact absurd e (k.2.2 s h.1 h.2.1)
  · exact wd0_inj (isU_dp h.1) (isU_dp k.1) e
  · exact absurd e (h.2.2 t k.1 k.2.1)
theorem FirstN.not_none {p : Str → Bool} {s : Str} (h : FirstN p s) (k : NoneN p) : False := by
  have := k s h.1
  rw [h.2.1] at this
  cases this
def cands (l : List Rel) : List Str := (ws l 401).flatMap fun a => (frs l 7).map fun b => tx0 (dtx a) b
theorem cands_good {l : List Rel} {s : Str} (h : s ∈ cands l) : isU s := by
  obtain ⟨a, ha, h⟩ := List.mem_flatMap.1 h
  obtain ⟨b, hb, rfl⟩ := List.mem_map.1 h
  have h1 := ws_lt ha
  have hd := dtx_good (show a < 1000 by omega)
  have hl := dtx_len a
  have hf := fracts_good hb
  exact ⟨⟨false, dtx a, b⟩, ⟨hd.1, hf.1, hl.1, by show (dtx a).length ≤ 15; omega, hd.2.2, hf.2, fun e => by cases e⟩, rfl, txt_tx0 rfl⟩
/-- A property that the classes determine. -/
def ByCls (l : List Rel) (p : Str → Bool) : Prop := ∀ x y : Num, Good x → Good y → vecW l (val x.wh) = vecW l (val y.wh) → vecZ l x.fr = vecZ l y.fr → p (txt x) = p (txt y)
theorem cands_has {l : List Rel} (h : ∀ r ∈ l, OkR r) {p : Str → Bool} (hp : ByCls l p) {t : Str} (ht : isU t) (hpt : p t = true) : ∃ s ∈ cands l, p s = true ∧ ¬ befS t s := by
  obtain ⟨x, g, hn, rfl⟩ := ht
  obtain ⟨a, h1, h2, h3⟩ := wholes_has h (val x.wh)
  obtain ⟨b, h4, h5, h6, h7⟩ := fracts_has h g.df g.few
  have ha := ws_lt h1
  have hd := dtx_good (show a < 1000 by omega)
  have hl := dtx_len a
  have hf := fracts_good h4
  have gy : Good ⟨false, dtx a, b⟩ := ⟨hd.1, hf.1, hl.1, by show (dtx a).length ≤ 15; omega, hd.2.2, hf.2, fun e => by cases e⟩
  refine ⟨tx0 (dtx a) b, List.mem_flatMap.2 ⟨a, h1, List.mem_map.2 ⟨b, h4, rfl⟩⟩, ?_, ?_⟩
  · have := hp ⟨false, dtx a, b⟩ x gy g (by rw [← h3]; show vecW l (val (dtx a)) = _; rw [hd.2.1]) h5
    rw [txt_tx0 rfl] at this
    rw [← hpt]
    exact this
  · rw [txt_tx0 hn]
    have hwl : (dtx a).length ≤ x.wh.length := dtx_len_le (by omega) (Nat.lt_of_le_of_lt h2 (val_lt g.dw)) g.low
    exact num_order hd.1 hf.1 g.dw g.df hwl h6 (fun _ => by rw [hd.2.1]; exact h2) h7
theorem first_none {l : List Rel} (h : ∀ r ∈ l, OkR r) {p : Str → Bool} (hp : ByCls l p) (hn : bestOf p (cands l) = none) : NoneN p := fun t ht => by
  cases hq : p t with
  | false => rfl
  | true =>
    obtain ⟨s, h1, h2, _⟩ := cands_has h hp ht hq
    rw [(best_ok p (cands l)).no hn s h1] at h2
    cases h2
theorem first_some {l : List Rel} (h : ∀ r ∈ l, OkR r) {p : Str → Bool} (hp : ByCls l p) {b : Str} (hb : bestOf p (cands l) = some b) : FirstN p b := by
  obtain ⟨h1, h2, h3⟩ := (best_ok p (cands l)).yes b hb
  refine ⟨cands_good h1, h2, fun t ht hpt k => ?_⟩
  obtain ⟨s, h4, h5, h6⟩ := cands_has h hp ht hpt
  have h7 := h3 s h4 h5
  rcases bef_total (wd0 t) (wd0 s) with e | e | e
  · exact h6 e
  · exact h7 (by unfold befS; rw [← e]; exact k)
  · exact h7 (bef_trans e k)
end Go.Proofs.YtmnclnpbmgomgaaGreatDoor


/- Plain facts on decisions: the four properties of numbers, and what the reference finds. -/
namespace Go.Proofs.YtmnclnpbmgomgaaGreatDoor
set_option linter.unusedVariables false

/-- How many of some conditions hold. -/
def cntH (l : List Cnd) (s : Str) : Nat := (l.filter fun c => hldC s c).length
def prS (k : Nat) (n : Nat) : Bool := if k = 0 then decide (0 < n) else if k = 1 then decide (n = 0) else if k = 2 then decide (n = 2) else decide (n = 1)
def pS (l : List Cnd) (k : Nat) (s : Str) : Bool := prS k (cntH l s)
def relsC (l : List Cnd) : List Rel := l.flatMap fun c => c.flatMap id
theorem mem_relsC {l : List Cnd} {c : Cnd} (hc : c ∈ l) {k : List Rel} (hk : k ∈ c) {r : Rel} (hr : r ∈ k) : r ∈ relsC l :=
  List.mem_flatMap.2 ⟨c, hc, List.mem_flatMap.2 ⟨k, hk, hr⟩⟩
theorem relsC_ok {l : List Cnd} (h : ∀ c ∈ l, okC c = true) : ∀ r ∈ relsC l, OkR r := fun r hr => by
  obtain ⟨c, hc, hr⟩ := List.mem_flatMap.1 hr
  obtain ⟨k, hk, hr⟩ := List.mem_flatMap.1 hr
  exact okR_iff.1 ((okL_iff.1 ((okC_iff.1 (h c hc)).2.1 k hk)).2 r hr)
theorem filter_congr {α : Type} {f g : α → Bool} : ∀ {l : List α}, (∀ x ∈ l, f x = g x) → l.filter f = l.filter g
  | [], _ => rfl
  | a :: l, h => by rw [List.filter_cons, List.filter_cons, h a (by simp), filter_congr (fun x hx => h x (by simp [hx]))]
theorem cntH_class {l : List Cnd} {x y : Num} (gx : Good x) (gy : Good y) (hw : vecW (relsC l) (val x.wh) = vecW (relsC l) (val y.wh)) (hf : vecZ (relsC l) x.fr = vecZ (relsC l) y.fr) : cntH l (txt x) = cntH l (txt y) := by
  unfold cntH
  rw [filter_congr (fun c hc => hldC_class (l := relsC l) (fun k hk r hr => mem_relsC hc hk hr) gx gy hw hf)]
theorem pS_cls (l : List Cnd) (k : Nat) : ByCls (relsC l) (pS l k) := fun x y gx gy hw hf => by
  unfold pS
  rw [cntH_class gx gy hw hf]
/-- What first finds. -/
def firstR (l : List Cnd) (k : Nat) : Option Str := bestOf (pS l k) (cands (relsC l))
theorem firstR_none {l : List Cnd} (h : ∀ c ∈ l, okC c = true) {k : Nat} (hn : firstR l k = none) : NoneN (pS l k) := first_none (relsC_ok h) (pS_cls l k) hn
theorem firstR_some {l : List Cnd} (h : ∀ c ∈ l, okC c = true) {k : Nat} {b : Str} (hb : firstR l k = some b) : FirstN (pS l k) b := first_some (relsC_ok h) (pS_cls l k) hb
theorem firstR_eq {l : List Cnd} (h : ∀ c ∈ l, okC c = true) {k : Nat} {b : Str} (hb : FirstN (pS l k) b) : firstR l k = some b := by
  cases hf : firstR l k with
  | none => exact (hb.not_none (firstR_none h hf)).elim
  | some c => rw [hb.uniq (firstR_some h hf)]
theorem firstR_eq_none {l : List Cnd} (h : ∀ c ∈ l, okC c = true) {k : Nat} (hb : NoneN (pS l k)) : firstR l k = none := by
  cases hf : firstR l k with
  | none => rfl
  | some c => exact ((firstR_some h hf).not_none hb).elim
theorem isU_spl {s : Str} (h : isU s) : (spl s).isSome = true := by
  obtain ⟨x, g, _, rfl⟩ := h
  rw [spl_of g]
  rfl
theorem isU_len {s : Str} (h : isU s) : s.length ≤ 22 ∧ 1 ≤ s.length := by
  obtain ⟨x, g, hn, rfl⟩ := h
  rw [txt_tx0 hn, tx0_len]
  have := g.low
  have := g.high
  have := g.few
  split <;> omega
/-- An unsigned number, as the reference tells it. -/
theorem isU_iff {s : Str} : isU s ↔ (spl s).isSome = true ∧ s.head? ≠ some 45 := by
  constructor
  · intro h
    refine ⟨isU_spl h, fun e => ?_⟩
    cases s with
    | nil => cases e
    | cons c s =>
      injection e with e
      rcases isU_dp h c (by simp) with k | k
      · rw [e] at k; revert k; decide
      · rw [e] at k; cases k
  · rintro ⟨h, k⟩
    obtain ⟨x, hx⟩ := Option.isSome_iff_exists.1 h
    obtain ⟨g, ht⟩ := spl_some hx
    refine ⟨x, g, ?_, ht⟩
    cases hn : x.neg with
    | false => rfl
    | true =>
      exfalso
      apply k
      rw [← ht, txt_eq, hn]
      rfl
end Go.Proofs.YtmnclnpbmgomgaaGreatDoor


/- Classes of numbers, plain: valid rules, the class of a number, the example of a class, the classes that occur, and the laws on them. -/
namespace Go.Proofs.YtmnclnpbmgomgaaGreatDoor
set_option linter.unusedVariables false

abbrev Rus := List (Str × Cnd)
def othN : Str := [111, 116, 104, 101, 114]
def clsN : List Str := [[122, 101, 114, 111], [111, 110, 101], [116, 119, 111], [102, 101, 119], [109, 97, 110, 121]]
def ordN : List Str := clsN ++ [othN]
theorem othN_not : othN ∉ clsN := by decide
theorem mem_ordN {c : Str} : c ∈ ordN ↔ c ∈ clsN ∨ c = othN := by unfold ordN; simp
/-- Valid rules. -/
def VR (rs : Rus) : Prop := (∀ x ∈ rs, x.1 ∈ clsN ∧ okC x.2 = true) ∧ (rs.map Prod.fst).Nodup
instance (rs : Rus) : Decidable (VR rs) := by unfold VR; infer_instance
def clsR (rs : Rus) (s : Str) : Str := match rs.find? (fun r => hldC s r.2) with
  | some r => r.1
  | none => othN
def classR (rs : Rus) (s : Str) : Str × Nat := if VR rs ∧ (spl s).isSome = true then (clsR rs s, 0) else ([], 1)
theorem classR_ok {rs : Rus} {s : Str} (h : VR rs) (k : (spl s).isSome = true) : classR rs s = (clsR rs s, 0) := if_pos ⟨h, k⟩
theorem VR.ok {rs : Rus} (h : VR rs) : ∀ c ∈ rs.map Prod.snd, okC c = true := fun c hc => by
  obtain ⟨x, hx, rfl⟩ := List.mem_map.1 hc
  exact (h.1 x hx).2
/-- Two conditions hold for one number. -/
def Ov (rs : Rus) : Prop := ∃ t, isU t ∧ 2 ≤ cntH (rs.map Prod.snd) t
theorem cnt_two {s : Str} : ∀ {l : List Cnd} {i j : Nat} (hi : i < l.length) (hj : j < l.length), i < j → hldC s l[i] = true → hldC s l[j] = true → 2 ≤ cntH l s := fun {l i j} hi hj hij a b => by
  unfold cntH
  have h1 : (l.take j ++ l.drop j) = l := List.take_append_drop j l
  rw [← h1, List.filter_append, List.length_append]
  have e1 : 1 ≤ ((l.take j).filter fun c => hldC s c).length := List.length_pos_of_mem (List.mem_filter.2 ⟨List.mem_take_iff_getElem.2 ⟨i, by omega, rfl⟩, a⟩)
  have e2 : 1 ≤ ((l.drop j).filter fun c => hldC s c).length := List.length_pos_of_mem (List.mem_filter.2 ⟨List.mem_drop_iff_getElem.2 ⟨0, by omega, rfl⟩, b⟩)
  omega
/-- A number without its sign. -/
theorem abs_of {s : Str} (h : (spl s).isSome = true) : ∃ t, isU t ∧ ∀ c, hldC s c = hldC t c := by
  obtain ⟨x, hx⟩ := Option.isSome_iff_exists.1 h
  obtain ⟨g, ht⟩ := spl_some hx
  cases hn : x.neg with
  | false => exact ⟨s, ⟨x, g, hn, ht⟩, fun _ => rfl⟩
  | true => exact ⟨txt (neg_ x), ⟨neg_ x, neg_good g, by simp [neg_, hn], rfl⟩, fun c => (hldC_neg hx c).symm⟩
theorem one14 {rs : Rus} (h : ¬ Ov rs) {s : Str} (hs : (spl s).isSome = true) {i j : Nat} (hi : i < rs.length) (hj : j < rs.length) (a : hldC s rs[i].2 = true) (b : hldC s rs[j].2 = true) : i = j := by
  obtain ⟨t, ht, he⟩ := abs_of hs
  rw [he] at a b
  rcases Nat.lt_trichotomy i j with k | k | k
  · exact absurd ⟨t, ht, cnt_two (l := rs.map Prod.snd) (by simpa using hi) (by simpa using hj) k (by simpa using a) (by simpa using b)⟩ h
  · exact k
  · exact absurd ⟨t, ht, cnt_two (l := rs.map Prod.snd) (by simpa using hj) (by simpa using hi) k (by simpa using b) (by simpa using a)⟩ h
theorem clsR_at {rs : Rus} (h : ¬ Ov rs) {s : Str} (hs : (spl s).isSome = true) {r : Str × Cnd} (hr : r ∈ rs) (a : hldC s r.2 = true) : clsR rs s = r.1 := by
  unfold clsR
  cases hf : rs.find? (fun r => hldC s r.2) with
  | none => exact absurd a (by simpa using List.find?_eq_none.1 hf r hr)
  | some q =>
    have hq := List.find?_some hf
    obtain ⟨i, hi, rfl⟩ := List.mem_iff_getElem.1 hr
    obtain ⟨j, hj, rfl⟩ := List.mem_iff_getElem.1 (List.mem_of_find?_eq_some hf)
    obtain rfl := one14 h hs hi hj a hq
    rfl
theorem clsR_none {rs : Rus} {s : Str} (h : ∀ r ∈ rs, hldC s r.2 = false) : clsR rs s = othN := by
  unfold clsR
  rw [List.find?_eq_none.2 (fun r hr => by rw [h r hr]; decide)]
theorem clsR_cases (rs : Rus) (s : Str) : (∃ r ∈ rs, hldC s r.2 = true ∧ clsR rs s = r.1) ∨ ((∀ r ∈ rs, hldC s r.2 = false) ∧ clsR rs s = othN) := by
  cases hf : rs.find? (fun r => hldC s r.2) with
  | none =>
    have h : ∀ r ∈ rs, hldC s r.2 = false := fun r hr => by simpa using List.find?_eq_none.1 hf r hr
    exact .inr ⟨h, clsR_none h⟩
  | some q => exact .inl ⟨q, List.mem_of_find?_eq_some hf, List.find?_some (p := fun r : Str × Cnd => hldC s r.2) hf, by unfold clsR; rw [hf]⟩
theorem VR.inj {rs : Rus} (h : VR rs) {q r : Str × Cnd} (hq : q ∈ rs) (hr : r ∈ rs) (e : q.1 = r.1) : q = r := by
  obtain ⟨i, hi, rfl⟩ := List.mem_iff_getElem.1 hq
  obtain ⟨j, hj, rfl⟩ := List.mem_iff_getElem.1 hr
  have := (List.getElem_inj (h₀ := by simpa using hi) (h₁ := by simpa using hj) h.2).1 (by simpa using e)
  subst this
  rfl
theorem VR.ne_oth {rs : Rus} (h : VR rs) {r : Str × Cnd} (hr : r ∈ rs) : r.1 ≠ othN := fun e => othN_not (e ▸ (h.1 r hr).1)
theorem clsR_same {rs : Rus} {s t : Str} (h : ∀ c, hldC s c = hldC t c) : clsR rs s = clsR rs t := by
  unfold clsR
  rw [show (fun r : Str × Cnd => hldC s r.2) = fun r => hldC t r.2 from funext fun r => h r.2]
theorem classR_neg {rs : Rus} {s : Str} {x : Num} (h : spl s = some x) : classR rs (txt (neg_ x)) = classR rs s := by
  have e : clsR rs (txt (neg_ x)) = clsR rs s := clsR_same fun c => hldC_neg h c
  have e1 : (spl (txt (neg_ x))).isSome = true := by rw [spl_of (neg_good (spl_some h).1)]; rfl
  have e2 : (spl s).isSome = true := by rw [h]; rfl
  unfold classR
  rw [e, e1, e2]
/-! ### Examples and classes -/
def exF (rs : Rus) (c : Str) : Option Str := if c = othN then firstR (rs.map Prod.snd) 1 else match rs.find? (fun r => decide (r.1 = c)) with
  | some r => firstR [r.2] 0
  | none => none
open Classical in
noncomputable def exR (rs : Rus) (c : Str) : Str × Nat :=
  if ¬ VR rs then ([], 1) else if c ∉ ordN then ([], 10) else if Ov rs then ([], 19) else match exF rs c with
    | some s => (s, 0)
    | none => ([], 8)
open Classical in
noncomputable def clssR (rs : Rus) : List Str × Nat := if ¬ VR rs then ([], 1) else if Ov rs then ([], 19) else (ordN.filter (fun c => (exF rs c).isSome), 0)
theorem pS_zero (c : Cnd) (s : Str) : pS [c] 0 s = hldC s c := by
  unfold pS prS cntH
  cases h : hldC s c <;> simp [h]
theorem pS_none (cs : List Cnd) (s : Str) : pS cs 1 s = decide (∀ c ∈ cs, hldC s c = false) := by
  unfold pS prS cntH
  rw [if_neg (by decide), if_pos rfl]
  congr 1
  rw [List.length_eq_zero_iff, List.filter_eq_nil_iff]
  simp
/-- What the example of a class says. -/
theorem exF_first {rs : Rus} (hv : VR rs) (ho : ¬ Ov rs) {c : Str} (hc : c ∈ ordN) : (∀ b, exF rs c = some b → FirstN (fun s => decide (clsR rs s = c)) b) ∧ (exF rs c = none → NoneN (fun s => decide (clsR rs s = c))) := by
  have key : ∀ {l : List Cnd} {k : Nat}, (∀ c ∈ l, okC c = true) → (∀ s, isU s → pS l k s = decide (clsR rs s = c)) → (∀ b, firstR l k = some b → FirstN (fun s => decide (clsR rs s = c)) b) ∧ (firstR l k = none → NoneN (fun s => decide (clsR rs s = c))) := fun {l k} hok he =>
    ⟨fun b hb => by
      obtain ⟨h1, h2, h3⟩ := firstR_some hok hb
      exact ⟨h1, (he b h1).symm.trans h2, fun t ht hp => h3 t ht (by rw [he t ht]; exact hp)⟩, fun hb t ht => by
      exact (he t ht).symm.trans (firstR_none hok hb t ht)⟩
  unfold exF
  by_cases e : c = othN
  · rw [if_pos e]
    refine key hv.ok fun s hs => ?_
    rw [pS_none, decide_eq_decide, e]
    constructor
    · exact fun h => clsR_none fun r hr => h r.2 (List.mem_map_of_mem hr)
    · intro h d hd
      obtain ⟨r, hr, rfl⟩ := List.mem_map.1 hd
      rcases clsR_cases rs s with ⟨q, hq, _, hq2⟩ | ⟨h1, _⟩
      · exact absurd (hq2.symm.trans h) (hv.ne_oth hq)
      · exact h1 r hr
  · rw [if_neg e]
    cases hf : rs.find? (fun r => decide (r.1 = c)) with
    | none =>
      refine ⟨fun b hb => (by cases hb), fun _ t ht => ?_⟩
      refine decide_eq_false fun h => ?_
      rcases clsR_cases rs t with ⟨q, hq, _, hq2⟩ | ⟨_, h1⟩
      · exact absurd (hq2.symm.trans h) (by simpa using List.find?_eq_none.1 hf q hq)
      · exact e (h.symm.trans h1)
    | some r =>
      have hr := List.mem_of_find?_eq_some hf
      have hrc : r.1 = c := by simpa using List.find?_some hf
      refine key (fun d hd => by rw [List.mem_singleton.1 hd]; exact (hv.1 r hr).2) fun s hs => ?_
      rw [pS_zero]
      cases hh : hldC s r.2 with
      | true => rw [clsR_at ho (isU_spl hs) hr hh, hrc]; simp
      | false =>
        refine (decide_eq_false fun h => ?_).symm
        rcases clsR_cases rs s with ⟨q, hq, h1, hq2⟩ | ⟨_, h1⟩
        · rw [hv.inj hq hr (hq2.symm.trans (h.trans hrc.symm)), hh] at h1
          cases h1
        · exact e (h.symm.trans h1)
theorem clsR_mem {rs : Rus} (hv : VR rs) (s : Str) : clsR rs s ∈ ordN := by
  rcases clsR_cases rs s with ⟨q, hq, _, h⟩ | ⟨_, h⟩
  · rw [h]; exact mem_ordN.2 (.inl (hv.1 q hq).1)
  · rw [h]; exact mem_ordN.2 (.inr rfl)
theorem exR_ok {rs : Rus} {c : Str} (hv : VR rs) (ho : ¬ Ov rs) (hc : c ∈ ordN) : exR rs c = match exF rs c with
    | some s => (s, 0)
    | none => ([], 8) := by
  unfold exR
  rw [if_neg (fun h => h hv), if_neg (fun h => h hc), if_neg ho]
theorem exR_of {rs : Rus} {c : Str} {s : Str} {e : Nat} (h : exR rs c = (s, e)) (he : e = 0 ∨ e = 8) : VR rs ∧ ¬ Ov rs ∧ c ∈ ordN ∧ ((e = 0 ∧ exF rs c = some s) ∨ (e = 8 ∧ s = [] ∧ exF rs c = none)) := by
  unfold exR at h
  split at h
  · injection h with _ h; omega
  · split at h
    · injection h with _ h; omega
    · split at h
      · injection h with _ h; omega
      · rename_i h1 h2 h3
        refine ⟨Classical.not_not.1 h1, h3, Classical.not_not.1 h2, ?_⟩
        cases hx : exF rs c with
        | none => rw [hx] at h; injection h with p q; exact .inr ⟨q.symm, p.symm, rfl⟩
        | some b => rw [hx] at h; injection h with p q; exact .inl ⟨q.symm, by rw [p]⟩
theorem clssR_ok {rs : Rus} (h : (clssR rs).2 = 0) : VR rs ∧ ¬ Ov rs ∧ (clssR rs).1 = ordN.filter (fun c => (exF rs c).isSome) := by
  unfold clssR at h ⊢
  split at h
  · exact absurd h (by decide)
  · split at h
    · exact absurd h (by decide)
    · rename_i h1 h2
      rw [if_neg h1, if_neg h2]
      exact ⟨Classical.not_not.1 h1, h2, rfl⟩
/-- The class of a number is among those that occur. -/
theorem clss_has {rs : Rus} (h : (clssR rs).2 = 0) {s : Str} (hs : (spl s).isSome = true) : clsR rs s ∈ (clssR rs).1 := by
  obtain ⟨hv, ho, e⟩ := clssR_ok h
  rw [e, List.mem_filter]
  refine ⟨clsR_mem hv s, ?_⟩
  obtain ⟨t, ht, he⟩ := abs_of hs
  cases hx : exF rs (clsR rs s) with
  | some b => rfl
  | none =>
    have := (exF_first hv ho (clsR_mem hv s)).2 hx t ht
    rw [decide_eq_false_iff_not] at this
    exact absurd (clsR_same fun c => (he c).symm) this
theorem ex_class {rs : Rus} {c s : Str} (h : exR rs c = (s, 0)) : classR rs s = (c, 0) := by
  obtain ⟨hv, ho, hc, ⟨_, h⟩ | ⟨h, _⟩⟩ := exR_of h (.inl rfl)
  · obtain ⟨h1, h2, _⟩ := (exF_first hv ho hc).1 s h
    rw [classR_ok hv (isU_spl h1), of_decide_eq_true h2]
  · cases h
theorem ex_front {rs : Rus} {c s t : Str} {e : Nat} (h : exR rs c = (s, e)) (he : e = 0 ∨ e = 8) (ht : isU t) : (classR rs t).2 = 0 ∧ ((classR rs t).1 ≠ c ∨ (e = 0 ∧ befB t s = false)) := by
  obtain ⟨hv, ho, hc, k⟩ := exR_of h he
  rw [classR_ok hv (isU_spl ht)]
  refine ⟨rfl, ?_⟩
  by_cases e1 : clsR rs t = c
  · rcases k with ⟨k0, k⟩ | ⟨_, _, k⟩
    · refine .inr ⟨k0, ?_⟩
      have := ((exF_first hv ho hc).1 s k).2.2 t ht (decide_eq_true e1)
      cases hb : befB t s with
      | false => rfl
      | true => exact absurd (befB_iff.1 hb) this
    · exact absurd ((exF_first hv ho hc).2 k t ht) (by simpa using e1)
  · exact .inl e1
/-! ### Order, fewer rules -/
theorem classR_perm {rs qs : Rus} (hp : rs.Perm qs) (hv : VR rs) (ho : ¬ Ov rs) (s : Str) : classR qs s = classR rs s := by
  have hv2 : VR qs := ⟨fun x hx => hv.1 x (hp.mem_iff.2 hx), (hp.map Prod.fst).nodup_iff.1 hv.2⟩
  by_cases hs : (spl s).isSome = true
  · rw [classR_ok hv hs, classR_ok hv2 hs]
    rcases clsR_cases qs s with ⟨q, hq, h1, h2⟩ | ⟨h1, h2⟩
    · rw [h2, clsR_at ho hs (hp.mem_iff.2 hq) h1]
    · rw [h2, clsR_none fun r hr => h1 r (hp.mem_iff.1 hr)]
  · unfold classR
    rw [if_neg (fun h => hs h.2), if_neg (fun h => hs h.2)]
theorem classR_less {rs : Rus} {k : Nat} (hk : k < rs.length) (hv : VR rs) (ho : ¬ Ov rs) {s : Str} (hs : (spl s).isSome = true) :
    classR (rs.take k ++ rs.drop (k + 1)) s = (if clsR rs s = rs[k].1 then othN else clsR rs s, 0) := by
  have hd : rs = rs.take k ++ rs[k] :: rs.drop (k + 1) := by rw [List.getElem_cons_drop, List.take_append_drop]
  have hp : rs.Perm (rs[k] :: (rs.take k ++ rs.drop (k + 1))) := by
    conv => lhs; rw [hd]
    exact List.perm_middle
  have hsub : ∀ x ∈ rs.take k ++ rs.drop (k + 1), x ∈ rs := fun x hx => hp.mem_iff.2 (List.mem_cons_of_mem _ hx)
  have hnd := (hp.map Prod.fst).nodup_iff.1 hv.2
  rw [List.map_cons, List.nodup_cons] at hnd
  have hv2 : VR (rs.take k ++ rs.drop (k + 1)) := ⟨fun x hx => hv.1 x (hsub x hx), hnd.2⟩
  rw [classR_ok hv2 hs]
  congr 1
  rcases clsR_cases (rs.take k ++ rs.drop (k + 1)) s with ⟨q, hq, h1, h2⟩ | ⟨h1, h2⟩
  · have h3 := clsR_at ho hs (hsub q hq) h1
    rw [h2, h3, if_neg]
    exact fun e => hnd.1 (List.mem_map.2 ⟨q, hq, e⟩)
  · rw [h2]
    by_cases e : hldC s rs[k].2 = true
    · rw [clsR_at ho hs (List.getElem_mem hk) e, if_pos rfl]
    · rw [clsR_none (rs := rs) fun r hr => by
        rcases List.mem_cons.1 (hp.mem_iff.1 hr) with rfl | hr
        · simpa using e
        · exact h1 r hr]
      split <;> rfl
end Go.Proofs.YtmnclnpbmgomgaaGreatDoor


/- Plain facts on decisions: numbers reduced by a bound and a modulus; the states behind a word and what they accept. -/
namespace Go.Proofs.YtmnclnpbmgomgaaGreatDoor
set_option linter.unusedVariables false

/-! ### Reductions -/
def redO (B m n : Nat) : Nat := if n < B then n else B + (n - B) % m
theorem redO_lt {B m : Nat} (hm : 0 < m) (n : Nat) : redO B m n < B + m := by
  unfold redO
  split
  · omega
  · have := Nat.mod_lt (n - B) hm; omega
theorem redO_zero (B m : Nat) : redO B m 0 = 0 := by
  unfold redO
  split
  · rfl
  · obtain rfl : B = 0 := by omega
    simp
theorem wT_red {r : Rel} {B m : Nat} (h0 : r.md = 0 → ∀ s ∈ r.sp, s.2 < (B : Int)) (h1 : r.md ≠ 0 → ∃ k : Nat, 0 < k ∧ r.md = (k : Int) ∧ k ∣ m) (n : Nat) : wT r (redO B m n) = wT r n := by
  by_cases h : n < B
  · unfold redO
    rw [if_pos h]
  · have e0 : redO B m n = B + (n - B) % m := by unfold redO; rw [if_neg h]
    rw [e0]
    unfold wT
    by_cases hz : r.md = 0
    · rw [hz]
      unfold rem
      rw [if_pos rfl, if_pos rfl]
      have hin : ∀ k : Int, (B : Int) ≤ k → inside r.sp k = false := fun k hk => by
        unfold inside
        rw [List.any_eq_false]
        intro s hs
        have := h0 hz s hs
        simp
        intro _
        omega
      rw [hin _ (by omega), hin _ (by omega)]
    · obtain ⟨k, hk, hmd, hd⟩ := h1 hz
      rw [hmd, rem_nat _ _ hk, rem_nat _ _ hk]
      have e : n = (B + (n - B) % m) + m * ((n - B) / m) := by
        have := Nat.div_add_mod (n - B) m
        omega
      obtain ⟨j, hj⟩ := hd
      have : n % k = (B + (n - B) % m) % k := by
        conv => lhs; rw [e]
        rw [hj, Nat.mul_assoc, Nat.add_mul_mod_self_left]
      rw [this]
def mostR (r : Rel) : Nat := r.sp.foldl (fun n s => max n s.2.toNat) 0
theorem foldl_max_ge : ∀ (l : List (Int × Int)) (n : Nat), n ≤ l.foldl (fun n s => max n s.2.toNat) n ∧ ∀ s ∈ l, s.2.toNat ≤ l.foldl (fun n s => max n s.2.toNat) n
  | [], n => ⟨Nat.le_refl _, fun s h => by cases h⟩
  | a :: l, n => by
    obtain ⟨h1, h2⟩ := foldl_max_ge l (max n a.2.toNat)
    rw [List.foldl_cons]
    refine ⟨by omega, fun s hs => ?_⟩
    rcases List.mem_cons.1 hs with rfl | hs
    · omega
    · exact h2 s hs
theorem foldl_max_le {m : Nat} : ∀ (l : List (Int × Int)) (n : Nat), n ≤ m → (∀ s ∈ l, s.2.toNat ≤ m) → l.foldl (fun n s => max n s.2.toNat) n ≤ m
  | [], n, h, _ => h
  | a :: l, n, h, hl => by
    rw [List.foldl_cons]
    exact foldl_max_le l _ (by have := hl a (by simp); omega) (fun s hs => hl s (by simp [hs]))
theorem mostR_ge {r : Rel} : ∀ s ∈ r.sp, s.2.toNat ≤ mostR r := (foldl_max_ge r.sp 0).2
theorem mostR_le {r : Rel} (h : OkR r) : mostR r ≤ 100 := foldl_max_le r.sp 0 (by omega) (fun s hs => by have := okSp_le (h.sp s hs); omega)
/-- One relation's part in a reduction. -/
def redF (a b : Int) (p : Nat × Nat) (r : Rel) : Nat × Nat :=
  if r.op ≠ a ∧ r.op ≠ b then p else if r.md = 0 then (max p.1 (mostR r + 1), p.2) else (p.1, p.2 / Nat.gcd p.2 r.md.toNat * r.md.toNat)
def redL (l : List Rel) (a b : Int) : Nat × Nat := l.foldl (redF a b) (0, 1)
structure RedOk (P : Rel → Prop) (a b : Int) (p : Nat × Nat) : Prop where
  B : p.1 ≤ 101
  pos : 0 < p.2
  m : p.2 ∣ 300
  zero_ : ∀ r, P r → r.op = a ∨ r.op = b → r.md = 0 → ∀ s ∈ r.sp, s.2 < (p.1 : Int)
  div : ∀ r, P r → r.op = a ∨ r.op = b → r.md ≠ 0 → ∃ k : Nat, 0 < k ∧ r.md = (k : Int) ∧ k ∣ p.2
theorem div_lcm (m n : Nat) : m / Nat.gcd m n * n = Nat.lcm m n := by
  rw [Nat.lcm, Nat.div_mul_right_comm (Nat.gcd_dvd_left m n)]
theorem RedOk.step {P : Rel → Prop} {a b : Int} {p : Nat × Nat} (h : RedOk P a b p) {r : Rel} (hr : OkR r) : RedOk (fun x => P x ∨ x = r) a b (redF a b p r) := by
  unfold redF
  split
  · rename_i hn
    refine ⟨h.B, h.pos, h.m, fun x hx ho => ?_, fun x hx ho => ?_⟩
    · rcases hx with hx | rfl
      · exact h.zero_ x hx ho
      · rcases ho with e | e
        · exact absurd e hn.1
        · exact absurd e hn.2
    · rcases hx with hx | rfl
      · exact h.div x hx ho
      · rcases ho with e | e
        · exact absurd e hn.1
        · exact absurd e hn.2
  · split
    · rename_i hz
      have hle := mostR_le hr
      have hB := h.B
      refine ⟨by dsimp only; omega, h.pos, h.m, fun x hx ho hm s hs => ?_, fun x hx ho hm => ?_⟩
      · dsimp only
        rcases hx with hx | rfl
        · have := h.zero_ x hx ho hm s hs
          omega
        · have := mostR_ge s hs
          omega
      · rcases hx with hx | rfl
        · exact h.div x hx ho hm
        · exact absurd hz hm
    · rename_i hz
      rcases okMod_div hr.md with h0 | ⟨k, hk, hmd, hd⟩
      · exact absurd h0 hz
      have ek : r.md.toNat = k := by rw [hmd]; rfl
      rw [ek, div_lcm]
      refine ⟨h.B, Nat.lcm_pos h.pos hk, Nat.lcm_dvd h.m hd, fun x hx ho hm s hs => ?_, fun x hx ho hm => ?_⟩
      · rcases hx with hx | rfl
        · exact h.zero_ x hx ho hm s hs
        · exact absurd hm hz
      · rcases hx with hx | rfl
        · obtain ⟨j, h1, h2, h3⟩ := h.div x hx ho hm
          exact ⟨j, h1, h2, Nat.dvd_trans h3 (Nat.dvd_lcm_left _ _)⟩
        · exact ⟨k, hk, hmd, Nat.dvd_lcm_right _ _⟩
theorem RedOk.fold {a b : Int} : ∀ {l : List Rel} {P : Rel → Prop} {p : Nat × Nat}, RedOk P a b p → (∀ r ∈ l, OkR r) → RedOk (fun x => P x ∨ x ∈ l) a b (l.foldl (redF a b) p)
  | [], P, p, h, _ => ⟨h.B, h.pos, h.m, fun x hx => h.zero_ x (by rcases hx with hx | hx; exact hx; cases hx), fun x hx => h.div x (by rcases hx with hx | hx; exact hx; cases hx)⟩
  | r :: l, P, p, h, hl => by
    have h1 := RedOk.fold (l := l) (h.step (hl r (by simp))) (fun x hx => hl x (by simp [hx]))
    have hm : ∀ x, P x ∨ x ∈ r :: l → (P x ∨ x = r) ∨ x ∈ l := fun x hx => by
      rcases hx with hx | hx
      · exact .inl (.inl hx)
      · rcases List.mem_cons.1 hx with rfl | hx
        · exact .inl (.inr rfl)
        · exact .inr hx
    exact ⟨h1.B, h1.pos, h1.m, fun x hx => h1.zero_ x (hm x hx), fun x hx => h1.div x (hm x hx)⟩
theorem redL_ok {l : List Rel} (h : ∀ r ∈ l, OkR r) (a b : Int) : RedOk (fun x => x ∈ l) a b (redL l a b) := by
  have h0 : RedOk (fun _ => False) a b (0, 1) := ⟨by dsimp only; omega, by dsimp only; omega, by dsimp only; decide, fun r hr => hr.elim, fun r hr => hr.elim⟩
  have h1 := h0.fold (l := l) h
  exact ⟨h1.B, h1.pos, h1.m, fun x hx => h1.zero_ x (.inr hx), fun x hx => h1.div x (.inr hx)⟩

/-! ### What is known behind a word -/
structure St where
  ph : Nat
  wh : Nat
  tr : List Bool
  sm : Bool
  v : Nat
  w : Nat
  f : Nat
  t : Nat
deriving DecidableEq
def chrD (c : Nat) : UInt8 := UInt8.ofNat (48 + c)
theorem chrD_ok {c : Nat} (h : c < 10) : isD (chrD c) = true ∧ dg (chrD c) = c := ⟨(dg_of h).2, (dg_of h).1⟩
def Bad (w : List Nat) : Prop := 2 ≤ w.count 10 ∨ w.head? = some 10
theorem Bad.snoc {w : List Nat} (h : Bad w) (c : Nat) : Bad (w ++ [c]) := by
  rcases h with h | h
  · exact .inl (by rw [List.count_append]; omega)
  · cases w with
    | nil => cases h
    | cons a w => exact .inr h
theorem wd0_snoc {s : Str} {c : Nat} (hc : c < 10) : wd0 (s ++ [chrD c]) = wd0 s ++ [c] := by
  unfold wd0
  rw [List.map_append, List.map_cons, List.map_nil, sy0_digit (chrD_ok hc).1, (chrD_ok hc).2]
theorem allD_snoc {s : Str} (h : allD s) {c : Nat} (hc : c < 10) : allD (s ++ [chrD c]) := allD_app.2 ⟨h, allD_cons.2 ⟨(chrD_ok hc).1, allD_nil⟩⟩
end Go.Proofs.YtmnclnpbmgomgaaGreatDoor


/- Plain facts on decisions: the states behind a word accept the words for which the condition holds. -/
namespace Go.Proofs.YtmnclnpbmgomgaaGreatDoor
set_option linter.unusedVariables false

def st0 : St := ⟨0, 0, [], false, 0, 0, 0, 0⟩
theorem val_chr {s : Str} {c : Nat} (hc : c < 10) : val (s ++ [chrD c]) = 10 * val s + c := by
  rw [val_snoc, (chrD_ok hc).2]
  omega
theorem trim_snoc {s : Str} (h : allD s) {c : Nat} (hc : c < 10) : trim (s ++ [chrD c]) = if c = 0 then trim s else s ++ [chrD c] := by
  split
  · rename_i h0
    subst h0
    exact trim_app_zs s 1
  · rename_i h0
    refine trim_full (allD_snoc h hc) (fun _ => ?_)
    rw [val_chr hc]
    omega
theorem zero_snoc {s : Str} {c : Nat} (hc : c < 10) : zero (s ++ [chrD c]) = (zero s && decide (c = 0)) := by
  rw [zero_app]
  congr 1
  by_cases h : c = 0
  · subst h; rfl
  · rw [decide_eq_false h]
    unfold zero
    rw [List.all_cons, List.all_nil, Bool.and_true, beq_eq_false_iff_ne]
    intro e
    have := (chrD_ok hc).2
    rw [e, dg_48] at this
    omega
end Go.Proofs.YtmnclnpbmgomgaaGreatDoor


