/- What the row stands on, part 14. -/
import Derived.Test.YtfbfcomfkokfcaaGreatDoorQ13

/- Plain facts on decisions: what the readings of the program mean; how many there are. -/
namespace Go.Proofs.YtfbfcomfkokfcaaGreatDoor
set_option linter.unusedVariables false

/-! ### Numbers that a scale does not tell apart -/
def Eqr (p : Nat × Nat) (a b : Nat) : Prop := a = b ∨ ∃ j k r, p.1 ≤ r ∧ a = r + p.2 * j ∧ b = r + p.2 * k
theorem Eqr.refl (p : Nat × Nat) (a : Nat) : Eqr p a a := .inl rfl
theorem eqr_red (p : Nat × Nat) (n : Nat) : Eqr p (redO p.1 p.2 n) n := by
  by_cases h : n < p.1
  · left
    unfold redO
    rw [if_pos h]
  · right
    refine ⟨0, (n - p.1) / p.2, redO p.1 p.2 n, ?_, by simp, ?_⟩
    · unfold redO
      rw [if_neg h]
      exact Nat.le_add_right _ _
    · unfold redO
      rw [if_neg h]
      have := Nat.mod_add_div (n - p.1) p.2
      omega
theorem Eqr.add {p : Nat × Nat} {a b : Nat} (h : Eqr p a b) (c : Nat) : Eqr p (a + c) (b + c) := by
  rcases h with rfl | ⟨j, k, r, h1, rfl, rfl⟩
  · exact .inl rfl
  · exact .inr ⟨j, k, r + c, by omega, by omega, by omega⟩
theorem Eqr.ten {p : Nat × Nat} {a b : Nat} (h : Eqr p a b) : Eqr p (10 * a) (10 * b) := by
  rcases h with rfl | ⟨j, k, r, h1, rfl, rfl⟩
  · exact .inl rfl
  · exact .inr ⟨10 * j, 10 * k, 10 * r, by omega, by rw [Nat.mul_add, Nat.mul_left_comm], by rw [Nat.mul_add, Nat.mul_left_comm]⟩
theorem Eqr.red {p : Nat × Nat} {a b : Nat} (h : Eqr p a b) : redO p.1 p.2 a = redO p.1 p.2 b := by
  rcases h with rfl | ⟨j, k, r, h1, rfl, rfl⟩
  · rfl
  · have e : ∀ i, redO p.1 p.2 (r + p.2 * i) = p.1 + (r - p.1) % p.2 := fun i => by
      unfold redO
      rw [if_neg (by have := Nat.zero_le (p.2 * i); omega), show r + p.2 * i - p.1 = (r - p.1) + p.2 * i by omega, Nat.add_mul_mod_self_left]
    rw [e, e]
theorem wT_eqr {l : List Rel} {a b : Int} {p : Nat × Nat} (h : RedOk (fun x => x ∈ l) a b p) {r : Rel} (hr : r ∈ l) (ho : r.op = a ∨ r.op = b) {m n : Nat} (he : Eqr p m n) : wT r m = wT r n := by
  rw [← wT_red (h.zero_ r hr ho) (h.div r hr ho) m, he.red, wT_red (h.zero_ r hr ho) (h.div r hr ho)]

/-! ### The reading behind a whole part -/
def trW (n : Nat) (r : Rel) : Bool := if r.op = 1 ∨ r.op = 2 then wT r n else wT r 0
def trS (r : Rel) : Bool := if r.op = 1 ∨ r.op = 2 then false else wT r 0
section
variable {l : List Rel} (hok : ∀ r ∈ l, OkR r) (h6 : l.length ≤ 60)
include hok h6
theorem stRg_eq (place : Nat) : stRg l place = ⟨place, bitsF trS l, 0, 0, true⟩ := by
  unfold stRg
  have e0 : (0 : Nat) = bitsF (fun _ => false) l := eq_bits (f := fun _ => false) (l := l) (n := 0) (fun j => by rw [Nat.zero_testBit]; split <;> rfl)
  rw [Rg.mk.injEq]
  refine ⟨rfl, ?_, rfl, rfl, rfl⟩
  conv => lhs; rw [e0]
  have hz : bitsF (fun _ : Rel => false) l = 0 := e0.symm
  rw [upd_bits (by omega), upd_bits (by omega), upd_bits (by omega), upd_bits (by omega)]
  refine bitsF_congr fun r hr => ?_
  have h := hok r hr
  have h1 := h.lo
  have h2 := h.hi
  unfold trS
  have hw : hI r 0 = wT r 0 := hI_nat r 0
  by_cases h12 : r.op = 1 ∨ r.op = 2
  · rw [if_pos h12, if_neg (by omega), if_neg (by omega), if_neg (by omega), if_neg (by omega)]
  · rw [if_neg h12, hw]
    by_cases h3 : r.op = 6
    · rw [if_pos h3]
    · rw [if_neg h3]
      by_cases h4 : r.op = 5
      · rw [if_pos h4]
      · rw [if_neg h4]
        by_cases h5 : r.op = 4
        · rw [if_pos h5]
        · rw [if_neg h5, if_pos (by omega)]
theorem nxW_eq {x : Rg} {f : Rel → Bool} {n m c : Nat} (hh : x.hold = bitsF f l) (hf : ∀ r ∈ l, r.op ≠ 1 → r.op ≠ 2 → f r = wT r 0) (he : Eqr (redL l 1 2) (x.ten + c) m) : nxW l (redL l 1 2) x c = ⟨1, bitsF (trW m) l, x.cnt, redO (redL l 1 2).1 (redL l 1 2).2 (10 * m), x.int⟩ := by
  unfold nxW
  rw [Rg.mk.injEq]
  refine ⟨rfl, ?_, rfl, he.ten.red, rfl⟩
  rw [hh, upd_bits (by omega), upd_bits (by omega)]
  refine bitsF_congr fun r hr => ?_
  have hr0 := redL_ok hok 1 2
  unfold trW
  by_cases h2 : r.op = 2
  · rw [if_pos h2, if_pos (.inr h2), hI_nat]
    exact wT_eqr hr0 hr (.inr h2) he
  · rw [if_neg h2]
    by_cases h1 : r.op = 1
    · rw [if_pos h1, if_pos (.inl h1), hI_nat]
      exact wT_eqr hr0 hr (.inl h1) he
    · rw [if_neg h1, if_neg (by omega)]
      exact hf r hr h1 h2
/-- Behind the digits of a whole part. -/
def rgW (l : List Rel) (n : Nat) : Rg := ⟨1, bitsF (trW n) l, 0, redO (redL l 1 2).1 (redL l 1 2).2 (10 * n), true⟩
theorem step_first {p q s : Nat × Nat} (hp : p = redL l 1 2) {c : Nat} (hc : c < 10) : nxR l p q s (stRg l 0) c = rgW l c := by
  subst hp
  unfold nxR
  rw [stRg_eq hok h6, if_neg (fun h => by omega), if_neg (fun h => by rcases h with h | h; omega; exact absurd (show (0 : Nat) = 4 from h) (by decide)), if_pos (.inl rfl)]
  rw [nxW_eq hok h6 (f := trS) (n := 0) (m := c) rfl (fun r hr h1 h2 => by unfold trS; rw [if_neg (by omega)]) (by rw [Nat.zero_add]; exact Eqr.refl _ _)]
  rfl
theorem step_whole {p q s : Nat × Nat} (hp : p = redL l 1 2) {n c : Nat} (hc : c < 10) : nxR l p q s (rgW l n) c = rgW l (10 * n + c) := by
  subst hp
  unfold nxR rgW
  rw [if_neg (fun h => by omega), if_neg (fun h => by rcases h with h | h; omega; exact absurd (show (1 : Nat) = 4 from h) (by decide)), if_pos (.inr rfl)]
  rw [nxW_eq hok h6 (f := trW n) (n := 0) (m := 10 * n + c) rfl (fun r hr h1 h2 => by unfold trW; rw [if_neg (by omega)]) ((eqr_red _ _).add c)]
theorem run_whole {p q s : Nat × Nat} (hp : p = redL l 1 2) : ∀ (k : Nat) (ds : Str), ds.length = k → allD ds → ds ≠ [] → runR (nxR l p q s) (stRg l 0) (wd0 ds) = rgW l (val ds)
  | 0, ds, hl, _, hne => absurd (List.length_eq_zero_iff.1 hl) hne
  | k + 1, ds, hl, hd, hne => by
    obtain ⟨a, ch, rfl⟩ : ∃ a c, ds = a ++ [c] := ⟨ds.dropLast, ds.getLast hne, (List.dropLast_concat_getLast hne).symm⟩
    have hch := (allD_app.1 hd).2 ch (by simp)
    have hda := (allD_app.1 hd).1
    have hc9 := dg_le hch
    obtain ⟨c, hc, rfl⟩ : ∃ c, c < 10 ∧ ch = chrD c := ⟨dg ch, by omega, dg_inj hch (chrD_ok (by omega)).1 (chrD_ok (by omega)).2.symm⟩
    rw [wd0_snoc hc, runR_snoc, val_chr hc]
    by_cases ha : a = []
    · subst ha
      rw [val_nil]
      have e : runR (nxR l p q s) (stRg l 0) (wd0 []) = stRg l 0 := rfl
      rw [e, step_first hok h6 hp hc, Nat.mul_zero, Nat.zero_add]
    · rw [run_whole hp k a (by simpa using hl) hda ha, step_whole hok h6 hp hc]

/-! ### The reading behind a fraction -/
def trF (f0 : Rel → Bool) (es : Str) (r : Rel) : Bool :=
  if r.op = 1 then (if zero es = true then f0 r else r.nt) else if r.op = 3 then wT r es.length else if r.op = 4 then wT r (trim es).length else if r.op = 5 then wT r (val es) else if r.op = 6 then wT r (val (trim es)) else f0 r
def rgF (l : List Rel) (f0 : Rel → Bool) (es : Str) : Rg := ⟨if es = [] then 2 else 3, bitsF (trF f0 es) l, redO (redL l 3 4).1 (redL l 3 4).2 es.length, redO (redL l 5 6).1 (redL l 5 6).2 (10 * val es), zero es⟩
omit h6 in
theorem trF_nil {f0 : Rel → Bool} (hf : ∀ r ∈ l, 3 ≤ r.op → f0 r = wT r 0) : ∀ r ∈ l, trF f0 [] r = f0 r := fun r hr => by
  have h := hok r hr
  have h1 := h.lo
  have h2 := h.hi
  unfold trF
  have e1 : zero ([] : Str) = true := rfl
  have e2 : trim ([] : Str) = [] := rfl
  have e3 : ([] : Str).length = 0 := rfl
  rw [e2, e3, val_nil]
  by_cases o1 : r.op = 1
  · rw [if_pos o1, if_pos e1]
  · rw [if_neg o1]
    by_cases o2 : r.op = 2
    · rw [if_neg (by omega), if_neg (by omega), if_neg (by omega), if_neg (by omega)]
    · rw [hf r hr (by omega)]
      by_cases o3 : r.op = 3
      · rw [if_pos o3]
      · rw [if_neg o3]
        by_cases o4 : r.op = 4
        · rw [if_pos o4]
        · rw [if_neg o4]
          by_cases o5 : r.op = 5
          · rw [if_pos o5]
          · rw [if_neg o5, if_pos (by omega)]
theorem step_frac {p q s : Nat × Nat} (hq : q = redL l 3 4) (hs : s = redL l 5 6) {f0 : Rel → Bool} {es : Str} (he : allD es) {c : Nat} (hc : c < 10) : nxR l p q s (rgF l f0 es) c = rgF l f0 (es ++ [chrD c]) := by
  subst hq hs
  have hpl : (rgF l f0 es).pl = 2 ∨ (rgF l f0 es).pl = 3 := by
    unfold rgF
    dsimp only
    split
    · exact .inl rfl
    · exact .inr rfl
  unfold nxR
  rw [if_neg (fun h => by omega), if_neg (fun h => by omega), if_neg (by omega)]
  have hcnt : Eqr (redL l 3 4) ((rgF l f0 es).cnt + 1) ((es ++ [chrD c]).length) := by
    rw [List.length_append, List.length_singleton]
    exact (eqr_red _ _).add 1
  have hten : Eqr (redL l 5 6) ((rgF l f0 es).ten + c) (val (es ++ [chrD c])) := by
    rw [val_chr hc]
    exact (eqr_red _ _).add c
  have hne : es ++ [chrD c] ≠ [] := by simp
  have r34 := redL_ok hok 3 4
  have r56 := redL_ok hok 5 6
  have w34 : ∀ r ∈ l, r.op = 3 ∨ r.op = 4 → wT r (redO (redL l 3 4).1 (redL l 3 4).2 ((rgF l f0 es).cnt + 1)) = wT r ((es ++ [chrD c]).length) := fun r hr ho => by
    rw [hcnt.red]
    exact wT_eqr r34 hr ho (eqr_red _ _)
  have w56 : ∀ r ∈ l, r.op = 5 ∨ r.op = 6 → wT r ((rgF l f0 es).ten + c) = wT r (val (es ++ [chrD c])) := fun r hr ho => wT_eqr r56 hr ho hten
  unfold nxF
  by_cases h0 : c = 0
  · rw [if_pos h0]
    unfold nxF0
    have hz : zero (es ++ [chrD c]) = zero es := by rw [zero_snoc hc, decide_eq_true h0, Bool.and_true]
    have ht : trim (es ++ [chrD c]) = trim es := by rw [trim_snoc he hc, if_pos h0]
    have hR : rgF l f0 (es ++ [chrD c]) = ⟨3, bitsF (trF f0 (es ++ [chrD c])) l, redO (redL l 3 4).1 (redL l 3 4).2 (es ++ [chrD c]).length, redO (redL l 5 6).1 (redL l 5 6).2 (10 * val (es ++ [chrD c])), zero (es ++ [chrD c])⟩ := by unfold rgF; rw [if_neg hne]
    rw [hR, Rg.mk.injEq]
    refine ⟨rfl, ?_, hcnt.red, hten.ten.red, hz.symm⟩
    have hh : (rgF l f0 es).hold = bitsF (trF f0 es) l := rfl
    rw [hh, upd_bits (by omega), upd_bits (by omega)]
    refine bitsF_congr fun r hr => ?_
    unfold trF
    rw [hz, ht]
    by_cases o5 : r.op = 5
    · have a1 : ¬ r.op = 1 := by omega
      have a3 : ¬ r.op = 3 := by omega
      have a4 : ¬ r.op = 4 := by omega
      simp only [if_neg a1, if_neg a3, if_neg a4, if_pos o5, hI_nat]
      exact w56 r hr (.inl o5)
    · by_cases o3 : r.op = 3
      · have a1 : ¬ r.op = 1 := by omega
        simp only [if_neg a1, if_pos o3, if_neg o5, hI_nat]
        exact w34 r hr (.inl o3)
      · simp only [if_neg o5, if_neg o3]
  · rw [if_neg h0]
    unfold nxF1 nxF0
    have hz : zero (es ++ [chrD c]) = false := by rw [zero_snoc hc, decide_eq_false h0, Bool.and_false]
    have ht : trim (es ++ [chrD c]) = es ++ [chrD c] := by rw [trim_snoc he hc, if_neg h0]
    have hR : rgF l f0 (es ++ [chrD c]) = ⟨3, bitsF (trF f0 (es ++ [chrD c])) l, redO (redL l 3 4).1 (redL l 3 4).2 (es ++ [chrD c]).length, redO (redL l 5 6).1 (redL l 5 6).2 (10 * val (es ++ [chrD c])), zero (es ++ [chrD c])⟩ := by unfold rgF; rw [if_neg hne]
    rw [hR, Rg.mk.injEq]
    refine ⟨rfl, ?_, hcnt.red, hten.ten.red, hz.symm⟩
    dsimp only
    have hh : (rgF l f0 es).hold = bitsF (trF f0 es) l := rfl
    rw [hh, upd_bits (by omega), upd_bits (by omega), upd_bits (by omega), upd_bits (by omega), upd_bits (by omega)]
    refine bitsF_congr fun r hr => ?_
    unfold trF
    rw [hz, ht]
    by_cases o6 : r.op = 6
    · have a1 : ¬ r.op = 1 := by omega
      have a3 : ¬ r.op = 3 := by omega
      have a4 : ¬ r.op = 4 := by omega
      have a5 : ¬ r.op = 5 := by omega
      simp only [if_neg a1, if_neg a3, if_neg a4, if_neg a5, if_pos o6, hI_nat]
      exact w56 r hr (.inr o6)
    · by_cases o4 : r.op = 4
      · have a1 : ¬ r.op = 1 := by omega
        have a3 : ¬ r.op = 3 := by omega
        simp only [if_neg a1, if_neg a3, if_pos o4, if_neg o6, hI_nat]
        exact w34 r hr (.inr o4)
      · by_cases o1 : r.op = 1
        · simp only [if_neg o6, if_neg o4, if_pos o1]
          exact hI_no (hok r hr)
        · by_cases o5 : r.op = 5
          · have a3 : ¬ r.op = 3 := by omega
            simp only [if_neg o1, if_neg o6, if_neg o4, if_pos o5, if_neg a3, hI_nat]
            exact w56 r hr (.inl o5)
          · by_cases o3 : r.op = 3
            · simp only [if_neg o1, if_neg o6, if_neg o4, if_neg o5, if_pos o3, hI_nat]
              exact w34 r hr (.inl o3)
            · simp only [if_neg o1, if_neg o6, if_neg o4, if_neg o5, if_neg o3]
theorem run_frac {p q s : Nat × Nat} (hq : q = redL l 3 4) (hs : s = redL l 5 6) {f0 : Rel → Bool} (hf : ∀ r ∈ l, 3 ≤ r.op → f0 r = wT r 0) : ∀ (k : Nat) (es : Str), es.length = k → allD es → runR (nxR l p q s) ⟨2, bitsF f0 l, 0, 0, true⟩ (wd0 es) = rgF l f0 es
  | 0, es, hl, _ => by
    obtain rfl := List.length_eq_zero_iff.1 hl
    have e : runR (nxR l p q s) ⟨2, bitsF f0 l, 0, 0, true⟩ (wd0 []) = ⟨2, bitsF f0 l, 0, 0, true⟩ := rfl
    rw [e]
    unfold rgF
    rw [if_pos rfl, val_nil, Nat.mul_zero, List.length_nil, redO_zero, redO_zero, bitsF_congr (trF_nil hok hf)]
    rfl
  | k + 1, es, hl, hd => by
    have hne : es ≠ [] := by intro e; rw [e] at hl; simp at hl
    obtain ⟨a, ch, rfl⟩ : ∃ a c, es = a ++ [c] := ⟨es.dropLast, es.getLast hne, (List.dropLast_concat_getLast hne).symm⟩
    have hch := (allD_app.1 hd).2 ch (by simp)
    have hda := (allD_app.1 hd).1
    have hc9 := dg_le hch
    obtain ⟨c, hc, rfl⟩ : ∃ c, c < 10 ∧ ch = chrD c := ⟨dg ch, by omega, dg_inj hch (chrD_ok (by omega)).1 (chrD_ok (by omega)).2.symm⟩
    rw [wd0_snoc hc, runR_snoc, run_frac hq hs hf k a (by simpa using hl) hda, step_frac hok h6 hq hs hda hc]
end

/-! ### How many there are -/
theorem bound_code {α : Type} {n : Nat} (R : α → Nat → Prop) (hinj : ∀ x y k, R x k → R y k → x = y) : ∀ L : List α, L.Nodup → (∀ x ∈ L, ∃ k, k < n ∧ R x k) → L.length ≤ n := by
  intro L hL hR
  have : ∃ K : List Nat, K.length = L.length ∧ K.Nodup ∧ (∀ k ∈ K, k < n) ∧ ∀ k ∈ K, ∃ x ∈ L, R x k := by
    induction L with
    | nil => exact ⟨[], rfl, List.nodup_nil, fun k h => (by cases h), fun k h => (by cases h)⟩
    | cons a L ih =>
      rw [List.nodup_cons] at hL
      obtain ⟨K, h1, h2, h3, h4⟩ := ih hL.2 (fun x hx => hR x (by simp [hx]))
      obtain ⟨k, hk, hak⟩ := hR a (by simp)
      refine ⟨k :: K, by simp [h1], ?_, fun j hj => ?_, fun j hj => ?_⟩
      · rw [List.nodup_cons]
        refine ⟨fun hm => ?_, h2⟩
        obtain ⟨x, hx, hxk⟩ := h4 k hm
        exact hL.1 (hinj a x k hak hxk ▸ hx)
      · rcases List.mem_cons.1 hj with rfl | hj
        · exact hk
        · exact h3 j hj
      · rcases List.mem_cons.1 hj with rfl | hj
        · exact ⟨a, by simp, hak⟩
        · obtain ⟨x, hx, hxk⟩ := h4 j hj
          exact ⟨x, by simp [hx], hxk⟩
  obtain ⟨K, h1, h2, h3, _⟩ := this
  have h4 := nodup_len h2 (b := List.range n) (fun x hx => List.mem_range.2 (h3 x hx))
  rw [List.length_range] at h4
  omega
/-- The number of a word: in base 12, each symbol plus 1. -/
def codeW : List Nat → Nat
  | [] => 0
  | c :: w => (c + 1) + 12 * codeW w
theorem codeW_lt : ∀ {w : List Nat}, (∀ c ∈ w, c < 10) → codeW w < 12 ^ w.length
  | [], _ => by simp [codeW]
  | c :: w, h => by
    have h1 := codeW_lt (w := w) (fun x hx => h x (by simp [hx]))
    have h2 := h c (by simp)
    rw [List.length_cons, Nat.pow_succ]
    unfold codeW
    omega
theorem codeW_inj : ∀ {v w : List Nat}, (∀ c ∈ v, c < 10) → (∀ c ∈ w, c < 10) → codeW v = codeW w → v = w
  | [], [], _, _, _ => rfl
  | [], d :: w, _, _, h => by unfold codeW at h; omega
  | c :: v, [], _, _, h => by unfold codeW at h; omega
  | c :: v, d :: w, hv, hw, h => by
    have h1 := hv c (by simp)
    have h2 := hw d (by simp)
    unfold codeW at h
    have e1 : c = d := by omega
    have e2 := codeW_inj (v := v) (w := w) (fun x hx => hv x (by simp [hx])) (fun x hx => hw x (by simp [hx])) (by omega)
    rw [e1, e2]
theorem bound_frac (f : Rg → Nat → Rg) (x0 : Rg) (L : List Rg) (hL : L.Nodup) (h : ∀ x ∈ L, ∃ u : List Nat, (∀ c ∈ u, c < 10) ∧ u.length ≤ 6 ∧ runR f x0 u = x) : L.length ≤ 2985984 := by
  refine bound_code (fun x k => ∃ u : List Nat, (∀ c ∈ u, c < 10) ∧ runR f x0 u = x ∧ codeW u = k) (fun x y k hx hy => ?_) L hL (fun x hx => ?_)
  · obtain ⟨u, h1, h2, h3⟩ := hx
    obtain ⟨v, h4, h5, h6⟩ := hy
    rw [← h2, ← h5, codeW_inj h1 h4 (h3.trans h6.symm)]
  · obtain ⟨u, h1, h2, h3⟩ := h x hx
    refine ⟨codeW u, ?_, u, h1, h3, rfl⟩
    have h4 := codeW_lt h1
    have h5 : 12 ^ u.length ≤ 12 ^ 6 := Nat.pow_le_pow_right (by omega) h2
    have h6 : (12 : Nat) ^ 6 = 2985984 := by decide
    omega
theorem word_digits : ∀ (u : List Nat), (∀ c ∈ u, c < 10) → ∃ ds, allD ds ∧ wd0 ds = u ∧ chS u = ds
  | [], _ => ⟨[], allD_nil, rfl, rfl⟩
  | c :: u, h => by
    obtain ⟨ds, h1, h2, h3⟩ := word_digits u (fun x hx => h x (by simp [hx]))
    have hc := chrD_ok (h c (by simp))
    refine ⟨chrD c :: ds, allD_cons.2 ⟨hc.1, h1⟩, ?_, ?_⟩
    · show sy0 (chrD c) :: wd0 ds = _
      rw [sy0_digit hc.1, hc.2, h2]
    · show chrD c :: chS u = _
      rw [h3]
theorem rgW_small {l : List Rel} (hok : ∀ r ∈ l, OkR r) (n : Nat) : ∃ m, m ≤ 401 ∧ rgW l n = rgW l m := by
  have ho := redL_ok hok 1 2
  refine ⟨redO (redL l 1 2).1 (redL l 1 2).2 n, ?_, ?_⟩
  · have h1 := redO_lt (B := (redL l 1 2).1) ho.pos n
    have h2 := ho.B
    have h3 := le300 ho.m
    omega
  · have he := eqr_red (redL l 1 2) n
    unfold rgW
    rw [he.ten.red, bitsF_congr (f := trW n) (g := trW (redO (redL l 1 2).1 (redL l 1 2).2 n))]
    intro r hr
    unfold trW
    split
    · rename_i h
      exact (wT_eqr ho hr h he).symm
    · rfl
theorem bound_whole {l : List Rel} (hok : ∀ r ∈ l, OkR r) (h6 : l.length ≤ 60) (q s : Nat × Nat) (N : Nat) (L : List Rg) (hL : L.Nodup) (h : ∀ x ∈ L, ∃ u : List Nat, (∀ c ∈ u, c < 10) ∧ u.length ≤ N ∧ runR (nxR l (redL l 1 2) q s) (stRg l 0) u = x) : L.length ≤ 403 := by
  refine bound_code (fun x k => (k = 0 ∧ x = stRg l 0) ∨ (∃ m, k = m + 1 ∧ x = rgW l m)) (fun x y k hx hy => ?_) L hL (fun x hx => ?_)
  · rcases hx with ⟨h1, h2⟩ | ⟨m, h1, h2⟩ <;> rcases hy with ⟨h3, h4⟩ | ⟨n, h3, h4⟩
    · rw [h2, h4]
    · omega
    · omega
    · rw [h2, h4, show m = n by omega]
  · obtain ⟨u, h1, h2, rfl⟩ := h x hx
    obtain ⟨ds, h3, rfl, _⟩ := word_digits u h1
    by_cases hd : ds = []
    · subst hd
      exact ⟨0, by omega, .inl ⟨rfl, rfl⟩⟩
    · rw [run_whole hok h6 rfl ds.length ds rfl h3 hd]
      obtain ⟨m, hm, e⟩ := rgW_small hok (val ds)
      exact ⟨m + 1, by omega, .inr ⟨m, rfl, e⟩⟩
end Go.Proofs.YtfbfcomfkokfcaaGreatDoor


/- Of decide: fractions. -/
namespace Go.Proofs.YtfbfcomfkokfcaaGreatDoor
open Go.RowKit Go.Maps
set_option linter.unusedVariables false

/-- A fraction: its text, what holds, what is kept. -/
structure Fra where
  tx : Str
  hold : Nat
  kept : Nat
def encFr (x : Fra) : List Value := [.string (ofL x.tx), .int .u64 x.hold, .int .u64 x.kept]
theorem encFr_len (x : Fra) : (encFr x).length = 3 := rfl
theorem encFr_one (x : Fra) : ∀ u ∈ encFr x, u.oneCell' = true := by
  intro u hu
  simp [encFr] at hu
  rcases hu with rfl | rfl | rfl <;> rfl
theorem Tryz.infoFr : (Tryz.prog.info? 169).map (fun i => (i.zero, i.size, i.bytes)) = some (some (.agg #[.string ByteArray.empty, .int .u64 0, .int .u64 0]), 3, 32) := by kernel_rfl
theorem Rd.fra {w : World} {a : Option Addr} {n c : Nat} {l : List Fra} (h : Rd 3 encFr w (.slice a n c) l) (i : Nat) (hi : i < l.length) : ∃ b off, a = some ⟨b, off, none⟩ ∧ b < w.heap.size ∧ w.cell? ⟨b, off + i * 3, none⟩ = some (.string (ofL l[i].tx)) ∧ w.cell? ⟨b, off + i * 3 + 1, none⟩ = some (.int .u64 l[i].hold) ∧ w.cell? ⟨b, off + i * 3 + 2, none⟩ = some (.int .u64 l[i].kept) := by
  obtain ⟨b, off, ha, hlt, hx⟩ := h.some_ i hi
  exact ⟨b, off, ha, hlt, hx 0 _ rfl, hx 1 _ rfl, hx 2 _ rfl⟩
def frOf (l : List Rel) (q : List Nat × Rg) : Fra := ⟨if q.1 = [] then [] else 58 :: chS q.1, q.2.hold, if q.2.int = true then on l 2 ||| on l 1 else on l 2⟩
theorem own_setNe {α : Type} {k : Nat} {enc : α → List Value} {w : World} {base g : Nat} {e : TypeId} {v : Value} {m : List α} (ho : Own1 k enc w base e v m) (hne : v.ownBlock ≠ some g) (i : Nat) (z : Value) : Own1 k enc (w.setCell ⟨g, i, none⟩ z) base e v m :=
  own_grown ho (grown_set w g i z) (fun b hb e1 => hne (by rw [hb, e1]))
theorem on_lt {l : List Rel} (h6 : l.length ≤ 60) (o : Int) : on l o < 18446744073709551616 := by rw [on_bits (by omega)]; exact bitsF_lt64 _ (by omega)
theorem colon_cut (wx : World) : (Instr.slice 9 (.string ⟨#[48, 49, 50, 51, 52, 53, 54, 55, 56, 57, 58]⟩) (some (.int .i64 10)) none none).run Tryz.prog wx = .ok (.string (ofL [58])) wx := by
  have h := run_slice_string_from_if (P := Tryz.prog) (w := wx) 9 ⟨#[48, 49, 50, 51, 52, 53, 54, 55, 56, 57, 58]⟩ .i64 10 Tryz.underlying9
  rw [h, if_pos (by decide)]
  have e : (⟨#[48, 49, 50, 51, 52, 53, 54, 55, 56, 57, 58]⟩ : ByteArray).extract (10 : Int).toNat (⟨#[48, 49, 50, 51, 52, 53, 54, 55, 56, 57, 58]⟩ : ByteArray).size = ofL [58] := by decide
  rw [e]
set_option maxRecDepth 1000000 in
set_option maxHeartbeats 64000000 in
theorem fractions_any (g : Nat) (l : List Rel) (ls : List (List Nat)) (p q s : Nat × Nat) (hl : ∀ r ∈ l, OkR r) (h6 : l.length ≤ 60) (hp : ScOk p) (hq : ScOk q) (hs : ScOk s) (w : World) (hP : RelP w g l ls p q s) :
    Calls Tryz.prog 111 #[.pointer (some ⟨g, 0, none⟩)] w fun e w' => ∃ v Q, e = .returned v ∧ Own1 3 encFr w' w.heap.size 169 v (Q.map (frOf l)) ∧ Found (nxR l p q s) (stRg l 2) 10 6 Q ∧ Below w.heap.size w w' := by
  obtain ⟨iF, hiF, hzF, hkF, hbF⟩ := info_parts Tryz.infoFr
  have HP := Lib.hid hP
  have HSTA := Lib.hid (fun wx hp' => start_any g l ls p q s hl h6 2 wx hp')
  have HSEA := Lib.hid (fun wx hp' => search_any g l ls p q s hl h6 hp hq hs (stRg l 2) (stRg_ok h6 2) (by show 2 ≤ 4; omega) 10 6 2985984 (by omega) (by omega) (fun L h1 h2 => bound_frac _ _ L h1 h2) (by omega) wx hp')
  have HRK := Lib.hid (runR_ok h6 hp hq hs (stRg_ok h6 2) (by show 2 ≤ 4; omega))
  have HBND := Lib.hid (fun L h1 h2 => bound_frac (nxR l p q s) (stRg l 2) L h1 h2)
  have HON := Lib.hid (fun o wx hp' => on_any g l ls p q s h6 o wx hp')
  have HL1 := Lib.hid (on_lt h6 1)
  have HL2 := Lib.hid (on_lt h6 2)
  have HFO : Hid (∀ (u : List Nat) (x1 x2 x3 x4 : Nat) (x5 : Bool), frOf l (u, ⟨x1, x2, x3, x4, x5⟩) = ⟨if u = [] then [] else 58 :: chS u, x2, if x5 = true then on l 2 ||| on l 1 else on l 2⟩) := Lib.hid (fun _ _ _ _ _ _ => rfl)
  obtain ⟨f, hf⟩ : ∃ f, nxR l p q s = f := ⟨_, rfl⟩
  obtain ⟨o1, ho1⟩ : ∃ o, on l 1 = o := ⟨_, rfl⟩
  obtain ⟨o2, ho2⟩ : ∃ o, on l 2 = o := ⟨_, rfl⟩
  have HON1 : Hid (∀ wx, RelP wx g l ls p q s → Calls Tryz.prog 153 #[.pointer (some ⟨g, 0, none⟩), .int .i64 1] wx fun e w' => e = .returned (.int .u64 (o1 : Nat)) ∧ Below wx.heap.size wx w') := Lib.hid (fun wx h => by rw [← ho1]; exact HON.out 1 wx h)
  have HON2 : Hid (∀ wx, RelP wx g l ls p q s → Calls Tryz.prog 153 #[.pointer (some ⟨g, 0, none⟩), .int .i64 2] wx fun e w' => e = .returned (.int .u64 (o2 : Nat)) ∧ Below wx.heap.size wx w') := Lib.hid (fun wx h => by rw [← ho2]; exact HON.out 2 wx h)
  rw [ho1] at HL1 HFO
  rw [ho2] at HL2 HFO
  rw [hf] at HRK HBND HSEA ⊢
  obtain ⟨x0, hx0⟩ : ∃ x, stRg l 2 = x := ⟨_, rfl⟩
  rw [hx0] at HSTA HRK HBND HSEA ⊢
  obtain ⟨z1, z2, z3, z4, z5⟩ := x0
  have s2 : bits .or .u64 (o2 : Int) (o1 : Int) = ((o2 ||| o1 : Nat) : Int) := u64_or_nat o2 o1 HL2.out HL1.out
  obtain ⟨o3, ho3⟩ : ∃ o, o2 ||| o1 = o := ⟨_, rfl⟩
  rw [ho3] at s2 HFO
  obtain ⟨G, hG⟩ : ∃ G, w.heap.size = G := ⟨_, rfl⟩
  have HGE := Lib.hid hG
  rw [hG]
  clear hP hl hp hq hs hf ho1 ho2 ho3 hx0 HON hG
  go_enter Tryz.func111, Tryz.ntmps111
  go_wp2_with fail
  refine (HSTA.out w HP.out).mono ?_
  rintro e w1 ⟨rfl, b1⟩
  have B1 := Lib.hid b1
  clear b1
  go_wp2_with fail
  refine (HSEA.out w1 (HP.out.below B1.out)).mono ?_
  rintro e w2 ⟨v, Q, rfl, own2, fnd, b2⟩
  obtain ⟨pq, cq, hvq⟩ := own2.slice
  subst hvq
  have B2 : Hid (Below G w w2) := Lib.hid (by rw [← HGE.out]; exact st B1.out b2 B1.out.size)
  have HFD := Lib.hid fnd
  have HRQ := Lib.hid (own2.rd encAr_len)
  have HQL : Hid (Q.length ≤ 2985984) := Lib.hid (by
    have := HBND.out (Q.map Prod.snd) fnd.nd (fun x hx => by
      obtain ⟨z, hz, rfl⟩ := List.mem_map.1 hx
      obtain ⟨h1, h2, h3⟩ := fnd.run z hz
      exact ⟨z.1, h2, h3, h1⟩)
    rwa [List.length_map] at this)
  have hql := HQL.out
  have HZ2 : Hid (G ≤ w2.heap.size) := Lib.hid (by have := B2.out.size; have := HGE.out; omega)
  clear own2 fnd b2
  go_wp2_with fail
  go_loopw [3, 12] (fun v3 v12 wr => ∃ i : Nat, i ≤ Q.length ∧ v12 = .int .i64 (i : Nat) ∧ Own1 3 encFr wr w2.heap.size 169 v3 ((Q.take i).map (frOf l)) ∧ Below w2.heap.size w2 wr) (fun _ v12 _ => Q.length - (intOf v12).toNat)
  case atStart => exact ⟨0, Nat.zero_le _, rfl, own1_nil _ _ _, Below.refl _ _⟩
  case round =>
    obtain ⟨i, hi, rfl, hown, hb⟩ := hrel
    obtain ⟨p3, c3, h3⟩ := hown.slice
    subst h3
    have HO := Lib.hid hown
    have HB := Lib.hid hb
    have zr := hb.size
    clear hown hb
    by_cases hlt : i < Q.length
    · have h9 : (i : Int) < (Q.length : Int) := by omega
      obtain ⟨b5, f5, hp5, hl5, c0, c1, c2, c3', c4, c5⟩ := (HRQ.out.below HB.out).arr i hlt
      subst hp5
      have HRUN := Lib.hid (HFD.out.run _ (List.getElem_mem hlt))
      have HTK : Hid ((Q.take (i + 1)).map (frOf l) = (Q.take i).map (frOf l) ++ [frOf l Q[i]]) := Lib.hid (by rw [List.take_succ_eq_append_getElem hlt, List.map_append]; rfl)
      obtain ⟨⟨u, x1, x2, x3, x4, x5⟩, hqe⟩ : ∃ q, Q[i] = q := ⟨_, rfl⟩
      rw [hqe] at HRUN c0 c1 c2 c3' c4 c5 HTK
      rw [HFO.out] at HTK
      dsimp only at HRUN c0 c1 c2 c3' c4 c5
      have huN := HRUN.out.2.2
      obtain ⟨U, hU⟩ : ∃ U, chS u = U := ⟨_, rfl⟩
      have HUL : Hid (U.length = u.length) := Lib.hid (by rw [← hU, chS_len])
      rw [hU] at c0 HTK
      obtain ⟨L0, hL0⟩ : ∃ L0, (Q.take i).map (frOf l) = L0 := ⟨_, rfl⟩
      have HLL : Hid (L0.length = i) := Lib.hid (by rw [← hL0, List.length_map, List.length_take]; omega)
      rw [hL0] at HO HTK ⊢
      have kx := Blk.new wr 147 #[.string (ofL U), .int .i64 x1, .int .u64 x2, .int .i64 x3, .int .i64 x4, .bool x5]
      have bx := (Below.refl wr.heap.size wr).alloc (Nat.le_refl _) (.cells #[.string (ofL U), .int .i64 x1, .int .u64 x2, .int .i64 x3, .int .i64 x4, .bool x5] 147)
      obtain ⟨gx, hgx⟩ : ∃ gx, wr.heap.size = gx := ⟨_, rfl⟩
      obtain ⟨X, hX⟩ : ∃ X, wr.alloc (.cells #[.string (ofL U), .int .i64 x1, .int .u64 x2, .int .i64 x3, .int .i64 x4, .bool x5] 147) = X := ⟨_, rfl⟩
      have BX := Lib.hid (st HB.out bx zr)
      have HOX := Lib.hid (own_below HO.out bx)
      rw [hX] at kx bx BX HOX
      rw [hgx] at kx
      have HKX := Lib.hid kx
      have HXE := Lib.hid hX
      have HLT : Hid (∀ b, (Value.slice p3 L0.length c3).ownBlock = some b → b < gx) := Lib.hid (fun b hb => by rw [← hgx]; exact (own_lt HO.out b hb).2)
      have HPX := Lib.hid (HP.out.below (by rw [HGE.out]; exact B2.out.trans (BX.out.mono HZ2.out)))
      have HGX : Hid (w2.heap.size ≤ gx) := Lib.hid (by rw [← hgx]; exact zr)
      have g0 : X.cell? ⟨gx, 0, none⟩ = some (.string (ofL U)) := kx.cell 0
      clear hqe hU kx bx hX
      go_upto_region 5 with fail
      rw [HXE.out]
      try rw [hgx]
      clear hgx c0 c1 c2 c3' c4 c5 g0 hL0
      obtain ⟨wd, hwd⟩ : ∃ wd, X.drew = wd := ⟨_, rfl⟩
      have HD := Lib.hid hwd
      have bd := (Below.refl X.heap.size X).drew
      rw [hwd] at bd
      have BD := Lib.hid (st BX.out bd (by have := BX.out.size; omega))
      have HOD := Lib.hid (own_below HOX.out bd)
      have HKD := Lib.hid (HKX.out.below bd)
      have HPD := Lib.hid (HPX.out.below bd)
      clear bd hwd
      go_cut [6] from 16 to 24 (fun v6 wx => ∃ gf : Nat, v6 = .pointer (some ⟨gf, 0, none⟩) ∧ gx < gf ∧ Blk gf 169 #[.string (ofL U), .int .u64 x2, .int .u64 o2] wx ∧ Blk gx 147 #[.string (ofL U), .int .i64 x1, .int .u64 x2, .int .i64 x3, .int .i64 x4, .bool x5] wx ∧ Own1 3 encFr wx w2.heap.size 169 (.slice p3 L0.length c3) L0 ∧ Below w2.heap.size w2 wx)
      case first =>
        have HSX : Hid (∀ wx, Below wd.heap.size wd wx → wx.cell? ⟨gx, 0, none⟩ = some (.string (ofL U)) ∧ wx.cell? ⟨gx, 2, none⟩ = some (.int .u64 x2)) := Lib.hid (fun wx hb => ⟨(HKD.out.below hb).cell 0, (HKD.out.below hb).cell 2⟩)
        have hS := HSX.out wd (Below.refl _ _)
        have HFIN : Hid (∀ (wx : World) (gf : Nat), Below wd.heap.size wd wx → wd.heap.size ≤ gf → Blk gf 169 #[.string ⟨#[]⟩, .int .u64 0, .int .u64 0] wx → ∃ gf' : Nat, Value.pointer (some ⟨gf, 0, none⟩) = .pointer (some ⟨gf', 0, none⟩) ∧ gx < gf' ∧ Blk gf' 169 #[.string (ofL U), .int .u64 x2, .int .u64 o2] (((wx.setCell ⟨gf, 0, none⟩ (.string (ofL U))).setCell ⟨gf, 1, none⟩ (.int .u64 x2)).setCell ⟨gf, 2, none⟩ (.int .u64 o2)) ∧ Blk gx 147 #[.string (ofL U), .int .i64 x1, .int .u64 x2, .int .i64 x3, .int .i64 x4, .bool x5] (((wx.setCell ⟨gf, 0, none⟩ (.string (ofL U))).setCell ⟨gf, 1, none⟩ (.int .u64 x2)).setCell ⟨gf, 2, none⟩ (.int .u64 o2)) ∧ Own1 3 encFr (((wx.setCell ⟨gf, 0, none⟩ (.string (ofL U))).setCell ⟨gf, 1, none⟩ (.int .u64 x2)).setCell ⟨gf, 2, none⟩ (.int .u64 o2)) w2.heap.size 169 (.slice p3 L0.length c3) L0 ∧ Below w2.heap.size w2 (((wx.setCell ⟨gf, 0, none⟩ (.string (ofL U))).setCell ⟨gf, 1, none⟩ (.int .u64 x2)).setCell ⟨gf, 2, none⟩ (.int .u64 o2))) := Lib.hid (fun wx gf hb hge kf => by
          have hgx2 : gx < wd.heap.size := HKD.out.lt
          have h2 : w2.heap.size ≤ gf := by have := BD.out.size; omega
          have hne : (Value.slice p3 L0.length c3).ownBlock ≠ some gf := fun e => by have := HLT.out gf e; omega
          have hfar : gx ≠ gf := by omega
          refine ⟨gf, rfl, by omega, ((kf.put 0 _).put 1 _).put 2 _, (((HKD.out.below hb).far (p := ⟨gf, 0, none⟩) hfar _).far (p := ⟨gf, 1, none⟩) hfar _).far (p := ⟨gf, 2, none⟩) hfar _, own_setNe (own_setNe (own_setNe (own_below HOD.out hb) hne 0 _) hne 1 _) hne 2 _, ((((st BD.out hb (by have := BD.out.size; omega))).setCell (p := ⟨gf, 0, none⟩) h2 _).setCell (p := ⟨gf, 1, none⟩) h2 _).setCell (p := ⟨gf, 2, none⟩) h2 _⟩)
        refine region_hd 9 (fun wx : World => wx.cell? ⟨gx, 0, none⟩ = some (.string (ofL U)) ∧ wx.cell? ⟨gx, 2, none⟩ = some (.int .u64 x2)) (by kernel_rfl) (by kernel_rfl) ?_
        rw [HD.out]
        refine hd_taken 0 (some 16) _ ?hdv0 rfl rfl (by kernel_rfl) (fun _ _ _ h => h) (Or.inl ⟨by kernel_rfl, ?hdy0⟩) hS ?hdr0
        case hdy0 => (intro wx hx; (try dsimp only at hx); go_simp; try with_reducible rfl)
        try simp only [Act.put, List.setIfInBounds_toArray, List.set_cons_zero, List.set_cons_succ]
        refine hd_taken 1 (some 17) _ ?hdv1 rfl rfl (by kernel_rfl) (fun _ _ _ h => h) (Or.inl ⟨by kernel_rfl, ?hdy1⟩) hS ?hdr1
        case hdy1 => (intro wx hx; (try dsimp only at hx); go_simp; try with_reducible rfl)
        try simp only [Act.put, List.setIfInBounds_toArray, List.set_cons_zero, List.set_cons_succ]
        refine hd_taken 2 (some 18) _ ?hdv2 rfl rfl (by kernel_rfl) (fun _ _ _ h => h) (Or.inl ⟨by kernel_rfl, ?hdy2⟩) hS ?hdr2
        case hdy2 => (intro wx hx; (try dsimp only at hx); go_simp; try with_reducible rfl)
        try simp only [Act.put, List.setIfInBounds_toArray, List.set_cons_zero, List.set_cons_succ]
        refine hd_taken 3 (some 19) _ ?hdv3 rfl rfl (by kernel_rfl) (fun _ _ _ h => h) (Or.inl ⟨by kernel_rfl, ?hdy3⟩) hS ?hdr3
        case hdy3 => (intro wx hx; (try dsimp only at hx); go_simp; try with_reducible rfl)
        try simp only [Act.put, List.setIfInBounds_toArray, List.set_cons_zero, List.set_cons_succ]
        refine hd_taken 4 (some 20) _ ?hdv4 rfl rfl (by kernel_rfl) (fun _ _ _ h => h) (Or.inl ⟨by kernel_rfl, ?hdy4⟩) hS ?hdr4
        case hdy4 => (intro wx hx; (try dsimp only at hx); go_simp; try with_reducible rfl)
        try simp only [Act.put, List.setIfInBounds_toArray, List.set_cons_zero, List.set_cons_succ]
        refine hd_taken 5 (some 21) _ ?hdv5 rfl rfl (by kernel_rfl) (fun _ _ _ h => h) (Or.inl ⟨by kernel_rfl, ?hdy5⟩) hS ?hdr5
        case hdy5 => (intro wx hx; (try dsimp only at hx); go_simp; try with_reducible rfl)
        try simp only [Act.put, List.setIfInBounds_toArray, List.set_cons_zero, List.set_cons_succ]
        refine hd_listI [6, 8] (by kernel_rfl) (by decide) (by decide) (fun i hi => ?_)
        simp only [List.mem_cons, List.not_mem_nil, or_false] at hi
        rcases hi with rfl | rfl
        · refine ⟨_, rfl, fun K6 hK6 => ?_⟩
          go_simp
          refine (HON2.out wd HPD.out).mono ?_
          rintro e w5 ⟨rfl, b5⟩
          try dsimp only
          refine hK6.out _ _ (HSX.out _ b5) ?_
          clear hK6 K6
          try simp only [Act.put, List.setIfInBounds_toArray, List.set_cons_zero, List.set_cons_succ]
          refine hd_taken 7 (some 23) _ ?hdva7 rfl rfl (by kernel_rfl) (fun _ _ _ h => h) (Or.inl ⟨by kernel_rfl, ?hdya7⟩) (HSX.out _ b5) ?hdra7
          case hdya7 => (intro wx hx; (try dsimp only at hx); go_simp; try with_reducible rfl)
          try simp only [Act.put, List.setIfInBounds_toArray, List.set_cons_zero, List.set_cons_succ]
          refine hd_one 8 _ rfl (by kernel_rfl) (by decide) (fun K8 hK8 => ?_)
          go_simp
          have ba := st b5 ((Below.refl w5.heap.size w5).alloc (Nat.le_refl _) (.cells #[.string ⟨#[]⟩, .int .u64 0, .int .u64 0] 169)) b5.size
          have ka := Blk.new w5 169 #[.string ⟨#[]⟩, .int .u64 0, .int .u64 0]
          refine hK8.out _ _ (HSX.out _ ba) ?_
          clear hK8 K8
          try simp only [Act.put, List.setIfInBounds_toArray, List.set_cons_zero, List.set_cons_succ]
          refine hd_done (by kernel_rfl) ?_
          simp only [List.drop_succ_cons, List.drop_zero]
          obtain ⟨gf, hgf⟩ : ∃ gf, w5.heap.size = gf := ⟨_, rfl⟩
          obtain ⟨wa, hwa⟩ : ∃ wa, w5.alloc (.cells #[.string ⟨#[]⟩, .int .u64 0, .int .u64 0] 169) = wa := ⟨_, rfl⟩
          have hge : wd.heap.size ≤ gf := by rw [← hgf]; exact b5.size
          rw [hgf] at ka
          rw [hwa] at ka ba
          try rw [hgf]
          try rw [hwa]
          have e0 : wa.cell? ⟨gf, 0, none⟩ = some (.string ⟨#[]⟩) := ka.cell 0
          have e1 : wa.cell? ⟨gf, 1, none⟩ = some (.int .u64 0) := ka.cell 1
          have e2 : wa.cell? ⟨gf, 2, none⟩ = some (.int .u64 0) := ka.cell 2
          have f0 : wa.frozen? ⟨gf, 0, none⟩ = false := ka.frozen 0
          have f1 : wa.frozen? ⟨gf, 1, none⟩ = false := ka.frozen 1
          have f2 : wa.frozen? ⟨gf, 2, none⟩ = false := ka.frozen 2
          have e3 : (wa.setCell ⟨gf, 0, none⟩ (.string (ofL U))).cell? ⟨gf, 1, none⟩ = some (.int .u64 0) := (ka.put 0 _).cell 1
          have f3 : (wa.setCell ⟨gf, 0, none⟩ (.string (ofL U))).frozen? ⟨gf, 1, none⟩ = false := (ka.put 0 _).frozen 1
          have e4 : ((wa.setCell ⟨gf, 0, none⟩ (.string (ofL U))).setCell ⟨gf, 1, none⟩ (.int .u64 x2)).cell? ⟨gf, 2, none⟩ = some (.int .u64 0) := ((ka.put 0 _).put 1 _).cell 2
          have f4 : ((wa.setCell ⟨gf, 0, none⟩ (.string (ofL U))).setCell ⟨gf, 1, none⟩ (.int .u64 x2)).frozen? ⟨gf, 2, none⟩ = false := ((ka.put 0 _).put 1 _).frozen 2
          have HF := Lib.hid (HFIN.out wa gf ba hge ka)
          clear ba ka hge HFIN hS
          go_wp2_with fail
          go_meet
          exact HF.out
        · refine ⟨_, rfl, fun K8 hK8 => ?_⟩
          go_simp
          have ba := (Below.refl wd.heap.size wd).alloc (Nat.le_refl _) (.cells #[.string ⟨#[]⟩, .int .u64 0, .int .u64 0] 169)
          have ka := Blk.new wd 169 #[.string ⟨#[]⟩, .int .u64 0, .int .u64 0]
          refine hK8.out _ _ (HSX.out _ ba) ?_
          clear hK8 K8
          try simp only [Act.put, List.setIfInBounds_toArray, List.set_cons_zero, List.set_cons_succ]
          obtain ⟨gf, hgf⟩ : ∃ gf, wd.heap.size = gf := ⟨_, rfl⟩
          obtain ⟨w5, hw5⟩ : ∃ wa, wd.alloc (.cells #[.string ⟨#[]⟩, .int .u64 0, .int .u64 0] 169) = wa := ⟨_, rfl⟩
          have hge : wd.heap.size ≤ gf := by omega
          have HPA := Lib.hid (HPD.out.below ba)
          rw [hgf] at ka
          rw [hw5] at ka ba HPA
          try rw [hgf]
          try rw [hw5]
          refine hd_one 6 _ rfl (by kernel_rfl) (by decide) (fun K6 hK6 => ?_)
          go_simp
          refine (HON2.out w5 HPA.out).mono ?_
          rintro e wa ⟨rfl, b6⟩
          try dsimp only
          have ba := st ba b6 ba.size
          have ka := ka.below b6
          refine hK6.out _ _ (HSX.out _ ba) ?_
          clear hK6 K6
          try simp only [Act.put, List.setIfInBounds_toArray, List.set_cons_zero, List.set_cons_succ]
          refine hd_taken 7 (some 23) _ ?hdvb7 rfl rfl (by kernel_rfl) (fun _ _ _ h => h) (Or.inl ⟨by kernel_rfl, ?hdyb7⟩) (HSX.out _ ba) ?hdrb7
          case hdyb7 => (intro wx hx; (try dsimp only at hx); go_simp; try with_reducible rfl)
          try simp only [Act.put, List.setIfInBounds_toArray, List.set_cons_zero, List.set_cons_succ]
          refine hd_done (by kernel_rfl) ?_
          simp only [List.drop_succ_cons, List.drop_zero]
          have e0 : wa.cell? ⟨gf, 0, none⟩ = some (.string ⟨#[]⟩) := ka.cell 0
          have e1 : wa.cell? ⟨gf, 1, none⟩ = some (.int .u64 0) := ka.cell 1
          have e2 : wa.cell? ⟨gf, 2, none⟩ = some (.int .u64 0) := ka.cell 2
          have f0 : wa.frozen? ⟨gf, 0, none⟩ = false := ka.frozen 0
          have f1 : wa.frozen? ⟨gf, 1, none⟩ = false := ka.frozen 1
          have f2 : wa.frozen? ⟨gf, 2, none⟩ = false := ka.frozen 2
          have e3 : (wa.setCell ⟨gf, 0, none⟩ (.string (ofL U))).cell? ⟨gf, 1, none⟩ = some (.int .u64 0) := (ka.put 0 _).cell 1
          have f3 : (wa.setCell ⟨gf, 0, none⟩ (.string (ofL U))).frozen? ⟨gf, 1, none⟩ = false := (ka.put 0 _).frozen 1
          have e4 : ((wa.setCell ⟨gf, 0, none⟩ (.string (ofL U))).setCell ⟨gf, 1, none⟩ (.int .u64 x2)).cell? ⟨gf, 2, none⟩ = some (.int .u64 0) := ((ka.put 0 _).put 1 _).cell 2
          have f4 : ((wa.setCell ⟨gf, 0, none⟩ (.string (ofL U))).setCell ⟨gf, 1, none⟩ (.int .u64 x2)).frozen? ⟨gf, 2, none⟩ = false := ((ka.put 0 _).put 1 _).frozen 2
          have HF := Lib.hid (HFIN.out wa gf ba hge ka)
          clear ba ka hge HFIN hS
          go_wp2_with fail
          go_meet
          exact HF.out
      case rest =>
        rename World => wc
        obtain ⟨gf, rfl, hgf, kf, kx, ho, hb⟩ := hcut
        have HKF := Lib.hid kf
        have HKX2 := Lib.hid kx
        have HO2 := Lib.hid ho
        have HB2 := Lib.hid hb
        have HGF : Hid (gx < gf ∧ (Value.slice p3 L0.length c3).ownBlock ≠ some gf ∧ w2.heap.size ≤ gf) := Lib.hid ⟨hgf, fun e => by have := HLT.out gf e; omega, by have := HGX.out; omega⟩
        clear kf kx ho hb hgf HOX HKX HXE HPX HD BD HOD HKD HPD BX HO
        have c0 : wc.cell? ⟨gx, 0, none⟩ = some (.string (ofL U)) := HKX2.out.cell 0
        by_cases hu : u = []
        · have hU0 : U = [] := List.length_eq_zero_iff.1 (by rw [HUL.out, hu]; rfl)
          have HUE := Lib.hid hu
          subst hU0
          have t0 : ((ofL []).toList != ([] : List UInt8)) = false := by rw [ByteArray.toList_eq]; rfl
          have t1 : ((ofL []).toList == ([] : List UInt8)) = true := by rw [ByteArray.toList_eq]; rfl
          have HKF0 : Hid (Blk gf 169 #[.string (ofL []), .int .u64 x2, .int .u64 o2] wc) := HKF
          clear hu
          go_upto_region 8 with fail
          clear c0 t0 t1
          have r5 : wc.cell? ⟨gx, 5, none⟩ = some (.bool x5) := HKX2.out.cell 5
          cases x5 with
          | false =>
            have HTL : Hid ((Q.take (i + 1)).map (frOf l) = L0 ++ [⟨[], x2, o2⟩]) := Lib.hid (by rw [HTK.out, if_pos HUE.out, if_neg (by decide)])
            have q0 : wc.cell? ⟨gf, 0, none⟩ = some (.string (ofL ([]))) := HKF0.out.cell 0
            have q1 : wc.cell? ⟨gf, 1, none⟩ = some (.int .u64 x2) := HKF0.out.cell 1
            have q2 : wc.cell? ⟨gf, 2, none⟩ = some (.int .u64 o2) := HKF0.out.cell 2
            have HZW : Hid (w2.heap.size ≤ wc.heap.size) := Lib.hid HB2.out.size
            go_wp2_with (first | (at_builtin; refine wpList_append_lie (w0 := wc) (x := (⟨[], x2, o2⟩ : Fra)) (N := wc.heap.size) rfl rfl _ _ 166 rfl w2.heap.size iF _ 32 Tryz.underlying166 hiF hzF hkF hbF (by omega) rfl (by omega) encFr_len encFr_one _ L0 rfl rfl HO2.out rfl (by have := HLL.out; omega) HZW.out ?_; intro v9 w9 y9; obtain ⟨p8, q8, e8⟩ := y9.1.slice; subst e8; have Y9 := Lib.hid y9; clear y9) | go_in)
            have HBF : Hid (Below w2.heap.size w2 w9) := Lib.hid (HB2.out.trans Y9.out.2.1)
            have HLF : Hid ((L0 ++ [(⟨[], x2, o2⟩ : Fra)]).length = L0.length + 1) := Lib.hid (by simp)
            go_roundw
            case measure => simp [intOf] <;> omega
            case rel => exact ⟨i + 1, by omega, by go_num, by rw [HTL.out]; first | exact Y9.out.1 | (have := Y9.out.1; simpa using this), HBF.out⟩
          | true =>
            have HPW := Lib.hid (HP.out.below (by rw [HGE.out]; exact B2.out.trans (HB2.out.mono HZ2.out)))
            have BW := (Below.refl wc.heap.size wc).drew
            have hS : (fun wx : World => wx.cell? ⟨gf, 2, none⟩ = some (.int .u64 o2)) wc.drew := HKF0.out.cell 2
            have HS2 : Hid (∀ wx, Below wc.drew.heap.size wc.drew wx → wx.cell? ⟨gf, 2, none⟩ = some (.int .u64 o2)) := Lib.hid (fun wx hb => ((HKF0.out.below BW).below hb).cell 2)
            go_upto_region 9 with fail
            clear r5
            refine region_hd 4 (fun wx : World => wx.cell? ⟨gf, 2, none⟩ = some (.int .u64 o2)) (by kernel_rfl) (by kernel_rfl) ?_
            refine hd_taken 0 (some 35) _ ?hdvc0 rfl rfl (by kernel_rfl) (fun _ _ _ h => h) (Or.inl ⟨by kernel_rfl, ?hdyc0⟩) hS ?hdrc0
            case hdyc0 => (intro wx hx; (try dsimp only at hx); go_simp; try with_reducible rfl)
            try simp only [Act.put, List.setIfInBounds_toArray, List.set_cons_zero, List.set_cons_succ]
            refine hd_taken 1 (some 36) _ ?hdvc1 rfl rfl (by kernel_rfl) (fun _ _ _ h => h) (Or.inl ⟨by kernel_rfl, ?hdyc1⟩) hS ?hdrc1
            case hdyc1 => (intro wx hx; (try dsimp only at hx); go_simp; try with_reducible rfl)
            try simp only [Act.put, List.setIfInBounds_toArray, List.set_cons_zero, List.set_cons_succ]
            refine hd_taken 2 (some 37) _ ?hdvc2 rfl rfl (by kernel_rfl) (fun _ _ _ h => h) (Or.inl ⟨by kernel_rfl, ?hdyc2⟩) hS ?hdrc2
            case hdyc2 => (intro wx hx; (try dsimp only at hx); go_simp; try with_reducible rfl)
            try simp only [Act.put, List.setIfInBounds_toArray, List.set_cons_zero, List.set_cons_succ]
            refine hd_one 3 _ rfl (by kernel_rfl) (by decide) (fun K3 hK3 => ?_)
            go_simp
            refine (HON1.out wc.drew (HPW.out.below BW)).mono ?_
            rintro e w7 ⟨rfl, b7⟩
            try dsimp only
            refine hK3.out _ _ (HS2.out _ b7) ?_
            clear hK3 K3 hS
            try simp only [Act.put, List.setIfInBounds_toArray, List.set_cons_zero, List.set_cons_succ]
            refine hd_done (by kernel_rfl) ?_
            simp only [List.drop_succ_cons, List.drop_zero]
            have b8 := BW.trans b7
            have kf := HKF0.out.below b8
            have HO7 := Lib.hid (own_setNe (own_below HO2.out b8) HGF.out.2.1 2 (.int .u64 o3))
            have KF7 : Hid (Blk gf 169 #[.string (ofL ([])), .int .u64 x2, .int .u64 o3] (w7.setCell ⟨gf, 2, none⟩ (.int .u64 o3))) := Lib.hid (kf.put 2 _)
            have HB7 := Lib.hid ((st HB2.out b8 HB2.out.size).setCell (p := ⟨gf, 2, none⟩) HGF.out.2.2 (.int .u64 o3))
            have r2 : w7.cell? ⟨gf, 2, none⟩ = some (.int .u64 o2) := kf.cell 2
            have r3 : w7.frozen? ⟨gf, 2, none⟩ = false := kf.frozen 2
            obtain ⟨w8, hw8⟩ : ∃ w8, w7.setCell ⟨gf, 2, none⟩ (.int .u64 o3) = w8 := ⟨_, rfl⟩
            rw [hw8] at HO7 KF7 HB7
            clear b7 b8 kf BW HS2
            go_upto_region 10 with fail
            try rw [hw8]
            clear hw8 r2 r3
            have HTL : Hid ((Q.take (i + 1)).map (frOf l) = L0 ++ [⟨[], x2, o3⟩]) := Lib.hid (by rw [HTK.out, if_pos HUE.out, if_pos rfl])
            have q0 : w8.cell? ⟨gf, 0, none⟩ = some (.string (ofL ([]))) := KF7.out.cell 0
            have q1 : w8.cell? ⟨gf, 1, none⟩ = some (.int .u64 x2) := KF7.out.cell 1
            have q2 : w8.cell? ⟨gf, 2, none⟩ = some (.int .u64 o3) := KF7.out.cell 2
            have HZW : Hid (w2.heap.size ≤ w8.heap.size) := Lib.hid HB7.out.size
            go_wp2_with (first | (at_builtin; refine wpList_append_lie (w0 := w8) (x := (⟨[], x2, o3⟩ : Fra)) (N := w8.heap.size) rfl rfl _ _ 166 rfl w2.heap.size iF _ 32 Tryz.underlying166 hiF hzF hkF hbF (by omega) rfl (by omega) encFr_len encFr_one _ L0 rfl rfl HO7.out rfl (by have := HLL.out; omega) HZW.out ?_; intro v9 w9 y9; obtain ⟨p8, q8, e8⟩ := y9.1.slice; subst e8; have Y9 := Lib.hid y9; clear y9) | go_in)
            have HBF : Hid (Below w2.heap.size w2 w9) := Lib.hid (HB7.out.trans Y9.out.2.1)
            have HLF : Hid ((L0 ++ [(⟨[], x2, o3⟩ : Fra)]).length = L0.length + 1) := Lib.hid (by simp)
            go_roundw
            case measure => simp [intOf] <;> omega
            case rel => exact ⟨i + 1, by omega, by go_num, by rw [HTL.out]; first | exact Y9.out.1 | (have := Y9.out.1; simpa using this), HBF.out⟩
        · have hU0 : U ≠ [] := fun e => hu (List.length_eq_zero_iff.1 (by rw [← HUL.out, e]; rfl))
          have HUE := Lib.hid hu
          have t0 : ((ofL U).toList != ([] : List UInt8)) = true := by rw [bne_iff_ne]; rw [ByteArray.toList_eq]; exact hU0
          have t1 : ((ofL U).toList == ([] : List UInt8)) = false := by rw [beq_eq_false_iff_ne]; rw [ByteArray.toList_eq]; exact hU0
          have t2 : (ofL U).toList.isEmpty = false := by rw [ByteArray.toList_eq]; cases U with | nil => exact absurd rfl hU0 | cons a b => rfl
          clear hu hU0
          go_upto_region 7 with fail
          clear t0 t1 t2 c0
          have hcut := fun wx => colon_cut wx
          have hadd : ∀ wx, (Op.stringOp .add (ofL [58]) (ofL U)).run Tryz.prog wx = .ok (.string (ofL (58 :: U))) wx := fun wx => str_add (x := [58]) (y := U) (by have := HUL.out; simp; omega) rfl wx
          have BW := (Below.refl wc.heap.size wc).drew
          have hS : (fun wx : World => wx.cell? ⟨gx, 0, none⟩ = some (.string (ofL U))) wc.drew := HKX2.out.cell 0
          refine region_hd 3 (fun wx : World => wx.cell? ⟨gx, 0, none⟩ = some (.string (ofL U))) (by kernel_rfl) (by kernel_rfl) ?_
          refine hd_taken 0 (some 27) _ ?hdvd0 rfl rfl (by kernel_rfl) (fun _ _ _ h => h) (Or.inl ⟨by kernel_rfl, ?hdyd0⟩) hS ?hdrd0
          case hdyd0 => (intro wx hx; (try dsimp only at hx); go_simp; try with_reducible rfl)
          try simp only [Act.put, List.setIfInBounds_toArray, List.set_cons_zero, List.set_cons_succ]
          refine hd_taken 1 (some 28) _ ?hdvd1 rfl rfl (by kernel_rfl) (fun _ _ _ h => h) (Or.inl ⟨by kernel_rfl, ?hdyd1⟩) hS ?hdrd1
          case hdyd1 => (intro wx hx; (try dsimp only at hx); go_simp; try with_reducible rfl)
          try simp only [Act.put, List.setIfInBounds_toArray, List.set_cons_zero, List.set_cons_succ]
          refine hd_taken 2 (some 29) _ ?hdvd2 rfl rfl (by kernel_rfl) (fun _ _ _ h => h) (Or.inl ⟨by kernel_rfl, ?hdyd2⟩) hS ?hdrd2
          case hdyd2 => (intro wx hx; (try dsimp only at hx); go_simp; try with_reducible rfl)
          try simp only [Act.put, List.setIfInBounds_toArray, List.set_cons_zero, List.set_cons_succ]
          refine hd_done (by kernel_rfl) ?_
          simp only [List.drop_succ_cons, List.drop_zero]
          clear hS
          obtain ⟨T, hT⟩ : ∃ T, 58 :: U = T := ⟨_, rfl⟩
          have HTE := Lib.hid hT
          rw [hT] at hadd
          have kf := HKF.out.below BW
          have HO6 := Lib.hid (own_setNe (own_below HO2.out BW) HGF.out.2.1 0 (.string (ofL T)))
          have KF6 : Hid (Blk gf 169 #[.string (ofL T), .int .u64 x2, .int .u64 o2] (wc.drew.setCell ⟨gf, 0, none⟩ (.string (ofL T)))) := Lib.hid (kf.put 0 _)
          have KX6 := Lib.hid ((HKX2.out.below BW).far (p := ⟨gf, 0, none⟩) (by show gx ≠ gf; have := HGF.out.1; omega) (.string (ofL T)))
          have HB6 := Lib.hid ((st HB2.out BW HB2.out.size).setCell (p := ⟨gf, 0, none⟩) HGF.out.2.2 (.string (ofL T)))
          have r2 : wc.drew.cell? ⟨gf, 0, none⟩ = some (.string (ofL U)) := kf.cell 0
          have r3 : wc.drew.frozen? ⟨gf, 0, none⟩ = false := kf.frozen 0
          have r4 : wc.frozen? ⟨gf, 0, none⟩ = false := HKF.out.frozen 0
          obtain ⟨we, hwe⟩ : ∃ we, wc.drew.setCell ⟨gf, 0, none⟩ (.string (ofL T)) = we := ⟨_, rfl⟩
          rw [hwe] at HO6 KF6 KX6 HB6
          have hwe2 : (wc.setCell ⟨gf, 0, none⟩ (.string (ofL T))).drew = we := hwe
          clear kf hT BW
          go_upto_region 8 with fail
          try rw [hwe]
          try rw [hwe2]
          clear hwe hwe2 r2 r3 r4 hcut hadd
          have r5 : we.cell? ⟨gx, 5, none⟩ = some (.bool x5) := KX6.out.cell 5
          cases x5 with
          | false =>
            have HTL : Hid ((Q.take (i + 1)).map (frOf l) = L0 ++ [⟨T, x2, o2⟩]) := Lib.hid (by rw [HTK.out, if_neg HUE.out, HTE.out, if_neg (by decide)])
            have q0 : we.cell? ⟨gf, 0, none⟩ = some (.string (ofL (T))) := KF6.out.cell 0
            have q1 : we.cell? ⟨gf, 1, none⟩ = some (.int .u64 x2) := KF6.out.cell 1
            have q2 : we.cell? ⟨gf, 2, none⟩ = some (.int .u64 o2) := KF6.out.cell 2
            have HZW : Hid (w2.heap.size ≤ we.heap.size) := Lib.hid HB6.out.size
            go_wp2_with (first | (at_builtin; refine wpList_append_lie (w0 := we) (x := (⟨T, x2, o2⟩ : Fra)) (N := we.heap.size) rfl rfl _ _ 166 rfl w2.heap.size iF _ 32 Tryz.underlying166 hiF hzF hkF hbF (by omega) rfl (by omega) encFr_len encFr_one _ L0 rfl rfl HO6.out rfl (by have := HLL.out; omega) HZW.out ?_; intro v9 w9 y9; obtain ⟨p8, q8, e8⟩ := y9.1.slice; subst e8; have Y9 := Lib.hid y9; clear y9) | go_in)
            have HBF : Hid (Below w2.heap.size w2 w9) := Lib.hid (HB6.out.trans Y9.out.2.1)
            have HLF : Hid ((L0 ++ [(⟨T, x2, o2⟩ : Fra)]).length = L0.length + 1) := Lib.hid (by simp)
            go_roundw
            case measure => simp [intOf] <;> omega
            case rel => exact ⟨i + 1, by omega, by go_num, by rw [HTL.out]; first | exact Y9.out.1 | (have := Y9.out.1; simpa using this), HBF.out⟩
          | true =>
            have HPW := Lib.hid (HP.out.below (by rw [HGE.out]; exact B2.out.trans (HB6.out.mono HZ2.out)))
            have BW := (Below.refl we.heap.size we).drew
            have hS : (fun wx : World => wx.cell? ⟨gf, 2, none⟩ = some (.int .u64 o2)) we.drew := KF6.out.cell 2
            have HS2 : Hid (∀ wx, Below we.drew.heap.size we.drew wx → wx.cell? ⟨gf, 2, none⟩ = some (.int .u64 o2)) := Lib.hid (fun wx hb => ((KF6.out.below BW).below hb).cell 2)
            go_upto_region 9 with fail
            clear r5
            refine region_hd 4 (fun wx : World => wx.cell? ⟨gf, 2, none⟩ = some (.int .u64 o2)) (by kernel_rfl) (by kernel_rfl) ?_
            refine hd_taken 0 (some 35) _ ?hdve0 rfl rfl (by kernel_rfl) (fun _ _ _ h => h) (Or.inl ⟨by kernel_rfl, ?hdye0⟩) hS ?hdre0
            case hdye0 => (intro wx hx; (try dsimp only at hx); go_simp; try with_reducible rfl)
            try simp only [Act.put, List.setIfInBounds_toArray, List.set_cons_zero, List.set_cons_succ]
            refine hd_taken 1 (some 36) _ ?hdve1 rfl rfl (by kernel_rfl) (fun _ _ _ h => h) (Or.inl ⟨by kernel_rfl, ?hdye1⟩) hS ?hdre1
            case hdye1 => (intro wx hx; (try dsimp only at hx); go_simp; try with_reducible rfl)
            try simp only [Act.put, List.setIfInBounds_toArray, List.set_cons_zero, List.set_cons_succ]
            refine hd_taken 2 (some 37) _ ?hdve2 rfl rfl (by kernel_rfl) (fun _ _ _ h => h) (Or.inl ⟨by kernel_rfl, ?hdye2⟩) hS ?hdre2
            case hdye2 => (intro wx hx; (try dsimp only at hx); go_simp; try with_reducible rfl)
            try simp only [Act.put, List.setIfInBounds_toArray, List.set_cons_zero, List.set_cons_succ]
            refine hd_one 3 _ rfl (by kernel_rfl) (by decide) (fun K3 hK3 => ?_)
            go_simp
            refine (HON1.out we.drew (HPW.out.below BW)).mono ?_
            rintro e w7 ⟨rfl, b7⟩
            try dsimp only
            refine hK3.out _ _ (HS2.out _ b7) ?_
            clear hK3 K3 hS
            try simp only [Act.put, List.setIfInBounds_toArray, List.set_cons_zero, List.set_cons_succ]
            refine hd_done (by kernel_rfl) ?_
            simp only [List.drop_succ_cons, List.drop_zero]
            have b8 := BW.trans b7
            have kf := KF6.out.below b8
            have HO7 := Lib.hid (own_setNe (own_below HO6.out b8) HGF.out.2.1 2 (.int .u64 o3))
            have KF7 : Hid (Blk gf 169 #[.string (ofL (T)), .int .u64 x2, .int .u64 o3] (w7.setCell ⟨gf, 2, none⟩ (.int .u64 o3))) := Lib.hid (kf.put 2 _)
            have HB7 := Lib.hid ((st HB6.out b8 HB6.out.size).setCell (p := ⟨gf, 2, none⟩) HGF.out.2.2 (.int .u64 o3))
            have r2 : w7.cell? ⟨gf, 2, none⟩ = some (.int .u64 o2) := kf.cell 2
            have r3 : w7.frozen? ⟨gf, 2, none⟩ = false := kf.frozen 2
            obtain ⟨w8, hw8⟩ : ∃ w8, w7.setCell ⟨gf, 2, none⟩ (.int .u64 o3) = w8 := ⟨_, rfl⟩
            rw [hw8] at HO7 KF7 HB7
            clear b7 b8 kf BW HS2
            go_upto_region 10 with fail
            try rw [hw8]
            clear hw8 r2 r3
            have HTL : Hid ((Q.take (i + 1)).map (frOf l) = L0 ++ [⟨T, x2, o3⟩]) := Lib.hid (by rw [HTK.out, if_neg HUE.out, HTE.out, if_pos rfl])
            have q0 : w8.cell? ⟨gf, 0, none⟩ = some (.string (ofL (T))) := KF7.out.cell 0
            have q1 : w8.cell? ⟨gf, 1, none⟩ = some (.int .u64 x2) := KF7.out.cell 1
            have q2 : w8.cell? ⟨gf, 2, none⟩ = some (.int .u64 o3) := KF7.out.cell 2
            have HZW : Hid (w2.heap.size ≤ w8.heap.size) := Lib.hid HB7.out.size
            go_wp2_with (first | (at_builtin; refine wpList_append_lie (w0 := w8) (x := (⟨T, x2, o3⟩ : Fra)) (N := w8.heap.size) rfl rfl _ _ 166 rfl w2.heap.size iF _ 32 Tryz.underlying166 hiF hzF hkF hbF (by omega) rfl (by omega) encFr_len encFr_one _ L0 rfl rfl HO7.out rfl (by have := HLL.out; omega) HZW.out ?_; intro v9 w9 y9; obtain ⟨p8, q8, e8⟩ := y9.1.slice; subst e8; have Y9 := Lib.hid y9; clear y9) | go_in)
            have HBF : Hid (Below w2.heap.size w2 w9) := Lib.hid (HB7.out.trans Y9.out.2.1)
            have HLF : Hid ((L0 ++ [(⟨T, x2, o3⟩ : Fra)]).length = L0.length + 1) := Lib.hid (by simp)
            go_roundw
            case measure => simp [intOf] <;> omega
            case rel => exact ⟨i + 1, by omega, by go_num, by rw [HTL.out]; first | exact Y9.out.1 | (have := Y9.out.1; simpa using this), HBF.out⟩
    · obtain rfl : i = Q.length := by omega
      have h9 : ¬ (Q.length : Int) < (Q.length : Int) := by omega
      have HOF : Hid (Own1 3 encFr wr G 169 (.slice p3 ((Q.take Q.length).map (frOf l)).length c3) (Q.map (frOf l))) := Lib.hid (by have := HO.out.base HZ2.out; rwa [List.take_length] at this ⊢)
      have HBZ := Lib.hid (B2.out.trans (HB.out.mono HZ2.out))
      go_wp2
      go_ret
      first | exact ⟨_, Q, rfl, by simpa using HOF.out, HFD.out, HBZ.out⟩ | exact ⟨_, rfl, Q, by simpa using HOF.out, HFD.out, HBZ.out⟩
end Go.Proofs.YtfbfcomfkokfcaaGreatDoor


/- Of decide: isBefore; the closures of the decisions; firstsOf's own closure. -/
namespace Go.Proofs.YtfbfcomfkokfcaaGreatDoor
open Go.RowKit Go.Maps
set_option linter.unusedVariables false

def isB (a b : Str) : Bool := decide (b = []) || (decide (a.length < b.length) || (decide (a.length = b.length) && Op.bytesLess a b))
theorem toL (x : Str) : (ofL x).toList = x := by rw [ByteArray.toList_eq]; rfl
set_option maxRecDepth 1000000 in
set_option maxHeartbeats 4000000 in
theorem isBefore_any (a b : Str) (ha : a.length ≤ 1000000) (hb : b.length ≤ 1000000) (w : World) :
    Calls Tryz.prog 112 #[.string (ofL a), .string (ofL b)] w fun e w' => e = .returned (.bool (isB a b)) ∧ w' = w := by
  have HV : Hid (isB a b = (decide (b = []) || (decide (a.length < b.length) || (decide (a.length = b.length) && Op.bytesLess a b)))) := Lib.hid rfl
  obtain ⟨R, hR⟩ : ∃ R, isB a b = R := ⟨_, rfl⟩
  rw [hR] at HV ⊢
  clear hR
  by_cases h0 : b = []
  · subst h0
    have HR : Hid (R = true) := Lib.hid (by rw [HV.out]; rfl)
    have t0 : ((ofL []).toList == ([] : List UInt8)) = true := by rw [toL]; rfl
    clear HV
    go_enter Tryz.func112, Tryz.ntmps112
    go_wp2
    go_ret
    exact ⟨by rw [HR.out]; rfl, rfl⟩
  · have t0 : ((ofL b).toList == ([] : List UInt8)) = false := by rw [beq_eq_false_iff_ne, toL]; exact h0
    have t00 : (ofL b).toList.isEmpty = false := by rw [toL]; cases b with | nil => exact absurd rfl h0 | cons x l => rfl
    have hsa := ofL_size a
    have hsb := ofL_size b
    have HTA := Lib.hid (toL a)
    have HTB := Lib.hid (toL b)
    by_cases h1 : a.length < b.length
    · have HR : Hid (R = true) := Lib.hid (by rw [HV.out, decide_eq_true h1]; simp)
      have t1 : ((ofL a).size : Int) < ((ofL b).size : Int) := by omega
      have d1 := decide_eq_true t1
      have d2 := decide_eq_true (show (ofL a).size < (ofL b).size by omega)
      clear HV h0 h1 hsa hsb
      go_enter Tryz.func112, Tryz.ntmps112
      go_wp2
      go_ret
      exact ⟨by rw [HR.out]; rfl, rfl⟩
    · have t1 : ¬ ((ofL a).size : Int) < ((ofL b).size : Int) := by omega
      have d1 := decide_eq_false t1
      have d2 := decide_eq_false (show ¬ (ofL a).size < (ofL b).size by omega)
      by_cases h2 : a.length = b.length
      · have HR : Hid (R = Op.bytesLess (ofL a).toList (ofL b).toList) := Lib.hid (by rw [HV.out, decide_eq_false h0, decide_eq_false h1, decide_eq_true h2, toL, toL]; simp)
        have t2 : (((ofL a).size : Int) == ((ofL b).size : Int)) = true := by rw [beq_iff_eq]; omega
        have t3 : ((ofL a).size == (ofL b).size) = true := by rw [beq_iff_eq]; omega
        clear HV h0 h1 h2 hsa hsb
        go_enter Tryz.func112, Tryz.ntmps112
        go_wp2
        go_ret
        exact ⟨by rw [HR.out]; rfl, rfl⟩
      · have HR : Hid (R = false) := Lib.hid (by rw [HV.out, decide_eq_false h0, decide_eq_false h1, decide_eq_false h2]; rfl)
        have t2 : (((ofL a).size : Int) == ((ofL b).size : Int)) = false := by rw [beq_eq_false_iff_ne]; omega
        have t3 : ((ofL a).size == (ofL b).size) = false := by rw [beq_eq_false_iff_ne]; omega
        clear HV h0 h1 h2 hsa hsb
        go_enter Tryz.func112, Tryz.ntmps112
        go_wp2
        go_ret
        exact ⟨by rw [HR.out]; rfl, rfl⟩
set_option maxRecDepth 1000000 in
set_option maxHeartbeats 1000000 in
theorem invalid_any (c : Cnd) (a2 : Option Addr) (c2 : Nat) (hl : ∀ l ∈ c, l.length ≤ 4611686018427387904) (w : World) (hv : RdC w (.slice a2 c.length c2) c) :
    Calls Tryz.prog 109 (#[.slice a2 c.length c2] ++ #[]) w fun e w' => e = .returned (.bool (!okC c)) ∧ Below w.heap.size w w' := by
  have HV := Lib.hid hv
  have HL := Lib.hid hl
  clear hv hl
  go_enter Tryz.func109, Tryz.ntmps109
  go_wp2_with fail
  refine (valid_cond_any _ c w HV.out HL.out).mono ?_
  rintro e w2 ⟨rfl, b2⟩
  have B2 := Lib.hid b2
  clear b2
  obtain ⟨x, hx⟩ : ∃ x, okC c = x := ⟨_, rfl⟩
  have HX := Lib.hid hx
  rw [hx]
  clear hx
  go_wp2
  go_ret
  exact ⟨by rw [HX.out]; rfl, B2.out⟩
/-! ### What the decisions ask of a set -/
set_option maxRecDepth 1000000 in
theorem isDis_any (c b : Nat) (hc : c < 18446744073709551616) (hb : b < 18446744073709551616) (B : Nat) (w : World) (hB : w.cell? ⟨B, 0, none⟩ = some (.int .u64 b)) : Calls Tryz.prog 72 (#[.int .u64 (c : Int)] ++ #[.pointer (some ⟨B, 0, none⟩)]) w fun e w' => e = .returned (.bool (decide (c &&& b = b))) ∧ w' = w := by
  have s2 : bits .and .u64 (c : Int) (b : Int) = ((c &&& b : Nat) : Int) := u64_and_nat c b hc hb
  obtain ⟨R, hR⟩ : ∃ R, c &&& b = R := ⟨_, rfl⟩
  rw [hR] at s2 ⊢
  have HX : Hid (decide (R = b) = ((R : Int) == (b : Int))) := Lib.hid (by rw [Bool.eq_iff_iff, decide_eq_true_eq, beq_iff_eq]; omega)
  clear hR hc hb
  go_enter Tryz.func72, Tryz.ntmps72
  go_wp2
  go_ret
  exact ⟨by rw [HX.out]; rfl, rfl⟩
end Go.Proofs.YtfbfcomfkokfcaaGreatDoor


/- Of decide: firstsOf. -/
namespace Go.Proofs.YtfbfcomfkokfcaaGreatDoor
open Go.RowKit Go.Maps
set_option linter.unusedVariables false

theorem flat_setI : ∀ (m : List Str) (i : Nat) (x : Str), (m.set i x).flatMap encT = (m.flatMap encT).set i (.string (ofL x))
  | [], i, x => by simp
  | y :: m, 0, x => by simp [encT]
  | y :: m, i + 1, x => by
    rw [List.set_cons_succ, List.flatMap_cons, List.flatMap_cons, flat_setI m i x]
    simp [encT]
theorem Own1.putI {w : World} {base : Nat} {e : TypeId} {g n cap : Nat} {m : List Str} (h : Own1 1 encT w base e (.slice (some ⟨g, 0, none⟩) n cap) m) (i : Nat) (x : Str) :
    Own1 1 encT (w.setCell ⟨g, i, none⟩ (.string (ofL x))) base e (.slice (some ⟨g, 0, none⟩) n cap) (m.set i x) := by
  have hn : m.length = n := by obtain ⟨a, c, hv⟩ := h.slice; injection hv with h1 h2 h3; exact h2.symm
  have h0 := h.1
  rcases h.2 with ⟨hv, _⟩ | ⟨g', cap', cur, hv, hB, hg, hr⟩
  · cases hv
  · injection hv with e1 e2 e3
    injection e1 with e1
    injection e1 with e1
    subst e1 e3
    obtain ⟨r1, r2, r3, r4⟩ := hr
    have hb : Blk g e cur w := hg
    have hb2 := hb.put i (.string (ofL x))
    refine ⟨?_, .inr ⟨g, cap, _, by rw [List.length_set, hn], hB, hb2, ?_⟩⟩
    · unfold Own1 World.ownsRow at *
      rw [flat_len encT_len, List.length_set]
    · rw [List.length_set]
      refine ⟨r1, r2, by simpa using r3, ?_⟩
      rw [flat_setI, ← r4]
      simp [List.take_set, Array.toList_setIfInBounds]
theorem own_madeS (w : World) (base n : Nat) (hb : base ≤ w.heap.size) (hn : n ≤ 1000000) : Own1 1 encT (w.alloc (.cells (madeCells #[.string ByteArray.empty] n) 9)) base 9 (.slice (some ⟨w.heap.size, 0, none⟩) n n) (List.replicate n []) := by
  have e1 : (madeCells #[Value.string ByteArray.empty] n).toList = List.replicate n (.string ByteArray.empty) := toList_madeCells_one _ _
  have e2 : (List.replicate n ([] : Str)).flatMap encT = List.replicate n (.string ByteArray.empty) := by
    induction n with
    | zero => rfl
    | succ n ih => rw [List.replicate_succ, List.flatMap_cons, ih (by omega) (toList_madeCells_one _ _), List.replicate_succ]; rfl
  refine ⟨?_, .inr ⟨w.heap.size, n, madeCells #[.string ByteArray.empty] n, by rw [List.length_replicate], hb, heap_alloc_new w _, ?_⟩⟩
  · rw [e2, List.length_replicate, List.length_replicate, Nat.mul_one]
  · rw [List.length_replicate, e2]
    refine ⟨Nat.le_refl _, by unfold maxLen; omega, ?_, ?_⟩
    · rw [← Array.length_toList, e1, List.length_replicate, Nat.mul_one]
    · rw [e1, Nat.mul_one, List.take_replicate, Nat.min_self]

/-! ### The lists of first numbers -/
def setN (cs : List Cnd) (x : Rg) (f : Fra) : Nat := cndN (listsO 0 cs) ((x.hold &&& f.kept) ||| f.hold) cs.length
def txN (u : List Nat) (f : Fra) : Str := chS u ++ f.tx
def updL (L : List Str) (c : Nat) (n : Str) : List Str := if isB n (L.getD c []) = true then L.set c n else L
def innL (cs : List Cnd) (q : List Nat × Rg) (F : List Fra) (L : List Str) : List Str := F.foldl (fun L f => updL L (setN cs q.2 f) (txN q.1 f)) L
def outL (cs : List Cnd) (F : List Fra) (D : List (List Nat × Rg)) (L : List Str) : List Str := D.foldl (fun L q => innL cs q F L) L
def firL (cs : List Cnd) (Qw Qf : List (List Nat × Rg)) : List Str := outL cs (Qf.map (frOf (relsC cs))) (Qw.drop 1) (List.replicate (2 ^ cs.length) [])
theorem innL_succ (cs : List Cnd) (q : List Nat × Rg) (F : List Fra) (L : List Str) {j : Nat} (h : j < F.length) : innL cs q (F.take (j + 1)) L = updL (innL cs q (F.take j) L) (setN cs q.2 F[j]) (txN q.1 F[j]) := by
  unfold innL
  rw [List.take_succ_eq_append_getElem h, List.foldl_append]
  rfl
theorem outL_succ (cs : List Cnd) (F : List Fra) (D : List (List Nat × Rg)) (L : List Str) {i : Nat} (h : i < D.length) : outL cs F (D.take (i + 1)) L = innL cs D[i] F (outL cs F (D.take i) L) := by
  unfold outL
  rw [List.take_succ_eq_append_getElem h, List.foldl_append]
  rfl
def Sm (L : List Str) : Prop := ∀ x ∈ L, x.length ≤ 1000
theorem setsO_lt : ∀ {off : Nat} {c : Cnd}, off + cnt c ≤ 64 → ∀ a ∈ setsO off c, a < 18446744073709551616
  | off, [], _, a, h => by cases h
  | off, l :: c, hc, a, h => by
    rw [cnt_cons] at hc
    rcases List.mem_cons.1 h with rfl | h
    · exact run_lt (by omega)
    · exact setsO_lt (by omega) a h
theorem listsO_lt : ∀ {off : Nat} {cs : List Cnd}, off + cntA_ cs ≤ 64 → ∀ c ∈ listsO off cs, ∀ a ∈ c, a < 18446744073709551616
  | off, [], _, c, h => by cases h
  | off, d :: cs, hc, c, h => by
    rw [cntA_cons] at hc
    rcases List.mem_cons.1 h with rfl | h
    · exact setsO_lt (by omega)
    · exact listsO_lt (by omega) c h
theorem cndN_lt {ls : List (List Nat)} {hold k : Nat} (hk : k ≤ ls.length) (h6 : k ≤ 60) : cndN ls hold k < 2 ^ k := by
  obtain ⟨h1, h2⟩ := cndN_ok ls hold k hk (by omega)
  refine Nat.lt_pow_two_of_testBit _ (fun j hj => ?_)
  rw [h2]
  split
  · rw [decide_eq_false (by omega), Bool.false_and]
  · rfl
end Go.Proofs.YtfbfcomfkokfcaaGreatDoor


