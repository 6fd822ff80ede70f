/- Plain facts on the escaped form: it is read back, joins, has no delimiter; letters stay. -/
import Derived.Test.YtnkmlgkppaglkaaDoorEl
import Derived.Test.YtnkmlgkppaglkaaDoorEm
namespace Go.Proofs.YtnkmlgkppaglkaaDoor
set_option linter.unusedVariables false

/-! ### joins -/
theorem escOne_flag (st n : Nat) (h : ¬ (st = 1 ∧ n = 32)) : escOne st n false = escOne st n true := by
  have : tb st n false = tb st n true := by
    unfold tb
    by_cases a : st = 1
    · have : ¬ n = 32 := fun b => h ⟨a, b⟩
      simp [a, this]
    · simp [a]
  unfold escOne
  rw [this]
theorem escF_flag (st : Nat) (l : List UInt8) (h : ¬ (st = 1 ∧ 0 < l.length ∧ byt l 0 = 32)) : escF st false l = escF st true l := by
  cases l with
  | nil => rfl
  | cons c r =>
    simp only [escF]
    rw [escOne_flag st c.toNat (fun h' => h ⟨h'.1, by simp, h'.2⟩)]
theorem escL_append (st : Nat) (l r : List UInt8) (h : ¬ (st = 1 ∧ 0 < r.length ∧ byt r 0 = 32)) : escL st (l ++ r) = escL st l ++ escL st r := by
  unfold escL
  rw [escF_append]
  cases l with
  | nil => simp
  | cons c l => simp [escF_flag st r h]

/-! ### read back -/
def decS (n : Nat) : List UInt8 := if n < 10 then [UInt8.ofNat (48 + n)] else if n < 100 then [UInt8.ofNat (48 + n / 10), UInt8.ofNat (48 + n % 10)] else [UInt8.ofNat (48 + n / 100), UInt8.ofNat (48 + n / 10 % 10), UInt8.ofNat (48 + n % 10)]
theorem dec_S (n : Nat) (h : n < 1000) : Lib.decDigits n = decS n := by
  unfold decS
  split
  · exact dec1 (by assumption)
  · split
    · exact dec2 (by omega) (by assumption)
    · exact dec3 (by omega) h
theorem num_read0 : ∀ n : Fin 128, charL 10 (decS n.1) = [UInt8.ofNat n.1] ∧ (decS n.1).all (fun c => c != 59 && c != 120 && c != 34 && c != 10 && c != 60) = true ∧ decS n.1 ≠ [] ∧ (decS n.1).length ≤ 3 := by decide +kernel
theorem hex_read0 : ∀ n : Fin 128, charL 16 [hexd (n.1 / 16), hexd (n.1 % 16)] = [UInt8.ofNat n.1] ∧ charL 16 [48, 48, hexd (n.1 / 16), hexd (n.1 % 16)] = [UInt8.ofNat n.1] ∧ (hexd (n.1 / 16)).toNat ≤ 55 ∧
    ([hexd (n.1 / 16), hexd (n.1 % 16)].all fun c => c != 34 && c != 61 && c != 58 && c != 35 && c != 10 && c != 92) = true := by decide +kernel
theorem indexByte_app (p r : List UInt8) (c : UInt8) (h : p.all (fun x => x != c) = true) : Lib.indexByte (p ++ c :: r) c = p.length := by
  induction p with
  | nil => simp [Lib.indexByte]
  | cons x p ih =>
    rw [List.all_cons, Bool.and_eq_true] at h
    have hx : (x == c) = false := by simpa using h.1
    rw [List.cons_append]
    unfold Lib.indexByte
    rw [hx, ih h.2]
    have : ¬ (((p.length : Nat) : Int) == -1) = true := by simp only [beq_iff_eq]; omega
    simp only [Bool.false_eq_true, if_false]
    rw [if_neg this]
    simp
theorem rdE_named (p r q : List UInt8) (hp : p.all (fun x => x != 59) = true) (hq : enL p = q) : rdE (38 :: (p ++ 59 :: r)) = (q, p.length + 2) := by
  unfold rdE
  have h1 : Lib.indexByte ((38 :: (p ++ 59 :: r)).drop 1) 59 = p.length := indexByte_app p r 59 hp
  rw [h1, if_neg (by omega)]
  simp [hq]
theorem rd4 (l : List UInt8) : rd 4 (38 :: l) = rdE (38 :: l) := by unfold rd; simp [byt]
theorem num_name (n : Nat) (h : n < 128) : enL (35 :: Lib.decDigits n) = [UInt8.ofNat n] := by
  obtain ⟨h1, h2, h3, h4⟩ := num_read0 ⟨n, h⟩
  simp only at h1 h2 h3 h4
  rw [dec_S n (by omega)]
  cases hd : decS n with
  | nil => exact absurd hd h3
  | cons x q =>
    rw [hd] at h1 h2 h4
    have hx : (x == 120) = false := by
      rw [List.all_cons, Bool.and_eq_true] at h2
      have := h2.1
      simp only [Bool.and_eq_true] at this
      simpa using this.1.1.1.2
    have hx' : ¬ (120 : UInt8) = x := fun e => by rw [← e] at hx; exact absurd hx (by decide)
    have h7 : (x :: q).length ≤ 7 := by omega
    have hpre : Lib.hasPrefix (35 :: x :: q) [35, 120] = false := by
      simp [Lib.hasPrefix, List.isPrefixOf, hx']
    unfold enL enN
    rw [if_neg (by simp), if_neg (by simp), if_neg (by simp), if_neg (by simp), if_neg (by simp), hpre]
    simp only [Bool.false_and, Bool.false_eq_true, if_false]
    have hp1 : Lib.hasPrefix (35 :: x :: q) [35] = true := by simp [Lib.hasPrefix, List.isPrefixOf]
    rw [hp1]
    simp only [List.drop_succ_cons, List.drop_zero]
    rw [if_pos (by simpa using h7), h1]
theorem ctl_lt {n : Nat} (h : ctl n = true) : n < 128 := by unfold ctl at h; simp at h; omega
theorem rd_ent (n : Nat) (hn : n < 256) (r : List UInt8) : rd 4 (entL n ++ r) = ([UInt8.ofNat n], (entL n).length) := by
  unfold entL
  by_cases a0 : n = 38
  · subst a0
    rw [if_pos rfl]
    show rd 4 (38 :: ([97, 109, 112] ++ 59 :: r)) = _
    rw [rd4, rdE_named [97, 109, 112] r [38] (by decide) (by decide)]
    rfl
  rw [if_neg a0]
  by_cases a1 : n = 60
  · subst a1
    rw [if_pos rfl]
    show rd 4 (38 :: ([108, 116] ++ 59 :: r)) = _
    rw [rd4, rdE_named [108, 116] r [60] (by decide) (by decide)]
    rfl
  rw [if_neg a1]
  by_cases a2 : n = 62
  · subst a2
    rw [if_pos rfl]
    show rd 4 (38 :: ([103, 116] ++ 59 :: r)) = _
    rw [rd4, rdE_named [103, 116] r [62] (by decide) (by decide)]
    rfl
  rw [if_neg a2]
  by_cases a3 : n = 34
  · subst a3
    rw [if_pos rfl]
    show rd 4 (38 :: ([113, 117, 111, 116] ++ 59 :: r)) = _
    rw [rd4, rdE_named [113, 117, 111, 116] r [34] (by decide) (by decide)]
    rfl
  rw [if_neg a3]
  by_cases hc : ctl n = true
  · rw [if_pos hc]
    have hlt := ctl_lt hc
    have e : numL n ++ r = 38 :: ((35 :: Lib.decDigits n) ++ 59 :: r) := by simp [numL]
    have hall : (35 :: Lib.decDigits n).all (fun x => x != 59) = true := by
      obtain ⟨_, h2, _, _⟩ := num_read0 ⟨n, hlt⟩
      rw [dec_S n (by omega), List.all_cons, Bool.and_eq_true]
      refine ⟨by decide, ?_⟩
      rw [List.all_eq_true] at h2 ⊢
      intro x hx
      have := h2 x hx
      simp only [Bool.and_eq_true] at this
      exact this.1.1.1.1
    rw [e, rd4, rdE_named _ r _ hall (num_name n hlt)]
    simp [numL]
  · rw [if_neg hc]
    unfold rd
    have hb : byt ([UInt8.ofNat n] ++ r) 0 = n := by simp [byt, toNat_of n hn]
    rw [hb]
    simp [a0, a1, a3]
theorem byt0 (a : UInt8) (l : List UInt8) : byt (a :: l) 0 = a.toNat := rfl
theorem byt1 (a b : UInt8) (l : List UInt8) : byt (a :: b :: l) 1 = b.toNat := rfl
theorem byt2 (a b c : UInt8) (l : List UInt8) : byt (a :: b :: c :: l) 2 = c.toNat := rfl
theorem rd_bs (st : Nat) (h : st ≠ 4) (l : List UInt8) : rd st (92 :: l) = rdB (92 :: l) := by
  unfold rd
  rw [byt0]
  rw [if_pos ⟨rfl, h⟩]
theorem tb_cases {st n : Nat} {f : Bool} (h : tb st n f = true) : n = 10 ∨ n = 13 ∨ n = 9 ∨ n = 92 ∨ n = 34 ∨ n = 61 ∨ n = 58 ∨ n = 35 ∨ n = 33 ∨ n = 123 ∨ n = 125 ∨ n = 32 := by
  unfold tb at h
  simp at h
  omega
theorem rd_tb (st n : Nat) (hs : st ≠ 4) (f : Bool) (h : tb st n f = true) (r : List UInt8) : rd st ([92, UInt8.ofNat (ltr n)] ++ r) = ([UInt8.ofNat n], 2) := by
  rw [List.cons_append, rd_bs st hs]
  rcases tb_cases h with rfl | rfl | rfl | rfl | rfl | rfl | rfl | rfl | rfl | rfl | rfl | rfl
  all_goals simp [rdB, byt, ltr, isSelf]
theorem rd_hex (st n : Nat) (hs : st ≠ 4) (hn : n < 128) (r : List UInt8) : rd st (hexL st n ++ r) = ([UInt8.ofNat n], (hexL st n).length) := by
  obtain ⟨h1, h2, h3, _⟩ := hex_read0 ⟨n, hn⟩
  simp only at h1 h2 h3
  by_cases a : st = 3
  · have e : hexL st n = [92, 117, 48, 48, hexd (n / 16), hexd (n % 16)] := by unfold hexL; rw [if_pos a]; rfl
    rw [e, List.cons_append, rd_bs st hs]
    unfold rdB
    simp [byt, isSelf, h2]
  · have e : hexL st n = [92, 120, hexd (n / 16), hexd (n % 16)] := by unfold hexL; rw [if_neg a]; rfl
    rw [e, List.cons_append, rd_bs st hs]
    unfold rdB
    simp [byt, isSelf, h1, h3]
theorem rd_one (st n : Nat) (hn : n < 256) (f : Bool) (r : List UInt8) : rd st (escOne st n f ++ r) = ([UInt8.ofNat n], (escOne st n f).length) := by
  by_cases h4 : st = 4
  · subst h4
    rw [escOne4]
    exact rd_ent n hn r
  · by_cases ht : tb st n f = true
    · rw [escOneT h4 ht]
      exact rd_tb st n h4 f ht r
    · have ht := Bool.eq_false_iff.2 ht
      by_cases hc : ctl n = true
      · rw [escOneC h4 ht hc]
        exact rd_hex st n h4 (ctl_lt hc) r
      · have hc := Bool.eq_false_iff.2 hc
        rw [escOneP h4 ht hc]
        have hb : byt ([UInt8.ofNat n] ++ r) 0 = n := by simp [byt, toNat_of n hn]
        have a : n ≠ 92 ∧ n ≠ 10 ∧ (n = 34 → st = 1) := by
          unfold tb at ht
          simp at ht
          omega
        unfold rd
        rw [hb]
        have h34 : ¬ (n = 34 ∧ st ≠ 1) := fun h => h.2 (a.2.2 h.1)
        rw [if_neg (fun h => a.1 h.1), if_neg (fun h => a.2.1 h.1), if_neg h34, if_neg (fun h => h4 h.2), if_neg (fun h => h4 h.2)]
        rfl
theorem escOne_ne (st n : Nat) (f : Bool) (hn : n < 256) : escOne st n f ≠ [] := fun h => by
  have := rd_one st n hn f []
  rw [h] at this
  simp only [List.nil_append, List.length_nil, Prod.mk.injEq] at this
  have h2 := rd_ok st []
  rw [this] at h2
  exact absurd (h2.2.2 (by simp)) (by simp)
theorem un_escF (st : Nat) (l : List UInt8) : ∀ f, un st (escF st f l) = (true, l, 0) := by
  induction l with
  | nil => intro f; rfl
  | cons c l ih =>
    intro f
    simp only [escF]
    have hr := rd_one st c.toNat c.toNat_lt f (escF st false l)
    have hne : escOne st c.toNat f ++ escF st false l ≠ [] := fun h => escOne_ne st c.toNat f c.toNat_lt (List.append_eq_nil_iff.1 h).1
    rw [un_go hne (by rw [hr]; simp), hr]
    simp only [List.drop_left', ih]
    simp [jn]
theorem un_escL (st : Nat) (l : List UInt8) : un st (escL st l) = (true, l, 0) := un_escF st l true

/-! ### no delimiter -/
def Delim (st d : Nat) : Prop := (st = 1 ∧ (d = 61 ∨ d = 58 ∨ d = 35)) ∨ (st ≠ 1 ∧ d = 34)
theorem endF_cons {st d : Nat} (c : UInt8) (r : List UInt8) (h : c.toNat ≠ d) (h92 : ¬ (c.toNat = 92 ∧ st ≠ 4)) : endF st d (c :: r) = (endF st d r).map (· + 1) := by
  cases r with
  | nil => simp [endF, h]
  | cons x r =>
    simp only [endF]
    rw [if_neg h, if_neg h92]
theorem endF_plain {st d : Nat} (p r : List UInt8) (h : ∀ c ∈ p, c.toNat ≠ d ∧ ¬ (c.toNat = 92 ∧ st ≠ 4)) : endF st d (p ++ r) = (endF st d r).map (· + p.length) := by
  induction p with
  | nil => cases h : endF st d r <;> simp [h]
  | cons c p ih =>
    rw [List.cons_append, endF_cons c _ (h c (by simp)).1 (h c (by simp)).2, ih (fun x hx => h x (by simp [hx]))]
    cases endF st d r <;> simp; omega
theorem endF_pair {st d : Nat} (x : UInt8) (r : List UInt8) (h : (92 : Nat) ≠ d) (h4 : st ≠ 4) : endF st d (92 :: x :: r) = (endF st d r).map (· + 2) := by
  show (if (92 : UInt8).toNat = d then some 0 else if (92 : UInt8).toNat = 92 ∧ st ≠ 4 then (endF st d r).map (· + 2) else (endF st d (x :: r)).map (· + 1)) = _
  have e : (92 : UInt8).toNat = 92 := rfl
  rw [e, if_neg h, if_pos ⟨rfl, h4⟩]
theorem entL_bytes : ∀ n : Fin 256, (if ctl n.1 = true then True else (entL n.1).all (fun c => c != 34 && c != 10 && c != 60) = true) := by decide +kernel
theorem entL_all (n : Nat) (h : n < 256) : ∀ c ∈ entL n, c.toNat ≠ 34 ∧ c.toNat ≠ 10 ∧ c.toNat ≠ 60 := by
  have key : (entL n).all (fun c => c != 34 && c != 10 && c != 60) = true := by
    by_cases hc : ctl n = true
    · have hlt := ctl_lt hc
      have e : entL n = numL n := by
        have : n ≠ 38 ∧ n ≠ 60 ∧ n ≠ 62 ∧ n ≠ 34 := by unfold ctl at hc; simp at hc; omega
        unfold entL
        simp [this.1, this.2.1, this.2.2.1, this.2.2.2, hc]
      obtain ⟨_, h2, _, _⟩ := num_read0 ⟨n, hlt⟩
      rw [e]
      unfold numL
      rw [dec_S n (by omega)]
      simp only [List.all_append, Bool.and_eq_true]
      refine ⟨⟨by decide, ?_⟩, by decide⟩
      rw [List.all_eq_true] at h2 ⊢
      intro x hx
      have := h2 x hx
      simp only [Bool.and_eq_true] at this ⊢
      exact ⟨⟨this.1.1.2, this.1.2⟩, this.2⟩
    · have := entL_bytes ⟨n, h⟩
      simp only at this
      rw [if_neg hc] at this
      exact this
  intro c hc
  have := List.all_eq_true.1 key c hc
  simp only [Bool.and_eq_true, bne_iff_ne] at this
  refine ⟨fun e => this.1.1 ?_, fun e => this.1.2 ?_, fun e => this.2 ?_⟩
  all_goals exact UInt8.toNat_inj.1 e
theorem escOne_skip (st n d : Nat) (hn : n < 256) (f : Bool) (hst : st = 1 ∨ st = 2 ∨ st = 3 ∨ st = 4) (hd : Delim st d) (r : List UInt8) :
    endF st d (escOne st n f ++ r) = (endF st d r).map (· + (escOne st n f).length) := by
  have hd92 : (92 : Nat) ≠ d := by unfold Delim at hd; omega
  by_cases h4 : st = 4
  · subst h4
    rw [escOne4]
    have : d = 34 := by unfold Delim at hd; omega
    subst this
    exact endF_plain _ r (fun c hc => ⟨(entL_all n hn c hc).1, fun h => h.2 rfl⟩)
  · by_cases ht : tb st n f = true
    · rw [escOneT h4 ht]
      exact endF_pair _ r hd92 h4
    · have ht := Bool.eq_false_iff.2 ht
      by_cases hc : ctl n = true
      · rw [escOneC h4 ht hc]
        obtain ⟨_, _, _, h5⟩ := hex_read0 ⟨n, ctl_lt hc⟩
        simp only at h5
        have hx : ∀ c ∈ [hexd (n / 16), hexd (n % 16)], c.toNat ≠ d ∧ ¬ (c.toNat = 92 ∧ st ≠ 4) := by
          intro c hc'
          have := List.all_eq_true.1 h5 c hc'
          simp only [Bool.and_eq_true, bne_iff_ne] at this
          obtain ⟨⟨⟨⟨⟨b1, b2⟩, b3⟩, b4⟩, b5⟩, b6⟩ := this
          refine ⟨fun e => ?_, fun e => b6 (UInt8.toNat_inj.1 e.1)⟩
          unfold Delim at hd
          rcases hd with ⟨_, rfl | rfl | rfl⟩ | ⟨_, rfl⟩
          · exact b2 (UInt8.toNat_inj.1 e)
          · exact b3 (UInt8.toNat_inj.1 e)
          · exact b4 (UInt8.toNat_inj.1 e)
          · exact b1 (UInt8.toNat_inj.1 e)
        by_cases a : st = 3
        · have e : hexL st n = 92 :: 117 :: ([48, 48] ++ [hexd (n / 16), hexd (n % 16)]) := by unfold hexL; rw [if_pos a]; rfl
          rw [e, List.cons_append, List.cons_append, endF_pair _ _ hd92 h4, endF_plain _ r ?_]
          · cases endF st d r <;> simp
          · intro c hc'
            rcases List.mem_append.1 hc' with h | h
            · have : c = 48 := by simpa using h
              subst this
              refine ⟨?_, fun e => absurd e.1 (by decide)⟩
              unfold Delim at hd
              show 48 ≠ d
              omega
            · exact hx c h
        · have e : hexL st n = 92 :: 120 :: [hexd (n / 16), hexd (n % 16)] := by unfold hexL; rw [if_neg a]; rfl
          rw [e, List.cons_append, List.cons_append, endF_pair _ _ hd92 h4, endF_plain _ r hx]
          cases endF st d r <;> simp
      · have hc := Bool.eq_false_iff.2 hc
        rw [escOneP h4 ht hc]
        refine endF_plain _ r (fun c hc' => ?_)
        have : c = UInt8.ofNat n := by simpa using hc'
        subst this
        rw [toNat_of n hn]
        unfold tb at ht
        simp at ht
        unfold Delim at hd
        omega
theorem escL_skip (st d : Nat) (hst : st = 1 ∨ st = 2 ∨ st = 3 ∨ st = 4) (hd : Delim st d) (l r : List UInt8) : ∀ f, endF st d (escF st f l ++ r) = (endF st d r).map (· + (escF st f l).length) := by
  induction l with
  | nil => intro f; cases h : endF st d r <;> simp [escF, h]
  | cons c l ih =>
    intro f
    simp only [escF]
    rw [List.append_assoc, escOne_skip st c.toNat d c.toNat_lt f hst hd, ih false]
    cases endF st d r <;> simp; omega
theorem escOne_clean (st n : Nat) (hn : n < 256) (f : Bool) : ∀ c ∈ escOne st n f, c.toNat ≠ 10 ∧ (st = 4 → c.toNat ≠ 60) := by
  intro c hc
  by_cases h4 : st = 4
  · subst h4
    rw [escOne4] at hc
    exact ⟨(entL_all n hn c hc).2.1, fun _ => (entL_all n hn c hc).2.2⟩
  · refine ⟨?_, fun h => absurd h h4⟩
    by_cases ht : tb st n f = true
    · rw [escOneT h4 ht] at hc
      rcases tb_cases ht with rfl | rfl | rfl | rfl | rfl | rfl | rfl | rfl | rfl | rfl | rfl | rfl
      all_goals
        simp [ltr] at hc
        rcases hc with rfl | rfl <;> decide
    · have ht := Bool.eq_false_iff.2 ht
      by_cases hcc : ctl n = true
      · rw [escOneC h4 ht hcc] at hc
        obtain ⟨_, _, _, h5⟩ := hex_read0 ⟨n, ctl_lt hcc⟩
        simp only at h5
        have hx : ∀ x ∈ [hexd (n / 16), hexd (n % 16)], x.toNat ≠ 10 := by
          intro x hx
          have := List.all_eq_true.1 h5 x hx
          simp only [Bool.and_eq_true, bne_iff_ne] at this
          exact fun e => this.1.2 (UInt8.toNat_inj.1 e)
        unfold hexL at hc
        rw [List.append_assoc] at hc
        rcases List.mem_append.1 hc with h | h
        · have : ∀ x ∈ (if st = 3 then ([92, 117, 48, 48] : List UInt8) else [92, 120]), x.toNat ≠ 10 := by split <;> decide
          exact this c h
        · exact hx c (by simpa using h)
      · have hcc := Bool.eq_false_iff.2 hcc
        rw [escOneP h4 ht hcc] at hc
        have : c = UInt8.ofNat n := by simpa using hc
        subst this
        rw [toNat_of n hn]
        unfold ctl at hcc
        simp at hcc
        omega
theorem escL_clean (st : Nat) (l : List UInt8) : ∀ f, ∀ c ∈ escF st f l, c.toNat ≠ 10 ∧ (st = 4 → c.toNat ≠ 60) := by
  induction l with
  | nil => intro f c hc; simp [escF] at hc
  | cons x l ih =>
    intro f c hc
    simp only [escF] at hc
    rcases List.mem_append.1 hc with h | h
    · exact escOne_clean st x.toNat x.toNat_lt f c h
    · exact ih false c h

/-! ### letters -/
def isLet (n : Nat) : Bool := decide (n = 32) || (decide (48 ≤ n) && decide (n ≤ 57)) || (decide (65 ≤ n) && decide (n ≤ 90)) || (decide (97 ≤ n) && decide (n ≤ 122))
theorem escOne_let (st n : Nat) (f : Bool) (h : isLet n = true) (hf : ¬ (f = true ∧ n = 32)) : escOne st n f = [UInt8.ofNat n] := by
  unfold isLet at h
  simp at h
  have hc : ctl n = false := by unfold ctl; simp; omega
  by_cases h4 : st = 4
  · subst h4
    rw [escOne4]
    unfold entL
    rw [if_neg (by omega), if_neg (by omega), if_neg (by omega), if_neg (by omega), hc]
    rfl
  · have ht : tb st n f = false := by
      unfold tb
      cases f
      · simp; omega
      · simp at hf; simp; omega
    exact escOneP h4 ht hc
theorem escF_let (st : Nat) (l : List UInt8) : ∀ f, (∀ c ∈ l, isLet c.toNat = true) → ¬ (f = true ∧ 0 < l.length ∧ byt l 0 = 32) → escF st f l = l := by
  induction l with
  | nil => intro f _ _; rfl
  | cons c l ih =>
    intro f h hf
    simp only [escF]
    rw [escOne_let st c.toNat f (h c (by simp)) (fun h' => hf ⟨h'.1, by simp, h'.2⟩), ih false (fun x hx => h x (by simp [hx])) (by simp)]
    simp
end Go.Proofs.YtnkmlgkppaglkaaDoor
