/- Plain facts on decimal numbers: digits, values, leading and trailing zeros, numbers and their strings. -/
namespace Go.Proofs.YteofkofgdhmpjaaDoor
set_option linter.unusedVariables false
abbrev Str := List UInt8
def isD (c : UInt8) : Bool := decide (48 ≤ c.toNat) && decide (c.toNat ≤ 57)
def allD (l : Str) : Prop := ∀ c ∈ l, isD c = true
theorem allD_nil : allD [] := fun c h => by cases h
theorem allD_app {a b : Str} : allD (a ++ b) ↔ allD a ∧ allD b := by
  unfold allD
  constructor
  · intro h; exact ⟨fun c hc => h c (by simp [hc]), fun c hc => h c (by simp [hc])⟩
  · rintro ⟨h1, h2⟩ c hc
    rcases List.mem_append.1 hc with h | h
    · exact h1 c h
    · exact h2 c h
theorem allD_cons {c : UInt8} {l : Str} : allD (c :: l) ↔ isD c = true ∧ allD l := by
  unfold allD
  simp
theorem isD_iff {c : UInt8} : isD c = true ↔ 48 ≤ c.toNat ∧ c.toNat ≤ 57 := by unfold isD; simp
theorem allD_take {l : Str} (h : allD l) (n : Nat) : allD (l.take n) := fun c hc => h c (List.mem_of_mem_take hc)
theorem allD_drop {l : Str} (h : allD l) (n : Nat) : allD (l.drop n) := fun c hc => h c (List.mem_of_mem_drop hc)
def zs (n : Nat) : Str := List.replicate n 48
theorem zs_len (n : Nat) : (zs n).length = n := by unfold zs; simp
theorem allD_zs (n : Nat) : allD (zs n) := fun c hc => by rw [(List.mem_replicate.1 hc).2]; rfl
theorem zs_succ (n : Nat) : zs (n + 1) = zs n ++ [48] := by unfold zs; rw [List.replicate_succ']
theorem zs_zero : zs 0 = [] := rfl
theorem u8_ext {a b : UInt8} (h : a.toNat = b.toNat) : a = b := UInt8.toNat_inj.1 h

/-! ### Values -/
def dg (c : UInt8) : Nat := c.toNat - 48
def stp (n : Nat) (c : UInt8) : Nat := n * 10 + dg c
theorem stp_eq (n : Nat) (c : UInt8) : stp n c = n * 10 + dg c := by unfold stp; with_reducible rfl
attribute [irreducible] stp
def valA (n : Nat) (l : Str) : Nat := l.foldl stp n
def val (l : Str) : Nat := valA 0 l
theorem valA_nil (n : Nat) : valA n [] = n := rfl
theorem valA_cons (n : Nat) (c : UInt8) (l : Str) : valA n (c :: l) = valA (stp n c) l := by unfold valA; rw [List.foldl_cons]
theorem valA_app (a b : Str) (n : Nat) : valA n (a ++ b) = valA (valA n a) b := List.foldl_append ..
theorem dg_48 : dg 48 = 0 := by unfold dg; rfl
theorem valA_eq : ∀ (l : Str) (n : Nat), valA n l = n * 10 ^ l.length + val l
  | [], n => by simp [valA_nil, val]
  | c :: l, n => by
    have h1 := valA_eq l (stp n c)
    have h2 := valA_eq l (stp 0 c)
    have e : val (c :: l) = valA (stp 0 c) l := valA_cons 0 c l
    rw [valA_cons, h1, e, h2, List.length_cons, Nat.pow_succ, stp_eq, stp_eq]
    rw [Nat.add_mul, Nat.mul_assoc, Nat.mul_comm 10, Nat.zero_mul, Nat.zero_add]
    omega
theorem val_nil : val [] = 0 := rfl
theorem val_cons (c : UInt8) (l : Str) : val (c :: l) = dg c * 10 ^ l.length + val l := by
  have e : val (c :: l) = valA (stp 0 c) l := valA_cons 0 c l
  rw [e, valA_eq, stp_eq, Nat.zero_mul, Nat.zero_add]
theorem val_app (a b : Str) : val (a ++ b) = val a * 10 ^ b.length + val b := by
  unfold val
  rw [valA_app]
  exact valA_eq b _
theorem val_snoc (a : Str) (c : UInt8) : val (a ++ [c]) = val a * 10 + dg c := by
  rw [val_app, val_cons, val_nil]
  simp
theorem dg_le {c : UInt8} (h : isD c = true) : dg c ≤ 9 := by rw [isD_iff] at h; unfold dg; omega
theorem val_lt : ∀ {l : Str}, allD l → val l < 10 ^ l.length
  | [], _ => by simp [val_nil]
  | c :: l, h => by
    rw [allD_cons] at h
    have h1 := val_lt h.2
    have h2 := dg_le h.1
    rw [val_cons, List.length_cons, Nat.pow_succ]
    have := Nat.mul_le_mul_right (10 ^ l.length) h2
    omega
theorem val_zs (n : Nat) : val (zs n) = 0 := by
  induction n with
  | zero => rfl
  | succ n ih => rw [zs_succ, val_snoc, ih, dg_48]
theorem val_inj : ∀ {a b : Str}, allD a → allD b → a.length = b.length → val a = val b → a = b
  | [], [], _, _, _, _ => rfl
  | [], _ :: _, _, _, h, _ => by simp at h
  | _ :: _, [], _, _, h, _ => by simp at h
  | c :: a, d :: b, ha, hb, hl, hv => by
    rw [allD_cons] at ha hb
    have hl' : a.length = b.length := by simpa using hl
    rw [val_cons, val_cons, hl'] at hv
    have h1 := val_lt ha.2
    have h2 := val_lt hb.2
    rw [hl'] at h1
    have hd : dg c = dg d := by
      rcases Nat.lt_trichotomy (dg c) (dg d) with h | h | h
      · exfalso
        have := Nat.mul_le_mul_right (10 ^ b.length) h
        rw [Nat.succ_mul] at this
        omega
      · exact h
      · exfalso
        have := Nat.mul_le_mul_right (10 ^ b.length) h
        rw [Nat.succ_mul] at this
        omega
    have hv2 : val a = val b := by rw [hd] at hv; omega
    have hc : c = d := by
      have e1 := isD_iff.1 ha.1
      have e2 := isD_iff.1 hb.1
      apply u8_ext
      unfold dg at hd
      omega
    rw [hc, val_inj ha.2 hb.2 hl' hv2]
def zero (l : Str) : Bool := l.all (· == 48)
theorem zero_iff {l : Str} (h : allD l) : zero l = true ↔ val l = 0 := by
  induction l with
  | nil => simp [zero, val_nil]
  | cons c l ih =>
    rw [allD_cons] at h
    have ih := ih h.2
    have hz : zero (c :: l) = (c == 48 && zero l) := rfl
    rw [hz, val_cons, Bool.and_eq_true, ih, beq_iff_eq]
    have hp : 0 < 10 ^ l.length := Nat.pow_pos (by omega)
    constructor
    · rintro ⟨rfl, h2⟩
      rw [h2, dg_48]
      simp
    · intro h2
      have h3 : dg c * 10 ^ l.length = 0 := by omega
      have h4 : dg c = 0 := by
        rcases Nat.eq_zero_or_pos (dg c) with h5 | h5
        · exact h5
        · have := Nat.mul_pos h5 hp
          omega
      refine ⟨?_, by omega⟩
      have h5 := isD_iff.1 h.1
      apply u8_ext
      unfold dg at h4
      show c.toNat = 48
      omega
theorem zero_app (a b : Str) : zero (a ++ b) = (zero a && zero b) := by unfold zero; rw [List.all_append]
theorem zero_zs (n : Nat) : zero (zs n) = true := by unfold zero zs; simp

/-! ### Zeros at the end -/
def tl (l : Str) : Nat → Nat
  | 0 => 0
  | n + 1 => if l.getD n 0 == 48 then tl l n else n + 1
theorem tl_le (l : Str) : ∀ n, tl l n ≤ n
  | 0 => Nat.le_refl _
  | n + 1 => by
    rw [tl]
    split
    · exact Nat.le_succ_of_le (tl_le l n)
    · exact Nat.le_refl _
def trim (l : Str) : Str := l.take (tl l l.length)
theorem tl_split (l : Str) : ∀ n, n ≤ l.length → l.take n = l.take (tl l n) ++ zs (n - tl l n)
  | 0, _ => by simp [tl, zs]
  | n + 1, h => by
    rw [tl]
    split
    · rename_i hc
      have ih := tl_split l n (by omega)
      have hl := tl_le l n
      have hg : l.getD n 0 = 48 := by simpa using hc
      have hg2 : l[n]'(by omega) = 48 := by
        rw [List.getD_eq_getElem?_getD, List.getElem?_eq_getElem (by omega)] at hg
        exact hg
      rw [List.take_succ_eq_append_getElem (by omega), ih, hg2, show n + 1 - tl l n = (n - tl l n) + 1 by omega, zs_succ, List.append_assoc]
    · simp [zs]
theorem trim_split (l : Str) : l = trim l ++ zs (l.length - (trim l).length) := by
  have h := tl_split l l.length (Nat.le_refl _)
  rw [List.take_length] at h
  have hl : (trim l).length = tl l l.length := by unfold trim; rw [List.length_take]; have := tl_le l l.length; omega
  rw [hl]
  exact h
theorem trim_len (l : Str) : (trim l).length ≤ l.length := by unfold trim; rw [List.length_take]; omega
theorem trim_len_eq (l : Str) : (trim l).length = tl l l.length := by unfold trim; rw [List.length_take]; have := tl_le l l.length; omega
theorem trim_allD {l : Str} (h : allD l) : allD (trim l) := allD_take h _
theorem tl_last (l : Str) : ∀ n, tl l n = 0 ∨ l.getD (tl l n - 1) 0 ≠ 48
  | 0 => .inl rfl
  | n + 1 => by
    rw [tl]
    split
    · exact tl_last l n
    · rename_i h
      right
      simpa using h
theorem tl_stop {l : Str} {n : Nat} (h : n = 0 ∨ l.getD (n - 1) 0 ≠ 48) : tl l n = n := by
  cases n with
  | zero => rfl
  | succ n =>
    rw [tl, if_neg]
    rcases h with h | h
    · omega
    · simpa using h
theorem tl_zs (a : Str) : ∀ n, tl (a ++ zs n) (a.length + n) = tl (a ++ zs n) a.length
  | 0 => rfl
  | n + 1 => by
    rw [show a.length + (n + 1) = (a.length + n) + 1 by omega, tl]
    have h1 : (a ++ zs (n + 1)).getD (a.length + n) 0 = 48 := by
      rw [List.getD_eq_getElem?_getD, List.getElem?_append_right (by omega), show a.length + n - a.length = n by omega]
      unfold zs
      rw [List.getElem?_replicate, if_pos (by omega)]
      rfl
    rw [if_pos (by rw [h1]; rfl)]
    have e : ∀ k m, k ≤ a.length + m → tl (a ++ zs (m + 1)) k = tl (a ++ zs m) k := by
      intro k m
      induction k with
      | zero => intro _; rfl
      | succ k ih =>
        intro hk
        rw [tl, tl, ih (by omega)]
        have : (a ++ zs (m + 1)).getD k 0 = (a ++ zs m).getD k 0 := by
          rw [zs_succ, ← List.append_assoc, List.getD_eq_getElem?_getD, List.getD_eq_getElem?_getD, List.getElem?_append_left (by rw [List.length_append, zs_len]; omega)]
        rw [this]
    rw [e _ n (by omega), tl_zs a n, e _ n (by omega)]
theorem tl_app (a b : Str) : ∀ k, k ≤ a.length → tl (a ++ b) k = tl a k
  | 0, _ => rfl
  | k + 1, h => by
    rw [tl, tl, tl_app a b k (by omega)]
    have : (a ++ b).getD k 0 = a.getD k 0 := by
      rw [List.getD_eq_getElem?_getD, List.getD_eq_getElem?_getD, List.getElem?_append_left (by omega)]
    rw [this]
theorem trim_app_zs (a : Str) (n : Nat) : trim (a ++ zs n) = trim a := by
  unfold trim
  rw [List.length_append, zs_len, tl_zs, tl_app a _ _ (Nat.le_refl _), List.take_append_of_le_length (tl_le _ _)]
theorem trim_trim (a : Str) : trim (trim a) = trim a := by
  have h := trim_split a
  have h2 : trim a = trim (trim a ++ zs (a.length - (trim a).length)) := by rw [← h]
  rw [trim_app_zs] at h2
  exact h2.symm
theorem trim_nil_iff {l : Str} : trim l = [] ↔ zero l = true := by
  constructor
  · intro h
    have h2 := trim_split l
    rw [h, List.nil_append] at h2
    rw [h2]
    exact zero_zs _
  · intro h
    have h2 : l = zs l.length := by
      unfold zero at h
      unfold zs
      rw [List.eq_replicate_iff]
      refine ⟨rfl, fun b hb => ?_⟩
      have := List.all_eq_true.1 h b hb
      simpa using this
    rw [h2]
    have := trim_app_zs [] l.length
    rw [List.nil_append] at this
    rw [this]
    rfl
theorem zero_trim (l : Str) : zero (trim l) = zero l := by
  have h := trim_split l
  have h2 : zero l = zero (trim l ++ zs (l.length - (trim l).length)) := by rw [← h]
  rw [zero_app, zero_zs, Bool.and_true] at h2
  exact h2.symm
/-- Trimmed lists of digits with the same padded value are the same. -/
theorem trim_inj {a b : Str} (ha : allD a) (hb : allD b) {m : Nat} (h1 : a.length ≤ m) (h2 : b.length ≤ m) (hv : val a * 10 ^ (m - a.length) = val b * 10 ^ (m - b.length)) : trim a = trim b := by
  have e : a ++ zs (m - a.length) = b ++ zs (m - b.length) := by
    refine val_inj (allD_app.2 ⟨ha, allD_zs _⟩) (allD_app.2 ⟨hb, allD_zs _⟩) (by rw [List.length_append, List.length_append, zs_len, zs_len]; omega) ?_
    rw [val_app, val_app, zs_len, zs_len, val_zs, val_zs, hv]
  rw [← trim_app_zs a (m - a.length), e, trim_app_zs]

/-! ### Zeros in front -/
def lead : Str → Str
  | [] => []
  | [c] => [c]
  | c :: d :: l => if c == 48 then lead (d :: l) else c :: d :: l
theorem lead_val : ∀ l, val (lead l) = val l
  | [] => rfl
  | [c] => rfl
  | c :: d :: l => by
    rw [lead]
    split
    · rename_i h
      rw [lead_val (d :: l), val_cons c]
      have : dg c = 0 := by rw [show c = 48 by simpa using h]; exact dg_48
      rw [this]; omega
    · rfl
theorem lead_allD : ∀ {l}, allD l → allD (lead l)
  | [], h => h
  | [c], h => h
  | c :: d :: l, h => by
    rw [lead]
    split
    · exact lead_allD (allD_cons.1 h).2
    · exact h
theorem lead_len : ∀ l, (lead l).length ≤ l.length
  | [] => Nat.le_refl _
  | [c] => Nat.le_refl _
  | c :: d :: l => by
    rw [lead]
    split
    · have := lead_len (d :: l)
      rw [List.length_cons (a := c)]
      omega
    · exact Nat.le_refl _
theorem lead_ne : ∀ {l : Str}, l ≠ [] → lead l ≠ []
  | [], h => absurd rfl h
  | [c], _ => by simp [lead]
  | c :: d :: l, _ => by
    rw [lead]
    split
    · exact lead_ne (by simp)
    · simp
/-- No needless zero in front. -/
def slim (l : Str) : Prop := 1 < l.length → l.head? ≠ some 48
theorem lead_slim : ∀ l, slim (lead l)
  | [] => fun h => by simp [lead] at h
  | [c] => fun h => by simp [lead] at h
  | c :: d :: l => by
    rw [lead]
    split
    · exact lead_slim (d :: l)
    · rename_i h
      intro _ h2
      simp at h2
      exact h (by simpa using h2)
theorem lead_of_slim : ∀ {l}, slim l → lead l = l
  | [], _ => rfl
  | [c], _ => rfl
  | c :: d :: l, h => by
    rw [lead, if_neg]
    intro h2
    exact h (by simp) (by simpa using h2)
theorem slim_low {c : UInt8} {l : Str} (h : slim (c :: l)) (hd : allD (c :: l)) (hl : l ≠ []) : 10 ^ l.length ≤ val (c :: l) := by
  have h1 := h (by have := List.length_pos_iff.2 hl; simp; omega)
  rw [allD_cons] at hd
  rw [val_cons]
  have h2 := isD_iff.1 hd.1
  have h3 : 1 ≤ dg c := by
    unfold dg
    rcases Nat.lt_or_ge 48 c.toNat with h4 | h4
    · omega
    · exfalso
      apply h1
      have : c = 48 := u8_ext (by show c.toNat = 48; omega)
      rw [this]; rfl
  have := Nat.mul_le_mul_right (10 ^ l.length) h3
  omega
theorem slim_pow {l : Str} (h : slim l) (hd : allD l) {n : Nat} (hn : n + 1 < l.length) : 10 ^ (n + 1) ≤ val l := by
  cases l with
  | nil => simp at hn
  | cons c l =>
    rw [List.length_cons] at hn
    have := slim_low h hd (List.ne_nil_of_length_pos (by omega))
    exact Nat.le_trans (Nat.pow_le_pow_right (by omega) (by omega)) this
theorem slim_len_le {a b : Str} (ha : allD a) (hb : allD b) (sb : slim b) (na : a ≠ []) (hv : val a = val b) : b.length ≤ a.length := by
  rcases Nat.lt_or_ge a.length b.length with h | h
  · exfalso
    have hp := List.length_pos_iff.2 na
    cases b with
    | nil => simp at h
    | cons c b =>
      have h1 := slim_low sb hb (List.ne_nil_of_length_pos (by rw [List.length_cons] at h; omega))
      have h2 := val_lt ha
      rw [List.length_cons] at h
      have h3 : 10 ^ a.length ≤ 10 ^ b.length := Nat.pow_le_pow_right (by omega) (by omega)
      omega
  · exact h
theorem slim_inj {a b : Str} (ha : allD a) (hb : allD b) (sa : slim a) (sb : slim b) (na : a ≠ []) (nb : b ≠ []) (hv : val a = val b) : a = b := by
  have h1 := slim_len_le ha hb sb na hv
  have h2 := slim_len_le hb ha sa nb hv.symm
  exact val_inj ha hb (by omega) hv
theorem lead_inj {a b : Str} (ha : allD a) (hb : allD b) (na : a ≠ []) (nb : b ≠ []) (hv : val a = val b) : lead a = lead b :=
  slim_inj (lead_allD ha) (lead_allD hb) (lead_slim a) (lead_slim b) (lead_ne na) (lead_ne nb) (by rw [lead_val, lead_val, hv])

/-! ### Numbers -/
structure Num where
  neg : Bool
  wh : Str
  fr : Str
theorem num_ext {x y : Num} (h1 : x.neg = y.neg) (h2 : x.wh = y.wh) (h3 : x.fr = y.fr) : x = y := by
  cases x; cases y; simp_all
structure Good (x : Num) : Prop where
  dw : allD x.wh
  df : allD x.fr
  low : 1 ≤ x.wh.length
  high : x.wh.length ≤ 15
  lead : slim x.wh
  few : x.fr.length ≤ 6
  sign : x.neg = true → zero (x.wh ++ x.fr) = false
def txt (x : Num) : Str := (if x.neg = true then [45] else []) ++ (x.wh ++ (if x.fr = [] then [] else 46 :: x.fr))
/-- With so many digits at the end, rounded or shifted: a number, or too many digits. -/
def fin (neg : Bool) (w f : Str) : Option Str := if 15 < (lead w).length ∨ 6 < f.length then none else some (txt ⟨neg && !zero (lead w ++ f), lead w, f⟩)
/-- What has the digits of D, F of them behind the point. -/
def Res (neg : Bool) (D F : Nat) (o : Option Str) : Prop := ∃ w f, o = fin neg w f ∧ allD w ∧ allD f ∧ w ≠ [] ∧ f.length = F ∧ val (w ++ f) = D
theorem res_one {neg : Bool} {D F : Nat} {o o' : Option Str} (h : Res neg D F o) (h' : Res neg D F o') : o = o' := by
  obtain ⟨w, f, rfl, h1, h2, h3, h4, h5⟩ := h
  obtain ⟨w', f', rfl, k1, k2, k3, k4, k5⟩ := h'
  rw [val_app] at h5 k5
  have l1 := val_lt h2
  have l2 := val_lt k2
  rw [h4] at h5 l1
  rw [k4] at k5 l2
  have hp : 0 < 10 ^ F := Nat.pow_pos (by omega)
  have q1 : D / 10 ^ F = val w := by rw [← h5, Nat.mul_comm, Nat.mul_add_div hp, Nat.div_eq_of_lt l1]; omega
  have q2 : D / 10 ^ F = val w' := by rw [← k5, Nat.mul_comm, Nat.mul_add_div hp, Nat.div_eq_of_lt l2]; omega
  have e1 : lead w = lead w' := lead_inj h1 k1 h3 k3 (by omega)
  have e2 : f = f' := val_inj h2 k2 (by omega) (by rw [← q1] at h5; rw [← q2] at k5; omega)
  unfold fin
  rw [e1, e2]
end Go.Proofs.YteofkofgdhmpjaaDoor
