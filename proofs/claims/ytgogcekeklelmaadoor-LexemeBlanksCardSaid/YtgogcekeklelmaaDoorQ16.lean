/- What the row stands on, part 16. -/
import Derived.Laws.StructEq
import Derived.Test.YtgogcekeklelmaaDoorQ15

/- What the laws of layer 11 want of the program; awake. -/
namespace Go.Proofs.YtgogcekeklelmaaDoor
open Go.RowKit
set_option linter.unusedVariables false

/-- What Tokens hands out: tokens, offset, error. -/
def rT : (Nat × Nat) ⊕ List Tok → List Tok × Nat × Nat
  | .inl p => ([], p.1, p.2)
  | .inr ts => (ts, 0, 0)
def TokPP (T : List Tok × Nat × Nat) (w : World) (e : Ending) (w' : World) : Prop :=
  ∃ v, e = .returned (.tuple #[v, .int .i64 (T.2.1 : Int), .int .i64 (T.2.2 : Int)]) ∧ Rd 3 encTk w' v T.1 ∧ Below w.heap.size w w'
theorem TokP.pp {T : (Nat × Nat) ⊕ List Tok} {w w' : World} {e : Ending} (h : TokP T w e w') : TokPP (rT T) w e w' := by
  obtain ⟨h1, h2⟩ := h
  cases T with
  | inl p => exact ⟨_, h1, rd_nil _, h2⟩
  | inr ts =>
    obtain ⟨v, h3, h4⟩ := h1
    exact ⟨v, h3, h4, h2⟩
/-- The program's own functions, as the document has them. -/
structure LexC (EV : World → Prop) : Prop where
  later : ∀ {w w' : World}, EV w → Below w.heap.size w w' → EV w'
  tok : ∀ (s : ByteArray) (w : World), s.size ≤ 10000000 → EV w → Calls Tryd.prog 8 #[.string s] w (TokPP (rT (toks s.data.toList)) w)
  spell : ∀ (v : Value) (l : List TkZ) (w : World), Rd 3 encZ w v l → l.length ≤ 2000 → (∀ t ∈ l, t.tx.length ≤ 500) → EV w → Calls Tryd.prog 13 #[v] w fun e w' => e = .returned (.tuple #[.string (ofL (spellR l).1), .int .i64 ((spellR l).2 : Int)]) ∧ Below w.heap.size w w'
  isWord : ∀ (s : ByteArray) (w : World), s.size ≤ 10000000 → EV w → Calls Tryd.prog 30 #[.string s] w fun e w' => e = .returned (.bool (isWordB s.data.toList)) ∧ Below w.heap.size w w'
  isText : ∀ (s : ByteArray) (w : World), s.size ≤ 10000000 → EV w → Calls Tryd.prog 31 #[.string s] w fun e w' => e = .returned (.bool (isTextB s.data.toList)) ∧ Below w.heap.size w w'
def awS : ByteArray := ⟨#[108, 105, 115, 116, 32, 97, 110, 100, 32, 34, 97, 92, 34, 98, 34, 59, 32, 35, 32, 101, 110, 100]⟩
def awT : List Tok := [⟨1, [108, 105, 115, 116], 0⟩, ⟨1, [97, 110, 100], 5⟩, ⟨2, [97, 34, 98], 9⟩, ⟨3, [59], 15⟩]
theorem aw_toks : toks awS.data.toList = .inr awT := by kernel_rfl
theorem eqTk (a c : Int) (x : ByteArray) (w : World) : (Op.equalIn 10000 39 (.agg #[.int .i64 a, .string x, .int .i64 c]) (.agg #[.int .i64 a, .string x, .int .i64 c])).run Tryd.prog w = .ok true w := by
  rw [show (10000 : Nat) = 9999 + 1 from rfl, run_equalIn_struct _ 9999 _ _ _ (by kernel_rfl) (by kernel_rfl)]
  have u1 := Tryd.underlying3
  have u2 := Tryd.underlying9
  go_simp
theorem rd_cell {w : World} {a : Option Addr} {n c : Nat} {l : List TkZ} (h : Rd 3 encZ w (.slice a n c) l) (hl : l ≠ []) : ∃ b off, a = some ⟨b, off, none⟩ ∧ ∀ (i : Nat) (hi : i < l.length), w.cell? ⟨b, off + i * 3, none⟩ = some (.int .i64 (l[i]'hi).kd) ∧ w.cell? ⟨b, off + i * 3 + 1, none⟩ = some (.string (ofL (l[i]'hi).tx)) ∧ w.cell? ⟨b, off + i * 3 + 2, none⟩ = some (.int .i64 (l[i]'hi).at_) := by
  obtain ⟨b, off, rfl, _, _⟩ := h.tkZ 0 (List.length_pos_iff.2 hl)
  refine ⟨b, off, rfl, fun i hi => ?_⟩
  obtain ⟨b', off', e, _, h1, h2, h3⟩ := h.tkZ i hi
  cases e
  exact ⟨h1, h2, h3⟩
section
variable {EV : World → Prop} (C : LexC EV)
include C
set_option maxRecDepth 1000000 in
set_option maxHeartbeats 8000000 in
theorem awake11_any (w : World) (E : EV w) : Calls Tryd.prog 7 #[] w fun e w' => e = .returned (.bool true) ∧ Below w.heap.size w w' := by
  have HT := Lib.hid (C.tok awS w (by decide) E)
  rw [aw_toks, show rT (.inr awT) = (awT, 0, 0) from rfl] at HT
  clear E
  go_enter Tryd.func7, Tryd.ntmps7
  go_wp2_with fail
  refine HT.out.mono ?_
  rintro e w1 ⟨v, rfl, hr, hb⟩
  have HB := Lib.hid hb
  have hz := rdZ hr
  obtain ⟨a1, c1, rfl, q1, q2⟩ := hz.slice
  obtain ⟨b, off, rfl, hc⟩ := rd_cell hz (by decide)
  obtain ⟨p0, p1, p2⟩ := hc 2 (by decide)
  obtain ⟨p3, p4, p5⟩ := hc 3 (by decide)
  have x0 : w1.cell? ⟨b, off + 6, none⟩ = some (.int .i64 2) := p0
  have x1 : w1.cell? ⟨b, off + 6 + 1, none⟩ = some (.string ⟨#[97, 34, 98]⟩) := p1
  have x2 : w1.cell? ⟨b, off + 6 + 2, none⟩ = some (.int .i64 9) := p2
  have y0 : w1.cell? ⟨b, off + 9, none⟩ = some (.int .i64 3) := p3
  have hn : (awT.map Tok.z).length = 4 := rfl
  rw [hn]
  have e1 := eqTk 2 9 ⟨#[97, 34, 98]⟩
  clear hb hr hz hc q1 q2 hn HT p0 p1 p2 p3 p4 p5
  go_wp2
  go_ret
  exact ⟨rfl, HB.out⟩
end
end Go.Proofs.YtgogcekeklelmaaDoor


/- The laws LexemeTokens and LexemeSpell, given the program's functions. -/
namespace Go.Proofs.YtgogcekeklelmaaDoor
open Go.RowKit
set_option linter.unusedVariables false

theorem toksF_len : ∀ (f o : Nat) (s : List UInt8) (ts : List Tok), toksF f o s = .inr ts → ts.length ≤ s.length
  | 0, o, s, ts, h => by injection h with h; subst h; exact Nat.zero_le _
  | f + 1, o, s, ts, h => by
    rw [toksF] at h
    split at h
    · injection h with h; subst h; exact Nat.zero_le _
    · cases h1 : oneR (s.drop (skN false s)) with
      | bad d e => rw [h1] at h; cases h
      | tok kd tx n =>
        rw [h1] at h
        dsimp only at h
        have h2 := (oneR_ok h1).2
        have h3 : (s.drop (skN false s)).length = s.length - skN false s := List.length_drop
        have h4 : (s.drop (skN false s + n)).length = s.length - (skN false s + n) := List.length_drop
        cases h5 : toksF f (o + skN false s + n) (s.drop (skN false s + n)) with
        | inl e => rw [h5] at h; cases h
        | inr r =>
          rw [h5] at h
          injection h with h
          subst h
          have := toksF_len f _ _ r h5
          rw [List.length_cons]
          omega
theorem oneR_err {c : UInt8} {l : List UInt8} {d e : Nat} (h : oneR (c :: l) = .bad d e) : 0 < e := by
  rw [oneR_cons] at h
  split at h
  · injection h with e1 e2; omega
  · split at h
    · cases h
    · split at h
      · exact quoR_err h
      · split at h
        · cases h
        · injection h with e1 e2; omega
theorem toksF_err : ∀ (f o : Nat) (s : List UInt8) (p : Nat × Nat), toksF f o s = .inl p → 0 < p.2
  | 0, o, s, p, h => by cases h
  | f + 1, o, s, p, h => by
    rw [toksF] at h
    split at h
    · cases h
    · rename_i hne
      cases h1 : oneR (s.drop (skN false s)) with
      | bad d e =>
        rw [h1] at h
        injection h with h
        subst h
        cases hr : s.drop (skN false s) with
        | nil => exact absurd hr hne
        | cons c l => rw [hr] at h1; exact oneR_err h1
      | tok kd tx n =>
        rw [h1] at h
        dsimp only at h
        cases h5 : toksF f (o + skN false s + n) (s.drop (skN false s + n)) with
        | inl q => rw [h5] at h; injection h with h; subst h; exact toksF_err f _ _ _ h5
        | inr r => rw [h5] at h; cases h
theorem rT_len (s : List UInt8) : (rT (toks s)).1.length ≤ s.length := by
  cases h : toks s with
  | inl p => exact Nat.zero_le _
  | inr ts => exact toksF_len _ _ _ _ h
theorem sameZ_refl (p : Bool) : ∀ l : List TkZ, sameZ p l l = true
  | [] => rfl
  | x :: l => by
    rw [sameZ, sameZ_refl p l, Bool.and_true]
    unfold tkq
    simp
theorem few_iff {l : List TkZ} (h : fewB l = true) : l.length ≤ 60 ∧ ∀ t ∈ l, t.tx.length ≤ 500 := by
  unfold fewB at h
  rw [Bool.and_eq_true, List.all_eq_true] at h
  exact ⟨of_decide_eq_true h.2, fun t ht => of_decide_eq_true (h.1 t ht)⟩
section
variable {EV : World → Prop} (C : LexC EV)
include C
set_option maxRecDepth 1000000 in
set_option maxHeartbeats 8000000 in
theorem lexemeTokens_law (s : ByteArray) (h1 : s.size ≤ maxLen) (w : World) (E : EV w) : Calls Tryd.prog 3 #[.string s] w fun e w' => e = .returned (.bool true) ∧ Below w.heap.size w w' := by
  have hs : (s.size : Int) ≤ 9223372036854775807 := by unfold maxLen at h1; omega
  have HA := Lib.hid (fun w E => awake11_any C w E)
  have HCT := Lib.hid (fun (h : s.size ≤ 10000000) w E => C.tok s w h E)
  have HRT := Lib.hid (fun (h : s.size ≤ 10000000) w => (tokens_any s h w).mono (fun e w' h => TokP.pp h))
  have HTL := Lib.hid (rT_len s.data.toList)
  rw [len_data] at HTL
  obtain ⟨T, hT⟩ : ∃ T, rT (toks s.data.toList) = T := ⟨_, rfl⟩
  rw [hT] at HCT HRT HTL
  have HE := Lib.hid E
  clear h1 hT E
  go_enter Tryd.func3, Tryd.ntmps3
  go_wp2_with fail
  refine (HA.out _ HE.out).mono ?_
  rintro e w1 ⟨rfl, b1⟩
  have HE1 := Lib.hid (C.later HE.out b1)
  have HB1 := Lib.hid b1
  clear b1
  by_cases h2 : s.size ≤ 2000
  case neg =>
    have z1 : decide ((2000 : Int) < (s.size : Int)) = true := decide_eq_true (by omega)
    clear h2
    go_wp2_with fail
    refine (HA.out _ HE1.out).mono ?_
    rintro e w2 ⟨rfl, b2⟩
    have HB2 := Lib.hid (st HB1.out b2 HB1.out.size)
    clear b2
    go_wp2
    go_ret
    exact ⟨rfl, HB2.out⟩
  have z1 : decide ((2000 : Int) < (s.size : Int)) = false := decide_eq_false (by omega)
  have HC2 := Lib.hid (fun w E => HCT.out (by omega) w E)
  have HR2 := Lib.hid (fun w => HRT.out (by omega) w)
  have hl : T.1.length ≤ 10000000 := by have := HTL.out; omega
  have HLL : Hid ((T.1.map Tok.z).length ≤ 10000000) := Lib.hid (by rw [List.length_map]; exact hl)
  clear h2 HCT HRT HTL hl
  obtain ⟨ts, i, er⟩ := T
  go_wp2_with fail
  refine (HC2.out _ HE1.out).mono ?_
  rintro e w2 ⟨v, rfl, hv, b2⟩
  have HB2 := Lib.hid (st HB1.out b2 HB1.out.size)
  have HV := Lib.hid hv
  clear b2 hv
  dsimp only
  go_wp2_with fail
  refine (HR2.out _).mono ?_
  rintro e w3 ⟨u, rfl, hu, b3⟩
  have HB3 := Lib.hid (st HB2.out b3 HB2.out.size)
  have HV3 := Lib.hid (rdZ (HV.out.below b3))
  have HU := Lib.hid (rdZ hu)
  clear b3 hu HV
  dsimp only
  go_wp2_with fail
  refine (from_any _ _ _ HV3.out HLL.out).mono ?_
  rintro e w4 ⟨x, rfl, hx, b4⟩
  have HB4 := Lib.hid (st HB3.out b4 HB3.out.size)
  have HU4 := Lib.hid (HU.out.below b4)
  have HX := Lib.hid (hx.rd encZ_len)
  clear b4 hx
  go_wp2_with fail
  refine (same_any true _ _ _ _ _ HX.out HU4.out).mono ?_
  rintro e w5 ⟨rfl, b5⟩
  have HB5 := Lib.hid (st HB4.out b5 HB4.out.size)
  clear b5
  rw [sameZ_refl]
  go_wp2
  go_ret
  exact ⟨rfl, HB5.out⟩
end
end Go.Proofs.YtgogcekeklelmaaDoor


/- The law LexemePlaces, given the program's functions. -/
namespace Go.Proofs.YtgogcekeklelmaaDoor
open Go.RowKit
set_option linter.unusedVariables false

theorem wrap_fit0 {x : Int} (h0 : -9223372036854775808 ≤ x) (h1 : x ≤ 9223372036854775807) : IntKind.i64.wrap x = x := by
  rw [IntKind.wrap_i64]; omega
theorem pair_lt {ts : List Tok} (h : ts.Pairwise (fun a b => a.at_ < b.at_)) {j : Nat} (hj : j + 1 < ts.length) : (ts[j]'(by omega)).at_ < (ts[j + 1]'hj).at_ :=
  List.pairwise_iff_getElem.1 h j (j + 1) (by omega) hj (by omega)
theorem pl_byte {s : ByteArray} {t : Tok} (h : PlOk 0 s.data.toList t) : ∃ ha : t.at_ < s.size, (t.kd = 2 ∧ (s[t.at_]'ha).toNat = 34) ∨ (t.kd ≠ 2 ∧ ∃ hx : 0 < (ofL t.tx).size, ((ofL t.tx)[0]'hx).toNat = (s[t.at_]'ha).toNat) := by
  have hhi := h.hi
  rw [Nat.zero_add, len_data] at hhi
  refine ⟨hhi, ?_⟩
  obtain ⟨c, hc, hk⟩ := h.ch
  rw [Nat.sub_zero] at hc
  have hc2 : s[t.at_]'hhi = c := by
    have h2 : t.at_ < s.data.toList.length := by rw [len_data]; exact hhi
    rw [List.getElem?_eq_getElem h2] at hc
    exact Option.some.inj hc
  rcases hk with ⟨h1, h2⟩ | ⟨h1, h2⟩
  · exact .inl ⟨h1, by rw [hc2]; exact h2⟩
  · refine .inr ⟨h1, ?_⟩
    cases htx : t.tx with
    | nil => rw [htx] at h2; cases h2
    | cons x l =>
      rw [htx] at h2
      injection h2 with h2
      subst h2
      refine ⟨by rw [ofL_size]; simp, ?_⟩
      rw [hc2]
      rfl
section
variable {EV : World → Prop} (C : LexC EV)
include C
set_option maxRecDepth 1000000 in
set_option maxHeartbeats 16000000 in
theorem lexemePlaces_law (s : ByteArray) (h1 : s.size ≤ maxLen) (w : World) (E : EV w) : Calls Tryd.prog 5 #[.string s] w fun e w' => e = .returned (.bool true) ∧ Below w.heap.size w w' := by
  have hs : (s.size : Int) ≤ 9223372036854775807 := by unfold maxLen at h1; omega
  have HA := Lib.hid (fun w E => awake11_any C w E)
  have HCT := Lib.hid (fun (h : s.size ≤ 10000000) w E => C.tok s w h E)
  have HAT := Lib.hid (toksF_at (s.data.toList.length + 1) 0 s.data.toList)
  have HER := Lib.hid (fun p h => toksF_err (s.data.toList.length + 1) 0 s.data.toList p h)
  have HTL := Lib.hid (rT_len s.data.toList)
  rw [len_data] at HTL
  have hto : toksF (s.data.toList.length + 1) 0 s.data.toList = toks s.data.toList := rfl
  rw [hto] at HAT HER
  have HE := Lib.hid E
  clear h1 E hto
  go_enter Tryd.func5, Tryd.ntmps5
  go_wp2_with fail
  refine (HA.out _ HE.out).mono ?_
  rintro e w1 ⟨rfl, b1⟩
  have HE1 := Lib.hid (C.later HE.out b1)
  have HB1 := Lib.hid b1
  clear b1
  by_cases h2 : s.size ≤ 2000
  case neg =>
    have z1 : decide ((2000 : Int) < (s.size : Int)) = true := decide_eq_true (by omega)
    clear h2
    go_wp2_with fail
    refine (HA.out _ HE1.out).mono ?_
    rintro e w2 ⟨rfl, b2⟩
    have HB2 := Lib.hid (st HB1.out b2 HB1.out.size)
    clear b2
    go_wp2
    go_ret
    exact ⟨rfl, HB2.out⟩
  have z1 : decide ((2000 : Int) < (s.size : Int)) = false := decide_eq_false (by omega)
  have hsz : (s.size : Int) ≤ 2000 := by omega
  have HC2 := Lib.hid (fun w E => HCT.out (by omega) w E)
  have HTB : Hid ((rT (toks s.data.toList)).1.length ≤ 2000) := Lib.hid (by have := HTL.out; omega)
  clear h2 HCT HTL
  obtain ⟨T, hT⟩ : ∃ T, toks s.data.toList = T := ⟨_, rfl⟩
  rw [hT] at HC2 HAT HER HTB
  clear hT
  cases T with
  | inl p =>
    obtain ⟨pa, pe⟩ := p
    have hpe : 0 < pe := HER.out _ rfl
    have hpa := (HAT.out.2 _ rfl).2
    rw [Nat.zero_add, len_data] at hpa
    dsimp only at hpa
    have z2 : ((pe : Int) != 0) = true := by rw [bne_iff_ne]; omega
    have z3 : (pa : Int) < (s.size : Int) := by omega
    have z4 : (0 : Int) ≤ (pa : Int) := by omega
    clear hpe hpa
    go_wp2_with fail
    refine (HC2.out _ HE1.out).mono ?_
    rintro e w2 ⟨v, rfl, hv, b2⟩
    have HB2 := Lib.hid (st HB1.out b2 HB1.out.size)
    obtain ⟨a1, c1, rfl, q1, q2⟩ := (rdZ hv).slice
    clear b2 hv q1 q2
    rw [show ((rT (.inl (pa, pe))).1.map Tok.z).length = 0 from rfl, show (rT (.inl (pa, pe))).2.1 = pa from rfl, show (rT (.inl (pa, pe))).2.2 = pe from rfl]
    go_wp2
    go_ret
    exact ⟨rfl, HB2.out⟩
  | inr ts =>
    go_wp2_with fail
    refine (HC2.out _ HE1.out).mono ?_
    rintro e w2 ⟨v, rfl, hv, b2⟩
    have HB2 := Lib.hid (st HB1.out b2 HB1.out.size)
    have hz := rdZ hv
    obtain ⟨a1, c1, rfl, q1, q2⟩ := hz.slice
    have HZ := Lib.hid hz
    have HTN := HTB.out
    clear b2 hv q1 q2 hz HTB
    rw [show (rT (.inr ts)).1 = ts from rfl, List.length_map] at HZ
    rw [show (rT (.inr ts)).1 = ts from rfl] at HTN
    rw [show (rT (.inr ts)).1 = ts from rfl, List.length_map, show (rT (.inr ts)).2.1 = 0 from rfl, show (rT (.inr ts)).2.2 = 0 from rfl]
    have htn : (ts.length : Int) ≤ 2000 := by omega
    have HPW := Lib.hid (HAT.out.1 _ rfl).1
    have HPL := Lib.hid (HAT.out.1 _ rfl).2
    clear HAT HER HTN HC2
    go_wp2
    go_loopw [39] (fun v39 wr => ∃ k : Nat, k ≤ ts.length ∧ v39 = .int .i64 k ∧ Below w2.heap.size w2 wr) (fun v39 _ => ts.length - (intOf v39).toNat)
    case atStart => exact ⟨0, Nat.zero_le _, rfl, Below.refl _ _⟩
    case round =>
      obtain ⟨k, hk, rfl, hb⟩ := hrel
      have HBW := Lib.hid hb
      clear hb
      by_cases hlt : k < ts.length
      · obtain ⟨b1, o1, rfl, hc⟩ := rd_cell (HZ.out.below HBW.out) (by intro e; have := congrArg List.length e; rw [List.length_map, List.length_nil] at this; omega)
        have hlm : k < (ts.map Tok.z).length := by rw [List.length_map]; exact hlt
        obtain ⟨p0, p1, p2⟩ := hc k hlm
        have h9 : (k : Int) < (ts.length : Int) := by omega
        have h4 : (0 : Int) ≤ (k : Int) := by omega
        have hpl := HPL.out _ (List.getElem_mem hlt)
        have HPR0 := Lib.hid (fun j (hj : k = j + 1) => (show (ts[j]'(by omega)).at_ < (ts[k]'hlt).at_ by subst hj; exact pair_lt HPW.out hlt))
        rw [List.getElem_map] at p0 p1 p2
        obtain ⟨t, ht⟩ : ∃ t, ts[k]'hlt = t := ⟨_, rfl⟩
        rw [ht] at p0 p1 p2 hpl HPR0
        obtain ⟨ha, hkind⟩ := pl_byte hpl
        obtain ⟨kd, tx, ta⟩ := t
        dsimp only at ha hkind HPR0
        have x0 : wr.cell? ⟨b1, o1 + k * 3, none⟩ = some (.int .i64 (kd : Int)) := p0
        have x1 : wr.cell? ⟨b1, o1 + k * 3 + 1, none⟩ = some (.string (ofL tx)) := p1
        have x2 : wr.cell? ⟨b1, o1 + k * 3 + 2, none⟩ = some (.int .i64 (ta : Int)) := p2
        obtain ⟨X, hX⟩ : ∃ X, ofL tx = X := ⟨_, rfl⟩
        rw [hX] at x1 hkind
        have HB3 : Hid (Below w2.heap.size w2 (wr.alloc (.cells #[.int .i64 kd, .string X, .int .i64 ta] 39))) := Lib.hid (HBW.out.alloc HBW.out.size _)
        have HPR : Hid (∀ j, k = j + 1 → ∃ pa : Nat, (wr.alloc (.cells #[.int .i64 kd, .string X, .int .i64 ta] 39)).cell? ⟨b1, o1 + j * 3 + 2, none⟩ = some (.int .i64 (pa : Int)) ∧ pa < ta) := Lib.hid (fun j hj => by
          have := (HZ.out.below HB3.out).at_ j (by rw [List.length_map]; omega) 2 _ rfl
          rw [List.getElem_map] at this
          exact ⟨_, this, HPR0.out j hj⟩)
        clear HPR0
        have t1 : decide ((ta : Int) < 0) = false := decide_eq_false (by omega)
        have t2 : decide ((s.size : Int) ≤ (ta : Int)) = false := decide_eq_false (by omega)
        have t2' : decide (s.size ≤ ta) = false := decide_eq_false (by omega)
        have z9 : (ta : Int) < (s.size : Int) := by omega
        have z8 : (0 : Int) ≤ (ta : Int) := by omega
        clear hc ht hX hpl hlm p0 p1 p2
        have hk0 : (k = 0) ∨ (∃ j, k = j + 1) := by cases k with | zero => exact .inl rfl | succ j => exact .inr ⟨j, rfl⟩
        rcases hk0 with h0 | ⟨j, hj⟩
        · have t3 : decide ((0 : Int) < (k : Int)) = false := decide_eq_false (by omega)
          have t3' : decide (0 < k) = false := decide_eq_false (by omega)
          clear h0 HPR
          rcases hkind with ⟨hk2, hb34⟩ | ⟨hk2, hx, hbb⟩
          · have t5 : ((((s[ta]'ha).toNat : Nat) : Int) != 34) = false := by rw [bne_eq_false_iff_eq]; omega
            subst hk2
            (try rw [show ((2 : Nat) : Int) = 2 from rfl] at y2)
            clear hb34
            go_wp2_with fail
            go_quiet (fail)
            revert nq
            intro nq1
            go_wp2_with fail
            go_quiet (fail)
            go_wp2
            go_roundw
            case measure => simp [intOf]; omega
            case rel => exact ⟨k + 1, by omega, by go_num, below_drewN HB3.out _⟩
          · have t6 : ((kd : Int) == 2) = false := by rw [beq_eq_false_iff_ne]; omega
            have t6' : ((kd : Int) != 2) = true := by rw [bne_iff_ne]; omega
            have t7 : ((X.size : Int) == 0) = false := by rw [beq_eq_false_iff_ne]; omega
            have t7' : (X.size == 0) = false := by rw [beq_eq_false_iff_ne]; omega
            have t8 : ((((s[ta]'ha).toNat : Nat) : Int) != (((X[0]'hx).toNat : Nat) : Int)) = false := by rw [bne_eq_false_iff_eq]; omega
            have t9 : (0 : Int) < (X.size : Int) := by omega
            clear hk2 hbb
            go_wp2_with fail
            go_quiet (fail)
            revert nq
            intro nq1
            go_wp2_with fail
            go_quiet (fail)
            go_wp2
            go_roundw
            case measure => simp [intOf]; omega
            case rel => exact ⟨k + 1, by omega, by go_num, below_drewN HB3.out _⟩
        · have t3 : decide ((0 : Int) < (k : Int)) = true := decide_eq_true (by omega)
          have t3' : decide (0 < k) = true := decide_eq_true (by omega)
          obtain ⟨pa, y2, hpa⟩ := HPR.out j hj
          have t4 : decide ((ta : Int) ≤ (pa : Int)) = false := decide_eq_false (by omega)
          have t4' : decide (ta ≤ pa) = false := decide_eq_false (by omega)
          have q1 : IntKind.i64.wrap ((k : Int) - 1) = (j : Int) := by rw [wrap_fit0 (by omega) (by omega)]; omega
          have h9j : (j : Int) < (ts.length : Int) := by omega
          have h4j : (0 : Int) ≤ (j : Int) := by omega
          clear hj HPR hpa
          rcases hkind with ⟨hk2, hb34⟩ | ⟨hk2, hx, hbb⟩
          · have t5 : ((((s[ta]'ha).toNat : Nat) : Int) != 34) = false := by rw [bne_eq_false_iff_eq]; omega
            subst hk2
            (try rw [show ((2 : Nat) : Int) = 2 from rfl] at y2)
            clear hb34
            go_wp2_with fail
            go_quiet (fail)
            revert nq
            intro nq1
            go_wp2_with fail
            go_quiet (fail)
            go_wp2
            go_roundw
            case measure => simp [intOf]; omega
            case rel => exact ⟨k + 1, by omega, by go_num, below_drewN HB3.out _⟩
          · have t6 : ((kd : Int) == 2) = false := by rw [beq_eq_false_iff_ne]; omega
            have t6' : ((kd : Int) != 2) = true := by rw [bne_iff_ne]; omega
            have t7 : ((X.size : Int) == 0) = false := by rw [beq_eq_false_iff_ne]; omega
            have t7' : (X.size == 0) = false := by rw [beq_eq_false_iff_ne]; omega
            have t8 : ((((s[ta]'ha).toNat : Nat) : Int) != (((X[0]'hx).toNat : Nat) : Int)) = false := by rw [bne_eq_false_iff_eq]; omega
            have t9 : (0 : Int) < (X.size : Int) := by omega
            clear hk2 hbb
            go_wp2_with fail
            go_quiet (fail)
            revert nq
            intro nq1
            go_wp2_with fail
            go_quiet (fail)
            go_wp2
            go_roundw
            case measure => simp [intOf]; omega
            case rel => exact ⟨k + 1, by omega, by go_num, below_drewN HB3.out _⟩
      · obtain rfl : k = ts.length := by omega
        have h3 : ¬ (ts.length : Int) < (ts.length : Int) := by omega
        go_wp2
        go_ret
        exact ⟨rfl, st HB2.out HBW.out HB2.out.size⟩
end
end Go.Proofs.YtgogcekeklelmaaDoor


/- The law LexemeInverse, given the program's functions. -/
namespace Go.Proofs.YtgogcekeklelmaaDoor
open Go.RowKit
set_option linter.unusedVariables false

theorem word_ok {tx : List UInt8} : isWordB tx = true ↔ (0 < tx.length ∧ tx.length ≤ 40 ∧ wordN tx = tx.length) := by
  unfold isWordB
  simp only [Bool.and_eq_true, decide_eq_true_eq]
  constructor
  · rintro ⟨⟨h1, h2⟩, h3⟩
    exact ⟨List.length_pos_iff.2 h1, h3, h2⟩
  · rintro ⟨h1, h2, h3⟩
    exact ⟨⟨List.length_pos_iff.1 h1, h3⟩, h2⟩
theorem okZ_ok {t : TkZ} (h : okZ t = true) : OkTok t.kd.toNat t.tx ∧ 0 ≤ t.kd := by
  unfold okZ at h
  split at h
  · rename_i h1
    rw [h1]
    exact ⟨.inl ⟨rfl, word_ok.1 h⟩, by decide⟩
  · split at h
    · rename_i h1
      rw [h1]
      refine ⟨.inr (.inr ⟨rfl, ?_⟩), by decide⟩
      unfold isMk1 at h
      split at h
      · rename_i c heq
        exact ⟨c, heq, h⟩
      · cases h
    · split at h
      · rename_i h1
        rw [h1]
        refine ⟨.inr (.inl ⟨rfl, ?_⟩), by decide⟩
        unfold isTextB at h
        rw [Bool.and_eq_true] at h
        exact ⟨of_decide_eq_true h.1, h.2⟩
      · cases h
theorem ok_okZ {t : Tok} (h : OkTok t.kd t.tx) : okZ t.z = true := by
  obtain ⟨kd, tx, ta⟩ := t
  unfold okZ Tok.z
  dsimp only at h ⊢
  rcases h with ⟨rfl, h1⟩ | ⟨rfl, h1, h2⟩ | ⟨rfl, c, rfl, h1⟩
  · rw [if_pos (by decide)]; exact word_ok.2 h1
  · rw [if_neg (by decide), if_neg (by decide), if_pos (by decide)]
    unfold isTextB
    rw [decide_eq_true h1, h2]
    rfl
  · rw [if_neg (by decide), if_pos (by decide)]
    exact h1
def ktT (t : Tok) : KT := (t.kd, t.tx)
theorem same_kt : ∀ (ts : List Tok) (l : List TkZ), ts.map ktT = l.map ktZ → (∀ t ∈ l, 0 ≤ t.kd) → sameZ false (ts.map Tok.z) l = true
  | [], [], _, _ => rfl
  | [], y :: r, h, _ => by cases h
  | x :: l, [], h, _ => by cases h
  | x :: l, y :: r, h, hk => by
    rw [List.map_cons, List.map_cons] at h
    injection h with h1 h2
    have h3 := hk y (by simp)
    rw [List.map_cons, sameZ, same_kt l r h2 (fun t ht => hk t (by simp [ht])), Bool.and_true]
    unfold ktT ktZ at h1
    injection h1 with h4 h5
    unfold tkq Tok.z
    rw [decide_eq_true (show ((x.kd : Nat) : Int) = y.kd by omega), decide_eq_true h5]
    rfl
theorem toks_line {l : List KT} (h : ∀ t ∈ l, OkTok t.1 t.2) : ∃ ts, toks (lineS l) = .inr ts ∧ ts.map ktT = l := by
  have h1 := fgt_toks (lineS l)
  rw [gt_lineS h] at h1
  cases h2 : toks (lineS l) with
  | inl p => rw [h2] at h1; cases h1
  | inr ts =>
    rw [h2] at h1
    exact ⟨ts, rfl, Sum.inr.inj h1⟩
theorem spell_line {l : List TkZ} (h : l.all okZ = true) : ∃ ts, spellR l = (lineS (l.map ktZ), 0) ∧ toks (lineS (l.map ktZ)) = .inr ts ∧ sameZ false (ts.map Tok.z) l = true ∧ ts.length = l.length := by
  have h1 := List.all_eq_true.1 h
  obtain ⟨ts, h2, h3⟩ := toks_line (l := l.map ktZ) (fun t ht => by
    obtain ⟨z, hz, rfl⟩ := List.mem_map.1 ht
    exact (okZ_ok (h1 z hz)).1)
  refine ⟨ts, by unfold spellR; rw [if_pos h], h2, same_kt ts l h3 (fun t ht => (okZ_ok (h1 t ht)).2), ?_⟩
  have := congrArg List.length h3
  rw [List.length_map, List.length_map] at this
  exact this
theorem spell_none {l : List TkZ} (h : l.all okZ = false) : spellR l = ([], 1) := by unfold spellR; rw [if_neg (by rw [h]; decide)]
theorem toks_okT {s : List UInt8} {ts : List Tok} (h : toks s = .inr ts) : ∀ t ∈ ts, OkTok t.kd t.tx := by
  have h1 := fgt_toks s
  rw [h] at h1
  intro t ht
  exact gt_okF _ _ _ h1.symm (t.kd, t.tx) (List.mem_map.2 ⟨t, ht, rfl⟩)
theorem ok_short {k : Nat} {tx : List UInt8} (h : OkTok k tx) : tx.length ≤ 500 := by
  rcases h with ⟨_, _, h, _⟩ | ⟨_, h, _⟩ | ⟨_, c, rfl, _⟩
  · omega
  · omega
  · simp
theorem all_okT {s : List UInt8} {ts : List Tok} (h : toks s = .inr ts) : (ts.map Tok.z).all okZ = true := by
  rw [List.all_eq_true]
  intro z hz
  obtain ⟨t, ht, rfl⟩ := List.mem_map.1 hz
  exact ok_okZ (toks_okT h t ht)
theorem line_size {l : List TkZ} (h : ∀ t ∈ l, t.tx.length ≤ 500) {n : Nat} (hn : l.length ≤ n) : (ofL (lineS (l.map ktZ))).size ≤ 3003 * n := by
  rw [ofL_size]
  have := lineS_len (l.map ktZ) (fun t ht => by
    obtain ⟨z, hz, rfl⟩ := List.mem_map.1 ht
    exact h z hz)
  rw [List.length_map] at this
  exact Nat.le_trans this (Nat.mul_le_mul_left _ hn)
theorem same_sym : ∀ (l r : List TkZ), sameZ false l r = sameZ false r l
  | [], [] => rfl
  | [], y :: r => rfl
  | x :: l, [] => rfl
  | x :: l, y :: r => by
    rw [sameZ, sameZ, same_sym l r]
    congr 1
    unfold tkq
    rw [show decide (x.kd = y.kd) = decide (y.kd = x.kd) from decide_eq_decide.2 eq_comm, show decide (x.tx = y.tx) = decide (y.tx = x.tx) from decide_eq_decide.2 eq_comm]
    rfl
section
variable {EV : World → Prop} (C : LexC EV)
include C
set_option maxRecDepth 1000000 in
set_option maxHeartbeats 16000000 in
theorem lexemeInverse_law (v : Value) (l : List TkZ) (s : ByteArray) (w : World) (hv : Rd 3 encZ w v l) (h1 : s.size ≤ maxLen) (E : EV w) : Calls Tryd.prog 4 #[v, .string s] w fun e w' => e = .returned (.bool true) ∧ Below w.heap.size w w' := by
  have hs : (s.size : Int) ≤ 9223372036854775807 := by unfold maxLen at h1; omega
  have HA := Lib.hid (fun w E => awake11_any C w E)
  have HE := Lib.hid E
  have HV := Lib.hid hv
  clear h1 E hv
  go_enter Tryd.func4, Tryd.ntmps4
  go_wp2_with fail
  refine (HA.out _ HE.out).mono ?_
  rintro e w1 ⟨rfl, b1⟩
  have HE1 := Lib.hid (C.later HE.out b1)
  have HB1 := Lib.hid b1
  have HV1 := Lib.hid (HV.out.below b1)
  clear b1 HV
  go_wp2_with fail
  refine (few_any _ _ _ HV1.out).mono ?_
  rintro e w1' ⟨rfl, hw⟩
  obtain rfl := hw.symm
  clear hw
  obtain ⟨fb, hfb⟩ : ∃ b, fewB l = b := ⟨_, rfl⟩
  rw [hfb]
  have HFB := Lib.hid hfb
  clear hfb
  cases fb with
  | false =>
    go_wp2_with fail
    refine (HA.out _ HE1.out).mono ?_
    rintro e w2 ⟨rfl, b2⟩
    have HB2 := Lib.hid (st HB1.out b2 HB1.out.size)
    clear b2
    go_wp2
    go_ret
    exact ⟨rfl, HB2.out⟩
  | true =>
    by_cases h2 : s.size ≤ 2000
    case neg =>
      have z1 : decide ((2000 : Int) < (s.size : Int)) = true := decide_eq_true (by omega)
      clear h2
      go_wp2_with fail
      refine (HA.out _ HE1.out).mono ?_
      rintro e w2 ⟨rfl, b2⟩
      have HB2 := Lib.hid (st HB1.out b2 HB1.out.size)
      clear b2
      go_wp2
      go_ret
      exact ⟨rfl, HB2.out⟩
    have z1 : decide ((2000 : Int) < (s.size : Int)) = false := decide_eq_false (by omega)
    have HFEW := Lib.hid (few_iff HFB.out)
    have HSZ := Lib.hid h2
    have HTL := Lib.hid (rT_len s.data.toList)
    rw [len_data] at HTL
    have HTK := Lib.hid (fun w E => C.tok s w (by have := HSZ.out; omega) E)
    have HER := Lib.hid (fun p h => toksF_err (s.data.toList.length + 1) 0 s.data.toList p h)
    rw [show toksF (s.data.toList.length + 1) 0 s.data.toList = toks s.data.toList from rfl] at HER
    have HAO := Lib.hid (fun ts h => @all_okT s.data.toList ts h)
    have HOT := Lib.hid (fun ts h => @toks_okT s.data.toList ts h)
    obtain ⟨T, hT⟩ : ∃ T, toks s.data.toList = T := ⟨_, rfl⟩
    rw [hT] at HTL HTK HER HAO HOT
    clear h2 hT
    go_wp2_with fail
    refine (to_any _ _ _ HV1.out (by have := HFEW.out.1; omega)).mono ?_
    rintro e w2 ⟨x, rfl, hx, b2⟩
    have HB2 := Lib.hid (st HB1.out b2 HB1.out.size)
    have HE2 := Lib.hid (C.later HE1.out b2)
    have HV2 := Lib.hid (HV1.out.below b2)
    have HX := Lib.hid (hx.rd encZ_len)
    clear b2 hx HV1
    go_wp2_with fail
    refine (C.spell _ _ _ HX.out (by have := HFEW.out.1; omega) HFEW.out.2 HE2.out).mono ?_
    rintro e w3 ⟨rfl, b3⟩
    have HB3 := Lib.hid (st HB2.out b3 HB2.out.size)
    have HE3 := Lib.hid (C.later HE2.out b3)
    have HV3 := Lib.hid (HV2.out.below b3)
    clear b3 HX HV2
    obtain ⟨ab, hab⟩ : ∃ b, l.all okZ = b := ⟨_, rfl⟩
    cases ab with
    | false =>
      rw [spell_none hab]
      clear hab
      dsimp only
      cases T with
      | inl p =>
        obtain ⟨pa, pe⟩ := p
        have hpe : 0 < pe := HER.out _ rfl
        have z2 : ((pe : Int) != 0) = true := by rw [bne_iff_ne]; omega
        clear hpe
        go_wp2_with fail
        refine (HTK.out _ HE3.out).mono ?_
        rintro e wa ⟨a, rfl, ha, ba⟩
        have HBA := Lib.hid (st HB3.out ba HB3.out.size)
        obtain ⟨a1, c1, rfl, q1, q2⟩ := (rdZ ha).slice
        clear ba ha q1 q2
        rw [show ((rT (.inl (pa, pe))).1.map Tok.z).length = 0 from rfl, show (rT (.inl (pa, pe))).2.1 = pa from rfl, show (rT (.inl (pa, pe))).2.2 = pe from rfl]
        go_wp2
        go_ret
        exact ⟨rfl, HBA.out⟩
      | inr ts =>
        obtain ⟨td, hsp2, htd, hsame2, hlen2⟩ := spell_line (HAO.out ts rfl)
        have HSM2 := Lib.hid hsame2
        have HSP2 := Lib.hid hsp2
        have hnt : (ts.map Tok.z).length ≤ 2000 := by rw [List.length_map]; have h3 : ts.length ≤ s.size := HTL.out; have := HSZ.out; omega
        have hsh : ∀ t ∈ ts.map Tok.z, t.tx.length ≤ 500 := fun z hz => by
          obtain ⟨t, ht, rfl⟩ := List.mem_map.1 hz
          exact ok_short (HOT.out ts rfl t ht)
        have HNT := Lib.hid hnt
        have HSH := Lib.hid hsh
        have HTK2 := Lib.hid (fun w E => C.tok (ofL (lineS ((ts.map Tok.z).map ktZ))) w (Nat.le_trans (line_size hsh hnt) (by omega)) E)
        rw [show (ofL (lineS ((ts.map Tok.z).map ktZ))).data.toList = lineS ((ts.map Tok.z).map ktZ) from rfl, htd, show rT (.inr td) = (td, 0, 0) from rfl] at HTK2
        have HLD : Hid ((td.map Tok.z).length ≤ 10000000) := Lib.hid (by rw [List.length_map, hlen2]; omega)
        clear hsp2 htd hsame2 hlen2 hnt hsh
        rw [show rT (.inr ts) = (ts, 0, 0) from rfl] at HTK
        go_wp2_with fail
        refine (HTK.out _ HE3.out).mono ?_
        rintro e wa ⟨a, rfl, ha, ba⟩
        have HBA := Lib.hid (st HB3.out ba HB3.out.size)
        have HEA := Lib.hid (C.later HE3.out ba)
        have HA1 := Lib.hid (rdZ ha)
        clear ba ha
        dsimp only at HA1 ⊢
        go_wp2_with fail
        refine (C.spell _ _ _ HA1.out HNT.out HSH.out HEA.out).mono ?_
        rintro e wb ⟨rfl, bb⟩
        have HBB := Lib.hid (st HBA.out bb HBA.out.size)
        have HEB := Lib.hid (C.later HEA.out bb)
        have HA2 := Lib.hid (HA1.out.below bb)
        clear bb HA1
        rw [HSP2.out]
        obtain ⟨LM, hLM⟩ : ∃ x, ofL (lineS ((ts.map Tok.z).map ktZ)) = x := ⟨_, rfl⟩
        rw [hLM] at HTK2
        dsimp only
        rw [hLM]
        clear hLM
        go_wp2_with fail
        refine (HTK2.out _ HEB.out).mono ?_
        rintro e wc ⟨b, rfl, hb, bc⟩
        have HBC := Lib.hid (st HBB.out bc HBB.out.size)
        have HA3 := Lib.hid (HA2.out.below bc)
        have HB1' := Lib.hid (rdZ hb)
        clear bc hb HA2
        dsimp only at HB1' ⊢
        go_wp2_with fail
        refine (from_any _ _ _ HA3.out (by have := HNT.out; omega)).mono ?_
        rintro e wd ⟨fa, rfl, hfa, bd⟩
        have HBD := Lib.hid (st HBC.out bd HBC.out.size)
        have HFA := Lib.hid (hfa.rd encZ_len)
        have HB2' := Lib.hid (HB1'.out.below bd)
        clear bd hfa HB1' HA3
        go_wp2_with fail
        refine (from_any _ _ _ HB2'.out HLD.out).mono ?_
        rintro e we ⟨fb, rfl, hfb, be⟩
        have HBE := Lib.hid (st HBD.out be HBD.out.size)
        have HFB' := Lib.hid (hfb.rd encZ_len)
        have HFA' := Lib.hid (HFA.out.below be)
        clear be hfb HFA HB2'
        go_wp2_with fail
        refine (same_any false _ _ _ _ _ HFA'.out HFB'.out).mono ?_
        rintro e wf ⟨rfl, bf⟩
        have HBF := Lib.hid (st HBE.out bf HBE.out.size)
        clear bf
        rw [same_sym, HSM2.out]
        go_wp2
        go_ret
        exact ⟨rfl, HBF.out⟩
    | true =>
      obtain ⟨tb, hsp, htb, hsame, hlen⟩ := spell_line hab
      rw [hsp]
      have HSAME := Lib.hid hsame
      have HTKL := Lib.hid (fun w E => C.tok (ofL (lineS (l.map ktZ))) w (Nat.le_trans (line_size HFEW.out.2 HFEW.out.1) (by omega)) E)
      rw [show (ofL (lineS (l.map ktZ))).data.toList = lineS (l.map ktZ) from rfl, htb, show rT (.inr tb) = (tb, 0, 0) from rfl] at HTKL
      have HLB : Hid ((tb.map Tok.z).length ≤ 10000000) := Lib.hid (by rw [List.length_map, hlen]; have := HFEW.out.1; omega)
      obtain ⟨LN, hLN⟩ : ∃ x, ofL (lineS (l.map ktZ)) = x := ⟨_, rfl⟩
      rw [hLN] at HTKL
      dsimp only
      rw [hLN]
      clear hab hsp htb hsame hlen hLN
      go_wp2_with fail
      refine (HTKL.out _ HE3.out).mono ?_
      rintro e w4 ⟨y, rfl, hy, b4⟩
      have HB4 := Lib.hid (st HB3.out b4 HB3.out.size)
      have HE4 := Lib.hid (C.later HE3.out b4)
      have HV4 := Lib.hid (HV3.out.below b4)
      have HY := Lib.hid (rdZ hy)
      clear b4 hy HV3
      dsimp only at HY ⊢
      go_wp2_with fail
      refine (from_any _ _ _ HY.out HLB.out).mono ?_
      rintro e w5 ⟨q, rfl, hq, b5⟩
      have HB5 := Lib.hid (st HB4.out b5 HB4.out.size)
      have HE5 := Lib.hid (C.later HE4.out b5)
      have HV5 := Lib.hid (HV4.out.below b5)
      have HQ := Lib.hid (hq.rd encZ_len)
      clear b5 hq HV4
      go_wp2_with fail
      refine (same_any false _ _ _ _ _ HQ.out HV5.out).mono ?_
      rintro e w6 ⟨rfl, b6⟩
      have HB6 := Lib.hid (st HB5.out b6 HB5.out.size)
      have HE6 := Lib.hid (C.later HE5.out b6)
      clear b6
      rw [HSAME.out]
      cases T with
      | inl p =>
        obtain ⟨pa, pe⟩ := p
        have hpe : 0 < pe := HER.out _ rfl
        have z2 : ((pe : Int) != 0) = true := by rw [bne_iff_ne]; omega
        clear hpe
        go_wp2_with fail
        refine (HTK.out _ HE6.out).mono ?_
        rintro e wa ⟨a, rfl, ha, ba⟩
        have HBA := Lib.hid (st HB6.out ba HB6.out.size)
        obtain ⟨a1, c1, rfl, q1, q2⟩ := (rdZ ha).slice
        clear ba ha q1 q2
        rw [show ((rT (.inl (pa, pe))).1.map Tok.z).length = 0 from rfl, show (rT (.inl (pa, pe))).2.1 = pa from rfl, show (rT (.inl (pa, pe))).2.2 = pe from rfl]
        go_wp2
        go_ret
        exact ⟨rfl, HBA.out⟩
      | inr ts =>
        obtain ⟨td, hsp2, htd, hsame2, hlen2⟩ := spell_line (HAO.out ts rfl)
        have HSM2 := Lib.hid hsame2
        have HSP2 := Lib.hid hsp2
        have hnt : (ts.map Tok.z).length ≤ 2000 := by rw [List.length_map]; have h3 : ts.length ≤ s.size := HTL.out; have := HSZ.out; omega
        have hsh : ∀ t ∈ ts.map Tok.z, t.tx.length ≤ 500 := fun z hz => by
          obtain ⟨t, ht, rfl⟩ := List.mem_map.1 hz
          exact ok_short (HOT.out ts rfl t ht)
        have HNT := Lib.hid hnt
        have HSH := Lib.hid hsh
        have HTK2 := Lib.hid (fun w E => C.tok (ofL (lineS ((ts.map Tok.z).map ktZ))) w (Nat.le_trans (line_size hsh hnt) (by omega)) E)
        rw [show (ofL (lineS ((ts.map Tok.z).map ktZ))).data.toList = lineS ((ts.map Tok.z).map ktZ) from rfl, htd, show rT (.inr td) = (td, 0, 0) from rfl] at HTK2
        have HLD : Hid ((td.map Tok.z).length ≤ 10000000) := Lib.hid (by rw [List.length_map, hlen2]; omega)
        clear hsp2 htd hsame2 hlen2 hnt hsh
        rw [show rT (.inr ts) = (ts, 0, 0) from rfl] at HTK
        go_wp2_with fail
        refine (HTK.out _ HE6.out).mono ?_
        rintro e wa ⟨a, rfl, ha, ba⟩
        have HBA := Lib.hid (st HB6.out ba HB6.out.size)
        have HEA := Lib.hid (C.later HE6.out ba)
        have HA1 := Lib.hid (rdZ ha)
        clear ba ha
        dsimp only at HA1 ⊢
        go_wp2_with fail
        refine (C.spell _ _ _ HA1.out HNT.out HSH.out HEA.out).mono ?_
        rintro e wb ⟨rfl, bb⟩
        have HBB := Lib.hid (st HBA.out bb HBA.out.size)
        have HEB := Lib.hid (C.later HEA.out bb)
        have HA2 := Lib.hid (HA1.out.below bb)
        clear bb HA1
        rw [HSP2.out]
        obtain ⟨LM, hLM⟩ : ∃ x, ofL (lineS ((ts.map Tok.z).map ktZ)) = x := ⟨_, rfl⟩
        rw [hLM] at HTK2
        dsimp only
        rw [hLM]
        clear hLM
        go_wp2_with fail
        refine (HTK2.out _ HEB.out).mono ?_
        rintro e wc ⟨b, rfl, hb, bc⟩
        have HBC := Lib.hid (st HBB.out bc HBB.out.size)
        have HA3 := Lib.hid (HA2.out.below bc)
        have HB1' := Lib.hid (rdZ hb)
        clear bc hb HA2
        dsimp only at HB1' ⊢
        go_wp2_with fail
        refine (from_any _ _ _ HA3.out (by have := HNT.out; omega)).mono ?_
        rintro e wd ⟨fa, rfl, hfa, bd⟩
        have HBD := Lib.hid (st HBC.out bd HBC.out.size)
        have HFA := Lib.hid (hfa.rd encZ_len)
        have HB2' := Lib.hid (HB1'.out.below bd)
        clear bd hfa HB1' HA3
        go_wp2_with fail
        refine (from_any _ _ _ HB2'.out HLD.out).mono ?_
        rintro e we ⟨fb, rfl, hfb, be⟩
        have HBE := Lib.hid (st HBD.out be HBD.out.size)
        have HFB' := Lib.hid (hfb.rd encZ_len)
        have HFA' := Lib.hid (HFA.out.below be)
        clear be hfb HFA HB2'
        go_wp2_with fail
        refine (same_any false _ _ _ _ _ HFA'.out HFB'.out).mono ?_
        rintro e wf ⟨rfl, bf⟩
        have HBF := Lib.hid (st HBE.out bf HBE.out.size)
        clear bf
        rw [same_sym, HSM2.out]
        go_wp2
        go_ret
        exact ⟨rfl, HBF.out⟩
end
end Go.Proofs.YtgogcekeklelmaaDoor


/- The law LexemeBlanks, given the program's functions, for strings whose lengths' sum is a length. -/
namespace Go.Proofs.YtgogcekeklelmaaDoor
open Go.RowKit
set_option linter.unusedVariables false

theorem wpList_unguard {P : Program} {w : World} {ops : Array Oper} {rest : List Oper} {o : Oper} {a : Act} {Q : Exit → Act → World → Prop} (hw : Region.wanted o (yielded ops a.tmps) = true)
    (h : wpList P ops Q ({ o with guard := none } :: rest) a w) : wpList P ops Q (o :: rest) a w := by
  unfold wpList at h ⊢
  rw [if_pos hw]
  rw [if_pos (show Region.wanted { o with guard := none } (yielded ops a.tmps) = true from rfl)] at h
  exact h
def gapT (l : List UInt8) : List UInt8 := l.flatMap fun c => gapS c.toNat
theorem gapT_gaps (l : List UInt8) : gapT l = (l.map fun c => c.toNat).flatMap gapS := by
  unfold gapT
  rw [List.flatMap_map]
theorem gapS_len (n : Nat) : (gapS n).length ≤ 8 := by
  unfold gapS
  split
  · decide
  · split
    · decide
    · split
      · decide
      · split
        · decide
        · split <;> decide
theorem gapT_len : ∀ l : List UInt8, (gapT l).length ≤ 8 * l.length
  | [] => Nat.zero_le _
  | c :: l => by
    have h1 := gapS_len c.toNat
    have h2 := gapT_len l
    have e : gapT (c :: l) = gapS c.toNat ++ gapT l := rfl
    rw [e, List.length_append, List.length_cons]
    omega
theorem gapT_snoc {l : List UInt8} {k : Nat} (h : k < l.length) : gapT (l.take (k + 1)) = gapT (l.take k) ++ gapS (l[k]'h).toNat := by
  unfold gapT
  rw [List.take_succ_eq_append_getElem h, List.flatMap_append]
  simp
/-- What the two strings' tokens say of the whole. -/
theorem gt_whole {a b : List UInt8} {l : List UInt8} {x : List KT} (h : gt a = .inr x) : gt (a ++ 10 :: gapT l ++ b) = cat x (gt b) := by
  have h1 := gt_app a.length a (gapT l ++ b) x (Nat.le_refl _) h
  rw [gapT_gaps, gt_gaps] at h1
  rw [← h1, gapT_gaps]
  congr 1
  simp
theorem gt_toks_inr {s : List UInt8} {ts : List Tok} (h : toks s = .inr ts) : gt s = .inr (ts.map ktT) := by
  rw [← fgt_toks, h]; rfl
theorem gt_toks_inl {s : List UInt8} {p : Nat × Nat} (h : toks s = .inl p) : gt s = .inl p.2 := by
  rw [← fgt_toks, h]; rfl
theorem toks_of_inl {s : List UInt8} {e : Nat} (h : gt s = .inl e) : ∃ p, toks s = .inl p ∧ p.2 = e := by
  rw [← fgt_toks] at h
  cases h1 : toks s with
  | inl p => rw [h1] at h; exact ⟨p, rfl, Sum.inl.inj h⟩
  | inr ts => rw [h1] at h; cases h
theorem toks_of_inr {s : List UInt8} {x : List KT} (h : gt s = .inr x) : ∃ ts, toks s = .inr ts ∧ ts.map ktT = x := by
  rw [← fgt_toks] at h
  cases h1 : toks s with
  | inl p => rw [h1] at h; cases h
  | inr ts => rw [h1] at h; exact ⟨ts, rfl, Sum.inr.inj h⟩
theorem rT_bad {a b l : List UInt8} {x : List Tok} {p : Nat × Nat} (h1 : toks a = .inr x) (h2 : toks b = .inl p) : (rT (toks (a ++ 10 :: gapT l ++ b))).2.2 = p.2 := by
  obtain ⟨q, h3, h4⟩ := toks_of_inl (show gt (a ++ 10 :: gapT l ++ b) = .inl p.2 by rw [gt_whole (gt_toks_inr h1), gt_toks_inl h2]; rfl)
  rw [h3]
  exact h4
theorem rT_good {a b l : List UInt8} {x y : List Tok} (h1 : toks a = .inr x) (h2 : toks b = .inr y) : ∃ z, rT (toks (a ++ 10 :: gapT l ++ b)) = (z, 0, 0) ∧ z.map ktT = x.map ktT ++ y.map ktT := by
  obtain ⟨z, h3, h4⟩ := toks_of_inr (show gt (a ++ 10 :: gapT l ++ b) = .inr (x.map ktT ++ y.map ktT) by rw [gt_whole (gt_toks_inr h1), gt_toks_inr h2]; rfl)
  exact ⟨z, by rw [h3]; rfl, h4⟩
theorem same_tok {x y z : List Tok} (h : z.map ktT = x.map ktT ++ y.map ktT) : sameZ false (x.map Tok.z ++ y.map Tok.z) (z.map Tok.z) = true := by
  rw [same_sym, ← List.map_append]
  refine same_kt z ((x ++ y).map Tok.z) ?_ (fun t ht => ?_)
  · rw [h, List.map_map, ← List.map_append]
    rfl
  · obtain ⟨u, _, rfl⟩ := List.mem_map.1 ht
    exact Int.natCast_nonneg _
def BlI (A : List UInt8) (l : List UInt8) (w : World) (v7 v39 : Value) (wr : World) : Prop := ∃ k : Nat, k ≤ l.length ∧ v39 = .int .i64 k ∧ v7 = .string (ofL (A ++ 10 :: gapT (l.take k))) ∧ Below w.heap.size w wr
section
variable {EV : World → Prop} (C : LexC EV)
include C
set_option maxRecDepth 1000000 in
set_option maxHeartbeats 16000000 in
theorem lexemeBlanks_some (a b : ByteArray) (v : Value) (l : List UInt8) (w : World) (hv : Rd 1 encB w v l) (h1 : a.size + b.size ≤ 9223372036854775807) (E : EV w) : Calls Tryd.prog 6 #[.string a, .string b, v] w fun e w' => e = .returned (.bool true) ∧ Below w.heap.size w w' := by
  obtain ⟨a1, c1, rfl, q1, q2⟩ := hv.slice
  have hsa : (a.size : Int) ≤ 9223372036854775807 := by omega
  have hsb : (b.size : Int) ≤ 9223372036854775807 := by omega
  have hab : (a.size : Int) + (b.size : Int) ≤ 9223372036854775807 := by omega
  have hlb : (l.length : Int) ≤ 9223372036854775807 := by omega
  have HA := Lib.hid (fun w E => awake11_any C w E)
  have HE := Lib.hid E
  have HV := Lib.hid hv
  clear h1 E hv q1 q2
  go_enter Tryd.func6, Tryd.ntmps6
  go_wp2_with fail
  refine (HA.out _ HE.out).mono ?_
  rintro e w1 ⟨rfl, b1⟩
  have HE1 := Lib.hid (C.later HE.out b1)
  have HB1 := Lib.hid b1
  have HV1 := Lib.hid (HV.out.below b1)
  clear b1 HV
  by_cases h2 : a.size + b.size ≤ 1500
  case neg =>
    have z1 : decide ((1500 : Int) < (a.size : Int) + (b.size : Int)) = true := decide_eq_true (by omega)
    clear h2
    go_wp2_with fail
    refine (HA.out _ HE1.out).mono ?_
    rintro e w2 ⟨rfl, b2⟩
    have HB2 := Lib.hid (st HB1.out b2 HB1.out.size)
    clear b2
    go_wp2
    go_ret
    exact ⟨rfl, HB2.out⟩
  have z1 : decide ((1500 : Int) < (a.size : Int) + (b.size : Int)) = false := decide_eq_false (by omega)
  by_cases h3 : l.length ≤ 40
  case neg =>
    have z2 : decide ((40 : Int) < (l.length : Int)) = true := decide_eq_true (by omega)
    clear h2 h3
    go_wp2_with fail
    refine (HA.out _ HE1.out).mono ?_
    rintro e w2 ⟨rfl, b2⟩
    have HB2 := Lib.hid (st HB1.out b2 HB1.out.size)
    clear b2
    go_wp2
    go_ret
    exact ⟨rfl, HB2.out⟩
  have z2 : decide ((40 : Int) < (l.length : Int)) = false := decide_eq_false (by omega)
  have HSZ := Lib.hid (And.intro h2 h3)
  have hA : a.size ≤ 1500 := by omega
  have hB : b.size ≤ 1500 := by omega
  have HS0 : Hid (a ++ (⟨#[10]⟩ : ByteArray) = ofL (a.data.toList ++ 10 :: gapT (l.take 0))) := Lib.hid (by
    rw [← of_data a]
    show ofL a.data.toList ++ ofL [10] = _
    rw [add_of, ofL_list]
    rfl)
  have HAS := Lib.hid (len_data a)
  clear h2 h3
  go_wp2
  go_loopw [7, 39] (fun v7 v39 wr => BlI a.data.toList l w1 v7 v39 wr) (fun _ v39 _ => l.length - (intOf v39).toNat)
  case atStart => exact ⟨0, Nat.zero_le _, rfl, by rw [HS0.out], Below.refl _ _⟩
  case round =>
    obtain ⟨k, hk, rfl, rfl, hb⟩ := hrel
    have HBW := Lib.hid hb
    have HSL : Hid ((ofL (a.data.toList ++ 10 :: gapT (l.take k))).size ≤ 2000) := Lib.hid (by
      rw [ofL_size, List.length_append, List.length_cons]
      have h1 := gapT_len (l.take k)
      have h2 := HAS.out
      rw [List.length_take] at h1
      have := HSZ.out.2
      omega)
    clear hb HS0
    by_cases hlt : k < l.length
    · obtain ⟨b1, o1, rfl, x0⟩ := (HV1.out.below HBW.out).byte k hlt
      have h9 : (k : Int) < (l.length : Int) := by omega
      have h4 : (0 : Int) ≤ (k : Int) := by omega
      have HSN := Lib.hid (gapT_snoc hlt)
      obtain ⟨n, hn⟩ : ∃ n, (l[k]'hlt).toNat = n := ⟨_, rfl⟩
      have hn2 : n < 256 := by rw [← hn]; exact byte_lt _
      rw [hn] at HSN x0
      obtain ⟨S, hS⟩ : ∃ S, a.data.toList ++ 10 :: gapT (l.take k) = S := ⟨_, rfl⟩
      have HNX : Hid (ofL S ++ ofL (gapS n) = ofL (a.data.toList ++ 10 :: gapT (l.take (k + 1)))) := Lib.hid (by rw [add_of, ← hS, HSN.out]; congr 1; simp)
      rw [hS] at HSL ⊢
      have hSL := HSL.out
      have HBX : Hid (∀ o, Below w1.heap.size w1 (wr.alloc o)) := Lib.hid (fun o => HBW.out.alloc HBW.out.size o)
      clear hn hS HSN HSL
      have hm : n % 6 = 0 ∨ n % 6 = 1 ∨ n % 6 = 2 ∨ n % 6 = 3 ∨ n % 6 = 4 ∨ n % 6 = 5 := by omega
      rcases hm with hm | hm | hm | hm | hm | hm
      · have HG : Hid (ofL S ++ (⟨#[32]⟩ : ByteArray) = ofL (a.data.toList ++ 10 :: gapT (l.take (k + 1)))) := Lib.hid (by
          rw [← HNX.out]
          congr 1
          unfold gapS
          simp [hm, ofL])
        have t1 : ((n : Nat) : Int).tmod 6 = 0 := by rw [Int.tmod_eq_emod_of_nonneg (by omega)]; omega
        have t2 : ((n : Nat) : Int) % 6 = 0 := by omega
        clear hm
        go_wp2
        go_roundw
        case measure => simp [intOf]; omega
        case rel => exact ⟨k + 1, by omega, by go_num, by rw [HG.out], HBX.out _⟩
      · have HG : Hid (ofL S ++ (⟨#[9]⟩ : ByteArray) = ofL (a.data.toList ++ 10 :: gapT (l.take (k + 1)))) := Lib.hid (by
          rw [← HNX.out]
          congr 1
          unfold gapS
          simp [hm, ofL])
        have t1 : ((n : Nat) : Int).tmod 6 = 1 := by rw [Int.tmod_eq_emod_of_nonneg (by omega)]; omega
        have t2 : ((n : Nat) : Int) % 6 = 1 := by omega
        clear hm
        go_wp2
        go_roundw
        case measure => simp [intOf]; omega
        case rel => exact ⟨k + 1, by omega, by go_num, by rw [HG.out], HBX.out _⟩
      · have HG : Hid (ofL S ++ (⟨#[13]⟩ : ByteArray) = ofL (a.data.toList ++ 10 :: gapT (l.take (k + 1)))) := Lib.hid (by
          rw [← HNX.out]
          congr 1
          unfold gapS
          simp [hm, ofL])
        have t1 : ((n : Nat) : Int).tmod 6 = 2 := by rw [Int.tmod_eq_emod_of_nonneg (by omega)]; omega
        have t2 : ((n : Nat) : Int) % 6 = 2 := by omega
        clear hm
        go_wp2
        go_roundw
        case measure => simp [intOf]; omega
        case rel => exact ⟨k + 1, by omega, by go_num, by rw [HG.out], HBX.out _⟩
      · have HG : Hid (ofL S ++ (⟨#[10]⟩ : ByteArray) = ofL (a.data.toList ++ 10 :: gapT (l.take (k + 1)))) := Lib.hid (by
          rw [← HNX.out]
          congr 1
          unfold gapS
          simp [hm, ofL])
        have t1 : ((n : Nat) : Int).tmod 6 = 3 := by rw [Int.tmod_eq_emod_of_nonneg (by omega)]; omega
        have t2 : ((n : Nat) : Int) % 6 = 3 := by omega
        clear hm
        go_wp2
        go_roundw
        case measure => simp [intOf]; omega
        case rel => exact ⟨k + 1, by omega, by go_num, by rw [HG.out], HBX.out _⟩
      · have HG : Hid (ofL S ++ (⟨#[35, 32, 120, 32, 34, 32, 123, 10]⟩ : ByteArray) = ofL (a.data.toList ++ 10 :: gapT (l.take (k + 1)))) := Lib.hid (by
          rw [← HNX.out]
          congr 1
          unfold gapS
          simp [hm, ofL])
        have t1 : ((n : Nat) : Int).tmod 6 = 4 := by rw [Int.tmod_eq_emod_of_nonneg (by omega)]; omega
        have t2 : ((n : Nat) : Int) % 6 = 4 := by omega
        clear hm
        go_wp2
        go_roundw
        case measure => simp [intOf]; omega
        case rel => exact ⟨k + 1, by omega, by go_num, by rw [HG.out], HBX.out _⟩
      · have HG : Hid (ofL S ++ (⟨#[35, 10]⟩ : ByteArray) = ofL (a.data.toList ++ 10 :: gapT (l.take (k + 1)))) := Lib.hid (by
          rw [← HNX.out]
          congr 1
          unfold gapS
          simp [hm, ofL])
        have t1 : ((n : Nat) : Int).tmod 6 = 5 := by rw [Int.tmod_eq_emod_of_nonneg (by omega)]; omega
        have t2 : ((n : Nat) : Int) % 6 = 5 := by omega
        clear hm
        go_wp2
        go_roundw
        case measure => simp [intOf]; omega
        case rel => exact ⟨k + 1, by omega, by go_num, by rw [HG.out], HBX.out _⟩
    · obtain rfl : k = l.length := by omega
      have h3 : ¬ (l.length : Int) < (l.length : Int) := by omega
      rw [List.take_length] at HSL ⊢
      have hSL := HSL.out
      have HTA := Lib.hid (fun w E => C.tok a w (by omega) E)
      have HTB := Lib.hid (fun w E => C.tok b w (by omega) E)
      have HTW := Lib.hid (fun w E => C.tok (ofL (a.data.toList ++ 10 :: gapT l ++ b.data.toList)) w (by
        rw [← add_of]
        have h5 := (ofL_size (a.data.toList ++ 10 :: gapT l ++ b.data.toList))
        rw [add_of, h5, List.length_append, len_data]
        rw [ofL_size] at hSL
        omega) E)
      rw [show (ofL (a.data.toList ++ 10 :: gapT l ++ b.data.toList)).data.toList = a.data.toList ++ 10 :: gapT l ++ b.data.toList from rfl] at HTW
      have HCC : Hid (ofL (a.data.toList ++ 10 :: gapT l) ++ b = ofL (a.data.toList ++ 10 :: gapT l ++ b.data.toList)) := Lib.hid (by have h6 := add_of (a.data.toList ++ 10 :: gapT l) b.data.toList; rw [of_data] at h6; exact h6)
      have HRB := Lib.hid (fun x p => @rT_bad a.data.toList b.data.toList l x p)
      have HRG := Lib.hid (fun x y => @rT_good a.data.toList b.data.toList l x y)
      have HLA := Lib.hid (rT_len a.data.toList)
      have HLB := Lib.hid (rT_len b.data.toList)
      have HLW := Lib.hid (rT_len (a.data.toList ++ 10 :: gapT l ++ b.data.toList))
      rw [len_data] at HLA HLB
      have HLWS : Hid ((a.data.toList ++ 10 :: gapT l ++ b.data.toList).length ≤ 4000) := Lib.hid (by rw [List.length_append, len_data]; rw [ofL_size] at hSL; omega)
      have HER := Lib.hid (fun p h => toksF_err (a.data.toList.length + 1) 0 a.data.toList p h)
      have HER2 := Lib.hid (fun p h => toksF_err (b.data.toList.length + 1) 0 b.data.toList p h)
      rw [show toksF (a.data.toList.length + 1) 0 a.data.toList = toks a.data.toList from rfl] at HER
      rw [show toksF (b.data.toList.length + 1) 0 b.data.toList = toks b.data.toList from rfl] at HER2
      obtain ⟨WH, hWH⟩ : ∃ x, toks (a.data.toList ++ 10 :: gapT l ++ b.data.toList) = x := ⟨_, rfl⟩
      rw [hWH] at HTW HRB HRG HLW
      obtain ⟨TA, hTA⟩ : ∃ x, toks a.data.toList = x := ⟨_, rfl⟩
      obtain ⟨TB, hTB⟩ : ∃ x, toks b.data.toList = x := ⟨_, rfl⟩
      rw [hTA] at HTA HRB HRG HLA HER
      rw [hTB] at HTB HRB HRG HLB HER2
      have HWB := Lib.hid (st HB1.out HBW.out HB1.out.size)
      have HEW := Lib.hid (C.later HE1.out HBW.out)
      clear hWH hTA hTB HBW
      obtain ⟨CC, hCC⟩ : ∃ x, ofL (a.data.toList ++ 10 :: gapT l ++ b.data.toList) = x := ⟨_, rfl⟩
      rw [hCC] at HTW HCC
      obtain ⟨SS, hSS⟩ : ∃ x, ofL (a.data.toList ++ 10 :: gapT l) = x := ⟨_, rfl⟩
      rw [hSS] at hSL HCC ⊢
      clear hCC hSS HSL
      go_wp2_with fail
      refine (HTA.out _ HEW.out).mono ?_
      rintro e w2 ⟨va, rfl, hva, b2⟩
      have HB2 := Lib.hid (st HWB.out b2 HWB.out.size)
      have HE2 := Lib.hid (C.later HEW.out b2)
      have HVA := Lib.hid hva
      clear b2 hva HTA
      go_wp2_with fail
      refine (HTB.out _ HE2.out).mono ?_
      rintro e w3 ⟨vb, rfl, hvb, b3⟩
      have HB3 := Lib.hid (st HB2.out b3 HB2.out.size)
      have HE3 := Lib.hid (C.later HE2.out b3)
      have HVA3 := Lib.hid (HVA.out.below b3)
      have HVB := Lib.hid hvb
      clear b3 hvb HTB HVA
      go_wp2_with fail
      rw [HCC.out]
      refine (HTW.out _ HE3.out).mono ?_
      rintro e w4 ⟨vw, rfl, hvw, b4⟩
      have HB4 := Lib.hid (st HB3.out b4 HB3.out.size)
      have HVA4 := Lib.hid (HVA3.out.below b4)
      have HVB4 := Lib.hid (HVB.out.below b4)
      have HVW := Lib.hid hvw
      clear b4 hvw HTW HVA3 HVB
      cases TA with
      | inl p =>
        obtain ⟨pa, pe⟩ := p
        have hpe : 0 < pe := HER.out _ rfl
        have z3 : ((pe : Int) != 0) = true := by rw [bne_iff_ne]; omega
        clear hpe
        obtain ⟨⟨zs, zi, ze⟩, hz⟩ : ∃ t, rT WH = t := ⟨_, rfl⟩
        obtain ⟨⟨ys, yi, ye⟩, hy⟩ : ∃ t, rT TB = t := ⟨_, rfl⟩
        rw [hz, hy]
        clear hz hy
        dsimp only [rT]
        go_wp2
        go_ret
        exact ⟨rfl, HB4.out⟩
      | inr x =>
        cases TB with
        | inl p =>
          have HGF := Lib.hid (HRB.out x p rfl rfl)
          obtain ⟨pa, pe⟩ := p
          have hpe : 0 < pe := HER2.out _ rfl
          have z3 : ((pe : Int) != 0) = true := by rw [bne_iff_ne]; omega
          obtain ⟨⟨zs, zi, ze⟩, hz⟩ : ∃ t, rT WH = t := ⟨_, rfl⟩
          rw [hz] at HGF ⊢
          have hze : ze = pe := HGF.out
          subst hze
          clear hpe hz HGF
          dsimp only [rT]
          go_wp2
          go_ret
          exact ⟨rfl, HB4.out⟩
        | inr y =>
          obtain ⟨z, hz, hzk⟩ := HRG.out x y rfl rfl
          rw [hz] at HVW HLW ⊢
          have HSM := Lib.hid (same_tok hzk)
          rw [show rT (.inr x) = (x, 0, 0) from rfl] at HVA4 HLA
          rw [show rT (.inr y) = (y, 0, 0) from rfl] at HVB4 HLB
          dsimp only at HVA4 HVB4 HVW HLA HLB HLW
          have HRX := Lib.hid (rdZ HVA4.out)
          have HRY := Lib.hid (rdZ HVB4.out)
          have HRZ := Lib.hid (rdZ HVW.out)
          have HLX : Hid ((x.map Tok.z).length ≤ 1500) := Lib.hid (by rw [List.length_map]; have := HLA.out; omega)
          have HLY : Hid ((y.map Tok.z).length ≤ 1500) := Lib.hid (by rw [List.length_map]; have := HLB.out; omega)
          have HLZ : Hid ((z.map Tok.z).length ≤ 10000000) := Lib.hid (by rw [List.length_map]; have := HLW.out; have := HLWS.out; omega)
          obtain ⟨iT, hiT, hzT, hkT, hbT⟩ := info_partsT Tryd.infoTk
          clear hz hzk HVA4 HVB4 HVW HLA HLB HLW HLWS HRB HRG HER HER2
          dsimp only [rT]
          go_wp2_with fail
          refine (from_any _ _ _ HRX.out (by have := HLX.out; omega)).mono ?_
          rintro e w5 ⟨fx, rfl, hfx, b5⟩
          have HB5 := Lib.hid (st HB4.out b5 HB4.out.size)
          have HRY5 := Lib.hid (HRY.out.below b5)
          have HZA := Lib.hid b5
          have HFX := Lib.hid hfx
          have HZ5 := Lib.hid b5.size
          clear b5 hfx HRX HRY
          go_wp2_with fail
          refine (from_any _ _ _ HRY5.out (by have := HLY.out; omega)).mono ?_
          rintro e w6 ⟨fy, rfl, hfy, b6⟩
          have HB6 := Lib.hid (st HB5.out b6 HB5.out.size)
          have HZB := Lib.hid (HZA.out.trans (b6.mono HZA.out.size))
          have HFX6 := Lib.hid (HFX.out.below b6)
          have HFY := Lib.hid (hfy.rd encZ_len)
          have HZ6 := Lib.hid (Nat.le_trans HZ5.out b6.size)
          clear b6 hfy HRY5 HZA HFX
          go_wp2_with (at_builtin; go_loud (refine wpList_unguard (by rfl) ?_; refine wpList_append_rd (w := w6) rfl _ _ 27 rfl w4.heap.size iT _ 32 Tryd.underlying27 hiT hzT hkT hbT (by omega) rfl (by omega) encZ_len encZ_one _ (x.map Tok.z) (y.map Tok.z) _ rfl HFX6.out rfl HFY.out (by have := HLX.out; have := HLY.out; omega) HZ6.out ?_; intro v7 w7 y7 b7))
          have HFXY := Lib.hid (y7.rd encZ_len)
          have HRZ7 := Lib.hid (HRZ.out.below (HZB.out.trans b7))
          have HB7 := Lib.hid (HB6.out.trans (b7.mono HB4.out.size))
          clear y7 b7 HZB HRZ
          go_wp2_with fail
          refine (from_any _ _ _ HRZ7.out HLZ.out).mono ?_
          rintro e w8 ⟨fz, rfl, hfz, b8⟩
          have HB8 := Lib.hid (st HB7.out b8 HB7.out.size)
          have HFX8 := Lib.hid (HFXY.out.below b8)
          have HFZ := Lib.hid (hfz.rd encZ_len)
          clear b8 hfz HFXY HRZ7
          go_wp2_with fail
          refine (same_any false _ _ _ _ _ HFX8.out HFZ.out).mono ?_
          rintro e w9 ⟨rfl, b9⟩
          have HB9 := Lib.hid (st HB8.out b9 HB8.out.size)
          clear b9
          rw [HSM.out]
          go_wp2
          go_ret
          exact ⟨rfl, HB9.out⟩
end
end Go.Proofs.YtgogcekeklelmaaDoor


