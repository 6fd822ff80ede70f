/- What the row stands on, part 15. -/
import Derived.Laws.StructEq
import Derived.Test.YtgogcekeklelmaaGreatDoorQ14

/- What the laws of layer 11 want of the program; awake. -/
namespace Go.Proofs.YtgogcekeklelmaaGreatDoor
open Go.RowKit
set_option linter.unusedVariables false

/-- What Tokens hands out: tokens, offset, error. -/
def rT : (Nat × Nat) ⊕ List Tok → List Tok × Nat × Nat
  | .inl p => ([], p.1, p.2)
  | .inr ts => (ts, 0, 0)
def TokPP (T : List Tok × Nat × Nat) (w : World) (e : Ending) (w' : World) : Prop :=
  ∃ v, e = .returned (.tuple #[v, .int .i64 (T.2.1 : Int), .int .i64 (T.2.2 : Int)]) ∧ Rd 3 encTk w' v T.1 ∧ Below w.heap.size w w'
/-- The program's own functions, as the document has them. -/
structure LexC (EV : World → Prop) : Prop where
  later : ∀ {w w' : World}, EV w → Below w.heap.size w w' → EV w'
  tok : ∀ (s : ByteArray) (w : World), s.size ≤ 10000000 → EV w → Calls Tryz.prog 15 #[.string s] w (TokPP (rT (toks s.data.toList)) w)
  spell : ∀ (v : Value) (l : List TkZ) (w : World), Rd 3 encZ w v l → l.length ≤ 2000 → (∀ t ∈ l, t.tx.length ≤ 500) → EV w → Calls Tryz.prog 6 #[v] w fun e w' => e = .returned (.tuple #[.string (ofL (spellR l).1), .int .i64 ((spellR l).2 : Int)]) ∧ Below w.heap.size w w'
  isWord : ∀ (s : ByteArray) (w : World), s.size ≤ 10000000 → EV w → Calls Tryz.prog 11 #[.string s] w fun e w' => e = .returned (.bool (isWordB s.data.toList)) ∧ Below w.heap.size w w'
  isText : ∀ (s : ByteArray) (w : World), s.size ≤ 10000000 → EV w → Calls Tryz.prog 13 #[.string s] w fun e w' => e = .returned (.bool (isTextB s.data.toList)) ∧ Below w.heap.size w w'
/-- Number of the program, as the document has it. -/
def NumC (EV : World → Prop) : Prop := ∀ (s : ByteArray) (w : World), s.size ≤ 10000000 → EV w → Calls Tryz.prog 9 #[.string s] w fun e w' => e = .returned (.tuple #[.int .i64 ((numR s.data.toList).1 : Int), .bool (numR s.data.toList).2]) ∧ Below w.heap.size w w'
def awS : ByteArray := ⟨#[108, 105, 115, 116, 32, 97, 110, 100, 32, 34, 97, 92, 34, 98, 34, 59, 32, 35, 32, 101, 110, 100]⟩
def awT : List Tok := [⟨1, [108, 105, 115, 116], 0⟩, ⟨1, [97, 110, 100], 5⟩, ⟨2, [97, 34, 98], 9⟩, ⟨3, [59], 15⟩]
theorem aw_toks : toks awS.data.toList = .inr awT := by kernel_rfl
theorem eqTk (a c : Int) (x : ByteArray) (w : World) : (Op.equalIn 10000 38 (.agg #[.int .i64 a, .string x, .int .i64 c]) (.agg #[.int .i64 a, .string x, .int .i64 c])).run Tryz.prog w = .ok true w := by
  rw [show (10000 : Nat) = 9999 + 1 from rfl, run_equalIn_struct _ 9999 _ _ _ (by kernel_rfl) (by kernel_rfl)]
  have u1 := Tryz.underlying3
  have u2 := Tryz.underlying9
  go_simp
theorem rd_cell {w : World} {a : Option Addr} {n c : Nat} {l : List TkZ} (h : Rd 3 encZ w (.slice a n c) l) (hl : l ≠ []) : ∃ b off, a = some ⟨b, off, none⟩ ∧ ∀ (i : Nat) (hi : i < l.length), w.cell? ⟨b, off + i * 3, none⟩ = some (.int .i64 (l[i]'hi).kd) ∧ w.cell? ⟨b, off + i * 3 + 1, none⟩ = some (.string (ofL (l[i]'hi).tx)) ∧ w.cell? ⟨b, off + i * 3 + 2, none⟩ = some (.int .i64 (l[i]'hi).at_) := by
  obtain ⟨b, off, rfl, _, _⟩ := h.tkZ 0 (List.length_pos_iff.2 hl)
  refine ⟨b, off, rfl, fun i hi => ?_⟩
  obtain ⟨b', off', e, _, h1, h2, h3⟩ := h.tkZ i hi
  cases e
  exact ⟨h1, h2, h3⟩
section
variable {EV : World → Prop} (C : LexC EV)
include C
set_option maxRecDepth 1000000 in
set_option maxHeartbeats 8000000 in
theorem awake11_any (w : World) (E : EV w) : Calls Tryz.prog 4 #[] w fun e w' => e = .returned (.bool true) ∧ Below w.heap.size w w' := by
  have HT := Lib.hid (C.tok awS w (by decide) E)
  rw [aw_toks, show rT (.inr awT) = (awT, 0, 0) from rfl] at HT
  clear E
  go_enter Tryz.func4, Tryz.ntmps4
  go_wp2_with fail
  refine HT.out.mono ?_
  rintro e w1 ⟨v, rfl, hr, hb⟩
  have HB := Lib.hid hb
  have hz := rdZ hr
  obtain ⟨a1, c1, rfl, q1, q2⟩ := hz.slice
  obtain ⟨b, off, rfl, hc⟩ := rd_cell hz (by decide)
  obtain ⟨p0, p1, p2⟩ := hc 2 (by decide)
  obtain ⟨p3, p4, p5⟩ := hc 3 (by decide)
  have x0 : w1.cell? ⟨b, off + 6, none⟩ = some (.int .i64 2) := p0
  have x1 : w1.cell? ⟨b, off + 6 + 1, none⟩ = some (.string ⟨#[97, 34, 98]⟩) := p1
  have x2 : w1.cell? ⟨b, off + 6 + 2, none⟩ = some (.int .i64 9) := p2
  have y0 : w1.cell? ⟨b, off + 9, none⟩ = some (.int .i64 3) := p3
  have hn : (awT.map Tok.z).length = 4 := rfl
  rw [hn]
  have e1 := eqTk 2 9 ⟨#[97, 34, 98]⟩
  clear hb hr hz hc q1 q2 hn HT p0 p1 p2 p3 p4 p5
  go_wp2
  go_ret
  exact ⟨rfl, HB.out⟩
end
end Go.Proofs.YtgogcekeklelmaaGreatDoor


/- The laws LexemeTokens and LexemeSpell, given the program's functions. -/
namespace Go.Proofs.YtgogcekeklelmaaGreatDoor
open Go.RowKit
set_option linter.unusedVariables false

theorem few_iff {l : List TkZ} (h : fewB l = true) : l.length ≤ 60 ∧ ∀ t ∈ l, t.tx.length ≤ 500 := by
  unfold fewB at h
  rw [Bool.and_eq_true, List.all_eq_true] at h
  exact ⟨of_decide_eq_true h.2, fun t ht => of_decide_eq_true (h.1 t ht)⟩
section
variable {EV : World → Prop} (C : LexC EV)
include C
set_option maxRecDepth 1000000 in
set_option maxHeartbeats 8000000 in
theorem lexemeSpell_law (CN : NumC EV) (v : Value) (l : List TkZ) (s : ByteArray) (w : World) (hv : Rd 3 encZ w v l) (h1 : s.size ≤ maxLen) (E : EV w) : Calls Tryz.prog 3 #[v, .string s] w fun e w' => e = .returned (.bool true) ∧ Below w.heap.size w w' := by
  have hs : (s.size : Int) ≤ 9223372036854775807 := by unfold maxLen at h1; omega
  have HA := Lib.hid (fun w E => awake11_any C w E)
  have HE := Lib.hid E
  have HV := Lib.hid hv
  clear h1 E hv
  go_enter Tryz.func3, Tryz.ntmps3
  go_wp2_with fail
  refine (HA.out _ HE.out).mono ?_
  rintro e w1 ⟨rfl, b1⟩
  have HE1 := Lib.hid (C.later HE.out b1)
  have HB1 := Lib.hid b1
  have HV1 := Lib.hid (HV.out.below b1)
  clear b1 HV
  go_wp2_with fail
  refine (few_any _ _ _ HV1.out).mono ?_
  rintro e w1' ⟨rfl, hw⟩
  obtain rfl := hw.symm
  clear hw
  obtain ⟨fb, hfb⟩ : ∃ b, fewB l = b := ⟨_, rfl⟩
  rw [hfb]
  have HFB := Lib.hid hfb
  clear hfb
  cases fb with
  | false =>
    go_wp2_with fail
    refine (HA.out _ HE1.out).mono ?_
    rintro e w2 ⟨rfl, b2⟩
    have HB2 := Lib.hid (st HB1.out b2 HB1.out.size)
    clear b2
    go_wp2
    go_ret
    exact ⟨rfl, HB2.out⟩
  | true =>
    by_cases h2 : s.size ≤ 500
    case neg =>
      have z1 : decide ((500 : Int) < (s.size : Int)) = true := decide_eq_true (by omega)
      clear h2
      go_wp2_with fail
      refine (HA.out _ HE1.out).mono ?_
      rintro e w2 ⟨rfl, b2⟩
      have HB2 := Lib.hid (st HB1.out b2 HB1.out.size)
      clear b2
      go_wp2
      go_ret
      exact ⟨rfl, HB2.out⟩
    have z1 : decide ((500 : Int) < (s.size : Int)) = false := decide_eq_false (by omega)
    have HFEW := Lib.hid (few_iff HFB.out)
    have HSZ := Lib.hid h2
    clear h2
    go_wp2_with fail
    refine (to_any _ _ _ HV1.out (by have := HFEW.out.1; omega)).mono ?_
    rintro e w2 ⟨x, rfl, hx, b2⟩
    have HB2 := Lib.hid (st HB1.out b2 HB1.out.size)
    have HE2 := Lib.hid (C.later HE1.out b2)
    have HV2 := Lib.hid (HV1.out.below b2)
    have HX := Lib.hid (hx.rd encZ_len)
    clear b2 hx HV1
    go_wp2_with fail
    refine (C.spell _ _ _ HX.out (by have := HFEW.out.1; omega) HFEW.out.2 HE2.out).mono ?_
    rintro e w3 ⟨rfl, b3⟩
    have HB3 := Lib.hid (st HB2.out b3 HB2.out.size)
    have HE3 := Lib.hid (C.later HE2.out b3)
    have HV3 := Lib.hid (HV2.out.below b3)
    clear b3 HX HV2
    go_wp2_with fail
    refine (refSpell_any _ _ _ HV3.out (by have := HFEW.out.1; omega) HFEW.out.2).mono ?_
    rintro e w4 ⟨rfl, b4⟩
    have HB4 := Lib.hid (st HB3.out b4 HB3.out.size)
    have HE4 := Lib.hid (C.later HE3.out b4)
    clear b4 HV3
    obtain ⟨⟨sx, se⟩, hsx⟩ : ∃ x, spellR l = x := ⟨_, rfl⟩
    rw [hsx]
    dsimp only
    obtain ⟨Y, hY⟩ : ∃ Y, ofL sx = Y := ⟨_, rfl⟩
    rw [hY]
    clear hsx hY
    go_wp2_with fail
    refine (CN s _ (by have := HSZ.out; omega) HE4.out).mono ?_
    rintro e w5 ⟨rfl, b5⟩
    have HB5 := Lib.hid (st HB4.out b5 HB4.out.size)
    have HE5 := Lib.hid (C.later HE4.out b5)
    clear b5
    go_wp2_with fail
    refine (refNumber_any s (by have := HSZ.out; omega) _).mono ?_
    rintro e w6 ⟨rfl, hw⟩
    obtain rfl := hw.symm
    clear hw
    obtain ⟨⟨nn, nb⟩, hnn⟩ : ∃ x, numR s.data.toList = x := ⟨_, rfl⟩
    rw [hnn]
    dsimp only
    clear hnn
    go_wp2_with fail
    refine (C.isWord s _ (by have := HSZ.out; omega) HE5.out).mono ?_
    rintro e w7 ⟨rfl, b7⟩
    have HB7 := Lib.hid (st HB5.out b7 HB5.out.size)
    have HE7 := Lib.hid (C.later HE5.out b7)
    clear b7
    go_wp2_with fail
    refine (isWord_any s (by have := HSZ.out; omega) _).mono ?_
    rintro e w8 ⟨rfl, hw⟩
    obtain rfl := hw.symm
    clear hw
    obtain ⟨wb, hwb⟩ : ∃ x, isWordB s.data.toList = x := ⟨_, rfl⟩
    rw [hwb]
    clear hwb
    go_wp2_with fail
    refine (C.isText s _ (by have := HSZ.out; omega) HE7.out).mono ?_
    rintro e w9 ⟨rfl, b9⟩
    have HB9 := Lib.hid (st HB7.out b9 HB7.out.size)
    clear b9
    go_wp2_with fail
    refine (isText_any s (by have := HSZ.out; omega) _).mono ?_
    rintro e w10 ⟨rfl, b10⟩
    have HB10 := Lib.hid (st HB9.out b10 HB9.out.size)
    clear b10
    obtain ⟨tb, htb⟩ : ∃ x, isTextB s.data.toList = x := ⟨_, rfl⟩
    rw [htb]
    clear htb
    have hf : ∃ f, f = (1 : Nat) := ⟨_, rfl⟩
    clear hf
    cases wb <;> cases tb <;> cases nb <;> (go_wp2; go_ret; exact ⟨rfl, HB10.out⟩)
end
end Go.Proofs.YtgogcekeklelmaaGreatDoor


