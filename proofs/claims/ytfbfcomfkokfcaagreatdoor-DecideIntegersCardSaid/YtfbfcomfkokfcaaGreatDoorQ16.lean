/- What the row stands on, part 16. -/
import Derived.Test.YtfbfcomfkokfcaaGreatDoorQ15

/- Of law 10: the text "i = 1 and v = 0"; the examples of the document. -/
namespace Go.Proofs.YtfbfcomfkokfcaaGreatDoor
open Go.RowKit Go.Maps
set_option linter.unusedVariables false

theorem toL' (s : ByteArray) : s.toList = s.data.toList := ByteArray.toList_eq ..
def tX3 : ByteArray := ⟨#[105, 32, 61, 32, 49, 32, 97, 110, 100, 32, 118, 32, 61, 32, 48]⟩
theorem tX3_0 (w : World) : Calls Tryz.prog 159 #[.string tX3, .int .i64 ((0 : Nat) : Int)] w fun e w' => e = .returned (.tuple #[.agg #[.string (ofL [letS.getD 1 0]), .int .i64 ((0 : Nat) : Int)], .int .i64 ((1 : Nat) : Int)]) ∧ Below w.heap.size w w' :=
  next_word tX3 0 0 (by decide) ⟨by decide, by decide, fun k h h1 h2 => (by omega), fun h => by decide +revert⟩ (by decide) (tX3.extract 0 tX3.size) (ofL [letS.getD 1 0]) 1 rfl (by decide) (by decide) (by decide) (by decide) w
theorem tX3_1 (w : World) : Calls Tryz.prog 159 #[.string tX3, .int .i64 ((1 : Nat) : Int)] w fun e w' => e = .returned (.tuple #[.agg #[.string (ofL [61]), .int .i64 ((2 : Nat) : Int)], .int .i64 ((3 : Nat) : Int)]) ∧ Below w.heap.size w w' :=
  next_sym tX3 1 2 (by decide) ⟨by decide, by decide, fun k h h1 h2 => (by (have e : k = 1 := by omega); subst e; decide +revert), fun h => by decide +revert⟩ (by decide) (tX3.extract 2 tX3.size) (ofL [61]) (ofL [61, 32]) 61 rfl (by decide) (by decide) (by decide) (by rw [toL]; decide) (by rw [toL]; decide) (fun h => by decide +revert) (Or.inr rfl) (by decide) w
theorem tX3_2 (w : World) : Calls Tryz.prog 159 #[.string tX3, .int .i64 ((3 : Nat) : Int)] w fun e w' => e = .returned (.tuple #[.agg #[.string (ofL [49]), .int .i64 ((4 : Nat) : Int)], .int .i64 ((5 : Nat) : Int)]) ∧ Below w.heap.size w w' :=
  next_num tX3 3 4 (by decide) ⟨by decide, by decide, fun k h h1 h2 => (by (have e : k = 3 := by omega); subst e; decide +revert), fun h => by decide +revert⟩ (by decide) (tX3.extract 4 tX3.size) (ofL [49]) 1 rfl (by decide) (by decide) (by decide) (by decide) (by decide) w
theorem tX3_3 (w : World) : Calls Tryz.prog 159 #[.string tX3, .int .i64 ((5 : Nat) : Int)] w fun e w' => e = .returned (.tuple #[.agg #[.string (ofL [97, 110, 100]), .int .i64 ((6 : Nat) : Int)], .int .i64 ((9 : Nat) : Int)]) ∧ Below w.heap.size w w' :=
  next_word tX3 5 6 (by decide) ⟨by decide, by decide, fun k h h1 h2 => (by (have e : k = 5 := by omega); subst e; decide +revert), fun h => by decide +revert⟩ (by decide) (tX3.extract 6 tX3.size) (ofL [97, 110, 100]) 3 rfl (by decide) (by decide) (by decide) (by decide) w
theorem tX3_4 (w : World) : Calls Tryz.prog 159 #[.string tX3, .int .i64 ((9 : Nat) : Int)] w fun e w' => e = .returned (.tuple #[.agg #[.string (ofL [letS.getD 2 0]), .int .i64 ((10 : Nat) : Int)], .int .i64 ((11 : Nat) : Int)]) ∧ Below w.heap.size w w' :=
  next_word tX3 9 10 (by decide) ⟨by decide, by decide, fun k h h1 h2 => (by (have e : k = 9 := by omega); subst e; decide +revert), fun h => by decide +revert⟩ (by decide) (tX3.extract 10 tX3.size) (ofL [letS.getD 2 0]) 1 rfl (by decide) (by decide) (by decide) (by decide) w
theorem tX3_5 (w : World) : Calls Tryz.prog 159 #[.string tX3, .int .i64 ((11 : Nat) : Int)] w fun e w' => e = .returned (.tuple #[.agg #[.string (ofL [61]), .int .i64 ((12 : Nat) : Int)], .int .i64 ((13 : Nat) : Int)]) ∧ Below w.heap.size w w' :=
  next_sym tX3 11 12 (by decide) ⟨by decide, by decide, fun k h h1 h2 => (by (have e : k = 11 := by omega); subst e; decide +revert), fun h => by decide +revert⟩ (by decide) (tX3.extract 12 tX3.size) (ofL [61]) (ofL [61, 32]) 61 rfl (by decide) (by decide) (by decide) (by rw [toL]; decide) (by rw [toL]; decide) (fun h => by decide +revert) (Or.inr rfl) (by decide) w
theorem tX3_6 (w : World) : Calls Tryz.prog 159 #[.string tX3, .int .i64 ((13 : Nat) : Int)] w fun e w' => e = .returned (.tuple #[.agg #[.string (ofL [48]), .int .i64 ((14 : Nat) : Int)], .int .i64 ((15 : Nat) : Int)]) ∧ Below w.heap.size w w' :=
  next_num tX3 13 14 (by decide) ⟨by decide, by decide, fun k h h1 h2 => (by (have e : k = 13 := by omega); subst e; decide +revert), fun h => by decide +revert⟩ (by decide) (tX3.extract 14 tX3.size) (ofL [48]) 1 rfl (by decide) (by decide) (by decide) (by decide) (by decide) w
theorem tX3_7 (w : World) : Calls Tryz.prog 159 #[.string tX3, .int .i64 ((15 : Nat) : Int)] w fun e w' => e = .returned (.tuple #[.agg #[.string (⟨#[]⟩), .int .i64 ((15 : Nat) : Int)], .int .i64 ((15 : Nat) : Int)]) ∧ Below w.heap.size w w' :=
  next_end tX3 15 15 (by decide) ⟨by decide, by decide, fun k h h1 h2 => (by omega), fun h => by decide +revert⟩ rfl w
theorem tX3_c (w : World) : Calls Tryz.prog 37 #[.string tX3] w fun e w' => ∃ v, e = .returned v ∧ RdC w' v cA3 ∧ Below w.heap.size w w' :=
  condP_any tX3 cA3 (fun w => parse2_any tX3 (ofL [letS.getD 1 0]) (by decide) 0 1 2 1 (ofL [97, 110, 100]) 9 6 (ofL [letS.getD 2 0]) 11 10 3 0 15 tX3_0
    (fun g w h => rel0_any g tX3 1 0 1 (by omega) (ofL [61]) 3 2 (by simp only [toL]; decide) tX3_1 (ofL [49]) (ofL [97, 110, 100]) 5 4 9 6 1
      (by simp only [toL]; decide) (by simp only [toL]; decide) (by rw [ofL_list]; show ∀ c ∈ _, isD c = true; decide) (by decide) (by decide) (fun h => .inr rfl) (by rw [ofL_list]; simp [val_cons, val_nil, dg]) (by decide) (by rw [toL', toL']; decide) (by rw [toL', toL']; decide) tX3_2 tX3_3 w h)
    (by rw [toL', toL']; decide) (by rw [toL', toL']; decide) (by rw [toL', toL']; decide) tX3_4
    (fun g w h => rel0_any g tX3 11 10 2 (by omega) (ofL [61]) 13 12 (by simp only [toL]; decide) tX3_5 (ofL [48]) (⟨#[]⟩) 15 14 15 15 0
      (by simp only [toL]; decide) (by simp only [toL]; decide) (by rw [ofL_list]; show ∀ c ∈ _, isD c = true; decide) (by decide) (by decide) (fun h => .inr rfl) (by rw [ofL_list]; simp [val_cons, val_nil, dg]) (by decide) (by rw [toL', toL']; decide) (by rw [toL', toL']; decide) tX3_6 tX3_7 w h) w) w
theorem rdRules_two {w : World} {u v : Value} {c d : Cnd} (x y : Str) (h : RdC w u c) (k : RdC w v d) (t : TypeId) : RdRules (w.alloc (.cells #[.string (ofL x), u, .string (ofL y), v] t)) (.slice (some ⟨w.heap.size, 0, none⟩) 2 2) [(x, c), (y, d)] := by
  obtain ⟨p, rfl, hp⟩ := h.raw
  obtain ⟨q, rfl, hq⟩ := k.raw
  have kb := Blk.new w t #[.string (ofL x), .slice p.a p.n p.c, .string (ofL y), .slice q.a q.n q.c]
  have B := below_al w (.cells #[.string (ofL x), .slice p.a p.n p.c, .string (ofL y), .slice q.a q.n q.c] t)
  refine ⟨[(x, p), (y, q)], ⟨⟨_, 2, rfl, Nat.le_refl _, by omega, fun _ => ⟨w.heap.size, 0, rfl, kb.lt, fun i u hi j v hv => ?_⟩⟩, fun n c hc => by cases hc⟩, rfl, fun i h1 h2 => ?_⟩
  · rw [kb.cell]
    have hi2 : i = 0 ∨ i = 1 := by have := (List.getElem?_eq_some_iff.1 hi).1; simp at this; omega
    have hj2 : j = 0 ∨ j = 1 := by have := (List.getElem?_eq_some_iff.1 hv).1; simp [encRu] at this; omega
    rcases hi2 with rfl | rfl <;> rcases hj2 with rfl | rfl <;> (simp at hi; subst hi; simpa [encRu] using hv)
  · have hi2 : i = 0 ∨ i = 1 := by simp at h1; omega
    rcases hi2 with rfl | rfl
    · exact hp.below B
    · exact hq.below B
set_option maxRecDepth 1000000 in
set_option maxHeartbeats 8000000 in
theorem awake_d (w : World) (hm : MaxL w) :
    Calls Tryz.prog 11 #[] w fun e w' => e = .returned (.bool true) ∧ Below w.heap.size w w' := by
  have HM := Lib.hid hm
  clear hm
  go_enter Tryz.func11, Tryz.ntmps11
  go_wp2_with fail
  refine (tX1_c _).mono ?_
  rintro e w1 ⟨v1, rfl, h1, b1⟩
  obtain ⟨p1, q1, rfl, _⟩ := h1.slice
  have H1 := Lib.hid h1
  have B1 := Lib.hid b1
  clear h1 b1
  go_wp2_with fail
  refine (tX2_c _).mono ?_
  rintro e w2 ⟨v2, rfl, h2, b2⟩
  obtain ⟨p2, q2, rfl, _⟩ := h2.slice
  have HR := Lib.hid (rdRules_two [111, 110, 101] [116, 119, 111] (H1.out.below b2) h2 57)
  have B2 := Lib.hid (st B1.out b2 B1.out.size)
  have HMA := Lib.hid ((HM.out.below B2.out).alloc (.cells #[.string (ofL [111, 110, 101]), .slice p1 1 q1, .string (ofL [116, 119, 111]), .slice p2 1 q2] 57))
  have B3 := Lib.hid (B2.out.alloc B2.out.size (.cells #[.string (ofL [111, 110, 101]), .slice p1 1 q1, .string (ofL [116, 119, 111]), .slice p2 1 q2] 57))
  clear h2 b2 H1 B1
  have HD := Lib.hid (disjoint_any _ _ (by decide) (by
    intro c hc
    rcases List.mem_cons.1 hc with rfl | hc
    · exact cA1_ok
    · rw [List.mem_singleton.1 hc]; exact cA2_ok) _ HR.out HMA.out)
  go_wp2_with fail
  refine HD.out.mono ?_
  rintro e w3 ⟨i, j, W, er, rfl, hA, b3⟩
  have hA := DisA_A hA
  injection hA with e1 hA
  injection hA with e2 hA
  injection hA with e3 e4
  subst e1 e2 e3 e4
  have B4 := Lib.hid (st B3.out b3 B3.out.size)
  clear b3 HD HR HMA B2 B3
  go_wp2_with fail
  refine (tX3_c _).mono ?_
  rintro e w4 ⟨v4, rfl, h4, b4⟩
  have B5 := Lib.hid (st B4.out b4 B4.out.size)
  have HWG := Lib.hid (weight_any cA3 cA3_ok (by decide) v4 w4 h4)
  rw [wgt_A] at HWG
  obtain ⟨p4, q4, rfl, _⟩ := h4.slice
  clear h4 b4 B4
  go_wp2_with fail
  refine HWG.out.mono ?_
  rintro e w5 ⟨rfl, b5⟩
  have B6 := Lib.hid (st B5.out b5 B5.out.size)
  clear b5 HWG
  have t9 : (ofL [49, 49]).toList = [49, 49] := by rw [toL']; rfl
  have t8 : ((ofL [49, 49]).toList == [49, 49]) = true := by rw [toL']; rfl
  go_wp2
  go_ret
  exact ⟨rfl, B6.out⟩
end Go.Proofs.YtfbfcomfkokfcaaGreatDoor


/- Of the reference of layer 10: wholes. -/
namespace Go.Proofs.YtfbfcomfkokfcaaGreatDoor
open Go.RowKit
set_option linter.unusedVariables false

/-- Two lists of strings of the call's own that do not share memory. -/
structure TwoS (w : World) (base : Nat) (v u : Value) (l m : List Str) : Prop where
  one : Own1 1 encT w base 9 v l
  two : Own1 1 encT w base 9 u m
  ap : Apart v u
theorem TwoS.below {w w' : World} {base : Nat} {v u : Value} {l m : List Str} (h : TwoS w base v u l m) (hb : Below w.heap.size w w') : TwoS w' base v u l m := ⟨own_below h.one hb, own_below h.two hb, h.ap⟩
end Go.Proofs.YtfbfcomfkokfcaaGreatDoor


/- Of law 10: few; decimals of any length; integers alike (P10.6). -/
namespace Go.Proofs.YtfbfcomfkokfcaaGreatDoor
open Go.RowKit Go.Maps
set_option linter.unusedVariables false

/-! ### few -/
def FewL (cs : List Cnd) (w : World) (e : Ending) (w' : World) : Prop := (∃ b, e = .returned (.bool b) ∧ (b = true → cs.length ≤ 12 ∧ ∀ c ∈ cs, c.length ≤ 30)) ∧ w' = w
def FewLR (cs : List Cnd) (w : World) (v6 : Value) (wr : World) : Prop := ∃ k : Nat, k ≤ cs.length ∧ v6 = .int .i64 k ∧ wr = w ∧ Hid (∀ c ∈ cs.take k, c.length ≤ 30)
set_option maxRecDepth 1000000 in
set_option maxHeartbeats 4000000 in
theorem fewL_any (cs : List Cnd) (v : Value) (w : World) (hv : RdCs w v cs) :
    Calls Tryz.prog 12 #[v] w (FewL cs w) := by
  obtain ⟨a, cp, rfl, hc1, hc2⟩ := hv.slice
  have HU := Lib.hid hv
  clear hv
  go_enter Tryz.func12, Tryz.ntmps12
  go_wp2
  go_loopw [6] (fun v6 wr => FewLR cs w v6 wr) (fun v6 _ => cs.length - (intOf v6).toNat)
  case atStart => exact ⟨0, Nat.zero_le _, rfl, rfl, Lib.hid (fun c hc => by simp at hc)⟩
  case round =>
    obtain ⟨k, hk, rfl, hw, HA⟩ := hrel
    obtain rfl := hw.symm
    by_cases hlt : k < cs.length
    · obtain ⟨b, off, x1, x2, rfl, h0, h4⟩ := HU.out.at_ k hlt
      have h9 : (k : Int) < (cs.length : Int) := by omega
      have HT : Hid (cs[k].length ≤ 30 → ∀ c ∈ cs.take (k + 1), c.length ≤ 30) := Lib.hid (fun hx c hc => by
        rw [List.take_succ_eq_append_getElem hlt, List.mem_append, List.mem_singleton] at hc
        rcases hc with hc | rfl
        · exact HA.out c hc
        · exact hx)
      obtain ⟨m, hm⟩ : ∃ m, cs[k] = m := ⟨_, rfl⟩
      rw [hm] at h0 h4 HT
      clear hm
      have HF := Lib.hid (few_any _ m w h4)
      clear h4
      go_wp2_with fail
      refine HF.out.mono ?_
      rintro e w2 ⟨⟨bf, rfl, hf⟩, hw2⟩
      obtain rfl := hw2.symm
      have H3 := Lib.hid hf
      clear hf hw2 HF
      cases bf with
      | false =>
        go_wp2
        go_ret
        exact ⟨⟨false, rfl, fun h => by cases h⟩, rfl⟩
      | true =>
        have H5 : Hid (∀ c ∈ cs.take (k + 1), c.length ≤ 30) := Lib.hid (HT.out (H3.out rfl))
        go_wp2
        go_roundw
        case measure => simp [intOf]; omega
        case rel => exact ⟨k + 1, by omega, by go_num, rfl, H5⟩
    · obtain rfl : k = cs.length := by omega
      have h3 : ¬ (cs.length : Int) < (cs.length : Int) := by omega
      have HF : Hid (∀ c ∈ cs, c.length ≤ 30) := Lib.hid (by have := HA.out; rwa [List.take_length] at this)
      by_cases h30 : cs.length ≤ 12
      · have t : (cs.length : Int) ≤ 12 := by omega
        go_wp2
        go_ret
        exact ⟨⟨true, rfl, fun _ => ⟨h30, HF.out⟩⟩, rfl⟩
      · have t : ¬ (cs.length : Int) ≤ 12 := by omega
        go_wp2
        go_ret
        exact ⟨⟨false, rfl, fun h => by cases h⟩, rfl⟩
theorem cnt_le (m : Nat) : ∀ c : Cnd, (∀ l ∈ c, l.length ≤ m) → cnt c ≤ c.length * m
  | [], _ => by simp [cnt_nil]
  | l :: c, h => by
    have h1 := h l (by simp)
    have h2 := cnt_le m c (fun x hx => h x (by simp [hx]))
    rw [cnt_cons, List.length_cons, Nat.add_mul]
    omega
theorem cnt_few10 {c : Cnd} (h : c.length ≤ 30) (hl : ∀ l ∈ c, l.length ≤ 140737488355328) : cnt c ≤ 4611686018427387904 := by
  have h1 := cnt_le _ c hl
  have h2 : c.length * 140737488355328 ≤ 30 * 140737488355328 := Nat.mul_le_mul h (Nat.le_refl _)
  omega

/-! ### Decimals -/
set_option maxRecDepth 1000000 in
set_option maxHeartbeats 4000000 in
theorem decS_any (n : Nat) (Q : Str) (h0 : 10 ≤ n) (hn : n < 1000000000000) (hl : Q.length ≤ 100) (hq : ∀ w : World, Calls Tryz.prog 76 #[.int .i64 (n / 10 : Nat)] w fun e w' => e = .returned (.string (ofL Q)) ∧ Below w.heap.size w w') (w : World) :
    Calls Tryz.prog 76 #[.int .i64 n] w fun e w' => e = .returned (.string (ofL (Q ++ dtx (n % 10)))) ∧ Below w.heap.size w w' := by
  have e1 : (10 : Int) ≤ (n : Int) := by omega
  have hr := fun w => dec1_any (n % 10) (by omega) w
  have hl2 := dtx_len (n % 10)
  obtain ⟨q, hqe⟩ : ∃ q, n / 10 = q := ⟨_, rfl⟩
  obtain ⟨r, hre⟩ : ∃ r, n % 10 = r := ⟨_, rfl⟩
  rw [hqe] at hq
  rw [hre] at hr hl2 ⊢
  obtain ⟨D, hD⟩ : ∃ D, Q ++ dtx r = D := ⟨_, rfl⟩
  rw [hD]
  have m1 : (n : Int).tdiv 10 = (q : Int) := by rw [Int.tdiv_eq_ediv_of_nonneg (by omega)]; omega
  have m2 : (n : Int) / 10 = (q : Int) := by omega
  have m3 : (n : Int).tmod 10 = (r : Int) := by rw [Int.tmod_eq_emod_of_nonneg (by omega)]; omega
  have m4 : (n : Int) % 10 = (r : Int) := by omega
  have p1 : ∀ wx, (Op.stringOp .add (ofL Q) (ofL (dtx r))).run Tryz.prog wx = .ok (.string (ofL D)) wx := fun wx => str_add (by omega) hD wx
  have HQ := Lib.hid hq
  have HR := Lib.hid hr
  clear hq hr hl2 hqe hre hD hl
  go_enter Tryz.func76, Tryz.ntmps76
  go_wp2_with fail
  refine (HQ.out _).mono ?_
  rintro e w2 ⟨rfl, b2⟩
  have B2 := Lib.hid b2
  clear b2
  go_wp2_with fail
  refine (HR.out _).mono ?_
  rintro e w3 ⟨rfl, b3⟩
  have B3 := Lib.hid (st B2.out b3 B2.out.size)
  clear b3
  go_wp2
  go_ret
  exact ⟨rfl, B3.out⟩
/-- The decimal digits of a number. -/
structure DecD (n : Nat) (D : Str) : Prop where
  dig : allD D
  low : 1 ≤ D.length
  slim : slim D
  val : val D = n
theorem decB_any : ∀ (m n : Nat), n < 10 ^ (m + 1) → m ≤ 10 → ∃ D, DecD n D ∧ D.length ≤ m + 1 ∧ ∀ w : World, Calls Tryz.prog 76 #[.int .i64 n] w fun e w' => e = .returned (.string (ofL D)) ∧ Below w.heap.size w w' := fun m => by
  have small : ∀ n : Nat, n < 10 → ∃ D, DecD n D ∧ D.length ≤ 1 ∧ ∀ w : World, Calls Tryz.prog 76 #[.int .i64 n] w fun e w' => e = .returned (.string (ofL D)) ∧ Below w.heap.size w w' := fun n hn => by
    obtain ⟨h1, h2, h3⟩ := dtx_good (show n < 1000 by omega)
    exact ⟨dtx n, ⟨h1, (dtx_len n).1, h3, h2⟩, dtx_len_le (by omega) (by omega) (by omega), dec1_any n hn⟩
  induction m with
  | zero =>
    intro n hn _
    exact small n (by simpa using hn)
  | succ m ih =>
    intro n hn hm
    by_cases h10 : n < 10
    · obtain ⟨D, h1, h2, h3⟩ := small n h10
      exact ⟨D, h1, by omega, h3⟩
    · obtain ⟨Q, h1, h2, h3⟩ := ih (n / 10) (by rw [Nat.pow_succ] at hn; omega) (by omega)
      have hb : n < 1000000000000 := Nat.lt_of_lt_of_le hn (Nat.le_trans (Nat.pow_le_pow_right (by omega) (show m + 1 + 1 ≤ 12 by omega)) (by decide))
      obtain ⟨g1, g2, g3⟩ := dtx_good (show n % 10 < 1000 by omega)
      have gl : (dtx (n % 10)).length = 1 := by
        have := dtx_len_le (n := n % 10) (m := 1) (by omega) (by omega) (by omega)
        have := (dtx_len (n % 10)).1
        omega
      refine ⟨Q ++ dtx (n % 10), ⟨allD_app.2 ⟨h1.dig, g1⟩, by rw [List.length_append]; omega, ?_, ?_⟩, by rw [List.length_append]; omega, decS_any n Q (by omega) hb (by omega) h3⟩
      · intro _ e
        have hq : Q.head? = some 48 := by
          cases Q with
          | nil => exact absurd h1.low (by simp)
          | cons c l => exact e
        by_cases hl : 1 < Q.length
        · exact h1.slim hl hq
        · cases Q with
          | nil => cases hq
          | cons c l =>
            have hl0 : l = [] := by
              cases l with
              | nil => rfl
              | cons d l => simp at hl
            subst hl0
            injection hq with hq
            subst hq
            have := h1.val
            rw [val_cons, val_nil, dg_48] at this
            simp at this
            omega
      · rw [val_app, h1.val, g2, gl]
        omega
theorem DecD.good {n : Nat} {D : Str} (h : DecD n D) (hl : D.length ≤ 15) : Good ⟨false, D, []⟩ := ⟨h.dig, allD_nil, h.low, hl, h.slim, by simp, fun e => by cases e⟩
theorem txt_whole (D : Str) : txt ⟨false, D, []⟩ = D := by unfold txt; simp
theorem hldC_far {c : Cnd} (hok : okC c = true) {n m : Nat} {D E : Str} (h : DecD n D) (k : DecD m E) (hD : D.length ≤ 15) (hE : E.length ≤ 15) (hn : 100 < n) (hm : 100 < m) (e : n % 300 = m % 300) : hldC D c = hldC E c := by
  have g1 := spl_of (h.good hD)
  have g2 := spl_of (k.good hE)
  rw [txt_whole] at g1 g2
  unfold hldC
  refine anyC (fun l hl => allC (fun r hr => ?_))
  have hr' : OkR r := relsC_ok (l := [c]) (fun d hd => by rw [List.mem_singleton.1 hd]; exact hok) r (mem_relsC (List.mem_singleton.2 rfl) hl hr)
  unfold hldR
  rw [opR_some g1, opR_some g2, hld_parts, hld_parts]
  dsimp only
  rw [h.val, k.val, wT_far hr' hn hm e]
set_option maxRecDepth 1000000 in
set_option maxHeartbeats 4000000 in
theorem decimalR_any (n : Nat) (hn : n < 10000000000) (w : World) : ∃ D, DecD n D ∧ D.length ≤ 10 ∧ Calls Tryz.prog 36 #[.int .i64 n] w fun e w' => e = .returned (.string (ofL D)) ∧ Below w.heap.size w w' := by
  obtain ⟨D, h1, h2, h3⟩ := decB_any 9 n hn (by omega)
  refine ⟨D, h1, h2, ?_⟩
  have H3 := Lib.hid h3
  clear h3 h2 h1
  go_enter Tryz.func36, Tryz.ntmps36
  go_wp2_with fail
  refine (H3.out _).mono ?_
  rintro e w2 ⟨rfl, b2⟩
  have B2 := Lib.hid b2
  clear b2
  go_wp2
  go_ret
  exact ⟨rfl, B2.out⟩

/-! ### P10.6 -/
set_option maxRecDepth 1000000 in
set_option maxHeartbeats 8000000 in
theorem decideIntegers_walk (c : Cnd) (v : Value) (n k : Int) (hn0 : 0 ≤ n) (hn1 : n ≤ 65535) (hk0 : 0 ≤ k) (hk1 : k ≤ 65535) (w : World) (hv : RdC w v c) (hl : ∀ l ∈ c, l.length ≤ 140737488355328) (hm : MaxL w) :
    Calls Tryz.prog 10 #[v, .int .u16 n, .int .u16 k] w fun e w' => e = .returned (.bool true) ∧ Below w.heap.size w w' := by
  have HM := Lib.hid hm
  have HV := Lib.hid hv
  have HL := Lib.hid hl
  obtain ⟨a, cp, hva, _⟩ := hv.slice
  subst hva
  clear hm hv hl
  go_enter Tryz.func10, Tryz.ntmps10
  go_wp2_with fail
  refine (awake_d _ HM.out).mono ?_
  rintro e w1 ⟨rfl, b1⟩
  have B1 := Lib.hid b1
  have M1 := Lib.hid (HM.out.below b1)
  have V1 := Lib.hid (HV.out.below b1)
  have F1 := Lib.hid (fewL_any [c] _ _ (rdCs_one V1.out 23))
  have K1 := Lib.hid (below_al w1 (.cells #[.slice a c.length cp] 23))
  clear b1
  go_wp2_with fail
  refine F1.out.mono ?_
  rintro e w2 ⟨⟨bf, rfl, hf⟩, hw2⟩
  subst hw2
  have B2 := Lib.hid (st B1.out K1.out B1.out.size)
  have M2 := Lib.hid (M1.out.below K1.out)
  have V2 := Lib.hid (V1.out.below K1.out)
  have HF := Lib.hid hf
  clear hf F1
  obtain ⟨w3, hw3⟩ : ∃ x, w1.alloc (.cells #[.slice a c.length cp] 23) = x := ⟨_, rfl⟩
  rw [hw3] at B2 M2 V2
  rw [hw3]
  clear hw3 K1 B1 M1 V1
  cases bf with
  | false =>
    go_wp2_with fail
    refine (awake_d _ M2.out).mono ?_
    rintro e w4 ⟨rfl, b4⟩
    have B4 := Lib.hid (st B2.out b4 B2.out.size)
    clear b4
    go_wp2
    go_ret
    exact ⟨rfl, B4.out⟩
  | true =>
    have H30 : Hid (c.length ≤ 30) := Lib.hid ((HF.out rfl).2 c (List.mem_singleton.2 rfl))
    have HVA := Lib.hid (refValidC_any _ c w3 V2.out (cnt_few10 H30.out HL.out))
    obtain ⟨bv, hbv⟩ : ∃ b, okC c = b := ⟨_, rfl⟩
    rw [hbv] at HVA
    have HOK := Lib.hid hbv
    clear hbv
    go_wp2_with fail
    refine HVA.out.mono ?_
    rintro e w4 ⟨rfl, b4⟩
    have B4 := Lib.hid (st B2.out b4 B2.out.size)
    have M4 := Lib.hid (M2.out.below b4)
    have V4 := Lib.hid (V2.out.below b4)
    clear b4 HVA B2 M2 V2
    cases bv with
    | false =>
      go_wp2_with fail
      refine (awake_d _ M4.out).mono ?_
      rintro e w5 ⟨rfl, b5⟩
      have B5 := Lib.hid (st B4.out b5 B4.out.size)
      clear b5
      go_wp2
      go_ret
      exact ⟨rfl, B5.out⟩
    | true =>
      obtain ⟨n, rfl⟩ := Int.eq_ofNat_of_zero_le hn0
      obtain ⟨k, rfl⟩ := Int.eq_ofNat_of_zero_le hk0
      obtain ⟨A, hA⟩ : ∃ A, 101 + n = A := ⟨_, rfl⟩
      obtain ⟨C, hC⟩ : ∃ C, A + 300 * k = C := ⟨_, rfl⟩
      obtain ⟨D1, d1, l1, c1⟩ := decimalR_any A (by omega) w4
      have HC1 := Lib.hid c1
      have HD1 := Lib.hid d1
      have HL1 := Lib.hid l1
      have e1 : (101 : Int) + (n : Int) = (A : Int) := by omega
      have e2 : (A : Int) + 300 * (k : Int) = (C : Int) := by omega
      have HAC : Hid (100 < A ∧ 100 < C ∧ A % 300 = C % 300 ∧ C < 10000000000) := Lib.hid (by omega)
      clear c1 d1 l1 hA hC
      go_wp2_with fail
      refine HC1.out.mono ?_
      rintro e w5 ⟨rfl, b5⟩
      have B5 := Lib.hid (st B4.out b5 B4.out.size)
      have V5 := Lib.hid (V4.out.below b5)
      have HH := Lib.hid (holdsC_any _ c (ofL D1) (by rw [ofL_size]; have := HL1.out; omega) w5 V5.out (fun l hx => Nat.le_trans (HL.out l hx) (by decide)))
      have hs1 : holdR c (ofL D1).data.toList = (hldC D1 c, 0) := by
        have g := spl_of (HD1.out.good (by have := HL1.out; omega))
        rw [txt_whole] at g
        exact holdR_ok HOK.out (by rw [show (ofL D1).data.toList = D1 from rfl, g]; rfl)
      rw [hs1] at HH
      clear b5 HC1 hs1
      go_wp2_with fail
      refine HH.out.mono ?_
      rintro e w6 ⟨rfl, b6⟩
      have B6 := Lib.hid (st B5.out b6 B5.out.size)
      have V6 := Lib.hid (V5.out.below b6)
      clear b6 HH
      obtain ⟨D2, d2, l2, c2⟩ := decimalR_any C HAC.out.2.2.2 w6
      have HC2 := Lib.hid c2
      have HD2 := Lib.hid d2
      have HL2 := Lib.hid l2
      clear c2 d2 l2
      go_wp2_with fail
      refine HC2.out.mono ?_
      rintro e w7 ⟨rfl, b7⟩
      have B7 := Lib.hid (st B6.out b7 B6.out.size)
      have V7 := Lib.hid (V6.out.below b7)
      have HH := Lib.hid (holdsC_any _ c (ofL D2) (by rw [ofL_size]; have := HL2.out; omega) w7 V7.out (fun l hx => Nat.le_trans (HL.out l hx) (by decide)))
      have hs2 : holdR c (ofL D2).data.toList = (hldC D1 c, 0) := by
        have g := spl_of (HD2.out.good (by have := HL2.out; omega))
        rw [txt_whole] at g
        rw [hldC_far HOK.out HD1.out HD2.out (by have := HL1.out; omega) (by have := HL2.out; omega) HAC.out.1 HAC.out.2.1 HAC.out.2.2.1]
        exact holdR_ok HOK.out (by rw [show (ofL D2).data.toList = D2 from rfl, g]; rfl)
      rw [hs2] at HH
      clear b7 HC2 hs2
      obtain ⟨X, hX⟩ : ∃ b, hldC D1 c = b := ⟨_, rfl⟩
      rw [hX] at HH
      try rw [hX]
      clear hX
      go_wp2_with fail
      refine HH.out.mono ?_
      rintro e w8 ⟨rfl, b8⟩
      have B8 := Lib.hid (st B7.out b8 B7.out.size)
      clear b8 HH
      have hxx : (X == X) = true := beq_self_eq_true X
      go_wp2
      go_ret
      exact ⟨rfl, B8.out⟩
end Go.Proofs.YtfbfcomfkokfcaaGreatDoor


/- What the listed variables hold, and the world's shape, for the rows of law 10. -/
namespace Go.Proofs.YtfbfcomfkokfcaaGreatDoor
open Go.RowKit
set_option linter.unusedVariables false

noncomputable def laidL : List (String × DataW Unit) := Rows.decideIntegersRow.laid
theorem door_shaped (os : Os) (args : Array Value) : ((World.laidAll Tryz.prog os laidL).forCall (fun _ _ => 0) ⟨#[], args, []⟩).Shaped Tryz.prog := World.shaped_of_ZipB (by kernel_rfl) (by kernel_rfl)
theorem door_met (os : Os) (args : Array Value) : laidMetH Tryz.prog laidL ((World.laidAll Tryz.prog os laidL).forCall (fun _ _ => 0) ⟨#[], args, []⟩).memory := by
  rw [MakeChecks.laidMetH_plain _ _ _ (by kernel_rfl)]
  exact laidMet_laidAll _ (by kernel_rfl) (by kernel_rfl)
theorem env_of {W : World} (h : W.ShapedOpen Tryz.prog) : MaxL W := by
  obtain ⟨m, hm⟩ := cell_of_shapedOpen_int (P := Tryz.prog) (g := 0) (t := 3) (zero := #[.int .i64 0]) h (of_decide_eq_true (by kernel_rfl)) (by kernel_rfl) rfl (by kernel_rfl) (by kernel_rfl) Tryz.underlying3
  refine ⟨⟨m, hm⟩, ?_⟩
  rcases Nat.eq_zero_or_pos W.heap.size with h0 | h0
  · exfalso
    have : W.heap[0]? = none := Array.getElem?_eq_none (by omega)
    simp [World.cell?, this] at hm
  · exact h0
theorem u16_of_wf {x : Int} (h : (Lit.int .u16 x).wf = true) : 0 ≤ x ∧ x ≤ 65535 := by
  have h1 : IntKind.u16.min = 0 := rfl
  have h2 : IntKind.u16.max = 65535 := rfl
  simp only [Lit.wf, Bool.and_eq_true, decide_eq_true_eq] at h
  omega
section
variable {H : Type} {enc : TypeId × Value → H}
theorem handed_laid {a : Assume} {C : Checked} {os : Os} {f : FuncId} {fn : Func} {s : ChangeSpec} {conds : List PathCond} {apart fresh handsOn again : Bool} {X : World → Array Value → Prop}
    (hX : ∀ (w w' : World) (args : Array Value), w.heap = w'.heap → X w args → X w' args)
    (own : ownKnob C.prog.godebug = none) (started : os.Started) (noInit : C.prog.inits.idxOf? f = none) (hfn : C.prog.funcs[f]? = some fn)
    (witness : ∃ (w : World) (tape : Tape) (i : Input), w.os = os ∧ (w.forCall tape i).Shaped C.prog ∧ i.vars = [] ∧ Input.okWide C.prog (w.forCall tape i) .any w.heap.size f i ∧
      ((s.pre enc C.prog fn conds apart (w.forCall tape i).memory i.args ∧ X (w.forCall tape i).memory i.args) ∧ sizedMet enc C.prog fn (OpenSpec.ofChange s) apart (w.forCall tape i).memory i.args) ∧ a.holds C.prog (lone (Frame.enter C.prog f i.args .normal) [] (w.forCall tape i)))
    (contract : ∀ (W : World) (base : Nat) (args : Array Value) (ds gs : List (DataW H)) (before : List MemPlace),
      (∀ (j : Nat) t v, fn.params[j]? = some t → args[j]? = some v → Value.okWide C.prog W .any base t v) →
      DataW.Whole enc C.prog fn.params.toList s.vars apart W args.toList ds gs before →
      conds.all (PathCond.test C.prog ⟨fn.params.toList, ds, s.plain.varTypes C.prog, gs⟩) = true →
      (DataW.weightsEach C.prog (fn.params.toList ++ s.plain.varTypes C.prog) (ds ++ gs)).all (· ≤ reachBytes) = true → W.ShapedOpen C.prog → X W args →
      a.holds C.prog (lone (Frame.enter C.prog f args .normal) [] W) →
      Calls C.prog f args W fun e W' => ∃ v, e = .returned v ∧ s.post enc C.prog fn apart fresh handsOn again W args v W') :
    ReturnsInHanded a C os f .any (fun w args => (s.pre enc C.prog fn conds apart w args ∧ X w args) ∧ sizedMet enc C.prog fn (OpenSpec.ofChange s) apart w args) (s.post enc C.prog fn apart fresh handsOn again) := by
  refine returnsInHanded_of_calls own started noInit witness ?_
  intro w tape i _ hsh _ hok hpre hholds
  obtain ⟨_, _, _, fn', hfn', _, _, _, _, hval⟩ := hok
  have e : fn' = fn := Option.some.inj (hfn'.symm.trans hfn)
  subst e
  obtain ⟨⟨⟨ds, gs, before, hw, hc⟩, hx⟩, hz⟩ := hpre
  have hw' := DataW.Whole.of_heap (w' := w.forCall tape i) (by rfl) hw
  refine (contract (w.forCall tape i) w.heap.size i.args ds gs before hval hw' hc (hz.weights hw) hsh (hX _ _ _ (by rfl) hx) hholds).mono fun e W' ⟨v, he, hp⟩ => ?_
  subst he
  exact ChangeSpec.post_blind hp
end
end Go.Proofs.YtfbfcomfkokfcaaGreatDoor


