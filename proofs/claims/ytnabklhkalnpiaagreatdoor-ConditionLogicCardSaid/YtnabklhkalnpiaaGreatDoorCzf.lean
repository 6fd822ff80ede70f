/- Of condition: the parser's span. -/
import Derived.Test.YtnabklhkalnpiaaGreatDoorCze
namespace Go.Proofs.YtnabklhkalnpiaaGreatDoor
open Go.RowKit
set_option linter.unusedVariables false

def stA (op : Int) (k : Nat) (n : Int) (o : Option Pst) : Option Pst := (reqO (decide (k < 4)) (reqO (okEnd op n) (numO o))).map nxt
theorem numO_yes {p : Pst} (h : isNum p.tok = true) : numO (some p) = some p := by
  show (if isNum p.tok = true then some p else none) = some p
  rw [if_pos h]
theorem numO_no {p : Pst} (h : isNum p.tok ≠ true) : numO (some p) = none := by
  show (if isNum p.tok = true then some p else none) = none
  rw [if_neg h]
theorem stA_cases {op : Int} {k : Nat} {n : Int} {p : Pst} (hn : ∀ q, numO (some p) = some q → n = (val q.tok : Int)) :
    (isNum p.tok = true ∧ okEnd op (val p.tok) = true ∧ k < 4 ∧ n = (val p.tok : Int) ∧ stA op k n (some p) = some (nxt p)) ∨ (¬ (isNum p.tok = true ∧ okEnd op (val p.tok) = true ∧ k < 4) ∧ stA op k n (some p) = none) := by
  unfold stA
  by_cases h1 : isNum p.tok = true
  · have e := hn p (numO_yes h1)
    rw [numO_yes h1, e]
    by_cases h2 : okEnd op (val p.tok) = true
    · have hr : reqO (okEnd op (val p.tok)) (some p) = some p := by rw [h2, reqO_true]
      rw [hr]
      by_cases h3 : k < 4
      · rw [decide_eq_true h3, reqO_true]
        exact .inl ⟨h1, h2, h3, rfl, rfl⟩
      · rw [decide_eq_false h3, reqO_false]
        exact .inr ⟨fun h => h3 h.2.2, rfl⟩
    · have h2' : okEnd op (val p.tok) = false := by cases h : okEnd op (val p.tok) with | false => rfl | true => exact absurd h h2
      have hr : reqO (okEnd op (val p.tok)) (some p) = none := by rw [h2', reqO_false]
      rw [hr, reqO_none]
      exact .inr ⟨fun h => h2 h.2.1, rfl⟩
  · rw [numO_no h1, reqO_none, reqO_none]
    exact .inr ⟨fun h => h1 h.1, rfl⟩
theorem stA_none (op : Int) (k : Nat) (n : Int) : stA op k n none = none := by
  unfold stA
  rw [show numO none = none from rfl, reqO_none, reqO_none, Option.map_none]
theorem spanA {op : Int} {k : Nat} {n : Int} {o : Option Pst} (hn : ∀ q, numO o = some q → n = (val q.tok : Int)) (ht : isTok [46, 46] (stA op k n o) = false) :
    (o.bind (spanM op k)).map (·.2) = stA op k n o ∧ ∀ s q, o.bind (spanM op k) = some (s, q) → n = s.1 ∧ n = s.2 := by
  cases o with
  | none =>
    rw [stA_none]
    exact ⟨rfl, fun s q h => by cases h⟩
  | some p =>
    rw [Option.bind_some]
    rcases stA_cases hn with ⟨h1, h2, h3, h4, h5⟩ | ⟨h1, h5⟩
    · rw [h5] at ht ⊢
      have ht2 : ¬ (nxt p).tok = [46, 46] := of_decide_eq_false ht
      unfold spanM
      rw [if_pos ⟨h1, h2, h3⟩, if_neg ht2]
      refine ⟨rfl, fun s q h => ?_⟩
      injection h with h
      injection h with e1 e2
      subst e1
      exact ⟨h4, h4⟩
    · rw [h5]
      unfold spanM
      rw [if_neg h1]
      exact ⟨rfl, fun s q h => by cases h⟩
theorem spanB {op : Int} {k : Nat} {n n2 : Int} {o : Option Pst} (hn : ∀ q, numO o = some q → n = (val q.tok : Int)) (ht : isTok [46, 46] (stA op k n o) = true) (hn2 : ∀ q, numO ((stA op k n o).map nxt) = some q → n2 = (val q.tok : Int)) :
    (o.bind (spanM op k)).map (·.2) = (reqO (okEnd op n2 && decide (n ≤ n2)) (numO ((stA op k n o).map nxt))).map nxt ∧ ∀ s q, o.bind (spanM op k) = some (s, q) → n = s.1 ∧ n2 = s.2 := by
  cases o with
  | none =>
    rw [stA_none] at ht
    cases ht
  | some p =>
    rw [Option.bind_some]
    rcases stA_cases hn with ⟨h1, h2, h3, h4, h5⟩ | ⟨h1, h5⟩
    · rw [h5] at ht hn2 ⊢
      have ht2 : (nxt p).tok = [46, 46] := of_decide_eq_true ht
      rw [Option.map_some] at hn2 ⊢
      unfold spanM
      rw [if_pos ⟨h1, h2, h3⟩, if_pos ht2]
      by_cases g1 : isNum (nxt (nxt p)).tok = true
      · have e := hn2 _ (numO_yes g1)
        rw [numO_yes g1, e]
        by_cases g2 : okEnd op (val (nxt (nxt p)).tok) = true
        · by_cases g3 : val p.tok ≤ val (nxt (nxt p)).tok
          · rw [if_pos ⟨g1, g2, g3⟩, g2, decide_eq_true (by omega : n ≤ (val (nxt (nxt p)).tok : Int))]
            refine ⟨rfl, fun s q h => ?_⟩
            injection h with h
            injection h with e1 e2
            subst e1
            exact ⟨h4, rfl⟩
          · rw [if_neg (fun h => g3 h.2.2), decide_eq_false (by omega : ¬ n ≤ (val (nxt (nxt p)).tok : Int)), Bool.and_false, reqO_false]
            exact ⟨rfl, fun s q h => by cases h⟩
        · have g2' : okEnd op (val (nxt (nxt p)).tok) = false := by cases h : okEnd op (val (nxt (nxt p)).tok) with | false => rfl | true => exact absurd h g2
          rw [if_neg (fun h => g2 h.2.1), g2', Bool.false_and, reqO_false]
          exact ⟨rfl, fun s q h => by cases h⟩
      · rw [if_neg (fun h => g1 h.1), numO_no g1, reqO_none]
        exact ⟨rfl, fun s q h => by cases h⟩
    · rw [h5] at ht
      cases ht
theorem But.setNew {g B i : Nat} {w w9 : World} (h : But g w w9) (hB : w.heap.size ≤ B) (u : Value) : But g w (w9.setCell ⟨B, i, none⟩ u) :=
  ⟨h.os, h.tape, h.output, by simp [World.setCell]; exact h.size, fun k hk hg => (Below.heap_setCell w9 ⟨B, i, none⟩ u k (by show k ≠ B; omega)).trans (h.block k hk hg)⟩
theorem PS.setNew {w0 : World} {g B i : Nat} {text : ByteArray} {o : Option Pst} {w : World} (h : PS w0 g text o w) (hB : B ≠ g) (hB0 : w0.heap.size ≤ B) (u : Value) : PS w0 g text o (w.setCell ⟨B, i, none⟩ u) :=
  h.same (Below.heap_setCell w ⟨B, i, none⟩ u g (by show g ≠ B; exact fun e => hB e.symm)) (h.low.setCell (p := ⟨B, i, none⟩) hB0 u)
def SpP (w0 : World) (g : Nat) (text : ByteArray) (R : Option ((Int × Int) × Pst)) (w : World) (e : Ending) (w' : World) : Prop := (∃ x y : Int, e = .returned (.agg #[.int .i64 x, .int .i64 y]) ∧ ∀ s q, R = some (s, q) → x = s.1 ∧ y = s.2) ∧ PS w0 g text (R.map (·.2)) w' ∧ But g w w'
theorem resSp {W : World} {tm : Array Value} {B : Nat} {t : TypeId} {a b : Value} (t4 : tm[4]?.getD undef = .pointer (some ⟨B, 0, none⟩)) (h : Blk B t #[a, b] W) :
    (results Tryz.f103 tm).run Tryz.prog W = .ok (.agg #[a, b]) W := by
  have a0 : W.cell? ⟨B, 0, none⟩ = some a := h.cell 0
  have a1 : W.cell? ⟨B, 1, none⟩ = some b := h.cell 1
  simp [results, Tryz.f103, go_sem, t4, a0, a1]
set_option maxRecDepth 1000000 in
set_option maxHeartbeats 8000000 in
theorem span_any (w0 : World) (E : Env w0) (g : Nat) (text : ByteArray) (hT : text.size ≤ 1000000) (o : Option Pst) (op md : Int) (nt : Bool) (a : Option Addr) (k c : Nat) (w : World) (h : PS w0 g text o w) :
    Calls Tryz.prog 103 #[.pointer (some ⟨g, 0, none⟩), .agg #[.int .i64 op, .int .i64 md, .bool nt, .slice a k c]] w (SpP w0 g text (o.bind (spanM op k)) w) := by
  have hlt := h.lt
  have hbs := h.base
  have BA := ((Below.refl w.heap.size w).alloc (Nat.le_refl _) (.cells #[.int .i64 op, .int .i64 md, .bool nt, .slice a k c] 38)).alloc (by simp) (.cells #[.int .i64 0, .int .i64 0] 42)
  have KR := (Blk.new w 38 #[.int .i64 op, .int .i64 md, .bool nt, .slice a k c]).alloc (.cells #[.int .i64 0, .int .i64 0] 42)
  have KS := Blk.new (w.alloc (.cells #[.int .i64 op, .int .i64 md, .bool nt, .slice a k c] 38)) 42 #[.int .i64 0, .int .i64 0]
  rw [World.size_alloc] at KS
  have PA := h.below BA
  obtain ⟨wa, hwa⟩ : ∃ wa, (w.alloc (.cells #[.int .i64 op, .int .i64 md, .bool nt, .slice a k c] 38)).alloc (.cells #[.int .i64 0, .int .i64 0] 42) = wa := ⟨_, rfl⟩
  rw [hwa] at BA KR KS PA
  have HBA := Lib.hid BA
  have HKR := Lib.hid KR
  have HKS := Lib.hid KS
  have HPA := Lib.hid PA
  have HCELL : Hid (∀ wx, But g wa wx → wx.cell? ⟨w.heap.size, 0, none⟩ = some (.int .i64 op) ∧ wx.cell? ⟨w.heap.size, 3, none⟩ = some (.slice a k c)) := Lib.hid (fun wx hb => ⟨(KR.but hb (by omega)).cell 0, (KR.but hb (by omega)).cell 3⟩)
  have HFIN : Hid (∀ (R : Option ((Int × Int) × Pst)) (wx : World) (x y : Int), PS w0 g text (R.map (·.2)) wx → But g wa wx → (∀ s q, R = some (s, q) → x = s.1 ∧ y = s.2) → SpP w0 g text R w (.returned (.agg #[.int .i64 x, .int .i64 y])) ((wx.setCell ⟨w.heap.size + 1, 0, none⟩ (.int .i64 x)).setCell ⟨w.heap.size + 1, 1, none⟩ (.int .i64 y)) ∧ Blk (w.heap.size + 1) 42 #[.int .i64 x, .int .i64 y] ((wx.setCell ⟨w.heap.size + 1, 0, none⟩ (.int .i64 x)).setCell ⟨w.heap.size + 1, 1, none⟩ (.int .i64 y))) := Lib.hid (fun R wx x y hp hb hv => by
    have hb2 : But g w wx := (But.of_below (g := g) BA).trans hb
    refine ⟨⟨⟨x, y, rfl, hv⟩, (hp.setNew (by omega) (by omega) _).setNew (by omega) (by omega) _, (hb2.setNew (by omega) _).setNew (by omega) _⟩, ?_⟩
    exact ((KS.but hb (by omega)).put 0 (.int .i64 x)).put 1 (.int .i64 y))
  have HFZ : Hid (∀ wx, But g wa wx → ∀ i, wx.frozen? ⟨w.heap.size + 1, i, none⟩ = false) := Lib.hid (fun wx hb i => (KS.but hb (by omega)).frozen i)
  have HSC : Hid (∀ wx, But g wa wx → wx.cell? ⟨w.heap.size + 1, 0, none⟩ = some (.int .i64 0) ∧ wx.cell? ⟨w.heap.size + 1, 1, none⟩ = some (.int .i64 0)) := Lib.hid (fun wx hb => ⟨(KS.but hb (by omega)).cell 0, (KS.but hb (by omega)).cell 1⟩)
  clear h hbs BA KR KS PA
  go_enter Tryz.func103, Tryz.ntmps103
  go_wp2_with fail
  try rw [hwa]
  refine (number_any w0 E g text hT o _ HPA.out).mono ?_
  rintro e w1 ⟨⟨n, rfl, hn⟩, p1, b1⟩
  have P1 := Lib.hid p1
  have B1 := Lib.hid b1
  have HN := Lib.hid hn
  obtain ⟨c0, c3⟩ := HCELL.out _ b1
  clear p1 b1 hn hwa
  go_wp2_with fail
  refine (isEnd_any op n _).mono ?_
  rintro e w' ⟨rfl, hw'⟩
  obtain rfl := hw'.symm
  go_wp2_with fail
  refine (require_any w0 g text _ (okEnd op n) 2 (by decide) _ P1.out).mono ?_
  rintro e w2 ⟨⟨rfl, p2, b2⟩, _⟩
  have P2 := Lib.hid p2
  have B2 := Lib.hid (B1.out.trans b2)
  obtain ⟨d0, d3⟩ := HCELL.out _ B2.out
  clear p2 b2 c0 c3
  have HK4 : Hid (decide ((k : Int) < 4) = decide (k < 4)) := Lib.hid (by rw [Bool.eq_iff_iff, decide_eq_true_eq, decide_eq_true_eq]; omega)
  obtain ⟨bk, hbk⟩ : ∃ bk, decide (k < 4) = bk := ⟨_, rfl⟩
  have HBK := Lib.hid hbk
  have u4 : decide ((k : Int) < 4) = bk := by rw [HK4.out]; exact hbk
  clear hbk
  go_wp2_with fail
  refine (require_any w0 g text _ bk 6 (by decide) _ P2.out).mono ?_
  rintro e w3 ⟨⟨rfl, p3, b3⟩, _⟩
  have P3 := Lib.hid p3
  have B3 := Lib.hid (B2.out.trans b3)
  clear p3 b3 d0 d3 u4
  go_wp2_with fail
  refine (next_any w0 g text hT _ _ P3.out).mono ?_
  rintro e w4 ⟨rfl, p4, b4⟩
  have P4 : Hid (PS w0 g text (stA op k n o) w4) := Lib.hid (by unfold stA; rw [HBK.out]; exact p4)
  have B4 := Lib.hid (B3.out.trans b4)
  clear p4 b4
  go_wp2_with fail
  refine (accept_any w0 g text hT _ ⟨#[46, 46]⟩ _ P4.out).mono ?_
  rintro e w5 ⟨rfl, p5, b5⟩
  rw [show (ByteArray.mk #[46, 46]).data.toList = [46, 46] from rfl] at p5 ⊢
  have B5 := Lib.hid (B4.out.trans b5)
  obtain ⟨bt, hbt⟩ : ∃ bt, isTok [46, 46] (stA op k n o) = bt := ⟨_, rfl⟩
  have HBT := Lib.hid hbt
  rw [hbt]
  cases bt with
  | false =>
    have P5 : Hid (PS w0 g text (stA op k n o) w5) := Lib.hid (by unfold accO at p5; rw [if_neg (by rw [hbt]; simp)] at p5; exact p5)
    obtain ⟨e1, e2⟩ := spanA HN.out HBT.out
    have HE1 := Lib.hid e1
    have HE2 := Lib.hid e2
    obtain ⟨s0, s1⟩ := HSC.out _ B5.out
    have fz := HFZ.out _ B5.out
    clear p5 b5 hbt e1 e2
    go_wp2
    obtain ⟨f1, f2⟩ := HFIN.out (o.bind (spanM op k)) w5 n n (by rw [HE1.out]; exact P5.out) B5.out HE2.out
    exact bodyPost_ret (v := .agg #[.int .i64 n, .int .i64 n]) (resSp rfl f2) rfl f1
  | true =>
    have P5 : Hid (PS w0 g text ((stA op k n o).map nxt) w5) := Lib.hid (by unfold accO at p5; rw [if_pos hbt] at p5; exact p5)
    clear p5 b5 hbt
    go_wp2_with fail
    refine (number_any w0 E g text hT _ _ P5.out).mono ?_
    rintro e w6 ⟨⟨n2, rfl, hn2⟩, p6, b6⟩
    have P6 := Lib.hid p6
    have B6 := Lib.hid (B5.out.trans b6)
    obtain ⟨e1, e2⟩ := spanB HN.out HBT.out hn2
    have HE1 := Lib.hid e1
    have HE2 := Lib.hid e2
    obtain ⟨c0, c3⟩ := HCELL.out _ B6.out
    clear p6 b6 hn2 e1 e2
    go_wp2_with fail
    refine (isEnd_any op n2 _).mono ?_
    rintro e w' ⟨rfl, hw'⟩
    obtain rfl := hw'.symm
    obtain ⟨be, hbe⟩ : ∃ be, okEnd op n2 = be := ⟨_, rfl⟩
    rw [hbe] at HE1 ⊢
    clear hbe

    cases be with
    | false =>
      have HEF : Hid ((o.bind (spanM op k)).map (·.2) = (reqO false (numO ((stA op k n o).map nxt))).map nxt) := Lib.hid HE1.out
      go_wp2_with fail
      refine (require_any w0 g text _ false 2 (by decide) _ P6.out).mono ?_
      rintro e w7 ⟨⟨rfl, p7, b7⟩, _⟩
      have P7 := Lib.hid p7
      have B7 := Lib.hid (B6.out.trans b7)
      clear p7 b7 c0 c3
      go_wp2_with fail
      refine (next_any w0 g text hT _ _ P7.out).mono ?_
      rintro e w8 ⟨rfl, p8, b8⟩
      have P8 := Lib.hid p8
      have B8 := Lib.hid (B7.out.trans b8)
      obtain ⟨s0, s1⟩ := HSC.out _ B8.out
      have fz := HFZ.out _ B8.out
      clear p8 b8
      go_wp2
      obtain ⟨f1, f2⟩ := HFIN.out (o.bind (spanM op k)) w8 n n2 (by rw [HEF.out]; exact P8.out) B8.out HE2.out
      exact bodyPost_ret (v := .agg #[.int .i64 n, .int .i64 n2]) (resSp rfl f2) rfl f1
    | true =>
      obtain ⟨bl, hbl⟩ : ∃ bl, decide (n ≤ n2) = bl := ⟨_, rfl⟩
      have HEF : Hid ((o.bind (spanM op k)).map (·.2) = (reqO bl (numO ((stA op k n o).map nxt))).map nxt) := Lib.hid (by rw [HE1.out, hbl]; rfl)
      go_wp2_with fail
      refine (require_any w0 g text _ bl 2 (by decide) _ P6.out).mono ?_
      rintro e w7 ⟨⟨rfl, p7, b7⟩, _⟩
      have P7 := Lib.hid p7
      have B7 := Lib.hid (B6.out.trans b7)
      clear p7 b7 c0 c3
      go_wp2_with fail
      refine (next_any w0 g text hT _ _ P7.out).mono ?_
      rintro e w8 ⟨rfl, p8, b8⟩
      have P8 := Lib.hid p8
      have B8 := Lib.hid (B7.out.trans b8)
      obtain ⟨s0, s1⟩ := HSC.out _ B8.out
      have fz := HFZ.out _ B8.out
      clear p8 b8
      go_wp2
      obtain ⟨f1, f2⟩ := HFIN.out (o.bind (spanM op k)) w8 n n2 (by rw [HEF.out]; exact P8.out) B8.out HE2.out
      exact bodyPost_ret (v := .agg #[.int .i64 n, .int .i64 n2]) (resSp rfl f2) rfl f1
end Go.Proofs.YtnabklhkalnpiaaGreatDoor
