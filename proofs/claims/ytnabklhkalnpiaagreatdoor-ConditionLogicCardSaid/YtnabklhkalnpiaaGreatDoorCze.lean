/- Of condition: the parser in memory; next, require, accept. Of condition: the parser's require, accept, number. Of condition: the parser's operand, span. -/
import Derived.Test.YtnabklhkalnpiaaGreatDoorCzb
namespace Go.Proofs.YtnabklhkalnpiaaGreatDoor
open Go.RowKit
set_option linter.unusedVariables false

theorem wrap_fit {x : Int} (h0 : -9223372036854775808 ≤ x) (h1 : x ≤ 9223372036854775807) : IntKind.i64.wrap x = x := by
  rw [IntKind.wrap_i64]; omega
theorem region_stail {P : Program} {w : World} {id : Nat} {Q : Exit → Act → World → Prop} {a : Act} {l : List Oper} (k : Nat) (hm : P.follows .mixedOrders = true) (hB : Region.lexTailB .any l.toArray k = true)
    (h : wpStill P l.toArray (w.drewN 1) (fun a' => wpList P l.toArray Q (l.drop k) a' (w.drewN 1)) (l.take k) a) : (Code.region id l.toArray true).wp P Q a w := wp_region_still_tail k hm hB h
/-- The parser, behind a pointer: good, in a state; or failed. -/
structure PS (w0 : World) (g : Nat) (text : ByteArray) (o : Option Pst) (w : World) : Prop where
  base : w0.heap.size ≤ g
  low : Below w0.heap.size w0 w
  st : ∃ (tok rest pre : Str) (rel f : Int), Blk g 60 #[.string text, .string (ofL tok), .int .i64 (pre.length : Nat), .int .i64 rel, .int .i64 f] w ∧ text.data.toList = pre ++ (tok ++ rest) ∧ (match o with
    | none => f ≠ 0
    | some p => f = 0 ∧ tok = p.tok ∧ rest = p.rest ∧ rel = (p.n : Int))
theorem PS.lt {w0 : World} {g : Nat} {text : ByteArray} {o : Option Pst} {w : World} (h : PS w0 g text o w) : g < w.heap.size := by
  obtain ⟨_, _, _, _, _, hb, _⟩ := h.st
  exact hb.lt
theorem PS.same {w0 : World} {g : Nat} {text : ByteArray} {o : Option Pst} {w w' : World} (h : PS w0 g text o w) (hg : w'.heap[g]? = w.heap[g]?) (hl : Below w0.heap.size w0 w') : PS w0 g text o w' := by
  obtain ⟨tok, rest, pre, rel, f, hb, h1, h2⟩ := h.st
  exact ⟨h.base, hl, tok, rest, pre, rel, f, hg.trans hb, h1, h2⟩
theorem PS.below {w0 : World} {g : Nat} {text : ByteArray} {o : Option Pst} {w w' : World} (h : PS w0 g text o w) (hb : Below w.heap.size w w') : PS w0 g text o w' :=
  h.same (hb.block g h.lt) (h.low.trans (hb.mono h.low.size))
theorem PS.good {w0 : World} {g : Nat} {text : ByteArray} {p : Pst} {w : World} (h : PS w0 g text (some p) w) : ∃ pre : Str, Blk g 60 #[.string text, .string (ofL p.tok), .int .i64 (pre.length : Nat), .int .i64 (p.n : Nat), .int .i64 0] w ∧ text.data.toList = pre ++ (p.tok ++ p.rest) := by
  obtain ⟨tok, rest, pre, rel, f, hb, h1, rfl, rfl, rfl, rfl⟩ := h.st
  exact ⟨pre, hb, h1⟩
theorem PS.bad {w0 : World} {g : Nat} {text : ByteArray} {w : World} (h : PS w0 g text none w) : ∃ (tok rest pre : Str) (rel f : Int), Blk g 60 #[.string text, .string (ofL tok), .int .i64 (pre.length : Nat), .int .i64 rel, .int .i64 f] w ∧ text.data.toList = pre ++ (tok ++ rest) ∧ f ≠ 0 := h.st
theorem PS.mk_good {w0 : World} {g : Nat} {text : ByteArray} {p : Pst} {w : World} {pre : Str} (hb : w0.heap.size ≤ g) (hl : Below w0.heap.size w0 w) (hk : Blk g 60 #[.string text, .string (ofL p.tok), .int .i64 (pre.length : Nat), .int .i64 (p.n : Nat), .int .i64 0] w) (ht : text.data.toList = pre ++ (p.tok ++ p.rest)) : PS w0 g text (some p) w :=
  ⟨hb, hl, _, _, pre, _, _, hk, ht, rfl, rfl, rfl, rfl⟩
theorem PS.mk_bad {w0 : World} {g : Nat} {text : ByteArray} {w : World} {tok rest pre : Str} {rel f : Int} (hb : w0.heap.size ≤ g) (hl : Below w0.heap.size w0 w) (hk : Blk g 60 #[.string text, .string (ofL tok), .int .i64 (pre.length : Nat), .int .i64 rel, .int .i64 f] w) (ht : text.data.toList = pre ++ (tok ++ rest)) (hf : f ≠ 0) : PS w0 g text none w :=
  ⟨hb, hl, tok, rest, pre, rel, f, hk, ht, hf⟩
/-- The current token, whether the parser is good or not. -/
theorem PS.tok {w0 : World} {g : Nat} {text : ByteArray} {o : Option Pst} {w : World} (h : PS w0 g text o w) : ∃ (tok : Str) (f : Int), w.cell? ⟨g, 1, none⟩ = some (.string (ofL tok)) ∧ w.cell? ⟨g, 4, none⟩ = some (.int .i64 f) ∧ tok.length ≤ text.size ∧ (f = 0 ↔ o.isSome = true) ∧ ∀ p, o = some p → p.tok = tok := by
  obtain ⟨tok, rest, pre, rel, f, hb, h1, h2⟩ := h.st
  refine ⟨tok, f, hb.cell 1, hb.cell 4, ?_, ?_, ?_⟩
  · have := congrArg List.length h1
    rw [len_data, List.length_append, List.length_append] at this
    omega
  · cases o with
    | none => simp; exact h2
    | some p => simp; exact h2.1
  · intro p hp
    subst hp
    exact h2.2.1.symm
theorem But.lowB {w0 w w' : World} {g : Nat} (h : But g w w') (hb : w0.heap.size ≤ g) (hl : Below w0.heap.size w0 w) : Below w0.heap.size w0 w' := hl.trans (h.below hb hl.size)
theorem keep_store {g : Nat} {text : ByteArray} {wx : World} (i : Nat) (hi : i ≠ 0) (u : Value) (h : wx.cell? ⟨g, 0, none⟩ = some (.string text) ∧ wx.frozen? ⟨g, 1, none⟩ = false ∧ wx.frozen? ⟨g, 2, none⟩ = false) :
    (wx.setCell ⟨g, i, none⟩ u).cell? ⟨g, 0, none⟩ = some (.string text) ∧ (wx.setCell ⟨g, i, none⟩ u).frozen? ⟨g, 1, none⟩ = false ∧ (wx.setCell ⟨g, i, none⟩ u).frozen? ⟨g, 2, none⟩ = false := by
  refine ⟨?_, ?_, ?_⟩
  · rw [World.cell?_setCell_other _ _ _ _ (by intro e; injection e with _ e2 _; first | exact hi e2 | exact hi e2.symm)]
    exact h.1
  · rw [World.frozen?_setCell]; exact h.2.1
  · rw [World.frozen?_setCell]; exact h.2.2
def NxPost (w0 : World) (g : Nat) (text : ByteArray) (o : Option Pst) (w : World) (e : Ending) (w' : World) : Prop := e = .returned (.tuple #[]) ∧ PS w0 g text o w' ∧ But g w w'
theorem skip_split (r : Str) : r = r.takeWhile isW ++ r.dropWhile isW := (List.takeWhile_append_dropWhile).symm
set_option maxRecDepth 1000000 in
set_option maxHeartbeats 4000000 in
theorem next_any (w0 : World) (g : Nat) (text : ByteArray) (hT : text.size ≤ 1000000) (o : Option Pst) (w : World) (h : PS w0 g text o w) :
    Calls Tryz.prog 35 #[.pointer (some ⟨g, 0, none⟩)] w (NxPost w0 g text (o.map nxt) w) := by
  cases o with
  | none =>
    have H := Lib.hid h
    obtain ⟨tok, rest, pre, rel, f, hb, h1, hf⟩ := h.bad
    have c4 : w.cell? ⟨g, 4, none⟩ = some (.int .i64 f) := hb.cell 4
    have e1 : (f == 0) = false := by rw [beq_eq_false_iff_ne]; exact hf
    have e2 : (f != 0) = true := by rw [bne_iff_ne]; exact hf
    clear h hb h1 hf
    go_enter Tryz.func35, Tryz.ntmps35
    go_wp2
    go_end0
    exact ⟨rfl, H.out, But.refl _ _⟩
  | some p =>
    obtain ⟨pre, hb, h1⟩ := h.good
    have HB := Lib.hid hb
    have H1 := Lib.hid h1
    have HBS := Lib.hid h.base
    have HLW := Lib.hid h.low
    have hlen := congrArg List.length h1
    rw [len_data, List.length_append, List.length_append] at hlen
    have c0 : w.cell? ⟨g, 0, none⟩ = some (.string text) := hb.cell 0
    have c1 : w.cell? ⟨g, 1, none⟩ = some (.string (ofL p.tok)) := hb.cell 1
    have c2 : w.cell? ⟨g, 2, none⟩ = some (.int .i64 (pre.length : Nat)) := hb.cell 2
    have c4 : w.cell? ⟨g, 4, none⟩ = some (.int .i64 0) := hb.cell 4
    have hsz := ofL_size p.tok
    have HX : Hid ((text.extract (pre.length + p.tok.length) text.size).data.toList = p.rest) := Lib.hid (by
      rw [ext_of, ofL_list, h1, List.drop_append, List.drop_eq_nil_of_le (by omega), List.nil_append, show pre.length + p.tok.length - pre.length = p.tok.length by omega, List.drop_left]
      exact List.take_of_length_le (by omega))
    obtain ⟨L, hL⟩ : ∃ L, pre.length = L := ⟨_, rfl⟩
    have HL := Lib.hid hL
    rw [hL] at c2 hlen HX
    obtain ⟨M, hM⟩ : ∃ M, p.tok.length = M := ⟨_, rfl⟩
    rw [hM] at hlen HX hsz
    clear h hb h1 hL hM
    obtain ⟨tk, htk⟩ : ∃ tk, ofL p.tok = tk := ⟨_, rfl⟩
    rw [htk] at c1 hsz
    clear htk
    obtain ⟨C, hC⟩ : ∃ C, L + M = C := ⟨_, rfl⟩
    have hK : (L : Int) + (M : Int) = (C : Int) := by omega
    have q0 : IntKind.i64.wrap (C : Int) = (C : Int) := wrap_fit (by omega) (by omega)
    have q1 : (C : Int) ≤ (text.size : Int) := by omega
    have q2 : C ≤ text.size := by omega
    rw [hC] at HX
    have HC := Lib.hid hC
    have HLEN := Lib.hid hlen
    clear hC hlen
    go_enter Tryz.func35, Tryz.ntmps35
    go_wp2_with fail
    have d0 : w.drew.cell? ⟨g, 0, none⟩ = some (.string text) := c0
    have d1 : w.drew.cell? ⟨g, 1, none⟩ = some (.string tk) := c1
    have d2 : w.drew.cell? ⟨g, 2, none⟩ = some (.int .i64 (L : Int)) := c2
    refine region_stail 15 (by kernel_rfl) (by decide +kernel) ?_
    simp only [List.take_succ_cons, List.take_zero, List.drop_succ_cons, List.drop_zero]
    iterate 15 still_step
    refine wpStill_nil ?_
    go_wp2_with fail
    refine (trimLeft_any _ _).mono ?_
    rintro e w5 ⟨rfl, b5⟩
    have B5 : Below w.heap.size w w5 := (below_drewN (Below.refl _ w) 1).trans b5
    have y0 := cell_later c0 B5
    clear b5 d0 d1 d2
    obtain ⟨T2, hT2⟩ : ∃ T2, ofL ((text.extract C text.size).data.toList.dropWhile isW) = T2 := ⟨_, rfl⟩
    have HT2 : Hid (T2.data.toList = p.rest.dropWhile isW) := Lib.hid (by rw [← hT2, ofL_list, HX.out])
    rw [hT2]
    clear hT2
    have hlen := HLEN.out
    have hskip := congrArg List.length (skip_split p.rest)
    rw [List.length_append, ← HT2.out, len_data] at hskip
    obtain ⟨A, hA⟩ : ∃ A, text.size - T2.size = A := ⟨_, rfl⟩
    have HA := Lib.hid hA
    have q3 : IntKind.i64.wrap (A : Int) = (A : Int) := wrap_fit (by omega) (by omega)
    have hk2 : (text.size : Int) - (T2.size : Int) = (A : Int) := by omega
    have hT3 : T2.size ≤ 1000000 := by omega
    have hn := tokN_le T2.data.toList
    rw [len_data] at hn
    obtain ⟨n, hnn⟩ : ∃ n, tokN T2.data.toList = n := ⟨_, rfl⟩
    have HTS : Hid (∀ wx, Calls Tryz.prog 61 #[.string T2] wx fun e w' => e = .returned (.int .i64 (n : Int)) ∧ w' = wx) := Lib.hid (fun wx => by rw [← hnn]; exact tokenSize_any T2 hT3 wx)
    rw [hnn] at hn
    have HN := Lib.hid hnn
    have q4 : (n : Int) ≤ (T2.size : Int) := by omega
    clear hnn hskip hA hlen
    have y4 := HB.out.frozen
    have KB5 := Lib.hid (HB.out.below B5)
    have HB5 := Lib.hid B5
    have z1 : w5.frozen? ⟨g, 1, none⟩ = false := KB5.out.frozen 1
    have z2 : w5.frozen? ⟨g, 2, none⟩ = false := KB5.out.frozen 2
    clear y4 B5 c0 c1 c2 c4
    go_upto_region 2 with fail
    obtain ⟨T3, hT3e⟩ : ∃ T3, T2.extract 0 n = T3 := ⟨_, rfl⟩
    have HT3 := Lib.hid hT3e
    have g2 : w5.drew.cell? ⟨g, 2, none⟩ = some (.int .i64 ((pre.length : Nat) : Int)) := KB5.out.cell 2
    have g1 : (w5.drew.setCell ⟨g, 2, none⟩ (.int .i64 (A : Int))).cell? ⟨g, 1, none⟩ = some (.string (ofL p.tok)) := (Blk.put (W := w5.drew) KB5.out 2 (.int .i64 (A : Int))).cell 1
    have g3 : w5.drew.frozen? ⟨g, 2, none⟩ = false := z2
    have g4 : (w5.drew.setCell ⟨g, 2, none⟩ (.int .i64 (A : Int))).frozen? ⟨g, 1, none⟩ = false := by rw [World.frozen?_setCell]; exact z1
    have g5 : ((w5.setCell ⟨g, 2, none⟩ (.int .i64 (A : Int))).drew).cell? ⟨g, 1, none⟩ = some (.string (ofL p.tok)) := (Blk.put (W := w5) KB5.out 2 (.int .i64 (A : Int))).cell 1
    have g6 : (w5.setCell ⟨g, 2, none⟩ (.int .i64 (A : Int))).drew.frozen? ⟨g, 1, none⟩ = false := (Blk.put (W := w5) KB5.out 2 (.int .i64 (A : Int))).frozen 1
    have g7 : (w5.setCell ⟨g, 2, none⟩ (.int .i64 (A : Int))).cell? ⟨g, 1, none⟩ = some (.string (ofL p.tok)) := (Blk.put (W := w5) KB5.out 2 (.int .i64 (A : Int))).cell 1
    go_region_held3 (fun wx => wx.cell? ⟨g, 0, none⟩ = some (.string text) ∧ wx.frozen? ⟨g, 1, none⟩ = false ∧ wx.frozen? ⟨g, 2, none⟩ = false) (first | exact ⟨y0, z1, z2⟩ | (refine keep_store 1 (by decide) _ ?_; assumption) | (refine keep_store 2 (by decide) _ ?_; assumption) | assumption) (first | (go_at_call 61; refine (HTS.out _).mono ?_; rintro e w' ⟨rfl, hw'⟩; obtain rfl := hw'.symm))
    go_wp2
    go_end0
    have K7 : Blk g 60 #[.string text, .string T3, .int .i64 (A : Int), .int .i64 (p.n : Int), .int .i64 0] (((w5.setCell ⟨g, 2, none⟩ (.int .i64 (A : Int))).setCell ⟨g, 1, none⟩ (.string T3)).drew) := (Blk.put (W := w5) KB5.out 2 (.int .i64 (A : Int))).put 1 (.string T3)
    have BU : But g w (((w5.setCell ⟨g, 2, none⟩ (.int .i64 (A : Int))).setCell ⟨g, 1, none⟩ (.string T3)).drew) := (((But.of_below (g := g) HB5.out).trans (But.setCell g _ 2 _)).trans (But.setCell g _ 1 _)).trans (But.of_below (Below.refl _ _).drew)
    refine ⟨rfl, ?_, BU⟩
    have e1 : T3 = ofL (nxt p).tok := by
      rw [← HT3.out, ext_of, HT2.out, List.drop_zero, Nat.sub_zero, ← HN.out, HT2.out]
      rfl
    have e2 : (nxt p).rest = (p.rest.dropWhile isW).drop n := by rw [← HN.out, HT2.out]; rfl
    have e3 : text.data.toList = (pre ++ (p.tok ++ p.rest.takeWhile isW)) ++ ((nxt p).tok ++ (nxt p).rest) := by
      have e4 : (nxt p).tok ++ (nxt p).rest = p.rest.dropWhile isW := List.take_append_drop _ _
      rw [e4, H1.out]
      conv => lhs; arg 2; arg 2; rw [skip_split p.rest]
      simp [List.append_assoc]
    have e5 : A = (pre ++ (p.tok ++ p.rest.takeWhile isW)).length := by
      have h1 := congrArg List.length e3
      have e4 : (nxt p).tok ++ (nxt p).rest = T2.data.toList := by rw [HT2.out]; exact List.take_append_drop _ _
      rw [List.length_append, e4, len_data, len_data] at h1
      have := HA.out
      omega
    refine PS.mk_good HBS.out (BU.lowB HBS.out HLW.out) ?_ e3
    rw [← e1, ← e5]
    exact K7
end Go.Proofs.YtnabklhkalnpiaaGreatDoor

namespace Go.Proofs.YtnabklhkalnpiaaGreatDoor
open Go.RowKit
set_option linter.unusedVariables false

def reqO (b : Bool) (o : Option Pst) : Option Pst := if b = true then o else none
theorem reqO_true (o : Option Pst) : reqO true o = o := rfl
theorem reqO_false (o : Option Pst) : reqO false o = none := rfl
theorem reqO_none (b : Bool) : reqO b none = none := by unfold reqO; split <;> rfl
def RqPost (w0 : World) (g : Nat) (text : ByteArray) (o : Option Pst) (w : World) (e : Ending) (w' : World) : Prop := NxPost w0 g text o w e w' ∧ ∀ i, i ≠ 4 → w'.cell? ⟨g, i, none⟩ = w.cell? ⟨g, i, none⟩
set_option maxRecDepth 1000000 in
set_option maxHeartbeats 2000000 in
theorem require_any (w0 : World) (g : Nat) (text : ByteArray) (o : Option Pst) (b : Bool) (ec : Int) (hec : ec ≠ 0) (w : World) (h : PS w0 g text o w) :
    Calls Tryz.prog 64 #[.pointer (some ⟨g, 0, none⟩), .bool b, .int .i64 ec] w (RqPost w0 g text (reqO b o) w) := by
  have H := Lib.hid h
  cases b with
  | true =>
    clear h
    go_enter Tryz.func64, Tryz.ntmps64
    go_wp2
    go_end0
    exact ⟨⟨rfl, H.out, But.refl _ _⟩, fun i _ => rfl⟩
  | false =>
    cases o with
    | none =>
      obtain ⟨tok, rest, pre, rel, f, hb, h1, hf⟩ := h.bad
      have c4 : w.cell? ⟨g, 4, none⟩ = some (.int .i64 f) := hb.cell 4
      have e1 : (f == 0) = false := by rw [beq_eq_false_iff_ne]; exact hf
      clear h hb h1 hf
      go_enter Tryz.func64, Tryz.ntmps64
      go_wp2
      go_end0
      exact ⟨⟨rfl, H.out, But.refl _ _⟩, fun i _ => rfl⟩
    | some p =>
      obtain ⟨pre, hb, h1⟩ := h.good
      have HB := Lib.hid hb
      have H1 := Lib.hid h1
      have c4 : w.cell? ⟨g, 4, none⟩ = some (.int .i64 0) := hb.cell 4
      have f4 : w.frozen? ⟨g, 4, none⟩ = false := hb.frozen 4
      have HEC := Lib.hid hec
      clear h hb h1 hec
      go_enter Tryz.func64, Tryz.ntmps64
      go_wp2
      go_end0
      have BU : But g w (w.setCell ⟨g, 4, none⟩ (.int .i64 ec)) := But.setCell g _ 4 _
      exact ⟨⟨rfl, PS.mk_bad H.out.base (BU.lowB H.out.base H.out.low) (HB.out.put 4 (.int .i64 ec)) H1.out HEC.out, BU⟩, fun i hi => World.cell?_setCell_other _ _ _ _ (by intro e; injection e with _ e2 _; first | exact hi e2 | exact hi e2.symm)⟩
def isTok (t : Str) (o : Option Pst) : Bool := match o with
  | some p => decide (p.tok = t)
  | none => false
def accO (t : Str) (o : Option Pst) : Option Pst := if isTok t o = true then o.map nxt else o
def AcPost (w0 : World) (g : Nat) (text : ByteArray) (t : Str) (o : Option Pst) (w : World) (e : Ending) (w' : World) : Prop := e = .returned (.bool (isTok t o)) ∧ PS w0 g text (accO t o) w' ∧ But g w w'
set_option maxRecDepth 1000000 in
set_option maxHeartbeats 2000000 in
theorem accept_any (w0 : World) (g : Nat) (text : ByteArray) (hT : text.size ≤ 1000000) (o : Option Pst) (t : ByteArray) (w : World) (h : PS w0 g text o w) :
    Calls Tryz.prog 63 #[.pointer (some ⟨g, 0, none⟩), .string t] w (AcPost w0 g text t.data.toList o w) := by
  have H := Lib.hid h
  cases o with
  | none =>
    obtain ⟨tok, rest, pre, rel, f, hb, h1, hf⟩ := h.bad
    have c4 : w.cell? ⟨g, 4, none⟩ = some (.int .i64 f) := hb.cell 4
    have e1 : (f == 0) = false := by rw [beq_eq_false_iff_ne]; exact hf
    have e2 : (f != 0) = true := by rw [bne_iff_ne]; exact hf
    clear h hb h1 hf
    go_enter Tryz.func63, Tryz.ntmps63
    go_wp2
    go_ret
    exact ⟨rfl, H.out, But.refl _ _⟩
  | some p =>
    obtain ⟨pre, hb, h1⟩ := h.good
    have c4 : w.cell? ⟨g, 4, none⟩ = some (.int .i64 0) := hb.cell 4
    have c1 : w.cell? ⟨g, 1, none⟩ = some (.string (ofL p.tok)) := hb.cell 1
    have HI : Hid (isTok t.data.toList (some p) = decide (p.tok = t.data.toList)) := Lib.hid rfl
    clear h hb h1
    by_cases ht : p.tok = t.data.toList
    · have e1 : ((ofL p.tok).toList == t.toList) = true := by rw [beq_iff_eq, ByteArray.toList_eq, ByteArray.toList_eq]; exact ht
      have e2 : ((ofL p.tok).toList != t.toList) = false := by rw [bne_eq_false_iff_eq, ByteArray.toList_eq, ByteArray.toList_eq]; exact ht
      have HV : Hid (isTok t.data.toList (some p) = true) := Lib.hid (by rw [HI.out, decide_eq_true ht])
      clear ht HI
      go_enter Tryz.func63, Tryz.ntmps63
      go_wp2_with fail
      refine (next_any w0 g text hT (some p) _ H.out).mono ?_
      rintro e w2 ⟨rfl, p2, b2⟩
      have P2 := Lib.hid p2
      have B2 := Lib.hid b2
      clear p2 b2
      go_wp2
      go_ret
      exact ⟨by rw [HV.out]; rfl, by unfold accO; rw [if_pos HV.out]; exact P2.out, B2.out⟩
    · have e1 : ((ofL p.tok).toList == t.toList) = false := by rw [beq_eq_false_iff_ne, ByteArray.toList_eq, ByteArray.toList_eq]; exact ht
      have e2 : ((ofL p.tok).toList != t.toList) = true := by rw [bne_iff_ne, ByteArray.toList_eq, ByteArray.toList_eq]; exact ht
      have HV : Hid (isTok t.data.toList (some p) = false) := Lib.hid (by rw [HI.out, decide_eq_false ht])
      clear ht HI
      go_enter Tryz.func63, Tryz.ntmps63
      go_wp2
      go_ret
      exact ⟨by rw [HV.out]; rfl, by unfold accO; rw [if_neg (by rw [HV.out]; simp)]; exact H.out, But.refl _ _⟩
/-! ### number -/
def numO (o : Option Pst) : Option Pst := match o with
  | some p => if isNum p.tok = true then some p else none
  | none => none
theorem numO_req (o : Option Pst) {t : Str} (ht : ∀ p, o = some p → p.tok = t) : reqO (isNum t) o = numO o := by
  cases o with
  | none => rw [reqO_none]; rfl
  | some p =>
    show (if isNum t = true then some p else none) = if isNum p.tok = true then some p else none
    rw [ht p rfl]
def NuPost (w0 : World) (g : Nat) (text : ByteArray) (o : Option Pst) (w : World) (e : Ending) (w' : World) : Prop := (∃ n : Int, e = .returned (.int .i64 n) ∧ ∀ p, numO o = some p → n = (val p.tok : Int)) ∧ PS w0 g text (numO o) w' ∧ But g w w'
theorem numO_some {o : Option Pst} {p : Pst} (h : numO o = some p) : o = some p ∧ isNum p.tok = true := by
  cases o with
  | none => cases h
  | some q =>
    unfold numO at h
    dsimp only at h
    split at h
    · rename_i hq
      injection h with h
      subst h
      exact ⟨rfl, hq⟩
    · cases h
theorem But.thenB {g : Nat} {w W W' : World} (h : But g w W) (b : Below W.heap.size W W') : But g w W' := h.trans (But.of_below b)
def nm1 (t : Str) : Bool := decide (0 < t.length) && decide (t.length ≤ 3) && decide (cF isD t = t.length)
theorem isNum_eq (t : Str) : isNum t = (nm1 t && (decide (t.length = 1) || decide (t.head? ≠ some 48))) := rfl
set_option maxRecDepth 1000000 in
set_option maxHeartbeats 8000000 in
theorem number_any (w0 : World) (E : Env w0) (g : Nat) (text : ByteArray) (hT : text.size ≤ 1000000) (o : Option Pst) (w : World) (h : PS w0 g text o w) :
    Calls Tryz.prog 102 #[.pointer (some ⟨g, 0, none⟩)] w (NuPost w0 g text o w) := by
  have H := Lib.hid h
  have HE := Lib.hid E
  obtain ⟨t, f, c1, c4, htl, hf, hp⟩ := h.tok
  have HP := Lib.hid hp
  have hsz := ofL_size t
  have HIN := Lib.hid (isNum_eq t)
  have HRQ := Lib.hid (numO_req o hp)
  have HDT : Hid ((ofL t).data.toList = t) := Lib.hid rfl
  obtain ⟨T, hTT⟩ : ∃ T, ofL t = T := ⟨_, rfl⟩
  have HTT := Lib.hid hTT
  rw [hTT] at c1 hsz HDT
  have hT2 : T.size ≤ 1000000 := by omega
  obtain ⟨D, hD⟩ : ∃ D, t.length = D := ⟨_, rfl⟩
  have HD := Lib.hid hD
  rw [hD] at hsz htl
  have hTD : Hid ((T.size : Int) = (D : Int)) := Lib.hid (by rw [hsz])
  have hcf : Hid (cF (rng 48 57) T.data.toList = cF isD t) := Lib.hid (by rw [HDT.out]; rfl)
  obtain ⟨C, hC⟩ : ∃ C, cF isD t = C := ⟨_, rfl⟩
  rw [hC] at hcf
  have HN1 : Hid (nm1 t = (decide (0 < D) && decide (D ≤ 3) && decide (C = D))) := Lib.hid (by rw [← hD, ← hC]; rfl)
  have HAT : Hid (∀ wx, But g w wx → Calls Tryz.prog 110 #[.string T] wx (AtPost t wx)) := Lib.hid (fun wx hb => by
    have hlow := hb.lowB H.out.base H.out.low
    obtain ⟨q1, q2⟩ := HE.out.cells hlow
    have := atoi_any T hT2 wx q1 q2
    rw [HDT.out] at this
    exact this)
  clear h c4 hf hp hTT hD hC E
  go_enter Tryz.func102, Tryz.ntmps102

  by_cases h0 : D = 0
  · have u0 : ¬ (0 : Int) < (D : Int) := by omega
    have HV : Hid (isNum t = false) := Lib.hid (by rw [HIN.out, HN1.out, decide_eq_false (by omega : ¬ 0 < D)]; rfl)
    clear h0
    go_wp2_with fail
    refine (require_any w0 g text o false 3 (by decide) _ H.out).mono ?_
    rintro e w2 ⟨⟨rfl, p2, b2⟩, k2⟩
    have P2 : Hid (PS w0 g text (numO o) w2) := Lib.hid (by rw [← HRQ.out, HV.out]; exact p2)
    have B2 := Lib.hid b2
    have d1 : w2.cell? ⟨g, 1, none⟩ = some (.string T) := (k2 1 (by decide)).trans c1
    clear p2 b2 k2
    go_wp2_with fail
    refine (HAT.out _ B2.out).mono ?_
    rintro e w3 ⟨⟨n, er, rfl, hn⟩, b3⟩
    have B3 := Lib.hid (B2.out.thenB b3)
    have P3 := Lib.hid (P2.out.below b3)
    have HNN := Lib.hid hn
    clear b3 hn
    go_wp2
    go_ret
    exact ⟨⟨n, rfl, fun p hp => by
      obtain ⟨h1, h2⟩ := numO_some hp
      have h3 := HP.out p h1
      rw [h3] at h2 ⊢
      exact HNN.out h2⟩, P3.out, B3.out⟩
  have u0 : (0 : Int) < (D : Int) := by omega
  by_cases h3 : 3 < D
  · have u1 : ¬ (D : Int) ≤ 3 := by omega
    have HV : Hid (isNum t = false) := Lib.hid (by rw [HIN.out, HN1.out, decide_eq_false (by omega : ¬ D ≤ 3)]; simp)
    clear h0 h3
    go_wp2_with fail
    refine (require_any w0 g text o false 3 (by decide) _ H.out).mono ?_
    rintro e w2 ⟨⟨rfl, p2, b2⟩, k2⟩
    have P2 : Hid (PS w0 g text (numO o) w2) := Lib.hid (by rw [← HRQ.out, HV.out]; exact p2)
    have B2 := Lib.hid b2
    have d1 : w2.cell? ⟨g, 1, none⟩ = some (.string T) := (k2 1 (by decide)).trans c1
    clear p2 b2 k2
    go_wp2_with fail
    refine (HAT.out _ B2.out).mono ?_
    rintro e w3 ⟨⟨n, er, rfl, hn⟩, b3⟩
    have B3 := Lib.hid (B2.out.thenB b3)
    have P3 := Lib.hid (P2.out.below b3)
    have HNN := Lib.hid hn
    clear b3 hn
    go_wp2
    go_ret
    exact ⟨⟨n, rfl, fun p hp => by
      obtain ⟨h1, h2⟩ := numO_some hp
      have h3 := HP.out p h1
      rw [h3] at h2 ⊢
      exact HNN.out h2⟩, P3.out, B3.out⟩
  have u1 : (D : Int) ≤ 3 := by omega
  go_wp2_with fail
  refine (countFrom_any T hT2 48 57 (by omega) (by omega) _).mono ?_
  rintro e w' ⟨rfl, hw'⟩
  obtain rfl := hw'.symm
  rw [hcf.out]
  by_cases hc : C = D
  case neg =>
    have u2 : ((C : Int) == (D : Int)) = false := by rw [beq_eq_false_iff_ne]; omega
    have u2' : (C == D) = false := by rw [beq_eq_false_iff_ne]; omega
    have HV : Hid (isNum t = false) := Lib.hid (by rw [HIN.out, HN1.out, decide_eq_false hc]; simp)
    clear h0 h3 hc
    go_wp2_with fail
    refine (require_any w0 g text o false 3 (by decide) _ H.out).mono ?_
    rintro e w2 ⟨⟨rfl, p2, b2⟩, k2⟩
    have P2 : Hid (PS w0 g text (numO o) w2) := Lib.hid (by rw [← HRQ.out, HV.out]; exact p2)
    have B2 := Lib.hid b2
    have d1 : w2.cell? ⟨g, 1, none⟩ = some (.string T) := (k2 1 (by decide)).trans c1
    clear p2 b2 k2
    go_wp2_with fail
    refine (HAT.out _ B2.out).mono ?_
    rintro e w3 ⟨⟨n, er, rfl, hn⟩, b3⟩
    have B3 := Lib.hid (B2.out.thenB b3)
    have P3 := Lib.hid (P2.out.below b3)
    have HNN := Lib.hid hn
    clear b3 hn
    go_wp2
    go_ret
    exact ⟨⟨n, rfl, fun p hp => by
      obtain ⟨h1, h2⟩ := numO_some hp
      have h3 := HP.out p h1
      rw [h3] at h2 ⊢
      exact HNN.out h2⟩, P3.out, B3.out⟩
  have u2 : ((C : Int) == (D : Int)) = true := by rw [beq_iff_eq]; omega
  have u2' : (C == D) = true := by rw [beq_iff_eq]; omega
  have HN2 : Hid (isNum t = (decide (D = 1) || decide (t.head? ≠ some 48))) := Lib.hid (by rw [HIN.out, HN1.out, decide_eq_true (by omega : 0 < D), decide_eq_true (by omega : D ≤ 3), decide_eq_true hc, HD.out]; rfl)
  by_cases h1 : D = 1
  · have u3 : ((D : Int) == 1) = true := by rw [beq_iff_eq]; omega
    have u3' : (D == 1) = true := by rw [beq_iff_eq]; omega
    have HV : Hid (isNum t = true) := Lib.hid (by rw [HN2.out, decide_eq_true h1]; rfl)
    clear h0 h3 hc h1
    go_wp2_with fail
    refine (require_any w0 g text o true 3 (by decide) _ H.out).mono ?_
    rintro e w2 ⟨⟨rfl, p2, b2⟩, k2⟩
    have P2 : Hid (PS w0 g text (numO o) w2) := Lib.hid (by rw [← HRQ.out, HV.out]; exact p2)
    have B2 := Lib.hid b2
    have d1 : w2.cell? ⟨g, 1, none⟩ = some (.string T) := (k2 1 (by decide)).trans c1
    clear p2 b2 k2
    go_wp2_with fail
    refine (HAT.out _ B2.out).mono ?_
    rintro e w3 ⟨⟨n, er, rfl, hn⟩, b3⟩
    have B3 := Lib.hid (B2.out.thenB b3)
    have P3 := Lib.hid (P2.out.below b3)
    have HNN := Lib.hid hn
    clear b3 hn
    go_wp2
    go_ret
    exact ⟨⟨n, rfl, fun p hp => by
      obtain ⟨h1, h2⟩ := numO_some hp
      have h3 := HP.out p h1
      rw [h3] at h2 ⊢
      exact HNN.out h2⟩, P3.out, B3.out⟩
  have u3 : ((D : Int) == 1) = false := by rw [beq_eq_false_iff_ne]; omega
  have u3' : (D == 1) = false := by rw [beq_eq_false_iff_ne]; omega
  have hpos : 0 < T.size := by omega
  have HH : Hid (t.head? = some (T[0]'hpos)) := Lib.hid (by rw [← HDT.out]; exact head_data hpos)
  have u4 : (0 : Int) < (T.size : Int) := by omega
  obtain ⟨cc, hcc⟩ : ∃ cc, T[0]'hpos = cc := ⟨_, rfl⟩
  have hcn := u8_lt cc
  rw [hcc] at HH
  by_cases h48 : cc = 48
  · have u5 : ((cc.toNat : Int) == 48) = true := by rw [beq_iff_eq, h48]; rfl
    have u5' : ((cc.toNat : Int) != 48) = false := by rw [bne_eq_false_iff_eq, h48]; rfl
    have HV : Hid (isNum t = false) := Lib.hid (by rw [HN2.out, decide_eq_false h1, HH.out, h48]; simp)
    clear h0 h3 hc h1 h48
    go_wp2_with fail
    refine (require_any w0 g text o false 3 (by decide) _ H.out).mono ?_
    rintro e w2 ⟨⟨rfl, p2, b2⟩, k2⟩
    have P2 : Hid (PS w0 g text (numO o) w2) := Lib.hid (by rw [← HRQ.out, HV.out]; exact p2)
    have B2 := Lib.hid b2
    have d1 : w2.cell? ⟨g, 1, none⟩ = some (.string T) := (k2 1 (by decide)).trans c1
    clear p2 b2 k2
    go_wp2_with fail
    refine (HAT.out _ B2.out).mono ?_
    rintro e w3 ⟨⟨n, er, rfl, hn⟩, b3⟩
    have B3 := Lib.hid (B2.out.thenB b3)
    have P3 := Lib.hid (P2.out.below b3)
    have HNN := Lib.hid hn
    clear b3 hn
    go_wp2
    go_ret
    exact ⟨⟨n, rfl, fun p hp => by
      obtain ⟨h1, h2⟩ := numO_some hp
      have h3 := HP.out p h1
      rw [h3] at h2 ⊢
      exact HNN.out h2⟩, P3.out, B3.out⟩
  · have u5 : ((cc.toNat : Int) == 48) = false := by
      rw [beq_eq_false_iff_ne]
      intro e
      exact h48 (u8_ext (by show cc.toNat = 48; omega))
    have u5' : ((cc.toNat : Int) != 48) = true := by
      rw [bne_iff_ne]
      intro e
      exact h48 (u8_ext (by show cc.toNat = 48; omega))
    have HV : Hid (isNum t = true) := Lib.hid (by rw [HN2.out, HH.out, decide_eq_true (by intro e; injection e with e; exact h48 e : some cc ≠ some 48)]; simp)
    clear h0 h3 hc h1 h48
    go_wp2_with fail
    refine (require_any w0 g text o true 3 (by decide) _ H.out).mono ?_
    rintro e w2 ⟨⟨rfl, p2, b2⟩, k2⟩
    have P2 : Hid (PS w0 g text (numO o) w2) := Lib.hid (by rw [← HRQ.out, HV.out]; exact p2)
    have B2 := Lib.hid b2
    have d1 : w2.cell? ⟨g, 1, none⟩ = some (.string T) := (k2 1 (by decide)).trans c1
    clear p2 b2 k2
    go_wp2_with fail
    refine (HAT.out _ B2.out).mono ?_
    rintro e w3 ⟨⟨n, er, rfl, hn⟩, b3⟩
    have B3 := Lib.hid (B2.out.thenB b3)
    have P3 := Lib.hid (P2.out.below b3)
    have HNN := Lib.hid hn
    clear b3 hn
    go_wp2
    go_ret
    exact ⟨⟨n, rfl, fun p hp => by
      obtain ⟨h1, h2⟩ := numO_some hp
      have h3 := HP.out p h1
      rw [h3] at h2 ⊢
      exact HNN.out h2⟩, P3.out, B3.out⟩
end Go.Proofs.YtnabklhkalnpiaaGreatDoor

namespace Go.Proofs.YtnabklhkalnpiaaGreatDoor
open Go.RowKit
set_option linter.unusedVariables false

theorem PS.setRel {w0 : World} {g : Nat} {text : ByteArray} {o : Option Pst} {w : World} (h : PS w0 g text o w) (r : Nat) : PS w0 g text (o.map fun p => ⟨p.tok, p.rest, r⟩) (w.setCell ⟨g, 3, none⟩ (.int .i64 (r : Int))) := by
  have BU : But g w (w.setCell ⟨g, 3, none⟩ (.int .i64 (r : Int))) := But.setCell g _ 3 _
  obtain ⟨tok, rest, pre, rel, f, hb, h1, h2⟩ := h.st
  refine ⟨h.base, BU.lowB h.base h.low, tok, rest, pre, r, f, hb.put 3 (.int .i64 (r : Int)), h1, ?_⟩
  cases o with
  | none => exact h2
  | some p => exact ⟨h2.1, h2.2.1, h2.2.2.1, rfl⟩
theorem nxt_mk (t rest : Str) (m : Nat) : nxt ⟨t, rest, m⟩ = N rest m := by unfold nxt; with_reducible rfl
theorem opS_tt (t rest : Str) (n m : Nat) : (reqO true ((reqO true (some (⟨t, rest, n⟩ : Pst))).map fun p => (⟨p.tok, p.rest, m⟩ : Pst))).map nxt = some (N rest m) := by
  rw [reqO_true, reqO_true, Option.map_some, Option.map_some, nxt_mk]
theorem opS_ft (x : Option Pst) (b : Bool) (f : Pst → Pst) : (reqO b ((reqO false x).map f)).map nxt = none := by
  rw [reqO_false, Option.map_none, reqO_none, Option.map_none]
theorem opS_tf (x : Option Pst) : (reqO false x).map nxt = none := by rw [reqO_false, Option.map_none]
def opO (p : Pst) : Option Pst := if 0 < opM p.tok ∧ p.n < 6 then some (N p.rest (p.n + 1)) else none
theorem opO_many {p : Pst} {m : Nat} (h : p.n + 1 = m) (h6 : ¬ m ≤ 6) : opO p = none := by
  unfold opO
  rw [if_neg]
  intro h1
  omega
theorem opO_no {p : Pst} (h : ¬ 0 < opM p.tok) : opO p = none := by
  unfold opO
  rw [if_neg]
  intro h1
  exact h h1.1
theorem opO_yes {p : Pst} {m : Nat} (h : p.n + 1 = m) (h6 : m ≤ 6) (hk : 0 < opM p.tok) : opO p = some (N p.rest m) := by
  unfold opO
  rw [if_pos ⟨hk, by omega⟩, h]
def OpP (w0 : World) (g : Nat) (text : ByteArray) (p : Pst) (w : World) (e : Ending) (w' : World) : Prop := (∃ k : Int, e = .returned (.int .i64 k) ∧ ((opO p).isSome = true → k = opM p.tok)) ∧ PS w0 g text (opO p) w' ∧ But g w w'
theorem opM_one {t : Str} (h : t.length ≠ 1) : opM t = 0 := by
  match t, h with
  | [], _ => rfl
  | [c], h => exact absurd rfl h
  | _ :: _ :: _, _ => rfl
set_option maxRecDepth 1000000 in
set_option maxHeartbeats 8000000 in
theorem poperand_any (w0 : World) (g : Nat) (text : ByteArray) (hT : text.size ≤ 1000000) (p : Pst) (hn6 : p.n ≤ 6) (w : World) (h : PS w0 g text (some p) w) :
    Calls Tryz.prog 101 #[.pointer (some ⟨g, 0, none⟩)] w (OpP w0 g text p w) := by
  have H := Lib.hid h
  obtain ⟨pre, hb, h1⟩ := h.good
  have c1 : w.cell? ⟨g, 1, none⟩ = some (.string (ofL p.tok)) := hb.cell 1
  have c3 : w.cell? ⟨g, 3, none⟩ = some (.int .i64 (p.n : Int)) := hb.cell 3
  have HO : Hid (opO p = if 0 < opM p.tok ∧ p.n < 6 then some (N p.rest (p.n + 1)) else none) := Lib.hid rfl
  obtain ⟨tok, rest, n⟩ := p
  dsimp only at hn6 c1 c3 HO ⊢
  have hsz := ofL_size tok
  obtain ⟨K, hK⟩ : ∃ K, opM tok = K := ⟨_, rfl⟩
  have HK := Lib.hid hK
  clear h hb h1
  by_cases hl : tok.length = 1
  · obtain ⟨c, hc⟩ : ∃ c, tok = [c] := by
      match tok, hl with
      | [c], _ => exact ⟨c, rfl⟩
    subst hc
    have e1 : (((ofL [c]).size : Int) == 1) = true := rfl
    have hok : Lib.indexByte [110, 105, 118, 119, 102, 116] c + 1 = K := by rw [opI_eq, ← hK]; rfl
    have hkr := opM_range [c]
    rw [hK] at hkr
    have HRG := Lib.hid hkr
    obtain ⟨I, hI⟩ : ∃ I, Lib.indexByte [110, 105, 118, 119, 102, 116] c = I := ⟨_, rfl⟩
    have HI := Lib.hid hI
    rw [hI] at hok
    have e2 : IntKind.i64.wrap K = K := wrap_fit (by omega) (by omega)
    have HRI : Hid (-1 ≤ I ∧ I ≤ 5) := Lib.hid (by omega)
    clear hI hl hK hkr
    go_enter Tryz.func101, Tryz.ntmps101
    go_wp2_with fail
    refine (Tryz.strings_Index_one ⟨#[110, 105, 118, 119, 102, 116]⟩ c _).mono ?_
    rintro e w' ⟨rfl, hw'⟩
    obtain rfl := hw'.symm
    rw [show (ByteArray.mk #[110, 105, 118, 119, 102, 116]).data.toList = [110, 105, 118, 119, 102, 116] from rfl, HI.out]
    by_cases hK0 : 0 < K
    · have u0 : decide ((0 : Int) < K) = true := decide_eq_true hK0
      have HPOS := Lib.hid hK0
      clear hK0
      have f3 : ∀ wx o, PS w0 g text o wx → wx.frozen? ⟨g, 3, none⟩ = false := fun wx o hx => by obtain ⟨_, _, _, _, _, hbl, _⟩ := hx.st; exact hbl.frozen 3
      have HF3 := Lib.hid f3
      clear f3
      go_wp2_with fail
      refine (require_any w0 g text (some ⟨[c], rest, n⟩) true 3 (by decide) _ H.out).mono ?_
      rintro e w2 ⟨⟨rfl, p2, b2⟩, k2⟩
      have d3 : w2.cell? ⟨g, 3, none⟩ = some (.int .i64 (n : Int)) := (k2 3 (by decide)).trans c3
      have d4 := HF3.out _ _ p2
      have P3 := Lib.hid (p2.setRel (n + 1))
      have B3 := Lib.hid (b2.trans (But.setCell g w2 3 (.int .i64 ((n + 1 : Nat) : Int))))
      have hpc : (n : Int) + 1 = ((n + 1 : Nat) : Int) := by omega
      have q1 : IntKind.i64.wrap ((n + 1 : Nat) : Int) = ((n + 1 : Nat) : Int) := wrap_fit (by omega) (by omega)
      obtain ⟨m, hm⟩ : ∃ m, n + 1 = m := ⟨_, rfl⟩
      have HM := Lib.hid hm
      rw [hm] at P3 B3 hpc q1
      have d5 : (w2.setCell ⟨g, 3, none⟩ (.int .i64 (m : Int))).cell? ⟨g, 3, none⟩ = some (.int .i64 (m : Int)) := by obtain ⟨_, _, _, _, _, hbl, _⟩ := p2.st; exact (hbl.put 3 (.int .i64 (m : Int))).cell 3
      clear p2 b2 k2 hm
      by_cases h6 : m ≤ 6
      · have u6 : decide ((m : Int) ≤ 6) = true := decide_eq_true (Int.ofNat_le.2 h6)
        have u6' : decide (m ≤ 6) = true := decide_eq_true h6
        have HV : Hid (opO ⟨[c], rest, n⟩ = some (N rest m)) := Lib.hid (opO_yes (p := ⟨[c], rest, n⟩) HM.out h6 (by rw [HK.out]; first | exact HPOS.out | exact Int.not_lt.2 HPOS.out))
        go_wp2_with fail
        refine (require_any w0 g text _ true 6 (by decide) _ P3.out).mono ?_
        rintro e w4 ⟨⟨rfl, p4, b4⟩, _⟩
        have P4 := Lib.hid p4
        have B4 := Lib.hid (B3.out.trans b4)
        clear p4 b4
        go_wp2_with fail
        refine (next_any w0 g text hT _ _ P4.out).mono ?_
        rintro e w5 ⟨rfl, p5, b5⟩
        rw [opS_tt] at p5
        have P5 := Lib.hid p5
        have B5 := Lib.hid (B4.out.trans b5)
        clear p5 b5
        go_wp2
        go_ret
        exact ⟨⟨_, rfl, fun _ => by first | rfl | exact HK.out.symm⟩, by rw [HV.out]; exact P5.out, B5.out⟩
      · have u6 : decide ((m : Int) ≤ 6) = false := decide_eq_false (fun h => h6 (Int.ofNat_le.1 h))
        have u6' : decide (m ≤ 6) = false := decide_eq_false h6
        have HV : Hid (opO ⟨[c], rest, n⟩ = none) := Lib.hid (opO_many (p := ⟨[c], rest, n⟩) HM.out h6)
        go_wp2_with fail
        refine (require_any w0 g text _ false 6 (by decide) _ P3.out).mono ?_
        rintro e w4 ⟨⟨rfl, p4, b4⟩, _⟩
        have P4 := Lib.hid p4
        have B4 := Lib.hid (B3.out.trans b4)
        clear p4 b4
        go_wp2_with fail
        refine (next_any w0 g text hT _ _ P4.out).mono ?_
        rintro e w5 ⟨rfl, p5, b5⟩
        rw [opS_tf] at p5
        have P5 := Lib.hid p5
        have B5 := Lib.hid (B4.out.trans b5)
        clear p5 b5
        go_wp2
        go_ret
        exact ⟨⟨_, rfl, fun hh => by rw [HV.out] at hh; cases hh⟩, by rw [HV.out]; exact P5.out, B5.out⟩
    · have u0 : decide ((0 : Int) < K) = false := decide_eq_false hK0
      have HPOS := Lib.hid hK0
      clear hK0
      have f3 : ∀ wx o, PS w0 g text o wx → wx.frozen? ⟨g, 3, none⟩ = false := fun wx o hx => by obtain ⟨_, _, _, _, _, hbl, _⟩ := hx.st; exact hbl.frozen 3
      have HF3 := Lib.hid f3
      clear f3
      go_wp2_with fail
      refine (require_any w0 g text (some ⟨[c], rest, n⟩) false 3 (by decide) _ H.out).mono ?_
      rintro e w2 ⟨⟨rfl, p2, b2⟩, k2⟩
      have d3 : w2.cell? ⟨g, 3, none⟩ = some (.int .i64 (n : Int)) := (k2 3 (by decide)).trans c3
      have d4 := HF3.out _ _ p2
      have P3 := Lib.hid (p2.setRel (n + 1))
      have B3 := Lib.hid (b2.trans (But.setCell g w2 3 (.int .i64 ((n + 1 : Nat) : Int))))
      have hpc : (n : Int) + 1 = ((n + 1 : Nat) : Int) := by omega
      have q1 : IntKind.i64.wrap ((n + 1 : Nat) : Int) = ((n + 1 : Nat) : Int) := wrap_fit (by omega) (by omega)
      obtain ⟨m, hm⟩ : ∃ m, n + 1 = m := ⟨_, rfl⟩
      have HM := Lib.hid hm
      rw [hm] at P3 B3 hpc q1
      have d5 : (w2.setCell ⟨g, 3, none⟩ (.int .i64 (m : Int))).cell? ⟨g, 3, none⟩ = some (.int .i64 (m : Int)) := by obtain ⟨_, _, _, _, _, hbl, _⟩ := p2.st; exact (hbl.put 3 (.int .i64 (m : Int))).cell 3
      clear p2 b2 k2 hm
      by_cases h6 : m ≤ 6
      · have u6 : decide ((m : Int) ≤ 6) = true := decide_eq_true (Int.ofNat_le.2 h6)
        have u6' : decide (m ≤ 6) = true := decide_eq_true h6
        have HV : Hid (opO ⟨[c], rest, n⟩ = none) := Lib.hid (opO_no (p := ⟨[c], rest, n⟩) (by rw [HK.out]; first | exact HPOS.out | exact Int.not_lt.2 HPOS.out))
        go_wp2_with fail
        refine (require_any w0 g text _ true 6 (by decide) _ P3.out).mono ?_
        rintro e w4 ⟨⟨rfl, p4, b4⟩, _⟩
        have P4 := Lib.hid p4
        have B4 := Lib.hid (B3.out.trans b4)
        clear p4 b4
        go_wp2_with fail
        refine (next_any w0 g text hT _ _ P4.out).mono ?_
        rintro e w5 ⟨rfl, p5, b5⟩
        rw [opS_ft] at p5
        have P5 := Lib.hid p5
        have B5 := Lib.hid (B4.out.trans b5)
        clear p5 b5
        go_wp2
        go_ret
        exact ⟨⟨_, rfl, fun hh => by rw [HV.out] at hh; cases hh⟩, by rw [HV.out]; exact P5.out, B5.out⟩
      · have u6 : decide ((m : Int) ≤ 6) = false := decide_eq_false (fun h => h6 (Int.ofNat_le.1 h))
        have u6' : decide (m ≤ 6) = false := decide_eq_false h6
        have HV : Hid (opO ⟨[c], rest, n⟩ = none) := Lib.hid (opO_no (p := ⟨[c], rest, n⟩) (by rw [HK.out]; first | exact HPOS.out | exact Int.not_lt.2 HPOS.out))
        go_wp2_with fail
        refine (require_any w0 g text _ false 6 (by decide) _ P3.out).mono ?_
        rintro e w4 ⟨⟨rfl, p4, b4⟩, _⟩
        have P4 := Lib.hid p4
        have B4 := Lib.hid (B3.out.trans b4)
        clear p4 b4
        go_wp2_with fail
        refine (next_any w0 g text hT _ _ P4.out).mono ?_
        rintro e w5 ⟨rfl, p5, b5⟩
        rw [opS_ft] at p5
        have P5 := Lib.hid p5
        have B5 := Lib.hid (B4.out.trans b5)
        clear p5 b5
        go_wp2
        go_ret
        exact ⟨⟨_, rfl, fun hh => by rw [HV.out] at hh; cases hh⟩, by rw [HV.out]; exact P5.out, B5.out⟩
  · have e1 : (((ofL tok).size : Int) == 1) = false := by rw [beq_eq_false_iff_ne, hsz]; omega
    have e1' : ((tok.length : Int) == 1) = false := by rw [beq_eq_false_iff_ne]; omega
    have e1'' : (tok.length == 1) = false := by rw [beq_eq_false_iff_ne]; exact hl
    have HPOS : Hid (¬ (0 : Int) < opM tok) := Lib.hid (by rw [opM_one hl]; omega)
    clear hl hK
    go_enter Tryz.func101, Tryz.ntmps101
    have f3 : ∀ wx o, PS w0 g text o wx → wx.frozen? ⟨g, 3, none⟩ = false := fun wx o hx => by obtain ⟨_, _, _, _, _, hbl, _⟩ := hx.st; exact hbl.frozen 3
    have HF3 := Lib.hid f3
    clear f3
    go_wp2_with fail
    refine (require_any w0 g text (some ⟨tok, rest, n⟩) false 3 (by decide) _ H.out).mono ?_
    rintro e w2 ⟨⟨rfl, p2, b2⟩, k2⟩
    have d3 : w2.cell? ⟨g, 3, none⟩ = some (.int .i64 (n : Int)) := (k2 3 (by decide)).trans c3
    have d4 := HF3.out _ _ p2
    have P3 := Lib.hid (p2.setRel (n + 1))
    have B3 := Lib.hid (b2.trans (But.setCell g w2 3 (.int .i64 ((n + 1 : Nat) : Int))))
    have hpc : (n : Int) + 1 = ((n + 1 : Nat) : Int) := by omega
    have q1 : IntKind.i64.wrap ((n + 1 : Nat) : Int) = ((n + 1 : Nat) : Int) := wrap_fit (by omega) (by omega)
    obtain ⟨m, hm⟩ : ∃ m, n + 1 = m := ⟨_, rfl⟩
    have HM := Lib.hid hm
    rw [hm] at P3 B3 hpc q1
    have d5 : (w2.setCell ⟨g, 3, none⟩ (.int .i64 (m : Int))).cell? ⟨g, 3, none⟩ = some (.int .i64 (m : Int)) := by obtain ⟨_, _, _, _, _, hbl, _⟩ := p2.st; exact (hbl.put 3 (.int .i64 (m : Int))).cell 3
    clear p2 b2 k2 hm
    by_cases h6 : m ≤ 6
    · have u6 : decide ((m : Int) ≤ 6) = true := decide_eq_true (Int.ofNat_le.2 h6)
      have u6' : decide (m ≤ 6) = true := decide_eq_true h6
      have HV : Hid (opO ⟨tok, rest, n⟩ = none) := Lib.hid (opO_no (p := ⟨tok, rest, n⟩) (by first | exact HPOS.out | exact Int.not_lt.2 HPOS.out))
      go_wp2_with fail
      refine (require_any w0 g text _ true 6 (by decide) _ P3.out).mono ?_
      rintro e w4 ⟨⟨rfl, p4, b4⟩, _⟩
      have P4 := Lib.hid p4
      have B4 := Lib.hid (B3.out.trans b4)
      clear p4 b4
      go_wp2_with fail
      refine (next_any w0 g text hT _ _ P4.out).mono ?_
      rintro e w5 ⟨rfl, p5, b5⟩
      rw [opS_ft] at p5
      have P5 := Lib.hid p5
      have B5 := Lib.hid (B4.out.trans b5)
      clear p5 b5
      go_wp2
      go_ret
      exact ⟨⟨_, rfl, fun hh => by rw [HV.out] at hh; cases hh⟩, by rw [HV.out]; exact P5.out, B5.out⟩
    · have u6 : decide ((m : Int) ≤ 6) = false := decide_eq_false (fun h => h6 (Int.ofNat_le.1 h))
      have u6' : decide (m ≤ 6) = false := decide_eq_false h6
      have HV : Hid (opO ⟨tok, rest, n⟩ = none) := Lib.hid (opO_no (p := ⟨tok, rest, n⟩) (by first | exact HPOS.out | exact Int.not_lt.2 HPOS.out))
      go_wp2_with fail
      refine (require_any w0 g text _ false 6 (by decide) _ P3.out).mono ?_
      rintro e w4 ⟨⟨rfl, p4, b4⟩, _⟩
      have P4 := Lib.hid p4
      have B4 := Lib.hid (B3.out.trans b4)
      clear p4 b4
      go_wp2_with fail
      refine (next_any w0 g text hT _ _ P4.out).mono ?_
      rintro e w5 ⟨rfl, p5, b5⟩
      rw [opS_ft] at p5
      have P5 := Lib.hid p5
      have B5 := Lib.hid (B4.out.trans b5)
      clear p5 b5
      go_wp2
      go_ret
      exact ⟨⟨_, rfl, fun hh => by rw [HV.out] at hh; cases hh⟩, by rw [HV.out]; exact P5.out, B5.out⟩
end Go.Proofs.YtnabklhkalnpiaaGreatDoor
