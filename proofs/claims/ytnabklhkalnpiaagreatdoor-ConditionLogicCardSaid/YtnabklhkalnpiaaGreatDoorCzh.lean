/- Of condition: the parser's relation. -/
import Derived.Test.YtnabklhkalnpiaaGreatDoorCzg
namespace Go.Proofs.YtnabklhkalnpiaaGreatDoor
open Go.RowKit
set_option linter.unusedVariables false

theorem Tryz.infoSp : (Tryz.prog.info? 42).map (fun i => (i.zero, i.size, i.bytes)) = some (some (.agg #[.int .i64 0, .int .i64 0]), 2, 16) := by kernel_rfl
theorem own_span (w : World) (base : Nat) (hb : base ≤ w.heap.size) (x y : Int) : Own1 2 encP (w.alloc (.cells #[.int .i64 x, .int .i64 y] 42)) base 42 (.slice (some ⟨w.heap.size, 0, none⟩) 1 1) [(x, y)] :=
  ⟨by rfl, .inr ⟨w.heap.size, 1, #[.int .i64 x, .int .i64 y], rfl, hb, heap_alloc_new w _, Nat.le_refl _, by decide, rfl, rfl⟩⟩
theorem Own1.blk {α : Type} {k : Nat} {enc : α → List Value} {w : World} {base : Nat} {e : TypeId} {v : Value} {l : List α} (h : Own1 k enc w base e v l) (b : Nat) (hb : v.ownBlock = some b) : ∃ cs, Blk b e cs w := by
  rcases h.2 with ⟨rfl, _⟩ | ⟨g, cap, cur, rfl, _, hg, _⟩
  · cases hb
  · cases hb
    exact ⟨cur, hg⟩
/-- A value whose block lies above g and holds spans. -/
def SpB (w : World) (g : Nat) (v : Value) : Prop := ∀ b, v.ownBlock = some b → g < b ∧ ∃ cs, Blk b 42 cs w
theorem SpB.but {w w' : World} {g : Nat} {v : Value} (h : SpB w g v) (hb : But g w w') : SpB w' g v := fun b e => by
  obtain ⟨h1, cs, h2⟩ := h b e
  exact ⟨h1, cs, h2.but hb (by omega)⟩
def RlP (w0 : World) (g : Nat) (text : ByteArray) (R : Option (Rel × Pst)) (w : World) (e : Ending) (w' : World) : Prop := (∃ raw : RawR, e = .returned (.agg #[.int .i64 raw.op, .int .i64 raw.md, .bool raw.nt, .slice raw.a raw.n raw.c]) ∧ ∀ r q, R = some (r, q) → RdRel w' raw r ∧ SpB w' g (.slice raw.a raw.n raw.c)) ∧ PS w0 g text (R.map (·.2)) w' ∧ But g w w'
theorem resRl {W : World} {tm : Array Value} {B : Nat} {t : TypeId} {a b c d : Value} (t4 : tm[2]?.getD undef = .pointer (some ⟨B, 0, none⟩)) (h : Blk B t #[a, b, c, d] W) :
    (results Tryz.f87 tm).run Tryz.prog W = .ok (.agg #[a, b, c, d]) W := by
  have a0 : W.cell? ⟨B, 0, none⟩ = some a := h.cell 0
  have a1 : W.cell? ⟨B, 1, none⟩ = some b := h.cell 1
  have a2 : W.cell? ⟨B, 2, none⟩ = some c := h.cell 2
  have a3 : W.cell? ⟨B, 3, none⟩ = some d := h.cell 3
  simp [results, Tryz.f87, go_sem, t4, a0, a1, a2, a3]
theorem RSt.belowN {w0 w : World} {g : Nat} {text : ByteArray} {B2 B3 : Nat} {o : Option Pst} {K M : Int} {b : Bool} {v : Value} {wx wy : World} (h : RSt w0 w g text B2 B3 o K M b v wx) {n : Nat} (hb : Below n wx wy) (hn : B3 < n) : RSt w0 w g text B2 B3 o K M b v wy := by
  obtain ⟨h1, h2, h3⟩ := h.lt
  have hbs := h.ps.base
  exact ⟨h.lt, h.ps.same (hb.block g (by omega)) (h.ps.low.trans (hb.mono (by omega))), ⟨hb.os.trans h.but.os, hb.tape.trans h.but.tape, hb.output.trans h.but.output, Nat.le_trans h.but.size hb.size, fun k hk hg => (hb.block k (by omega)).trans (h.but.block k hk hg)⟩, (hb.block B2 (by omega)).trans h.k2, (hb.block B3 hn).trans h.k3⟩
theorem step_call {P : Program} {ops : Array Oper} {o : Oper} {a : Act} {w : World} {K : Act → World → Prop} {Q : Exit → Act → World → Prop} {E : Prop} {f : Nat} {v u : Value} (hgd : o.guard = none) (s y : Operand) (ts : Array TypeId)
    (ho : o.op = .call { callee := .value (.func f), args := #[s, y], argTypes := ts }) (hs : a.eval s = v) (hy : a.eval y = u) (he : ∀ args w, (callFunc f args).run P w = .ok (.enter f args) w) {R : Ending → World → Prop} (h : Calls P f #[v, u] w R)
    (hR : ∀ e w', R e w' → ∃ x, e = .returned x ∧ K (a.put o.dst x) w') : if Region.wanted o (yielded ops a.tmps) = true then Oper.wp P o a w K Q else E := by
  have hw : Region.wanted o (yielded ops a.tmps) = true := by simp [Region.wanted, hgd]
  rw [if_pos hw]
  unfold Oper.wp execOp
  have hf : a.eval (.func f) = .func (.func f) #[] #[] := rfl
  simp only [ho, resolve, invoke, hf, hs, hy, Sem.run_bind, Sem.run_pure, Result.andThen_ok, List.map_toArray, List.map_cons, List.map_nil]
  have hd : (Sem.run P (Deferred.ofValue (Value.func (Fn.func f) #[] #[]) #[v, u]) w) = .ok { target := .fn (.func f) #[], args := #[v, u] } w := by simp [Deferred.ofValue, go_sem]
  rw [hd]
  simp only [Result.andThen_ok, Array.append_empty, he]
  show Calls P f #[v, u] w _
  refine h.mono fun e w' hr => ?_
  obtain ⟨x, rfl, hk⟩ := hR e w' hr
  exact hk
def lenAt (B3 : Nat) (wr : World) : Nat := match wr.cell? ⟨B3, 3, none⟩ with
  | some (.slice _ n _) => n
  | _ => 0
theorem lenAt_of {B3 : Nat} {wr : World} {a : Option Addr} {n c : Nat} (h : wr.cell? ⟨B3, 3, none⟩ = some (.slice a n c)) : lenAt B3 wr = n := by unfold lenAt; rw [h]
/-- Where the loop begins: the first span is read. -/
def LpAt (w0 w : World) (g : Nat) (text : ByteArray) (B2 B3 B4 : Nat) (K M : Int) (b : Bool) (R : Option (Rel × Pst)) (wx : World) : Prop :=
  ∃ (o : Option Pst) (f : Nat) (acc : List (Int × Int)) (v : Value), RSt w0 w g text B2 B3 o K M b v wx ∧ Own1 2 encP wx B4 42 v acc ∧ R = o.bind (relS K M b f acc) ∧ 1 ≤ acc.length ∧ acc.length ≤ 5 ∧ (o.isSome = true → acc.length ≤ 4 ∧ f + acc.length = 5) ∧ B3 < B4
set_option maxRecDepth 1000000 in
set_option maxHeartbeats 16000000 in
theorem prelation_any (w0 : World) (E : Env w0) (g : Nat) (text : ByteArray) (hT : text.size ≤ 1000000) (p : Pst) (hn6 : p.n ≤ 6) (w : World) (h : PS w0 g text (some p) w) :
    Calls Tryz.prog 87 #[.pointer (some ⟨g, 0, none⟩)] w (RlP w0 g text (relM p) w) := by
  have hlt := h.lt
  have BA := (Below.refl w.heap.size w).alloc (Nat.le_refl _) (.cells zeroR 38)
  have K2 := Blk.new w 38 zeroR
  have PA := Lib.hid (h.below BA)
  have HRS : Hid (∀ (K : Int) (w1 : World), PS w0 g text (opO p) w1 → But g (w.alloc (.cells zeroR 38)) w1 → RSt w0 w g text w.heap.size w1.heap.size (opO p) K 0 false (.slice none 0 0) (w1.alloc (.cells #[.int .i64 K, .int .i64 0, .bool false, .slice none 0 0] 38))) := Lib.hid (fun K w1 hp hb => by
    have hz := hb.size
    rw [World.size_alloc] at hz
    have b2 := (Below.refl w1.heap.size w1).alloc (Nat.le_refl _) (.cells #[.int .i64 K, .int .i64 0, .bool false, .slice none 0 0] 38)
    exact ⟨⟨hlt, by omega, Nat.le_refl _⟩, hp.below b2, ((But.of_below (g := g) BA).trans hb).trans (But.of_below b2), (K2.but hb (by omega)).below b2, Blk.new w1 _ _⟩)
  clear h BA K2
  go_enter Tryz.func87, Tryz.ntmps87
  go_wp2_with fail
  refine (poperand_any w0 g text hT p hn6 _ PA.out).mono ?_
  rintro e w1 ⟨⟨K, rfl, hK⟩, p1, b1⟩
  have R1 := Lib.hid (HRS.out K w1 p1 b1)
  have HR1 := Lib.hid (relM_op hK)
  clear p1 b1 hK
  obtain ⟨B2, hB2⟩ : ∃ B2, w.heap.size = B2 := ⟨_, rfl⟩
  have HB2 := Lib.hid hB2
  rw [hB2] at R1 hlt ⊢
  clear HRS hB2
  go_wp2_with fail
  obtain ⟨W1, hW1⟩ : ∃ W1, w1.alloc (.cells #[.int .i64 K, .int .i64 0, .bool false, .slice none 0 0] 38) = W1 := ⟨_, rfl⟩
  rw [hW1] at R1 ⊢
  clear hW1
  obtain ⟨B3, hB3⟩ : ∃ B3, w1.heap.size = B3 := ⟨_, rfl⟩
  rw [hB3] at R1 ⊢
  clear hB3 PA
  refine (accept_any w0 g text hT _ ⟨#[37]⟩ _ R1.out.ps).mono ?_
  rintro e w2 ⟨rfl, p2, b2⟩
  rw [show (ByteArray.mk #[37]).data.toList = [37] from rfl] at p2 ⊢
  obtain ⟨bt, hbt⟩ : ∃ bt, isTok [37] (opO p) = bt := ⟨_, rfl⟩
  have HBT := Lib.hid hbt
  have R2 := Lib.hid (R1.out.call p2 b2)
  rw [hbt]
  clear p2 b2 hbt
  go_upto_if 8 with fail
  go_cut [4] from 9 to 20 (fun v4 wx => v4 = .pointer (some ⟨g, 0, none⟩) ∧ ∃ o M, RSt w0 w g text B2 B3 o K M false (.slice none 0 0) wx ∧ relM p = o.bind (relA K M))
  case first =>
    cases bt with
    | false =>
      have HE : Hid (relM p = (opO p).bind (relA K 0)) := Lib.hid (by rw [HR1.out, relO_no HBT.out])
      have R3 : Hid (RSt w0 w g text B2 B3 (opO p) K 0 false (.slice none 0 0) w2) := Lib.hid (by
        have := R2.out
        unfold accO at this
        rw [HBT.out, if_neg (by simp)] at this
        exact this)
      go_wp2_with fail
      go_meet
      exact ⟨rfl, _, _, R3.out, HE.out⟩
    | true =>
      have R3 : Hid (RSt w0 w g text B2 B3 ((opO p).map nxt) K 0 false (.slice none 0 0) w2) := Lib.hid (by
        have := R2.out
        unfold accO at this
        rw [HBT.out, if_pos rfl] at this
        exact this)
      clear R2
      go_wp2_with fail
      refine (number_any w0 E g text hT _ _ R3.out.ps).mono ?_
      rintro e w3 ⟨⟨n, rfl, hn⟩, p3, b3⟩
      have HE : Hid (relM p = ((reqO (okMod K n) (numO ((opO p).map nxt))).map nxt).bind (relA K n)) := Lib.hid (by rw [HR1.out, relO_yes HBT.out hn])
      have r3 := R3.out.call p3 b3
      have R4 := Lib.hid (r3.store 1 (.int .i64 n) (K' := K) (M' := n) (b' := false) (v' := .slice none 0 0) rfl)
      obtain ⟨y0, y1, y2, y3⟩ := r3.cells
      have f1 := r3.k3.frozen 1
      obtain ⟨z0, z1, z2, z3⟩ := R4.out.cells
      clear p3 b3 hn r3 R3
      go_wp2_with fail
      refine (isMod_any K n _).mono ?_
      rintro e w' ⟨rfl, hw'⟩
      obtain rfl := hw'.symm
      obtain ⟨bm, hbm⟩ : ∃ bm, okMod K n = bm := ⟨_, rfl⟩
      rw [hbm] at HE ⊢
      clear hbm
      go_wp2_with fail
      refine (require_any w0 g text _ bm 2 (by decide) _ R4.out.ps).mono ?_
      rintro e w5 ⟨⟨rfl, p5, b5⟩, _⟩
      have R5 := Lib.hid (R4.out.call p5 b5)
      clear p5 b5 y0 y1 y2 y3 z0 z1 z2 z3 f1
      go_wp2_with fail
      refine (next_any w0 g text hT _ _ R5.out.ps).mono ?_
      rintro e w6 ⟨rfl, p6, b6⟩
      have R6 := Lib.hid (R5.out.call p6 b6)
      clear p6 b6
      go_wp2_with fail
      go_meet
      exact ⟨rfl, _, _, R6.out, HE.out⟩
  case rest =>
    obtain ⟨rfl, o, M, r7, hR7⟩ := hcut
    rename World => wc
    have R7 := Lib.hid r7
    have HR7 := Lib.hid hR7
    clear r7 hR7
    go_wp2_with fail
    refine (accept_any w0 g text hT _ ⟨#[33, 61]⟩ _ R7.out.ps).mono ?_
    rintro e w8 ⟨rfl, p8, b8⟩
    rw [show (ByteArray.mk #[33, 61]).data.toList = [33, 61] from rfl] at p8 ⊢
    obtain ⟨b, hb⟩ : ∃ b, isTok [33, 61] o = b := ⟨_, rfl⟩
    have HB := Lib.hid hb
    have r8 := R7.out.call p8 b8
    obtain ⟨x0, x1, x2, x3⟩ := r8.cells
    have f2 := r8.k3.frozen 2
    have R9 := Lib.hid (r8.store 2 (.bool b) (K' := K) (M' := M) (b' := b) (v' := .slice none 0 0) rfl)
    obtain ⟨z0, z1, z2, z3⟩ := R9.out.cells
    rw [hb]
    clear p8 b8 hb r8
    go_upto_if 26 with fail
    go_cut [4] from 27 to 35 (fun v4 wx => v4 = .pointer (some ⟨g, 0, none⟩) ∧ ∃ o, RSt w0 w g text B2 B3 o K M b (.slice none 0 0) wx ∧ relM p = o.bind (relB K M b))
    case first =>
      cases b with
      | true =>
        have HE : Hid (relM p = (o.map nxt).bind (relB K M true)) := Lib.hid (by rw [HR7.out, relA_ne HB.out])
        have R10 : Hid (RSt w0 w g text B2 B3 (o.map nxt) K M true (.slice none 0 0) (w8.setCell ⟨B3, 2, none⟩ (.bool true))) := Lib.hid (by
          have := R9.out
          unfold accO at this
          rw [HB.out, if_pos rfl] at this
          exact this)
        go_wp2_with fail
        go_meet
        exact ⟨rfl, _, R10.out, HE.out⟩
      | false =>
        have R10 : Hid (RSt w0 w g text B2 B3 o K M false (.slice none 0 0) (w8.setCell ⟨B3, 2, none⟩ (.bool false))) := Lib.hid (by
          have := R9.out
          unfold accO at this
          rw [HB.out, if_neg (by simp)] at this
          exact this)
        obtain ⟨tk, fl, t1, _, _, _, hpt⟩ := R10.out.ps.tok
        have HEQ : Hid (∀ e, e = decide (tk = [61]) → relM p = ((reqO e o).map nxt).bind (relB K M false)) := Lib.hid (fun e he => by rw [HR7.out, relA_eq (e := e) HB.out (fun q hq => by rw [he, hpt q hq])])
        obtain ⟨be, hbe⟩ : ∃ be, decide (tk = [61]) = be := ⟨_, rfl⟩
        have HE := Lib.hid (HEQ.out be hbe.symm)
        have u1 : ((ofL tk).toList == [61]) = be := by
          rw [← hbe, Bool.eq_iff_iff, beq_iff_eq, ByteArray.toList_eq, decide_eq_true_eq]
          exact Iff.rfl
        clear hpt hbe HEQ R9
        go_wp2_with fail
        refine (require_any w0 g text _ be 3 (by decide) _ R10.out.ps).mono ?_
        rintro e w9 ⟨⟨rfl, p9, b9⟩, _⟩
        have R11 := Lib.hid (R10.out.call p9 b9)
        clear p9 b9 u1 t1 z0 z1 z2 z3 x0 x1 x2 x3 f2
        go_wp2_with fail
        refine (next_any w0 g text hT _ _ R11.out.ps).mono ?_
        rintro e w10 ⟨rfl, p10, b10⟩
        have R12 := Lib.hid (R11.out.call p10 b10)
        clear p10 b10
        go_wp2_with fail
        go_meet
        exact ⟨rfl, _, R12.out, HE.out⟩
    case rest =>
      clear R7 HR7 HB R9 x0 x1 x2 x3 f2 z0 z1 z2 z3 R1 R2 HR1 HBT
      obtain ⟨rfl, o2, r7, hR7⟩ := hcut
      rename World => wd
      have R7 := Lib.hid r7
      have HR7 := Lib.hid hR7
      obtain ⟨x0, x1, x2, x3⟩ := r7.cells
      clear r7 hR7
      go_wp2_with fail
      refine (span_any w0 E g text hT o2 K M b none 0 0 _ R7.out.ps).mono ?_
      rintro e w11 ⟨⟨x, y, rfl, hv⟩, p11, b11⟩
      have HE : Hid (relM p = ((o2.bind (spanM K 0)).map (·.2)).bind (relS K M b 4 [(x, y)])) := Lib.hid (by rw [HR7.out, relB_span hv])
      have r11 := R7.out.call p11 b11
      obtain ⟨B4, hB4⟩ : ∃ B4, w11.heap.size = B4 := ⟨_, rfl⟩
      have hB34 : B3 < B4 := by rw [← hB4]; exact r11.k3.lt
      have bal := (Below.refl w11.heap.size w11).alloc (Nat.le_refl _) (.cells #[.int .i64 x, .int .i64 y] 42)
      have r12 := r11.below bal
      have f3 := r12.k3.frozen 3
      obtain ⟨y0, y1, y2, y3⟩ := r12.cells
      have r13 := r12.store 3 (.slice (some ⟨w11.heap.size, 0, none⟩) 1 1) (K' := K) (M' := M) (b' := b) (v' := .slice (some ⟨w11.heap.size, 0, none⟩) 1 1) rfl
      have o13 : Own1 2 encP ((w11.alloc (.cells #[.int .i64 x, .int .i64 y] 42)).setCell ⟨B3, 3, none⟩ (.slice (some ⟨w11.heap.size, 0, none⟩) 1 1)) B4 42 (.slice (some ⟨w11.heap.size, 0, none⟩) 1 1) [(x, y)] :=
        own_but (own_span w11 B4 (by omega) x y) (But.setCell B3 _ 3 _) hB34
      have HL : Hid (LpAt w0 w g text B2 B3 B4 K M b (relM p) ((w11.alloc (.cells #[.int .i64 x, .int .i64 y] 42)).setCell ⟨B3, 3, none⟩ (.slice (some ⟨w11.heap.size, 0, none⟩) 1 1))) := Lib.hid ⟨_, 4, [(x, y)], _, r13, o13, HE.out, by simp, by simp, fun _ => by simp, hB34⟩
      clear hv p11 b11 r11 r12 r13 o13 bal hB4 hB34 x0 x1 x2 x3
      go_wp2
      go_loopw [42] (fun v42 wr => LpAt w0 w g text B2 B3 B4 K M b (relM p) wr) (fun _ wr => 6 - lenAt B3 wr)
      case atStart => exact HL.out
      case round =>
        obtain ⟨o, f, acc, v, r, own, hR, h1, h5, hf, h34⟩ := hrel
        obtain ⟨va, vc, hva⟩ := own.slice
        subst hva
        have RR := Lib.hid r
        have OW := Lib.hid own
        have HRR := Lib.hid hR
        have HLE := Lib.hid (lenAt_of (r.k3.cell 3))
        have HF := Lib.hid hf
        clear r own hR HL hf
        go_wp2_with fail
        refine (accept_any w0 g text hT _ ⟨#[44]⟩ _ RR.out.ps).mono ?_
        rintro e w20 ⟨rfl, p20, b20⟩
        rw [show (ByteArray.mk #[44]).data.toList = [44] from rfl] at p20 ⊢
        obtain ⟨bc, hbc⟩ : ∃ bc, isTok [44] o = bc := ⟨_, rfl⟩
        have HBC := Lib.hid hbc
        have R20 := Lib.hid (RR.out.call p20 b20)
        have O20 := Lib.hid (own_but OW.out b20 (by have := RR.out.lt; omega))
        obtain ⟨n0, n1, n2, n3⟩ := R20.out.cells
        rw [hbc]
        clear p20 b20 hbc
        cases bc with
        | false =>
          have R21 : Hid (RSt w0 w g text B2 B3 o K M b (.slice va acc.length vc) w20) := Lib.hid (by
            have := R20.out
            unfold accO at this
            rw [HBC.out, if_neg (by simp)] at this
            exact this)
          have HEND : Hid (relM p = o.map fun q => (⟨K, M, b, acc⟩, q)) := Lib.hid (by
            rw [HRR.out]
            cases ho : o with
            | none => rfl
            | some q =>
              have h9 := HF.out (by rw [ho]; rfl)
              obtain ⟨f', rfl⟩ : ∃ f', f = f' + 1 := ⟨f - 1, by omega⟩
              rw [← ho]
              exact relS_end HBC.out)
          have k2c := R21.out.k2
          have m0 : w20.cell? ⟨B2, 0, none⟩ = some (.int .i64 0) := k2c.cell 0
          have m1 : w20.cell? ⟨B2, 1, none⟩ = some (.int .i64 0) := k2c.cell 1
          have m2 : w20.cell? ⟨B2, 2, none⟩ = some (.bool false) := k2c.cell 2
          have m3 : w20.cell? ⟨B2, 3, none⟩ = some (.slice none 0 0) := k2c.cell 3
          have mf := k2c.frozen
          have HK2 := Lib.hid k2c
          clear k2c R20
          go_wp2
          have hlt3 := R21.out.lt
          have hbs := R21.out.ps.base
          have kk := (((HK2.out.put 0 (.int .i64 K)).put 1 (.int .i64 M)).put 2 (.bool b)).put 3 (.slice va acc.length vc)
          have bu : But B2 w20 ((((w20.setCell ⟨B2, 0, none⟩ (.int .i64 K)).setCell ⟨B2, 1, none⟩ (.int .i64 M)).setCell ⟨B2, 2, none⟩ (.bool b)).setCell ⟨B2, 3, none⟩ (.slice va acc.length vc)) := (((But.setCell B2 w20 0 _).trans (But.setCell B2 _ 1 _)).trans (But.setCell B2 _ 2 _)).trans (But.setCell B2 _ 3 _)
          have hp4 : PS w0 g text o ((((w20.setCell ⟨B2, 0, none⟩ (.int .i64 K)).setCell ⟨B2, 1, none⟩ (.int .i64 M)).setCell ⟨B2, 2, none⟩ (.bool b)).setCell ⟨B2, 3, none⟩ (.slice va acc.length vc)) := (((R21.out.ps.setNew (by omega) (by omega) _).setNew (by omega) (by omega) _).setNew (by omega) (by omega) _).setNew (by omega) (by omega) _
          have hb4 : But g w ((((w20.setCell ⟨B2, 0, none⟩ (.int .i64 K)).setCell ⟨B2, 1, none⟩ (.int .i64 M)).setCell ⟨B2, 2, none⟩ (.bool b)).setCell ⟨B2, 3, none⟩ (.slice va acc.length vc)) := (((R21.out.but.setNew (by omega) _).setNew (by omega) _).setNew (by omega) _).setNew (by omega) _
          have ow := own_but O20.out bu (by omega)
          refine bodyPost_ret (v := .agg #[.int .i64 K, .int .i64 M, .bool b, .slice va acc.length vc]) (resRl rfl kk) rfl ⟨⟨⟨K, M, b, va, acc.length, vc⟩, rfl, fun r q hq => ?_⟩, ?_, hb4⟩
          · rw [HEND.out] at hq
            obtain ⟨q', _, hq'⟩ := Option.map_eq_some_iff.1 hq
            injection hq' with e1 _
            subst e1
            refine ⟨⟨rfl, rfl, rfl, ow.rd encP_len⟩, fun b hb => ?_⟩
            have := (ow.lt_ b hb).1
            exact ⟨by omega, ow.blk b hb⟩
          · rw [HEND.out, Option.map_map]
            have : (Prod.snd ∘ fun q : Pst => ((⟨K, M, b, acc⟩ : Rel), q)) = id := rfl
            rw [show ((fun x : Rel × Pst => x.2) ∘ fun q : Pst => ((⟨K, M, b, acc⟩ : Rel), q)) = id from rfl, Option.map_id, id]
            exact hp4
        | true =>
          have R21 : Hid (RSt w0 w g text B2 B3 (o.map nxt) K M b (.slice va acc.length vc) w20) := Lib.hid (by
            have := R20.out
            unfold accO at this
            rw [HBC.out, if_pos rfl] at this
            exact this)
          have hsome : Hid (acc.length ≤ 4 ∧ f + acc.length = 5) := Lib.hid (HF.out (by
            cases ho : o with
            | none => rw [ho] at HBC; cases HBC.out
            | some q => rfl))
          obtain ⟨iS, hiS, hzS, hkS, hbS⟩ := info_parts Tryz.infoSp
          clear R20 n0 n1 n2 n3
          have HC : Hid (∀ wx, But g w20 wx → wx.cell? ⟨B3, 0, none⟩ = some (.int .i64 K) ∧ wx.cell? ⟨B3, 1, none⟩ = some (.int .i64 M) ∧ wx.cell? ⟨B3, 2, none⟩ = some (.bool b) ∧ wx.cell? ⟨B3, 3, none⟩ = some (.slice va acc.length vc)) := Lib.hid (fun wx hb => by
            have h9 := R21.out.lt
            have k3 := R21.out.k3.but hb (by omega)
            exact ⟨k3.cell 0, k3.cell 1, k3.cell 2, k3.cell 3⟩)
          have BD : But g w20 w20.drew := But.of_below (Below.refl _ w20).drew
          obtain ⟨n0, n1, n2, n3⟩ := HC.out _ BD
          have PD := Lib.hid (R21.out.ps.below (Below.refl _ w20).drew)
          have HBD := Lib.hid BD
          have HALL : Hid (∀ w21, But g w20 w21 → But g w20 w21 ∧ (∀ x y : Int, But g w20 (w21.alloc (.cells #[.int .i64 x, .int .i64 y] 42))) ∧ B4 ≤ w21.heap.size ∧ Own1 2 encP w21 B4 42 (.slice va acc.length vc) acc) := Lib.hid (fun w21 hb => by
            have h9 := R21.out.lt
            refine ⟨hb, fun x y => hb.trans (But.of_below ((Below.refl _ w21).alloc (Nat.le_refl _) _)), ?_, own_but O20.out hb (by omega)⟩
            have := (O20.out.lt_ )
            have h8 := hb.size
            rcases Nat.lt_or_ge w21.heap.size B4 with h | h
            · exfalso
              obtain ⟨a9, ha9⟩ : ∃ bb, (Value.slice va acc.length vc).ownBlock = some bb := by
                rcases O20.out.2 with ⟨h7, h6⟩ | ⟨gg, cap, cur, hv, _⟩
                · omega
                · exact ⟨gg, by rw [hv]; rfl⟩
              have := this a9 ha9
              omega
            · exact h)
          clear BD
          go_upto_region 12 with fail
          go_region_law (first
            | (refine step_append_at (w0 := w21) (x := (x, y)) (N := w21.heap.size) rfl rfl _ _ 36 rfl B4 iS _ 16 Tryz.underlying36 hiS hzS hkS hbS (by omega) rfl (by omega) encP_len encP_one _ acc rfl rfl J4.out rfl (by omega) j3 ?_; intro v9 w22 h22; obtain ⟨a9, c9, hv9⟩ := h22.1.slice; rw [List.length_append, List.length_singleton] at hv9; subst hv9; have O22 := Lib.hid h22.1; have B22 := Lib.hid h22.2; have R22 := Lib.hid (R21b.out.belowN h22.2 h34); have ck : w22.cell? ⟨B3, 3, none⟩ = some (.slice va acc.length vc) := R22.out.k3.cell 3; have fk : w22.frozen? ⟨B3, 3, none⟩ = false := R22.out.k3.frozen 3; clear h22)
            | (refine step_call rfl _ _ _ rfl rfl rfl (enters_of Tryz.func103 (by kernel_rfl) rfl) (span_any w0 E g text hT (o.map nxt) K M b va acc.length vc _ PD.out) ?_; rintro e w21 ⟨⟨x, y, rfl, hv⟩, p21, b21⟩; refine ⟨_, rfl, ?_⟩; have P21 := Lib.hid p21; have HV := Lib.hid hv; have B21 := Lib.hid (HBD.out.trans b21); have R21b := Lib.hid (R21.out.call p21 B21.out); obtain ⟨j1, j2, j3, j4⟩ := HALL.out _ B21.out; have J2 := Lib.hid (j2 x y); have J4 := Lib.hid j4; obtain ⟨d0, d1, d2, d3⟩ := HC.out _ B21.out; obtain ⟨e0, e1, e2, e3⟩ := HC.out _ J2.out; clear p21 b21 hv j1 j2 j4))
          all_goals
            have HN : Hid (LpAt w0 w g text B2 B3 B4 K M b (relM p) (w22.setCell ⟨B3, 3, none⟩ (.slice a9 (acc.length + 1) c9)) ∧ lenAt B3 (w22.setCell ⟨B3, 3, none⟩ (.slice a9 (acc.length + 1) c9)) = acc.length + 1) := Lib.hid (by
              have h9 := R22.out.lt
              have h8 := hsome.out
              have r23 := R22.out.store 3 (.slice a9 (acc.length + 1) c9) (K' := K) (M' := M) (b' := b) (v' := (.slice a9 (acc.length + 1) c9)) rfl
              obtain ⟨f', rfl⟩ : ∃ f', f = f' + 1 := ⟨f - 1, by omega⟩
              refine ⟨⟨_, f', acc ++ [(x, y)], (.slice a9 (acc.length + 1) c9), r23, own_but O22.out (But.setCell B3 w22 3 (.slice a9 (acc.length + 1) c9)) h34, ?_, by simp, by simp; omega, fun hs => ?_, h34⟩, ?_⟩
              · rw [HRR.out, relS_go HBC.out HV.out]
              · rw [List.length_append, List.length_singleton]
                refine ⟨?_, by omega⟩
                rcases Nat.lt_or_ge acc.length 4 with h | h
                · omega
                · exfalso
                  have e4 : acc.length = 4 := by omega
                  cases ho : (o.map nxt).bind (spanM K acc.length) with
                  | none => rw [ho] at hs; cases hs
                  | some sq =>
                    obtain ⟨q0, hq0, hq1⟩ := Option.bind_eq_some_iff.1 ho
                    have := (spanM_ok (s := sq.1) (q := sq.2) hq1).2.2
                    omega
              · exact lenAt_of (a := a9) (c := c9) (r23.k3.cell 3))
            go_wp2_with fail
            go_roundw
            case measure =>
              rw [HN.out.2, HLE.out]
              have := hsome.out
              omega
            case rel => exact HN.out.1
end Go.Proofs.YtnabklhkalnpiaaGreatDoor
