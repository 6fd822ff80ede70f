/- What the row stands on, part 22. -/
import Derived.Test.YtmnclnpbmgomgaaGreatDoorQ21

/- Of condition: the parser's relation. -/
namespace Go.Proofs.YtmnclnpbmgomgaaGreatDoor
open Go.RowKit
set_option linter.unusedVariables false

theorem Tryz.infoSp : (Tryz.prog.info? 115).map (fun i => (i.zero, i.size, i.bytes)) = some (some (.agg #[.int .i64 0, .int .i64 0]), 2, 16) := by kernel_rfl
theorem own_span (w : World) (base : Nat) (hb : base ≤ w.heap.size) (x y : Int) : Own1 2 encP (w.alloc (.cells #[.int .i64 x, .int .i64 y] 115)) base 115 (.slice (some ⟨w.heap.size, 0, none⟩) 1 1) [(x, y)] :=
  ⟨by rfl, .inr ⟨w.heap.size, 1, #[.int .i64 x, .int .i64 y], rfl, hb, heap_alloc_new w _, Nat.le_refl _, by decide, rfl, rfl⟩⟩
theorem Own1.blk {α : Type} {k : Nat} {enc : α → List Value} {w : World} {base : Nat} {e : TypeId} {v : Value} {l : List α} (h : Own1 k enc w base e v l) (b : Nat) (hb : v.ownBlock = some b) : ∃ cs, Blk b e cs w := by
  rcases h.2 with ⟨rfl, _⟩ | ⟨g, cap, cur, rfl, _, hg, _⟩
  · cases hb
  · cases hb
    exact ⟨cur, hg⟩
/-- A value whose block lies above g and holds spans. -/
def SpB (w : World) (g : Nat) (v : Value) : Prop := ∀ b, v.ownBlock = some b → g < b ∧ ∃ cs, Blk b 115 cs w
theorem SpB.but {w w' : World} {g : Nat} {v : Value} (h : SpB w g v) (hb : But g w w') : SpB w' g v := fun b e => by
  obtain ⟨h1, cs, h2⟩ := h b e
  exact ⟨h1, cs, h2.but hb (by omega)⟩
def RlP (w0 : World) (g : Nat) (text : ByteArray) (R : Option (Rel × Pst)) (w : World) (e : Ending) (w' : World) : Prop := (∃ raw : RawR, e = .returned (.agg #[.int .i64 raw.op, .int .i64 raw.md, .bool raw.nt, .slice raw.a raw.n raw.c]) ∧ ∀ r q, R = some (r, q) → RdRel w' raw r ∧ SpB w' g (.slice raw.a raw.n raw.c)) ∧ PS w0 g text (R.map (·.2)) w' ∧ But g w w'
theorem resRl {W : World} {tm : Array Value} {B : Nat} {t : TypeId} {a b c d : Value} (t4 : tm[2]?.getD undef = .pointer (some ⟨B, 0, none⟩)) (h : Blk B t #[a, b, c, d] W) :
    (results Tryz.f172 tm).run Tryz.prog W = .ok (.agg #[a, b, c, d]) W := by
  have a0 : W.cell? ⟨B, 0, none⟩ = some a := h.cell 0
  have a1 : W.cell? ⟨B, 1, none⟩ = some b := h.cell 1
  have a2 : W.cell? ⟨B, 2, none⟩ = some c := h.cell 2
  have a3 : W.cell? ⟨B, 3, none⟩ = some d := h.cell 3
  simp [results, Tryz.f172, go_sem, t4, a0, a1, a2, a3]
theorem RSt.belowN {w0 w : World} {g : Nat} {text : ByteArray} {B2 B3 : Nat} {o : Option Pst} {K M : Int} {b : Bool} {v : Value} {wx wy : World} (h : RSt w0 w g text B2 B3 o K M b v wx) {n : Nat} (hb : Below n wx wy) (hn : B3 < n) : RSt w0 w g text B2 B3 o K M b v wy := by
  obtain ⟨h1, h2, h3⟩ := h.lt
  have hbs := h.ps.base
  exact ⟨h.lt, h.ps.same (hb.block g (by omega)) (h.ps.low.trans (hb.mono (by omega))), ⟨hb.os.trans h.but.os, hb.tape.trans h.but.tape, hb.output.trans h.but.output, Nat.le_trans h.but.size hb.size, fun k hk hg => (hb.block k (by omega)).trans (h.but.block k hk hg)⟩, (hb.block B2 (by omega)).trans h.k2, (hb.block B3 hn).trans h.k3⟩
theorem step_call {P : Program} {ops : Array Oper} {o : Oper} {a : Act} {w : World} {K : Act → World → Prop} {Q : Exit → Act → World → Prop} {E : Prop} {f : Nat} {v u : Value} (hgd : o.guard = none) (s y : Operand) (ts : Array TypeId)
    (ho : o.op = .call { callee := .value (.func f), args := #[s, y], argTypes := ts }) (hs : a.eval s = v) (hy : a.eval y = u) (he : ∀ args w, (callFunc f args).run P w = .ok (.enter f args) w) {R : Ending → World → Prop} (h : Calls P f #[v, u] w R)
    (hR : ∀ e w', R e w' → ∃ x, e = .returned x ∧ K (a.put o.dst x) w') : if Region.wanted o (yielded ops a.tmps) = true then Oper.wp P o a w K Q else E := by
  have hw : Region.wanted o (yielded ops a.tmps) = true := by simp [Region.wanted, hgd]
  rw [if_pos hw]
  unfold Oper.wp execOp
  have hf : a.eval (.func f) = .func (.func f) #[] #[] := rfl
  simp only [ho, resolve, invoke, hf, hs, hy, Sem.run_bind, Sem.run_pure, Result.andThen_ok, List.map_toArray, List.map_cons, List.map_nil]
  have hd : (Sem.run P (Deferred.ofValue (Value.func (Fn.func f) #[] #[]) #[v, u]) w) = .ok { target := .fn (.func f) #[], args := #[v, u] } w := by simp [Deferred.ofValue, go_sem]
  rw [hd]
  simp only [Result.andThen_ok, Array.append_empty, he]
  show Calls P f #[v, u] w _
  refine h.mono fun e w' hr => ?_
  obtain ⟨x, rfl, hk⟩ := hR e w' hr
  exact hk
def lenAt (B3 : Nat) (wr : World) : Nat := match wr.cell? ⟨B3, 3, none⟩ with
  | some (.slice _ n _) => n
  | _ => 0
theorem lenAt_of {B3 : Nat} {wr : World} {a : Option Addr} {n c : Nat} (h : wr.cell? ⟨B3, 3, none⟩ = some (.slice a n c)) : lenAt B3 wr = n := by unfold lenAt; rw [h]
/-- Where the loop begins: the first span is read. -/
def LpAt (w0 w : World) (g : Nat) (text : ByteArray) (B2 B3 B4 : Nat) (K M : Int) (b : Bool) (R : Option (Rel × Pst)) (wx : World) : Prop :=
  ∃ (o : Option Pst) (f : Nat) (acc : List (Int × Int)) (v : Value), RSt w0 w g text B2 B3 o K M b v wx ∧ Own1 2 encP wx B4 115 v acc ∧ R = o.bind (relS K M b f acc) ∧ 1 ≤ acc.length ∧ acc.length ≤ 5 ∧ (o.isSome = true → acc.length ≤ 4 ∧ f + acc.length = 5) ∧ B3 < B4
set_option maxRecDepth 1000000 in
set_option maxHeartbeats 16000000 in
theorem prelation_any (w0 : World) (E : Env w0) (g : Nat) (text : ByteArray) (hT : text.size ≤ 1000000) (p : Pst) (hn6 : p.n ≤ 6) (w : World) (h : PS w0 g text (some p) w) :
    Calls Tryz.prog 172 #[.pointer (some ⟨g, 0, none⟩)] w (RlP w0 g text (relM p) w) := by
  have hlt := h.lt
  have BA := (Below.refl w.heap.size w).alloc (Nat.le_refl _) (.cells zeroR 77)
  have K2 := Blk.new w 77 zeroR
  have PA := Lib.hid (h.below BA)
  have HRS : Hid (∀ (K : Int) (w1 : World), PS w0 g text (opO p) w1 → But g (w.alloc (.cells zeroR 77)) w1 → RSt w0 w g text w.heap.size w1.heap.size (opO p) K 0 false (.slice none 0 0) (w1.alloc (.cells #[.int .i64 K, .int .i64 0, .bool false, .slice none 0 0] 77))) := Lib.hid (fun K w1 hp hb => by
    have hz := hb.size
    rw [World.size_alloc] at hz
    have b2 := (Below.refl w1.heap.size w1).alloc (Nat.le_refl _) (.cells #[.int .i64 K, .int .i64 0, .bool false, .slice none 0 0] 77)
    exact ⟨⟨hlt, by omega, Nat.le_refl _⟩, hp.below b2, ((But.of_below (g := g) BA).trans hb).trans (But.of_below b2), (K2.but hb (by omega)).below b2, Blk.new w1 _ _⟩)
  clear h BA K2
  go_enter Tryz.func172, Tryz.ntmps172
  go_wp2_with fail
  refine (poperand_any w0 g text hT p hn6 _ PA.out).mono ?_
  rintro e w1 ⟨⟨K, rfl, hK⟩, p1, b1⟩
  have R1 := Lib.hid (HRS.out K w1 p1 b1)
  have HR1 := Lib.hid (relM_op hK)
  clear p1 b1 hK
  obtain ⟨B2, hB2⟩ : ∃ B2, w.heap.size = B2 := ⟨_, rfl⟩
  have HB2 := Lib.hid hB2
  rw [hB2] at R1 hlt ⊢
  clear HRS hB2
  go_wp2_with fail
  obtain ⟨W1, hW1⟩ : ∃ W1, w1.alloc (.cells #[.int .i64 K, .int .i64 0, .bool false, .slice none 0 0] 77) = W1 := ⟨_, rfl⟩
  rw [hW1] at R1 ⊢
  clear hW1
  obtain ⟨B3, hB3⟩ : ∃ B3, w1.heap.size = B3 := ⟨_, rfl⟩
  rw [hB3] at R1 ⊢
  clear hB3 PA
  refine (accept_any w0 g text hT _ ⟨#[37]⟩ _ R1.out.ps).mono ?_
  rintro e w2 ⟨rfl, p2, b2⟩
  rw [show (ByteArray.mk #[37]).data.toList = [37] from rfl] at p2 ⊢
  obtain ⟨bt, hbt⟩ : ∃ bt, isTok [37] (opO p) = bt := ⟨_, rfl⟩
  have HBT := Lib.hid hbt
  have R2 := Lib.hid (R1.out.call p2 b2)
  rw [hbt]
  clear p2 b2 hbt
  go_upto_if 8 with fail
  go_cut [4] from 9 to 20 (fun v4 wx => v4 = .pointer (some ⟨g, 0, none⟩) ∧ ∃ o M, RSt w0 w g text B2 B3 o K M false (.slice none 0 0) wx ∧ relM p = o.bind (relA K M))
  case first =>
    cases bt with
    | false =>
      have HE : Hid (relM p = (opO p).bind (relA K 0)) := Lib.hid (by rw [HR1.out, relO_no HBT.out])
      have R3 : Hid (RSt w0 w g text B2 B3 (opO p) K 0 false (.slice none 0 0) w2) := Lib.hid (by
        have := R2.out
        unfold accO at this
        rw [HBT.out, if_neg (by simp)] at this
        exact this)
      go_wp2_with fail
      go_meet
      exact ⟨rfl, _, _, R3.out, HE.out⟩
    | true =>
      have R3 : Hid (RSt w0 w g text B2 B3 ((opO p).map nxt) K 0 false (.slice none 0 0) w2) := Lib.hid (by
        have := R2.out
        unfold accO at this
        rw [HBT.out, if_pos rfl] at this
        exact this)
      clear R2
      go_wp2_with fail
      refine (number_any w0 E g text hT _ _ R3.out.ps).mono ?_
      rintro e w3 ⟨⟨n, rfl, hn⟩, p3, b3⟩
      have HE : Hid (relM p = ((reqO (okMod K n) (numO ((opO p).map nxt))).map nxt).bind (relA K n)) := Lib.hid (by rw [HR1.out, relO_yes HBT.out hn])
      have r3 := R3.out.call p3 b3
      have R4 := Lib.hid (r3.store 1 (.int .i64 n) (K' := K) (M' := n) (b' := false) (v' := .slice none 0 0) rfl)
      obtain ⟨y0, y1, y2, y3⟩ := r3.cells
      have f1 := r3.k3.frozen 1
      obtain ⟨z0, z1, z2, z3⟩ := R4.out.cells
      clear p3 b3 hn r3 R3
      go_wp2_with fail
      refine (isMod_any K n _).mono ?_
      rintro e w' ⟨rfl, hw'⟩
      obtain rfl := hw'.symm
      obtain ⟨bm, hbm⟩ : ∃ bm, okMod K n = bm := ⟨_, rfl⟩
      rw [hbm] at HE ⊢
      clear hbm
      go_wp2_with fail
      refine (require_any w0 g text _ bm 2 (by decide) _ R4.out.ps).mono ?_
      rintro e w5 ⟨⟨rfl, p5, b5⟩, _⟩
      have R5 := Lib.hid (R4.out.call p5 b5)
      clear p5 b5 y0 y1 y2 y3 z0 z1 z2 z3 f1
      go_wp2_with fail
      refine (next_any w0 g text hT _ _ R5.out.ps).mono ?_
      rintro e w6 ⟨rfl, p6, b6⟩
      have R6 := Lib.hid (R5.out.call p6 b6)
      clear p6 b6
      go_wp2_with fail
      go_meet
      exact ⟨rfl, _, _, R6.out, HE.out⟩
  case rest =>
    obtain ⟨rfl, o, M, r7, hR7⟩ := hcut
    rename World => wc
    have R7 := Lib.hid r7
    have HR7 := Lib.hid hR7
    clear r7 hR7
    go_wp2_with fail
    refine (accept_any w0 g text hT _ ⟨#[33, 61]⟩ _ R7.out.ps).mono ?_
    rintro e w8 ⟨rfl, p8, b8⟩
    rw [show (ByteArray.mk #[33, 61]).data.toList = [33, 61] from rfl] at p8 ⊢
    obtain ⟨b, hb⟩ : ∃ b, isTok [33, 61] o = b := ⟨_, rfl⟩
    have HB := Lib.hid hb
    have r8 := R7.out.call p8 b8
    obtain ⟨x0, x1, x2, x3⟩ := r8.cells
    have f2 := r8.k3.frozen 2
    have R9 := Lib.hid (r8.store 2 (.bool b) (K' := K) (M' := M) (b' := b) (v' := .slice none 0 0) rfl)
    obtain ⟨z0, z1, z2, z3⟩ := R9.out.cells
    rw [hb]
    clear p8 b8 hb r8
    go_upto_if 26 with fail
    go_cut [4] from 27 to 35 (fun v4 wx => v4 = .pointer (some ⟨g, 0, none⟩) ∧ ∃ o, RSt w0 w g text B2 B3 o K M b (.slice none 0 0) wx ∧ relM p = o.bind (relB K M b))
    case first =>
      cases b with
      | true =>
        have HE : Hid (relM p = (o.map nxt).bind (relB K M true)) := Lib.hid (by rw [HR7.out, relA_ne HB.out])
        have R10 : Hid (RSt w0 w g text B2 B3 (o.map nxt) K M true (.slice none 0 0) (w8.setCell ⟨B3, 2, none⟩ (.bool true))) := Lib.hid (by
          have := R9.out
          unfold accO at this
          rw [HB.out, if_pos rfl] at this
          exact this)
        go_wp2_with fail
        go_meet
        exact ⟨rfl, _, R10.out, HE.out⟩
      | false =>
        have R10 : Hid (RSt w0 w g text B2 B3 o K M false (.slice none 0 0) (w8.setCell ⟨B3, 2, none⟩ (.bool false))) := Lib.hid (by
          have := R9.out
          unfold accO at this
          rw [HB.out, if_neg (by simp)] at this
          exact this)
        obtain ⟨tk, fl, t1, _, _, _, hpt⟩ := R10.out.ps.tok
        have HEQ : Hid (∀ e, e = decide (tk = [61]) → relM p = ((reqO e o).map nxt).bind (relB K M false)) := Lib.hid (fun e he => by rw [HR7.out, relA_eq (e := e) HB.out (fun q hq => by rw [he, hpt q hq])])
        obtain ⟨be, hbe⟩ : ∃ be, decide (tk = [61]) = be := ⟨_, rfl⟩
        have HE := Lib.hid (HEQ.out be hbe.symm)
        have u1 : ((ofL tk).toList == [61]) = be := by
          rw [← hbe, Bool.eq_iff_iff, beq_iff_eq, ByteArray.toList_eq, decide_eq_true_eq]
          exact Iff.rfl
        clear hpt hbe HEQ R9
        go_wp2_with fail
        refine (require_any w0 g text _ be 3 (by decide) _ R10.out.ps).mono ?_
        rintro e w9 ⟨⟨rfl, p9, b9⟩, _⟩
        have R11 := Lib.hid (R10.out.call p9 b9)
        clear p9 b9 u1 t1 z0 z1 z2 z3 x0 x1 x2 x3 f2
        go_wp2_with fail
        refine (next_any w0 g text hT _ _ R11.out.ps).mono ?_
        rintro e w10 ⟨rfl, p10, b10⟩
        have R12 := Lib.hid (R11.out.call p10 b10)
        clear p10 b10
        go_wp2_with fail
        go_meet
        exact ⟨rfl, _, R12.out, HE.out⟩
    case rest =>
      clear R7 HR7 HB R9 x0 x1 x2 x3 f2 z0 z1 z2 z3 R1 R2 HR1 HBT
      obtain ⟨rfl, o2, r7, hR7⟩ := hcut
      rename World => wd
      have R7 := Lib.hid r7
      have HR7 := Lib.hid hR7
      obtain ⟨x0, x1, x2, x3⟩ := r7.cells
      clear r7 hR7
      go_wp2_with fail
      refine (span_any w0 E g text hT o2 K M b none 0 0 _ R7.out.ps).mono ?_
      rintro e w11 ⟨⟨x, y, rfl, hv⟩, p11, b11⟩
      have HE : Hid (relM p = ((o2.bind (spanM K 0)).map (·.2)).bind (relS K M b 4 [(x, y)])) := Lib.hid (by rw [HR7.out, relB_span hv])
      have r11 := R7.out.call p11 b11
      obtain ⟨B4, hB4⟩ : ∃ B4, w11.heap.size = B4 := ⟨_, rfl⟩
      have hB34 : B3 < B4 := by rw [← hB4]; exact r11.k3.lt
      have bal := (Below.refl w11.heap.size w11).alloc (Nat.le_refl _) (.cells #[.int .i64 x, .int .i64 y] 115)
      have r12 := r11.below bal
      have f3 := r12.k3.frozen 3
      obtain ⟨y0, y1, y2, y3⟩ := r12.cells
      have r13 := r12.store 3 (.slice (some ⟨w11.heap.size, 0, none⟩) 1 1) (K' := K) (M' := M) (b' := b) (v' := .slice (some ⟨w11.heap.size, 0, none⟩) 1 1) rfl
      have o13 : Own1 2 encP ((w11.alloc (.cells #[.int .i64 x, .int .i64 y] 115)).setCell ⟨B3, 3, none⟩ (.slice (some ⟨w11.heap.size, 0, none⟩) 1 1)) B4 115 (.slice (some ⟨w11.heap.size, 0, none⟩) 1 1) [(x, y)] :=
        own_but (own_span w11 B4 (by omega) x y) (But.setCell B3 _ 3 _) hB34
      have HL : Hid (LpAt w0 w g text B2 B3 B4 K M b (relM p) ((w11.alloc (.cells #[.int .i64 x, .int .i64 y] 115)).setCell ⟨B3, 3, none⟩ (.slice (some ⟨w11.heap.size, 0, none⟩) 1 1))) := Lib.hid ⟨_, 4, [(x, y)], _, r13, o13, HE.out, by simp, by simp, fun _ => by simp, hB34⟩
      clear hv p11 b11 r11 r12 r13 o13 bal hB4 hB34 x0 x1 x2 x3
      go_wp2
      go_loopw [42] (fun v42 wr => LpAt w0 w g text B2 B3 B4 K M b (relM p) wr) (fun _ wr => 6 - lenAt B3 wr)
      case atStart => exact HL.out
      case round =>
        obtain ⟨o, f, acc, v, r, own, hR, h1, h5, hf, h34⟩ := hrel
        obtain ⟨va, vc, hva⟩ := own.slice
        subst hva
        have RR := Lib.hid r
        have OW := Lib.hid own
        have HRR := Lib.hid hR
        have HLE := Lib.hid (lenAt_of (r.k3.cell 3))
        have HF := Lib.hid hf
        clear r own hR HL hf
        go_wp2_with fail
        refine (accept_any w0 g text hT _ ⟨#[44]⟩ _ RR.out.ps).mono ?_
        rintro e w20 ⟨rfl, p20, b20⟩
        rw [show (ByteArray.mk #[44]).data.toList = [44] from rfl] at p20 ⊢
        obtain ⟨bc, hbc⟩ : ∃ bc, isTok [44] o = bc := ⟨_, rfl⟩
        have HBC := Lib.hid hbc
        have R20 := Lib.hid (RR.out.call p20 b20)
        have O20 := Lib.hid (own_but OW.out b20 (by have := RR.out.lt; omega))
        obtain ⟨n0, n1, n2, n3⟩ := R20.out.cells
        rw [hbc]
        clear p20 b20 hbc
        cases bc with
        | false =>
          have R21 : Hid (RSt w0 w g text B2 B3 o K M b (.slice va acc.length vc) w20) := Lib.hid (by
            have := R20.out
            unfold accO at this
            rw [HBC.out, if_neg (by simp)] at this
            exact this)
          have HEND : Hid (relM p = o.map fun q => (⟨K, M, b, acc⟩, q)) := Lib.hid (by
            rw [HRR.out]
            cases ho : o with
            | none => rfl
            | some q =>
              have h9 := HF.out (by rw [ho]; rfl)
              obtain ⟨f', rfl⟩ : ∃ f', f = f' + 1 := ⟨f - 1, by omega⟩
              rw [← ho]
              exact relS_end HBC.out)
          have k2c := R21.out.k2
          have m0 : w20.cell? ⟨B2, 0, none⟩ = some (.int .i64 0) := k2c.cell 0
          have m1 : w20.cell? ⟨B2, 1, none⟩ = some (.int .i64 0) := k2c.cell 1
          have m2 : w20.cell? ⟨B2, 2, none⟩ = some (.bool false) := k2c.cell 2
          have m3 : w20.cell? ⟨B2, 3, none⟩ = some (.slice none 0 0) := k2c.cell 3
          have mf := k2c.frozen
          have HK2 := Lib.hid k2c
          clear k2c R20
          go_wp2
          have hlt3 := R21.out.lt
          have hbs := R21.out.ps.base
          have kk := (((HK2.out.put 0 (.int .i64 K)).put 1 (.int .i64 M)).put 2 (.bool b)).put 3 (.slice va acc.length vc)
          have bu : But B2 w20 ((((w20.setCell ⟨B2, 0, none⟩ (.int .i64 K)).setCell ⟨B2, 1, none⟩ (.int .i64 M)).setCell ⟨B2, 2, none⟩ (.bool b)).setCell ⟨B2, 3, none⟩ (.slice va acc.length vc)) := (((But.setCell B2 w20 0 _).trans (But.setCell B2 _ 1 _)).trans (But.setCell B2 _ 2 _)).trans (But.setCell B2 _ 3 _)
          have hp4 : PS w0 g text o ((((w20.setCell ⟨B2, 0, none⟩ (.int .i64 K)).setCell ⟨B2, 1, none⟩ (.int .i64 M)).setCell ⟨B2, 2, none⟩ (.bool b)).setCell ⟨B2, 3, none⟩ (.slice va acc.length vc)) := (((R21.out.ps.setNew (by omega) (by omega) _).setNew (by omega) (by omega) _).setNew (by omega) (by omega) _).setNew (by omega) (by omega) _
          have hb4 : But g w ((((w20.setCell ⟨B2, 0, none⟩ (.int .i64 K)).setCell ⟨B2, 1, none⟩ (.int .i64 M)).setCell ⟨B2, 2, none⟩ (.bool b)).setCell ⟨B2, 3, none⟩ (.slice va acc.length vc)) := (((R21.out.but.setNew (by omega) _).setNew (by omega) _).setNew (by omega) _).setNew (by omega) _
          have ow := own_but O20.out bu (by omega)
          refine bodyPost_ret (v := .agg #[.int .i64 K, .int .i64 M, .bool b, .slice va acc.length vc]) (resRl rfl kk) rfl ⟨⟨⟨K, M, b, va, acc.length, vc⟩, rfl, fun r q hq => ?_⟩, ?_, hb4⟩
          · rw [HEND.out] at hq
            obtain ⟨q', _, hq'⟩ := Option.map_eq_some_iff.1 hq
            injection hq' with e1 _
            subst e1
            refine ⟨⟨rfl, rfl, rfl, ow.rd encP_len⟩, fun b hb => ?_⟩
            have := (ow.lt_ b hb).1
            exact ⟨by omega, ow.blk b hb⟩
          · rw [HEND.out, Option.map_map]
            have : (Prod.snd ∘ fun q : Pst => ((⟨K, M, b, acc⟩ : Rel), q)) = id := rfl
            rw [show ((fun x : Rel × Pst => x.2) ∘ fun q : Pst => ((⟨K, M, b, acc⟩ : Rel), q)) = id from rfl, Option.map_id, id]
            exact hp4
        | true =>
          have R21 : Hid (RSt w0 w g text B2 B3 (o.map nxt) K M b (.slice va acc.length vc) w20) := Lib.hid (by
            have := R20.out
            unfold accO at this
            rw [HBC.out, if_pos rfl] at this
            exact this)
          have hsome : Hid (acc.length ≤ 4 ∧ f + acc.length = 5) := Lib.hid (HF.out (by
            cases ho : o with
            | none => rw [ho] at HBC; cases HBC.out
            | some q => rfl))
          obtain ⟨iS, hiS, hzS, hkS, hbS⟩ := info_parts Tryz.infoSp
          clear R20 n0 n1 n2 n3
          have HC : Hid (∀ wx, But g w20 wx → wx.cell? ⟨B3, 0, none⟩ = some (.int .i64 K) ∧ wx.cell? ⟨B3, 1, none⟩ = some (.int .i64 M) ∧ wx.cell? ⟨B3, 2, none⟩ = some (.bool b) ∧ wx.cell? ⟨B3, 3, none⟩ = some (.slice va acc.length vc)) := Lib.hid (fun wx hb => by
            have h9 := R21.out.lt
            have k3 := R21.out.k3.but hb (by omega)
            exact ⟨k3.cell 0, k3.cell 1, k3.cell 2, k3.cell 3⟩)
          have BD : But g w20 w20.drew := But.of_below (Below.refl _ w20).drew
          obtain ⟨n0, n1, n2, n3⟩ := HC.out _ BD
          have PD := Lib.hid (R21.out.ps.below (Below.refl _ w20).drew)
          have HBD := Lib.hid BD
          have HALL : Hid (∀ w21, But g w20 w21 → But g w20 w21 ∧ (∀ x y : Int, But g w20 (w21.alloc (.cells #[.int .i64 x, .int .i64 y] 115))) ∧ B4 ≤ w21.heap.size ∧ Own1 2 encP w21 B4 115 (.slice va acc.length vc) acc) := Lib.hid (fun w21 hb => by
            have h9 := R21.out.lt
            refine ⟨hb, fun x y => hb.trans (But.of_below ((Below.refl _ w21).alloc (Nat.le_refl _) _)), ?_, own_but O20.out hb (by omega)⟩
            have := (O20.out.lt_ )
            have h8 := hb.size
            rcases Nat.lt_or_ge w21.heap.size B4 with h | h
            · exfalso
              obtain ⟨a9, ha9⟩ : ∃ bb, (Value.slice va acc.length vc).ownBlock = some bb := by
                rcases O20.out.2 with ⟨h7, h6⟩ | ⟨gg, cap, cur, hv, _⟩
                · omega
                · exact ⟨gg, by rw [hv]; rfl⟩
              have := this a9 ha9
              omega
            · exact h)
          clear BD
          go_upto_region 12 with fail
          go_region_law (first
            | (refine step_append_at (w0 := w21) (x := (x, y)) (N := w21.heap.size) rfl rfl _ _ 75 rfl B4 iS _ 16 Tryz.underlying75 hiS hzS hkS hbS (by omega) rfl (by omega) encP_len encP_one _ acc rfl rfl J4.out rfl (by omega) j3 ?_; intro v9 w22 h22; obtain ⟨a9, c9, hv9⟩ := h22.1.slice; rw [List.length_append, List.length_singleton] at hv9; subst hv9; have O22 := Lib.hid h22.1; have B22 := Lib.hid h22.2; have R22 := Lib.hid (R21b.out.belowN h22.2 h34); have ck : w22.cell? ⟨B3, 3, none⟩ = some (.slice va acc.length vc) := R22.out.k3.cell 3; have fk : w22.frozen? ⟨B3, 3, none⟩ = false := R22.out.k3.frozen 3; clear h22)
            | (refine step_call rfl _ _ _ rfl rfl rfl (enters_of Tryz.func191 (by kernel_rfl) rfl) (span_any w0 E g text hT (o.map nxt) K M b va acc.length vc _ PD.out) ?_; rintro e w21 ⟨⟨x, y, rfl, hv⟩, p21, b21⟩; refine ⟨_, rfl, ?_⟩; have P21 := Lib.hid p21; have HV := Lib.hid hv; have B21 := Lib.hid (HBD.out.trans b21); have R21b := Lib.hid (R21.out.call p21 B21.out); obtain ⟨j1, j2, j3, j4⟩ := HALL.out _ B21.out; have J2 := Lib.hid (j2 x y); have J4 := Lib.hid j4; obtain ⟨d0, d1, d2, d3⟩ := HC.out _ B21.out; obtain ⟨e0, e1, e2, e3⟩ := HC.out _ J2.out; clear p21 b21 hv j1 j2 j4))
          all_goals
            have HN : Hid (LpAt w0 w g text B2 B3 B4 K M b (relM p) (w22.setCell ⟨B3, 3, none⟩ (.slice a9 (acc.length + 1) c9)) ∧ lenAt B3 (w22.setCell ⟨B3, 3, none⟩ (.slice a9 (acc.length + 1) c9)) = acc.length + 1) := Lib.hid (by
              have h9 := R22.out.lt
              have h8 := hsome.out
              have r23 := R22.out.store 3 (.slice a9 (acc.length + 1) c9) (K' := K) (M' := M) (b' := b) (v' := (.slice a9 (acc.length + 1) c9)) rfl
              obtain ⟨f', rfl⟩ : ∃ f', f = f' + 1 := ⟨f - 1, by omega⟩
              refine ⟨⟨_, f', acc ++ [(x, y)], (.slice a9 (acc.length + 1) c9), r23, own_but O22.out (But.setCell B3 w22 3 (.slice a9 (acc.length + 1) c9)) h34, ?_, by simp, by simp; omega, fun hs => ?_, h34⟩, ?_⟩
              · rw [HRR.out, relS_go HBC.out HV.out]
              · rw [List.length_append, List.length_singleton]
                refine ⟨?_, by omega⟩
                rcases Nat.lt_or_ge acc.length 4 with h | h
                · omega
                · exfalso
                  have e4 : acc.length = 4 := by omega
                  cases ho : (o.map nxt).bind (spanM K acc.length) with
                  | none => rw [ho] at hs; cases hs
                  | some sq =>
                    obtain ⟨q0, hq0, hq1⟩ := Option.bind_eq_some_iff.1 ho
                    have := (spanM_ok (s := sq.1) (q := sq.2) hq1).2.2
                    omega
              · exact lenAt_of (a := a9) (c := c9) (r23.k3.cell 3))
            go_wp2_with fail
            go_roundw
            case measure =>
              rw [HN.out.2, HLE.out]
              have := hsome.out
              omega
            case rel => exact HN.out.1
end Go.Proofs.YtmnclnpbmgomgaaGreatDoor


/- Of condition: the parser's list. Of condition: the parser's condition. Of condition: Parse. -/
namespace Go.Proofs.YtmnclnpbmgomgaaGreatDoor
open Go.RowKit
set_option linter.unusedVariables false

theorem Tryz.infoRel : (Tryz.prog.info? 77).map (fun i => (i.zero, i.size, i.bytes)) = some (some (.agg #[.int .i64 0, .int .i64 0, .bool false, .slice none 0 0]), 4, 48) := by kernel_rfl
def RelOk (w : World) (g : Nat) (x : RawR) (r : Rel) : Prop := RdRel w x r ∧ SpB w g (.slice x.a x.n x.c)
theorem RelOk.but {w w' : World} {g : Nat} {x : RawR} {r : Rel} (h : RelOk w g x r) (hb : But g w w') : RelOk w' g x r :=
  ⟨⟨h.1.op, h.1.md, h.1.nt, h.1.sp.but hb (fun b e => by have := (h.2 b e).1; omega)⟩, h.2.but hb⟩
/-- .. and where a row of another type has grown. -/
theorem RelOk.grown {w w' : World} {g : Nat} {x : RawR} {r : Rel} (h : RelOk w g x r) {row : Option Nat} (hg : w.grownBy w' row) (hr : ∀ b, row = some b → ∃ t cs, t ≠ 115 ∧ Blk b t cs w) : RelOk w' g x r := by
  have hne : ∀ b, (Value.slice x.a x.n x.c).ownBlock = some b → row ≠ some b := fun b e e2 => by
    obtain ⟨_, cs, h2⟩ := h.2 b e
    obtain ⟨t, cs', ht, h3⟩ := hr b e2
    have : (some (Obj.cells cs 115 (0, 0)) : Option Obj) = some (Obj.cells cs' t (0, 0)) := by rw [← show w.heap[b]? = _ from h2, ← show w.heap[b]? = _ from h3]
    injection this with this
    injection this with _ h4
    exact ht h4.symm
  refine ⟨⟨h.1.op, h.1.md, h.1.nt, ?_⟩, fun b e => ?_⟩
  · obtain ⟨⟨a, c, hv, h1, h2, hx⟩, hn⟩ := h.1.sp
    refine ⟨⟨a, c, hv, h1, h2, fun hl => ?_⟩, hn⟩
    obtain ⟨b, off, ha, hlt, hc⟩ := hx hl
    have hb := hg.block b hlt (fun e => hne b (by rw [hv, ha]; rfl) e.symm)
    exact ⟨b, off, ha, Nat.lt_of_lt_of_le hlt hg.size, fun i x hi j u hu => (World.cell?_of_block (w := w) (a := ⟨b, off + i * 2 + j, none⟩) hb).trans (hc i x hi j u hu)⟩
  · obtain ⟨h1, cs, h2⟩ := h.2 b e
    exact ⟨h1, cs, (hg.block b h2.lt (fun e' => hne b e e'.symm)).trans h2⟩
def LkAt (w0 w : World) (g : Nat) (text : ByteArray) (B : Nat) (R : Option (List Rel × Pst)) (v : Value) (wr : World) : Prop :=
  ∃ (o : Option Pst) (raws : List RawR), PS w0 g text o wr ∧ But g w wr ∧ Own1 4 encR wr B 77 v raws ∧ g < B ∧ w.heap.size ≤ B ∧ raws.length ≤ 7 ∧ B ≤ wr.heap.size ∧ (o = none → R = none) ∧ ∀ q, o = some q → ∃ (acc : List Rel) (f : Nat), R = relsM f acc q ∧ raws.length = acc.length ∧ (∀ (i : Nat) (h : i < raws.length) (h' : i < acc.length), RelOk wr g raws[i] acc[i]) ∧ raws.length ≤ q.n ∧ q.n ≤ 6 ∧ 7 ≤ f + q.n
def LsP (w0 : World) (g : Nat) (text : ByteArray) (R : Option (List Rel × Pst)) (w : World) (e : Ending) (w' : World) : Prop := (∃ (a : Option Addr) (n c : Nat), e = .returned (.slice a n c) ∧ ∀ l q, R = some (l, q) → ∃ raws : List RawR, Rd 4 encR w' (.slice a n c) raws ∧ raws.length = l.length ∧ (∀ (i : Nat) (h : i < raws.length) (h' : i < l.length), RelOk w' g raws[i] l[i]) ∧ ∀ b, (Value.slice a n c).ownBlock = some b → g < b ∧ ∃ cs, Blk b 77 cs w') ∧ PS w0 g text (R.map (·.2)) w' ∧ But g w w'
theorem rels_end {f : Nat} {acc : List Rel} {q : Pst} (h : isTok [97, 110, 100] (some q) = false) (hf : 1 ≤ f) : relsM f acc q = some (acc, q) := by
  obtain ⟨f', rfl⟩ : ∃ f', f = f' + 1 := ⟨f - 1, by omega⟩
  have h1 : ¬ q.tok = [97, 110, 100] := of_decide_eq_false h
  rw [relsM, if_neg h1]
theorem rels_go {f : Nat} {acc : List Rel} {q : Pst} (h : isTok [97, 110, 100] (some q) = true) : relsM (f + 1) acc q = (relM (nxt q)).bind fun x => relsM f (acc ++ [x.1]) x.2 := by
  have h1 : q.tok = [97, 110, 100] := of_decide_eq_true h
  rw [relsM, if_pos h1]
  cases relM (nxt q) with
  | none => rfl
  | some x => rfl
theorem own_rel (w : World) (base : Nat) (hb : base ≤ w.heap.size) (x : RawR) : Own1 4 encR (w.alloc (.cells #[.int .i64 x.op, .int .i64 x.md, .bool x.nt, .slice x.a x.n x.c] 77)) base 77 (.slice (some ⟨w.heap.size, 0, none⟩) 1 1) [x] :=
  ⟨by rfl, .inr ⟨w.heap.size, 1, #[.int .i64 x.op, .int .i64 x.md, .bool x.nt, .slice x.a x.n x.c], rfl, hb, heap_alloc_new w _, Nat.le_refl _, by decide, rfl, rfl⟩⟩
def lnOf (v : Value) : Nat := match v with | .slice _ n _ => n | _ => 0
set_option maxRecDepth 1000000 in
set_option maxHeartbeats 8000000 in
theorem plist_any (w0 : World) (E : Env w0) (g : Nat) (text : ByteArray) (hT : text.size ≤ 1000000) (p : Pst) (hn6 : p.n ≤ 6) (w : World) (h : PS w0 g text (some p) w) :
    Calls Tryz.prog 136 #[.pointer (some ⟨g, 0, none⟩)] w (LsP w0 g text (lstM p) w) := by
  have H := Lib.hid h
  have hlt := h.lt
  obtain ⟨iR, hiR, hzR, hkR, hbR⟩ := info_parts Tryz.infoRel
  clear h
  go_enter Tryz.func136, Tryz.ntmps136
  go_wp2_with fail
  refine (prelation_any w0 E g text hT p hn6 _ H.out).mono ?_
  rintro e w1 ⟨⟨raw, rfl, hr⟩, p1, b1⟩
  have bal := (Below.refl w1.heap.size w1).alloc (Nat.le_refl _) (.cells #[.int .i64 raw.op, .int .i64 raw.md, .bool raw.nt, .slice raw.a raw.n raw.c] 77)
  have hL : LkAt w0 w g text w1.heap.size (lstM p) (.slice (some ⟨w1.heap.size, 0, none⟩) 1 1) (w1.alloc (.cells #[.int .i64 raw.op, .int .i64 raw.md, .bool raw.nt, .slice raw.a raw.n raw.c] 77)) := by
    refine ⟨(relM p).map (·.2), [raw], p1.below bal, b1.trans (But.of_below bal), own_rel w1 _ (Nat.le_refl _) raw, by have := b1.size; omega, b1.size, by simp, bal.size, fun hn => ?_, fun q hq => ?_⟩
    · unfold lstM
      rw [Option.map_eq_none_iff.1 hn]
    · obtain ⟨⟨r, q'⟩, hx, e1⟩ := Option.map_eq_some_iff.1 hq
      dsimp only at e1
      subst e1
      obtain ⟨_, h2, h3⟩ := relM_ok hx
      refine ⟨[r], 7, ?_, rfl, fun i h h' => ?_, by simp; omega, by omega, by omega⟩
      · unfold lstM; rw [hx]
      · have hi : i = 0 := by simp at h; exact h
        subst hi
        have := hr r q' hx
        exact (show RelOk w1 g raw r from this).but (But.of_below bal)
  have HL := Lib.hid hL
  obtain ⟨B, hB⟩ : ∃ B, w1.heap.size = B := ⟨_, rfl⟩
  rw [hB] at HL
  clear hr p1 b1 bal hL H
  go_wp2
  try rw [hB]
  clear hB
  go_loopw [3] (fun v3 wr => LkAt w0 w g text B (lstM p) v3 wr) (fun v3 _ => 8 - lnOf v3)
  case atStart => exact HL.out
  case round =>
    obtain ⟨o, raws, hp, hbu, own, hgB, hwB, h7, hBs, hnone, hsome⟩ := hrel
    obtain ⟨va, vc, hva⟩ := own.slice
    subst hva
    have HP := Lib.hid hp
    have HBU := Lib.hid hbu
    have OW := Lib.hid own
    have HNO := Lib.hid hnone
    have HSO := Lib.hid hsome
    clear hp hbu own hnone hsome HL
    go_wp2_with fail
    refine (accept_any w0 g text hT _ ⟨#[97, 110, 100]⟩ _ HP.out).mono ?_
    rintro e w2 ⟨rfl, p2, b2⟩
    rw [show (ByteArray.mk #[97, 110, 100]).data.toList = [97, 110, 100] from rfl] at p2 ⊢
    obtain ⟨bc, hbc⟩ : ∃ bc, isTok [97, 110, 100] o = bc := ⟨_, rfl⟩
    have HBC := Lib.hid hbc
    have B2 := Lib.hid (HBU.out.trans b2)
    have B2b := Lib.hid b2
    have O2 := Lib.hid (own_but OW.out b2 (by omega))
    have P2 := Lib.hid p2
    rw [hbc]
    clear p2 b2 hbc
    cases bc with
    | false =>
      go_wp2
      go_ret
      have hp2 : PS w0 g text o w2 := by
        have := P2.out
        unfold accO at this
        rw [HBC.out, if_neg (by simp)] at this
        exact this
      have hfin : ∀ q, o = some q → ∃ acc, lstM p = some (acc, q) ∧ raws.length = acc.length ∧ (∀ (i : Nat) (h : i < raws.length) (h' : i < acc.length), RelOk w2 g raws[i] acc[i]) := fun q hq => by
        obtain ⟨acc, f, h1, h2, h3, h4, h5, h6⟩ := HSO.out q hq
        refine ⟨acc, ?_, h2, fun i a b => (h3 i a b).but B2b.out⟩
        rw [h1]
        exact rels_end (by rw [← hq]; exact HBC.out) (by omega)
      refine ⟨⟨va, raws.length, vc, rfl, fun l q hq => ?_⟩, ?_, B2.out⟩
      · cases ho : o with
        | none => rw [HNO.out ho] at hq; cases hq
        | some q0 =>
          obtain ⟨acc, h1, h2, h3⟩ := hfin q0 ho
          rw [h1] at hq
          injection hq with hq
          injection hq with e1 e2
          subst e1
          exact ⟨raws, O2.out.rd encR_len, h2, h3, fun b hb => ⟨by have := (O2.out.lt_ b hb).1; omega, O2.out.blk b hb⟩⟩
      · cases ho : o with
        | none =>
          rw [HNO.out ho]
          rw [ho] at hp2
          exact hp2
        | some q0 =>
          obtain ⟨acc, h1, h2, h3⟩ := hfin q0 ho
          rw [h1]
          rw [ho] at hp2
          exact hp2
    | true =>
      obtain ⟨q, hq⟩ : ∃ q, o = some q := by
        cases ho : o with
        | none => rw [ho] at HBC; cases HBC.out
        | some q => exact ⟨q, rfl⟩
      obtain ⟨acc, f, h1, h2, h3, h4, h5, h6⟩ := HSO.out q hq
      have HH := Lib.hid (And.intro h1 (And.intro h2 h3))
      have P3 : Hid (PS w0 g text (some (nxt q)) w2) := Lib.hid (by
        have := P2.out
        unfold accO at this
        rw [HBC.out, if_pos rfl, hq] at this
        exact this)
      have hqn : (nxt q).n ≤ 6 := h5
      have HQ := Lib.hid hq
      clear h1 h2 h3 hq P2
      go_wp2_with fail
      refine (prelation_any w0 E g text hT (nxt q) hqn _ P3.out).mono ?_
      rintro e w3 ⟨⟨raw2, rfl, hr⟩, p4, b4⟩
      have O4 := Lib.hid (own_but O2.out b4 (by omega))
      have P4 := Lib.hid p4
      have B4 := Lib.hid (B2.out.trans b4)
      have HR := Lib.hid hr
      have HOK := Lib.hid (fun (i : Nat) (h : i < raws.length) (h' : i < acc.length) => ((HH.out.2.2 i h h').but B2b.out).but b4)
      have hz : B ≤ w3.heap.size := by have := B2b.out.size; have := b4.size; omega
      clear p4 b4 hr
      go_wp2_with (first | (at_builtin; refine wpList_append_at (w0 := w3) (x := raw2) (N := w3.heap.size) rfl rfl _ _ 73 rfl B iR _ 48 Tryz.underlying73 hiR hzR hkR hbR (by omega) rfl (by omega) encR_len encR_one _ raws rfl rfl O4.out rfl (by omega) hz ?_; intro v9 w9 y1 y2 y3) | go_in)
      obtain ⟨a9, c9, hv9⟩ := y1.slice
      rw [List.length_append, List.length_singleton] at hv9
      subst hv9
      have HN : Hid (LkAt w0 w g text B (lstM p) (.slice a9 (raws.length + 1) c9) w9) := Lib.hid (by
        have hrow : ∀ b, (Value.slice va raws.length vc).ownBlock = some b → ∃ t cs, t ≠ 115 ∧ Blk b t cs w3 := fun b hb => by
          obtain ⟨cs, hcs⟩ := O4.out.blk b hb
          exact ⟨_, cs, by decide, hcs⟩
        have hgblk : w9.heap[g]? = w3.heap[g]? := y2.block g hgB
        have hlow : Below w0.heap.size w0 w9 := P4.out.low.trans (y2.mono (by have := P4.out.base; omega))
        refine ⟨(relM (nxt q)).map (·.2), raws ++ [raw2], P4.out.same hgblk hlow, ?_, y1, hgB, hwB, ?_, by have := y2.size; omega, fun hn => ?_, fun q2 hq2 => ?_⟩
        · refine ⟨y2.os.trans B4.out.os, y2.tape.trans B4.out.tape, y2.output.trans B4.out.output, Nat.le_trans B4.out.size y2.size, fun k hk hg => ?_⟩
          exact (y2.block k (by omega)).trans (B4.out.block k hk hg)
        · rw [List.length_append, List.length_singleton]; omega
        · obtain ⟨f', rfl⟩ : ∃ f', f = f' + 1 := ⟨f - 1, by omega⟩
          rw [HH.out.1, rels_go (by rw [← HQ.out]; exact HBC.out), Option.map_eq_none_iff.1 hn]
          rfl
        · obtain ⟨⟨r, q'⟩, hx, e1⟩ := Option.map_eq_some_iff.1 hq2
          dsimp only at e1
          subst e1
          obtain ⟨_, g2, g3⟩ := relM_ok hx
          obtain ⟨f', rfl⟩ : ∃ f', f = f' + 1 := ⟨f - 1, by omega⟩
          have e5 : (nxt q).n = q.n := rfl
          refine ⟨acc ++ [r], f', ?_, by rw [List.length_append, List.length_append, HH.out.2.1]; rfl, fun i hi hi' => ?_, by rw [List.length_append, List.length_singleton]; omega, by omega, by omega⟩
          · rw [HH.out.1, rels_go (by rw [← HQ.out]; exact HBC.out), hx]
            rfl
          · rcases Nat.lt_or_ge i raws.length with h | h
            · have h' : i < acc.length := by rw [← HH.out.2.1]; exact h
              rw [List.getElem_append_left h, List.getElem_append_left h']
              exact (HOK.out i h h').grown y3 hrow
            · have hi2 : i = raws.length := by rw [List.length_append, List.length_singleton] at hi; omega
              subst hi2
              have e6 : (raws ++ [raw2])[raws.length] = raw2 := by simp
              have e7 : (acc ++ [r])[raws.length]'hi' = r := by simp [HH.out.2.1]
              rw [e6, e7]
              exact (show RelOk w3 g raw2 r from HR.out r q' hx).grown y3 hrow)
      clear y1 y2 y3
      go_wp2
      go_roundw
      case measure => simp [lnOf]; omega
      case rel => exact HN.out
end Go.Proofs.YtmnclnpbmgomgaaGreatDoor

namespace Go.Proofs.YtmnclnpbmgomgaaGreatDoor
open Go.RowKit
set_option linter.unusedVariables false

theorem Tryz.infoLst : (Tryz.prog.info? 73).map (fun i => (i.zero, i.size, i.bytes)) = some (some (.slice none 0 0), 1, 24) := by kernel_rfl
theorem rd_grownT {α : Type} {k : Nat} {enc : α → List Value} {w w' : World} {row : Option Nat} {v : Value} {l : List α} (h : Rd k enc w v l) (hg : w.grownBy w' row) (hne : ∀ b, v.ownBlock = some b → row ≠ some b) : Rd k enc w' v l := by
  obtain ⟨⟨a, c, hv, h1, h2, hx⟩, hn⟩ := h
  refine ⟨⟨a, c, hv, h1, h2, fun hl => ?_⟩, hn⟩
  obtain ⟨b, off, ha, hlt, hc⟩ := hx hl
  have hb := hg.block b hlt (fun e => hne b (by rw [hv, ha]; rfl) e.symm)
  exact ⟨b, off, ha, Nat.lt_of_lt_of_le hlt hg.size, fun i x hi j u hu => (World.cell?_of_block (w := w) (a := ⟨b, off + i * k + j, none⟩) hb).trans (hc i x hi j u hu)⟩
/-- A list of relations whose blocks lie above g. -/
def LstOk (w : World) (g : Nat) (x : RawS) (l : List Rel) : Prop := (∃ raws : List RawR, Rd 4 encR w (.slice x.a x.n x.c) raws ∧ raws.length = l.length ∧ ∀ (i : Nat) (h : i < raws.length) (h' : i < l.length), RelOk w g raws[i] l[i]) ∧ ∀ b, (Value.slice x.a x.n x.c).ownBlock = some b → g < b ∧ ∃ cs, Blk b 77 cs w
theorem LstOk.but {w w' : World} {g : Nat} {x : RawS} {l : List Rel} (h : LstOk w g x l) (hb : But g w w') : LstOk w' g x l := by
  obtain ⟨⟨raws, h1, h2, h3⟩, h4⟩ := h
  refine ⟨⟨raws, h1.but hb (fun b e => by have := (h4 b e).1; omega), h2, fun i a b => (h3 i a b).but hb⟩, fun b e => ?_⟩
  obtain ⟨g1, cs, g2⟩ := h4 b e
  exact ⟨g1, cs, g2.but hb (by omega)⟩
theorem LstOk.grown {w w' : World} {g : Nat} {x : RawS} {l : List Rel} (h : LstOk w g x l) {row : Option Nat} (hg : w.grownBy w' row) (hr : ∀ b, row = some b → ∃ t cs, t ≠ 115 ∧ t ≠ 77 ∧ Blk b t cs w) : LstOk w' g x l := by
  obtain ⟨⟨raws, h1, h2, h3⟩, h4⟩ := h
  have hne : ∀ b, (Value.slice x.a x.n x.c).ownBlock = some b → row ≠ some b := fun b e e2 => by
    obtain ⟨_, cs, h5⟩ := h4 b e
    obtain ⟨t, cs', _, ht, h6⟩ := hr b e2
    have : (some (Obj.cells cs 77 (0, 0)) : Option Obj) = some (Obj.cells cs' t (0, 0)) := by rw [← show w.heap[b]? = _ from h5, ← show w.heap[b]? = _ from h6]
    injection this with this
    injection this with _ h7
    exact ht h7.symm
  refine ⟨⟨raws, rd_grownT h1 hg hne, h2, fun i a b => (h3 i a b).grown hg (fun b e => by obtain ⟨t, cs, g1, _, g2⟩ := hr b e; exact ⟨t, cs, g1, g2⟩)⟩, fun b e => ?_⟩
  obtain ⟨g1, cs, g2⟩ := h4 b e
  exact ⟨g1, cs, (hg.block b g2.lt (fun e' => hne b e e'.symm)).trans g2⟩
theorem LstOk.rd {w : World} {g : Nat} {x : RawS} {l : List Rel} (h : LstOk w g x l) : RdRels w (.slice x.a x.n x.c) l := by
  obtain ⟨⟨raws, h1, h2, h3⟩, _⟩ := h
  exact ⟨raws, h1, h2, fun i a b => (h3 i a b).1⟩
theorem lstOk_of {w : World} {g : Nat} {x : RawS} {l : List Rel} (h : ∃ raws : List RawR, Rd 4 encR w (.slice x.a x.n x.c) raws ∧ raws.length = l.length ∧ (∀ (i : Nat) (h : i < raws.length) (h' : i < l.length), RelOk w g raws[i] l[i]) ∧ ∀ b, (Value.slice x.a x.n x.c).ownBlock = some b → g < b ∧ ∃ cs, Blk b 77 cs w) : LstOk w g x l := by
  obtain ⟨raws, h1, h2, h3, h4⟩ := h
  exact ⟨⟨raws, h1, h2, h3⟩, h4⟩
def cndL (p : Pst) : Option (Cnd × Pst) := match lstM p with
  | none => none
  | some (l, q) => lstsM 7 [l] q
theorem cndM_eq (p : Pst) : cndM p = (cndL p).bind fun x => if x.2.tok = [] then some x else none := by
  unfold cndM cndL
  cases lstM p with
  | none => rfl
  | some x =>
    dsimp only
    cases lstsM 7 [x.1] x.2 with
    | none => rfl
    | some y => rfl
def CkAt (w0 w : World) (g : Nat) (text : ByteArray) (B : Nat) (R : Option (Cnd × Pst)) (v : Value) (wr : World) : Prop :=
  ∃ (o : Option Pst) (raws : List RawS), PS w0 g text o wr ∧ But g w wr ∧ Own1 1 encS wr B 73 v raws ∧ g < B ∧ w.heap.size ≤ B ∧ raws.length ≤ 7 ∧ B ≤ wr.heap.size ∧ (o = none → R = none) ∧ ∀ q, o = some q → ∃ (acc : Cnd) (f : Nat), R = lstsM f acc q ∧ raws.length = acc.length ∧ (∀ (i : Nat) (h : i < raws.length) (h' : i < acc.length), LstOk wr g raws[i] acc[i]) ∧ raws.length ≤ q.n ∧ q.n ≤ 6 ∧ 7 ≤ f + q.n
def CnP (w0 : World) (g : Nat) (text : ByteArray) (R : Option (Cnd × Pst)) (w : World) (e : Ending) (w' : World) : Prop := (∃ (a : Option Addr) (n c : Nat), e = .returned (.slice a n c) ∧ ∀ l q, R = some (l, q) → RdC w' (.slice a n c) l) ∧ PS w0 g text (R.map (·.2)) w' ∧ But g w w'
theorem lsts_end {f : Nat} {acc : Cnd} {q : Pst} (h : isTok [111, 114] (some q) = false) (hf : 1 ≤ f) : lstsM f acc q = some (acc, q) := by
  obtain ⟨f', rfl⟩ : ∃ f', f = f' + 1 := ⟨f - 1, by omega⟩
  have h1 : ¬ q.tok = [111, 114] := of_decide_eq_false h
  rw [lstsM, if_neg h1]
theorem lsts_go {f : Nat} {acc : Cnd} {q : Pst} (h : isTok [111, 114] (some q) = true) : lstsM (f + 1) acc q = (lstM (nxt q)).bind fun x => lstsM f (acc ++ [x.1]) x.2 := by
  have h1 : q.tok = [111, 114] := of_decide_eq_true h
  rw [lstsM, if_pos h1]
  cases lstM (nxt q) with
  | none => rfl
  | some x => rfl
theorem own_lst (w : World) (base : Nat) (hb : base ≤ w.heap.size) (x : RawS) : Own1 1 encS (w.alloc (.cells #[.slice x.a x.n x.c] 73)) base 73 (.slice (some ⟨w.heap.size, 0, none⟩) 1 1) [x] :=
  ⟨by rfl, .inr ⟨w.heap.size, 1, #[.slice x.a x.n x.c], rfl, hb, heap_alloc_new w _, Nat.le_refl _, by decide, rfl, rfl⟩⟩
set_option maxRecDepth 1000000 in
set_option maxHeartbeats 8000000 in
theorem pcondition_any (w0 : World) (E : Env w0) (g : Nat) (text : ByteArray) (hT : text.size ≤ 1000000) (p : Pst) (hn6 : p.n ≤ 6) (w : World) (h : PS w0 g text (some p) w) :
    Calls Tryz.prog 98 #[.pointer (some ⟨g, 0, none⟩)] w (CnP w0 g text (cndM p) w) := by
  have H := Lib.hid h
  have hlt := h.lt
  obtain ⟨iR, hiR, hzR, hkR, hbR⟩ := info_parts Tryz.infoLst
  clear h
  go_enter Tryz.func98, Tryz.ntmps98
  go_wp2_with fail
  refine (plist_any w0 E g text hT p hn6 _ H.out).mono ?_
  rintro e w1 ⟨⟨ra, rn, rc, rfl, hr⟩, p1, b1⟩
  obtain ⟨raw, e1, e2, e3⟩ : ∃ raw : RawS, raw.a = ra ∧ raw.n = rn ∧ raw.c = rc := ⟨⟨ra, rn, rc⟩, rfl, rfl, rfl⟩
  subst e1 e2 e3
  have bal := (Below.refl w1.heap.size w1).alloc (Nat.le_refl _) (.cells #[.slice raw.a raw.n raw.c] 73)
  have hL : CkAt w0 w g text w1.heap.size (cndL p) (.slice (some ⟨w1.heap.size, 0, none⟩) 1 1) (w1.alloc (.cells #[.slice raw.a raw.n raw.c] 73)) := by
    refine ⟨(lstM p).map (·.2), [raw], p1.below bal, b1.trans (But.of_below bal), own_lst w1 _ (Nat.le_refl _) raw, by have := b1.size; omega, b1.size, by simp, bal.size, fun hn => ?_, fun q hq => ?_⟩
    · unfold cndL
      rw [Option.map_eq_none_iff.1 hn]
    · obtain ⟨⟨r, q'⟩, hx, e1⟩ := Option.map_eq_some_iff.1 hq
      dsimp only at e1
      subst e1
      obtain ⟨_, h2, h3, h4⟩ := lstM_ok hx
      refine ⟨[r], 7, ?_, rfl, fun i h h' => ?_, by simp; omega, by omega, by omega⟩
      · unfold cndL; rw [hx]
      · have hi : i = 0 := by simp at h; exact h
        subst hi
        have := hr r q' hx
        exact (lstOk_of this).but (But.of_below bal)
  have HL := Lib.hid hL
  obtain ⟨B, hB⟩ : ∃ B, w1.heap.size = B := ⟨_, rfl⟩
  rw [hB] at HL
  clear hr p1 b1 bal hL H
  go_wp2
  try rw [hB]
  clear hB
  go_loopw [3] (fun v3 wr => CkAt w0 w g text B (cndL p) v3 wr) (fun v3 _ => 8 - lnOf v3)
  case atStart => exact HL.out
  case round =>
    obtain ⟨o, raws, hp, hbu, own, hgB, hwB, h7, hBs, hnone, hsome⟩ := hrel
    obtain ⟨va, vc, hva⟩ := own.slice
    subst hva
    have HP := Lib.hid hp
    have HBU := Lib.hid hbu
    have OW := Lib.hid own
    have HNO := Lib.hid hnone
    have HSO := Lib.hid hsome
    clear hp hbu own hnone hsome HL
    go_wp2_with fail
    refine (accept_any w0 g text hT _ ⟨#[111, 114]⟩ _ HP.out).mono ?_
    rintro e w2 ⟨rfl, p2, b2⟩
    rw [show (ByteArray.mk #[111, 114]).data.toList = [111, 114] from rfl] at p2 ⊢
    obtain ⟨bc, hbc⟩ : ∃ bc, isTok [111, 114] o = bc := ⟨_, rfl⟩
    have HBC := Lib.hid hbc
    have B2 := Lib.hid (HBU.out.trans b2)
    have B2b := Lib.hid b2
    have O2 := Lib.hid (own_but OW.out b2 (by omega))
    have P2 := Lib.hid p2
    rw [hbc]
    clear p2 b2 hbc
    cases bc with
    | false =>
      have hp2 : PS w0 g text o w2 := by
        have := P2.out
        unfold accO at this
        rw [HBC.out, if_neg (by simp)] at this
        exact this
      obtain ⟨t, ff, c1, _, _, _, htk⟩ := hp2.tok
      have HTK := Lib.hid htk
      have HP2 := Lib.hid hp2
      obtain ⟨bt, hbt⟩ : ∃ bt, decide (t = []) = bt := ⟨_, rfl⟩
      have q1 : ((ofL t).toList == []) = bt := by rw [← hbt, ByteArray.toList_eq]; show (t == []) = _; cases t <;> rfl
      have q2 : (ofL t).toList.isEmpty = bt := by rw [← hbt, ByteArray.toList_eq]; show t.isEmpty = _; cases t <;> rfl
      have HBT := Lib.hid hbt
      clear hp2 htk hbt
      go_wp2_with fail
      refine (require_any w0 g text o bt 3 (by decide) _ HP2.out).mono ?_
      rintro e w3 ⟨⟨rfl, p3, b3⟩, _⟩
      have P3 := Lib.hid p3
      have B3 := Lib.hid b3
      clear p3 b3
      go_wp2
      go_ret
      have hfin : ∀ q, o = some q → ∃ acc, cndL p = some (acc, q) ∧ raws.length = acc.length ∧ (∀ (i : Nat) (h : i < raws.length) (h' : i < acc.length), LstOk w3 g raws[i] acc[i]) := fun q hq => by
        obtain ⟨acc, f, h1, h2, h3, h4, h5, h6⟩ := HSO.out q hq
        refine ⟨acc, ?_, h2, fun i a b => ((h3 i a b).but B2b.out).but B3.out⟩
        rw [h1]
        exact lsts_end (by rw [← hq]; exact HBC.out) (by omega)
      have O3 := own_but O2.out B3.out (by omega)
      refine ⟨⟨va, raws.length, vc, rfl, fun l q hq => ?_⟩, ?_, B2.out.trans B3.out⟩
      · rw [cndM_eq] at hq
        cases ho : o with
        | none => rw [HNO.out ho] at hq; cases hq
        | some q0 =>
          obtain ⟨acc, h1, h2, h3⟩ := hfin q0 ho
          rw [h1, Option.bind_some] at hq
          split at hq
          · injection hq with hq
            injection hq with e1 e2
            subst e1
            exact ⟨raws, O3.rd encS_len, h2, fun i a b => (h3 i a b).rd⟩
          · cases hq
      · rw [cndM_eq]
        have hp3 := P3.out
        cases ho : o with
        | none =>
          rw [HNO.out ho]
          rw [ho, reqO_none] at hp3
          exact hp3
        | some q0 =>
          obtain ⟨acc, h1, h2, h3⟩ := hfin q0 ho
          have ht := HTK.out q0 ho
          rw [h1, Option.bind_some]
          dsimp only
          by_cases hz : t = []
          · rw [if_pos (ht.trans hz)]
            rw [ho, ← HBT.out, decide_eq_true hz, reqO_true] at hp3
            exact hp3
          · rw [if_neg (by rw [ht]; exact hz)]
            rw [ho, ← HBT.out, decide_eq_false hz, reqO_false] at hp3
            exact hp3
    | true =>
      obtain ⟨q, hq⟩ : ∃ q, o = some q := by
        cases ho : o with
        | none => rw [ho] at HBC; cases HBC.out
        | some q => exact ⟨q, rfl⟩
      obtain ⟨acc, f, h1, h2, h3, h4, h5, h6⟩ := HSO.out q hq
      have HH := Lib.hid (And.intro h1 (And.intro h2 h3))
      have P3 : Hid (PS w0 g text (some (nxt q)) w2) := Lib.hid (by
        have := P2.out
        unfold accO at this
        rw [HBC.out, if_pos rfl, hq] at this
        exact this)
      have hqn : (nxt q).n ≤ 6 := h5
      have HQ := Lib.hid hq
      clear h1 h2 h3 hq P2
      go_wp2_with fail
      refine (plist_any w0 E g text hT (nxt q) hqn _ P3.out).mono ?_
      rintro e w3 ⟨⟨ra2, rn2, rc2, rfl, hr⟩, p4, b4⟩
      obtain ⟨raw2, e1, e2, e3⟩ : ∃ raw2 : RawS, raw2.a = ra2 ∧ raw2.n = rn2 ∧ raw2.c = rc2 := ⟨⟨ra2, rn2, rc2⟩, rfl, rfl, rfl⟩
      subst e1 e2 e3
      have O4 := Lib.hid (own_but O2.out b4 (by omega))
      have P4 := Lib.hid p4
      have B4 := Lib.hid (B2.out.trans b4)
      have HR := Lib.hid hr
      have HOK := Lib.hid (fun (i : Nat) (h : i < raws.length) (h' : i < acc.length) => ((HH.out.2.2 i h h').but B2b.out).but b4)
      have hz : B ≤ w3.heap.size := by have := B2b.out.size; have := b4.size; omega
      clear p4 b4 hr
      go_wp2_with (first | (at_builtin; refine wpList_append_at (w0 := w3) (x := raw2) (N := w3.heap.size) rfl rfl _ _ 39 rfl B iR _ 24 Tryz.underlying39 hiR hzR hkR hbR (by omega) rfl (by omega) encS_len encS_one _ raws rfl rfl O4.out rfl (by omega) hz ?_; intro v9 w9 y1 y2 y3) | go_in)
      obtain ⟨a9, c9, hv9⟩ := y1.slice
      rw [List.length_append, List.length_singleton] at hv9
      subst hv9
      have HN : Hid (CkAt w0 w g text B (cndL p) (.slice a9 (raws.length + 1) c9) w9) := Lib.hid (by
        have hrow : ∀ b, (Value.slice va raws.length vc).ownBlock = some b → ∃ t cs, t ≠ 115 ∧ t ≠ 77 ∧ Blk b t cs w3 := fun b hb => by
          obtain ⟨cs, hcs⟩ := O4.out.blk b hb
          exact ⟨_, cs, by decide, by decide, hcs⟩
        have hgblk : w9.heap[g]? = w3.heap[g]? := y2.block g hgB
        have hlow : Below w0.heap.size w0 w9 := P4.out.low.trans (y2.mono (by have := P4.out.base; omega))
        refine ⟨(lstM (nxt q)).map (·.2), raws ++ [raw2], P4.out.same hgblk hlow, ?_, y1, hgB, hwB, ?_, by have := y2.size; omega, fun hn => ?_, fun q2 hq2 => ?_⟩
        · refine ⟨y2.os.trans B4.out.os, y2.tape.trans B4.out.tape, y2.output.trans B4.out.output, Nat.le_trans B4.out.size y2.size, fun k hk hg => ?_⟩
          exact (y2.block k (by omega)).trans (B4.out.block k hk hg)
        · rw [List.length_append, List.length_singleton]; omega
        · obtain ⟨f', rfl⟩ : ∃ f', f = f' + 1 := ⟨f - 1, by omega⟩
          rw [HH.out.1, lsts_go (by rw [← HQ.out]; exact HBC.out), Option.map_eq_none_iff.1 hn]
          rfl
        · obtain ⟨⟨r, q'⟩, hx, e1⟩ := Option.map_eq_some_iff.1 hq2
          dsimp only at e1
          subst e1
          obtain ⟨_, g2, g3, g4⟩ := lstM_ok hx
          obtain ⟨f', rfl⟩ : ∃ f', f = f' + 1 := ⟨f - 1, by omega⟩
          have e5 : (nxt q).n = q.n := rfl
          refine ⟨acc ++ [r], f', ?_, by rw [List.length_append, List.length_append, HH.out.2.1]; rfl, fun i hi hi' => ?_, by rw [List.length_append, List.length_singleton]; omega, by omega, by omega⟩
          · rw [HH.out.1, lsts_go (by rw [← HQ.out]; exact HBC.out), hx]
            rfl
          · rcases Nat.lt_or_ge i raws.length with h | h
            · have h' : i < acc.length := by rw [← HH.out.2.1]; exact h
              rw [List.getElem_append_left h, List.getElem_append_left h']
              exact (HOK.out i h h').grown y3 hrow
            · have hi2 : i = raws.length := by rw [List.length_append, List.length_singleton] at hi; omega
              subst hi2
              have e6 : (raws ++ [raw2])[raws.length] = raw2 := by simp
              have e7 : (acc ++ [r])[raws.length]'hi' = r := by simp [HH.out.2.1]
              rw [e6, e7]
              exact (lstOk_of (HR.out r q' hx)).grown y3 hrow)
      clear y1 y2 y3
      go_wp2
      go_roundw
      case measure => simp [lnOf]; omega
      case rel => exact HN.out
end Go.Proofs.YtmnclnpbmgomgaaGreatDoor

namespace Go.Proofs.YtmnclnpbmgomgaaGreatDoor
open Go.RowKit
set_option linter.unusedVariables false

def PaP (s : ByteArray) (w : World) (e : Ending) (w' : World) : Prop := (∃ (a : Option Addr) (n c : Nat) (at_ er : Int), e = .returned (.tuple #[.slice a n c, .int .i64 at_, .int .i64 er]) ∧ match prsM s.data.toList with
  | some x => RdC w' (.slice a n c) x ∧ at_ = 0 ∧ er = 0
  | none => a = none ∧ n = 0 ∧ c = 0 ∧ er ≠ 0) ∧ Below w.heap.size w w'
set_option maxRecDepth 1000000 in
set_option maxHeartbeats 4000000 in
theorem parse_any (w : World) (E : Env w) (s : ByteArray) (hT : s.size ≤ 1000000) :
    Calls Tryz.prog 65 #[.string s] w (PaP s w) := by
  have BA := (Below.refl w.heap.size w).alloc (Nat.le_refl _) (.cells #[.string s, .string ⟨#[]⟩, .int .i64 0, .int .i64 0, .int .i64 0] 143)
  have hP : PS w w.heap.size s (some ⟨[], s.data.toList, 0⟩) (w.alloc (.cells #[.string s, .string ⟨#[]⟩, .int .i64 0, .int .i64 0, .int .i64 0] 143)) :=
    PS.mk_good (pre := []) (Nat.le_refl _) BA (heap_alloc_new w _) rfl
  obtain ⟨g, hg⟩ : ∃ g, w.heap.size = g := ⟨_, rfl⟩
  have HG := Lib.hid hg
  rw [hg] at hP
  have HP := Lib.hid hP
  have HE := Lib.hid E
  clear hP BA E
  go_enter Tryz.func65, Tryz.ntmps65
  go_wp2_with fail
  refine (next_any w g s hT _ _ HP.out).mono ?_
  rintro e w2 ⟨rfl, p2, b2⟩
  have P2 : Hid (PS w g s (some (N s.data.toList 0)) w2) := Lib.hid p2
  clear p2 b2
  go_wp2_with fail
  refine (pcondition_any w HE.out g s hT (N s.data.toList 0) (Nat.zero_le _) _ P2.out).mono ?_
  rintro e w3 ⟨⟨a, n, c, rfl, hr⟩, p3, b3⟩
  have LW : Hid (Below w.heap.size w w3) := Lib.hid p3.low
  have HR := Lib.hid hr
  have P3 := Lib.hid p3
  clear p3 b3 hr
  cases hm : cndM (N s.data.toList 0) with
  | some x =>
    have hpr : prsM s.data.toList = some x.1 := by unfold prsM; rw [hm]; rfl
    have p4 := P3.out
    rw [hm] at p4
    obtain ⟨tok, f, _, c4, _, hf, _⟩ := p4.tok
    have hf0 : f = 0 := hf.2 rfl
    subst hf0
    have HM := Lib.hid hm
    have HPR := Lib.hid hpr
    clear p4 hf hm hpr
    go_wp2
    go_ret3
    refine ⟨⟨a, n, c, 0, 0, rfl, ?_⟩, LW.out⟩
    rw [HPR.out]
    exact ⟨HR.out x.1 x.2 HM.out, rfl, rfl⟩
  | none =>
    have hpr : prsM s.data.toList = none := by unfold prsM; rw [hm]; rfl
    have p4 := P3.out
    rw [hm] at p4
    obtain ⟨tok, rest, pre, rel, f, hb, _, hf⟩ := p4.bad
    have c2 : w3.cell? ⟨g, 2, none⟩ = some (.int .i64 (pre.length : Nat)) := hb.cell 2
    have c4 : w3.cell? ⟨g, 4, none⟩ = some (.int .i64 f) := hb.cell 4
    have e1 : (f != 0) = true := by rw [bne_iff_ne]; exact hf
    have HF := Lib.hid hf
    have HPR := Lib.hid hpr
    obtain ⟨P, hPl⟩ : ∃ P : Int, ((pre.length : Nat) : Int) = P := ⟨_, rfl⟩
    rw [hPl] at c2
    clear p4 hf hm hpr hb hPl
    go_wp2_with fail
    go_quiet (fail)
    go_wp2
    go_ret3
    refine ⟨⟨none, 0, 0, P, f, rfl, ?_⟩, below_drewN LW.out _⟩
    rw [HPR.out]
    exact ⟨rfl, rfl, rfl, HF.out⟩
end Go.Proofs.YtmnclnpbmgomgaaGreatDoor


/- The laws' two conditions, parsed by the program. -/
namespace Go.Proofs.YtmnclnpbmgomgaaGreatDoor
open Go.RowKit
set_option linter.unusedVariables false

theorem Env.later14 {w w' : World} (h : Env w) (hb : Below w.heap.size w w') : Env w' := ⟨(h.cells hb).1, (h.cells hb).2⟩
theorem par14 (c : Cnd) (s : ByteArray) (hs : s.size ≤ 1000000) (hp : prsM s.data.toList = some c) (w : World) (E : Env w) : Calls Tryz.prog 65 #[.string s] w (ParP14 c w) := by
  refine (parse_any w E s hs).mono ?_
  rintro e w' ⟨⟨a, n, k, at_, er, rfl, h⟩, hb⟩
  rw [hp] at h
  obtain ⟨h1, rfl, rfl⟩ := h
  exact ⟨a, n, k, rfl, h1, hb⟩
end Go.Proofs.YtmnclnpbmgomgaaGreatDoor


/- What the laws of layer 14 want of the program, of Valid and Class; the law on Class as its row takes it. -/
namespace Go.Proofs.YtmnclnpbmgomgaaGreatDoor
open Go.RowKit
set_option linter.unusedVariables false

def Ev14 (w : World) : Prop := Env w ∧ ClG w
theorem plV : PlV Ev14 :=
  { later := fun h hb => ⟨h.1.later14 hb, h.2.below hb⟩
    parseA := fun w E => par14 plA plT (by decide) (by kernel_rfl) w E.1
    parseB := fun w E => par14 plB plU (by decide) (by kernel_rfl) w E.1
    class_ := fun v l s w hv hr _ hs E => class14P_any v l s hs w hv hr E.2
    valid := fun v l w hv hr _ E => valid14P_any v l w hv hr E.2 }
theorem pluralClass_in (l : Rus) (v : Value) (a : ByteArray) (w : World) (hv : RdRus w v l) (hr : RusR l) (ha : a.size ≤ maxLen) (E : Env w ∧ ClG w) : Calls Tryz.prog 3 #[v, .string a] w fun e w' => e = .returned (.bool true) ∧ Below w.heap.size w w' := by
  have h := pluralClass_walk plV v l a.data.toList (by rw [len_data]; exact ha) w hv hr E
  rw [of_data] at h
  exact h
end Go.Proofs.YtmnclnpbmgomgaaGreatDoor


/- What the laws of layer 14 want of the program, of Classes and Example; the laws as their rows take them. -/
namespace Go.Proofs.YtmnclnpbmgomgaaGreatDoor
open Go.RowKit
set_option linter.unusedVariables false

def Ev14D (w : World) : Prop := (Env w ∧ ClG w) ∧ MaxL w
theorem plD : PlD Ev14D :=
  { later := fun h hb => ⟨⟨h.1.1.later14 hb, h.1.2.below hb⟩, h.2.below hb⟩
    parseA := fun w E => par14 plA plT (by decide) (by kernel_rfl) w E.1.1
    parseB := fun w E => par14 plB plU (by decide) (by kernel_rfl) w E.1.1
    class_ := fun v l s w hv hr _ hs E => class14P_any v l s hs w hv hr E.1.2
    classes := fun v l w hv hr _ E => classes14P_any v l w hv hr E.1.2 E.2
    example_ := fun v l s w hv hr _ _ E => example14P_any v l s w hv hr E.1.2 E.2 }
end Go.Proofs.YtmnclnpbmgomgaaGreatDoor


/- The law on Order as its row takes it. -/
namespace Go.Proofs.YtmnclnpbmgomgaaGreatDoor
open Go.RowKit
set_option linter.unusedVariables false

theorem pluralOrder_in (l : Rus) (v : Value) (a : ByteArray) (w : World) (hv : RdRus w v l) (hr : RusR l) (ha : a.size ≤ maxLen) (E : Ev14D w) : Calls Tryz.prog 6 #[v, .string a] w fun e w' => e = .returned (.bool true) ∧ Below w.heap.size w w' := by
  have h := pluralOrder_walk plD v l a.data.toList (by rw [len_data]; exact ha) w hv hr E
  rw [of_data] at h
  exact h
end Go.Proofs.YtmnclnpbmgomgaaGreatDoor


/- The law on Occurs as its row takes it. -/
namespace Go.Proofs.YtmnclnpbmgomgaaGreatDoor
open Go.RowKit
set_option linter.unusedVariables false

theorem pluralOccurs_in (l : Rus) (v : Value) (a : ByteArray) (w : World) (hv : RdRus w v l) (hr : RusR l) (ha : a.size ≤ maxLen) (E : Ev14D w) : Calls Tryz.prog 5 #[v, .string a] w fun e w' => e = .returned (.bool true) ∧ Below w.heap.size w w' := by
  have h := pluralOccurs_walk plD v l a.data.toList (by rw [len_data]; exact ha) w hv hr E
  rw [of_data] at h
  exact h
end Go.Proofs.YtmnclnpbmgomgaaGreatDoor


/- The law on Fewer as its row takes it. -/
namespace Go.Proofs.YtmnclnpbmgomgaaGreatDoor
open Go.RowKit
set_option linter.unusedVariables false

theorem u8_of14 {m : Int} (h : (Lit.int .u8 m).wf = true) : ((m.toNat : Nat) : Int) = m ∧ m.toNat ≤ 255 := by
  have h1 : IntKind.u8.min = 0 := rfl
  have h2 : IntKind.u8.max = 255 := rfl
  simp only [Lit.wf, Bool.and_eq_true, decide_eq_true_eq] at h
  omega
theorem pluralFewer_in (l : Rus) (v : Value) (a : ByteArray) (m : Int) (w : World) (hv : RdRus w v l) (hr : RusR l) (ha : a.size ≤ maxLen) (hm : (Lit.int .u8 m).wf = true) (E : Ev14D w) : Calls Tryz.prog 8 #[v, .string a, .int .u8 m] w fun e w' => e = .returned (.bool true) ∧ Below w.heap.size w w' := by
  have h := pluralFewer_walk plD v l a.data.toList (by rw [len_data]; exact ha) m.toNat (u8_of14 hm).2 w hv hr E
  rw [of_data, (u8_of14 hm).1] at h
  exact h
end Go.Proofs.YtmnclnpbmgomgaaGreatDoor


/- The law on Classes as its row takes it. -/
namespace Go.Proofs.YtmnclnpbmgomgaaGreatDoor
open Go.RowKit
set_option linter.unusedVariables false

theorem pluralClasses_in (l : Rus) (v : Value) (w : World) (hv : RdRus w v l) (hr : RusR l)  (E : Ev14D w) : Calls Tryz.prog 4 #[v] w fun e w' => e = .returned (.bool true) ∧ Below w.heap.size w w' := by
  have h := pluralClasses_walk plD v l w hv hr E
  exact h
end Go.Proofs.YtmnclnpbmgomgaaGreatDoor


/- The law on Example as its row takes it. -/
namespace Go.Proofs.YtmnclnpbmgomgaaGreatDoor
open Go.RowKit
set_option linter.unusedVariables false

theorem pluralExample_in (l : Rus) (v : Value) (c a : ByteArray) (w : World) (hv : RdRus w v l) (hr : RusR l) (hc : c.size ≤ maxLen) (ha : a.size ≤ maxLen) (E : Ev14D w) : Calls Tryz.prog 7 #[v, .string c, .string a] w fun e w' => e = .returned (.bool true) ∧ Below w.heap.size w w' := by
  have h := pluralExample_walk plD v l c.data.toList a.data.toList (by rw [len_data]; exact hc) (by rw [len_data]; exact ha) w hv hr E
  rw [of_data, of_data] at h
  exact h
end Go.Proofs.YtmnclnpbmgomgaaGreatDoor


