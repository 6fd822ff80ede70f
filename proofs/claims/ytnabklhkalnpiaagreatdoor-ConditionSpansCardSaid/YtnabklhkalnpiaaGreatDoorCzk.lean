/- Of condition: the parser's list. Of condition: the parser's condition. Of condition: Parse. -/
import Derived.Test.YtnabklhkalnpiaaGreatDoorCzh
import Derived.BigQuiet
namespace Go.Proofs.YtnabklhkalnpiaaGreatDoor
open Go.RowKit
set_option linter.unusedVariables false

theorem Tryz.infoRel : (Tryz.prog.info? 38).map (fun i => (i.zero, i.size, i.bytes)) = some (some (.agg #[.int .i64 0, .int .i64 0, .bool false, .slice none 0 0]), 4, 48) := by kernel_rfl
def RelOk (w : World) (g : Nat) (x : RawR) (r : Rel) : Prop := RdRel w x r ∧ SpB w g (.slice x.a x.n x.c)
theorem RelOk.but {w w' : World} {g : Nat} {x : RawR} {r : Rel} (h : RelOk w g x r) (hb : But g w w') : RelOk w' g x r :=
  ⟨⟨h.1.op, h.1.md, h.1.nt, h.1.sp.but hb (fun b e => by have := (h.2 b e).1; omega)⟩, h.2.but hb⟩
/-- .. and where a row of another type has grown. -/
theorem RelOk.grown {w w' : World} {g : Nat} {x : RawR} {r : Rel} (h : RelOk w g x r) {row : Option Nat} (hg : w.grownBy w' row) (hr : ∀ b, row = some b → ∃ t cs, t ≠ 42 ∧ Blk b t cs w) : RelOk w' g x r := by
  have hne : ∀ b, (Value.slice x.a x.n x.c).ownBlock = some b → row ≠ some b := fun b e e2 => by
    obtain ⟨_, cs, h2⟩ := h.2 b e
    obtain ⟨t, cs', ht, h3⟩ := hr b e2
    have : (some (Obj.cells cs 42 (0, 0)) : Option Obj) = some (Obj.cells cs' t (0, 0)) := by rw [← show w.heap[b]? = _ from h2, ← show w.heap[b]? = _ from h3]
    injection this with this
    injection this with _ h4
    exact ht h4.symm
  refine ⟨⟨h.1.op, h.1.md, h.1.nt, ?_⟩, fun b e => ?_⟩
  · obtain ⟨⟨a, c, hv, h1, h2, hx⟩, hn⟩ := h.1.sp
    refine ⟨⟨a, c, hv, h1, h2, fun hl => ?_⟩, hn⟩
    obtain ⟨b, off, ha, hlt, hc⟩ := hx hl
    have hb := hg.block b hlt (fun e => hne b (by rw [hv, ha]; rfl) e.symm)
    exact ⟨b, off, ha, Nat.lt_of_lt_of_le hlt hg.size, fun i x hi j u hu => (World.cell?_of_block (w := w) (a := ⟨b, off + i * 2 + j, none⟩) hb).trans (hc i x hi j u hu)⟩
  · obtain ⟨h1, cs, h2⟩ := h.2 b e
    exact ⟨h1, cs, (hg.block b h2.lt (fun e' => hne b e e'.symm)).trans h2⟩
def LkAt (w0 w : World) (g : Nat) (text : ByteArray) (B : Nat) (R : Option (List Rel × Pst)) (v : Value) (wr : World) : Prop :=
  ∃ (o : Option Pst) (raws : List RawR), PS w0 g text o wr ∧ But g w wr ∧ Own1 4 encR wr B 38 v raws ∧ g < B ∧ w.heap.size ≤ B ∧ raws.length ≤ 7 ∧ B ≤ wr.heap.size ∧ (o = none → R = none) ∧ ∀ q, o = some q → ∃ (acc : List Rel) (f : Nat), R = relsM f acc q ∧ raws.length = acc.length ∧ (∀ (i : Nat) (h : i < raws.length) (h' : i < acc.length), RelOk wr g raws[i] acc[i]) ∧ raws.length ≤ q.n ∧ q.n ≤ 6 ∧ 7 ≤ f + q.n
def LsP (w0 : World) (g : Nat) (text : ByteArray) (R : Option (List Rel × Pst)) (w : World) (e : Ending) (w' : World) : Prop := (∃ (a : Option Addr) (n c : Nat), e = .returned (.slice a n c) ∧ ∀ l q, R = some (l, q) → ∃ raws : List RawR, Rd 4 encR w' (.slice a n c) raws ∧ raws.length = l.length ∧ (∀ (i : Nat) (h : i < raws.length) (h' : i < l.length), RelOk w' g raws[i] l[i]) ∧ ∀ b, (Value.slice a n c).ownBlock = some b → g < b ∧ ∃ cs, Blk b 38 cs w') ∧ PS w0 g text (R.map (·.2)) w' ∧ But g w w'
theorem rels_end {f : Nat} {acc : List Rel} {q : Pst} (h : isTok [97, 110, 100] (some q) = false) (hf : 1 ≤ f) : relsM f acc q = some (acc, q) := by
  obtain ⟨f', rfl⟩ : ∃ f', f = f' + 1 := ⟨f - 1, by omega⟩
  have h1 : ¬ q.tok = [97, 110, 100] := of_decide_eq_false h
  rw [relsM, if_neg h1]
theorem rels_go {f : Nat} {acc : List Rel} {q : Pst} (h : isTok [97, 110, 100] (some q) = true) : relsM (f + 1) acc q = (relM (nxt q)).bind fun x => relsM f (acc ++ [x.1]) x.2 := by
  have h1 : q.tok = [97, 110, 100] := of_decide_eq_true h
  rw [relsM, if_pos h1]
  cases relM (nxt q) with
  | none => rfl
  | some x => rfl
theorem own_rel (w : World) (base : Nat) (hb : base ≤ w.heap.size) (x : RawR) : Own1 4 encR (w.alloc (.cells #[.int .i64 x.op, .int .i64 x.md, .bool x.nt, .slice x.a x.n x.c] 38)) base 38 (.slice (some ⟨w.heap.size, 0, none⟩) 1 1) [x] :=
  ⟨by rfl, .inr ⟨w.heap.size, 1, #[.int .i64 x.op, .int .i64 x.md, .bool x.nt, .slice x.a x.n x.c], rfl, hb, heap_alloc_new w _, Nat.le_refl _, by decide, rfl, rfl⟩⟩
def lnOf (v : Value) : Nat := match v with | .slice _ n _ => n | _ => 0
set_option maxRecDepth 1000000 in
set_option maxHeartbeats 8000000 in
theorem plist_any (w0 : World) (E : Env w0) (g : Nat) (text : ByteArray) (hT : text.size ≤ 1000000) (p : Pst) (hn6 : p.n ≤ 6) (w : World) (h : PS w0 g text (some p) w) :
    Calls Tryz.prog 62 #[.pointer (some ⟨g, 0, none⟩)] w (LsP w0 g text (lstM p) w) := by
  have H := Lib.hid h
  have hlt := h.lt
  obtain ⟨iR, hiR, hzR, hkR, hbR⟩ := info_parts Tryz.infoRel
  clear h
  go_enter Tryz.func62, Tryz.ntmps62
  go_wp2_with fail
  refine (prelation_any w0 E g text hT p hn6 _ H.out).mono ?_
  rintro e w1 ⟨⟨raw, rfl, hr⟩, p1, b1⟩
  have bal := (Below.refl w1.heap.size w1).alloc (Nat.le_refl _) (.cells #[.int .i64 raw.op, .int .i64 raw.md, .bool raw.nt, .slice raw.a raw.n raw.c] 38)
  have hL : LkAt w0 w g text w1.heap.size (lstM p) (.slice (some ⟨w1.heap.size, 0, none⟩) 1 1) (w1.alloc (.cells #[.int .i64 raw.op, .int .i64 raw.md, .bool raw.nt, .slice raw.a raw.n raw.c] 38)) := by
    refine ⟨(relM p).map (·.2), [raw], p1.below bal, b1.trans (But.of_below bal), own_rel w1 _ (Nat.le_refl _) raw, by have := b1.size; omega, b1.size, by simp, bal.size, fun hn => ?_, fun q hq => ?_⟩
    · unfold lstM
      rw [Option.map_eq_none_iff.1 hn]
    · obtain ⟨⟨r, q'⟩, hx, e1⟩ := Option.map_eq_some_iff.1 hq
      dsimp only at e1
      subst e1
      obtain ⟨_, h2, h3⟩ := relM_ok hx
      refine ⟨[r], 7, ?_, rfl, fun i h h' => ?_, by simp; omega, by omega, by omega⟩
      · unfold lstM; rw [hx]
      · have hi : i = 0 := by simp at h; exact h
        subst hi
        have := hr r q' hx
        exact (show RelOk w1 g raw r from this).but (But.of_below bal)
  have HL := Lib.hid hL
  obtain ⟨B, hB⟩ : ∃ B, w1.heap.size = B := ⟨_, rfl⟩
  rw [hB] at HL
  clear hr p1 b1 bal hL H
  go_wp2
  try rw [hB]
  clear hB
  go_loopw [3] (fun v3 wr => LkAt w0 w g text B (lstM p) v3 wr) (fun v3 _ => 8 - lnOf v3)
  case atStart => exact HL.out
  case round =>
    obtain ⟨o, raws, hp, hbu, own, hgB, hwB, h7, hBs, hnone, hsome⟩ := hrel
    obtain ⟨va, vc, hva⟩ := own.slice
    subst hva
    have HP := Lib.hid hp
    have HBU := Lib.hid hbu
    have OW := Lib.hid own
    have HNO := Lib.hid hnone
    have HSO := Lib.hid hsome
    clear hp hbu own hnone hsome HL
    go_wp2_with fail
    refine (accept_any w0 g text hT _ ⟨#[97, 110, 100]⟩ _ HP.out).mono ?_
    rintro e w2 ⟨rfl, p2, b2⟩
    rw [show (ByteArray.mk #[97, 110, 100]).data.toList = [97, 110, 100] from rfl] at p2 ⊢
    obtain ⟨bc, hbc⟩ : ∃ bc, isTok [97, 110, 100] o = bc := ⟨_, rfl⟩
    have HBC := Lib.hid hbc
    have B2 := Lib.hid (HBU.out.trans b2)
    have B2b := Lib.hid b2
    have O2 := Lib.hid (own_but OW.out b2 (by omega))
    have P2 := Lib.hid p2
    rw [hbc]
    clear p2 b2 hbc
    cases bc with
    | false =>
      go_wp2
      go_ret
      have hp2 : PS w0 g text o w2 := by
        have := P2.out
        unfold accO at this
        rw [HBC.out, if_neg (by simp)] at this
        exact this
      have hfin : ∀ q, o = some q → ∃ acc, lstM p = some (acc, q) ∧ raws.length = acc.length ∧ (∀ (i : Nat) (h : i < raws.length) (h' : i < acc.length), RelOk w2 g raws[i] acc[i]) := fun q hq => by
        obtain ⟨acc, f, h1, h2, h3, h4, h5, h6⟩ := HSO.out q hq
        refine ⟨acc, ?_, h2, fun i a b => (h3 i a b).but B2b.out⟩
        rw [h1]
        exact rels_end (by rw [← hq]; exact HBC.out) (by omega)
      refine ⟨⟨va, raws.length, vc, rfl, fun l q hq => ?_⟩, ?_, B2.out⟩
      · cases ho : o with
        | none => rw [HNO.out ho] at hq; cases hq
        | some q0 =>
          obtain ⟨acc, h1, h2, h3⟩ := hfin q0 ho
          rw [h1] at hq
          injection hq with hq
          injection hq with e1 e2
          subst e1
          exact ⟨raws, O2.out.rd encR_len, h2, h3, fun b hb => ⟨by have := (O2.out.lt_ b hb).1; omega, O2.out.blk b hb⟩⟩
      · cases ho : o with
        | none =>
          rw [HNO.out ho]
          rw [ho] at hp2
          exact hp2
        | some q0 =>
          obtain ⟨acc, h1, h2, h3⟩ := hfin q0 ho
          rw [h1]
          rw [ho] at hp2
          exact hp2
    | true =>
      obtain ⟨q, hq⟩ : ∃ q, o = some q := by
        cases ho : o with
        | none => rw [ho] at HBC; cases HBC.out
        | some q => exact ⟨q, rfl⟩
      obtain ⟨acc, f, h1, h2, h3, h4, h5, h6⟩ := HSO.out q hq
      have HH := Lib.hid (And.intro h1 (And.intro h2 h3))
      have P3 : Hid (PS w0 g text (some (nxt q)) w2) := Lib.hid (by
        have := P2.out
        unfold accO at this
        rw [HBC.out, if_pos rfl, hq] at this
        exact this)
      have hqn : (nxt q).n ≤ 6 := h5
      have HQ := Lib.hid hq
      clear h1 h2 h3 hq P2
      go_wp2_with fail
      refine (prelation_any w0 E g text hT (nxt q) hqn _ P3.out).mono ?_
      rintro e w3 ⟨⟨raw2, rfl, hr⟩, p4, b4⟩
      have O4 := Lib.hid (own_but O2.out b4 (by omega))
      have P4 := Lib.hid p4
      have B4 := Lib.hid (B2.out.trans b4)
      have HR := Lib.hid hr
      have HOK := Lib.hid (fun (i : Nat) (h : i < raws.length) (h' : i < acc.length) => ((HH.out.2.2 i h h').but B2b.out).but b4)
      have hz : B ≤ w3.heap.size := by have := B2b.out.size; have := b4.size; omega
      clear p4 b4 hr
      go_wp2_with (first | (at_builtin; refine wpList_append_at (w0 := w3) (x := raw2) (N := w3.heap.size) rfl rfl _ _ 39 rfl B iR _ 48 Tryz.underlying39 hiR hzR hkR hbR (by omega) rfl (by omega) encR_len encR_one _ raws rfl rfl O4.out rfl (by omega) hz ?_; intro v9 w9 y1 y2 y3) | go_in)
      obtain ⟨a9, c9, hv9⟩ := y1.slice
      rw [List.length_append, List.length_singleton] at hv9
      subst hv9
      have HN : Hid (LkAt w0 w g text B (lstM p) (.slice a9 (raws.length + 1) c9) w9) := Lib.hid (by
        have hrow : ∀ b, (Value.slice va raws.length vc).ownBlock = some b → ∃ t cs, t ≠ 42 ∧ Blk b t cs w3 := fun b hb => by
          obtain ⟨cs, hcs⟩ := O4.out.blk b hb
          exact ⟨_, cs, by decide, hcs⟩
        have hgblk : w9.heap[g]? = w3.heap[g]? := y2.block g hgB
        have hlow : Below w0.heap.size w0 w9 := P4.out.low.trans (y2.mono (by have := P4.out.base; omega))
        refine ⟨(relM (nxt q)).map (·.2), raws ++ [raw2], P4.out.same hgblk hlow, ?_, y1, hgB, hwB, ?_, by have := y2.size; omega, fun hn => ?_, fun q2 hq2 => ?_⟩
        · refine ⟨y2.os.trans B4.out.os, y2.tape.trans B4.out.tape, y2.output.trans B4.out.output, Nat.le_trans B4.out.size y2.size, fun k hk hg => ?_⟩
          exact (y2.block k (by omega)).trans (B4.out.block k hk hg)
        · rw [List.length_append, List.length_singleton]; omega
        · obtain ⟨f', rfl⟩ : ∃ f', f = f' + 1 := ⟨f - 1, by omega⟩
          rw [HH.out.1, rels_go (by rw [← HQ.out]; exact HBC.out), Option.map_eq_none_iff.1 hn]
          rfl
        · obtain ⟨⟨r, q'⟩, hx, e1⟩ := Option.map_eq_some_iff.1 hq2
          dsimp only at e1
          subst e1
          obtain ⟨_, g2, g3⟩ := relM_ok hx
          obtain ⟨f', rfl⟩ : ∃ f', f = f' + 1 := ⟨f - 1, by omega⟩
          have e5 : (nxt q).n = q.n := rfl
          refine ⟨acc ++ [r], f', ?_, by rw [List.length_append, List.length_append, HH.out.2.1]; rfl, fun i hi hi' => ?_, by rw [List.length_append, List.length_singleton]; omega, by omega, by omega⟩
          · rw [HH.out.1, rels_go (by rw [← HQ.out]; exact HBC.out), hx]
            rfl
          · rcases Nat.lt_or_ge i raws.length with h | h
            · have h' : i < acc.length := by rw [← HH.out.2.1]; exact h
              rw [List.getElem_append_left h, List.getElem_append_left h']
              exact (HOK.out i h h').grown y3 hrow
            · have hi2 : i = raws.length := by rw [List.length_append, List.length_singleton] at hi; omega
              subst hi2
              have e6 : (raws ++ [raw2])[raws.length] = raw2 := by simp
              have e7 : (acc ++ [r])[raws.length]'hi' = r := by simp [HH.out.2.1]
              rw [e6, e7]
              exact (show RelOk w3 g raw2 r from HR.out r q' hx).grown y3 hrow)
      clear y1 y2 y3
      go_wp2
      go_roundw
      case measure => simp [lnOf]; omega
      case rel => exact HN.out
end Go.Proofs.YtnabklhkalnpiaaGreatDoor

namespace Go.Proofs.YtnabklhkalnpiaaGreatDoor
open Go.RowKit
set_option linter.unusedVariables false

theorem Tryz.infoLst : (Tryz.prog.info? 39).map (fun i => (i.zero, i.size, i.bytes)) = some (some (.slice none 0 0), 1, 24) := by kernel_rfl
theorem rd_grownT {α : Type} {k : Nat} {enc : α → List Value} {w w' : World} {row : Option Nat} {v : Value} {l : List α} (h : Rd k enc w v l) (hg : w.grownBy w' row) (hne : ∀ b, v.ownBlock = some b → row ≠ some b) : Rd k enc w' v l := by
  obtain ⟨⟨a, c, hv, h1, h2, hx⟩, hn⟩ := h
  refine ⟨⟨a, c, hv, h1, h2, fun hl => ?_⟩, hn⟩
  obtain ⟨b, off, ha, hlt, hc⟩ := hx hl
  have hb := hg.block b hlt (fun e => hne b (by rw [hv, ha]; rfl) e.symm)
  exact ⟨b, off, ha, Nat.lt_of_lt_of_le hlt hg.size, fun i x hi j u hu => (World.cell?_of_block (w := w) (a := ⟨b, off + i * k + j, none⟩) hb).trans (hc i x hi j u hu)⟩
/-- A list of relations whose blocks lie above g. -/
def LstOk (w : World) (g : Nat) (x : RawS) (l : List Rel) : Prop := (∃ raws : List RawR, Rd 4 encR w (.slice x.a x.n x.c) raws ∧ raws.length = l.length ∧ ∀ (i : Nat) (h : i < raws.length) (h' : i < l.length), RelOk w g raws[i] l[i]) ∧ ∀ b, (Value.slice x.a x.n x.c).ownBlock = some b → g < b ∧ ∃ cs, Blk b 38 cs w
theorem LstOk.but {w w' : World} {g : Nat} {x : RawS} {l : List Rel} (h : LstOk w g x l) (hb : But g w w') : LstOk w' g x l := by
  obtain ⟨⟨raws, h1, h2, h3⟩, h4⟩ := h
  refine ⟨⟨raws, h1.but hb (fun b e => by have := (h4 b e).1; omega), h2, fun i a b => (h3 i a b).but hb⟩, fun b e => ?_⟩
  obtain ⟨g1, cs, g2⟩ := h4 b e
  exact ⟨g1, cs, g2.but hb (by omega)⟩
theorem LstOk.grown {w w' : World} {g : Nat} {x : RawS} {l : List Rel} (h : LstOk w g x l) {row : Option Nat} (hg : w.grownBy w' row) (hr : ∀ b, row = some b → ∃ t cs, t ≠ 42 ∧ t ≠ 38 ∧ Blk b t cs w) : LstOk w' g x l := by
  obtain ⟨⟨raws, h1, h2, h3⟩, h4⟩ := h
  have hne : ∀ b, (Value.slice x.a x.n x.c).ownBlock = some b → row ≠ some b := fun b e e2 => by
    obtain ⟨_, cs, h5⟩ := h4 b e
    obtain ⟨t, cs', _, ht, h6⟩ := hr b e2
    have : (some (Obj.cells cs 38 (0, 0)) : Option Obj) = some (Obj.cells cs' t (0, 0)) := by rw [← show w.heap[b]? = _ from h5, ← show w.heap[b]? = _ from h6]
    injection this with this
    injection this with _ h7
    exact ht h7.symm
  refine ⟨⟨raws, rd_grownT h1 hg hne, h2, fun i a b => (h3 i a b).grown hg (fun b e => by obtain ⟨t, cs, g1, _, g2⟩ := hr b e; exact ⟨t, cs, g1, g2⟩)⟩, fun b e => ?_⟩
  obtain ⟨g1, cs, g2⟩ := h4 b e
  exact ⟨g1, cs, (hg.block b g2.lt (fun e' => hne b e e'.symm)).trans g2⟩
theorem LstOk.rd {w : World} {g : Nat} {x : RawS} {l : List Rel} (h : LstOk w g x l) : RdRels w (.slice x.a x.n x.c) l := by
  obtain ⟨⟨raws, h1, h2, h3⟩, _⟩ := h
  exact ⟨raws, h1, h2, fun i a b => (h3 i a b).1⟩
theorem lstOk_of {w : World} {g : Nat} {x : RawS} {l : List Rel} (h : ∃ raws : List RawR, Rd 4 encR w (.slice x.a x.n x.c) raws ∧ raws.length = l.length ∧ (∀ (i : Nat) (h : i < raws.length) (h' : i < l.length), RelOk w g raws[i] l[i]) ∧ ∀ b, (Value.slice x.a x.n x.c).ownBlock = some b → g < b ∧ ∃ cs, Blk b 38 cs w) : LstOk w g x l := by
  obtain ⟨raws, h1, h2, h3, h4⟩ := h
  exact ⟨⟨raws, h1, h2, h3⟩, h4⟩
def cndL (p : Pst) : Option (Cnd × Pst) := match lstM p with
  | none => none
  | some (l, q) => lstsM 7 [l] q
theorem cndM_eq (p : Pst) : cndM p = (cndL p).bind fun x => if x.2.tok = [] then some x else none := by
  unfold cndM cndL
  cases lstM p with
  | none => rfl
  | some x =>
    dsimp only
    cases lstsM 7 [x.1] x.2 with
    | none => rfl
    | some y => rfl
def CkAt (w0 w : World) (g : Nat) (text : ByteArray) (B : Nat) (R : Option (Cnd × Pst)) (v : Value) (wr : World) : Prop :=
  ∃ (o : Option Pst) (raws : List RawS), PS w0 g text o wr ∧ But g w wr ∧ Own1 1 encS wr B 39 v raws ∧ g < B ∧ w.heap.size ≤ B ∧ raws.length ≤ 7 ∧ B ≤ wr.heap.size ∧ (o = none → R = none) ∧ ∀ q, o = some q → ∃ (acc : Cnd) (f : Nat), R = lstsM f acc q ∧ raws.length = acc.length ∧ (∀ (i : Nat) (h : i < raws.length) (h' : i < acc.length), LstOk wr g raws[i] acc[i]) ∧ raws.length ≤ q.n ∧ q.n ≤ 6 ∧ 7 ≤ f + q.n
def CnP (w0 : World) (g : Nat) (text : ByteArray) (R : Option (Cnd × Pst)) (w : World) (e : Ending) (w' : World) : Prop := (∃ (a : Option Addr) (n c : Nat), e = .returned (.slice a n c) ∧ ∀ l q, R = some (l, q) → RdC w' (.slice a n c) l) ∧ PS w0 g text (R.map (·.2)) w' ∧ But g w w'
theorem lsts_end {f : Nat} {acc : Cnd} {q : Pst} (h : isTok [111, 114] (some q) = false) (hf : 1 ≤ f) : lstsM f acc q = some (acc, q) := by
  obtain ⟨f', rfl⟩ : ∃ f', f = f' + 1 := ⟨f - 1, by omega⟩
  have h1 : ¬ q.tok = [111, 114] := of_decide_eq_false h
  rw [lstsM, if_neg h1]
theorem lsts_go {f : Nat} {acc : Cnd} {q : Pst} (h : isTok [111, 114] (some q) = true) : lstsM (f + 1) acc q = (lstM (nxt q)).bind fun x => lstsM f (acc ++ [x.1]) x.2 := by
  have h1 : q.tok = [111, 114] := of_decide_eq_true h
  rw [lstsM, if_pos h1]
  cases lstM (nxt q) with
  | none => rfl
  | some x => rfl
theorem own_lst (w : World) (base : Nat) (hb : base ≤ w.heap.size) (x : RawS) : Own1 1 encS (w.alloc (.cells #[.slice x.a x.n x.c] 39)) base 39 (.slice (some ⟨w.heap.size, 0, none⟩) 1 1) [x] :=
  ⟨by rfl, .inr ⟨w.heap.size, 1, #[.slice x.a x.n x.c], rfl, hb, heap_alloc_new w _, Nat.le_refl _, by decide, rfl, rfl⟩⟩
set_option maxRecDepth 1000000 in
set_option maxHeartbeats 8000000 in
theorem pcondition_any (w0 : World) (E : Env w0) (g : Nat) (text : ByteArray) (hT : text.size ≤ 1000000) (p : Pst) (hn6 : p.n ≤ 6) (w : World) (h : PS w0 g text (some p) w) :
    Calls Tryz.prog 36 #[.pointer (some ⟨g, 0, none⟩)] w (CnP w0 g text (cndM p) w) := by
  have H := Lib.hid h
  have hlt := h.lt
  obtain ⟨iR, hiR, hzR, hkR, hbR⟩ := info_parts Tryz.infoLst
  clear h
  go_enter Tryz.func36, Tryz.ntmps36
  go_wp2_with fail
  refine (plist_any w0 E g text hT p hn6 _ H.out).mono ?_
  rintro e w1 ⟨⟨ra, rn, rc, rfl, hr⟩, p1, b1⟩
  obtain ⟨raw, e1, e2, e3⟩ : ∃ raw : RawS, raw.a = ra ∧ raw.n = rn ∧ raw.c = rc := ⟨⟨ra, rn, rc⟩, rfl, rfl, rfl⟩
  subst e1 e2 e3
  have bal := (Below.refl w1.heap.size w1).alloc (Nat.le_refl _) (.cells #[.slice raw.a raw.n raw.c] 39)
  have hL : CkAt w0 w g text w1.heap.size (cndL p) (.slice (some ⟨w1.heap.size, 0, none⟩) 1 1) (w1.alloc (.cells #[.slice raw.a raw.n raw.c] 39)) := by
    refine ⟨(lstM p).map (·.2), [raw], p1.below bal, b1.trans (But.of_below bal), own_lst w1 _ (Nat.le_refl _) raw, by have := b1.size; omega, b1.size, by simp, bal.size, fun hn => ?_, fun q hq => ?_⟩
    · unfold cndL
      rw [Option.map_eq_none_iff.1 hn]
    · obtain ⟨⟨r, q'⟩, hx, e1⟩ := Option.map_eq_some_iff.1 hq
      dsimp only at e1
      subst e1
      obtain ⟨_, h2, h3, h4⟩ := lstM_ok hx
      refine ⟨[r], 7, ?_, rfl, fun i h h' => ?_, by simp; omega, by omega, by omega⟩
      · unfold cndL; rw [hx]
      · have hi : i = 0 := by simp at h; exact h
        subst hi
        have := hr r q' hx
        exact (lstOk_of this).but (But.of_below bal)
  have HL := Lib.hid hL
  obtain ⟨B, hB⟩ : ∃ B, w1.heap.size = B := ⟨_, rfl⟩
  rw [hB] at HL
  clear hr p1 b1 bal hL H
  go_wp2
  try rw [hB]
  clear hB
  go_loopw [3] (fun v3 wr => CkAt w0 w g text B (cndL p) v3 wr) (fun v3 _ => 8 - lnOf v3)
  case atStart => exact HL.out
  case round =>
    obtain ⟨o, raws, hp, hbu, own, hgB, hwB, h7, hBs, hnone, hsome⟩ := hrel
    obtain ⟨va, vc, hva⟩ := own.slice
    subst hva
    have HP := Lib.hid hp
    have HBU := Lib.hid hbu
    have OW := Lib.hid own
    have HNO := Lib.hid hnone
    have HSO := Lib.hid hsome
    clear hp hbu own hnone hsome HL
    go_wp2_with fail
    refine (accept_any w0 g text hT _ ⟨#[111, 114]⟩ _ HP.out).mono ?_
    rintro e w2 ⟨rfl, p2, b2⟩
    rw [show (ByteArray.mk #[111, 114]).data.toList = [111, 114] from rfl] at p2 ⊢
    obtain ⟨bc, hbc⟩ : ∃ bc, isTok [111, 114] o = bc := ⟨_, rfl⟩
    have HBC := Lib.hid hbc
    have B2 := Lib.hid (HBU.out.trans b2)
    have B2b := Lib.hid b2
    have O2 := Lib.hid (own_but OW.out b2 (by omega))
    have P2 := Lib.hid p2
    rw [hbc]
    clear p2 b2 hbc
    cases bc with
    | false =>
      have hp2 : PS w0 g text o w2 := by
        have := P2.out
        unfold accO at this
        rw [HBC.out, if_neg (by simp)] at this
        exact this
      obtain ⟨t, ff, c1, _, _, _, htk⟩ := hp2.tok
      have HTK := Lib.hid htk
      have HP2 := Lib.hid hp2
      obtain ⟨bt, hbt⟩ : ∃ bt, decide (t = []) = bt := ⟨_, rfl⟩
      have q1 : ((ofL t).toList == []) = bt := by rw [← hbt, ByteArray.toList_eq]; show (t == []) = _; cases t <;> rfl
      have q2 : (ofL t).toList.isEmpty = bt := by rw [← hbt, ByteArray.toList_eq]; show t.isEmpty = _; cases t <;> rfl
      have HBT := Lib.hid hbt
      clear hp2 htk hbt
      go_wp2_with fail
      refine (require_any w0 g text o bt 3 (by decide) _ HP2.out).mono ?_
      rintro e w3 ⟨⟨rfl, p3, b3⟩, _⟩
      have P3 := Lib.hid p3
      have B3 := Lib.hid b3
      clear p3 b3
      go_wp2
      go_ret
      have hfin : ∀ q, o = some q → ∃ acc, cndL p = some (acc, q) ∧ raws.length = acc.length ∧ (∀ (i : Nat) (h : i < raws.length) (h' : i < acc.length), LstOk w3 g raws[i] acc[i]) := fun q hq => by
        obtain ⟨acc, f, h1, h2, h3, h4, h5, h6⟩ := HSO.out q hq
        refine ⟨acc, ?_, h2, fun i a b => ((h3 i a b).but B2b.out).but B3.out⟩
        rw [h1]
        exact lsts_end (by rw [← hq]; exact HBC.out) (by omega)
      have O3 := own_but O2.out B3.out (by omega)
      refine ⟨⟨va, raws.length, vc, rfl, fun l q hq => ?_⟩, ?_, B2.out.trans B3.out⟩
      · rw [cndM_eq] at hq
        cases ho : o with
        | none => rw [HNO.out ho] at hq; cases hq
        | some q0 =>
          obtain ⟨acc, h1, h2, h3⟩ := hfin q0 ho
          rw [h1, Option.bind_some] at hq
          split at hq
          · injection hq with hq
            injection hq with e1 e2
            subst e1
            exact ⟨raws, O3.rd encS_len, h2, fun i a b => (h3 i a b).rd⟩
          · cases hq
      · rw [cndM_eq]
        have hp3 := P3.out
        cases ho : o with
        | none =>
          rw [HNO.out ho]
          rw [ho, reqO_none] at hp3
          exact hp3
        | some q0 =>
          obtain ⟨acc, h1, h2, h3⟩ := hfin q0 ho
          have ht := HTK.out q0 ho
          rw [h1, Option.bind_some]
          dsimp only
          by_cases hz : t = []
          · rw [if_pos (ht.trans hz)]
            rw [ho, ← HBT.out, decide_eq_true hz, reqO_true] at hp3
            exact hp3
          · rw [if_neg (by rw [ht]; exact hz)]
            rw [ho, ← HBT.out, decide_eq_false hz, reqO_false] at hp3
            exact hp3
    | true =>
      obtain ⟨q, hq⟩ : ∃ q, o = some q := by
        cases ho : o with
        | none => rw [ho] at HBC; cases HBC.out
        | some q => exact ⟨q, rfl⟩
      obtain ⟨acc, f, h1, h2, h3, h4, h5, h6⟩ := HSO.out q hq
      have HH := Lib.hid (And.intro h1 (And.intro h2 h3))
      have P3 : Hid (PS w0 g text (some (nxt q)) w2) := Lib.hid (by
        have := P2.out
        unfold accO at this
        rw [HBC.out, if_pos rfl, hq] at this
        exact this)
      have hqn : (nxt q).n ≤ 6 := h5
      have HQ := Lib.hid hq
      clear h1 h2 h3 hq P2
      go_wp2_with fail
      refine (plist_any w0 E g text hT (nxt q) hqn _ P3.out).mono ?_
      rintro e w3 ⟨⟨ra2, rn2, rc2, rfl, hr⟩, p4, b4⟩
      obtain ⟨raw2, e1, e2, e3⟩ : ∃ raw2 : RawS, raw2.a = ra2 ∧ raw2.n = rn2 ∧ raw2.c = rc2 := ⟨⟨ra2, rn2, rc2⟩, rfl, rfl, rfl⟩
      subst e1 e2 e3
      have O4 := Lib.hid (own_but O2.out b4 (by omega))
      have P4 := Lib.hid p4
      have B4 := Lib.hid (B2.out.trans b4)
      have HR := Lib.hid hr
      have HOK := Lib.hid (fun (i : Nat) (h : i < raws.length) (h' : i < acc.length) => ((HH.out.2.2 i h h').but B2b.out).but b4)
      have hz : B ≤ w3.heap.size := by have := B2b.out.size; have := b4.size; omega
      clear p4 b4 hr
      go_wp2_with (first | (at_builtin; refine wpList_append_at (w0 := w3) (x := raw2) (N := w3.heap.size) rfl rfl _ _ 23 rfl B iR _ 24 Tryz.underlying23 hiR hzR hkR hbR (by omega) rfl (by omega) encS_len encS_one _ raws rfl rfl O4.out rfl (by omega) hz ?_; intro v9 w9 y1 y2 y3) | go_in)
      obtain ⟨a9, c9, hv9⟩ := y1.slice
      rw [List.length_append, List.length_singleton] at hv9
      subst hv9
      have HN : Hid (CkAt w0 w g text B (cndL p) (.slice a9 (raws.length + 1) c9) w9) := Lib.hid (by
        have hrow : ∀ b, (Value.slice va raws.length vc).ownBlock = some b → ∃ t cs, t ≠ 42 ∧ t ≠ 38 ∧ Blk b t cs w3 := fun b hb => by
          obtain ⟨cs, hcs⟩ := O4.out.blk b hb
          exact ⟨_, cs, by decide, by decide, hcs⟩
        have hgblk : w9.heap[g]? = w3.heap[g]? := y2.block g hgB
        have hlow : Below w0.heap.size w0 w9 := P4.out.low.trans (y2.mono (by have := P4.out.base; omega))
        refine ⟨(lstM (nxt q)).map (·.2), raws ++ [raw2], P4.out.same hgblk hlow, ?_, y1, hgB, hwB, ?_, by have := y2.size; omega, fun hn => ?_, fun q2 hq2 => ?_⟩
        · refine ⟨y2.os.trans B4.out.os, y2.tape.trans B4.out.tape, y2.output.trans B4.out.output, Nat.le_trans B4.out.size y2.size, fun k hk hg => ?_⟩
          exact (y2.block k (by omega)).trans (B4.out.block k hk hg)
        · rw [List.length_append, List.length_singleton]; omega
        · obtain ⟨f', rfl⟩ : ∃ f', f = f' + 1 := ⟨f - 1, by omega⟩
          rw [HH.out.1, lsts_go (by rw [← HQ.out]; exact HBC.out), Option.map_eq_none_iff.1 hn]
          rfl
        · obtain ⟨⟨r, q'⟩, hx, e1⟩ := Option.map_eq_some_iff.1 hq2
          dsimp only at e1
          subst e1
          obtain ⟨_, g2, g3, g4⟩ := lstM_ok hx
          obtain ⟨f', rfl⟩ : ∃ f', f = f' + 1 := ⟨f - 1, by omega⟩
          have e5 : (nxt q).n = q.n := rfl
          refine ⟨acc ++ [r], f', ?_, by rw [List.length_append, List.length_append, HH.out.2.1]; rfl, fun i hi hi' => ?_, by rw [List.length_append, List.length_singleton]; omega, by omega, by omega⟩
          · rw [HH.out.1, lsts_go (by rw [← HQ.out]; exact HBC.out), hx]
            rfl
          · rcases Nat.lt_or_ge i raws.length with h | h
            · have h' : i < acc.length := by rw [← HH.out.2.1]; exact h
              rw [List.getElem_append_left h, List.getElem_append_left h']
              exact (HOK.out i h h').grown y3 hrow
            · have hi2 : i = raws.length := by rw [List.length_append, List.length_singleton] at hi; omega
              subst hi2
              have e6 : (raws ++ [raw2])[raws.length] = raw2 := by simp
              have e7 : (acc ++ [r])[raws.length]'hi' = r := by simp [HH.out.2.1]
              rw [e6, e7]
              exact (lstOk_of (HR.out r q' hx)).grown y3 hrow)
      clear y1 y2 y3
      go_wp2
      go_roundw
      case measure => simp [lnOf]; omega
      case rel => exact HN.out
end Go.Proofs.YtnabklhkalnpiaaGreatDoor

namespace Go.Proofs.YtnabklhkalnpiaaGreatDoor
open Go.RowKit
set_option linter.unusedVariables false

def PaP (s : ByteArray) (w : World) (e : Ending) (w' : World) : Prop := (∃ (a : Option Addr) (n c : Nat) (at_ er : Int), e = .returned (.tuple #[.slice a n c, .int .i64 at_, .int .i64 er]) ∧ match prsM s.data.toList with
  | some x => RdC w' (.slice a n c) x ∧ at_ = 0 ∧ er = 0
  | none => a = none ∧ n = 0 ∧ c = 0 ∧ er ≠ 0) ∧ Below w.heap.size w w'
set_option maxRecDepth 1000000 in
set_option maxHeartbeats 4000000 in
theorem parse_any (w : World) (E : Env w) (s : ByteArray) (hT : s.size ≤ 1000000) :
    Calls Tryz.prog 17 #[.string s] w (PaP s w) := by
  have BA := (Below.refl w.heap.size w).alloc (Nat.le_refl _) (.cells #[.string s, .string ⟨#[]⟩, .int .i64 0, .int .i64 0, .int .i64 0] 60)
  have hP : PS w w.heap.size s (some ⟨[], s.data.toList, 0⟩) (w.alloc (.cells #[.string s, .string ⟨#[]⟩, .int .i64 0, .int .i64 0, .int .i64 0] 60)) :=
    PS.mk_good (pre := []) (Nat.le_refl _) BA (heap_alloc_new w _) rfl
  obtain ⟨g, hg⟩ : ∃ g, w.heap.size = g := ⟨_, rfl⟩
  have HG := Lib.hid hg
  rw [hg] at hP
  have HP := Lib.hid hP
  have HE := Lib.hid E
  clear hP BA E
  go_enter Tryz.func17, Tryz.ntmps17
  go_wp2_with fail
  refine (next_any w g s hT _ _ HP.out).mono ?_
  rintro e w2 ⟨rfl, p2, b2⟩
  have P2 : Hid (PS w g s (some (N s.data.toList 0)) w2) := Lib.hid p2
  clear p2 b2
  go_wp2_with fail
  refine (pcondition_any w HE.out g s hT (N s.data.toList 0) (Nat.zero_le _) _ P2.out).mono ?_
  rintro e w3 ⟨⟨a, n, c, rfl, hr⟩, p3, b3⟩
  have LW : Hid (Below w.heap.size w w3) := Lib.hid p3.low
  have HR := Lib.hid hr
  have P3 := Lib.hid p3
  clear p3 b3 hr
  cases hm : cndM (N s.data.toList 0) with
  | some x =>
    have hpr : prsM s.data.toList = some x.1 := by unfold prsM; rw [hm]; rfl
    have p4 := P3.out
    rw [hm] at p4
    obtain ⟨tok, f, _, c4, _, hf, _⟩ := p4.tok
    have hf0 : f = 0 := hf.2 rfl
    subst hf0
    have HM := Lib.hid hm
    have HPR := Lib.hid hpr
    clear p4 hf hm hpr
    go_wp2
    go_ret3
    refine ⟨⟨a, n, c, 0, 0, rfl, ?_⟩, LW.out⟩
    rw [HPR.out]
    exact ⟨HR.out x.1 x.2 HM.out, rfl, rfl⟩
  | none =>
    have hpr : prsM s.data.toList = none := by unfold prsM; rw [hm]; rfl
    have p4 := P3.out
    rw [hm] at p4
    obtain ⟨tok, rest, pre, rel, f, hb, _, hf⟩ := p4.bad
    have c2 : w3.cell? ⟨g, 2, none⟩ = some (.int .i64 (pre.length : Nat)) := hb.cell 2
    have c4 : w3.cell? ⟨g, 4, none⟩ = some (.int .i64 f) := hb.cell 4
    have e1 : (f != 0) = true := by rw [bne_iff_ne]; exact hf
    have HF := Lib.hid hf
    have HPR := Lib.hid hpr
    obtain ⟨P, hPl⟩ : ∃ P : Int, ((pre.length : Nat) : Int) = P := ⟨_, rfl⟩
    rw [hPl] at c2
    clear p4 hf hm hpr hb hPl
    go_wp2_with fail
    go_quiet (fail)
    go_wp2
    go_ret3
    refine ⟨⟨none, 0, 0, P, f, rfl, ?_⟩, below_drewN LW.out _⟩
    rw [HPR.out]
    exact ⟨rfl, rfl, rfl, HF.out⟩
end Go.Proofs.YtnabklhkalnpiaaGreatDoor
