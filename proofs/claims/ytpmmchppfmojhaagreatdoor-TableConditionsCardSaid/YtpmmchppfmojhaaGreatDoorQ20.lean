/- What the row stands on, part 20. -/
import Derived.Test.YtpmmchppfmojhaaGreatDoorQ19

/- Of condition: the parser's relation (its state; ahead of the loop). -/
namespace Go.Proofs.YtpmmchppfmojhaaGreatDoor
open Go.RowKit
set_option linter.unusedVariables false

abbrev zeroR : Array Value := #[.int .i64 0, .int .i64 0, .bool false, .slice none 0 0]
structure RSt (w0 w : World) (g : Nat) (text : ByteArray) (B2 B3 : Nat) (o : Option Pst) (K M : Int) (b : Bool) (v : Value) (wx : World) : Prop where
  lt : g < B2 ∧ B2 < B3 ∧ w.heap.size ≤ B2
  ps : PS w0 g text o wx
  but : But g w wx
  k2 : Blk B2 99 zeroR wx
  k3 : Blk B3 99 #[.int .i64 K, .int .i64 M, .bool b, v] wx
section
variable {w0 w : World} {g : Nat} {text : ByteArray} {B2 B3 : Nat} {o : Option Pst} {K M : Int} {b : Bool} {v : Value} {wx : World}
theorem RSt.call (h : RSt w0 w g text B2 B3 o K M b v wx) {o' : Option Pst} {wy : World} (hp : PS w0 g text o' wy) (hb : But g wx wy) : RSt w0 w g text B2 B3 o' K M b v wy := by
  obtain ⟨h1, h2, h3⟩ := h.lt
  exact ⟨h.lt, hp, h.but.trans hb, h.k2.but hb (by omega), h.k3.but hb (by omega)⟩
theorem RSt.below (h : RSt w0 w g text B2 B3 o K M b v wx) {wy : World} (hb : Below wx.heap.size wx wy) : RSt w0 w g text B2 B3 o K M b v wy :=
  h.call (h.ps.below hb) (But.of_below hb)
theorem RSt.store (h : RSt w0 w g text B2 B3 o K M b v wx) (i : Nat) (u : Value) {K' M' : Int} {b' : Bool} {v' : Value} (he : (#[.int .i64 K, .int .i64 M, .bool b, v] : Array Value).setIfInBounds i u = #[.int .i64 K', .int .i64 M', .bool b', v']) : RSt w0 w g text B2 B3 o K' M' b' v' (wx.setCell ⟨B3, i, none⟩ u) := by
  obtain ⟨h1, h2, h3⟩ := h.lt
  have hb := h.ps.base
  refine ⟨h.lt, h.ps.setNew (by omega) (by omega) u, h.but.setNew (by omega) u, h.k2.far (p := ⟨B3, i, none⟩) (by show B2 ≠ B3; omega) u, ?_⟩
  have := h.k3.put i u
  rw [he] at this
  exact this
theorem RSt.cells (h : RSt w0 w g text B2 B3 o K M b v wx) : wx.cell? ⟨B3, 0, none⟩ = some (.int .i64 K) ∧ wx.cell? ⟨B3, 1, none⟩ = some (.int .i64 M) ∧ wx.cell? ⟨B3, 2, none⟩ = some (.bool b) ∧ wx.cell? ⟨B3, 3, none⟩ = some v := ⟨h.k3.cell 0, h.k3.cell 1, h.k3.cell 2, h.k3.cell 3⟩
end
end Go.Proofs.YtpmmchppfmojhaaGreatDoor


/- Of condition: the parser's relation. -/
namespace Go.Proofs.YtpmmchppfmojhaaGreatDoor
open Go.RowKit
set_option linter.unusedVariables false

theorem Own1.blk {α : Type} {k : Nat} {enc : α → List Value} {w : World} {base : Nat} {e : TypeId} {v : Value} {l : List α} (h : Own1 k enc w base e v l) (b : Nat) (hb : v.ownBlock = some b) : ∃ cs, Blk b e cs w := by
  rcases h.2 with ⟨rfl, _⟩ | ⟨g, cap, cur, rfl, _, hg, _⟩
  · cases hb
  · cases hb
    exact ⟨cur, hg⟩
/-- A value whose block lies above g and holds spans. -/
def SpB (w : World) (g : Nat) (v : Value) : Prop := ∀ b, v.ownBlock = some b → g < b ∧ ∃ cs, Blk b 180 cs w
theorem SpB.but {w w' : World} {g : Nat} {v : Value} (h : SpB w g v) (hb : But g w w') : SpB w' g v := fun b e => by
  obtain ⟨h1, cs, h2⟩ := h b e
  exact ⟨h1, cs, h2.but hb (by omega)⟩
end Go.Proofs.YtpmmchppfmojhaaGreatDoor


/- Of condition: the parser's list. Of condition: the parser's condition. Of condition: Parse. -/
namespace Go.Proofs.YtpmmchppfmojhaaGreatDoor
open Go.RowKit
set_option linter.unusedVariables false

def RelOk (w : World) (g : Nat) (x : RawR) (r : Rel) : Prop := RdRel w x r ∧ SpB w g (.slice x.a x.n x.c)
theorem RelOk.but {w w' : World} {g : Nat} {x : RawR} {r : Rel} (h : RelOk w g x r) (hb : But g w w') : RelOk w' g x r :=
  ⟨⟨h.1.op, h.1.md, h.1.nt, h.1.sp.but hb (fun b e => by have := (h.2 b e).1; omega)⟩, h.2.but hb⟩
/-- .. and where a row of another type has grown. -/
theorem RelOk.grown {w w' : World} {g : Nat} {x : RawR} {r : Rel} (h : RelOk w g x r) {row : Option Nat} (hg : w.grownBy w' row) (hr : ∀ b, row = some b → ∃ t cs, t ≠ 180 ∧ Blk b t cs w) : RelOk w' g x r := by
  have hne : ∀ b, (Value.slice x.a x.n x.c).ownBlock = some b → row ≠ some b := fun b e e2 => by
    obtain ⟨_, cs, h2⟩ := h.2 b e
    obtain ⟨t, cs', ht, h3⟩ := hr b e2
    have : (some (Obj.cells cs 180 (0, 0)) : Option Obj) = some (Obj.cells cs' t (0, 0)) := by rw [← show w.heap[b]? = _ from h2, ← show w.heap[b]? = _ from h3]
    injection this with this
    injection this with _ h4
    exact ht h4.symm
  refine ⟨⟨h.1.op, h.1.md, h.1.nt, ?_⟩, fun b e => ?_⟩
  · obtain ⟨⟨a, c, hv, h1, h2, hx⟩, hn⟩ := h.1.sp
    refine ⟨⟨a, c, hv, h1, h2, fun hl => ?_⟩, hn⟩
    obtain ⟨b, off, ha, hlt, hc⟩ := hx hl
    have hb := hg.block b hlt (fun e => hne b (by rw [hv, ha]; rfl) e.symm)
    exact ⟨b, off, ha, Nat.lt_of_lt_of_le hlt hg.size, fun i x hi j u hu => (World.cell?_of_block (w := w) (a := ⟨b, off + i * 2 + j, none⟩) hb).trans (hc i x hi j u hu)⟩
  · obtain ⟨h1, cs, h2⟩ := h.2 b e
    exact ⟨h1, cs, (hg.block b h2.lt (fun e' => hne b e e'.symm)).trans h2⟩
end Go.Proofs.YtpmmchppfmojhaaGreatDoor

namespace Go.Proofs.YtpmmchppfmojhaaGreatDoor
open Go.RowKit
set_option linter.unusedVariables false

theorem rd_grownT {α : Type} {k : Nat} {enc : α → List Value} {w w' : World} {row : Option Nat} {v : Value} {l : List α} (h : Rd k enc w v l) (hg : w.grownBy w' row) (hne : ∀ b, v.ownBlock = some b → row ≠ some b) : Rd k enc w' v l := by
  obtain ⟨⟨a, c, hv, h1, h2, hx⟩, hn⟩ := h
  refine ⟨⟨a, c, hv, h1, h2, fun hl => ?_⟩, hn⟩
  obtain ⟨b, off, ha, hlt, hc⟩ := hx hl
  have hb := hg.block b hlt (fun e => hne b (by rw [hv, ha]; rfl) e.symm)
  exact ⟨b, off, ha, Nat.lt_of_lt_of_le hlt hg.size, fun i x hi j u hu => (World.cell?_of_block (w := w) (a := ⟨b, off + i * k + j, none⟩) hb).trans (hc i x hi j u hu)⟩
/-- A list of relations whose blocks lie above g. -/
def LstOk (w : World) (g : Nat) (x : RawS) (l : List Rel) : Prop := (∃ raws : List RawR, Rd 4 encR w (.slice x.a x.n x.c) raws ∧ raws.length = l.length ∧ ∀ (i : Nat) (h : i < raws.length) (h' : i < l.length), RelOk w g raws[i] l[i]) ∧ ∀ b, (Value.slice x.a x.n x.c).ownBlock = some b → g < b ∧ ∃ cs, Blk b 99 cs w
theorem LstOk.but {w w' : World} {g : Nat} {x : RawS} {l : List Rel} (h : LstOk w g x l) (hb : But g w w') : LstOk w' g x l := by
  obtain ⟨⟨raws, h1, h2, h3⟩, h4⟩ := h
  refine ⟨⟨raws, h1.but hb (fun b e => by have := (h4 b e).1; omega), h2, fun i a b => (h3 i a b).but hb⟩, fun b e => ?_⟩
  obtain ⟨g1, cs, g2⟩ := h4 b e
  exact ⟨g1, cs, g2.but hb (by omega)⟩
theorem LstOk.grown {w w' : World} {g : Nat} {x : RawS} {l : List Rel} (h : LstOk w g x l) {row : Option Nat} (hg : w.grownBy w' row) (hr : ∀ b, row = some b → ∃ t cs, t ≠ 180 ∧ t ≠ 99 ∧ Blk b t cs w) : LstOk w' g x l := by
  obtain ⟨⟨raws, h1, h2, h3⟩, h4⟩ := h
  have hne : ∀ b, (Value.slice x.a x.n x.c).ownBlock = some b → row ≠ some b := fun b e e2 => by
    obtain ⟨_, cs, h5⟩ := h4 b e
    obtain ⟨t, cs', _, ht, h6⟩ := hr b e2
    have : (some (Obj.cells cs 99 (0, 0)) : Option Obj) = some (Obj.cells cs' t (0, 0)) := by rw [← show w.heap[b]? = _ from h5, ← show w.heap[b]? = _ from h6]
    injection this with this
    injection this with _ h7
    exact ht h7.symm
  refine ⟨⟨raws, rd_grownT h1 hg hne, h2, fun i a b => (h3 i a b).grown hg (fun b e => by obtain ⟨t, cs, g1, _, g2⟩ := hr b e; exact ⟨t, cs, g1, g2⟩)⟩, fun b e => ?_⟩
  obtain ⟨g1, cs, g2⟩ := h4 b e
  exact ⟨g1, cs, (hg.block b g2.lt (fun e' => hne b e e'.symm)).trans g2⟩
theorem LstOk.rd {w : World} {g : Nat} {x : RawS} {l : List Rel} (h : LstOk w g x l) : RdRels w (.slice x.a x.n x.c) l := by
  obtain ⟨⟨raws, h1, h2, h3⟩, _⟩ := h
  exact ⟨raws, h1, h2, fun i a b => (h3 i a b).1⟩
end Go.Proofs.YtpmmchppfmojhaaGreatDoor

namespace Go.Proofs.YtpmmchppfmojhaaGreatDoor
open Go.RowKit
set_option linter.unusedVariables false

end Go.Proofs.YtpmmchppfmojhaaGreatDoor


/- A condition that is parsed lies in blocks of its own: it reads the same as long as these blocks stay. -/
namespace Go.Proofs.YtpmmchppfmojhaaGreatDoor
open Go.RowKit
set_option linter.unusedVariables false

theorem Rd.keep {α : Type} {k : Nat} {enc : α → List Value} {w w' : World} {v : Value} {l : List α} (h : Rd k enc w v l) (hk : ∀ b, v.ownBlock = some b → b < w.heap.size → w'.heap[b]? = w.heap[b]?) : Rd k enc w' v l := by
  obtain ⟨⟨a, c, rfl, h1, h2, hx⟩, hn⟩ := h
  refine ⟨⟨a, c, rfl, h1, h2, fun hl => ?_⟩, hn⟩
  obtain ⟨b, off, ha, hlt, hc⟩ := hx hl
  subst ha
  have hb := hk b rfl hlt
  have hlt' : b < w'.heap.size := by
    rw [Array.getElem?_eq_getElem hlt] at hb
    exact (Array.getElem?_eq_some_iff.1 hb).1
  exact ⟨b, off, rfl, hlt', fun i x hi j u hu => (World.cell?_of_block (w := w) (a := ⟨b, off + i * k + j, none⟩) hb).trans (hc i x hi j u hu)⟩
/-- A condition whose blocks all lie above g. -/
def RdCF (g : Nat) (w : World) (v : Value) (l : Cnd) : Prop := ∀ w', (∀ b, g < b → b < w.heap.size → w'.heap[b]? = w.heap[b]?) → RdC w' v l
theorem RdCF.rd {g : Nat} {w : World} {v : Value} {l : Cnd} (h : RdCF g w v l) : RdC w v l := h w (fun _ _ _ => rfl)
theorem LstOk.keep {w w' : World} {g : Nat} {x : RawS} {l : List Rel} (h : LstOk w g x l) (hk : ∀ b, g < b → b < w.heap.size → w'.heap[b]? = w.heap[b]?) : RdRels w' (.slice x.a x.n x.c) l := by
  obtain ⟨⟨raws, h1, h2, h3⟩, h4⟩ := h
  refine ⟨raws, h1.keep (fun b e hb => hk b (h4 b e).1 hb), h2, fun i a b => ?_⟩
  obtain ⟨h5, h6⟩ := h3 i a b
  exact ⟨h5.op, h5.md, h5.nt, h5.sp.keep (fun b e hb => hk b (h6 b e).1 hb)⟩
theorem RdCF.of_own {w : World} {g B : Nat} {v : Value} {raws : List RawS} {l : Cnd} (h : Own1 1 encS w B 96 v raws) (hB : g < B) (hl : raws.length = l.length) (hi : ∀ (i : Nat) (h : i < raws.length) (h' : i < l.length), LstOk w g raws[i] l[i]) : RdCF g w v l := fun w' hk =>
  ⟨raws, (h.rd encS_len).keep (fun b e hb => hk b (by have := (h.lt_ b e).1; omega) hb), hl, fun i a b => (hi i a b).keep hk⟩
end Go.Proofs.YtpmmchppfmojhaaGreatDoor

namespace Go.Proofs.YtpmmchppfmojhaaGreatDoor
open Go.RowKit
set_option linter.unusedVariables false

end Go.Proofs.YtpmmchppfmojhaaGreatDoor


/- What a parser with growing lists writes: the blocks of its own; what holds whatever is written there. -/
namespace Go.Proofs.YtpmmchppfmojhaaGreatDoor
open Go.RowKit
set_option linter.unusedVariables false

/-- Blocks outside S are as they were, and nothing else of the world has changed. -/
structure Fw (S : Nat → Prop) (w w' : World) : Prop where
  os : w'.os = w.os
  tape : w'.tape = w.tape
  output : w'.output = w.output
  size : w.heap.size ≤ w'.heap.size
  block : ∀ i, i < w.heap.size → ¬ S i → w'.heap[i]? = w.heap[i]?
theorem Fw.refl (S : Nat → Prop) (w : World) : Fw S w w := ⟨rfl, rfl, rfl, Nat.le_refl _, fun _ _ _ => rfl⟩
theorem Fw.trans {S S' : Nat → Prop} {a b c : World} (h : Fw S a b) (k : Fw S' b c) (hs : ∀ i, i < a.heap.size → S' i → S i) : Fw S a c :=
  ⟨k.os.trans h.os, k.tape.trans h.tape, k.output.trans h.output, Nat.le_trans h.size k.size, fun i hi hn => (k.block i (Nat.lt_of_lt_of_le hi h.size) (fun hs' => hn (hs i hi hs'))).trans (h.block i hi hn)⟩
theorem Fw.of_below {S : Nat → Prop} {w w' : World} (h : Below w.heap.size w w') : Fw S w w' := ⟨h.os, h.tape, h.output, h.size, fun i hi _ => h.block i hi⟩
theorem Fw.of_but {S : Nat → Prop} {g : Nat} {w w' : World} (h : But g w w') (hg : S g) : Fw S w w' := ⟨h.os, h.tape, h.output, h.size, fun i hi hn => h.block i hi (fun e => hn (e ▸ hg))⟩
theorem Fw.mono {S S' : Nat → Prop} {w w' : World} (h : Fw S w w') (hs : ∀ i, i < w.heap.size → S i → S' i) : Fw S' w w' := ⟨h.os, h.tape, h.output, h.size, fun i hi hn => h.block i hi (fun e => hn (hs i hi e))⟩
theorem Fw.below {S : Nat → Prop} {n : Nat} {w w' : World} (h : Fw S w w') (hs : ∀ i, S i → n ≤ i) (hn : n ≤ w.heap.size) : Below n w w' := ⟨h.os, h.tape, h.output, h.size, fun i hi => h.block i (by omega) (fun e => by have := hs i e; omega)⟩
/-- It holds now, and whatever is written into the blocks of S. -/
def Kp (S : Nat → Prop) (w : World) (φ : World → Prop) : Prop := ∀ w', Fw S w w' → φ w'
theorem Kp.now {S : Nat → Prop} {w : World} {φ : World → Prop} (h : Kp S w φ) : φ w := h w (Fw.refl _ _)
theorem Kp.step {S S' : Nat → Prop} {w w' : World} {φ : World → Prop} (h : Kp S w φ) (hw : Fw S w w') (hs : ∀ i, i < w.heap.size → S' i → S i) : Kp S' w' φ := fun w'' h' => h w'' (hw.trans h' hs)
theorem Kp.below {S : Nat → Prop} {w w' : World} {φ : World → Prop} (h : Kp S w φ) (hw : Below w.heap.size w w') : Kp S w' φ := h.step (Fw.of_below hw) (fun _ _ h => h)
theorem Kp.mono {S S' : Nat → Prop} {w : World} {φ : World → Prop} (h : Kp S w φ) (hs : ∀ i, i < w.heap.size → S' i → S i) : Kp S' w φ := h.step (Fw.refl _ _) hs
/-- The list of the call's own, where another block is written. -/
theorem Own1.fw {α : Type} {k : Nat} {enc : α → List Value} {S : Nat → Prop} {w w' : World} {base : Nat} {e : TypeId} {v : Value} {l : List α} (h : Own1 k enc w base e v l) (hw : Fw S w w') (hs : ∀ b, v.ownBlock = some b → ¬ S b) : Own1 k enc w' base e v l := by
  refine ⟨h.1, ?_⟩
  rcases h.2 with h0 | ⟨g, cap, cur, hv, hB, hg, hr⟩
  · exact .inl h0
  · exact .inr ⟨g, cap, cur, hv, hB, (hw.block g (Array.getElem?_eq_some_iff.1 hg).1 (hs g (by rw [hv]; rfl))).trans hg, hr⟩
/-- Its block has its type. -/
theorem Own1.ty {α : Type} {k : Nat} {enc : α → List Value} {w : World} {base : Nat} {e : TypeId} {v : Value} {l : List α} (h : Own1 k enc w base e v l) : ∀ b, v.ownBlock = some b → ∃ cs, Blk b e cs w := by
  intro b hb
  rcases h.2 with ⟨rfl, _⟩ | ⟨g, cap, cur, rfl, _, hg, _⟩
  · simp [Value.ownBlock] at hb
  · obtain rfl : g = b := by simpa [Value.ownBlock] using hb
    exact ⟨cur, hg⟩
theorem Blk.ty_eq {b : Nat} {t t' : TypeId} {c c' : Array Value} {w : World} (h : Blk b t c w) (h' : Blk b t' c' w) : t = t' := by
  have : (some (Obj.cells c t (0, 0)) : Option Obj) = some (Obj.cells c' t' (0, 0)) := by rw [← show w.heap[b]? = _ from h, ← show w.heap[b]? = _ from h']
  injection this with this
  injection this
/-- Lists of different types lie apart. -/
theorem Own1.apart {α β : Type} {k k' : Nat} {enc : α → List Value} {enc' : β → List Value} {w : World} {base base' : Nat} {e e' : TypeId} {v v' : Value} {l : List α} {l' : List β} (h : Own1 k enc w base e v l) (h' : Own1 k' enc' w base' e' v' l') (hne : e ≠ e') : ∀ b, v.ownBlock = some b → v'.ownBlock ≠ some b := fun b hb hb' => by
  obtain ⟨cs, h1⟩ := h.ty b hb
  obtain ⟨cs', h2⟩ := h'.ty b hb'
  exact hne (h1.ty_eq h2)
/-! ### The parser's own block -/
structure PMem where
  tk : RawS
  lo : RawS
  al : RawS
  ne : RawS
  cu : RawLo
  at_ : Int
  f : Int
def pcells (m : PMem) : Array Value := #[.slice m.tk.a m.tk.n m.tk.c, .slice m.lo.a m.lo.n m.lo.c, .slice m.al.a m.al.n m.al.c, .slice m.ne.a m.ne.n m.ne.c,
  .string (ofL m.cu.tag), .string (ofL m.cu.par), .string (ofL m.cu.dir), .slice m.cu.ca.a m.cu.ca.n m.cu.ca.c, .slice m.cu.oc.a m.cu.oc.n m.cu.oc.c,
  .string (ofL m.cu.sy.de), .string (ofL m.cu.sy.gr), .string (ofL m.cu.sy.mi), .string (ofL m.cu.sy.pe), .int .i64 m.cu.sy.pr, .int .i64 m.cu.sy.se,
  .slice m.cu.li.a m.cu.li.n m.cu.li.c, .slice m.cu.un.a m.cu.un.n m.cu.un.c, .slice m.cu.da.a m.cu.da.n m.cu.da.c, .slice m.cu.mo.a m.cu.mo.n m.cu.mo.c, .slice m.cu.dy.a m.cu.dy.n m.cu.dy.c,
  .int .i64 m.at_, .int .i64 m.f]
/-- The tokens that are left, the end behind them. -/
structure RdTk (w : World) (B0 : Nat) (v : RawS) (ts : List KT) : Prop where
  rd : ∃ zs : List Tok, Rd 3 encTk w (.slice v.a v.n v.c) zs ∧ zs.map (fun t => (t.kd, t.tx)) = ts ++ [(0, [])] ∧ ∀ z ∈ zs, z.tx.length ≤ 300000
  ob : ∃ off, v.a = some ⟨B0, off, none⟩
  ty : ∃ cs, Blk B0 84 cs w
/-- The parser: whether it is good, and the tokens that are left. -/
structure PL (g B0 : Nat) (m : PMem) (ok : Bool) (ts : List KT) (w : World) : Prop where
  blk : Blk g 86 (pcells m) w
  tk : RdTk w B0 m.tk ts
  f : m.f = 0 ↔ ok = true
theorem PL.ne {g B0 : Nat} {m : PMem} {ok : Bool} {ts : List KT} {w : World} (h : PL g B0 m ok ts w) : B0 ≠ g := fun e => by
  obtain ⟨cs, h1⟩ := h.tk.ty
  subst e
  exact absurd (h1.ty_eq h.blk) (by decide)
theorem RdTk.keep {w w' : World} {B0 : Nat} {v : RawS} {ts : List KT} (h : RdTk w B0 v ts) (hb : w'.heap[B0]? = w.heap[B0]?) : RdTk w' B0 v ts := by
  obtain ⟨⟨zs, h1, h2, h3⟩, ⟨off, h4⟩, cs, h5⟩ := h
  refine ⟨⟨zs, h1.keep (fun b e _ => ?_), h2, h3⟩, ⟨off, h4⟩, cs, hb.trans h5⟩
  rw [h4] at e
  obtain rfl : B0 = b := by simpa [Value.ownBlock] using e
  exact hb
theorem RdTk.len {w : World} {B0 : Nat} {v : RawS} {ts : List KT} (h : RdTk w B0 v ts) : v.n = ts.length + 1 := by
  obtain ⟨⟨zs, h1, h2, _⟩, _, _⟩ := h
  have := congrArg List.length h2
  rw [List.length_map, List.length_append, h1.len] at this
  simpa using this
def hdK (ts : List KT) : KT := ts.headD (0, [])
/-- The cells of the current token. -/
theorem RdTk.hd {w : World} {B0 : Nat} {v : RawS} {ts : List KT} (h : RdTk w B0 v ts) : ∃ off fr, v.a = some ⟨B0, off, none⟩ ∧ w.cell? ⟨B0, off, none⟩ = some (.int .i64 ((hdK ts).1 : Int)) ∧ w.cell? ⟨B0, off + 1, none⟩ = some (.string (ofL (hdK ts).2)) ∧ w.cell? ⟨B0, off + 2, none⟩ = some (.int .i64 fr) ∧ (hdK ts).2.length ≤ 300000 := by
  obtain ⟨⟨zs, h1, h2, h3⟩, ⟨off, h4⟩, cs, h5⟩ := h
  have hl : 0 < zs.length := by
    have := congrArg List.length h2
    rw [List.length_map, List.length_append] at this
    simp at this
    omega
  obtain ⟨b, off', e, _, hx⟩ := h1.some_ 0 hl
  rw [h4] at e
  injection e with e
  injection e with e1 e2
  subst e1 e2
  have h0 : zs[0].kd = (hdK ts).1 ∧ zs[0].tx = (hdK ts).2 := by
    cases zs with
    | nil => simp at hl
    | cons z zs =>
      cases ts with
      | nil =>
        rw [List.map_cons, List.nil_append] at h2
        injection h2 with h2 _
        exact ⟨congrArg Prod.fst h2, congrArg Prod.snd h2⟩
      | cons t ts =>
        rw [List.map_cons, List.cons_append] at h2
        injection h2 with h2 _
        exact ⟨congrArg Prod.fst h2, congrArg Prod.snd h2⟩
  have g0 := hx 0 _ rfl
  have g1 := hx 1 _ rfl
  have g2 := hx 2 _ rfl
  rw [h0.1] at g0
  rw [h0.2] at g1
  simp only [Nat.zero_mul, Nat.add_zero] at g0 g1 g2
  exact ⟨off, _, h4, g0, g1, g2, by rw [← h0.2]; exact h3 _ (List.getElem_mem hl)⟩
/-- The parser's block is told by the others. -/
def sameM (m m' : PMem) : Prop := m'.lo = m.lo ∧ m'.al = m.al ∧ m'.ne = m.ne ∧ m'.cu = m.cu
theorem sameM.refl (m : PMem) : sameM m m := ⟨rfl, rfl, rfl, rfl⟩
theorem sameM.trans {a b c : PMem} (h : sameM a b) (k : sameM b c) : sameM a c := ⟨k.1.trans h.1, k.2.1.trans h.2.1, k.2.2.1.trans h.2.2.1, k.2.2.2.trans h.2.2.2⟩
/-- What a reading method does: the new state, the lists as they were. -/
def PLn (g B0 : Nat) (m : PMem) (q : Bool × List KT) (w w' : World) : Prop := ∃ m', sameM m m' ∧ PL g B0 m' q.1 q.2 w' ∧ But g w w'
theorem PL.below {g B0 : Nat} {m : PMem} {ok : Bool} {ts : List KT} {w w' : World} (h : PL g B0 m ok ts w) (hb : Below w.heap.size w w') : PL g B0 m ok ts w' := by
  obtain ⟨cs, hc⟩ := h.tk.ty
  exact ⟨Blk.below h.blk hb, h.tk.keep (hb.block _ hc.lt), h.f⟩
theorem PLn.then_ {g B0 : Nat} {m : PMem} {q : Bool × List KT} {w w1 w' : World} (h : PLn g B0 m q w w1) (hb : Below w1.heap.size w1 w') : PLn g B0 m q w w' := by
  obtain ⟨m', h1, h2, h3⟩ := h
  exact ⟨m', h1, h2.below hb, h3.then_ (hb.mono h3.size)⟩
/-! ### The reading methods, plain -/
def reqS (b : Bool) (q : Bool × List KT) : Bool × List KT := (q.1 && b, q.2)
def nxS (q : Bool × List KT) : Bool × List KT := if q.1 = true then (true, q.2.tail) else q
def expS (kd : Nat) (q : Bool × List KT) : Bool × List KT := reqS ((hdK q.2).1 == kd) q
def isS (kd : Nat) (t : List UInt8) (ts : List KT) : Bool := (hdK ts).1 == kd && decide ((hdK ts).2 = t)
/-- Reads a token of a kind. -/
def rdS (kd : Nat) (q : Bool × List KT) : Bool × List KT := nxS (expS kd q)
def mkS (t : List UInt8) (q : Bool × List KT) : Bool × List KT := nxS (reqS (decide ((hdK q.2).2 = t)) (expS 3 q))
end Go.Proofs.YtpmmchppfmojhaaGreatDoor


/- Of the program's table parser: fail, require, is, expect, next. -/
namespace Go.Proofs.YtpmmchppfmojhaaGreatDoor
open Go.RowKit
set_option linter.unusedVariables false

def FlP (g B0 : Nat) (m : PMem) (q : Bool × List KT) (w : World) (e : Ending) (w' : World) : Prop := e = .returned (.tuple #[]) ∧ PLn g B0 m q w w'
theorem pl_same {g B0 : Nat} {m : PMem} {ok : Bool} {ts : List KT} {w : World} (h : PL g B0 m ok ts w) : PLn g B0 m (ok, ts) w w := ⟨m, sameM.refl m, h, But.refl _ _⟩
theorem pl_fail {g B0 : Nat} {m : PMem} {ok : Bool} {ts : List KT} {w : World} (h : PL g B0 m ok ts w) (a er : Int) (he : er ≠ 0) :
    PLn g B0 m (false, ts) w ((w.setCell ⟨g, 20, none⟩ (.int .i64 a)).setCell ⟨g, 21, none⟩ (.int .i64 er)) := by
  have hb : But g w ((w.setCell ⟨g, 20, none⟩ (.int .i64 a)).setCell ⟨g, 21, none⟩ (.int .i64 er)) := (But.setCell g _ 20 _).trans (But.setCell g _ 21 _)
  obtain ⟨cs, hc⟩ := h.tk.ty
  exact ⟨{ m with at_ := a, f := er }, ⟨rfl, rfl, rfl, rfl⟩, ⟨(h.blk.put 20 (.int .i64 a)).put 21 (.int .i64 er), h.tk.keep (hb.block _ hc.lt h.ne), by simp; exact he⟩, hb⟩
set_option maxRecDepth 1000000 in
set_option maxHeartbeats 2000000 in
theorem fail_z (g B0 : Nat) (m : PMem) (ok : Bool) (ts : List KT) (a er : Int) (w : World) (h : PL g B0 m ok ts w) :
    Calls Tryz.prog 164 #[.pointer (some ⟨g, 0, none⟩), .int .i64 a, .int .i64 er] w (FlP g B0 m (reqS (er == 0) (ok, ts)) w) := by
  have H := Lib.hid h
  have cf : w.cell? ⟨g, 21, none⟩ = some (.int .i64 m.f) := h.blk.cell 21
  have c20 : w.cell? ⟨g, 20, none⟩ = some (.int .i64 m.at_) := h.blk.cell 20
  have f20 := h.blk.frozen 20
  have f21 := h.blk.frozen 21
  cases ok with
  | false =>
    have hf : m.f ≠ 0 := fun e => by have := h.f.1 e; cases this
    have e1 : (m.f == 0) = false := by rw [beq_eq_false_iff_ne]; exact hf
    clear h hf
    go_enter Tryz.func164, Tryz.ntmps164
    go_wp2
    go_end0
    exact ⟨rfl, pl_same H.out⟩
  | true =>
    have hf : m.f = 0 := h.f.2 rfl
    rw [hf] at cf
    by_cases he : er = 0
    · have e1 : (er == 0) = true := by rw [he]; rfl
      have e2 : (er != 0) = false := by rw [he]; rfl
      rw [e1]
      clear h hf he
      go_enter Tryz.func164, Tryz.ntmps164
      go_wp2
      go_end0
      exact ⟨rfl, pl_same H.out⟩
    · have e1 : (er == 0) = false := by rw [beq_eq_false_iff_ne]; exact he
      have e2 : (er != 0) = true := by rw [bne_iff_ne]; exact he
      have HE := Lib.hid he
      rw [e1]
      clear h hf he
      go_enter Tryz.func164, Tryz.ntmps164
      go_wp2
      go_end0
      exact ⟨rfl, pl_fail H.out a er HE.out⟩
/-- A state's facts as a walk wants them. -/
theorem PL.facts {g B0 : Nat} {m : PMem} {ok : Bool} {ts : List KT} {w : World} (h : PL g B0 m ok ts w) : ∃ off fr, w.cell? ⟨g, 0, none⟩ = some (.slice (some ⟨B0, off, none⟩) m.tk.n m.tk.c) ∧ (0 : Int) < (m.tk.n : Int) ∧ w.cell? ⟨B0, off, none⟩ = some (.int .i64 ((hdK ts).1 : Int)) ∧ w.cell? ⟨B0, off + 1, none⟩ = some (.string (ofL (hdK ts).2)) ∧ w.cell? ⟨B0, off + 2, none⟩ = some (.int .i64 fr) ∧ (hdK ts).2.length ≤ 300000 ∧ w.cell? ⟨g, 21, none⟩ = some (.int .i64 m.f) := by
  obtain ⟨off, fr, h1, h2, h3, h4, h5⟩ := h.tk.hd
  have h0 : w.cell? ⟨g, 0, none⟩ = some (.slice m.tk.a m.tk.n m.tk.c) := h.blk.cell 0
  rw [h1] at h0
  exact ⟨off, fr, h0, by have := h.tk.len; omega, h2, h3, h4, h5, h.blk.cell 21⟩
set_option maxRecDepth 1000000 in
set_option maxHeartbeats 2000000 in
theorem require_z (g B0 : Nat) (m : PMem) (ok : Bool) (ts : List KT) (b : Bool) (er : Int) (he : er ≠ 0) (w : World) (h : PL g B0 m ok ts w) :
    Calls Tryz.prog 255 #[.pointer (some ⟨g, 0, none⟩), .bool b, .int .i64 er] w (FlP g B0 m (reqS b (ok, ts)) w) := by
  have H := Lib.hid h
  cases b with
  | true =>
    have e : reqS true (ok, ts) = (ok, ts) := by unfold reqS; rw [Bool.and_true]
    rw [e]
    clear h e
    go_enter Tryz.func255, Tryz.ntmps255
    go_wp2
    go_end0
    exact ⟨rfl, pl_same H.out⟩
  | false =>
    obtain ⟨off, fr, c0, hn, t0, t1, t2, _, cf⟩ := h.facts
    have HE : Hid ((er == 0) = false) := Lib.hid (by rw [beq_eq_false_iff_ne]; exact he)
    clear h he cf t0 t1
    go_enter Tryz.func255, Tryz.ntmps255
    go_wp2_with fail
    refine (fail_z g B0 m ok ts fr er _ H.out).mono ?_
    rw [HE.out]
    rintro e w2 ⟨rfl, p2⟩
    have P2 := Lib.hid p2
    clear p2
    go_wp2
    go_end0
    exact ⟨rfl, P2.out⟩
set_option maxRecDepth 1000000 in
set_option maxHeartbeats 2000000 in
theorem is_z (g B0 : Nat) (m : PMem) (ok : Bool) (ts : List KT) (kd : Nat) (t : ByteArray) (w : World) (h : PL g B0 m ok ts w) :
    Calls Tryz.prog 163 #[.pointer (some ⟨g, 0, none⟩), .int .i64 kd, .string t] w fun e w' => e = .returned (.bool (isS kd t.data.toList ts)) ∧ w' = w := by
  obtain ⟨off, fr, c0, hn, t0, t1, t2, _, cf⟩ := h.facts
  have HI : Hid (isS kd t.data.toList ts = ((hdK ts).1 == kd && decide ((hdK ts).2 = t.data.toList))) := Lib.hid rfl
  obtain ⟨k, hk⟩ : ∃ k, (hdK ts).1 = k := ⟨_, rfl⟩
  obtain ⟨x, hx⟩ : ∃ x, (hdK ts).2 = x := ⟨_, rfl⟩
  rw [hk] at t0 HI
  rw [hx] at t1 HI
  clear h cf t2 hk hx
  by_cases h1 : k = kd
  · have e1 : ((k : Int) == (kd : Int)) = true := by rw [beq_iff_eq]; omega
    have e1' : (k == kd) = true := by rw [beq_iff_eq]; omega
    by_cases h2 : x = t.data.toList
    · have e2 : ((ofL x).toList == t.toList) = true := by rw [beq_iff_eq, ByteArray.toList_eq, ByteArray.toList_eq]; exact h2
      have HV : Hid (isS kd t.data.toList ts = true) := Lib.hid (by rw [HI.out, e1', decide_eq_true h2]; rfl)
      clear h1 h2
      go_enter Tryz.func163, Tryz.ntmps163
      go_wp2
      go_ret
      exact ⟨by rw [HV.out]; rfl, rfl⟩
    · have e2 : ((ofL x).toList == t.toList) = false := by rw [beq_eq_false_iff_ne, ByteArray.toList_eq, ByteArray.toList_eq]; exact h2
      have HV : Hid (isS kd t.data.toList ts = false) := Lib.hid (by rw [HI.out, e1', decide_eq_false h2]; rfl)
      clear h1 h2
      go_enter Tryz.func163, Tryz.ntmps163
      go_wp2
      go_ret
      exact ⟨by rw [HV.out]; rfl, rfl⟩
  · have e1 : ((k : Int) == (kd : Int)) = false := by rw [beq_eq_false_iff_ne]; omega
    have e1' : (k == kd) = false := by rw [beq_eq_false_iff_ne]; omega
    have HV : Hid (isS kd t.data.toList ts = false) := Lib.hid (by rw [HI.out, e1']; rfl)
    clear h1
    go_enter Tryz.func163, Tryz.ntmps163
    go_wp2
    go_ret
    exact ⟨by rw [HV.out]; rfl, rfl⟩
set_option maxRecDepth 1000000 in
set_option maxHeartbeats 2000000 in
theorem expect_z (g B0 : Nat) (m : PMem) (ok : Bool) (ts : List KT) (kd : Nat) (w : World) (h : PL g B0 m ok ts w) :
    Calls Tryz.prog 254 #[.pointer (some ⟨g, 0, none⟩), .int .i64 kd] w fun e w' => e = .returned (.string (ofL (hdK ts).2)) ∧ PLn g B0 m (expS kd (ok, ts)) w w' := by
  have H := Lib.hid h
  obtain ⟨off, fr, c0, hn, t0, t1, t2, _, cf⟩ := h.facts
  have HX : Hid (expS kd (ok, ts) = reqS ((hdK ts).1 == kd) (ok, ts)) := Lib.hid rfl
  rw [HX.out]
  obtain ⟨b, hb⟩ : ∃ b, ((hdK ts).1 == kd) = b := ⟨_, rfl⟩
  have e1 : (((hdK ts).1 : Int) == (kd : Int)) = b := by
    rw [← hb]
    by_cases h1 : (hdK ts).1 = kd
    · rw [h1, beq_self_eq_true, beq_self_eq_true]
    · rw [beq_eq_false_iff_ne.2 h1, beq_eq_false_iff_ne.2 (by omega)]
  rw [hb]
  clear h cf t1 t2 HX
  go_enter Tryz.func254, Tryz.ntmps254
  go_wp2_with fail
  refine (require_z g B0 m ok ts b 3 (by decide) _ H.out).mono ?_
  rintro e w2 ⟨rfl, m', hs, p2, b2⟩
  obtain ⟨off2, fr2, d0, hn2, u0, u1', u2', _, _⟩ := p2.facts
  have P2 := Lib.hid p2
  have B2 := Lib.hid b2
  have HS := Lib.hid hs
  clear p2 b2 hs c0 hn t0 u0 u2'
  have u1'' : w2.cell? ⟨B0, off2 + 1, none⟩ = some (.string (ofL (hdK ts).2)) := u1'
  clear u1'
  go_wp2
  go_ret
  exact ⟨rfl, m', HS.out, P2.out, B2.out⟩
theorem Tryz.infoZt : (Tryz.prog.info? 84).map (fun i => (i.zero, i.size, i.bytes)) = some (some (.agg #[.int .i64 0, .string ⟨#[]⟩, .int .i64 0]), 3, 32) := by kernel_rfl
theorem pl_next {g B0 : Nat} {m : PMem} {t : KT} {ts : List KT} {w : World} (h : PL g B0 m true (t :: ts) w) {a : Option Addr} {n c : Nat} (ha : ∃ off, a = some ⟨B0, off, none⟩) {zs : List Tok} (h2 : zs.map (fun t => (t.kd, t.tx)) = (t :: ts) ++ [(0, [])]) (h3 : ∀ z ∈ zs, z.tx.length ≤ 300000) (hr : Rd 3 encTk w (.slice a n c) (zs.drop 1)) :
    PLn g B0 m (true, ts) w (w.setCell ⟨g, 0, none⟩ (.slice a n c)) := by
  have hb : But g w (w.setCell ⟨g, 0, none⟩ (.slice a n c)) := But.setCell g _ 0 _
  obtain ⟨_, _, cs, hc⟩ := h.tk
  have hk : RdTk w B0 ⟨a, n, c⟩ ts := by
    refine ⟨⟨zs.drop 1, hr, ?_, fun z hz => h3 z (List.mem_of_mem_drop hz)⟩, ha, cs, hc⟩
    rw [List.map_drop, h2]
    rfl
  exact ⟨{ m with tk := ⟨a, n, c⟩ }, ⟨rfl, rfl, rfl, rfl⟩, ⟨h.blk.put 0 (.slice a n c), hk.keep (hb.block _ hc.lt h.ne), h.f⟩, hb⟩
set_option maxRecDepth 1000000 in
set_option maxHeartbeats 2000000 in
theorem next_z (g B0 : Nat) (m : PMem) (ok : Bool) (ts : List KT) (hne : ok = true → ts ≠ []) (w : World) (h : PL g B0 m ok ts w) :
    Calls Tryz.prog 165 #[.pointer (some ⟨g, 0, none⟩)] w (FlP g B0 m (nxS (ok, ts)) w) := by
  have H := Lib.hid h
  have cf : w.cell? ⟨g, 21, none⟩ = some (.int .i64 m.f) := h.blk.cell 21
  cases ok with
  | false =>
    have hf : m.f ≠ 0 := fun e => by have := h.f.1 e; cases this
    have e1 : (m.f == 0) = false := by rw [beq_eq_false_iff_ne]; exact hf
    clear h hf hne
    go_enter Tryz.func165, Tryz.ntmps165
    go_wp2
    go_end0
    exact ⟨rfl, pl_same H.out⟩
  | true =>
    have hf : m.f = 0 := h.f.2 rfl
    rw [hf] at cf
    obtain ⟨t, ts, rfl⟩ : ∃ t r, ts = t :: r := by
      cases ts with
      | nil => exact absurd rfl (hne rfl)
      | cons t r => exact ⟨t, r, rfl⟩
    obtain ⟨iT, hiT, _, hkT, _⟩ := info_partsT Tryz.infoZt
    have c0 : w.cell? ⟨g, 0, none⟩ = some (.slice m.tk.a m.tk.n m.tk.c) := h.blk.cell 0
    have hlen : m.tk.n = ts.length + 2 := h.tk.len
    have f0 := h.blk.frozen 0
    obtain ⟨⟨zs, z1, z2, z3⟩, ⟨off', z4⟩, _⟩ := h.tk
    have hzl := z1.len
    obtain ⟨a2, c2, hr2, hob, s1, s2⟩ := z1.tail_ (P := Tryz.prog) (T := 80) Tryz.underlying80 hiT hkT 1 (by omega)
    have ha2 : ∃ off, a2 = some ⟨B0, off, none⟩ := by
      obtain ⟨b, off, e, _⟩ := hr2.some_ 0 (by rw [List.length_drop]; omega)
      have := hob b (by rw [e]; rfl)
      rw [z4] at this
      obtain rfl : B0 = b := by simpa [Value.ownBlock] using this
      exact ⟨off, e⟩
    have HN := Lib.hid (pl_next (n := zs.length - 1) (c := c2) h ha2 z2 z3 hr2)
    obtain ⟨n2, hn2⟩ : ∃ n2, zs.length - 1 = n2 := ⟨_, rfl⟩
    rw [hn2] at s1 s2 HN
    have r1 : ∀ wx, (Instr.slice 80 (.slice m.tk.a m.tk.n m.tk.c) (some (.int .i64 1)) none none).run Tryz.prog wx = .ok (.slice a2 n2 c2) wx := s1
    have r2 : ∀ wx, (Instr.sliceAt 80 (.slice m.tk.a m.tk.n m.tk.c) (some (.int .i64 1)) none none).run Tryz.prog wx = .ok (.slice a2 n2 c2) wx := s2
    clear s1 s2
    clear h hf hne z1 z2 z3 z4 hr2 hob hn2 ha2 hlen hzl hiT hkT
    go_enter Tryz.func165, Tryz.ntmps165
    go_wp2
    go_end0
    exact ⟨rfl, HN.out⟩
end Go.Proofs.YtpmmchppfmojhaaGreatDoor


/- Of the program of layer 11: Spell. -/
namespace Go.Proofs.YtpmmchppfmojhaaGreatDoor
open Go.RowKit
set_option linter.unusedVariables false

/-- The strings so far, the others empty. -/
def cellsA (xs : List (List UInt8)) (n : Nat) : Array Value := (xs.map (fun x => Value.string (ofL x)) ++ List.replicate (n - xs.length) (Value.string ⟨#[]⟩)).toArray
theorem made_cells (n : Nat) : madeCells (Value.string ByteArray.empty).cells n = cellsA [] n := by
  apply Array.toList_inj.1
  have := toList_madeCells_one (Value.string ByteArray.empty) n
  rw [show (Value.string ByteArray.empty).cells = #[Value.string ByteArray.empty] from rfl, this]
  rfl
theorem cells_at {xs : List (List UInt8)} {n : Nat} (h : xs.length < n) : (cellsA xs n)[xs.length]? = some (.string ⟨#[]⟩) := by
  unfold cellsA
  rw [List.getElem?_toArray, List.getElem?_append_right (by rw [List.length_map]; exact Nat.le_refl _), List.length_map, Nat.sub_self, List.getElem?_replicate, if_pos (by omega)]
theorem cells_set {xs : List (List UInt8)} {n : Nat} (h : xs.length < n) (y : List UInt8) : (cellsA xs n).setIfInBounds xs.length (.string (ofL y)) = cellsA (xs ++ [y]) n := by
  unfold cellsA
  apply Array.toList_inj.1
  rw [Array.toList_setIfInBounds]
  show List.set (List.map (fun x => Value.string (ofL x)) xs ++ List.replicate (n - xs.length) (Value.string ⟨#[]⟩)) xs.length (.string (ofL y)) = List.map (fun x => Value.string (ofL x)) (xs ++ [y]) ++ List.replicate (n - (xs ++ [y]).length) (Value.string ⟨#[]⟩)
  obtain ⟨m, hm⟩ : ∃ m, n - xs.length = m + 1 := ⟨n - xs.length - 1, by omega⟩
  rw [hm, List.replicate_succ, List.set_append_right _ _ (by rw [List.length_map]; exact Nat.le_refl _), List.length_map, Nat.sub_self, List.set_cons_zero, List.map_append, List.length_append, List.append_assoc]
  simp only [List.map_cons, List.map_nil, List.length_cons, List.length_nil, Nat.zero_add, List.cons_append, List.nil_append]
  rw [show n - (xs.length + 1) = m by omega]
theorem cells_all {xs : List (List UInt8)} : cellsA xs xs.length = (xs.map (fun x => Value.string (ofL x))).toArray := by
  unfold cellsA
  rw [Nat.sub_self, List.replicate_zero, List.append_nil]
theorem lineF_tail : ∀ l : List TkZ, lineF (l.map ktZ) = Lib.joinTail [32] (l.map spZ)
  | [] => rfl
  | t :: l => by
    have ih := lineF_tail l
    show (32 :: spR t.kd.toNat t.tx) ++ lineF (l.map ktZ) = _
    rw [ih]
    rfl
theorem lineS_join (l : List TkZ) : lineS (l.map ktZ) = Lib.join (l.map spZ) [32] := by
  cases l with
  | nil => rfl
  | cons t l =>
    rw [List.map_cons, List.map_cons, Lib.join_cons]
    show ((32 :: spR t.kd.toNat t.tx) ++ lineF (l.map ktZ)).drop 1 = _
    rw [lineF_tail]
    rfl
def SplI (l : List TkZ) (SB : Nat) (w : World) (v12 : Value) (wr : World) : Prop := ∃ k : Nat, k ≤ l.length ∧ v12 = .int .i64 k ∧ Blk SB 9 (cellsA ((l.take k).map spZ) l.length) wr ∧ (l.take k).all okZ = true ∧ Below w.heap.size w wr
set_option maxRecDepth 1000000 in
set_option maxHeartbeats 16000000 in
theorem spell_any (v : Value) (l : List TkZ) (w : World) (hv : Rd 3 encZ w v l) (hl : l.length ≤ 2000) (ht : ∀ t ∈ l, t.tx.length ≤ 500) (E : Env w) :
    Calls Tryz.prog 134 #[v] w fun e w' => e = .returned (.tuple #[.string (ofL (spellR l).1), .int .i64 ((spellR l).2 : Int)]) ∧ Below w.heap.size w w' := by
  obtain ⟨a1, c1, rfl, q1, q2⟩ := hv.slice
  have HV := Lib.hid hv
  have HT := Lib.hid ht
  have HL := Lib.hid hl
  have HE := Lib.hid E
  have m1 := fun wx => make_at (P := Tryz.prog) 49 9 _ _ rfl Tryz.infoT (by omega) l.length (by omega) wx
  simp only [made_cells] at m1
  have HK0 : Hid (Blk w.heap.size 9 (cellsA [] l.length) (w.alloc (.cells (cellsA [] l.length) 9))) := Lib.hid (Blk.new _ _ _)
  have HB0 : Hid (Below w.heap.size w (w.alloc (.cells (cellsA [] l.length) 9))) := Lib.hid ((Below.refl _ _).alloc (Nat.le_refl _) _)
  obtain ⟨W0, hW0⟩ : ∃ W0, w.alloc (.cells (cellsA [] l.length) 9) = W0 := ⟨_, rfl⟩
  rw [hW0] at HK0 HB0
  have HW0 := Lib.hid hW0
  obtain ⟨g, hg⟩ : ∃ g, w.heap.size = g := ⟨_, rfl⟩
  have HG := Lib.hid hg
  rw [hg] at HK0
  obtain ⟨n, hn⟩ : ∃ n, l.length = n := ⟨_, rfl⟩
  have HN := Lib.hid hn
  rw [hn] at HK0 HW0 m1
  obtain ⟨S, hS⟩ : ∃ S, spellR l = S := ⟨_, rfl⟩
  have HS := Lib.hid hS
  rw [hS]
  have hlb : (n : Int) ≤ 2000 := by omega
  rw [hn]
  clear hv ht hl hS q1 q2 hW0 E hg hn
  go_enter Tryz.func134, Tryz.ntmps134
  go_upto_region 2 with fail
  rw [HW0.out, HG.out]
  clear HW0 m1
  go_wp2_with fail
  go_loopw [12] (fun v12 wr => SplI l g w v12 wr) (fun v12 _ => n - (intOf v12).toNat)
  case atStart => exact ⟨0, Nat.zero_le _, rfl, by rw [HN.out]; exact HK0.out, rfl, HB0.out⟩
  case round =>
    rename World => wr
    obtain ⟨k, hk, rfl, hblk, hal, hb⟩ := hrel
    have HBW := Lib.hid hb
    have HAL := Lib.hid hal
    have HBK := Lib.hid hblk
    rw [HN.out] at hk HBK
    clear hb hal hblk HK0 HB0
    by_cases hlt : k < n
    · have hlt2 : k < l.length := by rw [HN.out]; exact hlt
      obtain ⟨b1, o1, rfl, g1, x0, x1, x2⟩ := (HV.out.below HBW.out).tkZ k hlt2
      have h9 : (k : Int) < (n : Int) := by omega
      have HGO := Lib.hid (fun h => all_snoc hlt2 HAL.out h)
      have HBAD := Lib.hid (fun h => all_bad hlt2 h)
      have HTX := HT.out (l[k]'hlt2) (List.getElem_mem hlt2)
      have HTK : Hid ((l.take (k + 1)).map spZ = (l.take k).map spZ ++ [spZ (l[k]'hlt2)]) := Lib.hid (by rw [List.take_succ_eq_append_getElem hlt2, List.map_append, List.map_singleton])
      have hlen : ((l.take k).map spZ).length = k := by rw [List.length_map, List.length_take]; omega
      obtain ⟨x, hx⟩ : ∃ x, l[k]'hlt2 = x := ⟨_, rfl⟩
      rw [hx] at HGO HBAD HTX HTK x0 x1 x2
      have HTO := Lib.hid (fun w => isToken_any x (by omega) w)
      have HSP := Lib.hid (fun w E => spelling_any x (by omega) w E)
      obtain ⟨okb, hok⟩ : ∃ b, okZ x = b := ⟨_, rfl⟩
      rw [hok] at HGO HBAD HTO
      obtain ⟨y, hy⟩ : ∃ y, spZ x = y := ⟨_, rfl⟩
      rw [hy] at HTK HSP
      obtain ⟨xs, hxs⟩ : ∃ xs, (l.take k).map spZ = xs := ⟨_, rfl⟩
      rw [hxs] at HTK HBK hlen
      have HKA := Lib.hid (show (cellsA xs n)[k]? = some (.string ⟨#[]⟩) by have := cells_at (xs := xs) (n := n) (by omega); rw [hlen] at this; exact this)
      have HKS := Lib.hid (show (cellsA xs n).setIfInBounds k (.string (ofL y)) = cellsA (xs ++ [y]) n by have := cells_set (xs := xs) (n := n) (by omega) y; rw [hlen] at this; exact this)
      obtain ⟨kd, tx, ta⟩ := x
      dsimp only at HTX x0 x1 x2 HTO HSP
      obtain ⟨X, hX⟩ : ∃ X, ofL tx = X := ⟨_, rfl⟩
      rw [hX] at x1 HTO HSP
      obtain ⟨Y, hY⟩ : ∃ Y, ofL y = Y := ⟨_, rfl⟩
      rw [hY] at HSP HKS
      have HA1 : Hid (Below wr.heap.size wr (wr.alloc (.cells #[.int .i64 kd, .string X, .int .i64 ta] 84))) := Lib.hid ((Below.refl _ _).alloc (Nat.le_refl _) _)
      have HA2 : Hid (Blk wr.heap.size 84 #[.int .i64 kd, .string X, .int .i64 ta] (wr.alloc (.cells #[.int .i64 kd, .string X, .int .i64 ta] 84))) := Lib.hid (Blk.new _ _ _)
      obtain ⟨W1, hW1⟩ : ∃ W1, wr.alloc (.cells #[.int .i64 kd, .string X, .int .i64 ta] 84) = W1 := ⟨_, rfl⟩
      rw [hW1] at HA1 HA2
      have HW1 := Lib.hid hW1
      obtain ⟨h, hh⟩ : ∃ h, wr.heap.size = h := ⟨_, rfl⟩
      have HH := Lib.hid hh
      rw [hh] at HA2
      clear hx hok hy hxs hX hY hlen g1 HTX hW1 hh
      go_upto_region 5 with fail
      rw [HW1.out, HH.out]
      have y0 : W1.cell? ⟨h, 0, none⟩ = some (.int .i64 kd) := HA2.out.cell 0
      have y1 : W1.cell? ⟨h, 1, none⟩ = some (.string X) := HA2.out.cell 1
      have y2 : W1.cell? ⟨h, 2, none⟩ = some (.int .i64 ta) := HA2.out.cell 2
      clear HW1 x0 x1 x2
      go_wp2_with fail
      refine (HTO.out _).mono ?_
      rintro e w2 ⟨rfl, b2⟩
      have HB2 := Lib.hid (HA1.out.trans (b2.mono HA1.out.size))
      have HA3 := Lib.hid (Blk.below HA2.out b2)
      have u0 : w2.cell? ⟨h, 0, none⟩ = some (.int .i64 kd) := HA3.out.cell 0
      have u1' : w2.cell? ⟨h, 1, none⟩ = some (.string X) := HA3.out.cell 1
      have u2' : w2.cell? ⟨h, 2, none⟩ = some (.int .i64 ta) := HA3.out.cell 2
      have HW2 : Hid (Below w.heap.size w w2) := Lib.hid (HBW.out.trans (HB2.out.mono HBW.out.size))
      clear b2 y0 y1 y2
      cases okb with
      | false =>
        have HSS : Hid (S = ([], 1)) := Lib.hid (by rw [← HS.out]; exact HBAD.out rfl)
        go_wp2
        go_ret2
        rw [HSS.out]
        exact ⟨rfl, HW2.out⟩
      | true =>
        have HEW : Hid (Env w2) := Lib.hid (HE.out.below HW2.out)
        have hgn := HGO.out rfl
        have HGN := Lib.hid hgn
        clear hgn
        go_wp2_with fail
        refine (HSP.out _ HEW.out).mono ?_
        rintro e w3 ⟨rfl, b3⟩
        have HB3 := Lib.hid (HB2.out.trans (b3.mono HB2.out.size))
        have HW3 : Hid (Below w.heap.size w w3) := Lib.hid (HW2.out.trans (b3.mono HW2.out.size))
        have HBK3 := Lib.hid (Blk.below HBK.out HB3.out)
        have r0 : w3.cell? ⟨g, k, none⟩ = some (.string ⟨#[]⟩) := (HBK3.out.cell k).trans HKA.out
        have f0 := HBK3.out.frozen k
        have HPUT := Lib.hid (HBK3.out.put k (.string Y))
        have HWP : Hid (Below w.heap.size w (w3.setCell ⟨g, k, none⟩ (.string Y))) := Lib.hid (HW3.out.setCell (p := ⟨g, k, none⟩) (by show w.heap.size ≤ g; have := HG.out; omega) _)
        rw [HKS.out] at HPUT
        clear b3 u0 u1' u2'
        go_wp2
        go_roundw
        case measure => simp [intOf]; omega
        case rel => exact ⟨k + 1, by rw [HN.out]; omega, by go_num, by rw [HTK.out, HN.out]; exact HPUT.out, HGN.out, HWP.out⟩
    · have h9 : ¬ (k : Int) < (n : Int) := by omega
      have hkn : k = n := by omega
      have hta : l.take k = l := List.take_of_length_le (by rw [HN.out]; omega)
      have HSS : Hid (S = (lineS (l.map ktZ), 0)) := Lib.hid (by
        rw [← HS.out]
        unfold spellR
        rw [if_pos (by have := HAL.out; rw [hta] at this; exact this)])
      have hcs : ∀ (j : Nat) (x : ByteArray), (l.map (fun t => ofL (spZ t)))[j]? = some x → wr.cell? ⟨g, 0 + j, none⟩ = some (.string x) := by
        intro j x hj
        rw [Nat.zero_add]
        have e1 := HBK.out.cell j
        rw [hta, show n = (l.map spZ).length by rw [List.length_map, HN.out], cells_all, List.getElem?_toArray, List.map_map] at e1
        rw [e1]
        rw [List.getElem?_map] at hj ⊢
        obtain ⟨y, hy, rfl⟩ := Option.map_eq_some_iff.1 hj
        rw [hy]
        rfl
      have em : ((l.map (fun t => ofL (spZ t))).map (·.data.toList)) = l.map spZ := by rw [List.map_map]; rfl
      have hjl : (Lib.join ((l.map (fun t => ofL (spZ t))).map (·.data.toList)) (⟨#[32]⟩ : ByteArray).data.toList).length ≤ 140737488355328 := by
        rw [em]
        show (Lib.join (l.map spZ) [32]).length ≤ _
        rw [← lineS_join]
        have := lineS_len (l.map ktZ) (by
          intro t h
          obtain ⟨z, hz, rfl⟩ := List.mem_map.1 h
          exact HT.out z hz)
        rw [List.length_map] at this
        have := HL.out
        omega
      have HJ := Lib.hid (Tryz.strings_Join g 0 n (l.map (fun t => ofL (spZ t))) ⟨#[32]⟩ wr hcs (HBK.out.lt) (by rw [List.length_map]; have := HL.out; omega) (by rw [List.length_map, HN.out]; exact Nat.le_refl _) hjl)
      rw [em, List.length_map, HN.out, show (⟨#[32]⟩ : ByteArray).data.toList = [32] from rfl, ← lineS_join] at HJ
      have HO : Hid ((⟨(lineS (l.map ktZ)).toArray⟩ : ByteArray) = ofL (lineS (l.map ktZ))) := Lib.hid rfl
      obtain ⟨Z, hZ⟩ : ∃ Z, (⟨(lineS (l.map ktZ)).toArray⟩ : ByteArray) = Z := ⟨_, rfl⟩
      rw [hZ] at HJ HO
      clear hta hcs em hjl hZ hkn HBK
      go_wp2_with fail
      refine HJ.out.mono ?_
      rintro e w5 ⟨rfl, b5⟩
      have HB5 := Lib.hid (HBW.out.trans (b5.mono HBW.out.size))
      clear b5
      go_wp2
      go_ret2
      rw [HSS.out]
      exact ⟨congrArg (fun z => Ending.returned (.tuple #[.string z, .int .i64 0])) HO.out, HB5.out⟩
end Go.Proofs.YtpmmchppfmojhaaGreatDoor


