/- THE BASE: values that read as lists of whatever is laid in a fixed number of cells; what the call owns of them; blocks known whole; worlds in which one block alone may have turned; appends; slicing; regions that draw their order. -/
import Derived.Test.YteofkofgdhmpjaaDoorKc
import Derived.Test.YteofkofgdhmpjaaDoorChecked

import Derived.WalkKit

import Derived.WalkLawsBesides

import Derived.WalkSpells

import Derived.Below

import Derived.Lib.Hide

import Derived.LoopTactic

import Derived.Lib.OthersKept

import Derived.Deep.QuietTactic

import Derived.BigQuiet

import Derived.OwnWalk

import Derived.Maps.AppendAt

import Derived.WalkSmall

import Derived.Laws.OwnMore

import Derived.Laws.AppendOwnNone

import Derived.Lib.AppendStr

import Derived.Deep.RegionWith

import Derived.Deep.RegionHeld3

import Derived.Outline

import Derived.RangeFuncNested

import Derived.RangeFuncBound

import Derived.RangeFuncCalls

import Derived.RangeFuncLeaves

import Derived.RangeFuncBox

import Derived.Shelf.Abstract

import Derived.Shelf.RegionOpen

import Derived.OwnWalkIn

import Derived.TacticsInMore

import Derived.LoopNIn

import Derived.LoopIn

import Derived.Sort.QuietIn

import Derived.StillTailTactics

import Derived.Laws.IdiomCopy

import Derived.IntWalk

import Derived.Deep.RegionLaw

import Derived.Deep.CutRange

import Derived.OpenShut

import Derived.WideShapes

import Derived.Laws.StructEq

import Derived.Deep.Strs

import Derived.ChangeSame

import Derived.Laws.IdiomStrings

namespace Go.Proofs.YteofkofgdhmpjaaDoor
open Go.RowKit Go.Shelf
set_option linter.unusedVariables false
attribute [local go_sem] Oper.semAt_some


def ofL (x : List UInt8) : ByteArray := ⟨x.toArray⟩
theorem ofL_list (x : List UInt8) : (ofL x).data.toList = x := rfl
theorem ofL_size (x : List UInt8) : (ofL x).size = x.length := by show x.toArray.size = _; simp
theorem ofL_inj {x y : List UInt8} (h : ofL x = ofL y) : x = y := by rw [← ofL_list x, h, ofL_list]
theorem of_data (B : ByteArray) : ofL B.data.toList = B := by cases B; simp [ofL]
theorem str_ne {x y : List UInt8} (h : x ≠ y) : ((ofL x).toList == (ofL y).toList) = false ∧ ((ofL x).toList != (ofL y).toList) = true := by
  have h1 : (ofL x).toList ≠ (ofL y).toList := by rw [ByteArray.toList_eq, ByteArray.toList_eq]; exact h
  exact ⟨by rw [beq_eq_false_iff_ne]; exact h1, by rw [bne_iff_ne]; exact h1⟩
theorem add_off (g o k : Nat) : (⟨g, o, none⟩ : Addr).add k = ⟨g, o + k, none⟩ := by unfold Addr.add; split <;> simp_all
theorem ret_int {k : IntKind} {a b : Int} (h : a = b) : Ending.returned (.int k a) = .returned (.int k b) := by rw [h]
theorem ret_bool {a b : Bool} (h : a = b) : Ending.returned (.bool a) = .returned (.bool b) := by rw [h]
theorem val_int {k : IntKind} {a b : Int} (h : a = b) : Value.int k a = .int k b := by rw [h]
theorem st {b : Nat} {w w1 w2 : World} (h : Below b w w1) (h2 : Below w1.heap.size w1 w2) (hs : b ≤ w1.heap.size) : Below b w w2 := h.trans (h2.mono hs)
def Ret (w : World) (v : Value) (e : Ending) (w' : World) : Prop := e = .returned v ∧ Below w.heap.size w w'
def Drn (w : World) (v : Value) (e : Ending) (w' : World) : Prop := e = .returned v ∧ ∃ n, w' = w.drewN n

/-! ### What is laid in cells -/
def encT (x : List UInt8) : List Value := [.string (ofL x)]
def encP (p : Int × Int) : List Value := [.int .i64 p.1, .int .i64 p.2]
def encV (v : Value) : List Value := [v]
section
variable {α : Type}
/-- A value that reads as a list: each element in k cells. -/
structure Rd (k : Nat) (enc : α → List Value) (w : World) (v : Value) (l : List α) : Prop where
  form : ∃ a c, v = .slice a l.length c ∧ l.length ≤ c ∧ c ≤ 9223372036854775807 ∧ (l ≠ [] → ∃ b off, a = some ⟨b, off, none⟩ ∧ b < w.heap.size ∧ ∀ i x, l[i]? = some x → ∀ j u, (enc x)[j]? = some u → w.cell? ⟨b, off + i * k + j, none⟩ = some u)
  nil_ : ∀ n c, v = .slice none n c → c = 0
variable {k : Nat} {enc : α → List Value}
theorem Rd.below {w w' : World} {v : Value} {l : List α} (h : Rd k enc w v l) (hb : Below w.heap.size w w') : Rd k enc w' v l := by
  obtain ⟨⟨a, c, hv, h1, h2, hx⟩, hn⟩ := h
  refine ⟨⟨a, c, hv, h1, h2, fun hne => ?_⟩, hn⟩
  obtain ⟨b, off, ha, hlt, hc⟩ := hx hne
  exact ⟨b, off, ha, Nat.lt_of_lt_of_le hlt hb.size, fun i x hi j u hu => (hb.cell (p := ⟨b, off + i * k + j, none⟩) hlt).trans (hc i x hi j u hu)⟩
theorem Rd.drewN {w : World} {v : Value} {l : List α} (h : Rd k enc w v l) (n : Nat) : Rd k enc (w.drewN n) v l := h.below (below_drewN (Below.refl _ _) n)
theorem Rd.alloc {w : World} {v : Value} {l : List α} (h : Rd k enc w v l) (o : Obj) : Rd k enc (w.alloc o) v l := h.below ((Below.refl _ _).alloc (Nat.le_refl _) o)
theorem Rd.slice {w : World} {v : Value} {l : List α} (h : Rd k enc w v l) : ∃ a c, v = .slice a l.length c ∧ l.length ≤ c ∧ c ≤ 9223372036854775807 := by
  obtain ⟨⟨a, c, hv, h1, h2, _⟩, _⟩ := h
  exact ⟨a, c, hv, h1, h2⟩
theorem rd_nil (w : World) : Rd k enc w (.slice none 0 0) ([] : List α) := ⟨⟨_, 0, rfl, by simp, by omega, fun h => absurd rfl h⟩, fun n c hc => by injection hc with _ _ h3; exact h3.symm⟩
theorem Rd.some_ {w : World} {a : Option Addr} {n c : Nat} {l : List α} (h : Rd k enc w (.slice a n c) l) (i : Nat) (hi : i < l.length) : ∃ b off, a = some ⟨b, off, none⟩ ∧ b < w.heap.size ∧ ∀ j u, (enc l[i])[j]? = some u → w.cell? ⟨b, off + i * k + j, none⟩ = some u := by
  obtain ⟨⟨a', c', hv, _, _, hx⟩, _⟩ := h
  injection hv with e1 e2 e3
  subst e1
  obtain ⟨b, off, rfl, hb, hc⟩ := hx (List.ne_nil_of_length_pos (by omega))
  exact ⟨b, off, rfl, hb, hc i _ (List.getElem?_eq_getElem hi)⟩
/-- .. the block once and for all. -/
theorem Rd.at_ {w : World} {b off n c : Nat} {l : List α} (h : Rd k enc w (.slice (some ⟨b, off, none⟩) n c) l) (i : Nat) (hi : i < l.length) : ∀ j u, (enc l[i])[j]? = some u → w.cell? ⟨b, off + i * k + j, none⟩ = some u := by
  obtain ⟨b', off', e, _, h⟩ := h.some_ i hi
  cases e
  exact h
theorem Rd.len {w : World} {a : Option Addr} {n c : Nat} {l : List α} (h : Rd k enc w (.slice a n c) l) : l.length = n := by
  obtain ⟨⟨a', c', hv, _, _, hx⟩, _⟩ := h
  injection hv with e1 e2 e3
  exact e2.symm
theorem flat_len (hk : ∀ x : α, (enc x).length = k) : ∀ l : List α, (l.flatMap enc).length = l.length * k
  | [] => by simp
  | x :: l => by rw [List.flatMap_cons, List.length_append, flat_len hk l, hk, List.length_cons, Nat.add_mul]; omega
theorem flat_get (hk : ∀ x : α, (enc x).length = k) : ∀ (l : List α) (i : Nat) (x : α), l[i]? = some x → ∀ j u, (enc x)[j]? = some u → (l.flatMap enc)[i * k + j]? = some u
  | [], i, x, h, _, _, _ => by simp at h
  | y :: l, 0, x, h, j, u, hu => by
    simp at h
    subst h
    rw [List.flatMap_cons, Nat.zero_mul, Nat.zero_add, List.getElem?_append_left (List.getElem?_eq_some_iff.1 hu).1]
    exact hu
  | y :: l, i + 1, x, h, j, u, hu => by
    have h' : l[i]? = some x := by simpa using h
    have := flat_get hk l i x h' j u hu
    rw [List.flatMap_cons, List.getElem?_append_right (by rw [hk, Nat.add_mul]; omega), hk]
    rw [show (i + 1) * k + j - k = i * k + j by rw [Nat.add_mul]; omega]
    exact this
def Own1 (k : Nat) (enc : α → List Value) (w : World) (base : Nat) (e : TypeId) (v : Value) (l : List α) : Prop := w.ownsRow base e k v l.length (l.flatMap enc)
theorem own_below {w w' : World} {base n : Nat} {e : TypeId} {size : Nat} {v : Value} {xs : List Value} (h : w.ownsRow base e size v n xs) (hb : Below w.heap.size w w') : w'.ownsRow base e size v n xs := by
  refine ⟨h.1, ?_⟩
  rcases h.2 with h0 | ⟨g, cap, cur, hv, hB, hg, hr⟩
  · exact .inl h0
  · exact .inr ⟨g, cap, cur, hv, hB, (hb.block g (Array.getElem?_eq_some_iff.1 hg).1).trans hg, hr⟩
theorem own_base {w : World} {base base' n : Nat} {e : TypeId} {size : Nat} {v : Value} {xs : List Value} (h : w.ownsRow base e size v n xs) (hb : base' ≤ base) : w.ownsRow base' e size v n xs := by
  refine ⟨h.1, ?_⟩
  rcases h.2 with h0 | ⟨g, cap, cur, hv, hB, hg, hr⟩
  · exact .inl h0
  · exact .inr ⟨g, cap, cur, hv, Nat.le_trans hb hB, hg, hr⟩
theorem Own1.below {w w' : World} {base : Nat} {e : TypeId} {v : Value} {l : List α} (h : Own1 k enc w base e v l) (hb : Below w.heap.size w w') : Own1 k enc w' base e v l := own_below h hb
theorem Own1.base {w : World} {base base' : Nat} {e : TypeId} {v : Value} {l : List α} (h : Own1 k enc w base e v l) (hb : base' ≤ base) : Own1 k enc w base' e v l := own_base h hb
theorem own1_nil (w : World) (base : Nat) (e : TypeId) : Own1 k enc w base e (.slice none 0 0) ([] : List α) := World.ownsRow_nil _ _ _ _
theorem Own1.rd {w : World} {base : Nat} {e : TypeId} {v : Value} {l : List α} (h : Own1 k enc w base e v l) (hk : ∀ x : α, (enc x).length = k) : Rd k enc w v l := by
  rcases h.2 with ⟨rfl, h0⟩ | ⟨g, cap, cur, rfl, hb, hg, hnc, hcap, hsz, hr⟩
  · have : l = [] := List.eq_nil_of_length_eq_zero h0
    subst this
    exact rd_nil w
  · refine ⟨⟨_, cap, rfl, hnc, by (have hm : maxLen = 9223372036854775807 := by decide); omega, fun hne => ⟨g, 0, rfl, (Array.getElem?_eq_some_iff.1 hg).1, fun i x hi j u hu => ?_⟩⟩, fun n c hc => by injection hc with h1 _ _; cases h1⟩
    have h1 := flat_get hk l i x hi j u hu
    have h2 := (List.getElem?_eq_some_iff.1 h1).1
    rw [flat_len hk] at h2
    rw [← hr, List.getElem?_take, if_pos h2] at h1
    show w.cell? ⟨g, 0 + i * k + j, none⟩ = _
    rw [Nat.zero_add]
    simpa [World.cell?, hg] using h1
/-- A value of the call's own, written out. -/
theorem Own1.slice {w : World} {base : Nat} {e : TypeId} {v : Value} {l : List α} (h : Own1 k enc w base e v l) : ∃ a c, v = .slice a l.length c := by
  rcases h.2 with ⟨rfl, h0⟩ | ⟨g, cap, cur, rfl, _⟩
  · exact ⟨none, 0, by rw [h0]⟩
  · exact ⟨_, _, rfl⟩

/-! ### Slicing -/
theorem Rd.take {w : World} {a : Option Addr} {n c : Nat} {l : List α} (h : Rd k enc w (.slice a n c) l) (m : Nat) (hm : m ≤ l.length) : Rd k enc w (.slice a m c) (l.take m) := by
  obtain ⟨⟨a', c', hv, h1, h2, hx⟩, hn⟩ := h
  injection hv with e1 e2 e3
  subst e1
  subst e3
  have hlen : (l.take m).length = m := by rw [List.length_take]; omega
  refine ⟨⟨a, c, by rw [hlen], by omega, h2, fun hne => ?_⟩, fun n' c' hc => hn n c' (by injection hc with q1 q2 q3; rw [q1, q3])⟩
  have hpos : 0 < m := by rw [← hlen]; exact List.length_pos_iff.2 hne
  obtain ⟨b, off, ha, hb, hc⟩ := hx (List.ne_nil_of_length_pos (by omega))
  refine ⟨b, off, ha, hb, fun i x hi => hc i x ?_⟩
  rw [List.getElem?_take] at hi
  split at hi
  · exact hi
  · cases hi
/-- The value of l[m:], as the model reckons it. -/
def cutV (a : Option Addr) (m n c k : Nat) : Value := .slice (if c = m then a else a.map (·.add (m * k))) (n - m) (c - m)
theorem Rd.cut {w : World} {a : Option Addr} {n c : Nat} {l : List α} (h : Rd k enc w (.slice a n c) l) (m : Nat) (hm : m ≤ l.length) : Rd k enc w (cutV a m n c k) (l.drop m) := by
  obtain ⟨⟨a', c', hv, h1, h2, hx⟩, hn⟩ := h
  injection hv with e1 e2 e3
  subst e1
  subst e2
  subst e3
  have hlen : (l.drop m).length = l.length - m := by rw [List.length_drop]
  refine ⟨⟨_, c - m, by rw [hlen]; rfl, by omega, by omega, fun hne => ?_⟩, fun n' c' hc => ?_⟩
  · have hpos : 0 < l.length - m := by rw [← hlen]; exact List.length_pos_iff.2 hne
    obtain ⟨b, off, ha, hb, hc⟩ := hx (List.ne_nil_of_length_pos (by omega))
    subst ha
    rw [if_neg (by omega)]
    refine ⟨b, off + m * k, by show some (Addr.add _ _) = _; rw [add_off], hb, fun i x hi j u hu => ?_⟩
    rw [List.getElem?_drop] at hi
    have := hc (m + i) x hi j u hu
    rw [Nat.add_mul] at this
    rw [show off + m * k + i * k + j = off + (m * k + i * k) + j by omega]
    exact this
  · injection hc with q1 q2 q3
    cases a with
    | none => have := hn _ _ rfl; omega
    | some y => split at q1 <;> cases q1
end

/-! ### Blocks -/
def Blk (B : Nat) (t : TypeId) (cs : Array Value) (W : World) : Prop := W.heap[B]? = some (.cells cs t (0, 0))
theorem Blk.lt {B : Nat} {t : TypeId} {cs : Array Value} {W : World} (h : Blk B t cs W) : B < W.heap.size := (Array.getElem?_eq_some_iff.1 h).1
theorem Blk.cell {B : Nat} {t : TypeId} {cs : Array Value} {W : World} (h : Blk B t cs W) (i : Nat) : W.cell? ⟨B, i, none⟩ = cs[i]? := by simp [World.cell?, show W.heap[B]? = _ from h]
theorem Blk.frozen {B : Nat} {t : TypeId} {cs : Array Value} {W : World} (h : Blk B t cs W) (i : Nat) : W.frozen? ⟨B, i, none⟩ = false := by simp [World.frozen?, show W.heap[B]? = _ from h]
theorem Blk.new (W : World) (t : TypeId) (cs : Array Value) : Blk W.heap.size t cs (W.alloc (.cells cs t)) := heap_alloc_new W _
theorem Blk.alloc {B : Nat} {t : TypeId} {cs : Array Value} {W : World} (h : Blk B t cs W) (o : Obj) : Blk B t cs (W.alloc o) := (Below.heap_alloc W o B h.lt).trans h
theorem Blk.below {B : Nat} {t : TypeId} {cs : Array Value} {W W' : World} (h : Blk B t cs W) (hb : Below W.heap.size W W') : Blk B t cs W' := (hb.block B h.lt).trans h
theorem Blk.belowAt {B n : Nat} {t : TypeId} {cs : Array Value} {W W' : World} (h : Blk B t cs W) (hb : Below n W W') (hn : B < n) : Blk B t cs W' := (hb.block B hn).trans h
theorem Blk.far {B : Nat} {t : TypeId} {cs : Array Value} {W : World} (h : Blk B t cs W) {p : Addr} (hp : B ≠ p.block) (u : Value) : Blk B t cs (W.setCell p u) := (Below.heap_setCell W p u B hp).trans h
theorem Blk.put {B : Nat} {t : TypeId} {cs : Array Value} {W : World} (h : Blk B t cs W) (i : Nat) (u : Value) : Blk B t (cs.setIfInBounds i u) (W.setCell ⟨B, i, none⟩ u) := by
  unfold Blk at h ⊢
  simp [World.setCell, Array.getElem?_modify, h]
/-- But for block g, what was there is as it was. -/
structure But (g : Nat) (w w' : World) : Prop where
  os : w'.os = w.os
  tape : w'.tape = w.tape
  output : w'.output = w.output
  size : w.heap.size ≤ w'.heap.size
  block : ∀ k, k < w.heap.size → k ≠ g → w'.heap[k]? = w.heap[k]?
theorem But.refl (g : Nat) (w : World) : But g w w := ⟨rfl, rfl, rfl, Nat.le_refl _, fun _ _ _ => rfl⟩
theorem But.trans {g : Nat} {a b c : World} (h : But g a b) (k : But g b c) : But g a c :=
  ⟨k.os.trans h.os, k.tape.trans h.tape, k.output.trans h.output, Nat.le_trans h.size k.size, fun i hi hg => (k.block i (Nat.lt_of_lt_of_le hi h.size) hg).trans (h.block i hi hg)⟩
theorem But.of_below {g : Nat} {w w' : World} (h : Below w.heap.size w w') : But g w w' := ⟨h.os, h.tape, h.output, h.size, fun k hk _ => h.block k hk⟩
theorem But.setCell (g : Nat) (w : World) (i : Nat) (u : Value) : But g w (w.setCell ⟨g, i, none⟩ u) :=
  ⟨rfl, rfl, rfl, by simp [World.setCell], fun k hk hg => Below.heap_setCell _ _ _ _ hg⟩
theorem But.alloc {g : Nat} {a b : World} (h : But g a b) (o : Obj) : But g a (b.alloc o) := h.trans (But.of_below ((Below.refl _ _).alloc (Nat.le_refl _) _))
theorem But.drewN {g : Nat} {a b : World} (h : But g a b) (n : Nat) : But g a (b.drewN n) := h.trans (But.of_below (below_drewN (Below.refl _ _) n))
theorem But.below {g B : Nat} {w w' : World} (h : But g w w') (h1 : B ≤ g) (h2 : B ≤ w.heap.size) : Below B w w' := ⟨h.os, h.tape, h.output, h.size, fun k hk => h.block k (by omega) (by omega)⟩
theorem Blk.but {B g : Nat} {t : TypeId} {cs : Array Value} {W W' : World} (h : Blk B t cs W) (hb : But g W W') (hne : B ≠ g) : Blk B t cs W' := (hb.block B h.lt hne).trans h
section
variable {α : Type} {k : Nat} {enc : α → List Value}
/-- A list read keeps, where its block is another one. -/
theorem Rd.but {g : Nat} {w w' : World} {v : Value} {l : List α} (h : Rd k enc w v l) (hb : But g w w') (hne : ∀ b, v.ownBlock = some b → b ≠ g) : Rd k enc w' v l := by
  obtain ⟨⟨a, c, rfl, h1, h2, hx⟩, hn⟩ := h
  refine ⟨⟨a, c, rfl, h1, h2, fun hl => ?_⟩, hn⟩
  obtain ⟨b, off, ha, hlt, hc⟩ := hx hl
  subst ha
  exact ⟨b, off, rfl, Nat.lt_of_lt_of_le hlt hb.size, fun i x hi j u hu => (World.cell?_of_block (w := w) (a := ⟨b, off + i * k + j, none⟩) (hb.block b hlt (hne b rfl))).trans (hc i x hi j u hu)⟩
end

/-! ### Appends onto what the call owns -/
theorem cells_new (w : World) (cs : Array Value) (t : TypeId) : ∀ j u, cs.toList[j]? = some u → (w.alloc (.cells cs t)).cell? ((⟨w.heap.size, 0, none⟩ : Addr).add j) = some u := by
  intro j u h
  rw [add_off, (Blk.new w t cs).cell, Nat.zero_add, ← Array.getElem?_toList]
  exact h
section
variable {α : Type} {k : Nat} {enc : α → List Value}
variable {P : Program} {ops : Array Oper} {rest : List Oper} {o : Oper} {a : Act} {Q : Exit → Act → World → Prop}
/-- One element more. -/
theorem wpList_append_one {W w0 : World} {e : TypeId} {cs : Array Value} {x : α} (hgd : o.guard = none) (s y : Operand) (t : TypeId)
    (ho : o.op = .call { callee := .builtin .append, args := #[s, y], argTypes := #[t, t] })
    (base : Nat) (i : TypeInfo) (z : Value) (by_ : Nat) (ht : P.underlying t = some (.slice e)) (hi : P.info? e = some i) (hz : i.zero = some z) (hsize : i.size = k) (hby : i.bytes = by_) (hb64 : by_ ≤ 64) (hzs : z.cells.size = k) (hk0 : 0 < k)
    (hk : ∀ x : α, (enc x).length = k) (h1c : ∀ x : α, ∀ u ∈ enc x, u.oneCell' = true)
    (v : Value) (l : List α) (hcs : cs.toList = enc x) (hs : a.eval s = v) (hown : Own1 k enc w0 base e v l) (hx : a.eval y = .slice (some ⟨w0.heap.size, 0, none⟩) 1 1)
    (hl : l.length ≤ 1000000000) (hbase : base ≤ w0.heap.size) (hB : Below base W w0)
    (h : ∀ v' w', Own1 k enc w' base e v' (l ++ [x]) → Below base W w' → w0.grownBy w' v.ownBlock → wpList P ops Q rest (a.put o.dst v') w') : wpList P ops Q (o :: rest) a (w0.alloc (.cells cs e)) := by
  refine wpList_append_own _ hgd s y t ho base e i z k by_ ht hi hz hsize hby hzs hk0 v l.length (l.flatMap enc) hs (World.ownsRow.alloc hown _) ⟨w0.heap.size, 0, none⟩ 1 1 cs.toList hx (by rw [hcs, hk, Nat.one_mul]) (cells_new _ _ _) (fun u hu => h1c x u (by rw [← hcs]; exact hu)) (by unfold maxLen; omega) (Nat.le_trans (Nat.mul_le_mul_left _ hb64) (by omega)) (by simp; omega) ?_
  intro v' w' h2 h3 _
  refine h v' w' ?_ ((hB.alloc hbase _).grown h3 (by simp; omega) (fun j e => (World.ownsRow.lt hown j e).1)) ((World.grownBy_alloc _ _ _).trans h3)
  unfold Own1
  rw [List.flatMap_append, List.length_append, List.flatMap_cons, List.flatMap_nil, List.append_nil, ← hcs]
  exact h2
end
theorem encT_len (x : List UInt8) : (encT x).length = 1 := rfl
theorem encP_len (x : Int × Int) : (encP x).length = 2 := rfl
theorem encV_len (x : Value) : (encV x).length = 1 := rfl
theorem encT_one (x : List UInt8) : ∀ u ∈ encT x, u.oneCell' = true := by intro u hu; simp [encT] at hu; subst hu; rfl
theorem encP_one (x : Int × Int) : ∀ u ∈ encP x, u.oneCell' = true := by intro u hu; simp [encP] at hu; rcases hu with rfl | rfl <;> rfl
theorem Tryd.infoT : (Tryd.prog.info? 9).map (fun i => (i.zero, i.size, i.bytes)) = some (some (.string ByteArray.empty), 1, 16) := by kernel_rfl
/-- Strings, cell by cell. -/
theorem Rd.str {w : World} {a : Option Addr} {n c : Nat} {l : List (List UInt8)} (h : Rd 1 encT w (.slice a n c) l) (i : Nat) (hi : i < l.length) : ∃ b off, a = some ⟨b, off, none⟩ ∧ w.cell? ⟨b, off + i, none⟩ = some (.string (ofL (l[i]))) := by
  obtain ⟨b, off, ha, _, hx⟩ := h.some_ i hi
  refine ⟨b, off, ha, ?_⟩
  have := hx 0 _ rfl
  simpa using this

/-- But for block C, what lies below n is as it was. -/
structure Bt (n C : Nat) (w w' : World) : Prop where
  os : w'.os = w.os
  tape : w'.tape = w.tape
  output : w'.output = w.output
  size : w.heap.size ≤ w'.heap.size
  block : ∀ k, k < n → k ≠ C → w'.heap[k]? = w.heap[k]?
theorem Bt.refl (n C : Nat) (w : World) : Bt n C w w := ⟨rfl, rfl, rfl, Nat.le_refl _, fun _ _ _ => rfl⟩
theorem Bt.trans {n C : Nat} {A B D : World} (h : Bt n C A B) (k : Bt n C B D) : Bt n C A D :=
  ⟨k.os.trans h.os, k.tape.trans h.tape, k.output.trans h.output, Nat.le_trans h.size k.size, fun i hi hc => (k.block i hi hc).trans (h.block i hi hc)⟩
theorem Bt.of_below {n C : Nat} {w w' : World} (h : Below n w w') : Bt n C w w' := ⟨h.os, h.tape, h.output, h.size, fun k hk _ => h.block k hk⟩
theorem Bt.setCell (n C : Nat) (w : World) (i : Nat) (u : Value) : Bt n C w (w.setCell ⟨C, i, none⟩ u) :=
  ⟨rfl, rfl, rfl, by simp [World.setCell], fun k hk hg => Below.heap_setCell _ _ _ _ hg⟩
theorem Bt.of_but {n C : Nat} {w w' : World} (h : But C w w') (hn : n ≤ w.heap.size) : Bt n C w w' := ⟨h.os, h.tape, h.output, h.size, fun k hk hc => h.block k (by omega) hc⟩
theorem Bt.but {n C : Nat} {w w' : World} (h : Bt n C w w') (hn : w.heap.size ≤ n) : But C w w' := ⟨h.os, h.tape, h.output, h.size, fun k hk hc => h.block k (by omega) hc⟩
theorem Bt.mono {n m C : Nat} {w w' : World} (h : Bt n C w w') (hn : m ≤ n) : Bt m C w w' := ⟨h.os, h.tape, h.output, h.size, fun k hk hc => h.block k (by omega) hc⟩
theorem bt_b {n C : Nat} {w : World} (hn : n ≤ w.heap.size) (W : World) (l : Nat) (o o' : Obj) (hl : w.heap.size ≤ l) (h : W.heap[l]? = some o) (h1 : o.isCells = false) (h2 : o.isWalk = false) : Bt n C W (W.putObj l o') :=
  Bt.of_below (belowK_b hn W l o o' hl h h1 h2)
theorem Blk.bt {B n C : Nat} {t : TypeId} {cs : Array Value} {W W' : World} (h : Blk B t cs W) (hb : Bt n C W W') (hn : B < n) (hne : B ≠ C) : Blk B t cs W' := (hb.block B hn hne).trans h
theorem Rd.bt {α : Type} {k : Nat} {enc : α → List Value} {n C : Nat} {w w' : World} {v : Value} {l : List α} (h : Rd k enc w v l) (hb : Bt n C w w') (hne : ∀ b, v.ownBlock = some b → b < n ∧ b ≠ C) : Rd k enc w' v l := by
  obtain ⟨⟨a, c, rfl, h1, h2, hx⟩, hn⟩ := h
  refine ⟨⟨a, c, rfl, h1, h2, fun hl => ?_⟩, hn⟩
  obtain ⟨b, off, ha, hlt, hc⟩ := hx hl
  subst ha
  obtain ⟨h3, h4⟩ := hne b rfl
  exact ⟨b, off, rfl, Nat.lt_of_lt_of_le hlt hb.size, fun i x hi j u hu => (World.cell?_of_block (w := w) (a := ⟨b, off + i * k + j, none⟩) (hb.block b h3 h4)).trans (hc i x hi j u hu)⟩

theorem cut_run {P : Program} {T e : TypeId} {i : TypeInfo} (hT : P.underlying T = some (.slice e)) (he : P.info? e = some i) {k : Nat} (hi : i.size = k) (a : Option Addr) (n c m : Nat) (hm : m ≤ n) (w : World) :
    (Instr.slice T (.slice a n c) (some (.int .i64 (m : Int))) none none).run P w = .ok (cutV a m n c k) w ∧ (Instr.sliceAt T (.slice a n c) (some (.int .i64 (m : Int))) none none).run P w = .ok (cutV a m n c k) w := by
  have hE : P.elem T = e := by unfold Program.elem; rw [hT]
  have h1 : (Instr.slice T (.slice a n c) (some (.int .i64 (m : Int))) none none).run P w = .ok (cutV a m n c k) w := by
    rw [run_slice_l (P := P) (w := w) T a n c (by rw [hT, hE]) .i64 m (by omega) (by omega)]
    rw [hE]
    simp [sizeOf, typeInfo, he, hi, Result.andThen, cutV, sliced]
  refine ⟨h1, ?_⟩
  rw [run_sliceAt_slice (P := P) (w := w) T _ _ _ _ (by rw [hT, hE])]
  exact h1
/-- A list from one of its places on: the value, and what the model runs. -/
theorem Rd.from_ {P : Program} {α : Type} {k : Nat} {enc : α → List Value} {T e : TypeId} {i : TypeInfo} (hT : P.underlying T = some (.slice e)) (he : P.info? e = some i) (hi : i.size = k) {w : World} {a : Option Addr} {n c : Nat} {l : List α} (h : Rd k enc w (.slice a n c) l) (m : Nat) (hm : m ≤ l.length) :
    ∃ a2 c2, Rd k enc w (.slice a2 (l.drop m).length c2) (l.drop m) ∧ (∀ wx, (Instr.slice T (.slice a n c) (some (.int .i64 (m : Int))) none none).run P wx = .ok (.slice a2 (l.drop m).length c2) wx) ∧ (∀ wx, (Instr.sliceAt T (.slice a n c) (some (.int .i64 (m : Int))) none none).run P wx = .ok (.slice a2 (l.drop m).length c2) wx) := by
  have hc := h.cut m hm
  have hn := h.len
  obtain ⟨a2, c2, hv, _⟩ := hc.slice
  rw [hv] at hc
  refine ⟨a2, c2, hc, fun wx => ?_, fun wx => ?_⟩
  · rw [(cut_run hT he hi a n c m (by omega) wx).1, hv]
  · rw [(cut_run hT he hi a n c m (by omega) wx).2, hv]

section
variable {α : Type} {k : Nat} {enc : α → List Value}
variable {P : Program} {ops : Array Oper} {rest : List Oper} {o : Oper} {a : Act} {Q : Exit → Act → World → Prop}
/-- One element more, the new block's number under another name. -/
theorem wpList_append_at {w0 : World} {e : TypeId} {cs : Array Value} {x : α} {N : Nat} (hN : w0.heap.size = N) (hgd : o.guard = none) (s y : Operand) (t : TypeId)
    (ho : o.op = .call { callee := .builtin .append, args := #[s, y], argTypes := #[t, t] })
    (base : Nat) (i : TypeInfo) (z : Value) (by_ : Nat) (ht : P.underlying t = some (.slice e)) (hi : P.info? e = some i) (hz : i.zero = some z) (hsize : i.size = k) (hby : i.bytes = by_) (hb64 : by_ ≤ 64) (hzs : z.cells.size = k) (hk0 : 0 < k)
    (hk : ∀ x : α, (enc x).length = k) (h1c : ∀ x : α, ∀ u ∈ enc x, u.oneCell' = true)
    (v : Value) (l : List α) (hcs : cs.toList = enc x) (hs : a.eval s = v) (hown : Own1 k enc w0 base e v l) (hx : a.eval y = .slice (some ⟨N, 0, none⟩) 1 1)
    (hl : l.length ≤ 1000000000) (hbase : base ≤ N)
    (h : ∀ v' w', Own1 k enc w' base e v' (l ++ [x]) → Below base w0 w' → w0.grownBy w' v.ownBlock → wpList P ops Q rest (a.put o.dst v') w') : wpList P ops Q (o :: rest) a (w0.alloc (.cells cs e)) := by
  subst hN
  exact wpList_append_one (W := w0) hgd s y t ho base i z by_ ht hi hz hsize hby hb64 hzs hk0 hk h1c v l hcs hs hown hx hl hbase (Below.refl _ _) h
end
theorem own_far {α : Type} {k : Nat} {enc : α → List Value} {w w' : World} {base : Nat} {e : TypeId} {v : Value} {l : List α} (h : Own1 k enc w base e v l) (hf : ∀ g, base ≤ g → w'.heap[g]? = w.heap[g]?) : Own1 k enc w' base e v l := by
  refine ⟨h.1, ?_⟩
  rcases h.2 with h0 | ⟨g, cap, cur, hv, hB, hg, hr⟩
  · exact .inl h0
  · exact .inr ⟨g, cap, cur, hv, hB, (hf g hB).trans hg, hr⟩

theorem make_at {P : Program} (t e : TypeId) (z : Value) (by_ : Nat) (ht : P.underlying t = some (.slice e)) (hi : (P.info? e).map (fun i => (i.zero, i.size, i.bytes)) = some (some z, 1, by_)) (hb : by_ ≤ 64) (n : Nat) (hn : n ≤ 10000000) (w : World) :
    (Instr.makeSlice t (.int .i64 (n : Int)) (.int .i64 (n : Int))).run P w = .ok (.slice (some ⟨w.heap.size, 0, none⟩) n n) (w.alloc (.cells (madeCells z.cells n) e)) := by
  obtain ⟨i0, h1, h2, h3, h4⟩ := info_parts hi
  have hbb : (i0.bytes : Int) * (n : Int) ≤ 281474976710656 := by
    rw [h4]
    have := Nat.mul_le_mul hb hn
    have e : ((by_ : Int) * (n : Int)) = ((by_ * n : Nat) : Int) := by simp
    rw [e]
    omega
  have := run_makeSlice (P := P) (w := w) t e i0 z ht h1 h2 .i64 .i64 (n : Int) (n : Int) (by omega) (Int.le_refl _) (by rw [h3]; simp; omega) hbb (by omega)
  rw [h3] at this
  simpa using this
theorem made_get (z : Value) (n i : Nat) (h : i < n) : (madeCells #[z] n)[i]? = some z := by
  rw [← Array.getElem?_toList, toList_madeCells_one, List.getElem?_replicate, if_pos h]

theorem keeps_drewN (W : World) (n : Nat) : KeepsOthers W (W.drewN n) := ⟨Nat.le_refl _, fun _ _ h _ => h⟩
/-! ### A region that draws its order and only reads, within a round -/
section
variable {F : Fence} {n : Nat} {P : Program} {ops : Array Oper} {md : Region.Mode}
theorem oper_round {o : Oper} {a : Act} {w : World} {K : Act → World → Prop} {Q : Exit → Act → World → Prop} (l : Nat) (hro : F.round = none) (hd : ∀ c, o.op ≠ .defer c) (h : o.wpIn F n P a w K Q) : o.wpIn (F.inRound l) n P a w K Q := by
  unfold Oper.wpIn at *
  refine ⟨h.1, ?_⟩
  have h2 := h.2
  rw [Oper.semAt_eq _ _ _ hd] at h2 ⊢
  generalize (execOp a.eval o).run P w = r at *
  cases r with
  | ok x w' => cases x <;> exact h2
  | halt x w' => cases x <;> exact h2
theorem opIn_round {i : Nat} {a : Act} {w : World} {K K' : Act → World → Prop} {Q : Exit → Act → World → Prop} (l : Nat) (hro : F.round = none) (hd : ∀ (j : Nat) (o : Oper), ops[j]? = some o → ∀ c, o.op ≠ .defer c) (hK : ∀ a w, K a w → K' a w) (h : wpOpIn F n P ops Q i K a w) : wpOpIn (F.inRound l) n P ops Q i K' a w := by
  have h := wpOpIn_mono hK h
  unfold wpOpIn at *
  cases ho : ops[i]? with
  | none => simpa [ho] using h
  | some o =>
    simp only [ho] at h ⊢
    split
    · rename_i hw; simp only [hw, if_true] at h; exact oper_round l hro (hd i o ho) h
    · rename_i hw; simp only [hw] at h; exact h
theorem any_round {Q : Exit → Act → World → Prop} (l : Nat) (hro : F.round = none) (hd : ∀ (j : Nat) (o : Oper), ops[j]? = some o → ∀ c, o.op ≠ .defer c) : ∀ (fuel : Nat) (listed : Array Bool) (a : Act) (w : World), wpAnyIn F n P md ops Q fuel listed a w → wpAnyIn (F.inRound l) n P md ops Q fuel listed a w
  | 0, _, _, _, h => h
  | fuel + 1, listed, a, w, h => ⟨h.1, fun i hi => opIn_round l hro hd (fun a w h => any_round l hro hd fuel _ a w h) (h.2 i hi)⟩
def noDefer : Op → Bool
  | .defer _ => false
  | _ => true
theorem noDefer_spec {l : List Oper} (h : l.all (fun o => noDefer o.op) = true) : ∀ (j : Nat) (o : Oper), l.toArray[j]? = some o → ∀ c, o.op ≠ .defer c := by
  intro j o ho c hc
  have : o ∈ l := by rw [List.getElem?_toArray] at ho; exact List.mem_of_getElem? ho
  have := List.all_eq_true.1 h o this
  rw [hc] at this
  cases this
theorem region_quiet_round {id : Nat} {Q : Exit → Act → World → Prop} {a : Act} {w : World} {l : List Oper} (r : Nat) (hro : F.round = none) (hm : P.follows .mixedOrders = true) (hd : l.all (fun o => noDefer o.op) = true) (hB : Region.lexB .any l.toArray = true)
    (h : wpQuietIn F n P l.toArray (fun w' => ∃ n, w' = w.drewN n) (fun a' => ∀ w', (∃ n, w' = w.drewN n) → Q .normal a' w') l a) : (Code.region id l.toArray true).wpIn (F.inRound r) n P Q a w := by
  simp only [Region.lexB, Bool.and_eq_true] at hB
  refine wpIn_region_any hm (any_round r hro (noDefer_spec hd) _ _ _ _ (wpAnyIn_of_quiet (C := fun w' => ∃ n, w' = w.drewN n) (Q := fun a' => ∀ w', (∃ n, w' = w.drewN n) → Q .normal a' w') hro (fun _ w' hw' h => h w' hw') _ _ _ _ ⟨1, rfl⟩ ?_))
  have := wpAnyQIn_lex (F := F) (n := n) (C := fun w' => ∃ n, w' = w.drewN n) (md := .any) hB.1 l.toArray.toList 0 (Array.replicate l.toArray.size false) a (by simp) (by simpa using hB.2) (by simpa using h)
  simpa using this
end

/-! ### A region that draws its order and only reads, but for a last part in one order -/
def calmOp : Op → Bool
  | .move _ | .assign _ | .binOp .. | .load .. | .store .. | .indexAddr .. | .fieldAddr .. => true
  | .call c => match c.callee with
    | .builtin .max | .builtin .min | .builtin .len => true
    | _ => false
  | _ => false
theorem calm_defer {o : Oper} (h : calmOp o.op = true) : ∀ c, o.op ≠ .defer c := by
  intro c hc
  rw [hc] at h
  cases h
theorem calm_about {P : Program} {o : Oper} (h : calmOp o.op = true) (w : World) (ρ : Operand → Value) : o.about P w ρ = none := by
  unfold Oper.about
  split
  · rename_i c hc
    rw [hc] at h
    have hb : ∃ b, c.callee = .builtin b := by
      unfold calmOp at h
      dsimp only at h
      split at h
      · exact ⟨_, by assumption⟩
      · exact ⟨_, by assumption⟩
      · exact ⟨_, by assumption⟩
      · cases h
    obtain ⟨b, hb⟩ := hb
    simp [resolve, hb, Target.leads, Sem.run_pure]
  · rfl
theorem calm_enter {P : Program} {o : Oper} (h : calmOp o.op = true) (w w' : World) (ρ : Operand → Value) (f : FuncId) (args : Array Value) : (execOp ρ o).run P w ≠ .ok (.enter f args) w' := by
  have hv : ∀ s : Sem Value, ((do pure (.value (← s))) : Sem Next).run P w ≠ .ok (.enter f args) w' := by
    intro s
    rw [Sem.run_bind]
    cases s.run P w <;> simp [Result.andThen]
  have hu : ∀ s : Sem Unit, ((do s; pure .skip) : Sem Next).run P w ≠ .ok (.enter f args) w' := by
    intro s
    rw [Sem.run_bind]
    cases s.run P w <;> simp [Result.andThen]
  have hr : ∀ r : Result Value, (r.andThen fun a w' => Result.ok (Next.value a) w') ≠ .ok (.enter f args) w' := by intro r; cases r <;> simp [Result.andThen]
  cases ho : o.op <;> rw [ho] at h <;> first | (cases h; done) | skip
  case move x => unfold execOp; rw [ho]; simp
  case assign x => unfold execOp; rw [ho]; simp
  case binOp => unfold execOp; rw [ho]; exact hv _
  case load => unfold execOp; rw [ho]; exact hv _
  case store => unfold execOp; rw [ho]; exact hu _
  case indexAddr => unfold execOp; rw [ho]; exact hv _
  case fieldAddr => unfold execOp; rw [ho]; exact hv _
  case call c =>
    unfold execOp; rw [ho]
    unfold calmOp at h
    dsimp only at h
    split at h
    · rename_i hc; simp only [resolve, hc, Sem.run_bind, Sem.run_pure, Result.andThen_ok, invoke, builtin]; exact hr _
    · rename_i hc; simp only [resolve, hc, Sem.run_bind, Sem.run_pure, Result.andThen_ok, invoke, builtin]; exact hr _
    · rename_i hc; simp only [resolve, hc, Sem.run_bind, Sem.run_pure, Result.andThen_ok, invoke, builtin]; exact hr _
    · cases h
section
variable {F : Fence} {n : Nat} {P : Program} {ops : Array Oper} {md : Region.Mode} {w : World}
theorem operIn_of_still {o : Oper} {a : Act} {K : Act → Prop} {K' : Act → World → Prop} {Q' : Exit → Act → World → Prop} (hc : calmOp o.op = true) (h : ∀ a, K a → K' a w) (hh : o.still P a w K) : o.wpIn F n P a w K' Q' := by
  unfold Oper.wpIn
  refine ⟨(fun f hf => by rw [calm_about hc] at hf; cases hf), ?_⟩
  rw [Oper.semAt_eq _ _ _ (calm_defer hc)]
  have hne : ∀ w' f args, (execOp a.eval o).run P w ≠ .ok (.enter f args) w' := fun w' f args => calm_enter (P := P) hc w w' _ f args
  unfold Oper.still at hh
  generalize (execOp a.eval o).run P w = r at *
  cases r with
  | ok x w' =>
    cases x <;> simp only [Oper.stillUpon] at hh <;> simp only [Oper.uponIn]
    case value v => obtain ⟨e1, e2⟩ := hh; rw [e1]; exact h _ e2
    case skip => obtain ⟨e1, e2⟩ := hh; rw [e1]; exact h _ e2
    case enter f args => exact absurd rfl (hne w' f args)
  | halt x w' => simp only [Oper.stillUpon] at hh
theorem opIn_of_stOp {i : Nat} {a : Act} {K : Act → Prop} {K' : Act → World → Prop} {Q' : Exit → Act → World → Prop} (hc : ∀ (j : Nat) (o : Oper), ops[j]? = some o → calmOp o.op = true) (h : ∀ a, K a → K' a w) (hh : stOp P ops w i K a) : wpOpIn F n P ops Q' i K' a w := by
  unfold stOp at hh
  unfold wpOpIn
  cases ho : ops[i]? with
  | none => simp only [ho] at hh ⊢; exact h _ hh
  | some o =>
    simp only [ho] at hh ⊢
    split
    · rename_i hw; simp only [hw, if_true] at hh; exact operIn_of_still (hc i o ho) h hh
    · rename_i hw; simp only [hw] at hh; exact ⟨(fun f hf => by rw [calm_about (hc i o ho)] at hf; cases hf), h _ hh⟩
theorem anyIn_of_head {k g : Nat} {L : Array Bool → Act → Prop} {Q' : Exit → Act → World → Prop} (hc : ∀ (j : Nat) (o : Oper), ops[j]? = some o → calmOp o.op = true) (hL : ∀ listed a, L listed a → wpAnyIn F n P md ops Q' g listed a w) :
    ∀ (f : Nat) (listed : Array Bool) (a : Act), wpAnyL P md ops w k L f listed a → wpAnyIn F n P md ops Q' (f + g) listed a w
  | 0, listed, a, h => by rw [Nat.zero_add]; exact hL _ _ h
  | f + 1, listed, a, h => by
    rw [show f + 1 + g = (f + g) + 1 by omega]
    exact ⟨fun h0 => absurd h0 h.1, fun i hi => opIn_of_stOp hc (fun a' h' => anyIn_of_head hc hL f _ a' h') (h.2 i hi).2⟩
theorem anyIn_of_seq {Q' : Exit → Act → World → Prop} : ∀ (l : List Oper) (k : Nat) (listed : Array Bool) (a : Act) (w : World), (∀ j, l[j]? = ops[k + j]?) →
    Region.seqB md ops l.length k listed = true → wpListIn F n P ops Q' l a w → wpAnyIn F n P md ops Q' l.length listed a w
  | [], _, _, _, _, _, hB, h => ⟨by simpa [Region.seqB] using hB, h⟩
  | o :: l, k, listed, a, w, hl, hB, h => by
    have h0 : ops[k]? = some o := by simpa using (hl 0).symm
    simp only [List.length_cons, Region.seqB, Bool.and_eq_true, decide_eq_true_eq] at hB
    refine ⟨fun h1 => (by rw [hB.1] at h1; cases h1), fun i hi => ?_⟩
    rw [hB.1] at hi
    have hik : i = k := by simpa using hi
    subst hik
    have hw : wpOpIn F n P ops Q' i (wpListIn F n P ops Q' l) a w := by unfold wpOpIn; simp only [h0]; exact h
    exact wpOpIn_mono (fun a' w' h' => anyIn_of_seq l (i + 1) _ a' w' (fun j => by have := hl (j + 1); simpa [Nat.add_assoc, Nat.add_comm 1 j] using this) hB.2 h') hw
theorem still_of_quiet {F' : Fence} {m : Nat} {C : World → Prop} {o : Oper} {a : Act} {K : Act → Prop} (hc : calmOp o.op = true) (hC : C w) (h : o.quietIn F' m P a C K) : o.still P a w K := by
  obtain ⟨v, h1, h2⟩ := h
  have h3 := h1 w hC
  have hne : ∀ w' f args, (execOp a.eval o).run P w ≠ .ok (.enter f args) w' := fun w' f args => calm_enter (P := P) hc w w' _ f args
  unfold Oper.quietAtIn at h3
  unfold Oper.still
  generalize (execOp a.eval o).run P w = r at *
  cases r with
  | ok x w' =>
    cases x <;> simp only [Oper.quietUponIn] at h3 <;> simp only [Oper.stillUpon]
    case value u => exact ⟨h3.1, by rw [h3.2]; exact h2⟩
    case skip => exact ⟨h3.1, by rw [← h3.2]; exact h2⟩
    case enter f args => exact absurd rfl (hne w' f args)
  | halt x w' => simp only [Oper.quietUponIn] at h3
theorem wpStill_of_quiet {F' : Fence} {m : Nat} {C : World → Prop} {Q : Act → Prop} (hC : C w) : ∀ (l : List Oper) (a : Act), l.all (fun o => calmOp o.op) = true → wpQuietIn F' m P ops C Q l a → wpStill P ops w Q l a
  | [], _, _, h => h
  | o :: l, a, hc, h => by
    simp only [List.all_cons, Bool.and_eq_true] at hc
    obtain ⟨_, h⟩ := h
    unfold wpStill
    split
    · rename_i hw
      simp only [hw, if_true] at h
      exact Oper.still_mono (fun a h => wpStill_of_quiet hC l a hc.2 h) (still_of_quiet hc.1 hC h)
    · rename_i hw
      simp only [hw] at h
      exact wpStill_of_quiet hC l _ hc.2 h
theorem region_tail_in {id : Nat} {Q : Exit → Act → World → Prop} {a : Act} {l : List Oper} (k : Nat) (hm : P.follows .mixedOrders = true) (hcalm : l.all (fun o => calmOp o.op) = true) (hB : Region.lexTailB .any l.toArray k = true)
    {F' : Fence} {m : Nat} (h : wpQuietIn F' m P l.toArray (fun w' => ∃ n, w' = w.drewN n) (fun a' => wpListIn F n P l.toArray Q (l.drop k) a' (w.drewN 1)) (l.take k) a) : (Code.region id l.toArray true).wpIn F n P Q a w := by
  have hallt : (l.take k).all (fun o => calmOp o.op) = true := List.all_eq_true.2 fun o ho => List.all_eq_true.1 hcalm o (List.mem_of_mem_take ho)
  have h := wpStill_of_quiet (w := w.drewN 1) ⟨1, rfl⟩ _ _ hallt h
  simp only [Region.lexTailB, Bool.and_eq_true, decide_eq_true_eq] at hB
  obtain ⟨⟨⟨⟨hsel, hn⟩, hs⟩, hc⟩, hlex⟩ := hB
  have hn' : k < l.length := by simpa using hn
  have htl : (l.take k).length = k := by simp; omega
  have hdl : (l.drop k).length = l.toArray.size - k := by simp
  have hcc : ∀ (j : Nat) (o : Oper), l.toArray[j]? = some o → calmOp o.op = true := by
    intro j o ho
    have : o ∈ l := by rw [List.getElem?_toArray] at ho; exact List.mem_of_getElem? ho
    exact List.all_eq_true.1 hcalm o this
  have inv0 : HeadInv .any l.toArray k (Array.replicate l.toArray.size false) :=
    ⟨by simp, fun j oj _ hl => (by rw [getD_replicate_false] at hl; cases hl), fun t _ ht => getD_in (by simpa using ht) (getD_replicate_false _ _)⟩
  have H := wpAnyL_lex (md := .any) (g := l.toArray.size - k) hsel hs hc hn (l.take k) 0 _ a (fun j hj => by
    have hj' : j < k := by rw [htl] at hj; exact hj
    simp [hj']) (by simpa using htl) inv0 (by rw [htl]; exact hlex) h
  refine wpIn_region_any hm ?_
  have := anyIn_of_head (F := F) (n := n) (Q' := Q) (g := l.toArray.size - k) hcc (fun listed a' hL => by
    have := anyIn_of_seq (F := F) (n := n) (md := .any) (Q' := Q) (l.drop k) k listed a' (w.drewN 1) (fun j => by simp [List.getElem?_drop]) (by rw [hdl]; exact hL.1) hL.2
    rwa [hdl] at this) _ _ _ H
  rw [htl, show k + (l.toArray.size - k) = l.toArray.size by omega] at this
  exact this
end

section
variable {P : Program} {ops : Array Oper} {w : World}
theorem still_of_quietP {C : World → Prop} {o : Oper} {a : Act} {K : Act → Prop} (hc : calmOp o.op = true) (hC : C w) (h : o.quiet P a C K) : o.still P a w K := by
  obtain ⟨v, h1, h2⟩ := h
  have h3 := h1 w hC
  have hne : ∀ w' f args, (execOp a.eval o).run P w ≠ .ok (.enter f args) w' := fun w' f args => calm_enter (P := P) hc w w' _ f args
  unfold Oper.quietAt at h3
  unfold Oper.still
  generalize (execOp a.eval o).run P w = r at *
  cases r with
  | ok x w' =>
    cases x <;> simp only [Oper.quietUpon] at h3 <;> simp only [Oper.stillUpon]
    case value u => exact ⟨h3.1, by rw [h3.2]; exact h2⟩
    case skip => exact ⟨h3.1, by rw [← h3.2]; exact h2⟩
    case enter f args => exact absurd rfl (hne w' f args)
  | halt x w' => simp only [Oper.quietUpon] at h3
theorem wpStill_of_quietP {C : World → Prop} {Q : Act → Prop} (hC : C w) : ∀ (l : List Oper) (a : Act), l.all (fun o => calmOp o.op) = true → wpQuiet P ops C Q l a → wpStill P ops w Q l a
  | [], _, _, h => h
  | o :: l, a, hc, h => by
    simp only [List.all_cons, Bool.and_eq_true] at hc
    unfold wpQuiet at h
    unfold wpStill
    split
    · rename_i hw
      simp only [hw, if_true] at h
      exact Oper.still_mono (fun a h => wpStill_of_quietP hC l a hc.2 h) (still_of_quietP hc.1 hC h)
    · rename_i hw
      simp only [hw] at h
      exact wpStill_of_quietP hC l _ hc.2 h
theorem region_tail {id : Nat} {Q : Exit → Act → World → Prop} {a : Act} {l : List Oper} (k : Nat) (hm : P.follows .mixedOrders = true) (hcalm : (l.take k).all (fun o => calmOp o.op) = true) (hB : Region.lexTailB .any l.toArray k = true)
    (h : wpQuiet P l.toArray (fun w' => ∃ n, w' = w.drewN n) (fun a' => wpList P l.toArray Q (l.drop k) a' (w.drewN 1)) (l.take k) a) : (Code.region id l.toArray true).wp P Q a w :=
  wp_region_still_tail k hm hB (wpStill_of_quietP (w := w.drewN 1) ⟨1, rfl⟩ _ _ hcalm h)
end
section
variable {α : Type} {k : Nat} {enc : α → List Value}
variable {P : Program} {ops : Array Oper} {o : Oper} {a : Act} {K : Act → World → Prop} {Q : Exit → Act → World → Prop} {E : Prop}
/-- One element more, within a region that draws. -/
theorem step_append_at {w0 : World} {e : TypeId} {cs : Array Value} {x : α} {N : Nat} (hN : w0.heap.size = N) (hgd : o.guard = none) (s y : Operand) (t : TypeId)
    (ho : o.op = .call { callee := .builtin .append, args := #[s, y], argTypes := #[t, t] })
    (base : Nat) (i : TypeInfo) (z : Value) (by_ : Nat) (ht : P.underlying t = some (.slice e)) (hi : P.info? e = some i) (hz : i.zero = some z) (hsize : i.size = k) (hby : i.bytes = by_) (hb64 : by_ ≤ 64) (hzs : z.cells.size = k) (hk0 : 0 < k)
    (hk : ∀ x : α, (enc x).length = k) (h1c : ∀ x : α, ∀ u ∈ enc x, u.oneCell' = true)
    (v : Value) (l : List α) (hcs : cs.toList = enc x) (hs : a.eval s = v) (hown : Own1 k enc w0 base e v l) (hx : a.eval y = .slice (some ⟨N, 0, none⟩) 1 1)
    (hl : l.length ≤ 1000000000) (hbase : base ≤ N)
    (h : ∀ v' w', Own1 k enc w' base e v' (l ++ [x]) ∧ Below base w0 w' → K (a.put o.dst v') w') : if Region.wanted o (yielded ops a.tmps) = true then Oper.wp P o a (w0.alloc (.cells cs e)) K Q else E := by
  have hw : Region.wanted o (yielded ops a.tmps) = true := by simp [Region.wanted, hgd]
  rw [if_pos hw]
  subst hN
  refine wp_append_own _ s y t ho base e i z k by_ ht hi hz hsize hby hzs hk0 v l.length (l.flatMap enc) hs (World.ownsRow.alloc hown _) ⟨w0.heap.size, 0, none⟩ 1 1 cs.toList hx (by rw [hcs, hk, Nat.one_mul]) (cells_new _ _ _) (fun u hu => h1c x u (by rw [← hcs]; exact hu)) (by unfold maxLen; omega) (Nat.le_trans (Nat.mul_le_mul_left _ hb64) (by omega)) (by simp; omega) ?_
  intro v' w' h2 h3 _
  refine h v' w' ⟨?_, (((Below.refl base w0).alloc hbase _).grown h3 (by simp; omega) (fun j e => (World.ownsRow.lt hown j e).1))⟩
  unfold Own1
  rw [List.flatMap_append, List.length_append, List.flatMap_cons, List.flatMap_nil, List.append_nil, ← hcs]
  exact h2
end

section
variable {α : Type} {k : Nat} {enc : α → List Value}
theorem flat_inv (hk : ∀ x : α, (enc x).length = k) : ∀ (l : List α) (j : Nat) (u : Value), (l.flatMap enc)[j]? = some u → ∃ i x jj, l[i]? = some x ∧ (enc x)[jj]? = some u ∧ j = i * k + jj
  | [], j, u, h => by simp at h
  | y :: l, j, u, h => by
    rw [List.flatMap_cons] at h
    rcases Nat.lt_or_ge j (enc y).length with hj | hj
    · rw [List.getElem?_append_left hj] at h
      exact ⟨0, y, j, rfl, h, by simp⟩
    · rw [List.getElem?_append_right hj, hk] at h
      obtain ⟨i, x, jj, h1, h2, h3⟩ := flat_inv hk l _ u h
      exact ⟨i + 1, x, jj, by simpa using h1, h2, by rw [hk] at hj; rw [Nat.add_mul]; omega⟩
variable {P : Program} {ops : Array Oper} {rest : List Oper} {o : Oper} {a : Act} {Q : Exit → Act → World → Prop}
/-- A list more. -/
theorem wpList_append_rd {w : World} {e : TypeId} (hgd : o.guard = none) (s y : Operand) (t : TypeId)
    (ho : o.op = .call { callee := .builtin .append, args := #[s, y], argTypes := #[t, t] })
    (base : Nat) (i : TypeInfo) (z : Value) (by_ : Nat) (ht : P.underlying t = some (.slice e)) (hi : P.info? e = some i) (hz : i.zero = some z) (hsize : i.size = k) (hby : i.bytes = by_) (hb64 : by_ ≤ 64) (hzs : z.cells.size = k) (hk0 : 0 < k)
    (hk : ∀ x : α, (enc x).length = k) (h1c : ∀ x : α, ∀ u ∈ enc x, u.oneCell' = true)
    (v : Value) (l r : List α) (u : Value) (hs : a.eval s = v) (hown : Own1 k enc w base e v l) (hx : a.eval y = u) (hu : Rd k enc w u r)
    (hl : l.length + r.length ≤ 1000000000) (hbase : base ≤ w.heap.size)
    (h : ∀ v' w', Own1 k enc w' base e v' (l ++ r) → Below base w w' → wpList P ops Q rest (a.put o.dst v') w') : wpList P ops Q (o :: rest) a w := by
  obtain ⟨⟨ad, c, rfl, hc1, hc2, hc⟩, hn⟩ := hu
  rcases ad with _ | ad
  · have hr : r = [] := by
      rcases Classical.em (r = []) with h0 | h0
      · exact h0
      · obtain ⟨b, off, hb, _⟩ := hc h0
        cases hb
    subst hr
    have hc0 := hn _ _ rfl
    subst hc0
    refine wpList_append_own_none hgd s y t ho base e i k ht hi v l.length (l.flatMap enc) hs hown hx ?_
    exact h v w (by simpa using hown) (Below.refl _ _)
  · refine wpList_append_own w hgd s y t ho base e i z k by_ ht hi hz hsize hby hzs hk0 v l.length (l.flatMap enc) hs hown ad r.length c (r.flatMap enc) hx (flat_len hk r) ?_ ?_ (by unfold maxLen; omega) (Nat.le_trans (Nat.mul_le_mul_left _ hb64) (by omega)) hbase ?_
    · intro j u hj
      obtain ⟨i', x, jj, h1, h2, h3⟩ := flat_inv hk r j u hj
      obtain ⟨b, off, hb, _, hcc⟩ := hc (fun e => by rw [e] at h1; simp at h1)
      cases hb
      rw [add_off, h3, ← Nat.add_assoc]
      exact hcc i' x h1 jj u h2
    · intro u hu
      obtain ⟨x, _, hx⟩ := List.mem_flatMap.1 hu
      exact h1c x u hx
    · intro v' w' h2 h3 _
      refine h v' w' ?_ ((Below.refl base w).grown h3 hbase (fun j e => (World.ownsRow.lt hown j e).1))
      unfold Own1
      rw [List.flatMap_append, List.length_append]
      exact h2
end

section
variable {α : Type} {k : Nat} {enc : α → List Value}
variable {P : Program} {ops : Array Oper} {o : Oper} {a : Act} {K : Act → World → Prop} {Q : Exit → Act → World → Prop} {E : Prop}
/-- A list more, within a region that draws. -/
theorem step_append_rd {w : World} {e : TypeId} (hgd : o.guard = none) (s y : Operand) (t : TypeId)
    (ho : o.op = .call { callee := .builtin .append, args := #[s, y], argTypes := #[t, t] })
    (base : Nat) (i : TypeInfo) (z : Value) (by_ : Nat) (ht : P.underlying t = some (.slice e)) (hi : P.info? e = some i) (hz : i.zero = some z) (hsize : i.size = k) (hby : i.bytes = by_) (hb64 : by_ ≤ 64) (hzs : z.cells.size = k) (hk0 : 0 < k)
    (hk : ∀ x : α, (enc x).length = k) (h1c : ∀ x : α, ∀ u ∈ enc x, u.oneCell' = true)
    (v : Value) (l r : List α) (u : Value) (hs : a.eval s = v) (hown : Own1 k enc w base e v l) (hx : a.eval y = u) (hu : Rd k enc w u r)
    (hl : l.length + r.length ≤ 1000000000) (hbase : base ≤ w.heap.size)
    (h : ∀ v' w', Own1 k enc w' base e v' (l ++ r) ∧ Below base w w' → K (a.put o.dst v') w') : if Region.wanted o (yielded ops a.tmps) = true then Oper.wp P o a w K Q else E := by
  have hw : Region.wanted o (yielded ops a.tmps) = true := by simp [Region.wanted, hgd]
  rw [if_pos hw]
  obtain ⟨⟨ad, c, rfl, hc1, hc2, hc⟩, hn⟩ := hu
  rcases ad with _ | ad
  · have hr : r = [] := by
      rcases Classical.em (r = []) with h0 | h0
      · exact h0
      · obtain ⟨b, off, hb, _⟩ := hc h0
        cases hb
    subst hr
    have hc0 := hn _ _ rfl
    subst hc0
    have hrun := run_append_owned_none (P := P) (w := w) base t o.type e i k ht hi v l.length (l.flatMap enc) hown
    have hx' : a.eval y = .slice none 0 0 := hx
    unfold Oper.wp
    simp [execOp, ho, resolve, invoke, builtin, hs, hx', hrun, Result.andThen]
    exact h v w ⟨by simpa using hown, Below.refl _ _⟩
  · refine wp_append_own w s y t ho base e i z k by_ ht hi hz hsize hby hzs hk0 v l.length (l.flatMap enc) hs hown ad r.length c (r.flatMap enc) hx (flat_len hk r) ?_ ?_ (by unfold maxLen; omega) (Nat.le_trans (Nat.mul_le_mul_left _ hb64) (by omega)) hbase ?_
    · intro j u hj
      obtain ⟨i', x, jj, h1, h2, h3⟩ := flat_inv hk r j u hj
      obtain ⟨b, off, hb, _, hcc⟩ := hc (fun e => by rw [e] at h1; simp at h1)
      cases hb
      rw [add_off, h3, ← Nat.add_assoc]
      exact hcc i' x h1 jj u h2
    · intro u hu
      obtain ⟨x, _, hx⟩ := List.mem_flatMap.1 hu
      exact h1c x u hx
    · intro v' w' h2 h3 _
      refine h v' w' ⟨?_, (Below.refl base w).grown h3 hbase (fun j e => (World.ownsRow.lt hown j e).1)⟩
      unfold Own1
      rw [List.flatMap_append, List.length_append]
      exact h2
end
theorem own_empty (w : World) (base : Nat) (hb : base ≤ w.heap.size) : Own1 1 encT (w.alloc (.cells #[] 9)) base 9 (.slice (some ⟨w.heap.size, 0, none⟩) 0 0) [] := World.ownsRow_made w #[] 0 hb (by decide) rfl

theorem Rd.belowAt {α : Type} {k : Nat} {enc : α → List Value} {n : Nat} {w w' : World} {v : Value} {l : List α} (h : Rd k enc w v l) (hb : Below n w w') (hne : ∀ b, v.ownBlock = some b → b < n) : Rd k enc w' v l :=
  h.bt (C := n) (Bt.of_below hb) (fun b e => ⟨hne b e, by have := hne b e; omega⟩)

theorem own_but {α : Type} {k : Nat} {enc : α → List Value} {C : Nat} {w w' : World} {base : Nat} {e : TypeId} {v : Value} {l : List α} (h : Own1 k enc w base e v l) (hb : But C w w') (hC : C < base) : Own1 k enc w' base e v l := by
  refine ⟨h.1, ?_⟩
  rcases h.2 with h0 | ⟨g, cap, cur, hv, hB, hg, hr⟩
  · exact .inl h0
  · exact .inr ⟨g, cap, cur, hv, hB, (hb.block g (Array.getElem?_eq_some_iff.1 hg).1 (by omega)).trans hg, hr⟩
theorem Own1.lt_ {α : Type} {k : Nat} {enc : α → List Value} {w : World} {base : Nat} {e : TypeId} {v : Value} {l : List α} (h : Own1 k enc w base e v l) : ∀ b, v.ownBlock = some b → base ≤ b ∧ b < w.heap.size := World.ownsRow.lt h

theorem But.then_ {g : Nat} {w W W' : World} (h : But g w W) (b : Below w.heap.size W W') : But g w W' :=
  ⟨b.os.trans h.os, b.tape.trans h.tape, b.output.trans h.output, Nat.le_trans h.size b.size, fun k hk hg => (b.block k hk).trans (h.block k hk hg)⟩
theorem blk_kept {B B0 : Nat} {t : TypeId} {cs : Array Value} {W W' : World} {row : Option Nat} (h : Blk B t cs W) (hg : W.grownBy W' row) (hr : ∀ r, row = some r → B0 ≤ r ∧ ∃ o, W.heap[r]? = some o ∧ o.isCells = false) : Blk B t cs W' := by
  refine (hg.block B h.lt (fun e => ?_)).trans h
  obtain ⟨_, o, ho, hc⟩ := hr B e.symm
  rw [show W.heap[B]? = _ from h] at ho
  cases ho
  cases hc

theorem bt_kept {n C B0 : Nat} {W0 W W' : World} {row : Option Nat} (g : Bt n C W0 W) (hn : n ≤ W.heap.size) (hn0 : n ≤ B0) (hg : W.grownBy W' row) (hr : ∀ r, row = some r → B0 ≤ r ∧ ∃ o, W.heap[r]? = some o ∧ o.isCells = false) : Bt n C W0 W' := by
  refine g.trans (Bt.of_below ((Below.refl n W).grown hg hn (fun k e => ?_)))
  have := (hr k e).1
  omega

/-! ### A region that draws its order, slices, and ends in one order -/
def calm2 : Op → Bool
  | .slice .. => true
  | x => calmOp x
theorem calm2_enter {P : Program} {o : Oper} (h : calm2 o.op = true) (w w' : World) (ρ : Operand → Value) (f : FuncId) (args : Array Value) : (execOp ρ o).run P w ≠ .ok (.enter f args) w' := by
  rcases Classical.em (calmOp o.op = true) with h2 | h2
  · exact calm_enter h2 w w' ρ f args
  · cases ho : o.op <;> rw [ho] at h h2 <;> first | exact absurd h h2 | skip
    case slice =>
      unfold execOp; rw [ho]
      dsimp only
      rw [Sem.run_bind]
      generalize (Instr.sliceAt _ _ _ _ _).run P w = r
      cases r <;> simp [Result.andThen]
section
variable {P : Program} {ops : Array Oper} {w : World}
theorem still_of_quiet2 {C : World → Prop} {o : Oper} {a : Act} {K : Act → Prop} (hc : calm2 o.op = true) (hC : C w) (h : o.quiet P a C K) : o.still P a w K := by
  obtain ⟨v, h1, h2⟩ := h
  have h3 := h1 w hC
  have hne : ∀ w' f args, (execOp a.eval o).run P w ≠ .ok (.enter f args) w' := fun w' f args => calm2_enter (P := P) hc w w' _ f args
  unfold Oper.quietAt at h3
  unfold Oper.still
  generalize (execOp a.eval o).run P w = r at *
  cases r with
  | ok x w' =>
    cases x <;> simp only [Oper.quietUpon] at h3 <;> simp only [Oper.stillUpon]
    case value u => exact ⟨h3.1, by rw [h3.2]; exact h2⟩
    case skip => exact ⟨h3.1, by rw [← h3.2]; exact h2⟩
    case enter f args => exact absurd rfl (hne w' f args)
  | halt x w' => simp only [Oper.quietUpon] at h3
theorem wpStill_of_quiet2 {C : World → Prop} {Q : Act → Prop} (hC : C w) : ∀ (l : List Oper) (a : Act), l.all (fun o => calm2 o.op) = true → wpQuiet P ops C Q l a → wpStill P ops w Q l a
  | [], _, _, h => h
  | o :: l, a, hc, h => by
    simp only [List.all_cons, Bool.and_eq_true] at hc
    unfold wpQuiet at h
    unfold wpStill
    split
    · rename_i hw
      simp only [hw, if_true] at h
      exact Oper.still_mono (fun a h => wpStill_of_quiet2 hC l a hc.2 h) (still_of_quiet2 hc.1 hC h)
    · rename_i hw
      simp only [hw] at h
      exact wpStill_of_quiet2 hC l _ hc.2 h
theorem region_tail2 {id : Nat} {Q : Exit → Act → World → Prop} {a : Act} {l : List Oper} (k : Nat) (hm : P.follows .mixedOrders = true) (hcalm : (l.take k).all (fun o => calm2 o.op) = true) (hB : Region.lexTailB .any l.toArray k = true)
    (h : wpQuiet P l.toArray (fun w' => ∃ n, w' = w.drewN n) (fun a' => wpList P l.toArray Q (l.drop k) a' (w.drewN 1)) (l.take k) a) : (Code.region id l.toArray true).wp P Q a w :=
  wp_region_still_tail k hm hB (wpStill_of_quiet2 (w := w.drewN 1) ⟨1, rfl⟩ _ _ hcalm h)
end

theorem cutV_block {a : Option Addr} {m n c k b : Nat} (n' c' : Nat) (h : (cutV a m n c k).ownBlock = some b) : (Value.slice a n' c').ownBlock = some b := by
  cases a with
  | none => unfold cutV at h; split at h <;> simp [Value.ownBlock] at h
  | some x =>
    unfold cutV at h
    split at h
    · simpa [Value.ownBlock] using h
    · obtain ⟨x1, x2, x3⟩ := x
      unfold Addr.add at h
      simp [Value.ownBlock] at h ⊢
      split at h <;> simpa using h
/-- A list from one of its places up to another. -/
theorem Rd.mid_ {P : Program} {α : Type} {k : Nat} {enc : α → List Value} {T e : TypeId} {i : TypeInfo} (hT : P.underlying T = some (.slice e)) (he : P.info? e = some i) (hi : i.size = k) {w : World} {a : Option Addr} {n c : Nat} {l : List α} (h : Rd k enc w (.slice a n c) l) (lo up : Nat) (h1 : lo ≤ up) (h2 : up ≤ l.length) :
    ∃ a2 c2, Rd k enc w (.slice a2 (up - lo) c2) ((l.take up).drop lo) ∧ (∀ b, (Value.slice a2 (up - lo) c2).ownBlock = some b → (Value.slice a n c).ownBlock = some b) ∧ (∀ wx, (Instr.slice T (.slice a n c) (some (.int .i64 (lo : Int))) (some (.int .i64 (up : Int))) none).run P wx = .ok (.slice a2 (up - lo) c2) wx) ∧ (∀ wx, (Instr.sliceAt T (.slice a n c) (some (.int .i64 (lo : Int))) (some (.int .i64 (up : Int))) none).run P wx = .ok (.slice a2 (up - lo) c2) wx) := by
  have ht := h.take up h2
  have hlen : (l.take up).length = up := by rw [List.length_take]; omega
  have hc := ht.cut lo (by omega)
  obtain ⟨a', c', hv, hlc, hc63⟩ := h.slice
  injection hv with e1 e2 e3
  subst e1 e3
  have hE : P.elem T = e := by unfold Program.elem; rw [hT]
  have hs : ∀ wx, (Instr.slice T (.slice a n c) (some (.int .i64 (lo : Int))) (some (.int .i64 (up : Int))) none).run P wx = .ok (cutV a lo up c k) wx := fun wx => by
    rw [run_slice_lh (P := P) (w := wx) (t := T) (a := a) (len := n) (cap := c) (by rw [hT, hE]) .i64 .i64 (lo : Int) (up : Int) (by omega) (by omega) (by omega)]
    rw [hE]
    simp [sizeOf, typeInfo, he, hi, Result.andThen, cutV, sliced]
  obtain ⟨a2, c2, hv2, _⟩ := hc.slice
  have hl2 : ((l.take up).drop lo).length = up - lo := by rw [List.length_drop, hlen]
  rw [hl2] at hv2
  rw [hv2] at hc
  refine ⟨a2, c2, hc, fun b hb => cutV_block (k := k) (m := lo) (n := up) n c (by rw [hv2]; exact hb), fun wx => by rw [hs, hv2], fun wx => ?_⟩
  rw [run_sliceAt_slice (P := P) (w := wx) T _ _ _ _ (by rw [hT, hE]), hs, hv2]
theorem Rd.tail_ {P : Program} {α : Type} {k : Nat} {enc : α → List Value} {T e : TypeId} {i : TypeInfo} (hT : P.underlying T = some (.slice e)) (he : P.info? e = some i) (hi : i.size = k) {w : World} {a : Option Addr} {n c : Nat} {l : List α} (h : Rd k enc w (.slice a n c) l) (lo : Nat) (h1 : lo ≤ l.length) :
    ∃ a2 c2, Rd k enc w (.slice a2 (l.length - lo) c2) (l.drop lo) ∧ (∀ b, (Value.slice a2 (l.length - lo) c2).ownBlock = some b → (Value.slice a n c).ownBlock = some b) ∧ (∀ wx, (Instr.slice T (.slice a n c) (some (.int .i64 (lo : Int))) none none).run P wx = .ok (.slice a2 (l.length - lo) c2) wx) ∧ (∀ wx, (Instr.sliceAt T (.slice a n c) (some (.int .i64 (lo : Int))) none none).run P wx = .ok (.slice a2 (l.length - lo) c2) wx) := by
  have hn := h.len
  have hc := h.cut lo h1
  obtain ⟨a2, c2, hv2, _⟩ := hc.slice
  rw [List.length_drop] at hv2
  rw [hv2] at hc
  exact ⟨a2, c2, hc, fun b hb => cutV_block (k := k) (m := lo) (n := n) n c (by rw [hv2]; exact hb), fun wx => by rw [(cut_run hT he hi a n c lo (by omega) wx).1, hv2], fun wx => by rw [(cut_run hT he hi a n c lo (by omega) wx).2, hv2]⟩

theorem rd3 (w : World) (x y z : List UInt8) : Rd 1 encT (w.alloc (.cells #[.string (ofL x), .string (ofL y), .string (ofL z)] 9)) (.slice (some ⟨w.heap.size, 0, none⟩) 3 3) [x, y, z] := by
  have k := Blk.new w 9 #[.string (ofL x), .string (ofL y), .string (ofL z)]
  refine ⟨⟨_, 3, rfl, Nat.le_refl _, by omega, fun _ => ⟨w.heap.size, 0, rfl, k.lt, fun i u hi j v hv => ?_⟩⟩, fun n c hc => by cases hc⟩
  have hj : j = 0 := by have := (List.getElem?_eq_some_iff.1 hv).1; simp [encT] at this; exact this
  subst hj
  simp [encT] at hv
  subst hv
  rw [k.cell]
  have hi3 := (List.getElem?_eq_some_iff.1 hi).1
  simp at hi3
  obtain rfl | rfl | rfl : i = 0 ∨ i = 1 ∨ i = 2 := by omega
  · simp at hi; subst hi; rfl
  · simp at hi; subst hi; rfl
  · simp at hi; subst hi; rfl

/-- What is known of a list of strings that came in. -/
def IsStrs (w : World) (a : Option Addr) (len cap : Nat) (zs : List Str) : Prop := zs.length = len ∧ Rd 1 encT w (.slice a len cap) zs
theorem isStrs_nil (w : World) : IsStrs w none 0 0 [] := ⟨rfl, rd_nil w⟩
theorem isStrs_of {w : World} {x : Addr} {len cap m : Nat} {Sx : Nat → ByteArray} (hl : len ≤ cap) (hm : cap ≤ maxLen) (hmm : len ≤ m) (hx : ∀ i, i < m → w.cell? (x.add i) = some (.string (Sx i)) ∧ (Sx i).size ≤ maxLen) : ∃ zs, IsStrs w (some x) len cap zs := by
  have hM : maxLen = 9223372036854775807 := by decide
  have hlen : ((List.range len).map fun i => (Sx i).data.toList).length = len := by simp
  refine ⟨(List.range len).map fun i => (Sx i).data.toList, hlen, ⟨⟨some x, cap, by rw [hlen], by omega, by omega, fun hne => ?_⟩, fun n c hc => by cases hc⟩⟩
  have hpos : 0 < len := by rw [← hlen]; exact List.length_pos_iff.2 hne
  obtain ⟨b, off, sp⟩ := x
  have hspot : sp = none := by simpa [Addr.add] using World.cell?_spot (hx 0 (by omega)).1
  subst hspot
  have hc : ∀ i, i < len → w.cell? ⟨b, off + i, none⟩ = some (.string (Sx i)) := fun i hi => by rw [← add_off]; exact (hx i (by omega)).1
  refine ⟨b, off, rfl, World.block_lt_of_cell? w _ (hc 0 hpos), fun i u hi j v hv => ?_⟩
  have hil := (List.getElem?_eq_some_iff.1 hi).1
  rw [hlen] at hil
  have hj : j = 0 := by have := (List.getElem?_eq_some_iff.1 hv).1; simp [encT] at this; exact this
  subst hj
  simp [encT] at hv
  subst hv
  rw [Nat.mul_one, Nat.add_zero, hc i hil]
  simp [List.getElem?_range hil] at hi
  rw [← hi, of_data]

/-! ### Bytes -/
def encB (c : UInt8) : List Value := [.int .u8 (c.toNat : Int)]
theorem encB_len (x : UInt8) : (encB x).length = 1 := rfl
theorem encB_one (x : UInt8) : ∀ u ∈ encB x, u.oneCell' = true := by intro u hu; simp [encB] at hu; subst hu; rfl
theorem Tryd.infoB : (Tryd.prog.info? 5).map (fun i => (i.zero, i.size, i.bytes)) = some (some (.int .u8 0), 1, 1) := by kernel_rfl
abbrev RdB (w : World) (v : Value) (l : List UInt8) : Prop := Rd 1 encB w v l
abbrev OwnB (w : World) (base : Nat) (v : Value) (l : List UInt8) : Prop := Own1 1 encB w base 5 v l
theorem Rd.byte {w : World} {a : Option Addr} {n c : Nat} {l : List UInt8} (h : Rd 1 encB w (.slice a n c) l) (i : Nat) (hi : i < l.length) : ∃ b off, a = some ⟨b, off, none⟩ ∧ w.cell? ⟨b, off + i, none⟩ = some (.int .u8 ((l[i]).toNat : Int)) := by
  obtain ⟨b, off, ha, _, hx⟩ := h.some_ i hi
  refine ⟨b, off, ha, ?_⟩
  have := hx 0 _ rfl
  simpa using this
/-- Bytes turned into a string. -/
theorem conv_rd {P : Program} {S D e : TypeId} (hs : P.underlying S = some (.slice e)) (he : P.underlying e = some (.int .u8)) (hd : P.underlying D = some .string)
    {w : World} {v : Value} {l : List UInt8} (h : Rd 1 encB w v l) : (convert S D v).run P w = .ok (.string (ofL l)) w := by
  obtain ⟨⟨a, c, rfl, h1, h2, hx⟩, hn⟩ := h
  rcases Classical.em (l = []) with h0 | h0
  · subst h0
    rcases a with _ | a
    · exact run_convert_bytes_nil w S e hs he 0 _ D hd
    · exact run_convert_bytes_back w S D e a c [] hs he hd (fun j hj => absurd hj (by simp))
  · obtain ⟨b, off, rfl, hb, hc⟩ := hx h0
    refine run_convert_bytes_back w S D e _ c l hs he hd (fun j hj => ?_)
    have := hc j _ (List.getElem?_eq_getElem hj) 0 _ rfl
    rw [add_off]
    simpa using this
/-- A string turned into bytes: the value, the world. -/
def nbV (w : World) (e : TypeId) (s : ByteArray) : Value := .slice (some ⟨w.heap.size, 0, none⟩) s.size (grownCap w s.size 0 e)
def nbW (w : World) (e : TypeId) (s : ByteArray) : World := w.drew.alloc (.cells (bytesRow s (grownCap w s.size 0 e)) e ((bytesRow s (grownCap w s.size 0 e)).size, (bytesRow s (grownCap w s.size 0 e)).size + 1))
theorem conv_nb {P : Program} {S D e : TypeId} (hs : P.underlying S = some .string) (hd : P.underlying D = some (.slice e)) (he : P.underlying e = some (.int .u8)) (s : ByteArray) (w : World) :
    (convert S D (.string s)).run P w = .ok (nbV w e s) (nbW w e s) := run_bytes_of_string w S D e s hs hd he
theorem nb_below (w : World) (e : TypeId) (s : ByteArray) : Below w.heap.size w (nbW w e s) := (Below.refl _ w).drew.alloc (Nat.le_refl _) _
theorem nb_rd (w : World) (e : TypeId) (s : ByteArray) (hs : s.size ≤ 1000000) : Rd 1 encB (nbW w e s) (nbV w e s) s.data.toList := by
  have hl : s.data.toList.length = s.size := Array.length_toList
  have h1 := grownCap_ge w s.size 0 e
  have h2 := grownCap_le_maxLen w s.size 0 e (by (have hm : maxLen = 9223372036854775807 := by decide); omega)
  have hm : maxLen = 9223372036854775807 := by decide
  refine ⟨⟨some ⟨w.heap.size, 0, none⟩, grownCap w s.size 0 e, by rw [hl]; rfl, by omega, by omega, fun _ => ⟨w.heap.size, 0, rfl, by simp [nbW], fun i x hi j u hu => ?_⟩⟩, fun n c hc => by unfold nbV at hc; injection hc with q1 _ _; cases q1⟩
  have hj : j = 0 := by have := (List.getElem?_eq_some_iff.1 hu).1; simp [encB] at this; exact this
  subst hj
  simp [encB] at hu
  subst hu
  obtain ⟨hil, hx⟩ := List.getElem?_eq_some_iff.1 hi
  have hil2 : i < s.data.size := by rw [← Array.length_toList]; exact hil
  have hb := bytesRow_at s (grownCap w s.size 0 e) i hil2
  have hw : (nbW w e s).heap[w.heap.size]? = some (.cells (bytesRow s (grownCap w s.size 0 e)) e ((bytesRow s (grownCap w s.size 0 e)).size, (bytesRow s (grownCap w s.size 0 e)).size + 1)) := heap_alloc_new w.drew _
  simp only [World.cell?, hw, Nat.zero_add, Nat.mul_one, Nat.add_zero]
  rw [← hx]
  simpa using hb
end Go.Proofs.YteofkofgdhmpjaaDoor
