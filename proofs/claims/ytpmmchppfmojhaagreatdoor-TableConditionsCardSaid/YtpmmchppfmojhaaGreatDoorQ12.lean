/- What the row stands on, part 12. -/
import Derived.OpenShut
import Derived.RegionTactic
import Derived.ChangeAlike
import Derived.Test.YtpmmchppfmojhaaGreatDoorChecked
import Derived.Laws.OwnMore
import Derived.Laws.AppendOwnNone
import Derived.RangeFuncNested
import Derived.RangeFuncBound
import Derived.RangeFuncCalls
import Derived.RangeFuncLeaves
import Derived.RangeFuncBox
import Derived.Shelf.Abstract
import Derived.Shelf.RegionOpen
import Derived.OwnWalkIn
import Derived.TacticsInMore
import Derived.LoopNIn
import Derived.LoopIn
import Derived.Sort.QuietIn
import Derived.StillTailTactics
import Derived.Laws.IdiomCopy
import Derived.IntWalk
import Derived.Deep.RegionLaw
import Derived.Deep.CutRange
import Derived.WideShapes
import Derived.Laws.StructEq
import Derived.Deep.Strs
import Derived.ChangeSame
import Derived.Laws.IdiomStrings
import Derived.Test.YtpmmchppfmojhaaGreatDoorQ11

/- THE BASE: values that read as lists of whatever is laid in a fixed number of cells; what the call owns of them; blocks known whole; worlds in which one block alone may have turned; appends; slicing; regions that draw their order. -/

namespace Go.Proofs.YtpmmchppfmojhaaGreatDoor
open Go.RowKit Go.Shelf
set_option linter.unusedVariables false
attribute [local go_sem] Oper.semAt_some

def ofL (x : List UInt8) : ByteArray := ⟨x.toArray⟩
theorem ofL_list (x : List UInt8) : (ofL x).data.toList = x := rfl
theorem ofL_size (x : List UInt8) : (ofL x).size = x.length := by show x.toArray.size = _; simp
theorem of_data (B : ByteArray) : ofL B.data.toList = B := by cases B; simp [ofL]
theorem str_ne {x y : List UInt8} (h : x ≠ y) : ((ofL x).toList == (ofL y).toList) = false ∧ ((ofL x).toList != (ofL y).toList) = true := by
  have h1 : (ofL x).toList ≠ (ofL y).toList := by rw [ByteArray.toList_eq, ByteArray.toList_eq]; exact h
  exact ⟨by rw [beq_eq_false_iff_ne]; exact h1, by rw [bne_iff_ne]; exact h1⟩
theorem add_off (g o k : Nat) : (⟨g, o, none⟩ : Addr).add k = ⟨g, o + k, none⟩ := by unfold Addr.add; split <;> simp_all
theorem st {b : Nat} {w w1 w2 : World} (h : Below b w w1) (h2 : Below w1.heap.size w1 w2) (hs : b ≤ w1.heap.size) : Below b w w2 := h.trans (h2.mono hs)
def encT (x : List UInt8) : List Value := [.string (ofL x)]
def encP (p : Int × Int) : List Value := [.int .i64 p.1, .int .i64 p.2]
section
variable {α : Type}
/-- A value that reads as a list: each element in k cells. -/
structure Rd (k : Nat) (enc : α → List Value) (w : World) (v : Value) (l : List α) : Prop where
  form : ∃ a c, v = .slice a l.length c ∧ l.length ≤ c ∧ c ≤ 9223372036854775807 ∧ (l ≠ [] → ∃ b off, a = some ⟨b, off, none⟩ ∧ b < w.heap.size ∧ ∀ i x, l[i]? = some x → ∀ j u, (enc x)[j]? = some u → w.cell? ⟨b, off + i * k + j, none⟩ = some u)
  nil_ : ∀ n c, v = .slice none n c → c = 0
variable {k : Nat} {enc : α → List Value}
theorem Rd.below {w w' : World} {v : Value} {l : List α} (h : Rd k enc w v l) (hb : Below w.heap.size w w') : Rd k enc w' v l := by
  obtain ⟨⟨a, c, hv, h1, h2, hx⟩, hn⟩ := h
  refine ⟨⟨a, c, hv, h1, h2, fun hne => ?_⟩, hn⟩
  obtain ⟨b, off, ha, hlt, hc⟩ := hx hne
  exact ⟨b, off, ha, Nat.lt_of_lt_of_le hlt hb.size, fun i x hi j u hu => (hb.cell (p := ⟨b, off + i * k + j, none⟩) hlt).trans (hc i x hi j u hu)⟩
theorem Rd.drewN {w : World} {v : Value} {l : List α} (h : Rd k enc w v l) (n : Nat) : Rd k enc (w.drewN n) v l := h.below (below_drewN (Below.refl _ _) n)
theorem Rd.alloc {w : World} {v : Value} {l : List α} (h : Rd k enc w v l) (o : Obj) : Rd k enc (w.alloc o) v l := h.below ((Below.refl _ _).alloc (Nat.le_refl _) o)
theorem Rd.slice {w : World} {v : Value} {l : List α} (h : Rd k enc w v l) : ∃ a c, v = .slice a l.length c ∧ l.length ≤ c ∧ c ≤ 9223372036854775807 := by
  obtain ⟨⟨a, c, hv, h1, h2, _⟩, _⟩ := h
  exact ⟨a, c, hv, h1, h2⟩
theorem rd_nil (w : World) : Rd k enc w (.slice none 0 0) ([] : List α) := ⟨⟨_, 0, rfl, by simp, by omega, fun h => absurd rfl h⟩, fun n c hc => by injection hc with _ _ h3; exact h3.symm⟩
theorem Rd.some_ {w : World} {a : Option Addr} {n c : Nat} {l : List α} (h : Rd k enc w (.slice a n c) l) (i : Nat) (hi : i < l.length) : ∃ b off, a = some ⟨b, off, none⟩ ∧ b < w.heap.size ∧ ∀ j u, (enc l[i])[j]? = some u → w.cell? ⟨b, off + i * k + j, none⟩ = some u := by
  obtain ⟨⟨a', c', hv, _, _, hx⟩, _⟩ := h
  injection hv with e1 e2 e3
  subst e1
  obtain ⟨b, off, rfl, hb, hc⟩ := hx (List.ne_nil_of_length_pos (by omega))
  exact ⟨b, off, rfl, hb, hc i _ (List.getElem?_eq_getElem hi)⟩
/-- .. the block once and for all. -/
theorem Rd.at_ {w : World} {b off n c : Nat} {l : List α} (h : Rd k enc w (.slice (some ⟨b, off, none⟩) n c) l) (i : Nat) (hi : i < l.length) : ∀ j u, (enc l[i])[j]? = some u → w.cell? ⟨b, off + i * k + j, none⟩ = some u := by
  obtain ⟨b', off', e, _, h⟩ := h.some_ i hi
  cases e
  exact h
theorem Rd.len {w : World} {a : Option Addr} {n c : Nat} {l : List α} (h : Rd k enc w (.slice a n c) l) : l.length = n := by
  obtain ⟨⟨a', c', hv, _, _, hx⟩, _⟩ := h
  injection hv with e1 e2 e3
  exact e2.symm
theorem flat_len (hk : ∀ x : α, (enc x).length = k) : ∀ l : List α, (l.flatMap enc).length = l.length * k
  | [] => by simp
  | x :: l => by rw [List.flatMap_cons, List.length_append, flat_len hk l, hk, List.length_cons, Nat.add_mul]; omega
theorem flat_get (hk : ∀ x : α, (enc x).length = k) : ∀ (l : List α) (i : Nat) (x : α), l[i]? = some x → ∀ j u, (enc x)[j]? = some u → (l.flatMap enc)[i * k + j]? = some u
  | [], i, x, h, _, _, _ => by simp at h
  | y :: l, 0, x, h, j, u, hu => by
    simp at h
    subst h
    rw [List.flatMap_cons, Nat.zero_mul, Nat.zero_add, List.getElem?_append_left (List.getElem?_eq_some_iff.1 hu).1]
    exact hu
  | y :: l, i + 1, x, h, j, u, hu => by
    have h' : l[i]? = some x := by simpa using h
    have := flat_get hk l i x h' j u hu
    rw [List.flatMap_cons, List.getElem?_append_right (by rw [hk, Nat.add_mul]; omega), hk]
    rw [show (i + 1) * k + j - k = i * k + j by rw [Nat.add_mul]; omega]
    exact this
def Own1 (k : Nat) (enc : α → List Value) (w : World) (base : Nat) (e : TypeId) (v : Value) (l : List α) : Prop := w.ownsRow base e k v l.length (l.flatMap enc)
theorem own_below {w w' : World} {base n : Nat} {e : TypeId} {size : Nat} {v : Value} {xs : List Value} (h : w.ownsRow base e size v n xs) (hb : Below w.heap.size w w') : w'.ownsRow base e size v n xs := by
  refine ⟨h.1, ?_⟩
  rcases h.2 with h0 | ⟨g, cap, cur, hv, hB, hg, hr⟩
  · exact .inl h0
  · exact .inr ⟨g, cap, cur, hv, hB, (hb.block g (Array.getElem?_eq_some_iff.1 hg).1).trans hg, hr⟩
theorem own_base {w : World} {base base' n : Nat} {e : TypeId} {size : Nat} {v : Value} {xs : List Value} (h : w.ownsRow base e size v n xs) (hb : base' ≤ base) : w.ownsRow base' e size v n xs := by
  refine ⟨h.1, ?_⟩
  rcases h.2 with h0 | ⟨g, cap, cur, hv, hB, hg, hr⟩
  · exact .inl h0
  · exact .inr ⟨g, cap, cur, hv, Nat.le_trans hb hB, hg, hr⟩
theorem Own1.below {w w' : World} {base : Nat} {e : TypeId} {v : Value} {l : List α} (h : Own1 k enc w base e v l) (hb : Below w.heap.size w w') : Own1 k enc w' base e v l := own_below h hb
theorem Own1.base {w : World} {base base' : Nat} {e : TypeId} {v : Value} {l : List α} (h : Own1 k enc w base e v l) (hb : base' ≤ base) : Own1 k enc w base' e v l := own_base h hb
theorem own1_nil (w : World) (base : Nat) (e : TypeId) : Own1 k enc w base e (.slice none 0 0) ([] : List α) := World.ownsRow_nil _ _ _ _
theorem Own1.rd {w : World} {base : Nat} {e : TypeId} {v : Value} {l : List α} (h : Own1 k enc w base e v l) (hk : ∀ x : α, (enc x).length = k) : Rd k enc w v l := by
  rcases h.2 with ⟨rfl, h0⟩ | ⟨g, cap, cur, rfl, hb, hg, hnc, hcap, hsz, hr⟩
  · have : l = [] := List.eq_nil_of_length_eq_zero h0
    subst this
    exact rd_nil w
  · refine ⟨⟨_, cap, rfl, hnc, by (have hm : maxLen = 9223372036854775807 := by decide); omega, fun hne => ⟨g, 0, rfl, (Array.getElem?_eq_some_iff.1 hg).1, fun i x hi j u hu => ?_⟩⟩, fun n c hc => by injection hc with h1 _ _; cases h1⟩
    have h1 := flat_get hk l i x hi j u hu
    have h2 := (List.getElem?_eq_some_iff.1 h1).1
    rw [flat_len hk] at h2
    rw [← hr, List.getElem?_take, if_pos h2] at h1
    show w.cell? ⟨g, 0 + i * k + j, none⟩ = _
    rw [Nat.zero_add]
    simpa [World.cell?, hg] using h1
/-- A value of the call's own, written out. -/
theorem Own1.slice {w : World} {base : Nat} {e : TypeId} {v : Value} {l : List α} (h : Own1 k enc w base e v l) : ∃ a c, v = .slice a l.length c := by
  rcases h.2 with ⟨rfl, h0⟩ | ⟨g, cap, cur, rfl, _⟩
  · exact ⟨none, 0, by rw [h0]⟩
  · exact ⟨_, _, rfl⟩

/-! ### Slicing -/
theorem Rd.take {w : World} {a : Option Addr} {n c : Nat} {l : List α} (h : Rd k enc w (.slice a n c) l) (m : Nat) (hm : m ≤ l.length) : Rd k enc w (.slice a m c) (l.take m) := by
  obtain ⟨⟨a', c', hv, h1, h2, hx⟩, hn⟩ := h
  injection hv with e1 e2 e3
  subst e1
  subst e3
  have hlen : (l.take m).length = m := by rw [List.length_take]; omega
  refine ⟨⟨a, c, by rw [hlen], by omega, h2, fun hne => ?_⟩, fun n' c' hc => hn n c' (by injection hc with q1 q2 q3; rw [q1, q3])⟩
  have hpos : 0 < m := by rw [← hlen]; exact List.length_pos_iff.2 hne
  obtain ⟨b, off, ha, hb, hc⟩ := hx (List.ne_nil_of_length_pos (by omega))
  refine ⟨b, off, ha, hb, fun i x hi => hc i x ?_⟩
  rw [List.getElem?_take] at hi
  split at hi
  · exact hi
  · cases hi
/-- The value of l[m:], as the model reckons it. -/
def cutV (a : Option Addr) (m n c k : Nat) : Value := .slice (if c = m then a else a.map (·.add (m * k))) (n - m) (c - m)
theorem Rd.cut {w : World} {a : Option Addr} {n c : Nat} {l : List α} (h : Rd k enc w (.slice a n c) l) (m : Nat) (hm : m ≤ l.length) : Rd k enc w (cutV a m n c k) (l.drop m) := by
  obtain ⟨⟨a', c', hv, h1, h2, hx⟩, hn⟩ := h
  injection hv with e1 e2 e3
  subst e1
  subst e2
  subst e3
  have hlen : (l.drop m).length = l.length - m := by rw [List.length_drop]
  refine ⟨⟨_, c - m, by rw [hlen]; rfl, by omega, by omega, fun hne => ?_⟩, fun n' c' hc => ?_⟩
  · have hpos : 0 < l.length - m := by rw [← hlen]; exact List.length_pos_iff.2 hne
    obtain ⟨b, off, ha, hb, hc⟩ := hx (List.ne_nil_of_length_pos (by omega))
    subst ha
    rw [if_neg (by omega)]
    refine ⟨b, off + m * k, by show some (Addr.add _ _) = _; rw [add_off], hb, fun i x hi j u hu => ?_⟩
    rw [List.getElem?_drop] at hi
    have := hc (m + i) x hi j u hu
    rw [Nat.add_mul] at this
    rw [show off + m * k + i * k + j = off + (m * k + i * k) + j by omega]
    exact this
  · injection hc with q1 q2 q3
    cases a with
    | none => have := hn _ _ rfl; omega
    | some y => split at q1 <;> cases q1
end

/-! ### Blocks -/
def Blk (B : Nat) (t : TypeId) (cs : Array Value) (W : World) : Prop := W.heap[B]? = some (.cells cs t (0, 0))
theorem Blk.lt {B : Nat} {t : TypeId} {cs : Array Value} {W : World} (h : Blk B t cs W) : B < W.heap.size := (Array.getElem?_eq_some_iff.1 h).1
theorem Blk.cell {B : Nat} {t : TypeId} {cs : Array Value} {W : World} (h : Blk B t cs W) (i : Nat) : W.cell? ⟨B, i, none⟩ = cs[i]? := by simp [World.cell?, show W.heap[B]? = _ from h]
theorem Blk.frozen {B : Nat} {t : TypeId} {cs : Array Value} {W : World} (h : Blk B t cs W) (i : Nat) : W.frozen? ⟨B, i, none⟩ = false := by simp [World.frozen?, show W.heap[B]? = _ from h]
theorem Blk.new (W : World) (t : TypeId) (cs : Array Value) : Blk W.heap.size t cs (W.alloc (.cells cs t)) := heap_alloc_new W _
theorem Blk.alloc {B : Nat} {t : TypeId} {cs : Array Value} {W : World} (h : Blk B t cs W) (o : Obj) : Blk B t cs (W.alloc o) := (Below.heap_alloc W o B h.lt).trans h
theorem Blk.below {B : Nat} {t : TypeId} {cs : Array Value} {W W' : World} (h : Blk B t cs W) (hb : Below W.heap.size W W') : Blk B t cs W' := (hb.block B h.lt).trans h
theorem Blk.far {B : Nat} {t : TypeId} {cs : Array Value} {W : World} (h : Blk B t cs W) {p : Addr} (hp : B ≠ p.block) (u : Value) : Blk B t cs (W.setCell p u) := (Below.heap_setCell W p u B hp).trans h
theorem Blk.put {B : Nat} {t : TypeId} {cs : Array Value} {W : World} (h : Blk B t cs W) (i : Nat) (u : Value) : Blk B t (cs.setIfInBounds i u) (W.setCell ⟨B, i, none⟩ u) := by
  unfold Blk at h ⊢
  simp [World.setCell, Array.getElem?_modify, h]
/-- But for block g, what was there is as it was. -/
structure But (g : Nat) (w w' : World) : Prop where
  os : w'.os = w.os
  tape : w'.tape = w.tape
  output : w'.output = w.output
  size : w.heap.size ≤ w'.heap.size
  block : ∀ k, k < w.heap.size → k ≠ g → w'.heap[k]? = w.heap[k]?
theorem But.refl (g : Nat) (w : World) : But g w w := ⟨rfl, rfl, rfl, Nat.le_refl _, fun _ _ _ => rfl⟩
theorem But.trans {g : Nat} {a b c : World} (h : But g a b) (k : But g b c) : But g a c :=
  ⟨k.os.trans h.os, k.tape.trans h.tape, k.output.trans h.output, Nat.le_trans h.size k.size, fun i hi hg => (k.block i (Nat.lt_of_lt_of_le hi h.size) hg).trans (h.block i hi hg)⟩
theorem But.of_below {g : Nat} {w w' : World} (h : Below w.heap.size w w') : But g w w' := ⟨h.os, h.tape, h.output, h.size, fun k hk _ => h.block k hk⟩
theorem But.setCell (g : Nat) (w : World) (i : Nat) (u : Value) : But g w (w.setCell ⟨g, i, none⟩ u) :=
  ⟨rfl, rfl, rfl, by simp [World.setCell], fun k hk hg => Below.heap_setCell _ _ _ _ hg⟩
theorem But.alloc {g : Nat} {a b : World} (h : But g a b) (o : Obj) : But g a (b.alloc o) := h.trans (But.of_below ((Below.refl _ _).alloc (Nat.le_refl _) _))
theorem But.drewN {g : Nat} {a b : World} (h : But g a b) (n : Nat) : But g a (b.drewN n) := h.trans (But.of_below (below_drewN (Below.refl _ _) n))
theorem But.below {g B : Nat} {w w' : World} (h : But g w w') (h1 : B ≤ g) (h2 : B ≤ w.heap.size) : Below B w w' := ⟨h.os, h.tape, h.output, h.size, fun k hk => h.block k (by omega) (by omega)⟩
theorem Blk.but {B g : Nat} {t : TypeId} {cs : Array Value} {W W' : World} (h : Blk B t cs W) (hb : But g W W') (hne : B ≠ g) : Blk B t cs W' := (hb.block B h.lt hne).trans h
section
variable {α : Type} {k : Nat} {enc : α → List Value}
/-- A list read keeps, where its block is another one. -/
theorem Rd.but {g : Nat} {w w' : World} {v : Value} {l : List α} (h : Rd k enc w v l) (hb : But g w w') (hne : ∀ b, v.ownBlock = some b → b ≠ g) : Rd k enc w' v l := by
  obtain ⟨⟨a, c, rfl, h1, h2, hx⟩, hn⟩ := h
  refine ⟨⟨a, c, rfl, h1, h2, fun hl => ?_⟩, hn⟩
  obtain ⟨b, off, ha, hlt, hc⟩ := hx hl
  subst ha
  exact ⟨b, off, rfl, Nat.lt_of_lt_of_le hlt hb.size, fun i x hi j u hu => (World.cell?_of_block (w := w) (a := ⟨b, off + i * k + j, none⟩) (hb.block b hlt (hne b rfl))).trans (hc i x hi j u hu)⟩
end

/-! ### Appends onto what the call owns -/
theorem cells_new (w : World) (cs : Array Value) (t : TypeId) : ∀ j u, cs.toList[j]? = some u → (w.alloc (.cells cs t)).cell? ((⟨w.heap.size, 0, none⟩ : Addr).add j) = some u := by
  intro j u h
  rw [add_off, (Blk.new w t cs).cell, Nat.zero_add, ← Array.getElem?_toList]
  exact h
section
variable {α : Type} {k : Nat} {enc : α → List Value}
variable {P : Program} {ops : Array Oper} {rest : List Oper} {o : Oper} {a : Act} {Q : Exit → Act → World → Prop}
/-- One element more. -/
theorem wpList_append_one {W w0 : World} {e : TypeId} {cs : Array Value} {x : α} (hgd : o.guard = none) (s y : Operand) (t : TypeId)
    (ho : o.op = .call { callee := .builtin .append, args := #[s, y], argTypes := #[t, t] })
    (base : Nat) (i : TypeInfo) (z : Value) (by_ : Nat) (ht : P.underlying t = some (.slice e)) (hi : P.info? e = some i) (hz : i.zero = some z) (hsize : i.size = k) (hby : i.bytes = by_) (hb64 : by_ ≤ 64) (hzs : z.cells.size = k) (hk0 : 0 < k)
    (hk : ∀ x : α, (enc x).length = k) (h1c : ∀ x : α, ∀ u ∈ enc x, u.oneCell' = true)
    (v : Value) (l : List α) (hcs : cs.toList = enc x) (hs : a.eval s = v) (hown : Own1 k enc w0 base e v l) (hx : a.eval y = .slice (some ⟨w0.heap.size, 0, none⟩) 1 1)
    (hl : l.length ≤ 1000000000) (hbase : base ≤ w0.heap.size) (hB : Below base W w0)
    (h : ∀ v' w', Own1 k enc w' base e v' (l ++ [x]) → Below base W w' → w0.grownBy w' v.ownBlock → wpList P ops Q rest (a.put o.dst v') w') : wpList P ops Q (o :: rest) a (w0.alloc (.cells cs e)) := by
  refine wpList_append_own _ hgd s y t ho base e i z k by_ ht hi hz hsize hby hzs hk0 v l.length (l.flatMap enc) hs (World.ownsRow.alloc hown _) ⟨w0.heap.size, 0, none⟩ 1 1 cs.toList hx (by rw [hcs, hk, Nat.one_mul]) (cells_new _ _ _) (fun u hu => h1c x u (by rw [← hcs]; exact hu)) (by unfold maxLen; omega) (Nat.le_trans (Nat.mul_le_mul_left _ hb64) (by omega)) (by simp; omega) ?_
  intro v' w' h2 h3 _
  refine h v' w' ?_ ((hB.alloc hbase _).grown h3 (by simp; omega) (fun j e => (World.ownsRow.lt hown j e).1)) ((World.grownBy_alloc _ _ _).trans h3)
  unfold Own1
  rw [List.flatMap_append, List.length_append, List.flatMap_cons, List.flatMap_nil, List.append_nil, ← hcs]
  exact h2
end
theorem encT_len (x : List UInt8) : (encT x).length = 1 := rfl
theorem encT_one (x : List UInt8) : ∀ u ∈ encT x, u.oneCell' = true := by intro u hu; simp [encT] at hu; subst hu; rfl
theorem Tryz.infoT : (Tryz.prog.info? 9).map (fun i => (i.zero, i.size, i.bytes)) = some (some (.string ByteArray.empty), 1, 16) := by kernel_rfl
/-- But for block C, what lies below n is as it was. -/
structure Bt (n C : Nat) (w w' : World) : Prop where
  os : w'.os = w.os
  tape : w'.tape = w.tape
  output : w'.output = w.output
  size : w.heap.size ≤ w'.heap.size
  block : ∀ k, k < n → k ≠ C → w'.heap[k]? = w.heap[k]?
theorem Bt.refl (n C : Nat) (w : World) : Bt n C w w := ⟨rfl, rfl, rfl, Nat.le_refl _, fun _ _ _ => rfl⟩
theorem Bt.trans {n C : Nat} {A B D : World} (h : Bt n C A B) (k : Bt n C B D) : Bt n C A D :=
  ⟨k.os.trans h.os, k.tape.trans h.tape, k.output.trans h.output, Nat.le_trans h.size k.size, fun i hi hc => (k.block i hi hc).trans (h.block i hi hc)⟩
theorem Bt.of_below {n C : Nat} {w w' : World} (h : Below n w w') : Bt n C w w' := ⟨h.os, h.tape, h.output, h.size, fun k hk _ => h.block k hk⟩
theorem Bt.setCell (n C : Nat) (w : World) (i : Nat) (u : Value) : Bt n C w (w.setCell ⟨C, i, none⟩ u) :=
  ⟨rfl, rfl, rfl, by simp [World.setCell], fun k hk hg => Below.heap_setCell _ _ _ _ hg⟩
theorem Bt.of_but {n C : Nat} {w w' : World} (h : But C w w') (hn : n ≤ w.heap.size) : Bt n C w w' := ⟨h.os, h.tape, h.output, h.size, fun k hk hc => h.block k (by omega) hc⟩
theorem Bt.but {n C : Nat} {w w' : World} (h : Bt n C w w') (hn : w.heap.size ≤ n) : But C w w' := ⟨h.os, h.tape, h.output, h.size, fun k hk hc => h.block k (by omega) hc⟩
theorem Bt.mono {n m C : Nat} {w w' : World} (h : Bt n C w w') (hn : m ≤ n) : Bt m C w w' := ⟨h.os, h.tape, h.output, h.size, fun k hk hc => h.block k (by omega) hc⟩
theorem bt_b {n C : Nat} {w : World} (hn : n ≤ w.heap.size) (W : World) (l : Nat) (o o' : Obj) (hl : w.heap.size ≤ l) (h : W.heap[l]? = some o) (h1 : o.isCells = false) (h2 : o.isWalk = false) : Bt n C W (W.putObj l o') :=
  Bt.of_below (belowK_b hn W l o o' hl h h1 h2)
theorem Blk.bt {B n C : Nat} {t : TypeId} {cs : Array Value} {W W' : World} (h : Blk B t cs W) (hb : Bt n C W W') (hn : B < n) (hne : B ≠ C) : Blk B t cs W' := (hb.block B hn hne).trans h
theorem Rd.bt {α : Type} {k : Nat} {enc : α → List Value} {n C : Nat} {w w' : World} {v : Value} {l : List α} (h : Rd k enc w v l) (hb : Bt n C w w') (hne : ∀ b, v.ownBlock = some b → b < n ∧ b ≠ C) : Rd k enc w' v l := by
  obtain ⟨⟨a, c, rfl, h1, h2, hx⟩, hn⟩ := h
  refine ⟨⟨a, c, rfl, h1, h2, fun hl => ?_⟩, hn⟩
  obtain ⟨b, off, ha, hlt, hc⟩ := hx hl
  subst ha
  obtain ⟨h3, h4⟩ := hne b rfl
  exact ⟨b, off, rfl, Nat.lt_of_lt_of_le hlt hb.size, fun i x hi j u hu => (World.cell?_of_block (w := w) (a := ⟨b, off + i * k + j, none⟩) (hb.block b h3 h4)).trans (hc i x hi j u hu)⟩

theorem cut_run {P : Program} {T e : TypeId} {i : TypeInfo} (hT : P.underlying T = some (.slice e)) (he : P.info? e = some i) {k : Nat} (hi : i.size = k) (a : Option Addr) (n c m : Nat) (hm : m ≤ n) (w : World) :
    (Instr.slice T (.slice a n c) (some (.int .i64 (m : Int))) none none).run P w = .ok (cutV a m n c k) w ∧ (Instr.sliceAt T (.slice a n c) (some (.int .i64 (m : Int))) none none).run P w = .ok (cutV a m n c k) w := by
  have hE : P.elem T = e := by unfold Program.elem; rw [hT]
  have h1 : (Instr.slice T (.slice a n c) (some (.int .i64 (m : Int))) none none).run P w = .ok (cutV a m n c k) w := by
    rw [run_slice_l (P := P) (w := w) T a n c (by rw [hT, hE]) .i64 m (by omega) (by omega)]
    rw [hE]
    simp [sizeOf, typeInfo, he, hi, Result.andThen, cutV, sliced]
  refine ⟨h1, ?_⟩
  rw [run_sliceAt_slice (P := P) (w := w) T _ _ _ _ (by rw [hT, hE])]
  exact h1
section
variable {α : Type} {k : Nat} {enc : α → List Value}
variable {P : Program} {ops : Array Oper} {rest : List Oper} {o : Oper} {a : Act} {Q : Exit → Act → World → Prop}
/-- One element more, the new block's number under another name. -/
theorem wpList_append_at {w0 : World} {e : TypeId} {cs : Array Value} {x : α} {N : Nat} (hN : w0.heap.size = N) (hgd : o.guard = none) (s y : Operand) (t : TypeId)
    (ho : o.op = .call { callee := .builtin .append, args := #[s, y], argTypes := #[t, t] })
    (base : Nat) (i : TypeInfo) (z : Value) (by_ : Nat) (ht : P.underlying t = some (.slice e)) (hi : P.info? e = some i) (hz : i.zero = some z) (hsize : i.size = k) (hby : i.bytes = by_) (hb64 : by_ ≤ 64) (hzs : z.cells.size = k) (hk0 : 0 < k)
    (hk : ∀ x : α, (enc x).length = k) (h1c : ∀ x : α, ∀ u ∈ enc x, u.oneCell' = true)
    (v : Value) (l : List α) (hcs : cs.toList = enc x) (hs : a.eval s = v) (hown : Own1 k enc w0 base e v l) (hx : a.eval y = .slice (some ⟨N, 0, none⟩) 1 1)
    (hl : l.length ≤ 1000000000) (hbase : base ≤ N)
    (h : ∀ v' w', Own1 k enc w' base e v' (l ++ [x]) → Below base w0 w' → w0.grownBy w' v.ownBlock → wpList P ops Q rest (a.put o.dst v') w') : wpList P ops Q (o :: rest) a (w0.alloc (.cells cs e)) := by
  subst hN
  exact wpList_append_one (W := w0) hgd s y t ho base i z by_ ht hi hz hsize hby hb64 hzs hk0 hk h1c v l hcs hs hown hx hl hbase (Below.refl _ _) h
end
theorem own_far {α : Type} {k : Nat} {enc : α → List Value} {w w' : World} {base : Nat} {e : TypeId} {v : Value} {l : List α} (h : Own1 k enc w base e v l) (hf : ∀ g, base ≤ g → w'.heap[g]? = w.heap[g]?) : Own1 k enc w' base e v l := by
  refine ⟨h.1, ?_⟩
  rcases h.2 with h0 | ⟨g, cap, cur, hv, hB, hg, hr⟩
  · exact .inl h0
  · exact .inr ⟨g, cap, cur, hv, hB, (hf g hB).trans hg, hr⟩

theorem make_at {P : Program} (t e : TypeId) (z : Value) (by_ : Nat) (ht : P.underlying t = some (.slice e)) (hi : (P.info? e).map (fun i => (i.zero, i.size, i.bytes)) = some (some z, 1, by_)) (hb : by_ ≤ 64) (n : Nat) (hn : n ≤ 10000000) (w : World) :
    (Instr.makeSlice t (.int .i64 (n : Int)) (.int .i64 (n : Int))).run P w = .ok (.slice (some ⟨w.heap.size, 0, none⟩) n n) (w.alloc (.cells (madeCells z.cells n) e)) := by
  obtain ⟨i0, h1, h2, h3, h4⟩ := info_parts hi
  have hbb : (i0.bytes : Int) * (n : Int) ≤ 281474976710656 := by
    rw [h4]
    have := Nat.mul_le_mul hb hn
    have e : ((by_ : Int) * (n : Int)) = ((by_ * n : Nat) : Int) := by simp
    rw [e]
    omega
  have := run_makeSlice (P := P) (w := w) t e i0 z ht h1 h2 .i64 .i64 (n : Int) (n : Int) (by omega) (Int.le_refl _) (by rw [h3]; simp; omega) hbb (by omega)
  rw [h3] at this
  simpa using this
theorem keeps_drewN (W : World) (n : Nat) : KeepsOthers W (W.drewN n) := ⟨Nat.le_refl _, fun _ _ h _ => h⟩
/-! ### A region that draws its order and only reads, within a round -/
section
variable {F : Fence} {n : Nat} {P : Program} {ops : Array Oper} {md : Region.Mode}
end

/-! ### A region that draws its order and only reads, but for a last part in one order -/
section
variable {F : Fence} {n : Nat} {P : Program} {ops : Array Oper} {md : Region.Mode} {w : World}
end

section
variable {P : Program} {ops : Array Oper} {w : World}
end
section
variable {α : Type} {k : Nat} {enc : α → List Value}
variable {P : Program} {ops : Array Oper} {o : Oper} {a : Act} {K : Act → World → Prop} {Q : Exit → Act → World → Prop} {E : Prop}
end

section
variable {α : Type} {k : Nat} {enc : α → List Value}
theorem flat_inv (hk : ∀ x : α, (enc x).length = k) : ∀ (l : List α) (j : Nat) (u : Value), (l.flatMap enc)[j]? = some u → ∃ i x jj, l[i]? = some x ∧ (enc x)[jj]? = some u ∧ j = i * k + jj
  | [], j, u, h => by simp at h
  | y :: l, j, u, h => by
    rw [List.flatMap_cons] at h
    rcases Nat.lt_or_ge j (enc y).length with hj | hj
    · rw [List.getElem?_append_left hj] at h
      exact ⟨0, y, j, rfl, h, by simp⟩
    · rw [List.getElem?_append_right hj, hk] at h
      obtain ⟨i, x, jj, h1, h2, h3⟩ := flat_inv hk l _ u h
      exact ⟨i + 1, x, jj, by simpa using h1, h2, by rw [hk] at hj; rw [Nat.add_mul]; omega⟩
variable {P : Program} {ops : Array Oper} {rest : List Oper} {o : Oper} {a : Act} {Q : Exit → Act → World → Prop}
/-- A list more. -/
theorem wpList_append_rd {w : World} {e : TypeId} (hgd : o.guard = none) (s y : Operand) (t : TypeId)
    (ho : o.op = .call { callee := .builtin .append, args := #[s, y], argTypes := #[t, t] })
    (base : Nat) (i : TypeInfo) (z : Value) (by_ : Nat) (ht : P.underlying t = some (.slice e)) (hi : P.info? e = some i) (hz : i.zero = some z) (hsize : i.size = k) (hby : i.bytes = by_) (hb64 : by_ ≤ 64) (hzs : z.cells.size = k) (hk0 : 0 < k)
    (hk : ∀ x : α, (enc x).length = k) (h1c : ∀ x : α, ∀ u ∈ enc x, u.oneCell' = true)
    (v : Value) (l r : List α) (u : Value) (hs : a.eval s = v) (hown : Own1 k enc w base e v l) (hx : a.eval y = u) (hu : Rd k enc w u r)
    (hl : l.length + r.length ≤ 1000000000) (hbase : base ≤ w.heap.size)
    (h : ∀ v' w', Own1 k enc w' base e v' (l ++ r) → Below base w w' → wpList P ops Q rest (a.put o.dst v') w') : wpList P ops Q (o :: rest) a w := by
  obtain ⟨⟨ad, c, rfl, hc1, hc2, hc⟩, hn⟩ := hu
  rcases ad with _ | ad
  · have hr : r = [] := by
      rcases Classical.em (r = []) with h0 | h0
      · exact h0
      · obtain ⟨b, off, hb, _⟩ := hc h0
        cases hb
    subst hr
    have hc0 := hn _ _ rfl
    subst hc0
    refine wpList_append_own_none hgd s y t ho base e i k ht hi v l.length (l.flatMap enc) hs hown hx ?_
    exact h v w (by simpa using hown) (Below.refl _ _)
  · refine wpList_append_own w hgd s y t ho base e i z k by_ ht hi hz hsize hby hzs hk0 v l.length (l.flatMap enc) hs hown ad r.length c (r.flatMap enc) hx (flat_len hk r) ?_ ?_ (by unfold maxLen; omega) (Nat.le_trans (Nat.mul_le_mul_left _ hb64) (by omega)) hbase ?_
    · intro j u hj
      obtain ⟨i', x, jj, h1, h2, h3⟩ := flat_inv hk r j u hj
      obtain ⟨b, off, hb, _, hcc⟩ := hc (fun e => by rw [e] at h1; simp at h1)
      cases hb
      rw [add_off, h3, ← Nat.add_assoc]
      exact hcc i' x h1 jj u h2
    · intro u hu
      obtain ⟨x, _, hx⟩ := List.mem_flatMap.1 hu
      exact h1c x u hx
    · intro v' w' h2 h3 _
      refine h v' w' ?_ ((Below.refl base w).grown h3 hbase (fun j e => (World.ownsRow.lt hown j e).1))
      unfold Own1
      rw [List.flatMap_append, List.length_append]
      exact h2
end

section
variable {α : Type} {k : Nat} {enc : α → List Value}
variable {P : Program} {ops : Array Oper} {o : Oper} {a : Act} {K : Act → World → Prop} {Q : Exit → Act → World → Prop} {E : Prop}
end
theorem own_but {α : Type} {k : Nat} {enc : α → List Value} {C : Nat} {w w' : World} {base : Nat} {e : TypeId} {v : Value} {l : List α} (h : Own1 k enc w base e v l) (hb : But C w w') (hC : C < base) : Own1 k enc w' base e v l := by
  refine ⟨h.1, ?_⟩
  rcases h.2 with h0 | ⟨g, cap, cur, hv, hB, hg, hr⟩
  · exact .inl h0
  · exact .inr ⟨g, cap, cur, hv, hB, (hb.block g (Array.getElem?_eq_some_iff.1 hg).1 (by omega)).trans hg, hr⟩
theorem Own1.lt_ {α : Type} {k : Nat} {enc : α → List Value} {w : World} {base : Nat} {e : TypeId} {v : Value} {l : List α} (h : Own1 k enc w base e v l) : ∀ b, v.ownBlock = some b → base ≤ b ∧ b < w.heap.size := World.ownsRow.lt h

theorem But.then_ {g : Nat} {w W W' : World} (h : But g w W) (b : Below w.heap.size W W') : But g w W' :=
  ⟨b.os.trans h.os, b.tape.trans h.tape, b.output.trans h.output, Nat.le_trans h.size b.size, fun k hk hg => (b.block k hk).trans (h.block k hk hg)⟩
section
variable {P : Program} {ops : Array Oper} {w : World}
end

theorem cutV_block {a : Option Addr} {m n c k b : Nat} (n' c' : Nat) (h : (cutV a m n c k).ownBlock = some b) : (Value.slice a n' c').ownBlock = some b := by
  cases a with
  | none => unfold cutV at h; split at h <;> simp [Value.ownBlock] at h
  | some x =>
    unfold cutV at h
    split at h
    · simpa [Value.ownBlock] using h
    · obtain ⟨x1, x2, x3⟩ := x
      unfold Addr.add at h
      simp [Value.ownBlock] at h ⊢
      split at h <;> simpa using h
theorem Rd.tail_ {P : Program} {α : Type} {k : Nat} {enc : α → List Value} {T e : TypeId} {i : TypeInfo} (hT : P.underlying T = some (.slice e)) (he : P.info? e = some i) (hi : i.size = k) {w : World} {a : Option Addr} {n c : Nat} {l : List α} (h : Rd k enc w (.slice a n c) l) (lo : Nat) (h1 : lo ≤ l.length) :
    ∃ a2 c2, Rd k enc w (.slice a2 (l.length - lo) c2) (l.drop lo) ∧ (∀ b, (Value.slice a2 (l.length - lo) c2).ownBlock = some b → (Value.slice a n c).ownBlock = some b) ∧ (∀ wx, (Instr.slice T (.slice a n c) (some (.int .i64 (lo : Int))) none none).run P wx = .ok (.slice a2 (l.length - lo) c2) wx) ∧ (∀ wx, (Instr.sliceAt T (.slice a n c) (some (.int .i64 (lo : Int))) none none).run P wx = .ok (.slice a2 (l.length - lo) c2) wx) := by
  have hn := h.len
  have hc := h.cut lo h1
  obtain ⟨a2, c2, hv2, _⟩ := hc.slice
  rw [List.length_drop] at hv2
  rw [hv2] at hc
  exact ⟨a2, c2, hc, fun b hb => cutV_block (k := k) (m := lo) (n := n) n c (by rw [hv2]; exact hb), fun wx => by rw [(cut_run hT he hi a n c lo (by omega) wx).1, hv2], fun wx => by rw [(cut_run hT he hi a n c lo (by omega) wx).2, hv2]⟩

def encB (c : UInt8) : List Value := [.int .u8 (c.toNat : Int)]
theorem encB_len (x : UInt8) : (encB x).length = 1 := rfl
abbrev RdB (w : World) (v : Value) (l : List UInt8) : Prop := Rd 1 encB w v l
/-- Bytes turned into a string. -/
theorem conv_rd {P : Program} {S D e : TypeId} (hs : P.underlying S = some (.slice e)) (he : P.underlying e = some (.int .u8)) (hd : P.underlying D = some .string)
    {w : World} {v : Value} {l : List UInt8} (h : Rd 1 encB w v l) : (convert S D v).run P w = .ok (.string (ofL l)) w := by
  obtain ⟨⟨a, c, rfl, h1, h2, hx⟩, hn⟩ := h
  rcases Classical.em (l = []) with h0 | h0
  · subst h0
    rcases a with _ | a
    · exact run_convert_bytes_nil w S e hs he 0 _ D hd
    · exact run_convert_bytes_back w S D e a c [] hs he hd (fun j hj => absurd hj (by simp))
  · obtain ⟨b, off, rfl, hb, hc⟩ := hx h0
    refine run_convert_bytes_back w S D e _ c l hs he hd (fun j hj => ?_)
    have := hc j _ (List.getElem?_eq_getElem hj) 0 _ rfl
    rw [add_off]
    simpa using this
end Go.Proofs.YtpmmchppfmojhaaGreatDoor


/- Of the program: cutDigits, trimEnd, integer. -/
namespace Go.Proofs.YtpmmchppfmojhaaGreatDoor
open Go.RowKit
set_option linter.unusedVariables false

theorem len_dataOf8 (s : ByteArray) : s.data.toList.length = s.size := Array.length_toList
end Go.Proofs.YtpmmchppfmojhaaGreatDoor


/- Of the reference of layer 11: part, mark, word, IsWord, skip. -/
namespace Go.Proofs.YtpmmchppfmojhaaGreatDoor
open Go.RowKit
set_option linter.unusedVariables false

theorem data_drop {s : ByteArray} {k : Nat} (h : k < s.size) : s.data.toList.drop k = (s[k]'h) :: s.data.toList.drop (k + 1) := by
  have h' : k < s.data.toList.length := by rw [len_data]; exact h
  rw [List.drop_eq_getElem_cons h']
  rfl
theorem data_end {s : ByteArray} {k : Nat} (h : s.size ≤ k) : s.data.toList.drop k = [] := List.drop_of_length_le (by rw [len_data]; exact h)
def mkN (b : Nat) : Bool := decide (b = 123) || decide (b = 125) || decide (b = 59)
def isWordB (s : List UInt8) : Bool := decide (s ≠ []) && decide (wordN s = s.length) && decide (s.length ≤ 40)
end Go.Proofs.YtpmmchppfmojhaaGreatDoor


/- Of the reference of layer 11: IsText, quoted. -/
namespace Go.Proofs.YtpmmchppfmojhaaGreatDoor
open Go.RowKit
set_option linter.unusedVariables false

theorem cut_from (s : ByteArray) {a : Nat} (h : a ≤ s.size) {B : Int} (hB : B = (a : Int)) (wx : World) : (Instr.slice 9 (.string s) (some (.int .i64 B)) none none).run Tryz.prog wx = .ok (.string (s.extract a s.size)) wx := by
  subst hB
  have e := run_slice_string_from_if (P := Tryz.prog) (w := wx) 9 s .i64 (a : Int) Tryz.underlying9
  rw [e, if_pos ⟨by omega, by omega⟩, Int.toNat_natCast]
theorem cut_mid (s : ByteArray) {a b : Nat} (h : a ≤ b) (h2 : b ≤ s.size) {A B : Int} (hA : A = (a : Int)) (hB : B = (b : Int)) (wx : World) : (Instr.slice 9 (.string s) (some (.int .i64 A)) (some (.int .i64 B)) none).run Tryz.prog wx = .ok (.string (s.extract a b)) wx := by
  subst hA hB
  have e := run_slice_string (P := Tryz.prog) (w := wx) 9 s .i64 .i64 (a : Int) (b : Int) Tryz.underlying9 (by omega) (by omega) (by omega)
  rw [Int.toNat_natCast, Int.toNat_natCast] at e
  exact e
theorem ext_of (s : ByteArray) (a b : Nat) : s.extract a b = ofL ((s.data.toList.drop a).take (b - a)) := by
  have h : (s.extract a b).data.toList = (s.data.toList.drop a).take (b - a) := by simp [List.extract]
  rw [← h, of_data]
theorem ext_end (s : ByteArray) (a : Nat) : s.extract a s.size = ofL (s.data.toList.drop a) := by
  rw [ext_of, List.take_of_length_le (by rw [List.length_drop, len_data]; omega)]

/-! ### IsText -/
def isTextB (s : List UInt8) : Bool := decide (s.length ≤ 400) && vld s
theorem un_le (st : Nat) : ∀ (n : Nat) (l : List UInt8), l.length ≤ n → (un st l).2.1.length ≤ 4 * l.length ∧ (un st l).2.2 ≤ l.length
  | n, [], _ => by rw [un_nil]; exact ⟨Nat.le_refl _, Nat.le_refl _⟩
  | 0, c :: l, h => by simp at h
  | n + 1, c :: l, hl => by
    have hne : (c :: l) ≠ [] := by simp
    by_cases h1 : (rd st (c :: l)).1 = []
    · rw [un_stop hne h1]
      exact ⟨Nat.zero_le _, Nat.zero_le _⟩
    · have hok := rd_ok st (c :: l)
      have hp := hok.2.2 h1
      have h5 : ((c :: l).drop (rd st (c :: l)).2).length = (c :: l).length - (rd st (c :: l)).2 := List.length_drop
      have hcl : (c :: l).length = l.length + 1 := rfl
      have ih := un_le st n ((c :: l).drop (rd st (c :: l)).2) (by rw [h5]; omega)
      constructor
      · rw [un_go hne h1]
        unfold jn
        split
        · show ((rd st (c :: l)).1 ++ _).length ≤ _
          rw [List.length_append]
          have := hok.1
          have := ih.1
          rw [h5] at this
          omega
        · exact Nat.zero_le _
      · cases hb : (un st (c :: l)).1 with
        | false => exact Nat.le_of_lt (un_lt (c :: l).length (c :: l) (Nat.le_refl _) hb)
        | true =>
          rw [un_go hne h1] at hb ⊢
          unfold jn at hb ⊢
          split
          · exact Nat.zero_le _
          · rename_i h3
            rw [if_neg h3] at hb
            cases hb
def put3 (W : World) (B : Nat) (a b c : Value) : World := ((W.setCell ⟨B, 0, none⟩ a).setCell ⟨B, 1, none⟩ b).setCell ⟨B, 2, none⟩ c
theorem put3_blk {W : World} {B n : Nat} {t : TypeId} {a b c a' b' c' : Value} (h : Blk B t #[a, b, c] W) (hn : n ≤ B) : Blk B t #[a', b', c'] (put3 W B a' b' c') ∧ Below n W (put3 W B a' b' c') := by
  refine ⟨?_, (((Below.refl n W).setCell hn a').setCell hn b').setCell hn c'⟩
  exact ((h.put 0 a').put 1 b').put 2 c'
end Go.Proofs.YtpmmchppfmojhaaGreatDoor


/- Of the reference of layer 11: Tokens. -/
namespace Go.Proofs.YtpmmchppfmojhaaGreatDoor
open Go.RowKit
set_option linter.unusedVariables false

def encTk (t : Tok) : List Value := [.int .i64 (t.kd : Int), .string (ofL t.tx), .int .i64 (t.at_ : Int)]
theorem encTk_len (t : Tok) : (encTk t).length = 3 := rfl
theorem encTk_one (t : Tok) : ∀ u ∈ encTk t, u.oneCell' = true := by
  intro u hu
  simp [encTk] at hu
  rcases hu with rfl | rfl | rfl <;> rfl
theorem info_partsT {P : Program} {t : TypeId} {z : Value} {n b : Nat} (h : (P.info? t).map (fun i => (i.zero, i.size, i.bytes)) = some (some z, n, b)) : ∃ i, P.info? t = some i ∧ i.zero = some z ∧ i.size = n ∧ i.bytes = b := by
  cases hi : P.info? t with
  | none => rw [hi] at h; cases h
  | some i =>
    rw [hi] at h
    simp at h
    exact ⟨i, rfl, h.1, h.2.1, h.2.2⟩
theorem quoR_err {l : List UInt8} {d e : Nat} (h : quoR l = .bad d e) : 0 < e := by
  unfold quoR at h
  split at h
  · injection h with e1 e2; omega
  · split at h
    · injection h with e1 e2; omega
    · split at h
      · injection h with e1 e2; omega
      · split at h
        · injection h with e1 e2; omega
        · cases h
theorem tk_next {s : List UInt8} {T : (Nat × Nat) ⊕ List Tok} {o kd n : Nat} {tx : List UInt8} {acc : List Tok} (ho : o < s.length) (hz : skN false (s.drop o) = 0) (hT : T = catT acc (toksN o (s.drop o))) (h : oneR (s.drop o) = .tok kd tx n) :
    o + n + skN false (s.drop (o + n)) ≤ s.length ∧ skN false (s.drop (o + n + skN false (s.drop (o + n)))) = 0 ∧ T = catT (acc ++ [⟨kd, tx, o⟩]) (toksN (o + n + skN false (s.drop (o + n))) (s.drop (o + n + skN false (s.drop (o + n))))) ∧ 0 < n ∧ o + n ≤ s.length := by
  have h1 := (oneR_ok h).2
  rw [List.length_drop] at h1
  have h2 := skN_le false (s.drop (o + n))
  rw [List.length_drop] at h2
  have hr : s.drop o ≠ [] := by
    intro e
    have := congrArg List.length e
    rw [List.length_drop] at this
    simp at this
    omega
  refine ⟨by omega, ?_, ?_, h1.1, by omega⟩
  · rw [← List.drop_drop]
    exact sk_idem _
  · rw [hT, at_tok hz h hr, catT_cat, List.drop_drop, List.drop_drop]
end Go.Proofs.YtpmmchppfmojhaaGreatDoor


/- Of the reference of layer 11: tokens with any kinds and offsets; Same. -/
namespace Go.Proofs.YtpmmchppfmojhaaGreatDoor
open Go.RowKit
set_option linter.unusedVariables false

structure TkZ where
  kd : Int
  tx : List UInt8
  at_ : Int
def encZ (t : TkZ) : List Value := [.int .i64 t.kd, .string (ofL t.tx), .int .i64 t.at_]
theorem encZ_len (t : TkZ) : (encZ t).length = 3 := rfl
theorem encZ_one (t : TkZ) : ∀ u ∈ encZ t, u.oneCell' = true := by
  intro u hu
  simp [encZ] at hu
  rcases hu with rfl | rfl | rfl <;> rfl
def Tok.z (t : Tok) : TkZ := ⟨t.kd, t.tx, t.at_⟩
theorem Rd.tkZ {w : World} {a : Option Addr} {n c : Nat} {l : List TkZ} (h : Rd 3 encZ w (.slice a n c) l) (i : Nat) (hi : i < l.length) : ∃ b off, a = some ⟨b, off, none⟩ ∧ b < w.heap.size ∧ w.cell? ⟨b, off + i * 3, none⟩ = some (.int .i64 (l[i]'hi).kd) ∧ w.cell? ⟨b, off + i * 3 + 1, none⟩ = some (.string (ofL (l[i]'hi).tx)) ∧ w.cell? ⟨b, off + i * 3 + 2, none⟩ = some (.int .i64 (l[i]'hi).at_) := by
  obtain ⟨b, off, e, hb, hc⟩ := h.some_ i hi
  exact ⟨b, off, e, hb, hc 0 _ rfl, hc 1 _ rfl, hc 2 _ rfl⟩
end Go.Proofs.YtpmmchppfmojhaaGreatDoor


/- Of the reference of layer 11: Spell. -/
namespace Go.Proofs.YtpmmchppfmojhaaGreatDoor
open Go.RowKit
set_option linter.unusedVariables false

def isMk1 : List UInt8 → Bool
  | [c] => isMk c
  | _ => false
def okZ (t : TkZ) : Bool := if t.kd = 1 then isWordB t.tx else if t.kd = 3 then isMk1 t.tx else if t.kd = 2 then isTextB t.tx else false
def ktZ (t : TkZ) : KT := (t.kd.toNat, t.tx)
/-- The line of tokens, and whether there is one. -/
def spellR (l : List TkZ) : List UInt8 × Nat := if l.all okZ = true then (lineS (l.map ktZ), 0) else ([], 1)
theorem spR_len (k : Nat) (t : List UInt8) : (spR k t).length ≤ 6 * t.length + 2 := by
  unfold spR
  have := escL_len 2 t
  split
  · simp only [List.length_cons, List.length_append, List.length_nil]; omega
  · omega
theorem lineF_len : ∀ l : List KT, (∀ t ∈ l, t.2.length ≤ 500) → (lineF l).length ≤ 3003 * l.length
  | [], _ => Nat.le_refl _
  | t :: l, h => by
    have ih := lineF_len l (fun x hx => h x (by simp [hx]))
    have h1 := h t (by simp)
    have h2 := spR_len t.1 t.2
    have e : lineF (t :: l) = (32 :: spR t.1 t.2) ++ lineF l := rfl
    rw [e, List.length_append, List.length_cons, List.length_cons]
    omega
theorem lineS_len (l : List KT) (h : ∀ t ∈ l, t.2.length ≤ 500) : (lineS l).length ≤ 3003 * l.length := by
  unfold lineS
  rw [List.length_drop]
  have := lineF_len l h
  omega
theorem all_bad {l : List TkZ} {k : Nat} (h : k < l.length) (hb : okZ (l[k]'h) = false) : spellR l = ([], 1) := by
  unfold spellR
  rw [if_neg]
  intro e
  have := List.all_eq_true.1 e _ (List.getElem_mem h)
  rw [hb] at this
  cases this
theorem all_snoc {l : List TkZ} {k : Nat} (h : k < l.length) (ha : (l.take k).all okZ = true) (hb : okZ (l[k]'h) = true) : (l.take (k + 1)).all okZ = true := by
  rw [List.take_succ_eq_append_getElem h, List.all_append, ha, List.all_cons, hb]
  rfl
theorem of_ext {a b : ByteArray} (h : a.data.toList = b.data.toList) : a = b := by rw [← of_data a, ← of_data b, h]
theorem add_of (x y : List UInt8) : ofL x ++ ofL y = ofL (x ++ y) := of_ext (by simp [ofL_list])
theorem mk1_data {X : ByteArray} (h : X.size = 1) : isMk1 X.data.toList = mkN (X[0]'(by omega)).toNat := by
  have h1 : X.data.toList = [X[0]'(by omega)] := by
    have e := data_drop (s := X) (k := 0) (by omega)
    rw [List.drop_zero, data_end (by omega)] at e
    exact e
  rw [h1]
  rfl
theorem mk1_no {X : ByteArray} (h : X.size ≠ 1) : isMk1 X.data.toList = false := by
  have h2 := len_data X
  match X.data.toList, h2 with
  | [], _ => rfl
  | [c], h2 => exact absurd (by rw [← h2]; rfl) h
  | a :: b :: l, _ => rfl
end Go.Proofs.YtpmmchppfmojhaaGreatDoor


/- What the laws of layer 11 want of the program; awake. -/
namespace Go.Proofs.YtpmmchppfmojhaaGreatDoor
open Go.RowKit
set_option linter.unusedVariables false

/-- What Tokens hands out: tokens, offset, error. -/
def rT : (Nat × Nat) ⊕ List Tok → List Tok × Nat × Nat
  | .inl p => ([], p.1, p.2)
  | .inr ts => (ts, 0, 0)
def TokPP (T : List Tok × Nat × Nat) (w : World) (e : Ending) (w' : World) : Prop :=
  ∃ v, e = .returned (.tuple #[v, .int .i64 (T.2.1 : Int), .int .i64 (T.2.2 : Int)]) ∧ Rd 3 encTk w' v T.1 ∧ Below w.heap.size w w'
/-- The program's own functions, as the document has them. -/
structure LexC (EV : World → Prop) : Prop where
  later : ∀ {w w' : World}, EV w → Below w.heap.size w w' → EV w'
  tok : ∀ (s : ByteArray) (w : World), s.size ≤ 10000000 → EV w → Calls Tryz.prog 46 #[.string s] w (TokPP (rT (toks s.data.toList)) w)
  spell : ∀ (v : Value) (l : List TkZ) (w : World), Rd 3 encZ w v l → l.length ≤ 2000 → (∀ t ∈ l, t.tx.length ≤ 500) → EV w → Calls Tryz.prog 134 #[v] w fun e w' => e = .returned (.tuple #[.string (ofL (spellR l).1), .int .i64 ((spellR l).2 : Int)]) ∧ Below w.heap.size w w'
  isWord : ∀ (s : ByteArray) (w : World), s.size ≤ 10000000 → EV w → Calls Tryz.prog 76 #[.string s] w fun e w' => e = .returned (.bool (isWordB s.data.toList)) ∧ Below w.heap.size w w'
  isText : ∀ (s : ByteArray) (w : World), s.size ≤ 10000000 → EV w → Calls Tryz.prog 199 #[.string s] w fun e w' => e = .returned (.bool (isTextB s.data.toList)) ∧ Below w.heap.size w w'
section
variable {EV : World → Prop} (C : LexC EV)
include C
end
end Go.Proofs.YtpmmchppfmojhaaGreatDoor


