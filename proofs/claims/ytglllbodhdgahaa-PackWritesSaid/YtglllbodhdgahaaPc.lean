/- Values that read as bytes and as strings; blocks known whole; worlds in which one block alone may have turned. -/
import Derived.Test.YtglllbodhdgahaaPb
import Derived.WalkKit
import Derived.WalkLawsBesides
import Derived.WalkSpells
import Derived.Below
import Derived.Lib.Hide
import Derived.LoopTactic
import Derived.Lib.OthersKept
import Derived.Deep.QuietTactic
import Derived.BigQuiet
import Derived.OwnWalk
import Derived.Maps.AppendAt
import Derived.WalkSmall
import Derived.Laws.OwnMore
import Derived.Laws.AppendOwnNone
import Derived.Lib.AppendStr
import Derived.Deep.RegionWith
import Derived.Deep.RegionHeld3
import Derived.Outline
namespace Go.Proofs.Ytglllbodhdgahaa
open Go.RowKit
set_option linter.unusedVariables false

/-- A value that reads as a list of bytes. -/
structure RdB (w : World) (v : Value) (l : List UInt8) : Prop where
  len : l.length ≤ 140737488355328
  form : ∃ a c, v = .slice a l.length c ∧ l.length ≤ c ∧ c ≤ 9223372036854775807 ∧ (l ≠ [] → ∃ b off, a = some ⟨b, off, none⟩ ∧ b < w.heap.size ∧ ∀ i, i < l.length → w.cell? ⟨b, off + i, none⟩ = some (.int .u8 (by8 (l.getD i 0))))
  nil_ : ∀ n c, v = .slice none n c → c = 0
theorem RdB.below {w w' : World} {v : Value} {l : List UInt8} (h : RdB w v l) (hb : Below w.heap.size w w') : RdB w' v l := by
  obtain ⟨hl, ⟨a, c, hv, h1, h2, hx⟩, hn⟩ := h
  refine ⟨hl, ⟨a, c, hv, h1, h2, fun hne => ?_⟩, hn⟩
  obtain ⟨b, off, ha, hlt, hc⟩ := hx hne
  exact ⟨b, off, ha, Nat.lt_of_lt_of_le hlt hb.size, fun i hi => (hb.cell (p := ⟨b, off + i, none⟩) hlt).trans (hc i hi)⟩
theorem RdB.drewN {w : World} {v : Value} {l : List UInt8} (h : RdB w v l) (n : Nat) : RdB (w.drewN n) v l := h.below (below_drewN (Below.refl _ _) n)
theorem RdB.drew {w : World} {v : Value} {l : List UInt8} (h : RdB w v l) : RdB w.drew v l := h.below (Below.refl _ _).drew
theorem RdB.alloc {w : World} {v : Value} {l : List UInt8} (h : RdB w v l) (o : Obj) : RdB (w.alloc o) v l := h.below ((Below.refl _ _).alloc (Nat.le_refl _) o)
theorem RdB.slice {w : World} {v : Value} {l : List UInt8} (h : RdB w v l) : ∃ a c, v = .slice a l.length c := by
  obtain ⟨_, ⟨a, c, hv, _⟩, _⟩ := h
  exact ⟨a, c, hv⟩
theorem rdB_nil (w : World) : RdB w (.slice none 0 0) [] := ⟨by simp, ⟨_, 0, rfl, by simp, by omega, fun h => absurd rfl h⟩, fun n c hc => by injection hc with _ _ h3; exact h3.symm⟩

def byteCells (l : List UInt8) : List Value := l.map fun b => Value.int .u8 (by8 b)
theorem byteCells_length (l : List UInt8) : (byteCells l).length = l.length := by simp [byteCells]
theorem byteCells_app (l r : List UInt8) : byteCells (l ++ r) = byteCells l ++ byteCells r := by simp [byteCells]
theorem add_none (g k : Nat) : (⟨g, 0, none⟩ : Addr).add k = ⟨g, 0 + k, none⟩ := by unfold Addr.add; split <;> simp_all
theorem add_off (g o k : Nat) : (⟨g, o, none⟩ : Addr).add k = ⟨g, o + k, none⟩ := by unfold Addr.add; split <;> simp_all
theorem RdB.of_own {w : World} {base n : Nat} {e : TypeId} {v : Value} {l : List UInt8} (h : w.ownsRow base e 1 v n (byteCells l)) (hl : l.length ≤ 140737488355328) : RdB w v l := by
  have hn : l.length = n := by have := h.1; simpa [byteCells] using this
  rcases h.2 with ⟨rfl, h0⟩ | ⟨g, cap, cur, rfl, hb, hg, hnc, hcap, hr⟩
  · exact ⟨hl, ⟨none, 0, by rw [hn, h0], by omega, by omega, fun hne => absurd (List.eq_nil_of_length_eq_zero (by omega)) hne⟩, fun n c hc => by injection hc with _ _ h3; exact h3.symm⟩
  · refine ⟨hl, ⟨_, cap, by rw [hn], by omega, by (have hm : maxLen = 9223372036854775807 := by decide); omega, fun hne => ⟨g, 0, rfl, (Array.getElem?_eq_some_iff.1 hg).1, fun i hi => ?_⟩⟩, fun n c hc => by injection hc with h1 _ _; cases h1⟩
    have := h.cells (g := g) rfl i (.int .u8 (by8 (l.getD i 0))) (by simp [byteCells, List.getD, List.getElem?_eq_getElem hi])
    rw [add_none] at this
    exact this

theorem ret_int {k : IntKind} {a b : Int} (h : a = b) : Ending.returned (.int k a) = .returned (.int k b) := by rw [h]
theorem ret_bool {a b : Bool} (h : a = b) : Ending.returned (.bool a) = .returned (.bool b) := by rw [h]
theorem ret_two {a b c d : Value} (h : a = c) (k : b = d) : Ending.returned (.tuple #[a, b]) = .returned (.tuple #[c, d]) := by rw [h, k]
theorem val_int {k : IntKind} {a b : Int} (h : a = b) : Value.int k a = .int k b := by rw [h]
theorem bthen {b : Nat} {w w1 w2 : World} (h : Below b w w1) (h2 : Below w1.heap.size w1 w2) (hs : b ≤ w1.heap.size) : Below b w w2 := h.trans (h2.mono hs)
theorem st {b : Nat} {w w1 w2 : World} (h : Below b w w1) (h2 : Below w1.heap.size w1 w2) (hs : b ≤ w1.heap.size) : Below b w w2 := h.trans (h2.mono hs)
/-- A call that changes nothing that was there. -/
def Ret (w : World) (v : Value) (e : Ending) (w' : World) : Prop := e = .returned v ∧ Below w.heap.size w w'
/-- A call that only computes, or reads memory in some order. -/
def Drn (w : World) (v : Value) (e : Ending) (w' : World) : Prop := e = .returned v ∧ ∃ n, w' = w.drewN n
theorem take_snocB (l : List UInt8) (k : Nat) (h : k < l.length) : l.take (k + 1) = l.take k ++ [l[k]?.getD 0] := by
  rw [List.take_succ_eq_append_getElem h, List.getElem?_eq_getElem h]; rfl

theorem Try.infoB : (Try.prog.info? 5).map (fun i => (i.zero, i.size, i.bytes)) = some (some (.int .u8 0), 1, 1) := by kernel_rfl
theorem Try.infoS : (Try.prog.info? 9).map (fun i => (i.zero, i.size, i.bytes)) = some (some (.string ByteArray.empty), 1, 16) := by kernel_rfl
theorem own_below {w w' : World} {base n : Nat} {e : TypeId} {size : Nat} {v : Value} {xs : List Value} (h : w.ownsRow base e size v n xs) (hb : Below w.heap.size w w') : w'.ownsRow base e size v n xs := by
  refine ⟨h.1, ?_⟩
  rcases h.2 with h0 | ⟨g, cap, cur, hv, hB, hg, hr⟩
  · exact .inl h0
  · exact .inr ⟨g, cap, cur, hv, hB, (hb.block g (Array.getElem?_eq_some_iff.1 hg).1).trans hg, hr⟩
theorem own_base {w : World} {base base' n : Nat} {e : TypeId} {size : Nat} {v : Value} {xs : List Value} (h : w.ownsRow base e size v n xs) (hb : base' ≤ base) : w.ownsRow base' e size v n xs := by
  refine ⟨h.1, ?_⟩
  rcases h.2 with h0 | ⟨g, cap, cur, hv, hB, hg, hr⟩
  · exact .inl h0
  · exact .inr ⟨g, cap, cur, hv, Nat.le_trans hb hB, hg, hr⟩

/-! ### Strings -/
def ofL (x : List UInt8) : ByteArray := ⟨x.toArray⟩
theorem ofL_list (x : List UInt8) : (ofL x).data.toList = x := rfl
theorem ofL_size (x : List UInt8) : (ofL x).size = x.length := by show x.toArray.size = _; simp
theorem ofL_inj {x y : List UInt8} (h : ofL x = ofL y) : x = y := by rw [← ofL_list x, h, ofL_list]
theorem ofL_nil : ofL [] = ⟨#[]⟩ := rfl
theorem of_data (B : ByteArray) : ofL B.data.toList = B := by cases B; simp [ofL]
/-- A value that reads as a list of strings. -/
structure RdT (w : World) (v : Value) (l : List (List UInt8)) : Prop where
  form : ∃ a c, v = .slice a l.length c ∧ (l ≠ [] → ∃ b off, a = some ⟨b, off, none⟩ ∧ b < w.heap.size ∧ ∀ i, i < l.length → w.cell? ⟨b, off + i, none⟩ = some (.string (ofL (l.getD i []))))
theorem RdT.below {w w' : World} {v : Value} {l : List (List UInt8)} (h : RdT w v l) (hb : Below w.heap.size w w') : RdT w' v l := by
  obtain ⟨a, c, hv, hx⟩ := h
  refine ⟨a, c, hv, fun hne => ?_⟩
  obtain ⟨b, off, ha, hlt, hc⟩ := hx hne
  exact ⟨b, off, ha, Nat.lt_of_lt_of_le hlt hb.size, fun i hi => (hb.cell (p := ⟨b, off + i, none⟩) hlt).trans (hc i hi)⟩
theorem RdT.slice {w : World} {v : Value} {l : List (List UInt8)} (h : RdT w v l) : ∃ a c, v = .slice a l.length c := by
  obtain ⟨a, c, hv, _⟩ := h
  exact ⟨a, c, hv⟩
def txCells (l : List (List UInt8)) : List Value := l.map fun x => Value.string (ofL x)
theorem txCells_app (l r : List (List UInt8)) : txCells (l ++ r) = txCells l ++ txCells r := by simp [txCells]
theorem rdT_nil (w : World) : RdT w (.slice none 0 0) [] := ⟨_, 0, rfl, fun h => absurd rfl h⟩
theorem RdT.of_own {w : World} {base n : Nat} {e : TypeId} {v : Value} {l : List (List UInt8)} (h : w.ownsRow base e 1 v n (txCells l)) : RdT w v l := by
  have hn : l.length = n := by have := h.1; simpa [txCells] using this
  rcases h.2 with ⟨rfl, h0⟩ | ⟨g, cap, cur, rfl, hb, hg, hnc, hcap, hr⟩
  · exact ⟨none, 0, by rw [hn, h0], fun hne => absurd (List.eq_nil_of_length_eq_zero (by omega)) hne⟩
  · refine ⟨_, cap, by rw [hn], fun hne => ⟨g, 0, rfl, (Array.getElem?_eq_some_iff.1 hg).1, fun i hi => ?_⟩⟩
    have := h.cells (g := g) rfl i (.string (ofL (l.getD i []))) (by simp [txCells, List.getD, List.getElem?_eq_getElem hi])
    rw [add_none] at this
    exact this

/-- What the call owns: bytes, strings. -/
def OwnB (w : World) (base : Nat) (e : TypeId) (v : Value) (l : List UInt8) : Prop := w.ownsRow base e 1 v l.length (byteCells l)
def OwnT (w : World) (base : Nat) (e : TypeId) (v : Value) (l : List (List UInt8)) : Prop := w.ownsRow base e 1 v l.length (txCells l)
theorem OwnB.rd {w : World} {base : Nat} {e : TypeId} {v : Value} {l : List UInt8} (h : OwnB w base e v l) (hl : l.length ≤ 140737488355328) : RdB w v l := RdB.of_own h hl
theorem OwnB.below {w w' : World} {base : Nat} {e : TypeId} {v : Value} {l : List UInt8} (h : OwnB w base e v l) (hb : Below w.heap.size w w') : OwnB w' base e v l := own_below h hb
theorem OwnT.below {w w' : World} {base : Nat} {e : TypeId} {v : Value} {l : List (List UInt8)} (h : OwnT w base e v l) (hb : Below w.heap.size w w') : OwnT w' base e v l := own_below h hb
theorem OwnB.base {w : World} {base base' : Nat} {e : TypeId} {v : Value} {l : List UInt8} (h : OwnB w base e v l) (hb : base' ≤ base) : OwnB w base' e v l := own_base h hb
theorem ownB_nil (w : World) (base : Nat) (e : TypeId) : OwnB w base e (.slice none 0 0) [] := World.ownsRow_nil _ _ _ _
theorem ownT_nil (w : World) (base : Nat) (e : TypeId) : OwnT w base e (.slice none 0 0) [] := World.ownsRow_nil _ _ _ _
/-- New bytes, the call's own. -/
def OwnPost (w : World) (l : List UInt8) (e : Ending) (w' : World) : Prop := ∃ v, e = .returned v ∧ OwnB w' w.heap.size 5 v l ∧ Below w.heap.size w w'

/-- An append of bytes, nil or not, onto some of the call's own. -/
theorem wpList_append_bytes {P : Program} {w : World} {ops : Array Oper} {rest : List Oper} {o : Oper} {a : Act} {Q : Exit → Act → World → Prop} (hgd : o.guard = none) (s x : Operand) (t : TypeId)
    (ho : o.op = .call { callee := .builtin .append, args := #[s, x], argTypes := #[t, t] })
    (base : Nat) (e : TypeId) (i : TypeInfo) (ht : P.underlying t = some (.slice e)) (hi : P.info? e = some i) (hz : i.zero = some (.int .u8 0)) (hsize : i.size = 1) (hby : i.bytes = 1)
    (v : Value) (n : Nat) (xs ys : List UInt8) (u : Value) (hs : a.eval s = v) (hown : w.ownsRow base e 1 v n (byteCells xs)) (hx : a.eval x = u) (hu : RdB w u ys)
    (h63 : n + ys.length ≤ 140737488355328) (hbase : base ≤ w.heap.size)
    (h : ∀ v' w', w'.ownsRow base e 1 v' (n + ys.length) (byteCells (xs ++ ys)) → w.grownBy w' v.ownBlock → wpList P ops Q rest (a.put o.dst v') w') : wpList P ops Q (o :: rest) a w := by
  obtain ⟨hl, ⟨ad, c, rfl, hc1, hc2, hc⟩, hn⟩ := hu
  rcases ad with _ | ad
  · have hys : ys = [] := by
      rcases Classical.em (ys = []) with h0 | h0
      · exact h0
      · obtain ⟨b, off, hb, _⟩ := hc h0
        cases hb
    subst hys
    have hc0 := hn _ _ rfl
    subst hc0
    refine wpList_append_own_none hgd s x t ho base e i 1 ht hi v n (byteCells xs) hs hown hx ?_
    exact h v w (by simpa using hown) (World.grownBy.refl w _)
  · refine wpList_append_own w hgd s x t ho base e i (.int .u8 0) 1 1 ht hi hz hsize hby rfl (by decide) v n (byteCells xs) hs hown ad ys.length c (byteCells ys) hx (by simp [byteCells]) ?_ ?_ (by (have hm : maxLen = 9223372036854775807 := by decide); omega) (by omega) hbase ?_
    · intro j u hj
      have hjl : j < ys.length := by
        rcases Nat.lt_or_ge j ys.length with h0 | h0
        · exact h0
        · rw [List.getElem?_eq_none (show (byteCells ys).length ≤ j by rw [byteCells_length]; exact h0)] at hj
          cases hj
      obtain ⟨b, off, hb, _, hcc⟩ := hc (List.ne_nil_of_length_pos (by omega))
      cases hb
      rw [add_off, hcc j hjl]
      simp [byteCells, List.getElem?_eq_getElem hjl] at hj
      rw [← hj]
      simp [List.getD, List.getElem?_eq_getElem hjl]
    · intro u hu
      simp only [byteCells, List.mem_map] at hu
      obtain ⟨y, _, rfl⟩ := hu
      rfl
    · intro v' w' h2 h3 _
      exact h v' w' (by rw [byteCells_app]; exact h2) h3

/-! ### Blocks -/
/-- A block known whole. -/
def Blk (B : Nat) (t : TypeId) (cs : Array Value) (W : World) : Prop := W.heap[B]? = some (.cells cs t (0, 0))
theorem Blk.lt {B : Nat} {t : TypeId} {cs : Array Value} {W : World} (h : Blk B t cs W) : B < W.heap.size := (Array.getElem?_eq_some_iff.1 h).1
theorem Blk.cell {B : Nat} {t : TypeId} {cs : Array Value} {W : World} (h : Blk B t cs W) (i : Nat) : W.cell? ⟨B, i, none⟩ = cs[i]? := by simp [World.cell?, show W.heap[B]? = _ from h]
theorem Blk.frozen {B : Nat} {t : TypeId} {cs : Array Value} {W : World} (h : Blk B t cs W) (i : Nat) : W.frozen? ⟨B, i, none⟩ = false := by simp [World.frozen?, show W.heap[B]? = _ from h]
theorem Blk.new (W : World) (t : TypeId) (cs : Array Value) : Blk W.heap.size t cs (W.alloc (.cells cs t)) := heap_alloc_new W _
theorem Blk.below {B : Nat} {t : TypeId} {cs : Array Value} {W W' : World} (h : Blk B t cs W) (hb : Below W.heap.size W W') : Blk B t cs W' := (hb.block B h.lt).trans h
theorem Blk.put {B : Nat} {t : TypeId} {cs : Array Value} {W : World} (h : Blk B t cs W) (i : Nat) (u : Value) : Blk B t (cs.setIfInBounds i u) (W.setCell ⟨B, i, none⟩ u) := by
  unfold Blk at h ⊢
  simp [World.setCell, Array.getElem?_modify, h]
/-- But for block g, what was there is as it was. -/
structure But (g : Nat) (w w' : World) : Prop where
  os : w'.os = w.os
  tape : w'.tape = w.tape
  output : w'.output = w.output
  size : w.heap.size ≤ w'.heap.size
  block : ∀ k, k < w.heap.size → k ≠ g → w'.heap[k]? = w.heap[k]?
theorem But.refl (g : Nat) (w : World) : But g w w := ⟨rfl, rfl, rfl, Nat.le_refl _, fun _ _ _ => rfl⟩
theorem But.trans {g : Nat} {a b c : World} (h : But g a b) (k : But g b c) : But g a c :=
  ⟨k.os.trans h.os, k.tape.trans h.tape, k.output.trans h.output, Nat.le_trans h.size k.size, fun i hi hg => (k.block i (Nat.lt_of_lt_of_le hi h.size) hg).trans (h.block i hi hg)⟩
theorem But.of_below {g : Nat} {w w' : World} (h : Below w.heap.size w w') : But g w w' := ⟨h.os, h.tape, h.output, h.size, fun k hk _ => h.block k hk⟩
theorem But.setCell (g : Nat) (w : World) (i : Nat) (u : Value) : But g w (w.setCell ⟨g, i, none⟩ u) :=
  ⟨rfl, rfl, rfl, by simp [World.setCell], fun k hk hg => Below.heap_setCell _ _ _ _ hg⟩
theorem But.drewN (g : Nat) (w : World) (n : Nat) : But g w (w.drewN n) := But.of_below (below_drewN (Below.refl _ _) n)
theorem But.below {g B : Nat} {w w' : World} (h : But g w w') (h1 : B ≤ g) (h2 : B ≤ w.heap.size) : Below B w w' := ⟨h.os, h.tape, h.output, h.size, fun k hk => h.block k (by omega) (by omega)⟩
theorem Blk.but {B g : Nat} {t : TypeId} {cs : Array Value} {W W' : World} (h : Blk B t cs W) (hb : But g W W') (hne : B ≠ g) : Blk B t cs W' := (hb.block B h.lt hne).trans h
def NoByte (cs : Array Value) : Prop := ∀ (i : Nat) (u : Value), cs[i]? = some u → ∀ n : Int, u ≠ Value.int .u8 n
theorem RdB.but {g : Nat} {t : TypeId} {cs : Array Value} {w w' : World} {v : Value} {l : List UInt8} (h : RdB w v l) (hg : Blk g t cs w) (hn : NoByte cs) (hb : But g w w') : RdB w' v l := by
  obtain ⟨hl, ⟨a, c, hv, h1, h2, hx⟩, hn0⟩ := h
  refine ⟨hl, ⟨a, c, hv, h1, h2, fun hne => ?_⟩, hn0⟩
  obtain ⟨b, off, ha, hlt, hc⟩ := hx hne
  have hbg : b ≠ g := by
    intro e
    subst e
    have h3 := hc 0 (List.length_pos_iff.2 hne)
    rw [hg.cell] at h3
    exact hn _ _ h3 _ rfl
  exact ⟨b, off, ha, Nat.lt_of_lt_of_le hlt hb.size, fun i hi => (World.cell?_of_block (w := w) (a := ⟨b, off + i, none⟩) (hb.block b hlt hbg)).trans (hc i hi)⟩

/-! ### Slicing -/
theorem RdB.take {w : World} {a : Option Addr} {n c : Nat} {l : List UInt8} (h : RdB w (.slice a n c) l) (k : Nat) (hk : k ≤ l.length) : RdB w (.slice a k c) (l.take k) := by
  obtain ⟨hl, ⟨a', c', hv, h1, h2, hx⟩, hn⟩ := h
  injection hv with e1 e2 e3
  subst e1
  subst e3
  have hlen : (l.take k).length = k := by rw [List.length_take]; omega
  refine ⟨by omega, ⟨a, c, by rw [hlen], by omega, h2, fun hne => ?_⟩, fun n' c' hc => hn n c' (by injection hc with q1 q2 q3; rw [q1, q3])⟩
  have hpos : 0 < k := by rw [← hlen]; exact List.length_pos_iff.2 hne
  obtain ⟨b, off, ha, hb, hc⟩ := hx (List.ne_nil_of_length_pos (by omega))
  refine ⟨b, off, ha, hb, fun i hi => ?_⟩
  rw [hlen] at hi
  rw [hc i (by omega)]
  simp only [List.getD_eq_getElem?_getD, List.getElem?_take]
  rw [if_pos hi]
/-- The value of b[k:], as the model reckons it. -/
def cutV (a : Option Addr) (k n c : Nat) : Value := .slice (if c = k then a else a.map (·.add (k * 1))) (n - k) (c - k)
theorem RdB.cut {w : World} {a : Option Addr} {n c : Nat} {l : List UInt8} (h : RdB w (.slice a n c) l) (k : Nat) (hk : k ≤ l.length) : RdB w (cutV a k n c) (l.drop k) := by
  obtain ⟨hl, ⟨a', c', hv, h1, h2, hx⟩, hn⟩ := h
  injection hv with e1 e2 e3
  subst e1
  subst e2
  subst e3
  have hlen : (l.drop k).length = l.length - k := by rw [List.length_drop]
  refine ⟨by omega, ⟨_, c - k, by rw [hlen]; rfl, by omega, by omega, fun hne => ?_⟩, fun n' c' hc => ?_⟩
  · have hpos : 0 < l.length - k := by rw [← hlen]; exact List.length_pos_iff.2 hne
    obtain ⟨b, off, ha, hb, hc⟩ := hx (List.ne_nil_of_length_pos (by omega))
    subst ha
    rw [if_neg (by omega)]
    refine ⟨b, off + k, by show some (Addr.add _ _) = _; rw [add_off, Nat.mul_one], hb, fun i hi => ?_⟩
    rw [hlen] at hi
    rw [Nat.add_assoc, hc (k + i) (by omega)]
    simp only [List.getD_eq_getElem?_getD, List.getElem?_drop]
  · injection hc with q1 q2 q3
    cases a with
    | none => have := hn _ _ rfl; omega
    | some y => split at q1 <;> cases q1
theorem cut_run {P : Program} {T e : TypeId} {i : TypeInfo} (hT : P.underlying T = some (.slice e)) (he : P.info? e = some i) (hi : i.size = 1) (a : Option Addr) (n c k : Nat) (hk : k ≤ n) (w : World) :
    (Instr.slice T (.slice a n c) (some (.int .i64 (k : Int))) none none).run P w = .ok (cutV a k n c) w ∧ (Instr.sliceAt T (.slice a n c) (some (.int .i64 (k : Int))) none none).run P w = .ok (cutV a k n c) w := by
  have hE : P.elem T = e := by unfold Program.elem; rw [hT]
  have h1 : (Instr.slice T (.slice a n c) (some (.int .i64 (k : Int))) none none).run P w = .ok (cutV a k n c) w := by
    rw [run_slice_l (P := P) (w := w) T a n c (by rw [hT, hE]) .i64 k (by omega) (by omega)]
    rw [hE]
    simp [sizeOf, typeInfo, he, hi, Result.andThen, cutV, sliced]
  refine ⟨h1, ?_⟩
  rw [run_sliceAt_slice (P := P) (w := w) T _ _ _ _ (by rw [hT, hE])]
  exact h1
/-- Bytes turned into a string. -/
theorem conv_rd {P : Program} {S D e : TypeId} (hs : P.underlying S = some (.slice e)) (he : P.underlying e = some (.int .u8)) (hd : P.underlying D = some .string)
    {w : World} {v : Value} {l : List UInt8} (h : RdB w v l) : (convert S D v).run P w = .ok (.string (ofL l)) w := by
  obtain ⟨hl, ⟨a, c, rfl, h1, h2, hx⟩, hn⟩ := h
  rcases Classical.em (l = []) with h0 | h0
  · subst h0
    first
      | (rcases a with _ | a
         · exact run_convert_bytes_nil w S e hs he 0 _ D hd
         · refine run_convert_bytes_back w S D e a c [] hs he hd (fun j hj => absurd hj (by simp)))
  · obtain ⟨b, off, rfl, hb, hc⟩ := hx h0
    refine run_convert_bytes_back w S D e _ c l hs he hd (fun j hj => ?_)
    rw [add_off, hc j hj]
    simp [by8, List.getD, List.getElem?_eq_getElem hj]

/-! ### Appends onto what the call owns -/
section
variable {P : Program} {ops : Array Oper} {rest : List Oper} {o : Oper} {a : Act} {Q : Exit → Act → World → Prop}
/-- One byte more. -/
theorem wpList_append_one {W w0 : World} {e : TypeId} {y : Int} (hgd : o.guard = none) (s x : Operand) (t : TypeId)
    (ho : o.op = .call { callee := .builtin .append, args := #[s, x], argTypes := #[t, t] })
    (base : Nat) (i : TypeInfo) (ht : P.underlying t = some (.slice e)) (hi : P.info? e = some i) (hz : i.zero = some (.int .u8 0)) (hsize : i.size = 1) (hby : i.bytes = 1)
    (v : Value) (pre : List UInt8) (c : UInt8) (hy : by8 c = y) (hs : a.eval s = v) (hown : OwnB w0 base e v pre) (hx : a.eval x = .slice (some ⟨w0.heap.size, 0, none⟩) 1 1)
    (hl : pre.length ≤ 100000000000) (hbase : base ≤ w0.heap.size) (hB : Below base W w0)
    (h : ∀ v' w', OwnB w' base e v' (pre ++ [c]) → Below base W w' → wpList P ops Q rest (a.put o.dst v') w') : wpList P ops Q (o :: rest) a (w0.alloc (.cells #[.int .u8 y] e)) := by
  refine wpList_append_own _ hgd s x t ho base e i (.int .u8 0) 1 1 ht hi hz hsize hby rfl (by decide) v pre.length (byteCells pre) hs (World.ownsRow.alloc hown _) ⟨w0.heap.size, 0, none⟩ 1 1 [.int .u8 y] hx rfl (cell_one_new _ _ _) (fun u hu => by simp at hu; subst hu; rfl) (by unfold maxLen; omega) (by omega) (by simp; omega) ?_
  intro v' w' h2 h3 _
  refine h v' w' ?_ ((hB.alloc hbase _).grown h3 (by simp; omega) (fun j e => (World.ownsRow.lt hown j e).1))
  have e2 : byteCells (pre ++ [c]) = byteCells pre ++ [.int .u8 y] := by rw [byteCells_app]; simp [byteCells, hy]
  unfold OwnB
  rw [e2, List.length_append, List.length_singleton]
  exact h2
/-- Bytes more. -/
theorem wpList_append_many {W w : World} (hgd : o.guard = none) (s x : Operand) (t : TypeId)
    (ho : o.op = .call { callee := .builtin .append, args := #[s, x], argTypes := #[t, t] })
    (base : Nat) (e : TypeId) (i : TypeInfo) (ht : P.underlying t = some (.slice e)) (hi : P.info? e = some i) (hz : i.zero = some (.int .u8 0)) (hsize : i.size = 1) (hby : i.bytes = 1)
    (v : Value) (xs ys : List UInt8) (u : Value) (hs : a.eval s = v) (hown : OwnB w base e v xs) (hx : a.eval x = u) (hu : RdB w u ys)
    (h63 : xs.length + ys.length ≤ 140737488355328) (hbase : base ≤ w.heap.size) (hB : Below base W w)
    (h : ∀ v' w', OwnB w' base e v' (xs ++ ys) → Below base W w' → wpList P ops Q rest (a.put o.dst v') w') : wpList P ops Q (o :: rest) a w := by
  refine wpList_append_bytes hgd s x t ho base e i ht hi hz hsize hby v xs.length xs ys u hs hown hx hu h63 hbase ?_
  intro v' w' h2 h3
  refine h v' w' (by unfold OwnB; rw [List.length_append]; exact h2) (hB.grown h3 hbase (fun j e => (World.ownsRow.lt hown j e).1))
theorem strCells_ofL (l : List UInt8) : Go.Lib.strCells (ofL l) = byteCells l := by
  unfold Go.Lib.strCells byteCells ofL by8
  simp
/-- The bytes of a string more. -/
theorem wpList_append_text {W w : World} (hgd : o.guard = none) (s x : Operand) (t u : TypeId)
    (ho : o.op = .call { callee := .builtin .append, args := #[s, x], argTypes := #[t, u] })
    (base : Nat) (e : TypeId) (i : TypeInfo) (ht : P.underlying t = some (.slice e)) (hu : P.underlying u = some .string) (hi : P.info? e = some i) (hz : i.zero = some (.int .u8 0)) (hsize : i.size = 1) (hby : i.bytes = 1)
    (v : Value) (xs ys : List UInt8) (hs : a.eval s = v) (hown : OwnB w base e v xs) (hx : a.eval x = .string (ofL ys))
    (h63 : xs.length + ys.length ≤ 140737488355328) (hbase : base ≤ w.heap.size) (hB : Below base W w)
    (h : ∀ v' w', OwnB w' base e v' (xs ++ ys) → Below base W w' → wpList P ops Q rest (a.put o.dst v') w') : wpList P ops Q (o :: rest) a w := by
  have hm : maxLen = 9223372036854775807 := by decide
  refine Go.Lib.wpList_append_own_string w hgd s x t u ho base e i ht hu hi hz hsize hby v xs.length (byteCells xs) hs hown (ofL ys) hx (by rw [ofL_size]; omega) (by rw [ofL_size]; omega) hbase ?_
  intro v' w' h2 h3 _
  rw [strCells_ofL, ofL_size] at h2
  refine h v' w' (by unfold OwnB; rw [List.length_append, byteCells_app]; exact h2) (hB.grown h3 hbase (fun j e => (World.ownsRow.lt hown j e).1))
/-- One string more. -/
theorem wpList_append_str {W w0 : World} {e : TypeId} {c : List UInt8} (hgd : o.guard = none) (s x : Operand) (t : TypeId)
    (ho : o.op = .call { callee := .builtin .append, args := #[s, x], argTypes := #[t, t] })
    (base : Nat) (i : TypeInfo) (ht : P.underlying t = some (.slice e)) (hi : P.info? e = some i) (hz : i.zero = some (.string ByteArray.empty)) (hsize : i.size = 1) (hby : i.bytes = 16)
    (v : Value) (pre : List (List UInt8)) (hs : a.eval s = v) (hown : OwnT w0 base e v pre) (hx : a.eval x = .slice (some ⟨w0.heap.size, 0, none⟩) 1 1)
    (hl : pre.length ≤ 1000000000000) (hbase : base ≤ w0.heap.size) (hB : Below base W w0)
    (h : ∀ v' w', OwnT w' base e v' (pre ++ [c]) → Below base W w' → wpList P ops Q rest (a.put o.dst v') w') : wpList P ops Q (o :: rest) a (w0.alloc (.cells #[.string (ofL c)] e)) := by
  refine wpList_append_own _ hgd s x t ho base e i (.string ByteArray.empty) 1 16 ht hi hz hsize hby rfl (by decide) v pre.length (txCells pre) hs (World.ownsRow.alloc hown _) ⟨w0.heap.size, 0, none⟩ 1 1 [.string (ofL c)] hx rfl (cell_one_new _ _ _) (fun u hu => by simp at hu; subst hu; rfl) (by unfold maxLen; omega) (by omega) (by simp; omega) ?_
  intro v' w' h2 h3 _
  refine h v' w' ?_ ((hB.alloc hbase _).grown h3 (by simp; omega) (fun j e => (World.ownsRow.lt hown j e).1))
  have e2 : txCells (pre ++ [c]) = txCells pre ++ [.string (ofL c)] := by rw [txCells_app]; rfl
  unfold OwnT
  rw [e2, List.length_append, List.length_singleton]
  exact h2
end
end Go.Proofs.Ytglllbodhdgahaa
