/- Of the reference: minimal: what it holds while it searches. -/
import Derived.Test.YtiljagfjgefnnaaAh
namespace Go.Proofs.Ytiljagfjgefnnaa
open Go.RowKit
set_option linter.unusedVariables false

theorem rd_grown {α : Type} {k : Nat} {enc : α → List Value} {w w' : World} {v : Value} {l : List α} {row : Option Nat} (h : Rd k enc w v l) (hg : w.grownBy w' row) (hne : ∀ b, v.ownBlock = some b → row ≠ some b) : Rd k enc w' v l := by
  obtain ⟨⟨a, c, rfl, h1, h2, hx⟩, hn⟩ := h
  refine ⟨⟨a, c, rfl, h1, h2, fun hl => ?_⟩, hn⟩
  obtain ⟨b, off, ha, hlt, hc⟩ := hx hl
  subst ha
  exact ⟨b, off, rfl, Nat.lt_of_lt_of_le hlt hg.size, fun i x hi j u hu => (World.cell?_of_block (w := w) (a := ⟨b, off + i * k + j, none⟩) (hg.block b hlt (fun e => hne b rfl e.symm))).trans (hc i x hi j u hu)⟩
structure RowsOk (w : World) (raws : List RawS) (l : List (List Nat)) : Prop where
  len : raws.length = l.length
  rd : ∀ (i : Nat) (h : i < raws.length) (h' : i < l.length), Rd 1 encN w (.slice raws[i].a raws[i].n raws[i].c) l[i]
  lt : ∀ x ∈ raws, ∀ b, (Value.slice x.a x.n x.c).ownBlock = some b → b < w.heap.size
def ApR (raws : List RawS) (v : Value) : Prop := ∀ x ∈ raws, Apart v (.slice x.a x.n x.c)
theorem RowsOk.below {w w' : World} {raws : List RawS} {l : List (List Nat)} (h : RowsOk w raws l) (hb : Below w.heap.size w w') : RowsOk w' raws l :=
  ⟨h.len, fun i a b => (h.rd i a b).below hb, fun x hx b hb' => Nat.lt_of_lt_of_le (h.lt x hx b hb') hb.size⟩
theorem rowsOk_nil (w : World) : RowsOk w [] [] := ⟨rfl, fun i h _ => by simp at h, fun x h => by cases h⟩
theorem apR_nil (v : Value) : ApR [] v := fun x h => by cases h
theorem RowsOk.grown {w w' : World} {raws : List RawS} {l : List (List Nat)} {row : Option Nat} (h : RowsOk w raws l) (hg : w.grownBy w' row) (hne : ∀ x ∈ raws, ∀ b, (Value.slice x.a x.n x.c).ownBlock = some b → row ≠ some b) : RowsOk w' raws l :=
  ⟨h.len, fun i a b => rd_grown (h.rd i a b) hg (hne _ (List.getElem_mem a)), fun x hx b hb' => Nat.lt_of_lt_of_le (h.lt x hx b hb') hg.size⟩
section
variable {α : Type} {k : Nat} {enc : α → List Value} {w0 w' : World} {base : Nat} {e : TypeId} {v v' : Value} {l : List α}
theorem Lie.rows (h : Lie k enc base e w0 v l v' w') {raws : List RawS} {m : List (List Nat)} (hr : RowsOk w0 raws m) (ha : ApR raws v) : RowsOk w' raws m ∧ ApR raws v' := by
  obtain ⟨_, _, h3, h4⟩ := h
  refine ⟨hr.grown h3 (fun x hx b hb e => ha x hx b e hb), fun x hx b hb hx' => ?_⟩
  rcases h4 b hb with h5 | h5
  · exact ha x hx b h5 hx'
  · have := hr.lt x hx b hx'
    omega
/-- A row of another type. -/
theorem Lie.kind (h : Lie k enc base e w0 v l v' w') (hv : Own1 k enc w0 base e v []  ∨ ∃ l0, Own1 k enc w0 base e v l0) {β : Type} {k' : Nat} {enc' : β → List Value} {base' : Nat} {e' : TypeId} {u : Value} {m : List β} (ho : Own1 k' enc' w0 base' e' u m) (hne : e' ≠ e) : Own1 k' enc' w' base' e' u m := by
  refine own_grown ho h.2.2.1 (fun g hg e1 => ?_)
  obtain ⟨_, cs, hb⟩ := own_blk ho g hg
  rcases hv with hv | ⟨l0, hv⟩
  · exact own_type hv hb hne e1
  · exact own_type hv hb hne e1
end
theorem own_apart {α β : Type} {k k' : Nat} {enc : α → List Value} {enc' : β → List Value} {w : World} {base base' : Nat} {e e' : TypeId} {v u : Value} {l : List α} {m : List β} (h : Own1 k enc w base e v l) (ho : Own1 k' enc' w base' e' u m) (hne : e' ≠ e) : Apart v u := fun b hb hu => by
  obtain ⟨_, cs, hb2⟩ := own_blk ho b hu
  exact own_type h hb2 hne hb
def RowsLo (base gout : Nat) (raws : List RawS) : Prop := ∀ x ∈ raws, ∀ b, (Value.slice x.a x.n x.c).ownBlock = some b → base ≤ b ∧ b ≠ gout
/-- The three rows that grow, the rows that are done, what is made. -/
structure MS1 (w : World) (base gout : Nat) (v4 v5 v8 vN vF : Value) (f4 f5 f8 : List Nat) (rawsN raws : List RawS) (l : List (List Nat)) (acc : List Bool) : Prop where
  o4 : Own1 1 encN w base 3 v4 f4
  o5 : Own1 1 encN w base 3 v5 f5
  o8 : Own1 1 encN w base 3 v8 f8
  a45 : Apart v4 v5
  a48 : Apart v4 v8
  a58 : Apart v5 v8
  rows : RowsOk w raws l
  rlo : RowsLo base gout raws
  r4 : ApR raws v4
  r5 : ApR raws v5
  r8 : ApR raws v8
  rN : ApR raws vN
  rF : ApR raws vF
  oN : Own1 1 encS w base 56 vN rawsN
  oF : Own1 1 encO w base 4 vF acc
structure MS (w : World) (base gout : Nat) (v4 v5 v8 vN vF : Value) (f4 f5 f8 : List Nat) (raws : List RawS) (l : List (List Nat)) (acc : List Bool) : Prop extends MS1 w base gout v4 v5 v8 vN vF f4 f5 f8 raws raws l acc where
  ko : Blk gout 25 #[.int .i64 0, vN, vF] w
section
variable {w w' : World} {base gout : Nat} {v4 v5 v8 vN vF u : Value} {f4 f5 f8 : List Nat} {rawsN raws : List RawS} {l : List (List Nat)} {acc : List Bool} {x : Nat}
theorem MS1.below (h : MS1 w base gout v4 v5 v8 vN vF f4 f5 f8 rawsN raws l acc) (hb : Below w.heap.size w w') : MS1 w' base gout v4 v5 v8 vN vF f4 f5 f8 rawsN raws l acc :=
  ⟨own_below h.o4 hb, own_below h.o5 hb, own_below h.o8 hb, h.a45, h.a48, h.a58, h.rows.below hb, h.rlo, h.r4, h.r5, h.r8, h.rN, h.rF, own_below h.oN hb, own_below h.oF hb⟩
theorem MS.below (h : MS w base gout v4 v5 v8 vN vF f4 f5 f8 raws l acc) (hb : Below w.heap.size w w') : MS w' base gout v4 v5 v8 vN vF f4 f5 f8 raws l acc := ⟨h.toMS1.below hb, Blk.below h.ko hb⟩
theorem MS.g4 (h : MS w base gout v4 v5 v8 vN vF f4 f5 f8 raws l acc) (y : Lie 1 encN base 3 w v4 (f4 ++ [x]) u w') : MS w' base gout u v5 v8 vN vF (f4 ++ [x]) f5 f8 raws l acc := by
  obtain ⟨p1, p2⟩ := y.other h.o5 h.a45
  obtain ⟨q1, q2⟩ := y.other h.o8 h.a48
  obtain ⟨s1, s2⟩ := y.rows h.rows h.r4
  exact ⟨⟨y.1, p1, q1, p2, q2, h.a58, s1, h.rlo, s2, h.r5, h.r8, h.rN, h.rF, y.kind (.inr ⟨_, h.o4⟩) h.oN (by decide), y.kind (.inr ⟨_, h.o4⟩) h.oF (by decide)⟩, (y.blk h.ko (own_type h.o4 h.ko (by decide))).1⟩
theorem MS.g5 (h : MS w base gout v4 v5 v8 vN vF f4 f5 f8 raws l acc) (y : Lie 1 encN base 3 w v5 (f5 ++ [x]) u w') : MS w' base gout v4 u v8 vN vF f4 (f5 ++ [x]) f8 raws l acc := by
  obtain ⟨p1, p2⟩ := y.other h.o4 h.a45.symm
  obtain ⟨q1, q2⟩ := y.other h.o8 h.a58
  obtain ⟨s1, s2⟩ := y.rows h.rows h.r5
  exact ⟨⟨p1, y.1, q1, p2.symm, h.a48, q2, s1, h.rlo, h.r4, s2, h.r8, h.rN, h.rF, y.kind (.inr ⟨_, h.o5⟩) h.oN (by decide), y.kind (.inr ⟨_, h.o5⟩) h.oF (by decide)⟩, (y.blk h.ko (own_type h.o5 h.ko (by decide))).1⟩
theorem MS.g8 (h : MS w base gout v4 v5 v8 vN vF f4 f5 f8 raws l acc) (y : Lie 1 encN base 3 w v8 (f8 ++ [x]) u w') : MS w' base gout v4 v5 u vN vF f4 f5 (f8 ++ [x]) raws l acc := by
  obtain ⟨p1, p2⟩ := y.other h.o4 h.a48.symm
  obtain ⟨q1, q2⟩ := y.other h.o5 h.a58.symm
  obtain ⟨s1, s2⟩ := y.rows h.rows h.r8
  exact ⟨⟨p1, q1, y.1, h.a45, p2.symm, q2.symm, s1, h.rlo, h.r4, h.r5, s2, h.rN, h.rF, y.kind (.inr ⟨_, h.o8⟩) h.oN (by decide), y.kind (.inr ⟨_, h.o8⟩) h.oF (by decide)⟩, (y.blk h.ko (own_type h.o8 h.ko (by decide))).1⟩
/-- A row is put onto what is made. -/
theorem MS1.gN (h : MS1 w base gout v4 v5 v8 vN vF f4 f5 f8 rawsN raws l acc) {X : RawS} (y : Lie 1 encS base 56 w vN (rawsN ++ [X]) u w') : MS1 w' base gout v4 v5 v8 u vF f4 f5 f8 (rawsN ++ [X]) raws l acc := by
  obtain ⟨s1, s2⟩ := y.rows h.rows h.rN
  exact ⟨y.kind (.inr ⟨_, h.oN⟩) h.o4 (by decide), y.kind (.inr ⟨_, h.oN⟩) h.o5 (by decide), y.kind (.inr ⟨_, h.oN⟩) h.o8 (by decide), h.a45, h.a48, h.a58, s1, h.rlo, h.r4, h.r5, h.r8, s2, h.rF, y.1, y.kind (.inr ⟨_, h.oN⟩) h.oF (by decide)⟩
theorem MS1.gF (h : MS1 w base gout v4 v5 v8 vN vF f4 f5 f8 rawsN raws l acc) {X : Bool} (y : Lie 1 encO base 4 w vF (acc ++ [X]) u w') : MS1 w' base gout v4 v5 v8 vN u f4 f5 f8 rawsN raws l (acc ++ [X]) := by
  obtain ⟨s1, s2⟩ := y.rows h.rows h.rF
  exact ⟨y.kind (.inr ⟨_, h.oF⟩) h.o4 (by decide), y.kind (.inr ⟨_, h.oF⟩) h.o5 (by decide), y.kind (.inr ⟨_, h.oF⟩) h.o8 (by decide), h.a45, h.a48, h.a58, s1, h.rlo, h.r4, h.r5, h.r8, h.rN, s2, y.kind (.inr ⟨_, h.oF⟩) h.oN (by decide), y.1⟩
theorem grown_set (w : World) (G i : Nat) (u : Value) : w.grownBy (w.setCell ⟨G, i, none⟩ u) (some G) := ⟨rfl, rfl, rfl, by simp [World.setCell], fun k _ hk => Below.heap_setCell _ _ _ _ (fun e => hk (by rw [e]))⟩
theorem MS1.set (h : MS1 w base gout v4 v5 v8 vN vF f4 f5 f8 rawsN raws l acc) {cs : Array Value} (k : Blk gout 25 cs w) (i : Nat) (z : Value) : MS1 (w.setCell ⟨gout, i, none⟩ z) base gout v4 v5 v8 vN vF f4 f5 f8 rawsN raws l acc := by
  have hg := grown_set w gout i z
  have hx : ∀ {α : Type} {k2 : Nat} {enc : α → List Value} {e : TypeId} {v : Value} {m : List α}, Own1 k2 enc w base e v m → 25 ≠ e → Own1 k2 enc (w.setCell ⟨gout, i, none⟩ z) base e v m := fun ho hne => own_grown ho hg (fun g hgv e1 => by
    injection e1 with e1
    exact own_type ho k hne (by rw [e1]; exact hgv))
  exact ⟨hx h.o4 (by decide), hx h.o5 (by decide), hx h.o8 (by decide), h.a45, h.a48, h.a58, h.rows.grown hg (fun x hx b hb e1 => by
    injection e1 with e1
    exact (h.rlo x hx b hb).2 e1.symm), h.rlo, h.r4, h.r5, h.r8, h.rN, h.rF, hx h.oN (by decide), hx h.oF (by decide)⟩
theorem RowsOk.snoc (h : RowsOk w raws l) {p : Option Addr} {q : Nat} {m : List Nat} (hr : Rd 1 encN w (.slice p m.length q) m) (hlt : ∀ b, (Value.slice p m.length q).ownBlock = some b → b < w.heap.size) : RowsOk w (raws ++ [⟨p, m.length, q⟩]) (l ++ [m]) := by
  refine ⟨by simp [h.len], fun i a b => ?_, fun x hx => ?_⟩
  · rcases Nat.lt_or_ge i raws.length with h1 | h1
    · have h2 : i < l.length := by have := h.len; omega
      simpa [List.getElem_append, h1, h2] using h.rd i h1 h2
    · have h2 : ¬ i < l.length := by have := h.len; omega
      have h3 : ¬ i < raws.length := by omega
      simpa [List.getElem_append, h3, h2] using hr
  · rcases List.mem_append.1 hx with h1 | h1
    · exact h.lt x h1
    · rw [List.mem_singleton] at h1
      subst h1
      exact hlt
theorem apR_snoc {v : Value} {X : RawS} (h : ApR raws v) (hx : Apart v (.slice X.a X.n X.c)) : ApR (raws ++ [X]) v := fun y hy => by
  rcases List.mem_append.1 hy with h1 | h1
  · exact h y h1
  · rw [List.mem_singleton] at h1
    subst h1
    exact hx
/-- The row is done. -/
theorem MS1.fin {p : Option Addr} {n q : Nat} {m : List Nat} (hn : m.length = n) (h : MS1 w base gout v4 v5 (.slice p n q) vN vF f4 f5 m (raws ++ [⟨p, n, q⟩]) raws l acc) (ko : Blk gout 25 #[.int .i64 0, vN, vF] w) : MS w base gout v4 v5 (.slice none 0 0) vN vF f4 f5 [] (raws ++ [⟨p, n, q⟩]) (l ++ [m]) acc := by
  subst hn
  have h8 := h.o8
  refine ⟨⟨h.o4, h.o5, own1_nil _ _ _, h.a45, apart_nil _, apart_nil _, h.rows.snoc (h8.rd encN_len) (fun b hb => (own_lt h8 b hb).2), fun x hx b hb => ?_, apR_snoc h.r4 h.a48, apR_snoc h.r5 h.a58, (fun x _ b hb => by cases hb), apR_snoc h.rN (own_apart (u := .slice p m.length q) h.oN h8 (by decide)), apR_snoc h.rF (own_apart (u := .slice p m.length q) h.oF h8 (by decide)), h.oN, h.oF⟩, ko⟩
  rcases List.mem_append.1 hx with h1 | h1
  · exact h.rlo x h1 b hb
  · rw [List.mem_singleton] at h1
    subst h1
    exact ⟨(own_lt h8 b hb).1, fun e => own_type h8 ko (by decide) (by rw [← e]; exact hb)⟩
end
section
variable {α : Type} {k : Nat} {enc : α → List Value}
variable {P : Program} {ops : Array Oper} {o : Oper} {a : Act} {K : Act → World → Prop} {Q : Exit → Act → World → Prop} {E : Prop}
/-- An append of what lies in a block, at a step of a region that draws. -/
theorem step_append_blk {w : World} {e : TypeId} {cs : Array Value} {x : α} {N : Nat} (hgd : o.guard = none) (s y : Operand) (t : TypeId)
    (ho : o.op = .call { callee := .builtin .append, args := #[s, y], argTypes := #[t, t] })
    (base : Nat) (i : TypeInfo) (z : Value) (by_ : Nat) (ht : P.underlying t = some (.slice e)) (hi : P.info? e = some i) (hz : i.zero = some z) (hsize : i.size = k) (hby : i.bytes = by_) (hb64 : by_ ≤ 64) (hzs : z.cells.size = k) (hk0 : 0 < k)
    (hk : ∀ x : α, (enc x).length = k) (h1c : ∀ x : α, ∀ u ∈ enc x, u.oneCell' = true)
    (v : Value) (l : List α) (hcs : cs.toList = enc x) (hs : a.eval s = v) (hown : Own1 k enc w base e v l) (hx : a.eval y = .slice (some ⟨N, 0, none⟩) 1 1) (hN : Blk N e cs w)
    (hl : l.length ≤ 1000000000) (hbase : base ≤ w.heap.size)
    (h : ∀ v' w', Lie k enc base e w v (l ++ [x]) v' w' → K (a.put o.dst v') w') : if Region.wanted o (yielded ops a.tmps) = true then Oper.wp P o a w K Q else E := by
  refine step_append_lies w hgd s y t ho base e i z k by_ ht hi hz hsize hby hzs hk0 v l.length (l.flatMap enc) hs hown ⟨N, 0, none⟩ 1 1 cs.toList hx (by rw [hcs, hk, Nat.one_mul]) (fun j u hj => ?_) (fun u hu => h1c x u (by rw [← hcs]; exact hu)) (by omega) (by unfold maxLen; omega) (Nat.le_trans (Nat.mul_le_mul_left _ hb64) (by omega)) hbase _ rfl ?_
  · rw [add_off, hN.cell, Nat.zero_add, ← Array.getElem?_toList]
    exact hj
  · intro g cap w' h2 h3 h4 h5
    refine h _ w' ⟨?_, (Below.refl base w).grown h3 hbase (fun j e => (World.ownsRow.lt hown j e).1), h3, fun b hb => ?_⟩
    · unfold Own1
      rw [List.flatMap_append, List.length_append, List.flatMap_cons, List.flatMap_nil, List.append_nil, ← hcs]
      exact h2
    · have hgb : g = b := by
        have : (some g : Option Nat) = some b := hb
        injection this
      subst hgb
      rcases h4 with h4 | h4
      · exact .inl h4
      · exact .inr (by omega)
end
def put3 (W : World) (B : Nat) (a b c : Value) : World := ((W.setCell ⟨B, 0, none⟩ a).setCell ⟨B, 1, none⟩ b).setCell ⟨B, 2, none⟩ c
theorem put3_ok {W : World} {B n : Nat} {t : TypeId} {a b c a' b' c' : Value} (h : Blk B t #[a, b, c] W) (hn : n ≤ B) : Blk B t #[a', b', c'] (put3 W B a' b' c') ∧ Below n W (put3 W B a' b' c') := by
  refine ⟨?_, (((Below.refl n W).setCell hn a').setCell hn b').setCell hn c'⟩
  exact ((h.put 0 a').put 1 b').put 2 c'
theorem put3_grown (W : World) (B : Nat) (a b c : Value) : W.grownBy (put3 W B a b c) (some B) := ((grown_set W B 0 a).trans (grown_set _ B 1 b)).trans (grown_set _ B 2 c)
theorem resD2 {W : World} {tm : Array Value} {B : Nat} {t : TypeId} {a b c : Value} (t2 : tm[2]?.getD undef = .pointer (some ⟨B, 0, none⟩)) (h : Blk B t #[a, b, c] W) :
    (results Try.f41 tm).run Try.prog W = .ok (.agg #[a, b, c]) W := by
  have a0 : W.cell? ⟨B, 0, none⟩ = some a := h.cell 0
  have a1 : W.cell? ⟨B, 1, none⟩ = some b := h.cell 1
  have a2 : W.cell? ⟨B, 2, none⟩ = some c := h.cell 2
  simp [results, Try.f41, go_sem, t2, a0, a1, a2]
theorem outN_succ (A : Aut) (cl : Nat → Nat) (i : Nat) : outN A cl (i + 1) = outN A cl i ++ [rowsK A cl i] := by
  unfold outN
  rw [List.range_succ, List.map_append, List.map_singleton]
theorem outF_pre {A : Aut} {fd F : List Nat} {i : Nat} (hp : fd <+: F) (hi : i < fd.length) : ((List.range (i + 1)).map fun j => A.f (F.getD j 0)) = ((List.range i).map fun j => A.f (fd.getD j 0)) ++ [A.f (fd.getD i 0)] := by
  rw [List.range_succ, List.map_append, List.map_singleton, pre_getD hp hi]
  congr 1
  refine List.map_congr_left fun j hj => ?_
  rw [pre_getD hp (by have := List.mem_range.1 hj; omega)]
theorem outF_succ {A : Aut} {cl : Nat → Nat} {i : Nat} (h : i < (fdK A cl i).length) : outF A cl (i + 1) = outF A cl i ++ [A.f ((fdK A cl i).getD i 0)] := by
  have hp := fdK_pre A cl i
  unfold outF
  generalize fdK A cl (i + 1) = F at hp ⊢
  exact outF_pre hp h
theorem outN_len (A : Aut) (cl : Nat → Nat) (m : Nat) : (outN A cl m).length = m := by unfold outN; simp
theorem outF_len (A : Aut) (cl : Nat → Nat) (m : Nat) : (outF A cl m).length = m := by unfold outF; simp
def MinP (r : RawD) (w : World) (e : Ending) (w' : World) : Prop := ∃ (m : Nat) (cl : Nat → Nat) (a1 : Option Addr) (c1 : Nat) (a2 : Option Addr) (c2 : Nat) (raws : List RawS), Cls (toA r) cl ∧ Stop (toA r) cl m ∧ e = .returned (.agg #[.int .i64 0, .slice a1 m c1, .slice a2 m c2]) ∧ Own1 1 encS w' w.heap.size 56 (.slice a1 m c1) raws ∧ RowsOk w' raws (outN (toA r) cl m) ∧ (∀ x ∈ raws, ∀ b, (Value.slice x.a x.n x.c).ownBlock = some b → w.heap.size ≤ b) ∧ Own1 1 encO w' w.heap.size 4 (.slice a2 m c2) (outF (toA r) cl m) ∧ Below w.heap.size w w'
/-- Lengths of what has been found. -/
theorem row_len_le {A : Aut} {cl : Nat → Nat} (hA : A.Ok) {fd : List Nat} (h : FdOk A cl fd) {s : Nat} (hs : s < A.n) {c : Nat} (hc : c ≤ 11) : (rowK A cl fd s c).2.length ≤ A.n := (FdOk.row hA h hs c hc).len
end Go.Proofs.Ytiljagfjgefnnaa
