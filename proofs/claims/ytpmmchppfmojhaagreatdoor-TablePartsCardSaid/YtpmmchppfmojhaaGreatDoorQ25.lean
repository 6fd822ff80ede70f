/- What the row stands on, part 25. -/
import Derived.Test.YtpmmchppfmojhaaGreatDoorQ24

/- The region of the law TableParts that makes `both`, in whatever order. (Written by wip/gen/gen12_boo.py.) -/
namespace Go.Proofs.YtpmmchppfmojhaaGreatDoor
open Go.RowKit
set_option linter.unusedVariables false

section
variable {α : Type} {k : Nat} {enc : α → List Value}
variable {P : Program} {ops : Array Oper} {o : Oper} {a : Act} {K : Act → World → Prop} {Q : Exit → Act → World → Prop} {E : Prop}
/-- A list more, within a region that draws: what it grew. -/
theorem step_append_rdB {w : World} {e : TypeId} (hgd : o.guard = none) (s y : Operand) (t : TypeId)
    (ho : o.op = .call { callee := .builtin .append, args := #[s, y], argTypes := #[t, t] })
    (base : Nat) (i : TypeInfo) (z : Value) (by_ : Nat) (ht : P.underlying t = some (.slice e)) (hi : P.info? e = some i) (hz : i.zero = some z) (hsize : i.size = k) (hby : i.bytes = by_) (hb64 : by_ ≤ 512) (hzs : z.cells.size = k) (hk0 : 0 < k)
    (hk : ∀ x : α, (enc x).length = k) (h1c : ∀ x : α, ∀ u ∈ enc x, u.oneCell' = true)
    (v : Value) (l r : List α) (u : Value) (hs : a.eval s = v) (hown : Own1 k enc w base e v l) (hx : a.eval y = u) (hu : Rd k enc w u r)
    (hl : l.length + r.length ≤ 1000000) (hbase : base ≤ w.heap.size)
    (h : ∀ v' w', Own1 k enc w' base e v' (l ++ r) → w.grownBy w' v.ownBlock → K (a.put o.dst v') w') : if Region.wanted o (yielded ops a.tmps) = true then Oper.wp P o a w K Q else E := by
  have hw : Region.wanted o (yielded ops a.tmps) = true := by simp [Region.wanted, hgd]
  rw [if_pos hw]
  obtain ⟨⟨ad, c, rfl, hc1, hc2, hc⟩, hn⟩ := hu
  rcases ad with _ | ad
  · have hr : r = [] := by
      rcases Classical.em (r = []) with h0 | h0
      · exact h0
      · obtain ⟨b, off, hb, _⟩ := hc h0
        cases hb
    subst hr
    have hc0 := hn _ _ rfl
    subst hc0
    have hrun := run_append_owned_none (P := P) (w := w) base t o.type e i k ht hi v l.length (l.flatMap enc) hown
    have hx' : a.eval y = .slice none 0 0 := hx
    unfold Oper.wp
    simp [execOp, ho, resolve, invoke, builtin, hs, hx', hrun, Result.andThen]
    exact h v w (by simpa using hown) ⟨rfl, rfl, rfl, Nat.le_refl _, fun _ _ _ => rfl⟩
  · refine wp_append_own w s y t ho base e i z k by_ ht hi hz hsize hby hzs hk0 v l.length (l.flatMap enc) hs hown ad r.length c (r.flatMap enc) hx (flat_len hk r) ?_ ?_ (by unfold maxLen; omega) (Nat.le_trans (Nat.mul_le_mul_left _ hb64) (by omega)) hbase ?_
    · intro j u hj
      obtain ⟨i', x, jj, h1, h2, h3⟩ := flat_inv hk r j u hj
      obtain ⟨b, off, hb, _, hcc⟩ := hc (fun e => by rw [e] at h1; simp at h1)
      cases hb
      rw [add_off, h3, ← Nat.add_assoc]
      exact hcc i' x h1 jj u h2
    · intro u hu
      obtain ⟨x, _, hx⟩ := List.mem_flatMap.1 hu
      exact h1c x u hx
    · intro v' w' h2 h3 _
      refine h v' w' ?_ h3
      unfold Own1
      rw [List.flatMap_append, List.length_append]
      exact h2
/-- How far one of the lists is: not made, made, with the first, with both. -/
def Ch (k : Nat) (enc : α → List Value) (ty : TypeId) (N : Nat) (l r : List α) : Nat → Value → Value → Value → World → Prop
  | 0, _, _, _, _ => True
  | 1, x, _, _, w => Own1 k enc w N ty x []
  | 2, _, y, _, w => Own1 k enc w N ty y l
  | _ + 3, _, _, z, w => Own1 k enc w N ty z (l ++ r)
theorem Ch.below {ty : TypeId} {N : Nat} {l r : List α} {c : Nat} {x y z : Value} {w w' : World} (h : Ch k enc ty N l r c x y z w) (hb : Below w.heap.size w w') : Ch k enc ty N l r c x y z w' := by
  rcases c with _ | _ | _ | c
  · trivial
  · exact Own1.below h hb
  · exact Own1.below h hb
  · exact Own1.below h hb
theorem Ch.grown {β : Type} {k' : Nat} {enc' : β → List Value} {ty ty' : TypeId} {N N' : Nat} {l r : List α} {l' : List β} {c : Nat} {x y z v : Value} {w w' : World} (h : Ch k enc ty N l r c x y z w) (hv : Own1 k' enc' w N' ty' v l') (hg : w.grownBy w' v.ownBlock) (hne : ty ≠ ty') : Ch k enc ty N l r c x y z w' := by
  rcases c with _ | _ | _ | c
  · trivial
  · exact Own1.fw h (Fw.of_grown hg) (fun b hb hs => Own1.apart h hv hne b hb hs)
  · exact Own1.fw h (Fw.of_grown hg) (fun b hb hs => Own1.apart h hv hne b hb hs)
  · exact Own1.fw h (Fw.of_grown hg) (fun b hb hs => Own1.apart h hv hne b hb hs)
theorem blk_grown {ty ty' : TypeId} {N g : Nat} {cs : Array Value} {l : List α} {v : Value} {w w' : World} (h : Blk g ty' cs w) (hv : Own1 k enc w N ty v l) (hg : w.grownBy w' v.ownBlock) (hne : ty ≠ ty') : Blk g ty' cs w' :=
  (hg.block g h.lt (fun e => by obtain ⟨cs', h'⟩ := hv.ty g e.symm; exact hne (h'.ty_eq h))).trans h
end
/-- What is known while `both` is made. -/
structure BoJ (W0 : World) (l1 l2 : List RawLo) (m1 m2 : List (Str × Str)) (n1 n2 : List Nea) (c1 c2 c3 e d : Nat) (x1 x2 x3 y1 y2 y3 z1 z2 z3 b p : Value) (w : World) : Prop where
  bl : Below W0.heap.size W0 w
  f1 : Ch 16 encLo 51 W0.heap.size l1 l2 c1 x1 x2 x3 w
  f2 : Ch 2 encDu 61 W0.heap.size m1 m2 c2 y1 y2 y3 w
  f3 : Ch 3 encNe 36 W0.heap.size n1 n2 c3 z1 z2 z3 w
  fe : e = 1 → c1 = 3 ∧ c2 = 3 ∧ c3 = 3 ∧ b = .agg #[x3, y3, z3]
  fd : d = 1 → ∃ g, p = .pointer (some ⟨g, 0, none⟩) ∧ W0.heap.size ≤ g ∧ Blk g 27 #[.slice none 0 0, .slice none 0 0, .slice none 0 0] w
section
variable {W0 : World} {l1 l2 : List RawLo} {m1 m2 : List (Str × Str)} {n1 n2 : List Nea} {c1 c2 c3 e d : Nat} {x1 x2 x3 y1 y2 y3 z1 z2 z3 b p : Value} {w : World}
theorem BoJ.make1 (h : BoJ W0 l1 l2 m1 m2 n1 n2 0 c2 c3 e d x1 x2 x3 y1 y2 y3 z1 z2 z3 b p w) : BoJ W0 l1 l2 m1 m2 n1 n2 1 c2 c3 e d (.slice (some ⟨w.heap.size, 0, none⟩) 0 0) x2 x3 y1 y2 y3 z1 z2 z3 b p (w.alloc (.cells #[] 51)) where
  bl := h.bl.alloc h.bl.size _
  f1 := own_none 16 encLo w W0.heap.size 51 h.bl.size
  f2 := h.f2.below ((Below.refl _ _).alloc (Nat.le_refl _) _)
  f3 := h.f3.below ((Below.refl _ _).alloc (Nat.le_refl _) _)
  fe := fun h1 => by have := h.fe h1; omega
  fd := fun h1 => by obtain ⟨g, h2, h3, h4⟩ := h.fd h1; exact ⟨g, h2, h3, h4.alloc _⟩
theorem BoJ.grow1a {v : Value} {w' : World} (h : BoJ W0 l1 l2 m1 m2 n1 n2 1 c2 c3 e d x1 x2 x3 y1 y2 y3 z1 z2 z3 b p w) (hv : Own1 16 encLo w' W0.heap.size 51 v (l1)) (hg : w.grownBy w' x1.ownBlock) : BoJ W0 l1 l2 m1 m2 n1 n2 2 c2 c3 e d x1 v x3 y1 y2 y3 z1 z2 z3 b p w' where
  bl := h.bl.grown hg h.bl.size (fun j e => (Own1.lt_ (show Own1 16 encLo w W0.heap.size 51 x1 _ from h.f1) j e).1)
  f1 := hv
  f2 := h.f2.grown (show Own1 16 encLo w W0.heap.size 51 x1 _ from h.f1) hg (by decide)
  f3 := h.f3.grown (show Own1 16 encLo w W0.heap.size 51 x1 _ from h.f1) hg (by decide)
  fe := fun h1 => by have := h.fe h1; omega
  fd := fun h1 => by obtain ⟨g, h2, h3, h4⟩ := h.fd h1; exact ⟨g, h2, h3, blk_grown h4 (show Own1 16 encLo w W0.heap.size 51 x1 _ from h.f1) hg (by decide)⟩
theorem BoJ.grow1b {v : Value} {w' : World} (h : BoJ W0 l1 l2 m1 m2 n1 n2 2 c2 c3 e d x1 x2 x3 y1 y2 y3 z1 z2 z3 b p w) (hv : Own1 16 encLo w' W0.heap.size 51 v (l1 ++ l2)) (hg : w.grownBy w' x2.ownBlock) : BoJ W0 l1 l2 m1 m2 n1 n2 3 c2 c3 e d x1 x2 v y1 y2 y3 z1 z2 z3 b p w' where
  bl := h.bl.grown hg h.bl.size (fun j e => (Own1.lt_ (show Own1 16 encLo w W0.heap.size 51 x2 _ from h.f1) j e).1)
  f1 := hv
  f2 := h.f2.grown (show Own1 16 encLo w W0.heap.size 51 x2 _ from h.f1) hg (by decide)
  f3 := h.f3.grown (show Own1 16 encLo w W0.heap.size 51 x2 _ from h.f1) hg (by decide)
  fe := fun h1 => by have := h.fe h1; omega
  fd := fun h1 => by obtain ⟨g, h2, h3, h4⟩ := h.fd h1; exact ⟨g, h2, h3, blk_grown h4 (show Own1 16 encLo w W0.heap.size 51 x2 _ from h.f1) hg (by decide)⟩
theorem BoJ.make2 (h : BoJ W0 l1 l2 m1 m2 n1 n2 c1 0 c3 e d x1 x2 x3 y1 y2 y3 z1 z2 z3 b p w) : BoJ W0 l1 l2 m1 m2 n1 n2 c1 1 c3 e d x1 x2 x3 (.slice (some ⟨w.heap.size, 0, none⟩) 0 0) y2 y3 z1 z2 z3 b p (w.alloc (.cells #[] 61)) where
  bl := h.bl.alloc h.bl.size _
  f1 := h.f1.below ((Below.refl _ _).alloc (Nat.le_refl _) _)
  f2 := own_none 2 encDu w W0.heap.size 61 h.bl.size
  f3 := h.f3.below ((Below.refl _ _).alloc (Nat.le_refl _) _)
  fe := fun h1 => by have := h.fe h1; omega
  fd := fun h1 => by obtain ⟨g, h2, h3, h4⟩ := h.fd h1; exact ⟨g, h2, h3, h4.alloc _⟩
theorem BoJ.grow2a {v : Value} {w' : World} (h : BoJ W0 l1 l2 m1 m2 n1 n2 c1 1 c3 e d x1 x2 x3 y1 y2 y3 z1 z2 z3 b p w) (hv : Own1 2 encDu w' W0.heap.size 61 v (m1)) (hg : w.grownBy w' y1.ownBlock) : BoJ W0 l1 l2 m1 m2 n1 n2 c1 2 c3 e d x1 x2 x3 y1 v y3 z1 z2 z3 b p w' where
  bl := h.bl.grown hg h.bl.size (fun j e => (Own1.lt_ (show Own1 2 encDu w W0.heap.size 61 y1 _ from h.f2) j e).1)
  f1 := h.f1.grown (show Own1 2 encDu w W0.heap.size 61 y1 _ from h.f2) hg (by decide)
  f2 := hv
  f3 := h.f3.grown (show Own1 2 encDu w W0.heap.size 61 y1 _ from h.f2) hg (by decide)
  fe := fun h1 => by have := h.fe h1; omega
  fd := fun h1 => by obtain ⟨g, h2, h3, h4⟩ := h.fd h1; exact ⟨g, h2, h3, blk_grown h4 (show Own1 2 encDu w W0.heap.size 61 y1 _ from h.f2) hg (by decide)⟩
theorem BoJ.grow2b {v : Value} {w' : World} (h : BoJ W0 l1 l2 m1 m2 n1 n2 c1 2 c3 e d x1 x2 x3 y1 y2 y3 z1 z2 z3 b p w) (hv : Own1 2 encDu w' W0.heap.size 61 v (m1 ++ m2)) (hg : w.grownBy w' y2.ownBlock) : BoJ W0 l1 l2 m1 m2 n1 n2 c1 3 c3 e d x1 x2 x3 y1 y2 v z1 z2 z3 b p w' where
  bl := h.bl.grown hg h.bl.size (fun j e => (Own1.lt_ (show Own1 2 encDu w W0.heap.size 61 y2 _ from h.f2) j e).1)
  f1 := h.f1.grown (show Own1 2 encDu w W0.heap.size 61 y2 _ from h.f2) hg (by decide)
  f2 := hv
  f3 := h.f3.grown (show Own1 2 encDu w W0.heap.size 61 y2 _ from h.f2) hg (by decide)
  fe := fun h1 => by have := h.fe h1; omega
  fd := fun h1 => by obtain ⟨g, h2, h3, h4⟩ := h.fd h1; exact ⟨g, h2, h3, blk_grown h4 (show Own1 2 encDu w W0.heap.size 61 y2 _ from h.f2) hg (by decide)⟩
theorem BoJ.make3 (h : BoJ W0 l1 l2 m1 m2 n1 n2 c1 c2 0 e d x1 x2 x3 y1 y2 y3 z1 z2 z3 b p w) : BoJ W0 l1 l2 m1 m2 n1 n2 c1 c2 1 e d x1 x2 x3 y1 y2 y3 (.slice (some ⟨w.heap.size, 0, none⟩) 0 0) z2 z3 b p (w.alloc (.cells #[] 36)) where
  bl := h.bl.alloc h.bl.size _
  f1 := h.f1.below ((Below.refl _ _).alloc (Nat.le_refl _) _)
  f2 := h.f2.below ((Below.refl _ _).alloc (Nat.le_refl _) _)
  f3 := own_none 3 encNe w W0.heap.size 36 h.bl.size
  fe := fun h1 => by have := h.fe h1; omega
  fd := fun h1 => by obtain ⟨g, h2, h3, h4⟩ := h.fd h1; exact ⟨g, h2, h3, h4.alloc _⟩
theorem BoJ.grow3a {v : Value} {w' : World} (h : BoJ W0 l1 l2 m1 m2 n1 n2 c1 c2 1 e d x1 x2 x3 y1 y2 y3 z1 z2 z3 b p w) (hv : Own1 3 encNe w' W0.heap.size 36 v (n1)) (hg : w.grownBy w' z1.ownBlock) : BoJ W0 l1 l2 m1 m2 n1 n2 c1 c2 2 e d x1 x2 x3 y1 y2 y3 z1 v z3 b p w' where
  bl := h.bl.grown hg h.bl.size (fun j e => (Own1.lt_ (show Own1 3 encNe w W0.heap.size 36 z1 _ from h.f3) j e).1)
  f1 := h.f1.grown (show Own1 3 encNe w W0.heap.size 36 z1 _ from h.f3) hg (by decide)
  f2 := h.f2.grown (show Own1 3 encNe w W0.heap.size 36 z1 _ from h.f3) hg (by decide)
  f3 := hv
  fe := fun h1 => by have := h.fe h1; omega
  fd := fun h1 => by obtain ⟨g, h2, h3, h4⟩ := h.fd h1; exact ⟨g, h2, h3, blk_grown h4 (show Own1 3 encNe w W0.heap.size 36 z1 _ from h.f3) hg (by decide)⟩
theorem BoJ.grow3b {v : Value} {w' : World} (h : BoJ W0 l1 l2 m1 m2 n1 n2 c1 c2 2 e d x1 x2 x3 y1 y2 y3 z1 z2 z3 b p w) (hv : Own1 3 encNe w' W0.heap.size 36 v (n1 ++ n2)) (hg : w.grownBy w' z2.ownBlock) : BoJ W0 l1 l2 m1 m2 n1 n2 c1 c2 3 e d x1 x2 x3 y1 y2 y3 z1 z2 v b p w' where
  bl := h.bl.grown hg h.bl.size (fun j e => (Own1.lt_ (show Own1 3 encNe w W0.heap.size 36 z2 _ from h.f3) j e).1)
  f1 := h.f1.grown (show Own1 3 encNe w W0.heap.size 36 z2 _ from h.f3) hg (by decide)
  f2 := h.f2.grown (show Own1 3 encNe w W0.heap.size 36 z2 _ from h.f3) hg (by decide)
  f3 := hv
  fe := fun h1 => by have := h.fe h1; omega
  fd := fun h1 => by obtain ⟨g, h2, h3, h4⟩ := h.fd h1; exact ⟨g, h2, h3, blk_grown h4 (show Own1 3 encNe w W0.heap.size 36 z2 _ from h.f3) hg (by decide)⟩
theorem BoJ.build (h : BoJ W0 l1 l2 m1 m2 n1 n2 3 3 3 0 d x1 x2 x3 y1 y2 y3 z1 z2 z3 b p w) : BoJ W0 l1 l2 m1 m2 n1 n2 3 3 3 1 d x1 x2 x3 y1 y2 y3 z1 z2 z3 (.agg #[x3, y3, z3]) p w := ⟨h.bl, h.f1, h.f2, h.f3, fun _ => ⟨rfl, rfl, rfl, rfl⟩, h.fd⟩
theorem BoJ.place (h : BoJ W0 l1 l2 m1 m2 n1 n2 c1 c2 c3 e 0 x1 x2 x3 y1 y2 y3 z1 z2 z3 b p w) : BoJ W0 l1 l2 m1 m2 n1 n2 c1 c2 c3 e 1 x1 x2 x3 y1 y2 y3 z1 z2 z3 b (.pointer (some ⟨w.heap.size, 0, none⟩)) (w.alloc (.cells #[.slice none 0 0, .slice none 0 0, .slice none 0 0] 27)) :=
  ⟨h.bl.alloc h.bl.size _, h.f1.below ((Below.refl _ _).alloc (Nat.le_refl _) _), h.f2.below ((Below.refl _ _).alloc (Nat.le_refl _) _), h.f3.below ((Below.refl _ _).alloc (Nat.le_refl _) _), h.fe, fun _ => ⟨_, rfl, h.bl.size, Blk.new w _ _⟩⟩
end
def bothOps : List Oper := [{ dst := some 83, op := Op.buildSlice 23 0 #[], type := 23, pos := "law.go:84", after := #[], guard := none }, { dst := some 84, op := Op.fieldAddr 27 (Operand.tmp 5) 0, type := 0, pos := "law.go:84", after := #[], guard := none }, { dst := some 85, op := Op.load 23 (Operand.tmp 84), type := 23, pos := "law.go:84", after := #[{ on := 1, ground := Ground.data }], guard := none }, { dst := some 86, op := Op.call { callee := Callee.builtin Builtin.append, args := #[Operand.tmp 83, Operand.tmp 85], argTypes := #[23, 23] }, type := 23, pos := "law.go:84", after := #[{ on := 0, ground := Ground.data }, { on := 2, ground := Ground.data }], guard := none }, { dst := some 87, op := Op.fieldAddr 27 (Operand.tmp 8) 0, type := 0, pos := "law.go:84", after := #[], guard := none }, { dst := some 88, op := Op.load 23 (Operand.tmp 87), type := 23, pos := "law.go:84", after := #[{ on := 4, ground := Ground.data }], guard := none }, { dst := some 89, op := Op.call { callee := Callee.builtin Builtin.append, args := #[Operand.tmp 86, Operand.tmp 88], argTypes := #[23, 23] }, type := 23, pos := "law.go:84", after := #[{ on := 3, ground := Ground.data }, { on := 5, ground := Ground.data }, { on := 3, ground := Ground.chain }], guard := none }, { dst := some 90, op := Op.buildSlice 24 0 #[], type := 24, pos := "law.go:84", after := #[], guard := none }, { dst := some 91, op := Op.fieldAddr 27 (Operand.tmp 5) 1, type := 0, pos := "law.go:84", after := #[], guard := none }, { dst := some 92, op := Op.load 24 (Operand.tmp 91), type := 24, pos := "law.go:84", after := #[{ on := 8, ground := Ground.data }], guard := none }, { dst := some 93, op := Op.call { callee := Callee.builtin Builtin.append, args := #[Operand.tmp 90, Operand.tmp 92], argTypes := #[24, 24] }, type := 24, pos := "law.go:84", after := #[{ on := 7, ground := Ground.data }, { on := 9, ground := Ground.data }, { on := 6, ground := Ground.chain }], guard := none }, { dst := some 94, op := Op.fieldAddr 27 (Operand.tmp 8) 1, type := 0, pos := "law.go:84", after := #[], guard := none }, { dst := some 95, op := Op.load 24 (Operand.tmp 94), type := 24, pos := "law.go:84", after := #[{ on := 11, ground := Ground.data }], guard := none }, { dst := some 96, op := Op.call { callee := Callee.builtin Builtin.append, args := #[Operand.tmp 93, Operand.tmp 95], argTypes := #[24, 24] }, type := 24, pos := "law.go:84", after := #[{ on := 10, ground := Ground.data }, { on := 12, ground := Ground.data }, { on := 10, ground := Ground.chain }], guard := none }, { dst := some 97, op := Op.buildSlice 25 0 #[], type := 25, pos := "law.go:84", after := #[], guard := none }, { dst := some 98, op := Op.fieldAddr 27 (Operand.tmp 5) 2, type := 0, pos := "law.go:84", after := #[], guard := none }, { dst := some 99, op := Op.load 25 (Operand.tmp 98), type := 25, pos := "law.go:84", after := #[{ on := 15, ground := Ground.data }], guard := none }, { dst := some 100, op := Op.call { callee := Callee.builtin Builtin.append, args := #[Operand.tmp 97, Operand.tmp 99], argTypes := #[25, 25] }, type := 25, pos := "law.go:84", after := #[{ on := 14, ground := Ground.data }, { on := 16, ground := Ground.data }, { on := 13, ground := Ground.chain }], guard := none }, { dst := some 101, op := Op.fieldAddr 27 (Operand.tmp 8) 2, type := 0, pos := "law.go:84", after := #[], guard := none }, { dst := some 102, op := Op.load 25 (Operand.tmp 101), type := 25, pos := "law.go:84", after := #[{ on := 18, ground := Ground.data }], guard := none }, { dst := some 103, op := Op.call { callee := Callee.builtin Builtin.append, args := #[Operand.tmp 100, Operand.tmp 102], argTypes := #[25, 25] }, type := 25, pos := "law.go:84", after := #[{ on := 17, ground := Ground.data }, { on := 19, ground := Ground.data }, { on := 17, ground := Ground.chain }], guard := none }, { dst := some 104, op := Op.build 27 #[(0, Operand.tmp 89), (1, Operand.tmp 96), (2, Operand.tmp 103)], type := 27, pos := "law.go:84", after := #[{ on := 6, ground := Ground.data }, { on := 13, ground := Ground.data }, { on := 20, ground := Ground.data }], guard := none }, { dst := some 14, op := Op.alloc 27, type := 0, pos := "law.go:84", after := #[], guard := none }, { dst := none, op := Op.store 27 (Operand.tmp 14) (Operand.tmp 104), type := 0, pos := "law.go:84", after := #[{ on := 22, ground := Ground.data }, { on := 21, ground := Ground.data }, { on := 20, ground := Ground.chain }, { on := 0, ground := Ground.phase }, { on := 1, ground := Ground.phase }, { on := 2, ground := Ground.phase }, { on := 3, ground := Ground.phase }, { on := 4, ground := Ground.phase }, { on := 5, ground := Ground.phase }, { on := 6, ground := Ground.phase }, { on := 7, ground := Ground.phase }, { on := 8, ground := Ground.phase }, { on := 9, ground := Ground.phase }, { on := 10, ground := Ground.phase }, { on := 11, ground := Ground.phase }, { on := 12, ground := Ground.phase }, { on := 13, ground := Ground.phase }, { on := 14, ground := Ground.phase }, { on := 15, ground := Ground.phase }, { on := 16, ground := Ground.phase }, { on := 17, ground := Ground.phase }, { on := 18, ground := Ground.phase }, { on := 19, ground := Ground.phase }, { on := 20, ground := Ground.phase }, { on := 21, ground := Ground.phase }, { on := 22, ground := Ground.phase }], guard := none }]
def bothL (c1 c2 c3 e d : Nat) : Array Bool := #[decide (1 ≤ c1), true, true, decide (2 ≤ c1), true, true, decide (3 ≤ c1), decide (1 ≤ c2), true, true, decide (2 ≤ c2), true, true, decide (3 ≤ c2), decide (1 ≤ c3), true, true, decide (2 ≤ c3), true, true, decide (3 ≤ c3), decide (1 ≤ e), decide (1 ≤ d), false]
/-- What may come up. -/
def bothB (c1 c2 c3 e d : Nat) : Bool :=
  decide (c1 + c2 + c3 + e + d = 11) || ((Region.ready .any bothOps.toArray (bothL c1 c2 c3 e d)).all (fun m => (c1 == 0 && m == 0) || (c1 == 1 && m == 3) || (c1 == 2 && m == 6) || (c2 == 0 && m == 7) || (c2 == 1 && m == 10) || (c2 == 2 && m == 13) || (c3 == 0 && m == 14) || (c3 == 1 && m == 17) || (c3 == 2 && m == 20) || (c1 == 3 && c2 == 3 && c3 == 3 && e == 0 && m == 21) || (d == 0 && m == 22)) &&
  !(Region.ready .any bothOps.toArray (bothL c1 c2 c3 e d)).isEmpty)
theorem bothB_all : ((List.range 4).all fun c1 => (List.range 4).all fun c2 => (List.range 4).all fun c3 => (List.range 2).all fun e => (List.range 2).all fun d => bothB c1 c2 c3 e d) = true := by kernel_rfl
theorem bothB_any {c1 c2 c3 e d : Nat} (h1 : c1 ≤ 3) (h2 : c2 ≤ 3) (h3 : c3 ≤ 3) (h4 : e ≤ 1) (h5 : d ≤ 1) : bothB c1 c2 c3 e d = true := by
  have h := bothB_all
  rw [List.all_eq_true] at h
  have h := h c1 (List.mem_range.2 (by omega))
  rw [List.all_eq_true] at h
  have h := h c2 (List.mem_range.2 (by omega))
  rw [List.all_eq_true] at h
  have h := h c3 (List.mem_range.2 (by omega))
  rw [List.all_eq_true] at h
  have h := h e (List.mem_range.2 (by omega))
  rw [List.all_eq_true] at h
  exact h d (List.mem_range.2 (by omega))
theorem both_ready {c1 c2 c3 e d : Nat} (h1 : c1 ≤ 3) (h2 : c2 ≤ 3) (h3 : c3 ≤ 3) (h4 : e ≤ 1) (h5 : d ≤ 1) (hn : c1 + c2 + c3 + e + d ≠ 11) : ∀ m ∈ Region.ready .any bothOps.toArray (bothL c1 c2 c3 e d),
    (c1 = 0 ∧ m = 0) ∨ (c1 = 1 ∧ m = 3) ∨ (c1 = 2 ∧ m = 6) ∨ (c2 = 0 ∧ m = 7) ∨ (c2 = 1 ∧ m = 10) ∨ (c2 = 2 ∧ m = 13) ∨ (c3 = 0 ∧ m = 14) ∨ (c3 = 1 ∧ m = 17) ∨ (c3 = 2 ∧ m = 20) ∨ (c1 = 3 ∧ c2 = 3 ∧ c3 = 3 ∧ e = 0 ∧ m = 21) ∨ (d = 0 ∧ m = 22) := by
  intro m hm
  have h := bothB_any h1 h2 h3 h4 h5
  unfold bothB at h
  rw [decide_eq_false hn, Bool.false_or, Bool.and_eq_true] at h
  have h := List.all_eq_true.1 h.1 m hm
  simp only [Bool.or_eq_true, Bool.and_eq_true, beq_iff_eq, or_assoc, and_assoc] at h
  exact h
theorem both_some {c1 c2 c3 e d : Nat} (h1 : c1 ≤ 3) (h2 : c2 ≤ 3) (h3 : c3 ≤ 3) (h4 : e ≤ 1) (h5 : d ≤ 1) (hn : c1 + c2 + c3 + e + d ≠ 11) : Region.ready .any bothOps.toArray (bothL c1 c2 c3 e d) ≠ [] := by
  have h := bothB_any h1 h2 h3 h4 h5
  unfold bothB at h
  rw [decide_eq_false hn, Bool.false_or, Bool.and_eq_true] at h
  have h := h.2
  intro h0
  rw [h0] at h
  cases h
set_option maxRecDepth 1000000 in
set_option maxHeartbeats 16000000 in
theorem both_hd (W0 : World) (l1 l2 : List RawLo) (m1 m2 : List (Str × Str)) (n1 n2 : List Nea) (la lb ma mb na nb : Value)
    (hla : Rd 16 encLo W0 la l1) (hlb : Rd 16 encLo W0 lb l2) (hma : Rd 2 encDu W0 ma m1) (hmb : Rd 2 encDu W0 mb m2) (hna : Rd 3 encNe W0 na n1) (hnb : Rd 3 encNe W0 nb n2)
    (k1 : l1.length + l2.length ≤ 1000) (k2 : m1.length + m2.length ≤ 1000) (k3 : n1.length + n2.length ≤ 1000)
    (u0 u1 u2 u3 u4 u5 u6 u7 u8 u9 u10 u11 u12 u13 u15 u16 u17 u18 u19 u20 u21 u22 u23 u24 u25 u26 u27 u28 u29 u30 u31 u32 u33 u34 u35 u36 u37 u38 u39 u40 u41 u42 u43 u44 u45 u46 u47 u48 u49 u50 u51 u52 u53 u54 u55 u56 u57 u58 u59 u60 u61 u62 u63 u64 u65 u66 u67 u68 u69 u70 u71 u72 u73 u74 u75 u76 u77 u78 u79 u80 u81 u82 u84 u87 u91 u94 u98 u101 u105 u106 u107 u108 u109 u110 u111 : Value) (Q : Exit → Act → World → Prop)
    (hend : ∀ (x1 x2 x3 y1 y2 y3 z1 z2 z3 b p : Value) (w : World), BoJ W0 l1 l2 m1 m2 n1 n2 3 3 3 1 1 x1 x2 x3 y1 y2 y3 z1 z2 z3 b p w → wpList Tryz.prog bothOps.toArray Q (bothOps.drop 23) { tmps := #[u0, u1, u2, u3, u4, u5, u6, u7, u8, u9, u10, u11, u12, u13, p, u15, u16, u17, u18, u19, u20, u21, u22, u23, u24, u25, u26, u27, u28, u29, u30, u31, u32, u33, u34, u35, u36, u37, u38, u39, u40, u41, u42, u43, u44, u45, u46, u47, u48, u49, u50, u51, u52, u53, u54, u55, u56, u57, u58, u59, u60, u61, u62, u63, u64, u65, u66, u67, u68, u69, u70, u71, u72, u73, u74, u75, u76, u77, u78, u79, u80, u81, u82, x1, u84, la, x2, u87, lb, x3, y1, u91, ma, y2, u94, mb, y3, z1, u98, na, z2, u101, nb, z3, b, u105, u106, u107, u108, u109, u110, u111], defers := [] } w) :
    ∀ (f c1 c2 c3 e d : Nat), c1 ≤ 3 → c2 ≤ 3 → c3 ≤ 3 → e ≤ 1 → d ≤ 1 → c1 + c2 + c3 + e + d + f = 11 → ∀ (x1 x2 x3 y1 y2 y3 z1 z2 z3 b p : Value) (w : World), BoJ W0 l1 l2 m1 m2 n1 n2 c1 c2 c3 e d x1 x2 x3 y1 y2 y3 z1 z2 z3 b p w →
      HdG Tryz.prog bothOps.toArray Q (fun wx => Below W0.heap.size W0 wx) 23 (bothOps.drop 23) f (bothL c1 c2 c3 e d) { tmps := #[u0, u1, u2, u3, u4, u5, u6, u7, u8, u9, u10, u11, u12, u13, p, u15, u16, u17, u18, u19, u20, u21, u22, u23, u24, u25, u26, u27, u28, u29, u30, u31, u32, u33, u34, u35, u36, u37, u38, u39, u40, u41, u42, u43, u44, u45, u46, u47, u48, u49, u50, u51, u52, u53, u54, u55, u56, u57, u58, u59, u60, u61, u62, u63, u64, u65, u66, u67, u68, u69, u70, u71, u72, u73, u74, u75, u76, u77, u78, u79, u80, u81, u82, x1, u84, la, x2, u87, lb, x3, y1, u91, ma, y2, u94, mb, y3, z1, u98, na, z2, u101, nb, z3, b, u105, u106, u107, u108, u109, u110, u111], defers := [] } w := by
  obtain ⟨i1, hi1, hz1, hk1, hb1⟩ : ∃ i, Tryz.prog.info? 51 = some i ∧ i.zero = some _ ∧ i.size = 16 ∧ i.bytes = 296 := by
    have h := Tryz.infoALo
    cases hh : Tryz.prog.info? 51 with
    | none => rw [hh] at h; cases h
    | some i =>
      rw [hh, Option.map_some] at h
      injection h with h
      injection h with h h'
      injection h' with h' h''
      exact ⟨i, rfl, h, h', h''⟩
  obtain ⟨i2, hi2, hz2, hk2, hb2⟩ : ∃ i, Tryz.prog.info? 61 = some i ∧ i.zero = some _ ∧ i.size = 2 ∧ i.bytes = 32 := by
    have h := Tryz.infoAAl
    cases hh : Tryz.prog.info? 61 with
    | none => rw [hh] at h; cases h
    | some i =>
      rw [hh, Option.map_some] at h
      injection h with h
      injection h with h h'
      injection h' with h' h''
      exact ⟨i, rfl, h, h', h''⟩
  obtain ⟨i3, hi3, hz3, hk3, hb3⟩ : ∃ i, Tryz.prog.info? 36 = some i ∧ i.zero = some _ ∧ i.size = 3 ∧ i.bytes = 40 := by
    have h := Tryz.infoANe
    cases hh : Tryz.prog.info? 36 with
    | none => rw [hh] at h; cases h
    | some i =>
      rw [hh, Option.map_some] at h
      injection h with h
      injection h with h h'
      injection h' with h' h''
      exact ⟨i, rfl, h, h', h''⟩
  intro f
  induction f with
  | zero =>
    intro c1 c2 c3 e d h1 h2 h3 h4 h5 h6 x1 x2 x3 y1 y2 y3 z1 z2 z3 b p w J
    obtain rfl : c1 = 3 := by omega
    obtain rfl : c2 = 3 := by omega
    obtain rfl : c3 = 3 := by omega
    obtain rfl : e = 1 := by omega
    obtain rfl : d = 1 := by omega
    exact hd_done (by kernel_rfl) (hend _ _ _ _ _ _ _ _ _ _ _ w J)
  | succ f ih =>
    intro c1 c2 c3 e d h1 h2 h3 h4 h5 h6 x1 x2 x3 y1 y2 y3 z1 z2 z3 b p w J inv
    refine ⟨both_some h1 h2 h3 h4 h5 (by omega), fun m hm => ?_⟩
    rcases both_ready h1 h2 h3 h4 h5 (by omega) m hm with ⟨rfl, rfl⟩ | ⟨rfl, rfl⟩ | ⟨rfl, rfl⟩ | ⟨rfl, rfl⟩ | ⟨rfl, rfl⟩ | ⟨rfl, rfl⟩ | ⟨rfl, rfl⟩ | ⟨rfl, rfl⟩ | ⟨rfl, rfl⟩ | ⟨rfl, rfl, rfl, rfl, rfl⟩ | ⟨rfl, rfl⟩
    · refine ⟨by decide, hd_step (oi := { dst := some 83, op := Op.buildSlice 23 0 #[], type := 23, pos := "law.go:84", after := #[], guard := none }) rfl (fun K hK => ?_) (inv.set hm (by decide))⟩
      rw [show (bothL 0 c2 c3 e d).setIfInBounds 0 true = bothL 1 c2 c3 e d from by kernel_rfl] at hK
      have J' := J.make1
      go_simp
      exact hK.out _ _ J'.bl (ih 1 c2 c3 e d (by omega) (by omega) (by omega) (by omega) (by omega) (by omega) _ _ _ _ _ _ _ _ _ _ _ _ J')
    · refine ⟨by decide, hd_step (oi := { dst := some 86, op := Op.call { callee := Callee.builtin Builtin.append, args := #[Operand.tmp 83, Operand.tmp 85], argTypes := #[23, 23] }, type := 23, pos := "law.go:84", after := #[{ on := 0, ground := Ground.data }, { on := 2, ground := Ground.data }], guard := none }) rfl (fun K hK => ?_) (inv.set hm (by decide))⟩
      rw [show (bothL 1 c2 c3 e d).setIfInBounds 3 true = bothL 2 c2 c3 e d from by kernel_rfl] at hK
      refine step_append_rdB rfl _ _ 23 rfl W0.heap.size i1 _ 296 Tryz.underlying23 hi1 hz1 hk1 hb1 (by omega) rfl (by omega) encLo_len encLo_one x1 [] l1 la rfl J.f1 rfl (Rd.below hla J.bl) (by first | omega | (simp only [List.length_nil]; omega)) J.bl.size ?_
      intro v' w' hv' hg'
      have J' := J.grow1a hv' hg'
      exact hK.out _ _ J'.bl (ih 2 c2 c3 e d (by omega) (by omega) (by omega) (by omega) (by omega) (by omega) _ _ _ _ _ _ _ _ _ _ _ _ J')
    · refine ⟨by decide, hd_step (oi := { dst := some 89, op := Op.call { callee := Callee.builtin Builtin.append, args := #[Operand.tmp 86, Operand.tmp 88], argTypes := #[23, 23] }, type := 23, pos := "law.go:84", after := #[{ on := 3, ground := Ground.data }, { on := 5, ground := Ground.data }, { on := 3, ground := Ground.chain }], guard := none }) rfl (fun K hK => ?_) (inv.set hm (by decide))⟩
      rw [show (bothL 2 c2 c3 e d).setIfInBounds 6 true = bothL 3 c2 c3 e d from by kernel_rfl] at hK
      refine step_append_rdB rfl _ _ 23 rfl W0.heap.size i1 _ 296 Tryz.underlying23 hi1 hz1 hk1 hb1 (by omega) rfl (by omega) encLo_len encLo_one x2 l1 l2 lb rfl J.f1 rfl (Rd.below hlb J.bl) (by first | omega | (simp only [List.length_nil]; omega)) J.bl.size ?_
      intro v' w' hv' hg'
      have J' := J.grow1b hv' hg'
      exact hK.out _ _ J'.bl (ih 3 c2 c3 e d (by omega) (by omega) (by omega) (by omega) (by omega) (by omega) _ _ _ _ _ _ _ _ _ _ _ _ J')
    · refine ⟨by decide, hd_step (oi := { dst := some 90, op := Op.buildSlice 24 0 #[], type := 24, pos := "law.go:84", after := #[], guard := none }) rfl (fun K hK => ?_) (inv.set hm (by decide))⟩
      rw [show (bothL c1 0 c3 e d).setIfInBounds 7 true = bothL c1 1 c3 e d from by kernel_rfl] at hK
      have J' := J.make2
      go_simp
      exact hK.out _ _ J'.bl (ih c1 1 c3 e d (by omega) (by omega) (by omega) (by omega) (by omega) (by omega) _ _ _ _ _ _ _ _ _ _ _ _ J')
    · refine ⟨by decide, hd_step (oi := { dst := some 93, op := Op.call { callee := Callee.builtin Builtin.append, args := #[Operand.tmp 90, Operand.tmp 92], argTypes := #[24, 24] }, type := 24, pos := "law.go:84", after := #[{ on := 7, ground := Ground.data }, { on := 9, ground := Ground.data }, { on := 6, ground := Ground.chain }], guard := none }) rfl (fun K hK => ?_) (inv.set hm (by decide))⟩
      rw [show (bothL c1 1 c3 e d).setIfInBounds 10 true = bothL c1 2 c3 e d from by kernel_rfl] at hK
      refine step_append_rdB rfl _ _ 24 rfl W0.heap.size i2 _ 32 Tryz.underlying24 hi2 hz2 hk2 hb2 (by omega) rfl (by omega) encDu_len encDu_one y1 [] m1 ma rfl J.f2 rfl (Rd.below hma J.bl) (by first | omega | (simp only [List.length_nil]; omega)) J.bl.size ?_
      intro v' w' hv' hg'
      have J' := J.grow2a hv' hg'
      exact hK.out _ _ J'.bl (ih c1 2 c3 e d (by omega) (by omega) (by omega) (by omega) (by omega) (by omega) _ _ _ _ _ _ _ _ _ _ _ _ J')
    · refine ⟨by decide, hd_step (oi := { dst := some 96, op := Op.call { callee := Callee.builtin Builtin.append, args := #[Operand.tmp 93, Operand.tmp 95], argTypes := #[24, 24] }, type := 24, pos := "law.go:84", after := #[{ on := 10, ground := Ground.data }, { on := 12, ground := Ground.data }, { on := 10, ground := Ground.chain }], guard := none }) rfl (fun K hK => ?_) (inv.set hm (by decide))⟩
      rw [show (bothL c1 2 c3 e d).setIfInBounds 13 true = bothL c1 3 c3 e d from by kernel_rfl] at hK
      refine step_append_rdB rfl _ _ 24 rfl W0.heap.size i2 _ 32 Tryz.underlying24 hi2 hz2 hk2 hb2 (by omega) rfl (by omega) encDu_len encDu_one y2 m1 m2 mb rfl J.f2 rfl (Rd.below hmb J.bl) (by first | omega | (simp only [List.length_nil]; omega)) J.bl.size ?_
      intro v' w' hv' hg'
      have J' := J.grow2b hv' hg'
      exact hK.out _ _ J'.bl (ih c1 3 c3 e d (by omega) (by omega) (by omega) (by omega) (by omega) (by omega) _ _ _ _ _ _ _ _ _ _ _ _ J')
    · refine ⟨by decide, hd_step (oi := { dst := some 97, op := Op.buildSlice 25 0 #[], type := 25, pos := "law.go:84", after := #[], guard := none }) rfl (fun K hK => ?_) (inv.set hm (by decide))⟩
      rw [show (bothL c1 c2 0 e d).setIfInBounds 14 true = bothL c1 c2 1 e d from by kernel_rfl] at hK
      have J' := J.make3
      go_simp
      exact hK.out _ _ J'.bl (ih c1 c2 1 e d (by omega) (by omega) (by omega) (by omega) (by omega) (by omega) _ _ _ _ _ _ _ _ _ _ _ _ J')
    · refine ⟨by decide, hd_step (oi := { dst := some 100, op := Op.call { callee := Callee.builtin Builtin.append, args := #[Operand.tmp 97, Operand.tmp 99], argTypes := #[25, 25] }, type := 25, pos := "law.go:84", after := #[{ on := 14, ground := Ground.data }, { on := 16, ground := Ground.data }, { on := 13, ground := Ground.chain }], guard := none }) rfl (fun K hK => ?_) (inv.set hm (by decide))⟩
      rw [show (bothL c1 c2 1 e d).setIfInBounds 17 true = bothL c1 c2 2 e d from by kernel_rfl] at hK
      refine step_append_rdB rfl _ _ 25 rfl W0.heap.size i3 _ 40 Tryz.underlying25 hi3 hz3 hk3 hb3 (by omega) rfl (by omega) encNe_len encNe_one z1 [] n1 na rfl J.f3 rfl (Rd.below hna J.bl) (by first | omega | (simp only [List.length_nil]; omega)) J.bl.size ?_
      intro v' w' hv' hg'
      have J' := J.grow3a hv' hg'
      exact hK.out _ _ J'.bl (ih c1 c2 2 e d (by omega) (by omega) (by omega) (by omega) (by omega) (by omega) _ _ _ _ _ _ _ _ _ _ _ _ J')
    · refine ⟨by decide, hd_step (oi := { dst := some 103, op := Op.call { callee := Callee.builtin Builtin.append, args := #[Operand.tmp 100, Operand.tmp 102], argTypes := #[25, 25] }, type := 25, pos := "law.go:84", after := #[{ on := 17, ground := Ground.data }, { on := 19, ground := Ground.data }, { on := 17, ground := Ground.chain }], guard := none }) rfl (fun K hK => ?_) (inv.set hm (by decide))⟩
      rw [show (bothL c1 c2 2 e d).setIfInBounds 20 true = bothL c1 c2 3 e d from by kernel_rfl] at hK
      refine step_append_rdB rfl _ _ 25 rfl W0.heap.size i3 _ 40 Tryz.underlying25 hi3 hz3 hk3 hb3 (by omega) rfl (by omega) encNe_len encNe_one z2 n1 n2 nb rfl J.f3 rfl (Rd.below hnb J.bl) (by first | omega | (simp only [List.length_nil]; omega)) J.bl.size ?_
      intro v' w' hv' hg'
      have J' := J.grow3b hv' hg'
      exact hK.out _ _ J'.bl (ih c1 c2 3 e d (by omega) (by omega) (by omega) (by omega) (by omega) (by omega) _ _ _ _ _ _ _ _ _ _ _ _ J')
    · refine ⟨by decide, hd_step (oi := { dst := some 104, op := Op.build 27 #[(0, Operand.tmp 89), (1, Operand.tmp 96), (2, Operand.tmp 103)], type := 27, pos := "law.go:84", after := #[{ on := 6, ground := Ground.data }, { on := 13, ground := Ground.data }, { on := 20, ground := Ground.data }], guard := none }) rfl (fun K hK => ?_) (inv.set hm (by decide))⟩
      rw [show (bothL 3 3 3 0 d).setIfInBounds 21 true = bothL 3 3 3 1 d from by kernel_rfl] at hK
      obtain ⟨ax, nx, cx, rfl⟩ : ∃ a n c, x3 = .slice a n c := by obtain ⟨a, c, h⟩ := Own1.slice J.f1; exact ⟨a, _, c, h⟩
      obtain ⟨ay, ny, cy, rfl⟩ : ∃ a n c, y3 = .slice a n c := by obtain ⟨a, c, h⟩ := Own1.slice J.f2; exact ⟨a, _, c, h⟩
      obtain ⟨az, nz, cz, rfl⟩ : ∃ a n c, z3 = .slice a n c := by obtain ⟨a, c, h⟩ := Own1.slice J.f3; exact ⟨a, _, c, h⟩
      have J' := J.build
      go_simp
      exact hK.out _ _ J'.bl (ih 3 3 3 1 d (by omega) (by omega) (by omega) (by omega) (by omega) (by omega) _ _ _ _ _ _ _ _ _ _ _ _ J')
    · refine ⟨by decide, hd_step (oi := { dst := some 14, op := Op.alloc 27, type := 0, pos := "law.go:84", after := #[], guard := none }) rfl (fun K hK => ?_) (inv.set hm (by decide))⟩
      rw [show (bothL c1 c2 c3 e 0).setIfInBounds 22 true = bothL c1 c2 c3 e 1 from by kernel_rfl] at hK
      have J' := J.place
      go_simp
      exact hK.out _ _ J'.bl (ih c1 c2 c3 e 1 (by omega) (by omega) (by omega) (by omega) (by omega) (by omega) _ _ _ _ _ _ _ _ _ _ _ _ J')
end Go.Proofs.YtpmmchppfmojhaaGreatDoor


/- The law TableParts, from the contract ParC. (The end, from the region of `both` on, is written by wip/gen/gen12_oz.py.) -/
namespace Go.Proofs.YtpmmchppfmojhaaGreatDoor
open Go.RowKit
set_option linter.unusedVariables false

set_option maxRecDepth 1000000 in
set_option maxHeartbeats 16000000 in
theorem tableParts_walk (C : ParC) (a b : Str) (ha : Sm a) (hb : Sm b) (w : World) (E : C.E w) :
    Calls Tryz.prog 7 #[.string (ofL a), .string (ofL b)] w fun e w' => e = .returned (.bool true) ∧ Below w.heap.size w w' := by
  unfold Sm at ha hb
  have HE := Lib.hid E
  have za := ofL_size a
  have zb := ofL_size b
  clear E
  go_enter Tryz.func7, Tryz.ntmps7
  go_wp2_with fail
  refine (awakeT_any C _ HE.out).mono ?_
  rintro e w1 ⟨rfl, b1⟩
  have B1 := Lib.hid b1
  have E1 := Lib.hid (C.later HE.out b1)
  clear b1 HE
  have hs : IntKind.i64.wrap ((a.length : Int) + (b.length : Int)) = (a.length : Int) + (b.length : Int) := by rw [IntKind.wrap_i64]; omega
  by_cases hl : a.length + b.length ≤ 4000
  case neg =>
    have h1 : (4000 : Int) < (a.length : Int) + (b.length : Int) := by omega
    go_wp2_with fail
    refine (awakeT_any C _ E1.out).mono ?_
    rintro e w2 ⟨rfl, b2⟩
    have B2 := Lib.hid (st B1.out b2 B1.out.size)
    clear b2
    go_wp2
    go_ret
    exact ⟨rfl, B2.out⟩
  have h1 : ¬ (4000 : Int) < (a.length : Int) + (b.length : Int) := by omega
  go_wp2_with fail
  refine (C.parse _ a E1.out (by omega)).mono ?_
  intro e w2 hp
  obtain ⟨xa, xb, xc, at1, er1, x, rfl, hx, hx1, hx2, b2⟩ := hp.tab
  have B2 := Lib.hid ((st B1.out b2 B1.out.size).alloc (st B1.out b2 B1.out.size).size (.cells #[.slice xa.a x.lo.length xa.c, .slice xb.a x.al.length xb.c, .slice xc.a x.ne.length xc.c] 27))
  have b2' := b2.alloc b2.size (.cells #[.slice xa.a x.lo.length xa.c, .slice xb.a x.al.length xb.c, .slice xc.a x.ne.length xc.c] 27)
  have E2 := Lib.hid (C.later E1.out b2')
  have X2 := Lib.hid (hx.below ((Below.refl _ _).alloc (Nat.le_refl _) (.cells #[.slice xa.a x.lo.length xa.c, .slice xb.a x.al.length xb.c, .slice xc.a x.ne.length xc.c] 27)))
  have KX2 := Lib.hid (heap_alloc_new w2 (.cells #[.slice xa.a x.lo.length xa.c, .slice xb.a x.al.length xb.c, .slice xc.a x.ne.length xc.c] 27))
  have HX1 := Lib.hid hx1
  clear hp b2 b2' hx hx1 hx2 E1
  go_wp2_with fail
  refine (C.parse _ b E2.out (by omega)).mono ?_
  intro e w3 hp
  obtain ⟨ya, yb, yc, at2, er2, y, rfl, hy, hy1, hy2, b3⟩ := hp.tab
  have B3 := Lib.hid ((st B2.out b3 B2.out.size).alloc (st B2.out b3 B2.out.size).size (.cells #[.slice ya.a y.lo.length ya.c, .slice yb.a y.al.length yb.c, .slice yc.a y.ne.length yc.c] 27))
  have b3' := b3.alloc b3.size (.cells #[.slice ya.a y.lo.length ya.c, .slice yb.a y.al.length yb.c, .slice yc.a y.ne.length yc.c] 27)
  have E3 := Lib.hid (C.later E2.out b3')
  have X3 := Lib.hid (X2.out.below b3')
  have KX3 := Lib.hid (Blk.below KX2.out b3')
  have Y3 := Lib.hid (hy.below ((Below.refl _ _).alloc (Nat.le_refl _) (.cells #[.slice ya.a y.lo.length ya.c, .slice yb.a y.al.length yb.c, .slice yc.a y.ne.length yc.c] 27)))
  have KY3 := Lib.hid (heap_alloc_new w3 (.cells #[.slice ya.a y.lo.length ya.c, .slice yb.a y.al.length yb.c, .slice yc.a y.ne.length yc.c] 27))
  have HY1 := Lib.hid hy1
  clear hp b3 b3' hy hy1 hy2 E2 X2 KX2
  by_cases e1 : er1 = 0
  case neg =>
    have t1 : (er1 != 0) = true := by rw [bne_iff_ne]; exact e1
    have t1' : (er1 == 0) = false := by rw [beq_eq_false_iff_ne]; exact e1
    go_wp2
    go_ret
    exact ⟨rfl, B3.out⟩
  subst e1
  by_cases e2 : er2 = 0
  case neg =>
    have t1 : (er2 != 0) = true := by rw [bne_iff_ne]; exact e2
    have t1' : (er2 == 0) = false := by rw [beq_eq_false_iff_ne]; exact e2
    go_wp2
    go_ret
    exact ⟨rfl, B3.out⟩
  subst e2
  have HPX := Lib.hid (HX1.out rfl)
  have HPY := Lib.hid (HY1.out rfl)
  have vx := (text_inv HPX.out).1
  have vy := (text_inv HPY.out).1
  have lx1 := vx.loL
  have lx2 := vx.alL
  have lx3 := vx.neL
  have ly1 := vy.loL
  have ly2 := vy.alL
  have ly3 := vy.neL
  clear vx vy HX1 HY1
  have p0 : (w3.alloc (.cells #[.slice ya.a y.lo.length ya.c, .slice yb.a y.al.length yb.c, .slice yc.a y.ne.length yc.c] 27)).cell? ⟨w2.heap.size, 0, none⟩ = some (.slice xa.a x.lo.length xa.c) := KX3.out.cell 0
  have p1 : (w3.alloc (.cells #[.slice ya.a y.lo.length ya.c, .slice yb.a y.al.length yb.c, .slice yc.a y.ne.length yc.c] 27)).cell? ⟨w2.heap.size, 1, none⟩ = some (.slice xb.a x.al.length xb.c) := KX3.out.cell 1
  have p2 : (w3.alloc (.cells #[.slice ya.a y.lo.length ya.c, .slice yb.a y.al.length yb.c, .slice yc.a y.ne.length yc.c] 27)).cell? ⟨w2.heap.size, 2, none⟩ = some (.slice xc.a x.ne.length xc.c) := KX3.out.cell 2
  have g1 : IntKind.i64.wrap ((x.lo.length : Int) + (y.lo.length : Int)) = (x.lo.length : Int) + (y.lo.length : Int) := by rw [IntKind.wrap_i64]; omega
  have g2 : IntKind.i64.wrap ((x.al.length : Int) + (y.al.length : Int)) = (x.al.length : Int) + (y.al.length : Int) := by rw [IntKind.wrap_i64]; omega
  have g3 : IntKind.i64.wrap ((x.ne.length : Int) + (y.ne.length : Int)) = (x.ne.length : Int) + (y.ne.length : Int) := by rw [IntKind.wrap_i64]; omega
  by_cases f1 : x.lo.length + y.lo.length ≤ 60
  case neg =>
    have f1' : (60 : Int) < (x.lo.length : Int) + (y.lo.length : Int) := by omega
    go_wp2
    go_ret
    exact ⟨rfl, B3.out⟩
  have f1' : ¬ (60 : Int) < (x.lo.length : Int) + (y.lo.length : Int) := by omega
  by_cases f2 : x.al.length + y.al.length ≤ 200
  case neg =>
    have f2' : (200 : Int) < (x.al.length : Int) + (y.al.length : Int) := by omega
    go_wp2
    go_ret
    exact ⟨rfl, B3.out⟩
  have f2' : ¬ (200 : Int) < (x.al.length : Int) + (y.al.length : Int) := by omega
  by_cases f3 : x.ne.length + y.ne.length ≤ 200
  case neg =>
    have f3' : (200 : Int) < (x.ne.length : Int) + (y.ne.length : Int) := by omega
    go_wp2
    go_ret
    exact ⟨rfl, B3.out⟩
  have f3' : ¬ (200 : Int) < (x.ne.length : Int) + (y.ne.length : Int) := by omega
  have HZ := Lib.hid (prs_parts HPX.out HPY.out ⟨f1, f2, f3⟩ (by simp only [List.length_append, List.length_cons]; omega))
  have s1 : ∀ wx, (Op.stringOp .add (ofL a) ⟨#[10]⟩).run Tryz.prog wx = .ok (.string (ofL (a ++ [10]))) wx := str_addZ (x := a) (y := [10]) (by simp only [List.length_cons, List.length_nil]; omega) rfl
  have s2 : ∀ wx, (Op.stringOp .add (ofL (a ++ [10])) (ofL b)).run Tryz.prog wx = .ok (.string (ofL (a ++ 10 :: b))) wx := str_addZ (x := a ++ [10]) (y := b) (by simp only [List.length_append, List.length_cons, List.length_nil]; omega) (by simp)
  go_wp2_with fail
  refine (C.parse _ (a ++ 10 :: b) E3.out (by simp only [List.length_append, List.length_cons]; omega)).mono ?_
  intro e w4 hp
  obtain ⟨za', zb', zc', at3, er3, z, rfl, hz, hz1, hz2, b4⟩ := hp.tab
  have er0 : er3 = 0 := by
    by_cases h : er3 = 0
    · exact h
    · have := (hz2 h).1; rw [HZ.out] at this; cases this
  subst er0
  have hzz : z = tadd x y := by have := hz1 rfl; rw [HZ.out] at this; injection this with h; exact h.symm
  have HZZ := Lib.hid hzz
  have B4 := Lib.hid (B3.out.trans (b4.mono B3.out.size))
  have X4 := Lib.hid (X3.out.below b4)
  have KX4 := Lib.hid (Blk.below KX3.out b4)
  have Y4 := Lib.hid (Y3.out.below b4)
  have KY4 := Lib.hid (Blk.below KY3.out b4)
  have Z4 := Lib.hid hz
  clear hp hz hz1 hz2 b4 X3 KX3 Y3 KY3 hzz p0 p1 p2 HZ E3
  -- the region
  go_wp2_with fail
  obtain ⟨W1, hW1⟩ : ∃ W, (w4.alloc (.cells #[.slice za'.a z.lo.length za'.c, .slice zb'.a z.al.length zb'.c, .slice zc'.a z.ne.length zc'.c] 27)).drew = W := ⟨_, rfl⟩
  have b1 : Below w4.heap.size w4 W1 := by rw [← hW1]; exact ((Below.refl _ _).alloc (Nat.le_refl _) _).drew
  have BW := Lib.hid (B4.out.trans (b1.mono B4.out.size))
  have XW := Lib.hid (X4.out.below b1)
  have YW := Lib.hid (Y4.out.below b1)
  have ZW := Lib.hid (Z4.out.below b1)
  have KXW := Lib.hid (KX4.out.below b1)
  have KYW := Lib.hid (KY4.out.below b1)
  have KZW : Hid (Blk w4.heap.size 27 #[.slice za'.a z.lo.length za'.c, .slice zb'.a z.al.length zb'.c, .slice zc'.a z.ne.length zc'.c] W1) := Lib.hid (by rw [← hW1]; exact (Blk.new _ _ _).drew)
  have HC : Hid (∀ wx, Below W1.heap.size W1 wx → wx.cell? ⟨w2.heap.size, 0, none⟩ = some (.slice xa.a x.lo.length xa.c) ∧ wx.cell? ⟨w2.heap.size, 1, none⟩ = some (.slice xb.a x.al.length xb.c) ∧ wx.cell? ⟨w2.heap.size, 2, none⟩ = some (.slice xc.a x.ne.length xc.c) ∧
      wx.cell? ⟨w3.heap.size, 0, none⟩ = some (.slice ya.a y.lo.length ya.c) ∧ wx.cell? ⟨w3.heap.size, 1, none⟩ = some (.slice yb.a y.al.length yb.c) ∧ wx.cell? ⟨w3.heap.size, 2, none⟩ = some (.slice yc.a y.ne.length yc.c)) := Lib.hid (fun wx hx =>
    ⟨(KXW.out.below hx).cell 0, (KXW.out.below hx).cell 1, (KXW.out.below hx).cell 2, (KYW.out.below hx).cell 0, (KYW.out.below hx).cell 1, (KYW.out.below hx).cell 2⟩)
  have HS : Hid (Below W1.heap.size W1 W1) := Lib.hid (Below.refl _ _)
  have HF := Lib.hid (show x.lo.length + y.lo.length ≤ 60 ∧ x.al.length + y.al.length ≤ 200 ∧ x.ne.length + y.ne.length ≤ 200 from ⟨f1, f2, f3⟩)
  clear X4 Y4 Z4 KX4 KY4 B4 b1 g1 g2 g3 s1 s2 f1 f2 f3 f1' f2' f3' lx1 lx2 lx3 ly1 ly2 ly3 HPX HPY
  refine region_hd 23 (fun wx => Below W1.heap.size W1 wx) rfl (by kernel_rfl) ?_
  rw [hW1]
  clear hW1
  refine hd_taken 1 (some 84) _ ?hdv1 rfl rfl (by kernel_rfl) (fun _ _ _ h => h) (Or.inl ⟨by kernel_rfl, ?hdy1⟩) HS.out ?hdr1
  case hdy1 => (intro wx hx; clear hx; go_simp; try with_reducible rfl)
  try simp only [Act.put, List.setIfInBounds_toArray, List.set_cons_zero, List.set_cons_succ]
  refine hd_taken 2 (some 85) _ ?hdv2 rfl rfl (by kernel_rfl) (fun _ _ _ h => h) (Or.inl ⟨by kernel_rfl, ?hdy2⟩) HS.out ?hdr2
  case hdy2 => (intro wx hx; have hq := (HC.out wx hx).1; clear hx; go_simp; try with_reducible rfl)
  try simp only [Act.put, List.setIfInBounds_toArray, List.set_cons_zero, List.set_cons_succ]
  refine hd_taken 4 (some 87) _ ?hdv4 rfl rfl (by kernel_rfl) (fun _ _ _ h => h) (Or.inl ⟨by kernel_rfl, ?hdy4⟩) HS.out ?hdr4
  case hdy4 => (intro wx hx; clear hx; go_simp; try with_reducible rfl)
  try simp only [Act.put, List.setIfInBounds_toArray, List.set_cons_zero, List.set_cons_succ]
  refine hd_taken 5 (some 88) _ ?hdv5 rfl rfl (by kernel_rfl) (fun _ _ _ h => h) (Or.inl ⟨by kernel_rfl, ?hdy5⟩) HS.out ?hdr5
  case hdy5 => (intro wx hx; have hq := (HC.out wx hx).2.2.2.1; clear hx; go_simp; try with_reducible rfl)
  try simp only [Act.put, List.setIfInBounds_toArray, List.set_cons_zero, List.set_cons_succ]
  refine hd_taken 8 (some 91) _ ?hdv8 rfl rfl (by kernel_rfl) (fun _ _ _ h => h) (Or.inl ⟨by kernel_rfl, ?hdy8⟩) HS.out ?hdr8
  case hdy8 => (intro wx hx; clear hx; go_simp; try with_reducible rfl)
  try simp only [Act.put, List.setIfInBounds_toArray, List.set_cons_zero, List.set_cons_succ]
  refine hd_taken 9 (some 92) _ ?hdv9 rfl rfl (by kernel_rfl) (fun _ _ _ h => h) (Or.inl ⟨by kernel_rfl, ?hdy9⟩) HS.out ?hdr9
  case hdy9 => (intro wx hx; have hq := (HC.out wx hx).2.1; clear hx; go_simp; try with_reducible rfl)
  try simp only [Act.put, List.setIfInBounds_toArray, List.set_cons_zero, List.set_cons_succ]
  refine hd_taken 11 (some 94) _ ?hdv11 rfl rfl (by kernel_rfl) (fun _ _ _ h => h) (Or.inl ⟨by kernel_rfl, ?hdy11⟩) HS.out ?hdr11
  case hdy11 => (intro wx hx; clear hx; go_simp; try with_reducible rfl)
  try simp only [Act.put, List.setIfInBounds_toArray, List.set_cons_zero, List.set_cons_succ]
  refine hd_taken 12 (some 95) _ ?hdv12 rfl rfl (by kernel_rfl) (fun _ _ _ h => h) (Or.inl ⟨by kernel_rfl, ?hdy12⟩) HS.out ?hdr12
  case hdy12 => (intro wx hx; have hq := (HC.out wx hx).2.2.2.2.1; clear hx; go_simp; try with_reducible rfl)
  try simp only [Act.put, List.setIfInBounds_toArray, List.set_cons_zero, List.set_cons_succ]
  refine hd_taken 15 (some 98) _ ?hdv15 rfl rfl (by kernel_rfl) (fun _ _ _ h => h) (Or.inl ⟨by kernel_rfl, ?hdy15⟩) HS.out ?hdr15
  case hdy15 => (intro wx hx; clear hx; go_simp; try with_reducible rfl)
  try simp only [Act.put, List.setIfInBounds_toArray, List.set_cons_zero, List.set_cons_succ]
  refine hd_taken 16 (some 99) _ ?hdv16 rfl rfl (by kernel_rfl) (fun _ _ _ h => h) (Or.inl ⟨by kernel_rfl, ?hdy16⟩) HS.out ?hdr16
  case hdy16 => (intro wx hx; have hq := (HC.out wx hx).2.2.1; clear hx; go_simp; try with_reducible rfl)
  try simp only [Act.put, List.setIfInBounds_toArray, List.set_cons_zero, List.set_cons_succ]
  refine hd_taken 18 (some 101) _ ?hdv18 rfl rfl (by kernel_rfl) (fun _ _ _ h => h) (Or.inl ⟨by kernel_rfl, ?hdy18⟩) HS.out ?hdr18
  case hdy18 => (intro wx hx; clear hx; go_simp; try with_reducible rfl)
  try simp only [Act.put, List.setIfInBounds_toArray, List.set_cons_zero, List.set_cons_succ]
  refine hd_taken 19 (some 102) _ ?hdv19 rfl rfl (by kernel_rfl) (fun _ _ _ h => h) (Or.inl ⟨by kernel_rfl, ?hdy19⟩) HS.out ?hdr19
  case hdy19 => (intro wx hx; have hq := (HC.out wx hx).2.2.2.2.2; clear hx; go_simp; try with_reducible rfl)
  try simp only [Act.put, List.setIfInBounds_toArray, List.set_cons_zero, List.set_cons_succ]
  obtain ⟨r1, hr1, hl1, ho1⟩ := XW.out.lo
  obtain ⟨r2, hr2, hl2, ho2⟩ := YW.out.lo
  have HO1 := Lib.hid ho1
  have HO2 := Lib.hid ho2
  have HL := Lib.hid (And.intro hl1 hl2)
  clear ho1 ho2
  refine both_hd W1 r1 r2 x.al y.al x.ne y.ne _ _ _ _ _ _ hr1 hr2 XW.out.al YW.out.al XW.out.ne YW.out.ne (by have := HF.out; omega) (by have := HF.out; omega) (by have := HF.out; omega) _ _ _ _ _ _ _ _ _ _ _ _ _ _ _ _ _ _ _ _ _ _ _ _ _ _ _ _ _ _ _ _ _ _ _ _ _ _ _ _ _ _ _ _ _ _ _ _ _ _ _ _ _ _ _ _ _ _ _ _ _ _ _ _ _ _ _ _ _ _ _ _ _ _ _ _ _ _ _ _ _ _ _ _ _ _ _ _ _ _ _ _ _ _ _ _ ?_ 11 0 0 0 0 0 (by omega) (by omega) (by omega) (by omega) (by omega) rfl _ _ _ _ _ _ _ _ _ _ _ W1 ⟨Below.refl _ _, trivial, trivial, trivial, fun h => absurd h (by decide), fun h => absurd h (by decide)⟩
  clear hr1 hr2 hl1 hl2 HC HS
  intro x1 x2 x3 y1 y2 y3 z1 z2 z3 b p wf J
  obtain ⟨_, _, _, rfl⟩ := J.fe rfl
  obtain ⟨g, rfl, hg1, hg2⟩ := J.fd rfl
  have j1 : Own1 16 encLo wf W1.heap.size 51 x3 (r1 ++ r2) := J.f1
  have j2 : Own1 2 encDu wf W1.heap.size 61 y3 (x.al ++ y.al) := J.f2
  have j3 : Own1 3 encNe wf W1.heap.size 36 z3 (x.ne ++ y.ne) := J.f3
  obtain ⟨aa, na, ca, rfl⟩ : ∃ a n c, x3 = .slice a n c := by obtain ⟨a, c, h⟩ := j1.slice; exact ⟨a, _, c, h⟩
  obtain ⟨ab, nb, cb, rfl⟩ : ∃ a n c, y3 = .slice a n c := by obtain ⟨a, c, h⟩ := j2.slice; exact ⟨a, _, c, h⟩
  obtain ⟨ac, nc, cc, rfl⟩ : ∃ a n c, z3 = .slice a n c := by obtain ⟨a, c, h⟩ := j3.slice; exact ⟨a, _, c, h⟩
  have bf : Below W1.heap.size W1 wf := J.bl
  have hzg : w4.heap.size ≠ g := by have := KZW.out.lt; omega
  obtain ⟨W5, hW5⟩ : ∃ W, ((wf.setCell ⟨g, 0, none⟩ (.slice aa na ca)).setCell ⟨g, 1, none⟩ (.slice ab nb cb)).setCell ⟨g, 2, none⟩ (.slice ac nc cc) = W := ⟨_, rfl⟩
  have bu : But g wf W5 := by rw [← hW5]; exact ((But.setCell g wf 0 _).trans (But.setCell g _ 1 _)).trans (But.setCell g _ 2 _)
  have k5 : Blk g 27 #[.slice aa na ca, .slice ab nb cb, .slice ac nc cc] W5 := by rw [← hW5]; exact ((hg2.put 0 _).put 1 _).put 2 _
  have b5 : Below W1.heap.size W1 W5 := by rw [← hW5]; exact ((bf.setCell hg1 _).setCell hg1 _).setCell hg1 _
  have kz5 := (KZW.out.below bf).but bu hzg
  have hty : ∀ (e : TypeId) (he : e ≠ 27) (b : Nat) (h : ∃ cs, Blk b e cs wf), b ≠ g := fun e he b h hb => by
    obtain ⟨cs, h⟩ := h
    rw [hb] at h
    exact he (h.ty_eq hg2)
  have T5 : Hid (RdTab W5 (.slice aa na ca) (.slice ab nb cb) (.slice ac nc cc) (tadd x y)) := Lib.hid
    ⟨rdLocs_app ((j1.rd encLo_len).but bu (fun b hb => hty _ (by decide) b (j1.ty b hb))) HL.out.1 HL.out.2 (fun i h h' => (HO1.out i h h').below b5) (fun i h h' => (HO2.out i h h').below b5),
      (j2.rd encDu_len).but bu (fun b hb => hty _ (by decide) b (j2.ty b hb)), (j3.rd encNe_len).but bu (fun b hb => hty _ (by decide) b (j3.ty b hb))⟩
  have Z5 := Lib.hid (ZW.out.below b5)
  have B5 := Lib.hid (BW.out.trans (b5.mono BW.out.size))
  have fr0 := hg2.frozen 0
  have fr1 := hg2.frozen 1
  have fr2 := hg2.frozen 2
  have ce0 : wf.cell? ⟨g, 0, none⟩ = some (.slice none 0 0) := hg2.cell 0
  have ce1 : wf.cell? ⟨g, 1, none⟩ = some (.slice none 0 0) := hg2.cell 1
  have ce2 : wf.cell? ⟨g, 2, none⟩ = some (.slice none 0 0) := hg2.cell 2
  have v0 : W5.cell? ⟨g, 0, none⟩ = some (.slice aa na ca) := k5.cell 0
  have v1 : W5.cell? ⟨g, 1, none⟩ = some (.slice ab nb cb) := k5.cell 1
  have v2 : W5.cell? ⟨g, 2, none⟩ = some (.slice ac nc cc) := k5.cell 2
  have t0 : W5.cell? ⟨w4.heap.size, 0, none⟩ = some (.slice za'.a z.lo.length za'.c) := kz5.cell 0
  have t1 : W5.cell? ⟨w4.heap.size, 1, none⟩ = some (.slice zb'.a z.al.length zb'.c) := kz5.cell 1
  have t2 : W5.cell? ⟨w4.heap.size, 2, none⟩ = some (.slice zc'.a z.ne.length zc'.c) := kz5.cell 2
  clear J j1 j2 j3 bf hzg bu k5 b5 kz5 hty hg1 HO1 HO2 HL XW YW ZW BW KXW KYW KZW HF
  dsimp only [bothOps, List.drop]
  go_wp2_with fail
  refine (refTab_any ⟨za'.a, z.lo.length, za'.c⟩ ⟨zb'.a, z.al.length, zb'.c⟩ ⟨zc'.a, z.ne.length, zc'.c⟩ ⟨aa, na, ca⟩ ⟨ab, nb, cb⟩ ⟨ac, nc, cc⟩ z (tadd x y) W5 Z5.out T5.out).mono ?_
  rintro e w6 ⟨rfl, b6⟩
  rw [show decide (z = tadd x y) = true from decide_eq_true HZZ.out]
  have B6 := Lib.hid (st B5.out b6 B5.out.size)
  clear b6 T5 Z5 fr0 fr1 fr2 ce0 ce1 ce2 v0 v1 v2 t0 t1 t2
  go_wp2
  go_ret
  exact ⟨rfl, B6.out⟩
end Go.Proofs.YtpmmchppfmojhaaGreatDoor


