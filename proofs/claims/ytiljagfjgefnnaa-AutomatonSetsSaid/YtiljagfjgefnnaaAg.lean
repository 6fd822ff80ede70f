/- Appends that say where the row lies; of the reference: alike. -/
import Derived.Test.YtiljagfjgefnnaaAf
import Derived.Deep.AppendLies
namespace Go.Proofs.Ytiljagfjgefnnaa
open Go.RowKit
set_option linter.unusedVariables false

def Apart (v u : Value) : Prop := ∀ b, v.ownBlock = some b → u.ownBlock ≠ some b
theorem Apart.symm {v u : Value} (h : Apart v u) : Apart u v := fun b hb e => h b e hb
theorem apart_nil (v : Value) : Apart v (.slice none 0 0) := fun b _ e => by cases e
section
variable {α : Type} {k : Nat} {enc : α → List Value} {w w' : World} {base : Nat} {e : TypeId} {v : Value} {l : List α}
theorem own_grown {row : Option Nat} (h : Own1 k enc w base e v l) (hg : w.grownBy w' row) (hne : ∀ g, v.ownBlock = some g → row ≠ some g) : Own1 k enc w' base e v l := by
  refine ⟨h.1, ?_⟩
  rcases h.2 with h0 | ⟨g, cap, cur, hv, hB, hg', hr⟩
  · exact .inl h0
  · exact .inr ⟨g, cap, cur, hv, hB, (hg.block g (Array.getElem?_eq_some_iff.1 hg').1 (fun e => hne g (by rw [hv]; rfl) e.symm)).trans hg', hr⟩
theorem own_lt (h : Own1 k enc w base e v l) : ∀ b, v.ownBlock = some b → base ≤ b ∧ b < w.heap.size := h.lt_
theorem own_blk (h : Own1 k enc w base e v l) : ∀ g, v.ownBlock = some g → base ≤ g ∧ ∃ cs, Blk g e cs w := by
  intro g hg
  rcases h.2 with ⟨rfl, _⟩ | ⟨g', cap, cur, rfl, hB, hg', _⟩
  · cases hg
  · cases hg
    exact ⟨hB, cur, hg'⟩
theorem own_type {B : Nat} {t : TypeId} {cs : Array Value} (h : Own1 k enc w base e v l) (hb : Blk B t cs w) (hne : t ≠ e) : v.ownBlock ≠ some B := by
  intro hv
  obtain ⟨_, cs', h2⟩ := own_blk h B hv
  have : (some (Obj.cells cs t (0, 0)) : Option Obj) = some (Obj.cells cs' e (0, 0)) := by rw [← show w.heap[B]? = _ from hb, ← show w.heap[B]? = _ from h2]
  injection this with this
  injection this with _ h4
  exact hne h4
end
section
variable {α : Type} {k : Nat} {enc : α → List Value}
variable {P : Program} {ops : Array Oper} {rest : List Oper} {o : Oper} {a : Act} {Q : Exit → Act → World → Prop}
/-- What is told of an append: the row, what is below it, what has grown, where it lies. -/
def Lie (k : Nat) (enc : α → List Value) (base : Nat) (e : TypeId) (w0 : World) (v : Value) (l : List α) (v' : Value) (w' : World) : Prop :=
  Own1 k enc w' base e v' l ∧ Below base w0 w' ∧ w0.grownBy w' v.ownBlock ∧ ∀ b, v'.ownBlock = some b → v.ownBlock = some b ∨ w0.heap.size ≤ b
theorem wpList_append_lie {w0 : World} {e : TypeId} {cs : Array Value} {x : α} {N : Nat} (hN : w0.heap.size = N) (hgd : o.guard = none) (s y : Operand) (t : TypeId)
    (ho : o.op = .call { callee := .builtin .append, args := #[s, y], argTypes := #[t, t] })
    (base : Nat) (i : TypeInfo) (z : Value) (by_ : Nat) (ht : P.underlying t = some (.slice e)) (hi : P.info? e = some i) (hz : i.zero = some z) (hsize : i.size = k) (hby : i.bytes = by_) (hb64 : by_ ≤ 64) (hzs : z.cells.size = k) (hk0 : 0 < k)
    (hk : ∀ x : α, (enc x).length = k) (h1c : ∀ x : α, ∀ u ∈ enc x, u.oneCell' = true)
    (v : Value) (l : List α) (hcs : cs.toList = enc x) (hs : a.eval s = v) (hown : Own1 k enc w0 base e v l) (hx : a.eval y = .slice (some ⟨N, 0, none⟩) 1 1)
    (hl : l.length ≤ 1000000000) (hbase : base ≤ N)
    (h : ∀ v' w', Lie k enc base e w0 v (l ++ [x]) v' w' → wpList P ops Q rest (a.put o.dst v') w') : wpList P ops Q (o :: rest) a (w0.alloc (.cells cs e)) := by
  subst hN
  refine wpList_append_lies (w := w0.alloc (.cells cs e)) hgd s y t ho base e i z k by_ ht hi hz hsize hby hzs hk0 v l.length (l.flatMap enc) hs (World.ownsRow.alloc hown _) ⟨w0.heap.size, 0, none⟩ 1 1 cs.toList hx (by rw [hcs, hk, Nat.one_mul]) (cells_new _ _ _) (fun u hu => h1c x u (by rw [← hcs]; exact hu)) (by omega) (by unfold maxLen; omega) (Nat.le_trans (Nat.mul_le_mul_left _ hb64) (by omega)) (by simp; omega) _ rfl ?_
  intro g cap w' h2 h3 h4 h5
  refine h _ w' ⟨?_, ((Below.refl base w0).alloc hbase _).grown h3 (by simp; omega) (fun j e => (World.ownsRow.lt hown j e).1), (World.grownBy_alloc _ _ _).trans h3, fun b hb => ?_⟩
  · unfold Own1
    rw [List.flatMap_append, List.length_append, List.flatMap_cons, List.flatMap_nil, List.append_nil, ← hcs]
    exact h2
  · have hgb : g = b := by
      have : (some g : Option Nat) = some b := hb
      injection this
    subst hgb
    rcases h4 with h4 | h4
    · exact .inl h4
    · right
      rw [h4]
      simp
end
section
variable {α β : Type} {k k' : Nat} {enc : α → List Value} {enc' : β → List Value} {w0 w' : World} {base base' : Nat} {e e' : TypeId} {v v' u : Value} {l : List α} {m : List β}
/-- Another row, beside the one that has grown. -/
theorem Lie.other (h : Lie k enc base e w0 v l v' w') (ho : Own1 k' enc' w0 base' e' u m) (ha : Apart v u) : Own1 k' enc' w' base' e' u m ∧ Apart v' u := by
  obtain ⟨_, _, h3, h4⟩ := h
  refine ⟨own_grown ho h3 (fun g hg e => ha g e hg), fun b hb hu => ?_⟩
  rcases h4 b hb with h5 | h5
  · exact ha b h5 hu
  · have := (own_lt ho b hu).2
    omega
/-- A block beside it. -/
theorem Lie.blk {B : Nat} {t : TypeId} {cs : Array Value} (h : Lie k enc base e w0 v l v' w') (hb : Blk B t cs w0) (hne : v.ownBlock ≠ some B) : Blk B t cs w' ∧ v'.ownBlock ≠ some B := by
  obtain ⟨_, _, h3, h4⟩ := h
  refine ⟨(h3.block B hb.lt (fun e => hne e.symm)).trans hb, fun hv => ?_⟩
  rcases h4 B hv with h5 | h5
  · exact hne h5
  · have := hb.lt
    omega
end
/-! ### alike -/
theorem alk_no0 {A : Aut} {of : List Nat} {a b : Nat} (h : of.getD a 0 ≠ of.getD b 0) : alk A of a b = false := by unfold alk; rw [decide_eq_false h]; rfl
theorem alk_no {A : Aut} {of : List Nat} {a b c : Nat} (hc : c < 11) (h : of.getD (A.d a c) 0 ≠ of.getD (A.d b c) 0) : alk A of a b = false := by
  unfold alk
  have : ((List.range 11).all fun c => decide (of.getD (A.d a c) 0 = of.getD (A.d b c) 0)) = false := by
    rw [List.all_eq_false]
    exact ⟨c, List.mem_range.2 hc, by rw [decide_eq_false h]; simp⟩
  rw [this, Bool.and_false]
theorem alk_yes {A : Aut} {of : List Nat} {a b : Nat} (h0 : of.getD a 0 = of.getD b 0) (h : ∀ c, c < 11 → of.getD (A.d a c) 0 = of.getD (A.d b c) 0) : alk A of a b = true := by
  unfold alk
  rw [decide_eq_true h0, Bool.true_and, List.all_eq_true]
  intro c hc
  exact decide_eq_true (h c (List.mem_range.1 hc))
set_option maxRecDepth 1000000 in
set_option maxHeartbeats 8000000 in
theorem alike_any (r : RawD) (ok : DOk r) (a1 : Option Addr) (c1 : Nat) (a2 : Option Addr) (n2 c2 : Nat) (ao : Option Addr) (co : Nat) (of : List Nat) (hol : of.length = r.nx.length) (x y : Nat) (hx : x < r.nx.length) (hy : y < r.nx.length) (w : World) (hN : RdRows w (.slice a1 r.nx.length c1) r.nx) (hO : Rd 1 encN w (.slice ao r.nx.length co) of) :
    Calls Try.prog 65 #[.agg #[.int .i64 r.st, .slice a1 r.nx.length c1, .slice a2 n2 c2], .slice ao r.nx.length co, .int .i64 (x : Int), .int .i64 (y : Int)] w fun e w' => e = .returned (.bool (alk (toA r) of x y)) ∧ Below w.heap.size w w' := by
  have BA := (Below.refl w.heap.size w).alloc (Nat.le_refl _) (.cells #[.int .i64 r.st, .slice a1 r.nx.length c1, .slice a2 n2 c2] 25)
  have k0 := Blk.new w 25 #[.int .i64 r.st, .slice a1 r.nx.length c1, .slice a2 n2 c2]
  obtain ⟨W0, hW0⟩ : ∃ W0, w.alloc (.cells #[.int .i64 r.st, .slice a1 r.nx.length c1, .slice a2 n2 c2] 25) = W0 := ⟨_, rfl⟩
  have HN := Lib.hid (hN.below BA)
  have HO := Lib.hid (hO.below BA)
  have HBA := Lib.hid BA
  have K0 := Lib.hid k0
  rw [hW0] at HN HO HBA K0
  obtain ⟨g, hg⟩ : ∃ g, w.heap.size = g := ⟨_, rfl⟩
  have HG := Lib.hid hg
  have HW0 := Lib.hid hW0
  rw [hg] at K0
  have HOK := Lib.hid ok
  have HOL := Lib.hid hol
  clear hN hO BA k0 hW0 hg ok
  obtain ⟨bo, oo, rfl, q0⟩ := HO.out.nat x (by omega)
  obtain ⟨bo', oo', e', q1⟩ := HO.out.nat y (by omega)
  cases e'
  have q0d : W0.drew.cell? ⟨bo, oo + x, none⟩ = some (.int .i64 (of.getD x 0 : Nat)) := q0
  have q1d : W0.drew.cell? ⟨bo, oo + y, none⟩ = some (.int .i64 (of.getD y 0 : Nat)) := q1
  have hx' : (x : Int) < (r.nx.length : Int) := by omega
  have hy' : (y : Int) < (r.nx.length : Int) := by omega
  go_enter Try.func65, Try.ntmps65
  go_upto_region 1 with fail
  rw [HW0.out, HG.out]
  clear HW0 hol
  by_cases he : of.getD x 0 = of.getD y 0
  case neg =>
    have t : (((of.getD x 0 : Nat) : Int) != ((of.getD y 0 : Nat) : Int)) = true := by rw [bne_iff_ne]; omega
    have t' : (of.getD x 0 != of.getD y 0) = true := by rw [bne_iff_ne]; exact he
    have HV := Lib.hid (alk_no0 (A := toA r) he)
    obtain ⟨p, hp⟩ : ∃ p, of.getD x 0 = p := ⟨_, rfl⟩
    obtain ⟨q, hq⟩ : ∃ q, of.getD y 0 = q := ⟨_, rfl⟩
    rw [hp] at q0 q0d t t'
    rw [hq] at q1 q1d t t'
    clear he hp hq
    go_wp2_with fail
    go_quiet (fail)
    go_wp2
    go_ret
    exact ⟨by rw [HV.out]; rfl, below_drewN HBA.out _⟩
  have t : (((of.getD x 0 : Nat) : Int) != ((of.getD y 0 : Nat) : Int)) = false := by rw [bne_eq_false_iff_eq]; omega
  have t' : (of.getD x 0 != of.getD y 0) = false := by rw [bne_eq_false_iff_eq]; exact he
  have HE := Lib.hid he
  obtain ⟨p, hp⟩ : ∃ p, of.getD x 0 = p := ⟨_, rfl⟩
  obtain ⟨q, hq⟩ : ∃ q, of.getD y 0 = q := ⟨_, rfl⟩
  rw [hp] at q0 q0d t t'
  rw [hq] at q1 q1d t t'
  clear he hp hq
  go_wp2_with fail
  go_quiet (fail)
  go_wp2_with fail
  go_loopw [9] (fun v wr => ∃ k : Nat, k ≤ 11 ∧ v = .int .i64 k ∧ (∀ c, c < k → of.getD ((toA r).d x c) 0 = of.getD ((toA r).d y c) 0) ∧ Below W0.heap.size W0 wr) (fun v _ => 11 - (intOf v).toNat)
  case atStart => exact ⟨0, Nat.zero_le _, rfl, fun c h => by omega, below_drewN (Below.refl _ _) _⟩
  case round =>
    obtain ⟨k, hk, rfl, hkd, hb⟩ := hrel
    have HK := Lib.hid hkd
    have HB := Lib.hid hb
    have KR := Lib.hid (Blk.below K0.out hb)
    clear hkd hb q0 q0d q1 q1d t t'
    by_cases hkt : k < 11
    · have h8 : (k : Int) < 11 := by omega
      obtain ⟨b, off, b', off', x2, rfl, g0, g1⟩ := HOK.out.cells (HN.out.below HB.out) hx hkt
      obtain ⟨d, doff, d', doff', z2, e2, i0, i1⟩ := HOK.out.cells (HN.out.below HB.out) hy hkt
      cases e2
      have hdx := HOK.out.ok.go x k hx hkt
      have hdy := HOK.out.ok.go y k hy hkt
      have hdx1 : (toA r).d x k < r.nx.length := hdx
      have hdy1 : (toA r).d y k < r.nx.length := hdy
      have HNO := Lib.hid (alk_no (A := toA r) (of := of) (a := x) (b := y) hkt)
      obtain ⟨X, hX⟩ : ∃ X, (toA r).d x k = X := ⟨_, rfl⟩
      obtain ⟨Y, hY⟩ : ∃ Y, (toA r).d y k = Y := ⟨_, rfl⟩
      have HXX := Lib.hid hX
      have HYY := Lib.hid hY
      rw [hX] at g1 hdx1 HNO
      rw [hY] at i1 hdy1 HNO
      clear hX hY hdx hdy
      obtain ⟨bo2, oo2, e3, j0⟩ := (HO.out.below HB.out).nat X (by rw [HOL.out]; exact hdx1)
      cases e3
      obtain ⟨bo2, oo2, e3, j1⟩ := (HO.out.below HB.out).nat Y (by rw [HOL.out]; exact hdy1)
      cases e3
      have hX' : (X : Int) < (r.nx.length : Int) := by omega
      have hY' : (Y : Int) < (r.nx.length : Int) := by omega
      obtain ⟨p, hp⟩ : ∃ p, of.getD X 0 = p := ⟨_, rfl⟩
      obtain ⟨q, hq⟩ : ∃ q, of.getD Y 0 = q := ⟨_, rfl⟩
      have HP := Lib.hid hp
      have HQ := Lib.hid hq
      rw [hp] at j0 HNO
      rw [hq] at j1 HNO
      have s1 : wr.cell? ⟨g, 1, none⟩ = some (.slice (some ⟨b, off, none⟩) r.nx.length c1) := KR.out.cell 1
      have s1d : wr.drew.cell? ⟨g, 1, none⟩ = some (.slice (some ⟨b, off, none⟩) r.nx.length c1) := s1
      have g0d : wr.drew.cell? ⟨b, off + x, none⟩ = some (.slice (some ⟨b', off', none⟩) 11 x2) := g0
      have g1d : wr.drew.cell? ⟨b', off' + k, none⟩ = some (.int .i64 (X : Nat)) := g1
      have i0d : wr.drew.cell? ⟨b, off + y, none⟩ = some (.slice (some ⟨d', doff', none⟩) 11 z2) := i0
      have i1d : wr.drew.cell? ⟨d', doff' + k, none⟩ = some (.int .i64 (Y : Nat)) := i1
      have j0d : wr.drew.cell? ⟨bo, oo + X, none⟩ = some (.int .i64 (p : Nat)) := j0
      have j1d : wr.drew.cell? ⟨bo, oo + Y, none⟩ = some (.int .i64 (q : Nat)) := j1
      clear hp hq
      by_cases hpq : p = q
      case neg =>
        have t : ((p : Int) != (q : Int)) = true := by rw [bne_iff_ne]; omega
        have t' : (p != q) = true := by rw [bne_iff_ne]; exact hpq
        have HV := Lib.hid (HNO.out hpq)
        clear hpq
        go_wp2_with fail
        go_quiet (fail)
        go_wp2
        go_ret
        exact ⟨by rw [HV.out]; rfl, below_drewN (HBA.out.trans (HB.out.mono HBA.out.size)) _⟩
      have t : ((p : Int) != (q : Int)) = false := by rw [bne_eq_false_iff_eq]; omega
      have t' : (p != q) = false := by rw [bne_eq_false_iff_eq]; exact hpq
      have HPQ := Lib.hid hpq
      clear hpq
      go_wp2_with fail
      go_quiet (fail)
      go_wp2
      go_roundw
      case measure => simp [intOf]; omega
      case rel => exact ⟨k + 1, by omega, by go_num, fun c hc => by
        rcases Nat.lt_or_ge c k with h | h
        · exact HK.out c h
        · obtain rfl : c = k := by omega
          rw [HXX.out, HYY.out, HP.out, HQ.out]; exact HPQ.out, below_drewN HB.out _⟩
    · obtain rfl : k = 11 := by omega
      have HV := Lib.hid (alk_yes (A := toA r) HE.out HK.out)
      go_wp2
      go_ret
      exact ⟨by rw [HV.out]; rfl, HBA.out.trans (HB.out.mono HBA.out.size)⟩
end Go.Proofs.Ytiljagfjgefnnaa
