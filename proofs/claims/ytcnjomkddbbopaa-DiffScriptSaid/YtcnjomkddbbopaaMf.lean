/- fill. -/
import Derived.Test.YtcnjomkddbbopaaMz
import Derived.Laws.IdiomCopy
import Derived.Sort.QuietIn
import Derived.StillTailTactics
namespace Go.Proofs.Ytcnjomkddbbopaa
open Go.RowKit Go.Shelf
set_option linter.unusedVariables false
attribute [local go_sem] Oper.semAt_some

/-- Copying a row of the table. -/
def cpy (M : Nat → Nat → Int) (r s : Nat) : Nat → Nat → Int := fun i j => if i = r then M s j else M i j
theorem Grid.copy {P : Program} {C h wd : Nat} {M : Nat → Nat → Int} {w : World} (g : Grid C h wd M w) {r s : Nat} (hr : r < h) (hs : s < h) (dT sT ty elem : TypeId) (hu : P.underlying dT = some (.slice elem)) (hz : (P.info? elem).map (·.size) = some 1) :
    ∃ w', (Builtin.copy_ #[dT, sT] ty #[.slice (some ⟨C, r * wd, none⟩) wd wd, .slice (some ⟨C, s * wd, none⟩) wd wd]).run P w = .ok (goInt wd) w' ∧ Grid C h wd (cpy M r s) w' ∧ But C w w' ∧ w'.heap.size = w.heap.size := by
  obtain ⟨cs, b, hc⟩ := g
  have hlen : ((List.range wd).map fun j => Value.int .i32 (M s j)).length = wd := by simp
  have hget : ∀ j, j < wd → ((List.range wd).map fun j => Value.int .i32 (M s j))[j]? = some (.int .i32 (M s j)) := fun j hj => by simp [List.getElem?_map, List.getElem?_range hj]
  have hfit : r * wd + wd ≤ cs.size := by
    rcases Nat.eq_zero_or_pos wd with h0 | h0
    · subst h0; simp
    · have := (Array.getElem?_eq_some_iff.1 (hc r (wd - 1) hr (by omega))).1
      omega
  refine ⟨w.setRow C (cs.toList.take (r * wd) ++ ((List.range wd).map fun j => Value.int .i32 (M s j)) ++ cs.toList.drop (r * wd + ((List.range wd).map fun j => Value.int .i32 (M s j)).length)).toArray, ?_, ?_, ?_, by simp [World.setRow]⟩
  · have := run_copy_row (P := P) w dT sT ty elem C (r * wd) wd wd ⟨C, s * wd, none⟩ wd wd cs 21 ((List.range wd).map fun j => Value.int .i32 (M s j)) hu hz b (by rw [hlen]; exact (Nat.min_self wd).symm) (fun j v hj => by
      have hjl := (List.getElem?_eq_some_iff.1 hj).1
      rw [hlen] at hjl
      rw [hget j hjl] at hj
      rw [add_off, b.cell, hc s j hs hjl]
      exact hj) (by rw [hlen]; exact hfit) (by intro v hv; obtain ⟨j, _, rfl⟩ := List.mem_map.1 hv; rfl)
    have e : goInt (((List.range wd).map fun j => Value.int .i32 (M s j)).length : Int) = goInt (wd : Int) := by rw [hlen]
    rw [← e]
    exact this
  · refine ⟨_, setRow_heap w C cs _ _ _ b, fun i j hi hj => ?_⟩
    have hij : cs[i * wd + j]? = some (.int .i32 (M i j)) := hc i j hi hj
    rw [List.getElem?_toArray]
    unfold cpy
    have ht : (cs.toList.take (r * wd)).length = r * wd := by rw [List.length_take]; simp; omega
    by_cases e : i = r
    · subst e
      rw [if_pos rfl, List.append_assoc, List.getElem?_append_right (by omega), ht, Nat.add_sub_cancel_left, List.getElem?_append_left (by rw [hlen]; exact hj)]
      exact hget j hj
    · rw [if_neg e]
      rcases Nat.lt_or_gt_of_ne e with h1 | h1
      · have h2 : i * wd + wd ≤ r * wd := by have := Nat.mul_le_mul_right wd (show i + 1 ≤ r by omega); rw [Nat.add_mul] at this; omega
        rw [List.append_assoc, List.getElem?_append_left (by omega), List.getElem?_take, if_pos (by omega), Array.getElem?_toList]
        exact hij
      · have h2 : r * wd + wd ≤ i * wd := by have := Nat.mul_le_mul_right wd (show r + 1 ≤ i by omega); rw [Nat.add_mul] at this; omega
        rw [List.getElem?_append_right (by rw [List.length_append, ht, hlen]; omega), List.length_append, ht, List.getElem?_drop, hlen]
        rw [show r * wd + wd + (i * wd + j - (r * wd + wd)) = i * wd + j by omega, Array.getElem?_toList]
        exact hij
  · exact ⟨rfl, rfl, rfl, by simp [World.setRow], fun k hk hg => by simp [World.setRow, Array.getElem?_modify, Ne.symm hg]⟩
/-- The row that is being filled: k columns are done. -/
def part (M : Nat → Nat → Int) (r yn k v : Nat) (ys : List (Nat × Nat)) : Nat → Nat → Int := fun a c => if a = r ∧ yn ≤ c + k then rowK v (M (r + 1)) (M r yn) ys (yn - c) else M a c
theorem part_zero {M : Nat → Nat → Int} {r yn v : Nat} {ys : List (Nat × Nat)} (a c : Nat) (hc : c < yn + 1) : part M r yn 0 v ys a c = M a c := by
  unfold part
  split
  · rename_i h
    obtain ⟨rfl, h⟩ := h
    obtain rfl : c = yn := by omega
    rw [Nat.sub_self, rowK]
  · rfl
theorem part_succ {M : Nat → Nat → Int} {r k v j : Nat} {ys : List (Nat × Nat)} {x : Int} (hj : j + k + 1 = ys.length) (hx : x = rowK v (M (r + 1)) (M r ys.length) ys (k + 1)) (a c : Nat) : part M r ys.length (k + 1) v ys a c = upd (part M r ys.length k v ys) r j x a c := by
  unfold upd
  by_cases h1 : a = r ∧ c = j
  · rw [if_pos h1]
    obtain ⟨rfl, rfl⟩ := h1
    unfold part
    rw [if_pos ⟨rfl, by omega⟩, hx, show ys.length - c = k + 1 by omega]
  · rw [if_neg h1]
    unfold part
    by_cases h2 : a = r ∧ ys.length ≤ c + k
    · rw [if_pos h2, if_pos ⟨h2.1, by omega⟩]
    · rw [if_neg h2, if_neg (fun h3 => h2 ⟨h3.1, by have : c ≠ j := fun e => h1 ⟨h3.1, e⟩; omega⟩)]
theorem part_below {M : Nat → Nat → Int} {r k v c : Nat} {ys : List (Nat × Nat)} : part M r ys.length k v ys (r + 1) c = M (r + 1) c := by
  unfold part
  rw [if_neg (by omega)]
theorem part_next {M : Nat → Nat → Int} {r k v c : Nat} {ys : List (Nat × Nat)} (hc : c + k = ys.length) : part M r ys.length k v ys r c = rowK v (M (r + 1)) (M r ys.length) ys k := by
  unfold part
  rw [if_pos ⟨rfl, by omega⟩, show ys.length - c = k by omega]
theorem But.then_ {g : Nat} {w W W' : World} (h : But g w W) (b : Below w.heap.size W W') : But g w W' :=
  ⟨b.os.trans h.os, b.tape.trans h.tape, b.output.trans h.output, Nat.le_trans h.size b.size, fun k hk hg => (b.block k hk).trans (h.block k hk hg)⟩
theorem blk_kept {B B0 : Nat} {t : TypeId} {cs : Array Value} {W W' : World} {row : Option Nat} (h : Blk B t cs W) (hg : W.grownBy W' row) (hr : ∀ r, row = some r → B0 ≤ r ∧ ∃ o, W.heap[r]? = some o ∧ o.isCells = false) : Blk B t cs W' := by
  refine (hg.block B h.lt (fun e => ?_)).trans h
  obtain ⟨_, o, ho, hc⟩ := hr B e.symm
  rw [show W.heap[B]? = _ from h] at ho
  cases ho
  cases hc
theorem grid_kept {C h wd B0 : Nat} {M : Nat → Nat → Int} {W W' : World} {row : Option Nat} (g : Grid C h wd M W) (hg : W.grownBy W' row) (hr : ∀ r, row = some r → B0 ≤ r ∧ ∃ o, W.heap[r]? = some o ∧ o.isCells = false) : Grid C h wd M W' := by
  obtain ⟨cs, b, hc⟩ := g
  exact ⟨cs, blk_kept b hg hr, hc⟩
theorem bt_kept {n C B0 : Nat} {W0 W W' : World} {row : Option Nat} (g : Bt n C W0 W) (hn : n ≤ W.heap.size) (hn0 : n ≤ B0) (hg : W.grownBy W' row) (hr : ∀ r, row = some r → B0 ≤ r ∧ ∃ o, W.heap[r]? = some o ∧ o.isCells = false) : Bt n C W0 W' := by
  refine g.trans (Bt.of_below ((Below.refl n W).grown hg hn (fun k e => ?_)))
  have := (hr k e).1
  omega
/-- What the table holds when some rounds are over. -/
structure PmF (xs ys : List (Nat × Nat)) (K : List Nat) (ro h : Nat) (M : Nat → Nat → Int) (pre : List (Fin xs.length)) (M' : Nat → Nat → Int) : Prop where
  out : ∀ r j, (r < ro ∨ ro + xs.length < r) → M' r j = M r j
  zero : ∀ r, r < h → M' r ys.length = 0
  high : ro + xs.length < h
  good : IsB pre → ∀ i j, i ≤ xs.length → xs.length ≤ i + pre.length → j ≤ ys.length → M' (ro + i) j = (Lv xs ys K i j : Int)

theorem PmF.next {xs ys : List (Nat × Nat)} {K : List Nat} {ro h : Nat} {M M' : Nat → Nat → Int} {pre : List (Fin xs.length)} {i v : Nat} {hi : i < xs.length} (hy : ys.length ≤ 1000) (p : PmF xs ys K ro h M pre M') (hv : v = (xs[i]).2) :
    PmF xs ys K ro h M (pre ++ [⟨i, hi⟩]) (part M' (ro + i) ys.length ys.length v ys) := by
  subst hv
  refine ⟨fun r j hr => ?_, fun r hr => ?_, p.high, fun hB a j ha ha2 hj => ?_⟩
  · unfold part
    rw [if_neg (fun e => by omega)]
    exact p.out r j hr
  · unfold part
    split
    · rename_i e
      rw [Nat.sub_self, rowK, ← e.1]
      exact p.zero r hr
    · exact p.zero r hr
  · obtain ⟨hB1, hB2⟩ := isB_snoc.1 hB
    simp only at hB2
    rw [List.length_append, List.length_singleton] at ha2
    by_cases e : a = i
    · subst e
      unfold part
      rw [if_pos ⟨rfl, by omega⟩]
      have hu : ∀ c, c ≤ ys.length → M' (ro + a + 1) c = (Lv xs ys K (a + 1) c : Int) := fun c hc => by
        rw [show ro + a + 1 = ro + (a + 1) by omega]
        exact p.good hB1 (a + 1) c (by omega) (by omega) hc
      have := rowK_Lv (K := K) hi hy hu (ys.length - j) (by omega)
      rw [show ys.length - (ys.length - j) = j by omega] at this
      rw [← this]
      congr 1
      exact p.zero _ (by have := p.high; omega)
    · unfold part
      rw [if_neg (fun h => e (by omega))]
      exact p.good hB1 a j ha (by omega) hj

set_option maxRecDepth 1000000 in
set_option maxHeartbeats 1000000 in
theorem fill_in (F : Fence) (n : Nat) (h39 : F.fn 39) (h44 : F.fn 44) (h45 : F.fn 45) (hro : F.round = none) (hn : 4 ≤ n)
    (R ro rl rc C h lr : Nat) (xa ya : Option Addr) (xc yc : Nat) (xs ys : List (Nat × Nat)) (K : List Nat) (M : Nat → Nat → Int) (w : World)
    (hx : xs.length ≤ 1000) (hy : ys.length ≤ 1000) (hxl : xs.length < rl) (hrh : ro + rl ≤ h) (hlr : lr < h)
    (hX : Rd 2 encP w (.slice xa xs.length xc) xs) (hY : Rd 2 encP w (.slice ya ys.length yc) ys) (hxC : ∀ b o s, xa = some ⟨b, o, s⟩ → b ≠ C) (hyC : ∀ b o s, ya = some ⟨b, o, s⟩ → b ≠ C)
    (hG : Grid C h (ys.length + 1) M w) (hH : Hd R h (ys.length + 1) C w) (hRC : R ≠ C)
    (hz : ∀ r, r < h → M r ys.length = 0) (hL : ∀ j, j ≤ ys.length → M lr j = (lcs K (keys (ys.drop j)) : Int)) :
    CallsIn F n Try.prog 39 #[.slice (some ⟨R, ro, none⟩) rl rc, .slice xa xs.length xc, .slice ya ys.length yc, .slice (some ⟨C, lr * (ys.length + 1), none⟩) (ys.length + 1) (ys.length + 1)] w fun e w' =>
      (∃ v, e = .returned v) ∧ (∃ M', Grid C h (ys.length + 1) M' w' ∧ (∀ r j, (r < ro ∨ ro + xs.length < r) → M' r j = M r j) ∧ (∀ r, r < h → M' r ys.length = 0) ∧ (∀ i j, i ≤ xs.length → j ≤ ys.length → M' (ro + i) j = (Lv xs ys K i j : Int))) ∧ But C w w' := by
  have h1 : 1 ≤ n := by omega
  refine callsIn_of_wp_marks Try.func39 rfl h39 ?_ hro
  simp only [Try.ntmps39, List.size_toArray, List.length_cons, List.length_nil, Nat.reduceAdd, Nat.reduceSub, Array.replicate_succ, Array.replicate_zero, List.push_toArray, List.append_toArray, List.nil_append, List.cons_append]
  have hB0 : Below w.heap.size w ((w.alloc (.cells #[.slice (some ⟨R, ro, none⟩) rl rc] 76)).alloc (.cells #[.slice ya ys.length yc] 50)) := ((Below.refl _ w).alloc (Nat.le_refl _) _).alloc (by simp) _
  have G0 := hG.below hB0 hG.lt
  have H0 := hH.below hB0 hH.lt
  have hrow : ro + xs.length < h := by omega
  have c1 := H0.cell hrow
  obtain ⟨w2, hcp, G2, b2, s2⟩ := G0.copy (P := Try.prog) hrow hlr 79 79 3 21 rfl (by kernel_rfl)
  have hxl' : (xs.length : Int) < (rl : Int) := by omega
  gi_wp2_with (gi_at_call 44; refine (backward_in F (n - 1) h44 hro _ _ _ _).mono ?_; rintro e w' ⟨rfl, rfl⟩)
  have hz2 : w2.heap.size = w.heap.size + 1 + 1 := by rw [s2]; simp
  try rw [hz2]
  have k4 : Blk w.heap.size 76 #[.slice (some ⟨R, ro, none⟩) rl rc] w2 := (((Blk.new w _ _).alloc _).but b2 (by have := hG.lt; omega))
  have k6 : Blk (w.heap.size + 1) 50 #[.slice ya ys.length yc] w2 := by
    have := Blk.new (w.alloc (.cells #[.slice (some ⟨R, ro, none⟩) rl rc] 76)) 50 #[.slice ya ys.length yc]
    rw [World.size_alloc] at this
    exact this.but b2 (by have := hG.lt; omega)
  have bb : But C w w2 := (But.of_below hB0).trans b2
  obtain ⟨W0, hW0⟩ : ∃ W0, w2.alloc (.cells #[.slice xa xs.length xc] 50) = W0 := ⟨_, rfl⟩
  have kS : Blk (w.heap.size + 1 + 1) 50 #[.slice xa xs.length xc] W0 := by rw [← hW0, ← hz2]; exact Blk.new _ _ _
  have hzW : W0.heap.size = w.heap.size + 1 + 1 + 1 := by rw [← hW0, World.size_alloc, hz2]
  have bw : But C w W0 := by rw [← hW0]; exact bb.alloc _
  replace k4 := k4.alloc (.cells #[.slice xa xs.length xc] 50)
  replace k6 := k6.alloc (.cells #[.slice xa xs.length xc] 50)
  have G3 : Grid C h (ys.length + 1) (cpy M (ro + xs.length) lr) W0 := by rw [← hW0]; exact G2.below ((Below.refl _ w2).alloc (Nat.le_refl _) _) G2.lt
  rw [hW0] at k4 k6 ⊢
  have hClt := hG.lt
  have hRlt := hH.lt
  have X0 := hX.but bw (fun b e => by cases xa with | none => cases e | some a => obtain ⟨a1, a2, a3⟩ := a; cases e; exact hxC _ _ _ rfl)
  have Y0 := hY.but bw (fun b e => by cases ya with | none => cases e | some a => obtain ⟨a1, a2, a3⟩ := a; cases e; exact hyC _ _ _ rfl)
  have H3 := hH.but bw hRC
  have hxlt : 0 < xs.length → ∀ b o s, xa = some ⟨b, o, s⟩ → b < w.heap.size + 1 + 1 + 1 ∧ b ≠ C := fun h0 b o s e => by
    obtain ⟨b', o', e', hb', _⟩ := hX.some_ 0 h0
    rw [e'] at e
    cases e
    exact ⟨by omega, hxC _ _ _ e'⟩
  refine wpIn_rangeFunc_ownH hro h1 (gf := 45) (lb := #[.pointer (some ⟨w.heap.size + 1 + 1, 0, none⟩)]) rfl h45 (enters_of Try.func45 (by kernel_rfl) rfl)
    (backward_stops F (n - 1) h45 hro (by omega) (w.heap.size + 1 + 1) (w.heap.size + 1 + 1 + 1) C xa xc xs hx W0 (by omega) kS (by omega) (by omega) hxlt X0) Bt.trans (bt_b (by omega)) (Below.refl _ _) (fun _ => rfl)
    (fun pre W => (∃ M', Grid C h (ys.length + 1) M' W ∧ PmF xs ys K ro h M pre M') ∧ Blk w.heap.size 76 #[.slice (some ⟨R, ro, none⟩) rl rc] W ∧ Blk (w.heap.size + 1) 50 #[.slice ya ys.length yc] W ∧ Bt (w.heap.size + 1 + 1 + 1) C W0 W)
    (fun _ _ _ => False)
    (fun pre W W' row hs hg hr => by
      obtain ⟨⟨M', g, p⟩, h4, h6, hb⟩ := hs
      exact ⟨⟨M', grid_kept g hg hr, p⟩, blk_kept h4 hg hr, blk_kept h6 hg hr, bt_kept hb (by have := hb.size; omega) (by omega) hg hr⟩)
    (fun _ _ _ _ _ hs _ _ => hs)
    ⟨⟨_, G3, ?p0⟩, k4, k6, Bt.refl _ _ _⟩
    (fun x a' W => ∃ Bx, w.heap.size + 1 + 1 + 1 ≤ Bx ∧ Blk Bx 69 #[.int .i64 ((xs[x.val]).1 : Int), .int .i64 ((xs[x.val]).2 : Int)] W ∧ a' = { tmps := #[.slice (some ⟨R, ro, none⟩) rl rc, .slice xa xs.length xc, .slice ya ys.length yc, .slice (some ⟨C, lr * (ys.length + 1), none⟩) (ys.length + 1) (ys.length + 1), .pointer (some ⟨w.heap.size, 0, none⟩), undef, .pointer (some ⟨w.heap.size + 1, 0, none⟩), undef, .int .i64 (x.val : Int), .pointer (some ⟨Bx, 0, none⟩), undef, undef, undef, .slice (some ⟨R, ro, none⟩) rl rc, .slice xa xs.length xc, .int .i64 (xs.length : Int), .pointer (some ⟨R, ro + xs.length, none⟩), .slice (some ⟨C, (ro + xs.length) * (ys.length + 1), none⟩) (ys.length + 1) (ys.length + 1), .slice (some ⟨C, lr * (ys.length + 1), none⟩) (ys.length + 1) (ys.length + 1), .int .i64 ((ys.length : Int) + 1), .slice xa xs.length xc, .func (.func 45) #[] #[.pointer (some ⟨w.heap.size + 1 + 1, 0, none⟩)], .int .i64 (x.val : Int), .agg #[.int .i64 ((xs[x.val]).1 : Int), .int .i64 ((xs[x.val]).2 : Int)], undef, undef, undef, undef, undef, undef, undef, undef, undef, undef, undef, undef, undef, undef, undef, undef, undef, undef, undef, undef, undef, undef, undef, undef, undef, undef, undef, undef, undef, undef, undef, undef, undef, undef, undef, undef, undef, undef, undef, undef, undef, undef, undef, undef, undef, undef], defers := [] })
    (fun x a' pre W W' row hs hg hr => by
      obtain ⟨Bx, e1, e2, e3⟩ := hs
      exact ⟨Bx, e1, blk_kept e2 hg hr, e3⟩) ?assign ?body ?done ?stop
  case p0 =>
    refine ⟨fun r j hr => ?_, fun r hr => ?_, hrow, fun _ i j h1 h2 h3 => ?_⟩
    · unfold cpy; rw [if_neg (by omega)]
    · unfold cpy; split
      · exact hz lr hlr
      · exact hz r hr
    · obtain rfl : i = xs.length := by simp at h2; omega
      unfold cpy
      rw [if_pos rfl, hL j h3]
      unfold Lv
      rw [List.drop_length]
      rfl
  case assign =>
    rintro l pre x W K ⟨⟨M', g, p⟩, h4, h6, hb⟩ hK
    have hsz := hb.size
    obtain ⟨q, hq⟩ : ∃ q, xs[x.val] = q := ⟨_, rfl⟩
    unfold rndV
    rw [hq]
    dsimp only
    gi_wp2
    have hlt := g.lt
    refine hK _ _ ((KeepsOthers.alloc _ _).from _) (Bt.of_below ((Below.refl _ W).alloc (by omega) _)) ⟨⟨M', g.below ((Below.refl _ W).alloc (Nat.le_refl _) _) g.lt, p⟩, h4.alloc _, h6.alloc _, hb.trans (Bt.of_below ((Below.refl _ W).alloc (by omega) _))⟩ ⟨W.heap.size, by omega, by rw [hq]; exact Blk.new _ _ _, by rw [hq]⟩
  case body =>
    rintro l pre x a' W hl ⟨r, hr⟩ ⟨⟨M', g, p⟩, h4, h6, hb⟩ ⟨Bx, hBx, bX, rfl⟩ hlt
    obtain ⟨i, hi⟩ := x
    dsimp only
    have hBxl := bX.lt
    have hsz := hb.size
    have HW := Hd.lt H3
    have H5 : Hd R h (ys.length + 1) C W := by obtain ⟨cs, b, hc⟩ := H3; exact ⟨cs, b.bt hb (by omega) hRC, hc⟩
    have r1 := H5.cell (show ro + i < h by omega)
    have r2 := H5.cell (show ro + (i + 1) < h by omega)
    have b4 : W.cell? ⟨w.heap.size, 0, none⟩ = some (.slice (some ⟨R, ro, none⟩) rl rc) := h4.cell 0
    have b6 : W.cell? ⟨w.heap.size + 1, 0, none⟩ = some (.slice ya ys.length yc) := h6.cell 0
    have q1 : (i : Int) < (rl : Int) := by omega
    have q2 : (i : Int) + 1 < (rl : Int) := by omega
    obtain ⟨o1, ho1⟩ : ∃ o1, (ro + i) * (ys.length + 1) = o1 := ⟨_, rfl⟩
    obtain ⟨o2, ho2⟩ : ∃ o2, (ro + (i + 1)) * (ys.length + 1) = o2 := ⟨_, rfl⟩
    rw [ho1] at r1
    rw [ho2] at r2
    obtain ⟨v, hv⟩ : ∃ v, xs[i] = v := ⟨_, rfl⟩
    rw [hv] at bX ⊢
    obtain ⟨v1, v2⟩ := v
    dsimp only at bX ⊢
    have hmix : Try.prog.follows .mixedOrders = true := by kernel_rfl
    have hmix : Try.prog.follows .mixedOrders = true := by kernel_rfl
    gi_wp2
    refine region_quiet_round l hro hmix (by kernel_rfl) (by kernel_rfl) ?_
    repeat (gi_big_quiet_step (fail))
    refine wpQuietIn_nil ?_
    rintro _ ⟨nq, rfl⟩
    gi_wp2
    obtain ⟨Wd, hWd⟩ : ∃ Wd, W.drewN nq = Wd := ⟨_, rfl⟩
    have bd : But C W Wd := by rw [← hWd]; exact (But.refl C W).drewN nq
    have kd : KeepsOthers W Wd := by rw [← hWd]; exact keeps_drewN W nq
    have gd : Grid C h (ys.length + 1) (part M' (ro + i) ys.length 0 v2 ys) Wd := by
      rw [← hWd]
      exact (g.below (below_drewN (Below.refl W.heap.size W) nq) g.lt).congr (fun a c _ hc => part_zero a c hc)
    rw [hWd]
    have Hp := Lib.hid p
    have Hb := Lib.hid hb
    have H4 := Lib.hid h4
    have H6 := Lib.hid h6
    have HX := Lib.hid bX
    have HH := Lib.hid H5
    have HY := Lib.hid Y0
    have HV := Lib.hid hv
    have Hyc := Lib.hid hyC
    have HR := Lib.hid hRlt
    have HC := Lib.hid hClt
    have Hrec := Lib.hid hr
    clear hcp G0 H0 G2 b2 s2 c1 hxl' hz2 bb hW0 kS bw k4 k6 G3 X0 Y0 H3 hxlt hX hY hxC hyC hG hH hz hL hB0 p hb h4 h6 bX H5 r1 r2 b4 b6 q1 q2 hWd g hv hr
    gi_loopw [12] (fun jv wr => ∃ k : Nat, k ≤ ys.length ∧ jv = .int .i64 ((ys.length : Int) - 1 - k) ∧ Grid C h (ys.length + 1) (part M' (ro + i) ys.length k v2 ys) wr ∧ But C W wr ∧ KeepsOthers W wr) (fun jv _ => (intOf jv + 1).toNat)
    case atStart => exact ⟨0, Nat.zero_le _, by first | (go_num; done) | exact val_int (by omega), gd, bd, kd⟩
    case round =>
      obtain ⟨k, hk, rfl, gk, bk, kk⟩ := hrel
      by_cases hlt2 : k < ys.length
      · obtain ⟨j, hj⟩ : ∃ j, ys.length - 1 - k = j := ⟨_, rfl⟩
        have hjl : j < ys.length := by omega
        have ej : (ys.length : Int) - 1 - k = (j : Int) := by omega
        rw [ej]
        have e1 : j + k + 1 = ys.length := by omega
        have hClt : C < W.heap.size := by have := HC.out; have := Hb.out.size; omega
        have b6 : wr.cell? ⟨w.heap.size + 1, 0, none⟩ = some (.slice ya ys.length yc) := (H6.out.but bk (by have := HC.out; omega)).cell 0
        have x1 : wr.cell? ⟨Bx, 1, none⟩ = some (.int .i64 (v2 : Int)) := (HX.out.but bk (by have := HC.out; omega)).cell 1
        have Y1 := (HY.out.bt Hb.out (fun b e => by
          have := (HY.out.some_ j hjl)
          obtain ⟨b', o', e', hb', _⟩ := this
          subst e'
          cases e
          exact ⟨by show b' < _; omega, Hyc.out _ _ _ rfl⟩)).but bk (fun b e => by cases ya with | none => cases e | some a => obtain ⟨a1, a2, a3⟩ := a; cases e; exact Hyc.out _ _ _ rfl)
        obtain ⟨by_, oy, rfl, y0, y1⟩ := Y1.pair j hjl
        have g1 := gk.cell (show ro + i < h by omega) (show j < ys.length + 1 by omega)
        have g2 := gk.cell (show ro + i < h by omega) (show j + 1 < ys.length + 1 by omega)
        have g3 := gk.cell (show ro + (i + 1) < h by omega) (show j < ys.length + 1 by omega)
        have g4 := gk.cell (show ro + (i + 1) < h by omega) (show j + 1 < ys.length + 1 by omega)
        have gf := gk.frozen (o1 + j)
        rw [ho1] at g1 g2
        rw [ho2] at g3 g4
        rw [part_next (by omega)] at g2
        rw [show ro + (i + 1) = (ro + i) + 1 by omega, part_below] at g3 g4
        obtain ⟨n2, hn2⟩ : ∃ n2, rowK v2 (M' (ro + i + 1)) (M' (ro + i) ys.length) ys k = n2 := ⟨_, rfl⟩
        obtain ⟨n3, hn3⟩ : ∃ n3, M' (ro + i + 1) j = n3 := ⟨_, rfl⟩
        obtain ⟨n4, hn4⟩ : ∃ n4, M' (ro + i + 1) (j + 1) = n4 := ⟨_, rfl⟩
        rw [hn2] at g2
        rw [hn3] at g3
        rw [hn4] at g4
        obtain ⟨n1, hn1⟩ : ∃ n1, part M' (ro + i) ys.length k v2 ys (ro + i) j = n1 := ⟨_, rfl⟩
        rw [hn1] at g1
        have hgd : (ys.getD (ys.length - (k + 1)) (0, 0)).2 = (ys[j]).2 := by rw [show ys.length - (k + 1) = j by omega]; simp [List.getD, List.getElem?_eq_getElem hjl]
        have hrk : rowK v2 (M' (ro + i + 1)) (M' (ro + i) ys.length) ys (k + 1) = if (ys[j]).2 = v2 then wrap32 (n4 + 1) else max n2 n3 := by
          rw [rowK, hgd, hn2, show ys.length - (k + 1) = j by omega, hn3, hn4]
        obtain ⟨q, hq⟩ : ∃ q, ys[j] = q := ⟨_, rfl⟩
        rw [hq] at y0 y1 hrk
        obtain ⟨q1, q2⟩ := q
        simp only at y0 y1 hrk
        have u1 : (j : Int) < (ys.length : Int) := by omega
        have u2 : (j : Int) < (ys.length : Int) + 1 := by omega
        have u3 : (j : Int) + 1 < (ys.length : Int) + 1 := by omega
        have Gk := Lib.hid gk
        have Bk := Lib.hid bk
        have Kk := Lib.hid kk
        have HE1 := Lib.hid e1
        have HEj := Lib.hid ej
        have Hrk := Lib.hid hrk
        clear gk bk kk e1 ej hrk hgd hn1 hn2 hn3 hn4 hq hj y0 Y1 hClt
        by_cases he : q2 = v2
        · have t1 : ((q2 : Int) == (v2 : Int)) = true := by rw [he]; simp
          have HE := Lib.hid he
          clear he g2 g3
          gi_wp2
          refine region_quiet_round l hro hmix (by kernel_rfl) (by kernel_rfl) ?_
          repeat (gi_big_quiet_step (fail))
          refine wpQuietIn_nil ?_
          rintro _ ⟨nq2, rfl⟩
          gi_wp2
          go_roundw
          case rel =>
            refine ⟨k + 1, by omega, by have := HEj.out; exact val_int (by omega), ?_, ?_, ?_⟩
            · rw [← ho1]
              refine ((Gk.out.below (below_drewN (Below.refl wr.heap.size wr) nq2) Gk.out.lt).put (r := ro + i) (c := j) (by omega) (by omega) (wrap32 (n4 + 1))).congr (fun a c _ _ => part_succ HE1.out ?_ a c)
              rw [Hrk.out, if_pos HE.out]
            · exact (Bk.out.drewN nq2).trans (But.setCell _ _ _ _)
            · exact (Kk.out.trans (keeps_drewN _ _)).trans (KeepsOthers.setCell _ _ _)
          case measure => simp [intOf]
        · have t1 : ((q2 : Int) == (v2 : Int)) = false := by rw [beq_eq_false_iff_ne]; omega
          have HE := Lib.hid he
          clear he g4
          gi_wp2
          refine region_quiet_round l hro hmix (by kernel_rfl) (by kernel_rfl) ?_
          repeat (gi_big_quiet_step (fail))
          refine wpQuietIn_nil ?_
          rintro _ ⟨nq2, rfl⟩
          gi_wp2
          refine region_tail_in 12 hmix (by kernel_rfl) (by kernel_rfl) (F' := F) (m := n - 1 - 1) ?_
          simp only [List.take_succ_cons, List.take_zero, List.drop_succ_cons, List.drop_zero]
          repeat (gi_big_quiet_step (fail))
          refine wpQuietIn_nil ?_
          gi_wp2
          refine ⟨⟨k + 1, by omega, by have := HEj.out; exact val_int (by omega), ?_, ?_, ?_⟩, by simp [intOf]⟩
          · rw [← ho1]
            refine ((Gk.out.below (below_drewN (Below.refl wr.heap.size wr) (nq2 + 1)) Gk.out.lt).put (r := ro + i) (c := j) (by omega) (by omega) _).congr (fun a c _ _ => part_succ HE1.out ?_ a c)
            rw [Hrk.out, if_neg HE.out]
            split <;> omega
          · exact (Bk.out.drewN (nq2 + 1)).trans (But.setCell _ _ _ _)
          · exact (Kk.out.trans (keeps_drewN _ _)).trans (KeepsOthers.setCell _ _ _)
      · obtain rfl : k = ys.length := by omega
        have ej : (ys.length : Int) - 1 - ys.length = -1 := by omega
        rw [ej]
        have Gk := Lib.hid gk
        have Bk := Lib.hid bk
        have Kk := Lib.hid kk
        clear gk bk kk ej
        gi_wp2
        refine ⟨Kk.out.from _, Bt.of_but Bk.out (by omega), ⟨⟨_, Gk.out, ?_⟩, H4.out.but Bk.out (by have := HC.out; omega), H6.out.but Bk.out (by have := HC.out; omega), Hb.out.trans (Bt.of_but Bk.out (by omega))⟩⟩
        exact PmF.next hy Hp.out (by rw [HV.out])
  case done =>
    rintro D zs W hD hzs ⟨⟨M', g, p⟩, h4, h6, hb⟩ hK
    gi_wp2
    refine ⟨by simp, .inl ⟨_, _, rfl, run_takeDeferred hK, ?_⟩⟩
    refine ⟨_, results_none rfl _ _ _, ⟨_, rfl⟩, ⟨M', grid_kept (B0 := 0) g (grownBy_putObj' W D (.deferred none)) (fun r e => by cases e; exact ⟨Nat.zero_le _, _, hK, rfl⟩), p.out, p.zero, fun i j hi hj => p.good hzs.1 i j hi (by rw [hzs.2]; omega) hj⟩, ?_⟩
    exact (bw.trans (hb.but (by omega))).then_ (belowK_b (w := W0) (n₀ := w.heap.size) (by omega) W D _ _ hD hK rfl rfl)
  case stop =>
    rintro D c pre W _ _ hs _
    exact hs.elim
theorem fill_any (R ro rl rc C h lr : Nat) (xa ya : Option Addr) (xc yc : Nat) (xs ys : List (Nat × Nat)) (K : List Nat) (M : Nat → Nat → Int) (w : World)
    (hx : xs.length ≤ 1000) (hy : ys.length ≤ 1000) (hxl : xs.length < rl) (hrh : ro + rl ≤ h) (hlr : lr < h)
    (hX : Rd 2 encP w (.slice xa xs.length xc) xs) (hY : Rd 2 encP w (.slice ya ys.length yc) ys) (hxC : ∀ b o s, xa = some ⟨b, o, s⟩ → b ≠ C) (hyC : ∀ b o s, ya = some ⟨b, o, s⟩ → b ≠ C)
    (hG : Grid C h (ys.length + 1) M w) (hH : Hd R h (ys.length + 1) C w) (hRC : R ≠ C)
    (hz : ∀ r, r < h → M r ys.length = 0) (hL : ∀ j, j ≤ ys.length → M lr j = (lcs K (keys (ys.drop j)) : Int)) :
    Calls Try.prog 39 #[.slice (some ⟨R, ro, none⟩) rl rc, .slice xa xs.length xc, .slice ya ys.length yc, .slice (some ⟨C, lr * (ys.length + 1), none⟩) (ys.length + 1) (ys.length + 1)] w fun e w' =>
      (∃ v, e = .returned v) ∧ (∃ M', Grid C h (ys.length + 1) M' w' ∧ (∀ r j, (r < ro ∨ ro + xs.length < r) → M' r j = M r j) ∧ (∀ r, r < h → M' r ys.length = 0) ∧ (∀ i j, i ≤ xs.length → j ≤ ys.length → M' (ro + i) j = (Lv xs ys K i j : Int))) ∧ But C w w' :=
  callsIn_wide.1 (fill_in Fence.wide 4 trivial trivial trivial rfl (by omega) R ro rl rc C h lr xa ya xc yc xs ys K M w hx hy hxl hrh hlr hX hY hxC hyC hG hH hRC hz hL)
end Go.Proofs.Ytcnjomkddbbopaa
