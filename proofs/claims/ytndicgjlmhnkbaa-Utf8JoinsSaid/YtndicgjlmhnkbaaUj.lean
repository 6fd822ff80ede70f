/- boundaries, At. -/
import Derived.Test.YtndicgjlmhnkbaaUi
namespace Go.Proofs.Ytndicgjlmhnkbaa
open Go.RowKit Go.Shelf
set_option linter.unusedVariables false
attribute [local go_sem] Oper.semAt_some

theorem boundaries_in (F : Fence) (n : Nat) (h32 : F.fn 32) (hro : F.round = none) (s : ByteArray) (w : World) :
    CallsIn F n Try.prog 32 #[.string s] w fun e w' => e = .returned (.func (.func 33) #[] #[.pointer (some ⟨w.heap.size, 0, none⟩)]) ∧ w' = w.alloc (.cells #[.string s] 9) := by
  refine callsIn_of_wp Try.func32 rfl h32 ?_ hro
  simp only [Try.ntmps32, List.size_toArray, List.length_cons, List.length_nil, Nat.reduceAdd, Nat.reduceSub, Array.replicate_succ, Array.replicate_zero, List.push_toArray, List.append_toArray, List.nil_append, List.cons_append]
  gi_wp2
  go_ret
  exact ⟨rfl, rfl⟩

def KpB (n₀ : Nat) (A B : World) : Prop := Below n₀ A B ∧ KeepsWalks A B
theorem bounds_stops (F : Fence) (n : Nat) (h33 : F.fn 33) (hro : F.round = none) (hn : 1 ≤ n) (Bn n₀ : Nat) (s : ByteArray) (hs : s.size ≤ 281474976710656 / 64) (w : World) (hB0 : Bn < n₀) (hn₀ : n₀ ≤ w.heap.size)
    (hc : w.cell? ⟨Bn, 0, none⟩ = some (.string s)) :
    SeqStopsK F n Try.prog 33 #[.pointer (some ⟨Bn, 0, none⟩)] (fun x : Ps => #[psV x]) (KpB n₀) (fun ys => ys = bnds s.data.toList ⟨0, 1, 1⟩) (fun pre => pre <+: bnds s.data.toList ⟨0, 1, 1⟩) (bnds s.data.toList ⟨0, 1, 1⟩).length w := fun l J Jx W hW hJ hJx hY h0 =>
  bound1_in F n h33 hro hn l Bn n₀ s hs J Jx W hJ hJx hB0 (Nat.le_trans hn₀ hW.size) hY ((hW.cell (p := ⟨Bn, 0, none⟩) (by show Bn < w.heap.size; omega)).trans hc) h0
theorem kpB_t {n₀ : Nat} {A B C : World} (h : KpB n₀ A B) (k : KpB n₀ B C) : KpB n₀ A C := ⟨h.1.trans k.1, h.2.trans k.2⟩
theorem kpB_b {n₀ : Nat} {w : World} (hn : n₀ ≤ w.heap.size) (W : World) (l : Nat) (o o' : Obj) (hl : w.heap.size ≤ l) (h : W.heap[l]? = some o) (h1 : o.isCells = false) (h2 : o.isWalk = false) : KpB n₀ W (W.putObj l o') :=
  ⟨belowK_b hn W l o o' hl h h1 h2, walksK_b W l o o' hl h h1 h2⟩

/-- A block known whole. -/
def Blk (B : Nat) (t : TypeId) (cs : Array Value) (W : World) : Prop := W.heap[B]? = some (.cells cs t (0, 0))
theorem Blk.lt {B : Nat} {t : TypeId} {cs : Array Value} {W : World} (h : Blk B t cs W) : B < W.heap.size := (Array.getElem?_eq_some_iff.1 h).1
theorem Blk.cell {B : Nat} {t : TypeId} {cs : Array Value} {W : World} (h : Blk B t cs W) (i : Nat) : W.cell? ⟨B, i, none⟩ = cs[i]? := by simp [World.cell?, show W.heap[B]? = _ from h]
theorem Blk.frozen {B : Nat} {t : TypeId} {cs : Array Value} {W : World} (h : Blk B t cs W) (i : Nat) : W.frozen? ⟨B, i, none⟩ = false := by simp [World.frozen?, show W.heap[B]? = _ from h]
theorem Blk.new (W : World) (t : TypeId) (cs : Array Value) : Blk W.heap.size t cs (W.alloc (.cells cs t)) := heap_alloc_new W _
theorem Blk.alloc {B : Nat} {t : TypeId} {cs : Array Value} {W : World} (h : Blk B t cs W) (o : Obj) : Blk B t cs (W.alloc o) := (Below.heap_alloc W o B h.lt).trans h
theorem Blk.far {B : Nat} {t : TypeId} {cs : Array Value} {W : World} (h : Blk B t cs W) {p : Addr} (hp : B ≠ p.block) (u : Value) : Blk B t cs (W.setCell p u) := (Below.heap_setCell W p u B hp).trans h
theorem Blk.put {B : Nat} {t : TypeId} {cs : Array Value} {W : World} (h : Blk B t cs W) (i : Nat) (u : Value) : Blk B t (cs.setIfInBounds i u) (W.setCell ⟨B, i, none⟩ u) := by
  unfold Blk at h ⊢
  simp [World.setCell, Array.getElem?_modify, h]
theorem blk_own {β : Type} (B : Nat) (t : TypeId) (f : β → Array Value) : Own (fun s W => Blk B t (f s) W) := fun s W W' row hs hg hr => by
  refine (hg.block B (Blk.lt hs) (fun e => ?_)).trans hs
  obtain ⟨o, ho, hc⟩ := hr B e.symm
  rw [show W.heap[B]? = _ from hs] at ho
  cases ho
  cases hc
theorem blk_putObj {B : Nat} {t : TypeId} {cs : Array Value} {W : World} (h : Blk B t cs W) {D : Nat} {o : Obj} (hD : W.heap[D]? = some o) (hc : o.isCells = false) (o' : Obj) : Blk B t cs (W.putObj D o') := by
  refine (World.putObj_heap_other (fun e => ?_)).trans h
  subst e
  rw [show W.heap[B]? = _ from h] at hD
  cases hD
  cases hc

/-- Both results stored. -/
def put4 (W : World) (B B' : Nat) (a b c d : Value) : World := (((W.setCell ⟨B, 0, none⟩ a).setCell ⟨B, 1, none⟩ b).setCell ⟨B, 2, none⟩ c).setCell ⟨B', 0, none⟩ d
theorem put4_ok {W : World} {B B' n : Nat} {t t' : TypeId} {a b c d a' b' c' d' : Value} (h : Blk B t #[a, b, c] W) (h' : Blk B' t' #[d] W) (hne : B ≠ B') (hn : n ≤ B) (hn' : n ≤ B') :
    Blk B t #[a', b', c'] (put4 W B B' a' b' c' d') ∧ Blk B' t' #[d'] (put4 W B B' a' b' c' d') ∧ KeepsOthers W (put4 W B B' a' b' c' d') ∧ Below n W (put4 W B B' a' b' c' d') := by
  refine ⟨?_, ?_, ?_, ?_⟩
  · exact (((h.put 0 a').put 1 b').put 2 c').far (p := ⟨B', 0, none⟩) hne d'
  · exact (((h'.far (p := ⟨B, 0, none⟩) hne.symm a').far (p := ⟨B, 1, none⟩) hne.symm b').far (p := ⟨B, 2, none⟩) hne.symm c').put 0 d'
  · exact (((KeepsOthers.setCell _ _ _).trans (KeepsOthers.setCell _ _ _)).trans (KeepsOthers.setCell _ _ _)).trans (KeepsOthers.setCell _ _ _)
  · exact ((((Below.refl n W).setCell (p := ⟨B, 0, none⟩) hn _).setCell (p := ⟨B, 1, none⟩) hn _).setCell (p := ⟨B, 2, none⟩) hn _).setCell (p := ⟨B', 0, none⟩) hn' _

def findP (L : List Ps) (off : Int) : Option Ps := L.find? fun p => (p.o : Int) == off
def atV (r : Option Ps) : Value := match r with
  | some p => .tuple #[psV p, .int .i64 0]
  | none => .tuple #[.agg #[.int .i64 0, .int .i64 0, .int .i64 0], .int .i64 2]

def AtI (s : ByteArray) (w : World) (off : Int) (pre : List Ps) (W : World) : Prop :=
  ((∀ y ∈ pre, (y.o : Int) ≠ off) ∧ Blk w.heap.size 3 #[.int .i64 off] W ∧ Blk (w.heap.size + 1) 33 #[.int .i64 0, .int .i64 0, .int .i64 0] W ∧ Blk (w.heap.size + 1 + 1) 34 #[.int .i64 0] W ∧ Blk (w.heap.size + 1 + 1 + 1) 9 #[.string s] W) ∧ Below w.heap.size w W
def AtX (w : World) (off : Int) (c : Code) (pre : List Ps) (W : World) : Prop :=
  (c = .ret ∧ ∃ x, findP pre off = some x ∧ Blk (w.heap.size + 1) 33 #[.int .i64 x.o, .int .i64 x.l, .int .i64 x.c] W ∧ Blk (w.heap.size + 1 + 1) 34 #[.int .i64 0] W) ∧ Below w.heap.size w W

theorem res_cells {W : World} {tm : Array Value} {B B' : Nat} {a b c d : Value} (t4 : tm[4]?.getD undef = .pointer (some ⟨B, 0, none⟩)) (t5 : tm[5]?.getD undef = .pointer (some ⟨B', 0, none⟩))
    (a0 : W.cell? ⟨B, 0, none⟩ = some a) (a1 : W.cell? ⟨B, 1, none⟩ = some b) (a2 : W.cell? ⟨B, 2, none⟩ = some c) (a3 : W.cell? ⟨B', 0, none⟩ = some d) :
    (results Try.f21 tm).run Try.prog W = .ok (.tuple #[.agg #[a, b, c], d]) W := by
  simp [results, Try.f21, go_sem, t4, t5, a0, a1, a2, a3]
set_option maxRecDepth 100000 in
set_option maxHeartbeats 2000000 in
theorem at_in (F : Fence) (n : Nat) (h21 : F.fn 21) (h32 : F.fn 32) (h33 : F.fn 33) (hro : F.round = none) (hn : 4 ≤ n) (s : ByteArray) (hs : s.size ≤ 281474976710656 / 64) (off : Int) (w : World) :
    CallsIn F n Try.prog 21 #[.string s, .int .i64 off] w fun e W' => e = .returned (atV (findP (bnds s.data.toList ⟨0, 1, 1⟩) off)) ∧ Below w.heap.size w W' := by
  have h1 : 1 ≤ n := by omega
  refine callsIn_of_wp_marks Try.func21 rfl h21 ?_ hro
  simp only [Try.ntmps21, List.size_toArray, List.length_cons, List.length_nil, Nat.reduceAdd, Nat.reduceSub, Array.replicate_succ, Array.replicate_zero, List.push_toArray, List.append_toArray, List.nil_append, List.cons_append]
  gi_wp2_with (gi_at_call 32; refine (boundaries_in F (n - 1) h32 hro _ _).mono ?_; rintro e w' ⟨rfl, rfl⟩)
  obtain ⟨W0, hW0⟩ : ∃ W0, (((w.alloc (.cells #[.int .i64 off] 3)).alloc (.cells #[.int .i64 0, .int .i64 0, .int .i64 0] 33)).alloc (.cells #[.int .i64 0] 34)).alloc (.cells #[.string s] 9) = W0 := ⟨_, rfl⟩
  have hz0 : W0.heap.size = w.heap.size + 1 + 1 + 1 + 1 := by rw [← hW0]; simp
  have k0 : Blk w.heap.size 3 #[.int .i64 off] W0 := by rw [← hW0]; exact (((Blk.new w _ _).alloc _).alloc _).alloc _
  have k1 : Blk (w.heap.size + 1) 33 #[.int .i64 0, .int .i64 0, .int .i64 0] W0 := by
    rw [← hW0]; have := Blk.new (w.alloc (.cells #[.int .i64 off] 3)) 33 #[.int .i64 0, .int .i64 0, .int .i64 0]; rw [World.size_alloc] at this; exact (this.alloc _).alloc _
  have k2 : Blk (w.heap.size + 1 + 1) 34 #[.int .i64 0] W0 := by
    rw [← hW0]; have := Blk.new ((w.alloc (.cells #[.int .i64 off] 3)).alloc (.cells #[.int .i64 0, .int .i64 0, .int .i64 0] 33)) 34 #[.int .i64 0]; rw [World.size_alloc, World.size_alloc] at this; exact this.alloc _
  have k3 : Blk (w.heap.size + 1 + 1 + 1) 9 #[.string s] W0 := by
    rw [← hW0]; have := Blk.new (((w.alloc (.cells #[.int .i64 off] 3)).alloc (.cells #[.int .i64 0, .int .i64 0, .int .i64 0] 33)).alloc (.cells #[.int .i64 0] 34)) 9 #[.string s]; rw [World.size_alloc, World.size_alloc, World.size_alloc] at this; exact this
  have kb : Below w.heap.size w W0 := by rw [← hW0]; exact ((((Below.refl _ w).alloc (Nat.le_refl _) _).alloc (by simp) _).alloc (by simp; omega) _).alloc (by simp; omega) _
  rw [hW0]
  refine wpIn_rangeFunc_ownH hro h1 (gf := 33) (lb := #[.pointer (some ⟨w.heap.size + 1 + 1 + 1, 0, none⟩)]) rfl h33 (enters_of Try.func33 (by kernel_rfl) rfl)
    (bounds_stops F (n - 1) h33 hro (by omega) (w.heap.size + 1 + 1 + 1) (w.heap.size + 1 + 1 + 1 + 1) s hs W0 (by omega) (by omega) ((k3.cell 0).trans rfl)) kpB_t (kpB_b (by omega)) (Below.refl _ _) (fun _ => rfl)
    (AtI s w off) (AtX w off)
    (OwnFrom.and (Own.from (fun s A B row hs hg hr => ⟨hs.1, blk_own _ _ (fun _ => _) () A B row hs.2.1 hg hr, blk_own _ _ (fun _ => _) () A B row hs.2.2.1 hg hr, blk_own _ _ (fun _ => _) () A B row hs.2.2.2.1 hg hr, blk_own _ _ (fun _ => _) () A B row hs.2.2.2.2 hg hr⟩) _) (ownFrom_below (Nat.le_refl _) (by omega)))
    (fun c => OwnFrom.and (Own.from (fun s A B row hs hg hr => by
      obtain ⟨hc, x, hx, b1, b2⟩ := hs
      exact ⟨hc, x, hx, blk_own _ _ (fun _ => _) () A B row b1 hg hr, blk_own _ _ (fun _ => _) () A B row b2 hg hr⟩) _) (ownFrom_below (Nat.le_refl _) (by omega)))
    ⟨⟨by simp, k0, k1, k2, k3⟩, kb⟩
    (fun x a' W => ∃ Bx, w.heap.size + 1 + 1 + 1 + 1 ≤ Bx ∧ Blk Bx 33 #[.int .i64 x.o, .int .i64 x.l, .int .i64 x.c] W ∧ a' = { tmps := #[.string s, .int .i64 off, undef, .pointer (some ⟨w.heap.size, 0, none⟩), .pointer (some ⟨w.heap.size + 1, 0, none⟩), .pointer (some ⟨w.heap.size + 1 + 1, 0, none⟩), .pointer (some ⟨Bx, 0, none⟩), .string s, .func (.func 33) #[] #[.pointer (some ⟨w.heap.size + 1 + 1 + 1, 0, none⟩)], psV x, undef, undef, undef, undef, undef, undef], defers := [] })
    (fun x a' => Own.from (fun s A B row hs hg hr => by
      obtain ⟨Bx, h1, h2, h3⟩ := hs
      exact ⟨Bx, h1, blk_own _ _ (fun _ => _) () A B row h2 hg hr, h3⟩) _) ?assign ?body ?done ?stop
  case assign =>
    rintro l pre x W K ⟨⟨hp, b0, b1, b2, b3⟩, hB⟩ hK
    have hsz := hB.size
    have h3 := b3.lt
    dsimp only [psV]
    gi_wp2
    exact hK _ _ ((KeepsOthers.alloc _ _).from _) ⟨(Below.refl _ W).alloc (by omega) _, KeepsWalks.alloc _ _⟩ ⟨⟨hp, b0.alloc _, b1.alloc _, b2.alloc _, b3.alloc _⟩, hB.alloc hB.size _⟩ ⟨W.heap.size, by omega, Blk.new _ _ _, rfl⟩
  case body =>
    rintro l pre x a' W hl ⟨r, hr⟩ ⟨⟨hp, b0, b1, b2, b3⟩, hB⟩ ⟨Bx, hBx, bX, rfl⟩ hlt
    have c0 : W.cell? ⟨w.heap.size, 0, none⟩ = some (.int .i64 off) := b0.cell 0
    have x0 : W.cell? ⟨Bx, 0, none⟩ = some (.int .i64 x.o) := bX.cell 0
    have x1 : W.cell? ⟨Bx, 1, none⟩ = some (.int .i64 x.l) := bX.cell 1
    have x2 : W.cell? ⟨Bx, 2, none⟩ = some (.int .i64 x.c) := bX.cell 2
    have r0 : W.cell? ⟨w.heap.size + 1, 0, none⟩ = some (.int .i64 0) := b1.cell 0
    have r1 : W.cell? ⟨w.heap.size + 1, 1, none⟩ = some (.int .i64 0) := b1.cell 1
    have r2 : W.cell? ⟨w.heap.size + 1, 2, none⟩ = some (.int .i64 0) := b1.cell 2
    have e0 : W.cell? ⟨w.heap.size + 1 + 1, 0, none⟩ = some (.int .i64 0) := b2.cell 0
    have f0 := b1.frozen 0
    have f1 := b1.frozen 1
    have f2 := b1.frozen 2
    have f3 := b2.frozen 0
    by_cases hx : (x.o : Int) = off
    · have hfind : Hid (findP (pre ++ [x]) off = some x) := by
        unfold findP
        show _ = _
        rw [List.find?_append, List.find?_eq_none.2 (fun y hy => by simpa using hp y hy)]
        simp [hx]
      have q : ((x.o : Int) == off) = true := by rw [hx]; simp
      clear hx
      gi_wp2
      obtain ⟨p1, p2, p3, p4⟩ := put4_ok (a' := .int .i64 x.o) (b' := .int .i64 x.l) (c' := .int .i64 x.c) (d' := .int .i64 0) b1 b2 (n := w.heap.size) (by omega) (by omega) (by omega)
      exact ⟨p3.from _, ⟨rfl, x, hfind.out, p1, p2⟩, hB.trans p4⟩
    · have q : ((x.o : Int) == off) = false := by simpa using hx
      have Hx := Lib.hid hx; clear hx
      gi_wp2
      exact ⟨KeepsFrom.refl _ _, ⟨Below.refl _ _, KeepsWalks.refl _⟩, ⟨fun y hy => (List.mem_append.1 hy).elim (hp y) (fun e => by simp at e; subst e; exact Hx.out), b0, b1, b2, b3⟩, hB⟩
  case done =>
    rintro D ys W hD rfl ⟨⟨hp, b0, b1, b2, b3⟩, hB⟩ hK
    have r0 : W.cell? ⟨w.heap.size + 1, 0, none⟩ = some (.int .i64 0) := b1.cell 0
    have r1 : W.cell? ⟨w.heap.size + 1, 1, none⟩ = some (.int .i64 0) := b1.cell 1
    have r2 : W.cell? ⟨w.heap.size + 1, 2, none⟩ = some (.int .i64 0) := b1.cell 2
    have e0 : W.cell? ⟨w.heap.size + 1 + 1, 0, none⟩ = some (.int .i64 0) := b2.cell 0
    have f0 := b1.frozen 0
    have f1 := b1.frozen 1
    have f2 := b1.frozen 2
    have f3 := b2.frozen 0
    gi_wp2
    obtain ⟨p1, p2, p3, p4⟩ := put4_ok (a' := .int .i64 0) (b' := .int .i64 0) (c' := .int .i64 0) (d' := .int .i64 2) b1 b2 (n := w.heap.size) (by omega) (by omega) (by omega)
    have hK' := p3.same D _ hK rfl
    refine ⟨by simp, .inl ⟨_, _, rfl, run_takeDeferred hK', ?_⟩⟩
    have g1 := blk_putObj p1 hK' rfl (.deferred none)
    have g2 := blk_putObj p2 hK' rfl (.deferred none)
    have hn : findP (bnds s.data.toList ⟨0, 1, 1⟩) off = none := by unfold findP; exact List.find?_eq_none.2 (fun y hy => by simpa using hp y hy)
    refine ⟨.tuple #[.agg #[.int .i64 0, .int .i64 0, .int .i64 0], .int .i64 2], ?_, by rw [hn]; rfl, (hB.trans p4).trans (belowK_b (w := w) (Nat.le_refl _) _ D _ _ (by omega) hK' rfl rfl)⟩
    have a0 := g1.cell 0
    have a1 := g1.cell 1
    have a2 := g1.cell 2
    have a3 := g2.cell 0
    exact res_cells rfl rfl a0 a1 a2 a3
  case stop =>
    rintro D c pre W hD hpre ⟨⟨rfl, x, hx, b1, b2⟩, hB⟩ hK
    have Hx := Lib.hid hx; clear hx
    gi_wp2
    refine ⟨by simp, .inl ⟨_, _, rfl, run_takeDeferred hK, ?_⟩⟩
    have g1 := blk_putObj b1 hK rfl (.deferred none)
    have g2 := blk_putObj b2 hK rfl (.deferred none)
    have hn : findP (bnds s.data.toList ⟨0, 1, 1⟩) off = some x := by
      obtain ⟨r, hr⟩ := hpre
      have h2 := Hx.out
      unfold findP at h2 ⊢
      rw [← hr, List.find?_append, h2]; rfl
    refine ⟨.tuple #[psV x, .int .i64 0], ?_, by rw [hn]; rfl, hB.trans (belowK_b (w := w) (Nat.le_refl _) _ D _ _ (by omega) hK rfl rfl)⟩
    have a0 := g1.cell 0
    have a1 := g1.cell 1
    have a2 := g1.cell 2
    have a3 := g2.cell 0
    exact res_cells rfl rfl a0 a1 a2 a3
end Go.Proofs.Ytndicgjlmhnkbaa
