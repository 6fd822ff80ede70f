/- Offset. -/
import Derived.Test.YtndicgjlmhnkbaaUm
namespace Go.Proofs.Ytndicgjlmhnkbaa
open Go.RowKit Go.Shelf
set_option linter.unusedVariables false
attribute [local go_sem] Oper.semAt_some

def put2 (W : World) (B B' : Nat) (a b : Value) : World := (W.setCell ⟨B, 0, none⟩ a).setCell ⟨B', 0, none⟩ b
theorem put2_ok {W : World} {B B' n : Nat} {t t' : TypeId} {a b a' b' : Value} (h : Blk B t #[a] W) (h' : Blk B' t' #[b] W) (hne : B ≠ B') (hn : n ≤ B) (hn' : n ≤ B') :
    Blk B t #[a'] (put2 W B B' a' b') ∧ Blk B' t' #[b'] (put2 W B B' a' b') ∧ KeepsOthers W (put2 W B B' a' b') ∧ Below n W (put2 W B B' a' b') :=
  ⟨(h.put 0 a').far (p := ⟨B', 0, none⟩) hne b', (h'.far (p := ⟨B, 0, none⟩) hne.symm a').put 0 b', (KeepsOthers.setCell _ _ _).trans (KeepsOthers.setCell _ _ _), ((Below.refl n W).setCell (p := ⟨B, 0, none⟩) hn _).setCell (p := ⟨B', 0, none⟩) hn' _⟩
def OfI (s : ByteArray) (w : World) (ln c : Int) (pre : List Ps) (W : World) : Prop :=
  (findLC pre ln c = none ∧ Blk w.heap.size 3 #[.int .i64 ln] W ∧ Blk (w.heap.size + 1) 3 #[.int .i64 c] W ∧ Blk (w.heap.size + 1 + 1) 3 #[.int .i64 0] W ∧ Blk (w.heap.size + 1 + 1 + 1) 34 #[.int .i64 0] W ∧ Blk (w.heap.size + 1 + 1 + 1 + 1) 9 #[.string s] W) ∧ Below w.heap.size w W
def OfX (w : World) (ln c : Int) (j : Code) (pre : List Ps) (W : World) : Prop :=
  (j = .ret ∧ ∃ x, findLC pre ln c = some x ∧ Blk (w.heap.size + 1 + 1) 3 #[.int .i64 x.o] W ∧ Blk (w.heap.size + 1 + 1 + 1) 34 #[.int .i64 0] W) ∧ Below w.heap.size w W
theorem res_cell2 {W : World} {tm : Array Value} {B B' : Nat} {t t' : TypeId} {a d : Value} (t4 : tm[6]?.getD undef = .pointer (some ⟨B, 0, none⟩)) (t5 : tm[7]?.getD undef = .pointer (some ⟨B', 0, none⟩)) (h : Blk B t #[a] W) (h' : Blk B' t' #[d] W) :
    (results Try.f23 tm).run Try.prog W = .ok (.tuple #[a, d]) W := by
  have a0 : W.cell? ⟨B, 0, none⟩ = some a := h.cell 0
  have a1 : W.cell? ⟨B', 0, none⟩ = some d := h'.cell 0
  simp [results, Try.f23, go_sem, t4, t5, a0, a1]

set_option maxRecDepth 100000 in
set_option maxHeartbeats 2000000 in
theorem offset_in (F : Fence) (n : Nat) (h23 : F.fn 23) (h32 : F.fn 32) (h33 : F.fn 33) (hro : F.round = none) (hn : 4 ≤ n) (s : ByteArray) (hs : s.size ≤ 281474976710656 / 64) (ln c : Int) (w : World) :
    CallsIn F n Try.prog 23 #[.string s, .int .i64 ln, .int .i64 c] w fun e W' => e = .returned (offV (findLC (bnds s.data.toList ⟨0, 1, 1⟩) ln c)) ∧ Below w.heap.size w W' := by
  have h1 : 1 ≤ n := by omega
  refine callsIn_of_wp_marks Try.func23 rfl h23 ?_ hro
  simp only [Try.ntmps23, List.size_toArray, List.length_cons, List.length_nil, Nat.reduceAdd, Nat.reduceSub, Array.replicate_succ, Array.replicate_zero, List.push_toArray, List.append_toArray, List.nil_append, List.cons_append]
  gi_wp2_with (gi_at_call 32; refine (boundaries_in F (n - 1) h32 hro _ _).mono ?_; rintro e w' ⟨rfl, rfl⟩)
  obtain ⟨W0, hW0⟩ : ∃ W0, ((((w.alloc (.cells #[.int .i64 ln] 3)).alloc (.cells #[.int .i64 c] 3)).alloc (.cells #[.int .i64 0] 3)).alloc (.cells #[.int .i64 0] 34)).alloc (.cells #[.string s] 9) = W0 := ⟨_, rfl⟩
  have hz0 : W0.heap.size = w.heap.size + 1 + 1 + 1 + 1 + 1 := by rw [← hW0]; simp
  have k0 : Blk w.heap.size 3 #[.int .i64 ln] W0 := by rw [← hW0]; exact ((((Blk.new w _ _).alloc _).alloc _).alloc _).alloc _
  have k1 : Blk (w.heap.size + 1) 3 #[.int .i64 c] W0 := by
    rw [← hW0]; have := Blk.new (w.alloc (.cells #[.int .i64 ln] 3)) 3 #[.int .i64 c]; rw [World.size_alloc] at this; exact ((this.alloc _).alloc _).alloc _
  have k2 : Blk (w.heap.size + 1 + 1) 3 #[.int .i64 0] W0 := by
    rw [← hW0]; have := Blk.new ((w.alloc (.cells #[.int .i64 ln] 3)).alloc (.cells #[.int .i64 c] 3)) 3 #[.int .i64 0]; rw [World.size_alloc, World.size_alloc] at this; exact (this.alloc _).alloc _
  have k3 : Blk (w.heap.size + 1 + 1 + 1) 34 #[.int .i64 0] W0 := by
    rw [← hW0]; have := Blk.new (((w.alloc (.cells #[.int .i64 ln] 3)).alloc (.cells #[.int .i64 c] 3)).alloc (.cells #[.int .i64 0] 3)) 34 #[.int .i64 0]; rw [World.size_alloc, World.size_alloc, World.size_alloc] at this; exact this.alloc _
  have k4 : Blk (w.heap.size + 1 + 1 + 1 + 1) 9 #[.string s] W0 := by
    rw [← hW0]; have := Blk.new ((((w.alloc (.cells #[.int .i64 ln] 3)).alloc (.cells #[.int .i64 c] 3)).alloc (.cells #[.int .i64 0] 3)).alloc (.cells #[.int .i64 0] 34)) 9 #[.string s]; rw [World.size_alloc, World.size_alloc, World.size_alloc, World.size_alloc] at this; exact this
  have kb : Below w.heap.size w W0 := by rw [← hW0]; exact (((((Below.refl _ w).alloc (Nat.le_refl _) _).alloc (by simp) _).alloc (by simp; omega) _).alloc (by simp; omega) _).alloc (by simp; omega) _
  rw [hW0]
  refine wpIn_rangeFunc_ownH hro h1 (gf := 33) (lb := #[.pointer (some ⟨w.heap.size + 1 + 1 + 1 + 1, 0, none⟩)]) rfl h33 (enters_of Try.func33 (by kernel_rfl) rfl)
    (bounds_stops F (n - 1) h33 hro (by omega) (w.heap.size + 1 + 1 + 1 + 1) (w.heap.size + 1 + 1 + 1 + 1 + 1) s hs W0 (by omega) (by omega) ((k4.cell 0).trans rfl)) kpB_t (kpB_b (by omega)) (Below.refl _ _) (fun _ => rfl)
    (OfI s w ln c) (OfX w ln c)
    (OwnFrom.and (Own.from (fun s A B row hs hg hr => ⟨hs.1, blk_own _ _ (fun _ => _) () A B row hs.2.1 hg hr, blk_own _ _ (fun _ => _) () A B row hs.2.2.1 hg hr, blk_own _ _ (fun _ => _) () A B row hs.2.2.2.1 hg hr, blk_own _ _ (fun _ => _) () A B row hs.2.2.2.2.1 hg hr, blk_own _ _ (fun _ => _) () A B row hs.2.2.2.2.2 hg hr⟩) _) (ownFrom_below (Nat.le_refl _) (by omega)))
    (fun c => OwnFrom.and (Own.from (fun s A B row hs hg hr => by
      obtain ⟨hc, x, hx, b1, b2⟩ := hs
      exact ⟨hc, x, hx, blk_own _ _ (fun _ => _) () A B row b1 hg hr, blk_own _ _ (fun _ => _) () A B row b2 hg hr⟩) _) (ownFrom_below (Nat.le_refl _) (by omega)))
    ⟨⟨rfl, k0, k1, k2, k3, k4⟩, kb⟩
    (fun x a' W => ∃ Bx, w.heap.size + 1 + 1 + 1 + 1 + 1 ≤ Bx ∧ Blk Bx 33 #[.int .i64 x.o, .int .i64 x.l, .int .i64 x.c] W ∧ a' = { tmps := #[.string s, .int .i64 ln, .int .i64 c, undef, .pointer (some ⟨w.heap.size, 0, none⟩), .pointer (some ⟨w.heap.size + 1, 0, none⟩), .pointer (some ⟨w.heap.size + 1 + 1, 0, none⟩), .pointer (some ⟨w.heap.size + 1 + 1 + 1, 0, none⟩), .pointer (some ⟨Bx, 0, none⟩), .string s, .func (.func 33) #[] #[.pointer (some ⟨w.heap.size + 1 + 1 + 1 + 1, 0, none⟩)], psV x, undef, undef, undef, undef, undef, undef, undef, undef, undef, undef, undef, undef], defers := [] })
    (fun x a' => Own.from (fun s A B row hs hg hr => by
      obtain ⟨Bx, h1, h2, h3⟩ := hs
      exact ⟨Bx, h1, blk_own _ _ (fun _ => _) () A B row h2 hg hr, h3⟩) _) ?assign ?body ?done ?stop
  case assign =>
    rintro l pre x W K ⟨⟨hp, b0, b1, b2, b3, b4⟩, hB⟩ hK
    have hsz := hB.size
    have h3 := b4.lt
    have Hp := Lib.hid hp; clear hp
    dsimp only [psV]
    gi_wp2
    exact hK _ _ ((KeepsOthers.alloc _ _).from _) ⟨(Below.refl _ W).alloc (by omega) _, KeepsWalks.alloc _ _⟩ ⟨⟨Hp.out, b0.alloc _, b1.alloc _, b2.alloc _, b3.alloc _, b4.alloc _⟩, hB.alloc hB.size _⟩ ⟨W.heap.size, by omega, Blk.new _ _ _, rfl⟩
  case body =>
    rintro l pre x a' W hl ⟨r, hr⟩ ⟨⟨hp, b0, b1, b2, b3, b4⟩, hB⟩ ⟨Bx, hBx, bX, rfl⟩ hlt
    have Hp := Lib.hid hp; clear hp
    have c0 : W.cell? ⟨w.heap.size, 0, none⟩ = some (.int .i64 ln) := b0.cell 0
    have c1 : W.cell? ⟨w.heap.size + 1, 0, none⟩ = some (.int .i64 c) := b1.cell 0
    have x0 : W.cell? ⟨Bx, 0, none⟩ = some (.int .i64 x.o) := bX.cell 0
    have x1 : W.cell? ⟨Bx, 1, none⟩ = some (.int .i64 x.l) := bX.cell 1
    have x2 : W.cell? ⟨Bx, 2, none⟩ = some (.int .i64 x.c) := bX.cell 2
    have r0 : W.cell? ⟨w.heap.size + 1 + 1, 0, none⟩ = some (.int .i64 0) := b2.cell 0
    have e0 : W.cell? ⟨w.heap.size + 1 + 1 + 1, 0, none⟩ = some (.int .i64 0) := b3.cell 0
    have f0 := b2.frozen 0
    have f3 := b3.frozen 0
    have hno : ((x.l : Int) == ln && (x.c : Int) == c) = false → findLC (pre ++ [x]) ln c = none := fun h => by
      have h2 := Hp.out
      unfold findLC at h2 ⊢
      rw [List.find?_append, h2]
      simp only [Option.none_or, List.find?_cons, h, List.find?_nil]
    have hye : ((x.l : Int) == ln && (x.c : Int) == c) = true → findLC (pre ++ [x]) ln c = some x := fun h => by
      have h2 := Hp.out
      unfold findLC at h2 ⊢
      rw [List.find?_append, h2]
      simp only [Option.none_or, List.find?_cons, h]
    have Hno := Lib.hid hno; clear hno
    have Hye := Lib.hid hye; clear hye
    by_cases m1 : (x.l : Int) = ln
    · have q1 : ((x.l : Int) == ln) = true := by rw [m1]; simp
      have M1 := Lib.hid q1
      clear m1
      by_cases m2 : (x.c : Int) = c
      · have q2 : ((x.c : Int) == c) = true := by rw [m2]; simp
        have R := Lib.hid (Hye.out (by rw [M1.out, q2]; rfl))
        clear m2
        gi_wp2
        obtain ⟨p1, p2, p3, p4⟩ := put2_ok (a' := .int .i64 x.o) (b' := .int .i64 0) b2 b3 (n := w.heap.size) (by omega) (by omega) (by omega)
        exact ⟨p3.from _, ⟨rfl, x, R.out, p1, p2⟩, hB.trans p4⟩
      · have q2 : ((x.c : Int) == c) = false := by simpa using m2
        have R := Lib.hid (Hno.out (by rw [M1.out, q2]; rfl))
        clear m2
        gi_wp2
        exact ⟨KeepsFrom.refl _ _, ⟨Below.refl _ _, KeepsWalks.refl _⟩, ⟨R.out, b0, b1, b2, b3, b4⟩, hB⟩
    · have q1 : ((x.l : Int) == ln) = false := by simpa using m1
      have R := Lib.hid (Hno.out (by rw [q1]; rfl))
      clear m1
      gi_wp2
      exact ⟨KeepsFrom.refl _ _, ⟨Below.refl _ _, KeepsWalks.refl _⟩, ⟨R.out, b0, b1, b2, b3, b4⟩, hB⟩
  case done =>
    rintro D ys W hD rfl ⟨⟨hp, b0, b1, b2, b3, b4⟩, hB⟩ hK
    have Hp := Lib.hid hp; clear hp
    have r0 : W.cell? ⟨w.heap.size + 1 + 1, 0, none⟩ = some (.int .i64 0) := b2.cell 0
    have e0 : W.cell? ⟨w.heap.size + 1 + 1 + 1, 0, none⟩ = some (.int .i64 0) := b3.cell 0
    have f0 := b2.frozen 0
    have f3 := b3.frozen 0
    gi_wp2
    obtain ⟨p1, p2, p3, p4⟩ := put2_ok (a' := .int .i64 0) (b' := .int .i64 8) b2 b3 (n := w.heap.size) (by omega) (by omega) (by omega)
    have hK' := p3.same D _ hK rfl
    refine ⟨by simp, .inl ⟨_, _, rfl, run_takeDeferred hK', ?_⟩⟩
    have g1 := blk_putObj p1 hK' rfl (.deferred none)
    have g2 := blk_putObj p2 hK' rfl (.deferred none)
    refine ⟨.tuple #[.int .i64 0, .int .i64 8], res_cell2 rfl rfl g1 g2, by rw [Hp.out]; rfl, (hB.trans p4).trans (belowK_b (w := w) (Nat.le_refl _) _ D _ _ (by omega) hK' rfl rfl)⟩
  case stop =>
    rintro D j pre W hD hpre ⟨⟨rfl, x, hx, b1, b2⟩, hB⟩ hK
    have Hx := Lib.hid hx; clear hx
    gi_wp2
    refine ⟨by simp, .inl ⟨_, _, rfl, run_takeDeferred hK, ?_⟩⟩
    have g1 := blk_putObj b1 hK rfl (.deferred none)
    have g2 := blk_putObj b2 hK rfl (.deferred none)
    have hn : findLC (bnds s.data.toList ⟨0, 1, 1⟩) ln c = some x := by
      obtain ⟨r, hr⟩ := hpre
      have h2 := Hx.out
      unfold findLC at h2 ⊢
      rw [← hr, List.find?_append, h2]; rfl
    refine ⟨.tuple #[.int .i64 x.o, .int .i64 0], res_cell2 rfl rfl g1 g2, by rw [hn]; rfl, hB.trans (belowK_b (w := w) (Nat.le_refl _) W D _ _ (by omega) hK rfl rfl)⟩

theorem offset_any (s : ByteArray) (hs : s.size ≤ 281474976710656 / 64) (ln c : Int) (w : World) :
    Calls Try.prog 23 #[.string s, .int .i64 ln, .int .i64 c] w fun e w' => e = .returned (offV (findLC (bnds s.data.toList ⟨0, 1, 1⟩) ln c)) ∧ Below w.heap.size w w' :=
  callsIn_wide.1 (offset_in Fence.wide 4 trivial trivial trivial rfl (by omega) s hs ln c w)
end Go.Proofs.Ytndicgjlmhnkbaa
