/- distance.Distance. -/
import Derived.Test.YtbcpeoomkhcgnaaTe
namespace Go.Proofs.Ytbcpeoomkhcgnaa
open Go.RowKit Go.Shelf
set_option linter.unusedVariables false
attribute [local go_sem] Oper.semAt_some

theorem rows_any (a b : Option Addr) (n m c d : Nat) (w : World) :
    Calls Try.prog 28 #[.slice a n c, .slice b m d] w fun e w' => e = .returned (.func (.func 34) #[] #[.pointer (some ⟨w.heap.size + 1, 0, none⟩), .pointer (some ⟨w.heap.size, 0, none⟩)]) ∧ w' = (w.alloc (.cells #[.slice a n c] 23)).alloc (.cells #[.slice b m d] 23) := by
  go_enter Try.func28, Try.ntmps28
  go_wp2
  go_ret
  exact ⟨rfl, rfl⟩

/-- What the loop holds: the box of the result, the box of the second list. -/
structure DisI (w : World) (ab : Option Addr) (cb : Nat) (a b : List Str) (p : Nat) (W : World) : Prop where
  res : Blk (w.heap.size + 1) 3 #[.int .i64 (if p = 0 then 0 else (D a b (p - 1) b.length : Int))] W
  box : Blk w.heap.size 23 #[.slice ab b.length cb] W
  bel : Below w.heap.size w W
set_option maxRecDepth 1000000 in
set_option maxHeartbeats 2000000 in
theorem distance_any (va vb : Value) (a b : List Str) (w : World) (ha : Rd 1 encT w va a) (hb : Rd 1 encT w vb b) (hla : a.length ≤ 400) (hlb : b.length ≤ 400) :
    Calls Try.prog 16 #[va, vb] w fun e w' => e = .returned (.int .i64 (lev a b : Int)) ∧ Below w.heap.size w w' := by
  obtain ⟨aa, ca, rfl, hca, hca2⟩ := ha.slice
  obtain ⟨ab, cb, rfl, hcb, hcb2⟩ := hb.slice
  have HA := Lib.hid ha
  have HB := Lib.hid hb
  clear ha hb hca hca2 hcb hcb2
  refine (callsIn_wide (n := 6)).1 ?_
  have hf : Fence.wide.fn 16 := trivial
  have hf2 : Fence.wide.fn 27 := trivial
  have hf3 : Fence.wide.fn 28 := trivial
  have hro : Fence.wide.round = none := rfl
  refine callsIn_of_wp_marks Try.func16 rfl hf ?_ hro
  simp only [Try.ntmps16, List.size_toArray, List.length_cons, List.length_nil, Nat.reduceAdd, Nat.reduceSub, Array.replicate_succ, Array.replicate_zero, List.push_toArray, List.append_toArray, List.nil_append, List.cons_append]
  gi_wp2_with fail
  refine (callsIn_wide.2 (isLong_no aa a.length ca hla _)).mono ?_
  rintro e w' ⟨rfl, rfl⟩
  gi_wp2_with fail
  refine (callsIn_wide.2 (isLong_no ab b.length cb hlb _)).mono ?_
  rintro e w' ⟨rfl, rfl⟩
  gi_wp2_with fail
  refine (callsIn_wide.2 (rows_any aa ab a.length b.length ca cb _)).mono ?_
  rintro e w' ⟨rfl, rfl⟩
  gi_wp2_with fail
  obtain ⟨W0, hW0⟩ : ∃ W0, (((w.alloc (.cells #[.slice ab b.length cb] 23)).alloc (.cells #[.int .i64 0] 3)).alloc (.cells #[.slice aa a.length ca] 23)).alloc (.cells #[.slice ab b.length cb] 23) = W0 := ⟨_, rfl⟩
  have z0 : W0.heap.size = w.heap.size + 4 := by rw [← hW0]; simp
  have kb : Below w.heap.size w W0 := by rw [← hW0]; exact ((((Below.refl _ w).alloc (Nat.le_refl _) _).alloc (by simp) _).alloc (by simp; omega) _).alloc (by simp; omega) _
  have k0 : Blk w.heap.size 23 #[.slice ab b.length cb] W0 := by rw [← hW0]; exact (((Blk.new w _ _).alloc _).alloc _).alloc _
  have k1 : Blk (w.heap.size + 1) 3 #[.int .i64 0] W0 := by
    rw [← hW0]
    have := Blk.new (w.alloc (.cells #[.slice ab b.length cb] 23)) 3 #[.int .i64 0]
    rw [World.size_alloc] at this
    exact (this.alloc _).alloc _
  have k2 : Blk (w.heap.size + 1 + 1) 23 #[.slice aa a.length ca] W0 := by
    rw [← hW0]
    have := Blk.new ((w.alloc (.cells #[.slice ab b.length cb] 23)).alloc (.cells #[.int .i64 0] 3)) 23 #[.slice aa a.length ca]
    rw [World.size_alloc, World.size_alloc] at this
    exact this.alloc _
  have k3 : Blk (w.heap.size + 1 + 1 + 1) 23 #[.slice ab b.length cb] W0 := by
    rw [← hW0]
    have := Blk.new (((w.alloc (.cells #[.slice ab b.length cb] 23)).alloc (.cells #[.int .i64 0] 3)).alloc (.cells #[.slice aa a.length ca] 23)) 23 #[.slice ab b.length cb]
    rw [World.size_alloc, World.size_alloc, World.size_alloc] at this
    exact this
  rw [hW0]
  have hf4 : Fence.wide.fn 34 := trivial
  refine wpIn_rows (m := b.length + 1) (N := a.length) (C := w.heap.size + 1) hro (by omega) (gf := 34) (lb := #[.pointer (some ⟨w.heap.size + 1 + 1 + 1, 0, none⟩), .pointer (some ⟨w.heap.size + 1 + 1, 0, none⟩)]) rfl hf4 (enters_of Try.func34 (by kernel_rfl) rfl)
    (RowY a b) (rowY_obj a b) ?seq rfl (DisI w ab cb a b) ?st ?own ⟨k1, k0, kb⟩ ?round ?done
  case seq =>
    intro W hbW hzW
    refine rows1_in _ (by omega) (w.heap.size + 1) (w.heap.size + 1 + 1) (w.heap.size + 1 + 1 + 1) aa ca ab cb a b hla hlb W (by omega) ?_
    exact ⟨k2.below hbW, k3.below hbW, (HA.out.below kb).below hbW, (HB.out.below kb).below hbW, by omega, by omega, fun hl x e => by have := rd_lt HA.out hl x e; omega, fun hl x e => by have := rd_lt HB.out hl x e; omega⟩
  case st =>
    rintro p A B ⟨h1, h2, h3⟩ k
    rw [z0] at k
    exact ⟨h1.two k (by omega) (by omega), h2.two k (by omega) (by omega), below_two h3 k (by omega) (Nat.le_refl _)⟩
  case own =>
    rintro p W W' row ⟨h1, h2, h3⟩ hg hr
    exact ⟨blk_kept h1 hg hr, blk_kept h2 hg hr, h3.trans ((Below.refl w.heap.size W).grown hg h3.size (fun k e => by have := (hr k e).1; omega))⟩
  case round =>
    apply Exists.intro
    apply And.intro
    · intro l x W K hK
      gi_wp2
      exact hK
    · rintro l p x W ⟨h1, h2, h3⟩ hx ⟨ds, r1, r2, r3⟩ hp hz
      have c0 : W.cell? ⟨w.heap.size, 0, none⟩ = some (.slice ab b.length cb) := h2.cell 0
      have c1 : W.cell? ⟨w.heap.size + 1, 0, none⟩ = some (.int .i64 (if p = 0 then 0 else (D a b (p - 1) b.length : Int))) := h1.cell 0
      have c2 : W.cell? ⟨x, b.length, none⟩ = some (.int .i64 (D a b p b.length : Int)) := by rw [r1.cell]; exact r3 _ (Nat.le_refl _)
      have f1 := h1.frozen 0
      have q1 : (b.length : Int) < (b.length : Int) + 1 := by omega
      have R1 := Lib.hid h1
      have R2 := Lib.hid h2
      have R3 := Lib.hid h3
      clear h1 h2 h3 r1 r2 r3
      gi_wp2
      have T := KeepsOthers.setCell W ⟨w.heap.size + 1, 0, none⟩ (.int .i64 (D a b p b.length : Int))
      refine ⟨T.from _, ⟨T.size, fun k o k1 k2 k3 _ => (Below.heap_setCell _ _ _ _ (by exact k2)).trans k3⟩, ⟨?_, R2.out.far (p := ⟨w.heap.size + 1, 0, none⟩) (by show w.heap.size ≠ w.heap.size + 1; omega) _, R3.out.setCell (p := ⟨w.heap.size + 1, 0, none⟩) (by show w.heap.size ≤ w.heap.size + 1; omega) _⟩⟩
      rw [if_neg (by omega)]
      exact R1.out.put _ _
  case done =>
    rintro Dk W hD ⟨h1, h2, h3⟩ hK
    have c1 : W.cell? ⟨w.heap.size + 1, 0, none⟩ = some (.int .i64 (lev a b : Int)) := by
      rw [h1.cell 0, ← D_end]
      simp
    have R3 := Lib.hid h3
    clear h1 h2 h3
    gi_wp2
    refine ⟨by simp, .inl ⟨_, _, rfl, run_takeDeferred hK, ?_⟩⟩
    exact ⟨_, results_tmp rfl _ _ _, rfl, R3.out.trans (belowK_b (w := w) (Nat.le_refl _) W Dk _ _ (by omega) hK rfl rfl)⟩
end Go.Proofs.Ytbcpeoomkhcgnaa
