/- slices.AppendSeq, slices.Collect of slices.Chunk. -/
import Derived.Test.YtcnjomkddbbopaaMg
import Derived.RangeFuncBox
import Derived.Maps.AppendAt
namespace Go.Proofs.Ytcnjomkddbbopaa
open Go.RowKit Go.Shelf
set_option linter.unusedVariables false
attribute [local go_sem] Oper.semAt_some

theorem Try.infoC : (Try.prog.info? 50).map (fun i => (i.zero, i.size, i.bytes)) = some (some (.slice none 0 0), 1, 24) := by kernel_rfl
set_option maxRecDepth 100000 in
set_option maxHeartbeats 2000000 in
theorem appendSeq_in (F : Fence) (n : Nat) (h42 : F.fn 42) (h43 : F.fn 43) (hro : F.round = none) (hn : 3 ≤ n) (Bs Bn : Nat) (a : Option Addr) (xs : List (Nat × Nat)) (cap r : Nat) (hN : xs.length ≤ 1000) (hr : 1 ≤ r) (hr2 : r ≤ 2000) (hcap : xs.length ≤ cap) (w : World)
    (hBs : Blk Bs 50 #[.slice a xs.length cap] w) (hBn : Blk Bn 3 #[.int .i64 r] w) (hR : Rd 2 encP w (.slice a xs.length cap) xs) :
    CallsIn F n Try.prog 42 #[.slice none 0 0, .func (.func 43) #[] #[.pointer (some ⟨Bs, 0, none⟩), .pointer (some ⟨Bn, 0, none⟩)]] w fun e W' =>
      ∃ v ys, e = .returned v ∧ Parts xs.length r ys ∧ Own1 1 encV W' w.heap.size 50 v (ys.map fun m => chV (blkOf a) (offOf a) xs.length r m) ∧ Below w.heap.size w W' := by
  have h1 : 1 ≤ n := by omega
  obtain ⟨i0, hi, hz0, hz1, hz2⟩ := info_parts Try.infoC
  refine callsIn_of_wp_marks Try.func42 rfl h42 ?_ hro
  simp only [Try.ntmps42, List.size_toArray, List.length_cons, List.length_nil, Nat.reduceAdd, Nat.reduceSub, Array.replicate_succ, Array.replicate_zero, List.push_toArray, List.append_toArray, List.nil_append, List.cons_append]
  gi_wp2
  have bO := Boxed.new w 71 (.slice none 0 0)
  have hB0 : Below w.heap.size w (w.alloc (.cells #[.slice none 0 0] 71)) := (Below.refl _ w).alloc (Nat.le_refl _) _
  have f1 := hBs.lt
  have f2 := hBn.lt
  refine wpIn_rangeFunc_ownG hro h1 (gf := 43) (lb := #[.pointer (some ⟨Bs, 0, none⟩), .pointer (some ⟨Bn, 0, none⟩)]) rfl h43 (enters_of Try.func43 (by kernel_rfl) rfl)
    (chunk_stops F (n - 1) h43 hro (by omega) w.heap.size Bs Bn a xs cap r hN hr hr2 hcap _ (by simp) (hBs.alloc _) (hBn.alloc _) f1 f2 (hR.alloc _)) belowK_t (belowK_b (by simp)) (Below.refl _ _) (fun _ => rfl)
    (fun (pre : List Nat) W => (∃ v, Boxed W w.heap.size 71 v ∧ W.ownsRow w.heap.size 50 1 v pre.length (pre.map fun m => chV (blkOf a) (offOf a) xs.length r m) ∧ True) ∧ Below w.heap.size w W)
    (fun _ _ _ => False)
    (OwnFrom.and (Own.from (holdsRow_own w.heap.size w.heap.size 71 50 1 (fun pre : List Nat => pre.length) (fun pre : List Nat => pre.map fun m => chV (blkOf a) (offOf a) xs.length r m) (fun _ _ => True)) _) (ownFrom_below (Nat.le_refl _) (by simp)))
    (fun _ _ _ _ _ hs _ _ => hs)
    ⟨⟨_, bO, World.ownsRow_nil _ _ _ _, trivial⟩, hB0⟩
    (fun m => { tmps := #[.slice none 0 0, .func (.func 43) #[] #[.pointer (some ⟨Bs, 0, none⟩), .pointer (some ⟨Bn, 0, none⟩)], .pointer (some ⟨w.heap.size, 0, none⟩), undef, .slice none 0 0, chV (blkOf a) (offOf a) xs.length r m, .func (.func 43) #[] #[.pointer (some ⟨Bs, 0, none⟩), .pointer (some ⟨Bn, 0, none⟩)], chV (blkOf a) (offOf a) xs.length r m, undef, undef, undef, undef, undef], defers := [] }) ?assign ?body ?done ?stop
  case assign =>
    intro l x W K hK
    gi_wp2
    exact hK
  case body =>
    rintro l pre x W ⟨⟨v, hv, hrow, _⟩, hB⟩ hlt
    have hc := hv.cell
    have hle := hv.lt
    have hone : ∀ u ∈ [chV (blkOf a) (offOf a) xs.length r x], u.oneCell' = true := by intro u hu; simp at hu; subst hu; rfl
    obtain ⟨b', o', e', hcv⟩ : ∃ b' o' e', chV (blkOf a) (offOf a) xs.length r x = .slice (some ⟨b', o', none⟩) e' e' := ⟨_, _, _, rfl⟩
    rw [hcv] at hone ⊢
    have HCV := Lib.hid hcv
    have hsz := hB.size
    clear hcv
    gi_wp2_with (gi_at_builtin; refine wpListIn_append_own _ rfl _ _ 71 rfl w.heap.size 50 i0 (.slice none 0 0) 1 24 Try.underlying71 hi hz0 hz1 hz2 rfl (by decide) _ _ _ rfl (hrow.alloc _) ⟨W.heap.size, 0, none⟩ 1 1 [.slice (some ⟨b', o', none⟩) e' e'] rfl rfl (cell_one_new _ _ _) hone (by unfold maxLen; omega) (by omega) (by simp; omega) ?_; intro v' w1 hown' hgrow _; obtain ⟨g', cap', rfl⟩ := ownsRow_succ hown'; obtain ⟨hv1, hv2, hr2, hk2, hb2⟩ := hv.appended (by decide) hrow hB.size (Nat.le_refl _) hown' hgrow; have hc1 := hv1.cell; have hf1 := hv1.frozen)
    refine ⟨hk2.from _, hb2, ⟨_, hv2, ?_, trivial⟩, hB.trans hb2⟩
    rw [List.length_append, List.map_append, List.map_cons, List.map_nil, HCV.out]
    simpa using hr2
  case done =>
    rintro D ys W hD hys ⟨⟨v, hv, hrow, _⟩, hB⟩ hK
    have hc := hv.cell
    gi_wp2
    refine ⟨by simp, .inl ⟨_, _, rfl, run_takeDeferred hK, ?_⟩⟩
    refine ⟨_, results_tmp rfl _ _ _, v, ys, rfl, hys, ?_, hB.trans (belowK_b (w := w) (Nat.le_refl _) W D _ _ (by simp at hD; omega) hK rfl rfl)⟩
    have := ownsRow_putObj hrow (.deferred none) hK rfl
    unfold Own1
    rw [List.length_map, List.flatMap_map]
    clear hys hrow
    have e : ∀ ys : List Nat, (ys.flatMap fun m => encV (chV (blkOf a) (offOf a) xs.length r m)) = ys.map fun m => chV (blkOf a) (offOf a) xs.length r m := by
      intro ys
      unfold encV
      induction ys with
      | nil => rfl
      | cons y ys ih => rw [List.flatMap_cons, List.map_cons, ih]; rfl
    rw [e]
    exact this
  case stop =>
    rintro D c pre W _ _ h _
    exact h.elim
theorem collect_in (F : Fence) (n : Nat) (h36 : F.fn 36) (h42 : F.fn 42) (h43 : F.fn 43) (hro : F.round = none) (hn : 4 ≤ n) (Bs Bn : Nat) (a : Option Addr) (xs : List (Nat × Nat)) (cap r : Nat) (hN : xs.length ≤ 1000) (hr : 1 ≤ r) (hr2 : r ≤ 2000) (hcap : xs.length ≤ cap) (w : World)
    (hBs : Blk Bs 50 #[.slice a xs.length cap] w) (hBn : Blk Bn 3 #[.int .i64 r] w) (hR : Rd 2 encP w (.slice a xs.length cap) xs) :
    CallsIn F n Try.prog 36 #[.func (.func 43) #[] #[.pointer (some ⟨Bs, 0, none⟩), .pointer (some ⟨Bn, 0, none⟩)]] w fun e W' =>
      ∃ v ys, e = .returned v ∧ Parts xs.length r ys ∧ Own1 1 encV W' w.heap.size 50 v (ys.map fun m => chV (blkOf a) (offOf a) xs.length r m) ∧ Below w.heap.size w W' := by
  have h1 : 1 ≤ n := by omega
  refine callsIn_of_wp Try.func36 rfl h36 ?_ hro
  simp only [Try.ntmps36, List.size_toArray, List.length_cons, List.length_nil, Nat.reduceAdd, Nat.reduceSub, Array.replicate_succ, Array.replicate_zero, List.push_toArray, List.append_toArray, List.nil_append, List.cons_append]
  gi_wp2_with (gi_at_call 42; refine (appendSeq_in F (n - 1) h42 h43 hro (by omega) Bs Bn a xs cap r hN hr hr2 hcap w hBs hBn hR).mono ?_; rintro e w' ⟨v, ys, rfl, h2, h3, h4⟩)
  go_ret
  exact ⟨v, ys, rfl, h2, h3, h4⟩
theorem chunk_any (a : Option Addr) (len cap r : Nat) (hr : 1 ≤ r) (w : World) :
    Calls Try.prog 37 #[.slice a len cap, .int .i64 r] w fun e w' => e = .returned (.func (.func 43) #[] #[.pointer (some ⟨w.heap.size, 0, none⟩), .pointer (some ⟨w.heap.size + 1, 0, none⟩)]) ∧ w' = (w.alloc (.cells #[.slice a len cap] 50)).alloc (.cells #[.int .i64 r] 3) :=
  callsIn_wide.1 (chunk_in Fence.wide 1 trivial rfl a len cap r hr w)
theorem collect_any (Bs Bn : Nat) (a : Option Addr) (xs : List (Nat × Nat)) (cap r : Nat) (hN : xs.length ≤ 1000) (hr : 1 ≤ r) (hr2 : r ≤ 2000) (hcap : xs.length ≤ cap) (w : World)
    (hBs : Blk Bs 50 #[.slice a xs.length cap] w) (hBn : Blk Bn 3 #[.int .i64 r] w) (hR : Rd 2 encP w (.slice a xs.length cap) xs) :
    Calls Try.prog 36 #[.func (.func 43) #[] #[.pointer (some ⟨Bs, 0, none⟩), .pointer (some ⟨Bn, 0, none⟩)]] w fun e W' =>
      ∃ v ys, e = .returned v ∧ Parts xs.length r ys ∧ Own1 1 encV W' w.heap.size 50 v (ys.map fun m => chV (blkOf a) (offOf a) xs.length r m) ∧ Below w.heap.size w W' :=
  callsIn_wide.1 (collect_in Fence.wide 5 trivial trivial trivial rfl (by omega) Bs Bn a xs cap r hN hr hr2 hcap w hBs hBn hR)
end Go.Proofs.Ytcnjomkddbbopaa
