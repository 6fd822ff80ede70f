/- slices.Chunk, slices.Collect: a list of items in parts. -/
import Derived.Test.YtcnjomkddbbopaaMz
namespace Go.Proofs.Ytcnjomkddbbopaa
open Go.RowKit Go.Shelf
set_option linter.unusedVariables false
attribute [local go_sem] Oper.semAt_some

/-- The part with number m, of r items each, of n items at an address. -/
def chV (b off n r m : Nat) : Value := .slice (some ⟨b, off + m * r * 2, none⟩) (min r (n - m * r)) (min r (n - m * r))
def Parts (n r : Nat) (ys : List Nat) : Prop := ∃ m, ys = List.range m ∧ n ≤ m * r ∧ (m = 0 ∨ (m - 1) * r < n)

theorem grownBy_drewN (w : World) (n : Nat) : w.grownBy (w.drewN n) none := ⟨rfl, rfl, rfl, Nat.le_refl _, fun _ _ _ => rfl⟩
set_option maxRecDepth 1000000 in
set_option maxHeartbeats 1000000 in
theorem chunk1_in (F : Fence) (n : Nat) (h43 : F.fn 43) (hro : F.round = none) (hn : 1 ≤ n) (l n₀ Bs Bn b off N cap r : Nat) (hN : N ≤ 1000) (hr : 1 ≤ r) (hr2 : r ≤ 2000) (hcap : N ≤ cap) (J Jx : List Nat → World → Prop)
    (hY : ∀ pre x W, J pre W → pre.length < N → YieldAt F (n - 1) Try.prog l #[chV b off N r x] W fun e W' =>
      (e = .returned (.bool true) ∧ J (pre ++ [x]) W' ∧ Below n₀ W W') ∨ (e = .returned (.bool false) ∧ Jx (pre ++ [x]) W'))
    (W : World) (hBs : Blk Bs 50 #[.slice (some ⟨b, off, none⟩) N cap] W) (hBn : Blk Bn 3 #[.int .i64 r] W) (h1 : Bs < n₀) (h2 : Bn < n₀) (hJ : AbidesFrom W.heap.size J) (h0 : J [] W) :
    CallsIn F n Try.prog 43 #[.func (.yield l) #[] #[], .pointer (some ⟨Bs, 0, none⟩), .pointer (some ⟨Bn, 0, none⟩)] W fun e W' => (∃ v, e = .returned v) ∧
      ((∃ ys, Parts N r ys ∧ J ys W') ∨ (∃ pre, True ∧ Jx pre W')) := by
  refine callsIn_of_wp Try.func43 rfl h43 ?_ hro
  simp only [Try.ntmps43, List.size_toArray, List.length_cons, List.length_nil, Nat.reduceAdd, Nat.reduceSub, Array.replicate_succ, Array.replicate_zero, List.push_toArray, List.append_toArray, List.nil_append, List.cons_append]
  gi_wp2
  gi_loopw [4] (fun i wr => ∃ m : Nat, i = .int .i64 ((m * r : Nat) : Int) ∧ (m = 0 ∨ (m - 1) * r < N) ∧ J (List.range m) wr ∧ Below n₀ W wr) (fun i _ => N + r - (intOf i).toNat)
  case atStart => exact ⟨0, by simp, .inl rfl, h0, Below.refl _ _⟩
  case round =>
    obtain ⟨m, rfl, hm, hJs, hnx⟩ := hrel
    have b0 : wr.cell? ⟨Bs, 0, none⟩ = some (.slice (some ⟨b, off, none⟩) N cap) := (hBs.belowAt hnx h1).cell 0
    have b1 : wr.cell? ⟨Bn, 0, none⟩ = some (.int .i64 r) := (hBn.belowAt hnx h2).cell 0
    obtain ⟨q, hq⟩ : ∃ q, m * r = q := ⟨_, rfl⟩
    rw [hq]
    have hq1 : m ≤ q := by rw [← hq]; exact Nat.le_mul_of_pos_right m hr
    have hq2 : q ≤ N + r := by
      rcases hm with rfl | hm
      · simp at hq; omega
      · cases m with
        | zero => simp at hq; omega
        | succ m => rw [Nat.add_mul] at hq; simp at hm; omega
    by_cases hlt : q < N
    · have hlt' : (q : Int) < (N : Int) := by omega
      have Hq := Lib.hid hq
      have Hnx := Lib.hid hnx
      obtain ⟨d, hd⟩ : ∃ d, N - q = d := ⟨_, rfl⟩
      obtain ⟨e, he⟩ : ∃ e, min r d = e := ⟨_, rfl⟩
      have he1 : 1 ≤ e := by omega
      have he2 : q + e ≤ N := by omega
      have hy0 := fun nq => hY (List.range m) m (wr.drewN nq) (hJ _ _ _ none hJs (grownBy_drewN wr nq) (fun r e => by cases e)) (by simp; omega)
      have HE := Lib.hid he
      have HD := Lib.hid hd
      have HYY := Lib.hid hY
      have HJ := Lib.hid hJ
      clear hq hnx hm hJs hY hJ hd
      gi_wp2
      refine wpIn_region_quiet_lit hro (by kernel_rfl) (by kernel_rfl) ?_
      repeat (gi_big_quiet_step (fail))
      refine wpQuietIn_nil ?_
      rintro _ ⟨nq, rfl⟩
      have hif : (if N - q < r then ((N - q : Nat) : Int) else (r : Int)) = (e : Int) := by
        have := HE.out
        have := HD.out
        split <;> omega
      rw [hif]
      have hch : chV b off N r m = .slice (some ⟨b, off + q * 2, none⟩) e e := by unfold chV; rw [Hq.out, HD.out, HE.out]
      obtain ⟨fn, tmps, assign, body, hy, hR⟩ := hy0 nq
      rw [hch] at hy
      have g1 : (q : Int) + (e : Int) ≤ (cap : Int) := by omega
      have g2 : (q : Int) ≤ (q : Int) + (e : Int) := by omega
      have g3 : q + e - q = e := by omega
      have g4 : ¬ q + e = q := by omega
      have g5 : q + e ≤ cap := by omega
      clear hif hy0 hch he
      gi_wp2
      refine hR.mono ?_
      rintro e W3 (⟨rfl, hJ3, hk3⟩ | ⟨rfl, hJx3⟩)
      · have b2 : W3.cell? ⟨Bn, 0, none⟩ = some (.int .i64 r) := (hk3.cell (p := ⟨Bn, 0, none⟩) h2).trans (by simpa using b1)
        have HJ3 := Lib.hid hJ3
        have Hk3 := Lib.hid hk3
        clear hJ3 hk3
        gi_wp2
        go_roundw
        case rel => exact ⟨m + 1, by have := Hq.out; refine val_int ?_; rw [Nat.add_mul, this]; simp, .inr (by rw [Nat.add_sub_cancel, Hq.out]; exact hlt), by rw [List.range_succ]; exact HJ3.out, Hnx.out.trans ((below_drewN (Below.refl _ _) nq).trans Hk3.out)⟩
        case measure => simp [intOf]; omega
      · have HJ3 := Lib.hid hJx3
        clear hJx3
        gi_wp2
        refine bodyPost_ret (results_none rfl _ _ _) rfl ?_
        exact ⟨⟨_, rfl⟩, .inr ⟨_, trivial, HJ3.out⟩⟩
    · have hlt' : ¬ (q : Int) < (N : Int) := by omega
      have HJ := Lib.hid hJs
      have Hm := Lib.hid hm
      have Hq := Lib.hid hq
      clear hJs hm hq
      gi_wp2
      go_end0
      exact ⟨⟨_, rfl⟩, .inl ⟨_, ⟨m, rfl, by rw [Hq.out]; omega, Hm.out⟩, HJ.out⟩⟩
theorem chunk_in (F : Fence) (n : Nat) (h37 : F.fn 37) (hro : F.round = none) (a : Option Addr) (len cap r : Nat) (hr : 1 ≤ r) (w : World) :
    CallsIn F n Try.prog 37 #[.slice a len cap, .int .i64 r] w fun e w' => e = .returned (.func (.func 43) #[] #[.pointer (some ⟨w.heap.size, 0, none⟩), .pointer (some ⟨w.heap.size + 1, 0, none⟩)]) ∧ w' = (w.alloc (.cells #[.slice a len cap] 50)).alloc (.cells #[.int .i64 r] 3) := by
  refine callsIn_of_wp Try.func37 rfl h37 ?_ hro
  simp only [Try.ntmps37, List.size_toArray, List.length_cons, List.length_nil, Nat.reduceAdd, Nat.reduceSub, Array.replicate_succ, Array.replicate_zero, List.push_toArray, List.append_toArray, List.nil_append, List.cons_append]
  have q : ¬ (r : Int) < 1 := by omega
  gi_wp2
  go_ret
  exact ⟨rfl, rfl⟩
theorem chunk_nil_in (F : Fence) (n : Nat) (h43 : F.fn 43) (hro : F.round = none) (l Bs Bn : Nat) (a : Option Addr) (cap : Nat) (J : List Nat → World → Prop) (W : World)
    (hBs : Blk Bs 50 #[.slice a 0 cap] W) (h0 : J [] W) :
    CallsIn F n Try.prog 43 #[.func (.yield l) #[] #[], .pointer (some ⟨Bs, 0, none⟩), .pointer (some ⟨Bn, 0, none⟩)] W fun e W' => (∃ v, e = .returned v) ∧ J [] W' := by
  refine callsIn_of_wp Try.func43 rfl h43 ?_ hro
  simp only [Try.ntmps43, List.size_toArray, List.length_cons, List.length_nil, Nat.reduceAdd, Nat.reduceSub, Array.replicate_succ, Array.replicate_zero, List.push_toArray, List.append_toArray, List.nil_append, List.cons_append]
  have hb0 : W.cell? ⟨Bs, 0, none⟩ = some (.slice a 0 cap) := hBs.cell 0
  gi_wp2
  gi_loopw [4] (fun i wr => i = .int .i64 0 ∧ Blk Bs 50 #[.slice a 0 cap] wr ∧ J [] wr) (fun _ _ => 0)
  case atStart => exact ⟨rfl, hBs, h0⟩
  case round =>
    obtain ⟨rfl, hb, hJs⟩ := hrel
    have hb1 : wr.cell? ⟨Bs, 0, none⟩ = some (.slice a 0 cap) := hb.cell 0
    have HJ := Lib.hid hJs
    clear hJs
    gi_wp2
    go_end0
    exact ⟨⟨_, rfl⟩, HJ.out⟩
/-- The block and the place of a list, 0 and 0 where there is none. -/
def blkOf : Option Addr → Nat
  | some ⟨b, _, _⟩ => b
  | none => 0
def offOf : Option Addr → Nat
  | some ⟨_, o, _⟩ => o
  | none => 0
theorem chunk_stops (F : Fence) (n : Nat) (h43 : F.fn 43) (hro : F.round = none) (hn : 1 ≤ n) (n₀ Bs Bn : Nat) (a : Option Addr) (xs : List (Nat × Nat)) (cap r : Nat) (hN : xs.length ≤ 1000) (hr : 1 ≤ r) (hr2 : r ≤ 2000) (hcap : xs.length ≤ cap) (w : World) (hn₀ : n₀ ≤ w.heap.size)
    (hBs : Blk Bs 50 #[.slice a xs.length cap] w) (hBn : Blk Bn 3 #[.int .i64 r] w) (h1 : Bs < n₀) (h2 : Bn < n₀) (hR : Rd 2 encP w (.slice a xs.length cap) xs) :
    SeqStopsK F n Try.prog 43 #[.pointer (some ⟨Bs, 0, none⟩), .pointer (some ⟨Bn, 0, none⟩)] (fun m => #[chV (blkOf a) (offOf a) xs.length r m]) (Below n₀) (fun ys => Parts xs.length r ys) (fun _ => True) xs.length w := fun l J Jx W hW hJ hJx hY h0 => by
  have hb := hBs.belowAt (hW.mono hn₀) h1
  have hb2 := hBn.belowAt (hW.mono hn₀) h2
  rcases Nat.eq_zero_or_pos xs.length with h | h
  · rw [h] at hb ⊢
    exact (chunk_nil_in F n h43 hro l Bs Bn a cap J W hb h0).mono fun e W' ⟨he, hj⟩ => ⟨he, .inl ⟨[], ⟨0, rfl, by simp, .inl rfl⟩, hj⟩⟩
  · obtain ⟨b, off, rfl, _, _⟩ := hR.some_ 0 h
    exact chunk1_in F n h43 hro hn l n₀ Bs Bn b off xs.length cap r hN hr hr2 hcap J Jx hY W hb hb2 h1 h2 hJ h0
end Go.Proofs.Ytcnjomkddbbopaa
