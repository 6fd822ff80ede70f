/- What the row stands on, part 20. -/
import Derived.Test.YtmnclnpbmgomgaaGreatDoorQ19

/- Of the program of layer 14: the iterator over the classes that occur; Collect. -/
namespace Go.Proofs.YtmnclnpbmgomgaaGreatDoor
open Go.RowKit Go.Shelf
set_option linter.unusedVariables false
attribute [local go_sem] Oper.semAt_some

/-- The classes that occur, of the first k. -/
def occK (l : Rus) (k : Nat) : List Str := (ordN.take k).filter fun c => (exF l c).isSome
theorem occK_len (l : Rus) (k : Nat) (h : k ≤ 6) : (occK l k).length ≤ k := by
  have := List.length_filter_le (fun c => (exF l c).isSome) (ordN.take k)
  rw [List.length_take] at this
  unfold occK
  omega
theorem occK_yes {l : Rus} {k : Nat} (hk : k < ordN.length) (h : (exF l (ordN[k]'hk)).isSome = true) : occK l (k + 1) = occK l k ++ [ordN[k]'hk] := by
  unfold occK
  rw [List.take_succ_eq_append_getElem hk, List.filter_append, List.filter_cons, if_pos h]
  rfl
theorem occK_no {l : Rus} {k : Nat} (hk : k < ordN.length) (h : (exF l (ordN[k]'hk)).isSome = false) : occK l (k + 1) = occK l k := by
  unfold occK
  rw [List.take_succ_eq_append_getElem hk, List.filter_append, List.filter_cons, if_neg (by rw [h]; decide)]
  exact List.append_nil _
theorem exF_ne {l : Rus} (hv : VR l) {c b : Str} (h : exF l c = some b) : b ≠ [] := by
  have key : ∀ {m : List Cnd} {k : Nat}, (∀ c ∈ m, okC c = true) → firstR m k = some b → b ≠ [] := fun {m k} hok h1 e => by
    have h2 := firstR_ne hok k
    rw [h1, e] at h2
    simp at h2
  unfold exF at h
  split at h
  · exact key hv.ok h
  · split at h
    · rename_i r hr
      exact key (fun d hd => by rw [List.mem_singleton.1 hd]; exact (hv.1 r (List.mem_of_find?_eq_some hr)).2) h
    · cases h
theorem grown14 {w w' : World} (h : Below w.heap.size w w') : w.grownBy w' none := ⟨h.os, h.tape, h.output, h.size, fun k hk _ => h.block k hk⟩
def OccE (l : Rus) (J Jx : List Str → World → Prop) (e : Ending) (W' : World) : Prop := (∃ v, e = .returned v) ∧ ((∃ ys, ys = occK l 6 ∧ J ys W') ∨ (∃ pre, True ∧ Jx pre W'))
structure ItO (l : Rus) (n₀ : Nat) (W0 : World) (J : List Str → World → Prop) (k : Nat) (W : World) : Prop where
  bw : Below n₀ W0 W
  inv : J (occK l k) W
set_option maxRecDepth 1000000 in
set_option maxHeartbeats 8000000 in
theorem occ1_in (n : Nat) (hn : 2 ≤ n) (lb Bl n₀ : Nat) (v : Value) (l : Rus) (hvr : VR l) (J Jx : List Str → World → Prop) (W : World) (hJ : AbidesFrom W.heap.size J) (hB0 : Bl < n₀) (hn0 : n₀ ≤ W.heap.size)
    (henv : ∀ W', Below n₀ W W' → RdRus W' v l ∧ ClG W' ∧ MaxL W')
    (hY : ∀ pre x W1, J pre W1 → pre.length < 6 → YieldAt Fence.wide (n - 1) Tryz.prog lb #[.string (ofL x)] W1 fun e W' =>
      (e = .returned (.bool true) ∧ J (pre ++ [x]) W' ∧ Below n₀ W1 W') ∨ (e = .returned (.bool false) ∧ Jx (pre ++ [x]) W'))
    (hBl : Blk Bl 22 #[v] W) (h0 : J [] W) :
    CallsIn Fence.wide n Tryz.prog 78 #[.func (.yield lb) #[] #[], .pointer (some ⟨Bl, 0, none⟩)] W (OccE l J Jx) := by
  have hf : Fence.wide.fn 78 := trivial
  have hfA : Fence.wide.fn 48 := trivial
  have hro : Fence.wide.round = none := rfl
  have h1n : 1 ≤ n := by omega
  have HJA := Lib.hid hJ
  have HEN := Lib.hid henv
  have HYY := Lib.hid hY
  have HBL := Lib.hid hBl
  have H00 := Lib.hid h0
  have HVR := Lib.hid hvr
  have hg := (henv W (Below.refl _ _)).2.1
  obtain ⟨av, nv, cv, rfl⟩ : ∃ av nv cv, v = .slice av nv cv := by
    obtain ⟨a, c, h, _⟩ := (henv W (Below.refl _ _)).1.slice
    exact ⟨_, _, _, h⟩
  have c0 : W.cell? ⟨0, 0, none⟩ = some (.string (ofL [122, 101, 114, 111])) := hg 0 (by decide)
  have c1 : W.cell? ⟨0, 1, none⟩ = some (.string (ofL [111, 110, 101])) := hg 1 (by decide)
  have c2 : W.cell? ⟨0, 2, none⟩ = some (.string (ofL [116, 119, 111])) := hg 2 (by decide)
  have c3 : W.cell? ⟨0, 3, none⟩ = some (.string (ofL [102, 101, 119])) := hg 3 (by decide)
  have c4 : W.cell? ⟨0, 4, none⟩ = some (.string (ofL [109, 97, 110, 121])) := hg 4 (by decide)
  have c5 : W.cell? ⟨0, 5, none⟩ = some (.string (ofL [111, 116, 104, 101, 114])) := hg 5 (by decide)
  clear hJ henv hY hBl h0 hg hvr
  refine callsIn_of_wp Tryz.func78 rfl hf ?_ hro
  simp only [Tryz.ntmps78, List.size_toArray, List.length_cons, List.length_nil, Nat.reduceAdd, Nat.reduceSub, Array.replicate_succ, Array.replicate_zero, List.push_toArray, List.append_toArray, List.nil_append, List.cons_append]
  gi_wp2_with fail
  gi_loopw [6] (fun v6 wr => ∃ k : Nat, k ≤ 6 ∧ v6 = .int .i64 (k : Int) ∧ ItO l n₀ W J k wr) (fun v6 _ => 6 - (intOf v6).toNat)
  case atStart => exact ⟨0, Nat.zero_le _, rfl, Below.refl _ _, H00.out⟩
  case round =>
    obtain ⟨k, hk, rfl, hrel⟩ := hrel
    have HR := Lib.hid hrel
    have b2 : wr.cell? ⟨Bl, 0, none⟩ = some (.slice av nv cv) := (HBL.out.belowAt hrel.bw hB0).cell 0
    clear hrel c0 c1 c2 c3 c4 c5 H00
    by_cases hlt : k < 6
    · have t0 : decide ((k : Int) < 6) = true := decide_eq_true (by omega)
      have t0' : (k : Int) < 6 := by omega
      have hkl : k < ordN.length := hlt
      have hix := index_cls hkl wr
      have HFI := Lib.hid (first14_any _ l (ordN[k]'hkl) wr (HEN.out wr HR.out.bw).1 HVR.out (HEN.out wr HR.out.bw).2.2)
      have HYS := Lib.hid (occK_yes (l := l) hkl)
      have HNO := Lib.hid (occK_no (l := l) hkl)
      have HNE := Lib.hid (fun b => @exF_ne l HVR.out (ordN[k]'hkl) b)
      have HLE := Lib.hid (occK_len l k hk)
      obtain ⟨y, hy⟩ : ∃ y, ordN[k]'hkl = y := ⟨_, rfl⟩
      rw [hy] at hix HFI HYS HNO HNE
      obtain ⟨A, hA⟩ : ∃ A, exF l y = A := ⟨_, rfl⟩
      rw [hA] at HFI HYS HNO HNE
      have HZ0 : Hid (A = none → ((ofL (A.getD [])).toList == ([] : List UInt8)) = true) := Lib.hid (fun e => by rw [e, str_dec]; rfl)
      have HZ1 : Hid (∀ b, A = some b → ((ofL (A.getD [])).toList == ([] : List UInt8)) = false) := Lib.hid (fun b e => by
        have hne := HNE.out b e
        rw [e, str_dec]
        exact decide_eq_false hne)
      obtain ⟨Z, hZ⟩ : ∃ Z, ofL (A.getD []) = Z := ⟨_, rfl⟩
      rw [hZ] at HZ0 HZ1 HFI
      clear hy hkl hA hZ HNE
      cases A with
      | none =>
        have z2 := HZ0.out rfl
        clear HYS HZ0 HZ1
        have HN2 := Lib.hid (HNO.out rfl)
        gi_wp2_with fail
        refine (callsIn_wide.2 HFI.out).mono ?_
        rintro e w5 ⟨rfl, b5⟩
        have B5 := Lib.hid b5
        clear b5
        gi_wp2
        refine ⟨fun f e => (by cases e), ?_⟩
        gi_wp2
        go_roundw
        case rel => exact ⟨k + 1, by omega, by go_num, HR.out.bw.trans (B5.out.mono (Nat.le_trans hn0 HR.out.bw.size)), by rw [HN2.out]; exact HJA.out _ _ _ none HR.out.inv (grown14 B5.out) (fun r e => by cases e)⟩
        case measure => simp [intOf]; omega
      | some A =>
        have z2 := HZ1.out A rfl
        clear HZ0 HZ1
        have HY2 := Lib.hid (HYS.out rfl)
        clear HNO
        gi_wp2_with fail
        refine (callsIn_wide.2 HFI.out).mono ?_
        rintro e w5 ⟨rfl, b5⟩
        have B5 := Lib.hid (HR.out.bw.trans (b5.mono (Nat.le_trans hn0 HR.out.bw.size)))
        have hJ5 : J (occK l k) w5 := HJA.out _ _ _ none HR.out.inv (grown14 b5) (fun r e => by cases e)
        obtain ⟨fn, tmps, assign, body, hyy, hRR⟩ := HYY.out (occK l k) y w5 hJ5 (by have := HLE.out; omega)
        clear b5 hJ5 b2
        gi_wp2_with fail
        refine hRR.mono ?_
        rintro e W4 (⟨rfl, hJ4, hk4⟩ | ⟨rfl, hJx4⟩)
        · have HJ4 := Lib.hid hJ4
          have B4 := Lib.hid (B5.out.trans hk4)
          clear hJ4 hk4
          gi_wp2
          go_roundw
          case rel => exact ⟨k + 1, by omega, by go_num, B4.out, by rw [HY2.out]; exact HJ4.out⟩
          case measure => simp [intOf]; omega
        · have HJX := Lib.hid hJx4
          clear hJx4
          gi_wp2
          refine bodyPost_ret (results_none rfl _ _ _) rfl ?_
          exact ⟨⟨_, rfl⟩, .inr ⟨_, trivial, HJX.out⟩⟩
    · have t0 : decide ((k : Int) < 6) = false := decide_eq_false (by omega)
      have t0' : ¬ (k : Int) < 6 := by omega
      have HE : Hid (k = 6) := Lib.hid (by omega)
      have HJE : Hid (J (occK l 6) wr) := Lib.hid (by rw [← HE.out]; exact HR.out.inv)
      gi_wp2
      go_end0
      exact ⟨⟨_, rfl⟩, .inl ⟨_, rfl, HJE.out⟩⟩
theorem occurring_any (a : Option Addr) (m c : Nat) (w : World) :
    Calls Tryz.prog 44 #[.slice a m c] w fun e w' => e = .returned (.func (.func 78) #[] #[.pointer (some ⟨w.heap.size, 0, none⟩)]) ∧ w' = w.alloc (.cells #[.slice a m c] 22) := by
  go_enter Tryz.func44, Tryz.ntmps44
  go_wp2
  go_ret
  exact ⟨rfl, rfl⟩
theorem occ_stops (n : Nat) (hn : 2 ≤ n) (Bl n₀ : Nat) (v : Value) (l : Rus) (hvr : VR l) (w : World) (hB0 : Bl < n₀) (hn0 : n₀ ≤ w.heap.size)
    (henv : ∀ W', Below n₀ w W' → RdRus W' v l ∧ ClG W' ∧ MaxL W') (hBl : Blk Bl 22 #[v] w) :
    SeqStopsK Fence.wide n Tryz.prog 78 #[.pointer (some ⟨Bl, 0, none⟩)] (fun x => #[.string (ofL x)]) (Below n₀) (fun ys => ys = occK l 6) (fun _ => True) 6 w := fun lb J Jx W hW hJ hJx hY h0 =>
  occ1_in n hn lb Bl n₀ v l hvr J Jx W hJ hB0 (Nat.le_trans hn0 hW.size) (fun W' h => henv W' ((hW.mono hn0).trans h)) hY (hBl.below hW) h0
/-! ### Collect -/
set_option maxRecDepth 100000 in
set_option maxHeartbeats 4000000 in
theorem appendSeq14_in (n : Nat) (hn : 3 ≤ n) (Bl : Nat) (v : Value) (l : Rus) (hvr : VR l) (w : World) (hBl : Blk Bl 22 #[v] w) (hv : RdRus w v l) (hg : ClG w) (hm : MaxL w) :
    CallsIn Fence.wide n Tryz.prog 77 #[.slice none 0 0, .func (.func 78) #[] #[.pointer (some ⟨Bl, 0, none⟩)]] w fun e W' =>
      ∃ v', e = .returned v' ∧ Own1 1 encT W' w.heap.size 9 v' (occK l 6) ∧ Below w.heap.size w W' := by
  have h1 : 1 ≤ n := by omega
  have hro : Fence.wide.round = none := rfl
  have hf : Fence.wide.fn 77 := trivial
  have hf1 : Fence.wide.fn 78 := trivial
  obtain ⟨i0, hi, hz0, hz1, hz2⟩ := info_parts Tryz.infoT
  refine callsIn_of_wp_marks Tryz.func77 rfl hf ?_ hro
  simp only [Tryz.ntmps77, List.size_toArray, List.length_cons, List.length_nil, Nat.reduceAdd, Nat.reduceSub, Array.replicate_succ, Array.replicate_zero, List.push_toArray, List.append_toArray, List.nil_append, List.cons_append]
  gi_wp2
  have bO := Boxed.new w 29 (.slice none 0 0)
  have hB0 : Below w.heap.size w (w.alloc (.cells #[.slice none 0 0] 29)) := (Below.refl _ w).alloc (Nat.le_refl _) _
  have f1 := hBl.lt
  refine wpIn_rangeFunc_ownG hro h1 (gf := 78) (lb := #[.pointer (some ⟨Bl, 0, none⟩)]) rfl hf1 (enters_of Tryz.func78 (by kernel_rfl) rfl)
    (occ_stops (n - 1) (by omega) Bl w.heap.size v l hvr _ f1 (by simp) (fun W' h => by
      have hb := hB0.trans h
      exact ⟨hv.below hb, hg.below hb, hm.below hb⟩) (hBl.alloc _)) belowK_t (belowK_b (by simp)) (Below.refl _ _) (fun _ => rfl)
    (fun (pre : List Str) W => (∃ v, Boxed W w.heap.size 29 v ∧ W.ownsRow w.heap.size 9 1 v pre.length (pre.map fun m => .string (ofL m)) ∧ True) ∧ Below w.heap.size w W)
    (fun _ _ _ => False)
    (OwnFrom.and (Own.from (holdsRow_own w.heap.size w.heap.size 29 9 1 (fun pre : List Str => pre.length) (fun pre : List Str => pre.map fun m => .string (ofL m)) (fun _ _ => True)) _) (ownFrom_below (Nat.le_refl _) (by simp)))
    (fun _ _ _ _ _ hs _ _ => hs)
    ⟨⟨_, bO, World.ownsRow_nil _ _ _ _, trivial⟩, hB0⟩
    (fun m => { tmps := #[.slice none 0 0, .func (.func 78) #[] #[.pointer (some ⟨Bl, 0, none⟩)], .pointer (some ⟨w.heap.size, 0, none⟩), undef, .slice none 0 0, .string (ofL m), .func (.func 78) #[] #[.pointer (some ⟨Bl, 0, none⟩)], .string (ofL m), undef, undef, undef, undef, undef], defers := [] }) ?assign ?body ?done ?stop
  case assign =>
    intro l x W K hK
    gi_wp2
    exact hK
  case body =>
    rintro l pre x W ⟨⟨v, hv, hrow, _⟩, hB⟩ hlt
    have hc := hv.cell
    have hle := hv.lt
    have hone : ∀ u ∈ [Value.string (ofL x)], u.oneCell' = true := by intro u hu; simp at hu; subst hu; rfl
    obtain ⟨X, hX⟩ : ∃ X, ofL x = X := ⟨_, rfl⟩
    rw [hX] at hone ⊢
    have HXE := Lib.hid hX
    have hsz := hB.size
    clear hX
    gi_wp2_with (gi_at_builtin; refine wpListIn_append_own _ rfl _ _ 29 rfl w.heap.size 9 i0 (.string ByteArray.empty) 1 16 Tryz.underlying29 hi hz0 hz1 hz2 rfl (by decide) _ _ _ rfl (hrow.alloc _) ⟨W.heap.size, 0, none⟩ 1 1 [.string X] rfl rfl (cell_one_new _ _ _) hone (by unfold maxLen; omega) (by omega) (by simp; omega) ?_; intro v' w1 hown' hgrow _; obtain ⟨g', cap', rfl⟩ := ownsRow_succ hown'; obtain ⟨hv1, hv2, hr2, hk2, hb2⟩ := hv.appended (by decide) hrow hB.size (Nat.le_refl _) hown' hgrow; have hc1 := hv1.cell; have hf1 := hv1.frozen)
    refine ⟨hk2.from _, hb2, ⟨_, hv2, ?_, trivial⟩, hB.trans hb2⟩
    rw [List.length_append, List.map_append, List.map_cons, List.map_nil, HXE.out]
    simpa using hr2
  case done =>
    rintro D ys W hD hys ⟨⟨v, hv, hrow, _⟩, hB⟩ hK
    have hc := hv.cell
    gi_wp2
    refine ⟨by simp, .inl ⟨_, _, rfl, run_takeDeferred hK, ?_⟩⟩
    refine ⟨_, results_tmp rfl _ _ _, v, rfl, ?_, hB.trans (belowK_b (w := w) (Nat.le_refl _) W D _ _ (by simp at hD; omega) hK rfl rfl)⟩
    have := ownsRow_putObj hrow (.deferred none) hK rfl
    have e : ∀ ys : List Str, ys.flatMap encT = ys.map fun m => Value.string (ofL m) := by
      intro ys
      induction ys with
      | nil => rfl
      | cons y ys ih => rw [List.flatMap_cons, List.map_cons, ih]; rfl
    unfold Own1
    rw [← hys, e]
    exact this
  case stop =>
    rintro D c pre W _ _ h _
    exact h.elim
theorem collect14_any (Bl : Nat) (v : Value) (l : Rus) (hvr : VR l) (w : World) (hBl : Blk Bl 22 #[v] w) (hv : RdRus w v l) (hg : ClG w) (hm : MaxL w) :
    Calls Tryz.prog 43 #[.func (.func 78) #[] #[.pointer (some ⟨Bl, 0, none⟩)]] w fun e W' =>
      ∃ v', e = .returned v' ∧ Own1 1 encT W' w.heap.size 9 v' (occK l 6) ∧ Below w.heap.size w W' := by
  have HA := Lib.hid (callsIn_wide.1 (appendSeq14_in 5 (by omega) Bl v l hvr w hBl hv hg hm))
  clear hBl hv hg hm hvr
  go_enter Tryz.func43, Tryz.ntmps43
  go_wp2_with fail
  refine HA.out.mono ?_
  rintro e w2 ⟨v', rfl, h2, h3⟩
  have H2 := Lib.hid h2
  have H3 := Lib.hid h3
  obtain ⟨a2, c2, rfl⟩ := h2.slice
  clear h2 h3
  go_wp2
  go_ret
  exact ⟨_, rfl, H2.out, H3.out⟩
end Go.Proofs.YtmnclnpbmgomgaaGreatDoor


/- Of the program of layer 14: Classes, Example. -/
namespace Go.Proofs.YtmnclnpbmgomgaaGreatDoor
open Go.RowKit
set_option linter.unusedVariables false

theorem clssR_bad {l : Rus} (h : ¬ VR l) : clssR l = ([], 1) := if_pos h
theorem clssR_ov {l : Rus} (h : VR l) (ho : Ov l) : clssR l = ([], 19) := by
  unfold clssR
  rw [if_neg (fun k => k h), if_pos ho]
theorem clssR_yes {l : Rus} (h : VR l) (ho : ¬ Ov l) : clssR l = (occK l 6, 0) := by
  unfold clssR
  rw [if_neg (fun k => k h), if_neg ho]
  rfl
def Clss14P (l : Rus) (w : World) (e : Ending) (w' : World) : Prop := ∃ v', e = .returned (.tuple #[v', .int .i64 ((clssR l).2 : Nat)]) ∧ Own1 1 encT w' w.heap.size 9 v' (clssR l).1 ∧ Below w.heap.size w w'
set_option maxRecDepth 1000000 in
set_option maxHeartbeats 8000000 in
theorem classes14P_any (v : Value) (l : Rus) (w : World) (hv : RdRus w v l) (hr : RusR l) (hg : ClG w) (hm : MaxL w) : Calls Tryz.prog 16 #[v] w (Clss14P l w) := by
  have HEX : Hid (∀ v' er cs w', clssR l = (cs, er) → Own1 1 encT w' w.heap.size 9 v' cs → Below w.heap.size w w' → Clss14P l w (.returned (.tuple #[v', .int .i64 ((er : Nat) : Int)])) w') := Lib.hid (fun v' er cs w' e h1 h2 => ⟨v', by rw [e], by rw [e]; exact h1, h2⟩)
  obtain ⟨E, hE⟩ : ∃ E, Clss14P l w = E := ⟨_, rfl⟩
  rw [hE] at HEX ⊢
  clear hE
  have HV := Lib.hid hv
  have HG := Lib.hid hg
  have HM := Lib.hid hm
  have HVA := Lib.hid (valid14P_any v l w hv hr hg)
  obtain ⟨a, cp, rfl, h2, h3⟩ := hv.slice
  have HBAD := Lib.hid (@clssR_bad l)
  have HOV := Lib.hid (@clssR_ov l)
  have HYES := Lib.hid (@clssR_yes l)
  clear hv hr hg hm h2 h3
  go_enter Tryz.func16, Tryz.ntmps16
  go_wp2_with fail
  refine HVA.out.mono ?_
  rintro e w1 ⟨rfl, b1⟩
  have B1 := Lib.hid b1
  clear b1
  by_cases hvr : VR l
  case neg =>
    have HR := Lib.hid (HEX.out (.slice none 0 0) 1 [] w1 (HBAD.out hvr) (own1_nil _ _ _) B1.out)
    rw [decide_eq_false hvr]
    clear hvr
    go_wp2
    skip
    exact HR.out
  rw [decide_eq_true hvr]
  have HVR := Lib.hid hvr
  clear hvr
  go_wp2_with fail
  refine (overlap_any _ l w1 (HV.out.below B1.out) HVR.out (HM.out.below B1.out)).mono ?_
  rintro e w2 ⟨b, rfl, ho1, ho2, b2⟩
  have B2 := Lib.hid (st B1.out b2 B1.out.size)
  clear b2
  cases b with
  | true =>
    have HR := Lib.hid (HEX.out (.slice none 0 0) 19 [] w2 (HOV.out HVR.out (ho1 rfl)) (own1_nil _ _ _) B2.out)
    clear ho1 ho2
    go_wp2
    skip
    exact HR.out
  | false =>
    have HY := Lib.hid (HYES.out HVR.out (ho2 rfl))
    clear ho1 ho2
    have BA := Lib.hid ((Below.refl w2.heap.size w2).alloc (Nat.le_refl _) (.cells #[.slice a l.length cp] 22))
    have B3 := Lib.hid (st B2.out BA.out B2.out.size)
    have HCO := Lib.hid (collect14_any w2.heap.size _ l HVR.out _ (Blk.new w2 22 #[.slice a l.length cp]) (HV.out.below B3.out) (HG.out.below B3.out) (HM.out.below B3.out))
    obtain ⟨N, hN⟩ : ∃ N, l.length = N := ⟨_, rfl⟩
    rw [hN] at BA B3 HCO ⊢
    clear hN
    go_wp2_with fail
    refine (occurring_any _ _ _ _).mono ?_
    rintro e w3 ⟨rfl, hw3⟩
    obtain rfl := hw3.symm
    clear hw3
    go_wp2_with fail
    refine HCO.out.mono ?_
    rintro e w4 ⟨v', rfl, h4, b4⟩
    have HR := Lib.hid (HEX.out v' 0 _ w4 HY.out (h4.base B3.out.size) (st B3.out b4 B3.out.size))
    obtain ⟨a4, c4, rfl⟩ := h4.slice
    clear h4 b4
    go_wp2
    skip
    exact HR.out
set_option maxRecDepth 1000000 in
set_option maxHeartbeats 8000000 in
theorem example14P_any (v : Value) (l : Rus) (c : Str) (w : World) (hv : RdRus w v l) (hr : RusR l) (hg : ClG w) (hm : MaxL w) : Calls Tryz.prog 21 #[v, .string (ofL c)] w fun e w' => e = .returned (.tuple #[.string (ofL (exR l c).1), .int .i64 ((exR l c).2 : Nat)]) ∧ Below w.heap.size w w' := by
  have HBAD := Lib.hid (fun h : ¬ VR l => @exR_bad l c h)
  have HUNK := Lib.hid (fun (h : VR l) (k : ¬ c ∈ ordN) => @exR_unk l c h k)
  have HOV := Lib.hid (fun (h : VR l) (k : c ∈ ordN) (o : Ov l) => @exR_ov l c h k o)
  have HSOME := Lib.hid (fun (h : VR l) (k : c ∈ ordN) (o : ¬ Ov l) s => @exR_some l c s h k o)
  have HNONE := Lib.hid (fun (h : VR l) (k : c ∈ ordN) (o : ¬ Ov l) => @exR_none l c h k o)
  obtain ⟨R, hR⟩ : ∃ R, exR l c = R := ⟨_, rfl⟩
  rw [hR] at HBAD HUNK HOV HSOME HNONE ⊢
  clear hR
  have HV := Lib.hid hv
  have HG := Lib.hid hg
  have HM := Lib.hid hm
  have HVA := Lib.hid (valid14P_any v l w hv hr hg)
  obtain ⟨a, cp, rfl, h2, h3⟩ := hv.slice
  obtain ⟨N, hN⟩ : ∃ N, l.length = N := ⟨_, rfl⟩
  rw [hN] at HV HVA ⊢
  clear hv hr hg hm h2 h3 hN
  go_enter Tryz.func21, Tryz.ntmps21
  go_wp2_with fail
  refine HVA.out.mono ?_
  rintro e w1 ⟨rfl, b1⟩
  have B1 := Lib.hid b1
  clear b1
  by_cases hvr : VR l
  case neg =>
    have hR := HBAD.out hvr
    obtain rfl := hR.symm
    rw [decide_eq_false hvr]
    clear hvr hR
    go_wp2
    go_ret2
    exact ⟨rfl, B1.out⟩
  rw [decide_eq_true hvr]
  have HVR := Lib.hid hvr
  clear hvr
  have HIS := Lib.hid (isClass_any c w1 (HG.out.below B1.out))
  by_cases hc : c ∈ ordN
  case neg =>
    have hR := HUNK.out HVR.out hc
    obtain rfl := hR.symm
    have hb : hasB ordN c = false := by
      cases h : hasB ordN c with
      | false => rfl
      | true => exact absurd (hasB_iff.1 h) hc
    rw [hb] at HIS
    clear hc hR hb
    go_wp2_with fail
    refine HIS.out.mono ?_
    rintro e w2 ⟨rfl, hw2⟩
    obtain rfl := hw2.symm
    clear hw2
    go_wp2
    go_ret2
    exact ⟨rfl, B1.out⟩
  rw [hasB_iff.2 hc] at HIS
  have HC := Lib.hid hc
  clear hc
  go_wp2_with fail
  refine HIS.out.mono ?_
  rintro e w2 ⟨rfl, hw2⟩
  obtain rfl := hw2.symm
  clear hw2 HIS
  go_wp2_with fail
  refine (overlap_any _ l _ (HV.out.below B1.out) HVR.out (HM.out.below B1.out)).mono ?_
  rintro e w3 ⟨b, rfl, ho1, ho2, b3⟩
  have B3 := Lib.hid (st B1.out b3 B1.out.size)
  clear b3
  cases b with
  | true =>
    have hR := HOV.out HVR.out HC.out (ho1 rfl)
    obtain rfl := hR.symm
    clear ho1 ho2 hR
    go_wp2
    go_ret2
    exact ⟨rfl, B3.out⟩
  | false =>
    have HNO := Lib.hid (ho2 rfl)
    clear ho1 ho2
    have HFI := Lib.hid (first14_any _ l c w3 (HV.out.below B3.out) HVR.out (HM.out.below B3.out))
    have HNE := Lib.hid (fun b => @exF_ne l HVR.out c b)
    have HS := Lib.hid (fun s => HSOME.out HVR.out HC.out HNO.out s)
    have HN := Lib.hid (HNONE.out HVR.out HC.out HNO.out)
    obtain ⟨A, hA⟩ : ∃ A, exF l c = A := ⟨_, rfl⟩
    rw [hA] at HFI HNE HS HN
    have HZ0 : Hid (A = none → ((ofL (A.getD [])).toList == ([] : List UInt8)) = true) := Lib.hid (fun e => by rw [e, str_dec]; rfl)
    have HZ1 : Hid (∀ b, A = some b → ((ofL (A.getD [])).toList == ([] : List UInt8)) = false ∧ ofL (A.getD []) = ofL b) := Lib.hid (fun b e => by
      have hne := HNE.out b e
      rw [e, str_dec]
      exact ⟨decide_eq_false hne, rfl⟩)
    obtain ⟨Z, hZ⟩ : ∃ Z, ofL (A.getD []) = Z := ⟨_, rfl⟩
    rw [hZ] at HZ0 HZ1 HFI
    clear hA hZ HNE
    cases A with
    | none =>
      have hR := HN.out rfl
      obtain rfl := hR.symm
      have z2 := HZ0.out rfl
      clear hR HS HZ0 HZ1
      go_wp2_with fail
      refine HFI.out.mono ?_
      rintro e w4 ⟨rfl, b4⟩
      have B4 := Lib.hid (st B3.out b4 B3.out.size)
      clear b4
      go_wp2
      go_ret2
      exact ⟨rfl, B4.out⟩
    | some A =>
      have hR := HS.out A rfl
      obtain rfl := hR.symm
      have z2 := (HZ1.out A rfl).1
      have HZ := Lib.hid (HZ1.out A rfl).2
      clear hR HN HS HZ0 HZ1
      go_wp2_with fail
      refine HFI.out.mono ?_
      rintro e w4 ⟨rfl, b4⟩
      have B4 := Lib.hid (st B3.out b4 B3.out.size)
      clear b4
      go_wp2
      go_ret2
      exact ⟨by rw [HZ.out]; rfl, B4.out⟩
end Go.Proofs.YtmnclnpbmgomgaaGreatDoor


/- Of the reference of layer 14: Example. -/
namespace Go.Proofs.YtmnclnpbmgomgaaGreatDoor
open Go.RowKit
set_option linter.unusedVariables false

theorem fT_none {cs : List Cnd} (h : validB cs = true) (k : firstR cs 1 = none) : findR cs 1 true = ([], true, 0) := by rw [findR_ok h, k]; rfl
theorem fT_some {cs : List Cnd} {s : Str} (h : validB cs = true) (k : firstR cs 1 = some s) : findR cs 1 true = (s, false, 0) := by rw [findR_ok h, k]; rfl
theorem fS_none {cs : List Cnd} (h : validB cs = true) (k : firstR cs 0 = none) : findR cs 0 false = ([], false, 0) := by rw [findR_ok h, k]; rfl
theorem fS_some {cs : List Cnd} {s : Str} (h : validB cs = true) (k : firstR cs 0 = some s) : findR cs 0 false = (s, true, 0) := by rw [findR_ok h, k]; rfl
def ExP (l : Rus) (c : Str) (w : World) (e : Ending) (w' : World) : Prop := e = .returned (.tuple #[.string (ofL (exR l c).1), .int .i64 ((exR l c).2 : Nat)]) ∧ Below w.heap.size w w'
set_option maxRecDepth 1000000 in
set_option maxHeartbeats 16000000 in
theorem refEx_any (v : Value) (l : Rus) (c : Str) (w : World) (hv : RdRus w v l) (hl : ∀ i (h : i < l.length), cnt (l[i]'h).2 ≤ 4611686018427387904) (h100 : l.length ≤ 100) : Calls Tryz.prog 22 #[v, .string (ofL c)] w (ExP l c w) := by
  obtain ⟨iC, hiC, hzC, hkC, hbC⟩ := info_parts Tryz.infoCo
  have hcn : ∀ d ∈ l.map Prod.snd, cnt d ≤ 4611686018427387904 := fun d hd => by
    obtain ⟨r, hr, rfl⟩ := List.mem_map.1 hd
    obtain ⟨i, hi, rfl⟩ := List.mem_iff_getElem.1 hr
    exact hl i hi
  unfold ExP
  have HBAD := Lib.hid (fun h : ¬ VR l => @exR_bad l c h)
  have HUNK := Lib.hid (fun (h : VR l) (k : ¬ c ∈ ordN) => @exR_unk l c h k)
  have HOV := Lib.hid (fun (h : VR l) (k : c ∈ ordN) (o : Ov l) => @exR_ov l c h k o)
  have HSOME := Lib.hid (fun (h : VR l) (k : c ∈ ordN) (o : ¬ Ov l) s => @exR_some l c s h k o)
  have HNONE := Lib.hid (fun (h : VR l) (k : c ∈ ordN) (o : ¬ Ov l) => @exR_none l c h k o)
  obtain ⟨R, hR⟩ : ∃ R, exR l c = R := ⟨_, rfl⟩
  rw [hR] at HBAD HUNK HOV HSOME HNONE ⊢
  have HVA := Lib.hid (fun w h => valid14_any v l w h hl)
  have HORD := Lib.hid order14_any
  have HHAS := Lib.hid (fun v w h => has14_any v ordN c w h)
  have HDIS := Lib.hid (fun w (h : RdRus w v l) => refDis_any l v h100 hcn w h.rules)
  have HTOT := Lib.hid (fun u w h => refTotal_any (l.map Prod.snd) u hcn w h)
  have HSAT := Lib.hid (fun i (hi : i < l.length) u w h => refSat_any (l[i]'hi).2 u (hl i hi) w h)
  have HVB := Lib.hid (fun h : VR l => h.validB)
  have HV1 := Lib.hid (fun (h : VR l) i hi => h.valid1 i hi)
  have HOF := Lib.hid (fun (h : VR l) i j W er hd => @ov_of l h i j W er hd)
  have HHIT := Lib.hid (fun (h : VR l) (k : c ≠ othN) i (hi : i < l.length) e b => @ex_hit l h c b k i hi e)
  have HEND := Lib.hid (fun (k : c ≠ othN) => @ex_end l c k)
  have HV := Lib.hid hv
  have H100 := Lib.hid h100
  obtain ⟨a, cp, rfl, h2, h3⟩ := hv.slice
  obtain ⟨N, hN⟩ : ∃ N, l.length = N := ⟨_, rfl⟩
  have HN := Lib.hid hN
  rw [hN] at h2 HV HVA HDIS ⊢
  clear hv hl hcn hR h100 hN
  go_enter Tryz.func22, Tryz.ntmps22
  go_wp2_with fail
  refine (HVA.out _ HV.out).mono ?_
  rintro e w1 ⟨rfl, b1⟩
  have B1 := Lib.hid b1
  clear b1
  by_cases hvr : VR l
  case neg =>
    have hR := HBAD.out hvr
    obtain rfl := hR.symm
    rw [decide_eq_false hvr]
    clear hvr hR
    go_wp2
    go_ret2
    exact ⟨rfl, B1.out⟩
  rw [decide_eq_true hvr]
  have HVR := Lib.hid hvr
  clear hvr
  go_wp2_with fail
  refine (HORD.out _).mono ?_
  rintro e w2 ⟨v2, rfl, r2, b2⟩
  have B2 := Lib.hid (st B1.out b2 B1.out.size)
  have R2 := Lib.hid r2
  clear b2 r2
  go_wp2_with fail
  refine (HHAS.out v2 _ R2.out).mono ?_
  rintro e w3 ⟨rfl, hw3⟩
  obtain rfl := hw3.symm
  clear hw3
  by_cases hc : c ∈ ordN
  case neg =>
    have hR := HUNK.out HVR.out hc
    obtain rfl := hR.symm
    have hb : hasB ordN c = false := by
      cases h : hasB ordN c with
      | false => rfl
      | true => exact absurd (hasB_iff.1 h) hc
    rw [hb]
    clear hc hR hb
    go_wp2
    go_ret2
    exact ⟨rfl, B2.out⟩
  rw [hasB_iff.2 hc]
  have HC := Lib.hid hc
  clear hc
  go_wp2_with fail
  refine (HDIS.out _ (HV.out.below B2.out)).mono ?_
  rintro e w4 ⟨i, j, W, er, rfl, hd, b4⟩
  rw [if_pos (HVB.out HVR.out)] at hd
  have B4 := Lib.hid (st B2.out b4 B2.out.size)
  have hov := HOF.out HVR.out _ _ _ _ hd
  clear b4 hd
  rcases hov with ⟨rfl, ho⟩ | ⟨rfl, ho⟩
  · have hR := HOV.out HVR.out HC.out ho
    obtain rfl := hR.symm
    clear hR ho
    go_wp2
    go_ret2
    exact ⟨rfl, B4.out⟩
  have HS := Lib.hid (HSOME.out HVR.out HC.out ho)
  have HNO := Lib.hid (HNONE.out HVR.out HC.out ho)
  have V4 := Lib.hid (HV.out.below B4.out)
  clear ho HBAD HUNK HOV HSOME HNONE HORD HHAS HDIS HOF
  by_cases hco : c = othN
  · have t1 : ((ofL c).toList == ([111, 116, 104, 101, 114] : List UInt8)) = true := by rw [hco, ByteArray.toList_eq]; rfl
    have HE : Hid (exF l c = firstR (l.map Prod.snd) 1) := Lib.hid (by rw [hco]; exact exF_oth l)
    rw [HE.out] at HS HNO
    have HN0 : Hid (GatC w4 l 0 (.slice none 0 0) w4) := Lib.hid ⟨⟨[], own1_nil _ _ _, rfl, fun i h _ => by simp at h⟩, Below.refl _ _⟩
    clear hco HHIT HEND HSAT HV1
    go_wp2_with fail
    go_loopw [10, 11] (fun v10 v11 wr => ∃ k : Nat, k ≤ N ∧ v11 = .int .i64 k ∧ GatC w4 l k v10 wr) (fun _ v11 _ => N - (intOf v11).toNat)
    case atStart => exact ⟨0, Nat.zero_le _, rfl, HN0.out⟩
    case round =>
      rename World => wr
      obtain ⟨k, hk, rfl, hg⟩ := hrel
      have HG := Lib.hid hg
      clear hg HN0
      by_cases hlt : k < N
      · have t0 : decide ((k : Int) < (N : Int)) = true := decide_eq_true (by omega)
        have hkl : k < l.length := by rw [HN.out]; exact hlt
        obtain ⟨bk, off, x1, x2, rfl, hbk, h0_, h1_, hcd⟩ := V4.out.at_ k hkl
        have h1 := (HG.out.bw.cell (p := ⟨bk, off + k * 2 + 1, none⟩) hbk).trans h1_
        obtain ⟨n, hn⟩ : ∃ n, (l[k]'hkl).2.length = n := ⟨_, rfl⟩
        rw [hn] at h1 hcd
        have HCD : Hid (∀ i (h : i < l.length), i = k → RdC w4 (.slice x1 n x2) (l[i]'h).2) := Lib.hid (fun i h e => by subst e; exact hcd)
        obtain ⟨raws, ho, hlr, hr⟩ := HG.out.ex
        have HO := Lib.hid ho
        have HLR := Lib.hid hlr
        have HR := Lib.hid hr
        have HB := Lib.hid HG.out.bw
        have HZW := Lib.hid HB.out.size
        have h100 := H100.out
        have hNl := HN.out
        clear ho hlr hr hbk h0_ h1_ hcd hn hkl
        go_wp2_with (first | (at_builtin; refine wpList_append_lie (w0 := wr) (x := (⟨x1, n, x2⟩ : RawS)) (N := wr.heap.size) rfl rfl _ _ 46 rfl w4.heap.size iC _ 24 Tryz.underlying46 hiC hzC hkC hbC (by omega) rfl (by omega) encS_len encS_one _ raws rfl rfl HO.out rfl (by have := HLR.out; omega) HZW.out ?_; intro v9 w9 y9; have Y9 := Lib.hid y9; clear y9) | fail)
        have HGN : Hid (GatC w4 l (k + 1) v9 w9) := Lib.hid ⟨⟨_, Y9.out.1, by rw [List.length_append, HLR.out]; rfl, fun i a b => by
          rw [List.length_append] at a
          by_cases hi : i < raws.length
          · rw [List.getElem_append_left hi]
            exact HR.out i hi b
          · have hk' : i = k := by have := HLR.out; simp at a; omega
            rw [List.getElem_append_right (by omega)]
            have e0 : i - raws.length = 0 := by have := HLR.out; omega
            simp only [e0, List.getElem_cons_zero]
            exact HCD.out i b hk'⟩, HB.out.trans Y9.out.2.1⟩
        clear Y9
        go_wp2
        go_roundw
        case measure => simp [intOf]; omega
        case rel => exact ⟨k + 1, by omega, by go_num, HGN.out⟩
      · obtain rfl : k = N := by omega
        have h5 : decide ((k : Int) < (k : Int)) = false := decide_eq_false (by omega)
        have h5' : ¬ (k : Int) < (k : Int) := by omega
        have hg := HG.out
        rw [← HN.out] at hg
        have HRD := Lib.hid hg.rd
        have B5 := Lib.hid (st B4.out HG.out.bw B4.out.size)
        clear hg HG hlt
        go_wp2_with fail
        refine (HTOT.out _ _ HRD.out).mono ?_
        rintro e w6 ⟨rfl, b6⟩
        have B6 := Lib.hid (st B5.out b6 B5.out.size)
        clear b6
        cases hx : firstR (l.map Prod.snd) 1 with
        | none =>
          rw [fT_none (HVB.out HVR.out) hx]
          have hR := HNO.out hx
          obtain rfl := hR.symm
          clear hR hx
          dsimp only
          go_wp2
          go_ret2
          exact ⟨rfl, B6.out⟩
        | some s =>
          rw [fT_some (HVB.out HVR.out) hx]
          have hR := HS.out s hx
          obtain rfl := hR.symm
          clear hR hx
          dsimp only
          go_wp2
          go_ret2
          exact ⟨rfl, B6.out⟩
  · have t1 : ((ofL c).toList == ([111, 116, 104, 101, 114] : List UInt8)) = false := by
      have := beqP c othN
      have e : (ofL othN).toList = ([111, 116, 104, 101, 114] : List UInt8) := by rw [ByteArray.toList_eq]; rfl
      rw [decide_eq_false hco, e] at this
      exact this
    have HHIT2 := Lib.hid (HHIT.out HVR.out hco)
    have HEND2 := Lib.hid (HEND.out hco)
    clear hco HHIT HEND HTOT HVB
    go_wp2_with fail
    go_loopw [15] (fun v15 wr => ∃ k : Nat, k ≤ N ∧ v15 = .int .i64 k ∧ (∀ i (h : i < l.length), i < k → (l[i]'h).1 = c → firstR [(l[i]'h).2] 0 = none) ∧ Below w4.heap.size w4 wr) (fun v15 _ => N - (intOf v15).toNat)
    case atStart => exact ⟨0, Nat.zero_le _, rfl, fun i h hi => by omega, Below.refl _ _⟩
    case round =>
      rename World => wr
      obtain ⟨k, hk, rfl, hall, hbw⟩ := hrel
      have HA := Lib.hid hall
      have HX := Lib.hid hbw
      clear hall hbw
      by_cases hlt : k < N
      · have t0 : decide ((k : Int) < (N : Int)) = true := decide_eq_true (by omega)
        have hkl : k < l.length := by rw [HN.out]; exact hlt
        obtain ⟨bk, off, x1, x2, rfl, hbk, h0, h1, hcd⟩ := (V4.out.below HX.out).at_ k hkl
        have HF := Lib.hid (HSAT.out k hkl _ _ hcd)
        have HVV := Lib.hid (HV1.out HVR.out k hkl)
        have HH := Lib.hid (fun e b => HHIT2.out k hkl e b)
        have HNX : Hid (((l[k]'hkl).1 = c → firstR [(l[k]'hkl).2] 0 = none) → ∀ i (h : i < l.length), i < k + 1 → (l[i]'h).1 = c → firstR [(l[i]'h).2] 0 = none) := Lib.hid (fun e i h hi => by
          rcases Nat.lt_or_ge i k with q | q
          · exact HA.out i h q
          · obtain rfl : i = k := by omega
            exact e)
        obtain ⟨Y, hY⟩ : ∃ Y, l[k]'hkl = Y := ⟨_, rfl⟩
        rw [hY] at h0 h1 HF HVV HH HNX
        obtain ⟨y, Yc⟩ := Y
        simp only at h0 h1 HF HVV HH HNX
        clear hY hcd hkl hbk
        by_cases hy : y = c
        · have t2 : ((ofL y).toList == (ofL c).toList) = true := by rw [beqP]; exact decide_eq_true hy
          have HY := Lib.hid hy
          clear hy
          go_wp2_with fail
          refine HF.out.mono ?_
          rintro e w6 ⟨rfl, b6⟩
          have B6 := Lib.hid (st HX.out b6 HX.out.size)
          have B7 := Lib.hid (st B4.out B6.out B4.out.size)
          clear b6
          cases hx : firstR [Yc] 0 with
          | none =>
            rw [fS_none HVV.out hx]
            have HN2 := Lib.hid (HNX.out (fun _ => hx))
            clear hx
            dsimp only
            go_wp2
            go_roundw
            case rel => exact ⟨k + 1, by omega, by go_num, HN2.out, B6.out⟩
            case measure => simp [intOf]; omega
          | some s =>
            rw [fS_some HVV.out hx]
            have hR := HS.out s (HH.out HY.out s hx)
            obtain rfl := hR.symm
            clear hR hx
            dsimp only
            go_wp2
            go_ret2
            exact ⟨rfl, B7.out⟩
        · have t2 : ((ofL y).toList == (ofL c).toList) = false := by rw [beqP]; exact decide_eq_false hy
          have HN2 := Lib.hid (HNX.out (fun e => absurd e hy))
          clear hy
          go_wp2
          go_roundw
          case rel => exact ⟨k + 1, by omega, by go_num, HN2.out, HX.out⟩
          case measure => simp [intOf]; omega
      · have t0 : decide ((k : Int) < (N : Int)) = false := decide_eq_false (by omega)
        have hR := HNO.out (HEND2.out (fun i h => HA.out i h (by have := HN.out; omega)))
        have B7 := Lib.hid (st B4.out HX.out B4.out.size)
        obtain rfl := hR.symm
        clear hR
        go_wp2
        go_ret2
        exact ⟨rfl, B7.out⟩
end Go.Proofs.YtmnclnpbmgomgaaGreatDoor


/- Of the reference of layer 14: Classes. -/
namespace Go.Proofs.YtmnclnpbmgomgaaGreatDoor
open Go.RowKit
set_option linter.unusedVariables false

theorem clssR_good {l : Rus} (h : VR l) (ho : ¬ Ov l) : clssR l = (ordN.filter (fun c => (exF l c).isSome), 0) := by
  unfold clssR
  rw [if_neg (fun k => k h), if_neg ho]
theorem ex_cases {l : Rus} (h : VR l) {c : Str} (hc : c ∈ ordN) : (exR l c = ([], 19) ∧ Ov l) ∨ (exR l c = ([], 8) ∧ ¬ Ov l ∧ exF l c = none) ∨ ∃ s, exR l c = (s, 0) ∧ ¬ Ov l ∧ exF l c = some s := by
  by_cases ho : Ov l
  · exact .inl ⟨exR_ov h hc ho, ho⟩
  · cases hx : exF l c with
    | none => exact .inr (.inl ⟨exR_none h hc ho hx, ho, rfl⟩)
    | some s => exact .inr (.inr ⟨s, exR_some h hc ho hx, ho, rfl⟩)
def fltN (l : Rus) (k : Nat) : List Str := (ordN.take k).filter (fun c => (exF l c).isSome)
theorem flt_yes {l : Rus} {k : Nat} (hk : k < ordN.length) {s : Str} (h : exF l (ordN[k]'hk) = some s) : fltN l (k + 1) = fltN l k ++ [ordN[k]'hk] := by
  unfold fltN
  rw [← List.take_append_getElem hk, List.filter_append, List.filter_cons, h]
  rfl
theorem flt_no {l : Rus} {k : Nat} (hk : k < ordN.length) (h : exF l (ordN[k]'hk) = none) : fltN l (k + 1) = fltN l k := by
  unfold fltN
  rw [← List.take_append_getElem hk, List.filter_append, List.filter_cons, h]
  simp
theorem flt_len (l : Rus) (k : Nat) : (fltN l k).length ≤ 6 := by
  unfold fltN
  exact Nat.le_trans (List.length_filter_le _ _) (by rw [List.length_take]; have : ordN.length = 6 := rfl; omega)
theorem orderS_any (w : World) : Calls Tryz.prog 45 #[] w fun e w' => ∃ a c, e = .returned (.slice a 6 c) ∧ (∀ k (hk : k < ordN.length), ∃ b off, a = some ⟨b, off, none⟩ ∧ w'.cell? ⟨b, off + k, none⟩ = some (.string (ofL (ordN[k]'hk)))) ∧ Below w.heap.size w w' := by
  refine (order14_any w).mono ?_
  rintro e w' ⟨v, rfl, r, b⟩
  obtain ⟨a, c, rfl, _⟩ := r.slice
  refine ⟨a, c, rfl, fun k hk => ?_, b⟩
  obtain ⟨bk, off, e, _, hx⟩ := r.some_ k hk
  have := hx 0 _ rfl
  rw [Nat.mul_one] at this
  exact ⟨bk, off, e, this⟩
set_option maxRecDepth 1000000 in
set_option maxHeartbeats 16000000 in
theorem refClss_any (v : Value) (l : Rus) (w : World) (hv : RdRus w v l) (hl : ∀ i (h : i < l.length), cnt (l[i]'h).2 ≤ 4611686018427387904) (h100 : l.length ≤ 100) : Calls Tryz.prog 17 #[v] w fun e w' => ∃ v', e = .returned (.tuple #[v', .int .i64 ((clssR l).2 : Nat)]) ∧ Rd 1 encT w' v' (clssR l).1 ∧ Below w.heap.size w w' := by
  obtain ⟨iT, hiT, hzT, hkT, hbT⟩ := info_parts Tryz.infoT
  have HBAD := Lib.hid (fun h : ¬ VR l => @clssR_bad l h)
  have HOV := Lib.hid (fun (h : VR l) (o : Ov l) => @clssR_ov l h o)
  have HGOOD : Hid (VR l → ¬ Ov l → clssR l = (fltN l 6, 0)) := Lib.hid (fun h o => clssR_good h o)
  obtain ⟨R, hR⟩ : ∃ R, clssR l = R := ⟨_, rfl⟩
  rw [hR] at HBAD HOV HGOOD ⊢
  have HVA := Lib.hid (fun w h => valid14_any v l w h hl)
  have HORD := Lib.hid orderS_any
  have HEX := Lib.hid (fun c w h => refEx_any v l c w h hl h100)
  have HCA := Lib.hid (fun (h : VR l) k (hk : k < ordN.length) => ex_cases h (c := ordN[k]'hk) (List.getElem_mem hk))
  have HFY := Lib.hid (fun k (hk : k < ordN.length) s => @flt_yes l k hk s)
  have HFN := Lib.hid (fun k (hk : k < ordN.length) => @flt_no l k hk)
  have HFL := Lib.hid (flt_len l)
  have HO6 : Hid (ordN.length = 6) := Lib.hid rfl
  have HV := Lib.hid hv
  obtain ⟨a, cp, rfl, h2, h3⟩ := hv.slice
  have HST : Hid (Own1 1 encT w w.heap.size 9 (.slice none 0 0) (fltN l 0)) := Lib.hid (own1_nil _ _ _)
  clear hv hl hR h100
  go_enter Tryz.func17, Tryz.ntmps17
  go_wp2_with fail
  refine (HVA.out _ HV.out).mono ?_
  rintro e w1 ⟨rfl, b1⟩
  have B1 := Lib.hid b1
  have z1 := b1.size
  clear b1
  by_cases hvr : VR l
  case neg =>
    have hR := HBAD.out hvr
    obtain rfl := hR.symm
    rw [decide_eq_false hvr]
    clear hvr hR
    go_wp2
    go_ret2
    exact ⟨_, rfl, rd_nil _, B1.out⟩
  rw [decide_eq_true hvr]
  have HVR := Lib.hid hvr
  have HS1 : Hid (Own1 1 encT w1 w.heap.size 9 (.slice none 0 0) (fltN l 0)) := Lib.hid (own1_nil _ _ _)
  clear hvr HBAD HST
  go_wp2_with fail
  go_loopw [4, 5] (fun v4 v5 wr => ∃ k : Nat, k ≤ 6 ∧ v5 = .int .i64 k ∧ Own1 1 encT wr w.heap.size 9 v4 (fltN l k) ∧ (k = 0 ∨ ¬ Ov l) ∧ Below w.heap.size w wr) (fun _ v5 _ => 6 - (intOf v5).toNat)
  case atStart => exact ⟨0, by omega, rfl, HS1.out, .inl rfl, B1.out⟩
  case round =>
    rename World => wr
    obtain ⟨k, hk, rfl, ho, hov, hb⟩ := hrel
    have HO := Lib.hid ho
    have HOO := Lib.hid hov
    have HB := Lib.hid hb
    clear ho hov hb HS1
    go_wp2_with fail
    refine (HORD.out _).mono ?_
    rintro e w2 ⟨a2, c2, rfl, g2, b2⟩
    have B2 := Lib.hid (st HB.out b2 HB.out.size)
    have O2 := Lib.hid (HO.out.below b2)
    clear b2 g2
    by_cases hlt : k < 6
    · have t0 : decide ((k : Int) < 6) = true := decide_eq_true (by omega)
      have t0' : decide (k < 6) = true := decide_eq_true hlt
      have hkl : k < ordN.length := by rw [HO6.out]; exact hlt
      go_wp2_with fail
      refine (HORD.out _).mono ?_
      rintro e w3 ⟨a3, c3, rfl, g3, b3⟩
      have B3 := Lib.hid (st B2.out b3 B2.out.size)
      have O3 := Lib.hid (O2.out.below b3)
      obtain ⟨bk, off, rfl, g0⟩ := g3 k hkl
      have HEK := Lib.hid (HEX.out (ordN[k]'hkl) _ (HV.out.below B3.out))
      have HCK := Lib.hid (HCA.out HVR.out k hkl)
      have HFY2 := Lib.hid (fun s => HFY.out k hkl s)
      have HFN2 := Lib.hid (HFN.out k hkl)
      have HGG : Hid (∀ (w' : World) (a : Option Addr), (∀ k (hk : k < ordN.length), ∃ b off, a = some ⟨b, off, none⟩ ∧ w'.cell? ⟨b, off + k, none⟩ = some (.string (ofL (ordN[k]'hk)))) → ∃ b off, a = some ⟨b, off, none⟩ ∧ w'.cell? ⟨b, off + k, none⟩ = some (.string (ofL (ordN[k]'hkl)))) := Lib.hid (fun w' a h => h k hkl)
      obtain ⟨c, hc⟩ : ∃ c, ordN[k]'hkl = c := ⟨_, rfl⟩
      rw [hc] at g0 HEK HCK HFY2 HFN2 HGG
      clear b3 g3 hc hkl
      go_wp2_with fail
      refine HEK.out.mono ?_
      rintro e w4 ⟨rfl, b4⟩
      have B4 := Lib.hid (st B3.out b4 B3.out.size)
      have O4 := Lib.hid (O3.out.below b4)
      have hck := HCK.out
      clear b4 g0
      rcases hck with ⟨hx, ho⟩ | ⟨hx, ho, hn⟩ | ⟨s, hx, ho, hn⟩
      · rw [hx]
        have hR := HOV.out HVR.out ho
        obtain rfl := hR.symm
        clear hR hx ho
        dsimp only
        go_wp2
        go_ret2
        exact ⟨_, rfl, rd_nil _, B4.out⟩
      · rw [hx]
        have HNX : Hid (k + 1 ≤ 6 ∧ Own1 1 encT w4 w.heap.size 9 u4 (fltN l (k + 1)) ∧ (k + 1 = 0 ∨ ¬ Ov l) ∧ Below w.heap.size w w4) := Lib.hid ⟨by omega, by rw [HFN2.out hn]; exact O4.out, .inr ho, B4.out⟩
        clear hx ho hn
        dsimp only
        go_wp2
        go_roundw
        case rel => exact ⟨k + 1, HNX.out.1, by go_num, HNX.out.2⟩
        case measure => simp [intOf]; omega
      · rw [hx]
        have HFS := Lib.hid (HFY2.out s hn)
        have HNO := Lib.hid ho
        have hlen := HFL.out k
        obtain ⟨a4, c4, rfl⟩ := O4.out.slice
        clear hx ho hn
        dsimp only
        go_wp2_with fail
        refine (HORD.out _).mono ?_
        rintro e w5 ⟨a5, c5, rfl, g5, b5⟩
        have B5 := Lib.hid (st B4.out b5 B4.out.size)
        have O5 := Lib.hid (O4.out.below b5)
        obtain ⟨bk5, off5, rfl, q0⟩ := HGG.out _ _ g5
        have z5 := B5.out.size
        clear b5 g5
        go_wp2_with (first | (at_builtin; refine wpList_append_lie (w0 := w5) (x := c) (N := w5.heap.size) rfl rfl _ _ 29 rfl w.heap.size iT _ 16 Tryz.underlying29 hiT hzT hkT hbT (by omega) rfl (by omega) encT_len encT_one _ (fltN l k) rfl rfl O5.out rfl (by omega) z5 ?_; intro v9 w9 y9; have Y9 := Lib.hid y9; clear y9) | fail)
        have HNX : Hid (k + 1 ≤ 6 ∧ Own1 1 encT w9 w.heap.size 9 v9 (fltN l (k + 1)) ∧ (k + 1 = 0 ∨ ¬ Ov l) ∧ Below w.heap.size w w9) := Lib.hid ⟨by omega, by rw [HFS.out]; exact Y9.out.1, .inr HNO.out, B5.out.trans Y9.out.2.1⟩
        go_wp2
        go_roundw
        case rel => exact ⟨k + 1, HNX.out.1, by go_num, HNX.out.2⟩
        case measure => simp [intOf]; omega
    · obtain rfl : k = 6 := by omega
      have hR := HGOOD.out HVR.out (by have := HOO.out; simpa using this)
      obtain rfl := hR.symm
      clear hR hlt
      go_wp2
      go_ret2
      exact ⟨_, rfl, O2.out.rd encT_len, B2.out⟩
end Go.Proofs.YtmnclnpbmgomgaaGreatDoor


/- The law of layer 14 on Classes. -/
namespace Go.Proofs.YtmnclnpbmgomgaaGreatDoor
open Go.RowKit
set_option linter.unusedVariables false

/-- What few rules hold (as for the law on Class). -/
theorem cnt14o {l : Rus} (h : RusR l) (h30 : ∀ i (hi : i < l.length), (l[i]'hi).2.length ≤ 30) : ∀ i (hi : i < l.length), cnt (l[i]'hi).2 ≤ 4611686018427387904 := fun i hi => by
  have key : ∀ c : Cnd, (∀ k ∈ c, k.length ≤ 140737488355328) → cnt c ≤ c.length * 140737488355328 := fun c => by
    induction c with
    | nil => intro _; exact Nat.zero_le _
    | cons k c ih =>
      intro hk
      rw [cnt_cons, List.length_cons, Nat.add_mul, Nat.one_mul]
      have h1 := hk k (by simp)
      have h2 := ih fun x hx => hk x (by simp [hx])
      omega
  have h1 := key _ (h i hi)
  have h2 := h30 i hi
  have : (l[i]'hi).2.length * 140737488355328 ≤ 30 * 140737488355328 := Nat.mul_le_mul_right _ h2
  omega
theorem rdT_cell {w : World} {a : Option Addr} {n c : Nat} {l : List Str} (h : Rd 1 encT w (.slice a n c) l) (k : Nat) (hk : k < l.length) : ∃ b off, a = some ⟨b, off, none⟩ ∧ w.cell? ⟨b, off + k, none⟩ = some (.string (ofL (l[k]'hk))) := by
  obtain ⟨bk, off, e, _, hx⟩ := h.some_ k hk
  have := hx 0 _ rfl
  rw [Nat.mul_one] at this
  exact ⟨bk, off, e, this⟩
section
variable {EV : World → Prop} (C : PlD EV)
include C
set_option maxRecDepth 1000000 in
set_option maxHeartbeats 8000000 in
theorem pluralClasses_walk (v : Value) (l : Rus) (w : World) (hv : RdRus w v l) (hr : RusR l) (E : EV w) : Calls Tryz.prog 4 #[v] w fun e w' => e = .returned (.bool true) ∧ Below w.heap.size w w' := by
  have HAW := Lib.hid (fun w E => awake14_any C.toPlC w E)
  have HFW := Lib.hid (fun w h => few14_any v l w h)
  have HL : Hid (∀ {w w' : World}, EV w → Below w.heap.size w w' → EV w') := Lib.hid C.later
  have HCS := Lib.hid (fun (h : l.length ≤ 10) w a E => C.classes v l w a hr h E)
  have HCR := Lib.hid (fun (h : l.length ≤ 10) (h30 : ∀ i (hi : i < l.length), (l[i]'hi).2.length ≤ 30) w a => refClss_any v l w a (cnt14o hr h30) (by omega))
  have E0 := Lib.hid E
  have HV := Lib.hid hv
  obtain ⟨a, c, rfl, h2, h3⟩ := hv.slice
  obtain ⟨cl, hcl⟩ : ∃ cl, clssR l = cl := ⟨_, rfl⟩
  rw [hcl] at HCS HCR
  obtain ⟨L, q⟩ := cl
  simp only at HCS HCR
  clear E hv hr hcl
  go_enter Tryz.func4, Tryz.ntmps4
  go_wp2_with fail
  refine (HAW.out _ E0.out).mono ?_
  rintro e w1 ⟨rfl, b1⟩
  have B1 := Lib.hid b1
  clear b1
  go_wp2_with fail
  refine (HFW.out _ (HV.out.below B1.out)).mono ?_
  rintro e w2 ⟨⟨fb, rfl, hfb⟩, hw2⟩
  obtain rfl := hw2.symm
  have HFB := Lib.hid hfb
  clear hw2 hfb
  cases fb with
  | false =>
    go_wp2_with fail
    refine (HAW.out _ (HL.out E0.out B1.out)).mono ?_
    rintro e w3 ⟨rfl, b3⟩
    have B3 := Lib.hid (st B1.out b3 B1.out.size)
    clear b3
    go_wp2
    go_ret
    exact ⟨rfl, B3.out⟩
  | true =>
  have HFF := Lib.hid (HFB.out rfl)
  have HA := Lib.hid (HCS.out HFF.out.1)
  have HB := Lib.hid (HCR.out HFF.out.1 HFF.out.2)
  clear HFB HCS HCR HFF
  go_wp2_with fail
  refine (HA.out _ (HV.out.below B1.out) (HL.out E0.out B1.out)).mono ?_
  rintro e w3 ⟨v3, rfl, o3, b3⟩
  have B3 := Lib.hid (st B1.out b3 B1.out.size)
  have R3 := Lib.hid (o3.rd encT_len)
  clear b3 o3
  go_wp2_with fail
  refine (HB.out _ (HV.out.below B3.out)).mono ?_
  rintro e w4 ⟨v4, rfl, r4, b4⟩
  have B4 := Lib.hid (st B3.out b4 B3.out.size)
  have R34 := Lib.hid (R3.out.below b4)
  have R4 := Lib.hid r4
  obtain ⟨a3, c3, rfl, _, _⟩ := R34.out.slice
  obtain ⟨a4, c4, rfl, _, _⟩ := r4.slice
  clear b4 r4 R3
  obtain ⟨n, hn⟩ : ∃ n, L.length = n := ⟨_, rfl⟩
  have HN := Lib.hid hn
  rw [hn] at R34 R4 ⊢
  have hn9 : n ≤ 9223372036854775807 := by omega
  clear hn
  have z1 : (((q : Nat) : Int) != ((q : Nat) : Int)) = false := by simp
  have z2 : (((n : Nat) : Int) != ((n : Nat) : Int)) = false := by simp
  go_wp2_with fail
  go_loopw [38] (fun v38 wx => ∃ k : Nat, k ≤ n ∧ v38 = .int .i64 k ∧ Below w4.heap.size w4 wx) (fun v38 _ => n - (intOf v38).toNat)
  case atStart => exact ⟨0, Nat.zero_le _, rfl, Below.refl _ _⟩
  case round =>
    rename World => wx
    obtain ⟨k, hk, rfl, hb⟩ := hrel
    have HX := Lib.hid hb
    clear hb
    by_cases hlt : k < n
    · have t0 : decide ((k : Int) < (n : Int)) = true := decide_eq_true (by omega)
      have hkl : k < L.length := by rw [HN.out]; exact hlt
      obtain ⟨b3, o3, rfl, g3⟩ := rdT_cell (R34.out.below HX.out) k hkl
      obtain ⟨b4, o4, rfl, g4⟩ := rdT_cell (R4.out.below HX.out) k hkl
      obtain ⟨y, hy⟩ : ∃ y, L[k]'hkl = y := ⟨_, rfl⟩
      rw [hy] at g3 g4
      have t1 := strP' y
      have t2 : ((ofL y).toList != (ofL y).toList) = false := by simp
      clear hy hkl
      go_wp2
      go_quiet (fail)
      go_wp2
      go_roundw
      case rel => exact ⟨k + 1, by omega, by go_num, below_drewN HX.out _⟩
      case measure => simp [intOf]; omega
    · have t0 : decide ((k : Int) < (n : Int)) = false := decide_eq_false (by omega)
      have t0' : decide (k < n) = false := decide_eq_false hlt
      have B5 := Lib.hid (st B4.out HX.out B4.out.size)
      clear hlt
      go_wp2
      go_ret
      exact ⟨rfl, B5.out⟩
end
end Go.Proofs.YtmnclnpbmgomgaaGreatDoor


/- The law of layer 14 on Example. -/
namespace Go.Proofs.YtmnclnpbmgomgaaGreatDoor
open Go.RowKit
set_option linter.unusedVariables false

theorem ex_isU {l : Rus} {c s : Str} (h : exR l c = (s, 0)) : isU s := by
  obtain ⟨hv, ho, hc, ⟨_, h⟩ | ⟨h, _⟩⟩ := exR_of h (.inl rfl)
  · exact ((exF_first hv ho hc).1 s h).1
  · cases h
section
variable {EV : World → Prop} (C : PlD EV)
include C
set_option maxRecDepth 1000000 in
set_option maxHeartbeats 8000000 in
theorem pluralExample_walk (v : Value) (l : Rus) (c s : Str) (hc : c.length ≤ 9223372036854775807) (hs : s.length ≤ 9223372036854775807) (w : World) (hv : RdRus w v l) (hr : RusR l) (E : EV w) : Calls Tryz.prog 7 #[v, .string (ofL c), .string (ofL s)] w fun e w' => e = .returned (.bool true) ∧ Below w.heap.size w w' := by
  have HAW := Lib.hid (fun w E => awake14_any C.toPlC w E)
  have HFW := Lib.hid (fun w h => few14_any v l w h)
  have HL : Hid (∀ {w w' : World}, EV w → Below w.heap.size w w' → EV w') := Lib.hid C.later
  have HEX := Lib.hid (fun (h : l.length ≤ 10) (k : c.length ≤ 60) w a E => C.example_ v l c w a hr h k E)
  have HER := Lib.hid (fun (h : l.length ≤ 10) (h30 : ∀ i (hi : i < l.length), (l[i]'hi).2.length ≤ 30) w a => refEx_any v l c w a (cnt14o hr h30) (by omega))
  have HCL := Lib.hid (fun (h : l.length ≤ 10) (T : Str) (k : T.length ≤ 9223372036854775807) w a E => C.class_ v l T w a hr h k E)
  have HUN := Lib.hid (fun w => unsigned_any (ofL s) (by rw [ofL_size]; exact hs) w)
  rw [show (ofL s).data.toList = s from rfl] at HUN
  have HEC := Lib.hid (fun x h => @ex_class l c x h)
  have HEU := Lib.hid (fun x h => @ex_isU l c x h)
  have HEF := Lib.hid (fun x e h he (ht : isU s) => @ex_front l c x s e h he ht)
  have HUI := Lib.hid (fun h : uns s = true => uns_iff.1 h)
  have HBE := Lib.hid (fun (t : Str) (h1 : isU s) (h2 : isU t) w => beforeR_any (ofL s) (ofL t) (isU_dp h1) (isU_dp h2) (by rw [ofL_size]; exact hs) (by rw [ofL_size]; have := isU_len h2; omega) w)
  have HCs := Lib.hid (fun (h : l.length ≤ 10) w a E => C.class_ v l s w a hr h hs E)
  have hzc : (ofL c).size = c.length := ofL_size c
  have E0 := Lib.hid E
  have HV := Lib.hid hv
  obtain ⟨a, cp, rfl, h2, h3⟩ := hv.slice
  obtain ⟨X, hX⟩ : ∃ X, exR l c = X := ⟨_, rfl⟩
  unfold ExP at HER
  rw [hX] at HEX HER HEC HEU HEF
  obtain ⟨x, q⟩ := X
  simp only at HEX HER
  clear E hv hr hX
  go_enter Tryz.func7, Tryz.ntmps7
  go_wp2_with fail
  refine (HAW.out _ E0.out).mono ?_
  rintro e w1 ⟨rfl, b1⟩
  have B1 := Lib.hid b1
  clear b1
  go_wp2_with fail
  refine (HFW.out _ (HV.out.below B1.out)).mono ?_
  rintro e w2 ⟨⟨fb, rfl, hfb⟩, hw2⟩
  obtain rfl := hw2.symm
  have HFB := Lib.hid hfb
  clear hw2 hfb
  cases fb with
  | false =>
    go_wp2_with fail
    refine (HAW.out _ (HL.out E0.out B1.out)).mono ?_
    rintro e w3 ⟨rfl, b3⟩
    have B3 := Lib.hid (st B1.out b3 B1.out.size)
    clear b3
    go_wp2
    go_ret
    exact ⟨rfl, B3.out⟩
  | true =>
  by_cases h1 : 60 < c.length
  · have k1 : decide ((60 : Int) < (c.length : Int)) = true := decide_eq_true (by omega)
    have k1' : decide (60 < c.length) = true := decide_eq_true h1
    clear h1
    go_wp2_with fail
    refine (HAW.out _ (HL.out E0.out B1.out)).mono ?_
    rintro e w3 ⟨rfl, b3⟩
    have B3 := Lib.hid (st B1.out b3 B1.out.size)
    clear b3
    go_wp2
    go_ret
    exact ⟨rfl, B3.out⟩
  have k1 : decide ((60 : Int) < (c.length : Int)) = false := decide_eq_false (by omega)
  have k1' : decide (60 < c.length) = false := decide_eq_false h1
  have HFF := Lib.hid (HFB.out rfl)
  have HA := Lib.hid (HEX.out HFF.out.1 (by omega))
  have HB := Lib.hid (HER.out HFF.out.1 HFF.out.2)
  have HCT := Lib.hid (HCL.out HFF.out.1)
  have HCS := Lib.hid (HCs.out HFF.out.1)
  clear h1 HFB HEX HER HFF HCL HCs
  go_wp2_with fail
  refine (HA.out _ (HV.out.below B1.out) (HL.out E0.out B1.out)).mono ?_
  rintro e w3 ⟨rfl, b3⟩
  have B3 := Lib.hid (st B1.out b3 B1.out.size)
  clear b3
  go_wp2_with fail
  refine (HB.out _ (HV.out.below B3.out)).mono ?_
  rintro e w4 ⟨rfl, b4⟩
  have B4 := Lib.hid (st B3.out b4 B3.out.size)
  clear b4
  have z1 : ((ofL x).toList != (ofL x).toList) = false := by simp
  have z1' := strP' x
  have z2 : (((q : Nat) : Int) != ((q : Nat) : Int)) = false := by simp
  obtain ⟨R, hR⟩ : ∃ R, classR l s = R := ⟨_, rfl⟩
  rw [hR] at HCS HEF
  obtain ⟨K, g⟩ := R
  simp only at HCS HEF
  clear hR
  by_cases hq : q = 0
  · subst hq
    have HEC0 := HEC.out x rfl
    have HA2 := Lib.hid (HCT.out x (by have := isU_len (HEU.out x rfl); omega))
    rw [HEC0] at HA2
    have HU := Lib.hid (HEU.out x rfl)
    have HF0 := Lib.hid (fun ht => HEF.out x 0 rfl (.inl rfl) ht)
    have y3 := strP' c
    have y4 : ((ofL c).toList != (ofL c).toList) = false := by simp
    clear HEC HEU HEF HEC0 HCT
    simp only at HA2
    go_wp2_with fail
    refine (HA2.out _ (HV.out.below B4.out) (HL.out E0.out B4.out)).mono ?_
    rintro e w5 ⟨rfl, b5⟩
    have B5 := Lib.hid (st B4.out b5 B4.out.size)
    clear b5
    go_wp2_with fail
    refine (HUN.out _).mono ?_
    rintro e w6 ⟨rfl, b6⟩
    have B6 := Lib.hid (st B5.out b6 B5.out.size)
    clear b6
    cases hu : uns s with
    | false =>
      clear hu
      go_wp2
      go_ret
      exact ⟨rfl, B6.out⟩
    | true =>
    have HIU := Lib.hid (HUI.out hu)
    have HFX := Lib.hid (HF0.out HIU.out)
    obtain ⟨hg, hk⟩ := HFX.out
    obtain rfl : g = 0 := hg
    clear hu HFX HF0
    go_wp2_with fail
    refine (HCS.out _ (HV.out.below B6.out) (HL.out E0.out B6.out)).mono ?_
    rintro e w7 ⟨rfl, b7⟩
    have B7 := Lib.hid (st B6.out b7 B6.out.size)
    clear b7
    by_cases hkc : K = c
    · have t1 : ((ofL K).toList != (ofL c).toList) = false := by rw [hkc]; simp
      have t2 : ((ofL K).toList == (ofL c).toList) = true := by rw [hkc]; exact strP' c
      have HBX : Hid (befB s x = false) := Lib.hid (by
        rcases hk with h | h
        · exact absurd hkc h
        · exact h.2)
      have HBB := Lib.hid (fun w => HBE.out x HIU.out HU.out w)
      rw [show (ofL s).data.toList = s from rfl, show (ofL x).data.toList = x from rfl, HBX.out] at HBB
      clear hk hkc HBE
      go_wp2_with fail
      refine (HBB.out _).mono ?_
      rintro e w8 ⟨rfl, b8⟩
      have B8 := Lib.hid (st B7.out b8 B7.out.size)
      clear b8
      go_wp2
      go_ret
      exact ⟨rfl, B8.out⟩
    · have t2 : ((ofL K).toList == (ofL c).toList) = false := by rw [beqP]; exact decide_eq_false hkc
      have t1 : ((ofL K).toList != (ofL c).toList) = true := by rw [bne, t2]; rfl
      clear hk hkc
      go_wp2
      go_ret
      exact ⟨rfl, B7.out⟩
  have y1 : (((q : Nat) : Int) == 0) = false := by rw [beq_eq_false_iff_ne]; omega
  have y2 : (((q : Nat) : Int) != 0) = true := by rw [bne_iff_ne]; omega
  by_cases h8 : q = 8
  · subst h8
    have HF0 := Lib.hid (fun ht => HEF.out x 8 rfl (.inr rfl) ht)
    clear HEC HEU HEF HCT hq
    go_wp2_with fail
    refine (HUN.out _).mono ?_
    rintro e w6 ⟨rfl, b6⟩
    have B6 := Lib.hid (st B4.out b6 B4.out.size)
    clear b6
    cases hu : uns s with
    | false =>
      clear hu
      go_wp2
      go_ret
      exact ⟨rfl, B6.out⟩
    | true =>
    have HFX := Lib.hid (HF0.out (HUI.out hu))
    obtain ⟨hg, hk⟩ := HFX.out
    obtain rfl : g = 0 := hg
    have hkc : ¬ K = c := by
      rcases hk with h | h
      · exact h
      · exact absurd h.1 (by decide)
    have t2 : ((ofL K).toList == (ofL c).toList) = false := by rw [beqP]; exact decide_eq_false hkc
    have t1 : ((ofL K).toList != (ofL c).toList) = true := by rw [bne, t2]; rfl
    clear hu HFX HF0 hk hkc
    go_wp2_with fail
    refine (HCS.out _ (HV.out.below B6.out) (HL.out E0.out B6.out)).mono ?_
    rintro e w7 ⟨rfl, b7⟩
    have B7 := Lib.hid (st B6.out b7 B6.out.size)
    clear b7
    go_wp2
    go_ret
    exact ⟨rfl, B7.out⟩
  have y3 : (((q : Nat) : Int) != 8) = true := by rw [bne_iff_ne]; omega
  clear hq h8
  go_wp2
  go_ret
  exact ⟨rfl, B4.out⟩
end
end Go.Proofs.YtmnclnpbmgomgaaGreatDoor


