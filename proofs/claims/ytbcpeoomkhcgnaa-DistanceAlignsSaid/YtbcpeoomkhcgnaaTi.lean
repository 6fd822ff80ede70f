/- distance.Align: the walk. -/
import Derived.Test.YtbcpeoomkhcgnaaTj
namespace Go.Proofs.Ytbcpeoomkhcgnaa
open Go.RowKit Go.Shelf
set_option linter.unusedVariables false
attribute [local go_sem] Oper.semAt_some

theorem own_app {P : Program} {α : Type} {k : Nat} {enc : α → List Value} {w : World} {base : Nat} {e : TypeId} {v : Value} {l : List α} (t ty : TypeId) {i : TypeInfo} {z : Value} {by_ : Nat} (ht : P.underlying t = some (.slice e)) (hi : P.info? e = some i) (hz : i.zero = some z)
    (hsize : i.size = k) (hby : i.bytes = by_) (hb64 : by_ ≤ 64) (hzs : z.cells.size = k) (hk0 : 0 < k) (hk : ∀ x : α, (enc x).length = k) (hown : Own1 k enc w base e v l) (r : List α) (h1 : ∀ x ∈ r, ∀ u ∈ enc x, u.oneCell' = true)
    (ad : Addr) (c : Nat) (hnews : ∀ j u, (r.flatMap enc)[j]? = some u → w.cell? (ad.add j) = some u) (hl : l.length + r.length ≤ 1000000000) (hbase : base ≤ w.heap.size) :
    ∃ v' w', (Builtin.append_ #[t, t] ty #[v, .slice (some ad) r.length c]).run P w = .ok v' w' ∧ Own1 k enc w' base e v' (l ++ r) ∧ w.grownBy w' v.ownBlock := by
  obtain ⟨v', w', hr, h2, h3, _⟩ := run_append_own (P := P) w base t ty e i z k by_ ht hi hz hsize hby hzs hk0 v l.length (l.flatMap enc) hown ad r.length c (r.flatMap enc) (flat_len hk r) hnews
    (fun u hu => by obtain ⟨x, hx, hxu⟩ := List.mem_flatMap.1 hu; exact h1 x hx u hxu) (by unfold maxLen; omega) (Nat.le_trans (Nat.mul_le_mul_left _ hb64) (by omega)) hbase
  refine ⟨v', w', hr, ?_, h3⟩
  unfold Own1
  rw [List.flatMap_append, List.length_append]
  exact h2
theorem row_flat (a b : List Str) (p : Nat) : ∀ j u, ((rowL a b p).flatMap encI)[j]? = some u → j ≤ b.length ∧ u = .int .i64 (D a b p j : Int) := by
  intro j u h
  obtain ⟨i, x, jj, h1, h2, h3⟩ := flat_inv (k := 1) encI_len (rowL a b p) j u h
  have hi : i ≤ b.length := by have := (List.getElem?_eq_some_iff.1 h1).1; rw [rowL_len] at this; omega
  have hj0 : jj = 0 := by have := (List.getElem?_eq_some_iff.1 h2).1; rw [encI_len] at this; omega
  subst hj0
  rw [rowL_get hi] at h1
  cases h1
  simp [encI] at h2
  rw [Nat.mul_one, Nat.add_zero] at h3
  subst h3
  exact ⟨hi, h2.symm⟩
/-- A row more: what the two appends do. -/
theorem table_step {w : World} {a b : List Str} {p x : Nat} {W : World} (h : AlI w a b p W) (hx : x = w.heap.size + 5 ∨ x = w.heap.size + 6) (hY : RowY a b p x W) (hp : p ≤ a.length) (hla : a.length ≤ 400) (hlb : b.length ≤ 400) (hz : w.heap.size + 7 ≤ W.heap.size) :
    ∃ v v1 W1 v2 W3, ((∃ a0 c0, v = .slice a0 p c0) ∧ (∃ a1 c1, v1 = .slice a1 (b.length + 1) c1) ∧ (∃ a2 c2, v2 = .slice a2 (p + 1) c2)) ∧ Blk w.heap.size 51 #[v] W ∧ (Builtin.append_ #[50, 50] 50 #[.slice none 0 0, .slice (some ⟨x, 0, none⟩) (b.length + 1) (b.length + 1)]).run Try.prog W = .ok v1 W1 ∧
      (Builtin.append_ #[51, 51] 51 #[v, .slice (some ⟨W1.heap.size, 0, none⟩) 1 1]).run Try.prog (W1.alloc (.cells #[v1] 50)) = .ok v2 W3 ∧
      Blk w.heap.size 51 #[v] W1 ∧ Blk w.heap.size 51 #[v] (W1.alloc (.cells #[v1] 50)) ∧ Blk w.heap.size 51 #[v] W3 ∧ Bt (w.heap.size + 7) w.heap.size W W3 ∧ KeepsOthers W W3 ∧ AlI w a b (p + 1) (W3.setCell ⟨w.heap.size, 0, none⟩ v2) := by
  obtain ⟨⟨v, vs, h1, h2, h3, h4⟩, h5⟩ := h
  obtain ⟨ds, r1, r2, r3⟩ := hY
  obtain ⟨iI, hiI, hzI, hkI, hbI⟩ := info_parts Try.infoIn
  obtain ⟨iS, hiS, hzS, hkS, hbS⟩ := info_parts Try.infoSl
  have hB7 : w.heap.size + 7 ≤ W.heap.size := hz
  obtain ⟨v1, W1, e1, o1, g1⟩ := own_app (P := Try.prog) (w := W) (base := w.heap.size + 7) (e := 3) (v := .slice none 0 0) (l := []) (enc := encI) 50 50 Try.underlying50 hiI hzI hkI hbI (by omega) rfl (by omega) encI_len (own1_nil _ _ _) (rowL a b p) (fun x _ => encI_one x) ⟨x, 0, none⟩ (b.length + 1)
    (fun j u hj => by obtain ⟨q1, rfl⟩ := row_flat a b p j u hj; rw [add_off, r1.cell, Nat.zero_add]; exact r3 j q1) (by rw [rowL_len]; simp; omega) hB7
  rw [rowL_len] at e1
  rw [List.nil_append] at o1
  have b1 : Below W.heap.size W W1 := (Below.refl W.heap.size W).grown g1 (Nat.le_refl _) (fun k e => by cases e)
  obtain ⟨c1, cc1, hv1⟩ := o1.slice
  have bW2 : Below W.heap.size W (W1.alloc (.cells #[v1] 50)) := b1.alloc b1.size _
  have h2' := own_below h2 bW2
  obtain ⟨v2, W3, e2, o2, g2⟩ := own_app (P := Try.prog) (w := W1.alloc (.cells #[v1] 50)) (base := w.heap.size + 7) (e := 50) (v := v) (l := vs) (enc := encV) 51 51 Try.underlying51 hiS hzS hkS hbS (by omega) rfl (by omega) encV_len h2' [v1] (fun x hx => by simp at hx; subst hx; rw [hv1]; exact encV_one rfl) ⟨W1.heap.size, 0, none⟩ 1
    (fun j u hj => by
      have hj' : (#[v1] : Array Value).toList[j]? = some u := by simpa [encV] using hj
      exact cells_new W1 #[v1] 50 j u hj') (by simp; omega) (by have := bW2.size; omega)
  have n1 : v.ownBlock ≠ some w.heap.size := by
    intro e
    have := (own_blk h2 _ e).1
    omega
  have k1 : Blk w.heap.size 51 #[v] W1 := h1.below b1
  have k2 : Blk w.heap.size 51 #[v] (W1.alloc (.cells #[v1] 50)) := k1.alloc _
  have k3 : Blk w.heap.size 51 #[v] W3 := (g2.block _ k2.lt (fun e => n1 e.symm)).trans k2
  have b3 : Below (w.heap.size + 7) (W1.alloc (.cells #[v1] 50)) W3 := (Below.refl _ _).grown g2 (by have := bW2.size; omega) (fun k e => (own_blk h2' k e).1)
  have b4 : Below (w.heap.size + 7) W W3 := (bW2.mono hB7).trans b3
  have ko : KeepsOthers W W3 := ((KeepsOthers.of_grownBy g1 (fun j o e _ => by cases e)).trans (KeepsOthers.alloc _ _)).trans (KeepsOthers.of_grownBy g2 (fun j o e hj => by
    obtain ⟨_, cs, hb⟩ := own_blk h2' j e
    rw [show _ = _ from hb] at hj
    cases hj
    rfl))
  have hs0 := h2.slice
  have hs2 := o2.slice
  rw [h3] at hs0
  rw [List.length_append, h3] at hs2
  rw [rowL_len] at hv1
  refine ⟨v, v1, W1, v2, W3, ⟨hs0, ⟨_, _, hv1⟩, hs2⟩, h1, e1, e2, k1, k2, k3, Bt.of_below b4, ko, ⟨⟨v2, vs ++ [v1], k3.put 0 v2, ?_, by rw [List.length_append, h3]; rfl, fun q u hq => ?_⟩, ?_⟩⟩
  · exact own_far o2 (fun g hg => Below.heap_setCell _ _ _ _ (by show g ≠ w.heap.size; omega))
  · have far : ∀ {u : Value} {l : List Int}, Own1 1 encI W3 (w.heap.size + 7) 3 u l → Own1 1 encI (W3.setCell ⟨w.heap.size, 0, none⟩ v2) (w.heap.size + 7) 3 u l := fun h => own_far h (fun g hg => Below.heap_setCell _ _ _ _ (by show g ≠ w.heap.size; omega))
    have up : ∀ {u : Value} {l : List Int}, Own1 1 encI (W1.alloc (.cells #[v1] 50)) (w.heap.size + 7) 3 u l → Own1 1 encI W3 (w.heap.size + 7) 3 u l := fun h => own_grown h g2 (own_apart h h2' (by decide))
    rcases Nat.lt_or_ge q vs.length with hl | hl
    · rw [List.getElem?_append_left hl] at hq
      exact far (up (own_below (h4 q u hq) bW2))
    · have hq0 : q = vs.length := by have := (List.getElem?_eq_some_iff.1 hq).1; rw [List.length_append, List.length_singleton] at this; omega
      subst hq0
      rw [List.getElem?_append_right (Nat.le_refl _), Nat.sub_self] at hq
      cases hq
      rw [h3]
      exact far (up (own_below o1 ((Below.refl _ W1).alloc (Nat.le_refl _) _)))
  · exact ((h5.trans (b4.mono (by omega))).setCell (p := ⟨w.heap.size, 0, none⟩) (Nat.le_refl _) _)
theorem stepIn_append {F : Fence} {n : Nat} {P : Program} {ops : Array Oper} {o : Oper} {a : Act} {w w' : World} {K : Act → World → Prop} {Q : Exit → Act → World → Prop} {E : Prop} {v u v' : Value} (hgd : o.guard = none) (s y : Operand) (t : TypeId)
    (ho : o.op = .call { callee := .builtin .append, args := #[s, y], argTypes := #[t, t] }) (hs : a.eval s = v) (hy : a.eval y = u) (e : (Builtin.append_ #[t, t] o.type #[v, u]).run P w = .ok v' w') (h : K (a.put o.dst v') w') :
    if Region.wanted o (yielded ops a.tmps) = true then o.wpIn F n P a w K Q else E := by
  have hw : Region.wanted o (yielded ops a.tmps) = true := by simp [Region.wanted, hgd]
  rw [if_pos hw]
  unfold Oper.wpIn
  refine ⟨fun f hf => ?_, ?_⟩
  · unfold Oper.about at hf
    rw [ho] at hf
    simp [resolve, Target.leads, Sem.run_pure] at hf
  · rw [Oper.semAt_eq _ _ _ (fun c hc => by rw [ho] at hc; cases hc)]
    unfold execOp
    simp only [ho, resolve, invoke, builtin, Sem.run_bind, Sem.run_pure, Result.andThen_ok, List.map_toArray, List.map_cons, List.map_nil, hs, hy, e]
    exact h
theorem AlI.below {w : World} {a b : List Str} {p : Nat} {A B : World} (h : AlI w a b p A) (k : Below A.heap.size A B) : AlI w a b p B := h.two (Two.of_below k)
theorem RowY.below {a b : List Str} {p x : Nat} {A B : World} (h : RowY a b p x A) (k : Below A.heap.size A B) : RowY a b p x B := by
  obtain ⟨ds, r1, r2, r3⟩ := h
  exact ⟨ds, r1.below k, r2, r3⟩
/-- The whole table. -/
theorem tab_of {w W : World} {a b : List Str} (h : AlI w a b (a.length + 1) W) : ∃ gt ct, Blk w.heap.size 51 #[.slice (some ⟨gt, 0, none⟩) (a.length + 1) ct] W ∧
    ∀ wx, Below W.heap.size W wx → ∀ i, i ≤ a.length → ∃ gi ci, wx.cell? ⟨gt, i, none⟩ = some (.slice (some ⟨gi, 0, none⟩) (b.length + 1) ci) ∧ ∀ j, j ≤ b.length → wx.cell? ⟨gi, j, none⟩ = some (.int .i64 (D a b i j : Int)) := by
  obtain ⟨⟨v, vs, h1, h2, h3, h4⟩, h5⟩ := h
  rcases h2.2 with ⟨rfl, h0⟩ | ⟨gt, ct, cur, rfl, hB, hg, hr⟩
  · omega
  · rw [h3] at h1
    refine ⟨gt, ct, h1, fun wx hb i hi => ?_⟩
    have hu := List.getElem?_eq_getElem (l := vs) (show i < vs.length by omega)
    have o := h4 i _ hu
    have R := (h2.rd encV_len).below hb
    have c := R.at_ i (by omega) 0 _ rfl
    rcases o.2 with ⟨_, h0⟩ | ⟨gi, ci, cur2, hv2, hB2, hg2, hr2⟩
    · rw [rowL_len] at h0; omega
    · refine ⟨gi, ci, ?_, fun j hj => ?_⟩
      · rw [hv2, rowL_len] at c
        simpa using c
      · have o' := o
        rw [hv2] at o'
        have R2 := (o'.rd encI_len).below hb
        have c2 := R2.at_ j (by rw [rowL_len]; omega) 0 _ rfl
        have e := rowL_get (a := a) (b := b) (p := i) hj
        rw [List.getElem?_eq_getElem (by rw [rowL_len]; omega)] at e
        injection e with e
        rw [e] at c2
        simpa using c2
set_option maxRecDepth 1000000 in
set_option maxHeartbeats 4000000 in
theorem align_any (va vb : Value) (a b : List Str) (w : World) (ha : Rd 1 encT w va a) (hb : Rd 1 encT w vb b) (hla : a.length ≤ 400) (hlb : b.length ≤ 400) :
    Calls Try.prog 18 #[va, vb] w fun e w' => (∃ v, e = .returned v ∧ Own1 2 encP w' w.heap.size 37 v (tr a b a.length b.length).reverse) ∧ Below w.heap.size w w' := by
  obtain ⟨aa, ca, rfl, hca, hca2⟩ := ha.slice
  obtain ⟨ab, cb, rfl, hcb, hcb2⟩ := hb.slice
  have HA := Lib.hid ha
  have HB := Lib.hid hb
  clear ha hb hca hca2 hcb hcb2
  refine (callsIn_wide (n := 6)).1 ?_
  have hf : Fence.wide.fn 18 := trivial
  have hf2 : Fence.wide.fn 27 := trivial
  have hf3 : Fence.wide.fn 28 := trivial
  have hf4 : Fence.wide.fn 34 := trivial
  have hf5 : Fence.wide.fn 29 := trivial
  have hf6 : Fence.wide.fn 30 := trivial
  have hro : Fence.wide.round = none := rfl
  refine callsIn_of_wp_marks Try.func18 rfl hf ?_ hro
  simp only [Try.ntmps18, List.size_toArray, List.length_cons, List.length_nil, Nat.reduceAdd, Nat.reduceSub, Array.replicate_succ, Array.replicate_zero, List.push_toArray, List.append_toArray, List.nil_append, List.cons_append]
  gi_wp2_with fail
  refine (callsIn_wide.2 (isLong_no aa a.length ca hla _)).mono ?_
  rintro e w' ⟨rfl, hw'⟩
  obtain rfl := hw'.symm
  gi_wp2_with fail
  refine (callsIn_wide.2 (isLong_no ab b.length cb hlb _)).mono ?_
  rintro e w' ⟨rfl, hw''⟩
  obtain rfl := hw''.symm
  gi_wp2_with fail
  refine (callsIn_wide.2 (rows_any aa ab a.length b.length ca cb _)).mono ?_
  rintro e w' ⟨rfl, rfl⟩
  gi_wp2_with fail
  obtain ⟨W0, hW0⟩ : ∃ W0, ((w.alloc (.cells #[.slice none 0 0] 51)).alloc (.cells #[.slice aa a.length ca] 23)).alloc (.cells #[.slice ab b.length cb] 23) = W0 := ⟨_, rfl⟩
  have z0 : W0.heap.size = w.heap.size + 3 := by rw [← hW0]; simp
  have kb : Below w.heap.size w W0 := by rw [← hW0]; exact (((Below.refl _ w).alloc (Nat.le_refl _) _).alloc (by simp) _).alloc (by simp; omega) _
  have k0 : Blk w.heap.size 51 #[.slice none 0 0] W0 := by rw [← hW0]; exact ((Blk.new w _ _).alloc _).alloc _
  have k2 : Blk (w.heap.size + 1) 23 #[.slice aa a.length ca] W0 := by
    rw [← hW0]
    have := Blk.new (w.alloc (.cells #[.slice none 0 0] 51)) 23 #[.slice aa a.length ca]
    rw [World.size_alloc] at this
    exact this.alloc _
  have k3 : Blk (w.heap.size + 1 + 1) 23 #[.slice ab b.length cb] W0 := by
    rw [← hW0]
    have := Blk.new ((w.alloc (.cells #[.slice none 0 0] 51)).alloc (.cells #[.slice aa a.length ca] 23)) 23 #[.slice ab b.length cb]
    rw [World.size_alloc, World.size_alloc] at this
    exact this
  rw [hW0]
  have own3 : OwnFrom W0.heap.size (AlI w a b) := by rw [z0]; exact AlI.own
  refine wpIn_rows (m := b.length + 1) (N := a.length) (C := w.heap.size) hro (by omega) (gf := 34) (lb := #[.pointer (some ⟨w.heap.size + 1 + 1, 0, none⟩), .pointer (some ⟨w.heap.size + 1, 0, none⟩)]) rfl hf4 (enters_of Try.func34 (by kernel_rfl) rfl)
    (RowY a b) (rowY_obj a b) ?seq rfl (AlI w a b) ?st own3 ⟨⟨_, [], k0, own1_nil _ _ _, rfl, fun q u hq => by simp at hq⟩, kb⟩ ?round ?done
  case seq =>
    intro W hbW hzW
    refine rows1_in _ (by omega) w.heap.size (w.heap.size + 1) (w.heap.size + 1 + 1) aa ca ab cb a b hla hlb W (by omega) ?_
    exact ⟨k2.below hbW, k3.below hbW, (HA.out.below kb).below hbW, (HB.out.below kb).below hbW, by omega, by omega, fun hl x e => by have := rd_lt HA.out hl x e; omega, fun hl x e => by have := rd_lt HB.out hl x e; omega⟩
  case st =>
    intro p A B h k
    rw [z0] at k
    exact h.two k
  case round =>
    apply Exists.intro
    apply And.intro
    · intro l x W K hK
      gi_wp2
      exact hK
    · intro l p x W hI hx hR hp hz
      rw [z0] at hx hz
      have bd : Below W.heap.size W W.drew := (Below.refl _ W).drew
      obtain ⟨v, v1, W1, v2, W3, ⟨⟨a0, c0, rfl⟩, ⟨a1, c1, rfl⟩, ⟨a2, c2, rfl⟩⟩, h1, e1, e2, k1, k2', k3', b4, ko, hN⟩ := table_step (hI.below bd) (by omega) (hR.below bd) hp hla hlb (by show w.heap.size + 7 ≤ W.heap.size; omega)
      have q0 : W.drew.cell? ⟨w.heap.size, 0, none⟩ = some (.slice a0 p c0) := h1.cell 0
      have q1 := k1.cell 0
      have q2 := k2'.cell 0
      have q3 := k3'.cell 0
      have f3 := k3'.frozen 0
      have HN := Lib.hid hN
      have HB4 := Lib.hid b4
      have HKO := Lib.hid ko
      clear hI hR hN b4 ko h1 k1 k2' k3' k0 k2 k3 kb hW0 own3
      gi_wp2
      refine wpIn_region_any (by kernel_rfl) (any_round l hro (noDefer_spec (by kernel_rfl)) _ _ _ _ ?_)
      change wpAnyIn _ _ _ _ _ _ _ _ _ W.drew
      refine wpAnyIn_take (i := 1) (v := .slice (some ⟨x, 0, none⟩) (b.length + 1) (b.length + 1)) hro rfl (by kernel_rfl) (by kernel_rfl) (by kernel_rfl) (fun _ _ _ h => h) ⟨Or.inl ⟨by rfl, fun w => by rfl⟩, fun _ => rfl⟩ ?_
      have FIN : goesOn W0.heap.size (W0.heap.size + 2) w.heap.size (AlI w a b (p + 1)) W .normal { tmps := #[], defers := [] } (W3.setCell ⟨w.heap.size, 0, none⟩ (.slice a2 (p + 1) c2)) := by
        refine ⟨(((keeps_drewN W 1).trans HKO.out).trans (KeepsOthers.setCell _ _ _)).from _, ?_, HN.out⟩
        exact KpS.of_bt (((Bt.of_below (bd.mono (show w.heap.size + 7 ≤ W.heap.size by omega))).trans HB4.out).trans (Bt.setCell _ _ _ _ _)) (by omega)
      refine wpAnyIn_ready (rs := [0, 2]) (by kernel_rfl) (by simp) ?_
      refine AllReadyIn.cons rfl (fun K hK => ?_) (AllReadyIn.cons rfl (fun K hK => ?_) AllReadyIn.nil)
      · go_simp
        refine hK _ _ ?_
        clear hK K
        refine wpAnyIn_ready (rs := [2]) (by kernel_rfl) (by simp) ?_
        refine AllReadyIn.cons rfl (fun K hK => ?_) AllReadyIn.nil
        refine stepIn_append rfl _ _ 50 rfl rfl rfl e1 ?_
        refine hK _ _ ?_
        clear hK K
        refine wpAnyIn_ready (rs := [3]) (by kernel_rfl) (by simp) ?_
        refine AllReadyIn.cons rfl (fun K hK => ?_) AllReadyIn.nil
        go_simp
        refine hK _ _ ?_
        clear hK K
        refine wpAnyIn_ready (rs := [4]) (by kernel_rfl) (by simp) ?_
        refine AllReadyIn.cons rfl (fun K hK => ?_) AllReadyIn.nil
        refine stepIn_append rfl _ _ 51 rfl rfl rfl e2 ?_
        refine hK _ _ ?_
        clear hK K
        refine wpAnyIn_ready (rs := [5]) (by kernel_rfl) (by simp) ?_
        refine AllReadyIn.cons rfl (fun K hK => ?_) AllReadyIn.nil
        go_simp
        refine hK _ _ ?_
        clear hK K
        refine wpAnyIn_done (by kernel_rfl) ?_ _
        exact FIN
      · refine stepIn_append rfl _ _ 50 rfl rfl rfl e1 ?_
        refine hK _ _ ?_
        clear hK K
        refine wpAnyIn_ready (rs := [0, 3]) (by kernel_rfl) (by simp) ?_
        refine AllReadyIn.cons rfl (fun K hK => ?_) (AllReadyIn.cons rfl (fun K hK => ?_) AllReadyIn.nil)
        · go_simp
          refine hK _ _ ?_
          clear hK K
          refine wpAnyIn_ready (rs := [3]) (by kernel_rfl) (by simp) ?_
          refine AllReadyIn.cons rfl (fun K hK => ?_) AllReadyIn.nil
          go_simp
          refine hK _ _ ?_
          clear hK K
          refine wpAnyIn_ready (rs := [4]) (by kernel_rfl) (by simp) ?_
          refine AllReadyIn.cons rfl (fun K hK => ?_) AllReadyIn.nil
          refine stepIn_append rfl _ _ 51 rfl rfl rfl e2 ?_
          refine hK _ _ ?_
          clear hK K
          refine wpAnyIn_ready (rs := [5]) (by kernel_rfl) (by simp) ?_
          refine AllReadyIn.cons rfl (fun K hK => ?_) AllReadyIn.nil
          go_simp
          refine hK _ _ ?_
          clear hK K
          refine wpAnyIn_done (by kernel_rfl) ?_ _
          exact FIN
        · go_simp
          refine hK _ _ ?_
          clear hK K
          refine wpAnyIn_ready (rs := [0]) (by kernel_rfl) (by simp) ?_
          refine AllReadyIn.cons rfl (fun K hK => ?_) AllReadyIn.nil
          go_simp
          refine hK _ _ ?_
          clear hK K
          refine wpAnyIn_ready (rs := [4]) (by kernel_rfl) (by simp) ?_
          refine AllReadyIn.cons rfl (fun K hK => ?_) AllReadyIn.nil
          refine stepIn_append rfl _ _ 51 rfl rfl rfl e2 ?_
          refine hK _ _ ?_
          clear hK K
          refine wpAnyIn_ready (rs := [5]) (by kernel_rfl) (by simp) ?_
          refine AllReadyIn.cons rfl (fun K hK => ?_) AllReadyIn.nil
          go_simp
          refine hK _ _ ?_
          clear hK K
          refine wpAnyIn_done (by kernel_rfl) ?_ _
          exact FIN
  case done =>
    intro Dk W hD hI hK
    obtain ⟨gt, ct, kt, tab⟩ := tab_of hI
    have HTAB := Lib.hid tab
    have HKT := Lib.hid kt
    have HBW := Lib.hid hI.bel
    have HK := Lib.hid hK
    have zD : Dk < W.heap.size := (Array.getElem?_eq_some_iff.1 hK).1
    have zW := hI.bel.size
    clear tab kt hI hK k0 k2 k3 kb hW0 own3
    obtain ⟨iI, hiI, hzI, hkI, hbI⟩ := info_parts Try.infoSt
    gi_wp2_with fail
    refine wpIn_wide.2 ?_
    go_loopw [7, 8, 9] (fun v7 v8 v9 wr => ∃ (i j : Nat) (L : List (Int × Int)), i ≤ a.length ∧ j ≤ b.length ∧ v8 = .int .i64 i ∧ v9 = .int .i64 j ∧ Own1 2 encP wr W.heap.size 37 v7 L ∧ L ++ tr a b i j = tr a b a.length b.length ∧ Below W.heap.size W wr) (fun _ v8 v9 _ => (intOf v8).toNat + (intOf v9).toNat)
    case atStart => exact ⟨a.length, b.length, [], Nat.le_refl _, Nat.le_refl _, rfl, rfl, own1_nil _ _ _, rfl, Below.refl _ _⟩
    case round =>
      obtain ⟨i, j, L, hi, hj, rfl, rfl, hown, hL, hbw⟩ := hrel
      have HO := Lib.hid hown
      have HL := Lib.hid hL
      have HB1 := Lib.hid hbw
      have BW := HBW.out.trans (hbw.mono zW)
      have A1 := HA.out.below BW
      have B1 := HB.out.below BW
      have ct1 : wr.cell? ⟨w.heap.size, 0, none⟩ = some (.slice (some ⟨gt, 0, none⟩) (a.length + 1) ct) := (HKT.out.below hbw).cell 0
      have hLl : L.length ≤ 800 := by
        have e1 := congrArg List.length hL
        have e2 := tr_length (a := a) (b := b) _ a.length b.length (Nat.le_refl _)
        rw [List.length_append] at e1
        omega
      have zr := hbw.size
      obtain ⟨av, cv, hav⟩ := hown.slice
      obtain ⟨n7, hn7⟩ : ∃ n7, L.length = n7 := ⟨_, rfl⟩
      rw [hn7] at hav hLl
      subst hav
      have HN7 := Lib.hid hn7
      clear hown hL BW hn7
      rcases Nat.eq_zero_or_pos (i + j) with h0 | h0
      · obtain rfl : i = 0 := by omega
        obtain rfl : j = 0 := by omega
        clear hbw A1 B1
        have HR : Hid (tr a b a.length b.length = L) := Lib.hid (by rw [← HL.out, tr_zero, List.append_nil])
        go_wp2
        gi_wp2_with fail
        refine (callsIn_wide.2 (reverse_any _ L W.heap.size wr HO.out (by have := HN7.out; omega) zr)).mono ?_
        rintro e w5 ⟨⟨r, rfl⟩, o5, b5⟩
        have HO5 := Lib.hid o5
        have HB5 := Lib.hid (HB1.out.trans b5)
        clear o5 b5
        have hK5 : w5.heap[Dk]? = some (.deferred (some [])) := (HB5.out.block Dk zD).trans HK.out
        have HK5 := Lib.hid hK5
        clear hK5
        gi_wp2
        refine ⟨by simp, .inl ⟨_, _, rfl, run_takeDeferred HK5.out, ?_⟩⟩
        refine ⟨_, results_tmp rfl _ _ _, ⟨_, rfl, ?_⟩, (HBW.out.trans (HB5.out.mono zW)).trans (belowK_b (w := w) (Nat.le_refl _) w5 Dk _ _ (by omega) HK5.out rfl rfl)⟩
        rw [HR.out]
        exact own_grown (HO5.out.base zW) (grownBy_putObj' w5 Dk (.deferred none)) (fun g hg e => by
          obtain ⟨_, cs, hbb⟩ := own_blk HO5.out g hg
          cases e
          rw [show _ = _ from hbb] at HK5
          cases HK5.out)
      · rcases tr_cases hi hj h0 with ⟨p, q, rfl, rfl, hp, hq, hD1⟩ | ⟨p, rfl, hp, hne, hD1⟩ | ⟨q, rfl, hq, hne, hne2, hD1⟩
        · have HTR := Lib.hid (tr_pair hp hq hD1)
          obtain ⟨ba, oa, rfl, sa⟩ := A1.str p hp
          obtain ⟨bb, ob, rfl, sb⟩ := B1.str q hq
          obtain ⟨s, hs⟩ : ∃ s, a[p] = s := ⟨_, rfl⟩
          obtain ⟨t, ht⟩ : ∃ t, b[q] = t := ⟨_, rfl⟩
          have HPX := Lib.hid hs
          have HQX := Lib.hid ht
          rw [hs] at sa
          rw [ht] at sb
          rw [hs, ht] at hD1
          obtain ⟨pr, hpr⟩ : ∃ pr, prc s t = pr := ⟨_, rfl⟩
          have hpr1 : pr ≤ 1 := by rw [← hpr]; exact prc_le s t
          have PR : ∀ wz, Calls Try.prog 29 #[.string (ofL s), .string (ofL t)] wz fun e w' => e = .returned (.int .i64 (pr : Int)) ∧ w' = wz := fun wz => by rw [← hpr]; exact price_any s t wz
          have HPR := Lib.hid PR
          rw [hpr] at hD1
          obtain ⟨g1, kg1, cg1, rg1⟩ := HTAB.out wr hbw (p + 1) (by omega)
          have dx1 := rg1 (q + 1) (by omega)
          obtain ⟨x1, hx1⟩ : ∃ x, D a b (p + 1) (q + 1) = x := ⟨_, rfl⟩
          have lx1 := D_le a b (p + 1) (q + 1)
          rw [hx1] at dx1 lx1
          obtain ⟨g0, kg0, cg0, rg0⟩ := HTAB.out wr hbw (p) (by omega)
          have dx0 := rg0 (q) (by omega)
          obtain ⟨x0, hx0⟩ : ∃ x, D a b (p) (q) = x := ⟨_, rfl⟩
          have lx0 := D_le a b (p) (q)
          rw [hx0] at dx0 lx0
          rw [hx1, hx0] at hD1
          have t1 : ((x1 : Int) == (x0 : Int) + (pr : Int)) = true := by rw [beq_iff_eq]; omega
          have e8 : ((p + 1 : Nat) : Int) = (p : Int) + 1 := by omega
          have e9 : ((q + 1 : Nat) : Int) = (q : Int) + 1 := by omega
          rw [e8, e9]
          have q1 : (0 : Int) < (p : Int) + 1 := by omega
          have q2 : (0 : Int) < (q : Int) + 1 := by omega
          have q3 : (p : Int) + 1 < (a.length : Int) + 1 := by omega
          have q4 : (q : Int) + 1 < (b.length : Int) + 1 := by omega
          have q5 : (p : Int) < (a.length : Int) + 1 := by omega
          have q6 : (q : Int) < (b.length : Int) + 1 := by omega
          have q7 : (p : Int) < (a.length : Int) := by omega
          have q8 : (q : Int) < (b.length : Int) := by omega
          have q9 : (p : Int) + 1 - 1 = (p : Int) := by omega
          have q10 : (q : Int) + 1 - 1 = (q : Int) := by omega
          clear hx1 hx0 hD1 hs ht hpr PR rg1 rg0 A1 B1 hbw e8 e9
          go_wp2_with fail
          go_quiet ((go_at_call 29; refine Calls.quiet_of_same (HPR.out _)))
          clear sa sb cg1 dx1 cg0 dx0 t1 q3 q4 q5 q6 q7 q8 ct1
          have O1 := Lib.hid (HO.out.below (below_drewN (Below.refl _ wr) nq))
          have HB2 := Lib.hid (below_drewN HB1.out nq)
          go_wp2_with (first | (at_builtin; refine wpList_append_at (w0 := wr.drewN nq) (x := ((p : Int), (q : Int))) (N := wr.heap.size) rfl rfl _ _ 31 rfl W.heap.size iI _ 16 Try.underlying31 hiI hzI hkI hbI (by omega) rfl (by omega) encP_len encP_one _ L rfl rfl O1.out rfl (by have := HN7.out; omega) zr ?_; intro v9 w9 y1 y2 y3) | go_in)
          have HY1 := Lib.hid y1
          have HY2 := Lib.hid (HB2.out.trans y2)
          clear y1 y2 y3
          go_wp2
          go_roundw
          case rel => exact ⟨p, q, _, by omega, by omega, by go_num, by go_num, HY1.out, by rw [← HL.out, HTR.out, List.append_assoc]; rfl, HY2.out⟩
          case measure => simp [intOf] <;> omega
        · rcases j with _ | q
          · have HTR := Lib.hid (tr_del hne hD1)
            clear hne
            obtain ⟨g1, kg1, cg1, rg1⟩ := HTAB.out wr hbw (p + 1) (by omega)
            have dx1 := rg1 (0) (by omega)
            obtain ⟨x1, hx1⟩ : ∃ x, D a b (p + 1) (0) = x := ⟨_, rfl⟩
            have lx1 := D_le a b (p + 1) (0)
            rw [hx1] at dx1 lx1
            obtain ⟨g0, kg0, cg0, rg0⟩ := HTAB.out wr hbw (p) (by omega)
            have dx0 := rg0 (0) (by omega)
            obtain ⟨x0, hx0⟩ : ∃ x, D a b (p) (0) = x := ⟨_, rfl⟩
            have lx0 := D_le a b (p) (0)
            rw [hx0] at dx0 lx0
            rw [hx1, hx0] at hD1
            have t1 : ((x1 : Int) == (x0 : Int) + 1) = true := by rw [beq_iff_eq]; omega
            have e8 : ((p + 1 : Nat) : Int) = (p : Int) + 1 := by omega
            have e9 : ((0 : Nat) : Int) = 0 := rfl
            rw [e8, e9]
            have q1 : (0 : Int) < (p : Int) + 1 := by omega
            have q3 : (p : Int) + 1 < (a.length : Int) + 1 := by omega
            have q5 : (p : Int) < (a.length : Int) + 1 := by omega
            have q7 : (p : Int) < (a.length : Int) := by omega
            have q9 : (p : Int) + 1 - 1 = (p : Int) := by omega
            have q6 : (0 : Int) < (b.length : Int) + 1 := by omega
            clear hx1 hx0 hD1 rg1 rg0 A1 B1 hbw e8 e9
            go_wp2_with fail
            go_quiet (fail)
            have O1 := Lib.hid (HO.out.below (below_drewN (Below.refl _ wr) nq))
            have HB2 := Lib.hid (below_drewN HB1.out nq)
            go_wp2_with (first | (at_builtin; refine wpList_append_at (w0 := wr.drewN nq) (x := ((p : Int), -1)) (N := wr.heap.size) rfl rfl _ _ 31 rfl W.heap.size iI _ 16 Try.underlying31 hiI hzI hkI hbI (by omega) rfl (by omega) encP_len encP_one _ L rfl rfl O1.out rfl (by have := HN7.out; omega) zr ?_; intro v9 w9 y1 y2 y3) | go_in)
            have HY1 := Lib.hid y1
            have HY2 := Lib.hid (HB2.out.trans y2)
            clear y1 y2 y3
            go_wp2
            go_roundw
            case rel => exact ⟨p, 0, _, by omega, by omega, by go_num, by go_num, HY1.out, by rw [← HL.out, HTR.out, List.append_assoc]; rfl, HY2.out⟩
            case measure => simp [intOf] <;> omega
          · have hq : q < b.length := by omega
            have HTR := Lib.hid (tr_del hne hD1)
            obtain ⟨ba, oa, rfl, sa⟩ := A1.str p hp
            obtain ⟨bb, ob, rfl, sb⟩ := B1.str q hq
            obtain ⟨s, hs⟩ : ∃ s, a[p] = s := ⟨_, rfl⟩
            obtain ⟨t, ht⟩ : ∃ t, b[q] = t := ⟨_, rfl⟩
            have HPX := Lib.hid hs
            have HQX := Lib.hid ht
            rw [hs] at sa
            rw [ht] at sb
            have hn1 := hne q rfl hp hq
            clear hne
            rw [hs, ht] at hn1
            obtain ⟨pr, hpr⟩ : ∃ pr, prc s t = pr := ⟨_, rfl⟩
            have hpr1 : pr ≤ 1 := by rw [← hpr]; exact prc_le s t
            have PR : ∀ wz, Calls Try.prog 29 #[.string (ofL s), .string (ofL t)] wz fun e w' => e = .returned (.int .i64 (pr : Int)) ∧ w' = wz := fun wz => by rw [← hpr]; exact price_any s t wz
            have HPR := Lib.hid PR
            rw [hpr] at hn1
            obtain ⟨g1, kg1, cg1, rg1⟩ := HTAB.out wr hbw (p + 1) (by omega)
            have dx1 := rg1 (q + 1) (by omega)
            obtain ⟨x1, hx1⟩ : ∃ x, D a b (p + 1) (q + 1) = x := ⟨_, rfl⟩
            have lx1 := D_le a b (p + 1) (q + 1)
            rw [hx1] at dx1 lx1
            obtain ⟨g0, kg0, cg0, rg0⟩ := HTAB.out wr hbw p (by omega)
            have dx0 := rg0 q (by omega)
            have dx2 := rg0 (q + 1) (by omega)
            obtain ⟨x0, hx0⟩ : ∃ x, D a b p q = x := ⟨_, rfl⟩
            obtain ⟨x2, hx2⟩ : ∃ x, D a b p (q + 1) = x := ⟨_, rfl⟩
            have lx0 := D_le a b p q
            have lx2 := D_le a b p (q + 1)
            rw [hx0] at dx0 lx0
            rw [hx2] at dx2 lx2
            rw [hx1, hx0] at hn1
            rw [hx1, hx2] at hD1
            have t1 : ((x1 : Int) == (x0 : Int) + (pr : Int)) = false := by rw [beq_eq_false_iff_ne]; omega
            have t2 : ((x1 : Int) == (x2 : Int) + 1) = true := by rw [beq_iff_eq]; omega
            have e8 : ((p + 1 : Nat) : Int) = (p : Int) + 1 := by omega
            have e9 : ((q + 1 : Nat) : Int) = (q : Int) + 1 := by omega
            rw [e8, e9]
            have q1 : (0 : Int) < (p : Int) + 1 := by omega
            have q3 : (p : Int) + 1 < (a.length : Int) + 1 := by omega
            have q5 : (p : Int) < (a.length : Int) + 1 := by omega
            have q7 : (p : Int) < (a.length : Int) := by omega
            have q9 : (p : Int) + 1 - 1 = (p : Int) := by omega
            have q2 : (0 : Int) < (q : Int) + 1 := by omega
            have q4 : (q : Int) + 1 < (b.length : Int) + 1 := by omega
            have q6 : (q : Int) < (b.length : Int) + 1 := by omega
            have q8 : (q : Int) < (b.length : Int) := by omega
            have q10 : (q : Int) + 1 - 1 = (q : Int) := by omega
            clear hx1 hx0 hx2 hD1 hn1 hs ht hpr PR rg1 rg0 A1 B1 hbw e8
            go_wp2_with fail
            go_quiet ((go_at_call 29; refine Calls.quiet_of_same (HPR.out _)))
            clear sa sb dx0 t1
            have O1 := Lib.hid (HO.out.below (below_drewN (Below.refl _ wr) nq))
            have HB2 := Lib.hid (below_drewN HB1.out nq)
            go_wp2_with (first | (at_builtin; refine wpList_append_at (w0 := wr.drewN nq) (x := ((p : Int), -1)) (N := wr.heap.size) rfl rfl _ _ 31 rfl W.heap.size iI _ 16 Try.underlying31 hiI hzI hkI hbI (by omega) rfl (by omega) encP_len encP_one _ L rfl rfl O1.out rfl (by have := HN7.out; omega) zr ?_; intro v9 w9 y1 y2 y3) | go_in)
            have HY1 := Lib.hid y1
            have HY2 := Lib.hid (HB2.out.trans y2)
            clear y1 y2 y3
            go_wp2
            go_roundw
            case rel => exact ⟨p, q + 1, _, by omega, by omega, by go_num, by first | (go_num; done) | exact val_int (by omega), HY1.out, by rw [← HL.out, HTR.out, List.append_assoc]; rfl, HY2.out⟩
            case measure => simp [intOf] <;> omega
        · rcases i with _ | p
          · have HTR := Lib.hid (tr_ins hne hne2)
            clear hne hne2 hD1
            obtain ⟨g1, kg1, cg1, rg1⟩ := HTAB.out wr hbw (0) (by omega)
            have dx1 := rg1 (q + 1) (by omega)
            obtain ⟨x1, hx1⟩ : ∃ x, D a b (0) (q + 1) = x := ⟨_, rfl⟩
            have lx1 := D_le a b (0) (q + 1)
            rw [hx1] at dx1 lx1
            have e9 : ((q + 1 : Nat) : Int) = (q : Int) + 1 := by omega
            have e8 : ((0 : Nat) : Int) = 0 := rfl
            rw [e8, e9]
            have q2 : (0 : Int) < (q : Int) + 1 := by omega
            have q4 : (q : Int) + 1 < (b.length : Int) + 1 := by omega
            have q6 : (q : Int) < (b.length : Int) + 1 := by omega
            have q8 : (q : Int) < (b.length : Int) := by omega
            have q10 : (q : Int) + 1 - 1 = (q : Int) := by omega
            have q5 : (0 : Int) < (a.length : Int) + 1 := by omega
            clear hx1 rg1 A1 B1 hbw e8 e9
            go_wp2_with fail
            go_quiet (fail)
            have O1 := Lib.hid (HO.out.below (below_drewN (Below.refl _ wr) nq))
            have HB2 := Lib.hid (below_drewN HB1.out nq)
            go_wp2_with (first | (at_builtin; refine wpList_append_at (w0 := wr.drewN nq) (x := ((-1 : Int), (q : Int))) (N := wr.heap.size) rfl rfl _ _ 31 rfl W.heap.size iI _ 16 Try.underlying31 hiI hzI hkI hbI (by omega) rfl (by omega) encP_len encP_one _ L rfl rfl O1.out rfl (by have := HN7.out; omega) zr ?_; intro v9 w9 y1 y2 y3) | go_in)
            have HY1 := Lib.hid y1
            have HY2 := Lib.hid (HB2.out.trans y2)
            clear y1 y2 y3
            go_wp2
            go_roundw
            case rel => exact ⟨0, q, _, by omega, by omega, by go_num, by go_num, HY1.out, by rw [← HL.out, HTR.out, List.append_assoc]; rfl, HY2.out⟩
            case measure => simp [intOf] <;> omega
          · have HTR := Lib.hid (tr_ins hne hne2)
            clear hD1
            have hp : p < a.length := by omega
            obtain ⟨ba, oa, rfl, sa⟩ := A1.str p hp
            obtain ⟨bb, ob, rfl, sb⟩ := B1.str q hq
            obtain ⟨s, hs⟩ : ∃ s, a[p] = s := ⟨_, rfl⟩
            obtain ⟨t, ht⟩ : ∃ t, b[q] = t := ⟨_, rfl⟩
            have HPX := Lib.hid hs
            have HQX := Lib.hid ht
            rw [hs] at sa
            rw [ht] at sb
            have hn1 := hne p rfl hp hq
            have hn2 := hne2 p rfl
            clear hne hne2
            rw [hs, ht] at hn1
            obtain ⟨pr, hpr⟩ : ∃ pr, prc s t = pr := ⟨_, rfl⟩
            have hpr1 : pr ≤ 1 := by rw [← hpr]; exact prc_le s t
            have PR : ∀ wz, Calls Try.prog 29 #[.string (ofL s), .string (ofL t)] wz fun e w' => e = .returned (.int .i64 (pr : Int)) ∧ w' = wz := fun wz => by rw [← hpr]; exact price_any s t wz
            have HPR := Lib.hid PR
            rw [hpr] at hn1
            obtain ⟨g1, kg1, cg1, rg1⟩ := HTAB.out wr hbw (p + 1) (by omega)
            have dx1 := rg1 (q + 1) (by omega)
            obtain ⟨x1, hx1⟩ : ∃ x, D a b (p + 1) (q + 1) = x := ⟨_, rfl⟩
            have lx1 := D_le a b (p + 1) (q + 1)
            rw [hx1] at dx1 lx1
            obtain ⟨g0, kg0, cg0, rg0⟩ := HTAB.out wr hbw p (by omega)
            have dx0 := rg0 q (by omega)
            have dx2 := rg0 (q + 1) (by omega)
            obtain ⟨x0, hx0⟩ : ∃ x, D a b p q = x := ⟨_, rfl⟩
            obtain ⟨x2, hx2⟩ : ∃ x, D a b p (q + 1) = x := ⟨_, rfl⟩
            have lx0 := D_le a b p q
            have lx2 := D_le a b p (q + 1)
            rw [hx0] at dx0 lx0
            rw [hx2] at dx2 lx2
            rw [hx1, hx0] at hn1
            rw [hx1, hx2] at hn2
            have t1 : ((x1 : Int) == (x0 : Int) + (pr : Int)) = false := by rw [beq_eq_false_iff_ne]; omega
            have t2 : ((x1 : Int) == (x2 : Int) + 1) = false := by rw [beq_eq_false_iff_ne]; omega
            have e8 : ((p + 1 : Nat) : Int) = (p : Int) + 1 := by omega
            have e9 : ((q + 1 : Nat) : Int) = (q : Int) + 1 := by omega
            rw [e8, e9]
            have q1 : (0 : Int) < (p : Int) + 1 := by omega
            have q3 : (p : Int) + 1 < (a.length : Int) + 1 := by omega
            have q5 : (p : Int) < (a.length : Int) + 1 := by omega
            have q7 : (p : Int) < (a.length : Int) := by omega
            have q9 : (p : Int) + 1 - 1 = (p : Int) := by omega
            have q2 : (0 : Int) < (q : Int) + 1 := by omega
            have q4 : (q : Int) + 1 < (b.length : Int) + 1 := by omega
            have q6 : (q : Int) < (b.length : Int) + 1 := by omega
            have q8 : (q : Int) < (b.length : Int) := by omega
            have q10 : (q : Int) + 1 - 1 = (q : Int) := by omega
            clear hx1 hx0 hx2 hn1 hn2 hs ht hpr PR rg1 rg0 A1 B1 hbw e9
            go_wp2_with fail
            go_quiet ((go_at_call 29; refine Calls.quiet_of_same (HPR.out _)))
            clear sa sb dx0 t1
            have O1 := Lib.hid (HO.out.below (below_drewN (Below.refl _ wr) nq))
            have HB2 := Lib.hid (below_drewN HB1.out nq)
            go_wp2_with (first | (at_builtin; refine wpList_append_at (w0 := wr.drewN nq) (x := ((-1 : Int), (q : Int))) (N := wr.heap.size) rfl rfl _ _ 31 rfl W.heap.size iI _ 16 Try.underlying31 hiI hzI hkI hbI (by omega) rfl (by omega) encP_len encP_one _ L rfl rfl O1.out rfl (by have := HN7.out; omega) zr ?_; intro v9 w9 y1 y2 y3) | go_in)
            have HY1 := Lib.hid y1
            have HY2 := Lib.hid (HB2.out.trans y2)
            clear y1 y2 y3
            go_wp2
            go_roundw
            case rel => exact ⟨p + 1, q, _, by omega, by omega, by first | (go_num; done) | exact val_int (by omega), by go_num, HY1.out, by rw [← HL.out, HTR.out, List.append_assoc]; rfl, HY2.out⟩
            case measure => simp [intOf] <;> omega
end Go.Proofs.Ytbcpeoomkhcgnaa
