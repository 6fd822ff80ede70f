/- firstLongest. -/
import Derived.Test.YtcnjomkddbbopaaMl
namespace Go.Proofs.Ytcnjomkddbbopaa
open Go.RowKit
set_option linter.unusedVariables false

/-- The rows at the starts of the parts from q on. -/
def Good (xs ys : List (Nat × Nat)) (r nb q : Nat) (M : Nat → Nat → Int) : Prop := ∀ k, q ≤ k → k ≤ nb → ∀ j, j ≤ ys.length → M k j = (lcs (keys (xs.drop (k * r))) (keys (ys.drop j)) : Int)
def Zero (yn h : Nat) (M : Nat → Nat → Int) : Prop := ∀ k, k < h → M k yn = 0

theorem fst1_split {ys : List (Nat × Nat)} {j x v : Nat} (hj : j ≤ x) (hx : x < ys.length) (hne : ∀ z (hz : z < ys.length), j ≤ z → z < x → ys[z].2 ≠ v) (he : ys[x].2 = v) : fst1 v (ys.drop j) = some (ys[x].1, ys.drop (x + 1)) := by
  have e1 : ys.drop j = (ys.drop j).take (x - j) ++ (ys[x].1, v) :: ys.drop (x + 1) := by
    have : (ys[x].1, v) :: ys.drop (x + 1) = ys.drop x := by
      rw [List.drop_eq_getElem_cons hx]
      congr 1
      rw [← he]
    rw [this]
    have e2 : ys.drop x = (ys.drop j).drop (x - j) := by rw [List.drop_drop]; congr 1; omega
    rw [e2, List.take_append_drop]
  rw [e1]
  refine fst1_at ?_
  intro hm
  obtain ⟨q, hq, hqv⟩ := List.mem_map.1 hm
  obtain ⟨n, hn, rfl⟩ := List.getElem_of_mem hq
  rw [List.length_take, List.length_drop] at hn
  rw [List.getElem_take, List.getElem_drop] at hqv
  exact hne (j + n) (by omega) (by omega) (by omega) hqv
theorem fst1_gone {ys : List (Nat × Nat)} {j v : Nat} (hne : ∀ z (hz : z < ys.length), j ≤ z → z < ys.length → ys[z].2 ≠ v) : fst1 v (ys.drop j) = none := by
  refine fst1_miss ?_
  intro hm
  obtain ⟨q, hq, hqv⟩ := List.mem_map.1 hm
  obtain ⟨n, hn, rfl⟩ := List.getElem_of_mem hq
  rw [List.length_drop] at hn
  rw [List.getElem_drop] at hqv
  exact hne (j + n) (by omega) (by omega) (by omega) hqv
theorem drop_at {xs : List (Nat × Nat)} {i : Nat} (hi : i < xs.length) : xs.drop i = (xs[i].1, xs[i].2) :: xs.drop (i + 1) := List.drop_eq_getElem_cons hi
theorem pk_step_none {xs ys : List (Nat × Nat)} {i j : Nat} (hi : i < xs.length) (hne : ∀ z (hz : z < ys.length), j ≤ z → z < ys.length → ys[z].2 ≠ xs[i].2) : pk (xs.drop i) (ys.drop j) = pk (xs.drop (i + 1)) (ys.drop j) := by
  rw [drop_at hi]
  exact pk_none (p := (xs[i].1, xs[i].2)) (fst1_gone hne)
theorem pk_step_yes {xs ys : List (Nat × Nat)} {i j x : Nat} (hi : i < xs.length) (hj : j ≤ x) (hx : x < ys.length) (hne : ∀ z (hz : z < ys.length), j ≤ z → z < x → ys[z].2 ≠ xs[i].2) (he : ys[x].2 = xs[i].2)
    (ht : lcs (keys (xs.drop (i + 1))) (keys (ys.drop (x + 1))) + 1 = lcs (keys (xs.drop i)) (keys (ys.drop j))) : pk (xs.drop i) (ys.drop j) = (xs[i].1, ys[x].1) :: pk (xs.drop (i + 1)) (ys.drop (x + 1)) := by
  rw [keys_cons hi] at ht
  rw [drop_at hi]
  exact pk_yes (p := (xs[i].1, xs[i].2)) (fst1_split hj hx hne he) ht
theorem pk_step_no {xs ys : List (Nat × Nat)} {i j x : Nat} (hi : i < xs.length) (hj : j ≤ x) (hx : x < ys.length) (hne : ∀ z (hz : z < ys.length), j ≤ z → z < x → ys[z].2 ≠ xs[i].2) (he : ys[x].2 = xs[i].2)
    (ht : ¬ lcs (keys (xs.drop (i + 1))) (keys (ys.drop (x + 1))) + 1 = lcs (keys (xs.drop i)) (keys (ys.drop j))) : pk (xs.drop i) (ys.drop j) = pk (xs.drop (i + 1)) (ys.drop j) := by
  rw [keys_cons hi] at ht
  rw [drop_at hi]
  exact pk_no (p := (xs[i].1, xs[i].2)) (fst1_split hj hx hne he) ht
theorem pk_length {α : Type} [DecidableEq α] : ∀ (a b : List (Nat × α)), (pk a b).length ≤ a.length
  | [], b => Nat.le_refl _
  | p :: a, b => by
    rw [pk]
    split
    · have := pk_length a b; simp only [List.length_cons]; omega
    · rename_i j r _
      split
      · have := pk_length a r; simp only [List.length_cons]; omega
      · have := pk_length a b; simp only [List.length_cons]; omega
theorem Rd.belowAt {α : Type} {k : Nat} {enc : α → List Value} {n : Nat} {w w' : World} {v : Value} {l : List α} (h : Rd k enc w v l) (hb : Below n w w') (hne : ∀ b, v.ownBlock = some b → b < n) : Rd k enc w' v l :=
  h.bt (C := n) (Bt.of_below hb) (fun b e => ⟨hne b e, by have := hne b e; omega⟩)
theorem Lv_part {xs ys : List (Nat × Nat)} {r k i j : Nat} (hi : i ≤ (partOf xs r k).length) : Lv (partOf xs r k) ys (keys (xs.drop ((k + 1) * r))) i j = lcs (keys (xs.drop (k * r + i))) (keys (ys.drop j)) := by
  unfold Lv
  rw [part_rest xs r k i hi]
theorem own_but {α : Type} {k : Nat} {enc : α → List Value} {C : Nat} {w w' : World} {base : Nat} {e : TypeId} {v : Value} {l : List α} (h : Own1 k enc w base e v l) (hb : But C w w') (hC : C < base) : Own1 k enc w' base e v l := by
  refine ⟨h.1, ?_⟩
  rcases h.2 with h0 | ⟨g, cap, cur, hv, hB, hg, hr⟩
  · exact .inl h0
  · exact .inr ⟨g, cap, cur, hv, hB, (hb.block g (Array.getElem?_eq_some_iff.1 hg).1 (by omega)).trans hg, hr⟩
theorem Own1.lt_ {α : Type} {k : Nat} {enc : α → List Value} {w : World} {base : Nat} {e : TypeId} {v : Value} {l : List α} (h : Own1 k enc w base e v l) : ∀ b, v.ownBlock = some b → base ≤ b ∧ b < w.heap.size := World.ownsRow.lt h
set_option maxRecDepth 1000000 in
set_option maxHeartbeats 1000000 in
theorem firstLongest_any (vx vy : Value) (xs ys : List (Nat × Nat)) (w : World) (hX : Rd 2 encP w vx xs) (hY : Rd 2 encP w vy ys) (hxl : xs.length ≤ 200) (hyl : ys.length ≤ 200) (hxb : ∀ p ∈ xs, p.1 ≤ 1000 ∧ p.2 ≤ 1000) (hyb : ∀ p ∈ ys, p.1 ≤ 1000 ∧ p.2 ≤ 1000) (hyo : ∀ b, vy.ownBlock = some b → b < w.heap.size) :
    Calls Try.prog 27 #[vx, vy] w fun e w' => ∃ v, e = .returned v ∧ Own1 2 encP w' w.heap.size 28 v (pk xs ys) ∧ Below w.heap.size w w' := by
  obtain ⟨ax, cx, rfl, hcx, hcx2⟩ := hX.slice
  obtain ⟨ay, cy, rfl, hcy, hcy2⟩ := hY.slice
  have HX := Lib.hid hX
  have HY := Lib.hid hY
  have HXB := Lib.hid hxb
  have HYB := Lib.hid hyb
  have HYO := Lib.hid hyo
  clear hX hY hxb hyb hyo
  go_enter Try.func27, Try.ntmps27
  go_wp2_with fail
  refine (rootOf_any xs.length (by omega) _).mono ?_
  rintro e w0 ⟨r, hr1, hr2, rfl, hw0⟩
  obtain rfl := hw0.symm
  go_wp2_with fail
  refine (chunk_any ax xs.length cx r hr1 _).mono ?_
  rintro e w' ⟨rfl, rfl⟩
  go_wp2_with fail
  have k1 := (Blk.new w 50 #[.slice ax xs.length cx]).alloc (.cells #[.int .i64 r] 3)
  have k2 := Blk.new (w.alloc (.cells #[.slice ax xs.length cx] 50)) 3 #[.int .i64 r]
  rw [World.size_alloc] at k2
  refine (collect_any w.heap.size (w.heap.size + 1) ax xs cx r (by omega) hr1 (by omega) hcx _ k1 k2 ((HX.out.alloc _).alloc _)).mono ?_
  rintro e w1 ⟨vb, ms, rfl, ⟨nb, rfl, hnb1, hnb2⟩, ob, b1⟩
  have B1 : Below w.heap.size w w1 := (((Below.refl _ w).alloc (Nat.le_refl _) _).alloc (by simp) _).trans (b1.mono (by simp; omega))
  have hnb : nb ≤ 200 := by
    rcases hnb2 with h | h
    · omega
    · have := Nat.mul_le_mul_left (nb - 1) hr1
      omega
  have OB := Lib.hid (ob.rd encV_len)
  obtain ⟨ab, cb, hvb⟩ := ob.slice
  rw [List.length_map, List.length_range] at hvb
  subst hvb
  have HOB := Lib.hid ob.lt_
  have z1 := b1.size
  simp only [World.size_alloc] at z1
  clear ob b1 k1 k2
  go_wp2_with fail
  obtain ⟨h, hh⟩ : ∃ h, nb + 1 + r + 1 = h := ⟨_, rfl⟩
  have e1 : (nb : Int) + 1 + (r : Int) + 1 = (h : Int) := by omega
  have e2 : (ys.length : Int) + 1 = ((ys.length + 1 : Nat) : Int) := by omega
  rw [e1, e2]
  refine (table_any h (ys.length + 1) (by omega) (by omega) (by omega) w1).mono ?_
  rintro e w2 ⟨rfl, g2, h2, b2⟩
  have B2 := st B1 b2 B1.size
  have z2 := h2.lt
  have OB2 := Lib.hid (OB.out.below b2)
  have HN1 := Lib.hid hnb1
  have HN2 := Lib.hid hnb2
  have HHH := Lib.hid hh
  have G2 := Lib.hid g2
  have H2 := Lib.hid h2
  have HB2 := Lib.hid B2
  clear OB b2 hnb1 hnb2 hw0 e1 e2 hh g2 h2 B2
  go_wp2_with fail
  obtain ⟨C, hC⟩ : ∃ C, w1.heap.size = C := ⟨_, rfl⟩
  rw [hC] at H2 G2 z2 ⊢
  have hwC : w.heap.size ≤ C := by omega
  have HHOB : Hid (∀ b, (Value.slice ab nb cb).ownBlock = some b → b < C) := Lib.hid (fun b e => by have := (HOB.out b e).2; omega)
  clear hC z1 HOB
  have q1 : (nb : Int) + 1 ≤ (h : Int) := by have := HHH.out; omega
  have q2 : ¬ h = nb + 1 := by have := HHH.out; omega
  have q3 : h - (nb + 1) = r + 1 := by have := HHH.out; omega
  go_quiet (fail)
  go_wp2_with fail
  obtain ⟨W3, hW3⟩ : ∃ W3, w2.drewN nq = W3 := ⟨_, rfl⟩
  have G3 : Hid (Grid C h (ys.length + 1) (fun _ _ => 0) W3) := Lib.hid (by rw [← hW3]; exact G2.out.below (below_drewN (Below.refl w2.heap.size w2) nq) G2.out.lt)
  have H3 : Hid (Hd (C + 1) h (ys.length + 1) C W3) := Lib.hid (by rw [← hW3]; exact H2.out.below (below_drewN (Below.refl w2.heap.size w2) nq) H2.out.lt)
  have HB3 : Hid (Below w.heap.size w W3) := Lib.hid (by rw [← hW3]; exact below_drewN HB2.out nq)
  have OB3 : Hid (Rd 1 encV W3 (Value.slice ab nb cb) (List.map (fun m => chV (blkOf ax) (offOf ax) xs.length r m) (List.range nb))) := Lib.hid (by rw [← hW3]; exact OB2.out.drewN nq)
  have z3 : C + 1 < W3.heap.size := by rw [← hW3]; exact z2
  rw [hW3]
  clear hW3 G2 H2 HB2 OB2 z2 B1
  have HG0 : Hid (Good xs ys r nb nb (fun _ _ => 0)) := Lib.hid (fun k h1 h2 j hj => by
    obtain rfl : k = nb := by omega
    rw [List.drop_eq_nil_iff.2 HN1.out]
    show (0 : Int) = (lcs [] _ : Int)
    rw [lcs_nil_left]; rfl)
  go_loopw [10] (fun kv wr => ∃ (q : Nat) (M : Nat → Nat → Int), kv = .int .i64 ((q : Int) - 1) ∧ q ≤ nb ∧ Grid C h (ys.length + 1) M wr ∧ Zero ys.length h M ∧ Good xs ys r nb q M ∧ But C W3 wr) (fun kv _ => (intOf kv + 1).toNat)
  case atStart => exact ⟨nb, _, rfl, Nat.le_refl _, G3.out, fun _ _ => rfl, HG0.out, But.refl _ _⟩
  case round =>
    obtain ⟨q, M, rfl, hq, g, zM, gM, bt⟩ := hrel
    by_cases hlt : 2 ≤ q
    · obtain ⟨k, rfl⟩ : ∃ k, q = k + 1 := ⟨q - 1, by omega⟩
      have e1 : ((k + 1 : Nat) : Int) - 1 = (k : Int) := by omega
      rw [e1]
      have HG := Lib.hid g
      have HZ := Lib.hid zM
      have HM := Lib.hid gM
      have HT := Lib.hid bt
      clear g zM gM bt e1
      have hkr : k * r < xs.length := by
        rcases HN2.out with h0 | h0
        · omega
        · exact Nat.lt_of_le_of_lt (Nat.mul_le_mul_right r (by omega)) h0
      have X1 := (HX.out.below HB3.out).but HT.out (fun b e => by obtain ⟨b', o', e', hb', _⟩ := HX.out.some_ 0 (by omega); subst e'; cases e; show b' ≠ C; omega)
      obtain ⟨bx, ox, hax, hbx, _⟩ := HX.out.some_ 0 (show 0 < xs.length by omega)
      rw [hax] at X1
      obtain ⟨cc, hch, hrd⟩ := chunk_rd X1 hkr hr1
      have O1 := OB3.out.but HT.out (fun b e => by have := HHOB.out b e; omega)
      obtain ⟨bb, oob, hab, _, hcell⟩ := O1.some_ k (by simp; omega)
      have c1 : wr.cell? ⟨bb, oob + k, none⟩ = some (.slice (some ⟨bx, ox + k * r * 2, none⟩) (partOf xs r k).length cc) := by
        have := hcell 0 (chV bx ox xs.length r k) (by simp [encV, hax, blkOf, offOf])
        rw [← hch]
        simpa using this
      have c2 := (H3.out.but HT.out (by omega)).cell (show k + 1 < h by have := HHH.out; omega)
      obtain ⟨o1, ho1⟩ : ∃ o1, (k + 1) * (ys.length + 1) = o1 := ⟨_, rfl⟩
      rw [ho1] at c2
      subst hab
      have HAX := Lib.hid hax
      clear hax
      have u1 : (k : Int) < (nb : Int) := by omega
      have u2 : (k : Int) + 1 < (nb : Int) + 1 := by omega
      obtain ⟨ln, hln⟩ : ∃ ln, (partOf xs r k).length = ln := ⟨_, rfl⟩
      rw [hln] at c1
      obtain ⟨oc, hoc⟩ : ∃ oc, ox + k * r * 2 = oc := ⟨_, rfl⟩
      rw [hoc] at c1
      go_wp2_with fail
      refine region_tail 11 (by kernel_rfl) (by kernel_rfl) (by kernel_rfl) ?_
      simp only [List.take_succ_cons, List.take_zero, List.drop_succ_cons, List.drop_zero]
      repeat (go_big_quiet_step (fail))
      refine wpQuiet_nil ?_
      go_wp2_with fail
      have hlr : k + 1 < h := by have := HHH.out; omega
      have hlen1 : (partOf xs r k).length < r + 1 := by rw [partOf_length]; omega
      have F := fill_any (C + 1) (nb + 1) (r + 1) (r + 1) C h (k + 1) (some ⟨bx, ox + k * r * 2, none⟩) ay cc cy (partOf xs r k) ys (keys (xs.drop ((k + 1) * r))) M (wr.drewN 1) (by omega) (by omega) hlen1 (by have := HHH.out; omega) hlr
        (hrd.drewN 1) (((HY.out.below HB3.out).but HT.out (fun b e => by have := HYO.out b e; omega)).drewN 1) (fun b o s e => by cases e; omega) (fun b o s e => by have := HYO.out b (by rw [e]; rfl); omega)
        (HG.out.below (below_drewN (Below.refl wr.heap.size wr) 1) HG.out.lt) ((H3.out.but HT.out (by omega)).below (below_drewN (Below.refl wr.heap.size wr) 1) (by have := HT.out.size; show C + 1 < wr.heap.size; omega)) (by omega) HZ.out (fun j hj => HM.out (k + 1) (Nat.le_refl _) (by omega) j hj)
      rw [hln, ho1, hoc] at F
      refine F.mono ?_
      rintro e wf ⟨⟨v, rfl⟩, ⟨M2, gM2, m1, m2, m3⟩, bf⟩
      clear F
      have BF := HT.out.trans ((But.refl C wr).drewN 1 |>.trans bf)
      have HBF := Lib.hid BF
      have HG2 := Lib.hid gM2
      clear bf BF hrd X1 O1 hcell c1 c2
      have d1 := (H3.out.but HBF.out (by omega)).cell (show k < h by omega)
      have d2 := (H3.out.but HBF.out (by omega)).cell (show nb + 1 < h by have := HHH.out; omega)
      have u3 : (k : Int) < (nb : Int) + 1 := by omega
      go_wp2_with fail
      refine region_tail 7 (by kernel_rfl) (by kernel_rfl) (by kernel_rfl) ?_
      simp only [List.take_succ_cons, List.take_zero, List.drop_succ_cons, List.drop_zero]
      repeat (go_big_quiet_step (fail))
      refine wpQuiet_nil ?_
      obtain ⟨wg, hcp, gc, bc, sc⟩ := (HG2.out.below (below_drewN (Below.refl wf.heap.size wf) 1) HG2.out.lt).copy (P := Try.prog) (show k < h by omega) (show nb + 1 < h by have := HHH.out; omega) 79 79 3 21 rfl (by kernel_rfl)
      go_wp2
      go_roundw
      case measure => simp [intOf]
      case rel =>
      refine ⟨k, _, rfl, by omega, gc, fun r' h' => ?_, fun k' h1 h2 j hj => ?_, HBF.out.trans (((But.refl C wf).drewN 1).trans bc)⟩
      · unfold cpy
        split
        · exact m2 _ (by have := HHH.out; omega)
        · exact m2 _ h'
      · unfold cpy
        by_cases e : k' = k
        · subst e
          rw [if_pos rfl, m3 0 j (Nat.zero_le _) hj]
          unfold Lv
          rw [part_rest xs r k' 0 (Nat.zero_le _)]
          rfl
        · rw [if_neg e, m1 k' j (.inl (by omega))]
          exact HM.out k' (by omega) h2 j hj
    · have hq1 : q ≤ 1 := by omega
      have u1 : ¬ (0 : Int) < (q : Int) - 1 := by omega
      have HG := Lib.hid g
      have HZ := Lib.hid zM
      have HM : Hid (Good xs ys r nb 1 M) := Lib.hid (fun k' h1 h2 => gM k' (by omega) h2)
      have HT := Lib.hid bt
      clear g zM gM bt
      go_wp2_with fail
      go_loopw [11, 12, 74] (fun pv jv iv wr => ∃ (k j : Nat) (P : List (Nat × Nat)) (M : Nat → Nat → Int), iv = .int .i64 k ∧ k ≤ nb ∧ jv = .int .i64 j ∧ j ≤ ys.length ∧ Own1 2 encP wr W3.heap.size 28 pv P ∧ P ++ pk (xs.drop (k * r)) (ys.drop j) = pk xs ys ∧ Grid C h (ys.length + 1) M wr ∧ Zero ys.length h M ∧ Good xs ys r nb 1 M ∧ But C W3 wr) (fun _ _ iv _ => nb - (intOf iv).toNat)
      case atStart => exact ⟨0, 0, [], _, rfl, Nat.zero_le _, rfl, Nat.zero_le _, own1_nil _ _ _, by simp, HG.out, HZ.out, HM.out, HT.out⟩
      clear HG HZ HM HT
      case round =>
        obtain ⟨k, j, P, M, rfl, hk, rfl, hj, hown, hpk, g, zM, gM, bt⟩ := hrel
        by_cases hlt2 : k < nb
        · have HG := Lib.hid g
          have HZ := Lib.hid zM
          have HM := Lib.hid gM
          have HT := Lib.hid bt
          have HO := Lib.hid hown
          have HP := Lib.hid hpk
          clear g zM gM bt hown hpk
          have hkr : k * r < xs.length := by
            rcases HN2.out with h0 | h0
            · omega
            · exact Nat.lt_of_le_of_lt (Nat.mul_le_mul_right r (by omega)) h0
          have X1 := (HX.out.below HB3.out).but HT.out (fun b e => by obtain ⟨b', o', e', hb', _⟩ := HX.out.some_ 0 (by omega); subst e'; cases e; show b' ≠ C; omega)
          obtain ⟨bx, ox, hax, hbx, _⟩ := HX.out.some_ 0 (show 0 < xs.length by omega)
          rw [hax] at X1
          obtain ⟨cc, hch, hrd⟩ := chunk_rd X1 hkr hr1
          have O1 := OB3.out.but HT.out (fun b e => by have := HHOB.out b e; omega)
          obtain ⟨bb, oob, hab, _, hcell⟩ := O1.some_ k (by simp; omega)
          have c1 : wr.cell? ⟨bb, oob + k, none⟩ = some (.slice (some ⟨bx, ox + k * r * 2, none⟩) (partOf xs r k).length cc) := by
            have := hcell 0 (chV bx ox xs.length r k) (by simp [encV, hax, blkOf, offOf])
            rw [← hch]
            simpa using this
          have c2 := (H3.out.but HT.out (by omega)).cell (show k + 1 < h by have := HHH.out; omega)
          obtain ⟨o1, ho1⟩ : ∃ o1, (k + 1) * (ys.length + 1) = o1 := ⟨_, rfl⟩
          rw [ho1] at c2
          subst hab
          have HAX := Lib.hid hax
          clear hax
          have u1 : (k : Int) < (nb : Int) := by omega
          have u2 : (k : Int) + 1 < (nb : Int) + 1 := by omega
          obtain ⟨ln, hln⟩ : ∃ ln, (partOf xs r k).length = ln := ⟨_, rfl⟩
          rw [hln] at c1
          obtain ⟨oc, hoc⟩ : ∃ oc, ox + k * r * 2 = oc := ⟨_, rfl⟩
          rw [hoc] at c1
          have hlr : k + 1 < h := by have := HHH.out; omega
          have hlen1 : (partOf xs r k).length < r + 1 := by rw [partOf_length]; omega
          have F := fill_any (C + 1) (nb + 1) (r + 1) (r + 1) C h (k + 1) (some ⟨bx, ox + k * r * 2, none⟩) ay cc cy (partOf xs r k) ys (keys (xs.drop ((k + 1) * r))) M wr (by omega) (by omega) hlen1 (by have := HHH.out; omega) hlr
            hrd ((HY.out.below HB3.out).but HT.out (fun b e => by have := HYO.out b e; omega)) (fun b o s e => by cases e; omega) (fun b o s e => by have := HYO.out b (by rw [e]; rfl); omega)
            HG.out (H3.out.but HT.out (by omega)) (by omega) HZ.out (fun j hj => HM.out (k + 1) (by omega) (by omega) j hj)
          rw [hln, ho1, hoc] at F
          have HF := Lib.hid F
          have HRD := Lib.hid hrd
          clear F hrd X1 O1 hcell
          go_wp2_with fail
          refine HF.out.mono ?_
          rintro e wf ⟨⟨v, rfl⟩, ⟨M2, gM2, m1, m2, m3⟩, bf⟩
          clear HF
          have HBF := Lib.hid (HT.out.trans bf)
          have HG2 := Lib.hid gM2
          have HM1 := Lib.hid m1
          have HM2 := Lib.hid m2
          have HM3 := Lib.hid m3
          have HO2 := Lib.hid (own_but HO.out bf (by omega))
          have HRF := Lib.hid (HRD.out.but bf (fun b e => by cases e; show bx ≠ C; omega))
          clear bf c1 c2 gM2 m1 m2 m3 HO HRD
          go_wp2_with fail
          have hbxW : bx < W3.heap.size := by have := HB3.out.size; omega
          have hln2 : ln = min r (xs.length - k * r) := by rw [← hln, partOf_length]
          have HLN := Lib.hid hln
          have HLN2 := Lib.hid hln2
          have HOC := Lib.hid hoc
          have HO1 := Lib.hid ho1
          clear hln hln2 hoc ho1
          go_loopw [11, 12, 90] (fun pv jv iv wx => ∃ (i j2 : Nat) (P2 : List (Nat × Nat)), iv = .int .i64 i ∧ i ≤ ln ∧ jv = .int .i64 j2 ∧ j2 ≤ ys.length ∧ Own1 2 encP wx W3.heap.size 28 pv P2 ∧ P2 ++ pk (xs.drop (k * r + i)) (ys.drop j2) = pk xs ys ∧ Below W3.heap.size wf wx) (fun _ _ iv _ => ln - (intOf iv).toNat)
          case atStart => exact ⟨0, j, P, rfl, Nat.zero_le _, rfl, hj, HO2.out, HP.out, Below.refl _ _⟩
          clear HO2 HP
          case round =>
            obtain ⟨i, j2, P2, rfl, hi, rfl, hj2, hown, hpk, hbw⟩ := hrel
            have HO2 := Lib.hid hown
            have HP2 := Lib.hid hpk
            have HBW := Lib.hid hbw
            have hsz := HBW.out.size
            have hszf := HBF.out.size
            clear hown hpk hbw
            by_cases hlt3 : i < ln
            · have hi2 : k * r + i < xs.length := by have := HLN2.out; omega
              have hip : i < (partOf xs r k).length := by rw [HLN.out]; exact hlt3
              obtain ⟨_, _, e0, p0, p1⟩ := (HRF.out.belowAt HBW.out (fun b e => by cases e; exact hbxW)).pair i hip
              cases e0
              rw [partOf_get hip, HOC.out] at p0 p1
              have hpb := HXB.out _ (List.getElem_mem hi2)
              have HPB := Lib.hid hpb
              obtain ⟨px, hpx⟩ : ∃ px, xs[k * r + i] = px := ⟨_, rfl⟩
              rw [hpx] at p0 p1 HPB
              obtain ⟨v1, v2⟩ := px
              simp only at p0 p1
              have HPX := Lib.hid hpx
              have u4 : (i : Int) < (ln : Int) := by omega
              clear hpx hip hpb
              go_wp2_with fail
              have YF : Hid (Rd 2 encP wf (.slice ay ys.length cy) ys) := Lib.hid ((HY.out.below HB3.out).but HBF.out (fun b e => by have := HYO.out b e; omega))
              have YW : Hid (Rd 2 encP wr (.slice ay ys.length cy) ys) := Lib.hid (YF.out.belowAt HBW.out (fun b e => by have := HYO.out b e; omega))
              refine (nextWith_any v2 (.slice ay ys.length cy) ys j2 hj2 _ (YW.out.alloc _) (by omega) (by have := HPB.out; omega) (fun p hp => (HYB.out p hp).2)).mono ?_
              rintro e wn ⟨⟨x, hx1, hx2, hx3, hx4, rfl⟩, hwn⟩
              have HX3 := Lib.hid hx3
              have HX4 := Lib.hid hx4
              obtain ⟨wy, hwy⟩ : ∃ wy, wr.alloc (.cells #[.int .i64 (v1 : Int), .int .i64 (v2 : Int)] 69) = wy := ⟨_, rfl⟩
              obtain ⟨Bb, hBb⟩ : ∃ Bb, wr.heap.size = Bb := ⟨_, rfl⟩
              have kb : Blk Bb 69 #[.int .i64 (v1 : Int), .int .i64 (v2 : Int)] wy := by rw [← hwy, ← hBb]; exact Blk.new _ _ _
              have bwy : Below W3.heap.size wf wy := by rw [← hwy]; exact HBW.out.alloc (by omega) _
              have owy : Own1 2 encP wy W3.heap.size 28 u11 P2 := by rw [← hwy]; exact HO2.out.below ((Below.refl _ wr).alloc (Nat.le_refl _) _)
              have ywy : Rd 2 encP wy (.slice ay ys.length cy) ys := by rw [← hwy]; exact YW.out.alloc _
              rw [hwy] at hwn
              rw [hBb]
              obtain rfl := hwn.symm
              have KB := Lib.hid kb
              have BWY := Lib.hid bwy
              have OWY := Lib.hid owy
              have YWY := Lib.hid ywy
              have hBbs : W3.heap.size ≤ Bb := by omega
              clear hx3 hx4 hwy hBb kb bwy owy ywy HBW HO2 YW p0 p1 hsz hwn
              have cB := KB.out.cell 0
              by_cases hlx : x < ys.length
              · have u5 : (x : Int) < (ys.length : Int) := by omega
                have hir : i + 1 ≤ r := by have := HLN2.out; omega
                have hip : i + 1 ≤ (partOf xs r k).length := by rw [HLN.out]; exact hlt3
                have HHd : Hd (C + 1) h (ys.length + 1) C wy := (H3.out.but HBF.out (by omega)).below BWY.out z3
                have HGd : Grid C h (ys.length + 1) M2 wy := HG2.out.below BWY.out (by omega)
                have r1 := HHd.cell (show nb + 1 + i < h by have := HHH.out; omega)
                have r2 := HHd.cell (show nb + 1 + (i + 1) < h by have := HHH.out; omega)
                have g1 := HGd.cell (show nb + 1 + i < h by have := HHH.out; omega) (show j2 < ys.length + 1 by omega)
                have g2 := HGd.cell (show nb + 1 + (i + 1) < h by have := HHH.out; omega) (show x + 1 < ys.length + 1 by omega)
                rw [HM3.out i j2 (by omega) hj2, Lv_part (by omega)] at g1
                rw [HM3.out (i + 1) (x + 1) (by omega) (by omega), Lv_part hip] at g2
                obtain ⟨o2, ho2⟩ : ∃ o2, (nb + 1 + i) * (ys.length + 1) = o2 := ⟨_, rfl⟩
                obtain ⟨o3, ho3⟩ : ∃ o3, (nb + 1 + (i + 1)) * (ys.length + 1) = o3 := ⟨_, rfl⟩
                obtain ⟨B, hB⟩ : ∃ B, lcs (keys (xs.drop (k * r + i))) (keys (ys.drop j2)) = B := ⟨_, rfl⟩
                obtain ⟨A, hA⟩ : ∃ A, lcs (keys (xs.drop (k * r + (i + 1)))) (keys (ys.drop (x + 1))) = A := ⟨_, rfl⟩
                have hBl : B ≤ 200 := by rw [← hB]; exact Nat.le_trans (lcs_le_right _ _) (by unfold keys; rw [List.length_map, List.length_drop]; omega)
                have hAl : A ≤ 200 := by rw [← hA]; exact Nat.le_trans (lcs_le_right _ _) (by unfold keys; rw [List.length_map, List.length_drop]; omega)
                rw [ho2] at r1 g1
                rw [ho3] at r2 g2
                rw [hB] at g1
                rw [hA] at g2
                have HB := Lib.hid hB
                have HA := Lib.hid hA
                have u6 : (i : Int) < (r : Int) + 1 := by omega
                have u7 : (i : Int) + 1 < (r : Int) + 1 := by omega
                have u8 : (j2 : Int) < (ys.length : Int) + 1 := by omega
                have u9 : (x : Int) + 1 < (ys.length : Int) + 1 := by omega
                clear HHd HGd hA hB ho2 ho3
                by_cases ht : A + 1 = B
                · have t1 : ((A : Int) + 1 == (B : Int)) = true := by rw [beq_iff_eq]; omega
                  have HPK : Hid (pk (xs.drop (k * r + i)) (ys.drop j2) = (xs[k * r + i].1, ys[x].1) :: pk (xs.drop (k * r + i + 1)) (ys.drop (x + 1))) := Lib.hid (pk_step_yes hi2 hx1 hlx (fun z hz h1 h2 => by have := HX3.out z hz h1 h2; rw [HPX.out]; exact this) (by rw [HPX.out]; exact HX4.out hlx) (by rw [HB.out]; have := HA.out; rw [show k * r + (i + 1) = k * r + i + 1 by omega] at this; rw [this]; exact ht))
                  rw [HPX.out] at HPK
                  have HTT := Lib.hid ht
                  clear ht
                  go_wp2_with fail
                  go_quiet (fail)
                  go_wp2_with fail
                  obtain ⟨wz, hwz⟩ : ∃ wz, wy.drewN nq = wz := ⟨_, rfl⟩
                  have BWZ : Hid (Below W3.heap.size wf wz) := Lib.hid (by rw [← hwz]; exact below_drewN BWY.out nq)
                  have OWZ : Hid (Own1 2 encP wz.drew W3.heap.size 28 u11 P2) := Lib.hid (by rw [← hwz]; exact OWY.out.below ((below_drewN (Below.refl _ _) nq).drew))
                  have YWZ : Hid (Rd 2 encP wz.drew (.slice ay ys.length cy) ys) := Lib.hid (by rw [← hwz]; exact YWY.out.below ((below_drewN (Below.refl _ _) nq).drew))
                  obtain ⟨b6, o6, hay, y0, _⟩ := YWZ.out.pair x hlx
                  have z0 : wz.drew.cell? ⟨Bb, 0, none⟩ = some (.int .i64 (v1 : Int)) := by rw [← hwz]; exact cB
                  have hPl : P2.length ≤ 200 := by
                    have e1 := congrArg List.length HP2.out
                    have e2 := pk_length xs ys
                    rw [List.length_append] at e1
                    omega
                  obtain ⟨y1, hy1⟩ : ∃ y1, (ys[x]).1 = y1 := ⟨_, rfl⟩
                  rw [hy1] at y0 HPK
                  have HAY := Lib.hid hay
                  obtain ⟨iI, hiI, hzI, hkI, hbI⟩ := info_parts Try.infoPr
                  rw [hwz]
                  subst hay
                  have hsw : W3.heap.size ≤ wz.heap.size := by have := BWZ.out.size; omega
                  clear hwz r1 r2 g1 g2 u4 u6 u7 u8 u9 t1 cB HAY hir hip hBl hAl hBbs hwC q1 q2 q3 z3 hbxW hcx hcy hcx2 hcy2 hszf hy1
                  go_region_law (refine step_append_at (w0 := wz.drew) (x := (v1, y1)) (N := wz.heap.size) rfl rfl _ _ 25 rfl W3.heap.size iI _ 16 Try.underlying25 hiI hzI hkI hbI (by omega) rfl (by omega) encP_len encP_one _ P2 rfl rfl OWZ.out rfl (by omega) hsw ?_; intro v9 w9 h9)
                  all_goals (
                    have H9 := Lib.hid h9
                    clear h9 y0 z0
                    go_wp2
                    go_roundw
                    case measure => simp [intOf]; omega
                    case rel => exact ⟨i + 1, x + 1, P2 ++ [(v1, y1)], by go_num, by omega, by go_num, by omega, H9.out.1, by rw [← HP2.out, HPK.out, List.append_assoc]; rfl, BWZ.out.trans ((Below.refl _ wz).drew.trans H9.out.2)⟩)
                · have t1 : ((A : Int) + 1 == (B : Int)) = false := by rw [beq_eq_false_iff_ne]; omega
                  have HPK : Hid (pk (xs.drop (k * r + i)) (ys.drop j2) = pk (xs.drop (k * r + i + 1)) (ys.drop j2)) := Lib.hid (pk_step_no hi2 hx1 hlx (fun z hz h1 h2 => by have := HX3.out z hz h1 h2; rw [HPX.out]; exact this) (by rw [HPX.out]; exact HX4.out hlx) (by rw [HB.out]; have := HA.out; rw [show k * r + (i + 1) = k * r + i + 1 by omega] at this; rw [this]; exact ht))
                  have HTT := Lib.hid ht
                  clear ht cB
                  go_wp2_with fail
                  go_quiet (fail)
                  go_wp2
                  go_roundw
                  case measure => simp [intOf]; omega
                  case rel => exact ⟨i + 1, j2, P2, by go_num, by omega, rfl, hj2, OWY.out.below (below_drewN (Below.refl _ _) _), by rw [← HP2.out, HPK.out]; rfl, below_drewN BWY.out _⟩
              · obtain rfl : x = ys.length := by omega
                have u5 : ¬ (ys.length : Int) < (ys.length : Int) := by omega
                have HPK : Hid (pk (xs.drop (k * r + i)) (ys.drop j2) = pk (xs.drop (k * r + i + 1)) (ys.drop j2)) := Lib.hid (pk_step_none hi2 (fun z hz h1 h2 => by have := HX3.out z hz h1 h2; rw [HPX.out]; exact this))
                clear cB
                go_wp2_with fail
                go_quiet (fail)
                go_wp2
                go_roundw
                case measure => simp [intOf]; omega
                case rel => exact ⟨i + 1, j2, P2, by go_num, by omega, rfl, hj2, OWY.out.below (below_drewN (Below.refl _ _) _), by rw [← HP2.out, HPK.out]; rfl, below_drewN BWY.out _⟩
            · obtain rfl : i = ln := by omega
              have u4 : ¬ (i : Int) < (i : Int) := by omega
              go_wp2
              go_roundw
              case measure => simp [intOf]; omega
              case rel =>
              refine ⟨k + 1, j2, P2, M2, by go_num, by omega, rfl, hj2, HO2.out, ?_, HG2.out.below HBW.out (by omega), HM2.out, fun k' h1 h2 j' hj' => by rw [HM1.out k' j' (.inl (by omega))]; exact HM.out k' h1 h2 j' hj', HBF.out.then_ HBW.out⟩
              rw [← HP2.out]
              congr 2
              have := HLN2.out
              rcases Nat.le_total r (xs.length - k * r) with h1 | h1
              · rw [show k * r + i = (k + 1) * r by rw [Nat.add_mul]; omega]
              · rw [List.drop_eq_nil_iff.2 (show xs.length ≤ k * r + i by omega), List.drop_eq_nil_iff.2 (show xs.length ≤ (k + 1) * r by rw [Nat.add_mul]; omega)]
        · obtain rfl : k = nb := by omega
          have u1 : ¬ (k : Int) < (k : Int) := by omega
          rw [List.drop_eq_nil_iff.2 HN1.out] at hpk
          have HO := Lib.hid hown
          have HT := Lib.hid bt
          have HP := Lib.hid hpk
          clear g zM gM bt hown hpk
          go_wp2
          go_ret
          refine ⟨_, rfl, ?_, HB3.out.trans (HT.out.below hwC HB3.out.size)⟩
          rw [← HP.out]
          show Own1 2 encP wr w.heap.size 28 u11 (P ++ [])
          rw [List.append_nil]
          exact HO.out.base HB3.out.size
end Go.Proofs.Ytcnjomkddbbopaa
