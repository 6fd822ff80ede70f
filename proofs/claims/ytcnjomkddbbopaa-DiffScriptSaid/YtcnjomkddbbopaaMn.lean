/- diff.Common, diff.Distance. -/
import Derived.Test.YtcnjomkddbbopaaMm
namespace Go.Proofs.Ytcnjomkddbbopaa
open Go.RowKit
set_option linter.unusedVariables false

section
variable {α : Type} {k : Nat} {enc : α → List Value}
theorem flat_inv (hk : ∀ x : α, (enc x).length = k) : ∀ (l : List α) (j : Nat) (u : Value), (l.flatMap enc)[j]? = some u → ∃ i x jj, l[i]? = some x ∧ (enc x)[jj]? = some u ∧ j = i * k + jj
  | [], j, u, h => by simp at h
  | y :: l, j, u, h => by
    rw [List.flatMap_cons] at h
    rcases Nat.lt_or_ge j (enc y).length with hj | hj
    · rw [List.getElem?_append_left hj] at h
      exact ⟨0, y, j, rfl, h, by simp⟩
    · rw [List.getElem?_append_right hj, hk] at h
      obtain ⟨i, x, jj, h1, h2, h3⟩ := flat_inv hk l _ u h
      exact ⟨i + 1, x, jj, by simpa using h1, h2, by rw [hk] at hj; rw [Nat.add_mul]; omega⟩
variable {P : Program} {ops : Array Oper} {rest : List Oper} {o : Oper} {a : Act} {Q : Exit → Act → World → Prop}
/-- A list more. -/
theorem wpList_append_rd {w : World} {e : TypeId} (hgd : o.guard = none) (s y : Operand) (t : TypeId)
    (ho : o.op = .call { callee := .builtin .append, args := #[s, y], argTypes := #[t, t] })
    (base : Nat) (i : TypeInfo) (z : Value) (by_ : Nat) (ht : P.underlying t = some (.slice e)) (hi : P.info? e = some i) (hz : i.zero = some z) (hsize : i.size = k) (hby : i.bytes = by_) (hb64 : by_ ≤ 64) (hzs : z.cells.size = k) (hk0 : 0 < k)
    (hk : ∀ x : α, (enc x).length = k) (h1c : ∀ x : α, ∀ u ∈ enc x, u.oneCell' = true)
    (v : Value) (l r : List α) (u : Value) (hs : a.eval s = v) (hown : Own1 k enc w base e v l) (hx : a.eval y = u) (hu : Rd k enc w u r)
    (hl : l.length + r.length ≤ 1000000000) (hbase : base ≤ w.heap.size)
    (h : ∀ v' w', Own1 k enc w' base e v' (l ++ r) → Below base w w' → wpList P ops Q rest (a.put o.dst v') w') : wpList P ops Q (o :: rest) a w := by
  obtain ⟨⟨ad, c, rfl, hc1, hc2, hc⟩, hn⟩ := hu
  rcases ad with _ | ad
  · have hr : r = [] := by
      rcases Classical.em (r = []) with h0 | h0
      · exact h0
      · obtain ⟨b, off, hb, _⟩ := hc h0
        cases hb
    subst hr
    have hc0 := hn _ _ rfl
    subst hc0
    refine wpList_append_own_none hgd s y t ho base e i k ht hi v l.length (l.flatMap enc) hs hown hx ?_
    exact h v w (by simpa using hown) (Below.refl _ _)
  · refine wpList_append_own w hgd s y t ho base e i z k by_ ht hi hz hsize hby hzs hk0 v l.length (l.flatMap enc) hs hown ad r.length c (r.flatMap enc) hx (flat_len hk r) ?_ ?_ (by unfold maxLen; omega) (Nat.le_trans (Nat.mul_le_mul_left _ hb64) (by omega)) hbase ?_
    · intro j u hj
      obtain ⟨i', x, jj, h1, h2, h3⟩ := flat_inv hk r j u hj
      obtain ⟨b, off, hb, _, hcc⟩ := hc (fun e => by rw [e] at h1; simp at h1)
      cases hb
      rw [add_off, h3, ← Nat.add_assoc]
      exact hcc i' x h1 jj u h2
    · intro u hu
      obtain ⟨x, _, hx⟩ := List.mem_flatMap.1 hu
      exact h1c x u hx
    · intro v' w' h2 h3 _
      refine h v' w' ?_ ((Below.refl base w).grown h3 hbase (fun j e => (World.ownsRow.lt hown j e).1))
      unfold Own1
      rw [List.flatMap_append, List.length_append]
      exact h2
end

set_option maxRecDepth 1000000 in
set_option maxHeartbeats 1000000 in
theorem common_any (va vb : Value) (a b : List Str) (w : World) (ha : Rd 1 encT w va a) (hb : Rd 1 encT w vb b) (hla : a.length ≤ 200) (hlb : b.length ≤ 200) (hsa : ∀ s ∈ a, s.length ≤ 1000) (hsb : ∀ s ∈ b, s.length ≤ 1000) :
    Calls Try.prog 12 #[va, vb] w fun e w' => ∃ v, e = .returned v ∧ Own1 2 encP w' w.heap.size 28 v (comm a b 0 0) ∧ Below w.heap.size w w' := by
  obtain ⟨aa, ca, rfl, hca, hca2⟩ := ha.slice
  obtain ⟨ab, cb, rfl, hcb, hcb2⟩ := hb.slice
  obtain ⟨iI, hiI, hzI, hkI, hbI⟩ := info_parts Try.infoPr
  have HA := Lib.hid ha
  have HB := Lib.hid hb
  clear ha hb hca hca2 hcb hcb2
  obtain ⟨mn, hmn⟩ : ∃ mn, min a.length b.length = mn := ⟨_, rfl⟩
  have HMN := Lib.hid hmn
  have hif : (if b.length < a.length then (b.length : Int) else (a.length : Int)) = (mn : Int) := by rw [← hmn]; split <;> omega
  have hml : mn ≤ a.length := by omega
  have hml2 : mn ≤ b.length := by omega
  clear hmn
  go_enter Try.func12, Try.ntmps12
  go_wp2
  go_loopw [5, 6] (fun pv iv wr => ∃ k : Nat, k ≤ mn ∧ iv = .int .i64 k ∧ a.take k = b.take k ∧ Own1 2 encP wr w.heap.size 28 pv (diag k) ∧ Below w.heap.size w wr) (fun _ iv _ => mn - (intOf iv).toNat)
  case atStart => exact ⟨0, Nat.zero_le _, rfl, rfl, own1_nil _ _ _, Below.refl _ _⟩
  case round =>
    obtain ⟨k, hk, rfl, hpre, hown, hb⟩ := hrel
    have HP := Lib.hid hpre
    have HO := Lib.hid hown
    have HBW := Lib.hid hb
    have hsz := hb.size
    clear hpre hown hb
    by_cases hlt : k < mn
    · obtain ⟨ba, oa, rfl, c1⟩ := (HA.out.below HBW.out).str k (by omega)
      obtain ⟨bb, ob, rfl, c2⟩ := (HB.out.below HBW.out).str k (by omega)
      have hlt' : (k : Int) < (mn : Int) := by omega
      have hka : (k : Int) < (a.length : Int) := by omega
      have hkb : (k : Int) < (b.length : Int) := by omega
      have T1 := Lib.hid (take_next (l := a) (k := k) (by omega))
      have T2 := Lib.hid (take_next (l := b) (k := k) (by omega))
      obtain ⟨s, hs⟩ : ∃ s, a[k] = s := ⟨_, rfl⟩
      obtain ⟨t, ht⟩ : ∃ t, b[k] = t := ⟨_, rfl⟩
      rw [hs] at c1 T1
      rw [ht] at c2 T2
      clear hs ht
      by_cases hst : s = t
      · subst hst
        have HPP : Hid (a.take (k + 1) = b.take (k + 1)) := Lib.hid (by rw [T1.out, T2.out, HP.out])
        go_wp2_with fail
        go_quiet (fail)
        have O1 := Lib.hid (HO.out.below (below_drewN (Below.refl _ wr) nq))
        have BW1 := Lib.hid (below_drewN HBW.out nq)
        have hdl : (diag k).length = k := by simp [diag]
        clear c1 c2
        go_wp2_with (first | (at_builtin; refine wpList_append_at (w0 := wr.drewN nq) (x := (k, k)) (N := wr.heap.size) rfl rfl _ _ 25 rfl w.heap.size iI _ 16 Try.underlying25 hiI hzI hkI hbI (by omega) rfl (by omega) encP_len encP_one _ (diag k) rfl rfl O1.out rfl (by omega) hsz ?_; intro v9 w9 y1 y2 y3) | go_in)
        have HY1 := Lib.hid y1
        have HY2 := Lib.hid y2
        clear y1 y2 y3
        go_wp2
        go_roundw
        case measure => simp [intOf]; omega
        case rel => exact ⟨k + 1, by omega, by go_num, HPP.out, by rw [diag_snoc]; exact HY1.out, BW1.out.trans HY2.out⟩
      · obtain ⟨q1, q2⟩ := str_ne hst
        have HST := Lib.hid hst
        clear hst
        go_wp2_with fail
        go_quiet (fail)
        clear c1 c2 q1 q2
        obtain ⟨ap, cp, hpv⟩ := HO.out.slice
        rw [show (diag k).length = k by simp [diag]] at hpv
        subst hpv
        have BW1 : Hid (Below w.heap.size w (wr.drewN nq)) := Lib.hid (below_drewN HBW.out nq)
        have A1 := HA.out.below BW1.out
        have B1 := HB.out.below BW1.out
        go_wp2_with fail
        refine (shared_any _ _ a b k _ A1 B1 (by omega) (by omega) hla hlb hsa hsb).mono ?_
        rintro e w1 ⟨vx, vy, rfl, ox, oy, b1⟩
        have BW2 := Lib.hid (st BW1.out b1 BW1.out.size)
        have O1 := Lib.hid ((HO.out.below (below_drewN (Below.refl _ wr) nq)).below b1)
        have HOY := Lib.hid oy.lt_
        have RX := Lib.hid (ox.rd encP_len)
        have RY := Lib.hid (oy.rd encP_len)
        clear A1 B1 ox oy b1 HO HBW
        go_wp2_with fail
        have l1 := itemsOf_length (a.drop k) (b.drop k) k (a.drop k)
        have l2 := itemsOf_length (a.drop k) (a.drop k) k (b.drop k)
        rw [List.length_drop] at l1 l2
        have FF := firstLongest_any vx vy _ _ w1 RX.out RY.out (by omega) (by omega) (fun p hp => by have := itemsOf_mem hp (fun s h _ => h); rw [List.length_drop] at this; omega) (fun p hp => by have := itemsOf_mem hp (fun s _ h => h); rw [List.length_drop, List.length_drop] at this; omega) (fun b h => (HOY.out b h).2)
        rw [pk_items] at FF
        refine FF.mono ?_
        rintro e w2 ⟨v, rfl, ov, b2⟩
        have BW3 := Lib.hid (st BW2.out b2 BW2.out.size)
        have O2 := Lib.hid (O1.out.below b2)
        have RV := Lib.hid (ov.rd encP_len)
        have l3 := pk_length (en k (a.drop k)) (en k (b.drop k))
        rw [en_length, List.length_drop] at l3
        have hdl : (diag k).length = k := by simp [diag]
        clear FF ov b2 O1 RX RY HOY l1 l2
        go_wp2_with (first | (at_builtin; refine wpList_append_rd rfl _ _ 25 rfl w.heap.size iI _ 16 Try.underlying25 hiI hzI hkI hbI (by omega) rfl (by omega) encP_len encP_one _ (diag k) _ v rfl O2.out rfl RV.out (by omega) BW3.out.size ?_; intro v9 w9 y1 y2) | go_in)
        have HY1 := Lib.hid y1
        have HY2 := Lib.hid y2
        clear y1 y2
        go_wp2
        go_ret
        exact ⟨_, rfl, by rw [comm_front a b k (by omega) (by omega) HP.out]; exact HY1.out, BW3.out.trans HY2.out⟩
    · obtain rfl : k = mn := by omega
      have hlt' : ¬ (k : Int) < (k : Int) := by omega
      go_wp2_with fail
      go_quiet (fail)
      obtain ⟨ap, cp, hpv⟩ := HO.out.slice
      rw [show (diag k).length = k by simp [diag]] at hpv
      subst hpv
      have BW1 : Hid (Below w.heap.size w (wr.drewN nq)) := Lib.hid (below_drewN HBW.out nq)
      have A1 := HA.out.below BW1.out
      have B1 := HB.out.below BW1.out
      go_wp2_with fail
      refine (shared_any _ _ a b k _ A1 B1 (by omega) (by omega) hla hlb hsa hsb).mono ?_
      rintro e w1 ⟨vx, vy, rfl, ox, oy, b1⟩
      have BW2 := Lib.hid (st BW1.out b1 BW1.out.size)
      have O1 := Lib.hid ((HO.out.below (below_drewN (Below.refl _ wr) nq)).below b1)
      have HOY := Lib.hid oy.lt_
      have RX := Lib.hid (ox.rd encP_len)
      have RY := Lib.hid (oy.rd encP_len)
      clear A1 B1 ox oy b1 HO HBW
      go_wp2_with fail
      have l1 := itemsOf_length (a.drop k) (b.drop k) k (a.drop k)
      have l2 := itemsOf_length (a.drop k) (a.drop k) k (b.drop k)
      rw [List.length_drop] at l1 l2
      have FF := firstLongest_any vx vy _ _ w1 RX.out RY.out (by omega) (by omega) (fun p hp => by have := itemsOf_mem hp (fun s h _ => h); rw [List.length_drop] at this; omega) (fun p hp => by have := itemsOf_mem hp (fun s _ h => h); rw [List.length_drop, List.length_drop] at this; omega) (fun b h => (HOY.out b h).2)
      rw [pk_items] at FF
      refine FF.mono ?_
      rintro e w2 ⟨v, rfl, ov, b2⟩
      have BW3 := Lib.hid (st BW2.out b2 BW2.out.size)
      have O2 := Lib.hid (O1.out.below b2)
      have RV := Lib.hid (ov.rd encP_len)
      have l3 := pk_length (en k (a.drop k)) (en k (b.drop k))
      rw [en_length, List.length_drop] at l3
      have hdl : (diag k).length = k := by simp [diag]
      clear FF ov b2 O1 RX RY HOY l1 l2
      go_wp2_with (first | (at_builtin; refine wpList_append_rd rfl _ _ 25 rfl w.heap.size iI _ 16 Try.underlying25 hiI hzI hkI hbI (by omega) rfl (by omega) encP_len encP_one _ (diag k) _ v rfl O2.out rfl RV.out (by omega) BW3.out.size ?_; intro v9 w9 y1 y2) | go_in)
      have HY1 := Lib.hid y1
      have HY2 := Lib.hid y2
      clear y1 y2
      go_wp2
      go_ret
      exact ⟨_, rfl, by rw [comm_front a b k (by omega) (by omega) HP.out]; exact HY1.out, BW3.out.trans HY2.out⟩
end Go.Proofs.Ytcnjomkddbbopaa
