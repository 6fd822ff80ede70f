/- Of the program: increased. -/
import Derived.Test.YteofkofgdhmpjaaDoorKl
namespace Go.Proofs.YteofkofgdhmpjaaDoor
open Go.RowKit
set_option linter.unusedVariables false

theorem val_set : ∀ (m : Str) (q : Nat) (h : q < m.length) (c : UInt8), val (m.set q c) + dg m[q] * 10 ^ (m.length - 1 - q) = val m + dg c * 10 ^ (m.length - 1 - q)
  | [], q, h, _ => by simp at h
  | d :: m, 0, _, c => by
    rw [List.set_cons_zero, val_cons, val_cons]
    simp only [List.getElem_cons_zero, List.length_cons, Nat.add_sub_cancel, Nat.sub_zero]
    omega
  | d :: m, q + 1, h, c => by
    have hq : q < m.length := by simpa using h
    have ih := val_set m q hq c
    rw [List.set_cons_succ, val_cons, val_cons, List.length_set]
    have e : (d :: m).length - 1 - (q + 1) = m.length - 1 - q := by rw [List.length_cons]; omega
    rw [e]
    simp only [List.getElem_cons_succ]
    omega
theorem allD_set {m : Str} (h : allD m) (q : Nat) {c : UInt8} (hc : isD c = true) : allD (m.set q c) := fun x hx => by
  rcases List.mem_or_eq_of_mem_set hx with h1 | h1
  · exact h x h1
  · rw [h1]; exact hc
theorem flat_setB : ∀ (m : Str) (i : Nat) (x : UInt8), (m.set i x).flatMap encB = (m.flatMap encB).set i (.int .u8 (x.toNat : Int))
  | [], i, x => by simp
  | y :: m, 0, x => by simp [encB]
  | y :: m, i + 1, x => by
    rw [List.set_cons_succ, List.flatMap_cons, List.flatMap_cons, flat_setB m i x]
    simp [encB]
theorem Own1.putB {w : World} {base : Nat} {e : TypeId} {g n cap : Nat} {m : Str} (h : Own1 1 encB w base e (.slice (some ⟨g, 0, none⟩) n cap) m) (i : Nat) (x : UInt8) :
    Own1 1 encB (w.setCell ⟨g, i, none⟩ (.int .u8 (x.toNat : Int))) base e (.slice (some ⟨g, 0, none⟩) n cap) (m.set i x) := by
  have hn : m.length = n := by obtain ⟨a, c, hv⟩ := h.slice; injection hv with h1 h2 h3; exact h2.symm
  have h0 := h.1
  rcases h.2 with ⟨hv, _⟩ | ⟨g', cap', cur, hv, hB, hg, hr⟩
  · cases hv
  · injection hv with e1 e2 e3
    injection e1 with e1
    injection e1 with e1
    subst e1 e3
    obtain ⟨r1, r2, r3, r4⟩ := hr
    have hb : Blk g e cur w := hg
    have hb2 := hb.put i (.int .u8 (x.toNat : Int))
    refine ⟨?_, .inr ⟨g, cap, _, by rw [List.length_set, hn], hB, hb2, ?_⟩⟩
    · unfold Own1 World.ownsRow at *
      rw [flat_len encB_len, List.length_set]
    · rw [List.length_set]
      refine ⟨r1, r2, by simpa using r3, ?_⟩
      rw [flat_setB, ← r4]
      simp [List.take_set, Array.toList_setIfInBounds]
theorem rdv2 (w : World) (v1 v2 : Value) : Rd 1 encV (w.alloc (.cells #[v1, v2] 52)) (.slice (some ⟨w.heap.size, 0, none⟩) 2 2) [v1, v2] := by
  have k := Blk.new w 52 #[v1, v2]
  refine ⟨⟨_, 2, rfl, Nat.le_refl _, by omega, fun _ => ⟨w.heap.size, 0, rfl, k.lt, fun i u hi j v hv => ?_⟩⟩, fun n c hc => by cases hc⟩
  have hj : j = 0 := by have := (List.getElem?_eq_some_iff.1 hv).1; simp [encV] at this; exact this
  subst hj
  simp [encV] at hv
  subst hv
  rw [k.cell]
  have hi3 := (List.getElem?_eq_some_iff.1 hi).1
  simp at hi3
  obtain rfl | rfl : i = 0 ∨ i = 1 := by omega
  all_goals (simp at hi; subst hi; rfl)
theorem rdl2 {w : World} {v1 v2 : Value} {l1 l2 : Str} (h1 : RdB w v1 l1) (h2 : RdB w v2 l2) : RdL w [v1, v2] [l1, l2] := by
  refine ⟨rfl, fun i v l hv hl => ?_⟩
  have hi3 := (List.getElem?_eq_some_iff.1 hv).1
  simp at hi3
  obtain rfl | rfl : i = 0 ∨ i = 1 := by omega
  all_goals (simp at hv hl; subst hv hl; assumption)
/-- zeros, its result written out. -/
theorem zeros_at (n : Int) (k : Nat) (hk : n.toNat = k) (h1 : -1000 ≤ n) (h2 : n ≤ 1000) (w : World) :
    Calls Tryd.prog 46 #[.int .i64 n] w fun e w' => ∃ a c, e = .returned (.slice a k c) ∧ RdB w' (.slice a k c) (zs k) ∧ Below w.heap.size w w' := by
  refine (zeros_any n h1 h2 w).mono ?_
  rintro e w' ⟨v, rfl, o, b⟩
  rw [hk] at o
  have r := o.rd encB_len
  obtain ⟨a, c, rfl, _, _⟩ := r.slice
  rw [zs_len] at r ⊢
  exact ⟨a, c, rfl, r, b⟩
def IncI (w : World) (base : Nat) (v : Value) (l : Str) (L : Nat) (v4 v5 : Value) (wr : World) : Prop :=
  ∃ m : Str, OwnB wr base v m ∧ m.length = L ∧ allD m ∧ Below base w wr ∧ ((∃ q : Nat, v4 = .int .u8 1 ∧ v5 = .int .i64 q ∧ q < L ∧ val m + 10 ^ (L - 1 - q) = val l + 1) ∨ (∃ i : Int, v4 = .int .u8 0 ∧ v5 = .int .i64 i ∧ val m = val l + 1))
set_option maxRecDepth 1000000 in
set_option maxHeartbeats 8000000 in
theorem increased_any (v : Value) (l : Str) (w : World) (hv : RdB w v l) (hd : allD l) (hl : l.length ≤ 1000) :
    Calls Tryd.prog 47 #[v] w fun e w' => ∃ v m, e = .returned v ∧ RdB w' v m ∧ allD m ∧ m.length = l.length + 1 ∧ val m = val l + 1 ∧ Below w.heap.size w w' := by
  obtain ⟨iB, hiB, hzB, hkB, hbB⟩ := info_parts Tryd.infoB
  obtain ⟨a, c, rfl, _, _⟩ := hv.slice
  have HV := Lib.hid hv
  have HD := Lib.hid hd
  clear hv hd
  go_enter Tryd.func47, Tryd.ntmps47
  go_wp2_with fail
  refine (zeros_at 1 1 rfl (by omega) (by omega) _).mono ?_
  rintro e w1 ⟨a3, c3, rfl, r3, b1⟩
  have R3 := Lib.hid r3
  have HV1 := Lib.hid (HV.out.below b1)
  have HB1 := Lib.hid b1
  clear r3 b1
  go_wp2_with fail
  refine (concat_any _ [.slice a3 1 c3, .slice a l.length c] [zs 1, l] _ (rdv2 w1 _ _) (rdl2 (R3.out.alloc _) (HV1.out.alloc _)) (by simp [zs]; omega) (by simp)).mono ?_
  rintro e w2 ⟨v2, rfl, o2, b2⟩
  have HB2 := Lib.hid (st (HB1.out.alloc HB1.out.size (.cells #[.slice a3 1 c3, .slice a l.length c] 52)) b2 (HB1.out.alloc HB1.out.size _).size)
  have e2 : [zs 1, l].flatten = 48 :: l := by simp [zs]
  rw [e2] at o2
  rcases o2.2 with ⟨rfl, h0⟩ | ⟨g, cap, cur, rfl, hBg, hg, hr⟩
  · simp at h0
  · have OW := Lib.hid (o2.base (Nat.le_trans HB1.out.size (show w1.heap.size ≤ _ by simp)))
    have hgw : w.heap.size ≤ g := (OW.out.lt_ g rfl).1
    obtain ⟨L, hL⟩ : ∃ L, (48 :: l : Str).length = L := ⟨_, rfl⟩
    have hL2 : L = l.length + 1 := by rw [← hL]; rfl
    have HL := Lib.hid hL2
    have hL1 : L ≤ 1001 := by omega
    rw [hL] at OW ⊢
    clear o2 hg hr hBg b2 e2 hL2
    have HL0 := Lib.hid hL
    clear hL
    have q0 : (0 : Int) < (L : Int) := by have := HL.out; omega
    go_wp2
    go_loopw [4, 5] (fun v4 v5 wr => IncI w w.heap.size (.slice (some ⟨g, 0, none⟩) L cap) l L v4 v5 wr) (fun v4 v5 _ => (intOf v4).toNat * ((intOf v5).toNat + 1))
    case atStart =>
      refine ⟨48 :: l, OW.out, HL0.out, allD_cons.2 ⟨rfl, HD.out⟩, HB2.out, .inl ⟨L - 1, rfl, ?_, by omega, ?_⟩⟩
      · exact val_int (by omega)
      · rw [val_cons, show L - 1 - (L - 1) = 0 by omega, dg_48]; omega
    case round =>
      obtain ⟨m, ho, hml, hdm, hb, hcase⟩ := hrel
      have HO := Lib.hid ho
      have HM := Lib.hid hml
      have HDM := Lib.hid hdm
      have HB := Lib.hid hb
      clear ho hml hdm hb
      rcases hcase with ⟨q, rfl, rfl, hq, hval⟩ | ⟨i, rfl, rfl, hval⟩
      · have HVA := Lib.hid hval
        clear hval
        have hqm : q < m.length := by rw [HM.out]; exact hq
        obtain ⟨bb, off, hbo, hx⟩ := (HO.out.rd encB_len).byte q hqm
        cases hbo
        rw [Nat.zero_add] at hx
        have hdig := isD_iff.1 (HDM.out _ (List.getElem_mem hqm))
        obtain ⟨cs, hblk⟩ : ∃ cs, Blk g 5 cs wr := by
          rcases HO.out.2 with ⟨h, _⟩ | ⟨g', cp, cu, h, _, hg, _⟩
          · cases h
          · cases h; exact ⟨cu, hg⟩
        have xf := hblk.frozen q
        obtain ⟨x, hxx⟩ : ∃ x : Nat, (m[q]).toNat = x := ⟨_, rfl⟩
        rw [hxx] at hx hdig
        obtain ⟨d1, d2⟩ := hdig
        have g1 : (q : Int) < (L : Int) := by omega
        have HX := Lib.hid hxx
        have hzL : w.heap.size ≤ g := hgw
        clear hblk hxx
        by_cases h9 : x = 57
        · subst h9
          have HS : Hid (IncI w w.heap.size (.slice (some ⟨g, 0, none⟩) L cap) l L (.int .u8 1) (.int .i64 ((q : Int) - 1)) (wr.setCell ⟨g, q, none⟩ (.int .u8 48))) := Lib.hid (by
            have hvs := val_set m q hqm 48
            have hdg : dg m[q] = 9 := by unfold dg; rw [HX.out]
            rw [hdg, dg_48, HM.out] at hvs
            have hlow : val l < 10 ^ (L - 1) := by
              have := val_lt HD.out
              rw [HL.out, Nat.add_sub_cancel]
              exact this
            have hqp : 0 < q := by
              rcases Nat.eq_zero_or_pos q with h0 | h0
              · exfalso
                subst h0
                have h1 := HVA.out
                have h2 : 9 * 10 ^ (L - 1 - 0) ≤ val m := by omega
                rw [Nat.sub_zero] at h1 h2
                omega
              · exact h0
            refine ⟨m.set q 48, HO.out.putB q 48, by rw [List.length_set, HM.out], allD_set HDM.out q rfl, HB.out.setCell (p := ⟨g, q, none⟩) hzL _, .inl ⟨q - 1, rfl, val_int (by omega), by omega, ?_⟩⟩
            have hp : 10 ^ (L - 1 - (q - 1)) = 10 * 10 ^ (L - 1 - q) := by
              rw [show L - 1 - (q - 1) = (L - 1 - q) + 1 by omega, Nat.pow_succ, Nat.mul_comm]
            rw [hp, ← HVA.out]
            omega)
          have hqp : Hid (0 < q) := Lib.hid (by
            obtain ⟨m', _, _, _, _, h | ⟨i, h, _⟩⟩ := HS.out
            · obtain ⟨q', _, h2, _⟩ := h
              injection h2 with _ h2
              omega
            · cases h)
          clear d1 d2
          go_wp2
          go_roundw
          case rel => exact HS.out
          case measure => have := hqp.out; simp [intOf]; omega
        · have h9' : x ≤ 56 := by omega
          have hcx : (UInt8.ofNat (x + 1)).toNat = x + 1 := by simp; omega
          have HS : Hid (IncI w w.heap.size (.slice (some ⟨g, 0, none⟩) L cap) l L (.int .u8 0) (.int .i64 ((q : Int) - 1)) (wr.setCell ⟨g, q, none⟩ (.int .u8 ((x : Int) + 1)))) := Lib.hid (by
            have hvs := val_set m q hqm (UInt8.ofNat (x + 1))
            have hdg : dg m[q] + 1 = dg (UInt8.ofNat (x + 1)) := by unfold dg; rw [HX.out, hcx]; omega
            rw [← hdg, HM.out, Nat.add_mul] at hvs
            have ho := HO.out.putB q (UInt8.ofNat (x + 1))
            rw [hcx] at ho
            refine ⟨m.set q (UInt8.ofNat (x + 1)), ho, by rw [List.length_set, HM.out], allD_set HDM.out q (isD_iff.2 (by rw [hcx]; omega)), HB.out.setCell (p := ⟨g, q, none⟩) hzL _, .inr ⟨_, rfl, rfl, ?_⟩⟩
            rw [← HVA.out]
            omega)
          clear hcx h9
          have hE : Hid (((x : Int) - 48 + 1) / 10 = 0 ∧ 48 + ((x : Int) - 48 + 1) % 10 = (x : Int) + 1) := Lib.hid (by omega)
          go_wp2
          go_roundw
          case rel => rw [hE.out.1, hE.out.2]; exact HS.out
          case measure => rw [hE.out.1]; simp [intOf]
      · have HVA := Lib.hid hval
        clear hval
        go_wp2
        go_ret
        exact ⟨_, m, rfl, HO.out.rd encB_len, HDM.out, by rw [HM.out, HL.out], HVA.out, HB.out⟩
end Go.Proofs.YteofkofgdhmpjaaDoor
