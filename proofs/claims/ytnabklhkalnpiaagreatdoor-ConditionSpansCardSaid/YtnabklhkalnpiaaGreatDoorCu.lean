/- Of condition: Equal (relations, lists, conditions). -/
import Derived.Test.YtnabklhkalnpiaaGreatDoorCo
namespace Go.Proofs.YtnabklhkalnpiaaGreatDoor
open Go.RowKit
set_option linter.unusedVariables false

set_option maxRecDepth 1000000 in
set_option maxHeartbeats 4000000 in
theorem equalRel_any (r s : Rel) (a2 : Option Addr) (c2 : Nat) (a3 : Option Addr) (c3 : Nat) (w : World) (hr : Rd 2 encP w (.slice a2 r.sp.length c2) r.sp) (hs : Rd 2 encP w (.slice a3 s.sp.length c3) s.sp) :
    Calls Tryz.prog 33 #[.agg #[.int .i64 r.op, .int .i64 r.md, .bool r.nt, .slice a2 r.sp.length c2], .agg #[.int .i64 s.op, .int .i64 s.md, .bool s.nt, .slice a3 s.sp.length c3]] w fun e w' => e = .returned (.bool (rlq r s)) ∧ Below w.heap.size w w' := by
  obtain ⟨o, m, nt, sp⟩ := r
  obtain ⟨o', m', nt', sp'⟩ := s
  dsimp only at hr hs ⊢
  have HX : Hid (rlq ⟨o, m, nt, sp⟩ ⟨o', m', nt', sp'⟩ = (decide (o = o') && decide (m = m') && (nt == nt') && allEq spq sp sp')) := Lib.hid rfl
  have K := Lib.hid (((Below.refl w.heap.size w).alloc (Nat.le_refl _) (.cells #[.int .i64 o, .int .i64 m, .bool nt, .slice a2 sp.length c2] 38)).alloc (by simp) (.cells #[.int .i64 o', .int .i64 m', .bool nt', .slice a3 sp'.length c3] 38))
  have K1 := Lib.hid ((Blk.new w 38 #[.int .i64 o, .int .i64 m, .bool nt, .slice a2 sp.length c2]).alloc (.cells #[.int .i64 o', .int .i64 m', .bool nt', .slice a3 sp'.length c3] 38))
  have K2 := Lib.hid (Blk.new (w.alloc (.cells #[.int .i64 o, .int .i64 m, .bool nt, .slice a2 sp.length c2] 38)) 38 #[.int .i64 o', .int .i64 m', .bool nt', .slice a3 sp'.length c3])
  have HR := Lib.hid (hr.below K.out)
  have HS := Lib.hid (hs.below K.out)
  clear hr hs
  go_enter Tryz.func33, Tryz.ntmps33
  go_upto_region 1 with fail
  obtain ⟨W0, hW0⟩ : ∃ W0, (w.alloc (.cells #[.int .i64 o, .int .i64 m, .bool nt, .slice a2 sp.length c2] 38)).alloc (.cells #[.int .i64 o', .int .i64 m', .bool nt', .slice a3 sp'.length c3] 38) = W0 := ⟨_, rfl⟩
  rw [hW0] at K K1 K2 HR HS ⊢
  rw [World.size_alloc] at K2
  clear hW0
  have x0 : W0.cell? ⟨w.heap.size, 0, none⟩ = some (.int .i64 o) := K1.out.cell 0
  have x1 : W0.cell? ⟨w.heap.size, 1, none⟩ = some (.int .i64 m) := K1.out.cell 1
  have x2 : W0.cell? ⟨w.heap.size, 2, none⟩ = some (.bool nt) := K1.out.cell 2
  have x3 : W0.cell? ⟨w.heap.size, 3, none⟩ = some (.slice a2 sp.length c2) := K1.out.cell 3
  have y0 : W0.cell? ⟨w.heap.size + 1, 0, none⟩ = some (.int .i64 o') := K2.out.cell 0
  have y1 : W0.cell? ⟨w.heap.size + 1, 1, none⟩ = some (.int .i64 m') := K2.out.cell 1
  have y2 : W0.cell? ⟨w.heap.size + 1, 2, none⟩ = some (.bool nt') := K2.out.cell 2
  have y3 : W0.cell? ⟨w.heap.size + 1, 3, none⟩ = some (.slice a3 sp'.length c3) := K2.out.cell 3

  by_cases h1 : o = o'
  case neg =>
    have t1 : (o == o') = false := by rw [beq_eq_false_iff_ne]; exact h1
    have HY : Hid (rlq ⟨o, m, nt, sp⟩ ⟨o', m', nt', sp'⟩ = false) := Lib.hid (by rw [HX.out, decide_eq_false h1]; rfl)
    clear HX h1
    go_wp2
    go_ret
    exact ⟨by rw [HY.out]; rfl, K.out⟩
  have t1 : (o == o') = true := by rw [beq_iff_eq]; exact h1
  by_cases h2 : m = m'
  case neg =>
    have t2 : (m == m') = false := by rw [beq_eq_false_iff_ne]; exact h2
    have HY : Hid (rlq ⟨o, m, nt, sp⟩ ⟨o', m', nt', sp'⟩ = false) := Lib.hid (by rw [HX.out, decide_eq_false h2]; simp)
    clear HX h1 h2
    go_wp2
    go_ret
    exact ⟨by rw [HY.out]; rfl, K.out⟩
  have t2 : (m == m') = true := by rw [beq_iff_eq]; exact h2
  have HY : Hid (rlq ⟨o, m, nt, sp⟩ ⟨o', m', nt', sp'⟩ = ((nt == nt') && allEq spq sp sp')) := Lib.hid (by rw [HX.out, decide_eq_true h1, decide_eq_true h2]; rfl)
  clear HX h1 h2
  obtain ⟨nb, hnb⟩ : ∃ nb, (nt == nt') = nb := ⟨_, rfl⟩
  rw [hnb] at HY
  cases nb with
  | false =>
    have HZ : Hid (rlq ⟨o, m, nt, sp⟩ ⟨o', m', nt', sp'⟩ = false) := Lib.hid (by rw [HY.out]; rfl)
    clear HY
    cases nt <;> cases nt' <;> first | (exfalso; revert hnb; decide) | (go_wp2; go_ret; exact ⟨by rw [HZ.out]; rfl, K.out⟩)
  | true =>
    have e : nt' = nt := by cases nt <;> cases nt' <;> first | rfl | cases hnb
    subst e
    have t3 : (nt' == nt') = true := by cases nt' <;> rfl
    clear hnb
    have HZ : Hid (rlq ⟨o, m, nt', sp⟩ ⟨o', m', nt', sp'⟩ = allEq spq sp sp') := Lib.hid (by rw [HY.out]; rfl)
    clear HY
    cases nt' <;>
    ( go_wp2_with fail
      refine (equalSpans_any _ _ sp sp' _ HR.out HS.out).mono ?_
      rintro e w2 ⟨rfl, b2⟩
      have B2 := Lib.hid (st K.out b2 K.out.size)
      clear b2
      go_wp2
      go_ret
      exact ⟨by rw [HZ.out]; rfl, B2.out⟩ )

set_option maxRecDepth 1000000 in
set_option maxHeartbeats 2000000 in
theorem equalFuncRel_any (va vb : Value) (l m : List Rel) (q : Rel → Rel → Bool) (g : Nat) (lb : Array Value) (eg : ∀ args w, (callFunc g args).run Tryz.prog w = .ok (.enter g args) w) (w : World) (ha : RdRels w va l) (hb : RdRels w vb m)
    (hF : ∀ (W : World) (r s : Rel) (a2 : Option Addr) (c2 : Nat) (a3 : Option Addr) (c3 : Nat), r ∈ l → s ∈ m → Below w.heap.size w W → Rd 2 encP W (.slice a2 r.sp.length c2) r.sp → Rd 2 encP W (.slice a3 s.sp.length c3) s.sp → Calls Tryz.prog g (#[.agg #[.int .i64 r.op, .int .i64 r.md, .bool r.nt, .slice a2 r.sp.length c2], .agg #[.int .i64 s.op, .int .i64 s.md, .bool s.nt, .slice a3 s.sp.length c3]] ++ lb) W fun e w' => e = .returned (.bool (q r s)) ∧ Below W.heap.size W w') :
    Calls Tryz.prog 32 #[va, vb, .func (.func g) #[] lb] w fun e w' => e = .returned (.bool (allEq q l m)) ∧ Below w.heap.size w w' := by
  obtain ⟨a, c, rfl, hc1, hc2⟩ := ha.slice
  obtain ⟨a', c', rfl, hc1', hc2'⟩ := hb.slice
  have HA := Lib.hid ha
  have HB := Lib.hid hb
  have HF := Lib.hid hF
  clear ha hb hF
  go_enter Tryz.func32, Tryz.ntmps32
  by_cases hln : l.length = m.length
  case neg =>
    have t0 : ((l.length : Int) == (m.length : Int)) = false := by rw [beq_eq_false_iff_ne]; omega
    have t1 : ((l.length : Int) != (m.length : Int)) = true := by rw [bne_iff_ne]; omega
    have HX := Lib.hid (allEq_len (q := q) hln)
    clear hln
    go_wp2
    go_ret
    exact ⟨by rw [HX.out]; rfl, Below.refl _ _⟩
  have HLN := Lib.hid hln
  have t0 : ((l.length : Int) == (m.length : Int)) = true := by rw [beq_iff_eq]; omega
  have t1 : ((l.length : Int) != (m.length : Int)) = false := by rw [bne_eq_false_iff_eq]; omega
  clear hln
  go_wp2
  go_loopw [17] (fun v wr => ∃ k : Nat, k ≤ l.length ∧ v = .int .i64 k ∧ (∀ (j : Nat) (hj : j < l.length) (hj' : j < m.length), j < k → q l[j] m[j] = true) ∧ Below w.heap.size w wr) (fun v _ => l.length - (intOf v).toNat)
  case atStart => exact ⟨0, Nat.zero_le _, rfl, fun j _ _ h => by omega, Below.refl _ _⟩
  case round =>
    obtain ⟨k, hk, rfl, hkd, hb⟩ := hrel
    have HK := Lib.hid hkd
    have HBW := Lib.hid hb
    have zr := hb.size
    clear hkd hb t0 t1
    by_cases hlt : k < l.length
    · have hlt' : k < m.length := by rw [← HLN.out]; exact hlt
      have h9 : (k : Int) < (l.length : Int) := by omega
      have h9' : (k : Int) < (m.length : Int) := by omega
      obtain ⟨bk, off, x1, x2, rfl, h0, h1, h2, h3, h4⟩ := (HA.out.below HBW.out).at_ k hlt
      obtain ⟨bk', off', y1, y2, rfl, g0, g1, g2, g3, g4⟩ := (HB.out.below HBW.out).at_ k hlt'
      have GR1 := Lib.hid ((HBW.out.alloc zr (.cells #[.int .i64 l[k].op, .int .i64 l[k].md, .bool l[k].nt, .slice x1 l[k].sp.length x2] 38)))
      have GR := Lib.hid (GR1.out.alloc GR1.out.size (.cells #[.int .i64 m[k].op, .int .i64 m[k].md, .bool m[k].nt, .slice y1 m[k].sp.length y2] 38))
      have gr := ((Below.refl wr.heap.size wr).alloc (Nat.le_refl _) (.cells #[.int .i64 l[k].op, .int .i64 l[k].md, .bool l[k].nt, .slice x1 l[k].sp.length x2] 38)).alloc (by simp) (.cells #[.int .i64 m[k].op, .int .i64 m[k].md, .bool m[k].nt, .slice y1 m[k].sp.length y2] 38)
      have q1 : ((wr.alloc (.cells #[.int .i64 l[k].op, .int .i64 l[k].md, .bool l[k].nt, .slice x1 l[k].sp.length x2] 38))).cell? ⟨bk', off' + k * 4, none⟩ = some (.int .i64 m[k].op) := ((Below.refl wr.heap.size wr).alloc (Nat.le_refl _) _).cell (p := ⟨bk', off' + k * 4, none⟩) (World.block_lt_of_cell? wr _ g0) |>.trans g0
      have q2 : ((wr.alloc (.cells #[.int .i64 l[k].op, .int .i64 l[k].md, .bool l[k].nt, .slice x1 l[k].sp.length x2] 38))).cell? ⟨bk', off' + k * 4 + 1, none⟩ = some (.int .i64 m[k].md) := ((Below.refl wr.heap.size wr).alloc (Nat.le_refl _) _).cell (p := ⟨bk', off' + k * 4 + 1, none⟩) (World.block_lt_of_cell? wr _ g1) |>.trans g1
      have q3 : ((wr.alloc (.cells #[.int .i64 l[k].op, .int .i64 l[k].md, .bool l[k].nt, .slice x1 l[k].sp.length x2] 38))).cell? ⟨bk', off' + k * 4 + 2, none⟩ = some (.bool m[k].nt) := ((Below.refl wr.heap.size wr).alloc (Nat.le_refl _) _).cell (p := ⟨bk', off' + k * 4 + 2, none⟩) (World.block_lt_of_cell? wr _ g2) |>.trans g2
      have q4 : ((wr.alloc (.cells #[.int .i64 l[k].op, .int .i64 l[k].md, .bool l[k].nt, .slice x1 l[k].sp.length x2] 38))).cell? ⟨bk', off' + k * 4 + 3, none⟩ = some (.slice y1 m[k].sp.length y2) := ((Below.refl wr.heap.size wr).alloc (Nat.le_refl _) _).cell (p := ⟨bk', off' + k * 4 + 3, none⟩) (World.block_lt_of_cell? wr _ g3) |>.trans g3
      have hcall := HF.out _ l[k] m[k] x1 x2 y1 y2 (List.getElem_mem hlt) (List.getElem_mem hlt') GR.out (h4.below gr) (g4.below gr)
      have HBAD := Lib.hid (allEq_bad (q := q) hlt hlt')
      obtain ⟨x, hx⟩ : ∃ x, q l[k] m[k] = x := ⟨_, rfl⟩
      have HX := Lib.hid hx
      rw [hx] at hcall
      have HC := Lib.hid hcall
      clear hx hcall
      clear h4 g4 gr
      cases x with
      | false =>
        have HV := Lib.hid (HBAD.out HX.out)
        go_wp2_with (go_at_fn g; refine (HC.out).mono ?_; rintro e w2 ⟨rfl, b2⟩)
        have HB2 := Lib.hid (st GR.out b2 GR.out.size)
        clear b2
        go_wp2
        go_ret
        exact ⟨by rw [HV.out]; rfl, HB2.out⟩
      | true =>
        go_wp2_with (go_at_fn g; refine (HC.out).mono ?_; rintro e w2 ⟨rfl, b2⟩)
        have HB2 := Lib.hid (st GR.out b2 GR.out.size)
        clear b2
        go_wp2
        go_roundw
        case measure => simp [intOf]; omega
        case rel => exact ⟨k + 1, by omega, by go_num, fun j hj hj' hjk => by
          rcases Nat.lt_or_ge j k with h | h
          · exact HK.out j hj hj' h
          · obtain rfl : j = k := by omega
            exact HX.out, HB2.out⟩
    · obtain rfl : k = l.length := by omega
      have h3 : ¬ (l.length : Int) < (l.length : Int) := by omega
      have HV := Lib.hid (allEq_good (q := q) HLN.out HK.out)
      go_wp2
      go_ret
      exact ⟨by rw [HV.out]; rfl, HBW.out⟩

set_option maxRecDepth 1000000 in
set_option maxHeartbeats 2000000 in
theorem equalFuncLst_any (va vb : Value) (l m : Cnd) (q : List Rel → List Rel → Bool) (g : Nat) (lb : Array Value) (eg : ∀ args w, (callFunc g args).run Tryz.prog w = .ok (.enter g args) w) (w : World) (ha : RdC w va l) (hb : RdC w vb m)
    (hF : ∀ (W : World) (r s : List Rel) (a2 : Option Addr) (c2 : Nat) (a3 : Option Addr) (c3 : Nat), r ∈ l → s ∈ m → Below w.heap.size w W → RdRels W (.slice a2 r.length c2) r → RdRels W (.slice a3 s.length c3) s → Calls Tryz.prog g (#[.slice a2 r.length c2, .slice a3 s.length c3] ++ lb) W fun e w' => e = .returned (.bool (q r s)) ∧ Below W.heap.size W w') :
    Calls Tryz.prog 30 #[va, vb, .func (.func g) #[] lb] w fun e w' => e = .returned (.bool (allEq q l m)) ∧ Below w.heap.size w w' := by
  obtain ⟨a, c, rfl, hc1, hc2⟩ := ha.slice
  obtain ⟨a', c', rfl, hc1', hc2'⟩ := hb.slice
  have HA := Lib.hid ha
  have HB := Lib.hid hb
  have HF := Lib.hid hF
  clear ha hb hF
  go_enter Tryz.func30, Tryz.ntmps30
  by_cases hln : l.length = m.length
  case neg =>
    have t0 : ((l.length : Int) == (m.length : Int)) = false := by rw [beq_eq_false_iff_ne]; omega
    have t1 : ((l.length : Int) != (m.length : Int)) = true := by rw [bne_iff_ne]; omega
    have HX := Lib.hid (allEq_len (q := q) hln)
    clear hln
    go_wp2
    go_ret
    exact ⟨by rw [HX.out]; rfl, Below.refl _ _⟩
  have HLN := Lib.hid hln
  have t0 : ((l.length : Int) == (m.length : Int)) = true := by rw [beq_iff_eq]; omega
  have t1 : ((l.length : Int) != (m.length : Int)) = false := by rw [bne_eq_false_iff_eq]; omega
  clear hln
  go_wp2
  go_loopw [17] (fun v wr => ∃ k : Nat, k ≤ l.length ∧ v = .int .i64 k ∧ (∀ (j : Nat) (hj : j < l.length) (hj' : j < m.length), j < k → q l[j] m[j] = true) ∧ Below w.heap.size w wr) (fun v _ => l.length - (intOf v).toNat)
  case atStart => exact ⟨0, Nat.zero_le _, rfl, fun j _ _ h => by omega, Below.refl _ _⟩
  case round =>
    obtain ⟨k, hk, rfl, hkd, hb⟩ := hrel
    have HK := Lib.hid hkd
    have HBW := Lib.hid hb
    have zr := hb.size
    clear hkd hb t0 t1
    by_cases hlt : k < l.length
    · have hlt' : k < m.length := by rw [← HLN.out]; exact hlt
      have h9 : (k : Int) < (l.length : Int) := by omega
      have h9' : (k : Int) < (m.length : Int) := by omega
      obtain ⟨bk, off, x1, x2, rfl, h0, h4⟩ := (HA.out.below HBW.out).at_ k hlt
      obtain ⟨bk', off', y1, y2, rfl, g0, g4⟩ := (HB.out.below HBW.out).at_ k hlt'
      have GR := Lib.hid HBW.out
      have hcall := HF.out wr l[k] m[k] x1 x2 y1 y2 (List.getElem_mem hlt) (List.getElem_mem hlt') HBW.out h4 g4
      have HBAD := Lib.hid (allEq_bad (q := q) hlt hlt')
      obtain ⟨x, hx⟩ : ∃ x, q l[k] m[k] = x := ⟨_, rfl⟩
      have HX := Lib.hid hx
      rw [hx] at hcall
      have HC := Lib.hid hcall
      clear hx hcall
      clear h4 g4
      cases x with
      | false =>
        have HV := Lib.hid (HBAD.out HX.out)
        go_wp2_with (go_at_fn g; refine (HC.out).mono ?_; rintro e w2 ⟨rfl, b2⟩)
        have HB2 := Lib.hid (st GR.out b2 GR.out.size)
        clear b2
        go_wp2
        go_ret
        exact ⟨by rw [HV.out]; rfl, HB2.out⟩
      | true =>
        go_wp2_with (go_at_fn g; refine (HC.out).mono ?_; rintro e w2 ⟨rfl, b2⟩)
        have HB2 := Lib.hid (st GR.out b2 GR.out.size)
        clear b2
        go_wp2
        go_roundw
        case measure => simp [intOf]; omega
        case rel => exact ⟨k + 1, by omega, by go_num, fun j hj hj' hjk => by
          rcases Nat.lt_or_ge j k with h | h
          · exact HK.out j hj hj' h
          · obtain rfl : j = k := by omega
            exact HX.out, HB2.out⟩
    · obtain rfl : k = l.length := by omega
      have h3 : ¬ (l.length : Int) < (l.length : Int) := by omega
      have HV := Lib.hid (allEq_good (q := q) HLN.out HK.out)
      go_wp2
      go_ret
      exact ⟨by rw [HV.out]; rfl, HBW.out⟩

set_option maxRecDepth 1000000 in
set_option maxHeartbeats 1000000 in
theorem equal1_any (r s : List Rel) (a2 : Option Addr) (c2 : Nat) (a3 : Option Addr) (c3 : Nat) (w : World) (hr : RdRels w (.slice a2 r.length c2) r) (hs : RdRels w (.slice a3 s.length c3) s) :
    Calls Tryz.prog 31 (#[.slice a2 r.length c2, .slice a3 s.length c3] ++ #[]) w fun e w' => e = .returned (.bool (lsq r s)) ∧ Below w.heap.size w w' := by
  have HR := Lib.hid hr
  have HS := Lib.hid hs
  have HX : Hid (lsq r s = allEq rlq r s) := Lib.hid rfl
  clear hr hs
  go_enter Tryz.func31, Tryz.ntmps31
  go_wp2_with fail
  refine (equalFuncRel_any _ _ r s rlq 33 #[] (enters_of Tryz.func33 (by kernel_rfl) rfl) _ HR.out HS.out (fun W x y a4 c4 a5 c5 _ _ _ h1 h2 => equalRel_any x y a4 c4 a5 c5 W h1 h2)).mono ?_
  rintro e w2 ⟨rfl, b2⟩
  have B2 := Lib.hid b2
  clear b2
  go_wp2
  go_ret
  exact ⟨by rw [HX.out]; rfl, B2.out⟩
set_option maxRecDepth 1000000 in
set_option maxHeartbeats 1000000 in
theorem equalC_any (va vb : Value) (c d : Cnd) (w : World) (ha : RdC w va c) (hb : RdC w vb d) :
    Calls Tryz.prog 15 #[va, vb] w fun e w' => e = .returned (.bool (cdq c d)) ∧ Below w.heap.size w w' := by
  obtain ⟨a, cp, rfl, hc1, hc2⟩ := ha.slice
  obtain ⟨a', cp', rfl, hc1', hc2'⟩ := hb.slice
  have HA := Lib.hid ha
  have HB := Lib.hid hb
  have HX : Hid (cdq c d = allEq lsq c d) := Lib.hid rfl
  clear ha hb
  go_enter Tryz.func15, Tryz.ntmps15
  go_wp2_with fail
  refine (equalFuncLst_any _ _ c d lsq 31 #[] (enters_of Tryz.func31 (by kernel_rfl) rfl) _ HA.out HB.out (fun W x y a4 c4 a5 c5 _ _ _ h1 h2 => equal1_any x y a4 c4 a5 c5 W h1 h2)).mono ?_
  rintro e w2 ⟨rfl, b2⟩
  have B2 := Lib.hid b2
  clear b2
  go_wp2
  go_ret
  exact ⟨by rw [HX.out]; rfl, B2.out⟩
end Go.Proofs.YtnabklhkalnpiaaGreatDoor
