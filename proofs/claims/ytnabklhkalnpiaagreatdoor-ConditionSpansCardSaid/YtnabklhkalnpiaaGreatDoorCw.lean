/- Of the reference: proper, Valid. -/
import Derived.Test.YtnabklhkalnpiaaGreatDoorCwa
import Derived.Test.YtnabklhkalnpiaaGreatDoorCwb
import Derived.Test.YtnabklhkalnpiaaGreatDoorCwc
namespace Go.Proofs.YtnabklhkalnpiaaGreatDoor
open Go.RowKit
set_option linter.unusedVariables false

theorem okSp_eq (o : Int) (s : Int × Int) : okSp o s = (!(decide (s.1 < 0) || decide (s.2 < s.1) || decide (bnd o < s.2))) := by
  unfold okSp okEnd bnd
  rw [Bool.eq_iff_iff]
  simp only [Bool.and_eq_true, decide_eq_true_eq, Bool.not_eq_true', Bool.or_eq_false_iff, decide_eq_false_iff_not]
  split <;> omega
def hdOk (o m : Int) (N : Nat) : Bool := decide (1 ≤ o) && decide (o ≤ 6) && okMod o m && decide (0 < N) && decide (N ≤ 4)
theorem okR_hd (o m : Int) (nt : Bool) (sp : List (Int × Int)) : okR ⟨o, m, nt, sp⟩ = (hdOk o m sp.length && sp.all (okSp o)) := rfl
theorem all_bad {α : Type} {l : List α} {q : α → Bool} {j : Nat} (hj : j < l.length) (h : q l[j] = false) : l.all q = false := by
  rw [List.all_eq_false]
  exact ⟨_, List.getElem_mem hj, by rw [h]; simp⟩
theorem all_good {α : Type} {l : List α} {q : α → Bool} (h : ∀ (j : Nat) (hj : j < l.length), j < l.length → q l[j] = true) : l.all q = true := by
  rw [List.all_eq_true]
  intro x hx
  obtain ⟨j, hj, rfl⟩ := List.getElem_of_mem hx
  exact h j hj hj
set_option maxRecDepth 1000000 in
set_option maxHeartbeats 8000000 in
theorem proper_bad (o m : Int) (nt : Bool) (a2 : Option Addr) (N c2 : Nat) (w : World) (hb : hdOk o m N = false) :
    Calls Tryz.prog 29 #[.agg #[.int .i64 o, .int .i64 m, .bool nt, .slice a2 N c2]] w fun e w' => e = .returned (.bool false) ∧ Below w.heap.size w w' := by
  by_cases h1 : o < 1
  · have d1 := decide_eq_true h1
    clear hb
    have K := Lib.hid ((Below.refl w.heap.size w).alloc (Nat.le_refl _) (.cells #[.int .i64 o, .int .i64 m, .bool nt, .slice a2 N c2] 38))
    go_enter Tryz.func29, Tryz.ntmps29
    go_wp2_with fail
    go_big_quiet (fail)
    go_wp2
    go_ret
    exact ⟨rfl, below_drewN K.out _⟩
  by_cases h2 : 6 < o
  · have d1 := decide_eq_false h1
    have d2 := decide_eq_true h2
    clear hb
    have K := Lib.hid ((Below.refl w.heap.size w).alloc (Nat.le_refl _) (.cells #[.int .i64 o, .int .i64 m, .bool nt, .slice a2 N c2] 38))
    go_enter Tryz.func29, Tryz.ntmps29
    go_wp2_with fail
    go_big_quiet (fail)
    go_wp2
    go_ret
    exact ⟨rfl, below_drewN K.out _⟩
  by_cases hm : m = 0
  · have dm : (m == 0) = true := by rw [beq_iff_eq]; exact hm
    have dm' : (m != 0) = false := by rw [bne_eq_false_iff_eq]; exact hm
    have d1 := decide_eq_false h1
    have d2 := decide_eq_false h2
    have hb2 : (decide (0 < N) && decide (N ≤ 4)) = false := by
      unfold hdOk at hb
      rw [decide_eq_true (by omega : 1 ≤ o), decide_eq_true (by omega : o ≤ 6), show okMod o m = true by unfold okMod; rw [if_pos hm]] at hb
      simpa using hb
    clear hb
    have K := Lib.hid ((Below.refl w.heap.size w).alloc (Nat.le_refl _) (.cells #[.int .i64 o, .int .i64 m, .bool nt, .slice a2 N c2] 38))
    by_cases h3 : N = 0
    · subst h3
      have d3 : decide (((0 : Nat) : Int) < 1) = true := rfl
      clear hb2 hm
      go_enter Tryz.func29, Tryz.ntmps29
      go_wp2_with fail
      go_big_quiet (fail)
      go_wp2
      go_ret
      exact ⟨rfl, below_drewN K.out _⟩
    · have h4 : 4 < N := by
        rcases Nat.lt_or_ge 4 N with h | h
        · exact h
        · exfalso
          rw [decide_eq_true (by omega : 0 < N), decide_eq_true h] at hb2
          cases hb2
      have d3 : decide ((N : Int) < 1) = false := decide_eq_false (by omega)
      have d3' : decide (N < 1) = false := decide_eq_false (by omega)
      have d4 : decide ((4 : Int) < (N : Int)) = true := decide_eq_true (by omega)
      have d4' : decide (4 < N) = true := decide_eq_true h4
      clear hb2 hm
      go_enter Tryz.func29, Tryz.ntmps29
      go_wp2_with fail
      go_big_quiet (fail)
      go_wp2
      go_ret
      exact ⟨rfl, below_drewN K.out _⟩
  · cases hx : okMod o m with
    | false => exact proper_noMod o m nt a2 N c2 w h1 h2 hm hx
    | true =>
      by_cases h3 : N = 0
      · exact proper_noSpan o m nt a2 N c2 w h1 h2 hm hx h3
      · refine proper_manySpans o m nt a2 N c2 w h1 h2 hm hx ?_
        unfold hdOk at hb
        rw [decide_eq_true (by omega : 1 ≤ o), decide_eq_true (by omega : o ≤ 6), hx, decide_eq_true (by omega : 0 < N)] at hb
        rcases Nat.lt_or_ge 4 N with h | h
        · exact h
        · rw [decide_eq_true h] at hb
          cases hb
set_option maxRecDepth 1000000 in
set_option maxHeartbeats 8000000 in
theorem proper_any (r : Rel) (a2 : Option Addr) (c2 : Nat) (w : World) (hr : Rd 2 encP w (.slice a2 r.sp.length c2) r.sp) :
    Calls Tryz.prog 29 #[.agg #[.int .i64 r.op, .int .i64 r.md, .bool r.nt, .slice a2 r.sp.length c2]] w fun e w' => e = .returned (.bool (okR r)) ∧ Below w.heap.size w w' := by
  obtain ⟨o, m, nt, sp⟩ := r
  dsimp only at hr ⊢
  have HX := Lib.hid (okR_hd o m nt sp)
  cases hhd : hdOk o m sp.length with
  | false =>
    refine (proper_bad o m nt a2 sp.length c2 w hhd).mono ?_
    rintro e w' ⟨rfl, b⟩
    exact ⟨by rw [HX.out, hhd]; rfl, b⟩
  | true =>
    have HY : Hid (okR ⟨o, m, nt, sp⟩ = sp.all (okSp o)) := Lib.hid (by rw [HX.out, hhd]; rfl)
    have HH : (1 ≤ o ∧ o ≤ 6) ∧ okMod o m = true ∧ 0 < sp.length ∧ sp.length ≤ 4 := by
      unfold hdOk at hhd
      simp only [Bool.and_eq_true, decide_eq_true_eq] at hhd
      exact ⟨hhd.1.1.1, hhd.1.1.2, hhd.1.2, hhd.2⟩
    obtain ⟨⟨h1, h2⟩, hx, h3, h4⟩ := HH
    have K := Lib.hid ((Below.refl w.heap.size w).alloc (Nat.le_refl _) (.cells #[.int .i64 o, .int .i64 m, .bool nt, .slice a2 sp.length c2] 38))
    have KB := Lib.hid (Blk.new w 38 #[.int .i64 o, .int .i64 m, .bool nt, .slice a2 sp.length c2])
    have HR := Lib.hid (hr.below K.out)
    clear hr hhd HX
    obtain ⟨N, hN⟩ : ∃ N, sp.length = N := ⟨_, rfl⟩
    have HN := Lib.hid hN
    rw [hN] at K KB HR h3 h4 ⊢
    clear hN
    obtain ⟨w1, hw1⟩ : ∃ w1, w.alloc (.cells #[.int .i64 o, .int .i64 m, .bool nt, .slice a2 N c2] 38) = w1 := ⟨_, rfl⟩
    have d1 := decide_eq_false (show ¬ o < 1 by omega)
    have d2 := decide_eq_false (show ¬ 6 < o by omega)
    have d3 : decide ((N : Int) < 1) = false := decide_eq_false (by omega)
    have d3' : decide (N < 1) = false := decide_eq_false (by omega)
    have d4 : decide ((4 : Int) < (N : Int)) = false := decide_eq_false (by omega)
    have d4' : decide (4 < N) = false := decide_eq_false (by omega)
    go_enter Tryz.func29, Tryz.ntmps29
    go_upto_region 1 with fail
    rw [hw1] at K KB HR
    try rw [hw1]
    clear hw1
    have HCE : Hid (∀ wx, Below w1.heap.size w1 wx → wx.cell? ⟨w.heap.size, 0, none⟩ = some (.int .i64 o) ∧ wx.cell? ⟨w.heap.size, 1, none⟩ = some (.int .i64 m) ∧ wx.cell? ⟨w.heap.size, 3, none⟩ = some (.slice a2 N c2)) := Lib.hid (fun wx hb => ⟨(KB.out.below hb).cell 0, (KB.out.below hb).cell 1, (KB.out.below hb).cell 3⟩)
    obtain ⟨k0, k1, k3⟩ := HCE.out w1 (Below.refl _ _)
    go_cut [38] from 5 to 38 (fun v38 wx => v38 = .bool false ∧ Below w1.heap.size w1 wx)
    case first =>
      by_cases hm : m = 0
      · have dm : (m == 0) = true := by rw [beq_iff_eq]; exact hm
        have dm' : (m != 0) = false := by rw [bne_eq_false_iff_eq]; exact hm
        clear hm hx
        go_big_quiet (fail)
        go_wp2_with fail
        go_meet
        exact ⟨rfl, below_drewN (Below.refl _ _) _⟩
      · have dm : (m == 0) = false := by rw [beq_eq_false_iff_ne]; exact hm
        have dm' : (m != 0) = true := by rw [bne_iff_ne]; exact hm
        have HMO := Lib.hid (mods_ok (o := o) (m := m) (by omega) (by omega) hm)
        rw [hx] at HMO
        clear hm hx
        go_region_held3 (fun wx => wx.cell? ⟨w.heap.size, 0, none⟩ = some (.int .i64 o) ∧ wx.cell? ⟨w.heap.size, 1, none⟩ = some (.int .i64 m) ∧ wx.cell? ⟨w.heap.size, 3, none⟩ = some (.slice a2 N c2)) (first | exact HCE.out _ B5 | exact HCE.out _ (Below.refl _ _).drew) (first | (go_at_call 57; refine (mods_any o _).mono ?_; rintro e w5 ⟨⟨v5, rfl, r5⟩, b5⟩; have B5 : Below w1.heap.size w1 w5 := (Below.refl _ w1).drew.trans b5; have R5 := Lib.hid r5; clear b5 r5) | (go_at_call 56; refine (has_any _ _ m _ R5.out).mono ?_; rw [HMO.out]; rintro e w' ⟨rfl, hw'⟩; obtain rfl := hw'.symm))
        all_goals
          go_wp2_with fail
          go_meet
          exact ⟨rfl, B5⟩
    case rest =>
      obtain ⟨rfl, hwc⟩ := hcut
      rename World => wc
      have HWC := Lib.hid hwc
      clear hwc hx k0 k1 k3 d1 d2 d3 d3' d4 d4'
      go_upto_if 38 with fail
      go_wp2_with fail
      go_loopw [3] (fun v3 wr => ∃ k : Nat, k ≤ sp.length ∧ v3 = .int .i64 k ∧ (∀ (j : Nat) (hj : j < sp.length), j < k → okSp o sp[j] = true) ∧ Below w1.heap.size w1 wr) (fun v3 _ => sp.length - (intOf v3).toNat)
      case atStart => exact ⟨0, Nat.zero_le _, rfl, fun j _ h => by omega, HWC.out⟩
      case round =>
        obtain ⟨k, hk, rfl, hkd, hb⟩ := hrel
        have HK := Lib.hid hkd
        have HB := Lib.hid hb
        have zr := hb.size
        obtain ⟨q0, q1, q3⟩ := HCE.out wr hb
        clear hkd hb
        by_cases hlt : k < sp.length
        · obtain ⟨bk, off, rfl, g0, g1⟩ := (HR.out.below HB.out).span k hlt
          have h9 : (k : Int) < (N : Int) := by have := HN.out; omega
          have HE := Lib.hid (okSp_eq o sp[k])
          have HBAD := Lib.hid (all_bad (q := okSp o) hlt)
          obtain ⟨⟨x, y⟩, hxy⟩ : ∃ s, sp[k] = s := ⟨_, rfl⟩
          have HXY := Lib.hid hxy
          rw [hxy] at g0 g1 HE HBAD
          dsimp only at g0 g1 HE
          clear hxy
          have B6 := Lib.hid (HB.out.alloc zr (.cells #[.int .i64 x, .int .i64 y] 42))
          have p0 : (wr.alloc (.cells #[.int .i64 x, .int .i64 y] 42)).cell? ⟨w.heap.size, 0, none⟩ = some (.int .i64 o) := (HCE.out _ B6.out).1
          by_cases hx0 : x < 0
          · have e1 := decide_eq_true hx0
            have HV : Hid (okR ⟨o, m, nt, sp⟩ = false) := Lib.hid (by rw [HY.out]; exact HBAD.out (by rw [HE.out, e1]; rfl))
            clear hx0
            go_wp2_with fail
            go_big_quiet (fail)
            go_wp2
            go_ret
            exact ⟨by rw [HV.out]; rfl, K.out.trans (below_drewN (B6.out.mono K.out.size) _)⟩
          have e1 := decide_eq_false hx0
          by_cases hyx : y < x
          · have e2 := decide_eq_true hyx
            have HV : Hid (okR ⟨o, m, nt, sp⟩ = false) := Lib.hid (by rw [HY.out]; exact HBAD.out (by rw [HE.out, e1, e2]; rfl))
            clear hx0 hyx
            go_wp2_with fail
            go_big_quiet (fail)
            go_wp2
            go_ret
            exact ⟨by rw [HV.out]; rfl, K.out.trans (below_drewN (B6.out.mono K.out.size) _)⟩
          have e2 := decide_eq_false hyx
          have HE2 : Hid (okSp o (x, y) = !decide (bnd o < y)) := Lib.hid (by rw [HE.out, e1, e2]; rfl)
          obtain ⟨bd, hbd⟩ : ∃ bd, bnd o = bd := ⟨_, rfl⟩
          have HBC : Hid (∀ wx, Calls Tryz.prog 58 #[.int .i64 o] wx fun e w' => e = .returned (.int .i64 bd) ∧ w' = wx) := Lib.hid (fun wx => (bound_any o wx).mono (fun _ _ h => ⟨by rw [← hbd]; exact h.1, h.2⟩))
          rw [hbd] at HE2
          clear hbd hx0 hyx
          by_cases hyb : bd < y
          · have e3 := decide_eq_true hyb
            have HV : Hid (okR ⟨o, m, nt, sp⟩ = false) := Lib.hid (by rw [HY.out]; exact HBAD.out (by rw [HE2.out, e3]; rfl))
            clear hyb
            go_wp2_with fail
            go_quiet ((go_at_call 58; exact Calls.quiet_of_same (HBC.out _)))
            go_wp2
            go_ret
            exact ⟨by rw [HV.out]; rfl, K.out.trans (below_drewN (B6.out.mono K.out.size) _)⟩
          · have e3 := decide_eq_false hyb
            have HG : Hid (okSp o (x, y) = true) := Lib.hid (by rw [HE2.out, e3]; rfl)
            clear hyb
            go_wp2_with fail
            go_quiet ((go_at_call 58; exact Calls.quiet_of_same (HBC.out _)))
            go_wp2
            go_roundw
            case measure => simp [intOf]; have := HN.out; omega
            case rel => exact ⟨k + 1, by omega, by go_num, fun j hj hjk => by
              rcases Nat.lt_or_ge j k with h | h
              · exact HK.out j hj h
              · obtain rfl : j = k := by omega
                rw [HXY.out]; exact HG.out, below_drewN B6.out _⟩
        · obtain rfl : k = sp.length := by omega
          have h3 : ¬ (sp.length : Int) < (N : Int) := by have := HN.out; omega
          have HV : Hid (okR ⟨o, m, nt, sp⟩ = true) := Lib.hid (by rw [HY.out]; exact all_good HK.out)
          go_wp2
          go_ret
          exact ⟨by rw [HV.out]; rfl, K.out.trans (HB.out.mono K.out.size)⟩
end Go.Proofs.YtnabklhkalnpiaaGreatDoor
