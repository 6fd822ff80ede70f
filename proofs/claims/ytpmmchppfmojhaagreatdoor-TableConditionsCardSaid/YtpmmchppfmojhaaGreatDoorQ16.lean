/- What the row stands on, part 16. -/
import Derived.Test.YtpmmchppfmojhaaGreatDoorQ15

/- Of the reference: proper, Valid. -/
namespace Go.Proofs.YtpmmchppfmojhaaGreatDoor
open Go.RowKit
set_option linter.unusedVariables false

theorem okSp_eq (o : Int) (s : Int × Int) : okSp o s = (!(decide (s.1 < 0) || decide (s.2 < s.1) || decide (bndOf8 o < s.2))) := by
  unfold okSp okEnd bndOf8
  rw [Bool.eq_iff_iff]
  simp only [Bool.and_eq_true, decide_eq_true_eq, Bool.not_eq_true', Bool.or_eq_false_iff, decide_eq_false_iff_not]
  split <;> omega
def hdOk (o m : Int) (N : Nat) : Bool := decide (1 ≤ o) && decide (o ≤ 6) && okMod o m && decide (0 < N) && decide (N ≤ 4)
theorem okR_hd (o m : Int) (nt : Bool) (sp : List (Int × Int)) : okR ⟨o, m, nt, sp⟩ = (hdOk o m sp.length && sp.all (okSp o)) := rfl
theorem all_badOf8 {α : Type} {l : List α} {q : α → Bool} {j : Nat} (hj : j < l.length) (h : q l[j] = false) : l.all q = false := by
  rw [List.all_eq_false]
  exact ⟨_, List.getElem_mem hj, by rw [h]; simp⟩
theorem all_good {α : Type} {l : List α} {q : α → Bool} (h : ∀ (j : Nat) (hj : j < l.length), j < l.length → q l[j] = true) : l.all q = true := by
  rw [List.all_eq_true]
  intro x hx
  obtain ⟨j, hj, rfl⟩ := List.getElem_of_mem hx
  exact h j hj hj
set_option maxRecDepth 1000000 in
set_option maxHeartbeats 8000000 in
theorem proper_bad (o m : Int) (nt : Bool) (a2 : Option Addr) (N c2 : Nat) (w : World) (hb : hdOk o m N = false) :
    Calls Tryz.prog 128 #[.agg #[.int .i64 o, .int .i64 m, .bool nt, .slice a2 N c2]] w fun e w' => e = .returned (.bool false) ∧ Below w.heap.size w w' := by
  by_cases h1 : o < 1
  · have d1 := decide_eq_true h1
    clear hb
    have K := Lib.hid ((Below.refl w.heap.size w).alloc (Nat.le_refl _) (.cells #[.int .i64 o, .int .i64 m, .bool nt, .slice a2 N c2] 99))
    go_enter Tryz.func128, Tryz.ntmps128
    go_wp2_with fail
    go_big_quiet (fail)
    go_wp2
    go_ret
    exact ⟨rfl, below_drewN K.out _⟩
  by_cases h2 : 6 < o
  · have d1 := decide_eq_false h1
    have d2 := decide_eq_true h2
    clear hb
    have K := Lib.hid ((Below.refl w.heap.size w).alloc (Nat.le_refl _) (.cells #[.int .i64 o, .int .i64 m, .bool nt, .slice a2 N c2] 99))
    go_enter Tryz.func128, Tryz.ntmps128
    go_wp2_with fail
    go_big_quiet (fail)
    go_wp2
    go_ret
    exact ⟨rfl, below_drewN K.out _⟩
  by_cases hm : m = 0
  · have dm : (m == 0) = true := by rw [beq_iff_eq]; exact hm
    have dm' : (m != 0) = false := by rw [bne_eq_false_iff_eq]; exact hm
    have d1 := decide_eq_false h1
    have d2 := decide_eq_false h2
    have hb2 : (decide (0 < N) && decide (N ≤ 4)) = false := by
      unfold hdOk at hb
      rw [decide_eq_true (by omega : 1 ≤ o), decide_eq_true (by omega : o ≤ 6), show okMod o m = true by unfold okMod; rw [if_pos hm]] at hb
      simpa using hb
    clear hb
    have K := Lib.hid ((Below.refl w.heap.size w).alloc (Nat.le_refl _) (.cells #[.int .i64 o, .int .i64 m, .bool nt, .slice a2 N c2] 99))
    by_cases h3 : N = 0
    · subst h3
      have d3 : decide (((0 : Nat) : Int) < 1) = true := rfl
      clear hb2 hm
      go_enter Tryz.func128, Tryz.ntmps128
      go_wp2_with fail
      go_big_quiet (fail)
      go_wp2
      go_ret
      exact ⟨rfl, below_drewN K.out _⟩
    · have h4 : 4 < N := by
        rcases Nat.lt_or_ge 4 N with h | h
        · exact h
        · exfalso
          rw [decide_eq_true (by omega : 0 < N), decide_eq_true h] at hb2
          cases hb2
      have d3 : decide ((N : Int) < 1) = false := decide_eq_false (by omega)
      have d3' : decide (N < 1) = false := decide_eq_false (by omega)
      have d4 : decide ((4 : Int) < (N : Int)) = true := decide_eq_true (by omega)
      have d4' : decide (4 < N) = true := decide_eq_true h4
      clear hb2 hm
      go_enter Tryz.func128, Tryz.ntmps128
      go_wp2_with fail
      go_big_quiet (fail)
      go_wp2
      go_ret
      exact ⟨rfl, below_drewN K.out _⟩
  · cases hx : okMod o m with
    | false => exact proper_noMod o m nt a2 N c2 w h1 h2 hm hx
    | true =>
      by_cases h3 : N = 0
      · exact proper_noSpan o m nt a2 N c2 w h1 h2 hm hx h3
      · refine proper_manySpans o m nt a2 N c2 w h1 h2 hm hx ?_
        unfold hdOk at hb
        rw [decide_eq_true (by omega : 1 ≤ o), decide_eq_true (by omega : o ≤ 6), hx, decide_eq_true (by omega : 0 < N)] at hb
        rcases Nat.lt_or_ge 4 N with h | h
        · exact h
        · rw [decide_eq_true h] at hb
          cases hb
set_option maxRecDepth 1000000 in
set_option maxHeartbeats 8000000 in
theorem proper_any (r : Rel) (a2 : Option Addr) (c2 : Nat) (w : World) (hr : Rd 2 encP w (.slice a2 r.sp.length c2) r.sp) :
    Calls Tryz.prog 128 #[.agg #[.int .i64 r.op, .int .i64 r.md, .bool r.nt, .slice a2 r.sp.length c2]] w fun e w' => e = .returned (.bool (okR r)) ∧ Below w.heap.size w w' := by
  obtain ⟨o, m, nt, sp⟩ := r
  dsimp only at hr ⊢
  have HX := Lib.hid (okR_hd o m nt sp)
  cases hhd : hdOk o m sp.length with
  | false =>
    refine (proper_bad o m nt a2 sp.length c2 w hhd).mono ?_
    rintro e w' ⟨rfl, b⟩
    exact ⟨by rw [HX.out, hhd]; rfl, b⟩
  | true =>
    have HY : Hid (okR ⟨o, m, nt, sp⟩ = sp.all (okSp o)) := Lib.hid (by rw [HX.out, hhd]; rfl)
    have HH : (1 ≤ o ∧ o ≤ 6) ∧ okMod o m = true ∧ 0 < sp.length ∧ sp.length ≤ 4 := by
      unfold hdOk at hhd
      simp only [Bool.and_eq_true, decide_eq_true_eq] at hhd
      exact ⟨hhd.1.1.1, hhd.1.1.2, hhd.1.2, hhd.2⟩
    obtain ⟨⟨h1, h2⟩, hx, h3, h4⟩ := HH
    have K := Lib.hid ((Below.refl w.heap.size w).alloc (Nat.le_refl _) (.cells #[.int .i64 o, .int .i64 m, .bool nt, .slice a2 sp.length c2] 99))
    have KB := Lib.hid (Blk.new w 99 #[.int .i64 o, .int .i64 m, .bool nt, .slice a2 sp.length c2])
    have HR := Lib.hid (hr.below K.out)
    clear hr hhd HX
    obtain ⟨N, hN⟩ : ∃ N, sp.length = N := ⟨_, rfl⟩
    have HN := Lib.hid hN
    rw [hN] at K KB HR h3 h4 ⊢
    clear hN
    obtain ⟨w1, hw1⟩ : ∃ w1, w.alloc (.cells #[.int .i64 o, .int .i64 m, .bool nt, .slice a2 N c2] 99) = w1 := ⟨_, rfl⟩
    have d1 := decide_eq_false (show ¬ o < 1 by omega)
    have d2 := decide_eq_false (show ¬ 6 < o by omega)
    have d3 : decide ((N : Int) < 1) = false := decide_eq_false (by omega)
    have d3' : decide (N < 1) = false := decide_eq_false (by omega)
    have d4 : decide ((4 : Int) < (N : Int)) = false := decide_eq_false (by omega)
    have d4' : decide (4 < N) = false := decide_eq_false (by omega)
    go_enter Tryz.func128, Tryz.ntmps128
    go_upto_region 1 with fail
    rw [hw1] at K KB HR
    try rw [hw1]
    clear hw1
    have HCE : Hid (∀ wx, Below w1.heap.size w1 wx → wx.cell? ⟨w.heap.size, 0, none⟩ = some (.int .i64 o) ∧ wx.cell? ⟨w.heap.size, 1, none⟩ = some (.int .i64 m) ∧ wx.cell? ⟨w.heap.size, 3, none⟩ = some (.slice a2 N c2)) := Lib.hid (fun wx hb => ⟨(KB.out.below hb).cell 0, (KB.out.below hb).cell 1, (KB.out.below hb).cell 3⟩)
    obtain ⟨k0, k1, k3⟩ := HCE.out w1 (Below.refl _ _)
    go_cut [38] from 5 to 38 (fun v38 wx => v38 = .bool false ∧ Below w1.heap.size w1 wx)
    case first =>
      by_cases hm : m = 0
      · have dm : (m == 0) = true := by rw [beq_iff_eq]; exact hm
        have dm' : (m != 0) = false := by rw [bne_eq_false_iff_eq]; exact hm
        clear hm hx
        go_big_quiet (fail)
        go_wp2_with fail
        go_meet
        exact ⟨rfl, below_drewN (Below.refl _ _) _⟩
      · have dm : (m == 0) = false := by rw [beq_eq_false_iff_ne]; exact hm
        have dm' : (m != 0) = true := by rw [bne_iff_ne]; exact hm
        have HMO := Lib.hid (mods_ok (o := o) (m := m) (by omega) (by omega) hm)
        rw [hx] at HMO
        clear hm hx
        go_region_held3 (fun wx => wx.cell? ⟨w.heap.size, 0, none⟩ = some (.int .i64 o) ∧ wx.cell? ⟨w.heap.size, 1, none⟩ = some (.int .i64 m) ∧ wx.cell? ⟨w.heap.size, 3, none⟩ = some (.slice a2 N c2)) (first | exact HCE.out _ B5 | exact HCE.out _ (Below.refl _ _).drew) (first | (go_at_call 181; refine (mods_any o _).mono ?_; rintro e w5 ⟨⟨v5, rfl, r5⟩, b5⟩; have B5 : Below w1.heap.size w1 w5 := (Below.refl _ w1).drew.trans b5; have R5 := Lib.hid r5; clear b5 r5) | (go_at_call 180; refine (has_any _ _ m _ R5.out).mono ?_; rw [HMO.out]; rintro e w' ⟨rfl, hw'⟩; obtain rfl := hw'.symm))
        all_goals
          go_wp2_with fail
          go_meet
          exact ⟨rfl, B5⟩
    case rest =>
      obtain ⟨rfl, hwc⟩ := hcut
      rename World => wc
      have HWC := Lib.hid hwc
      clear hwc hx k0 k1 k3 d1 d2 d3 d3' d4 d4'
      go_upto_if 38 with fail
      go_wp2_with fail
      go_loopw [3] (fun v3 wr => ∃ k : Nat, k ≤ sp.length ∧ v3 = .int .i64 k ∧ (∀ (j : Nat) (hj : j < sp.length), j < k → okSp o sp[j] = true) ∧ Below w1.heap.size w1 wr) (fun v3 _ => sp.length - (intOf v3).toNat)
      case atStart => exact ⟨0, Nat.zero_le _, rfl, fun j _ h => by omega, HWC.out⟩
      case round =>
        obtain ⟨k, hk, rfl, hkd, hb⟩ := hrel
        have HK := Lib.hid hkd
        have HB := Lib.hid hb
        have zr := hb.size
        obtain ⟨q0, q1, q3⟩ := HCE.out wr hb
        clear hkd hb
        by_cases hlt : k < sp.length
        · obtain ⟨bk, off, rfl, g0, g1⟩ := (HR.out.below HB.out).span k hlt
          have h9 : (k : Int) < (N : Int) := by have := HN.out; omega
          have HE := Lib.hid (okSp_eq o sp[k])
          have HBAD := Lib.hid (all_badOf8 (q := okSp o) hlt)
          obtain ⟨⟨x, y⟩, hxy⟩ : ∃ s, sp[k] = s := ⟨_, rfl⟩
          have HXY := Lib.hid hxy
          rw [hxy] at g0 g1 HE HBAD
          dsimp only at g0 g1 HE
          clear hxy
          have B6 := Lib.hid (HB.out.alloc zr (.cells #[.int .i64 x, .int .i64 y] 180))
          have p0 : (wr.alloc (.cells #[.int .i64 x, .int .i64 y] 180)).cell? ⟨w.heap.size, 0, none⟩ = some (.int .i64 o) := (HCE.out _ B6.out).1
          by_cases hx0 : x < 0
          · have e1 := decide_eq_true hx0
            have HV : Hid (okR ⟨o, m, nt, sp⟩ = false) := Lib.hid (by rw [HY.out]; exact HBAD.out (by rw [HE.out, e1]; rfl))
            clear hx0
            go_wp2_with fail
            go_big_quiet (fail)
            go_wp2
            go_ret
            exact ⟨by rw [HV.out]; rfl, K.out.trans (below_drewN (B6.out.mono K.out.size) _)⟩
          have e1 := decide_eq_false hx0
          by_cases hyx : y < x
          · have e2 := decide_eq_true hyx
            have HV : Hid (okR ⟨o, m, nt, sp⟩ = false) := Lib.hid (by rw [HY.out]; exact HBAD.out (by rw [HE.out, e1, e2]; rfl))
            clear hx0 hyx
            go_wp2_with fail
            go_big_quiet (fail)
            go_wp2
            go_ret
            exact ⟨by rw [HV.out]; rfl, K.out.trans (below_drewN (B6.out.mono K.out.size) _)⟩
          have e2 := decide_eq_false hyx
          have HE2 : Hid (okSp o (x, y) = !decide (bndOf8 o < y)) := Lib.hid (by rw [HE.out, e1, e2]; rfl)
          obtain ⟨bd, hbd⟩ : ∃ bd, bndOf8 o = bd := ⟨_, rfl⟩
          have HBC : Hid (∀ wx, Calls Tryz.prog 182 #[.int .i64 o] wx fun e w' => e = .returned (.int .i64 bd) ∧ w' = wx) := Lib.hid (fun wx => (bound_any o wx).mono (fun _ _ h => ⟨by rw [← hbd]; exact h.1, h.2⟩))
          rw [hbd] at HE2
          clear hbd hx0 hyx
          by_cases hyb : bd < y
          · have e3 := decide_eq_true hyb
            have HV : Hid (okR ⟨o, m, nt, sp⟩ = false) := Lib.hid (by rw [HY.out]; exact HBAD.out (by rw [HE2.out, e3]; rfl))
            clear hyb
            go_wp2_with fail
            go_quiet ((go_at_call 182; exact Calls.quiet_of_same (HBC.out _)))
            go_wp2
            go_ret
            exact ⟨by rw [HV.out]; rfl, K.out.trans (below_drewN (B6.out.mono K.out.size) _)⟩
          · have e3 := decide_eq_false hyb
            have HG : Hid (okSp o (x, y) = true) := Lib.hid (by rw [HE2.out, e3]; rfl)
            clear hyb
            go_wp2_with fail
            go_quiet ((go_at_call 182; exact Calls.quiet_of_same (HBC.out _)))
            go_wp2
            go_roundw
            case measure => simp [intOf]; have := HN.out; omega
            case rel => exact ⟨k + 1, by omega, by go_num, fun j hj hjk => by
              rcases Nat.lt_or_ge j k with h | h
              · exact HK.out j hj h
              · obtain rfl : j = k := by omega
                rw [HXY.out]; exact HG.out, below_drewN B6.out _⟩
        · obtain rfl : k = sp.length := by omega
          have h3 : ¬ (sp.length : Int) < (N : Int) := by have := HN.out; omega
          have HV : Hid (okR ⟨o, m, nt, sp⟩ = true) := Lib.hid (by rw [HY.out]; exact all_good HK.out)
          go_wp2
          go_ret
          exact ⟨by rw [HV.out]; rfl, K.out.trans (HB.out.mono K.out.size)⟩
end Go.Proofs.YtpmmchppfmojhaaGreatDoor


/- Of the reference on decimal numbers: digits, Zero, Value. Of the reference on decimal numbers: Trim. Of the reference on decimal numbers: Split. Of the reference on decimal numbers: Valid, Text, Normal. Of the reference on decimal numbers: Operand. -/
namespace Go.Proofs.YtpmmchppfmojhaaGreatDoor
open Go.RowKit
set_option linter.unusedVariables false
theorem of_extOf8 {a b : ByteArray} (h : a.data.toList = b.data.toList) : a = b := by rw [← of_data a, ← of_data b, h]
theorem add_two (x y : Str) : ofL x ++ ofL y = ofL (x ++ y) := of_extOf8 (by simp [ofL])
end Go.Proofs.YtpmmchppfmojhaaGreatDoor

namespace Go.Proofs.YtpmmchppfmojhaaGreatDoor
open Go.RowKit
set_option linter.unusedVariables false
end Go.Proofs.YtpmmchppfmojhaaGreatDoor

namespace Go.Proofs.YtpmmchppfmojhaaGreatDoor
open Go.RowKit
set_option linter.unusedVariables false
end Go.Proofs.YtpmmchppfmojhaaGreatDoor

namespace Go.Proofs.YtpmmchppfmojhaaGreatDoor
open Go.RowKit
set_option linter.unusedVariables false
end Go.Proofs.YtpmmchppfmojhaaGreatDoor

namespace Go.Proofs.YtpmmchppfmojhaaGreatDoor
open Go.RowKit
set_option linter.unusedVariables false
end Go.Proofs.YtpmmchppfmojhaaGreatDoor


/- Of the reference: Valid, Inside, Relation, Holds. -/
namespace Go.Proofs.YtpmmchppfmojhaaGreatDoor
open Go.RowKit
set_option linter.unusedVariables false

theorem cell_later {w w' : World} {p : Addr} {u : Value} (h : w.cell? p = some u) (hb : Below w.heap.size w w') : w'.cell? p = some u := (hb.cell (World.block_lt_of_cell? w p h)).trans h
theorem okL_bad {l : List Rel} {j : Nat} (hj : j < l.length) (h : okR l[j] = false) : okL l = false := by
  unfold okL
  rw [all_badOf8 hj h, Bool.and_false]
theorem okL_good {l : List Rel} (h0 : l.length ≠ 0) (h : ∀ (j : Nat) (hj : j < l.length), j < l.length → okR l[j] = true) : okL l = true := by
  rw [okL_all h0]
  exact all_good h
set_option maxRecDepth 1000000 in
set_option maxHeartbeats 8000000 in
theorem refValidC_any (v : Value) (c : Cnd) (w : World) (hv : RdC w v c) (hl : cntOf8 c ≤ 4611686018427387904) :
    Calls Tryz.prog 55 #[v] w fun e w' => e = .returned (.bool (okC c)) ∧ Below w.heap.size w w' := by
  obtain ⟨a, cp, rfl, hc1, hc2⟩ := hv.slice
  have HU := Lib.hid hv
  clear hv
  go_enter Tryz.func55, Tryz.ntmps55
  go_wp2
  go_loopw [3, 4] (fun v3 v4 wr => ∃ k : Nat, k ≤ c.length ∧ v4 = .int .i64 k ∧ v3 = .int .i64 (cntOf8 (c.take k) : Nat) ∧ (∀ l ∈ c.take k, okL l = true) ∧ Below w.heap.size w wr) (fun _ v4 _ => c.length - (intOf v4).toNat)
  case atStart => exact ⟨0, Nat.zero_le _, rfl, rfl, fun l h => by simp at h, Below.refl _ _⟩
  case round =>
    obtain ⟨k, hk, rfl, rfl, hok, hb⟩ := hrel
    have HK := Lib.hid hok
    have HB := Lib.hid hb
    have zr := hb.size
    clear hok hb
    by_cases hlt : k < c.length
    · obtain ⟨bk, off, x1, x2, rfl, h0, h4⟩ := (HU.out.below HB.out).at_ k hlt
      have h9 : (k : Int) < (c.length : Int) := by omega
      have HS := Lib.hid (cnt_take_succ hlt)
      have HT := Lib.hid (List.take_succ_eq_append_getElem hlt)
      have HBAD := Lib.hid (okC_bad (c := c) hlt)
      have H4 := Lib.hid h4
      have hcl := cnt_take_le c (k + 1)
      rw [HS.out] at hcl
      obtain ⟨m, hm⟩ : ∃ m, c[k] = m := ⟨_, rfl⟩
      rw [hm] at h0 HS HT HBAD H4 hcl
      clear h4 hm
      obtain ⟨N, hN⟩ : ∃ N, cntOf8 (c.take k) = N := ⟨_, rfl⟩
      rw [hN] at HS hcl ⊢
      clear hN
      by_cases hz : m.length = 0
      · have t0 : ((m.length : Int) == 0) = true := by rw [beq_iff_eq]; omega
        have HV := Lib.hid (HBAD.out (okL_nil hz))
        clear hz
        go_wp2
        go_ret
        exact ⟨by rw [HV.out]; rfl, HB.out⟩
      have t0 : ((m.length : Int) == 0) = false := by rw [beq_eq_false_iff_ne]; omega
      have t0' : (m.length == 0) = false := by rw [beq_eq_false_iff_ne]; omega
      have HZ := Lib.hid hz
      have H0 := Lib.hid h0
      clear hz
      go_wp2
      go_loopw [3, 5] (fun v3 v5 wz => ∃ j : Nat, j ≤ m.length ∧ v5 = .int .i64 j ∧ v3 = .int .i64 (N + j : Nat) ∧ (∀ (i : Nat) (hi : i < m.length), i < j → okR m[i] = true) ∧ Below wr.heap.size wr wz) (fun _ v5 _ => m.length - (intOf v5).toNat)
      case atStart => exact ⟨0, Nat.zero_le _, rfl, by simp, fun i _ h => by omega, Below.refl _ _⟩
      case round =>
        obtain ⟨j, hj, rfl, rfl, hjk, hbz⟩ := hrel
        have HJ := Lib.hid hjk
        have HBZ := Lib.hid hbz
        have h0z := cell_later H0.out hbz
        clear hjk hbz h0
        by_cases hjt : j < m.length
        · obtain ⟨bm, om, y1, y2, rfl, g0, g1, g2, g3, g4⟩ := (H4.out.below HBZ.out).at_ j hjt
          have h8 : (j : Int) < (m.length : Int) := by omega
          have G4 := Lib.hid g4
          have HBADL := Lib.hid (okL_bad (l := m) hjt)
          clear g4
          obtain ⟨r, hr⟩ : ∃ r, m[j] = r := ⟨_, rfl⟩
          have HR := Lib.hid hr
          rw [hr] at g0 g1 g2 g3 G4 HBADL
          clear hr
          go_wp2_with fail
          refine (proper_any r y1 y2 _ G4.out).mono ?_
          rintro e w2 ⟨rfl, b2⟩
          have HB2 := Lib.hid (st HBZ.out b2 HBZ.out.size)
          clear b2
          obtain ⟨b, hbb⟩ : ∃ b, okR r = b := ⟨_, rfl⟩
          have HQ := Lib.hid hbb
          rw [hbb]
          clear hbb
          cases b with
          | false =>
            have HV := Lib.hid (HBAD.out (HBADL.out HQ.out))
            go_wp2
            go_ret
            exact ⟨by rw [HV.out]; rfl, st HB.out HB2.out zr⟩
          | true =>
            go_wp2
            go_roundw
            case measure => simp [intOf]; omega
            case rel => exact ⟨j + 1, by omega, by go_num, by go_num, fun i hi hij => by
              rcases Nat.lt_or_ge i j with h | h
              · exact HJ.out i hi h
              · obtain rfl : i = j := by omega
                rw [HR.out]; exact HQ.out, HB2.out⟩
        · obtain rfl : j = m.length := by omega
          have h3 : ¬ (m.length : Int) < (m.length : Int) := by omega
          have HG := Lib.hid (okL_good HZ.out HJ.out)
          go_wp2
          go_roundw
          case measure => simp [intOf]; omega
          case rel => exact ⟨k + 1, by omega, by go_num, by rw [HS.out], fun l hl => by
            rw [HT.out] at hl
            rcases List.mem_append.1 hl with h | h
            · exact HK.out l h
            · simp at h; subst h; exact HG.out, st HB.out HBZ.out zr⟩
    · obtain rfl : k = c.length := by omega
      have h3 : ¬ (c.length : Int) < (c.length : Int) := by omega
      obtain ⟨N, hN⟩ : ∃ N, cntOf8 (c.take c.length) = N := ⟨_, rfl⟩
      rw [hN]
      have HN : Hid (cntOf8 c = N) := Lib.hid (by rw [← hN, List.take_length])
      have HA : Hid (∀ l ∈ c, okL l = true) := Lib.hid (by
        have h1 := HK.out
        rw [List.take_length] at h1
        exact h1)
      clear hN
      by_cases h0 : 0 < c.length
      · have t0 : (0 : Int) < (c.length : Int) := by omega
        by_cases h6 : N ≤ 6
        · have HW : Hid (okC c = true) := Lib.hid (okC_iff.2 ⟨h0, HA.out, by rw [HN.out]; exact h6⟩)
          have t6 : (N : Int) ≤ 6 := by omega
          go_wp2
          go_ret
          exact ⟨by rw [HW.out]; rfl, HB.out⟩
        · have HW : Hid (okC c = false) := Lib.hid (okC_many (k := c.length) (by rw [List.take_length, HN.out]; omega))
          have t6 : ¬ (N : Int) ≤ 6 := by omega
          go_wp2
          go_ret
          exact ⟨by rw [HW.out]; rfl, HB.out⟩
      · have t0 : ¬ (0 : Int) < (c.length : Int) := by omega
        have HW : Hid (okC c = false) := Lib.hid (by unfold okC; rw [decide_eq_false h0]; rfl)
        go_wp2
        go_ret
        exact ⟨by rw [HW.out]; rfl, HB.out⟩

end Go.Proofs.YtpmmchppfmojhaaGreatDoor


/- Structs of strings and numbers compared. Of calqueref12: sameRules. -/
namespace Go.Proofs.YtpmmchppfmojhaaGreatDoor
open Go.RowKit
set_option linter.unusedVariables false

set_option maxRecDepth 100000 in
set_option maxHeartbeats 4000000 in
theorem eqSy (x y : Sym) (wx : World) : (Op.equalIn 10000 45 (.agg #[.string (ofL x.de), .string (ofL x.gr), .string (ofL x.mi), .string (ofL x.pe), .int .i64 x.pr, .int .i64 x.se]) (.agg #[.string (ofL y.de), .string (ofL y.gr), .string (ofL y.mi), .string (ofL y.pe), .int .i64 y.pr, .int .i64 y.se])).run Tryz.prog wx = .ok (decide (x = y)) wx := by
  obtain ⟨a0, a1, a2, a3, a4, a5⟩ := x
  obtain ⟨b0, b1, b2, b3, b4, b5⟩ := y
  rw [show (10000 : Nat) = 9999 + 1 from rfl, run_equalIn_struct _ 9999 _ _ _ (by kernel_rfl) (by kernel_rfl)]
  have u1 := Tryz.underlying9
  have u2 := Tryz.underlying3
  dsimp only
  by_cases h0 : a0 = b0
  case neg =>
    have e0 := (str_ne h0).1
    have hv := Lib.hid (decide_eq_false (p := (⟨a0, a1, a2, a3, a4, a5⟩ : Sym) = ⟨b0, b1, b2, b3, b4, b5⟩) (fun h => by injection h with q0 q1 q2 q3 q4 q5; exact h0 q0))
    clear h0
    rw [hv.out]
    go_simp
  subst h0
  have e0 := (str_self a0).1
  by_cases h1 : a1 = b1
  case neg =>
    have e1 := (str_ne h1).1
    have hv := Lib.hid (decide_eq_false (p := (⟨a0, a1, a2, a3, a4, a5⟩ : Sym) = ⟨a0, b1, b2, b3, b4, b5⟩) (fun h => by injection h with q0 q1 q2 q3 q4 q5; exact h1 q1))
    clear h1
    rw [hv.out]
    go_simp
  subst h1
  have e1 := (str_self a1).1
  by_cases h2 : a2 = b2
  case neg =>
    have e2 := (str_ne h2).1
    have hv := Lib.hid (decide_eq_false (p := (⟨a0, a1, a2, a3, a4, a5⟩ : Sym) = ⟨a0, a1, b2, b3, b4, b5⟩) (fun h => by injection h with q0 q1 q2 q3 q4 q5; exact h2 q2))
    clear h2
    rw [hv.out]
    go_simp
  subst h2
  have e2 := (str_self a2).1
  by_cases h3 : a3 = b3
  case neg =>
    have e3 := (str_ne h3).1
    have hv := Lib.hid (decide_eq_false (p := (⟨a0, a1, a2, a3, a4, a5⟩ : Sym) = ⟨a0, a1, a2, b3, b4, b5⟩) (fun h => by injection h with q0 q1 q2 q3 q4 q5; exact h3 q3))
    clear h3
    rw [hv.out]
    go_simp
  subst h3
  have e3 := (str_self a3).1
  by_cases h4 : a4 = b4
  case neg =>
    have e4 : (a4 == b4) = false := by rw [beq_eq_false_iff_ne]; exact h4
    have hv := Lib.hid (decide_eq_false (p := (⟨a0, a1, a2, a3, a4, a5⟩ : Sym) = ⟨a0, a1, a2, a3, b4, b5⟩) (fun h => by injection h with q0 q1 q2 q3 q4 q5; exact h4 q4))
    clear h4
    rw [hv.out]
    go_simp
  subst h4
  have e4 : (a4 == a4) = true := beq_self_eq_true _
  by_cases h5 : a5 = b5
  case neg =>
    have e5 : (a5 == b5) = false := by rw [beq_eq_false_iff_ne]; exact h5
    have hv := Lib.hid (decide_eq_false (p := (⟨a0, a1, a2, a3, a4, a5⟩ : Sym) = ⟨a0, a1, a2, a3, a4, b5⟩) (fun h => by injection h with q0 q1 q2 q3 q4 q5; exact h5 q5))
    clear h5
    rw [hv.out]
    go_simp
  subst h5
  have e5 : (a5 == a5) = true := beq_self_eq_true _
  have hv := Lib.hid (decide_eq_true (p := (⟨a0, a1, a2, a3, a4, a5⟩ : Sym) = ⟨a0, a1, a2, a3, a4, a5⟩) rfl)
  rw [hv.out]
  go_simp

end Go.Proofs.YtpmmchppfmojhaaGreatDoor


/- What is asked of the program's table package, and the example of the laws. -/
namespace Go.Proofs.YtpmmchppfmojhaaGreatDoor
open Go.RowKit
set_option linter.unusedVariables false

/-- Parse: the table, or an empty one and an error. -/
def TpPost (s : Str) (w : World) (e : Ending) (w' : World) : Prop := (∃ (a b c : RawS) (at_ er : Int), e = .returned (.tuple #[.agg #[.slice a.a a.n a.c, .slice b.a b.n b.c, .slice c.a c.n c.c], .int .i64 at_, .int .i64 er]) ∧ match prsT s with
  | some t => RdTab w' (.slice a.a a.n a.c) (.slice b.a b.n b.c) (.slice c.a c.n c.c) t ∧ er = 0
  | none => RdTab w' (.slice a.a a.n a.c) (.slice b.a b.n b.c) (.slice c.a c.n c.c) ⟨[], [], []⟩ ∧ er ≠ 0) ∧ Below w.heap.size w w'
/-- Small enough: what is known of a table that Few lets pass, and of the law's own. -/
structure TabS (t : Tab) : Prop where
  reach : TabR t
  lo : t.lo.length ≤ 62
  al : t.al.length ≤ 205
  ne : t.ne.length ≤ 205
  ca : ∀ x ∈ t.lo, x.ca.length ≤ 12 ∧ x.oc.length ≤ 12 ∧ x.li.length ≤ 12 ∧ x.un.length ≤ 110 ∧ x.da.length ≤ 40 ∧ x.mo.length ≤ 20 ∧ x.dy.length ≤ 20
  co : ∀ x ∈ t.lo, ∀ r ∈ x.ca ++ x.oc, r.2.length ≤ 30
/-- Print: the text, or an error. -/
def PrPost (t : Tab) (w : World) (e : Ending) (w' : World) : Prop := (∃ (s : Str) (er : Int), e = .returned (.tuple #[.string (ofL s), .int .i64 er]) ∧ (TabV t → (tabX t).length ≤ 200000 → s = tabX t ∧ er = 0) ∧ (TabV t → ¬ (tabX t).length ≤ 200000 → s = [] ∧ er = 6) ∧ (¬ TabV t → s = [] ∧ er = 1)) ∧ Below w.heap.size w w'
/-- What the program's functions do; E: what they ask of the world. -/
structure ParC where
  E : World → Prop
  later : ∀ {w w' : World}, E w → Below w.heap.size w w' → E w'
  parse : ∀ (w : World) (s : Str), E w → s.length ≤ 300000 → Calls Tryz.prog 18 #[.string (ofL s)] w (TpPost s w)
/-- And of Print and Valid. -/
structure TabC extends ParC where
  print : ∀ (w : World) (a b c : RawS) (t : Tab), E w → RdTab w (.slice a.a a.n a.c) (.slice b.a b.n b.c) (.slice c.a c.n c.c) t → TabS t → Calls Tryz.prog 12 #[.agg #[.slice a.a a.n a.c, .slice b.a b.n b.c, .slice c.a c.n c.c]] w (PrPost t w)
  valid : ∀ (w : World) (a b c : RawS) (t : Tab), E w → RdTab w (.slice a.a a.n a.c) (.slice b.a b.n b.c) (.slice c.a c.n c.c) t → TabS t → Calls Tryz.prog 14 #[.agg #[.slice a.a a.n a.c, .slice b.a b.n b.c, .slice c.a c.n c.c]] w fun e w' => (∃ vb, e = .returned (.bool vb) ∧ (vb = true ↔ TabV t)) ∧ Below w.heap.size w w'
def awTb : Str := [97, 108, 105, 97, 115, 32, 105, 119, 32, 104, 101, 59]
end Go.Proofs.YtpmmchppfmojhaaGreatDoor


/- What TableConditions wants of the program: awake, Print, Valid. -/
namespace Go.Proofs.YtpmmchppfmojhaaGreatDoor
open Go.RowKit
set_option linter.unusedVariables false

structure CndC where
  E : World → Prop
  later : ∀ {w w' : World}, E w → Below w.heap.size w w' → E w'
  awake : ∀ (w : World), E w → Calls Tryz.prog 10 #[] w fun e w' => e = .returned (.bool true) ∧ Below w.heap.size w w'
  print : ∀ (w : World) (a b c : RawS) (t : Tab), E w → RdTab w (.slice a.a a.n a.c) (.slice b.a b.n b.c) (.slice c.a c.n c.c) t → TabS t → Calls Tryz.prog 12 #[.agg #[.slice a.a a.n a.c, .slice b.a b.n b.c, .slice c.a c.n c.c]] w (PrPost t w)
  valid : ∀ (w : World) (a b c : RawS) (t : Tab), E w → RdTab w (.slice a.a a.n a.c) (.slice b.a b.n b.c) (.slice c.a c.n c.c) t → TabS t → Calls Tryz.prog 14 #[.agg #[.slice a.a a.n a.c, .slice b.a b.n b.c, .slice c.a c.n c.c]] w fun e w' => (∃ vb, e = .returned (.bool vb) ∧ (vb = true ↔ TabV t)) ∧ Below w.heap.size w w'
end Go.Proofs.YtpmmchppfmojhaaGreatDoor


/- Valid tables are small. -/
namespace Go.Proofs.YtpmmchppfmojhaaGreatDoor
open Go.RowKit
set_option linter.unusedVariables false

theorem nodup_len {α : Type} [DecidableEq α] : ∀ (l m : List α), l.Nodup → (∀ x ∈ l, x ∈ m) → l.length ≤ m.length
  | [], m, _, _ => Nat.zero_le _
  | x :: l, m, hn, hs => by
    have hx : x ∈ m := hs x (List.mem_cons_self ..)
    have ih := nodup_len l (m.erase x) (List.nodup_cons.1 hn).2 (fun y hy => (List.mem_erase_of_ne (by rintro rfl; exact (List.nodup_cons.1 hn).1 hy)).2 (hs y (List.mem_cons_of_mem _ hy)))
    rw [List.length_erase_of_mem hx] at ih
    have := List.length_pos_of_mem hx
    rw [List.length_cons]
    omega
theorem cnt_ge : ∀ c : Cnd, (∀ l ∈ c, 1 ≤ l.length) → c.length ≤ (c.map List.length).sum
  | [], _ => Nat.le_refl _
  | l :: c, h => by
    have ih := cnt_ge c (fun x hx => h x (List.mem_cons_of_mem _ hx))
    have h1 := h l (List.mem_cons_self ..)
    rw [List.map_cons, List.sum_cons, List.length_cons]
    omega
theorem mem_sum : ∀ (c : Cnd) (l : List Rel), l ∈ c → l.length ≤ (c.map List.length).sum
  | [], _, h => by cases h
  | x :: c, l, h => by
    rw [List.map_cons, List.sum_cons]
    rcases List.mem_cons.1 h with rfl | h
    · omega
    · have := mem_sum c l h; omega
theorem okC_few {c : Cnd} (h : okC c = true) : c.length ≤ 30 ∧ CndR c := by
  unfold okC at h
  simp only [Bool.and_eq_true, List.all_eq_true, decide_eq_true_eq] at h
  obtain ⟨⟨_, h2⟩, h3⟩ := h
  have h4 := cnt_ge c (fun l hl => by
    have hL := h2 l hl
    unfold okL at hL
    simp only [Bool.and_eq_true, decide_eq_true_eq] at hL
    exact hL.1)
  unfold cntOf8 at h3
  exact ⟨by omega, fun l hl => by have := mem_sum c l hl; omega⟩
theorem cls_sm {t : Str} (h : t ∈ cls6) : Sm t := by
  unfold Sm
  have : ∀ x ∈ cls6, x.length ≤ 140737488355328 := by decide
  exact this t h
theorem rules_sm {l : List Rul} (h : rulesOk l) : RulR l ∧ l.length ≤ 5 ∧ ∀ r ∈ l, r.2.length ≤ 30 := by
  obtain ⟨h1, h2⟩ := h
  refine ⟨fun r hr => ⟨cls_sm (List.mem_append_left _ (h1 r hr).1), (okC_few (h1 r hr).2).2⟩, ?_, fun r hr => (okC_few (h1 r hr).2).1⟩
  have := nodup_len _ clsL h2 (fun x hx => by
    obtain ⟨r, hr, rfl⟩ := List.mem_map.1 hx
    exact (h1 r hr).1)
  rw [List.length_map] at this
  exact this
end Go.Proofs.YtpmmchppfmojhaaGreatDoor


/- Parse's answer with a table in any case; lists of locales put together. -/
namespace Go.Proofs.YtpmmchppfmojhaaGreatDoor
open Go.RowKit
set_option linter.unusedVariables false

/-- What Parse answered, with a table in any case. -/
theorem TpPost.tab {s : Str} {w w' : World} {e : Ending} (h : TpPost s w e w') : ∃ (a b c : RawS) (at_ er : Int) (t : Tab), e = .returned (.tuple #[.agg #[.slice a.a t.lo.length a.c, .slice b.a t.al.length b.c, .slice c.a t.ne.length c.c], .int .i64 at_, .int .i64 er]) ∧ RdTab w' (.slice a.a t.lo.length a.c) (.slice b.a t.al.length b.c) (.slice c.a t.ne.length c.c) t ∧ (er = 0 → prsT s = some t) ∧ (er ≠ 0 → prsT s = none ∧ t = ⟨[], [], []⟩) ∧ Below w.heap.size w w' := by
  obtain ⟨⟨a, b, c, at_, er, rfl, h1⟩, b1⟩ := h
  obtain ⟨aa, an, ac⟩ := a
  obtain ⟨ba, bn, bc⟩ := b
  obtain ⟨ca, cn, cc⟩ := c
  split at h1
  · rename_i t ht
    obtain ⟨h2, h3⟩ := h1
    obtain rfl : an = t.lo.length := h2.lo.len.symm
    obtain rfl : bn = t.al.length := h2.al.len.symm
    obtain rfl : cn = t.ne.length := h2.ne.len.symm
    exact ⟨⟨aa, t.lo.length, ac⟩, ⟨ba, t.al.length, bc⟩, ⟨ca, t.ne.length, cc⟩, at_, er, t, rfl, h2, fun _ => ht, fun h => absurd h3 h, b1⟩
  · rename_i ht
    obtain ⟨h2, h3⟩ := h1
    obtain rfl : an = 0 := h2.lo.len.symm
    obtain rfl : bn = 0 := h2.al.len.symm
    obtain rfl : cn = 0 := h2.ne.len.symm
    exact ⟨⟨aa, 0, ac⟩, ⟨ba, 0, bc⟩, ⟨ca, 0, cc⟩, at_, er, ⟨[], [], []⟩, rfl, h2, fun h => absurd h h3, fun _ => ⟨ht, rfl⟩, b1⟩
end Go.Proofs.YtpmmchppfmojhaaGreatDoor


