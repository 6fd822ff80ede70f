/- What the row stands on, part 4. -/
import Derived.Test.YtfbfcomfkokfcaaGreatDoorQ3

/- Of the reference: proper, Valid. -/
namespace Go.Proofs.YtfbfcomfkokfcaaGreatDoor
open Go.RowKit
set_option linter.unusedVariables false

theorem okSp_eq (o : Int) (s : Int × Int) : okSp o s = (!(decide (s.1 < 0) || decide (s.2 < s.1) || decide (bnd o < s.2))) := by
  unfold okSp okEnd bnd
  rw [Bool.eq_iff_iff]
  simp only [Bool.and_eq_true, decide_eq_true_eq, Bool.not_eq_true', Bool.or_eq_false_iff, decide_eq_false_iff_not]
  split <;> omega
def hdOk (o m : Int) (N : Nat) : Bool := decide (1 ≤ o) && decide (o ≤ 6) && okMod o m && decide (0 < N) && decide (N ≤ 4)
theorem okR_hd (o m : Int) (nt : Bool) (sp : List (Int × Int)) : okR ⟨o, m, nt, sp⟩ = (hdOk o m sp.length && sp.all (okSp o)) := rfl
theorem all_bad {α : Type} {l : List α} {q : α → Bool} {j : Nat} (hj : j < l.length) (h : q l[j] = false) : l.all q = false := by
  rw [List.all_eq_false]
  exact ⟨_, List.getElem_mem hj, by rw [h]; simp⟩
theorem all_good {α : Type} {l : List α} {q : α → Bool} (h : ∀ (j : Nat) (hj : j < l.length), j < l.length → q l[j] = true) : l.all q = true := by
  rw [List.all_eq_true]
  intro x hx
  obtain ⟨j, hj, rfl⟩ := List.getElem_of_mem hx
  exact h j hj hj
set_option maxRecDepth 1000000 in
set_option maxHeartbeats 8000000 in
theorem proper_bad (o m : Int) (nt : Bool) (a2 : Option Addr) (N c2 : Nat) (w : World) (hb : hdOk o m N = false) :
    Calls Tryz.prog 54 #[.agg #[.int .i64 o, .int .i64 m, .bool nt, .slice a2 N c2]] w fun e w' => e = .returned (.bool false) ∧ Below w.heap.size w w' := by
  by_cases h1 : o < 1
  · have d1 := decide_eq_true h1
    clear hb
    have K := Lib.hid ((Below.refl w.heap.size w).alloc (Nat.le_refl _) (.cells #[.int .i64 o, .int .i64 m, .bool nt, .slice a2 N c2] 72))
    go_enter Tryz.func54, Tryz.ntmps54
    go_wp2_with fail
    go_big_quiet (fail)
    go_wp2
    go_ret
    exact ⟨rfl, below_drewN K.out _⟩
  by_cases h2 : 6 < o
  · have d1 := decide_eq_false h1
    have d2 := decide_eq_true h2
    clear hb
    have K := Lib.hid ((Below.refl w.heap.size w).alloc (Nat.le_refl _) (.cells #[.int .i64 o, .int .i64 m, .bool nt, .slice a2 N c2] 72))
    go_enter Tryz.func54, Tryz.ntmps54
    go_wp2_with fail
    go_big_quiet (fail)
    go_wp2
    go_ret
    exact ⟨rfl, below_drewN K.out _⟩
  by_cases hm : m = 0
  · have dm : (m == 0) = true := by rw [beq_iff_eq]; exact hm
    have dm' : (m != 0) = false := by rw [bne_eq_false_iff_eq]; exact hm
    have d1 := decide_eq_false h1
    have d2 := decide_eq_false h2
    have hb2 : (decide (0 < N) && decide (N ≤ 4)) = false := by
      unfold hdOk at hb
      rw [decide_eq_true (by omega : 1 ≤ o), decide_eq_true (by omega : o ≤ 6), show okMod o m = true by unfold okMod; rw [if_pos hm]] at hb
      simpa using hb
    clear hb
    have K := Lib.hid ((Below.refl w.heap.size w).alloc (Nat.le_refl _) (.cells #[.int .i64 o, .int .i64 m, .bool nt, .slice a2 N c2] 72))
    by_cases h3 : N = 0
    · subst h3
      have d3 : decide (((0 : Nat) : Int) < 1) = true := rfl
      clear hb2 hm
      go_enter Tryz.func54, Tryz.ntmps54
      go_wp2_with fail
      go_big_quiet (fail)
      go_wp2
      go_ret
      exact ⟨rfl, below_drewN K.out _⟩
    · have h4 : 4 < N := by
        rcases Nat.lt_or_ge 4 N with h | h
        · exact h
        · exfalso
          rw [decide_eq_true (by omega : 0 < N), decide_eq_true h] at hb2
          cases hb2
      have d3 : decide ((N : Int) < 1) = false := decide_eq_false (by omega)
      have d3' : decide (N < 1) = false := decide_eq_false (by omega)
      have d4 : decide ((4 : Int) < (N : Int)) = true := decide_eq_true (by omega)
      have d4' : decide (4 < N) = true := decide_eq_true h4
      clear hb2 hm
      go_enter Tryz.func54, Tryz.ntmps54
      go_wp2_with fail
      go_big_quiet (fail)
      go_wp2
      go_ret
      exact ⟨rfl, below_drewN K.out _⟩
  · cases hx : okMod o m with
    | false => exact proper_noMod o m nt a2 N c2 w h1 h2 hm hx
    | true =>
      by_cases h3 : N = 0
      · exact proper_noSpan o m nt a2 N c2 w h1 h2 hm hx h3
      · refine proper_manySpans o m nt a2 N c2 w h1 h2 hm hx ?_
        unfold hdOk at hb
        rw [decide_eq_true (by omega : 1 ≤ o), decide_eq_true (by omega : o ≤ 6), hx, decide_eq_true (by omega : 0 < N)] at hb
        rcases Nat.lt_or_ge 4 N with h | h
        · exact h
        · rw [decide_eq_true h] at hb
          cases hb
set_option maxRecDepth 1000000 in
set_option maxHeartbeats 8000000 in
theorem proper_any (r : Rel) (a2 : Option Addr) (c2 : Nat) (w : World) (hr : Rd 2 encP w (.slice a2 r.sp.length c2) r.sp) :
    Calls Tryz.prog 54 #[.agg #[.int .i64 r.op, .int .i64 r.md, .bool r.nt, .slice a2 r.sp.length c2]] w fun e w' => e = .returned (.bool (okR r)) ∧ Below w.heap.size w w' := by
  obtain ⟨o, m, nt, sp⟩ := r
  dsimp only at hr ⊢
  have HX := Lib.hid (okR_hd o m nt sp)
  cases hhd : hdOk o m sp.length with
  | false =>
    refine (proper_bad o m nt a2 sp.length c2 w hhd).mono ?_
    rintro e w' ⟨rfl, b⟩
    exact ⟨by rw [HX.out, hhd]; rfl, b⟩
  | true =>
    have HY : Hid (okR ⟨o, m, nt, sp⟩ = sp.all (okSp o)) := Lib.hid (by rw [HX.out, hhd]; rfl)
    have HH : (1 ≤ o ∧ o ≤ 6) ∧ okMod o m = true ∧ 0 < sp.length ∧ sp.length ≤ 4 := by
      unfold hdOk at hhd
      simp only [Bool.and_eq_true, decide_eq_true_eq] at hhd
      exact ⟨hhd.1.1.1, hhd.1.1.2, hhd.1.2, hhd.2⟩
    obtain ⟨⟨h1, h2⟩, hx, h3, h4⟩ := HH
    have K := Lib.hid ((Below.refl w.heap.size w).alloc (Nat.le_refl _) (.cells #[.int .i64 o, .int .i64 m, .bool nt, .slice a2 sp.length c2] 72))
    have KB := Lib.hid (Blk.new w 72 #[.int .i64 o, .int .i64 m, .bool nt, .slice a2 sp.length c2])
    have HR := Lib.hid (hr.below K.out)
    clear hr hhd HX
    obtain ⟨N, hN⟩ : ∃ N, sp.length = N := ⟨_, rfl⟩
    have HN := Lib.hid hN
    rw [hN] at K KB HR h3 h4 ⊢
    clear hN
    obtain ⟨w1, hw1⟩ : ∃ w1, w.alloc (.cells #[.int .i64 o, .int .i64 m, .bool nt, .slice a2 N c2] 72) = w1 := ⟨_, rfl⟩
    have d1 := decide_eq_false (show ¬ o < 1 by omega)
    have d2 := decide_eq_false (show ¬ 6 < o by omega)
    have d3 : decide ((N : Int) < 1) = false := decide_eq_false (by omega)
    have d3' : decide (N < 1) = false := decide_eq_false (by omega)
    have d4 : decide ((4 : Int) < (N : Int)) = false := decide_eq_false (by omega)
    have d4' : decide (4 < N) = false := decide_eq_false (by omega)
    go_enter Tryz.func54, Tryz.ntmps54
    go_upto_region 1 with fail
    rw [hw1] at K KB HR
    try rw [hw1]
    clear hw1
    have HCE : Hid (∀ wx, Below w1.heap.size w1 wx → wx.cell? ⟨w.heap.size, 0, none⟩ = some (.int .i64 o) ∧ wx.cell? ⟨w.heap.size, 1, none⟩ = some (.int .i64 m) ∧ wx.cell? ⟨w.heap.size, 3, none⟩ = some (.slice a2 N c2)) := Lib.hid (fun wx hb => ⟨(KB.out.below hb).cell 0, (KB.out.below hb).cell 1, (KB.out.below hb).cell 3⟩)
    obtain ⟨k0, k1, k3⟩ := HCE.out w1 (Below.refl _ _)
    go_cut [38] from 5 to 38 (fun v38 wx => v38 = .bool false ∧ Below w1.heap.size w1 wx)
    case first =>
      by_cases hm : m = 0
      · have dm : (m == 0) = true := by rw [beq_iff_eq]; exact hm
        have dm' : (m != 0) = false := by rw [bne_eq_false_iff_eq]; exact hm
        clear hm hx
        go_big_quiet (fail)
        go_wp2_with fail
        go_meet
        exact ⟨rfl, below_drewN (Below.refl _ _) _⟩
      · have dm : (m == 0) = false := by rw [beq_eq_false_iff_ne]; exact hm
        have dm' : (m != 0) = true := by rw [bne_iff_ne]; exact hm
        have HMO := Lib.hid (mods_ok (o := o) (m := m) (by omega) (by omega) hm)
        rw [hx] at HMO
        clear hm hx
        go_region_held3 (fun wx => wx.cell? ⟨w.heap.size, 0, none⟩ = some (.int .i64 o) ∧ wx.cell? ⟨w.heap.size, 1, none⟩ = some (.int .i64 m) ∧ wx.cell? ⟨w.heap.size, 3, none⟩ = some (.slice a2 N c2)) (first | exact HCE.out _ B5 | exact HCE.out _ (Below.refl _ _).drew) (first | (go_at_call 97; refine (mods_any o _).mono ?_; rintro e w5 ⟨⟨v5, rfl, r5⟩, b5⟩; have B5 : Below w1.heap.size w1 w5 := (Below.refl _ w1).drew.trans b5; have R5 := Lib.hid r5; clear b5 r5) | (go_at_call 96; refine (has_any _ _ m _ R5.out).mono ?_; rw [HMO.out]; rintro e w' ⟨rfl, hw'⟩; obtain rfl := hw'.symm))
        all_goals
          go_wp2_with fail
          go_meet
          exact ⟨rfl, B5⟩
    case rest =>
      obtain ⟨rfl, hwc⟩ := hcut
      rename World => wc
      have HWC := Lib.hid hwc
      clear hwc hx k0 k1 k3 d1 d2 d3 d3' d4 d4'
      go_upto_if 38 with fail
      go_wp2_with fail
      go_loopw [3] (fun v3 wr => ∃ k : Nat, k ≤ sp.length ∧ v3 = .int .i64 k ∧ (∀ (j : Nat) (hj : j < sp.length), j < k → okSp o sp[j] = true) ∧ Below w1.heap.size w1 wr) (fun v3 _ => sp.length - (intOf v3).toNat)
      case atStart => exact ⟨0, Nat.zero_le _, rfl, fun j _ h => by omega, HWC.out⟩
      case round =>
        obtain ⟨k, hk, rfl, hkd, hb⟩ := hrel
        have HK := Lib.hid hkd
        have HB := Lib.hid hb
        have zr := hb.size
        obtain ⟨q0, q1, q3⟩ := HCE.out wr hb
        clear hkd hb
        by_cases hlt : k < sp.length
        · obtain ⟨bk, off, rfl, g0, g1⟩ := (HR.out.below HB.out).span k hlt
          have h9 : (k : Int) < (N : Int) := by have := HN.out; omega
          have HE := Lib.hid (okSp_eq o sp[k])
          have HBAD := Lib.hid (all_bad (q := okSp o) hlt)
          obtain ⟨⟨x, y⟩, hxy⟩ : ∃ s, sp[k] = s := ⟨_, rfl⟩
          have HXY := Lib.hid hxy
          rw [hxy] at g0 g1 HE HBAD
          dsimp only at g0 g1 HE
          clear hxy
          have B6 := Lib.hid (HB.out.alloc zr (.cells #[.int .i64 x, .int .i64 y] 123))
          have p0 : (wr.alloc (.cells #[.int .i64 x, .int .i64 y] 123)).cell? ⟨w.heap.size, 0, none⟩ = some (.int .i64 o) := (HCE.out _ B6.out).1
          by_cases hx0 : x < 0
          · have e1 := decide_eq_true hx0
            have HV : Hid (okR ⟨o, m, nt, sp⟩ = false) := Lib.hid (by rw [HY.out]; exact HBAD.out (by rw [HE.out, e1]; rfl))
            clear hx0
            go_wp2_with fail
            go_big_quiet (fail)
            go_wp2
            go_ret
            exact ⟨by rw [HV.out]; rfl, K.out.trans (below_drewN (B6.out.mono K.out.size) _)⟩
          have e1 := decide_eq_false hx0
          by_cases hyx : y < x
          · have e2 := decide_eq_true hyx
            have HV : Hid (okR ⟨o, m, nt, sp⟩ = false) := Lib.hid (by rw [HY.out]; exact HBAD.out (by rw [HE.out, e1, e2]; rfl))
            clear hx0 hyx
            go_wp2_with fail
            go_big_quiet (fail)
            go_wp2
            go_ret
            exact ⟨by rw [HV.out]; rfl, K.out.trans (below_drewN (B6.out.mono K.out.size) _)⟩
          have e2 := decide_eq_false hyx
          have HE2 : Hid (okSp o (x, y) = !decide (bnd o < y)) := Lib.hid (by rw [HE.out, e1, e2]; rfl)
          obtain ⟨bd, hbd⟩ : ∃ bd, bnd o = bd := ⟨_, rfl⟩
          have HBC : Hid (∀ wx, Calls Tryz.prog 98 #[.int .i64 o] wx fun e w' => e = .returned (.int .i64 bd) ∧ w' = wx) := Lib.hid (fun wx => (bound_any o wx).mono (fun _ _ h => ⟨by rw [← hbd]; exact h.1, h.2⟩))
          rw [hbd] at HE2
          clear hbd hx0 hyx
          by_cases hyb : bd < y
          · have e3 := decide_eq_true hyb
            have HV : Hid (okR ⟨o, m, nt, sp⟩ = false) := Lib.hid (by rw [HY.out]; exact HBAD.out (by rw [HE2.out, e3]; rfl))
            clear hyb
            go_wp2_with fail
            go_quiet ((go_at_call 98; exact Calls.quiet_of_same (HBC.out _)))
            go_wp2
            go_ret
            exact ⟨by rw [HV.out]; rfl, K.out.trans (below_drewN (B6.out.mono K.out.size) _)⟩
          · have e3 := decide_eq_false hyb
            have HG : Hid (okSp o (x, y) = true) := Lib.hid (by rw [HE2.out, e3]; rfl)
            clear hyb
            go_wp2_with fail
            go_quiet ((go_at_call 98; exact Calls.quiet_of_same (HBC.out _)))
            go_wp2
            go_roundw
            case measure => simp [intOf]; have := HN.out; omega
            case rel => exact ⟨k + 1, by omega, by go_num, fun j hj hjk => by
              rcases Nat.lt_or_ge j k with h | h
              · exact HK.out j hj h
              · obtain rfl : j = k := by omega
                rw [HXY.out]; exact HG.out, below_drewN B6.out _⟩
        · obtain rfl : k = sp.length := by omega
          have h3 : ¬ (sp.length : Int) < (N : Int) := by have := HN.out; omega
          have HV : Hid (okR ⟨o, m, nt, sp⟩ = true) := Lib.hid (by rw [HY.out]; exact all_good HK.out)
          go_wp2
          go_ret
          exact ⟨by rw [HV.out]; rfl, K.out.trans (HB.out.mono K.out.size)⟩
end Go.Proofs.YtfbfcomfkokfcaaGreatDoor


/- Of the reference on decimal numbers: digits, Zero, Value. Of the reference on decimal numbers: Trim. Of the reference on decimal numbers: Split. Of the reference on decimal numbers: Valid, Text, Normal. Of the reference on decimal numbers: Operand. -/
namespace Go.Proofs.YtfbfcomfkokfcaaGreatDoor
open Go.RowKit
set_option linter.unusedVariables false
theorem of_ext {a b : ByteArray} (h : a.data.toList = b.data.toList) : a = b := by rw [← of_data a, ← of_data b, h]
theorem add_two (x y : Str) : ofL x ++ ofL y = ofL (x ++ y) := of_ext (by simp [ofL])
set_option maxRecDepth 1000000 in
set_option maxHeartbeats 2000000 in
theorem value_any (s : ByteArray) (hd : allD s.data.toList) (hs : s.size ≤ 15) (w : World) : Calls Tryz.prog 163 #[.string s] w fun e w' => e = .returned (.int .i64 (val s.data.toList : Int)) ∧ w' = w := by
  obtain ⟨l, hll⟩ : ∃ l, s.data.toList = l := ⟨_, rfl⟩
  have HL := Lib.hid hll
  rw [hll] at hd ⊢
  have HD := Lib.hid hd
  clear hd hll
  go_enter Tryz.func163, Tryz.ntmps163
  go_wp2
  go_loop [3, 4] (fun v3 v4 => ∃ k : Nat, k ≤ s.size ∧ v4 = .int .i64 k ∧ v3 = .int .i64 (val (l.take k) : Int)) (fun _ v4 => s.size - (intOf v4).toNat)
  case atStart => exact ⟨0, Nat.zero_le _, rfl, rfl⟩
  case round =>
    obtain ⟨k, hk, rfl, rfl⟩ := hrel
    have hsl : l.length = s.size := by rw [← HL.out, len_data]
    by_cases hlt : k < s.size
    · have hlt' : (k : Int) < (s.size : Int) := by omega
      have hl : k < l.length := by omega
      have h1 := val_take hl
      have h2 : val (l.take k) < 10 ^ 15 := Nat.lt_of_lt_of_le (val_lt (allD_take HD.out k)) (Nat.pow_le_pow_right (by omega) (by rw [List.length_take]; omega))
      have h3 := isD_iff.1 (HD.out _ (List.getElem_mem hl))
      have hx : (l[k]).toNat = (s[k]'hlt).toNat := by
        have : l[k] = s[k]'hlt := by
          have e := HL.out
          subst e
          rfl
        rw [this]
      rw [hx] at h3
      have h4 : val (l.take (k + 1)) = val (l.take k) * 10 + ((s[k]'hlt).toNat - 48) := by rw [h1]; unfold dg; rw [hx]
      obtain ⟨N, hN⟩ : ∃ N : Nat, val (l.take k) = N := ⟨_, rfl⟩
      rw [hN] at h2 h4 ⊢
      have H4 := Lib.hid h4
      obtain ⟨h5, h6⟩ := h3
      have h7 : N < 1000000000000000 := h2
      have q1 : (48 : Int) ≤ ((s[k]'hlt).toNat : Int) := Int.ofNat_le.2 h5
      have q2 : ((s[k]'hlt).toNat : Int) ≤ 57 := Int.ofNat_le.2 h6
      clear h1 h2 h4 hx hN h5 h6 hl hsl
      go_wp2
      go_round
      case rel => exact ⟨k + 1, hlt, by go_num, by rw [H4.out]; exact val_int (by omega)⟩
      case measure => simp [intOf]; omega
    · obtain rfl : k = s.size := by omega
      have hlt' : ¬ (s.size : Int) < (s.size : Int) := by omega
      have HE : Hid (l.take s.size = l) := Lib.hid (List.take_of_length_le (by omega))
      clear hsl
      rw [HE.out]
      go_wp2
      go_ret
      exact ⟨rfl, rfl⟩
end Go.Proofs.YtfbfcomfkokfcaaGreatDoor

namespace Go.Proofs.YtfbfcomfkokfcaaGreatDoor
open Go.RowKit
set_option linter.unusedVariables false
end Go.Proofs.YtfbfcomfkokfcaaGreatDoor

namespace Go.Proofs.YtfbfcomfkokfcaaGreatDoor
open Go.RowKit
set_option linter.unusedVariables false
end Go.Proofs.YtfbfcomfkokfcaaGreatDoor

namespace Go.Proofs.YtfbfcomfkokfcaaGreatDoor
open Go.RowKit
set_option linter.unusedVariables false
end Go.Proofs.YtfbfcomfkokfcaaGreatDoor

namespace Go.Proofs.YtfbfcomfkokfcaaGreatDoor
open Go.RowKit
set_option linter.unusedVariables false
end Go.Proofs.YtfbfcomfkokfcaaGreatDoor


/- Of the reference: Valid, Inside, Relation, Holds. -/
namespace Go.Proofs.YtfbfcomfkokfcaaGreatDoor
open Go.RowKit
set_option linter.unusedVariables false

theorem cell_later {w w' : World} {p : Addr} {u : Value} (h : w.cell? p = some u) (hb : Below w.heap.size w w') : w'.cell? p = some u := (hb.cell (World.block_lt_of_cell? w p h)).trans h
theorem okL_bad {l : List Rel} {j : Nat} (hj : j < l.length) (h : okR l[j] = false) : okL l = false := by
  unfold okL
  rw [all_bad hj h, Bool.and_false]
theorem okL_good {l : List Rel} (h0 : l.length ≠ 0) (h : ∀ (j : Nat) (hj : j < l.length), j < l.length → okR l[j] = true) : okL l = true := by
  rw [okL_all h0]
  exact all_good h
set_option maxRecDepth 1000000 in
set_option maxHeartbeats 8000000 in
theorem refValidC_any (v : Value) (c : Cnd) (w : World) (hv : RdC w v c) (hl : cnt c ≤ 4611686018427387904) :
    Calls Tryz.prog 20 #[v] w fun e w' => e = .returned (.bool (okC c)) ∧ Below w.heap.size w w' := by
  obtain ⟨a, cp, rfl, hc1, hc2⟩ := hv.slice
  have HU := Lib.hid hv
  clear hv
  go_enter Tryz.func20, Tryz.ntmps20
  go_wp2
  go_loopw [3, 4] (fun v3 v4 wr => ∃ k : Nat, k ≤ c.length ∧ v4 = .int .i64 k ∧ v3 = .int .i64 (cnt (c.take k) : Nat) ∧ (∀ l ∈ c.take k, okL l = true) ∧ Below w.heap.size w wr) (fun _ v4 _ => c.length - (intOf v4).toNat)
  case atStart => exact ⟨0, Nat.zero_le _, rfl, rfl, fun l h => by simp at h, Below.refl _ _⟩
  case round =>
    obtain ⟨k, hk, rfl, rfl, hok, hb⟩ := hrel
    have HK := Lib.hid hok
    have HB := Lib.hid hb
    have zr := hb.size
    clear hok hb
    by_cases hlt : k < c.length
    · obtain ⟨bk, off, x1, x2, rfl, h0, h4⟩ := (HU.out.below HB.out).at_ k hlt
      have h9 : (k : Int) < (c.length : Int) := by omega
      have HS := Lib.hid (cnt_take_succ hlt)
      have HT := Lib.hid (List.take_succ_eq_append_getElem hlt)
      have HBAD := Lib.hid (okC_bad (c := c) hlt)
      have H4 := Lib.hid h4
      have hcl := cnt_take_le c (k + 1)
      rw [HS.out] at hcl
      obtain ⟨m, hm⟩ : ∃ m, c[k] = m := ⟨_, rfl⟩
      rw [hm] at h0 HS HT HBAD H4 hcl
      clear h4 hm
      obtain ⟨N, hN⟩ : ∃ N, cnt (c.take k) = N := ⟨_, rfl⟩
      rw [hN] at HS hcl ⊢
      clear hN
      by_cases hz : m.length = 0
      · have t0 : ((m.length : Int) == 0) = true := by rw [beq_iff_eq]; omega
        have HV := Lib.hid (HBAD.out (okL_nil hz))
        clear hz
        go_wp2
        go_ret
        exact ⟨by rw [HV.out]; rfl, HB.out⟩
      have t0 : ((m.length : Int) == 0) = false := by rw [beq_eq_false_iff_ne]; omega
      have t0' : (m.length == 0) = false := by rw [beq_eq_false_iff_ne]; omega
      have HZ := Lib.hid hz
      have H0 := Lib.hid h0
      clear hz
      go_wp2
      go_loopw [3, 5] (fun v3 v5 wz => ∃ j : Nat, j ≤ m.length ∧ v5 = .int .i64 j ∧ v3 = .int .i64 (N + j : Nat) ∧ (∀ (i : Nat) (hi : i < m.length), i < j → okR m[i] = true) ∧ Below wr.heap.size wr wz) (fun _ v5 _ => m.length - (intOf v5).toNat)
      case atStart => exact ⟨0, Nat.zero_le _, rfl, by simp, fun i _ h => by omega, Below.refl _ _⟩
      case round =>
        obtain ⟨j, hj, rfl, rfl, hjk, hbz⟩ := hrel
        have HJ := Lib.hid hjk
        have HBZ := Lib.hid hbz
        have h0z := cell_later H0.out hbz
        clear hjk hbz h0
        by_cases hjt : j < m.length
        · obtain ⟨bm, om, y1, y2, rfl, g0, g1, g2, g3, g4⟩ := (H4.out.below HBZ.out).at_ j hjt
          have h8 : (j : Int) < (m.length : Int) := by omega
          have G4 := Lib.hid g4
          have HBADL := Lib.hid (okL_bad (l := m) hjt)
          clear g4
          obtain ⟨r, hr⟩ : ∃ r, m[j] = r := ⟨_, rfl⟩
          have HR := Lib.hid hr
          rw [hr] at g0 g1 g2 g3 G4 HBADL
          clear hr
          go_wp2_with fail
          refine (proper_any r y1 y2 _ G4.out).mono ?_
          rintro e w2 ⟨rfl, b2⟩
          have HB2 := Lib.hid (st HBZ.out b2 HBZ.out.size)
          clear b2
          obtain ⟨b, hbb⟩ : ∃ b, okR r = b := ⟨_, rfl⟩
          have HQ := Lib.hid hbb
          rw [hbb]
          clear hbb
          cases b with
          | false =>
            have HV := Lib.hid (HBAD.out (HBADL.out HQ.out))
            go_wp2
            go_ret
            exact ⟨by rw [HV.out]; rfl, st HB.out HB2.out zr⟩
          | true =>
            go_wp2
            go_roundw
            case measure => simp [intOf]; omega
            case rel => exact ⟨j + 1, by omega, by go_num, by go_num, fun i hi hij => by
              rcases Nat.lt_or_ge i j with h | h
              · exact HJ.out i hi h
              · obtain rfl : i = j := by omega
                rw [HR.out]; exact HQ.out, HB2.out⟩
        · obtain rfl : j = m.length := by omega
          have h3 : ¬ (m.length : Int) < (m.length : Int) := by omega
          have HG := Lib.hid (okL_good HZ.out HJ.out)
          go_wp2
          go_roundw
          case measure => simp [intOf]; omega
          case rel => exact ⟨k + 1, by omega, by go_num, by rw [HS.out], fun l hl => by
            rw [HT.out] at hl
            rcases List.mem_append.1 hl with h | h
            · exact HK.out l h
            · simp at h; subst h; exact HG.out, st HB.out HBZ.out zr⟩
    · obtain rfl : k = c.length := by omega
      have h3 : ¬ (c.length : Int) < (c.length : Int) := by omega
      obtain ⟨N, hN⟩ : ∃ N, cnt (c.take c.length) = N := ⟨_, rfl⟩
      rw [hN]
      have HN : Hid (cnt c = N) := Lib.hid (by rw [← hN, List.take_length])
      have HA : Hid (∀ l ∈ c, okL l = true) := Lib.hid (by
        have h1 := HK.out
        rw [List.take_length] at h1
        exact h1)
      clear hN
      by_cases h0 : 0 < c.length
      · have t0 : (0 : Int) < (c.length : Int) := by omega
        by_cases h6 : N ≤ 6
        · have HW : Hid (okC c = true) := Lib.hid (okC_iff.2 ⟨h0, HA.out, by rw [HN.out]; exact h6⟩)
          have t6 : (N : Int) ≤ 6 := by omega
          go_wp2
          go_ret
          exact ⟨by rw [HW.out]; rfl, HB.out⟩
        · have HW : Hid (okC c = false) := Lib.hid (okC_many (k := c.length) (by rw [List.take_length, HN.out]; omega))
          have t6 : ¬ (N : Int) ≤ 6 := by omega
          go_wp2
          go_ret
          exact ⟨by rw [HW.out]; rfl, HB.out⟩
      · have t0 : ¬ (0 : Int) < (c.length : Int) := by omega
        have HW : Hid (okC c = false) := Lib.hid (by unfold okC; rw [decide_eq_false h0]; rfl)
        go_wp2
        go_ret
        exact ⟨by rw [HW.out]; rfl, HB.out⟩

end Go.Proofs.YtfbfcomfkokfcaaGreatDoor


/- Conditions that come in as arguments: what their cells hold, and the lengths of their lists. -/
namespace Go.Proofs.YtfbfcomfkokfcaaGreatDoor
open Go.RowKit
set_option linter.unusedVariables false

theorem one_of {α : Type} {l : List α} {n i : Nat} {v : α} (h : (l.drop i).take 1 = [v]) : l[i]? = some v := by
  have := congrArg (fun r : List α => r[0]?) h
  simpa [List.getElem?_take, List.getElem?_drop] using this
/-- A row of equal cells reads as a list. -/
theorem rd_of_row {α : Type} {k : Nat} {enc : α → List Value} {w : World} {a : Addr} {len cap : Nat} (Z : Nat → α) (hk : 0 < k) (henc : ∀ x, (enc x).length = k) (hl : len ≤ cap) (hc : cap ≤ maxLen)
    (h : ∀ i, i < len → ∀ (j : Nat) (v : Value), (enc (Z i))[j]? = some v → w.cell? (a.add (i * k + j)) = some v) :
    Rd k enc w (.slice (some a) len cap) ((List.range len).map Z) := by
  have hM : maxLen = 9223372036854775807 := by decide
  have hlen : ((List.range len).map Z).length = len := by simp
  refine ⟨⟨_, cap, by rw [hlen], by omega, by omega, fun hne => ?_⟩, fun n c hc => by cases hc⟩
  have hpos : 0 < len := by rw [← hlen]; exact List.length_pos_iff.2 hne
  have h00 := h 0 hpos 0 _ (List.getElem?_eq_getElem (by rw [henc]; exact hk))
  obtain ⟨b, off, sp⟩ := a
  have hspot : sp = none := by simpa [Addr.add] using World.cell?_spot h00
  subst hspot
  refine ⟨b, off, rfl, ?_, fun i u hi j v hv => ?_⟩
  · rw [add_off] at h00
    exact World.block_lt_of_cell? w _ h00
  · have hil := (List.getElem?_eq_some_iff.1 hi).1
    rw [hlen] at hil
    simp [List.getElem?_range hil] at hi
    subst hi
    have q := h i hil j v hv
    rw [add_off, ← Nat.add_assoc] at q
    exact q
section
variable {H : Type} {enc : TypeId × Value → H} {P : Program} {w : World} {base : Nat} {spare : Nat → Bool} {held : Bool}
theorem spans_of {t e : TypeId} {f0 f1 : Field} {fuel : Nat} {cs : List Value} {x : DataW H × List MemPlace}
    (ht : P.underlying t = some (.slice e)) (he : P.underlying e = some (.struct #[f0, f1])) (hce : P.cellsOf e = 2) (o0 : f0.offset = 0) (o1 : f1.offset = 1)
    (c0 : P.cellsOf f0.type = 1) (c1 : P.cellsOf f1.type = 1) (k0 : P.underlying f0.type = some (.int .i64)) (k1 : P.underlying f1.type = some (.int .i64))
    (h : DataW.trod enc P w base spare held fuel t cs = some x) : ∃ a len cap sp, cs = [.slice a len cap] ∧ Rd 2 encP w (.slice a len cap) sp := by
  rcases Go.Deep.open_slice ht h with ⟨h0, _⟩ | ⟨a, len, cap, m, n, D, Pl, hcs, hb, hl, hm, hmm, _, hx⟩
  · exact ⟨none, 0, 0, [], h0, rd_nil w⟩
  have hlm : len ≤ m := by rw [hmm]; split <;> omega
  have each : ∀ i, i < m → ∃ z : Int × Int, w.cell? (a.add (i * 2)) = some (.int .i64 z.1) ∧ w.cell? (a.add (i * 2 + 1)) = some (.int .i64 z.2) := fun i hi => by
    obtain ⟨cs', hc, htr⟩ := hx i hi
    rw [hce] at hc
    obtain ⟨_, hcl, hat⟩ := World.cells?_some hc
    obtain ⟨y0, y1, n2, _, _, h0, h1⟩ := Go.ChangeShapes.trod_struct2 he htr
    rw [o0, c0] at h0
    rw [o1, c1] at h1
    obtain ⟨z0, e0, _, w0⟩ := DataW.trod_int k0 h0
    obtain ⟨z1, e1, _, w1⟩ := DataW.trod_int k1 h1
    have g0 := hat 0 (by omega)
    have g1 := hat 1 (by omega)
    rw [Go.Deep.add_add, one_of (n := 0) e0] at g0
    rw [Go.Deep.add_add, one_of (n := 0) e1] at g1
    exact ⟨(z0, z1), g0, g1⟩
  obtain ⟨Z, hZ⟩ := Go.Deep.choose_lt each
  refine ⟨some a, len, cap, (List.range len).map Z, hcs, rd_of_row Z (by omega) (fun x => rfl) hl hm fun i hi j v hv => ?_⟩
  obtain ⟨q0, q1⟩ := hZ i (by omega)
  have hj : j < 2 := (List.getElem?_eq_some_iff.1 hv).1
  obtain rfl | rfl : j = 0 ∨ j = 1 := by omega
  · simp [encP] at hv
    subst hv
    exact q0
  · simp [encP] at hv
    subst hv
    exact q1
theorem trod_struct4 {t : TypeId} {f0 f1 f2 f3 : Field} {fuel : Nat} {cs : List Value} {x : DataW H × List MemPlace} (ht : P.underlying t = some (.struct #[f0, f1, f2, f3])) (h : DataW.trod enc P w base spare held fuel t cs = some x) :
    ∃ y0 y1 y2 y3 n, DataW.trod enc P w base spare held n f0.type ((cs.drop f0.offset).take (P.cellsOf f0.type)) = some y0 ∧
      DataW.trod enc P w base spare held n f1.type ((cs.drop f1.offset).take (P.cellsOf f1.type)) = some y1 ∧ DataW.trod enc P w base spare held n f2.type ((cs.drop f2.offset).take (P.cellsOf f2.type)) = some y2 ∧
      DataW.trod enc P w base spare held n f3.type ((cs.drop f3.offset).take (P.cellsOf f3.type)) = some y3 := by
  obtain ⟨xs, n, _, rfl, hl, hlen, hf⟩ := DataW.trod_struct ht h
  match xs, hlen with
  | [y0, y1, y2, y3], _ => exact ⟨y0, y1, y2, y3, n, by simpa using hf 0 f0 rfl, by simpa using hf 1 f1 rfl, by simpa using hf 2 f2 rfl, by simpa using hf 3 f3 rfl⟩
/-- What is asked of the types of relations and spans. -/
structure RelTypes (P : Program) (t tS eS : TypeId) (f0 f1 f2 f3 g0 g1 : Field) : Prop where
  t_ : P.underlying t = some (.struct #[f0, f1, f2, f3])
  cells : P.cellsOf t = 4
  o0 : f0.offset = 0
  o1 : f1.offset = 1
  o2 : f2.offset = 2
  o3 : f3.offset = 3
  c0 : P.cellsOf f0.type = 1
  c1 : P.cellsOf f1.type = 1
  c2 : P.cellsOf f2.type = 1
  c3 : P.cellsOf f3.type = 1
  k0 : P.underlying f0.type = some (.int .i64)
  k1 : P.underlying f1.type = some (.int .i64)
  k2 : P.underlying f2.type = some .bool
  k3 : P.underlying f3.type = some (.slice eS)
  s_ : P.underlying eS = some (.struct #[g0, g1])
  sc : P.cellsOf eS = 2
  p0 : g0.offset = 0
  p1 : g1.offset = 1
  d0 : P.cellsOf g0.type = 1
  d1 : P.cellsOf g1.type = 1
  j0 : P.underlying g0.type = some (.int .i64)
  j1 : P.underlying g1.type = some (.int .i64)
variable {t tS eS : TypeId} {f0 f1 f2 f3 g0 g1 : Field}
theorem rel_of {fuel : Nat} {cs : List Value} {x : DataW H × List MemPlace} (T : RelTypes P t tS eS f0 f1 f2 f3 g0 g1) (h : DataW.trod enc P w base spare held fuel t cs = some x) :
    ∃ z : RawR × Rel, RdRel w z.1 z.2 ∧ ∀ (j : Nat) (v : Value), (encR z.1)[j]? = some v → cs[j]? = some v := by
  obtain ⟨y0, y1, y2, y3, n, h0, h1, h2, h3⟩ := trod_struct4 T.t_ h
  rw [T.o0, T.c0] at h0
  rw [T.o1, T.c1] at h1
  rw [T.o2, T.c2] at h2
  rw [T.o3, T.c3] at h3
  obtain ⟨z0, e0, _, _⟩ := DataW.trod_int T.k0 h0
  obtain ⟨z1, e1, _, _⟩ := DataW.trod_int T.k1 h1
  obtain ⟨z2, e2, _⟩ := DataW.trod_bool T.k2 h2
  obtain ⟨a, len, cap, sp, e3, hsp⟩ := spans_of T.k3 T.s_ T.sc T.p0 T.p1 T.d0 T.d1 T.j0 T.j1 h3
  refine ⟨(⟨z0, z1, z2, a, len, cap⟩, ⟨z0, z1, z2, sp⟩), ⟨rfl, rfl, rfl, hsp⟩, fun j v hv => ?_⟩
  have hj : j < 4 := (List.getElem?_eq_some_iff.1 hv).1
  obtain rfl | rfl | rfl | rfl : j = 0 ∨ j = 1 ∨ j = 2 ∨ j = 3 := by omega
  · simp [encR] at hv
    subst hv
    exact one_of (n := 0) e0
  · simp [encR] at hv
    subst hv
    exact one_of (n := 0) e1
  · simp [encR] at hv
    subst hv
    exact one_of (n := 0) e2
  · simp [encR] at hv
    subst hv
    exact one_of (n := 0) e3
instance : Inhabited RawR := ⟨⟨0, 0, false, none, 0, 0⟩⟩
instance : Inhabited Rel := ⟨⟨0, 0, false, []⟩⟩
instance : Inhabited RawS := ⟨⟨none, 0, 0⟩⟩
theorem rels_of {tL : TypeId} {fuel : Nat} {cs : List Value} {x : DataW H × List MemPlace} (T : RelTypes P t tS eS f0 f1 f2 f3 g0 g1) (hL : P.underlying tL = some (.slice t)) (hb1 : 0 < P.bytesOf t) (h : DataW.trod enc P w base spare held fuel tL cs = some x)
    (hw : ∀ k ∈ x.1.weights P tL, k ≤ reachBytes) : ∃ (z : RawS) (l : List Rel), cs = [.slice z.a z.n z.c] ∧ RdRels w (.slice z.a z.n z.c) l ∧ l.length ≤ 140737488355328 := by
  have hM : maxLen = 9223372036854775807 := by decide
  rcases Go.Deep.open_slice hL h with ⟨h0, _⟩ | ⟨a, len, cap, m, n, D, Pl, hcs, hb, hl, hm, hmm, hxe, hx⟩
  · exact ⟨⟨none, 0, 0⟩, [], h0, rdRels_nil w, by simp⟩
  have hlm : len ≤ m := by rw [hmm]; split <;> omega
  have each : ∀ i, i < m → ∃ z : RawR × Rel, RdRel w z.1 z.2 ∧ ∀ (j : Nat) (v : Value), (encR z.1)[j]? = some v → w.cell? (a.add (i * 4 + j)) = some v := fun i hi => by
    obtain ⟨cs', hc, htr⟩ := hx i hi
    rw [T.cells] at hc
    obtain ⟨_, hcl, hat⟩ := World.cells?_some hc
    obtain ⟨z, hz, hzc⟩ := rel_of T htr
    refine ⟨z, hz, fun j v hv => ?_⟩
    have hj : j < 4 := (List.getElem?_eq_some_iff.1 hv).1
    have g := hat j (by omega)
    rw [Go.Deep.add_add, hzc j v hv] at g
    exact g
  obtain ⟨Z, hZ⟩ := Go.Deep.choose_lt each
  have hlen : len ≤ 140737488355328 := by
    have h1 := hw ((len + (m - len)) * P.bytesOf t) (by rw [hxe]; simp [DataW.weights, hL])
    have h2 : len * 1 ≤ (len + (m - len)) * P.bytesOf t := Nat.mul_le_mul (by omega) hb1
    have h3 : reachBytes ≤ 140737488355328 := by decide
    omega
  refine ⟨⟨some a, len, cap⟩, (List.range len).map fun i => (Z i).2, hcs, ⟨(List.range len).map fun i => (Z i).1, rd_of_row (fun i => (Z i).1) (by omega) encR_len hl hm fun i (hi : i < len) j v hv => (hZ i (by omega)).2 j v hv, by simp, fun i h1 h2 => ?_⟩, by simp; exact hlen⟩
  have hi : i < len := by simpa using h1
  rw [List.getElem_map, List.getElem_map, List.getElem_range]
  exact (hZ i (by omega)).1
theorem weights_all {e : TypeId} {d : DataW H} : ∀ (l : List (DataW H)), d ∈ l → ∀ k ∈ d.weights P e, k ∈ DataW.weightsAll P e l
  | [], h, _, _ => by cases h
  | x :: l, h, k, hk => by
    simp only [DataW.weightsAll, List.mem_append]
    rcases List.mem_cons.1 h with rfl | h
    · exact .inl hk
    · exact .inr (weights_all l h k hk)
theorem cond_of {tC tL : TypeId} {fuel : Nat} {cs : List Value} {x : DataW H × List MemPlace} (T : RelTypes P t tS eS f0 f1 f2 f3 g0 g1) (hL : P.underlying tL = some (.slice t)) (hC : P.underlying tC = some (.slice tL)) (hcL : P.cellsOf tL = 1) (hb1 : 0 < P.bytesOf t) (h : DataW.trod enc P w base spare held fuel tC cs = some x)
    (hw : ∀ k ∈ x.1.weights P tC, k ≤ reachBytes) : ∃ (z : RawS) (c : Cnd), cs = [.slice z.a z.n z.c] ∧ RdC w (.slice z.a z.n z.c) c ∧ ∀ l ∈ c, l.length ≤ 140737488355328 := by
  rcases Go.Deep.open_slice hC h with ⟨h0, _⟩ | ⟨a, len, cap, m, n, D, Pl, hcs, hb, hl, hm, hmm, hxe, hx⟩
  · exact ⟨⟨none, 0, 0⟩, [], h0, rdC_nil w, fun l h => by cases h⟩
  have hlm : len ≤ m := by rw [hmm]; split <;> omega
  have each : ∀ i, i < len → ∃ z : RawS × List Rel, w.cell? (a.add i) = some (.slice z.1.a z.1.n z.1.c) ∧ RdRels w (.slice z.1.a z.1.n z.1.c) z.2 ∧ z.2.length ≤ 140737488355328 := fun i hi => by
    obtain ⟨cs', hc, htr⟩ := hx i (by omega)
    rw [hcL, Nat.mul_one] at hc
    obtain ⟨_, hcl, hat⟩ := World.cells?_some hc
    obtain ⟨z, l, he, hz, hzl⟩ := rels_of T hL hb1 htr (fun k hk => hw k (by
      rw [hxe]
      have h1 : k ∈ DataW.weightsAll P tL ((List.range len).map D) := weights_all _ (List.mem_map.2 ⟨i, List.mem_range.2 hi, rfl⟩) k hk
      simp only [DataW.weights, hC, List.mem_cons, List.mem_append]
      exact .inr (.inl h1)))
    have g := hat 0 (by omega)
    rw [Go.Deep.add_add, Nat.add_zero, he] at g
    exact ⟨(z, l), g, hz, hzl⟩
  obtain ⟨Z, hZ⟩ := Go.Deep.choose_lt each
  refine ⟨⟨some a, len, cap⟩, (List.range len).map fun i => (Z i).2, hcs, ⟨(List.range len).map fun i => (Z i).1, rd_of_row (fun i => (Z i).1) (by omega) encS_len hl hm fun i hi j v hv => ?_, by simp, fun i h1 h2 => ?_⟩, fun l hl => ?_⟩
  · have hj : j < 1 := (List.getElem?_eq_some_iff.1 hv).1
    obtain rfl : j = 0 := by omega
    simp [encS] at hv
    subst hv
    rw [Nat.mul_one, Nat.add_zero]
    exact (hZ i hi).1
  · have hi : i < len := by simpa using h1
    simp only [List.getElem_map, List.getElem_range]
    exact (hZ i hi).2.1
  · obtain ⟨i, hi, rfl⟩ := List.mem_map.1 hl
    exact (hZ i (List.mem_range.1 hi)).2.2
end
theorem relTypes : ∃ f0 f1 f2 f3 g0 g1, RelTypes Tryz.prog 72 70 123 f0 f1 f2 f3 g0 g1 := ⟨_, _, _, _, _, _, ⟨Tryz.underlying72, by kernel_rfl, rfl, rfl, rfl, rfl, by kernel_rfl, by kernel_rfl, by kernel_rfl, by kernel_rfl, Tryz.underlying3, Tryz.underlying3, Tryz.underlying4, Tryz.underlying70, Tryz.underlying123, by kernel_rfl, rfl, rfl, by kernel_rfl, by kernel_rfl, Tryz.underlying3, Tryz.underlying3⟩⟩
theorem condIn_of {H : Type} {enc : TypeId × Value → H} {w : World} {base : Nat} {spare : Nat → Bool} {held : Bool} {fuel : Nat} {cs : List Value} {x : DataW H × List MemPlace} (h : DataW.trod enc Tryz.prog w base spare held fuel 23 cs = some x)
    (hw : ∀ k ∈ x.1.weights Tryz.prog 23, k ≤ reachBytes) : ∃ (z : RawS) (c : Cnd), cs = [.slice z.a z.n z.c] ∧ RdC w (.slice z.a z.n z.c) c ∧ ∀ l ∈ c, l.length ≤ 140737488355328 :=
  let ⟨_, _, _, _, _, _, T⟩ := relTypes
  cond_of T Tryz.underlying68 Tryz.underlying23 (by kernel_rfl) (of_decide_eq_true (by kernel_rfl)) h hw
end Go.Proofs.YtfbfcomfkokfcaaGreatDoor


/- Automata, plain: words, equivalence of states, the search that numbers classes, what it makes, that it is the same for automata that accept the same words. -/
namespace Go.Proofs.YtfbfcomfkokfcaaGreatDoor
set_option linter.unusedVariables false

/-- An automaton over the symbols 0 to 10. -/
structure Aut where
  n : Nat
  s0 : Nat
  d : Nat → Nat → Nat
  f : Nat → Bool
structure Aut.Ok (A : Aut) : Prop where
  st : A.s0 < A.n
  go : ∀ s c, s < A.n → c < 11 → A.d s c < A.n
def Aut.run (A : Aut) (s : Nat) (w : List Nat) : Nat := w.foldl A.d s
def Aut.acc (A : Aut) (s : Nat) (w : List Nat) : Bool := A.f (A.run s w)
def word (w : List Nat) : Prop := ∀ c ∈ w, c < 11
theorem word_nil : word [] := fun c h => by cases h
theorem word_cons {c : Nat} {w : List Nat} : word (c :: w) ↔ c < 11 ∧ word w := by
  unfold word
  simp
theorem Aut.run_app (A : Aut) (s : Nat) (v w : List Nat) : A.run s (v ++ w) = A.run (A.run s v) w := List.foldl_append ..
theorem Aut.Ok.run_lt {A : Aut} (h : A.Ok) : ∀ (w : List Nat) (s : Nat), s < A.n → word w → A.run s w < A.n
  | [], s, hs, _ => hs
  | c :: w, s, hs, hw => by
    rw [word_cons] at hw
    exact h.run_lt w _ (h.go s c hs hw.1) hw.2

/-! ### Equivalent states -/
def Eqv (A B : Aut) (s t : Nat) : Prop := ∀ w, word w → A.acc s w = B.acc t w
theorem Eqv.refl (A : Aut) (s : Nat) : Eqv A A s s := fun _ _ => rfl
theorem Eqv.symm {A B : Aut} {s t : Nat} (h : Eqv A B s t) : Eqv B A t s := fun w hw => (h w hw).symm
theorem Eqv.trans {A B C : Aut} {s t u : Nat} (h : Eqv A B s t) (k : Eqv B C t u) : Eqv A C s u := fun w hw => (h w hw).trans (k w hw)
theorem Eqv.f {A B : Aut} {s t : Nat} (h : Eqv A B s t) : A.f s = B.f t := h [] word_nil
theorem Eqv.step {A B : Aut} {s t : Nat} (h : Eqv A B s t) {c : Nat} (hc : c < 11) : Eqv A B (A.d s c) (B.d t c) := fun w hw => h (c :: w) (word_cons.2 ⟨hc, hw⟩)
/-- A relation that is kept by steps, and in which both accept or neither. -/
theorem eqv_bisim {A B : Aut} (R : Nat → Nat → Prop) (hf : ∀ s t, R s t → A.f s = B.f t) (hd : ∀ s t c, R s t → c < 11 → R (A.d s c) (B.d t c)) : ∀ s t, R s t → Eqv A B s t := by
  intro s t h w
  induction w generalizing s t with
  | nil => intro _; exact hf s t h
  | cons c w ih =>
    intro hw
    rw [word_cons] at hw
    exact ih _ _ (hd s t c h hw.1) hw.2

/-! ### The search -/
def idx (l : List Nat) (x : Nat) : Nat := l.findIdx (· == x)
theorem idx_le (l : List Nat) (x : Nat) : idx l x ≤ l.length := List.findIdx_le_length
theorem idx_lt {l : List Nat} {x : Nat} : idx l x < l.length ↔ x ∈ l := by
  unfold idx
  rw [List.findIdx_lt_length]
  simp
theorem idx_get {l : List Nat} {x : Nat} (h : idx l x < l.length) : l[idx l x] = x := by
  have := List.findIdx_getElem (xs := l) (p := (· == x)) (w := h)
  exact beq_iff_eq.1 this
def add (cl : Nat → Nat) (fd : List Nat) (t : Nat) : List Nat := if idx (fd.map cl) (cl t) < fd.length then fd else fd ++ [t]
/-- A row: after so many symbols, its numbers and what has been found. -/
def rowStp (A : Aut) (cl : Nat → Nat) (s c : Nat) (p : List Nat × List Nat) : List Nat × List Nat := (p.1 ++ [idx (p.2.map cl) (cl (A.d s c))], add cl p.2 (A.d s c))
def rowK (A : Aut) (cl : Nat → Nat) (fd : List Nat) (s : Nat) : Nat → List Nat × List Nat
  | 0 => ([], fd)
  | c + 1 => rowStp A cl s c (rowK A cl fd s c)
def fdK (A : Aut) (cl : Nat → Nat) : Nat → List Nat
  | 0 => [A.s0]
  | i + 1 => (rowK A cl (fdK A cl i) ((fdK A cl i).getD i 0) 11).2
theorem fdK_succ (A : Aut) (cl : Nat → Nat) (i : Nat) : fdK A cl (i + 1) = (rowK A cl (fdK A cl i) ((fdK A cl i).getD i 0) 11).2 := by rw [fdK]
def rowsK (A : Aut) (cl : Nat → Nat) (i : Nat) : List Nat := (rowK A cl (fdK A cl i) ((fdK A cl i).getD i 0) 11).1
/-- Where the search ends. -/
def Stop (A : Aut) (cl : Nat → Nat) (m : Nat) : Prop := (∀ j, j < m → j < (fdK A cl j).length) ∧ (fdK A cl m).length = m
def outN (A : Aut) (cl : Nat → Nat) (m : Nat) : List (List Nat) := (List.range m).map (rowsK A cl)
def outF (A : Aut) (cl : Nat → Nat) (m : Nat) : List Bool := (List.range m).map fun i => A.f ((fdK A cl m).getD i 0)

theorem add_preA (cl : Nat → Nat) (fd : List Nat) (t : Nat) : fd <+: add cl fd t := by
  unfold add
  split
  · exact List.prefix_refl _
  · exact List.prefix_append _ _
theorem rowK_pre (A : Aut) (cl : Nat → Nat) (fd : List Nat) (s : Nat) : ∀ c, fd <+: (rowK A cl fd s c).2
  | 0 => List.prefix_refl _
  | c + 1 => (rowK_pre A cl fd s c).trans (add_preA cl _ _)
theorem fdK_pre (A : Aut) (cl : Nat → Nat) (i : Nat) : fdK A cl i <+: fdK A cl (i + 1) := by
  rw [fdK_succ]
  exact rowK_pre A cl _ _ 11
theorem fdK_pre_le (A : Aut) (cl : Nat → Nat) {i j : Nat} (h : i ≤ j) : fdK A cl i <+: fdK A cl j := by
  induction h with
  | refl => exact List.prefix_refl _
  | step _ ih => exact ih.trans (fdK_pre A cl _)
theorem rowK_len (A : Aut) (cl : Nat → Nat) (fd : List Nat) (s : Nat) : ∀ c, (rowK A cl fd s c).1.length = c
  | 0 => rfl
  | c + 1 => by
    show ((rowK A cl fd s c).1 ++ _).length = _
    rw [List.length_append, rowK_len A cl fd s c]
    rfl
theorem pre_getD {a b : List Nat} (h : a <+: b) {i : Nat} (hi : i < a.length) : b.getD i 0 = a.getD i 0 := by
  obtain ⟨c, rfl⟩ := h
  rw [List.getD_eq_getElem?_getD, List.getD_eq_getElem?_getD, List.getElem?_append_left hi]

/-- What the found states are: states, of different classes. -/
structure FdOk (A : Aut) (cl : Nat → Nat) (fd : List Nat) : Prop where
  lt : ∀ s ∈ fd, s < A.n
  nd : (fd.map cl).Nodup
theorem nodup_snoc {l : List Nat} {x : Nat} (h : l.Nodup) (hx : x ∉ l) : (l ++ [x]).Nodup := by
  rw [List.nodup_append]
  exact ⟨h, by simp, fun a ha b hb e => hx (by simp at hb; subst hb; subst e; exact ha)⟩
theorem FdOk.add {A : Aut} {cl : Nat → Nat} {fd : List Nat} (h : FdOk A cl fd) {t : Nat} (ht : t < A.n) : FdOk A cl (add cl fd t) := by
  unfold Go.Proofs.YtfbfcomfkokfcaaGreatDoor.add
  split
  · exact h
  · rename_i hn
    refine ⟨fun s hs => ?_, ?_⟩
    · rcases List.mem_append.1 hs with hs | hs
      · exact h.lt s hs
      · simp at hs
        subst hs
        exact ht
    · rw [List.map_append, List.map_singleton]
      refine nodup_snoc h.nd (fun hm => hn ?_)
      have := idx_lt.2 hm
      rwa [List.length_map] at this
theorem FdOk.row {A : Aut} {cl : Nat → Nat} (hA : A.Ok) {fd : List Nat} (h : FdOk A cl fd) {s : Nat} (hs : s < A.n) : ∀ c, c ≤ 11 → FdOk A cl (rowK A cl fd s c).2
  | 0, _ => h
  | c + 1, hc => (FdOk.row hA h hs c (by omega)).add (hA.go s c hs (by omega))
theorem getD_mem {l : List Nat} {i : Nat} (h : i < l.length) : l.getD i 0 ∈ l := by
  rw [List.getD_eq_getElem?_getD, List.getElem?_eq_getElem h]
  exact List.getElem_mem h
theorem getD_getA {l : List Nat} {i : Nat} (h : i < l.length) : l.getD i 0 = l[i] := by
  rw [List.getD_eq_getElem?_getD, List.getElem?_eq_getElem h]
  rfl
theorem fdK_ok {A : Aut} (cl : Nat → Nat) (hA : A.Ok) : ∀ i, (∀ j, j < i → j < (fdK A cl j).length) → FdOk A cl (fdK A cl i)
  | 0, _ => ⟨fun s hs => by simp [fdK] at hs; subst hs; exact hA.st, by simp [fdK]⟩
  | i + 1, h => by
    have h1 := fdK_ok cl hA i (fun j hj => h j (by omega))
    rw [fdK_succ]
    exact FdOk.row hA h1 (h1.lt _ (getD_mem (h i (by omega)))) 11 (Nat.le_refl _)

/-! ### Lists of different elements -/
theorem nodup_len : ∀ {a b : List Nat}, a.Nodup → (∀ x ∈ a, x ∈ b) → a.length ≤ b.length
  | [], _, _, _ => Nat.zero_le _
  | x :: a, b, h, hs => by
    rw [List.nodup_cons] at h
    have hx := hs x (by simp)
    have := nodup_len (b := b.erase x) h.2 (fun y hy => (List.mem_erase_of_ne (by intro e; subst e; exact h.1 hy)).2 (hs y (by simp [hy])))
    rw [List.length_erase_of_mem hx] at this
    have h1 := List.length_pos_of_mem hx
    rw [List.length_cons]
    omega
theorem nodup_of_map {f : Nat → Nat} : ∀ {l : List Nat}, (l.map f).Nodup → l.Nodup
  | [], _ => List.nodup_nil
  | x :: l, h => by
    rw [List.map_cons, List.nodup_cons] at h
    rw [List.nodup_cons]
    exact ⟨fun hx => h.1 (List.mem_map.2 ⟨x, hx, rfl⟩), nodup_of_map h.2⟩
theorem FdOk.len {A : Aut} {cl : Nat → Nat} {fd : List Nat} (h : FdOk A cl fd) : fd.length ≤ A.n := by
  have := nodup_len (b := List.range A.n) (nodup_of_map h.nd) (fun x hx => List.mem_range.2 (h.lt x hx))
  rwa [List.length_range] at this
theorem nodup_get {l : List Nat} (h : l.Nodup) {i j : Nat} (hi : i < l.length) (hj : j < l.length) (e : l[i] = l[j]) : i = j := by
  have hp := List.pairwise_iff_getElem.1 h
  rcases Nat.lt_trichotomy i j with k | k | k
  · exact absurd e (hp i j hi hj k)
  · exact k
  · exact absurd e.symm (hp j i hj hi k)
/-- A number in a row is that of a found state of the right class. -/
theorem rowK_entry {A : Aut} {cl : Nat → Nat} {fd : List Nat} {s : Nat} : ∀ {c k : Nat}, k < c → (rowK A cl fd s c).1.getD k 0 < (rowK A cl fd s c).2.length ∧ cl ((rowK A cl fd s c).2.getD ((rowK A cl fd s c).1.getD k 0) 0) = cl (A.d s k)
  | 0, k, h => by omega
  | c + 1, k, h => by
    have hlen := rowK_len A cl fd s c
    have e0 : (rowK A cl fd s (c + 1)).1 = (rowK A cl fd s c).1 ++ [idx ((rowK A cl fd s c).2.map cl) (cl (A.d s c))] := rfl
    have f0 : (rowK A cl fd s (c + 1)).2 = add cl (rowK A cl fd s c).2 (A.d s c) := rfl
    rw [e0, f0]
    have hpre := add_preA cl (rowK A cl fd s c).2 (A.d s c)
    have h3 := hpre.length_le
    by_cases hk : k < c
    · obtain ⟨h1, h2⟩ := rowK_entry (A := A) (cl := cl) (fd := fd) (s := s) hk
      have e1 : ((rowK A cl fd s c).1 ++ [idx ((rowK A cl fd s c).2.map cl) (cl (A.d s c))]).getD k 0 = (rowK A cl fd s c).1.getD k 0 := by
        rw [List.getD_eq_getElem?_getD, List.getElem?_append_left (by omega), ← List.getD_eq_getElem?_getD]
      rw [e1, pre_getD hpre h1]
      exact ⟨by omega, h2⟩
    · obtain rfl : k = c := by omega
      have e1 : ((rowK A cl fd s k).1 ++ [idx ((rowK A cl fd s k).2.map cl) (cl (A.d s k))]).getD k 0 = idx ((rowK A cl fd s k).2.map cl) (cl (A.d s k)) := by
        rw [List.getD_eq_getElem?_getD, List.getElem?_append_right (by omega), hlen, Nat.sub_self]
        rfl
      rw [e1]
      generalize (rowK A cl fd s k).2 = F
      by_cases hi : idx (F.map cl) (cl (A.d s k)) < F.length
      · have e2 : add cl F (A.d s k) = F := by unfold add; rw [if_pos hi]
        rw [e2, getD_getA hi]
        refine ⟨hi, ?_⟩
        have := idx_get (l := F.map cl) (x := cl (A.d s k)) (by rw [List.length_map]; exact hi)
        rwa [List.getElem_map] at this
      · have e2 : add cl F (A.d s k) = F ++ [A.d s k] := by unfold add; rw [if_neg hi]
        have e3 : idx (F.map cl) (cl (A.d s k)) = F.length := by
          have := idx_le (F.map cl) (cl (A.d s k))
          rw [List.length_map] at this
          omega
        rw [e2, e3]
        exact ⟨by simp, by simp [List.getD_eq_getElem?_getD]⟩
/-- The automaton that is made. -/
def mkA (nx : List (List Nat)) (ac : List Bool) : Aut := ⟨nx.length, 0, fun s c => (nx.getD s []).getD c 0, fun s => ac.getD s false⟩
def minA (A : Aut) (cl : Nat → Nat) (m : Nat) : Aut := mkA (outN A cl m) (outF A cl m)
theorem outN_get (A : Aut) (cl : Nat → Nat) {m i : Nat} (h : i < m) : (outN A cl m).getD i [] = rowsK A cl i := by
  unfold outN
  rw [List.getD_eq_getElem?_getD, List.getElem?_map, List.getElem?_range h]
  rfl
theorem minA_d (A : Aut) (cl : Nat → Nat) {m i : Nat} (h : i < m) (c : Nat) : (minA A cl m).d i c = (rowsK A cl i).getD c 0 := by
  show ((outN A cl m).getD i []).getD c 0 = _
  rw [outN_get A cl h]
theorem minA_f (A : Aut) (cl : Nat → Nat) {m i : Nat} (h : i < m) : (minA A cl m).f i = A.f ((fdK A cl m).getD i 0) := by
  show (outF A cl m).getD i false = _
  unfold outF
  rw [List.getD_eq_getElem?_getD, List.getElem?_map, List.getElem?_range h]
  rfl
/-- Classes within which states are equivalent. -/
def Snd (A : Aut) (cl : Nat → Nat) : Prop := ∀ s t, s < A.n → t < A.n → cl s = cl t → Eqv A A s t
def Cls (A : Aut) (cl : Nat → Nat) : Prop := ∀ s t, s < A.n → t < A.n → (cl s = cl t ↔ Eqv A A s t)
theorem Cls.snd {A : Aut} {cl : Nat → Nat} (h : Cls A cl) : Snd A cl := fun s t hs ht e => (h s t hs ht).1 e
section
variable {A : Aut} {cl : Nat → Nat} {m : Nat}
theorem Stop.ok (h : Stop A cl m) (hA : A.Ok) : FdOk A cl (fdK A cl m) := fdK_ok cl hA m h.1
theorem Stop.le (h : Stop A cl m) (hA : A.Ok) : m ≤ A.n := by
  have := (h.ok hA).len
  rw [h.2] at this
  exact this
theorem Stop.pos (h : Stop A cl m) : 0 < m := by
  have h1 := (fdK_pre_le A cl (Nat.zero_le m)).length_le
  rw [h.2] at h1
  exact h1
/-- Steps of the automaton that is made. -/
theorem Stop.step (h : Stop A cl m) {i c : Nat} (hi : i < m) (hc : c < 11) : (minA A cl m).d i c < m ∧ cl ((fdK A cl m).getD ((minA A cl m).d i c) 0) = cl (A.d ((fdK A cl m).getD i 0) c) := by
  rw [minA_d A cl hi]
  obtain ⟨h1, h2⟩ := rowK_entry (A := A) (cl := cl) (fd := fdK A cl i) (s := (fdK A cl i).getD i 0) hc
  have hp : fdK A cl (i + 1) <+: fdK A cl m := fdK_pre_le A cl hi
  have hp0 : fdK A cl i <+: fdK A cl m := fdK_pre_le A cl (Nat.le_of_lt hi)
  rw [← fdK_succ] at h1 h2
  have er : rowsK A cl i = (rowK A cl (fdK A cl i) ((fdK A cl i).getD i 0) 11).1 := by unfold rowsK; with_reducible rfl
  rw [← er] at h1 h2
  have h3 := h1
  have h4 := hp.length_le
  rw [h.2] at h4
  refine ⟨by omega, ?_⟩
  rw [pre_getD hp h3, pre_getD hp0 (h.1 i hi)]
  exact h2
/-- Each state of the automaton that is made is equivalent to the state from which it was made. -/
theorem Stop.eqv (h : Stop A cl m) (hA : A.Ok) (hS : Snd A cl) {i : Nat} (hi : i < m) : Eqv (minA A cl m) A i ((fdK A cl m).getD i 0) := by
  have hok := h.ok hA
  have hl : ∀ j, j < m → (fdK A cl m).getD j 0 < A.n := fun j hj => hok.lt _ (getD_mem (by rw [h.2]; exact hj))
  refine eqv_bisim (fun j s => j < m ∧ s < A.n ∧ Eqv A A ((fdK A cl m).getD j 0) s) (fun j s hj => ?_) (fun j s c hj hc => ?_) i _ ⟨hi, hl i hi, Eqv.refl _ _⟩
  · rw [minA_f A cl hj.1]
    exact hj.2.2.f
  · obtain ⟨h1, h2⟩ := h.step hj.1 hc
    exact ⟨h1, hA.go s c hj.2.1 hc, (hS _ _ (hl _ h1) (hA.go _ c (hl j hj.1) hc) h2).trans (hj.2.2.step hc)⟩
theorem fdK_start (A : Aut) (cl : Nat → Nat) (m : Nat) : (fdK A cl m).getD 0 0 = A.s0 := by
  rw [pre_getD (fdK_pre_le A cl (Nat.zero_le m)) (by simp [fdK])]
  rfl
theorem Stop.start (h : Stop A cl m) (hA : A.Ok) (hS : Snd A cl) : Eqv (minA A cl m) A 0 A.s0 := by
  have := h.eqv hA hS h.pos
  rw [fdK_start] at this
  exact this
/-- No two states of it are equivalent. -/
theorem Stop.apart (h : Stop A cl m) (hA : A.Ok) (hC : Cls A cl) {i j : Nat} (hi : i < m) (hj : j < m) (he : Eqv (minA A cl m) (minA A cl m) i j) : i = j := by
  have hok := h.ok hA
  have h1 := ((h.eqv hA hC.snd hi).symm.trans he).trans (h.eqv hA hC.snd hj)
  have hi' : i < (fdK A cl m).length := by rw [h.2]; exact hi
  have hj' : j < (fdK A cl m).length := by rw [h.2]; exact hj
  have h2 := (hC _ _ (hok.lt _ (getD_mem hi')) (hok.lt _ (getD_mem hj'))).2 h1
  rw [getD_getA hi', getD_getA hj'] at h2
  exact nodup_get hok.nd (by rw [List.length_map]; exact hi') (by rw [List.length_map]; exact hj') (by rw [List.getElem_map, List.getElem_map]; exact h2)
end

/-! ### The same for automata that accept the same words -/
section
variable {A B : Aut} {ca cb : Nat → Nat}
def Par (A B : Aut) : List Nat → List Nat → Prop
  | [], [] => True
  | a :: l, b :: k => (Eqv A B a b ∧ a < A.n ∧ b < B.n) ∧ Par A B l k
  | _, _ => False
theorem Par.len : ∀ {a b : List Nat}, Par A B a b → a.length = b.length
  | [], [], _ => rfl
  | _ :: _, _ :: _, h => by rw [List.length_cons, List.length_cons, Par.len h.2]
  | [], _ :: _, h => by cases h
  | _ :: _, [], h => by cases h
theorem Par.snoc : ∀ {a b : List Nat}, Par A B a b → ∀ {x y : Nat}, Eqv A B x y ∧ x < A.n ∧ y < B.n → Par A B (a ++ [x]) (b ++ [y])
  | [], [], _, _, _, hx => ⟨hx, trivial⟩
  | _ :: _, _ :: _, h, _, _, hx => ⟨h.1, Par.snoc h.2 hx⟩
  | [], _ :: _, h, _, _, _ => by cases h
  | _ :: _, [], h, _, _, _ => by cases h
theorem idx_par (ha : Cls A ca) (hb : Cls B cb) : ∀ {a b : List Nat}, Par A B a b → ∀ {s t : Nat}, Eqv A B s t → s < A.n → t < B.n → idx (a.map ca) (ca s) = idx (b.map cb) (cb t)
  | [], [], _, _, _, _, _, _ => rfl
  | x :: a, y :: b, h, s, t, he, hs, ht => by
    have ih := idx_par ha hb h.2 he hs ht
    unfold idx at ih ⊢
    rw [List.map_cons, List.map_cons, List.findIdx_cons, List.findIdx_cons, ih]
    have e : (ca x == ca s) = (cb y == cb t) := by
      rw [Bool.eq_iff_iff, beq_iff_eq, beq_iff_eq, ha x s h.1.2.1 hs, hb y t h.1.2.2 ht]
      exact ⟨fun k => (h.1.1.symm.trans k).trans he, fun k => (h.1.1.trans k).trans he.symm⟩
    rw [e]
  | [], _ :: _, h, _, _, _, _, _ => by cases h
  | _ :: _, [], h, _, _, _, _, _ => by cases h
theorem Par.add (ha : Cls A ca) (hb : Cls B cb) {a b : List Nat} (h : Par A B a b) {s t : Nat} (he : Eqv A B s t) (hs : s < A.n) (ht : t < B.n) : Par A B (add ca a s) (add cb b t) := by
  unfold Go.Proofs.YtfbfcomfkokfcaaGreatDoor.add
  rw [idx_par ha hb h he hs ht, h.len]
  split
  · exact h
  · exact h.snoc ⟨he, hs, ht⟩
end
end Go.Proofs.YtfbfcomfkokfcaaGreatDoor


/- Automata, plain: classes by words of bounded length; when the refinement ends. -/
namespace Go.Proofs.YtfbfcomfkokfcaaGreatDoor
set_option linter.unusedVariables false

/-- The same words of up to r symbols. -/
def Er (A : Aut) (r s t : Nat) : Prop := ∀ w, word w → w.length ≤ r → A.acc s w = A.acc t w
theorem Er.refl (A : Aut) (r s : Nat) : Er A r s s := fun _ _ _ => rfl
theorem Er.symm {A : Aut} {r s t : Nat} (h : Er A r s t) : Er A r t s := fun w a b => (h w a b).symm
theorem Er.trans {A : Aut} {r s t u : Nat} (h : Er A r s t) (k : Er A r t u) : Er A r s u := fun w a b => (h w a b).trans (k w a b)
theorem Er.le {A : Aut} {r q s t : Nat} (h : Er A r s t) (hq : q ≤ r) : Er A q s t := fun w a b => h w a (by omega)
theorem Eqv.er {A : Aut} {s t : Nat} (h : Eqv A A s t) (r : Nat) : Er A r s t := fun w hw _ => h w hw
/-- A list of class numbers: equal ones exactly for states that agree on words of up to r symbols; the numbers are those below m, each is there. -/
structure OfOk (A : Aut) (r : Nat) (of : List Nat) : Prop where
  len : of.length = A.n
  eq : ∀ s t, s < A.n → t < A.n → (of.getD s 0 = of.getD t 0 ↔ Er A r s t)
structure OfOnto (A : Aut) (of : List Nat) (m : Nat) : Prop where
  lt : ∀ s, s < A.n → of.getD s 0 < m
  all : ∀ v, v < m → ∃ s, s < A.n ∧ of.getD s 0 = v
/-- Representatives and numbers after i states. -/
structure Ref (A : Aut) (r : Nat) (of : List Nat) (i : Nat) (next first : List Nat) : Prop where
  len : next.length = i
  lt : ∀ s ∈ first, s < i
  cls : ∀ s, s < i → next.getD s 0 < first.length ∧ Er A (r + 1) s (first.getD (next.getD s 0) 0)
  rep : ∀ j, j < first.length → next.getD (first.getD j 0) 0 = j
  apart : ∀ j k, j < first.length → k < first.length → Er A (r + 1) (first.getD j 0) (first.getD k 0) → j = k
theorem Ref.start (A : Aut) (r : Nat) (of : List Nat) : Ref A r of 0 [] [] :=
  ⟨rfl, fun s h => (by cases h), fun s h => (by omega), fun j h => (by simp at h), fun j k h _ _ => (by simp at h)⟩
theorem getD_snoc {l : List Nat} {x i : Nat} (h : i < l.length) : (l ++ [x]).getD i 0 = l.getD i 0 := by
  rw [List.getD_eq_getElem?_getD, List.getElem?_append_left h, ← List.getD_eq_getElem?_getD]
theorem getD_last {l : List Nat} {x : Nat} : (l ++ [x]).getD l.length 0 = x := by
  rw [List.getD_eq_getElem?_getD, List.getElem?_append_right (Nat.le_refl _), Nat.sub_self]
  rfl
/-- A state that is like a representative. -/
theorem Ref.old {A : Aut} {r : Nat} {of : List Nat} {i : Nat} {next first : List Nat} (h : Ref A r of i next first) {n : Nat} (hn : n < first.length) (he : Er A (r + 1) i (first.getD n 0)) : Ref A r of (i + 1) (next ++ [n]) first := by
  have hl := h.len
  refine ⟨by rw [List.length_append, hl]; rfl, fun s hs => by have := h.lt s hs; omega, fun s hs => ?_, fun j hj => ?_, h.apart⟩
  · rcases Nat.lt_or_ge s i with k | k
    · rw [getD_snoc (by omega)]
      exact h.cls s k
    · obtain rfl : s = next.length := by omega
      rw [getD_last]
      rw [← hl] at he
      exact ⟨hn, he⟩
  · have := h.lt _ (getD_mem hj)
    rw [getD_snoc (by omega)]
    exact h.rep j hj
/-- All states are numbered. -/
theorem Ref.done {A : Aut} {r : Nat} {of : List Nat} {next first : List Nat} (h : Ref A r of A.n next first) : OfOk A (r + 1) next ∧ OfOnto A next first.length := by
  refine ⟨⟨h.len, fun s t hs ht => ⟨fun e => ?_, fun e => ?_⟩⟩, fun s hs => (h.cls s hs).1, fun v hv => ⟨first.getD v 0, h.lt _ (getD_mem hv), h.rep v hv⟩⟩
  · have h1 := (h.cls s hs).2
    rw [e] at h1
    exact h1.trans (h.cls t ht).2.symm
  · exact h.apart _ _ (h.cls s hs).1 (h.cls t ht).1 (((h.cls s hs).2.symm.trans e).trans (h.cls t ht).2)
theorem Ref.le {A : Aut} {r : Nat} {of : List Nat} {i : Nat} {next first : List Nat} (h : Ref A r of i next first) : first.length ≤ i := by
  have hn : first.Nodup := by
    unfold List.Nodup
    rw [List.pairwise_iff_getElem]
    intro a b ha hb hab e
    have h1 := h.rep a ha
    have h2 := h.rep b hb
    rw [getD_getA ha, e, ← getD_getA hb, h2] at h1
    omega
  have := nodup_len (b := List.range i) hn (fun x hx => List.mem_range.2 (h.lt x hx))
  rwa [List.length_range] at this
end Go.Proofs.YtfbfcomfkokfcaaGreatDoor


/- Automata, plain: complement, product, number of words, the shortest word. -/
namespace Go.Proofs.YtfbfcomfkokfcaaGreatDoor
set_option linter.unusedVariables false

/-! ### Complement -/
section
variable {A B : Aut} {g : Bool → Bool → Bool}
end
/-- Two words of one length. -/
def lexW : List Nat → List Nat → Prop
  | a :: v, b :: w => a < b ∨ (a = b ∧ lexW v w)
  | _, _ => False
/-- A word stands before another one. -/
def bef (v w : List Nat) : Prop := v.length < w.length ∨ (v.length = w.length ∧ lexW v w)
theorem lexW_irr : ∀ w : List Nat, ¬ lexW w w
  | [], h => h
  | a :: w, h => by
    rcases h with h | ⟨_, h⟩
    · omega
    · exact lexW_irr w h
theorem lexW_trans : ∀ {u v w : List Nat}, lexW u v → lexW v w → lexW u w
  | _ :: _, _ :: _, _ :: _, h, k => by
    rcases h with h | ⟨rfl, h⟩ <;> rcases k with k | ⟨rfl, k⟩
    · exact .inl (by omega)
    · exact .inl h
    · exact .inl k
    · exact .inr ⟨rfl, lexW_trans h k⟩
  | [], _, _, h, _ => by cases h
  | _ :: _, [], _, h, _ => by cases h
  | _ :: _, _ :: _, [], _, k => by cases k
theorem lexW_total : ∀ {v w : List Nat}, v.length = w.length → lexW v w ∨ v = w ∨ lexW w v
  | [], [], _ => .inr (.inl rfl)
  | a :: v, b :: w, h => by
    rw [List.length_cons, List.length_cons] at h
    rcases Nat.lt_trichotomy a b with k | k | k
    · exact .inl (.inl k)
    · subst k
      rcases lexW_total (v := v) (w := w) (by omega) with h1 | h1 | h1
      · exact .inl (.inr ⟨rfl, h1⟩)
      · exact .inr (.inl (by rw [h1]))
      · exact .inr (.inr (.inr ⟨rfl, h1⟩))
    · exact .inr (.inr (.inl k))
  | [], _ :: _, h => by simp at h
  | _ :: _, [], h => by simp at h
theorem lexW_snoc : ∀ {v w : List Nat}, lexW v w → ∀ (c d : Nat), v.length = w.length → lexW (v ++ [c]) (w ++ [d])
  | _ :: _, _ :: _, h, c, d, e => by
    rcases h with h | ⟨rfl, h⟩
    · exact .inl h
    · exact .inr ⟨rfl, lexW_snoc h c d (by simpa using e)⟩
  | [], _, h, _, _, _ => by cases h
  | _ :: _, [], h, _, _, _ => by cases h
theorem lexW_last : ∀ (v : List Nat) {c d : Nat}, c < d → lexW (v ++ [c]) (v ++ [d])
  | [], c, d, h => .inl h
  | a :: v, c, d, h => .inr ⟨rfl, lexW_last v h⟩
theorem bef_irr (w : List Nat) : ¬ bef w w := fun h => by
  rcases h with h | ⟨_, h⟩
  · omega
  · exact lexW_irr w h
theorem bef_trans {u v w : List Nat} (h : bef u v) (k : bef v w) : bef u w := by
  rcases h with h | ⟨h, h'⟩ <;> rcases k with k | ⟨k, k'⟩
  · exact .inl (by omega)
  · exact .inl (by omega)
  · exact .inl (by omega)
  · exact .inr ⟨by omega, lexW_trans h' k'⟩
theorem bef_total (v w : List Nat) : bef v w ∨ v = w ∨ bef w v := by
  rcases Nat.lt_trichotomy v.length w.length with h | h | h
  · exact .inl (.inl h)
  · rcases lexW_total h with k | k | k
    · exact .inl (.inr ⟨h, k⟩)
    · exact .inr (.inl k)
    · exact .inr (.inr (.inr ⟨h.symm, k⟩))
  · exact .inr (.inr (.inl h))
theorem bef_snoc {v w : List Nat} (h : bef v w) (c d : Nat) : bef (v ++ [c]) (w ++ [d]) := by
  rcases h with h | ⟨h, k⟩
  · exact .inl (by simp; omega)
  · exact .inr ⟨by simp [h], lexW_snoc k c d h⟩
theorem bef_last (v : List Nat) {c d : Nat} (h : c < d) : bef (v ++ [c]) (v ++ [d]) := .inr ⟨by simp, lexW_last v h⟩
theorem bef_longer (v : List Nat) (c : Nat) : bef v (v ++ [c]) := .inl (by simp)
/-- At most. -/
def befE (v w : List Nat) : Prop := v = w ∨ bef v w
theorem befE.trans {u v w : List Nat} (h : befE u v) (k : befE v w) : befE u w := by
  rcases h with rfl | h
  · exact k
  · rcases k with rfl | k
    · exact .inr h
    · exact .inr (bef_trans h k)
theorem befE.snoc {v w : List Nat} (h : befE v w) (c : Nat) : befE (v ++ [c]) (w ++ [c]) := by
  rcases h with rfl | h
  · exact .inl rfl
  · exact .inr (bef_snoc h c c)
theorem befE_not {v w : List Nat} (h : befE v w) (k : bef w v) : False := by
  rcases h with rfl | h
  · exact bef_irr _ k
  · exact bef_irr _ (bef_trans h k)
/-- The first word that is accepted. -/
def First (A : Aut) (w : List Nat) : Prop := word w ∧ A.acc A.s0 w = true ∧ ∀ v, word v → bef v w → A.acc A.s0 v = false
def Never (A : Aut) : Prop := ∀ v, word v → A.acc A.s0 v = false
theorem First.uniq {A : Aut} {v w : List Nat} (h : First A v) (k : First A w) : v = w := by
  rcases bef_total v w with e | e | e
  · have := k.2.2 v h.1 e
    rw [h.2.1] at this
    cases this
  · exact e
  · have := h.2.2 w k.1 e
    rw [k.2.1] at this
    cases this
/-- The search for it: the rows before i are done, and of row i the symbols before c. -/
structure Srch (A : Aut) (i c : Nat) (F : List Nat) (W : List (List Nat)) : Prop where
  len : W.length = F.length
  le : i ≤ F.length
  some_ : 0 < F.length
  zero : W.getD 0 [] = []
  run : ∀ j, j < F.length → word (W.getD j []) ∧ A.run A.s0 (W.getD j []) = F.getD j 0
  nd : ∀ j k, j < F.length → k < F.length → F.getD j 0 = F.getD k 0 → j = k
  inc : ∀ j k, j < k → k < F.length → bef (W.getD j []) (W.getD k [])
  from_ : ∀ k, k < F.length → W.getD k [] = [] ∨ ∃ j e, W.getD k [] = W.getD j [] ++ [e] ∧ (j < i ∨ (j = i ∧ e < c ∧ j < F.length))
  all : ∀ j e, (j < i ∧ e < 11) ∨ (j = i ∧ e < c) → j < F.length → ∃ k, k < F.length ∧ F.getD k 0 = A.d (F.getD j 0) e ∧ befE (W.getD k []) (W.getD j [] ++ [e])
theorem Srch.next {A : Aut} {i : Nat} {F : List Nat} {W : List (List Nat)} (h : Srch A i 11 F W) (hi : i < F.length) : Srch A (i + 1) 0 F W := by
  refine ⟨h.len, hi, h.some_, h.zero, h.run, h.nd, h.inc, fun k hk => ?_, fun j e he hj => ?_⟩
  · rcases h.from_ k hk with h1 | ⟨j, e, h1, h2⟩
    · exact .inl h1
    · exact .inr ⟨j, e, h1, .inl (by omega)⟩
  · exact h.all j e (by omega) hj
/-- The next state is there already. -/
theorem Srch.old {A : Aut} {i c : Nat} {F : List Nat} {W : List (List Nat)} (h : Srch A i c F W) (hi : i < F.length) {k : Nat} (hk : k < F.length) (e : F.getD k 0 = A.d (F.getD i 0) c) : Srch A i (c + 1) F W := by
  refine ⟨h.len, h.le, h.some_, h.zero, h.run, h.nd, h.inc, fun k hk => ?_, fun j x he hj => ?_⟩
  · rcases h.from_ k hk with h1 | ⟨j, e, h1, h2⟩
    · exact .inl h1
    · exact .inr ⟨j, e, h1, by omega⟩
  · by_cases hx : j = i ∧ x = c
    · obtain ⟨rfl, rfl⟩ := hx
      refine ⟨k, hk, e, .inr ?_⟩
      rcases h.from_ k hk with h1 | ⟨j', e', h1, h2⟩
      · rw [h1]
        exact .inl (by simp)
      · rw [h1]
        rcases h2 with h2 | ⟨rfl, h2, _⟩
        · exact bef_snoc (h.inc j' j h2 hi) _ _
        · exact bef_last _ h2
    · exact h.all j x (by omega) hj
/-- Each word is at least one that was found for its state, or for a state whose row is not done. -/
theorem Srch.each {A : Aut} {i : Nat} {F : List Nat} {W : List (List Nat)} (h : Srch A i 0 F W) : ∀ v : List Nat, word v.reverse → ∃ j, j < F.length ∧ befE (W.getD j []) v.reverse ∧ (A.run A.s0 v.reverse = F.getD j 0 ∨ i ≤ j)
  | [], _ => by
    refine ⟨0, h.some_, .inl h.zero, .inl ?_⟩
    have := (h.run 0 h.some_).2
    rw [h.zero] at this
    exact this
  | c :: v, hw => by
    rw [List.reverse_cons] at hw ⊢
    have hv : word v.reverse := fun x hx => hw x (List.mem_append.2 (.inl hx))
    have hc : c < 11 := hw c (by simp)
    obtain ⟨j, h1, h2, h3⟩ := h.each v hv
    by_cases hj : i ≤ j
    · exact ⟨j, h1, h2.trans (.inr (bef_longer _ c)), .inr hj⟩
    · have h4 : A.run A.s0 v.reverse = F.getD j 0 := by
        rcases h3 with h3 | h3
        · exact h3
        · exact absurd h3 hj
      obtain ⟨k, k1, k2, k3⟩ := h.all j c (.inl ⟨by omega, hc⟩) h1
      refine ⟨k, k1, k3.trans (h2.snoc c), .inl ?_⟩
      rw [Aut.run_app, h4, k2]
      rfl
theorem Srch.first {A : Aut} {i : Nat} {F : List Nat} {W : List (List Nat)} (h : Srch A i 0 F W) (hi : i < F.length) (hf : A.f (F.getD i 0) = true) (hn : ∀ j, j < i → A.f (F.getD j 0) = false) : First A (W.getD i []) := by
  obtain ⟨h1, h2⟩ := h.run i hi
  refine ⟨h1, by show A.f (A.run A.s0 _) = true; rw [h2]; exact hf, fun v hv hb => ?_⟩
  obtain ⟨j, k1, k2, k3⟩ := h.each v.reverse (by rw [List.reverse_reverse]; exact hv)
  rw [List.reverse_reverse] at k2 k3
  by_cases hj : i ≤ j
  · exfalso
    have : befE (W.getD i []) (W.getD j []) := by
      rcases Nat.lt_or_ge i j with h3 | h3
      · exact .inr (h.inc i j h3 k1)
      · rw [show j = i by omega]
        exact .inl rfl
    exact befE_not (this.trans k2) hb
  · rcases k3 with k3 | k3
    · show A.f (A.run A.s0 v) = false
      rw [k3]
      exact hn j (by omega)
    · omega
theorem First.eqv {A B : Aut} (h : Eqv A B A.s0 B.s0) {w : List Nat} (k : First A w) : First B w := ⟨k.1, by rw [← h w k.1]; exact k.2.1, fun v hv hb => by rw [← h v hv]; exact k.2.2 v hv hb⟩
theorem Never.eqv {A B : Aut} (h : Eqv A B A.s0 B.s0) (k : Never A) : Never B := fun v hv => by rw [← h v hv]; exact k v hv
end Go.Proofs.YtfbfcomfkokfcaaGreatDoor


