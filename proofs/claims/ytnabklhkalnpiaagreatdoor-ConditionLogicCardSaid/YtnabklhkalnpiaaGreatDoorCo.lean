/- Of condition: Valid, holds, Holds. Of condition: Holds. Of condition: Equal. -/
import Derived.Test.YtnabklhkalnpiaaGreatDoorCl
import Derived.Laws.StructEq
namespace Go.Proofs.YtnabklhkalnpiaaGreatDoor
open Go.RowKit
set_option linter.unusedVariables false

theorem okC_bad {c : Cnd} {k : Nat} (hk : k < c.length) (h : okL c[k] = false) : okC c = false := by
  cases hc : okC c with
  | false => rfl
  | true =>
    have := (okC_iff.1 hc).2.1 _ (List.getElem_mem hk)
    rw [h] at this
    cases this
theorem okC_many {c : Cnd} {k : Nat} (h : 6 < cnt (c.take k)) : okC c = false := by
  cases hc : okC c with
  | false => rfl
  | true =>
    have := (okC_iff.1 hc).2.2
    have := cnt_take_le c k
    omega
theorem okC_end {c : Cnd} (h1 : ∀ l ∈ c, okL l = true) (h2 : cnt c ≤ 6) : okC c = decide (0 < c.length) := by
  cases h : decide (0 < c.length) with
  | false =>
    unfold okC
    rw [h]; rfl
  | true => exact okC_iff.2 ⟨of_decide_eq_true h, h1, h2⟩
theorem okL_nil {l : List Rel} (h : l.length = 0) : okL l = false := by unfold okL; rw [decide_eq_false (by omega)]; rfl
theorem okL_all {l : List Rel} (h : l.length ≠ 0) : okL l = l.all okR := by unfold okL; rw [decide_eq_true (by omega)]; rfl
set_option maxRecDepth 1000000 in
set_option maxHeartbeats 4000000 in
theorem valid_cond_any (v : Value) (c : Cnd) (w : World) (hv : RdC w v c) (hl : ∀ l ∈ c, l.length ≤ 4611686018427387904) :
    Calls Tryz.prog 13 #[v] w fun e w' => e = .returned (.bool (okC c)) ∧ Below w.heap.size w w' := by
  obtain ⟨a, cp, rfl, hc1, hc2⟩ := hv.slice
  have HU := Lib.hid hv
  have HL := Lib.hid hl
  clear hv hl
  go_enter Tryz.func13, Tryz.ntmps13
  go_wp2
  go_loopw [3, 8] (fun v3 v8 wr => ∃ k : Nat, k ≤ c.length ∧ v8 = .int .i64 k ∧ v3 = .int .i64 (cnt (c.take k) : Nat) ∧ cnt (c.take k) ≤ 6 ∧ (∀ l ∈ c.take k, okL l = true) ∧ Below w.heap.size w wr) (fun _ v8 _ => c.length - (intOf v8).toNat)
  case atStart => exact ⟨0, Nat.zero_le _, rfl, rfl, Nat.zero_le _, fun l h => by simp at h, Below.refl _ _⟩
  case round =>
    obtain ⟨k, hk, rfl, rfl, h6, hok, hb⟩ := hrel
    have HK := Lib.hid hok
    have HB := Lib.hid hb
    have zr := hb.size
    clear hok hb
    by_cases hlt : k < c.length
    · obtain ⟨bk, off, x1, x2, rfl, h0, h4⟩ := (HU.out.below HB.out).at_ k hlt
      have h9 : (k : Int) < (c.length : Int) := by omega
      have hln := HL.out _ (List.getElem_mem hlt)
      have HS := Lib.hid (cnt_take_succ hlt)
      have HT := Lib.hid (List.take_succ_eq_append_getElem hlt)
      have HBAD := Lib.hid (okC_bad (c := c) hlt)
      have H4 := Lib.hid h4
      obtain ⟨m, hm⟩ : ∃ m, c[k] = m := ⟨_, rfl⟩
      rw [hm] at h0 hln HS HT HBAD H4
      clear h4 hm
      obtain ⟨N, hN⟩ : ∃ N, cnt (c.take k) = N := ⟨_, rfl⟩
      rw [hN] at h6 HS ⊢
      clear hN
      by_cases hz : m.length = 0
      · have t0 : ((m.length : Int) == 0) = true := by rw [beq_iff_eq]; omega
        have HV := Lib.hid (HBAD.out (okL_nil hz))
        clear hz
        go_wp2
        go_ret
        exact ⟨by rw [HV.out]; rfl, HB.out⟩
      have t0 : ((m.length : Int) == 0) = false := by rw [beq_eq_false_iff_ne]; omega
      have t0' : (m.length == 0) = false := by rw [beq_eq_false_iff_ne]; omega
      by_cases h7 : 6 < N + m.length
      · have t1 : (6 : Int) < (N : Int) + (m.length : Int) := by omega
        have HV : Hid (okC c = false) := Lib.hid (okC_many (k := k + 1) (by rw [HS.out]; exact h7))
        clear hz
        go_wp2
        go_ret
        exact ⟨by rw [HV.out]; rfl, HB.out⟩
      have t1 : ¬ (6 : Int) < (N : Int) + (m.length : Int) := by omega
      have HA := Lib.hid (okL_all (l := m) hz)
      clear hz
      go_wp2_with fail
      refine (allRel_any _ m okR 28 #[] (enters_of Tryz.func28 (by kernel_rfl) rfl) _ H4.out (fun W r a2 c2 _ _ hr => isValid_any r a2 c2 W hr)).mono ?_
      rintro e w2 ⟨rfl, b2⟩
      have HB2 := Lib.hid (st HB.out b2 zr)
      clear b2
      rw [← HA.out]
      obtain ⟨b, hbb⟩ : ∃ b, okL m = b := ⟨_, rfl⟩
      have HQ := Lib.hid hbb
      rw [hbb]
      clear hbb
      cases b with
      | false =>
        have HV := Lib.hid (HBAD.out HQ.out)
        go_wp2
        go_ret
        exact ⟨by rw [HV.out]; rfl, HB2.out⟩
      | true =>
        go_wp2
        go_roundw
        case measure => simp [intOf]; omega
        case rel => exact ⟨k + 1, by omega, by go_num, by rw [HS.out]; simp, by rw [HS.out]; omega, fun l hl => by
          rw [HT.out] at hl
          rcases List.mem_append.1 hl with h | h
          · exact HK.out l h
          · simp at h; subst h; exact HQ.out, HB2.out⟩
    · obtain rfl : k = c.length := by omega
      have h3 : ¬ (c.length : Int) < (c.length : Int) := by omega
      have HV : Hid (okC c = decide (0 < c.length)) := Lib.hid (by
        have h1 := HK.out
        rw [List.take_length] at h1 h6
        exact okC_end h1 h6)
      by_cases h0 : 0 < c.length
      · have t0 : (0 : Int) < (c.length : Int) := by omega
        have HW : Hid (okC c = true) := Lib.hid (by rw [HV.out]; exact decide_eq_true h0)
        clear h6
        go_wp2
        go_ret
        exact ⟨by rw [HW.out]; rfl, HB.out⟩
      · have t0 : ¬ (0 : Int) < (c.length : Int) := by omega
        have HW : Hid (okC c = false) := Lib.hid (by rw [HV.out]; exact decide_eq_false h0)
        clear h6
        go_wp2
        go_ret
        exact ⟨by rw [HW.out]; rfl, HB.out⟩

/-! ### holds -/
theorem opR_fits (s : Str) (k : Int) : 0 ≤ (opR s k).1 ∧ (opR s k).1 < 1000000000000000 := by
  unfold opR
  split
  · exact ⟨by decide, by decide⟩
  · rename_i x h
    have g := (spl_some h).1
    have p : ∀ l : Str, allD l → l.length ≤ 15 → (0 : Int) ≤ (val l : Int) ∧ (val l : Int) < 1000000000000000 := fun l h1 h2 => by
      have h3 := val_lt h1
      have h4 : 10 ^ l.length ≤ 10 ^ 15 := Nat.pow_le_pow_right (by omega) h2
      have h5 : (10 : Nat) ^ 15 = 1000000000000000 := by decide
      omega
    have q1 := p x.wh g.dw g.high
    have q2 := p x.fr g.df (by have := g.few; omega)
    have q3 := p (trim x.fr) (trim_allD g.df) (by have := g.few; have := trim_len x.fr; omega)
    have q4 := g.few
    have q5 := trim_len x.fr
    unfold opnd
    repeat' split
    all_goals first | exact q1 | exact q2 | exact q3 | (dsimp only; omega)
set_option maxRecDepth 1000000 in
set_option maxHeartbeats 1000000 in
theorem holds1_any (n : Int) (s : Int × Int) (B : Nat) (W : World) (hc : W.cell? ⟨B, 0, none⟩ = some (.int .i64 n)) (hB : B < W.heap.size) :
    Calls Tryz.prog 69 (#[.agg #[.int .i64 s.1, .int .i64 s.2]] ++ #[.pointer (some ⟨B, 0, none⟩)]) W fun e w' => e = .returned (.bool (decide (s.1 ≤ n) && decide (n ≤ s.2))) ∧ Below W.heap.size W w' := by
  obtain ⟨s1, s2⟩ := s
  have K := Lib.hid ((Below.refl W.heap.size W).alloc (Nat.le_refl _) (.cells #[.int .i64 s1, .int .i64 s2] 42))
  have hc2 : (W.alloc (.cells #[.int .i64 s1, .int .i64 s2] 42)).cell? ⟨B, 0, none⟩ = some (.int .i64 n) := (K.out.cell (p := ⟨B, 0, none⟩) hB).trans hc
  clear hc
  by_cases h1 : s1 ≤ n
  · have q := decide_eq_true h1
    have HX : Hid ((decide (s1 ≤ n) && decide (n ≤ s2)) = decide (n ≤ s2)) := Lib.hid (by rw [q]; rfl)
    go_enter Tryz.func69, Tryz.ntmps69
    go_wp2
    go_ret
    exact ⟨by dsimp only; first | rfl | (rw [HX.out]; rfl), K.out⟩
  · have q := decide_eq_false h1
    have HX : Hid ((decide (s1 ≤ n) && decide (n ≤ s2)) = false) := Lib.hid (by rw [q]; rfl)
    go_enter Tryz.func69, Tryz.ntmps69
    go_wp2
    go_ret
    exact ⟨by dsimp only; first | rfl | (rw [HX.out]; rfl), K.out⟩
theorem hld_err {s : Str} {r : Rel} (h : (opR s r.op).2 ≠ 0) : hldR s r = r.nt := by unfold hldR hldO; rw [if_neg h]
theorem hld_ok {s : Str} {r : Rel} (h : (opR s r.op).2 = 0) : hldR s r = (inside r.sp (rem r.md (opR s r.op).1) != r.nt) := by unfold hldR hldO; rw [if_pos h]
theorem bne_same (a b : Bool) : (a != b) = (a != b) := rfl
set_option maxRecDepth 1000000 in
set_option maxHeartbeats 4000000 in
theorem holds_any (r : Rel) (a2 : Option Addr) (c2 : Nat) (s : ByteArray) (hs : s.size ≤ 1000) (hok : 0 ≤ r.md ∧ r.md ≤ 100) (w : World) (hr : Rd 2 encP w (.slice a2 r.sp.length c2) r.sp) :
    Calls Tryz.prog 41 #[.agg #[.int .i64 r.op, .int .i64 r.md, .bool r.nt, .slice a2 r.sp.length c2], .string s] w fun e w' => e = .returned (.bool (hldR s.data.toList r)) ∧ Below w.heap.size w w' := by
  have HE := Lib.hid (hld_err (s := s.data.toList) (r := r))
  have HO := Lib.hid (hld_ok (s := s.data.toList) (r := r))
  obtain ⟨o, m, nt, sp⟩ := r
  dsimp only at hr hok HE HO ⊢
  obtain ⟨m0, m1⟩ := hok
  have K := Lib.hid ((Below.refl w.heap.size w).alloc (Nat.le_refl _) (.cells #[.int .i64 o, .int .i64 m, .bool nt, .slice a2 sp.length c2] 38))
  have KB := Lib.hid (Blk.new w 38 #[.int .i64 o, .int .i64 m, .bool nt, .slice a2 sp.length c2])
  have HR := Lib.hid hr
  have HF := Lib.hid (opR_fits s.data.toList o)
  clear hr
  go_enter Tryz.func41, Tryz.ntmps41
  go_wp2_with fail
  refine (operand_any s o hs _).mono ?_
  rintro e w2 ⟨rfl, b2⟩
  have B2 := Lib.hid (st K.out b2 K.out.size)
  have KB2 := Lib.hid (KB.out.below b2)
  have HR2 := Lib.hid (HR.out.below B2.out)
  obtain ⟨⟨n, er⟩, hp⟩ : ∃ p, opR s.data.toList o = p := ⟨_, rfl⟩
  rw [hp] at HE HO HF ⊢
  have n0 := HF.out.1
  have n1 := HF.out.2
  dsimp only at n0 n1 HE HO ⊢
  clear hp b2 HF
  have KN := Lib.hid (Blk.new w2 3 #[.int .i64 n])
  have B3 := Lib.hid (B2.out.alloc B2.out.size (.cells #[.int .i64 n] 3))
  have KB3 := Lib.hid (KB2.out.alloc (.cells #[.int .i64 n] 3))
  have HR3 := Lib.hid (HR2.out.alloc (.cells #[.int .i64 n] 3))
  obtain ⟨w3, hw3⟩ : ∃ w3, w2.alloc (.cells #[.int .i64 n] 3) = w3 := ⟨_, rfl⟩
  have zz := B2.out.size
  rw [hw3] at KN B3 KB3 HR3
  have k1 : w3.cell? ⟨w.heap.size, 1, none⟩ = some (.int .i64 m) := KB3.out.cell 1
  have k2 : w3.cell? ⟨w.heap.size, 2, none⟩ = some (.bool nt) := KB3.out.cell 2
  have k3 : w3.cell? ⟨w.heap.size, 3, none⟩ = some (.slice a2 sp.length c2) := KB3.out.cell 3
  have k4 : w3.cell? ⟨w2.heap.size, 0, none⟩ = some (.int .i64 n) := KN.out.cell 0
  have k5 : w3.frozen? ⟨w2.heap.size, 0, none⟩ = false := KN.out.frozen 0
  by_cases he : er = 0
  · subst he
    have t0 : ((0 : Int) != 0) = false := rfl
    by_cases hm : m = 0
    · subst hm
      have t1 : ((0 : Int) == 0) = true := rfl
      have HV : Hid (hldR s.data.toList ⟨o, 0, nt, sp⟩ = (inside sp n != nt)) := Lib.hid (HO.out rfl)
      clear HE HO
      go_wp2_with fail
      refine (containsSpan_any _ sp (fun s => decide (s.1 ≤ n) && decide (n ≤ s.2)) 69 _ (enters_of Tryz.func69 (by kernel_rfl) rfl) _ HR3.out (fun W s _ hb => by
        have kb := KN.out.below hb
        exact holds1_any n s w2.heap.size W (kb.cell 0) kb.lt)).mono ?_
      rintro e w4 ⟨rfl, b4⟩
      have B4 := Lib.hid (st B3.out b4 B3.out.size)
      have k6 : w4.cell? ⟨w.heap.size, 2, none⟩ = some (.bool nt) := (KB3.out.below b4).cell 2
      clear b4
      have HI : Hid (inside sp n = sp.any fun s => decide (s.1 ≤ n) && decide (n ≤ s.2)) := Lib.hid rfl
      obtain ⟨x, hx⟩ : ∃ x, (sp.any fun s => decide (s.1 ≤ n) && decide (n ≤ s.2)) = x := ⟨_, rfl⟩
      rw [hx] at HI ⊢
      clear hx
      go_wp2
      go_ret
      exact ⟨by rw [HV.out, HI.out]; rfl, B4.out⟩
    · have t1 : (m == 0) = false := by rw [beq_eq_false_iff_ne]; exact hm
      have HV : Hid (hldR s.data.toList ⟨o, m, nt, sp⟩ = (inside sp (n.tmod m) != nt)) := Lib.hid (by rw [HO.out rfl]; unfold rem; rw [if_neg hm])
      obtain ⟨j, hj⟩ : ∃ j, n.tmod m = j := ⟨_, rfl⟩
      rw [hj] at HV
      have B5 := Lib.hid (B3.out.setCell (p := ⟨w2.heap.size, 0, none⟩) zz (.int .i64 j))
      have KN5 := Lib.hid (KN.out.put 0 (.int .i64 j))
      have KB5 := Lib.hid (KB3.out.far (p := ⟨w2.heap.size, 0, none⟩) (by have := KB2.out.lt; show w.heap.size ≠ w2.heap.size; omega) (.int .i64 j))
      have HR5 := Lib.hid (HR2.out.below (((Below.refl w2.heap.size w2).alloc (Nat.le_refl _) (.cells #[.int .i64 n] 3)).setCell (p := ⟨w2.heap.size, 0, none⟩) (Nat.le_refl _) (.int .i64 j)))
      rw [hw3] at HR5
      have k6 : (w3.setCell ⟨w2.heap.size, 0, none⟩ (.int .i64 j)).cell? ⟨w.heap.size, 3, none⟩ = some (.slice a2 sp.length c2) := KB5.out.cell 3
      clear HE HO
      go_wp2_with fail
      refine (containsSpan_any _ sp (fun s => decide (s.1 ≤ j) && decide (j ≤ s.2)) 69 _ (enters_of Tryz.func69 (by kernel_rfl) rfl) _ HR5.out (fun W s _ hb => by
        have kb := KN5.out.below hb
        exact holds1_any j s w2.heap.size W (kb.cell 0) kb.lt)).mono ?_
      rintro e w4 ⟨rfl, b4⟩
      have B4 := Lib.hid (st B5.out b4 B5.out.size)
      have k7 : w4.cell? ⟨w.heap.size, 2, none⟩ = some (.bool nt) := (KB5.out.below b4).cell 2
      clear b4
      have HI : Hid (inside sp j = sp.any fun s => decide (s.1 ≤ j) && decide (j ≤ s.2)) := Lib.hid rfl
      obtain ⟨x, hx⟩ : ∃ x, (sp.any fun s => decide (s.1 ≤ j) && decide (j ≤ s.2)) = x := ⟨_, rfl⟩
      rw [hx] at HI ⊢
      clear hx
      go_wp2
      go_ret
      exact ⟨by rw [HV.out, HI.out]; rfl, B4.out⟩
  · have t0 : (er == 0) = false := by rw [beq_eq_false_iff_ne]; exact he
    have HV := Lib.hid (HE.out he)
    clear HE HO he
    go_wp2
    go_ret
    exact ⟨by rw [HV.out]; rfl, B3.out⟩
end Go.Proofs.YtnabklhkalnpiaaGreatDoor

namespace Go.Proofs.YtnabklhkalnpiaaGreatDoor
open Go.RowKit
set_option linter.unusedVariables false

set_option maxRecDepth 1000000 in
set_option maxHeartbeats 1000000 in
theorem holds11_any (r : Rel) (a2 : Option Addr) (c2 : Nat) (s : ByteArray) (hs : s.size ≤ 1000) (hok : 0 ≤ r.md ∧ r.md ≤ 100) (B : Nat) (W : World) (hr : Rd 2 encP W (.slice a2 r.sp.length c2) r.sp) (hc : W.cell? ⟨B, 0, none⟩ = some (.string s)) (hB : B < W.heap.size) :
    Calls Tryz.prog 40 (#[.agg #[.int .i64 r.op, .int .i64 r.md, .bool r.nt, .slice a2 r.sp.length c2]] ++ #[.pointer (some ⟨B, 0, none⟩)]) W fun e w' => e = .returned (.bool (hldR s.data.toList r)) ∧ Below W.heap.size W w' := by
  have K := Lib.hid ((Below.refl W.heap.size W).alloc (Nat.le_refl _) (.cells #[.int .i64 r.op, .int .i64 r.md, .bool r.nt, .slice a2 r.sp.length c2] 38))
  have hc2 : (W.alloc (.cells #[.int .i64 r.op, .int .i64 r.md, .bool r.nt, .slice a2 r.sp.length c2] 38)).cell? ⟨B, 0, none⟩ = some (.string s) := (K.out.cell (p := ⟨B, 0, none⟩) hB).trans hc
  have HR := Lib.hid (hr.below K.out)
  clear hc hr
  go_enter Tryz.func40, Tryz.ntmps40
  go_wp2_with fail
  refine (holds_any r a2 c2 s hs hok _ HR.out).mono ?_
  rintro e w2 ⟨rfl, b2⟩
  have B2 := Lib.hid (st K.out b2 K.out.size)
  clear b2
  go_wp2
  go_ret
  exact ⟨rfl, B2.out⟩
set_option maxRecDepth 1000000 in
set_option maxHeartbeats 1000000 in
theorem holds1f_any (m : List Rel) (a2 : Option Addr) (c2 : Nat) (s : ByteArray) (hs : s.size ≤ 1000) (hok : ∀ r ∈ m, 0 ≤ r.md ∧ r.md ≤ 100) (B : Nat) (W : World) (hr : RdRels W (.slice a2 m.length c2) m) (hc : W.cell? ⟨B, 0, none⟩ = some (.string s)) (hB : B < W.heap.size) :
    Calls Tryz.prog 39 (#[.slice a2 m.length c2] ++ #[.pointer (some ⟨B, 0, none⟩)]) W fun e w' => e = .returned (.bool (hldL s.data.toList m)) ∧ Below W.heap.size W w' := by
  have HR := Lib.hid hr
  have HC := Lib.hid hc
  have HO := Lib.hid hok
  have HX : Hid (hldL s.data.toList m = m.all (hldR s.data.toList)) := Lib.hid rfl
  clear hc hr hok
  go_enter Tryz.func39, Tryz.ntmps39
  go_wp2_with fail
  refine (allRel_any _ m (hldR s.data.toList) 40 _ (enters_of Tryz.func40 (by kernel_rfl) rfl) _ HR.out (fun W1 r a3 c3 hm hb h3 => holds11_any r a3 c3 s hs (HO.out r hm) B W1 h3 ((hb.cell (p := ⟨B, 0, none⟩) hB).trans HC.out) (Nat.lt_of_lt_of_le hB hb.size))).mono ?_
  rintro e w2 ⟨rfl, b2⟩
  have B2 := Lib.hid b2
  clear b2
  go_wp2
  go_ret
  exact ⟨by rw [HX.out]; rfl, B2.out⟩
theorem okC_md {c : Cnd} (h : okC c = true) : ∀ m ∈ c, ∀ r ∈ m, 0 ≤ r.md ∧ r.md ≤ 100 := by
  intro m hm r hr
  have h1 := (okL_iff.1 ((okC_iff.1 h).2.1 m hm)).2 r hr
  exact okMod_le (okR_iff.1 h1).md
set_option maxRecDepth 1000000 in
set_option maxHeartbeats 2000000 in
theorem holdsC_any (v : Value) (c : Cnd) (s : ByteArray) (hs : s.size ≤ 1000) (w : World) (hv : RdC w v c) (hl : ∀ l ∈ c, l.length ≤ 4611686018427387904) :
    Calls Tryz.prog 18 #[v, .string s] w fun e w' => e = .returned (.tuple #[.bool (holdR c s.data.toList).1, .int .i64 (holdR c s.data.toList).2]) ∧ Below w.heap.size w w' := by
  obtain ⟨a, cp, rfl, hc1, hc2⟩ := hv.slice
  have K := Lib.hid ((Below.refl w.heap.size w).alloc (Nat.le_refl _) (.cells #[.string s] 9))
  have KB := Lib.hid (Blk.new w 9 #[.string s])
  have HV := Lib.hid (hv.below K.out)
  clear hv
  go_enter Tryz.func18, Tryz.ntmps18
  go_wp2_with fail
  refine (valid_cond_any _ c _ HV.out hl).mono ?_
  rintro e w2 ⟨rfl, b2⟩
  have B2 := Lib.hid (st K.out b2 K.out.size)
  have KB2 := Lib.hid (KB.out.below b2)
  have HV2 := Lib.hid (HV.out.below b2)
  have k0 : w2.cell? ⟨w.heap.size, 0, none⟩ = some (.string s) := KB2.out.cell 0
  clear b2
  obtain ⟨b, hb⟩ : ∃ b, okC c = b := ⟨_, rfl⟩
  have HB := Lib.hid hb
  rw [hb]
  clear hb
  cases b with
  | false =>
    have HX : Hid (holdR c s.data.toList = (false, 1)) := Lib.hid (by unfold holdR; rw [HB.out, if_neg (by simp)])
    go_wp2
    go_ret2
    exact ⟨by rw [HX.out]; rfl, B2.out⟩
  | true =>
    go_wp2_with fail
    refine (valid_any s hs _).mono ?_
    rintro e w3 ⟨rfl, b3⟩
    have B3 := Lib.hid (st B2.out b3 B2.out.size)
    have KB3 := Lib.hid (KB2.out.below b3)
    have HV3 := Lib.hid (HV2.out.below b3)
    clear b3 k0
    obtain ⟨b, hb⟩ : ∃ b, (spl s.data.toList).isSome = b := ⟨_, rfl⟩
    have HS := Lib.hid hb
    rw [hb]
    clear hb
    cases b with
    | false =>
      have HX : Hid (holdR c s.data.toList = (false, 1)) := Lib.hid (by unfold holdR; rw [HS.out, if_neg (by simp)])
      go_wp2
      go_ret2
      exact ⟨by rw [HX.out]; rfl, B3.out⟩
    | true =>
      have HX : Hid (holdR c s.data.toList = (hldC s.data.toList c, 0)) := Lib.hid (by unfold holdR; rw [HS.out, HB.out, if_pos (by simp)])
      have HY : Hid (hldC s.data.toList c = c.any (hldL s.data.toList)) := Lib.hid rfl
      go_wp2_with fail
      refine (containsLst_any _ c (hldL s.data.toList) 39 _ (enters_of Tryz.func39 (by kernel_rfl) rfl) _ HV3.out (fun W1 m a3 c3 hm hb h3 => holds1f_any m a3 c3 s hs (okC_md HB.out m hm) w.heap.size W1 h3 ((KB3.out.below hb).cell 0) (KB3.out.below hb).lt)).mono ?_
      rintro e w4 ⟨rfl, b4⟩
      have B4 := Lib.hid (st B3.out b4 B3.out.size)
      clear b4
      go_wp2
      go_ret2
      exact ⟨by rw [HX.out, HY.out]; rfl, B4.out⟩
end Go.Proofs.YtnabklhkalnpiaaGreatDoor

namespace Go.Proofs.YtnabklhkalnpiaaGreatDoor
open Go.RowKit
set_option linter.unusedVariables false

/-- Two lists, equal element by element. -/
def allEq {α : Type} (q : α → α → Bool) : List α → List α → Bool
  | [], [] => true
  | x :: l, y :: m => q x y && allEq q l m
  | _, _ => false
theorem allEq_len {α : Type} {q : α → α → Bool} : ∀ {l m : List α}, l.length ≠ m.length → allEq q l m = false
  | [], [], h => absurd rfl h
  | [], _ :: _, _ => rfl
  | _ :: _, [], _ => rfl
  | x :: l, y :: m, h => by
    rw [allEq, allEq_len (by simpa using h), Bool.and_false]
theorem allEq_bad {α : Type} {q : α → α → Bool} : ∀ {l m : List α} {k : Nat} (h : k < l.length) (h' : k < m.length), q l[k] m[k] = false → allEq q l m = false
  | [], _, k, h, _, _ => by simp at h
  | _ :: _, [], k, _, h, _ => by simp at h
  | x :: l, y :: m, 0, _, _, h => by
    have h2 : q x y = false := h
    rw [allEq, h2, Bool.false_and]
  | x :: l, y :: m, k + 1, h, h', hq => by
    rw [allEq, allEq_bad (k := k) (by simpa using h) (by simpa using h') hq, Bool.and_false]
theorem allEq_good {α : Type} {q : α → α → Bool} : ∀ {l m : List α}, l.length = m.length → (∀ (k : Nat) (h : k < l.length) (h' : k < m.length), k < l.length → q l[k] m[k] = true) → allEq q l m = true
  | [], [], _, _ => rfl
  | [], _ :: _, h, _ => by simp at h
  | _ :: _, [], h, _ => by simp at h
  | x :: l, y :: m, h, hq => by
    have h0 : q x y = true := hq 0 (by simp) (by simp) (by simp)
    rw [allEq, h0, Bool.true_and]
    exact allEq_good (by simpa using h) (fun k a b _ => hq (k + 1) (by simpa using a) (by simpa using b) (by simpa using a))
theorem allEq_iff {α : Type} {q : α → α → Bool} (hq : ∀ x y, q x y = true ↔ x = y) : ∀ {l m : List α}, allEq q l m = true ↔ l = m
  | [], [] => by simp [allEq]
  | [], _ :: _ => by simp [allEq]
  | _ :: _, [] => by simp [allEq]
  | x :: l, y :: m => by rw [allEq, Bool.and_eq_true, hq, allEq_iff hq, List.cons_eq_cons]
def spq (x y : Int × Int) : Bool := decide (x.1 = y.1) && decide (x.2 = y.2)
theorem spq_iff (x y : Int × Int) : spq x y = true ↔ x = y := by
  obtain ⟨a, b⟩ := x
  obtain ⟨c, d⟩ := y
  unfold spq
  simp
def rlq (r s : Rel) : Bool := decide (r.op = s.op) && decide (r.md = s.md) && (r.nt == s.nt) && allEq spq r.sp s.sp
theorem rlq_iff (r s : Rel) : rlq r s = true ↔ r = s := by
  obtain ⟨a, b, c, d⟩ := r
  obtain ⟨a', b', c', d'⟩ := s
  unfold rlq
  simp [allEq_iff spq_iff, and_assoc]
def lsq (l m : List Rel) : Bool := allEq rlq l m
theorem lsq_iff (l m : List Rel) : lsq l m = true ↔ l = m := allEq_iff rlq_iff
def cdq (c d : Cnd) : Bool := allEq lsq c d
theorem cdq_iff (c d : Cnd) : cdq c d = true ↔ c = d := allEq_iff lsq_iff
theorem cdq_self (c : Cnd) : cdq c c = true := (cdq_iff c c).2 rfl
/-- Two structs of two numbers compared. -/
theorem eqSp (x y : Int × Int) (wx : World) : (Op.equalIn 10000 42 (.agg #[.int .i64 x.1, .int .i64 x.2]) (.agg #[.int .i64 y.1, .int .i64 y.2])).run Tryz.prog wx = .ok (spq x y) wx := by
  obtain ⟨a, b⟩ := x
  obtain ⟨c, d⟩ := y
  rw [show (10000 : Nat) = 9999 + 1 from rfl, run_equalIn_struct _ 9999 _ _ _ (by kernel_rfl) (by kernel_rfl)]
  have u1 := Tryz.underlying3
  unfold spq
  by_cases h1 : a = c
  · subst h1
    by_cases h2 : b = d
    · subst h2
      go_simp
    · have e2 : (b == d) = false := by rw [beq_eq_false_iff_ne]; exact h2
      go_simp
  · have e1 : (a == c) = false := by rw [beq_eq_false_iff_ne]; exact h1
    go_simp

set_option maxRecDepth 1000000 in
set_option maxHeartbeats 2000000 in
theorem equalSpans_any (va vb : Value) (l m : List (Int × Int)) (w : World) (ha : Rd 2 encP w va l) (hb : Rd 2 encP w vb m) :
    Calls Tryz.prog 59 #[va, vb] w fun e w' => e = .returned (.bool (allEq spq l m)) ∧ Below w.heap.size w w' := by
  obtain ⟨a, c, rfl, hc1, hc2⟩ := ha.slice
  obtain ⟨a', c', rfl, hc1', hc2'⟩ := hb.slice
  have HA := Lib.hid ha
  have HB := Lib.hid hb
  clear ha hb
  go_enter Tryz.func59, Tryz.ntmps59
  by_cases hln : l.length = m.length
  case neg =>
    have t0 : ((l.length : Int) == (m.length : Int)) = false := by rw [beq_eq_false_iff_ne]; omega
    have t0' : (l.length == m.length) = false := by rw [beq_eq_false_iff_ne]; omega
    have HX := Lib.hid (allEq_len (q := spq) hln)
    clear hln
    go_wp2
    go_ret
    exact ⟨by rw [HX.out]; rfl, Below.refl _ _⟩
  have HLN := Lib.hid hln
  have t0 : ((l.length : Int) == (m.length : Int)) = true := by rw [beq_iff_eq]; omega
  have t0' : (l.length == m.length) = true := by rw [beq_iff_eq]; omega
  clear hln
  go_wp2
  go_loopw [13] (fun v wr => ∃ k : Nat, k ≤ l.length ∧ v = .int .i64 k ∧ (∀ (j : Nat) (hj : j < l.length) (hj' : j < m.length), j < k → spq l[j] m[j] = true) ∧ Below w.heap.size w wr) (fun v _ => l.length - (intOf v).toNat)
  case atStart => exact ⟨0, Nat.zero_le _, rfl, fun j _ _ h => by omega, Below.refl _ _⟩
  case round =>
    obtain ⟨k, hk, rfl, hkd, hb⟩ := hrel
    have HK := Lib.hid hkd
    have HBW := Lib.hid hb
    have zr := hb.size
    clear hkd hb t0 t0'
    by_cases hlt : k < l.length
    · have hlt' : k < m.length := by rw [← HLN.out]; exact hlt
      obtain ⟨bk, off, rfl, h0, h1⟩ := (HA.out.below HBW.out).span k hlt
      obtain ⟨bk', off', rfl, g0, g1⟩ := (HB.out.below HBW.out).span k hlt'
      have h9 : (k : Int) < (l.length : Int) := by omega
      have h9' : (k : Int) < (m.length : Int) := by omega
      have e1 := eqSp l[k] m[k]
      have d0 : wr.drew.cell? ⟨bk, off + k * 2, none⟩ = some (.int .i64 l[k].1) := h0
      have d1 : wr.drew.cell? ⟨bk, off + k * 2 + 1, none⟩ = some (.int .i64 l[k].2) := h1
      have f0 : wr.drew.cell? ⟨bk', off' + k * 2, none⟩ = some (.int .i64 m[k].1) := g0
      have f1 : wr.drew.cell? ⟨bk', off' + k * 2 + 1, none⟩ = some (.int .i64 m[k].2) := g1
      have HBAD := Lib.hid (allEq_bad (q := spq) hlt hlt')
      obtain ⟨x, hx⟩ : ∃ x, spq l[k] m[k] = x := ⟨_, rfl⟩
      have HX := Lib.hid hx
      rw [hx] at e1
      clear hx
      cases x with
      | false =>
        have HV := Lib.hid (HBAD.out HX.out)
        go_wp2_with fail
        go_quiet (fail)
        go_wp2
        go_ret
        exact ⟨by rw [HV.out]; rfl, below_drewN HBW.out _⟩
      | true =>
        go_wp2_with fail
        go_quiet (fail)
        go_wp2
        go_roundw
        case measure => simp [intOf]; omega
        case rel => exact ⟨k + 1, by omega, by go_num, fun j hj hj' hjk => by
          rcases Nat.lt_or_ge j k with h | h
          · exact HK.out j hj hj' h
          · obtain rfl : j = k := by omega
            exact HX.out, below_drewN HBW.out _⟩
    · obtain rfl : k = l.length := by omega
      have h3 : ¬ (l.length : Int) < (l.length : Int) := by omega
      have HV := Lib.hid (allEq_good (q := spq) HLN.out HK.out)
      go_wp2
      go_ret
      exact ⟨by rw [HV.out]; rfl, HBW.out⟩

end Go.Proofs.YtnabklhkalnpiaaGreatDoor
