/- Of the program: firstWord. -/
import Derived.Test.YtiljagfjgefnnaaBg
import Derived.Test.YtiljagfjgefnnaaBf
namespace Go.Proofs.Ytiljagfjgefnnaa
open Go.RowKit
set_option linter.unusedVariables false

theorem of_extS {a b : ByteArray} (h : a.data.toList = b.data.toList) : a = b := by rw [← of_data a, ← of_data b, h]
theorem add_twoS (x y : Str) : ofL x ++ ofL y = ofL (x ++ y) := of_extS (by simp [ofL])
theorem str_addS {P : Program} {x y z : Str} (h : x.length + y.length ≤ 9223372036854775807) (hz : x ++ y = z) (wx : World) : (Op.stringOp .add (ofL x) (ofL y)).run P wx = .ok (.string (ofL z)) wx := by
  have h2 := run_string_add_sum (P := P) (w := wx) (ofL x) (ofL y) (by rw [ofL_size, ofL_size]; exact h)
  rw [add_twoS, hz] at h2
  exact h2
def strW (v : List Nat) : Str := v.map chrN
theorem Try.infoArr : (Try.prog.info? 93).map (fun i => (i.zero, i.size, i.bytes)) = some (some (.agg #[.int .i64 0, .int .i64 0]), 2, 16) := by kernel_rfl
/-- The arrows, cell by cell. -/
def arF (ar : Nat → Nat × Nat) : Nat → Value := fun j => .int .i64 (if j % 2 = 0 then (ar (j / 2)).1 else (ar (j / 2)).2 : Nat)
def arU (ar : Nat → Nat × Nat) (t : Nat) (p : Nat × Nat) : Nat → Nat × Nat := fun k => if k = t then p else ar k
theorem arF_even (ar : Nat → Nat × Nat) (k : Nat) : arF ar (k * 2) = .int .i64 ((ar k).1 : Nat) := by
  unfold arF
  rw [if_pos (by omega), show k * 2 / 2 = k by omega]
theorem arF_odd (ar : Nat → Nat × Nat) (k : Nat) : arF ar (k * 2 + 1) = .int .i64 ((ar k).2 : Nat) := by
  unfold arF
  rw [if_neg (by omega), show (k * 2 + 1) / 2 = k by omega]
theorem arF_upd (ar : Nat → Nat × Nat) (t : Nat) (p : Nat × Nat) (j : Nat) : upd (upd (arF ar) (t * 2) (.int .i64 (p.1 : Nat))) (t * 2 + 1) (.int .i64 (p.2 : Nat)) j = arF (arU ar t p) j := by
  unfold upd arF arU
  by_cases h1 : j = t * 2 + 1
  · rw [if_pos h1, h1, if_neg (by omega), if_pos (by omega)]
  · rw [if_neg h1]
    by_cases h2 : j = t * 2
    · rw [if_pos h2, h2, if_pos (by omega), if_pos (by omega)]
    · rw [if_neg h2, if_neg (show ¬ j / 2 = t by omega)]
/-- What the arrows tell of the words. -/
def ArOk (W : List (List Nat)) (ar : Nat → Nat × Nat) (L : Nat) : Prop := ∀ k, 0 < k → k < L → W.getD k [] = W.getD (ar k).1 [] ++ [(ar k).2] ∧ (ar k).1 < k ∧ (ar k).2 < 11
theorem ArOk.snoc {W : List (List Nat)} {ar : Nat → Nat × Nat} {L i c : Nat} (h : ArOk W ar L) (hl : W.length = L) (hi : i < L) (hc : c < 11) : ArOk (W ++ [W.getD i [] ++ [c]]) (arU ar L (i, c)) (L + 1) := fun k h0 hk => by
  unfold arU
  by_cases e : k = L
  · rw [if_pos e, e]
    dsimp only
    refine ⟨?_, hi, hc⟩
    rw [getD_app (l := W) (i := i) (by omega), ← hl]
    exact getD_end
  · rw [if_neg e]
    have h1 := h k h0 (by omega)
    refine ⟨?_, h1.2⟩
    rw [getD_app (by omega), getD_app (by omega)]
    exact h1.1
def WordP (B : Aut) (m s : Nat) (w : World) (e : Ending) (w' : World) : Prop := ∃ W : List (List Nat), Srch B m 0 (List.range m) W ∧ e = .returned (.string (ofL (strW (W.getD s [])))) ∧ Below w.heap.size w w'
set_option maxRecDepth 1000000 in
set_option maxHeartbeats 8000000 in
theorem firstWord_any (B : Aut) (hB : Bf B) (l : List (List Nat)) (m : Nat) (hl : l.length = m) (hn : B.n = m) (hd : ∀ i c, i < m → c < 11 → (l.getD i []).getD c 0 = B.d i c) (hm0 : 0 < m) (hm : m ≤ 1000000) (a1 : Option Addr) (c1 : Nat) (v2 : Value) (h2 : ∃ x n y, v2 = .slice x n y) (w : World) (hR : Rd 11 encG w (.slice a1 m c1) l) (s : Nat) (hs : s < m) :
    Calls Try.prog 46 #[.agg #[.slice a1 m c1, v2], .int .i64 (s : Int)] w (WordP B m s w) := by
  obtain ⟨x2, n2, y2, rfl⟩ := h2
  have BA := (Below.refl w.heap.size w).alloc (Nat.le_refl _) (.cells #[.slice a1 m c1, .slice x2 n2 y2] 62)
  have k0 := Blk.new w 62 #[.slice a1 m c1, .slice x2 n2 y2]
  obtain ⟨W0, hW0⟩ : ∃ W0, w.alloc (.cells #[.slice a1 m c1, .slice x2 n2 y2] 62) = W0 := ⟨_, rfl⟩
  rw [hW0] at BA k0
  have HR := Lib.hid (hR.below BA)
  have HBA := Lib.hid BA
  have HW0 := Lib.hid hW0
  obtain ⟨g, hg⟩ : ∃ g, w.heap.size = g := ⟨_, rfl⟩
  have HG := Lib.hid hg
  rw [hg] at k0
  have K0 := Lib.hid k0
  have f0 : W0.cell? ⟨g, 0, none⟩ = some (.slice a1 m c1) := k0.cell 0
  have hmk := make_fn (P := Try.prog) 91 93 _ 2 16 Try.underlying91 Try.infoArr (by omega) (by omega) m hm W0
  have F0 := fn_made W0 93 #[.int .i64 0, .int .i64 0] (m * 2) (by decide)
  have b1 := (Below.refl W0.heap.size W0).alloc (Nat.le_refl _) (.cells (madeCells #[.int .i64 0, .int .i64 0] (m * 2)) 93)
  have F1 := F0.congr (g := arF fun _ => (0, 0)) (fun i hi => by
    unfold arF
    have h2 : i % 2 = 0 ∨ i % 2 = 1 := by omega
    rcases h2 with h2 | h2 <;> simp [h2])
  obtain ⟨AB, hAB⟩ : ∃ AB, W0.heap.size = AB := ⟨_, rfl⟩
  have HAB := Lib.hid hAB
  obtain ⟨W1, hW1⟩ : ∃ W1, W0.alloc (.cells (madeCells #[.int .i64 0, .int .i64 0] (m * 2)) 93) = W1 := ⟨_, rfl⟩
  have hmk2 : (Instr.makeSlice 91 (.int .i64 (m : Int)) (.int .i64 (m : Int))).run Try.prog W0 = .ok (.slice (some ⟨AB, 0, none⟩) m m) W1 := by
    rw [← hW1, ← hAB]
    exact hmk
  rw [hW1] at F1 b1
  rw [hAB] at F1 b1
  have HF1 := Lib.hid F1
  have HB1 := Lib.hid b1
  have HBF := Lib.hid hB
  have HD := Lib.hid hd
  have HN := Lib.hid hn
  have HL := Lib.hid hl
  have gAB : g < AB := by rw [← hAB]; exact k0.lt
  have f1 : W1.cell? ⟨g, 0, none⟩ = some (.slice a1 m c1) := (b1.cell (p := ⟨g, 0, none⟩) gAB).trans f0
  have HSR : Hid (Srch B 0 0 (List.range (lenB B 0)) [[]]) := Lib.hid (by rw [lenB_zero]; exact srch_range B hB)
  have HAO : Hid (ArOk [[]] (fun _ => (0, 0)) (lenB B 0)) := Lib.hid (fun k h0 hk => by rw [lenB_zero] at hk; omega)
  have HL0 := Lib.hid (lenB_zero B)
  clear hR BA k0 hW0 hg hmk F0 b1 F1 hAB hW1 hB hd hn hl
  go_enter Try.func46, Try.ntmps46
  go_upto_region 1 with fail
  rw [HW0.out, HG.out]
  clear HW0
  go_wp2_with fail
  go_loopw [6, 20] (fun v6 v20 wr => ∃ (i : Nat) (W : List (List Nat)) (ar : Nat → Nat × Nat), i ≤ m ∧ v20 = .int .i64 (i : Nat) ∧ v6 = .int .i64 (lenB B i - 1 : Nat) ∧ Srch B i 0 (List.range (lenB B i)) W ∧ ArOk W ar (lenB B i) ∧ Fn AB 93 (m * 2) (arF ar) wr ∧ Below AB W0 wr) (fun _ v20 _ => m - (intOf v20).toNat)
  case atStart => exact ⟨0, [[]], _, Nat.zero_le _, rfl, by rw [HL0.out]; rfl, HSR.out, HAO.out, HF1.out, HB1.out⟩
  case round =>
    rename World => w1
    obtain ⟨i, W, ar, hi, rfl, rfl, hsr, hao, hfn, hb1⟩ := hrel
    have HS1 := Lib.hid hsr
    have HA1 := Lib.hid hao
    have HFN := Lib.hid hfn
    have HB2 := Lib.hid hb1
    have z1 := hb1.size
    clear hsr hao hfn hb1 HSR HAO HF1 HB1
    obtain ⟨L, hL⟩ : ∃ L, lenB B i = L := ⟨_, rfl⟩
    have HLL := Lib.hid hL
    rw [hL] at HS1 HA1 ⊢
    clear hL
    by_cases hlt : i < m
    · have h9 : (i : Int) < (m : Int) := by omega
      have hiL : i < L := by rw [← HLL.out]; exact HBF.out.in_ i (by rw [HN.out]; exact hlt)
      have HRW := Lib.hid (HR.out.below (HAB.out ▸ HB2.out))
      obtain ⟨b, off, rfl, hrow⟩ := HRW.out.row i (by rw [HL.out]; exact hlt)
      obtain ⟨x, hx⟩ : ∃ x, l[i]'(by rw [HL.out]; exact hlt) = x := ⟨_, rfl⟩
      have HX : Hid (∀ c, c < 11 → x.getD c 0 = B.d i c) := Lib.hid (fun c hc => by
        rw [← HD.out i c hlt hc, List.getD_eq_getElem?_getD (l := l), List.getElem?_eq_getElem (by rw [HL.out]; exact hlt), hx]
        rfl)
      rw [hx] at hrow
      have HROW := Lib.hid hrow
      clear hx hrow
      obtain ⟨rb, hrb⟩ : ∃ rb, w1.heap.size = rb := ⟨_, rfl⟩
      have bn := (Below.refl w1.heap.size w1).alloc (Nat.le_refl _) (.cells (encG []).toArray 84)
      have kn := Blk.new w1 84 (encG []).toArray
      have FN2 := HFN.out.below bn
      have B2 := HB2.out.alloc (by have := HAB.out; omega) (.cells (encG []).toArray 84)
      have HZ : Hid (Obj.cells (encG []).toArray 84 = .cells #[.int .i32 0, .int .i32 0, .int .i32 0, .int .i32 0, .int .i32 0, .int .i32 0, .int .i32 0, .int .i32 0, .int .i32 0, .int .i32 0, .int .i32 0] 84) := Lib.hid rfl
      have ABrb : AB < rb := by rw [← hrb]; exact HFN.out.lt
      rw [hrb] at kn
      rw [HZ.out] at kn FN2 B2
      have KN := Lib.hid kn
      have HF2 := Lib.hid FN2
      have HB3 := Lib.hid B2
      have HRB := Lib.hid hrb
      clear bn kn FN2 B2 HZ hrb
      go_upto_region 4 with fail
      refine wp_region_lit ?_
      refine wpList_plain rfl fun K0 hK0 => ?_
      have hSh := Lib.hid hK0
      clear hK0
      go_simp
      refine hSh.out _ _ ?_
      clear hSh K0
      try simp only [Act.put, List.setIfInBounds_toArray, List.set_cons_zero, List.set_cons_succ]
      refine wpList_plain rfl fun K0 hK0 => ?_
      have hSh := Lib.hid hK0
      clear hK0
      go_simp
      refine hSh.out _ _ ?_
      clear hSh K0
      try simp only [Act.put, List.setIfInBounds_toArray, List.set_cons_zero, List.set_cons_succ]
      refine wpList_load_row x b (off + i * 11) _ rfl rfl rfl HROW.out ?_
      try simp only [Act.put, List.setIfInBounds_toArray, List.set_cons_zero, List.set_cons_succ]
      refine wpList_plain rfl fun K0 hK0 => ?_
      have hSh := Lib.hid hK0
      clear hK0
      go_simp
      refine hSh.out _ _ ?_
      clear hSh K0
      try simp only [Act.put, List.setIfInBounds_toArray, List.set_cons_zero, List.set_cons_succ]
      rw [HRB.out]
      refine wpList_plain rfl fun K0 hK0 => ?_
      have hSh := Lib.hid hK0
      clear hK0
      go_simp
      refine hSh.out _ _ ?_
      clear hSh K0
      try simp only [Act.put, List.setIfInBounds_toArray, List.set_cons_zero, List.set_cons_succ]
      refine wpList_store_row x rb _ KN.out (by rw [List.size_toArray, encG_len]) _ _ rfl rfl rfl rfl ?_
      intro w2 k2 g2
      try simp only [Act.put, List.setIfInBounds_toArray, List.set_cons_zero, List.set_cons_succ]
      go_upto_region 5 with fail
      refine wp_region_lit ?_
      refine wpList_load_row x rb 0 _ rfl rfl rfl (fun j v hv => by rw [k2.cell, List.getElem?_toArray, Nat.zero_add]; exact hv) ?_
      try simp only [Act.put, List.setIfInBounds_toArray, List.set_cons_zero, List.set_cons_succ]
      have HF3 := Lib.hid (HF2.out.grown g2 (by intro e; injection e with e; omega))
      have HB4 := Lib.hid (HB3.out.grown g2 (by have := HAB.out; simp; omega) (fun k e => by injection e with e; omega))
      have HL1 := Lib.hid (lenR_zero B i L)
      clear k2 g2 KN
      go_wp2_with fail
      go_loopw [6, 26] (fun v6 v26 wr => ∃ (c : Nat) (W : List (List Nat)) (ar : Nat → Nat × Nat), c ≤ 11 ∧ v26 = .int .i64 (c : Nat) ∧ v6 = .int .i64 (lenR B i L c - 1 : Nat) ∧ Srch B i c (List.range (lenR B i L c)) W ∧ ArOk W ar (lenR B i L c) ∧ Fn AB 93 (m * 2) (arF ar) wr ∧ Below AB W0 wr) (fun _ v26 _ => 11 - (intOf v26).toNat)
      case atStart => exact ⟨0, W, ar, by omega, rfl, by rw [HL1.out], by rw [HL1.out]; exact HS1.out, by rw [HL1.out]; exact HA1.out, HF3.out, HB4.out⟩
      case round =>
        rename World => wz
        obtain ⟨c, W, ar, hc, rfl, rfl, hsr, hao, hfn, hb1⟩ := hrel
        have HS2 := Lib.hid hsr
        have HA2 := Lib.hid hao
        have HFZ := Lib.hid hfn
        have HBZ := Lib.hid hb1
        have hLc : L ≤ lenR B i L c := lenR_ge B i L c
        have hcm : lenR B i L c ≤ m := by
          have := HBF.out.lenR_le_n (i := i) (c := c) (by rw [HN.out]; exact hlt) hc
          rw [HLL.out, HN.out] at this
          exact this
        clear hsr hao hfn hb1 HS1 HA1 HF3 HB4 HF2 HB3 HFN HB2
        by_cases hct : c < 11
        · have h9c : (c : Int) < 11 := by omega
          have hix := index_row x hct wz
          have hxc := HX.out c hct
          have hle := HBF.out.le i c (by rw [HN.out]; exact hlt) hct
          rw [HLL.out] at hle
          have HLS := Lib.hid (lenR_succ B i L c)
          obtain ⟨T, hT⟩ : ∃ T, B.d i c = T := ⟨_, rfl⟩
          have HT := Lib.hid hT
          rw [hT] at hxc hle HLS
          obtain ⟨Lc, hLce⟩ : ∃ Lc, lenR B i L c = Lc := ⟨_, rfl⟩
          rw [hLce] at HS2 HA2 hLc hcm hle HLS ⊢
          rw [hxc] at hix
          have d1 : IntKind.i64.wrap (T : Int) = (T : Int) := by rw [IntKind.wrap_i64]; omega
          obtain ⟨P, hP⟩ : ∃ P, Lc - 1 = P := ⟨_, rfl⟩
          have hPL : P + 1 = Lc := by omega
          have HPL := Lib.hid hPL
          rw [hP]
          clear hT hLce hxc hP
          by_cases hTl : T < Lc
          · have q1 : ¬ (P : Int) < (T : Int) := by omega
            clear hPL
            have HL2 : Hid (lenR B i L (c + 1) = Lc) := Lib.hid (by rw [HLS.out]; omega)
            have HS3 := Lib.hid (HS2.out.oldB (by omega) (by rw [HT.out]; exact hTl))
            clear HLS
            go_wp2_with fail
            go_roundw
            case measure => simp [intOf] <;> omega
            case rel => exact ⟨c + 1, W, ar, by omega, by go_num, by rw [HL2.out, ← HPL.out]; rfl, by rw [HL2.out]; exact HS3.out, by rw [HL2.out]; exact HA2.out, HFZ.out, HBZ.out⟩
          · obtain rfl : T = Lc := by omega
            have q1 : (P : Int) < (T : Int) := by omega
            clear hPL
            have HL2 : Hid (lenR B i L (c + 1) = T + 1) := Lib.hid (by rw [HLS.out]; omega)
            have hTm : T < m := by
              have := HBF.out.lenR_le_n (i := i) (c := c + 1) (by rw [HN.out]; exact hlt) (by omega)
              rw [HLL.out, HL2.out, HN.out] at this
              omega
            have hTm' : (T : Int) < (m : Int) := by omega
            have HS3 := Lib.hid (HS2.out.newB (by omega) hct (HT.out))
            have HA3 := Lib.hid (HA2.out.snoc (i := i) (c := c) (by rw [HS2.out.len, List.length_range]) (by omega) hct)
            have e0 := HFZ.out.cell (i := T * 2) (by omega)
            have e1 := HFZ.out.cell (i := T * 2 + 1) (by omega)
            rw [arF_even] at e0
            rw [arF_odd] at e1
            have ef := HFZ.out.frozen
            clear HLS
            go_wp2_with fail
            go_roundw
            case measure => simp [intOf] <;> omega
            case rel => exact ⟨c + 1, _, arU ar T (i, c), by omega, by go_num, by rw [HL2.out]; rfl, by rw [HL2.out]; exact HS3.out, by rw [HL2.out]; exact HA3.out, ((HFZ.out.put (i := T * 2) (by omega) _).put (i := T * 2 + 1) (by omega) _).congr (fun j hj => arF_upd ar T (i, c) j), (HBZ.out.setCell (p := ⟨AB, T * 2, none⟩) (Nat.le_refl _) _).setCell (p := ⟨AB, T * 2 + 1, none⟩) (Nat.le_refl _) _⟩
        · have hc11 : c = 11 := by omega
          subst hc11
          have h9c : ¬ (11 : Int) < 11 := by omega
          have HLB : Hid (lenR B i L 11 = lenB B (i + 1)) := Lib.hid (by rw [lenB_succ, HLL.out])
          have HLG : i < lenR B i L 11 := by omega
          have HS3 := Lib.hid (HS2.out.next (by rw [List.length_range]; exact HLG))
          go_wp2_with fail
          go_roundw
          case measure => simp [intOf] <;> omega
          case rel => exact ⟨i + 1, W, ar, by omega, by go_num, by rw [← HLB.out], by rw [← HLB.out]; exact HS3.out, by rw [← HLB.out]; exact HA2.out, HFZ.out, HBZ.out⟩
    · have him : i = m := by omega
      have h9 : ¬ (i : Int) < (m : Int) := by omega
      have HLm : Hid (L = m) := Lib.hid (by rw [← HLL.out, him]; have := HBF.out.all; rw [HN.out] at this; exact this)
      have HS2 : Hid (Srch B m 0 (List.range m) W) := Lib.hid (by have := HS1.out; rw [HLm.out, him] at this; exact this)
      have HA2 : Hid (ArOk W ar m) := Lib.hid (by have := HA1.out; rw [HLm.out] at this; exact this)
      clear HS1 HA1 him
      go_wp2_with fail
      go_loopw [1, 11] (fun v1 v11 wr => ∃ (q : Nat) (suf : List Nat), q < m ∧ suf.length + q ≤ m ∧ v1 = .int .i64 (q : Nat) ∧ v11 = .string (ofL (strW suf)) ∧ W.getD s [] = W.getD q [] ++ suf ∧ wr = w1) (fun v1 _ _ => (intOf v1).toNat)
      case atStart => exact ⟨s, [], hs, by simp; omega, rfl, rfl, by simp, rfl⟩
      case round =>
        obtain ⟨q, suf, hqm, hsl, rfl, rfl, hwq, hw⟩ := hrel
        obtain rfl := hw.symm
        have HWQ := Lib.hid hwq
        have HSL := Lib.hid hsl
        clear hwq hsl
        by_cases hq0 : 0 < q
        · have t0 : (0 : Int) < (q : Int) := by omega
          have hqm' : (q : Int) < (m : Int) := by omega
          have HAQ := Lib.hid (HA2.out q hq0 hqm)
          have e0 := HFN.out.cell (i := q * 2) (by omega)
          have e1 := HFN.out.cell (i := q * 2 + 1) (by omega)
          rw [arF_even] at e0
          rw [arF_odd] at e1
          obtain ⟨p, hp⟩ : ∃ p, (ar q).1 = p := ⟨_, rfl⟩
          obtain ⟨y, hy⟩ : ∃ y, (ar q).2 = y := ⟨_, rfl⟩
          rw [hp] at e0 HAQ
          rw [hy] at e1 HAQ
          have hy11 : y < 11 := HAQ.out.2.2
          have hpq : p < q := HAQ.out.2.1
          have hcut := chr_cut ⟨y, hy11⟩
          dsimp only at hcut
          have hadd : ∀ wx, (Op.stringOp .add (ofL [chrN y]) (ofL (strW suf))).run Try.prog wx = .ok (.string (ofL (strW (y :: suf)))) wx := fun wx => str_addS (by unfold strW; rw [List.length_map, List.length_singleton]; have := HSL.out; omega) rfl wx
          have hy' : (y : Int) < 11 := by omega
          have hyw : IntKind.i64.wrap ((y : Int) + 1) = (y : Int) + 1 := by rw [IntKind.wrap_i64]; omega
          have hy1 : (y : Int) + 1 ≤ 11 := by omega
          clear hp hy
          go_wp2_with fail
          go_roundw
          case measure => simp [intOf]; omega
          case rel => exact ⟨p, y :: suf, by omega, by rw [List.length_cons]; have := HSL.out; omega, by go_num, rfl, by rw [HWQ.out, HAQ.out.1, List.append_assoc]; rfl, (by first | rfl | trivial)⟩
        · obtain rfl : q = 0 := by omega
          have HV : Hid (suf = W.getD s []) := Lib.hid (by rw [HWQ.out, HS2.out.zero]; rfl)
          have HFIN : Hid (WordP B m s w (.returned (.string (ofL (strW suf)))) w1) := Lib.hid ⟨W, HS2.out, by rw [← HV.out], HBA.out.trans (HB2.out.mono (by have := HBA.out.size; have := HAB.out; omega))⟩
          have t0 : ¬ (0 : Int) < ((0 : Nat) : Int) := by omega
          go_wp2_with fail
          go_ret
          exact HFIN.out
end Go.Proofs.Ytiljagfjgefnnaa
