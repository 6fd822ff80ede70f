/- Of the program: withDigits. -/
import Derived.Test.YteofkofgdhmpjaaDoorKf
import Derived.BigRegion
namespace Go.Proofs.YteofkofgdhmpjaaDoor
open Go.RowKit
set_option linter.unusedVariables false

/-- A value that reads as a number. -/
def RdN (w : World) (u : Value) (x : Num) : Prop := ∃ a1 c1 a2 c2, u = .agg #[.bool x.neg, .slice a1 x.wh.length c1, .slice a2 x.fr.length c2] ∧ RdB w (.slice a1 x.wh.length c1) x.wh ∧ RdB w (.slice a2 x.fr.length c2) x.fr
theorem RdN.below {w w' : World} {u : Value} {x : Num} (h : RdN w u x) (hb : Below w.heap.size w w') : RdN w' u x := by
  obtain ⟨a1, c1, a2, c2, h0, h1, h2⟩ := h
  exact ⟨a1, c1, a2, c2, h0, h1.below hb, h2.below hb⟩
theorem lead_step {l : Str} {p k : Nat} (hp : p ≤ l.length) (h : k + 1 < p) (h0 : l[k]'(by omega) = 48) : lead ((l.take p).drop k) = lead ((l.take p).drop (k + 1)) := by
  have h1 : k < (l.take p).length := by rw [List.length_take]; omega
  have h2 : k + 1 < (l.take p).length := by rw [List.length_take]; omega
  rw [List.drop_eq_getElem_cons h1, List.drop_eq_getElem_cons h2]
  have e : (l.take p)[k] = 48 := by rw [List.getElem_take]; exact h0
  rw [e, lead, if_pos (by rfl)]
theorem lead_stop {l : Str} {p k : Nat} (hp : p ≤ l.length) (h : p ≤ k + 1 ∨ ∃ h : k < l.length, l[k] ≠ 48) : lead ((l.take p).drop k) = (l.take p).drop k := by
  apply lead_of_slim
  intro hl
  rw [List.length_drop, List.length_take] at hl
  rcases h with h | ⟨h, h0⟩
  · omega
  · rw [List.drop_eq_getElem_cons (by rw [List.length_take]; omega)]
    rw [List.getElem_take]
    simp
    exact h0
/-- The number with digits l, p of them in front of the point. -/
def dgN (b : Bool) (l : Str) (p : Nat) : Num := ⟨b && !zero (lead (l.take p) ++ l.drop p), lead (l.take p), l.drop p⟩
def put3 (W : World) (B : Nat) (a b c : Value) : World := ((W.setCell ⟨B, 0, none⟩ a).setCell ⟨B, 1, none⟩ b).setCell ⟨B, 2, none⟩ c
theorem put3_ok {W : World} {B n : Nat} {t : TypeId} {a b c a' b' c' : Value} (h : Blk B t #[a, b, c] W) (hn : n ≤ B) : Blk B t #[a', b', c'] (put3 W B a' b' c') ∧ Below n W (put3 W B a' b' c') := by
  refine ⟨?_, (((Below.refl n W).setCell hn a').setCell hn b').setCell hn c'⟩
  exact ((h.put 0 a').put 1 b').put 2 c'
theorem Blk.drew {B : Nat} {t : TypeId} {cs : Array Value} {W : World} (h : Blk B t cs W) : Blk B t cs W.drew := h
theorem Blk.drewN {B : Nat} {t : TypeId} {cs : Array Value} {W : World} (h : Blk B t cs W) (n : Nat) : Blk B t cs (W.drewN n) := h.below (below_drewN (Below.refl _ _) n)
theorem res43 {W : World} {tm : Array Value} {B : Nat} {t : TypeId} {a b c : Value} (t4 : tm[6]?.getD undef = .pointer (some ⟨B, 0, none⟩)) (h : Blk B t #[a, b, c] W) :
    (results Tryd.f48 tm).run Tryd.prog W = .ok (.agg #[a, b, c]) W := by
  have a0 : W.cell? ⟨B, 0, none⟩ = some a := h.cell 0
  have a1 : W.cell? ⟨B, 1, none⟩ = some b := h.cell 1
  have a2 : W.cell? ⟨B, 2, none⟩ = some c := h.cell 2
  simp [results, Tryd.f48, go_sem, t4, a0, a1, a2]
set_option maxRecDepth 1000000 in
set_option maxHeartbeats 4000000 in
theorem withDigits_any (b : Bool) (a1 : Option Addr) (n1 c1 : Nat) (a2 : Option Addr) (n2 c2 : Nat) (v : Value) (l : Str) (p : Nat) (w : World) (hv : RdB w v l) (hl : l.length ≤ 1000) (hp : 1 ≤ p) (hp2 : p ≤ l.length) :
    Calls Tryd.prog 48 #[.agg #[.bool b, .slice a1 n1 c1, .slice a2 n2 c2], v, .int .i64 (p : Int)] w fun e w' => ∃ u, e = .returned u ∧ RdN w' u (dgN b l p) ∧ Below w.heap.size w w' := by
  obtain ⟨iB, hiB, hzB, hkB, hbB⟩ := info_parts Tryd.infoB
  obtain ⟨a, c, rfl, hc1, hc2⟩ := hv.slice
  have HB := Lib.hid (((Below.refl w.heap.size w).alloc (Nat.le_refl _) (.cells #[.bool b, .slice a1 n1 c1, .slice a2 n2 c2] 54)).alloc (by simp) (.cells #[.bool false, .slice none 0 0, .slice none 0 0] 54))
  have HV := Lib.hid (hv.below HB.out)
  have HV0 := Lib.hid hv
  have K1 := Lib.hid ((Blk.new w 54 #[.bool b, .slice a1 n1 c1, .slice a2 n2 c2]).alloc (.cells #[.bool false, .slice none 0 0, .slice none 0 0] 54))
  have K2 := Lib.hid (Blk.new (w.alloc (.cells #[.bool b, .slice a1 n1 c1, .slice a2 n2 c2] 54)) 54 #[.bool false, .slice none 0 0, .slice none 0 0])
  clear hv
  go_enter Tryd.func48, Tryd.ntmps48
  go_upto_region 1 with fail
  obtain ⟨W0, hW0⟩ : ∃ W0, (w.alloc (.cells #[.bool b, .slice a1 n1 c1, .slice a2 n2 c2] 54)).alloc (.cells #[.bool false, .slice none 0 0, .slice none 0 0] 54) = W0 := ⟨_, rfl⟩
  rw [hW0] at HV K1 K2 HB ⊢
  rw [World.size_alloc] at K2
  obtain ⟨B0, hB0⟩ : ∃ B0, w.heap.size = B0 := ⟨_, rfl⟩
  have HB0 := Lib.hid hB0
  rw [hB0] at K1 K2 ⊢
  have HW0 := Lib.hid hW0
  clear hW0 hB0
  go_wp2
  go_loop [7] (fun v7 => ∃ k : Nat, k + 1 ≤ p ∧ v7 = .int .i64 k ∧ lead (l.take p) = lead ((l.take p).drop k)) (fun v7 => p - (intOf v7).toNat)
  case atStart => exact ⟨0, hp, rfl, rfl⟩
  case round =>
    obtain ⟨k, hk, rfl, hld⟩ := hrel
    have HL := Lib.hid hld
    clear hld
    have HX : (p ≤ k + 1 ∨ ∃ h : k < l.length, l[k] ≠ 48) → Hid ((l.take p).drop k = lead (l.take p)) := fun h => Lib.hid (by rw [HL.out, lead_stop hp2 h])
    by_cases h1 : k + 1 < p
    · have q1 : (k : Int) < (p : Int) - 1 := by omega
      obtain ⟨bb, off, rfl, hx⟩ := HV.out.byte k (by omega)
      have hy := u8_eq48 (l[k]'(by omega))
      obtain ⟨x, hxx⟩ : ∃ x : Int, ((l[k]'(by omega)).toNat : Int) = x := ⟨_, rfl⟩
      rw [hxx] at hx hy
      clear hxx
      by_cases h0 : x = 48
      · have HT2 := Lib.hid (lead_step hp2 h1 (hy.2 h0))
        subst h0
        clear hy HX
        go_wp2
        go_round
        case rel => exact ⟨k + 1, by omega, by go_num, by rw [← HT2.out, HL.out]⟩
        case measure => simp [intOf]; omega
      · have HS := HX (.inr ⟨by omega, fun e => h0 (hy.1 e)⟩)
        have t1 : (x == 48) = false := by rw [beq_eq_false_iff_ne]; exact h0
        clear h0 hy HX
        obtain ⟨a3, c3, r3, _, m1, m2⟩ := HV0.out.mid_ Tryd.underlying52 hiB hkB k p (by omega) hp2
        obtain ⟨a4, c4, r4, _, m3, m4⟩ := HV0.out.tail_ Tryd.underlying52 hiB hkB p hp2
        have k0 : W0.cell? ⟨B0, 0, none⟩ = some (.bool b) := K1.out.cell 0
        have k00 : (W0.alloc (.cells #[.bool false, .slice none 0 0, .slice none 0 0] 54)).cell? ⟨B0, 0, none⟩ = some (.bool b) := (K1.out.alloc _).cell 0
        have HR3 := Lib.hid r3
        have HR4 := Lib.hid r4
        have hE : Hid ((l.take p).drop k = lead (l.take p)) := HS
        clear r3 r4
        go_wp2_with fail
        go_region
        go_wp2_with fail
        have HB1 := Lib.hid ((HB.out.alloc HB.out.size (.cells #[.bool b, .slice a3 (p - k) c3, .slice a4 (l.length - p) c4] 54)).drew)
        have HB0' := HB0.out
        have KC := Lib.hid ((Blk.new W0 54 #[.bool b, .slice a3 (p - k) c3, .slice a4 (l.length - p) c4]).drew)
        have KD := Lib.hid ((K2.out.alloc (.cells #[.bool b, .slice a3 (p - k) c3, .slice a4 (l.length - p) c4] 54)).drew)
        obtain ⟨W1, hW1⟩ : ∃ W1, (W0.alloc (.cells #[.bool b, .slice a3 (p - k) c3, .slice a4 (l.length - p) c4] 54)).drew = W1 := ⟨_, rfl⟩
        obtain ⟨C, hC⟩ : ∃ C, W0.heap.size = C := ⟨_, rfl⟩
        have hC1 : B0 + 1 < C := by rw [← hC]; exact K2.out.lt
        rw [hW1] at HB1 KC KD ⊢
        rw [hC] at KC ⊢
        have HW1 := Lib.hid (And.intro hW1 hC)
        clear hW1 hC k00 k0
        have S3 := Lib.hid (HR3.out.below HB1.out)
        have S4 := Lib.hid (HR4.out.below HB1.out)
        refine (isZero_any b a3 (p - k) c3 ((l.take p).drop k) a4 (l.length - p) c4 (l.drop p) _ S3.out S4.out (by rw [List.length_drop, List.length_take]; omega) (by rw [List.length_drop]; omega)).mono ?_
        rintro e w2 ⟨rfl, b2⟩
        have KC2 := Lib.hid (KC.out.below b2)
        have KD2 := Lib.hid (KD.out.below b2)
        have HB2 := Lib.hid (st HB1.out b2 HB1.out.size)
        clear b2 S3 S4 HB1 KC KD
        have x0 : w2.cell? ⟨C, 0, none⟩ = some (.bool b) := KC2.out.cell 0
        have x1 : w2.cell? ⟨C, 1, none⟩ = some (.slice a3 (p - k) c3) := KC2.out.cell 1
        have x2 : w2.cell? ⟨C, 2, none⟩ = some (.slice a4 (l.length - p) c4) := KC2.out.cell 2
        have xf := KC2.out.frozen
        have y0 : w2.cell? ⟨B0 + 1, 0, none⟩ = some (.bool false) := KD2.out.cell 0
        have y1 : w2.cell? ⟨B0 + 1, 1, none⟩ = some (.slice none 0 0) := KD2.out.cell 1
        have y2 : w2.cell? ⟨B0 + 1, 2, none⟩ = some (.slice none 0 0) := KD2.out.cell 2
        have yf := KD2.out.frozen
        have hfin : ∀ (w3 : World) (nb : Bool), nb = (b && !zero ((l.take p).drop k ++ l.drop p)) → Below w.heap.size w w3 → RdN w3 (.agg #[.bool nb, .slice a3 (p - k) c3, .slice a4 (l.length - p) c4]) (dgN b l p) := fun w3 nb hn hb => by
          have el : (lead (l.take p)).length = p - k := by rw [← hE.out, List.length_drop, List.length_take]; omega
          refine ⟨a3, c3, a4, c4, ?_, ?_, ?_⟩
          · unfold dgN; dsimp only; rw [el, List.length_drop, hn, hE.out]
          · unfold dgN; dsimp only; rw [el, ← hE.out]; exact HR3.out.below hb
          · unfold dgN; dsimp only; rw [List.length_drop]; exact HR4.out.below hb
        have HF := Lib.hid hfin
        clear hfin HR3 HR4
        cases hz : zero ((l.take p).drop k ++ l.drop p) with
        | true =>
          have HZ := Lib.hid hz
          clear hz
          go_wp2
          obtain ⟨p1, p2⟩ := put3_ok (n := w.heap.size) (a' := .bool false) (b' := .slice a3 (p - k) c3) (c' := .slice a4 (l.length - p) c4) (KD2.out.far (p := ⟨C, 0, none⟩) (by show B0 + 1 ≠ C; omega) (.bool false)) (by omega)
          have hbel := (HB2.out.setCell (p := ⟨C, 0, none⟩) (by show w.heap.size ≤ C; omega) (.bool false)).trans p2
          exact bodyPost_ret (v := .agg #[.bool false, .slice a3 (p - k) c3, .slice a4 (l.length - p) c4]) (res43 rfl p1) rfl ⟨_, rfl, HF.out _ false (by rw [HZ.out]; simp) hbel, hbel⟩
        | false =>
          have HZ := Lib.hid hz
          clear hz
          go_wp2
          obtain ⟨p1, p2⟩ := put3_ok (n := w.heap.size) (a' := .bool b) (b' := .slice a3 (p - k) c3) (c' := .slice a4 (l.length - p) c4) KD2.out (by omega)
          have hbel := HB2.out.trans p2
          exact bodyPost_ret (v := .agg #[.bool b, .slice a3 (p - k) c3, .slice a4 (l.length - p) c4]) (res43 rfl p1) rfl ⟨_, rfl, HF.out _ b (by rw [HZ.out]; simp) hbel, hbel⟩
    · have q1 : ¬ (k : Int) < (p : Int) - 1 := by omega
      have HS := HX (.inl (by omega))
      clear HX
      obtain ⟨a3, c3, r3, _, m1, m2⟩ := HV0.out.mid_ Tryd.underlying52 hiB hkB k p (by omega) hp2
      obtain ⟨a4, c4, r4, _, m3, m4⟩ := HV0.out.tail_ Tryd.underlying52 hiB hkB p hp2
      have k0 : W0.cell? ⟨B0, 0, none⟩ = some (.bool b) := K1.out.cell 0
      have k00 : (W0.alloc (.cells #[.bool false, .slice none 0 0, .slice none 0 0] 54)).cell? ⟨B0, 0, none⟩ = some (.bool b) := (K1.out.alloc _).cell 0
      have HR3 := Lib.hid r3
      have HR4 := Lib.hid r4
      have hE : Hid ((l.take p).drop k = lead (l.take p)) := HS
      clear r3 r4
      go_wp2_with fail
      go_region
      go_wp2_with fail
      have HB1 := Lib.hid ((HB.out.alloc HB.out.size (.cells #[.bool b, .slice a3 (p - k) c3, .slice a4 (l.length - p) c4] 54)).drew)
      have HB0' := HB0.out
      have KC := Lib.hid ((Blk.new W0 54 #[.bool b, .slice a3 (p - k) c3, .slice a4 (l.length - p) c4]).drew)
      have KD := Lib.hid ((K2.out.alloc (.cells #[.bool b, .slice a3 (p - k) c3, .slice a4 (l.length - p) c4] 54)).drew)
      obtain ⟨W1, hW1⟩ : ∃ W1, (W0.alloc (.cells #[.bool b, .slice a3 (p - k) c3, .slice a4 (l.length - p) c4] 54)).drew = W1 := ⟨_, rfl⟩
      obtain ⟨C, hC⟩ : ∃ C, W0.heap.size = C := ⟨_, rfl⟩
      have hC1 : B0 + 1 < C := by rw [← hC]; exact K2.out.lt
      rw [hW1] at HB1 KC KD ⊢
      rw [hC] at KC ⊢
      have HW1 := Lib.hid (And.intro hW1 hC)
      clear hW1 hC k00 k0
      have S3 := Lib.hid (HR3.out.below HB1.out)
      have S4 := Lib.hid (HR4.out.below HB1.out)
      refine (isZero_any b a3 (p - k) c3 ((l.take p).drop k) a4 (l.length - p) c4 (l.drop p) _ S3.out S4.out (by rw [List.length_drop, List.length_take]; omega) (by rw [List.length_drop]; omega)).mono ?_
      rintro e w2 ⟨rfl, b2⟩
      have KC2 := Lib.hid (KC.out.below b2)
      have KD2 := Lib.hid (KD.out.below b2)
      have HB2 := Lib.hid (st HB1.out b2 HB1.out.size)
      clear b2 S3 S4 HB1 KC KD
      have x0 : w2.cell? ⟨C, 0, none⟩ = some (.bool b) := KC2.out.cell 0
      have x1 : w2.cell? ⟨C, 1, none⟩ = some (.slice a3 (p - k) c3) := KC2.out.cell 1
      have x2 : w2.cell? ⟨C, 2, none⟩ = some (.slice a4 (l.length - p) c4) := KC2.out.cell 2
      have xf := KC2.out.frozen
      have y0 : w2.cell? ⟨B0 + 1, 0, none⟩ = some (.bool false) := KD2.out.cell 0
      have y1 : w2.cell? ⟨B0 + 1, 1, none⟩ = some (.slice none 0 0) := KD2.out.cell 1
      have y2 : w2.cell? ⟨B0 + 1, 2, none⟩ = some (.slice none 0 0) := KD2.out.cell 2
      have yf := KD2.out.frozen
      have hfin : ∀ (w3 : World) (nb : Bool), nb = (b && !zero ((l.take p).drop k ++ l.drop p)) → Below w.heap.size w w3 → RdN w3 (.agg #[.bool nb, .slice a3 (p - k) c3, .slice a4 (l.length - p) c4]) (dgN b l p) := fun w3 nb hn hb => by
        have el : (lead (l.take p)).length = p - k := by rw [← hE.out, List.length_drop, List.length_take]; omega
        refine ⟨a3, c3, a4, c4, ?_, ?_, ?_⟩
        · unfold dgN; dsimp only; rw [el, List.length_drop, hn, hE.out]
        · unfold dgN; dsimp only; rw [el, ← hE.out]; exact HR3.out.below hb
        · unfold dgN; dsimp only; rw [List.length_drop]; exact HR4.out.below hb
      have HF := Lib.hid hfin
      clear hfin HR3 HR4
      cases hz : zero ((l.take p).drop k ++ l.drop p) with
      | true =>
        have HZ := Lib.hid hz
        clear hz
        go_wp2
        obtain ⟨p1, p2⟩ := put3_ok (n := w.heap.size) (a' := .bool false) (b' := .slice a3 (p - k) c3) (c' := .slice a4 (l.length - p) c4) (KD2.out.far (p := ⟨C, 0, none⟩) (by show B0 + 1 ≠ C; omega) (.bool false)) (by omega)
        have hbel := (HB2.out.setCell (p := ⟨C, 0, none⟩) (by show w.heap.size ≤ C; omega) (.bool false)).trans p2
        exact bodyPost_ret (v := .agg #[.bool false, .slice a3 (p - k) c3, .slice a4 (l.length - p) c4]) (res43 rfl p1) rfl ⟨_, rfl, HF.out _ false (by rw [HZ.out]; simp) hbel, hbel⟩
      | false =>
        have HZ := Lib.hid hz
        clear hz
        go_wp2
        obtain ⟨p1, p2⟩ := put3_ok (n := w.heap.size) (a' := .bool b) (b' := .slice a3 (p - k) c3) (c' := .slice a4 (l.length - p) c4) KD2.out (by omega)
        have hbel := HB2.out.trans p2
        exact bodyPost_ret (v := .agg #[.bool b, .slice a3 (p - k) c3, .slice a4 (l.length - p) c4]) (res43 rfl p1) rfl ⟨_, rfl, HF.out _ b (by rw [HZ.out]; simp) hbel, hbel⟩
end Go.Proofs.YteofkofgdhmpjaaDoor
