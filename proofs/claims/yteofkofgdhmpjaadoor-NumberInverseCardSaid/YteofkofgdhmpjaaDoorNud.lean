/- Of the reference of layer 15: Group. -/
import Derived.Test.YteofkofgdhmpjaaDoorNuc
namespace Go.Proofs.YteofkofgdhmpjaaDoor
open Go.RowKit
set_option linter.unusedVariables false

theorem cutY_from (d : Str) {a : Nat} (h : a ≤ d.length) {B : Int} (hB : B = (a : Int)) (wx : World) : (Instr.slice 9 (.string (ofL d)) (some (.int .i64 B)) none none).run Tryd.prog wx = .ok (.string (ofL (d.drop a))) wx := by
  subst hB
  have e := run_slice_string_from_if (P := Tryd.prog) (w := wx) 9 (ofL d) .i64 (a : Int) Tryd.underlying9
  rw [e, if_pos ⟨by omega, by rw [ofL_size]; omega⟩, Int.toNat_natCast, ext_ofL, ofL_size, List.take_of_length_le (by rw [List.length_drop]; omega)]
theorem cutY_mid (d : Str) {a b : Nat} (h : a ≤ b) (h2 : b ≤ d.length) {A B : Int} (hA : A = (a : Int)) (hB : B = (b : Int)) (wx : World) : (Instr.slice 9 (.string (ofL d)) (some (.int .i64 A)) (some (.int .i64 B)) none).run Tryd.prog wx = .ok (.string (ofL ((d.drop a).take (b - a)))) wx := by
  subst hA hB
  have e := run_slice_string (P := Tryd.prog) (w := wx) 9 (ofL d) .i64 .i64 (a : Int) (b : Int) Tryd.underlying9 (by omega) (by omega) (by rw [ofL_size]; omega)
  rw [Int.toNat_natCast, Int.toNat_natCast, ext_ofL] at e
  exact e
theorem cutY_to (d : Str) {a : Nat} (h : a ≤ d.length) {B : Int} (hB : B = (a : Int)) (wx : World) : (Instr.slice 9 (.string (ofL d)) none (some (.int .i64 B)) none).run Tryd.prog wx = .ok (.string (ofL (d.take a))) wx := by
  subst hB
  have e := run_slice_string_to_if (P := Tryd.prog) (w := wx) 9 (ofL d) .i64 (a : Int) Tryd.underlying9
  rw [e, if_pos ⟨by omega, by rw [ofL_size]; omega⟩, Int.toNat_natCast, ext_ofL, List.drop_zero, Nat.sub_zero]
theorem grp_small {x : SyN} {d : Str} (h : x.pr < 1 ∨ (d.length : Int) ≤ x.pr) : grpR x d = d := by unfold grpR; rw [if_pos h]
theorem grp_big {x : SyN} {d : Str} {k : Nat} (h : ¬ (x.pr < 1 ∨ (d.length : Int) ≤ x.pr)) (hk : (k : Int) = d.length - x.pr) : grpR x d = frG x.gr (sizG x) d k ++ (x.gr ++ d.drop k) := by
  unfold grpR
  rw [if_neg h, show d.length - x.pr.toNat = k by omega]
set_option maxRecDepth 1000000 in
set_option maxHeartbeats 4000000 in
theorem group15_any (x : SyN) (d : Str) (hd : d.length ≤ 1000) (hg : x.gr.length ≤ 1000) (hp1 : -9223372036854775808 ≤ x.pr) (hp2 : x.pr ≤ 9223372036854775807) (hs1 : -9223372036854775808 ≤ x.se) (hs2 : x.se ≤ 9223372036854775807) (w : World) : Calls Tryd.prog 31 #[.agg #[.string (ofL x.de), .string (ofL x.gr), .string (ofL x.mi), .string (ofL x.pe), .int .i64 x.pr, .int .i64 x.se], .string (ofL d)] w fun e w' => e = .returned (.string (ofL (grpR x d))) ∧ Below w.heap.size w w' := by
  have HS := Lib.hid (@grp_small x d)
  have HB := Lib.hid (fun k h => @grp_big x d k h)
  have HGL : Hid ((grpR x d).length ≤ 2000000) := Lib.hid (by
    have := grp_len x d
    have : (x.gr.length + 1) * d.length ≤ 1001 * 1000 := Nat.mul_le_mul (by omega) hd
    omega)
  obtain ⟨G, hG⟩ : ∃ G, grpR x d = G := ⟨_, rfl⟩
  rw [hG] at HS HB HGL ⊢
  clear hG
  have HZ : Hid (∀ z, (if x.se < 1 then x.pr else x.se) = z → ¬ x.pr < 1 → (z = ((sizG x : Nat) : Int)) ∧ 0 < sizG x) := Lib.hid (fun z hz h => ⟨by rw [← hz]; unfold sizG; split <;> omega, sizG_pos h⟩)
  obtain ⟨S, hS⟩ : ∃ S, sizG x = S := ⟨_, rfl⟩
  rw [hS] at HZ HB
  clear hS
  obtain ⟨g, hgr⟩ : ∃ g, x.gr = g := ⟨_, rfl⟩
  rw [hgr] at hg HB ⊢
  clear hgr
  obtain ⟨A, hA⟩ : ∃ A, ofL x.de = A := ⟨_, rfl⟩
  obtain ⟨C, hC⟩ : ∃ C, ofL x.mi = C := ⟨_, rfl⟩
  obtain ⟨D, hD⟩ : ∃ D, ofL x.pe = D := ⟨_, rfl⟩
  obtain ⟨p, hp⟩ : ∃ p, x.pr = p := ⟨_, rfl⟩
  obtain ⟨q, hq⟩ : ∃ q, x.se = q := ⟨_, rfl⟩
  rw [hp] at HS HB HZ hp1 hp2
  rw [hq] at HZ hs1 hs2
  rw [hA, hC, hD, hp, hq]
  clear hA hC hD hp hq
  have HCU := Lib.hid (fun (a : Nat) (h : a ≤ d.length) (B : Int) (hB : B = (a : Int)) => cutY_from d h hB)
  have HCT := Lib.hid (fun (a : Nat) (h : a ≤ d.length) (B : Int) (hB : B = (a : Int)) => cutY_to d h hB)
  have HCM := Lib.hid (fun (a b : Nat) (h : a ≤ b) (h2 : b ≤ d.length) (A B : Int) (hA : A = (a : Int)) (hB : B = (b : Int)) => cutY_mid d h h2 hA hB)
  obtain ⟨n, en⟩ : ∃ n, d.length = n := ⟨_, rfl⟩
  have HT : Hid (ofL d = ofL d) := Lib.hid rfl
  obtain ⟨T, hT⟩ : ∃ T, ofL d = T := ⟨_, rfl⟩
  have hTn : T.size = n := by rw [← hT, ofL_size, en]
  have HTT := Lib.hid hT
  have HW := Lib.hid ((Below.refl w.heap.size w).alloc (Nat.le_refl _) (.cells #[.string A, .string (ofL g), .string C, .string D, .int .i64 p, .int .i64 q] 23))
  rw [en] at hd HS HCU HCT HCM
  rw [hT] at HCU HCT HCM ⊢
  have HEN := Lib.hid en
  clear hT en HT
  by_cases h1 : p < 1
  · have k1 : decide (p < 1) = true := decide_eq_true h1
    have HR := Lib.hid (HS.out (.inl h1))
    clear h1
    go_enter Tryd.func31, Tryd.ntmps31
    go_wp2
    go_ret
    exact ⟨by rw [HR.out, HTT.out]; rfl, HW.out⟩
  have k1 : decide (p < 1) = false := decide_eq_false h1
  by_cases h2 : (n : Int) ≤ p
  · have k2 : decide ((n : Int) ≤ p) = true := decide_eq_true h2
    have HR := Lib.hid (HS.out (.inr h2))
    clear h1 h2
    go_enter Tryd.func31, Tryd.ntmps31
    go_wp2
    go_ret
    exact ⟨by rw [HR.out, HTT.out]; rfl, HW.out⟩
  have k2 : decide ((n : Int) ≤ p) = false := decide_eq_false h2
  obtain ⟨z, hz⟩ : ∃ z, (if q < 1 then p else q) = z := ⟨_, rfl⟩
  obtain ⟨hzS, hS0⟩ := HZ.out z hz h1
  have hz2 : z ≤ 9223372036854775807 := by rw [← hz]; split <;> omega
  obtain ⟨k0, hk0⟩ : ∃ k0 : Nat, (n : Int) - p = (k0 : Int) := ⟨((n : Int) - p).toNat, by omega⟩
  have hk0n : k0 ≤ n := by omega
  have hG0 := HB.out k0 (by rw [HEN.out]; omega) (by rw [HEN.out]; omega)
  obtain ⟨t0, ht0⟩ : ∃ t0, d.drop k0 = t0 := ⟨_, rfl⟩
  have cu : ∀ wx, (Instr.slice 9 (.string T) (some (.int .i64 (k0 : Int))) none none).run Tryd.prog wx = .ok (.string (ofL t0)) wx := by rw [← ht0]; exact HCU.out k0 (by omega) _ rfl
  have ht0n : t0.length ≤ 1000 := by rw [← ht0, List.length_drop, HEN.out]; omega
  obtain ⟨o0, ho0⟩ : ∃ o0, g ++ t0 = o0 := ⟨_, rfl⟩
  have s0 : ∀ wx, (Op.stringOp .add (ofL g) (ofL t0)).run Tryd.prog wx = .ok (.string (ofL o0)) wx := fun wx => str_add (by omega) ho0 wx
  have HG0 : Hid (frG g S d k0 ++ o0 = G) := Lib.hid (by rw [hG0, ← ho0, ht0])
  have HzS := Lib.hid hzS
  have hz1 : 1 ≤ z := by omega
  have ho0n : o0.length ≤ 2000 := by rw [← ho0, List.length_append]; omega
  clear HZ HS HB hG0 ho0 ht0 ht0n h1 h2 HCU hzS
  obtain ⟨W0, hW0⟩ : ∃ W0, w.alloc (.cells #[.string A, .string (ofL g), .string C, .string D, .int .i64 p, .int .i64 q] 23) = W0 := ⟨_, rfl⟩
  have K0 : Hid (Blk w.heap.size 23 #[.string A, .string (ofL g), .string C, .string D, .int .i64 p, .int .i64 q] W0) := Lib.hid (by rw [← hW0]; exact Blk.new _ _ _)
  rw [hW0] at HW
  have c1 : W0.cell? ⟨w.heap.size, 1, none⟩ = some (.string (ofL g)) := K0.out.cell 1
  have HW0 := Lib.hid hW0
  clear hW0
  by_cases hq : q < 1
  · have k3 : decide (q < 1) = true := decide_eq_true hq
    rw [if_pos hq] at hz
    clear hq
    subst hz
    go_enter Tryd.func31, Tryd.ntmps31
    go_wp2
    rw [HW0.out]
    go_quiet (fail)
    go_wp2
    go_loopw [6, 7] (fun v6 v7 wr => ∃ (k : Nat) (o : Str), k ≤ n ∧ v6 = .int .i64 k ∧ v7 = .string (ofL o) ∧ frG g S d k ++ o = G ∧ Below W0.heap.size W0 wr) (fun v6 _ _ => (intOf v6).toNat)
    case atStart => exact ⟨k0, o0, hk0n, by go_num, rfl, HG0.out, below_drewN (Below.refl _ _) _⟩
    case round =>
      obtain ⟨k, o, hkn, rfl, rfl, hG, hbw⟩ := hrel
      have HG := Lib.hid hG
      have HX := Lib.hid hbw
      have HON : Hid (o.length ≤ 2000000) := Lib.hid (by have := HGL.out; rw [← hG, List.length_append] at this; omega)
      have c1' : wr.cell? ⟨w.heap.size, 1, none⟩ = some (.string (ofL g)) := (K0.out.below hbw).cell 1
      clear hG hbw
      by_cases hlt : p < (k : Int)
      · have k4 : decide (p < (k : Int)) = true := decide_eq_true hlt
        obtain ⟨m, hm⟩ : ∃ m : Nat, (k : Int) - p = (m : Int) := ⟨((k : Int) - p).toNat, by omega⟩
        have hmk : m ≤ k := by omega
        have HZ2 := HzS.out
        obtain ⟨ch, hch⟩ : ∃ ch, (d.drop m).take (k - m) = ch := ⟨_, rfl⟩
        have cm : ∀ wx, (Instr.slice 9 (.string T) (some (.int .i64 (m : Int))) (some (.int .i64 (k : Int))) none).run Tryd.prog wx = .ok (.string (ofL ch)) wx := by rw [← hch]; exact HCM.out m k hmk hkn _ _ rfl rfl
        have hchn : ch.length ≤ 1000 := by rw [← hch, List.length_take, List.length_drop, HEN.out]; omega
        obtain ⟨o1, ho1⟩ : ∃ o1, g ++ ch = o1 := ⟨_, rfl⟩
        have ho1n : o1.length ≤ 2000 := by rw [← ho1, List.length_append]; omega
        obtain ⟨o2, ho2⟩ : ∃ o2, o1 ++ o = o2 := ⟨_, rfl⟩
        have hon := HON.out
        have s1 : ∀ wx, (Op.stringOp .add (ofL g) (ofL ch)).run Tryd.prog wx = .ok (.string (ofL o1)) wx := fun wx => str_add (by omega) ho1 wx
        have s2 : ∀ wx, (Op.stringOp .add (ofL o1) (ofL o)).run Tryd.prog wx = .ok (.string (ofL o2)) wx := fun wx => str_add (by omega) ho2 wx
        have HG2 : Hid (frG g S d m ++ o2 = G) := Lib.hid (by
          rw [← HG.out, ← ho2, ← ho1, ← hch, frG_big (by omega) (show S < k by omega), show k - S = m by omega, show k - m = S by omega]
          simp only [List.append_assoc])
        have hw : IntKind.i64.wrap ((k : Int) - p) = (m : Int) := by rw [hm, IntKind.wrap_i64]; omega
        have HM := Lib.hid hm
        clear hch ho1 ho2 hon HZ2 hm hlt hchn ho1n
        go_wp2
        go_quiet (fail)
        go_wp2
        go_roundw
        case rel => exact ⟨m, o2, by omega, by go_num, rfl, HG2.out, below_drewN HX.out _⟩
        case measure => simp [intOf]; have := HM.out; omega
      · have k4 : decide (p < (k : Int)) = false := decide_eq_false hlt
        have cm : ∀ wx, (Instr.slice 9 (.string T) none (some (.int .i64 (k : Int))) none).run Tryd.prog wx = .ok (.string (ofL (d.take k))) wx := HCT.out k hkn _ rfl
        obtain ⟨ch, hch⟩ : ∃ ch, d.take k = ch := ⟨_, rfl⟩
        rw [hch] at cm
        have HR : Hid (ch ++ o = G) := Lib.hid (by rw [← HG.out, frG_small (by have := HzS.out; omega), hch])
        have hchn : ch.length ≤ 1000 := by rw [← hch, List.length_take, HEN.out]; omega
        have hon := HON.out
        have s1 : ∀ wx, (Op.stringOp .add (ofL ch) (ofL o)).run Tryd.prog wx = .ok (.string (ofL G)) wx := fun wx => str_add (by omega) HR.out wx
        clear hch hon hlt hchn
        go_wp2
        go_ret
        exact ⟨rfl, st HW.out HX.out HW.out.size⟩
  · have k3 : decide (q < 1) = false := decide_eq_false hq
    rw [if_neg hq] at hz
    clear hq
    subst hz
    go_enter Tryd.func31, Tryd.ntmps31
    go_wp2
    rw [HW0.out]
    go_quiet (fail)
    go_wp2
    go_loopw [6, 7] (fun v6 v7 wr => ∃ (k : Nat) (o : Str), k ≤ n ∧ v6 = .int .i64 k ∧ v7 = .string (ofL o) ∧ frG g S d k ++ o = G ∧ Below W0.heap.size W0 wr) (fun v6 _ _ => (intOf v6).toNat)
    case atStart => exact ⟨k0, o0, hk0n, by go_num, rfl, HG0.out, below_drewN (Below.refl _ _) _⟩
    case round =>
      obtain ⟨k, o, hkn, rfl, rfl, hG, hbw⟩ := hrel
      have HG := Lib.hid hG
      have HX := Lib.hid hbw
      have HON : Hid (o.length ≤ 2000000) := Lib.hid (by have := HGL.out; rw [← hG, List.length_append] at this; omega)
      have c1' : wr.cell? ⟨w.heap.size, 1, none⟩ = some (.string (ofL g)) := (K0.out.below hbw).cell 1
      clear hG hbw
      by_cases hlt : q < (k : Int)
      · have k4 : decide (q < (k : Int)) = true := decide_eq_true hlt
        obtain ⟨m, hm⟩ : ∃ m : Nat, (k : Int) - q = (m : Int) := ⟨((k : Int) - q).toNat, by omega⟩
        have hmk : m ≤ k := by omega
        have HZ2 := HzS.out
        obtain ⟨ch, hch⟩ : ∃ ch, (d.drop m).take (k - m) = ch := ⟨_, rfl⟩
        have cm : ∀ wx, (Instr.slice 9 (.string T) (some (.int .i64 (m : Int))) (some (.int .i64 (k : Int))) none).run Tryd.prog wx = .ok (.string (ofL ch)) wx := by rw [← hch]; exact HCM.out m k hmk hkn _ _ rfl rfl
        have hchn : ch.length ≤ 1000 := by rw [← hch, List.length_take, List.length_drop, HEN.out]; omega
        obtain ⟨o1, ho1⟩ : ∃ o1, g ++ ch = o1 := ⟨_, rfl⟩
        have ho1n : o1.length ≤ 2000 := by rw [← ho1, List.length_append]; omega
        obtain ⟨o2, ho2⟩ : ∃ o2, o1 ++ o = o2 := ⟨_, rfl⟩
        have hon := HON.out
        have s1 : ∀ wx, (Op.stringOp .add (ofL g) (ofL ch)).run Tryd.prog wx = .ok (.string (ofL o1)) wx := fun wx => str_add (by omega) ho1 wx
        have s2 : ∀ wx, (Op.stringOp .add (ofL o1) (ofL o)).run Tryd.prog wx = .ok (.string (ofL o2)) wx := fun wx => str_add (by omega) ho2 wx
        have HG2 : Hid (frG g S d m ++ o2 = G) := Lib.hid (by
          rw [← HG.out, ← ho2, ← ho1, ← hch, frG_big (by omega) (show S < k by omega), show k - S = m by omega, show k - m = S by omega]
          simp only [List.append_assoc])
        have hw : IntKind.i64.wrap ((k : Int) - q) = (m : Int) := by rw [hm, IntKind.wrap_i64]; omega
        have HM := Lib.hid hm
        clear hch ho1 ho2 hon HZ2 hm hlt hchn ho1n
        go_wp2
        go_quiet (fail)
        go_wp2
        go_roundw
        case rel => exact ⟨m, o2, by omega, by go_num, rfl, HG2.out, below_drewN HX.out _⟩
        case measure => simp [intOf]; have := HM.out; omega
      · have k4 : decide (q < (k : Int)) = false := decide_eq_false hlt
        have cm : ∀ wx, (Instr.slice 9 (.string T) none (some (.int .i64 (k : Int))) none).run Tryd.prog wx = .ok (.string (ofL (d.take k))) wx := HCT.out k hkn _ rfl
        obtain ⟨ch, hch⟩ : ∃ ch, d.take k = ch := ⟨_, rfl⟩
        rw [hch] at cm
        have HR : Hid (ch ++ o = G) := Lib.hid (by rw [← HG.out, frG_small (by have := HzS.out; omega), hch])
        have hchn : ch.length ≤ 1000 := by rw [← hch, List.length_take, HEN.out]; omega
        have hon := HON.out
        have s1 : ∀ wx, (Op.stringOp .add (ofL ch) (ofL o)).run Tryd.prog wx = .ok (.string (ofL G)) wx := fun wx => str_add (by omega) HR.out wx
        clear hch hon hlt hchn
        go_wp2
        go_ret
        exact ⟨rfl, st HW.out HX.out HW.out.size⟩
end Go.Proofs.YteofkofgdhmpjaaDoor
