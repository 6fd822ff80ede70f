/- The laws of layer 15: Group. -/
import Derived.Test.YteofkofgdhmpjaaNuj
namespace Go.Proofs.Yteofkofgdhmpjaa
open Go.RowKit
set_option linter.unusedVariables false

theorem cntZ_step {G : Str} {k : Nat} (hk : k < G.length) {p : Str × Nat × Nat} {r : Str} {l g : Nat} (h : cntZ (G.take k) p = (r, l, g)) : cntZ (G.take (k + 1)) p = if G[k] = 0 then (r, 0, g + 1) else (r ++ [G[k]], l + 1, g) := by
  rw [List.take_succ_eq_append_getElem hk, cntZ_app, h, cntZ]
  split <;> rfl
def gr0 (x : SyN) : SyN := ⟨x.de, [0], x.mi, x.pe, x.pr, x.se⟩
section
variable {EV : World → Prop} (C : NuC EV)
include C
set_option maxRecDepth 1000000 in
set_option maxHeartbeats 8000000 in
theorem numberGroup_walk (x : SyN) (p1 : -9223372036854775808 ≤ x.pr) (p2 : x.pr ≤ 9223372036854775807) (s1 : -9223372036854775808 ≤ x.se) (s2 : x.se ≤ 9223372036854775807) (d : Str) (hd : d.length ≤ 9223372036854775807) (w : World) (E : EV w) : Calls Try.prog 4 #[.agg #[.string (ofL x.de), .string (ofL x.gr), .string (ofL x.mi), .string (ofL x.pe), .int .i64 x.pr, .int .i64 x.se], .string (ofL d)] w fun e w' => e = .returned (.bool true) ∧ Below w.heap.size w w' := by
  have HAW := Lib.hid (fun w E => awake15_any C w E)
  have HFW := Lib.hid (fun w => few15_any x w)
  have HL : Hid (∀ {w w' : World}, EV w → Below w.heap.size w w' → EV w') := Lib.hid C.later
  have HSM := Lib.hid (fewY_sm p1 p2 s1 s2)
  obtain ⟨fb, hfb⟩ : ∃ fb, fewY x = fb := ⟨_, rfl⟩
  rw [hfb] at HFW HSM
  clear hfb
  have HG1 := Lib.hid (fun (h : SmY x) (a : d.length ≤ 60) w E => C.group x d w h (by omega) E)
  have HG2 := Lib.hid (fun (h : SmY x) (a : d.length ≤ 60) w => group15_any x d (by omega) h.gr h.p1 h.p2 h.s1 h.s2 w)
  have HG3 := Lib.hid (fun (h : SmY x) (a : d.length ≤ 60) w E => C.group (gr0 x) d w ⟨h.de, Nat.le_of_ble_eq_true rfl, h.mi, h.pe, h.p1, h.p2, h.s1, h.s2⟩ (by omega) E)
  have HCN := Lib.hid (fun (h : 0 ∉ d) => grp_cnt (x := gr0 x) rfl h)
  have HGL := Lib.hid (grp_len (gr0 x) d)
  rw [show (gr0 x).de = x.de from rfl, show (gr0 x).gr = [0] from rfl, show (gr0 x).mi = x.mi from rfl, show (gr0 x).pe = x.pe from rfl, show (gr0 x).pr = x.pr from rfl, show (gr0 x).se = x.se from rfl] at HG3
  rw [show (gr0 x).pr = x.pr from rfl] at HCN
  rw [show (gr0 x).gr = [0] from rfl] at HGL
  obtain ⟨de, e1⟩ : ∃ de, x.de = de := ⟨_, rfl⟩
  obtain ⟨gr, e2⟩ : ∃ gr, x.gr = gr := ⟨_, rfl⟩
  obtain ⟨mi, e3⟩ : ∃ mi, x.mi = mi := ⟨_, rfl⟩
  obtain ⟨pe, e4⟩ : ∃ pe, x.pe = pe := ⟨_, rfl⟩
  obtain ⟨p, e5⟩ : ∃ p, x.pr = p := ⟨_, rfl⟩
  obtain ⟨q, e6⟩ : ∃ q, x.se = q := ⟨_, rfl⟩
  rw [e1, e2, e3, e4, e5, e6] at HFW
  rw [e1, e2, e3, e4, e5, e6] at HG1 HG2
  rw [e1, e3, e4, e5, e6] at HG3
  rw [e5] at HCN
  rw [e1, e2, e3, e4, e5, e6]
  have E0 := Lib.hid E
  clear E p1 p2 s1 s2 e1 e2 e3 e4 e5 e6
  have B0 := Lib.hid ((Below.refl w.heap.size w).alloc (Nat.le_refl _) (.cells #[.string (ofL de), .string (ofL gr), .string (ofL mi), .string (ofL pe), .int .i64 p, .int .i64 q] 23))
  have K0 := Lib.hid (Blk.new w 23 #[.string (ofL de), .string (ofL gr), .string (ofL mi), .string (ofL pe), .int .i64 p, .int .i64 q])
  go_enter Try.func4, Try.ntmps4
  go_wp2_with fail
  refine (HAW.out _ (HL.out E0.out B0.out)).mono ?_
  rintro e w1 ⟨rfl, b1⟩
  have B1 := Lib.hid (stt B0.out b1 B0.out.size)
  have K1 := Lib.hid (K0.out.below b1)
  clear b1
  have d0 : w1.cell? ⟨w.heap.size, 0, none⟩ = some (.string (ofL de)) := K1.out.cell 0
  have d1 : w1.cell? ⟨w.heap.size, 1, none⟩ = some (.string (ofL gr)) := K1.out.cell 1
  have d2 : w1.cell? ⟨w.heap.size, 2, none⟩ = some (.string (ofL mi)) := K1.out.cell 2
  have d3 : w1.cell? ⟨w.heap.size, 3, none⟩ = some (.string (ofL pe)) := K1.out.cell 3
  have d4 : w1.cell? ⟨w.heap.size, 4, none⟩ = some (.int .i64 p) := K1.out.cell 4
  have d5 : w1.cell? ⟨w.heap.size, 5, none⟩ = some (.int .i64 q) := K1.out.cell 5
  go_wp2_with fail
  clear d0 d1 d2 d3 d4 d5
  refine (HFW.out _).mono ?_
  rintro e w2 ⟨rfl, b2⟩
  have B2 := Lib.hid (stt B1.out b2 B1.out.size)
  have K2 := Lib.hid (K1.out.below b2)
  clear b2
  cases fb with
  | false =>
    go_wp2_with fail
    refine (HAW.out _ (HL.out E0.out B2.out)).mono ?_
    rintro e w3 ⟨rfl, b3⟩
    have B3 := Lib.hid (stt B2.out b3 B2.out.size)
    clear b3
    go_wp2
    go_ret
    exact ⟨rfl, B3.out⟩
  | true =>
  have SM := HSM.out rfl
  have hzd : (ofL d).size = d.length := ofL_size d
  by_cases h1 : 60 < d.length
  · have k1 : decide ((60 : Int) < (d.length : Int)) = true := decide_eq_true (by omega)
    have k1' : decide (60 < d.length) = true := decide_eq_true h1
    clear h1 SM
    go_wp2_with fail
    refine (HAW.out _ (HL.out E0.out B2.out)).mono ?_
    rintro e w3 ⟨rfl, b3⟩
    have B3 := Lib.hid (stt B2.out b3 B2.out.size)
    clear b3
    go_wp2
    go_ret
    exact ⟨rfl, B3.out⟩
  have k1 : decide ((60 : Int) < (d.length : Int)) = false := decide_eq_false (by omega)
  have k1' : decide (60 < d.length) = false := decide_eq_false h1
  have HA := Lib.hid (HG1.out SM (by omega))
  have HB := Lib.hid (HG2.out SM (by omega))
  have HC := Lib.hid (HG3.out SM (by omega))
  obtain ⟨G1, hG1⟩ : ∃ G, grpR x d = G := ⟨_, rfl⟩
  obtain ⟨G, hG⟩ : ∃ G, grpR (gr0 x) d = G := ⟨_, rfl⟩
  rw [hG1] at HA HB
  rw [hG] at HC HCN HGL
  have hGl : G.length ≤ 120 := by have := HGL.out; simp only [List.length_cons, List.length_nil] at this; omega
  clear h1 HG1 HG2 HG3 SM hG1 hG HSM HGL
  have d0 : w2.cell? ⟨w.heap.size, 0, none⟩ = some (.string (ofL de)) := K2.out.cell 0
  have d1 : w2.cell? ⟨w.heap.size, 1, none⟩ = some (.string (ofL gr)) := K2.out.cell 1
  have d2 : w2.cell? ⟨w.heap.size, 2, none⟩ = some (.string (ofL mi)) := K2.out.cell 2
  have d3 : w2.cell? ⟨w.heap.size, 3, none⟩ = some (.string (ofL pe)) := K2.out.cell 3
  have d4 : w2.cell? ⟨w.heap.size, 4, none⟩ = some (.int .i64 p) := K2.out.cell 4
  have d5 : w2.cell? ⟨w.heap.size, 5, none⟩ = some (.int .i64 q) := K2.out.cell 5
  go_wp2_with fail
  clear d0 d1 d2 d3 d4 d5
  refine (HA.out _ (HL.out E0.out B2.out)).mono ?_
  rintro e w3 ⟨rfl, b3⟩
  have B3 := Lib.hid (stt B2.out b3 B2.out.size)
  have K3 := Lib.hid (K2.out.below b3)
  clear b3
  have d0 : w3.cell? ⟨w.heap.size, 0, none⟩ = some (.string (ofL de)) := K3.out.cell 0
  have d1 : w3.cell? ⟨w.heap.size, 1, none⟩ = some (.string (ofL gr)) := K3.out.cell 1
  have d2 : w3.cell? ⟨w.heap.size, 2, none⟩ = some (.string (ofL mi)) := K3.out.cell 2
  have d3 : w3.cell? ⟨w.heap.size, 3, none⟩ = some (.string (ofL pe)) := K3.out.cell 3
  have d4 : w3.cell? ⟨w.heap.size, 4, none⟩ = some (.int .i64 p) := K3.out.cell 4
  have d5 : w3.cell? ⟨w.heap.size, 5, none⟩ = some (.int .i64 q) := K3.out.cell 5
  go_wp2_with fail
  clear d0 d1 d2 d3 d4 d5
  refine (HB.out _).mono ?_
  rintro e w4 ⟨rfl, b4⟩
  have B4 := Lib.hid (stt B3.out b4 B3.out.size)
  have K4 := Lib.hid (K3.out.below b4)
  clear b4
  have f1 : w4.frozen? ⟨w.heap.size, 1, none⟩ = false := K4.out.frozen 1
  have k4 : w4.cell? ⟨w.heap.size, 1, none⟩ = some (.string (ofL gr)) := K4.out.cell 1
  obtain ⟨z1, z2⟩ := strY G1
  have B5 := Lib.hid (B4.out.setCell (p := ⟨w.heap.size, 1, none⟩) (Nat.le_refl _) (.string ⟨#[0]⟩))
  have K5 : Hid (Blk w.heap.size 23 #[.string (ofL de), .string ⟨#[0]⟩, .string (ofL mi), .string (ofL pe), .int .i64 p, .int .i64 q] (w4.setCell ⟨w.heap.size, 1, none⟩ (.string ⟨#[0]⟩))) := Lib.hid (K4.out.put 1 _)
  obtain ⟨W5, hW5⟩ : ∃ W, w4.setCell ⟨w.heap.size, 1, none⟩ (.string ⟨#[0]⟩) = W := ⟨_, rfl⟩
  rw [hW5] at B5 K5
  have d0 : W5.cell? ⟨w.heap.size, 0, none⟩ = some (.string (ofL de)) := K5.out.cell 0
  have d1 : W5.cell? ⟨w.heap.size, 1, none⟩ = some (.string ⟨#[0]⟩) := K5.out.cell 1
  have d2 : W5.cell? ⟨w.heap.size, 2, none⟩ = some (.string (ofL mi)) := K5.out.cell 2
  have d3 : W5.cell? ⟨w.heap.size, 3, none⟩ = some (.string (ofL pe)) := K5.out.cell 3
  have d4 : W5.cell? ⟨w.heap.size, 4, none⟩ = some (.int .i64 p) := K5.out.cell 4
  have d5 : W5.cell? ⟨w.heap.size, 5, none⟩ = some (.int .i64 q) := K5.out.cell 5
  go_wp2_with fail
  clear d0 d1 d2 d3 d4 d5 hW5 f1 k4
  refine (HC.out _ (HL.out E0.out B5.out)).mono ?_
  rintro e w6 ⟨rfl, b6⟩
  have B6 := Lib.hid (stt B5.out b6 B5.out.size)
  have K6 := Lib.hid (K5.out.below b6)
  clear b6
  obtain ⟨D, hD⟩ : ∃ D, ofL d = D := ⟨_, rfl⟩
  have HGD : Hid (∀ i (h : i < d.length) (h' : i < D.size), D[i]'h' = d[i]'h) := Lib.hid (fun i h h' => by subst hD; rfl)
  have HDD := Lib.hid hD
  rw [hD] at hzd ⊢
  clear hD
  obtain ⟨S, hS⟩ : ∃ S, ofL G = S := ⟨_, rfl⟩
  have hzs : S.size = G.length := by rw [← hS, ofL_size]
  have HGS : Hid (∀ i (h : i < G.length) (h' : i < S.size), S[i]'h' = G[i]'h) := Lib.hid (fun i h h' => by subst hS; rfl)
  have HCM : Hid (∀ k, k < G.length → ∀ wx, (Instr.slice 9 (.string S) (some (.int .i64 (k : Int))) (some (.int .i64 ((k : Int) + 1))) none).run Try.prog wx = .ok (.string (ofL ((G.drop k).take 1))) wx) := Lib.hid (fun k hk wx => by
    rw [← hS]
    have := cutY_mid G (a := k) (b := k + 1) (by omega) (by omega) rfl (show ((k : Int) + 1) = ((k + 1 : Nat) : Int) by omega) wx
    rw [show k + 1 - k = 1 by omega] at this
    exact this)
  rw [hS]
  clear hS
  have HST := Lib.hid (fun (k : Nat) (hk : k < G.length) (r : Str) (l g : Nat) (h : cntZ (G.take k) ([], 0, 0) = (r, l, g)) => cntZ_step hk h)
  have HTK : Hid (cntZ (G.take G.length) ([], 0, 0) = cntZ G ([], 0, 0)) := Lib.hid (by rw [List.take_length])
  obtain ⟨N, hN⟩ : ∃ N, d.length = N := ⟨_, rfl⟩
  have HN := Lib.hid hN
  rw [hN] at hzd hd
  obtain ⟨M, hM⟩ : ∃ M, G.length = M := ⟨_, rfl⟩
  have HM := Lib.hid hM
  rw [hM] at hzs hGl
  clear hN hM
  go_wp2
  go_loopw [9] (fun v9 wr => ∃ k : Nat, k ≤ N ∧ v9 = .int .i64 k ∧ (∀ i (h : i < d.length), i < k → d[i] ≠ 0) ∧ Below w6.heap.size w6 wr) (fun v9 _ => N - (intOf v9).toNat)
  case atStart => exact ⟨0, Nat.zero_le _, rfl, fun i h h0 => by omega, Below.refl _ _⟩
  case round =>
    obtain ⟨k, hk, rfl, hall, hbw⟩ := hrel
    have HAL := Lib.hid hall
    have HX1 := Lib.hid hbw
    clear hall hbw
    by_cases hlt : k < N
    · have k2 : decide ((k : Int) < (N : Int)) = true := decide_eq_true (by omega)
      have hDk : k < D.size := by omega
      by_cases he : D[k]'hDk = 0
      · have k3 : ((((D[k]'hDk).toNat : Nat) : Int) == 0) = true := by rw [he]; rfl
        clear he
        go_wp2
        go_ret
        exact ⟨rfl, stt B6.out HX1.out B6.out.size⟩
      · have k3 : ((((D[k]'hDk).toNat : Nat) : Int) == 0) = false := u8_beq (d := 0) false (decide_eq_false he)
        have HA2 : Hid (∀ i (h : i < d.length), i < k + 1 → d[i] ≠ 0) := Lib.hid (fun i h hi => by
          rcases Nat.lt_or_ge i k with q | q
          · exact HAL.out i h q
          · obtain rfl : i = k := by omega
            rw [← HGD.out i h hDk]
            exact he)
        clear he
        go_wp2
        go_roundw
        case rel => exact ⟨k + 1, by omega, by go_num, HA2.out, HX1.out⟩
        case measure => simp [intOf]; omega
    · have k2 : decide ((k : Int) < (N : Int)) = false := decide_eq_false (by omega)
      have hd0 : 0 ∉ d := fun hm => by
        obtain ⟨i, hi, e⟩ := List.mem_iff_getElem.1 hm
        exact HAL.out i hi (by have := HN.out; omega) e
      obtain ⟨l', g', hc1, hc2⟩ := HCN.out hd0
      have HC1 := Lib.hid hc1
      have HC2 := Lib.hid hc2
      clear hd0 hc1 hc2 HAL
      go_wp2
      go_loopw [6, 7, 8, 10] (fun v6 v7 v8 v10 wr => ∃ (k : Nat) (r : Str) (l g : Nat), k ≤ M ∧ v10 = .int .i64 k ∧ v6 = .string (ofL r) ∧ v7 = .int .i64 l ∧ v8 = .int .i64 g ∧ cntZ (G.take k) ([], 0, 0) = (r, l, g) ∧ l ≤ k ∧ g ≤ k ∧ r.length ≤ k ∧ Below w6.heap.size w6 wr) (fun _ _ _ v10 _ => M - (intOf v10).toNat)
      case atStart => exact ⟨0, [], 0, 0, Nat.zero_le _, rfl, rfl, rfl, rfl, rfl, Nat.le_refl _, Nat.le_refl _, Nat.le_refl _, HX1.out⟩
      case round =>
        obtain ⟨j, r, l, g, hj, rfl, rfl, rfl, rfl, hcz, hl, hg, hr, hbw⟩ := hrel
        have HCZ := Lib.hid hcz
        have HX := Lib.hid hbw
        clear hcz hbw
        by_cases hlj : j < M
        · have k5 : decide ((j : Int) < (M : Int)) = true := decide_eq_true (by omega)
          have hSj : j < S.size := by omega
          have hjG : j < G.length := by rw [HM.out]; exact hlj
          have HS2 := Lib.hid (HST.out j hjG r l g HCZ.out)
          by_cases he : S[j]'hSj = 0
          · have k6 : ((((S[j]'hSj).toNat : Nat) : Int) == 0) = true := by rw [he]; rfl
            have HS3 : Hid (cntZ (G.take (j + 1)) ([], 0, 0) = (r, 0, g + 1)) := Lib.hid (by rw [HS2.out, if_pos (by rw [← HGS.out j hjG hSj]; exact he)])
            clear he HS2 hjG
            go_wp2
            go_roundw
            case rel => exact ⟨j + 1, r, 0, g + 1, by omega, by go_num, rfl, rfl, by go_num, HS3.out, by omega, by omega, by omega, HX.out⟩
            case measure => simp [intOf]; omega
          · have k6 : ((((S[j]'hSj).toNat : Nat) : Int) == 0) = false := u8_beq (d := 0) false (decide_eq_false he)
            have hch : (G.drop j).take 1 = [G[j]] := by rw [List.drop_eq_getElem_cons hjG]; rfl
            have cm : ∀ wx, (Instr.slice 9 (.string S) (some (.int .i64 (j : Int))) (some (.int .i64 ((j : Int) + 1))) none).run Try.prog wx = .ok (.string (ofL [G[j]])) wx := by rw [← hch]; exact HCM.out j hjG
            obtain ⟨c, hc⟩ : ∃ c, G[j] = c := ⟨_, rfl⟩
            rw [hc] at cm
            have HS3 : Hid (cntZ (G.take (j + 1)) ([], 0, 0) = (r ++ [c], l + 1, g)) := Lib.hid (by rw [HS2.out, if_neg (by rw [← HGS.out j hjG hSj]; exact he), hc])
            obtain ⟨r2, hr2⟩ : ∃ r2, r ++ [c] = r2 := ⟨_, rfl⟩
            have s1 : ∀ wx, (Op.stringOp .add (ofL r) (ofL [c])).run Try.prog wx = .ok (.string (ofL r2)) wx := fun wx => str_add (by simp; omega) hr2 wx
            have HR2 : Hid (r2.length ≤ j + 1) := Lib.hid (by rw [← hr2, List.length_append]; simp; omega)
            rw [hr2] at HS3
            clear he HS2 hch hc hr2 hjG
            go_wp2
            go_roundw
            case rel => exact ⟨j + 1, r2, l + 1, g, by omega, by go_num, rfl, by go_num, rfl, HS3.out, by omega, by omega, HR2.out, HX.out⟩
            case measure => simp [intOf]; omega
        · have k5 : decide ((j : Int) < (M : Int)) = false := decide_eq_false (by omega)
          have e1 : (r, l, g) = (d, l', g') := by
            have h0 := HCZ.out
            rw [show j = G.length by rw [HM.out]; omega, HTK.out, HC1.out] at h0
            exact h0.symm
          simp only [Prod.mk.injEq] at e1
          obtain ⟨rfl, rfl, rfl⟩ := e1
          rw [HDD.out]
          have y1 : (D.toList == D.toList) = true := beq_self_eq_true _
          have K8 := Lib.hid (K6.out.below HX.out)
          have c4 : wr.cell? ⟨w.heap.size, 4, none⟩ = some (.int .i64 p) := K8.out.cell 4
          have BF := Lib.hid (stt B6.out HX.out B6.out.size)
          rcases HC2.out with h0 | h0
          · have k7 : (((g : Nat) : Int) == 0) = true := by rw [h0]; rfl
            clear h0
            go_wp2
            go_ret
            exact ⟨rfl, BF.out⟩
          · have k8 : (((l : Nat) : Int) == p) = true := by rw [beq_iff_eq]; exact h0
            clear h0
            by_cases h9 : g = 0
            · have k7 : (((g : Nat) : Int) == 0) = true := by rw [h9]; rfl
              clear h9
              go_wp2
              go_ret
              exact ⟨rfl, BF.out⟩
            · have k7 : (((g : Nat) : Int) == 0) = false := by rw [beq_eq_false_iff_ne]; omega
              clear h9
              go_wp2
              go_ret
              exact ⟨rfl, BF.out⟩
end
end Go.Proofs.Yteofkofgdhmpjaa
