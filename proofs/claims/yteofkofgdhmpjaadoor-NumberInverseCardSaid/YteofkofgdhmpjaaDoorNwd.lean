/- Of the program of layer 15: shareByte, oneBegins, Sound. -/
import Derived.Test.YteofkofgdhmpjaaDoorNwc
import Derived.Lib.AsciiSet
namespace Go.Proofs.YteofkofgdhmpjaaDoor
open Go.RowKit
set_option linter.unusedVariables false

theorem com_no2 {a b : Str} (h : ∀ c ∈ b, a.contains c = false) : comB a b = false := by
  rw [comB_iff]
  intro c hc hb
  have := h c hb
  rw [List.contains_iff_mem.2 hc] at this
  cases this
theorem com_yes2 {a b : Str} {k : Nat} (hk : k < b.length) (h : a.contains (b[k]) = true) : comB a b = true := by
  cases hc : comB a b with
  | true => rfl
  | false =>
    rw [comB_iff] at hc
    exact absurd (List.getElem_mem hk) (hc _ (List.contains_iff_mem.1 h))
theorem get_ofL (s : Str) {k : Nat} (h : k < (ofL s).size) : (ofL s)[k]'h = s[k]'(by rw [ofL_size] at h; exact h) := by
  have h1 := Lib.data_getElem? (ofL s) k h
  rw [show (ofL s).data.toList = s from rfl, List.getElem?_eq_getElem (by rw [ofL_size] at h; exact h)] at h1
  exact (Option.some.inj h1).symm
set_option maxRecDepth 1000000 in
set_option maxHeartbeats 8000000 in
theorem shareByte_any (s t : Str) (hs : s.length ≤ 1000000) (ht : t.length ≤ 1000000) (w : World) : Calls Tryd.prog 24 #[.string (ofL s), .string (ofL t)] w fun e w' => e = .returned (.bool (comB s t)) ∧ Below w.heap.size w w' := by
  obtain ⟨S, hS⟩ : ∃ S, ofL s = S := ⟨_, rfl⟩
  obtain ⟨T, hT⟩ : ∃ T, ofL t = T := ⟨_, rfl⟩
  have hSn : S.size = s.length := by rw [← hS, ofL_size]
  have hTn : T.size = t.length := by rw [← hT, ofL_size]
  have HSG : Hid (∀ k (h : k < S.size) (h2 : k < s.length), S[k]'h = s[k]'h2) := Lib.hid (by subst hS; exact fun k h h2 => get_ofL s h)
  have HTG : Hid (∀ k (h : k < T.size) (h2 : k < t.length), T[k]'h = t[k]'h2) := Lib.hid (by subst hT; exact fun k h h2 => get_ofL t h)
  have HY := Lib.hid (fun k hk h => @com_yes2 s t k hk h)
  have HNO := Lib.hid (fun h => @com_no2 s t h)
  obtain ⟨R, hR⟩ : ∃ R, comB s t = R := ⟨_, rfl⟩
  rw [hR] at HY HNO
  rw [hS, hT, hR]
  clear hS hT hR
  go_enter Tryd.func24, Tryd.ntmps24
  go_wp2

  go_loopw [6, 10] (fun v6 v10 wr => ∃ k : Nat, k ≤ s.length ∧ v10 = .int .i64 k ∧ wr = w.alloc (.cells (Lib.setCells (s.take k)) 58)) (fun _ v10 _ => s.length - (intOf v10).toNat)
  case atStart => exact ⟨0, Nat.zero_le _, rfl, rfl⟩
  case round =>
    obtain ⟨k, hk, rfl, rfl⟩ := hrel
    by_cases hlt : k < s.length
    · have hkS : k < S.size := by omega
      have k1 : decide ((k : Int) < (s.length : Int)) = true := decide_eq_true (by omega)
      have k1' : decide (k < s.length) = true := decide_eq_true hlt
      have hx := HSG.out k hkS hlt
      obtain ⟨x, hxx⟩ : ∃ x, s[k]'hlt = x := ⟨_, rfl⟩
      rw [hxx] at hx
      have hx256 : (x.toNat : Int) < 256 := by have := UInt8.toNat_lt x; omega
      have hcell := Lib.setCells_at (s.take k) x
      have HT2 : Hid (Lib.setCells (s.take (k + 1)) = (Lib.setCells (s.take k)).setIfInBounds x.toNat (.bool true)) := Lib.hid (by
        rw [← Lib.setCells_snoc, List.take_add_one, List.getElem?_eq_getElem hlt, hxx]; rfl)
      have HLT := Lib.hid hlt
      clear hxx hlt
      go_wp2
      go_roundw
      case rel => exact ⟨k + 1, HLT.out, by go_num, by rw [HT2.out]⟩
      case measure => simp [intOf]; have := HLT.out; omega
    · obtain rfl : k = s.length := by omega
      have k1 : decide ((s.length : Int) < (s.length : Int)) = false := decide_eq_false (by omega)
      have k1' : decide (s.length < s.length) = false := decide_eq_false (by omega)
      rw [List.take_length]
      have HB0 := Lib.hid ((Below.refl w.heap.size w).alloc (Nat.le_refl _) (.cells (Lib.setCells s) 58))
      have HC : Hid (∀ x : UInt8, (w.alloc (.cells (Lib.setCells s) 58)).cell? ⟨w.heap.size, x.toNat, none⟩ = some (.bool (s.contains x))) := Lib.hid (fun x => by rw [World.cell?_alloc_at _ _ _ _ (by simp), Lib.setCells_at])
      obtain ⟨W1, hW1⟩ : ∃ W1, w.alloc (.cells (Lib.setCells s) 58) = W1 := ⟨_, rfl⟩
      rw [hW1] at HB0 HC ⊢
      clear hW1
      go_wp2
      go_loopw [7, 20] (fun v7 v20 wr => ∃ k : Nat, k ≤ t.length ∧ v20 = .int .i64 k ∧ wr = W1 ∧ ∀ c ∈ t.take k, s.contains c = false) (fun _ v20 _ => t.length - (intOf v20).toNat)
      case atStart => exact ⟨0, Nat.zero_le _, rfl, rfl, fun c hc => by simp at hc⟩
      case round =>
        obtain ⟨j, hj, rfl, hwr, hno⟩ := hrel
        obtain rfl := hwr.symm
        have HN := Lib.hid hno
        clear hno hwr
        by_cases hlt : j < t.length
        · have hjT : j < T.size := by omega
          have q1 : decide ((j : Int) < (t.length : Int)) = true := decide_eq_true (by omega)
          have q1' : decide (j < t.length) = true := decide_eq_true hlt
          have hx := HTG.out j hjT hlt
          have HYJ := Lib.hid (HY.out j hlt)
          obtain ⟨x, hxx⟩ : ∃ x, t[j]'hlt = x := ⟨_, rfl⟩
          rw [hxx] at hx HYJ
          have hx256 : (x.toNat : Int) < 256 := by have := UInt8.toNat_lt x; omega
          have hc := HC.out x
          have HT2 : Hid (t.take (j + 1) = t.take j ++ [x]) := Lib.hid (by rw [List.take_add_one, List.getElem?_eq_getElem hlt, hxx]; rfl)
          obtain ⟨b, hb⟩ : ∃ b, s.contains x = b := ⟨_, rfl⟩
          rw [hb] at hc HYJ
          have HBX := Lib.hid hb
          have HLT := Lib.hid hlt
          clear hxx hlt hb
          cases b with
          | true =>
            have HR := Lib.hid (HYJ.out rfl)
            go_wp2
            go_ret
            exact ⟨by rw [HR.out]; rfl, HB0.out⟩
          | false =>
            go_wp2
            go_roundw
            case rel => exact ⟨j + 1, HLT.out, by go_num, by trivial, fun c hc => by
              rw [HT2.out] at hc
              rcases List.mem_append.1 hc with h | h
              · exact HN.out c h
              · rw [List.mem_singleton.1 h]; exact HBX.out⟩
            case measure => simp [intOf]; have := HLT.out; omega
        · obtain rfl : j = t.length := by omega
          have q1 : decide ((t.length : Int) < (t.length : Int)) = false := decide_eq_false (by omega)
          have q1' : decide (t.length < t.length) = false := decide_eq_false (by omega)
          have HR := Lib.hid (HNO.out (fun c hc => HN.out c (by rw [List.take_length]; exact hc)))
          go_wp2
          go_ret
          exact ⟨by rw [HR.out]; rfl, HB0.out⟩
theorem eq_str {t : Str} {b : Bool} (h : decide (t = []) = b) : ((ofL t).toList == ([] : List UInt8)) = b ∧ (ofL t).toList.isEmpty = b := by
  rw [ByteArray.toList_eq, ← h]
  by_cases k : t = []
  · rw [k]; exact ⟨rfl, rfl⟩
  · rw [decide_eq_false k]; exact ⟨by rw [beq_eq_false_iff_ne]; exact k, by rw [List.isEmpty_eq_false_iff]; exact k⟩
theorem hasP_any (s p : Str) (w : World) : Calls Tryd.prog 37 #[.string (ofL s), .string (ofL p)] w fun e w' => e = .returned (.bool (begB s p)) ∧ w' = w := by
  refine (Tryd.strings_HasPrefix (ofL s) (ofL p) w).mono ?_
  rintro e w' ⟨rfl, rfl⟩
  have e1 : Lib.hasPrefix (ofL s).data.toList (ofL p).data.toList = begB s p := hasP_beg s p
  exact ⟨by rw [e1], rfl⟩
set_option maxRecDepth 1000000 in
set_option maxHeartbeats 4000000 in
theorem oneBegins_any (s t : Str) (w : World) : Calls Tryd.prog 23 #[.string (ofL s), .string (ofL t)] w fun e w' => e = .returned (.bool (begB s t || begB t s)) ∧ w' = w := by
  have H1 := Lib.hid (fun w => hasP_any s t w)
  have H2 := Lib.hid (fun w => hasP_any t s w)
  obtain ⟨S, hS⟩ : ∃ S, ofL s = S := ⟨_, rfl⟩
  obtain ⟨T, hT⟩ : ∃ T, ofL t = T := ⟨_, rfl⟩
  obtain ⟨a, ha⟩ : ∃ b, begB s t = b := ⟨_, rfl⟩
  obtain ⟨b, hb⟩ : ∃ b, begB t s = b := ⟨_, rfl⟩
  rw [hS, hT, ha] at H1
  rw [hS, hT, hb] at H2
  rw [hS, hT, ha, hb]
  clear hS hT ha hb
  go_enter Tryd.func23, Tryd.ntmps23
  go_wp2_with fail
  refine (H1.out _).mono ?_
  rintro e w1 ⟨rfl, hw⟩
  obtain rfl := hw.symm
  clear hw
  cases a with
  | true =>
    go_wp2
    go_ret
    exact ⟨rfl, rfl⟩
  | false =>
    go_wp2_with fail
    refine (H2.out _).mono ?_
    rintro e w2 ⟨rfl, hw⟩
    obtain rfl := hw.symm
    clear hw
    go_wp2
    go_ret
    exact ⟨rfl, rfl⟩
theorem sou_prog (x : SyN) : souR x = (!(comB x.mi digT || (comB x.de digT || comB x.gr digT)) && (!(decide (x.mi = []) || (decide (x.de = []) || (begB x.mi x.de || begB x.de x.mi))) && (decide (x.gr = []) || (!(begB x.mi x.gr || begB x.gr x.mi) && !comB x.de x.gr)))) := by
  rw [souR_eq, com_app, com_app]
  have h0 : x.gr = [] → comB x.de x.gr = false := fun h => by rw [h, comB_iff]; intro c _ hc; cases hc
  generalize decide (x.mi = []) = a at *
  generalize decide (x.de = []) = b at *
  by_cases hg : x.gr = []
  · rw [h0 hg, decide_eq_true hg]
    generalize comB x.mi digT = c1; generalize comB x.de digT = c2; generalize comB x.gr digT = c3
    generalize begB x.de x.mi = d1; generalize begB x.mi x.de = d2; generalize begB x.gr x.mi = d3; generalize begB x.mi x.gr = d4
    cases a <;> cases b <;> cases c1 <;> cases c2 <;> cases c3 <;> cases d1 <;> cases d2 <;> rfl
  · rw [decide_eq_false hg]
    generalize comB x.mi digT = c1; generalize comB x.de digT = c2; generalize comB x.gr digT = c3; generalize comB x.de x.gr = c4
    generalize begB x.de x.mi = d1; generalize begB x.mi x.de = d2; generalize begB x.gr x.mi = d3; generalize begB x.mi x.gr = d4
    cases a <;> cases b <;> cases c1 <;> cases c2 <;> cases c3 <;> cases c4 <;> cases d1 <;> cases d2 <;> cases d3 <;> cases d4 <;> rfl
set_option maxRecDepth 1000000 in
set_option maxHeartbeats 8000000 in
theorem soundP_any (x : SyN) (hx : SmY x) (w : World) : Calls Tryd.prog 11 #[.agg #[.string (ofL x.de), .string (ofL x.gr), .string (ofL x.mi), .string (ofL x.pe), .int .i64 x.pr, .int .i64 x.se]] w fun e w' => e = .returned (.bool (souR x)) ∧ Below w.heap.size w w' := by
  have hde := hx.de
  have hgr := hx.gr
  have hmi := hx.mi
  have HS := Lib.hid (sou_prog x)
  obtain ⟨R, hR⟩ : ∃ R, souR x = R := ⟨_, rfl⟩
  rw [hR] at HS ⊢
  clear hR
  obtain ⟨de, e1⟩ : ∃ de, x.de = de := ⟨_, rfl⟩
  obtain ⟨gr, e2⟩ : ∃ gr, x.gr = gr := ⟨_, rfl⟩
  obtain ⟨mi, e3⟩ : ∃ mi, x.mi = mi := ⟨_, rfl⟩
  obtain ⟨pe, e4⟩ : ∃ pe, x.pe = pe := ⟨_, rfl⟩
  obtain ⟨p, e5⟩ : ∃ p, x.pr = p := ⟨_, rfl⟩
  obtain ⟨q, e6⟩ : ∃ q, x.se = q := ⟨_, rfl⟩
  rw [e1, e2, e3] at HS
  rw [e1] at hde
  rw [e2] at hgr
  rw [e3] at hmi
  rw [e1, e2, e3, e4, e5, e6]
  clear hx e1 e2 e3 e4 e5 e6
  have H1 := Lib.hid (fun w => hasDigit_any mi (by omega) w)
  have H2 := Lib.hid (fun w => hasDigit_any de (by omega) w)
  have H3 := Lib.hid (fun w => hasDigit_any gr (by omega) w)
  have H4 := Lib.hid (fun w => oneBegins_any mi de w)
  have H5 := Lib.hid (fun w => oneBegins_any mi gr w)
  have H6 := Lib.hid (fun w => shareByte_any de gr (by omega) (by omega) w)
  obtain ⟨h1, f1⟩ : ∃ b, comB mi digT = b := ⟨_, rfl⟩
  obtain ⟨h2, f2⟩ : ∃ b, comB de digT = b := ⟨_, rfl⟩
  obtain ⟨h3, f3⟩ : ∃ b, comB gr digT = b := ⟨_, rfl⟩
  obtain ⟨ob, f4⟩ : ∃ b, (begB mi de || begB de mi) = b := ⟨_, rfl⟩
  obtain ⟨og, f5⟩ : ∃ b, (begB mi gr || begB gr mi) = b := ⟨_, rfl⟩
  obtain ⟨sh, f6⟩ : ∃ b, comB de gr = b := ⟨_, rfl⟩
  obtain ⟨bm, g1⟩ : ∃ b, decide (mi = []) = b := ⟨_, rfl⟩
  obtain ⟨bd, g2⟩ : ∃ b, decide (de = []) = b := ⟨_, rfl⟩
  obtain ⟨bg, g3⟩ : ∃ b, decide (gr = []) = b := ⟨_, rfl⟩
  obtain ⟨m1, m2⟩ := eq_str g1
  obtain ⟨d1, d2⟩ := eq_str g2
  obtain ⟨r1, r2⟩ := eq_str g3
  rw [f1] at H1
  rw [f2] at H2
  rw [f3] at H3
  rw [f4] at H4
  rw [f5] at H5
  rw [f6] at H6
  rw [f1, f2, f3, f4, f5, f6, g1, g2, g3] at HS
  clear f1 f2 f3 f4 f5 f6 g1 g2 g3 hde hgr hmi
  have B0 := Lib.hid ((Below.refl w.heap.size w).alloc (Nat.le_refl _) (.cells #[.string (ofL de), .string (ofL gr), .string (ofL mi), .string (ofL pe), .int .i64 p, .int .i64 q] 23))
  have K0 := Lib.hid (Blk.new w 23 #[.string (ofL de), .string (ofL gr), .string (ofL mi), .string (ofL pe), .int .i64 p, .int .i64 q])
  go_enter Tryd.func11, Tryd.ntmps11
  go_wp2_with fail
  refine (H1.out _).mono ?_
  rintro e w1 ⟨rfl, b1⟩
  have B1 := Lib.hid (stt B0.out b1 B0.out.size)
  have K1 := Lib.hid (K0.out.below b1)
  clear b1
  cases h1 with
  | true =>
    go_wp2
    go_ret
    exact ⟨by rw [HS.out]; rfl, B1.out⟩
  | false =>
  have c0 : w1.cell? ⟨w.heap.size, 0, none⟩ = some (.string (ofL de)) := K1.out.cell 0
  go_wp2_with fail
  clear c0
  refine (H2.out _).mono ?_
  rintro e w2 ⟨rfl, b2⟩
  have B2 := Lib.hid (stt B1.out b2 B1.out.size)
  have K2 := Lib.hid (K1.out.below b2)
  clear b2
  cases h2 with
  | true =>
    go_wp2
    go_ret
    exact ⟨by rw [HS.out]; rfl, B2.out⟩
  | false =>
  have c1 : w2.cell? ⟨w.heap.size, 1, none⟩ = some (.string (ofL gr)) := K2.out.cell 1
  go_wp2_with fail
  clear c1
  refine (H3.out _).mono ?_
  rintro e w3 ⟨rfl, b3⟩
  have B3 := Lib.hid (stt B2.out b3 B2.out.size)
  have K3 := Lib.hid (K2.out.below b3)
  clear b3
  cases h3 with
  | true =>
    go_wp2
    go_ret
    exact ⟨by rw [HS.out]; rfl, B3.out⟩
  | false =>
  have c0 : w3.cell? ⟨w.heap.size, 0, none⟩ = some (.string (ofL de)) := K3.out.cell 0
  have c1 : w3.cell? ⟨w.heap.size, 1, none⟩ = some (.string (ofL gr)) := K3.out.cell 1
  have c2 : w3.cell? ⟨w.heap.size, 2, none⟩ = some (.string (ofL mi)) := K3.out.cell 2
  cases bm with
  | true =>
    go_wp2
    go_ret
    exact ⟨by rw [HS.out]; rfl, B3.out⟩
  | false =>
  cases bd with
  | true =>
    go_wp2
    go_ret
    exact ⟨by rw [HS.out]; rfl, B3.out⟩
  | false =>
  go_wp2_with fail
  refine (H4.out _).mono ?_
  rintro e w4 ⟨rfl, hw⟩
  obtain rfl := hw.symm
  clear hw
  cases ob with
  | true =>
    go_wp2
    go_ret
    exact ⟨by rw [HS.out]; rfl, B3.out⟩
  | false =>
  cases bg with
  | true =>
    go_wp2
    go_ret
    exact ⟨by rw [HS.out]; rfl, B3.out⟩
  | false =>
  go_wp2_with fail
  refine (H5.out _).mono ?_
  rintro e w4 ⟨rfl, hw⟩
  obtain rfl := hw.symm
  clear hw
  cases og with
  | true =>
    go_wp2
    go_ret
    exact ⟨by rw [HS.out]; rfl, B3.out⟩
  | false =>
  go_wp2_with fail
  refine (H6.out _).mono ?_
  rintro e w4 ⟨rfl, b4⟩
  have B4 := Lib.hid (stt B3.out b4 B3.out.size)
  clear b4
  go_wp2
  go_ret
  exact ⟨by rw [HS.out]; rfl, B4.out⟩
end Go.Proofs.YteofkofgdhmpjaaDoor
