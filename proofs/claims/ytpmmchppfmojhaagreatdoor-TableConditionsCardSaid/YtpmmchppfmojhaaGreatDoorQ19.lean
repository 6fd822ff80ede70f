/- What the row stands on, part 19. -/
import Derived.Test.YtpmmchppfmojhaaGreatDoorQ18

/- The law TableConditions. -/
namespace Go.Proofs.YtpmmchppfmojhaaGreatDoor
open Go.RowKit
set_option linter.unusedVariables false

theorem own_cls (w : World) : Own1 1 encT (w.alloc (.cells #[.string ⟨#[122, 101, 114, 111]⟩, .string ⟨#[111, 110, 101]⟩, .string ⟨#[116, 119, 111]⟩, .string ⟨#[102, 101, 119]⟩, .string ⟨#[109, 97, 110, 121]⟩] 9)) w.heap.size 9 (.slice (some ⟨w.heap.size, 0, none⟩) 5 5) clsL :=
  ⟨by rfl, .inr ⟨w.heap.size, 5, #[.string ⟨#[122, 101, 114, 111]⟩, .string ⟨#[111, 110, 101]⟩, .string ⟨#[116, 119, 111]⟩, .string ⟨#[102, 101, 119]⟩, .string ⟨#[109, 97, 110, 121]⟩], rfl, Nat.le_refl _, heap_alloc_new w _, Nat.le_refl _, by decide, rfl, rfl⟩⟩
theorem own_ru (w : World) (x : Str × RawS) : Own1 2 encRl (w.alloc (.cells #[.string (ofL x.1), .slice x.2.a x.2.n x.2.c] 56)) w.heap.size 56 (.slice (some ⟨w.heap.size, 0, none⟩) 1 1) [x] :=
  ⟨by rfl, .inr ⟨w.heap.size, 1, #[.string (ofL x.1), .slice x.2.a x.2.n x.2.c], rfl, Nat.le_refl _, heap_alloc_new w _, Nat.le_refl _, by decide, rfl, rfl⟩⟩
def rawX (s : RawS) : RawLo := ⟨[120], [], [], s, ⟨none, 0, 0⟩, sym0, ⟨none, 0, 0⟩, ⟨none, 0, 0⟩, ⟨none, 0, 0⟩, ⟨none, 0, 0⟩, ⟨none, 0, 0⟩⟩
def locC (s : RawS) : Array Value := #[.string ⟨#[120]⟩, .string ⟨#[]⟩, .string ⟨#[]⟩, .slice s.a s.n s.c, .slice none 0 0, .string ⟨#[]⟩, .string ⟨#[]⟩, .string ⟨#[]⟩, .string ⟨#[]⟩, .int .i64 0, .int .i64 0, .slice none 0 0, .slice none 0 0, .slice none 0 0, .slice none 0 0, .slice none 0 0]
theorem own_lo (w : World) (s : RawS) : Own1 16 encLo (w.alloc (.cells (locC s) 51)) w.heap.size 51 (.slice (some ⟨w.heap.size, 0, none⟩) 1 1) [rawX s] :=
  ⟨by rfl, .inr ⟨w.heap.size, 1, locC s, rfl, Nat.le_refl _, heap_alloc_new w _, Nat.le_refl _, by decide, rfl, rfl⟩⟩
theorem rule_rd (w : World) (cls : Str) (c : Cnd) (a : Option Addr) (n : Nat) (V : RdC w (.slice a c.length n) c) :
    RdTab ((w.alloc (.cells #[.string (ofL cls), .slice a c.length n] 56)).alloc (.cells (locC ⟨some ⟨w.heap.size, 0, none⟩, 1, 1⟩) 51)) (.slice (some ⟨w.heap.size + 1, 0, none⟩) 1 1) (.slice none 0 0) (.slice none 0 0) (ruleTab cls c) := by
  have b1 := (Below.refl w.heap.size w).alloc (Nat.le_refl _) (.cells #[.string (ofL cls), .slice a c.length n] 56)
  have b2 := (Below.refl _ (w.alloc (.cells #[.string (ofL cls), .slice a c.length n] 56))).alloc (Nat.le_refl _) (.cells (locC ⟨some ⟨w.heap.size, 0, none⟩, 1, 1⟩) 51)
  have o1 := (own_ru w (cls, ⟨a, c.length, n⟩)).rd (fun _ => rfl)
  have o2 := (own_lo (w.alloc (.cells #[.string (ofL cls), .slice a c.length n] 56)) ⟨some ⟨w.heap.size, 0, none⟩, 1, 1⟩).rd (fun _ => rfl)
  rw [World.size_alloc] at o2
  have r1 : RdRul (w.alloc (.cells #[.string (ofL cls), .slice a c.length n] 56)) (.slice (some ⟨w.heap.size, 0, none⟩) 1 1) [(cls, c)] := ⟨[(cls, ⟨a, c.length, n⟩)], o1, rfl, fun i h h' => by
    have : i = 0 := by simp at h; exact h
    subst this
    exact ⟨rfl, V.below b1⟩⟩
  refine ⟨⟨[rawX ⟨some ⟨w.heap.size, 0, none⟩, 1, 1⟩], o2, rfl, fun i h h' => ?_⟩, rd_nil _, rd_nil _⟩
  have : i = 0 := by simp at h; exact h
  subst this
  exact ⟨rfl, rfl, rfl, rfl, r1.below b2, rdRul_nil _, rd_nil _, rd_nil _, rd_nil _, rd_nil _, rd_nil _⟩
theorem sm_nil : Sm [] := by unfold Sm; simp
theorem rule_S {cls : Str} {c : Cnd} (h1 : cls.length ≤ 100) (h2 : c.length ≤ 30) (h3 : CndR c) : TabS (ruleTab cls c) := by
  have hx : ∀ x ∈ (ruleTab cls c).lo, x = ⟨[120], [], [], [(cls, c)], [], sym0, [], [], [], [], []⟩ := fun x hx => by simpa [ruleTab] using hx
  refine ⟨⟨fun x h => ?_, fun u h => (by cases h), fun u h => (by cases h)⟩, by show (1 : Nat) ≤ 62; decide, by show (0 : Nat) ≤ 205; decide, by show (0 : Nat) ≤ 205; decide, fun x h => ?_, fun x h r hr => ?_⟩
  · rw [hx x h]
    exact ⟨by unfold Sm; simp, sm_nil, sm_nil, sm_nil, sm_nil, sm_nil, sm_nil, fun r hr => by
      have hr' : r = (cls, c) := by simpa using hr
      subst hr'
      exact ⟨by unfold Sm; dsimp only; omega, h3⟩, fun r hr => (by cases hr), fun r hr => (by cases hr), fun r hr => (by cases hr), fun r hr => (by cases hr), fun r hr => (by cases hr), fun r hr => (by cases hr)⟩
  · rw [hx x h]; simp
  · rw [hx x h] at hr
    have hr' : r = (cls, c) := by simpa using hr
    subst hr'
    exact h2
set_option maxRecDepth 1000000 in
set_option maxHeartbeats 16000000 in
theorem refClasses_any (w : World) : Calls Tryz.prog 25 #[] w fun e w' => (∃ a c, e = .returned (.slice a 5 c) ∧ Rd 1 encT w' (.slice a 5 c) clsL) ∧ Below w.heap.size w w' := by
  go_enter Tryz.func25, Tryz.ntmps25
  have hb := (Below.refl w.heap.size w).alloc (Nat.le_refl _) (.cells #[.string ⟨#[122, 101, 114, 111]⟩, .string ⟨#[111, 110, 101]⟩, .string ⟨#[116, 119, 111]⟩, .string ⟨#[102, 101, 119]⟩, .string ⟨#[109, 97, 110, 121]⟩] 9)
  have hr : Rd 1 encT (w.alloc (.cells #[.string ⟨#[122, 101, 114, 111]⟩, .string ⟨#[111, 110, 101]⟩, .string ⟨#[116, 119, 111]⟩, .string ⟨#[102, 101, 119]⟩, .string ⟨#[109, 97, 110, 121]⟩] 9)) (.slice (some ⟨w.heap.size, 0, none⟩) 5 5) clsL := Own1.rd (own_cls w) (fun _ => rfl)
  have HR := Lib.hid hr
  have HB := Lib.hid hb
  clear hr hb
  go_wp2
  go_ret
  exact ⟨⟨_, _, rfl, HR.out⟩, HB.out⟩
set_option maxRecDepth 1000000 in
set_option maxHeartbeats 16000000 in
theorem tableConditions_walk (C : CndC) (cls : Str) (c : Cnd) (v : Value) (hs : Sm cls) (w : World) (hv : RdC w v c) (hl : CndR c) (E : C.E w) :
    Calls Tryz.prog 9 #[.string (ofL cls), v] w fun e w' => e = .returned (.bool true) ∧ Below w.heap.size w w' := by
  unfold Sm at hs
  have HE := Lib.hid E
  have HV := Lib.hid hv
  have HL := Lib.hid hl
  obtain ⟨a, n, hva, _⟩ := hv.slice
  subst hva
  have zs := ofL_size cls
  clear E hv hl
  go_enter Tryz.func9, Tryz.ntmps9
  go_wp2_with fail
  refine (C.awake _ HE.out).mono ?_
  rintro e w1 ⟨rfl, b1⟩
  have B1 := Lib.hid b1
  have E1 := Lib.hid (C.later HE.out b1)
  have V1 := Lib.hid (HV.out.below b1)
  clear b1 HE HV
  by_cases hc : cls.length ≤ 100
  case neg =>
    have h1 : (100 : Int) < (cls.length : Int) := by omega
    go_wp2_with fail
    refine (C.awake _ E1.out).mono ?_
    rintro e w2 ⟨rfl, b2⟩
    have B2 := Lib.hid (st B1.out b2 B1.out.size)
    clear b2
    go_wp2
    go_ret
    exact ⟨rfl, B2.out⟩
  have h1 : ¬ (100 : Int) < (cls.length : Int) := by omega
  go_wp2_with fail
  refine (few_any _ c _ V1.out).mono ?_
  rintro e w2 ⟨⟨bf, rfl, hf⟩, hw2⟩
  obtain rfl := hw2.symm
  have HF := Lib.hid hf
  clear hf hw2
  cases bf with
  | false =>
    go_wp2_with fail
    refine (C.awake _ E1.out).mono ?_
    rintro e w3 ⟨rfl, b3⟩
    have B3 := Lib.hid (st B1.out b3 B1.out.size)
    clear b3
    go_wp2
    go_ret
    exact ⟨rfl, B3.out⟩
  | true =>
    have hc3 : c.length ≤ 30 := by have := HF.out; simpa using this
    have HS := Lib.hid (rule_S hc hc3 HL.out)
    have HCN := Lib.hid (cnt_few hc3 HL.out)
    have BT := Lib.hid ((((B1.out.alloc B1.out.size (.cells #[.string (ofL cls), .slice a c.length n] 56)).alloc (B1.out.alloc B1.out.size _).size (.cells (locC ⟨some ⟨w1.heap.size, 0, none⟩, 1, 1⟩) 51))).alloc ((B1.out.alloc B1.out.size _).alloc (B1.out.alloc B1.out.size _).size _).size (.cells #[.slice (some ⟨w1.heap.size + 1, 0, none⟩) 1 1, .slice none 0 0, .slice none 0 0] 27))
    have bt := (((Below.refl w1.heap.size w1).alloc (Nat.le_refl _) (.cells #[.string (ofL cls), .slice a c.length n] 56)).alloc ((Below.refl w1.heap.size w1).alloc (Nat.le_refl _) _).size (.cells (locC ⟨some ⟨w1.heap.size, 0, none⟩, 1, 1⟩) 51)).alloc (((Below.refl w1.heap.size w1).alloc (Nat.le_refl _) _).alloc ((Below.refl w1.heap.size w1).alloc (Nat.le_refl _) _).size _).size (.cells #[.slice (some ⟨w1.heap.size + 1, 0, none⟩) 1 1, .slice none 0 0, .slice none 0 0] 27)
    have ET := Lib.hid (C.later E1.out bt)
    have VT := Lib.hid (V1.out.below bt)
    have RT := Lib.hid ((rule_rd w1 cls c a n V1.out).below ((Below.refl _ _).alloc (Nat.le_refl _) (.cells #[.slice (some ⟨w1.heap.size + 1, 0, none⟩) 1 1, .slice none 0 0, .slice none 0 0] 27)))
    clear bt B1 E1 V1 HF
    go_wp2_with fail
    refine (C.print _ ⟨some ⟨w1.heap.size + 1, 0, none⟩, 1, 1⟩ ⟨none, 0, 0⟩ ⟨none, 0, 0⟩ _ ET.out RT.out HS.out).mono ?_
    rintro e w2 ⟨⟨s, er, rfl, p1, p2, p3⟩, b2⟩
    have B2 := Lib.hid (BT.out.trans (b2.mono BT.out.size))
    have E2 := Lib.hid (C.later ET.out b2)
    have V2 := Lib.hid (VT.out.below b2)
    have R2 := Lib.hid (RT.out.below b2)
    have K2 := Lib.hid (Blk.below (Blk.new ((w1.alloc (.cells #[.string (ofL cls), .slice a c.length n] 56)).alloc (.cells (locC ⟨some ⟨w1.heap.size, 0, none⟩, 1, 1⟩) 51)) 27 #[.slice (some ⟨w1.heap.size + 1, 0, none⟩) 1 1, .slice none 0 0, .slice none 0 0]) b2)
    have P1 := Lib.hid p1
    have P3 := Lib.hid p3
    clear p1 p2 p3 b2 BT ET VT RT
    have HPR := Lib.hid (refPrint_any c (.slice a c.length n) w2 V2.out HCN.out)
    go_wp2_with fail
    refine HPR.out.mono ?_
    rintro e w3 ⟨rfl, b3⟩
    have B3 := Lib.hid (B2.out.trans (b3.mono B2.out.size))
    have E3 := Lib.hid (C.later E2.out b3)
    have R3 := Lib.hid (R2.out.below b3)
    have K3 := Lib.hid (K2.out.below b3)
    clear b3 B2 E2 R2 K2 HPR
    go_wp2_with fail
    refine (refClasses_any _).mono ?_
    rintro e w4 ⟨⟨ka, kc, rfl, k4⟩, b4⟩
    have B4 := Lib.hid (B3.out.trans (b4.mono B3.out.size))
    have E4 := Lib.hid (C.later E3.out b4)
    have R4 := Lib.hid (R3.out.below b4)
    have K4 := Lib.hid (K3.out.below b4)
    have C4 := Lib.hid k4
    clear b4 B3 E3 R3 K3 k4
    go_wp2_with fail
    go_loopw [10, 45] (fun v10 v45 wr => ∃ k : Nat, k ≤ 5 ∧ v45 = .int .i64 k ∧ v10 = .bool (decide (cls ∈ clsL.take k)) ∧ Below w4.heap.size w4 wr) (fun _ v45 _ => 5 - (intOf v45).toNat)
    case atStart => exact ⟨0, by omega, rfl, by simp, Below.refl _ _⟩
    case round =>
      obtain ⟨k, hk, rfl, rfl, hb⟩ := hrel
      have HB := Lib.hid hb
      have E5 := Lib.hid (C.later E4.out hb)
      have R5 := Lib.hid (R4.out.below hb)
      have K5 := Lib.hid (K4.out.below hb)
      clear hb
      by_cases hlt : k < 5
      · obtain ⟨bk, off, rfl, h0, hx⟩ := (C4.out.below HB.out).some_ k (show k < clsL.length from hlt)
        have h1 : wr.cell? ⟨bk, off + k * 1, none⟩ = some (.string (ofL (clsL[k]'hlt))) := hx 0 _ rfl
        rw [Nat.mul_one] at h1
        have h9 : (k : Int) < 5 := by omega
        obtain ⟨x, hxx⟩ : ∃ x, clsL[k]'hlt = x := ⟨_, rfl⟩
        rw [hxx] at h1
        have HT : Hid (clsL.take (k + 1) = clsL.take k ++ [x]) := Lib.hid ((List.take_succ_eq_append_getElem (show k < clsL.length from hlt)).trans (congrArg (fun z => clsL.take k ++ [z]) hxx))
        clear hx hxx
        obtain ⟨bb, hbb⟩ : ∃ bb, decide (cls ∈ clsL.take k) = bb := ⟨_, rfl⟩
        have HBB := Lib.hid hbb
        rw [hbb]
        clear hbb
        cases bb with
        | true =>
          go_wp2
          go_roundw
          case measure => simp [intOf]; omega
          case rel => exact ⟨k + 1, by omega, by go_num, by rw [HT.out]; have := of_decide_eq_true HBB.out; exact congrArg Value.bool (decide_eq_true (List.mem_append_left _ this)).symm, HB.out⟩
        | false =>
          have hn := of_decide_eq_false HBB.out
          by_cases e : x = cls
          · subst e
            have e1 := (str_self x).1
            have HM : Hid (decide (x ∈ clsL.take (k + 1)) = true) := Lib.hid (decide_eq_true (by rw [HT.out]; simp))
            clear hn
            go_wp2
            go_roundw
            case measure => simp [intOf]; omega
            case rel => exact ⟨k + 1, by omega, by go_num, by rw [HM.out], HB.out⟩
          · have e1 := (str_ne e).1
            have HM : Hid (decide (cls ∈ clsL.take (k + 1)) = false) := Lib.hid (decide_eq_false (by rw [HT.out]; intro hm; rcases List.mem_append.1 hm with h | h; exact hn h; exact e (List.mem_singleton.1 h).symm))
            clear hn
            go_wp2
            go_roundw
            case measure => simp [intOf]; omega
            case rel => exact ⟨k + 1, by omega, by go_num, by rw [HM.out], HB.out⟩
      · obtain rfl : k = 5 := by omega
        have h3 : ¬ (5 : Int) < (5 : Int) := by omega
        have q0 : wr.cell? ⟨w1.heap.size + 1 + 1, 0, none⟩ = some (.slice (some ⟨w1.heap.size + 1, 0, none⟩) 1 1) := by
          have := K5.out.cell 0
          rw [World.size_alloc, World.size_alloc] at this
          exact this
        have q1 : wr.cell? ⟨w1.heap.size + 1 + 1, 1, none⟩ = some (.slice none 0 0) := by
          have := K5.out.cell 1
          rw [World.size_alloc, World.size_alloc] at this
          exact this
        have q2 : wr.cell? ⟨w1.heap.size + 1 + 1, 2, none⟩ = some (.slice none 0 0) := by
          have := K5.out.cell 2
          rw [World.size_alloc, World.size_alloc] at this
          exact this
        have B5 := Lib.hid (B4.out.trans (HB.out.mono B4.out.size))
        rw [show clsL.take 5 = clsL from rfl]
        have HVL := Lib.hid (C.valid wr ⟨some ⟨w1.heap.size + 1, 0, none⟩, 1, 1⟩ ⟨none, 0, 0⟩ ⟨none, 0, 0⟩ _ E5.out R5.out HS.out)
        have HP : Hid (prtR c = if okC c = true then (cndT c, 0) else ([], 1)) := Lib.hid rfl
        obtain ⟨bo, hbo⟩ : ∃ bo, okC c = bo := ⟨_, rfl⟩
        obtain ⟨bk, hbk⟩ : ∃ bk, decide (cls ∈ clsL) = bk := ⟨_, rfl⟩
        have HBO := Lib.hid hbo
        have HBK := Lib.hid hbk
        rw [hbk]
        have s0 : (ofL ([] : Str)).toList = [] := by rw [ByteArray.toList_eq]; rfl
        have HNO : Hid (TabV (ruleTab cls c) ↔ bk = true ∧ bo = true) := Lib.hid (by rw [ruleX_ok, hbo, ← hbk, decide_eq_true_eq])
        have hpr := HP.out
        rw [hbo] at hpr
        clear hbo hbk
        cases bo with
        | false =>
          have hnv : ¬ TabV (ruleTab cls c) := fun h => by have := (HNO.out.1 h).2; cases this
          obtain ⟨rfl, rfl⟩ := P3.out hnv
          have HNV := Lib.hid hnv
          rw [hpr]
          clear hpr hnv
          go_wp2_with fail
          refine HVL.out.mono ?_
          rintro e w5 ⟨⟨vb, rfl, hvb⟩, b5⟩
          obtain rfl : vb = false := by
            cases vb with
            | false => rfl
            | true => exact absurd (hvb.1 rfl) HNV.out
          have B6 := Lib.hid (B5.out.trans (b5.mono B5.out.size))
          clear hvb b5
          go_wp2
          go_ret
          exact ⟨rfl, B6.out⟩
        | true =>
          rw [hpr]
          clear hpr
          cases bk with
          | false =>
            have hnv : ¬ TabV (ruleTab cls c) := fun h => by have := (HNO.out.1 h).1; cases this
            obtain ⟨rfl, rfl⟩ := P3.out hnv
            have HNV := Lib.hid hnv
            clear hnv
            go_wp2_with fail
            refine HVL.out.mono ?_
            rintro e w5 ⟨⟨vb, rfl, hvb⟩, b5⟩
            obtain rfl : vb = false := by
              cases vb with
              | false => rfl
              | true => exact absurd (hvb.1 rfl) HNV.out
            have B6 := Lib.hid (B5.out.trans (b5.mono B5.out.size))
            clear hvb b5
            go_wp2
            go_ret
            exact ⟨rfl, B6.out⟩
          | true =>
            have hcl := cnd_len HBO.out
            have hx := ruleX_tab (cls := cls) HBO.out
            have hlen : (ruleX cls c).length ≤ 1000 := by
              unfold ruleX
              simp only [List.length_append, List.length_cons, List.length_nil]
              omega
            obtain ⟨hs1, rfl⟩ := P1.out (HNO.out.2 ⟨rfl, rfl⟩) (by rw [hx]; omega)
            rw [hx] at hs1
            subst hs1
            obtain ⟨z1, hz1⟩ : ∃ z : Str, [108, 111, 99, 97, 108, 101, 32, 120, 32, 123, 10, 9, 99, 97, 114, 100, 105, 110, 97, 108, 32] ++ cls = z := ⟨_, rfl⟩
            obtain ⟨z2, hz2⟩ : ∃ z : Str, z1 ++ [32, 34] = z := ⟨_, rfl⟩
            obtain ⟨z3, hz3⟩ : ∃ z : Str, z2 ++ cndT c = z := ⟨_, rfl⟩
            have hz4 : z3 ++ [34, 59, 10, 125, 10] = ruleX cls c := by
              subst hz1 hz2 hz3
              unfold ruleX
              simp only [List.append_assoc]
            have l1 : z1.length = 21 + cls.length := by rw [← hz1, List.length_append]; rfl
            have l2 : z2.length = z1.length + 2 := by rw [← hz2, List.length_append]; rfl
            have l3 : z3.length = z2.length + (cndT c).length := by rw [← hz3, List.length_append]
            obtain ⟨xt, hxt⟩ : ∃ z, ruleX cls c = z := ⟨_, rfl⟩
            obtain ⟨ct, hct⟩ : ∃ z, cndT c = z := ⟨_, rfl⟩
            rw [hxt] at hz4 ⊢
            rw [hct] at hz3 l3 hcl ⊢
            have s1 : ∀ wx, (Op.stringOp .add ⟨#[108, 111, 99, 97, 108, 101, 32, 120, 32, 123, 10, 9, 99, 97, 114, 100, 105, 110, 97, 108, 32]⟩ (ofL cls)).run Tryz.prog wx = .ok (.string (ofL z1)) wx := str_add (x := [108, 111, 99, 97, 108, 101, 32, 120, 32, 123, 10, 9, 99, 97, 114, 100, 105, 110, 97, 108, 32]) (y := cls) (by simp only [List.length_cons, List.length_nil]; omega) hz1
            have s2 : ∀ wx, (Op.stringOp .add (ofL z1) ⟨#[32, 34]⟩).run Tryz.prog wx = .ok (.string (ofL z2)) wx := str_add (x := z1) (y := [32, 34]) (by simp only [List.length_cons, List.length_nil]; omega) hz2
            have s3 : ∀ wx, (Op.stringOp .add (ofL z2) (ofL ct)).run Tryz.prog wx = .ok (.string (ofL z3)) wx := str_add (x := z2) (y := ct) (by omega) hz3
            have s4 : ∀ wx, (Op.stringOp .add (ofL z3) ⟨#[34, 59, 10, 125, 10]⟩).run Tryz.prog wx = .ok (.string (ofL xt)) wx := str_add (x := z3) (y := [34, 59, 10, 125, 10]) (by simp only [List.length_cons, List.length_nil]; omega) hz4
            have s5 := (str_self xt).1
            clear hx hlen hcl P1 P3 HP HNO hz1 hz2 hz3 hz4 l1 l2 l3 hxt hct
            go_wp2
            go_ret
            exact ⟨rfl, B5.out⟩
end Go.Proofs.YtpmmchppfmojhaaGreatDoor


/- Of the program of layer 11: isOneOf, pass, Cut at a line feed, skip. -/
namespace Go.Proofs.YtpmmchppfmojhaaGreatDoor
open Go.RowKit
set_option linter.unusedVariables false

theorem isOneOf_any (L : ByteArray) (c : UInt8) (w : World) : Calls Tryz.prog 192 #[.string L, .int .u8 (c.toNat : Int)] w fun e w' => e = .returned (.bool (oneOf L.data.toList c)) ∧ w' = w := by
  have HC := Lib.hid (Tryz.strings_IndexByte L (c.toNat : Int) w)
  rw [show ((c.toNat : Int).toNat.toUInt8) = c by simp] at HC
  obtain ⟨b, hb⟩ : ∃ b, oneOf L.data.toList c = b := ⟨_, rfl⟩
  have HB := Lib.hid hb
  unfold oneOf at hb
  obtain ⟨k, hk⟩ : ∃ k, Lib.indexByte L.data.toList c = k := ⟨_, rfl⟩
  rw [hk] at HC hb
  clear hk
  go_enter Tryz.func192, Tryz.ntmps192
  go_wp2_with fail
  refine HC.out.mono ?_
  rintro e w2 ⟨rfl, hw2⟩
  obtain rfl := hw2.symm
  clear hw2
  go_wp2
  go_ret
  exact ⟨by rw [HB.out]; rfl, rfl⟩
def PaRel (s : ByteArray) (w : World) (K : Nat) (p : UInt8 → Bool) (v1 : Value) (wr : World) : Prop := ∃ k : Nat, v1 = .int .i64 k ∧ k ≤ s.size ∧ Hid (K = k + runN p (s.data.toList.drop k)) ∧ wr = w
set_option maxRecDepth 1000000 in
set_option maxHeartbeats 4000000 in
theorem pass_any (L : List UInt8) (p : UInt8 → Bool) (hp : oneOf L = p) (s : ByteArray) (o : Nat) (ho : o ≤ s.size) (hs : s.size ≤ 9223372036854775807) (w : World) :
    Calls Tryz.prog 140 #[.string s, .int .i64 o, .string (ofL L)] w fun e w' => e = .returned (.int .i64 ((o + runN p (s.data.toList.drop o) : Nat) : Int)) ∧ w' = w := by
  obtain ⟨K, hK⟩ : ∃ K, o + runN p (s.data.toList.drop o) = K := ⟨_, rfl⟩
  rw [hK]
  have HK := Lib.hid hK
  have HONE := Lib.hid (fun c => isOneOf_any (ofL L) c w)
  rw [show (ofL L).data.toList = L from rfl, hp] at HONE
  obtain ⟨X, hX⟩ : ∃ X, ofL L = X := ⟨_, rfl⟩
  rw [hX] at HONE ⊢
  clear hK hp hX
  go_enter Tryz.func140, Tryz.ntmps140
  go_wp2
  go_loopw [1] (fun v1 wr => PaRel s w K p v1 wr) (fun v1 _ => s.size - (intOf v1).toNat)
  case atStart => exact ⟨o, rfl, ho, Lib.hid HK.out.symm, rfl⟩
  case round =>
    rename World => wr
    obtain ⟨k, rfl, hk, HW, hwr⟩ := hrel
    obtain rfl : w = wr := hwr.symm
    clear hwr
    by_cases hlt : k < s.size
    · have HD := Lib.hid (data_drop hlt)
      have h9 : (k : Int) < (s.size : Int) := by omega
      have HO := Lib.hid (HONE.out (s[k]'hlt))
      obtain ⟨b, hb⟩ : ∃ b, p (s[k]'hlt) = b := ⟨_, rfl⟩
      have HB := Lib.hid hb
      rw [hb] at HO
      clear hb
      cases b with
      | true =>
        have HN : Hid (K = (k + 1) + runN p (s.data.toList.drop (k + 1))) := Lib.hid (by rw [HW.out, HD.out, runN, if_pos HB.out]; omega)
        clear HW HD
        go_wp2_with fail
        refine HO.out.mono ?_
        rintro e w2 ⟨rfl, hw2⟩
        obtain rfl := hw2.symm
        clear hw2
        go_wp2
        go_roundw
        case measure => simp [intOf]; omega
        case rel => exact ⟨k + 1, by go_num, by omega, HN, rfl⟩
      | false =>
        have HN : Hid (K = k) := Lib.hid (by rw [HW.out, HD.out, runN, if_neg (by rw [HB.out]; decide)]; rfl)
        clear HW HD
        go_wp2_with fail
        refine HO.out.mono ?_
        rintro e w2 ⟨rfl, hw2⟩
        obtain rfl := hw2.symm
        clear hw2
        go_wp2
        go_ret
        exact ⟨by rw [HN.out]; rfl, rfl⟩
    · have h9 : ¬ (k : Int) < (s.size : Int) := by omega
      have HN : Hid (K = k) := Lib.hid (by rw [HW.out, data_end (by omega)]; rfl)
      clear HW
      go_wp2
      go_ret
      exact ⟨by rw [HN.out]; rfl, rfl⟩
/-! ### Cut at a line feed -/
def CutPost10 (w : World) (s : ByteArray) (e : Ending) (w' : World) : Prop :=
  (∃ B : Value, ∃ b : Bool, e = .returned (.tuple #[.string (ofL (s.data.toList.take (runN noNl s.data.toList))), B, .bool b])) ∧ Below w.heap.size w w'
set_option maxRecDepth 1000000 in
theorem cutIn10_any (s : ByteArray) (hs : s.size ≤ 1099511627776) (w : World) : Calls Tryz.prog 251 #[.string s, .string ⟨#[10]⟩] w (CutPost10 w s) := by
  rcases index_run s.data.toList with ⟨h, hk⟩ | ⟨h, hk⟩
  · have H : Hid (.string s = Value.string (ofL (s.data.toList.take (runN noNl s.data.toList)))) := Lib.hid (by rw [hk, List.take_length, of_data])
    clear hk
    go_enter Tryz.func251, Tryz.ntmps251
    go_wp2_with fail
    refine (Tryz.stringslite_Index_one s 10 _).mono ?_
    rintro e w' ⟨rfl, rfl⟩
    rw [h]
    clear h
    go_wp2
    go_ret3
    exact ⟨⟨_, _, congrArg (fun z => Ending.returned (.tuple #[z, .string ⟨#[]⟩, .bool false])) H.out⟩, Below.refl _ _⟩
  · rw [len_data] at hk
    have H : Hid (s.extract 0 (runN noNl s.data.toList) = (ofL (s.data.toList.take (runN noNl s.data.toList)))) := Lib.hid (by rw [ext_of, List.drop_zero, Nat.sub_zero])
    unfold CutPost10
    obtain ⟨X, hX⟩ : ∃ X, (ofL (s.data.toList.take (runN noNl s.data.toList))) = X := ⟨_, rfl⟩
    rw [hX] at H ⊢
    obtain ⟨k, hk2⟩ : ∃ k, runN noNl s.data.toList = k := ⟨_, rfl⟩
    rw [hk2] at H h hk
    clear hX hk2
    go_enter Tryz.func251, Tryz.ntmps251
    go_wp2_with fail
    refine (Tryz.stringslite_Index_one s 10 _).mono ?_
    rintro e w' ⟨rfl, rfl⟩
    rw [h]
    clear h
    go_wp2_with fail
    go_quiet (fail)
    go_wp2
    go_ret3
    exact ⟨⟨_, _, congrArg (fun z => Ending.returned (.tuple #[.string z, .string (s.extract (k + 1) s.size), .bool true])) H.out⟩, below_drewN (Below.refl _ _) _⟩
theorem cut10_any (s : ByteArray) (hs : s.size ≤ 1099511627776) (w : World) : Calls Tryz.prog 213 #[.string s, .string ⟨#[10]⟩] w (CutPost10 w s) := by
  unfold CutPost10
  have HC := Lib.hid (cutIn10_any s hs)
  unfold CutPost10 at HC
  obtain ⟨X, hX⟩ : ∃ X, (ofL (s.data.toList.take (runN noNl s.data.toList))) = X := ⟨_, rfl⟩
  rw [hX] at HC ⊢
  clear hX
  go_enter Tryz.func213, Tryz.ntmps213
  go_wp2_with fail
  refine (HC.out _).mono ?_
  rintro e w1 ⟨⟨B, b, rfl⟩, D⟩
  have HDD := Lib.hid D
  clear D
  go_wp2
  go_ret3
  exact ⟨⟨_, _, rfl⟩, HDD.out⟩
/-! ### skip -/
def SkpI (s : ByteArray) (w : World) (K : Nat) (v1 : Value) (wr : World) : Prop := ∃ k : Nat, v1 = .int .i64 k ∧ k ≤ s.size ∧ Hid (K = k + skN false (s.data.toList.drop k)) ∧ Hid (∀ c r, s.data.toList.drop k = c :: r → isBlk c = false) ∧ Below w.heap.size w wr
set_option maxRecDepth 1000000 in
set_option maxHeartbeats 4000000 in
theorem skip_p (s : ByteArray) (o : Nat) (ho : o ≤ s.size) (hs : s.size ≤ 10000000) (w : World) :
    Calls Tryz.prog 156 #[.string s, .int .i64 o] w fun e w' => e = .returned (.int .i64 ((o + skN false (s.data.toList.drop o) : Nat) : Int)) ∧ Below w.heap.size w w' := by
  have hsi : (s.size : Int) ≤ 10000000 := by omega
  obtain ⟨K, hK⟩ : ∃ K, o + skN false (s.data.toList.drop o) = K := ⟨_, rfl⟩
  rw [hK]
  have HP := Lib.hid (fun o (ho : o ≤ s.size) w => pass_any blanksL isBlk run_blank s o ho (by omega) w)
  have HPL := Lib.hid (fun (o : Nat) (ho : o ≤ s.size) => show o + runN isBlk (s.data.toList.drop o) ≤ s.size by have := runN_le isBlk (s.data.toList.drop o); rw [List.length_drop, len_data] at this; omega)
  have HP0 := Lib.hid (HP.out o ho w)
  have HK0 : Hid (K = (o + runN isBlk (s.data.toList.drop o)) + skN false (s.data.toList.drop (o + runN isBlk (s.data.toList.drop o)))) := Lib.hid (by have := sk_run (s.data.toList.drop o); rw [List.drop_drop] at this; omega)
  have HH0 : Hid (∀ c r, s.data.toList.drop (o + runN isBlk (s.data.toList.drop o)) = c :: r → isBlk c = false) := Lib.hid (fun c r h => runN_head isBlk (s.data.toList.drop o) c r (by rw [List.drop_drop]; exact h))
  have HL0 := Lib.hid (HPL.out o ho)
  obtain ⟨o1, ho1⟩ : ∃ o1, o + runN isBlk (s.data.toList.drop o) = o1 := ⟨_, rfl⟩
  rw [ho1] at HP0 HK0 HH0 HL0
  clear hK ho1
  go_enter Tryz.func156, Tryz.ntmps156
  go_wp2_with fail
  refine HP0.out.mono ?_
  rintro e w1 ⟨rfl, hw1⟩
  obtain rfl := hw1.symm
  clear hw1 HP0
  go_wp2_with fail
  go_loopw [1] (fun v1 wr => SkpI s w K v1 wr) (fun v1 _ => s.size - (intOf v1).toNat)
  case atStart => exact ⟨o1, rfl, HL0.out, HK0, HH0, Below.refl _ _⟩
  case round =>
    rename World => wr
    obtain ⟨k, rfl, hk, HW, HHD, hb⟩ := hrel
    have HB := Lib.hid hb
    clear hb HK0 HH0 HL0
    by_cases hlt : k < s.size
    · have HD := Lib.hid (data_drop hlt)
      have h9 : (k : Int) < (s.size : Int) := by omega
      obtain ⟨c, hc⟩ : ∃ c, s[k]'hlt = c := ⟨_, rfl⟩
      rw [hc] at HD
      have hcb : (s[k]'hlt).toNat = c.toNat := by rw [hc]
      clear hc
      by_cases h35 : c.toNat = 35
      · have t1 : ((((s[k]'hlt).toNat : Nat) : Int) == 35) = true := by rw [beq_iff_eq]; omega
        have cf := cut_from s (show k ≤ s.size by omega) (show (k : Int) = ((k : Nat) : Int) from rfl)
        rw [ext_end] at cf
        have HSK := Lib.hid (@sk_hash c (s.data.toList.drop (k + 1)) h35)
        rw [← HD.out] at HSK
        have hrl : (s.data.toList.drop k).length = s.size - k := by rw [List.length_drop, len_data]
        have hr1 : 1 ≤ runN noNl (s.data.toList.drop k) := by rw [HD.out, runN, if_pos (by unfold noNl; simp [h35])]; omega
        have hr2 := runN_le noNl (s.data.toList.drop k)
        have HCU := Lib.hid (fun w => cut10_any (ofL (s.data.toList.drop k)) (by rw [ofL_size, hrl]; omega) w)
        unfold CutPost10 at HCU
        rw [show (ofL (s.data.toList.drop k)).data.toList = s.data.toList.drop k from rfl] at HCU
        have HHN := Lib.hid (fun c r => runN_head isBlk (s.data.toList.drop (k + runN noNl (s.data.toList.drop k))) c r)
        simp only [List.drop_drop] at HSK HHN
        have hz0 : (ofL ((s.data.toList.drop k).take (runN noNl (s.data.toList.drop k)))).size = runN noNl (s.data.toList.drop k) := by rw [ofL_size, List.length_take]; omega
        obtain ⟨X, hX⟩ : ∃ X, ofL ((s.data.toList.drop k).take (runN noNl (s.data.toList.drop k))) = X := ⟨_, rfl⟩
        rw [hX] at HCU hz0
        obtain ⟨n, hn⟩ : ∃ n, runN noNl (s.data.toList.drop k) = n := ⟨_, rfl⟩
        rw [hn] at hr1 hr2 HSK HHN hz0
        obtain ⟨R, hR⟩ : ∃ R, ofL (s.data.toList.drop k) = R := ⟨_, rfl⟩
        rw [hR] at cf HCU
        have hkn : k + n ≤ s.size := by omega
        have HP1 := Lib.hid (fun w => HP.out (k + n) hkn w)
        have HPL1 := Lib.hid (HPL.out (k + n) hkn)
        have HSZ : Hid (X.size = n) := Lib.hid hz0
        have q1 : (k : Int) + (X.size : Int) = ((k + n : Nat) : Int) := by rw [hz0]; omega
        have HW2 : Hid (K = (k + n + runN isBlk (s.data.toList.drop (k + n))) + skN false (s.data.toList.drop (k + n + runN isBlk (s.data.toList.drop (k + n))))) := Lib.hid (by
          rw [HW.out, HSK.out, show k + (n + runN isBlk (s.data.toList.drop (k + n))) = k + n + runN isBlk (s.data.toList.drop (k + n)) by omega]; omega)
        obtain ⟨o', ho'⟩ : ∃ o', k + n + runN isBlk (s.data.toList.drop (k + n)) = o' := ⟨_, rfl⟩
        have HOO : Hid (k + 1 ≤ o') := Lib.hid (by omega)
        rw [ho'] at HP1 HPL1 HW2
        have HHN2 : Hid (∀ c r, s.data.toList.drop o' = c :: r → isBlk c = false) := Lib.hid (by rw [← ho']; exact HHN.out)
        obtain ⟨kn, hkn2⟩ : ∃ kn, k + n = kn := ⟨_, rfl⟩
        rw [hkn2] at HP1 q1
        have q2 : (X.size : Int) ≤ 10000000 := by omega
        clear hX hn hR ho' HHN HSK hz0 hkn hr1 hr2 hrl HD HW HHD hcb h35 hkn2
        go_wp2_with fail
        refine (HCU.out _).mono ?_
        rintro e w2 ⟨⟨B, b, rfl⟩, b2⟩
        have HB2 := Lib.hid b2
        clear b2
        go_wp2_with fail
        refine (HP1.out _).mono ?_
        rintro e w3 ⟨rfl, hw3⟩
        obtain rfl := hw3.symm
        clear hw3
        go_wp2
        go_roundw
        case measure => (have := HOO.out; have := HPL1.out; simp [intOf]; omega)
        case rel => exact ⟨o', rfl, HPL1.out, HW2, HHN2, HB.out.trans (HB2.out.mono HB.out.size)⟩
      · have t1 : ((((s[k]'hlt).toNat : Nat) : Int) == 35) = false := by rw [beq_eq_false_iff_ne]; omega
        have HN : Hid (K = k) := Lib.hid (by rw [HW.out, HD.out, sk_none (HHD.out _ _ HD.out) h35]; rfl)
        clear HW HD HHD hcb h35
        go_wp2
        go_ret
        exact ⟨by rw [HN.out]; rfl, HB.out⟩
    · have h9 : ¬ (k : Int) < (s.size : Int) := by omega
      have HN : Hid (K = k) := Lib.hid (by rw [HW.out, data_end (by omega)]; rfl)
      clear HW
      go_wp2
      go_ret
      exact ⟨by rw [HN.out]; rfl, HB.out⟩
end Go.Proofs.YtpmmchppfmojhaaGreatDoor


/- Of the program of layer 11: failure, readWord, readString, read. -/
namespace Go.Proofs.YtpmmchppfmojhaaGreatDoor
open Go.RowKit
set_option linter.unusedVariables false

def ReadP (o : Nat) (r : TRes) (w : World) (e : Ending) (w' : World) : Prop :=
  (match r with
    | .bad d er => e = .returned (.tuple #[.agg #[.int .i64 0, .string ⟨#[]⟩, .int .i64 ((o + d : Nat) : Int)], .int .i64 0, .int .i64 (er : Int)])
    | .tok kd tx n => e = .returned (.tuple #[.agg #[.int .i64 (kd : Int), .string (ofL tx), .int .i64 (o : Int)], .int .i64 ((o + n : Nat) : Int), .int .i64 0])) ∧ Below w.heap.size w w'

theorem ret_read {a c u e a' c' u' e' : Int} {x x' : ByteArray} (h1 : a = a') (h2 : x = x') (h3 : c = c') (h4 : u = u') (h5 : e = e') : Ending.returned (.tuple #[.agg #[.int .i64 a, .string x, .int .i64 c], .int .i64 u, .int .i64 e]) = Ending.returned (.tuple #[.agg #[.int .i64 a', .string x', .int .i64 c'], .int .i64 u', .int .i64 e']) := by
  subst h1 h2 h3 h4 h5; rfl
theorem res_failure {W : World} {tm : Array Value} {B : Nat} {t : TypeId} {a b c v u : Value} (t2 : tm[4]?.getD undef = .pointer (some ⟨B, 0, none⟩)) (t3 : tm[5]?.getD undef = v) (t4 : tm[6]?.getD undef = u) (h : Blk B t #[a, b, c] W) :
    (results Tryz.f216 tm).run Tryz.prog W = .ok (.tuple #[.agg #[a, b, c], v, u]) W := by
  have a0 : W.cell? ⟨B, 0, none⟩ = some a := h.cell 0
  have a1 : W.cell? ⟨B, 1, none⟩ = some b := h.cell 1
  have a2 : W.cell? ⟨B, 2, none⟩ = some c := h.cell 2
  simp [results, Tryz.f216, go_sem, t2, t3, t4, a0, a1, a2]
theorem res_readWord {W : World} {tm : Array Value} {B : Nat} {t : TypeId} {a b c v u : Value} (t2 : tm[4]?.getD undef = .pointer (some ⟨B, 0, none⟩)) (t3 : tm[5]?.getD undef = v) (t4 : tm[6]?.getD undef = u) (h : Blk B t #[a, b, c] W) :
    (results Tryz.f214 tm).run Tryz.prog W = .ok (.tuple #[.agg #[a, b, c], v, u]) W := by
  have a0 : W.cell? ⟨B, 0, none⟩ = some a := h.cell 0
  have a1 : W.cell? ⟨B, 1, none⟩ = some b := h.cell 1
  have a2 : W.cell? ⟨B, 2, none⟩ = some c := h.cell 2
  simp [results, Tryz.f214, go_sem, t2, t3, t4, a0, a1, a2]
theorem res_readString {W : World} {tm : Array Value} {B : Nat} {t : TypeId} {a b c v u : Value} (t2 : tm[4]?.getD undef = .pointer (some ⟨B, 0, none⟩)) (t3 : tm[5]?.getD undef = v) (t4 : tm[6]?.getD undef = u) (h : Blk B t #[a, b, c] W) :
    (results Tryz.f215 tm).run Tryz.prog W = .ok (.tuple #[.agg #[a, b, c], v, u]) W := by
  have a0 : W.cell? ⟨B, 0, none⟩ = some a := h.cell 0
  have a1 : W.cell? ⟨B, 1, none⟩ = some b := h.cell 1
  have a2 : W.cell? ⟨B, 2, none⟩ = some c := h.cell 2
  simp [results, Tryz.f215, go_sem, t2, t3, t4, a0, a1, a2]
theorem res_read {W : World} {tm : Array Value} {B : Nat} {t : TypeId} {a b c v u : Value} (t2 : tm[4]?.getD undef = .pointer (some ⟨B, 0, none⟩)) (t3 : tm[5]?.getD undef = v) (t4 : tm[6]?.getD undef = u) (h : Blk B t #[a, b, c] W) :
    (results Tryz.f157 tm).run Tryz.prog W = .ok (.tuple #[.agg #[a, b, c], v, u]) W := by
  have a0 : W.cell? ⟨B, 0, none⟩ = some a := h.cell 0
  have a1 : W.cell? ⟨B, 1, none⟩ = some b := h.cell 1
  have a2 : W.cell? ⟨B, 2, none⟩ = some c := h.cell 2
  simp [results, Tryz.f157, go_sem, t2, t3, t4, a0, a1, a2]
theorem failure_any (o er : Int) (w : World) :
    Calls Tryz.prog 216 #[.int .i64 o, .int .i64 er] w fun e w' => e = .returned (.tuple #[.agg #[.int .i64 0, .string ⟨#[]⟩, .int .i64 o], .int .i64 0, .int .i64 er]) ∧ Below w.heap.size w w' := by
  have HK := Blk.new w 84 #[.int .i64 0, .string ⟨#[]⟩, .int .i64 0]
  have HFB := Lib.hid (put3_blk (n := w.heap.size) (a' := .int .i64 0) (b' := .string ⟨#[]⟩) (c' := .int .i64 o) HK (Nat.le_refl _))
  have HW1 : Hid (Below w.heap.size w (w.alloc (.cells #[.int .i64 0, .string ⟨#[]⟩, .int .i64 0] 84))) := Lib.hid ((Below.refl _ _).alloc (Nat.le_refl _) _)
  have xf := HK.frozen
  have y0 : (w.alloc (.cells #[.int .i64 0, .string ⟨#[]⟩, .int .i64 0] 84)).cell? ⟨w.heap.size, 0, none⟩ = some (.int .i64 0) := HK.cell 0
  have y1 : (w.alloc (.cells #[.int .i64 0, .string ⟨#[]⟩, .int .i64 0] 84)).cell? ⟨w.heap.size, 1, none⟩ = some (.string ⟨#[]⟩) := HK.cell 1
  have y2 : (w.alloc (.cells #[.int .i64 0, .string ⟨#[]⟩, .int .i64 0] 84)).cell? ⟨w.heap.size, 2, none⟩ = some (.int .i64 0) := HK.cell 2
  obtain ⟨W1, hW1⟩ : ∃ W1, w.alloc (.cells #[.int .i64 0, .string ⟨#[]⟩, .int .i64 0] 84) = W1 := ⟨_, rfl⟩
  rw [hW1] at HFB HW1 xf y0 y1 y2
  have HW := Lib.hid hW1
  clear hW1 HK
  go_enter Tryz.func216, Tryz.ntmps216
  go_upto_region 1 with fail
  rw [HW.out]
  clear HW
  go_wp2
  exact bodyPost_ret (res_failure rfl rfl rfl HFB.out.1) rfl ⟨rfl, HW1.out.trans HFB.out.2⟩
/-- What the callee's own results look like behind a store of them. -/
theorem put_after {w W1 w2 : World} {g : Nat} {t : TypeId} {a b c a' b' c' : Value} (h1 : Below w.heap.size w W1) (hk : Blk g t #[a, b, c] W1) (hg : w.heap.size = g) (h2 : Below W1.heap.size W1 w2) :
    Blk g t #[a', b', c'] (put3 w2 g a' b' c') ∧ Below w.heap.size w (put3 w2 g a' b' c') := by
  obtain ⟨p1, p2⟩ := put3_blk (n := w.heap.size) (a' := a') (b' := b') (c' := c') (Blk.below hk h2) (by omega)
  exact ⟨p1, (h1.trans (h2.mono h1.size)).trans p2⟩
theorem pass_word (s : ByteArray) (o : Nat) (ho : o ≤ s.size) (hs : s.size ≤ 9223372036854775807) (w : World) :
    Calls Tryz.prog 140 #[.string s, .int .i64 o, .string (⟨#[65, 66, 67, 68, 69, 70, 71, 72, 73, 74, 75, 76, 77, 78, 79, 80, 81, 82, 83, 84, 85, 86, 87, 88, 89, 90, 97, 98, 99, 100, 101, 102, 103, 104, 105, 106, 107, 108, 109, 110, 111, 112, 113, 114, 115, 116, 117, 118, 119, 120, 121, 122, 48, 49, 50, 51, 52, 53, 54, 55, 56, 57, 45, 95]⟩ : ByteArray)] w fun e w' => e = .returned (.int .i64 ((o + wordN (s.data.toList.drop o) : Nat) : Int)) ∧ w' = w := by
  rw [wordN_run]
  exact pass_any inWordsL isPart run_word s o ho hs w
theorem oneOf_part (c : UInt8) (w : World) : Calls Tryz.prog 192 #[.string (⟨#[65, 66, 67, 68, 69, 70, 71, 72, 73, 74, 75, 76, 77, 78, 79, 80, 81, 82, 83, 84, 85, 86, 87, 88, 89, 90, 97, 98, 99, 100, 101, 102, 103, 104, 105, 106, 107, 108, 109, 110, 111, 112, 113, 114, 115, 116, 117, 118, 119, 120, 121, 122, 48, 49, 50, 51, 52, 53, 54, 55, 56, 57, 45, 95]⟩ : ByteArray), .int .u8 (c.toNat : Int)] w fun e w' => e = .returned (.bool (isPart c)) ∧ w' = w := by
  rw [← oneOf_word]
  exact isOneOf_any (ofL inWordsL) c w
theorem oneOf_mk (c : UInt8) (w : World) : Calls Tryz.prog 192 #[.string ⟨#[123, 125, 59]⟩, .int .u8 (c.toNat : Int)] w fun e w' => e = .returned (.bool (isMk c)) ∧ w' = w := by
  rw [← oneOf_mark]
  exact isOneOf_any (ofL marksL) c w
set_option maxRecDepth 1000000 in
set_option maxHeartbeats 4000000 in
theorem readWord_any (s : ByteArray) (o : Nat) (ho : o ≤ s.size) (hs : s.size ≤ 10000000) (w : World) :
    Calls Tryz.prog 214 #[.string s, .int .i64 o] w (ReadP o (if 40 < wordN (s.data.toList.drop o) then .bad 0 6 else .tok 1 ((s.data.toList.drop o).take (wordN (s.data.toList.drop o))) (wordN (s.data.toList.drop o))) w) := by
  have hsi : (s.size : Int) ≤ 10000000 := by omega
  have HP := Lib.hid (pass_word s o ho (by omega))
  have hl := wordN_le (s.data.toList.drop o)
  rw [List.length_drop, len_data] at hl
  have HEX := Lib.hid (ext_of s o (o + wordN (s.data.toList.drop o)))
  obtain ⟨n, hn⟩ : ∃ n, wordN (s.data.toList.drop o) = n := ⟨_, rfl⟩
  rw [hn] at HP hl HEX ⊢
  have hex := HEX.out
  rw [show o + n - o = n by omega] at hex
  have cm := cut_mid s (show o ≤ o + n by omega) (show o + n ≤ s.size by omega) (show (o : Int) = ((o : Nat) : Int) from rfl) (show ((o + n : Nat) : Int) = ((o + n : Nat) : Int) from rfl)
  rw [hex] at cm
  obtain ⟨X, hX⟩ : ∃ X, (s.data.toList.drop o).take n = X := ⟨_, rfl⟩
  rw [hX] at cm ⊢
  obtain ⟨Y, hY⟩ : ∃ Y, ofL X = Y := ⟨_, rfl⟩
  rw [hY] at cm
  have HY := Lib.hid hY
  obtain ⟨on, hon⟩ : ∃ x, o + n = x := ⟨_, rfl⟩
  rw [hon] at HP cm
  have HON := Lib.hid hon
  have q1 : (on : Int) - (o : Int) = (n : Int) := by omega
  have q2 : (on : Int) ≤ 10000000 := by omega
  have q3 : (o : Int) ≤ (on : Int) := by omega
  obtain ⟨W1, hW1⟩ : ∃ W1, w.alloc (.cells #[.int .i64 0, .string ⟨#[]⟩, .int .i64 0] 84) = W1 := ⟨_, rfl⟩
  have HK : Hid (Blk w.heap.size 84 #[.int .i64 0, .string ⟨#[]⟩, .int .i64 0] W1) := Lib.hid (by rw [← hW1]; exact Blk.new _ _ _)
  have HW1 : Hid (Below w.heap.size w W1) := Lib.hid (by rw [← hW1]; exact (Below.refl _ _).alloc (Nat.le_refl _) _)
  have HW := Lib.hid hW1
  obtain ⟨g, hg⟩ : ∃ g, w.heap.size = g := ⟨_, rfl⟩
  have HG := Lib.hid hg
  rw [hg] at HK
  clear hW1 hg
  clear hn hX hY hex HEX hon hl
  by_cases h40 : 40 < n
  · rw [if_pos h40]
    have z1 : decide ((40 : Int) < (n : Int)) = true := decide_eq_true (by omega)
    have z2 : decide (40 < n) = true := decide_eq_true h40
    clear h40 cm
    go_enter Tryz.func214, Tryz.ntmps214
    go_upto_region 1 with fail
    rw [HW.out, HG.out]
    clear HW
    go_wp2_with fail
    refine (HP.out _).mono ?_
    rintro e w2 ⟨rfl, hw2⟩
    obtain rfl := hw2.symm
    clear hw2 HP
    go_wp2_with fail
    refine (failure_any _ _ _).mono ?_
    rintro e w3 ⟨rfl, b3⟩
    have HFB := Lib.hid (put_after (a' := .int .i64 0) (b' := .string ⟨#[]⟩) (c' := .int .i64 (o : Int)) HW1.out HK.out HG.out b3)
    have KR := Lib.hid (Blk.below HK.out b3)
    have xf := KR.out.frozen
    have y0 : w3.cell? ⟨g, 0, none⟩ = some (.int .i64 0) := KR.out.cell 0
    have y1 : w3.cell? ⟨g, 1, none⟩ = some (.string ⟨#[]⟩) := KR.out.cell 1
    have y2 : w3.cell? ⟨g, 2, none⟩ = some (.int .i64 0) := KR.out.cell 2
    clear b3
    go_wp2
    exact bodyPost_ret (res_readWord rfl rfl rfl HFB.out.1) rfl ⟨rfl, HFB.out.2⟩
  · rw [if_neg h40]
    have z1 : decide ((40 : Int) < (n : Int)) = false := decide_eq_false (by omega)
    have z2 : decide (40 < n) = false := decide_eq_false h40
    have HFB := Lib.hid (put_after (a' := .int .i64 1) (b' := .string Y) (c' := .int .i64 (o : Int)) HW1.out HK.out HG.out (Below.refl _ _))
    have xf := HK.out.frozen
    have y0 : W1.cell? ⟨g, 0, none⟩ = some (.int .i64 0) := HK.out.cell 0
    have y1 : W1.cell? ⟨g, 1, none⟩ = some (.string ⟨#[]⟩) := HK.out.cell 1
    have y2 : W1.cell? ⟨g, 2, none⟩ = some (.int .i64 0) := HK.out.cell 2
    clear h40
    go_enter Tryz.func214, Tryz.ntmps214
    go_upto_region 1 with fail
    rw [HW.out, HG.out]
    clear HW
    go_wp2_with fail
    refine (HP.out _).mono ?_
    rintro e w2 ⟨rfl, hw2⟩
    obtain rfl := hw2.symm
    clear hw2 HP
    go_wp2
    exact bodyPost_ret (res_readWord rfl rfl rfl HFB.out.1) rfl (by show ReadP o _ w _ _; exact ⟨ret_read rfl HY.out.symm rfl (by have := HON.out; omega) rfl, HFB.out.2⟩)
set_option maxRecDepth 1000000 in
set_option maxHeartbeats 8000000 in
theorem readString_any (s : ByteArray) (o : Nat) (ho : o < s.size) (hs : s.size ≤ 10000000) (w : World) (E : Env w) :
    Calls Tryz.prog 215 #[.string s, .int .i64 o] w (ReadP o (quoR (s.data.toList.drop (o + 1))) w) := by
  have hsi : (s.size : Int) ≤ 10000000 := by omega
  have e1 : (o : Int) + 1 = ((o + 1 : Nat) : Int) := by omega
  have cf := cut_from s (show o + 1 ≤ s.size by omega) (show ((o : Int) + 1) = ((o + 1 : Nat) : Int) by omega)
  have hdl : (s.data.toList.drop (o + 1)).length = s.size - (o + 1) := by rw [List.length_drop, len_data]
  have HMID := Lib.hid (fun k (hk : o + 1 + k ≤ s.size) => cut_mid s (show o + 1 ≤ o + 1 + k by omega) hk (show ((o : Int) + 1) = ((o + 1 : Nat) : Int) by omega) (show ((o : Int) + 1 + (k : Int)) = ((o + 1 + k : Nat) : Int) by omega))
  have HEX := Lib.hid (fun k => ext_of s (o + 1) (o + 1 + k))
  rw [ext_end] at cf
  obtain ⟨l, hl⟩ : ∃ l, s.data.toList.drop (o + 1) = l := ⟨_, rfl⟩
  rw [hl] at cf hdl HEX ⊢
  have HLT := Lib.hid (fun k => @endF_lt 2 34 l.length l k (Nat.le_refl _))
  have HLN := Lib.hid hdl
  have HEND := Lib.hid (fun w => end_st 2 (ofL l) 34 w (by rw [ofL_size]; omega) (.inr (.inl rfl)))
  rw [show (ofL l).data.toList = l from rfl] at HEND
  obtain ⟨EN, hEN⟩ : ∃ o, endF 2 34 l = o := ⟨_, rfl⟩
  rw [hEN] at HEND HLT
  have HENE := Lib.hid hEN
  have HE1 := Lib.hid E
  obtain ⟨W1, hW1⟩ : ∃ W1, w.alloc (.cells #[.int .i64 0, .string ⟨#[]⟩, .int .i64 0] 84) = W1 := ⟨_, rfl⟩
  have HK : Hid (Blk w.heap.size 84 #[.int .i64 0, .string ⟨#[]⟩, .int .i64 0] W1) := Lib.hid (by rw [← hW1]; exact Blk.new _ _ _)
  have HW1 : Hid (Below w.heap.size w W1) := Lib.hid (by rw [← hW1]; exact (Below.refl _ _).alloc (Nat.le_refl _) _)
  have HW := Lib.hid hW1
  obtain ⟨g, hg⟩ : ∃ g, w.heap.size = g := ⟨_, rfl⟩
  have HG := Lib.hid hg
  rw [hg] at HK
  clear hW1 hg
  clear hl hdl hEN e1 E
  cases EN with
  | none =>
    have HR : Hid (quoR l = .bad 0 3) := Lib.hid (by unfold quoR; rw [HENE.out])
    go_enter Tryz.func215, Tryz.ntmps215
    go_upto_region 1 with fail
    rw [HW.out, HG.out]
    clear HW
    go_wp2_with fail
    refine (HEND.out _).mono ?_
    rintro e w2 ⟨rfl, hw2⟩
    obtain rfl := hw2.symm
    clear hw2
    go_wp2_with fail
    refine (failure_any _ _ _).mono ?_
    rintro e w9 ⟨rfl, b9⟩
    have HFB := Lib.hid (put_after (a' := .int .i64 0) (b' := .string ⟨#[]⟩) (c' := .int .i64 ((o : Int))) HW1.out HK.out HG.out b9)
    have KR := Lib.hid (Blk.below HK.out b9)
    have xf := KR.out.frozen
    have y0 : w9.cell? ⟨g, 0, none⟩ = some (.int .i64 0) := KR.out.cell 0
    have y1 : w9.cell? ⟨g, 1, none⟩ = some (.string ⟨#[]⟩) := KR.out.cell 1
    have y2 : w9.cell? ⟨g, 2, none⟩ = some (.int .i64 0) := KR.out.cell 2
    clear b9
    go_wp2
    exact bodyPost_ret (res_readString rfl rfl rfl HFB.out.1) rfl (by show ReadP o (quoR l) w _ _; rw [HR.out]; exact ⟨ret_read rfl rfl (by omega) rfl rfl, HFB.out.2⟩)
  | some k =>
    have hk : k < l.length := endF_lt l.length l k (Nat.le_refl _) HENE.out
    have hks : o + 1 + k ≤ s.size := by have := HLN.out; omega
    have cm := HMID.out k hks
    have hex := HEX.out k
    rw [show o + 1 + k - (o + 1) = k by omega] at hex
    rw [hex] at cm
    have hml : (l.take k).length ≤ 10000000 := by rw [List.length_take]; omega
    have HR0 : Hid (quoR l = if (un 2 (l.take k)).1 = false then .bad (1 + (un 2 (l.take k)).2.2) 3 else if 400 < (un 2 (l.take k)).2.1.length then .bad 0 6 else if vld (un 2 (l.take k)).2.1 = false then .bad 0 4 else .tok 2 (un 2 (l.take k)).2.1 (k + 2)) := Lib.hid (by unfold quoR; rw [HENE.out])
    have HUB := Lib.hid (un_le 2 (l.take k).length (l.take k) (Nat.le_refl _))
    obtain ⟨m, hm⟩ : ∃ m, l.take k = m := ⟨_, rfl⟩
    rw [hm] at cm hml HR0 HUB
    have HUN := Lib.hid (fun w E => unescape_st 2 (ofL m) w E (by rw [ofL_size]; omega) (.inr (.inl rfl)))
    rw [show (ofL m).data.toList = m from rfl] at HUN
    obtain ⟨U, hU⟩ : ∃ u, un 2 m = u := ⟨_, rfl⟩
    rw [hU] at HUN HR0 HUB
    obtain ⟨ub, ut, uk⟩ := U
    have hut : ut.length ≤ 40000000 := by have := HUB.out.1; dsimp only at this; omega
    have huk : uk ≤ 10000000 := by have := HUB.out.2; dsimp only at this; omega
    have HVA := Lib.hid (fun w => valid_any (ofL ut) w (by rw [ofL_size]; omega))
    rw [show (ofL ut).data.toList = ut from rfl] at HVA
    have huz : (ofL ut).size = ut.length := ofL_size ut
    have ez : ((endV 0 (some k) : Int)) = (k : Int) := by simp [endV]
    rw [ez] at HEND
    have z0 := HK.out.lt
    have HEW : Hid (Env W1) := Lib.hid (HE1.out.below HW1.out)
    have hki : (k : Int) ≤ 10000000 := by omega
    clear hU hm hex HMID HEX HLT HLN HENE hk HUB hml ez HE1
    go_enter Tryz.func215, Tryz.ntmps215
    go_upto_region 1 with fail
    rw [HW.out, HG.out]
    clear HW
    go_wp2_with fail
    refine (HEND.out _).mono ?_
    rintro e w2 ⟨rfl, hw2⟩
    obtain rfl := hw2.symm
    clear hw2
    go_wp2_with fail
    refine (HUN.out _ HEW.out).mono ?_
    rintro e w2 ⟨rfl, b2⟩
    have HB2 : Hid (Below w.heap.size w w2) := Lib.hid (HW1.out.trans (b2.mono HW1.out.size))
    have KR2 := Lib.hid (Blk.below HK.out b2)
    clear b2 HK HW1 HEW
    cases ub with
    | false =>
      have HR : Hid (quoR l = .bad (1 + uk) 3) := Lib.hid (by rw [HR0.out, if_pos rfl])
      clear HR0
      go_wp2_with fail
      refine (failure_any _ _ _).mono ?_
      rintro e w9 ⟨rfl, b9⟩
      have HFB := Lib.hid (put_after (a' := .int .i64 0) (b' := .string ⟨#[]⟩) (c' := .int .i64 ((o : Int) + 1 + (uk : Int))) HB2.out KR2.out HG.out b9)
      have KR := Lib.hid (Blk.below KR2.out b9)
      have xf := KR.out.frozen
      have y0 : w9.cell? ⟨g, 0, none⟩ = some (.int .i64 0) := KR.out.cell 0
      have y1 : w9.cell? ⟨g, 1, none⟩ = some (.string ⟨#[]⟩) := KR.out.cell 1
      have y2 : w9.cell? ⟨g, 2, none⟩ = some (.int .i64 0) := KR.out.cell 2
      clear b9
      go_wp2
      exact bodyPost_ret (res_readString rfl rfl rfl HFB.out.1) rfl (by show ReadP o (quoR l) w _ _; rw [HR.out]; exact ⟨ret_read rfl rfl (by omega) rfl rfl, HFB.out.2⟩)
    | true =>
      have HR1 : Hid (quoR l = if 400 < ut.length then .bad 0 6 else if vld ut = false then .bad 0 4 else .tok 2 ut (k + 2)) := Lib.hid (by rw [HR0.out, if_neg (by decide)])
      clear HR0
      by_cases h400 : 400 < ut.length
      · have HR : Hid (quoR l = .bad 0 6) := Lib.hid (by rw [HR1.out, if_pos h400])
        have z1 : decide ((400 : Int) < (ut.length : Int)) = true := decide_eq_true (by omega)
        have z2 : decide (400 < ut.length) = true := decide_eq_true (by omega)
        clear HR1 h400 huz
        go_wp2_with fail
        refine (failure_any _ _ _).mono ?_
        rintro e w9 ⟨rfl, b9⟩
        have HFB := Lib.hid (put_after (a' := .int .i64 0) (b' := .string ⟨#[]⟩) (c' := .int .i64 ((o : Int))) HB2.out KR2.out HG.out b9)
        have KR := Lib.hid (Blk.below KR2.out b9)
        have xf := KR.out.frozen
        have y0 : w9.cell? ⟨g, 0, none⟩ = some (.int .i64 0) := KR.out.cell 0
        have y1 : w9.cell? ⟨g, 1, none⟩ = some (.string ⟨#[]⟩) := KR.out.cell 1
        have y2 : w9.cell? ⟨g, 2, none⟩ = some (.int .i64 0) := KR.out.cell 2
        clear b9
        go_wp2
        exact bodyPost_ret (res_readString rfl rfl rfl HFB.out.1) rfl (by show ReadP o (quoR l) w _ _; rw [HR.out]; exact ⟨ret_read rfl rfl (by omega) rfl rfl, HFB.out.2⟩)
      · have z1 : decide ((400 : Int) < (ut.length : Int)) = false := decide_eq_false (by omega)
        have z2 : decide (400 < ut.length) = false := decide_eq_false (by omega)
        have HR2 : Hid (quoR l = if vld ut = false then .bad 0 4 else .tok 2 ut (k + 2)) := Lib.hid (by rw [HR1.out, if_neg h400])
        clear HR1 h400 huz
        obtain ⟨vb, hvb⟩ : ∃ b, vld ut = b := ⟨_, rfl⟩
        rw [hvb] at HVA HR2
        clear hvb
        go_wp2_with fail
        refine (HVA.out _).mono ?_
        rintro e w3 ⟨rfl, b3⟩
        have KR3 := Lib.hid (Blk.below KR2.out b3)
        have HB3 : Hid (Below w.heap.size w w3) := Lib.hid (HB2.out.trans (b3.mono HB2.out.size))
        clear b3 KR2 HB2
        cases vb with
        | false =>
          have HR : Hid (quoR l = .bad 0 4) := Lib.hid (by rw [HR2.out, if_pos rfl])
          clear HR2
          go_wp2_with fail
          refine (failure_any _ _ _).mono ?_
          rintro e w9 ⟨rfl, b9⟩
          have HFB := Lib.hid (put_after (a' := .int .i64 0) (b' := .string ⟨#[]⟩) (c' := .int .i64 ((o : Int))) HB3.out KR3.out HG.out b9)
          have KR := Lib.hid (Blk.below KR3.out b9)
          have xf := KR.out.frozen
          have y0 : w9.cell? ⟨g, 0, none⟩ = some (.int .i64 0) := KR.out.cell 0
          have y1 : w9.cell? ⟨g, 1, none⟩ = some (.string ⟨#[]⟩) := KR.out.cell 1
          have y2 : w9.cell? ⟨g, 2, none⟩ = some (.int .i64 0) := KR.out.cell 2
          clear b9
          go_wp2
          exact bodyPost_ret (res_readString rfl rfl rfl HFB.out.1) rfl (by show ReadP o (quoR l) w _ _; rw [HR.out]; exact ⟨ret_read rfl rfl (by omega) rfl rfl, HFB.out.2⟩)
        | true =>
          have HR : Hid (quoR l = .tok 2 ut (k + 2)) := Lib.hid (by rw [HR2.out, if_neg (by decide)])
          have xf := KR3.out.frozen
          have y0 : w3.cell? ⟨g, 0, none⟩ = some (.int .i64 0) := KR3.out.cell 0
          have y1 : w3.cell? ⟨g, 1, none⟩ = some (.string ⟨#[]⟩) := KR3.out.cell 1
          have y2 : w3.cell? ⟨g, 2, none⟩ = some (.int .i64 0) := KR3.out.cell 2
          have HFB := Lib.hid (put_after (a' := .int .i64 2) (b' := .string (ofL ut)) (c' := .int .i64 (o : Int)) HB3.out KR3.out HG.out (Below.refl _ _))
          clear HR2
          go_wp2
          exact bodyPost_ret (res_readString rfl rfl rfl HFB.out.1) rfl (by show ReadP o (quoR l) w _ _; rw [HR.out]; exact ⟨ret_read rfl rfl rfl (by omega) rfl, HFB.out.2⟩)
set_option maxRecDepth 1000000 in
set_option maxHeartbeats 8000000 in
theorem readP_any (s : ByteArray) (o : Nat) (ho : o < s.size) (hs : s.size ≤ 10000000) (w : World) (E : Env w) :
    Calls Tryz.prog 157 #[.string s, .int .i64 o] w (ReadP o (oneR (s.data.toList.drop o)) w) := by
  have hsi : (s.size : Int) ≤ 10000000 := by omega
  have hoi : (o : Int) < (s.size : Int) := by omega
  have HD := data_drop ho
  have HRW := Lib.hid (fun w => readWord_any s o (by omega) hs w)
  have HRS := Lib.hid (fun w E => readString_any s o ho hs w E)
  have HO1 := Lib.hid (fun w => oneOf_part (s[o]'ho) w)
  have HO2 := Lib.hid (fun w => oneOf_mk (s[o]'ho) w)
  have cm := cut_mid s (show o ≤ o + 1 by omega) (show o + 1 ≤ s.size by omega) (show (o : Int) = ((o : Nat) : Int) from rfl) (show ((o : Int) + 1) = ((o + 1 : Nat) : Int) by omega)
  have hex := ext_of s o (o + 1)
  rw [show o + 1 - o = 1 by omega, HD] at hex
  rw [hex, show ((s[o]'ho) :: s.data.toList.drop (o + 1)).take 1 = [s[o]'ho] from rfl] at cm
  have HON : Hid (oneR (s.data.toList.drop o) = if isPart (s[o]'ho) = true then (if 40 < wordN (s.data.toList.drop o) then .bad 0 6 else .tok 1 ((s.data.toList.drop o).take (wordN (s.data.toList.drop o))) (wordN (s.data.toList.drop o))) else if (s[o]'ho).toNat = 34 then quoR (s.data.toList.drop (o + 1)) else if isMk (s[o]'ho) = true then .tok 3 [s[o]'ho] 1 else .bad 0 3) := Lib.hid (by
    rw [HD, oneR_cons]
    by_cases hp : isPart (s[o]'ho) = true
    · rw [if_pos hp]
      have h0 : 0 < wordN ((s[o]'ho) :: s.data.toList.drop (o + 1)) := by rw [wordN, if_pos hp]; omega
      rw [if_pos h0]
    · rw [if_neg hp]
      have h0 : wordN ((s[o]'ho) :: s.data.toList.drop (o + 1)) = 0 := by rw [wordN, if_neg hp]
      rw [h0, if_neg (by omega), if_neg (by omega)])
  obtain ⟨R0, hR0⟩ : ∃ R, (if 40 < wordN (s.data.toList.drop o) then TRes.bad 0 6 else .tok 1 ((s.data.toList.drop o).take (wordN (s.data.toList.drop o))) (wordN (s.data.toList.drop o))) = R := ⟨_, rfl⟩
  rw [hR0] at HON HRW
  obtain ⟨Q, hQ⟩ : ∃ R, quoR (s.data.toList.drop (o + 1)) = R := ⟨_, rfl⟩
  rw [hQ] at HON HRS
  obtain ⟨R, hR⟩ : ∃ R, oneR (s.data.toList.drop o) = R := ⟨_, rfl⟩
  rw [hR] at HON ⊢
  obtain ⟨pb, hpb⟩ : ∃ b, isPart (s[o]'ho) = b := ⟨_, rfl⟩
  rw [hpb] at HON HO1
  obtain ⟨mb, hmb⟩ : ∃ b, isMk (s[o]'ho) = b := ⟨_, rfl⟩
  rw [hmb] at HON HO2
  have HE1 := Lib.hid E
  obtain ⟨W1, hW1⟩ : ∃ W1, w.alloc (.cells #[.int .i64 0, .string ⟨#[]⟩, .int .i64 0] 84) = W1 := ⟨_, rfl⟩
  have HK : Hid (Blk w.heap.size 84 #[.int .i64 0, .string ⟨#[]⟩, .int .i64 0] W1) := Lib.hid (by rw [← hW1]; exact Blk.new _ _ _)
  have HW1 : Hid (Below w.heap.size w W1) := Lib.hid (by rw [← hW1]; exact (Below.refl _ _).alloc (Nat.le_refl _) _)
  have HW := Lib.hid hW1
  obtain ⟨g, hg⟩ : ∃ g, w.heap.size = g := ⟨_, rfl⟩
  have HG := Lib.hid hg
  rw [hg] at HK
  clear hW1 hg
  have HEW : Hid (Env W1) := Lib.hid (HE1.out.below HW1.out)
  clear HD hex hR0 hQ hR hpb hmb E HE1
  cases pb with
  | true =>
    have HRR : R = R0 := by rw [HON.out, if_pos rfl]
    rw [← HRR] at HRW
    clear HRR HON HRS HO2
    go_enter Tryz.func157, Tryz.ntmps157
    go_upto_region 1 with fail
    rw [HW.out, HG.out]
    clear HW
    go_wp2_with fail
    refine (HO1.out _).mono ?_
    rintro e w2 ⟨rfl, hw2⟩
    obtain rfl := hw2.symm
    clear hw2
    go_wp2_with fail
    refine (HRW.out _).mono ?_
    rintro e w9 ⟨h9, b9⟩
    have KR := Lib.hid (Blk.below HK.out b9)
    have xf := KR.out.frozen
    have y0 : w9.cell? ⟨g, 0, none⟩ = some (.int .i64 0) := KR.out.cell 0
    have y1 : w9.cell? ⟨g, 1, none⟩ = some (.string ⟨#[]⟩) := KR.out.cell 1
    have y2 : w9.cell? ⟨g, 2, none⟩ = some (.int .i64 0) := KR.out.cell 2
    cases R with
    | bad d er =>
      dsimp only at h9
      subst h9
      have HFB := Lib.hid (put_after (a' := .int .i64 0) (b' := .string ⟨#[]⟩) (c' := .int .i64 ((o + d : Nat) : Int)) HW1.out HK.out HG.out b9)
      obtain ⟨od, hod⟩ : ∃ x, o + d = x := ⟨_, rfl⟩
      rw [hod] at HFB ⊢
      have HOD := Lib.hid hod
      clear b9 hod
      go_wp2
      exact bodyPost_ret (res_read rfl rfl rfl HFB.out.1) rfl (by show ReadP o (.bad d er) w _ _; exact ⟨ret_read rfl rfl (by have := HOD.out; omega) rfl rfl, HFB.out.2⟩)
    | tok kd tx n =>
      dsimp only at h9
      subst h9
      have HFB := Lib.hid (put_after (a' := .int .i64 (kd : Int)) (b' := .string (ofL tx)) (c' := .int .i64 (o : Int)) HW1.out HK.out HG.out b9)
      obtain ⟨od, hod⟩ : ∃ x, o + n = x := ⟨_, rfl⟩
      rw [hod]
      have HOD := Lib.hid hod
      obtain ⟨Y, hY⟩ : ∃ Y, ofL tx = Y := ⟨_, rfl⟩
      rw [hY] at HFB ⊢
      have HY := Lib.hid hY
      clear b9 hod hY
      go_wp2
      exact bodyPost_ret (res_read rfl rfl rfl HFB.out.1) rfl (by show ReadP o (.tok kd tx n) w _ _; exact ⟨ret_read rfl HY.out.symm rfl (by have := HOD.out; omega) rfl, HFB.out.2⟩)
  | false =>
    by_cases h34 : (s[o]'ho).toNat = 34
    · have HRR : R = Q := by rw [HON.out, if_neg (by decide), if_pos h34]
      rw [← HRR] at HRS
      have z1 : ((((s[o]'ho).toNat : Nat) : Int) == 34) = true := by rw [beq_iff_eq]; omega
      clear HRR HON HRW HO2 h34
      go_enter Tryz.func157, Tryz.ntmps157
      go_upto_region 1 with fail
      rw [HW.out, HG.out]
      clear HW
      go_wp2_with fail
      refine (HO1.out _).mono ?_
      rintro e w2 ⟨rfl, hw2⟩
      obtain rfl := hw2.symm
      clear hw2
      go_wp2_with fail
      refine (HRS.out _ HEW.out).mono ?_
      rintro e w9 ⟨h9, b9⟩
      have KR := Lib.hid (Blk.below HK.out b9)
      have xf := KR.out.frozen
      have y0 : w9.cell? ⟨g, 0, none⟩ = some (.int .i64 0) := KR.out.cell 0
      have y1 : w9.cell? ⟨g, 1, none⟩ = some (.string ⟨#[]⟩) := KR.out.cell 1
      have y2 : w9.cell? ⟨g, 2, none⟩ = some (.int .i64 0) := KR.out.cell 2
      cases R with
      | bad d er =>
        dsimp only at h9
        subst h9
        have HFB := Lib.hid (put_after (a' := .int .i64 0) (b' := .string ⟨#[]⟩) (c' := .int .i64 ((o + d : Nat) : Int)) HW1.out HK.out HG.out b9)
        obtain ⟨od, hod⟩ : ∃ x, o + d = x := ⟨_, rfl⟩
        rw [hod] at HFB ⊢
        have HOD := Lib.hid hod
        clear b9 hod
        go_wp2
        exact bodyPost_ret (res_read rfl rfl rfl HFB.out.1) rfl (by show ReadP o (.bad d er) w _ _; exact ⟨ret_read rfl rfl (by have := HOD.out; omega) rfl rfl, HFB.out.2⟩)
      | tok kd tx n =>
        dsimp only at h9
        subst h9
        have HFB := Lib.hid (put_after (a' := .int .i64 (kd : Int)) (b' := .string (ofL tx)) (c' := .int .i64 (o : Int)) HW1.out HK.out HG.out b9)
        obtain ⟨od, hod⟩ : ∃ x, o + n = x := ⟨_, rfl⟩
        rw [hod]
        have HOD := Lib.hid hod
        obtain ⟨Y, hY⟩ : ∃ Y, ofL tx = Y := ⟨_, rfl⟩
        rw [hY] at HFB ⊢
        have HY := Lib.hid hY
        clear b9 hod hY
        go_wp2
        exact bodyPost_ret (res_read rfl rfl rfl HFB.out.1) rfl (by show ReadP o (.tok kd tx n) w _ _; exact ⟨ret_read rfl HY.out.symm rfl (by have := HOD.out; omega) rfl, HFB.out.2⟩)
    · have z1 : ((((s[o]'ho).toNat : Nat) : Int) == 34) = false := by rw [beq_eq_false_iff_ne]; omega
      cases mb with
      | true =>
        have HR : Hid (R = .tok 3 [s[o]'ho] 1) := Lib.hid (by rw [HON.out, if_neg (by decide), if_neg h34, if_pos rfl])
        clear HON HRW HRS h34
        obtain ⟨Y, hY⟩ : ∃ Y, ofL [s[o]'ho] = Y := ⟨_, rfl⟩
        rw [hY] at cm
        have HY := Lib.hid hY
        clear hY
        have KR := HK
        have xf := KR.out.frozen
        have y0 : W1.cell? ⟨g, 0, none⟩ = some (.int .i64 0) := KR.out.cell 0
        have y1 : W1.cell? ⟨g, 1, none⟩ = some (.string ⟨#[]⟩) := KR.out.cell 1
        have y2 : W1.cell? ⟨g, 2, none⟩ = some (.int .i64 0) := KR.out.cell 2
        have HFB := Lib.hid (put_after (a' := .int .i64 3) (b' := .string Y) (c' := .int .i64 (o : Int)) HW1.out HK.out HG.out (Below.refl _ _))
        go_enter Tryz.func157, Tryz.ntmps157
        go_upto_region 1 with fail
        rw [HW.out, HG.out]
        clear HW
        go_wp2_with fail
        refine (HO1.out _).mono ?_
        rintro e w2 ⟨rfl, hw2⟩
        obtain rfl := hw2.symm
        clear hw2
        go_wp2_with fail
        refine (HO2.out _).mono ?_
        rintro e w2 ⟨rfl, hw2⟩
        obtain rfl := hw2.symm
        clear hw2
        go_wp2
        exact bodyPost_ret (res_read rfl rfl rfl HFB.out.1) rfl (by show ReadP o R w _ _; rw [HR.out]; exact ⟨ret_read rfl HY.out.symm rfl (by omega) rfl, HFB.out.2⟩)
      | false =>
        have HR : Hid (R = .bad 0 3) := Lib.hid (by rw [HON.out, if_neg (by decide), if_neg h34, if_neg (by decide)])
        clear HON HRW HRS h34 cm
        go_enter Tryz.func157, Tryz.ntmps157
        go_upto_region 1 with fail
        rw [HW.out, HG.out]
        clear HW
        go_wp2_with fail
        refine (HO1.out _).mono ?_
        rintro e w2 ⟨rfl, hw2⟩
        obtain rfl := hw2.symm
        clear hw2
        go_wp2_with fail
        refine (HO2.out _).mono ?_
        rintro e w2 ⟨rfl, hw2⟩
        obtain rfl := hw2.symm
        clear hw2
        go_wp2_with fail
        refine (failure_any _ _ _).mono ?_
        rintro e w9 ⟨rfl, b9⟩
        have HFB := Lib.hid (put_after (a' := .int .i64 0) (b' := .string ⟨#[]⟩) (c' := .int .i64 ((o : Int))) HW1.out HK.out HG.out b9)
        have KR := Lib.hid (Blk.below HK.out b9)
        have xf := KR.out.frozen
        have y0 : w9.cell? ⟨g, 0, none⟩ = some (.int .i64 0) := KR.out.cell 0
        have y1 : w9.cell? ⟨g, 1, none⟩ = some (.string ⟨#[]⟩) := KR.out.cell 1
        have y2 : w9.cell? ⟨g, 2, none⟩ = some (.int .i64 0) := KR.out.cell 2
        clear b9
        go_wp2
        exact bodyPost_ret (res_read rfl rfl rfl HFB.out.1) rfl (by show ReadP o R w _ _; rw [HR.out]; exact ⟨ret_read rfl rfl (by omega) rfl rfl, HFB.out.2⟩)
end Go.Proofs.YtpmmchppfmojhaaGreatDoor


/- Of the program of layer 11: IsWord, IsText, isToken, spelling. -/
namespace Go.Proofs.YtpmmchppfmojhaaGreatDoor
open Go.RowKit
set_option linter.unusedVariables false

set_option maxRecDepth 1000000 in
set_option maxHeartbeats 4000000 in
theorem isWordP_any (s : ByteArray) (w : World) (hs : s.size ≤ 10000000) :
    Calls Tryz.prog 76 #[.string s] w fun e w' => e = .returned (.bool (isWordB s.data.toList)) ∧ w' = w := by
  have HW := Lib.hid (pass_word s 0 (Nat.zero_le _) (by omega) w)
  rw [List.drop_zero, Nat.zero_add, show ((0 : Nat) : Int) = 0 from rfl] at HW
  have HR : Hid (isWordB s.data.toList = (decide (s.data.toList ≠ []) && decide (wordN s.data.toList = s.size) && decide (s.size ≤ 40))) := Lib.hid (by unfold isWordB; rw [len_data])
  obtain ⟨n, hn⟩ : ∃ n, wordN s.data.toList = n := ⟨_, rfl⟩
  have hnl : n ≤ s.size := by rw [← hn, ← len_data]; exact wordN_le _
  rw [hn] at HW HR
  clear hn
  by_cases h0 : s.size = 0
  · have e0 : s.data.toList = [] := List.eq_nil_of_length_eq_zero (by rw [len_data]; exact h0)
    have HF : Hid (isWordB s.data.toList = false) := Lib.hid (by rw [HR.out, e0]; rfl)
    have e1 : s.toList = [] := by rw [ByteArray.toList_eq]; exact e0
    have z1 : (s.toList == ([] : List UInt8)) = true := by rw [e1]; rfl
    have z2 : s.toList.isEmpty = true := by rw [e1]; rfl
    clear h0 e0 e1 HR
    go_enter Tryz.func76, Tryz.ntmps76
    go_wp2
    go_ret
    exact ⟨by rw [HF.out]; rfl, rfl⟩
  · have e0 : s.data.toList ≠ [] := fun e => h0 (by rw [← len_data, e]; rfl)
    have z1 : (s.toList == ([] : List UInt8)) = false := by rw [beq_eq_false_iff_ne, ByteArray.toList_eq]; exact e0
    have z2 : s.toList.isEmpty = false := by rw [ByteArray.toList_eq]; cases h : s.data.toList with | nil => exact absurd h e0 | cons _ _ => rfl
    obtain ⟨q, hq⟩ : ∃ q, decide (n = s.size) = q := ⟨_, rfl⟩
    have z3 : ((n : Int) == (s.size : Int)) = q := by rw [← hq, Bool.eq_iff_iff, beq_iff_eq, decide_eq_true_eq]; omega
    obtain ⟨r, hr⟩ : ∃ q, decide (s.size ≤ 40) = q := ⟨_, rfl⟩
    have z4 : decide ((s.size : Int) ≤ 40) = r := by rw [← hr, decide_eq_decide]; omega
    have z5 := hr
    have HF : Hid (isWordB s.data.toList = (q && r)) := Lib.hid (by rw [HR.out, hq, hr, decide_eq_true e0, Bool.true_and])
    clear h0 e0 hq hr HR
    cases r with
    | false =>
      have HF : Hid (isWordB s.data.toList = false) := Lib.hid (by rw [HF.out, Bool.and_false])
      go_enter Tryz.func76, Tryz.ntmps76
      go_wp2
      go_ret
      exact ⟨by rw [HF.out]; rfl, rfl⟩
    | true =>
      have HF : Hid (isWordB s.data.toList = q) := Lib.hid (by rw [HF.out, Bool.and_true])
      go_enter Tryz.func76, Tryz.ntmps76
      go_wp2_with fail
      refine HW.out.mono ?_
      rintro e w2 ⟨rfl, hw2⟩
      obtain rfl := hw2.symm
      clear hw2
      go_wp2
      go_ret
      exact ⟨by rw [HF.out]; rfl, rfl⟩
set_option maxRecDepth 1000000 in
set_option maxHeartbeats 4000000 in
theorem isTextP_any (s : ByteArray) (w : World) (hs : s.size ≤ 10000000) :
    Calls Tryz.prog 199 #[.string s] w fun e w' => e = .returned (.bool (isTextB s.data.toList)) ∧ Below w.heap.size w w' := by
  have HR : Hid (isTextB s.data.toList = (decide (s.size ≤ 400) && vld s.data.toList)) := Lib.hid (by unfold isTextB; rw [len_data])
  by_cases h : s.size ≤ 400
  · have HV := Lib.hid (valid_any s w (by omega))
    have HF : Hid (isTextB s.data.toList = vld s.data.toList) := Lib.hid (by rw [HR.out, decide_eq_true h, Bool.true_and])
    have z : (s.size : Int) ≤ 400 := by omega
    clear h HR
    go_enter Tryz.func199, Tryz.ntmps199
    go_wp2_with fail
    refine HV.out.mono ?_
    rintro e w2 ⟨rfl, b2⟩
    have B2 := Lib.hid b2
    clear b2
    go_wp2
    go_ret
    exact ⟨by rw [HF.out]; rfl, B2.out⟩
  · have HF : Hid (isTextB s.data.toList = false) := Lib.hid (by rw [HR.out, decide_eq_false h, Bool.false_and])
    have z : ¬ (s.size : Int) ≤ 400 := by omega
    clear h HR
    go_enter Tryz.func199, Tryz.ntmps199
    go_wp2
    go_ret
    exact ⟨by rw [HF.out]; rfl, Below.refl _ _⟩
set_option maxRecDepth 1000000 in
set_option maxHeartbeats 8000000 in
theorem isToken_any (x : TkZ) (hx : x.tx.length ≤ 10000000) (w : World) :
    Calls Tryz.prog 186 #[.agg #[.int .i64 x.kd, .string (ofL x.tx), .int .i64 x.at_]] w fun e w' => e = .returned (.bool (okZ x)) ∧ Below w.heap.size w w' := by
  obtain ⟨kd, tx, ta⟩ := x
  dsimp only at hx ⊢
  have hXL : (ofL tx).size ≤ 10000000 := by rw [ofL_size]; exact hx
  have HWD := Lib.hid (fun w => isWordP_any (ofL tx) w hXL)
  have HTE := Lib.hid (fun w => isTextP_any (ofL tx) w hXL)
  have HMK := Lib.hid (fun (h : 0 < (ofL tx).size) w => oneOf_mk ((ofL tx)[0]'h) w)
  have HM1 := Lib.hid (fun h => mk1_data (X := ofL tx) h)
  have HM0 := Lib.hid (fun h => mk1_no (X := ofL tx) h)
  rw [show (ofL tx).data.toList = tx from rfl] at HWD HTE HM1 HM0
  have HB1 : Hid (Below w.heap.size w (w.alloc (.cells #[.int .i64 kd, .string (ofL tx), .int .i64 ta] 84))) := Lib.hid ((Below.refl _ _).alloc (Nat.le_refl _) _)
  have HOK : Hid (okZ ⟨kd, tx, ta⟩ = if kd = 1 then isWordB tx else if kd = 3 then isMk1 tx else if kd = 2 then isTextB tx else false) := Lib.hid rfl
  obtain ⟨X, hX⟩ : ∃ X, ofL tx = X := ⟨_, rfl⟩
  rw [hX] at HWD HTE HMK HM1 HM0 HB1 hXL ⊢
  clear hX hx
  by_cases c1 : kd = 1
  · subst c1
    have HF : Hid (okZ ⟨1, tx, ta⟩ = isWordB tx) := Lib.hid (by rw [HOK.out, if_pos rfl])
    go_enter Tryz.func186, Tryz.ntmps186
    go_wp2_with fail
    refine (HWD.out _).mono ?_
    rintro e w2 ⟨rfl, hw2⟩
    obtain rfl := hw2.symm
    clear hw2
    go_wp2
    go_ret
    exact ⟨by rw [HF.out]; rfl, HB1.out⟩
  · have t1 : (kd == 1) = false := by rw [beq_eq_false_iff_ne]; exact c1
    by_cases c2 : kd = 2
    · subst c2
      have HF : Hid (okZ ⟨2, tx, ta⟩ = isTextB tx) := Lib.hid (by rw [HOK.out, if_neg (by omega), if_neg (by omega), if_pos rfl])
      clear t1 c1
      go_enter Tryz.func186, Tryz.ntmps186
      go_wp2_with fail
      refine (HTE.out _).mono ?_
      rintro e w2 ⟨rfl, b2⟩
      have HB2 := Lib.hid (HB1.out.trans (b2.mono HB1.out.size))
      clear b2
      go_wp2
      go_ret
      exact ⟨by rw [HF.out]; rfl, HB2.out⟩
    · have t2 : (kd == 2) = false := by rw [beq_eq_false_iff_ne]; exact c2
      by_cases c3 : kd = 3
      · subst c3
        have HF0 : Hid (okZ ⟨3, tx, ta⟩ = isMk1 tx) := Lib.hid (by rw [HOK.out, if_neg (by omega), if_pos rfl])
        clear t1 t2 c1 c2
        by_cases h1 : X.size = 1
        · have z1 : ((X.size : Int) == 1) = true := by rw [beq_iff_eq]; omega
          have hp : 0 < X.size := by omega
          have hpi : (0 : Int) < (X.size : Int) := by omega
          have HF : Hid (okZ ⟨3, tx, ta⟩ = isMk (X[0]'hp)) := Lib.hid (by rw [HF0.out, HM1.out h1]; rfl)
          have HMK2 := Lib.hid (HMK.out hp)
          obtain ⟨mb, hmb⟩ : ∃ b, isMk (X[0]'hp) = b := ⟨_, rfl⟩
          rw [hmb] at HF HMK2
          clear h1 hmb
          go_enter Tryz.func186, Tryz.ntmps186
          go_wp2_with fail
          refine (HMK2.out _).mono ?_
          rintro e w2 ⟨rfl, hw2⟩
          obtain rfl := hw2.symm
          clear hw2
          go_wp2
          go_ret
          exact ⟨by rw [HF.out]; rfl, HB1.out⟩
        · have z1 : ((X.size : Int) == 1) = false := by rw [beq_eq_false_iff_ne]; omega
          have HF : Hid (okZ ⟨3, tx, ta⟩ = false) := Lib.hid (by rw [HF0.out, HM0.out h1])
          clear h1
          go_enter Tryz.func186, Tryz.ntmps186
          go_wp2
          go_ret
          exact ⟨by rw [HF.out]; rfl, HB1.out⟩
      · have t3 : (kd == 3) = false := by rw [beq_eq_false_iff_ne]; exact c3
        have HF : Hid (okZ ⟨kd, tx, ta⟩ = false) := Lib.hid (by rw [HOK.out, if_neg c1, if_neg c3, if_neg c2])
        clear c1 c2 c3
        go_enter Tryz.func186, Tryz.ntmps186
        go_wp2
        go_ret
        exact ⟨by rw [HF.out]; rfl, HB1.out⟩
def spZ (t : TkZ) : List UInt8 := spR t.kd.toNat t.tx
set_option maxRecDepth 1000000 in
set_option maxHeartbeats 8000000 in
theorem spelling_any (x : TkZ) (hx : x.tx.length ≤ 10000000) (w : World) (E : Env w) :
    Calls Tryz.prog 187 #[.agg #[.int .i64 x.kd, .string (ofL x.tx), .int .i64 x.at_]] w fun e w' => e = .returned (.string (ofL (spZ x))) ∧ Below w.heap.size w w' := by
  obtain ⟨kd, tx, ta⟩ := x
  dsimp only at hx ⊢
  have HES := Lib.hid (fun w E => escape_st 2 (ofL tx) w E (by rw [ofL_size]; omega) (.inr (.inl rfl)))
  rw [show (ofL tx).data.toList = tx from rfl] at HES
  have hEL : (ofL (escL 2 tx)).size ≤ 60000000 := by rw [ofL_size]; have := escL_len 2 tx; omega
  have HE1 : Hid (∀ E, ofL (escL 2 tx) = E → (⟨#[34]⟩ : ByteArray) ++ E ++ ⟨#[34]⟩ = ofL (34 :: (escL 2 tx ++ [34]))) := Lib.hid (fun E h => by rw [← h]; show ofL [34] ++ _ ++ ofL [34] = _; rw [add_of, add_of]; rfl)
  have HB1 : Hid (Below w.heap.size w (w.alloc (.cells #[.int .i64 kd, .string (ofL tx), .int .i64 ta] 84))) := Lib.hid ((Below.refl _ _).alloc (Nat.le_refl _) _)
  have HEW : Hid (Env (w.alloc (.cells #[.int .i64 kd, .string (ofL tx), .int .i64 ta] 84))) := Lib.hid (E.below HB1.out)
  have HPT : Hid (kd ≠ 2 → spZ ⟨kd, tx, ta⟩ = tx) := Lib.hid (fun h => by unfold spZ spR; dsimp only; rw [if_neg (by omega)])
  have HP2 : Hid (spZ ⟨2, tx, ta⟩ = 34 :: (escL 2 tx ++ [34])) := Lib.hid rfl
  unfold StrPostOf2 at HES
  rw [show (⟨(escL 2 tx).toArray⟩ : ByteArray) = ofL (escL 2 tx) from rfl] at HES
  obtain ⟨EE, hEE⟩ : ∃ EE, ofL (escL 2 tx) = EE := ⟨_, rfl⟩
  have HE2 := Lib.hid (HE1.out EE hEE)
  rw [hEE] at hEL HES
  obtain ⟨X, hX⟩ : ∃ X, ofL tx = X := ⟨_, rfl⟩
  have HXX := Lib.hid hX
  rw [hX] at HES HB1 HEW ⊢
  clear hEE hX HE1 hx E
  by_cases c2 : kd = 2
  · subst c2
    go_enter Tryz.func187, Tryz.ntmps187
    go_wp2_with fail
    refine (HES.out _ HEW.out).mono ?_
    rintro e w2 ⟨rfl, b2⟩
    have HB2 := Lib.hid (HB1.out.trans (b2.mono HB1.out.size))
    clear b2
    go_wp2
    go_ret
    exact ⟨congrArg (fun z => Ending.returned (.string z)) (HE2.out.trans (congrArg ofL HP2.out.symm)), HB2.out⟩
  · have t1 : (kd == 2) = false := by rw [beq_eq_false_iff_ne]; exact c2
    have HF := Lib.hid (HPT.out c2)
    clear c2
    go_enter Tryz.func187, Tryz.ntmps187
    go_wp2
    go_ret
    exact ⟨congrArg (fun z => Ending.returned (.string z)) (by rw [HF.out]; exact HXX.out.symm), HB1.out⟩
end Go.Proofs.YtpmmchppfmojhaaGreatDoor


/- Of the program's table package: words and texts, of any length. -/
namespace Go.Proofs.YtpmmchppfmojhaaGreatDoor
open Go.RowKit
set_option linter.unusedVariables false

set_option maxRecDepth 1000000 in
set_option maxHeartbeats 4000000 in
theorem isWordQ_any (s : ByteArray) (w : World) (hs : s.size ≤ 140737488355328) :
    Calls Tryz.prog 76 #[.string s] w fun e w' => e = .returned (.bool (isWordB s.data.toList)) ∧ w' = w := by
  have HW := Lib.hid (pass_word s 0 (Nat.zero_le _) (by omega) w)
  rw [List.drop_zero, Nat.zero_add, show ((0 : Nat) : Int) = 0 from rfl] at HW
  have HR : Hid (isWordB s.data.toList = (decide (s.data.toList ≠ []) && decide (wordN s.data.toList = s.size) && decide (s.size ≤ 40))) := Lib.hid (by unfold isWordB; rw [len_data])
  obtain ⟨n, hn⟩ : ∃ n, wordN s.data.toList = n := ⟨_, rfl⟩
  have hnl : n ≤ s.size := by rw [← hn, ← len_data]; exact wordN_le _
  rw [hn] at HW HR
  clear hn
  by_cases h0 : s.size = 0
  · have e0 : s.data.toList = [] := List.eq_nil_of_length_eq_zero (by rw [len_data]; exact h0)
    have HF : Hid (isWordB s.data.toList = false) := Lib.hid (by rw [HR.out, e0]; rfl)
    have e1 : s.toList = [] := by rw [ByteArray.toList_eq]; exact e0
    have z1 : (s.toList == ([] : List UInt8)) = true := by rw [e1]; rfl
    have z2 : s.toList.isEmpty = true := by rw [e1]; rfl
    clear h0 e0 e1 HR
    go_enter Tryz.func76, Tryz.ntmps76
    go_wp2
    go_ret
    exact ⟨by rw [HF.out]; rfl, rfl⟩
  · have e0 : s.data.toList ≠ [] := fun e => h0 (by rw [← len_data, e]; rfl)
    have z1 : (s.toList == ([] : List UInt8)) = false := by rw [beq_eq_false_iff_ne, ByteArray.toList_eq]; exact e0
    have z2 : s.toList.isEmpty = false := by rw [ByteArray.toList_eq]; cases h : s.data.toList with | nil => exact absurd h e0 | cons _ _ => rfl
    obtain ⟨q, hq⟩ : ∃ q, decide (n = s.size) = q := ⟨_, rfl⟩
    have z3 : ((n : Int) == (s.size : Int)) = q := by rw [← hq, Bool.eq_iff_iff, beq_iff_eq, decide_eq_true_eq]; omega
    obtain ⟨r, hr⟩ : ∃ q, decide (s.size ≤ 40) = q := ⟨_, rfl⟩
    have z4 : decide ((s.size : Int) ≤ 40) = r := by rw [← hr, decide_eq_decide]; omega
    have z5 := hr
    have HF : Hid (isWordB s.data.toList = (q && r)) := Lib.hid (by rw [HR.out, hq, hr, decide_eq_true e0, Bool.true_and])
    clear h0 e0 hq hr HR
    cases r with
    | false =>
      have HF : Hid (isWordB s.data.toList = false) := Lib.hid (by rw [HF.out, Bool.and_false])
      go_enter Tryz.func76, Tryz.ntmps76
      go_wp2
      go_ret
      exact ⟨by rw [HF.out]; rfl, rfl⟩
    | true =>
      have HF : Hid (isWordB s.data.toList = q) := Lib.hid (by rw [HF.out, Bool.and_true])
      go_enter Tryz.func76, Tryz.ntmps76
      go_wp2_with fail
      refine HW.out.mono ?_
      rintro e w2 ⟨rfl, hw2⟩
      obtain rfl := hw2.symm
      clear hw2
      go_wp2
      go_ret
      exact ⟨by rw [HF.out]; rfl, rfl⟩
set_option maxRecDepth 1000000 in
set_option maxHeartbeats 4000000 in
theorem isTextQ_any (s : ByteArray) (w : World) (hs : s.size ≤ 140737488355328) :
    Calls Tryz.prog 199 #[.string s] w fun e w' => e = .returned (.bool (isTextB s.data.toList)) ∧ Below w.heap.size w w' := by
  have HR : Hid (isTextB s.data.toList = (decide (s.size ≤ 400) && vld s.data.toList)) := Lib.hid (by unfold isTextB; rw [len_data])
  by_cases h : s.size ≤ 400
  · have HV := Lib.hid (valid_any s w (by omega))
    have HF : Hid (isTextB s.data.toList = vld s.data.toList) := Lib.hid (by rw [HR.out, decide_eq_true h, Bool.true_and])
    have z : (s.size : Int) ≤ 400 := by omega
    clear h HR
    go_enter Tryz.func199, Tryz.ntmps199
    go_wp2_with fail
    refine HV.out.mono ?_
    rintro e w2 ⟨rfl, b2⟩
    have B2 := Lib.hid b2
    clear b2
    go_wp2
    go_ret
    exact ⟨by rw [HF.out]; rfl, B2.out⟩
  · have HF : Hid (isTextB s.data.toList = false) := Lib.hid (by rw [HR.out, decide_eq_false h, Bool.false_and])
    have z : ¬ (s.size : Int) ≤ 400 := by omega
    clear h HR
    go_enter Tryz.func199, Tryz.ntmps199
    go_wp2
    go_ret
    exact ⟨by rw [HF.out]; rfl, Below.refl _ _⟩
theorem wordB_iff {t : Str} : isWordB t = true ↔ okW t := by
  unfold isWordB
  simp only [Bool.and_eq_true, decide_eq_true_eq]
  unfold okW OkTok
  constructor
  · rintro ⟨⟨h1, h2⟩, h3⟩
    exact .inl ⟨rfl, List.length_pos_iff.2 h1, h3, h2⟩
  · rintro (⟨_, h1, h2, h3⟩ | ⟨h, _⟩ | ⟨h, _⟩)
    · exact ⟨⟨List.length_pos_iff.1 h1, h3⟩, h2⟩
    · omega
    · omega
theorem textB_iff {t : Str} : isTextB t = true ↔ okX t := by
  unfold isTextB
  rw [show okX t ↔ _ from okX_iff, Bool.and_eq_true, decide_eq_true_eq]
/-- A call that answers whether something holds. -/
abbrev Says (Q : Prop) (w : World) (e : Ending) (w' : World) : Prop := (∃ b, e = .returned (.bool b) ∧ (b = true ↔ Q)) ∧ Below w.heap.size w w'
theorem isWordS (t : Str) (h : Sm t) (w : World) : Calls Tryz.prog 76 #[.string (ofL t)] w (Says (okW t) w) := by
  refine (isWordQ_any (ofL t) w (by rw [ofL_size]; exact h)).mono ?_
  rintro e w2 ⟨rfl, hw⟩
  refine ⟨⟨_, rfl, wordB_iff⟩, by rw [hw]; exact Below.refl _ _⟩
end Go.Proofs.YtpmmchppfmojhaaGreatDoor


/- Of condition: the parser's span. -/
namespace Go.Proofs.YtpmmchppfmojhaaGreatDoor
open Go.RowKit
set_option linter.unusedVariables false

theorem But.setNew {g B i : Nat} {w w9 : World} (h : But g w w9) (hB : w.heap.size ≤ B) (u : Value) : But g w (w9.setCell ⟨B, i, none⟩ u) :=
  ⟨h.os, h.tape, h.output, by simp [World.setCell]; exact h.size, fun k hk hg => (Below.heap_setCell w9 ⟨B, i, none⟩ u k (by show k ≠ B; omega)).trans (h.block k hk hg)⟩
theorem PS.setNew {w0 : World} {g B i : Nat} {text : ByteArray} {o : Option Pst} {w : World} (h : PS w0 g text o w) (hB : B ≠ g) (hB0 : w0.heap.size ≤ B) (u : Value) : PS w0 g text o (w.setCell ⟨B, i, none⟩ u) :=
  h.same (Below.heap_setCell w ⟨B, i, none⟩ u g (by show g ≠ B; exact fun e => hB e.symm)) (h.low.setCell (p := ⟨B, i, none⟩) hB0 u)
end Go.Proofs.YtpmmchppfmojhaaGreatDoor


