/- What the row stands on, part 23. -/
import Derived.Test.YtpmmchppfmojhaaGreatDoorQ22

/- Of the program's table package: areValid. -/
namespace Go.Proofs.YtpmmchppfmojhaaGreatDoor
open Go.RowKit
set_option linter.unusedVariables false

/-- The elements before the k-th are valid and not alike. -/
def GoodV {α : Type} (l : List α) (V : Nat → Prop) (q : α → α → Bool) (k : Nat) : Prop := (∀ i, i < k → V i) ∧ ∀ (i : Nat) (hi : i < l.length), i < k → (l.take i).any (q l[i]) = false
/-- So many at most, all valid, no two alike. -/
def AllV {α : Type} (l : List α) (most : Int) (V : Nat → Prop) (q : α → α → Bool) : Prop := (l.length : Int) ≤ most ∧ GoodV l V q l.length
theorem says_no {b : Bool} {Q : Prop} (h : b = true ↔ Q) (n : ¬ Q) : b = false := by
  cases b with
  | false => rfl
  | true => exact absurd (h.1 rfl) n
theorem goodV_zero {α : Type} {l : List α} {V : Nat → Prop} {q : α → α → Bool} : GoodV l V q 0 := ⟨fun i h => absurd h (Nat.not_lt_zero _), fun i _ h => absurd h (Nat.not_lt_zero _)⟩
theorem goodV_next {α : Type} {l : List α} {V : Nat → Prop} {q : α → α → Bool} {k : Nat} (h : k < l.length) (hk : GoodV l V q k) (h1 : V k) (h2 : (l.take k).any (q l[k]) = false) : GoodV l V q (k + 1) :=
  ⟨fun i hi => by
    rcases Nat.lt_or_ge i k with a | a
    · exact hk.1 i a
    · obtain rfl : i = k := by omega
      exact h1, fun i h0 hi => by
    rcases Nat.lt_or_ge i k with a | a
    · exact hk.2 i h0 a
    · obtain rfl : i = k := by omega
      exact h2⟩
theorem allV_big {α : Type} {l : List α} {most : Int} {V : Nat → Prop} {q : α → α → Bool} (h : ¬ (l.length : Int) ≤ most) : ¬ AllV l most V q := fun a => h a.1
theorem allV_at {α : Type} {l : List α} {most : Int} {V : Nat → Prop} {q : α → α → Bool} {k : Nat} (h : k < l.length) (a : AllV l most V q) : V k ∧ (l.take k).any (q l[k]) = false := ⟨a.2.1 k h, a.2.2 k h h⟩
theorem allV_end {α : Type} {l : List α} {most : Int} {V : Nat → Prop} {q : α → α → Bool} (h : (l.length : Int) ≤ most) (a : GoodV l V q l.length) : AllV l most V q := ⟨h, a⟩
set_option maxRecDepth 1000000 in
set_option maxHeartbeats 4000000 in
theorem areVRu_any (v : Value) (l : List (Str × RawS)) (most : Int) (n1 n0 : Nat) (eg1 : ∀ args w, (callFunc n1 args).run Tryz.prog w = .ok (.enter n1 args) w) (eg0 : ∀ args w, (callFunc n0 args).run Tryz.prog w = .ok (.enter n0 args) w) (V : Nat → Prop) (q : Str × RawS → Str × RawS → Bool) (w : World) (hv : Rd 2 encRl w v l)
    (hV : ∀ (W1 : World), Below w.heap.size w W1 → ∀ (i : Nat) (h : i < l.length), Calls Tryz.prog n1 #[.agg #[.string (ofL (l[i]'h).1), .slice (l[i]'h).2.a (l[i]'h).2.n (l[i]'h).2.c]] W1 (Says (V i) W1))
    (hF : ∀ (W1 : World) (x y : Str × RawS), Calls Tryz.prog n0 #[.agg #[.string (ofL x.1), .slice x.2.a x.2.n x.2.c], .agg #[.string (ofL y.1), .slice y.2.a y.2.n y.2.c]] W1 fun e w' => e = .returned (.bool (q x y)) ∧ Below W1.heap.size W1 w') :
    Calls Tryz.prog 78 #[v, .int .i64 most, .func (.func n1) #[] #[], .func (.func n0) #[] #[]] w (Says (AllV l most V q) w) := by
  obtain ⟨a, c, rfl, hc1, hc2⟩ := hv.slice
  have HU := Lib.hid hv
  have HV := Lib.hid hV
  have HF := Lib.hid hF
  have HN := Lib.hid (fun h => allV_big (l := l) (most := most) (V := V) (q := q) h)
  have HG := Lib.hid (fun (k : Nat) (h : k < l.length) => allV_at (l := l) (most := most) (V := V) (q := q) (k := k) h)
  have HE := Lib.hid (fun h h' => allV_end (l := l) (most := most) (V := V) (q := q) h h')
  obtain ⟨LN, hLN⟩ : ∃ LN, l.length = LN := ⟨_, rfl⟩
  have HLN := Lib.hid hLN
  rw [hLN] at HU hc1 HN HE ⊢
  clear hv hF hV hLN
  by_cases hm : (LN : Int) ≤ most
  case neg =>
    have h0 : (LN : Int) > most := by omega
    have h0' : most < (LN : Int) := by omega
    go_enter Tryz.func78, Tryz.ntmps78
    go_wp2
    go_ret
    exact ⟨⟨_, rfl, ⟨fun h => (by cases h), fun h => absurd h (HN.out (by omega))⟩⟩, Below.refl _ _⟩
  have h0 : ¬ (LN : Int) > most := by omega
  have h0' : ¬ most < (LN : Int) := by omega
  have HM := Lib.hid hm
  clear hm
  go_enter Tryz.func78, Tryz.ntmps78
  go_wp2
  go_loopw [17] (fun v wr => ∃ k : Nat, k ≤ LN ∧ v = .int .i64 k ∧ GoodV l V q k ∧ Below w.heap.size w wr) (fun v _ => LN - (intOf v).toNat)
  case atStart => exact ⟨0, Nat.zero_le _, rfl, goodV_zero, Below.refl _ _⟩
  case round =>
    obtain ⟨k, hk, rfl, hkd, hb⟩ := hrel
    have HK := Lib.hid hkd
    have HB := Lib.hid hb
    have zr := hb.size
    clear hkd hb
    by_cases hlt' : k < LN
    · have hlt : k < l.length := by rw [HLN.out]; exact hlt'
      obtain ⟨bk, off, rfl, h00, hx⟩ := (HU.out.below HB.out).some_ k hlt
      have c0 : wr.cell? ⟨bk, off + k * 2, none⟩ = some (.string (ofL (l[k]'hlt).1)) := hx 0 _ rfl
      have c1 : wr.cell? ⟨bk, off + k * 2 + 1, none⟩ = some (.slice (l[k]'hlt).2.a (l[k]'hlt).2.n (l[k]'hlt).2.c) := hx 1 _ rfl
      have h9 : (k : Int) < (LN : Int) := by omega
      have h10 : (k : Int) ≤ (c : Int) := by omega
      have h11 : k ≤ c := by omega
      have HC := Lib.hid (fun wx (hb : Below w.heap.size w wx) => HV.out wx hb k hlt)
      have HT := Lib.hid (HU.out.take k (Nat.le_of_lt hlt))
      have HNO := Lib.hid (HG.out k hlt)
      have HQ : Hid (∀ (W1 : World) (y : Str × RawS), y ∈ l.take k → Calls Tryz.prog n0 #[.agg #[.string (ofL (l[k]'hlt).1), .slice (l[k]'hlt).2.a (l[k]'hlt).2.n (l[k]'hlt).2.c], .agg #[.string (ofL y.1), .slice y.2.a y.2.n y.2.c]] W1 fun e w' => e = .returned (.bool (q (l[k]'hlt) y)) ∧ Below W1.heap.size W1 w') := Lib.hid (fun W1 y _ => HF.out W1 _ y)
      have HNX := Lib.hid (goodV_next (V := V) (q := q) hlt HK.out)
      obtain ⟨x, hx0⟩ : ∃ x, l[k]'hlt = x := ⟨_, rfl⟩
      rw [hx0] at HC HQ HNO HNX c0 c1
      clear hx hx0
      have HA1 : Hid (Below wr.heap.size wr (wr.alloc (.cells #[.string (ofL x.1), .slice x.2.a x.2.n x.2.c] 56))) := Lib.hid ((Below.refl _ _).alloc (Nat.le_refl _) _)
      have HA2 : Hid (Blk wr.heap.size 56 #[.string (ofL x.1), .slice x.2.a x.2.n x.2.c] (wr.alloc (.cells #[.string (ofL x.1), .slice x.2.a x.2.n x.2.c] 56))) := Lib.hid (Blk.new _ _ _)
      obtain ⟨W1, hW1⟩ : ∃ W1, wr.alloc (.cells #[.string (ofL x.1), .slice x.2.a x.2.n x.2.c] 56) = W1 := ⟨_, rfl⟩
      rw [hW1] at HA1 HA2
      have HW1 := Lib.hid hW1
      obtain ⟨h, hh⟩ : ∃ h, wr.heap.size = h := ⟨_, rfl⟩
      have HH := Lib.hid hh
      rw [hh] at HA2
      clear hW1 hh
      go_upto_region 6 with fail
      rw [HW1.out, HH.out]
      have HCE : Hid (∀ wx, Below W1.heap.size W1 wx → wx.cell? ⟨h, 0, none⟩ = some (.string (ofL x.1)) ∧ wx.cell? ⟨h, 1, none⟩ = some (.slice x.2.a x.2.n x.2.c)) := Lib.hid (fun wx hb => ⟨(HA2.out.below hb).cell 0, (HA2.out.below hb).cell 1⟩)
      obtain ⟨y0, y1⟩ := HCE.out W1 (Below.refl _ _)
      have HB1 : Hid (Below w.heap.size w W1) := Lib.hid (st HB.out HA1.out zr)
      have HC : Hid (∀ wx, Below W1.heap.size W1 wx → Calls Tryz.prog n1 #[.agg #[.string (ofL x.1), .slice x.2.a x.2.n x.2.c]] wx (Says (V k) wx)) := Lib.hid (fun wx hb => HC.out wx (st HB1.out hb HB1.out.size))
      have HT : Hid (∀ wx, Below W1.heap.size W1 wx → Rd 2 encRl wx (.slice (some ⟨bk, off, none⟩) k c) (l.take k)) := Lib.hid (fun wx hb => HT.out.below (st HB1.out hb HB1.out.size))
      obtain ⟨L, hL⟩ : ∃ L, l.take k = L := ⟨_, rfl⟩
      rw [hL] at HT HQ HNO HNX
      clear hL HW1 HV HG HF HA1 HA2 c0 c1
      by_cases hVk : V k
      case neg =>
        have HVN := Lib.hid hVk
        clear hVk
        refine region_hd 11 (fun wx : World => wx.cell? ⟨h, 0, none⟩ = some (.string (ofL x.1)) ∧ wx.cell? ⟨h, 1, none⟩ = some (.slice x.2.a x.2.n x.2.c)) (by kernel_rfl) (by kernel_rfl) ?_
        have hS0 := HCE.out W1.drew (Below.refl _ _).drew
        refine hd_taken 0 (some 22) _ ?hdvno0 rfl rfl (by kernel_rfl) (fun _ _ _ h => h) (Or.inl ⟨by rfl, ?hdyno0⟩) hS0 ?hdrno0
        case hdyno0 => (intro wx hx; (try dsimp only at hx); go_simp; try with_reducible rfl)
        try simp only [Act.put, List.setIfInBounds_toArray, List.set_cons_zero, List.set_cons_succ]
        refine hd_taken 1 (some 23) _ ?hdvno1 rfl rfl (by kernel_rfl) (fun _ _ _ h => h) (Or.inl ⟨by rfl, ?hdyno1⟩) hS0 ?hdrno1
        case hdyno1 => (intro wx hx; (try dsimp only at hx); go_simp; try with_reducible rfl)
        try simp only [Act.put, List.setIfInBounds_toArray, List.set_cons_zero, List.set_cons_succ]
        refine hd_one 2 _ rfl (by kernel_rfl) (by decide) (fun K2 hK2 => ?_)
        go_simp
        refine (HC.out _ (Below.refl _ _).drew).mono ?_
        rintro e w5 ⟨⟨vb, rfl, hvb⟩, b5⟩
        try dsimp only
        obtain rfl : vb = false := says_no hvb HVN.out
        have B5 : Below W1.heap.size W1 w5 := (Below.refl _ W1).drew.trans b5
        have hS5 := HCE.out w5 B5
        refine hK2.out _ _ hS5 ?_
        clear hK2 K2 hS0 b5 hvb
        try simp only [Act.put, List.setIfInBounds_toArray, List.set_cons_zero, List.set_cons_succ]
        refine hd_taken 3 (some 25) _ ?hdvno3 rfl rfl (by kernel_rfl) (fun _ _ _ h => h) (Or.inl ⟨by rfl, ?hdyno3⟩) hS5 ?hdrno3
        case hdyno3 => (intro wx hx; (try dsimp only at hx); go_simp; try with_reducible rfl)
        try simp only [Act.put, List.setIfInBounds_toArray, List.set_cons_zero, List.set_cons_succ]
        refine hd_taken 4 (some 26) _ ?hdvno4 rfl rfl (by kernel_rfl) (fun _ _ _ h => h) (Or.inl ⟨by rfl, ?hdyno4⟩) hS5 ?hdrno4
        case hdyno4 => (intro wx hx; (try dsimp only at hx); go_simp; try with_reducible rfl)
        try simp only [Act.put, List.setIfInBounds_toArray, List.set_cons_zero, List.set_cons_succ]
        refine hd_taken 5 (some 27) _ undef rfl rfl (by kernel_rfl) (fun _ _ _ h => h) (Or.inr ⟨by rfl, rfl⟩) hS5 ?_
        try simp only [Act.put, List.setIfInBounds_toArray, List.set_cons_zero, List.set_cons_succ]
        refine hd_taken 6 (some 28) _ undef rfl rfl (by kernel_rfl) (fun _ _ _ h => h) (Or.inr ⟨by rfl, rfl⟩) hS5 ?_
        try simp only [Act.put, List.setIfInBounds_toArray, List.set_cons_zero, List.set_cons_succ]
        refine hd_taken 7 (some 29) _ undef rfl rfl (by kernel_rfl) (fun _ _ _ h => h) (Or.inr ⟨by rfl, rfl⟩) hS5 ?_
        try simp only [Act.put, List.setIfInBounds_toArray, List.set_cons_zero, List.set_cons_succ]
        refine hd_taken 8 (some 30) _ undef rfl rfl (by kernel_rfl) (fun _ _ _ h => h) (Or.inr ⟨by rfl, rfl⟩) hS5 ?_
        try simp only [Act.put, List.setIfInBounds_toArray, List.set_cons_zero, List.set_cons_succ]
        refine hd_taken 9 (some 31) _ undef rfl rfl (by kernel_rfl) (fun _ _ _ h => h) (Or.inr ⟨by rfl, rfl⟩) hS5 ?_
        try simp only [Act.put, List.setIfInBounds_toArray, List.set_cons_zero, List.set_cons_succ]
        refine hd_taken 10 (some 32) _ undef rfl rfl (by kernel_rfl) (fun _ _ _ h => h) (Or.inr ⟨by rfl, rfl⟩) hS5 ?_
        try simp only [Act.put, List.setIfInBounds_toArray, List.set_cons_zero, List.set_cons_succ]
        refine hd_done (by kernel_rfl) ?_
        simp only [List.drop_succ_cons, List.drop_zero]
        clear hS5
        go_wp2_with fail
        go_ret
        exact ⟨⟨_, rfl, ⟨fun h => (by cases h), fun h => absurd (HNO.out h).1 HVN.out⟩⟩, st HB1.out B5 HB1.out.size⟩
      obtain ⟨hb0, hhb⟩ : ∃ b, L.any (q x) = b := ⟨_, rfl⟩
      have HHB := Lib.hid hhb
      have HVK := Lib.hid hVk
      clear hVk hhb
      cases hb0 with
      | true =>
        refine region_hd 11 (fun wx : World => wx.cell? ⟨h, 0, none⟩ = some (.string (ofL x.1)) ∧ wx.cell? ⟨h, 1, none⟩ = some (.slice x.2.a x.2.n x.2.c)) (by kernel_rfl) (by kernel_rfl) ?_
        have hS0 := HCE.out W1.drew (Below.refl _ _).drew
        refine hd_taken 0 (some 22) _ ?hdvhit0 rfl rfl (by kernel_rfl) (fun _ _ _ h => h) (Or.inl ⟨by rfl, ?hdyhit0⟩) hS0 ?hdrhit0
        case hdyhit0 => (intro wx hx; (try dsimp only at hx); go_simp; try with_reducible rfl)
        try simp only [Act.put, List.setIfInBounds_toArray, List.set_cons_zero, List.set_cons_succ]
        refine hd_taken 1 (some 23) _ ?hdvhit1 rfl rfl (by kernel_rfl) (fun _ _ _ h => h) (Or.inl ⟨by rfl, ?hdyhit1⟩) hS0 ?hdrhit1
        case hdyhit1 => (intro wx hx; (try dsimp only at hx); go_simp; try with_reducible rfl)
        try simp only [Act.put, List.setIfInBounds_toArray, List.set_cons_zero, List.set_cons_succ]
        refine hd_one 2 _ rfl (by kernel_rfl) (by decide) (fun K2 hK2 => ?_)
        go_simp
        refine (HC.out _ (Below.refl _ _).drew).mono ?_
        rintro e w5 ⟨⟨vb, rfl, hvb⟩, b5⟩
        try dsimp only
        obtain rfl : vb = true := hvb.2 HVK.out
        have B5 : Below W1.heap.size W1 w5 := (Below.refl _ W1).drew.trans b5
        have hS5 := HCE.out w5 B5
        refine hK2.out _ _ hS5 ?_
        clear hK2 K2 hS0 b5 hvb
        try simp only [Act.put, List.setIfInBounds_toArray, List.set_cons_zero, List.set_cons_succ]
        refine hd_taken 3 (some 25) _ ?hdvhit3 rfl rfl (by kernel_rfl) (fun _ _ _ h => h) (Or.inl ⟨by rfl, ?hdyhit3⟩) hS5 ?hdrhit3
        case hdyhit3 => (intro wx hx; (try dsimp only at hx); go_simp; try with_reducible rfl)
        try simp only [Act.put, List.setIfInBounds_toArray, List.set_cons_zero, List.set_cons_succ]
        refine hd_taken 4 (some 26) _ ?hdvhit4 rfl rfl (by kernel_rfl) (fun _ _ _ h => h) (Or.inl ⟨by rfl, ?hdyhit4⟩) hS5 ?hdrhit4
        case hdyhit4 => (intro wx hx; (try dsimp only at hx); go_simp; try with_reducible rfl)
        try simp only [Act.put, List.setIfInBounds_toArray, List.set_cons_zero, List.set_cons_succ]
        refine hd_taken 5 (some 27) _ ?hdvhit5 rfl rfl (by kernel_rfl) (fun _ _ _ h => h) (Or.inl ⟨by rfl, ?hdyhit5⟩) hS5 ?hdrhit5
        case hdyhit5 => (intro wx hx; (try dsimp only at hx); go_simp; try with_reducible rfl)
        try simp only [Act.put, List.setIfInBounds_toArray, List.set_cons_zero, List.set_cons_succ]
        refine hd_taken 6 (some 28) _ ?hdvhit6 rfl rfl (by kernel_rfl) (fun _ _ _ h => h) (Or.inl ⟨by rfl, ?hdyhit6⟩) hS5 ?hdrhit6
        case hdyhit6 => (intro wx hx; (try dsimp only at hx); go_simp; try with_reducible rfl)
        try simp only [Act.put, List.setIfInBounds_toArray, List.set_cons_zero, List.set_cons_succ]
        refine hd_taken 7 (some 29) _ ?hdvhit7 rfl rfl (by kernel_rfl) (fun _ _ _ h => h) (Or.inl ⟨by rfl, ?hdyhit7⟩) hS5 ?hdrhit7
        case hdyhit7 => (intro wx hx; (try dsimp only at hx); go_simp; try with_reducible rfl)
        try simp only [Act.put, List.setIfInBounds_toArray, List.set_cons_zero, List.set_cons_succ]
        refine hd_taken 8 (some 30) _ ?hdvhit8 rfl rfl (by kernel_rfl) (fun _ _ _ h => h) (Or.inl ⟨by rfl, ?hdyhit8⟩) hS5 ?hdrhit8
        case hdyhit8 => (intro wx hx; (try dsimp only at hx); go_simp; try with_reducible rfl)
        try simp only [Act.put, List.setIfInBounds_toArray, List.set_cons_zero, List.set_cons_succ]
        refine hd_taken 9 (some 31) _ ?hdvhit9 rfl rfl (by kernel_rfl) (fun _ _ _ h => h) (Or.inl ⟨by rfl, ?hdyhit9⟩) hS5 ?hdrhit9
        case hdyhit9 => (intro wx hx; (try dsimp only at hx); go_simp; try with_reducible rfl)
        try simp only [Act.put, List.setIfInBounds_toArray, List.set_cons_zero, List.set_cons_succ]
        refine hd_one 10 _ rfl (by kernel_rfl) (by decide) (fun K10 hK10 => ?_)
        go_simp
        refine (hasRu_any _ L x (q x) n0 eg0 _ (HT.out _ B5) HQ.out).mono ?_
        rw [HHB.out]
        rintro e w6 ⟨rfl, b6⟩
        try dsimp only
        have B6 : Below W1.heap.size W1 w6 := st B5 b6 B5.size
        have hS6 := HCE.out w6 B6
        refine hK10.out _ _ hS6 ?_
        clear hK10 K10 hS5 b6
        try simp only [Act.put, List.setIfInBounds_toArray, List.set_cons_zero, List.set_cons_succ]
        refine hd_done (by kernel_rfl) ?_
        simp only [List.drop_succ_cons, List.drop_zero]
        clear hS6
        go_wp2_with fail
        go_ret
        exact ⟨⟨_, rfl, ⟨fun h => (by cases h), fun h => absurd (HHB.out.symm.trans (HNO.out h).2) (by decide)⟩⟩, st HB1.out B6 HB1.out.size⟩
      | false =>
        have HNX := Lib.hid (HNX.out HVK.out HHB.out)
        refine region_hd 11 (fun wx : World => wx.cell? ⟨h, 0, none⟩ = some (.string (ofL x.1)) ∧ wx.cell? ⟨h, 1, none⟩ = some (.slice x.2.a x.2.n x.2.c)) (by kernel_rfl) (by kernel_rfl) ?_
        have hS0 := HCE.out W1.drew (Below.refl _ _).drew
        refine hd_taken 0 (some 22) _ ?hdvmiss0 rfl rfl (by kernel_rfl) (fun _ _ _ h => h) (Or.inl ⟨by rfl, ?hdymiss0⟩) hS0 ?hdrmiss0
        case hdymiss0 => (intro wx hx; (try dsimp only at hx); go_simp; try with_reducible rfl)
        try simp only [Act.put, List.setIfInBounds_toArray, List.set_cons_zero, List.set_cons_succ]
        refine hd_taken 1 (some 23) _ ?hdvmiss1 rfl rfl (by kernel_rfl) (fun _ _ _ h => h) (Or.inl ⟨by rfl, ?hdymiss1⟩) hS0 ?hdrmiss1
        case hdymiss1 => (intro wx hx; (try dsimp only at hx); go_simp; try with_reducible rfl)
        try simp only [Act.put, List.setIfInBounds_toArray, List.set_cons_zero, List.set_cons_succ]
        refine hd_one 2 _ rfl (by kernel_rfl) (by decide) (fun K2 hK2 => ?_)
        go_simp
        refine (HC.out _ (Below.refl _ _).drew).mono ?_
        rintro e w5 ⟨⟨vb, rfl, hvb⟩, b5⟩
        try dsimp only
        obtain rfl : vb = true := hvb.2 HVK.out
        have B5 : Below W1.heap.size W1 w5 := (Below.refl _ W1).drew.trans b5
        have hS5 := HCE.out w5 B5
        refine hK2.out _ _ hS5 ?_
        clear hK2 K2 hS0 b5 hvb
        try simp only [Act.put, List.setIfInBounds_toArray, List.set_cons_zero, List.set_cons_succ]
        refine hd_taken 3 (some 25) _ ?hdvmiss3 rfl rfl (by kernel_rfl) (fun _ _ _ h => h) (Or.inl ⟨by rfl, ?hdymiss3⟩) hS5 ?hdrmiss3
        case hdymiss3 => (intro wx hx; (try dsimp only at hx); go_simp; try with_reducible rfl)
        try simp only [Act.put, List.setIfInBounds_toArray, List.set_cons_zero, List.set_cons_succ]
        refine hd_taken 4 (some 26) _ ?hdvmiss4 rfl rfl (by kernel_rfl) (fun _ _ _ h => h) (Or.inl ⟨by rfl, ?hdymiss4⟩) hS5 ?hdrmiss4
        case hdymiss4 => (intro wx hx; (try dsimp only at hx); go_simp; try with_reducible rfl)
        try simp only [Act.put, List.setIfInBounds_toArray, List.set_cons_zero, List.set_cons_succ]
        refine hd_taken 5 (some 27) _ ?hdvmiss5 rfl rfl (by kernel_rfl) (fun _ _ _ h => h) (Or.inl ⟨by rfl, ?hdymiss5⟩) hS5 ?hdrmiss5
        case hdymiss5 => (intro wx hx; (try dsimp only at hx); go_simp; try with_reducible rfl)
        try simp only [Act.put, List.setIfInBounds_toArray, List.set_cons_zero, List.set_cons_succ]
        refine hd_taken 6 (some 28) _ ?hdvmiss6 rfl rfl (by kernel_rfl) (fun _ _ _ h => h) (Or.inl ⟨by rfl, ?hdymiss6⟩) hS5 ?hdrmiss6
        case hdymiss6 => (intro wx hx; (try dsimp only at hx); go_simp; try with_reducible rfl)
        try simp only [Act.put, List.setIfInBounds_toArray, List.set_cons_zero, List.set_cons_succ]
        refine hd_taken 7 (some 29) _ ?hdvmiss7 rfl rfl (by kernel_rfl) (fun _ _ _ h => h) (Or.inl ⟨by rfl, ?hdymiss7⟩) hS5 ?hdrmiss7
        case hdymiss7 => (intro wx hx; (try dsimp only at hx); go_simp; try with_reducible rfl)
        try simp only [Act.put, List.setIfInBounds_toArray, List.set_cons_zero, List.set_cons_succ]
        refine hd_taken 8 (some 30) _ ?hdvmiss8 rfl rfl (by kernel_rfl) (fun _ _ _ h => h) (Or.inl ⟨by rfl, ?hdymiss8⟩) hS5 ?hdrmiss8
        case hdymiss8 => (intro wx hx; (try dsimp only at hx); go_simp; try with_reducible rfl)
        try simp only [Act.put, List.setIfInBounds_toArray, List.set_cons_zero, List.set_cons_succ]
        refine hd_taken 9 (some 31) _ ?hdvmiss9 rfl rfl (by kernel_rfl) (fun _ _ _ h => h) (Or.inl ⟨by rfl, ?hdymiss9⟩) hS5 ?hdrmiss9
        case hdymiss9 => (intro wx hx; (try dsimp only at hx); go_simp; try with_reducible rfl)
        try simp only [Act.put, List.setIfInBounds_toArray, List.set_cons_zero, List.set_cons_succ]
        refine hd_one 10 _ rfl (by kernel_rfl) (by decide) (fun K10 hK10 => ?_)
        go_simp
        refine (hasRu_any _ L x (q x) n0 eg0 _ (HT.out _ B5) HQ.out).mono ?_
        rw [HHB.out]
        rintro e w6 ⟨rfl, b6⟩
        try dsimp only
        have B6 : Below W1.heap.size W1 w6 := st B5 b6 B5.size
        have hS6 := HCE.out w6 B6
        refine hK10.out _ _ hS6 ?_
        clear hK10 K10 hS5 b6
        try simp only [Act.put, List.setIfInBounds_toArray, List.set_cons_zero, List.set_cons_succ]
        refine hd_done (by kernel_rfl) ?_
        simp only [List.drop_succ_cons, List.drop_zero]
        clear hS6
        go_wp2_with fail
        go_roundw
        case measure => simp [intOf]; omega
        case rel => exact ⟨k + 1, by omega, by go_num, HNX.out, st HB1.out B6 HB1.out.size⟩
    · obtain rfl : k = LN := by omega
      have h3 : ¬ (k : Int) < (k : Int) := by omega
      have HA := Lib.hid (HE.out HM.out (by rw [← HLN.out] at HK ⊢; exact HK.out))
      go_wp2
      go_ret
      exact ⟨⟨_, rfl, ⟨fun _ => HA.out, fun _ => rfl⟩⟩, HB.out⟩
set_option maxRecDepth 1000000 in
set_option maxHeartbeats 4000000 in
theorem areVAl_any (v : Value) (l : List (Str × Str)) (most : Int) (n1 n0 : Nat) (eg1 : ∀ args w, (callFunc n1 args).run Tryz.prog w = .ok (.enter n1 args) w) (eg0 : ∀ args w, (callFunc n0 args).run Tryz.prog w = .ok (.enter n0 args) w) (V : Nat → Prop) (q : Str × Str → Str × Str → Bool) (w : World) (hv : Rd 2 encDu w v l)
    (hV : ∀ (W1 : World), Below w.heap.size w W1 → ∀ (i : Nat) (h : i < l.length), Calls Tryz.prog n1 #[.agg #[.string (ofL (l[i]'h).1), .string (ofL (l[i]'h).2)]] W1 (Says (V i) W1))
    (hF : ∀ (W1 : World) (x y : Str × Str), Calls Tryz.prog n0 #[.agg #[.string (ofL x.1), .string (ofL x.2)], .agg #[.string (ofL y.1), .string (ofL y.2)]] W1 fun e w' => e = .returned (.bool (q x y)) ∧ Below W1.heap.size W1 w') :
    Calls Tryz.prog 35 #[v, .int .i64 most, .func (.func n1) #[] #[], .func (.func n0) #[] #[]] w (Says (AllV l most V q) w) := by
  obtain ⟨a, c, rfl, hc1, hc2⟩ := hv.slice
  have HU := Lib.hid hv
  have HV := Lib.hid hV
  have HF := Lib.hid hF
  have HN := Lib.hid (fun h => allV_big (l := l) (most := most) (V := V) (q := q) h)
  have HG := Lib.hid (fun (k : Nat) (h : k < l.length) => allV_at (l := l) (most := most) (V := V) (q := q) (k := k) h)
  have HE := Lib.hid (fun h h' => allV_end (l := l) (most := most) (V := V) (q := q) h h')
  obtain ⟨LN, hLN⟩ : ∃ LN, l.length = LN := ⟨_, rfl⟩
  have HLN := Lib.hid hLN
  rw [hLN] at HU hc1 HN HE ⊢
  clear hv hF hV hLN
  by_cases hm : (LN : Int) ≤ most
  case neg =>
    have h0 : (LN : Int) > most := by omega
    have h0' : most < (LN : Int) := by omega
    go_enter Tryz.func35, Tryz.ntmps35
    go_wp2
    go_ret
    exact ⟨⟨_, rfl, ⟨fun h => (by cases h), fun h => absurd h (HN.out (by omega))⟩⟩, Below.refl _ _⟩
  have h0 : ¬ (LN : Int) > most := by omega
  have h0' : ¬ most < (LN : Int) := by omega
  have HM := Lib.hid hm
  clear hm
  go_enter Tryz.func35, Tryz.ntmps35
  go_wp2
  go_loopw [17] (fun v wr => ∃ k : Nat, k ≤ LN ∧ v = .int .i64 k ∧ GoodV l V q k ∧ Below w.heap.size w wr) (fun v _ => LN - (intOf v).toNat)
  case atStart => exact ⟨0, Nat.zero_le _, rfl, goodV_zero, Below.refl _ _⟩
  case round =>
    obtain ⟨k, hk, rfl, hkd, hb⟩ := hrel
    have HK := Lib.hid hkd
    have HB := Lib.hid hb
    have zr := hb.size
    clear hkd hb
    by_cases hlt' : k < LN
    · have hlt : k < l.length := by rw [HLN.out]; exact hlt'
      obtain ⟨bk, off, rfl, h00, hx⟩ := (HU.out.below HB.out).some_ k hlt
      have c0 : wr.cell? ⟨bk, off + k * 2, none⟩ = some (.string (ofL (l[k]'hlt).1)) := hx 0 _ rfl
      have c1 : wr.cell? ⟨bk, off + k * 2 + 1, none⟩ = some (.string (ofL (l[k]'hlt).2)) := hx 1 _ rfl
      have h9 : (k : Int) < (LN : Int) := by omega
      have h10 : (k : Int) ≤ (c : Int) := by omega
      have h11 : k ≤ c := by omega
      have HC := Lib.hid (fun wx (hb : Below w.heap.size w wx) => HV.out wx hb k hlt)
      have HT := Lib.hid (HU.out.take k (Nat.le_of_lt hlt))
      have HNO := Lib.hid (HG.out k hlt)
      have HQ : Hid (∀ (W1 : World) (y : Str × Str), y ∈ l.take k → Calls Tryz.prog n0 #[.agg #[.string (ofL (l[k]'hlt).1), .string (ofL (l[k]'hlt).2)], .agg #[.string (ofL y.1), .string (ofL y.2)]] W1 fun e w' => e = .returned (.bool (q (l[k]'hlt) y)) ∧ Below W1.heap.size W1 w') := Lib.hid (fun W1 y _ => HF.out W1 _ y)
      have HNX := Lib.hid (goodV_next (V := V) (q := q) hlt HK.out)
      obtain ⟨x, hx0⟩ : ∃ x, l[k]'hlt = x := ⟨_, rfl⟩
      rw [hx0] at HC HQ HNO HNX c0 c1
      clear hx hx0
      have HA1 : Hid (Below wr.heap.size wr (wr.alloc (.cells #[.string (ofL x.1), .string (ofL x.2)] 61))) := Lib.hid ((Below.refl _ _).alloc (Nat.le_refl _) _)
      have HA2 : Hid (Blk wr.heap.size 61 #[.string (ofL x.1), .string (ofL x.2)] (wr.alloc (.cells #[.string (ofL x.1), .string (ofL x.2)] 61))) := Lib.hid (Blk.new _ _ _)
      obtain ⟨W1, hW1⟩ : ∃ W1, wr.alloc (.cells #[.string (ofL x.1), .string (ofL x.2)] 61) = W1 := ⟨_, rfl⟩
      rw [hW1] at HA1 HA2
      have HW1 := Lib.hid hW1
      obtain ⟨h, hh⟩ : ∃ h, wr.heap.size = h := ⟨_, rfl⟩
      have HH := Lib.hid hh
      rw [hh] at HA2
      clear hW1 hh
      go_upto_region 6 with fail
      rw [HW1.out, HH.out]
      have HCE : Hid (∀ wx, Below W1.heap.size W1 wx → wx.cell? ⟨h, 0, none⟩ = some (.string (ofL x.1)) ∧ wx.cell? ⟨h, 1, none⟩ = some (.string (ofL x.2))) := Lib.hid (fun wx hb => ⟨(HA2.out.below hb).cell 0, (HA2.out.below hb).cell 1⟩)
      obtain ⟨y0, y1⟩ := HCE.out W1 (Below.refl _ _)
      have HB1 : Hid (Below w.heap.size w W1) := Lib.hid (st HB.out HA1.out zr)
      have HC : Hid (∀ wx, Below W1.heap.size W1 wx → Calls Tryz.prog n1 #[.agg #[.string (ofL x.1), .string (ofL x.2)]] wx (Says (V k) wx)) := Lib.hid (fun wx hb => HC.out wx (st HB1.out hb HB1.out.size))
      have HT : Hid (∀ wx, Below W1.heap.size W1 wx → Rd 2 encDu wx (.slice (some ⟨bk, off, none⟩) k c) (l.take k)) := Lib.hid (fun wx hb => HT.out.below (st HB1.out hb HB1.out.size))
      obtain ⟨L, hL⟩ : ∃ L, l.take k = L := ⟨_, rfl⟩
      rw [hL] at HT HQ HNO HNX
      clear hL HW1 HV HG HF HA1 HA2 c0 c1
      by_cases hVk : V k
      case neg =>
        have HVN := Lib.hid hVk
        clear hVk
        refine region_hd 11 (fun wx : World => wx.cell? ⟨h, 0, none⟩ = some (.string (ofL x.1)) ∧ wx.cell? ⟨h, 1, none⟩ = some (.string (ofL x.2))) (by kernel_rfl) (by kernel_rfl) ?_
        have hS0 := HCE.out W1.drew (Below.refl _ _).drew
        refine hd_taken 0 (some 22) _ ?hdvno0 rfl rfl (by kernel_rfl) (fun _ _ _ h => h) (Or.inl ⟨by rfl, ?hdyno0⟩) hS0 ?hdrno0
        case hdyno0 => (intro wx hx; (try dsimp only at hx); go_simp; try with_reducible rfl)
        try simp only [Act.put, List.setIfInBounds_toArray, List.set_cons_zero, List.set_cons_succ]
        refine hd_taken 1 (some 23) _ ?hdvno1 rfl rfl (by kernel_rfl) (fun _ _ _ h => h) (Or.inl ⟨by rfl, ?hdyno1⟩) hS0 ?hdrno1
        case hdyno1 => (intro wx hx; (try dsimp only at hx); go_simp; try with_reducible rfl)
        try simp only [Act.put, List.setIfInBounds_toArray, List.set_cons_zero, List.set_cons_succ]
        refine hd_one 2 _ rfl (by kernel_rfl) (by decide) (fun K2 hK2 => ?_)
        go_simp
        refine (HC.out _ (Below.refl _ _).drew).mono ?_
        rintro e w5 ⟨⟨vb, rfl, hvb⟩, b5⟩
        try dsimp only
        obtain rfl : vb = false := says_no hvb HVN.out
        have B5 : Below W1.heap.size W1 w5 := (Below.refl _ W1).drew.trans b5
        have hS5 := HCE.out w5 B5
        refine hK2.out _ _ hS5 ?_
        clear hK2 K2 hS0 b5 hvb
        try simp only [Act.put, List.setIfInBounds_toArray, List.set_cons_zero, List.set_cons_succ]
        refine hd_taken 3 (some 25) _ ?hdvno3 rfl rfl (by kernel_rfl) (fun _ _ _ h => h) (Or.inl ⟨by rfl, ?hdyno3⟩) hS5 ?hdrno3
        case hdyno3 => (intro wx hx; (try dsimp only at hx); go_simp; try with_reducible rfl)
        try simp only [Act.put, List.setIfInBounds_toArray, List.set_cons_zero, List.set_cons_succ]
        refine hd_taken 4 (some 26) _ ?hdvno4 rfl rfl (by kernel_rfl) (fun _ _ _ h => h) (Or.inl ⟨by rfl, ?hdyno4⟩) hS5 ?hdrno4
        case hdyno4 => (intro wx hx; (try dsimp only at hx); go_simp; try with_reducible rfl)
        try simp only [Act.put, List.setIfInBounds_toArray, List.set_cons_zero, List.set_cons_succ]
        refine hd_taken 5 (some 27) _ undef rfl rfl (by kernel_rfl) (fun _ _ _ h => h) (Or.inr ⟨by rfl, rfl⟩) hS5 ?_
        try simp only [Act.put, List.setIfInBounds_toArray, List.set_cons_zero, List.set_cons_succ]
        refine hd_taken 6 (some 28) _ undef rfl rfl (by kernel_rfl) (fun _ _ _ h => h) (Or.inr ⟨by rfl, rfl⟩) hS5 ?_
        try simp only [Act.put, List.setIfInBounds_toArray, List.set_cons_zero, List.set_cons_succ]
        refine hd_taken 7 (some 29) _ undef rfl rfl (by kernel_rfl) (fun _ _ _ h => h) (Or.inr ⟨by rfl, rfl⟩) hS5 ?_
        try simp only [Act.put, List.setIfInBounds_toArray, List.set_cons_zero, List.set_cons_succ]
        refine hd_taken 8 (some 30) _ undef rfl rfl (by kernel_rfl) (fun _ _ _ h => h) (Or.inr ⟨by rfl, rfl⟩) hS5 ?_
        try simp only [Act.put, List.setIfInBounds_toArray, List.set_cons_zero, List.set_cons_succ]
        refine hd_taken 9 (some 31) _ undef rfl rfl (by kernel_rfl) (fun _ _ _ h => h) (Or.inr ⟨by rfl, rfl⟩) hS5 ?_
        try simp only [Act.put, List.setIfInBounds_toArray, List.set_cons_zero, List.set_cons_succ]
        refine hd_taken 10 (some 32) _ undef rfl rfl (by kernel_rfl) (fun _ _ _ h => h) (Or.inr ⟨by rfl, rfl⟩) hS5 ?_
        try simp only [Act.put, List.setIfInBounds_toArray, List.set_cons_zero, List.set_cons_succ]
        refine hd_done (by kernel_rfl) ?_
        simp only [List.drop_succ_cons, List.drop_zero]
        clear hS5
        go_wp2_with fail
        go_ret
        exact ⟨⟨_, rfl, ⟨fun h => (by cases h), fun h => absurd (HNO.out h).1 HVN.out⟩⟩, st HB1.out B5 HB1.out.size⟩
      obtain ⟨hb0, hhb⟩ : ∃ b, L.any (q x) = b := ⟨_, rfl⟩
      have HHB := Lib.hid hhb
      have HVK := Lib.hid hVk
      clear hVk hhb
      cases hb0 with
      | true =>
        refine region_hd 11 (fun wx : World => wx.cell? ⟨h, 0, none⟩ = some (.string (ofL x.1)) ∧ wx.cell? ⟨h, 1, none⟩ = some (.string (ofL x.2))) (by kernel_rfl) (by kernel_rfl) ?_
        have hS0 := HCE.out W1.drew (Below.refl _ _).drew
        refine hd_taken 0 (some 22) _ ?hdvhit0 rfl rfl (by kernel_rfl) (fun _ _ _ h => h) (Or.inl ⟨by rfl, ?hdyhit0⟩) hS0 ?hdrhit0
        case hdyhit0 => (intro wx hx; (try dsimp only at hx); go_simp; try with_reducible rfl)
        try simp only [Act.put, List.setIfInBounds_toArray, List.set_cons_zero, List.set_cons_succ]
        refine hd_taken 1 (some 23) _ ?hdvhit1 rfl rfl (by kernel_rfl) (fun _ _ _ h => h) (Or.inl ⟨by rfl, ?hdyhit1⟩) hS0 ?hdrhit1
        case hdyhit1 => (intro wx hx; (try dsimp only at hx); go_simp; try with_reducible rfl)
        try simp only [Act.put, List.setIfInBounds_toArray, List.set_cons_zero, List.set_cons_succ]
        refine hd_one 2 _ rfl (by kernel_rfl) (by decide) (fun K2 hK2 => ?_)
        go_simp
        refine (HC.out _ (Below.refl _ _).drew).mono ?_
        rintro e w5 ⟨⟨vb, rfl, hvb⟩, b5⟩
        try dsimp only
        obtain rfl : vb = true := hvb.2 HVK.out
        have B5 : Below W1.heap.size W1 w5 := (Below.refl _ W1).drew.trans b5
        have hS5 := HCE.out w5 B5
        refine hK2.out _ _ hS5 ?_
        clear hK2 K2 hS0 b5 hvb
        try simp only [Act.put, List.setIfInBounds_toArray, List.set_cons_zero, List.set_cons_succ]
        refine hd_taken 3 (some 25) _ ?hdvhit3 rfl rfl (by kernel_rfl) (fun _ _ _ h => h) (Or.inl ⟨by rfl, ?hdyhit3⟩) hS5 ?hdrhit3
        case hdyhit3 => (intro wx hx; (try dsimp only at hx); go_simp; try with_reducible rfl)
        try simp only [Act.put, List.setIfInBounds_toArray, List.set_cons_zero, List.set_cons_succ]
        refine hd_taken 4 (some 26) _ ?hdvhit4 rfl rfl (by kernel_rfl) (fun _ _ _ h => h) (Or.inl ⟨by rfl, ?hdyhit4⟩) hS5 ?hdrhit4
        case hdyhit4 => (intro wx hx; (try dsimp only at hx); go_simp; try with_reducible rfl)
        try simp only [Act.put, List.setIfInBounds_toArray, List.set_cons_zero, List.set_cons_succ]
        refine hd_taken 5 (some 27) _ ?hdvhit5 rfl rfl (by kernel_rfl) (fun _ _ _ h => h) (Or.inl ⟨by rfl, ?hdyhit5⟩) hS5 ?hdrhit5
        case hdyhit5 => (intro wx hx; (try dsimp only at hx); go_simp; try with_reducible rfl)
        try simp only [Act.put, List.setIfInBounds_toArray, List.set_cons_zero, List.set_cons_succ]
        refine hd_taken 6 (some 28) _ ?hdvhit6 rfl rfl (by kernel_rfl) (fun _ _ _ h => h) (Or.inl ⟨by rfl, ?hdyhit6⟩) hS5 ?hdrhit6
        case hdyhit6 => (intro wx hx; (try dsimp only at hx); go_simp; try with_reducible rfl)
        try simp only [Act.put, List.setIfInBounds_toArray, List.set_cons_zero, List.set_cons_succ]
        refine hd_taken 7 (some 29) _ ?hdvhit7 rfl rfl (by kernel_rfl) (fun _ _ _ h => h) (Or.inl ⟨by rfl, ?hdyhit7⟩) hS5 ?hdrhit7
        case hdyhit7 => (intro wx hx; (try dsimp only at hx); go_simp; try with_reducible rfl)
        try simp only [Act.put, List.setIfInBounds_toArray, List.set_cons_zero, List.set_cons_succ]
        refine hd_taken 8 (some 30) _ ?hdvhit8 rfl rfl (by kernel_rfl) (fun _ _ _ h => h) (Or.inl ⟨by rfl, ?hdyhit8⟩) hS5 ?hdrhit8
        case hdyhit8 => (intro wx hx; (try dsimp only at hx); go_simp; try with_reducible rfl)
        try simp only [Act.put, List.setIfInBounds_toArray, List.set_cons_zero, List.set_cons_succ]
        refine hd_taken 9 (some 31) _ ?hdvhit9 rfl rfl (by kernel_rfl) (fun _ _ _ h => h) (Or.inl ⟨by rfl, ?hdyhit9⟩) hS5 ?hdrhit9
        case hdyhit9 => (intro wx hx; (try dsimp only at hx); go_simp; try with_reducible rfl)
        try simp only [Act.put, List.setIfInBounds_toArray, List.set_cons_zero, List.set_cons_succ]
        refine hd_one 10 _ rfl (by kernel_rfl) (by decide) (fun K10 hK10 => ?_)
        go_simp
        refine (hasAl_any _ L x (q x) n0 eg0 _ (HT.out _ B5) HQ.out).mono ?_
        rw [HHB.out]
        rintro e w6 ⟨rfl, b6⟩
        try dsimp only
        have B6 : Below W1.heap.size W1 w6 := st B5 b6 B5.size
        have hS6 := HCE.out w6 B6
        refine hK10.out _ _ hS6 ?_
        clear hK10 K10 hS5 b6
        try simp only [Act.put, List.setIfInBounds_toArray, List.set_cons_zero, List.set_cons_succ]
        refine hd_done (by kernel_rfl) ?_
        simp only [List.drop_succ_cons, List.drop_zero]
        clear hS6
        go_wp2_with fail
        go_ret
        exact ⟨⟨_, rfl, ⟨fun h => (by cases h), fun h => absurd (HHB.out.symm.trans (HNO.out h).2) (by decide)⟩⟩, st HB1.out B6 HB1.out.size⟩
      | false =>
        have HNX := Lib.hid (HNX.out HVK.out HHB.out)
        refine region_hd 11 (fun wx : World => wx.cell? ⟨h, 0, none⟩ = some (.string (ofL x.1)) ∧ wx.cell? ⟨h, 1, none⟩ = some (.string (ofL x.2))) (by kernel_rfl) (by kernel_rfl) ?_
        have hS0 := HCE.out W1.drew (Below.refl _ _).drew
        refine hd_taken 0 (some 22) _ ?hdvmiss0 rfl rfl (by kernel_rfl) (fun _ _ _ h => h) (Or.inl ⟨by rfl, ?hdymiss0⟩) hS0 ?hdrmiss0
        case hdymiss0 => (intro wx hx; (try dsimp only at hx); go_simp; try with_reducible rfl)
        try simp only [Act.put, List.setIfInBounds_toArray, List.set_cons_zero, List.set_cons_succ]
        refine hd_taken 1 (some 23) _ ?hdvmiss1 rfl rfl (by kernel_rfl) (fun _ _ _ h => h) (Or.inl ⟨by rfl, ?hdymiss1⟩) hS0 ?hdrmiss1
        case hdymiss1 => (intro wx hx; (try dsimp only at hx); go_simp; try with_reducible rfl)
        try simp only [Act.put, List.setIfInBounds_toArray, List.set_cons_zero, List.set_cons_succ]
        refine hd_one 2 _ rfl (by kernel_rfl) (by decide) (fun K2 hK2 => ?_)
        go_simp
        refine (HC.out _ (Below.refl _ _).drew).mono ?_
        rintro e w5 ⟨⟨vb, rfl, hvb⟩, b5⟩
        try dsimp only
        obtain rfl : vb = true := hvb.2 HVK.out
        have B5 : Below W1.heap.size W1 w5 := (Below.refl _ W1).drew.trans b5
        have hS5 := HCE.out w5 B5
        refine hK2.out _ _ hS5 ?_
        clear hK2 K2 hS0 b5 hvb
        try simp only [Act.put, List.setIfInBounds_toArray, List.set_cons_zero, List.set_cons_succ]
        refine hd_taken 3 (some 25) _ ?hdvmiss3 rfl rfl (by kernel_rfl) (fun _ _ _ h => h) (Or.inl ⟨by rfl, ?hdymiss3⟩) hS5 ?hdrmiss3
        case hdymiss3 => (intro wx hx; (try dsimp only at hx); go_simp; try with_reducible rfl)
        try simp only [Act.put, List.setIfInBounds_toArray, List.set_cons_zero, List.set_cons_succ]
        refine hd_taken 4 (some 26) _ ?hdvmiss4 rfl rfl (by kernel_rfl) (fun _ _ _ h => h) (Or.inl ⟨by rfl, ?hdymiss4⟩) hS5 ?hdrmiss4
        case hdymiss4 => (intro wx hx; (try dsimp only at hx); go_simp; try with_reducible rfl)
        try simp only [Act.put, List.setIfInBounds_toArray, List.set_cons_zero, List.set_cons_succ]
        refine hd_taken 5 (some 27) _ ?hdvmiss5 rfl rfl (by kernel_rfl) (fun _ _ _ h => h) (Or.inl ⟨by rfl, ?hdymiss5⟩) hS5 ?hdrmiss5
        case hdymiss5 => (intro wx hx; (try dsimp only at hx); go_simp; try with_reducible rfl)
        try simp only [Act.put, List.setIfInBounds_toArray, List.set_cons_zero, List.set_cons_succ]
        refine hd_taken 6 (some 28) _ ?hdvmiss6 rfl rfl (by kernel_rfl) (fun _ _ _ h => h) (Or.inl ⟨by rfl, ?hdymiss6⟩) hS5 ?hdrmiss6
        case hdymiss6 => (intro wx hx; (try dsimp only at hx); go_simp; try with_reducible rfl)
        try simp only [Act.put, List.setIfInBounds_toArray, List.set_cons_zero, List.set_cons_succ]
        refine hd_taken 7 (some 29) _ ?hdvmiss7 rfl rfl (by kernel_rfl) (fun _ _ _ h => h) (Or.inl ⟨by rfl, ?hdymiss7⟩) hS5 ?hdrmiss7
        case hdymiss7 => (intro wx hx; (try dsimp only at hx); go_simp; try with_reducible rfl)
        try simp only [Act.put, List.setIfInBounds_toArray, List.set_cons_zero, List.set_cons_succ]
        refine hd_taken 8 (some 30) _ ?hdvmiss8 rfl rfl (by kernel_rfl) (fun _ _ _ h => h) (Or.inl ⟨by rfl, ?hdymiss8⟩) hS5 ?hdrmiss8
        case hdymiss8 => (intro wx hx; (try dsimp only at hx); go_simp; try with_reducible rfl)
        try simp only [Act.put, List.setIfInBounds_toArray, List.set_cons_zero, List.set_cons_succ]
        refine hd_taken 9 (some 31) _ ?hdvmiss9 rfl rfl (by kernel_rfl) (fun _ _ _ h => h) (Or.inl ⟨by rfl, ?hdymiss9⟩) hS5 ?hdrmiss9
        case hdymiss9 => (intro wx hx; (try dsimp only at hx); go_simp; try with_reducible rfl)
        try simp only [Act.put, List.setIfInBounds_toArray, List.set_cons_zero, List.set_cons_succ]
        refine hd_one 10 _ rfl (by kernel_rfl) (by decide) (fun K10 hK10 => ?_)
        go_simp
        refine (hasAl_any _ L x (q x) n0 eg0 _ (HT.out _ B5) HQ.out).mono ?_
        rw [HHB.out]
        rintro e w6 ⟨rfl, b6⟩
        try dsimp only
        have B6 : Below W1.heap.size W1 w6 := st B5 b6 B5.size
        have hS6 := HCE.out w6 B6
        refine hK10.out _ _ hS6 ?_
        clear hK10 K10 hS5 b6
        try simp only [Act.put, List.setIfInBounds_toArray, List.set_cons_zero, List.set_cons_succ]
        refine hd_done (by kernel_rfl) ?_
        simp only [List.drop_succ_cons, List.drop_zero]
        clear hS6
        go_wp2_with fail
        go_roundw
        case measure => simp [intOf]; omega
        case rel => exact ⟨k + 1, by omega, by go_num, HNX.out, st HB1.out B6 HB1.out.size⟩
    · obtain rfl : k = LN := by omega
      have h3 : ¬ (k : Int) < (k : Int) := by omega
      have HA := Lib.hid (HE.out HM.out (by rw [← HLN.out] at HK ⊢; exact HK.out))
      go_wp2
      go_ret
      exact ⟨⟨_, rfl, ⟨fun _ => HA.out, fun _ => rfl⟩⟩, HB.out⟩
set_option maxRecDepth 1000000 in
set_option maxHeartbeats 4000000 in
theorem areVDa_any (v : Value) (l : List (Str × Str)) (most : Int) (n1 n0 : Nat) (eg1 : ∀ args w, (callFunc n1 args).run Tryz.prog w = .ok (.enter n1 args) w) (eg0 : ∀ args w, (callFunc n0 args).run Tryz.prog w = .ok (.enter n0 args) w) (V : Nat → Prop) (q : Str × Str → Str × Str → Bool) (w : World) (hv : Rd 2 encDu w v l)
    (hV : ∀ (W1 : World), Below w.heap.size w W1 → ∀ (i : Nat) (h : i < l.length), Calls Tryz.prog n1 #[.agg #[.string (ofL (l[i]'h).1), .string (ofL (l[i]'h).2)]] W1 (Says (V i) W1))
    (hF : ∀ (W1 : World) (x y : Str × Str), Calls Tryz.prog n0 #[.agg #[.string (ofL x.1), .string (ofL x.2)], .agg #[.string (ofL y.1), .string (ofL y.2)]] W1 fun e w' => e = .returned (.bool (q x y)) ∧ Below W1.heap.size W1 w') :
    Calls Tryz.prog 88 #[v, .int .i64 most, .func (.func n1) #[] #[], .func (.func n0) #[] #[]] w (Says (AllV l most V q) w) := by
  obtain ⟨a, c, rfl, hc1, hc2⟩ := hv.slice
  have HU := Lib.hid hv
  have HV := Lib.hid hV
  have HF := Lib.hid hF
  have HN := Lib.hid (fun h => allV_big (l := l) (most := most) (V := V) (q := q) h)
  have HG := Lib.hid (fun (k : Nat) (h : k < l.length) => allV_at (l := l) (most := most) (V := V) (q := q) (k := k) h)
  have HE := Lib.hid (fun h h' => allV_end (l := l) (most := most) (V := V) (q := q) h h')
  obtain ⟨LN, hLN⟩ : ∃ LN, l.length = LN := ⟨_, rfl⟩
  have HLN := Lib.hid hLN
  rw [hLN] at HU hc1 HN HE ⊢
  clear hv hF hV hLN
  by_cases hm : (LN : Int) ≤ most
  case neg =>
    have h0 : (LN : Int) > most := by omega
    have h0' : most < (LN : Int) := by omega
    go_enter Tryz.func88, Tryz.ntmps88
    go_wp2
    go_ret
    exact ⟨⟨_, rfl, ⟨fun h => (by cases h), fun h => absurd h (HN.out (by omega))⟩⟩, Below.refl _ _⟩
  have h0 : ¬ (LN : Int) > most := by omega
  have h0' : ¬ most < (LN : Int) := by omega
  have HM := Lib.hid hm
  clear hm
  go_enter Tryz.func88, Tryz.ntmps88
  go_wp2
  go_loopw [17] (fun v wr => ∃ k : Nat, k ≤ LN ∧ v = .int .i64 k ∧ GoodV l V q k ∧ Below w.heap.size w wr) (fun v _ => LN - (intOf v).toNat)
  case atStart => exact ⟨0, Nat.zero_le _, rfl, goodV_zero, Below.refl _ _⟩
  case round =>
    obtain ⟨k, hk, rfl, hkd, hb⟩ := hrel
    have HK := Lib.hid hkd
    have HB := Lib.hid hb
    have zr := hb.size
    clear hkd hb
    by_cases hlt' : k < LN
    · have hlt : k < l.length := by rw [HLN.out]; exact hlt'
      obtain ⟨bk, off, rfl, h00, hx⟩ := (HU.out.below HB.out).some_ k hlt
      have c0 : wr.cell? ⟨bk, off + k * 2, none⟩ = some (.string (ofL (l[k]'hlt).1)) := hx 0 _ rfl
      have c1 : wr.cell? ⟨bk, off + k * 2 + 1, none⟩ = some (.string (ofL (l[k]'hlt).2)) := hx 1 _ rfl
      have h9 : (k : Int) < (LN : Int) := by omega
      have h10 : (k : Int) ≤ (c : Int) := by omega
      have h11 : k ≤ c := by omega
      have HC := Lib.hid (fun wx (hb : Below w.heap.size w wx) => HV.out wx hb k hlt)
      have HT := Lib.hid (HU.out.take k (Nat.le_of_lt hlt))
      have HNO := Lib.hid (HG.out k hlt)
      have HQ : Hid (∀ (W1 : World) (y : Str × Str), y ∈ l.take k → Calls Tryz.prog n0 #[.agg #[.string (ofL (l[k]'hlt).1), .string (ofL (l[k]'hlt).2)], .agg #[.string (ofL y.1), .string (ofL y.2)]] W1 fun e w' => e = .returned (.bool (q (l[k]'hlt) y)) ∧ Below W1.heap.size W1 w') := Lib.hid (fun W1 y _ => HF.out W1 _ y)
      have HNX := Lib.hid (goodV_next (V := V) (q := q) hlt HK.out)
      obtain ⟨x, hx0⟩ : ∃ x, l[k]'hlt = x := ⟨_, rfl⟩
      rw [hx0] at HC HQ HNO HNX c0 c1
      clear hx hx0
      have HA1 : Hid (Below wr.heap.size wr (wr.alloc (.cells #[.string (ofL x.1), .string (ofL x.2)] 124))) := Lib.hid ((Below.refl _ _).alloc (Nat.le_refl _) _)
      have HA2 : Hid (Blk wr.heap.size 124 #[.string (ofL x.1), .string (ofL x.2)] (wr.alloc (.cells #[.string (ofL x.1), .string (ofL x.2)] 124))) := Lib.hid (Blk.new _ _ _)
      obtain ⟨W1, hW1⟩ : ∃ W1, wr.alloc (.cells #[.string (ofL x.1), .string (ofL x.2)] 124) = W1 := ⟨_, rfl⟩
      rw [hW1] at HA1 HA2
      have HW1 := Lib.hid hW1
      obtain ⟨h, hh⟩ : ∃ h, wr.heap.size = h := ⟨_, rfl⟩
      have HH := Lib.hid hh
      rw [hh] at HA2
      clear hW1 hh
      go_upto_region 6 with fail
      rw [HW1.out, HH.out]
      have HCE : Hid (∀ wx, Below W1.heap.size W1 wx → wx.cell? ⟨h, 0, none⟩ = some (.string (ofL x.1)) ∧ wx.cell? ⟨h, 1, none⟩ = some (.string (ofL x.2))) := Lib.hid (fun wx hb => ⟨(HA2.out.below hb).cell 0, (HA2.out.below hb).cell 1⟩)
      obtain ⟨y0, y1⟩ := HCE.out W1 (Below.refl _ _)
      have HB1 : Hid (Below w.heap.size w W1) := Lib.hid (st HB.out HA1.out zr)
      have HC : Hid (∀ wx, Below W1.heap.size W1 wx → Calls Tryz.prog n1 #[.agg #[.string (ofL x.1), .string (ofL x.2)]] wx (Says (V k) wx)) := Lib.hid (fun wx hb => HC.out wx (st HB1.out hb HB1.out.size))
      have HT : Hid (∀ wx, Below W1.heap.size W1 wx → Rd 2 encDu wx (.slice (some ⟨bk, off, none⟩) k c) (l.take k)) := Lib.hid (fun wx hb => HT.out.below (st HB1.out hb HB1.out.size))
      obtain ⟨L, hL⟩ : ∃ L, l.take k = L := ⟨_, rfl⟩
      rw [hL] at HT HQ HNO HNX
      clear hL HW1 HV HG HF HA1 HA2 c0 c1
      by_cases hVk : V k
      case neg =>
        have HVN := Lib.hid hVk
        clear hVk
        refine region_hd 11 (fun wx : World => wx.cell? ⟨h, 0, none⟩ = some (.string (ofL x.1)) ∧ wx.cell? ⟨h, 1, none⟩ = some (.string (ofL x.2))) (by kernel_rfl) (by kernel_rfl) ?_
        have hS0 := HCE.out W1.drew (Below.refl _ _).drew
        refine hd_taken 0 (some 22) _ ?hdvno0 rfl rfl (by kernel_rfl) (fun _ _ _ h => h) (Or.inl ⟨by rfl, ?hdyno0⟩) hS0 ?hdrno0
        case hdyno0 => (intro wx hx; (try dsimp only at hx); go_simp; try with_reducible rfl)
        try simp only [Act.put, List.setIfInBounds_toArray, List.set_cons_zero, List.set_cons_succ]
        refine hd_taken 1 (some 23) _ ?hdvno1 rfl rfl (by kernel_rfl) (fun _ _ _ h => h) (Or.inl ⟨by rfl, ?hdyno1⟩) hS0 ?hdrno1
        case hdyno1 => (intro wx hx; (try dsimp only at hx); go_simp; try with_reducible rfl)
        try simp only [Act.put, List.setIfInBounds_toArray, List.set_cons_zero, List.set_cons_succ]
        refine hd_one 2 _ rfl (by kernel_rfl) (by decide) (fun K2 hK2 => ?_)
        go_simp
        refine (HC.out _ (Below.refl _ _).drew).mono ?_
        rintro e w5 ⟨⟨vb, rfl, hvb⟩, b5⟩
        try dsimp only
        obtain rfl : vb = false := says_no hvb HVN.out
        have B5 : Below W1.heap.size W1 w5 := (Below.refl _ W1).drew.trans b5
        have hS5 := HCE.out w5 B5
        refine hK2.out _ _ hS5 ?_
        clear hK2 K2 hS0 b5 hvb
        try simp only [Act.put, List.setIfInBounds_toArray, List.set_cons_zero, List.set_cons_succ]
        refine hd_taken 3 (some 25) _ ?hdvno3 rfl rfl (by kernel_rfl) (fun _ _ _ h => h) (Or.inl ⟨by rfl, ?hdyno3⟩) hS5 ?hdrno3
        case hdyno3 => (intro wx hx; (try dsimp only at hx); go_simp; try with_reducible rfl)
        try simp only [Act.put, List.setIfInBounds_toArray, List.set_cons_zero, List.set_cons_succ]
        refine hd_taken 4 (some 26) _ ?hdvno4 rfl rfl (by kernel_rfl) (fun _ _ _ h => h) (Or.inl ⟨by rfl, ?hdyno4⟩) hS5 ?hdrno4
        case hdyno4 => (intro wx hx; (try dsimp only at hx); go_simp; try with_reducible rfl)
        try simp only [Act.put, List.setIfInBounds_toArray, List.set_cons_zero, List.set_cons_succ]
        refine hd_taken 5 (some 27) _ undef rfl rfl (by kernel_rfl) (fun _ _ _ h => h) (Or.inr ⟨by rfl, rfl⟩) hS5 ?_
        try simp only [Act.put, List.setIfInBounds_toArray, List.set_cons_zero, List.set_cons_succ]
        refine hd_taken 6 (some 28) _ undef rfl rfl (by kernel_rfl) (fun _ _ _ h => h) (Or.inr ⟨by rfl, rfl⟩) hS5 ?_
        try simp only [Act.put, List.setIfInBounds_toArray, List.set_cons_zero, List.set_cons_succ]
        refine hd_taken 7 (some 29) _ undef rfl rfl (by kernel_rfl) (fun _ _ _ h => h) (Or.inr ⟨by rfl, rfl⟩) hS5 ?_
        try simp only [Act.put, List.setIfInBounds_toArray, List.set_cons_zero, List.set_cons_succ]
        refine hd_taken 8 (some 30) _ undef rfl rfl (by kernel_rfl) (fun _ _ _ h => h) (Or.inr ⟨by rfl, rfl⟩) hS5 ?_
        try simp only [Act.put, List.setIfInBounds_toArray, List.set_cons_zero, List.set_cons_succ]
        refine hd_taken 9 (some 31) _ undef rfl rfl (by kernel_rfl) (fun _ _ _ h => h) (Or.inr ⟨by rfl, rfl⟩) hS5 ?_
        try simp only [Act.put, List.setIfInBounds_toArray, List.set_cons_zero, List.set_cons_succ]
        refine hd_taken 10 (some 32) _ undef rfl rfl (by kernel_rfl) (fun _ _ _ h => h) (Or.inr ⟨by rfl, rfl⟩) hS5 ?_
        try simp only [Act.put, List.setIfInBounds_toArray, List.set_cons_zero, List.set_cons_succ]
        refine hd_done (by kernel_rfl) ?_
        simp only [List.drop_succ_cons, List.drop_zero]
        clear hS5
        go_wp2_with fail
        go_ret
        exact ⟨⟨_, rfl, ⟨fun h => (by cases h), fun h => absurd (HNO.out h).1 HVN.out⟩⟩, st HB1.out B5 HB1.out.size⟩
      obtain ⟨hb0, hhb⟩ : ∃ b, L.any (q x) = b := ⟨_, rfl⟩
      have HHB := Lib.hid hhb
      have HVK := Lib.hid hVk
      clear hVk hhb
      cases hb0 with
      | true =>
        refine region_hd 11 (fun wx : World => wx.cell? ⟨h, 0, none⟩ = some (.string (ofL x.1)) ∧ wx.cell? ⟨h, 1, none⟩ = some (.string (ofL x.2))) (by kernel_rfl) (by kernel_rfl) ?_
        have hS0 := HCE.out W1.drew (Below.refl _ _).drew
        refine hd_taken 0 (some 22) _ ?hdvhit0 rfl rfl (by kernel_rfl) (fun _ _ _ h => h) (Or.inl ⟨by rfl, ?hdyhit0⟩) hS0 ?hdrhit0
        case hdyhit0 => (intro wx hx; (try dsimp only at hx); go_simp; try with_reducible rfl)
        try simp only [Act.put, List.setIfInBounds_toArray, List.set_cons_zero, List.set_cons_succ]
        refine hd_taken 1 (some 23) _ ?hdvhit1 rfl rfl (by kernel_rfl) (fun _ _ _ h => h) (Or.inl ⟨by rfl, ?hdyhit1⟩) hS0 ?hdrhit1
        case hdyhit1 => (intro wx hx; (try dsimp only at hx); go_simp; try with_reducible rfl)
        try simp only [Act.put, List.setIfInBounds_toArray, List.set_cons_zero, List.set_cons_succ]
        refine hd_one 2 _ rfl (by kernel_rfl) (by decide) (fun K2 hK2 => ?_)
        go_simp
        refine (HC.out _ (Below.refl _ _).drew).mono ?_
        rintro e w5 ⟨⟨vb, rfl, hvb⟩, b5⟩
        try dsimp only
        obtain rfl : vb = true := hvb.2 HVK.out
        have B5 : Below W1.heap.size W1 w5 := (Below.refl _ W1).drew.trans b5
        have hS5 := HCE.out w5 B5
        refine hK2.out _ _ hS5 ?_
        clear hK2 K2 hS0 b5 hvb
        try simp only [Act.put, List.setIfInBounds_toArray, List.set_cons_zero, List.set_cons_succ]
        refine hd_taken 3 (some 25) _ ?hdvhit3 rfl rfl (by kernel_rfl) (fun _ _ _ h => h) (Or.inl ⟨by rfl, ?hdyhit3⟩) hS5 ?hdrhit3
        case hdyhit3 => (intro wx hx; (try dsimp only at hx); go_simp; try with_reducible rfl)
        try simp only [Act.put, List.setIfInBounds_toArray, List.set_cons_zero, List.set_cons_succ]
        refine hd_taken 4 (some 26) _ ?hdvhit4 rfl rfl (by kernel_rfl) (fun _ _ _ h => h) (Or.inl ⟨by rfl, ?hdyhit4⟩) hS5 ?hdrhit4
        case hdyhit4 => (intro wx hx; (try dsimp only at hx); go_simp; try with_reducible rfl)
        try simp only [Act.put, List.setIfInBounds_toArray, List.set_cons_zero, List.set_cons_succ]
        refine hd_taken 5 (some 27) _ ?hdvhit5 rfl rfl (by kernel_rfl) (fun _ _ _ h => h) (Or.inl ⟨by rfl, ?hdyhit5⟩) hS5 ?hdrhit5
        case hdyhit5 => (intro wx hx; (try dsimp only at hx); go_simp; try with_reducible rfl)
        try simp only [Act.put, List.setIfInBounds_toArray, List.set_cons_zero, List.set_cons_succ]
        refine hd_taken 6 (some 28) _ ?hdvhit6 rfl rfl (by kernel_rfl) (fun _ _ _ h => h) (Or.inl ⟨by rfl, ?hdyhit6⟩) hS5 ?hdrhit6
        case hdyhit6 => (intro wx hx; (try dsimp only at hx); go_simp; try with_reducible rfl)
        try simp only [Act.put, List.setIfInBounds_toArray, List.set_cons_zero, List.set_cons_succ]
        refine hd_taken 7 (some 29) _ ?hdvhit7 rfl rfl (by kernel_rfl) (fun _ _ _ h => h) (Or.inl ⟨by rfl, ?hdyhit7⟩) hS5 ?hdrhit7
        case hdyhit7 => (intro wx hx; (try dsimp only at hx); go_simp; try with_reducible rfl)
        try simp only [Act.put, List.setIfInBounds_toArray, List.set_cons_zero, List.set_cons_succ]
        refine hd_taken 8 (some 30) _ ?hdvhit8 rfl rfl (by kernel_rfl) (fun _ _ _ h => h) (Or.inl ⟨by rfl, ?hdyhit8⟩) hS5 ?hdrhit8
        case hdyhit8 => (intro wx hx; (try dsimp only at hx); go_simp; try with_reducible rfl)
        try simp only [Act.put, List.setIfInBounds_toArray, List.set_cons_zero, List.set_cons_succ]
        refine hd_taken 9 (some 31) _ ?hdvhit9 rfl rfl (by kernel_rfl) (fun _ _ _ h => h) (Or.inl ⟨by rfl, ?hdyhit9⟩) hS5 ?hdrhit9
        case hdyhit9 => (intro wx hx; (try dsimp only at hx); go_simp; try with_reducible rfl)
        try simp only [Act.put, List.setIfInBounds_toArray, List.set_cons_zero, List.set_cons_succ]
        refine hd_one 10 _ rfl (by kernel_rfl) (by decide) (fun K10 hK10 => ?_)
        go_simp
        refine (hasDa_any _ L x (q x) n0 eg0 _ (HT.out _ B5) HQ.out).mono ?_
        rw [HHB.out]
        rintro e w6 ⟨rfl, b6⟩
        try dsimp only
        have B6 : Below W1.heap.size W1 w6 := st B5 b6 B5.size
        have hS6 := HCE.out w6 B6
        refine hK10.out _ _ hS6 ?_
        clear hK10 K10 hS5 b6
        try simp only [Act.put, List.setIfInBounds_toArray, List.set_cons_zero, List.set_cons_succ]
        refine hd_done (by kernel_rfl) ?_
        simp only [List.drop_succ_cons, List.drop_zero]
        clear hS6
        go_wp2_with fail
        go_ret
        exact ⟨⟨_, rfl, ⟨fun h => (by cases h), fun h => absurd (HHB.out.symm.trans (HNO.out h).2) (by decide)⟩⟩, st HB1.out B6 HB1.out.size⟩
      | false =>
        have HNX := Lib.hid (HNX.out HVK.out HHB.out)
        refine region_hd 11 (fun wx : World => wx.cell? ⟨h, 0, none⟩ = some (.string (ofL x.1)) ∧ wx.cell? ⟨h, 1, none⟩ = some (.string (ofL x.2))) (by kernel_rfl) (by kernel_rfl) ?_
        have hS0 := HCE.out W1.drew (Below.refl _ _).drew
        refine hd_taken 0 (some 22) _ ?hdvmiss0 rfl rfl (by kernel_rfl) (fun _ _ _ h => h) (Or.inl ⟨by rfl, ?hdymiss0⟩) hS0 ?hdrmiss0
        case hdymiss0 => (intro wx hx; (try dsimp only at hx); go_simp; try with_reducible rfl)
        try simp only [Act.put, List.setIfInBounds_toArray, List.set_cons_zero, List.set_cons_succ]
        refine hd_taken 1 (some 23) _ ?hdvmiss1 rfl rfl (by kernel_rfl) (fun _ _ _ h => h) (Or.inl ⟨by rfl, ?hdymiss1⟩) hS0 ?hdrmiss1
        case hdymiss1 => (intro wx hx; (try dsimp only at hx); go_simp; try with_reducible rfl)
        try simp only [Act.put, List.setIfInBounds_toArray, List.set_cons_zero, List.set_cons_succ]
        refine hd_one 2 _ rfl (by kernel_rfl) (by decide) (fun K2 hK2 => ?_)
        go_simp
        refine (HC.out _ (Below.refl _ _).drew).mono ?_
        rintro e w5 ⟨⟨vb, rfl, hvb⟩, b5⟩
        try dsimp only
        obtain rfl : vb = true := hvb.2 HVK.out
        have B5 : Below W1.heap.size W1 w5 := (Below.refl _ W1).drew.trans b5
        have hS5 := HCE.out w5 B5
        refine hK2.out _ _ hS5 ?_
        clear hK2 K2 hS0 b5 hvb
        try simp only [Act.put, List.setIfInBounds_toArray, List.set_cons_zero, List.set_cons_succ]
        refine hd_taken 3 (some 25) _ ?hdvmiss3 rfl rfl (by kernel_rfl) (fun _ _ _ h => h) (Or.inl ⟨by rfl, ?hdymiss3⟩) hS5 ?hdrmiss3
        case hdymiss3 => (intro wx hx; (try dsimp only at hx); go_simp; try with_reducible rfl)
        try simp only [Act.put, List.setIfInBounds_toArray, List.set_cons_zero, List.set_cons_succ]
        refine hd_taken 4 (some 26) _ ?hdvmiss4 rfl rfl (by kernel_rfl) (fun _ _ _ h => h) (Or.inl ⟨by rfl, ?hdymiss4⟩) hS5 ?hdrmiss4
        case hdymiss4 => (intro wx hx; (try dsimp only at hx); go_simp; try with_reducible rfl)
        try simp only [Act.put, List.setIfInBounds_toArray, List.set_cons_zero, List.set_cons_succ]
        refine hd_taken 5 (some 27) _ ?hdvmiss5 rfl rfl (by kernel_rfl) (fun _ _ _ h => h) (Or.inl ⟨by rfl, ?hdymiss5⟩) hS5 ?hdrmiss5
        case hdymiss5 => (intro wx hx; (try dsimp only at hx); go_simp; try with_reducible rfl)
        try simp only [Act.put, List.setIfInBounds_toArray, List.set_cons_zero, List.set_cons_succ]
        refine hd_taken 6 (some 28) _ ?hdvmiss6 rfl rfl (by kernel_rfl) (fun _ _ _ h => h) (Or.inl ⟨by rfl, ?hdymiss6⟩) hS5 ?hdrmiss6
        case hdymiss6 => (intro wx hx; (try dsimp only at hx); go_simp; try with_reducible rfl)
        try simp only [Act.put, List.setIfInBounds_toArray, List.set_cons_zero, List.set_cons_succ]
        refine hd_taken 7 (some 29) _ ?hdvmiss7 rfl rfl (by kernel_rfl) (fun _ _ _ h => h) (Or.inl ⟨by rfl, ?hdymiss7⟩) hS5 ?hdrmiss7
        case hdymiss7 => (intro wx hx; (try dsimp only at hx); go_simp; try with_reducible rfl)
        try simp only [Act.put, List.setIfInBounds_toArray, List.set_cons_zero, List.set_cons_succ]
        refine hd_taken 8 (some 30) _ ?hdvmiss8 rfl rfl (by kernel_rfl) (fun _ _ _ h => h) (Or.inl ⟨by rfl, ?hdymiss8⟩) hS5 ?hdrmiss8
        case hdymiss8 => (intro wx hx; (try dsimp only at hx); go_simp; try with_reducible rfl)
        try simp only [Act.put, List.setIfInBounds_toArray, List.set_cons_zero, List.set_cons_succ]
        refine hd_taken 9 (some 31) _ ?hdvmiss9 rfl rfl (by kernel_rfl) (fun _ _ _ h => h) (Or.inl ⟨by rfl, ?hdymiss9⟩) hS5 ?hdrmiss9
        case hdymiss9 => (intro wx hx; (try dsimp only at hx); go_simp; try with_reducible rfl)
        try simp only [Act.put, List.setIfInBounds_toArray, List.set_cons_zero, List.set_cons_succ]
        refine hd_one 10 _ rfl (by kernel_rfl) (by decide) (fun K10 hK10 => ?_)
        go_simp
        refine (hasDa_any _ L x (q x) n0 eg0 _ (HT.out _ B5) HQ.out).mono ?_
        rw [HHB.out]
        rintro e w6 ⟨rfl, b6⟩
        try dsimp only
        have B6 : Below W1.heap.size W1 w6 := st B5 b6 B5.size
        have hS6 := HCE.out w6 B6
        refine hK10.out _ _ hS6 ?_
        clear hK10 K10 hS5 b6
        try simp only [Act.put, List.setIfInBounds_toArray, List.set_cons_zero, List.set_cons_succ]
        refine hd_done (by kernel_rfl) ?_
        simp only [List.drop_succ_cons, List.drop_zero]
        clear hS6
        go_wp2_with fail
        go_roundw
        case measure => simp [intOf]; omega
        case rel => exact ⟨k + 1, by omega, by go_num, HNX.out, st HB1.out B6 HB1.out.size⟩
    · obtain rfl : k = LN := by omega
      have h3 : ¬ (k : Int) < (k : Int) := by omega
      have HA := Lib.hid (HE.out HM.out (by rw [← HLN.out] at HK ⊢; exact HK.out))
      go_wp2
      go_ret
      exact ⟨⟨_, rfl, ⟨fun _ => HA.out, fun _ => rfl⟩⟩, HB.out⟩
set_option maxRecDepth 1000000 in
set_option maxHeartbeats 4000000 in
theorem areVNe_any (v : Value) (l : List (Nea)) (most : Int) (n1 n0 : Nat) (eg1 : ∀ args w, (callFunc n1 args).run Tryz.prog w = .ok (.enter n1 args) w) (eg0 : ∀ args w, (callFunc n0 args).run Tryz.prog w = .ok (.enter n0 args) w) (V : Nat → Prop) (q : Nea → Nea → Bool) (w : World) (hv : Rd 3 encNe w v l)
    (hV : ∀ (W1 : World), Below w.heap.size w W1 → ∀ (i : Nat) (h : i < l.length), Calls Tryz.prog n1 #[.agg #[.string (ofL (l[i]'h).fr), .string (ofL (l[i]'h).to_), .int .i64 (l[i]'h).co]] W1 (Says (V i) W1))
    (hF : ∀ (W1 : World) (x y : Nea), Calls Tryz.prog n0 #[.agg #[.string (ofL x.fr), .string (ofL x.to_), .int .i64 x.co], .agg #[.string (ofL y.fr), .string (ofL y.to_), .int .i64 y.co]] W1 fun e w' => e = .returned (.bool (q x y)) ∧ Below W1.heap.size W1 w') :
    Calls Tryz.prog 38 #[v, .int .i64 most, .func (.func n1) #[] #[], .func (.func n0) #[] #[]] w (Says (AllV l most V q) w) := by
  obtain ⟨a, c, rfl, hc1, hc2⟩ := hv.slice
  have HU := Lib.hid hv
  have HV := Lib.hid hV
  have HF := Lib.hid hF
  have HN := Lib.hid (fun h => allV_big (l := l) (most := most) (V := V) (q := q) h)
  have HG := Lib.hid (fun (k : Nat) (h : k < l.length) => allV_at (l := l) (most := most) (V := V) (q := q) (k := k) h)
  have HE := Lib.hid (fun h h' => allV_end (l := l) (most := most) (V := V) (q := q) h h')
  obtain ⟨LN, hLN⟩ : ∃ LN, l.length = LN := ⟨_, rfl⟩
  have HLN := Lib.hid hLN
  rw [hLN] at HU hc1 HN HE ⊢
  clear hv hF hV hLN
  by_cases hm : (LN : Int) ≤ most
  case neg =>
    have h0 : (LN : Int) > most := by omega
    have h0' : most < (LN : Int) := by omega
    go_enter Tryz.func38, Tryz.ntmps38
    go_wp2
    go_ret
    exact ⟨⟨_, rfl, ⟨fun h => (by cases h), fun h => absurd h (HN.out (by omega))⟩⟩, Below.refl _ _⟩
  have h0 : ¬ (LN : Int) > most := by omega
  have h0' : ¬ most < (LN : Int) := by omega
  have HM := Lib.hid hm
  clear hm
  go_enter Tryz.func38, Tryz.ntmps38
  go_wp2
  go_loopw [17] (fun v wr => ∃ k : Nat, k ≤ LN ∧ v = .int .i64 k ∧ GoodV l V q k ∧ Below w.heap.size w wr) (fun v _ => LN - (intOf v).toNat)
  case atStart => exact ⟨0, Nat.zero_le _, rfl, goodV_zero, Below.refl _ _⟩
  case round =>
    obtain ⟨k, hk, rfl, hkd, hb⟩ := hrel
    have HK := Lib.hid hkd
    have HB := Lib.hid hb
    have zr := hb.size
    clear hkd hb
    by_cases hlt' : k < LN
    · have hlt : k < l.length := by rw [HLN.out]; exact hlt'
      obtain ⟨bk, off, rfl, h00, hx⟩ := (HU.out.below HB.out).some_ k hlt
      have c0 : wr.cell? ⟨bk, off + k * 3, none⟩ = some (.string (ofL (l[k]'hlt).fr)) := hx 0 _ rfl
      have c1 : wr.cell? ⟨bk, off + k * 3 + 1, none⟩ = some (.string (ofL (l[k]'hlt).to_)) := hx 1 _ rfl
      have c2 : wr.cell? ⟨bk, off + k * 3 + 2, none⟩ = some (.int .i64 (l[k]'hlt).co) := hx 2 _ rfl
      have h9 : (k : Int) < (LN : Int) := by omega
      have h10 : (k : Int) ≤ (c : Int) := by omega
      have h11 : k ≤ c := by omega
      have HC := Lib.hid (fun wx (hb : Below w.heap.size w wx) => HV.out wx hb k hlt)
      have HT := Lib.hid (HU.out.take k (Nat.le_of_lt hlt))
      have HNO := Lib.hid (HG.out k hlt)
      have HQ : Hid (∀ (W1 : World) (y : Nea), y ∈ l.take k → Calls Tryz.prog n0 #[.agg #[.string (ofL (l[k]'hlt).fr), .string (ofL (l[k]'hlt).to_), .int .i64 (l[k]'hlt).co], .agg #[.string (ofL y.fr), .string (ofL y.to_), .int .i64 y.co]] W1 fun e w' => e = .returned (.bool (q (l[k]'hlt) y)) ∧ Below W1.heap.size W1 w') := Lib.hid (fun W1 y _ => HF.out W1 _ y)
      have HNX := Lib.hid (goodV_next (V := V) (q := q) hlt HK.out)
      obtain ⟨x, hx0⟩ : ∃ x, l[k]'hlt = x := ⟨_, rfl⟩
      rw [hx0] at HC HQ HNO HNX c0 c1 c2
      clear hx hx0
      have HA1 : Hid (Below wr.heap.size wr (wr.alloc (.cells #[.string (ofL x.fr), .string (ofL x.to_), .int .i64 x.co] 36))) := Lib.hid ((Below.refl _ _).alloc (Nat.le_refl _) _)
      have HA2 : Hid (Blk wr.heap.size 36 #[.string (ofL x.fr), .string (ofL x.to_), .int .i64 x.co] (wr.alloc (.cells #[.string (ofL x.fr), .string (ofL x.to_), .int .i64 x.co] 36))) := Lib.hid (Blk.new _ _ _)
      obtain ⟨W1, hW1⟩ : ∃ W1, wr.alloc (.cells #[.string (ofL x.fr), .string (ofL x.to_), .int .i64 x.co] 36) = W1 := ⟨_, rfl⟩
      rw [hW1] at HA1 HA2
      have HW1 := Lib.hid hW1
      obtain ⟨h, hh⟩ : ∃ h, wr.heap.size = h := ⟨_, rfl⟩
      have HH := Lib.hid hh
      rw [hh] at HA2
      clear hW1 hh
      go_upto_region 6 with fail
      rw [HW1.out, HH.out]
      have HCE : Hid (∀ wx, Below W1.heap.size W1 wx → wx.cell? ⟨h, 0, none⟩ = some (.string (ofL x.fr)) ∧ wx.cell? ⟨h, 1, none⟩ = some (.string (ofL x.to_)) ∧ wx.cell? ⟨h, 2, none⟩ = some (.int .i64 x.co)) := Lib.hid (fun wx hb => ⟨(HA2.out.below hb).cell 0, (HA2.out.below hb).cell 1, (HA2.out.below hb).cell 2⟩)
      obtain ⟨y0, y1, y2⟩ := HCE.out W1 (Below.refl _ _)
      have HB1 : Hid (Below w.heap.size w W1) := Lib.hid (st HB.out HA1.out zr)
      have HC : Hid (∀ wx, Below W1.heap.size W1 wx → Calls Tryz.prog n1 #[.agg #[.string (ofL x.fr), .string (ofL x.to_), .int .i64 x.co]] wx (Says (V k) wx)) := Lib.hid (fun wx hb => HC.out wx (st HB1.out hb HB1.out.size))
      have HT : Hid (∀ wx, Below W1.heap.size W1 wx → Rd 3 encNe wx (.slice (some ⟨bk, off, none⟩) k c) (l.take k)) := Lib.hid (fun wx hb => HT.out.below (st HB1.out hb HB1.out.size))
      obtain ⟨L, hL⟩ : ∃ L, l.take k = L := ⟨_, rfl⟩
      rw [hL] at HT HQ HNO HNX
      clear hL HW1 HV HG HF HA1 HA2 c0 c1 c2
      by_cases hVk : V k
      case neg =>
        have HVN := Lib.hid hVk
        clear hVk
        refine region_hd 11 (fun wx : World => wx.cell? ⟨h, 0, none⟩ = some (.string (ofL x.fr)) ∧ wx.cell? ⟨h, 1, none⟩ = some (.string (ofL x.to_)) ∧ wx.cell? ⟨h, 2, none⟩ = some (.int .i64 x.co)) (by kernel_rfl) (by kernel_rfl) ?_
        have hS0 := HCE.out W1.drew (Below.refl _ _).drew
        refine hd_taken 0 (some 22) _ ?hdvno0 rfl rfl (by kernel_rfl) (fun _ _ _ h => h) (Or.inl ⟨by rfl, ?hdyno0⟩) hS0 ?hdrno0
        case hdyno0 => (intro wx hx; (try dsimp only at hx); go_simp; try with_reducible rfl)
        try simp only [Act.put, List.setIfInBounds_toArray, List.set_cons_zero, List.set_cons_succ]
        refine hd_taken 1 (some 23) _ ?hdvno1 rfl rfl (by kernel_rfl) (fun _ _ _ h => h) (Or.inl ⟨by rfl, ?hdyno1⟩) hS0 ?hdrno1
        case hdyno1 => (intro wx hx; (try dsimp only at hx); go_simp; try with_reducible rfl)
        try simp only [Act.put, List.setIfInBounds_toArray, List.set_cons_zero, List.set_cons_succ]
        refine hd_one 2 _ rfl (by kernel_rfl) (by decide) (fun K2 hK2 => ?_)
        go_simp
        refine (HC.out _ (Below.refl _ _).drew).mono ?_
        rintro e w5 ⟨⟨vb, rfl, hvb⟩, b5⟩
        try dsimp only
        obtain rfl : vb = false := says_no hvb HVN.out
        have B5 : Below W1.heap.size W1 w5 := (Below.refl _ W1).drew.trans b5
        have hS5 := HCE.out w5 B5
        refine hK2.out _ _ hS5 ?_
        clear hK2 K2 hS0 b5 hvb
        try simp only [Act.put, List.setIfInBounds_toArray, List.set_cons_zero, List.set_cons_succ]
        refine hd_taken 3 (some 25) _ ?hdvno3 rfl rfl (by kernel_rfl) (fun _ _ _ h => h) (Or.inl ⟨by rfl, ?hdyno3⟩) hS5 ?hdrno3
        case hdyno3 => (intro wx hx; (try dsimp only at hx); go_simp; try with_reducible rfl)
        try simp only [Act.put, List.setIfInBounds_toArray, List.set_cons_zero, List.set_cons_succ]
        refine hd_taken 4 (some 26) _ ?hdvno4 rfl rfl (by kernel_rfl) (fun _ _ _ h => h) (Or.inl ⟨by rfl, ?hdyno4⟩) hS5 ?hdrno4
        case hdyno4 => (intro wx hx; (try dsimp only at hx); go_simp; try with_reducible rfl)
        try simp only [Act.put, List.setIfInBounds_toArray, List.set_cons_zero, List.set_cons_succ]
        refine hd_taken 5 (some 27) _ undef rfl rfl (by kernel_rfl) (fun _ _ _ h => h) (Or.inr ⟨by rfl, rfl⟩) hS5 ?_
        try simp only [Act.put, List.setIfInBounds_toArray, List.set_cons_zero, List.set_cons_succ]
        refine hd_taken 6 (some 28) _ undef rfl rfl (by kernel_rfl) (fun _ _ _ h => h) (Or.inr ⟨by rfl, rfl⟩) hS5 ?_
        try simp only [Act.put, List.setIfInBounds_toArray, List.set_cons_zero, List.set_cons_succ]
        refine hd_taken 7 (some 29) _ undef rfl rfl (by kernel_rfl) (fun _ _ _ h => h) (Or.inr ⟨by rfl, rfl⟩) hS5 ?_
        try simp only [Act.put, List.setIfInBounds_toArray, List.set_cons_zero, List.set_cons_succ]
        refine hd_taken 8 (some 30) _ undef rfl rfl (by kernel_rfl) (fun _ _ _ h => h) (Or.inr ⟨by rfl, rfl⟩) hS5 ?_
        try simp only [Act.put, List.setIfInBounds_toArray, List.set_cons_zero, List.set_cons_succ]
        refine hd_taken 9 (some 31) _ undef rfl rfl (by kernel_rfl) (fun _ _ _ h => h) (Or.inr ⟨by rfl, rfl⟩) hS5 ?_
        try simp only [Act.put, List.setIfInBounds_toArray, List.set_cons_zero, List.set_cons_succ]
        refine hd_taken 10 (some 32) _ undef rfl rfl (by kernel_rfl) (fun _ _ _ h => h) (Or.inr ⟨by rfl, rfl⟩) hS5 ?_
        try simp only [Act.put, List.setIfInBounds_toArray, List.set_cons_zero, List.set_cons_succ]
        refine hd_done (by kernel_rfl) ?_
        simp only [List.drop_succ_cons, List.drop_zero]
        clear hS5
        go_wp2_with fail
        go_ret
        exact ⟨⟨_, rfl, ⟨fun h => (by cases h), fun h => absurd (HNO.out h).1 HVN.out⟩⟩, st HB1.out B5 HB1.out.size⟩
      obtain ⟨hb0, hhb⟩ : ∃ b, L.any (q x) = b := ⟨_, rfl⟩
      have HHB := Lib.hid hhb
      have HVK := Lib.hid hVk
      clear hVk hhb
      cases hb0 with
      | true =>
        refine region_hd 11 (fun wx : World => wx.cell? ⟨h, 0, none⟩ = some (.string (ofL x.fr)) ∧ wx.cell? ⟨h, 1, none⟩ = some (.string (ofL x.to_)) ∧ wx.cell? ⟨h, 2, none⟩ = some (.int .i64 x.co)) (by kernel_rfl) (by kernel_rfl) ?_
        have hS0 := HCE.out W1.drew (Below.refl _ _).drew
        refine hd_taken 0 (some 22) _ ?hdvhit0 rfl rfl (by kernel_rfl) (fun _ _ _ h => h) (Or.inl ⟨by rfl, ?hdyhit0⟩) hS0 ?hdrhit0
        case hdyhit0 => (intro wx hx; (try dsimp only at hx); go_simp; try with_reducible rfl)
        try simp only [Act.put, List.setIfInBounds_toArray, List.set_cons_zero, List.set_cons_succ]
        refine hd_taken 1 (some 23) _ ?hdvhit1 rfl rfl (by kernel_rfl) (fun _ _ _ h => h) (Or.inl ⟨by rfl, ?hdyhit1⟩) hS0 ?hdrhit1
        case hdyhit1 => (intro wx hx; (try dsimp only at hx); go_simp; try with_reducible rfl)
        try simp only [Act.put, List.setIfInBounds_toArray, List.set_cons_zero, List.set_cons_succ]
        refine hd_one 2 _ rfl (by kernel_rfl) (by decide) (fun K2 hK2 => ?_)
        go_simp
        refine (HC.out _ (Below.refl _ _).drew).mono ?_
        rintro e w5 ⟨⟨vb, rfl, hvb⟩, b5⟩
        try dsimp only
        obtain rfl : vb = true := hvb.2 HVK.out
        have B5 : Below W1.heap.size W1 w5 := (Below.refl _ W1).drew.trans b5
        have hS5 := HCE.out w5 B5
        refine hK2.out _ _ hS5 ?_
        clear hK2 K2 hS0 b5 hvb
        try simp only [Act.put, List.setIfInBounds_toArray, List.set_cons_zero, List.set_cons_succ]
        refine hd_taken 3 (some 25) _ ?hdvhit3 rfl rfl (by kernel_rfl) (fun _ _ _ h => h) (Or.inl ⟨by rfl, ?hdyhit3⟩) hS5 ?hdrhit3
        case hdyhit3 => (intro wx hx; (try dsimp only at hx); go_simp; try with_reducible rfl)
        try simp only [Act.put, List.setIfInBounds_toArray, List.set_cons_zero, List.set_cons_succ]
        refine hd_taken 4 (some 26) _ ?hdvhit4 rfl rfl (by kernel_rfl) (fun _ _ _ h => h) (Or.inl ⟨by rfl, ?hdyhit4⟩) hS5 ?hdrhit4
        case hdyhit4 => (intro wx hx; (try dsimp only at hx); go_simp; try with_reducible rfl)
        try simp only [Act.put, List.setIfInBounds_toArray, List.set_cons_zero, List.set_cons_succ]
        refine hd_taken 5 (some 27) _ ?hdvhit5 rfl rfl (by kernel_rfl) (fun _ _ _ h => h) (Or.inl ⟨by rfl, ?hdyhit5⟩) hS5 ?hdrhit5
        case hdyhit5 => (intro wx hx; (try dsimp only at hx); go_simp; try with_reducible rfl)
        try simp only [Act.put, List.setIfInBounds_toArray, List.set_cons_zero, List.set_cons_succ]
        refine hd_taken 6 (some 28) _ ?hdvhit6 rfl rfl (by kernel_rfl) (fun _ _ _ h => h) (Or.inl ⟨by rfl, ?hdyhit6⟩) hS5 ?hdrhit6
        case hdyhit6 => (intro wx hx; (try dsimp only at hx); go_simp; try with_reducible rfl)
        try simp only [Act.put, List.setIfInBounds_toArray, List.set_cons_zero, List.set_cons_succ]
        refine hd_taken 7 (some 29) _ ?hdvhit7 rfl rfl (by kernel_rfl) (fun _ _ _ h => h) (Or.inl ⟨by rfl, ?hdyhit7⟩) hS5 ?hdrhit7
        case hdyhit7 => (intro wx hx; (try dsimp only at hx); go_simp; try with_reducible rfl)
        try simp only [Act.put, List.setIfInBounds_toArray, List.set_cons_zero, List.set_cons_succ]
        refine hd_taken 8 (some 30) _ ?hdvhit8 rfl rfl (by kernel_rfl) (fun _ _ _ h => h) (Or.inl ⟨by rfl, ?hdyhit8⟩) hS5 ?hdrhit8
        case hdyhit8 => (intro wx hx; (try dsimp only at hx); go_simp; try with_reducible rfl)
        try simp only [Act.put, List.setIfInBounds_toArray, List.set_cons_zero, List.set_cons_succ]
        refine hd_taken 9 (some 31) _ ?hdvhit9 rfl rfl (by kernel_rfl) (fun _ _ _ h => h) (Or.inl ⟨by rfl, ?hdyhit9⟩) hS5 ?hdrhit9
        case hdyhit9 => (intro wx hx; (try dsimp only at hx); go_simp; try with_reducible rfl)
        try simp only [Act.put, List.setIfInBounds_toArray, List.set_cons_zero, List.set_cons_succ]
        refine hd_one 10 _ rfl (by kernel_rfl) (by decide) (fun K10 hK10 => ?_)
        go_simp
        refine (hasNe_any _ L x (q x) n0 eg0 _ (HT.out _ B5) HQ.out).mono ?_
        rw [HHB.out]
        rintro e w6 ⟨rfl, b6⟩
        try dsimp only
        have B6 : Below W1.heap.size W1 w6 := st B5 b6 B5.size
        have hS6 := HCE.out w6 B6
        refine hK10.out _ _ hS6 ?_
        clear hK10 K10 hS5 b6
        try simp only [Act.put, List.setIfInBounds_toArray, List.set_cons_zero, List.set_cons_succ]
        refine hd_done (by kernel_rfl) ?_
        simp only [List.drop_succ_cons, List.drop_zero]
        clear hS6
        go_wp2_with fail
        go_ret
        exact ⟨⟨_, rfl, ⟨fun h => (by cases h), fun h => absurd (HHB.out.symm.trans (HNO.out h).2) (by decide)⟩⟩, st HB1.out B6 HB1.out.size⟩
      | false =>
        have HNX := Lib.hid (HNX.out HVK.out HHB.out)
        refine region_hd 11 (fun wx : World => wx.cell? ⟨h, 0, none⟩ = some (.string (ofL x.fr)) ∧ wx.cell? ⟨h, 1, none⟩ = some (.string (ofL x.to_)) ∧ wx.cell? ⟨h, 2, none⟩ = some (.int .i64 x.co)) (by kernel_rfl) (by kernel_rfl) ?_
        have hS0 := HCE.out W1.drew (Below.refl _ _).drew
        refine hd_taken 0 (some 22) _ ?hdvmiss0 rfl rfl (by kernel_rfl) (fun _ _ _ h => h) (Or.inl ⟨by rfl, ?hdymiss0⟩) hS0 ?hdrmiss0
        case hdymiss0 => (intro wx hx; (try dsimp only at hx); go_simp; try with_reducible rfl)
        try simp only [Act.put, List.setIfInBounds_toArray, List.set_cons_zero, List.set_cons_succ]
        refine hd_taken 1 (some 23) _ ?hdvmiss1 rfl rfl (by kernel_rfl) (fun _ _ _ h => h) (Or.inl ⟨by rfl, ?hdymiss1⟩) hS0 ?hdrmiss1
        case hdymiss1 => (intro wx hx; (try dsimp only at hx); go_simp; try with_reducible rfl)
        try simp only [Act.put, List.setIfInBounds_toArray, List.set_cons_zero, List.set_cons_succ]
        refine hd_one 2 _ rfl (by kernel_rfl) (by decide) (fun K2 hK2 => ?_)
        go_simp
        refine (HC.out _ (Below.refl _ _).drew).mono ?_
        rintro e w5 ⟨⟨vb, rfl, hvb⟩, b5⟩
        try dsimp only
        obtain rfl : vb = true := hvb.2 HVK.out
        have B5 : Below W1.heap.size W1 w5 := (Below.refl _ W1).drew.trans b5
        have hS5 := HCE.out w5 B5
        refine hK2.out _ _ hS5 ?_
        clear hK2 K2 hS0 b5 hvb
        try simp only [Act.put, List.setIfInBounds_toArray, List.set_cons_zero, List.set_cons_succ]
        refine hd_taken 3 (some 25) _ ?hdvmiss3 rfl rfl (by kernel_rfl) (fun _ _ _ h => h) (Or.inl ⟨by rfl, ?hdymiss3⟩) hS5 ?hdrmiss3
        case hdymiss3 => (intro wx hx; (try dsimp only at hx); go_simp; try with_reducible rfl)
        try simp only [Act.put, List.setIfInBounds_toArray, List.set_cons_zero, List.set_cons_succ]
        refine hd_taken 4 (some 26) _ ?hdvmiss4 rfl rfl (by kernel_rfl) (fun _ _ _ h => h) (Or.inl ⟨by rfl, ?hdymiss4⟩) hS5 ?hdrmiss4
        case hdymiss4 => (intro wx hx; (try dsimp only at hx); go_simp; try with_reducible rfl)
        try simp only [Act.put, List.setIfInBounds_toArray, List.set_cons_zero, List.set_cons_succ]
        refine hd_taken 5 (some 27) _ ?hdvmiss5 rfl rfl (by kernel_rfl) (fun _ _ _ h => h) (Or.inl ⟨by rfl, ?hdymiss5⟩) hS5 ?hdrmiss5
        case hdymiss5 => (intro wx hx; (try dsimp only at hx); go_simp; try with_reducible rfl)
        try simp only [Act.put, List.setIfInBounds_toArray, List.set_cons_zero, List.set_cons_succ]
        refine hd_taken 6 (some 28) _ ?hdvmiss6 rfl rfl (by kernel_rfl) (fun _ _ _ h => h) (Or.inl ⟨by rfl, ?hdymiss6⟩) hS5 ?hdrmiss6
        case hdymiss6 => (intro wx hx; (try dsimp only at hx); go_simp; try with_reducible rfl)
        try simp only [Act.put, List.setIfInBounds_toArray, List.set_cons_zero, List.set_cons_succ]
        refine hd_taken 7 (some 29) _ ?hdvmiss7 rfl rfl (by kernel_rfl) (fun _ _ _ h => h) (Or.inl ⟨by rfl, ?hdymiss7⟩) hS5 ?hdrmiss7
        case hdymiss7 => (intro wx hx; (try dsimp only at hx); go_simp; try with_reducible rfl)
        try simp only [Act.put, List.setIfInBounds_toArray, List.set_cons_zero, List.set_cons_succ]
        refine hd_taken 8 (some 30) _ ?hdvmiss8 rfl rfl (by kernel_rfl) (fun _ _ _ h => h) (Or.inl ⟨by rfl, ?hdymiss8⟩) hS5 ?hdrmiss8
        case hdymiss8 => (intro wx hx; (try dsimp only at hx); go_simp; try with_reducible rfl)
        try simp only [Act.put, List.setIfInBounds_toArray, List.set_cons_zero, List.set_cons_succ]
        refine hd_taken 9 (some 31) _ ?hdvmiss9 rfl rfl (by kernel_rfl) (fun _ _ _ h => h) (Or.inl ⟨by rfl, ?hdymiss9⟩) hS5 ?hdrmiss9
        case hdymiss9 => (intro wx hx; (try dsimp only at hx); go_simp; try with_reducible rfl)
        try simp only [Act.put, List.setIfInBounds_toArray, List.set_cons_zero, List.set_cons_succ]
        refine hd_one 10 _ rfl (by kernel_rfl) (by decide) (fun K10 hK10 => ?_)
        go_simp
        refine (hasNe_any _ L x (q x) n0 eg0 _ (HT.out _ B5) HQ.out).mono ?_
        rw [HHB.out]
        rintro e w6 ⟨rfl, b6⟩
        try dsimp only
        have B6 : Below W1.heap.size W1 w6 := st B5 b6 B5.size
        have hS6 := HCE.out w6 B6
        refine hK10.out _ _ hS6 ?_
        clear hK10 K10 hS5 b6
        try simp only [Act.put, List.setIfInBounds_toArray, List.set_cons_zero, List.set_cons_succ]
        refine hd_done (by kernel_rfl) ?_
        simp only [List.drop_succ_cons, List.drop_zero]
        clear hS6
        go_wp2_with fail
        go_roundw
        case measure => simp [intOf]; omega
        case rel => exact ⟨k + 1, by omega, by go_num, HNX.out, st HB1.out B6 HB1.out.size⟩
    · obtain rfl : k = LN := by omega
      have h3 : ¬ (k : Int) < (k : Int) := by omega
      have HA := Lib.hid (HE.out HM.out (by rw [← HLN.out] at HK ⊢; exact HK.out))
      go_wp2
      go_ret
      exact ⟨⟨_, rfl, ⟨fun _ => HA.out, fun _ => rfl⟩⟩, HB.out⟩
set_option maxRecDepth 1000000 in
set_option maxHeartbeats 4000000 in
theorem areVLi_any (v : Value) (l : List (Lis)) (most : Int) (n1 n0 : Nat) (eg1 : ∀ args w, (callFunc n1 args).run Tryz.prog w = .ok (.enter n1 args) w) (eg0 : ∀ args w, (callFunc n0 args).run Tryz.prog w = .ok (.enter n0 args) w) (V : Nat → Prop) (q : Lis → Lis → Bool) (w : World) (hv : Rd 5 encLi w v l)
    (hV : ∀ (W1 : World), Below w.heap.size w W1 → ∀ (i : Nat) (h : i < l.length), Calls Tryz.prog n1 #[.agg #[.string (ofL (l[i]'h).st), .string (ofL (l[i]'h).two), .string (ofL (l[i]'h).sa), .string (ofL (l[i]'h).md), .string (ofL (l[i]'h).en)]] W1 (Says (V i) W1))
    (hF : ∀ (W1 : World) (x y : Lis), Calls Tryz.prog n0 #[.agg #[.string (ofL x.st), .string (ofL x.two), .string (ofL x.sa), .string (ofL x.md), .string (ofL x.en)], .agg #[.string (ofL y.st), .string (ofL y.two), .string (ofL y.sa), .string (ofL y.md), .string (ofL y.en)]] W1 fun e w' => e = .returned (.bool (q x y)) ∧ Below W1.heap.size W1 w') :
    Calls Tryz.prog 82 #[v, .int .i64 most, .func (.func n1) #[] #[], .func (.func n0) #[] #[]] w (Says (AllV l most V q) w) := by
  obtain ⟨a, c, rfl, hc1, hc2⟩ := hv.slice
  have HU := Lib.hid hv
  have HV := Lib.hid hV
  have HF := Lib.hid hF
  have HN := Lib.hid (fun h => allV_big (l := l) (most := most) (V := V) (q := q) h)
  have HG := Lib.hid (fun (k : Nat) (h : k < l.length) => allV_at (l := l) (most := most) (V := V) (q := q) (k := k) h)
  have HE := Lib.hid (fun h h' => allV_end (l := l) (most := most) (V := V) (q := q) h h')
  obtain ⟨LN, hLN⟩ : ∃ LN, l.length = LN := ⟨_, rfl⟩
  have HLN := Lib.hid hLN
  rw [hLN] at HU hc1 HN HE ⊢
  clear hv hF hV hLN
  by_cases hm : (LN : Int) ≤ most
  case neg =>
    have h0 : (LN : Int) > most := by omega
    have h0' : most < (LN : Int) := by omega
    go_enter Tryz.func82, Tryz.ntmps82
    go_wp2
    go_ret
    exact ⟨⟨_, rfl, ⟨fun h => (by cases h), fun h => absurd h (HN.out (by omega))⟩⟩, Below.refl _ _⟩
  have h0 : ¬ (LN : Int) > most := by omega
  have h0' : ¬ most < (LN : Int) := by omega
  have HM := Lib.hid hm
  clear hm
  go_enter Tryz.func82, Tryz.ntmps82
  go_wp2
  go_loopw [17] (fun v wr => ∃ k : Nat, k ≤ LN ∧ v = .int .i64 k ∧ GoodV l V q k ∧ Below w.heap.size w wr) (fun v _ => LN - (intOf v).toNat)
  case atStart => exact ⟨0, Nat.zero_le _, rfl, goodV_zero, Below.refl _ _⟩
  case round =>
    obtain ⟨k, hk, rfl, hkd, hb⟩ := hrel
    have HK := Lib.hid hkd
    have HB := Lib.hid hb
    have zr := hb.size
    clear hkd hb
    by_cases hlt' : k < LN
    · have hlt : k < l.length := by rw [HLN.out]; exact hlt'
      obtain ⟨bk, off, rfl, h00, hx⟩ := (HU.out.below HB.out).some_ k hlt
      have c0 : wr.cell? ⟨bk, off + k * 5, none⟩ = some (.string (ofL (l[k]'hlt).st)) := hx 0 _ rfl
      have c1 : wr.cell? ⟨bk, off + k * 5 + 1, none⟩ = some (.string (ofL (l[k]'hlt).two)) := hx 1 _ rfl
      have c2 : wr.cell? ⟨bk, off + k * 5 + 2, none⟩ = some (.string (ofL (l[k]'hlt).sa)) := hx 2 _ rfl
      have c3 : wr.cell? ⟨bk, off + k * 5 + 3, none⟩ = some (.string (ofL (l[k]'hlt).md)) := hx 3 _ rfl
      have c4 : wr.cell? ⟨bk, off + k * 5 + 4, none⟩ = some (.string (ofL (l[k]'hlt).en)) := hx 4 _ rfl
      have h9 : (k : Int) < (LN : Int) := by omega
      have h10 : (k : Int) ≤ (c : Int) := by omega
      have h11 : k ≤ c := by omega
      have HC := Lib.hid (fun wx (hb : Below w.heap.size w wx) => HV.out wx hb k hlt)
      have HT := Lib.hid (HU.out.take k (Nat.le_of_lt hlt))
      have HNO := Lib.hid (HG.out k hlt)
      have HQ : Hid (∀ (W1 : World) (y : Lis), y ∈ l.take k → Calls Tryz.prog n0 #[.agg #[.string (ofL (l[k]'hlt).st), .string (ofL (l[k]'hlt).two), .string (ofL (l[k]'hlt).sa), .string (ofL (l[k]'hlt).md), .string (ofL (l[k]'hlt).en)], .agg #[.string (ofL y.st), .string (ofL y.two), .string (ofL y.sa), .string (ofL y.md), .string (ofL y.en)]] W1 fun e w' => e = .returned (.bool (q (l[k]'hlt) y)) ∧ Below W1.heap.size W1 w') := Lib.hid (fun W1 y _ => HF.out W1 _ y)
      have HNX := Lib.hid (goodV_next (V := V) (q := q) hlt HK.out)
      obtain ⟨x, hx0⟩ : ∃ x, l[k]'hlt = x := ⟨_, rfl⟩
      rw [hx0] at HC HQ HNO HNX c0 c1 c2 c3 c4
      clear hx hx0
      have HA1 : Hid (Below wr.heap.size wr (wr.alloc (.cells #[.string (ofL x.st), .string (ofL x.two), .string (ofL x.sa), .string (ofL x.md), .string (ofL x.en)] 116))) := Lib.hid ((Below.refl _ _).alloc (Nat.le_refl _) _)
      have HA2 : Hid (Blk wr.heap.size 116 #[.string (ofL x.st), .string (ofL x.two), .string (ofL x.sa), .string (ofL x.md), .string (ofL x.en)] (wr.alloc (.cells #[.string (ofL x.st), .string (ofL x.two), .string (ofL x.sa), .string (ofL x.md), .string (ofL x.en)] 116))) := Lib.hid (Blk.new _ _ _)
      obtain ⟨W1, hW1⟩ : ∃ W1, wr.alloc (.cells #[.string (ofL x.st), .string (ofL x.two), .string (ofL x.sa), .string (ofL x.md), .string (ofL x.en)] 116) = W1 := ⟨_, rfl⟩
      rw [hW1] at HA1 HA2
      have HW1 := Lib.hid hW1
      obtain ⟨h, hh⟩ : ∃ h, wr.heap.size = h := ⟨_, rfl⟩
      have HH := Lib.hid hh
      rw [hh] at HA2
      clear hW1 hh
      go_upto_region 6 with fail
      rw [HW1.out, HH.out]
      have HCE : Hid (∀ wx, Below W1.heap.size W1 wx → wx.cell? ⟨h, 0, none⟩ = some (.string (ofL x.st)) ∧ wx.cell? ⟨h, 1, none⟩ = some (.string (ofL x.two)) ∧ wx.cell? ⟨h, 2, none⟩ = some (.string (ofL x.sa)) ∧ wx.cell? ⟨h, 3, none⟩ = some (.string (ofL x.md)) ∧ wx.cell? ⟨h, 4, none⟩ = some (.string (ofL x.en))) := Lib.hid (fun wx hb => ⟨(HA2.out.below hb).cell 0, (HA2.out.below hb).cell 1, (HA2.out.below hb).cell 2, (HA2.out.below hb).cell 3, (HA2.out.below hb).cell 4⟩)
      obtain ⟨y0, y1, y2, y3, y4⟩ := HCE.out W1 (Below.refl _ _)
      have HB1 : Hid (Below w.heap.size w W1) := Lib.hid (st HB.out HA1.out zr)
      have HC : Hid (∀ wx, Below W1.heap.size W1 wx → Calls Tryz.prog n1 #[.agg #[.string (ofL x.st), .string (ofL x.two), .string (ofL x.sa), .string (ofL x.md), .string (ofL x.en)]] wx (Says (V k) wx)) := Lib.hid (fun wx hb => HC.out wx (st HB1.out hb HB1.out.size))
      have HT : Hid (∀ wx, Below W1.heap.size W1 wx → Rd 5 encLi wx (.slice (some ⟨bk, off, none⟩) k c) (l.take k)) := Lib.hid (fun wx hb => HT.out.below (st HB1.out hb HB1.out.size))
      obtain ⟨L, hL⟩ : ∃ L, l.take k = L := ⟨_, rfl⟩
      rw [hL] at HT HQ HNO HNX
      clear hL HW1 HV HG HF HA1 HA2 c0 c1 c2 c3 c4
      by_cases hVk : V k
      case neg =>
        have HVN := Lib.hid hVk
        clear hVk
        refine region_hd 11 (fun wx : World => wx.cell? ⟨h, 0, none⟩ = some (.string (ofL x.st)) ∧ wx.cell? ⟨h, 1, none⟩ = some (.string (ofL x.two)) ∧ wx.cell? ⟨h, 2, none⟩ = some (.string (ofL x.sa)) ∧ wx.cell? ⟨h, 3, none⟩ = some (.string (ofL x.md)) ∧ wx.cell? ⟨h, 4, none⟩ = some (.string (ofL x.en))) (by kernel_rfl) (by kernel_rfl) ?_
        have hS0 := HCE.out W1.drew (Below.refl _ _).drew
        refine hd_taken 0 (some 22) _ ?hdvno0 rfl rfl (by kernel_rfl) (fun _ _ _ h => h) (Or.inl ⟨by rfl, ?hdyno0⟩) hS0 ?hdrno0
        case hdyno0 => (intro wx hx; (try dsimp only at hx); go_simp; try with_reducible rfl)
        try simp only [Act.put, List.setIfInBounds_toArray, List.set_cons_zero, List.set_cons_succ]
        refine hd_taken 1 (some 23) _ ?hdvno1 rfl rfl (by kernel_rfl) (fun _ _ _ h => h) (Or.inl ⟨by rfl, ?hdyno1⟩) hS0 ?hdrno1
        case hdyno1 => (intro wx hx; (try dsimp only at hx); go_simp; try with_reducible rfl)
        try simp only [Act.put, List.setIfInBounds_toArray, List.set_cons_zero, List.set_cons_succ]
        refine hd_one 2 _ rfl (by kernel_rfl) (by decide) (fun K2 hK2 => ?_)
        go_simp
        refine (HC.out _ (Below.refl _ _).drew).mono ?_
        rintro e w5 ⟨⟨vb, rfl, hvb⟩, b5⟩
        try dsimp only
        obtain rfl : vb = false := says_no hvb HVN.out
        have B5 : Below W1.heap.size W1 w5 := (Below.refl _ W1).drew.trans b5
        have hS5 := HCE.out w5 B5
        refine hK2.out _ _ hS5 ?_
        clear hK2 K2 hS0 b5 hvb
        try simp only [Act.put, List.setIfInBounds_toArray, List.set_cons_zero, List.set_cons_succ]
        refine hd_taken 3 (some 25) _ ?hdvno3 rfl rfl (by kernel_rfl) (fun _ _ _ h => h) (Or.inl ⟨by rfl, ?hdyno3⟩) hS5 ?hdrno3
        case hdyno3 => (intro wx hx; (try dsimp only at hx); go_simp; try with_reducible rfl)
        try simp only [Act.put, List.setIfInBounds_toArray, List.set_cons_zero, List.set_cons_succ]
        refine hd_taken 4 (some 26) _ ?hdvno4 rfl rfl (by kernel_rfl) (fun _ _ _ h => h) (Or.inl ⟨by rfl, ?hdyno4⟩) hS5 ?hdrno4
        case hdyno4 => (intro wx hx; (try dsimp only at hx); go_simp; try with_reducible rfl)
        try simp only [Act.put, List.setIfInBounds_toArray, List.set_cons_zero, List.set_cons_succ]
        refine hd_taken 5 (some 27) _ undef rfl rfl (by kernel_rfl) (fun _ _ _ h => h) (Or.inr ⟨by rfl, rfl⟩) hS5 ?_
        try simp only [Act.put, List.setIfInBounds_toArray, List.set_cons_zero, List.set_cons_succ]
        refine hd_taken 6 (some 28) _ undef rfl rfl (by kernel_rfl) (fun _ _ _ h => h) (Or.inr ⟨by rfl, rfl⟩) hS5 ?_
        try simp only [Act.put, List.setIfInBounds_toArray, List.set_cons_zero, List.set_cons_succ]
        refine hd_taken 7 (some 29) _ undef rfl rfl (by kernel_rfl) (fun _ _ _ h => h) (Or.inr ⟨by rfl, rfl⟩) hS5 ?_
        try simp only [Act.put, List.setIfInBounds_toArray, List.set_cons_zero, List.set_cons_succ]
        refine hd_taken 8 (some 30) _ undef rfl rfl (by kernel_rfl) (fun _ _ _ h => h) (Or.inr ⟨by rfl, rfl⟩) hS5 ?_
        try simp only [Act.put, List.setIfInBounds_toArray, List.set_cons_zero, List.set_cons_succ]
        refine hd_taken 9 (some 31) _ undef rfl rfl (by kernel_rfl) (fun _ _ _ h => h) (Or.inr ⟨by rfl, rfl⟩) hS5 ?_
        try simp only [Act.put, List.setIfInBounds_toArray, List.set_cons_zero, List.set_cons_succ]
        refine hd_taken 10 (some 32) _ undef rfl rfl (by kernel_rfl) (fun _ _ _ h => h) (Or.inr ⟨by rfl, rfl⟩) hS5 ?_
        try simp only [Act.put, List.setIfInBounds_toArray, List.set_cons_zero, List.set_cons_succ]
        refine hd_done (by kernel_rfl) ?_
        simp only [List.drop_succ_cons, List.drop_zero]
        clear hS5
        go_wp2_with fail
        go_ret
        exact ⟨⟨_, rfl, ⟨fun h => (by cases h), fun h => absurd (HNO.out h).1 HVN.out⟩⟩, st HB1.out B5 HB1.out.size⟩
      obtain ⟨hb0, hhb⟩ : ∃ b, L.any (q x) = b := ⟨_, rfl⟩
      have HHB := Lib.hid hhb
      have HVK := Lib.hid hVk
      clear hVk hhb
      cases hb0 with
      | true =>
        refine region_hd 11 (fun wx : World => wx.cell? ⟨h, 0, none⟩ = some (.string (ofL x.st)) ∧ wx.cell? ⟨h, 1, none⟩ = some (.string (ofL x.two)) ∧ wx.cell? ⟨h, 2, none⟩ = some (.string (ofL x.sa)) ∧ wx.cell? ⟨h, 3, none⟩ = some (.string (ofL x.md)) ∧ wx.cell? ⟨h, 4, none⟩ = some (.string (ofL x.en))) (by kernel_rfl) (by kernel_rfl) ?_
        have hS0 := HCE.out W1.drew (Below.refl _ _).drew
        refine hd_taken 0 (some 22) _ ?hdvhit0 rfl rfl (by kernel_rfl) (fun _ _ _ h => h) (Or.inl ⟨by rfl, ?hdyhit0⟩) hS0 ?hdrhit0
        case hdyhit0 => (intro wx hx; (try dsimp only at hx); go_simp; try with_reducible rfl)
        try simp only [Act.put, List.setIfInBounds_toArray, List.set_cons_zero, List.set_cons_succ]
        refine hd_taken 1 (some 23) _ ?hdvhit1 rfl rfl (by kernel_rfl) (fun _ _ _ h => h) (Or.inl ⟨by rfl, ?hdyhit1⟩) hS0 ?hdrhit1
        case hdyhit1 => (intro wx hx; (try dsimp only at hx); go_simp; try with_reducible rfl)
        try simp only [Act.put, List.setIfInBounds_toArray, List.set_cons_zero, List.set_cons_succ]
        refine hd_one 2 _ rfl (by kernel_rfl) (by decide) (fun K2 hK2 => ?_)
        go_simp
        refine (HC.out _ (Below.refl _ _).drew).mono ?_
        rintro e w5 ⟨⟨vb, rfl, hvb⟩, b5⟩
        try dsimp only
        obtain rfl : vb = true := hvb.2 HVK.out
        have B5 : Below W1.heap.size W1 w5 := (Below.refl _ W1).drew.trans b5
        have hS5 := HCE.out w5 B5
        refine hK2.out _ _ hS5 ?_
        clear hK2 K2 hS0 b5 hvb
        try simp only [Act.put, List.setIfInBounds_toArray, List.set_cons_zero, List.set_cons_succ]
        refine hd_taken 3 (some 25) _ ?hdvhit3 rfl rfl (by kernel_rfl) (fun _ _ _ h => h) (Or.inl ⟨by rfl, ?hdyhit3⟩) hS5 ?hdrhit3
        case hdyhit3 => (intro wx hx; (try dsimp only at hx); go_simp; try with_reducible rfl)
        try simp only [Act.put, List.setIfInBounds_toArray, List.set_cons_zero, List.set_cons_succ]
        refine hd_taken 4 (some 26) _ ?hdvhit4 rfl rfl (by kernel_rfl) (fun _ _ _ h => h) (Or.inl ⟨by rfl, ?hdyhit4⟩) hS5 ?hdrhit4
        case hdyhit4 => (intro wx hx; (try dsimp only at hx); go_simp; try with_reducible rfl)
        try simp only [Act.put, List.setIfInBounds_toArray, List.set_cons_zero, List.set_cons_succ]
        refine hd_taken 5 (some 27) _ ?hdvhit5 rfl rfl (by kernel_rfl) (fun _ _ _ h => h) (Or.inl ⟨by rfl, ?hdyhit5⟩) hS5 ?hdrhit5
        case hdyhit5 => (intro wx hx; (try dsimp only at hx); go_simp; try with_reducible rfl)
        try simp only [Act.put, List.setIfInBounds_toArray, List.set_cons_zero, List.set_cons_succ]
        refine hd_taken 6 (some 28) _ ?hdvhit6 rfl rfl (by kernel_rfl) (fun _ _ _ h => h) (Or.inl ⟨by rfl, ?hdyhit6⟩) hS5 ?hdrhit6
        case hdyhit6 => (intro wx hx; (try dsimp only at hx); go_simp; try with_reducible rfl)
        try simp only [Act.put, List.setIfInBounds_toArray, List.set_cons_zero, List.set_cons_succ]
        refine hd_taken 7 (some 29) _ ?hdvhit7 rfl rfl (by kernel_rfl) (fun _ _ _ h => h) (Or.inl ⟨by rfl, ?hdyhit7⟩) hS5 ?hdrhit7
        case hdyhit7 => (intro wx hx; (try dsimp only at hx); go_simp; try with_reducible rfl)
        try simp only [Act.put, List.setIfInBounds_toArray, List.set_cons_zero, List.set_cons_succ]
        refine hd_taken 8 (some 30) _ ?hdvhit8 rfl rfl (by kernel_rfl) (fun _ _ _ h => h) (Or.inl ⟨by rfl, ?hdyhit8⟩) hS5 ?hdrhit8
        case hdyhit8 => (intro wx hx; (try dsimp only at hx); go_simp; try with_reducible rfl)
        try simp only [Act.put, List.setIfInBounds_toArray, List.set_cons_zero, List.set_cons_succ]
        refine hd_taken 9 (some 31) _ ?hdvhit9 rfl rfl (by kernel_rfl) (fun _ _ _ h => h) (Or.inl ⟨by rfl, ?hdyhit9⟩) hS5 ?hdrhit9
        case hdyhit9 => (intro wx hx; (try dsimp only at hx); go_simp; try with_reducible rfl)
        try simp only [Act.put, List.setIfInBounds_toArray, List.set_cons_zero, List.set_cons_succ]
        refine hd_one 10 _ rfl (by kernel_rfl) (by decide) (fun K10 hK10 => ?_)
        go_simp
        refine (hasLi_any _ L x (q x) n0 eg0 _ (HT.out _ B5) HQ.out).mono ?_
        rw [HHB.out]
        rintro e w6 ⟨rfl, b6⟩
        try dsimp only
        have B6 : Below W1.heap.size W1 w6 := st B5 b6 B5.size
        have hS6 := HCE.out w6 B6
        refine hK10.out _ _ hS6 ?_
        clear hK10 K10 hS5 b6
        try simp only [Act.put, List.setIfInBounds_toArray, List.set_cons_zero, List.set_cons_succ]
        refine hd_done (by kernel_rfl) ?_
        simp only [List.drop_succ_cons, List.drop_zero]
        clear hS6
        go_wp2_with fail
        go_ret
        exact ⟨⟨_, rfl, ⟨fun h => (by cases h), fun h => absurd (HHB.out.symm.trans (HNO.out h).2) (by decide)⟩⟩, st HB1.out B6 HB1.out.size⟩
      | false =>
        have HNX := Lib.hid (HNX.out HVK.out HHB.out)
        refine region_hd 11 (fun wx : World => wx.cell? ⟨h, 0, none⟩ = some (.string (ofL x.st)) ∧ wx.cell? ⟨h, 1, none⟩ = some (.string (ofL x.two)) ∧ wx.cell? ⟨h, 2, none⟩ = some (.string (ofL x.sa)) ∧ wx.cell? ⟨h, 3, none⟩ = some (.string (ofL x.md)) ∧ wx.cell? ⟨h, 4, none⟩ = some (.string (ofL x.en))) (by kernel_rfl) (by kernel_rfl) ?_
        have hS0 := HCE.out W1.drew (Below.refl _ _).drew
        refine hd_taken 0 (some 22) _ ?hdvmiss0 rfl rfl (by kernel_rfl) (fun _ _ _ h => h) (Or.inl ⟨by rfl, ?hdymiss0⟩) hS0 ?hdrmiss0
        case hdymiss0 => (intro wx hx; (try dsimp only at hx); go_simp; try with_reducible rfl)
        try simp only [Act.put, List.setIfInBounds_toArray, List.set_cons_zero, List.set_cons_succ]
        refine hd_taken 1 (some 23) _ ?hdvmiss1 rfl rfl (by kernel_rfl) (fun _ _ _ h => h) (Or.inl ⟨by rfl, ?hdymiss1⟩) hS0 ?hdrmiss1
        case hdymiss1 => (intro wx hx; (try dsimp only at hx); go_simp; try with_reducible rfl)
        try simp only [Act.put, List.setIfInBounds_toArray, List.set_cons_zero, List.set_cons_succ]
        refine hd_one 2 _ rfl (by kernel_rfl) (by decide) (fun K2 hK2 => ?_)
        go_simp
        refine (HC.out _ (Below.refl _ _).drew).mono ?_
        rintro e w5 ⟨⟨vb, rfl, hvb⟩, b5⟩
        try dsimp only
        obtain rfl : vb = true := hvb.2 HVK.out
        have B5 : Below W1.heap.size W1 w5 := (Below.refl _ W1).drew.trans b5
        have hS5 := HCE.out w5 B5
        refine hK2.out _ _ hS5 ?_
        clear hK2 K2 hS0 b5 hvb
        try simp only [Act.put, List.setIfInBounds_toArray, List.set_cons_zero, List.set_cons_succ]
        refine hd_taken 3 (some 25) _ ?hdvmiss3 rfl rfl (by kernel_rfl) (fun _ _ _ h => h) (Or.inl ⟨by rfl, ?hdymiss3⟩) hS5 ?hdrmiss3
        case hdymiss3 => (intro wx hx; (try dsimp only at hx); go_simp; try with_reducible rfl)
        try simp only [Act.put, List.setIfInBounds_toArray, List.set_cons_zero, List.set_cons_succ]
        refine hd_taken 4 (some 26) _ ?hdvmiss4 rfl rfl (by kernel_rfl) (fun _ _ _ h => h) (Or.inl ⟨by rfl, ?hdymiss4⟩) hS5 ?hdrmiss4
        case hdymiss4 => (intro wx hx; (try dsimp only at hx); go_simp; try with_reducible rfl)
        try simp only [Act.put, List.setIfInBounds_toArray, List.set_cons_zero, List.set_cons_succ]
        refine hd_taken 5 (some 27) _ ?hdvmiss5 rfl rfl (by kernel_rfl) (fun _ _ _ h => h) (Or.inl ⟨by rfl, ?hdymiss5⟩) hS5 ?hdrmiss5
        case hdymiss5 => (intro wx hx; (try dsimp only at hx); go_simp; try with_reducible rfl)
        try simp only [Act.put, List.setIfInBounds_toArray, List.set_cons_zero, List.set_cons_succ]
        refine hd_taken 6 (some 28) _ ?hdvmiss6 rfl rfl (by kernel_rfl) (fun _ _ _ h => h) (Or.inl ⟨by rfl, ?hdymiss6⟩) hS5 ?hdrmiss6
        case hdymiss6 => (intro wx hx; (try dsimp only at hx); go_simp; try with_reducible rfl)
        try simp only [Act.put, List.setIfInBounds_toArray, List.set_cons_zero, List.set_cons_succ]
        refine hd_taken 7 (some 29) _ ?hdvmiss7 rfl rfl (by kernel_rfl) (fun _ _ _ h => h) (Or.inl ⟨by rfl, ?hdymiss7⟩) hS5 ?hdrmiss7
        case hdymiss7 => (intro wx hx; (try dsimp only at hx); go_simp; try with_reducible rfl)
        try simp only [Act.put, List.setIfInBounds_toArray, List.set_cons_zero, List.set_cons_succ]
        refine hd_taken 8 (some 30) _ ?hdvmiss8 rfl rfl (by kernel_rfl) (fun _ _ _ h => h) (Or.inl ⟨by rfl, ?hdymiss8⟩) hS5 ?hdrmiss8
        case hdymiss8 => (intro wx hx; (try dsimp only at hx); go_simp; try with_reducible rfl)
        try simp only [Act.put, List.setIfInBounds_toArray, List.set_cons_zero, List.set_cons_succ]
        refine hd_taken 9 (some 31) _ ?hdvmiss9 rfl rfl (by kernel_rfl) (fun _ _ _ h => h) (Or.inl ⟨by rfl, ?hdymiss9⟩) hS5 ?hdrmiss9
        case hdymiss9 => (intro wx hx; (try dsimp only at hx); go_simp; try with_reducible rfl)
        try simp only [Act.put, List.setIfInBounds_toArray, List.set_cons_zero, List.set_cons_succ]
        refine hd_one 10 _ rfl (by kernel_rfl) (by decide) (fun K10 hK10 => ?_)
        go_simp
        refine (hasLi_any _ L x (q x) n0 eg0 _ (HT.out _ B5) HQ.out).mono ?_
        rw [HHB.out]
        rintro e w6 ⟨rfl, b6⟩
        try dsimp only
        have B6 : Below W1.heap.size W1 w6 := st B5 b6 B5.size
        have hS6 := HCE.out w6 B6
        refine hK10.out _ _ hS6 ?_
        clear hK10 K10 hS5 b6
        try simp only [Act.put, List.setIfInBounds_toArray, List.set_cons_zero, List.set_cons_succ]
        refine hd_done (by kernel_rfl) ?_
        simp only [List.drop_succ_cons, List.drop_zero]
        clear hS6
        go_wp2_with fail
        go_roundw
        case measure => simp [intOf]; omega
        case rel => exact ⟨k + 1, by omega, by go_num, HNX.out, st HB1.out B6 HB1.out.size⟩
    · obtain rfl : k = LN := by omega
      have h3 : ¬ (k : Int) < (k : Int) := by omega
      have HA := Lib.hid (HE.out HM.out (by rw [← HLN.out] at HK ⊢; exact HK.out))
      go_wp2
      go_ret
      exact ⟨⟨_, rfl, ⟨fun _ => HA.out, fun _ => rfl⟩⟩, HB.out⟩
set_option maxRecDepth 1000000 in
set_option maxHeartbeats 4000000 in
theorem areVUn_any (v : Value) (l : List (Uni)) (most : Int) (n1 n0 : Nat) (eg1 : ∀ args w, (callFunc n1 args).run Tryz.prog w = .ok (.enter n1 args) w) (eg0 : ∀ args w, (callFunc n0 args).run Tryz.prog w = .ok (.enter n0 args) w) (V : Nat → Prop) (q : Uni → Uni → Bool) (w : World) (hv : Rd 3 encUn w v l)
    (hV : ∀ (W1 : World), Below w.heap.size w W1 → ∀ (i : Nat) (h : i < l.length), Calls Tryz.prog n1 #[.agg #[.string (ofL (l[i]'h).un), .string (ofL (l[i]'h).cl), .string (ofL (l[i]'h).pt)]] W1 (Says (V i) W1))
    (hF : ∀ (W1 : World) (x y : Uni), Calls Tryz.prog n0 #[.agg #[.string (ofL x.un), .string (ofL x.cl), .string (ofL x.pt)], .agg #[.string (ofL y.un), .string (ofL y.cl), .string (ofL y.pt)]] W1 fun e w' => e = .returned (.bool (q x y)) ∧ Below W1.heap.size W1 w') :
    Calls Tryz.prog 85 #[v, .int .i64 most, .func (.func n1) #[] #[], .func (.func n0) #[] #[]] w (Says (AllV l most V q) w) := by
  obtain ⟨a, c, rfl, hc1, hc2⟩ := hv.slice
  have HU := Lib.hid hv
  have HV := Lib.hid hV
  have HF := Lib.hid hF
  have HN := Lib.hid (fun h => allV_big (l := l) (most := most) (V := V) (q := q) h)
  have HG := Lib.hid (fun (k : Nat) (h : k < l.length) => allV_at (l := l) (most := most) (V := V) (q := q) (k := k) h)
  have HE := Lib.hid (fun h h' => allV_end (l := l) (most := most) (V := V) (q := q) h h')
  obtain ⟨LN, hLN⟩ : ∃ LN, l.length = LN := ⟨_, rfl⟩
  have HLN := Lib.hid hLN
  rw [hLN] at HU hc1 HN HE ⊢
  clear hv hF hV hLN
  by_cases hm : (LN : Int) ≤ most
  case neg =>
    have h0 : (LN : Int) > most := by omega
    have h0' : most < (LN : Int) := by omega
    go_enter Tryz.func85, Tryz.ntmps85
    go_wp2
    go_ret
    exact ⟨⟨_, rfl, ⟨fun h => (by cases h), fun h => absurd h (HN.out (by omega))⟩⟩, Below.refl _ _⟩
  have h0 : ¬ (LN : Int) > most := by omega
  have h0' : ¬ most < (LN : Int) := by omega
  have HM := Lib.hid hm
  clear hm
  go_enter Tryz.func85, Tryz.ntmps85
  go_wp2
  go_loopw [17] (fun v wr => ∃ k : Nat, k ≤ LN ∧ v = .int .i64 k ∧ GoodV l V q k ∧ Below w.heap.size w wr) (fun v _ => LN - (intOf v).toNat)
  case atStart => exact ⟨0, Nat.zero_le _, rfl, goodV_zero, Below.refl _ _⟩
  case round =>
    obtain ⟨k, hk, rfl, hkd, hb⟩ := hrel
    have HK := Lib.hid hkd
    have HB := Lib.hid hb
    have zr := hb.size
    clear hkd hb
    by_cases hlt' : k < LN
    · have hlt : k < l.length := by rw [HLN.out]; exact hlt'
      obtain ⟨bk, off, rfl, h00, hx⟩ := (HU.out.below HB.out).some_ k hlt
      have c0 : wr.cell? ⟨bk, off + k * 3, none⟩ = some (.string (ofL (l[k]'hlt).un)) := hx 0 _ rfl
      have c1 : wr.cell? ⟨bk, off + k * 3 + 1, none⟩ = some (.string (ofL (l[k]'hlt).cl)) := hx 1 _ rfl
      have c2 : wr.cell? ⟨bk, off + k * 3 + 2, none⟩ = some (.string (ofL (l[k]'hlt).pt)) := hx 2 _ rfl
      have h9 : (k : Int) < (LN : Int) := by omega
      have h10 : (k : Int) ≤ (c : Int) := by omega
      have h11 : k ≤ c := by omega
      have HC := Lib.hid (fun wx (hb : Below w.heap.size w wx) => HV.out wx hb k hlt)
      have HT := Lib.hid (HU.out.take k (Nat.le_of_lt hlt))
      have HNO := Lib.hid (HG.out k hlt)
      have HQ : Hid (∀ (W1 : World) (y : Uni), y ∈ l.take k → Calls Tryz.prog n0 #[.agg #[.string (ofL (l[k]'hlt).un), .string (ofL (l[k]'hlt).cl), .string (ofL (l[k]'hlt).pt)], .agg #[.string (ofL y.un), .string (ofL y.cl), .string (ofL y.pt)]] W1 fun e w' => e = .returned (.bool (q (l[k]'hlt) y)) ∧ Below W1.heap.size W1 w') := Lib.hid (fun W1 y _ => HF.out W1 _ y)
      have HNX := Lib.hid (goodV_next (V := V) (q := q) hlt HK.out)
      obtain ⟨x, hx0⟩ : ∃ x, l[k]'hlt = x := ⟨_, rfl⟩
      rw [hx0] at HC HQ HNO HNX c0 c1 c2
      clear hx hx0
      have HA1 : Hid (Below wr.heap.size wr (wr.alloc (.cells #[.string (ofL x.un), .string (ofL x.cl), .string (ofL x.pt)] 120))) := Lib.hid ((Below.refl _ _).alloc (Nat.le_refl _) _)
      have HA2 : Hid (Blk wr.heap.size 120 #[.string (ofL x.un), .string (ofL x.cl), .string (ofL x.pt)] (wr.alloc (.cells #[.string (ofL x.un), .string (ofL x.cl), .string (ofL x.pt)] 120))) := Lib.hid (Blk.new _ _ _)
      obtain ⟨W1, hW1⟩ : ∃ W1, wr.alloc (.cells #[.string (ofL x.un), .string (ofL x.cl), .string (ofL x.pt)] 120) = W1 := ⟨_, rfl⟩
      rw [hW1] at HA1 HA2
      have HW1 := Lib.hid hW1
      obtain ⟨h, hh⟩ : ∃ h, wr.heap.size = h := ⟨_, rfl⟩
      have HH := Lib.hid hh
      rw [hh] at HA2
      clear hW1 hh
      go_upto_region 6 with fail
      rw [HW1.out, HH.out]
      have HCE : Hid (∀ wx, Below W1.heap.size W1 wx → wx.cell? ⟨h, 0, none⟩ = some (.string (ofL x.un)) ∧ wx.cell? ⟨h, 1, none⟩ = some (.string (ofL x.cl)) ∧ wx.cell? ⟨h, 2, none⟩ = some (.string (ofL x.pt))) := Lib.hid (fun wx hb => ⟨(HA2.out.below hb).cell 0, (HA2.out.below hb).cell 1, (HA2.out.below hb).cell 2⟩)
      obtain ⟨y0, y1, y2⟩ := HCE.out W1 (Below.refl _ _)
      have HB1 : Hid (Below w.heap.size w W1) := Lib.hid (st HB.out HA1.out zr)
      have HC : Hid (∀ wx, Below W1.heap.size W1 wx → Calls Tryz.prog n1 #[.agg #[.string (ofL x.un), .string (ofL x.cl), .string (ofL x.pt)]] wx (Says (V k) wx)) := Lib.hid (fun wx hb => HC.out wx (st HB1.out hb HB1.out.size))
      have HT : Hid (∀ wx, Below W1.heap.size W1 wx → Rd 3 encUn wx (.slice (some ⟨bk, off, none⟩) k c) (l.take k)) := Lib.hid (fun wx hb => HT.out.below (st HB1.out hb HB1.out.size))
      obtain ⟨L, hL⟩ : ∃ L, l.take k = L := ⟨_, rfl⟩
      rw [hL] at HT HQ HNO HNX
      clear hL HW1 HV HG HF HA1 HA2 c0 c1 c2
      by_cases hVk : V k
      case neg =>
        have HVN := Lib.hid hVk
        clear hVk
        refine region_hd 11 (fun wx : World => wx.cell? ⟨h, 0, none⟩ = some (.string (ofL x.un)) ∧ wx.cell? ⟨h, 1, none⟩ = some (.string (ofL x.cl)) ∧ wx.cell? ⟨h, 2, none⟩ = some (.string (ofL x.pt))) (by kernel_rfl) (by kernel_rfl) ?_
        have hS0 := HCE.out W1.drew (Below.refl _ _).drew
        refine hd_taken 0 (some 22) _ ?hdvno0 rfl rfl (by kernel_rfl) (fun _ _ _ h => h) (Or.inl ⟨by rfl, ?hdyno0⟩) hS0 ?hdrno0
        case hdyno0 => (intro wx hx; (try dsimp only at hx); go_simp; try with_reducible rfl)
        try simp only [Act.put, List.setIfInBounds_toArray, List.set_cons_zero, List.set_cons_succ]
        refine hd_taken 1 (some 23) _ ?hdvno1 rfl rfl (by kernel_rfl) (fun _ _ _ h => h) (Or.inl ⟨by rfl, ?hdyno1⟩) hS0 ?hdrno1
        case hdyno1 => (intro wx hx; (try dsimp only at hx); go_simp; try with_reducible rfl)
        try simp only [Act.put, List.setIfInBounds_toArray, List.set_cons_zero, List.set_cons_succ]
        refine hd_one 2 _ rfl (by kernel_rfl) (by decide) (fun K2 hK2 => ?_)
        go_simp
        refine (HC.out _ (Below.refl _ _).drew).mono ?_
        rintro e w5 ⟨⟨vb, rfl, hvb⟩, b5⟩
        try dsimp only
        obtain rfl : vb = false := says_no hvb HVN.out
        have B5 : Below W1.heap.size W1 w5 := (Below.refl _ W1).drew.trans b5
        have hS5 := HCE.out w5 B5
        refine hK2.out _ _ hS5 ?_
        clear hK2 K2 hS0 b5 hvb
        try simp only [Act.put, List.setIfInBounds_toArray, List.set_cons_zero, List.set_cons_succ]
        refine hd_taken 3 (some 25) _ ?hdvno3 rfl rfl (by kernel_rfl) (fun _ _ _ h => h) (Or.inl ⟨by rfl, ?hdyno3⟩) hS5 ?hdrno3
        case hdyno3 => (intro wx hx; (try dsimp only at hx); go_simp; try with_reducible rfl)
        try simp only [Act.put, List.setIfInBounds_toArray, List.set_cons_zero, List.set_cons_succ]
        refine hd_taken 4 (some 26) _ ?hdvno4 rfl rfl (by kernel_rfl) (fun _ _ _ h => h) (Or.inl ⟨by rfl, ?hdyno4⟩) hS5 ?hdrno4
        case hdyno4 => (intro wx hx; (try dsimp only at hx); go_simp; try with_reducible rfl)
        try simp only [Act.put, List.setIfInBounds_toArray, List.set_cons_zero, List.set_cons_succ]
        refine hd_taken 5 (some 27) _ undef rfl rfl (by kernel_rfl) (fun _ _ _ h => h) (Or.inr ⟨by rfl, rfl⟩) hS5 ?_
        try simp only [Act.put, List.setIfInBounds_toArray, List.set_cons_zero, List.set_cons_succ]
        refine hd_taken 6 (some 28) _ undef rfl rfl (by kernel_rfl) (fun _ _ _ h => h) (Or.inr ⟨by rfl, rfl⟩) hS5 ?_
        try simp only [Act.put, List.setIfInBounds_toArray, List.set_cons_zero, List.set_cons_succ]
        refine hd_taken 7 (some 29) _ undef rfl rfl (by kernel_rfl) (fun _ _ _ h => h) (Or.inr ⟨by rfl, rfl⟩) hS5 ?_
        try simp only [Act.put, List.setIfInBounds_toArray, List.set_cons_zero, List.set_cons_succ]
        refine hd_taken 8 (some 30) _ undef rfl rfl (by kernel_rfl) (fun _ _ _ h => h) (Or.inr ⟨by rfl, rfl⟩) hS5 ?_
        try simp only [Act.put, List.setIfInBounds_toArray, List.set_cons_zero, List.set_cons_succ]
        refine hd_taken 9 (some 31) _ undef rfl rfl (by kernel_rfl) (fun _ _ _ h => h) (Or.inr ⟨by rfl, rfl⟩) hS5 ?_
        try simp only [Act.put, List.setIfInBounds_toArray, List.set_cons_zero, List.set_cons_succ]
        refine hd_taken 10 (some 32) _ undef rfl rfl (by kernel_rfl) (fun _ _ _ h => h) (Or.inr ⟨by rfl, rfl⟩) hS5 ?_
        try simp only [Act.put, List.setIfInBounds_toArray, List.set_cons_zero, List.set_cons_succ]
        refine hd_done (by kernel_rfl) ?_
        simp only [List.drop_succ_cons, List.drop_zero]
        clear hS5
        go_wp2_with fail
        go_ret
        exact ⟨⟨_, rfl, ⟨fun h => (by cases h), fun h => absurd (HNO.out h).1 HVN.out⟩⟩, st HB1.out B5 HB1.out.size⟩
      obtain ⟨hb0, hhb⟩ : ∃ b, L.any (q x) = b := ⟨_, rfl⟩
      have HHB := Lib.hid hhb
      have HVK := Lib.hid hVk
      clear hVk hhb
      cases hb0 with
      | true =>
        refine region_hd 11 (fun wx : World => wx.cell? ⟨h, 0, none⟩ = some (.string (ofL x.un)) ∧ wx.cell? ⟨h, 1, none⟩ = some (.string (ofL x.cl)) ∧ wx.cell? ⟨h, 2, none⟩ = some (.string (ofL x.pt))) (by kernel_rfl) (by kernel_rfl) ?_
        have hS0 := HCE.out W1.drew (Below.refl _ _).drew
        refine hd_taken 0 (some 22) _ ?hdvhit0 rfl rfl (by kernel_rfl) (fun _ _ _ h => h) (Or.inl ⟨by rfl, ?hdyhit0⟩) hS0 ?hdrhit0
        case hdyhit0 => (intro wx hx; (try dsimp only at hx); go_simp; try with_reducible rfl)
        try simp only [Act.put, List.setIfInBounds_toArray, List.set_cons_zero, List.set_cons_succ]
        refine hd_taken 1 (some 23) _ ?hdvhit1 rfl rfl (by kernel_rfl) (fun _ _ _ h => h) (Or.inl ⟨by rfl, ?hdyhit1⟩) hS0 ?hdrhit1
        case hdyhit1 => (intro wx hx; (try dsimp only at hx); go_simp; try with_reducible rfl)
        try simp only [Act.put, List.setIfInBounds_toArray, List.set_cons_zero, List.set_cons_succ]
        refine hd_one 2 _ rfl (by kernel_rfl) (by decide) (fun K2 hK2 => ?_)
        go_simp
        refine (HC.out _ (Below.refl _ _).drew).mono ?_
        rintro e w5 ⟨⟨vb, rfl, hvb⟩, b5⟩
        try dsimp only
        obtain rfl : vb = true := hvb.2 HVK.out
        have B5 : Below W1.heap.size W1 w5 := (Below.refl _ W1).drew.trans b5
        have hS5 := HCE.out w5 B5
        refine hK2.out _ _ hS5 ?_
        clear hK2 K2 hS0 b5 hvb
        try simp only [Act.put, List.setIfInBounds_toArray, List.set_cons_zero, List.set_cons_succ]
        refine hd_taken 3 (some 25) _ ?hdvhit3 rfl rfl (by kernel_rfl) (fun _ _ _ h => h) (Or.inl ⟨by rfl, ?hdyhit3⟩) hS5 ?hdrhit3
        case hdyhit3 => (intro wx hx; (try dsimp only at hx); go_simp; try with_reducible rfl)
        try simp only [Act.put, List.setIfInBounds_toArray, List.set_cons_zero, List.set_cons_succ]
        refine hd_taken 4 (some 26) _ ?hdvhit4 rfl rfl (by kernel_rfl) (fun _ _ _ h => h) (Or.inl ⟨by rfl, ?hdyhit4⟩) hS5 ?hdrhit4
        case hdyhit4 => (intro wx hx; (try dsimp only at hx); go_simp; try with_reducible rfl)
        try simp only [Act.put, List.setIfInBounds_toArray, List.set_cons_zero, List.set_cons_succ]
        refine hd_taken 5 (some 27) _ ?hdvhit5 rfl rfl (by kernel_rfl) (fun _ _ _ h => h) (Or.inl ⟨by rfl, ?hdyhit5⟩) hS5 ?hdrhit5
        case hdyhit5 => (intro wx hx; (try dsimp only at hx); go_simp; try with_reducible rfl)
        try simp only [Act.put, List.setIfInBounds_toArray, List.set_cons_zero, List.set_cons_succ]
        refine hd_taken 6 (some 28) _ ?hdvhit6 rfl rfl (by kernel_rfl) (fun _ _ _ h => h) (Or.inl ⟨by rfl, ?hdyhit6⟩) hS5 ?hdrhit6
        case hdyhit6 => (intro wx hx; (try dsimp only at hx); go_simp; try with_reducible rfl)
        try simp only [Act.put, List.setIfInBounds_toArray, List.set_cons_zero, List.set_cons_succ]
        refine hd_taken 7 (some 29) _ ?hdvhit7 rfl rfl (by kernel_rfl) (fun _ _ _ h => h) (Or.inl ⟨by rfl, ?hdyhit7⟩) hS5 ?hdrhit7
        case hdyhit7 => (intro wx hx; (try dsimp only at hx); go_simp; try with_reducible rfl)
        try simp only [Act.put, List.setIfInBounds_toArray, List.set_cons_zero, List.set_cons_succ]
        refine hd_taken 8 (some 30) _ ?hdvhit8 rfl rfl (by kernel_rfl) (fun _ _ _ h => h) (Or.inl ⟨by rfl, ?hdyhit8⟩) hS5 ?hdrhit8
        case hdyhit8 => (intro wx hx; (try dsimp only at hx); go_simp; try with_reducible rfl)
        try simp only [Act.put, List.setIfInBounds_toArray, List.set_cons_zero, List.set_cons_succ]
        refine hd_taken 9 (some 31) _ ?hdvhit9 rfl rfl (by kernel_rfl) (fun _ _ _ h => h) (Or.inl ⟨by rfl, ?hdyhit9⟩) hS5 ?hdrhit9
        case hdyhit9 => (intro wx hx; (try dsimp only at hx); go_simp; try with_reducible rfl)
        try simp only [Act.put, List.setIfInBounds_toArray, List.set_cons_zero, List.set_cons_succ]
        refine hd_one 10 _ rfl (by kernel_rfl) (by decide) (fun K10 hK10 => ?_)
        go_simp
        refine (hasUn_any _ L x (q x) n0 eg0 _ (HT.out _ B5) HQ.out).mono ?_
        rw [HHB.out]
        rintro e w6 ⟨rfl, b6⟩
        try dsimp only
        have B6 : Below W1.heap.size W1 w6 := st B5 b6 B5.size
        have hS6 := HCE.out w6 B6
        refine hK10.out _ _ hS6 ?_
        clear hK10 K10 hS5 b6
        try simp only [Act.put, List.setIfInBounds_toArray, List.set_cons_zero, List.set_cons_succ]
        refine hd_done (by kernel_rfl) ?_
        simp only [List.drop_succ_cons, List.drop_zero]
        clear hS6
        go_wp2_with fail
        go_ret
        exact ⟨⟨_, rfl, ⟨fun h => (by cases h), fun h => absurd (HHB.out.symm.trans (HNO.out h).2) (by decide)⟩⟩, st HB1.out B6 HB1.out.size⟩
      | false =>
        have HNX := Lib.hid (HNX.out HVK.out HHB.out)
        refine region_hd 11 (fun wx : World => wx.cell? ⟨h, 0, none⟩ = some (.string (ofL x.un)) ∧ wx.cell? ⟨h, 1, none⟩ = some (.string (ofL x.cl)) ∧ wx.cell? ⟨h, 2, none⟩ = some (.string (ofL x.pt))) (by kernel_rfl) (by kernel_rfl) ?_
        have hS0 := HCE.out W1.drew (Below.refl _ _).drew
        refine hd_taken 0 (some 22) _ ?hdvmiss0 rfl rfl (by kernel_rfl) (fun _ _ _ h => h) (Or.inl ⟨by rfl, ?hdymiss0⟩) hS0 ?hdrmiss0
        case hdymiss0 => (intro wx hx; (try dsimp only at hx); go_simp; try with_reducible rfl)
        try simp only [Act.put, List.setIfInBounds_toArray, List.set_cons_zero, List.set_cons_succ]
        refine hd_taken 1 (some 23) _ ?hdvmiss1 rfl rfl (by kernel_rfl) (fun _ _ _ h => h) (Or.inl ⟨by rfl, ?hdymiss1⟩) hS0 ?hdrmiss1
        case hdymiss1 => (intro wx hx; (try dsimp only at hx); go_simp; try with_reducible rfl)
        try simp only [Act.put, List.setIfInBounds_toArray, List.set_cons_zero, List.set_cons_succ]
        refine hd_one 2 _ rfl (by kernel_rfl) (by decide) (fun K2 hK2 => ?_)
        go_simp
        refine (HC.out _ (Below.refl _ _).drew).mono ?_
        rintro e w5 ⟨⟨vb, rfl, hvb⟩, b5⟩
        try dsimp only
        obtain rfl : vb = true := hvb.2 HVK.out
        have B5 : Below W1.heap.size W1 w5 := (Below.refl _ W1).drew.trans b5
        have hS5 := HCE.out w5 B5
        refine hK2.out _ _ hS5 ?_
        clear hK2 K2 hS0 b5 hvb
        try simp only [Act.put, List.setIfInBounds_toArray, List.set_cons_zero, List.set_cons_succ]
        refine hd_taken 3 (some 25) _ ?hdvmiss3 rfl rfl (by kernel_rfl) (fun _ _ _ h => h) (Or.inl ⟨by rfl, ?hdymiss3⟩) hS5 ?hdrmiss3
        case hdymiss3 => (intro wx hx; (try dsimp only at hx); go_simp; try with_reducible rfl)
        try simp only [Act.put, List.setIfInBounds_toArray, List.set_cons_zero, List.set_cons_succ]
        refine hd_taken 4 (some 26) _ ?hdvmiss4 rfl rfl (by kernel_rfl) (fun _ _ _ h => h) (Or.inl ⟨by rfl, ?hdymiss4⟩) hS5 ?hdrmiss4
        case hdymiss4 => (intro wx hx; (try dsimp only at hx); go_simp; try with_reducible rfl)
        try simp only [Act.put, List.setIfInBounds_toArray, List.set_cons_zero, List.set_cons_succ]
        refine hd_taken 5 (some 27) _ ?hdvmiss5 rfl rfl (by kernel_rfl) (fun _ _ _ h => h) (Or.inl ⟨by rfl, ?hdymiss5⟩) hS5 ?hdrmiss5
        case hdymiss5 => (intro wx hx; (try dsimp only at hx); go_simp; try with_reducible rfl)
        try simp only [Act.put, List.setIfInBounds_toArray, List.set_cons_zero, List.set_cons_succ]
        refine hd_taken 6 (some 28) _ ?hdvmiss6 rfl rfl (by kernel_rfl) (fun _ _ _ h => h) (Or.inl ⟨by rfl, ?hdymiss6⟩) hS5 ?hdrmiss6
        case hdymiss6 => (intro wx hx; (try dsimp only at hx); go_simp; try with_reducible rfl)
        try simp only [Act.put, List.setIfInBounds_toArray, List.set_cons_zero, List.set_cons_succ]
        refine hd_taken 7 (some 29) _ ?hdvmiss7 rfl rfl (by kernel_rfl) (fun _ _ _ h => h) (Or.inl ⟨by rfl, ?hdymiss7⟩) hS5 ?hdrmiss7
        case hdymiss7 => (intro wx hx; (try dsimp only at hx); go_simp; try with_reducible rfl)
        try simp only [Act.put, List.setIfInBounds_toArray, List.set_cons_zero, List.set_cons_succ]
        refine hd_taken 8 (some 30) _ ?hdvmiss8 rfl rfl (by kernel_rfl) (fun _ _ _ h => h) (Or.inl ⟨by rfl, ?hdymiss8⟩) hS5 ?hdrmiss8
        case hdymiss8 => (intro wx hx; (try dsimp only at hx); go_simp; try with_reducible rfl)
        try simp only [Act.put, List.setIfInBounds_toArray, List.set_cons_zero, List.set_cons_succ]
        refine hd_taken 9 (some 31) _ ?hdvmiss9 rfl rfl (by kernel_rfl) (fun _ _ _ h => h) (Or.inl ⟨by rfl, ?hdymiss9⟩) hS5 ?hdrmiss9
        case hdymiss9 => (intro wx hx; (try dsimp only at hx); go_simp; try with_reducible rfl)
        try simp only [Act.put, List.setIfInBounds_toArray, List.set_cons_zero, List.set_cons_succ]
        refine hd_one 10 _ rfl (by kernel_rfl) (by decide) (fun K10 hK10 => ?_)
        go_simp
        refine (hasUn_any _ L x (q x) n0 eg0 _ (HT.out _ B5) HQ.out).mono ?_
        rw [HHB.out]
        rintro e w6 ⟨rfl, b6⟩
        try dsimp only
        have B6 : Below W1.heap.size W1 w6 := st B5 b6 B5.size
        have hS6 := HCE.out w6 B6
        refine hK10.out _ _ hS6 ?_
        clear hK10 K10 hS5 b6
        try simp only [Act.put, List.setIfInBounds_toArray, List.set_cons_zero, List.set_cons_succ]
        refine hd_done (by kernel_rfl) ?_
        simp only [List.drop_succ_cons, List.drop_zero]
        clear hS6
        go_wp2_with fail
        go_roundw
        case measure => simp [intOf]; omega
        case rel => exact ⟨k + 1, by omega, by go_num, HNX.out, st HB1.out B6 HB1.out.size⟩
    · obtain rfl : k = LN := by omega
      have h3 : ¬ (k : Int) < (k : Int) := by omega
      have HA := Lib.hid (HE.out HM.out (by rw [← HLN.out] at HK ⊢; exact HK.out))
      go_wp2
      go_ret
      exact ⟨⟨_, rfl, ⟨fun _ => HA.out, fun _ => rfl⟩⟩, HB.out⟩
set_option maxRecDepth 1000000 in
set_option maxHeartbeats 4000000 in
theorem areVLo_any (v : Value) (l : List (RawLo)) (most : Int) (n1 n0 : Nat) (eg1 : ∀ args w, (callFunc n1 args).run Tryz.prog w = .ok (.enter n1 args) w) (eg0 : ∀ args w, (callFunc n0 args).run Tryz.prog w = .ok (.enter n0 args) w) (V : Nat → Prop) (q : RawLo → RawLo → Bool) (w : World) (hv : Rd 16 encLo w v l)
    (hV : ∀ (W1 : World), Below w.heap.size w W1 → ∀ (i : Nat) (h : i < l.length), Calls Tryz.prog n1 #[.agg #[.string (ofL (l[i]'h).tag), .string (ofL (l[i]'h).par), .string (ofL (l[i]'h).dir), .slice (l[i]'h).ca.a (l[i]'h).ca.n (l[i]'h).ca.c, .slice (l[i]'h).oc.a (l[i]'h).oc.n (l[i]'h).oc.c, .string (ofL (l[i]'h).sy.de), .string (ofL (l[i]'h).sy.gr), .string (ofL (l[i]'h).sy.mi), .string (ofL (l[i]'h).sy.pe), .int .i64 (l[i]'h).sy.pr, .int .i64 (l[i]'h).sy.se, .slice (l[i]'h).li.a (l[i]'h).li.n (l[i]'h).li.c, .slice (l[i]'h).un.a (l[i]'h).un.n (l[i]'h).un.c, .slice (l[i]'h).da.a (l[i]'h).da.n (l[i]'h).da.c, .slice (l[i]'h).mo.a (l[i]'h).mo.n (l[i]'h).mo.c, .slice (l[i]'h).dy.a (l[i]'h).dy.n (l[i]'h).dy.c]] W1 (Says (V i) W1))
    (hF : ∀ (W1 : World) (x y : RawLo), Calls Tryz.prog n0 #[.agg #[.string (ofL x.tag), .string (ofL x.par), .string (ofL x.dir), .slice x.ca.a x.ca.n x.ca.c, .slice x.oc.a x.oc.n x.oc.c, .string (ofL x.sy.de), .string (ofL x.sy.gr), .string (ofL x.sy.mi), .string (ofL x.sy.pe), .int .i64 x.sy.pr, .int .i64 x.sy.se, .slice x.li.a x.li.n x.li.c, .slice x.un.a x.un.n x.un.c, .slice x.da.a x.da.n x.da.c, .slice x.mo.a x.mo.n x.mo.c, .slice x.dy.a x.dy.n x.dy.c], .agg #[.string (ofL y.tag), .string (ofL y.par), .string (ofL y.dir), .slice y.ca.a y.ca.n y.ca.c, .slice y.oc.a y.oc.n y.oc.c, .string (ofL y.sy.de), .string (ofL y.sy.gr), .string (ofL y.sy.mi), .string (ofL y.sy.pe), .int .i64 y.sy.pr, .int .i64 y.sy.se, .slice y.li.a y.li.n y.li.c, .slice y.un.a y.un.n y.un.c, .slice y.da.a y.da.n y.da.c, .slice y.mo.a y.mo.n y.mo.c, .slice y.dy.a y.dy.n y.dy.c]] W1 fun e w' => e = .returned (.bool (q x y)) ∧ Below W1.heap.size W1 w') :
    Calls Tryz.prog 32 #[v, .int .i64 most, .func (.func n1) #[] #[], .func (.func n0) #[] #[]] w (Says (AllV l most V q) w) := by
  obtain ⟨a, c, rfl, hc1, hc2⟩ := hv.slice
  have HU := Lib.hid hv
  have HV := Lib.hid hV
  have HF := Lib.hid hF
  have HN := Lib.hid (fun h => allV_big (l := l) (most := most) (V := V) (q := q) h)
  have HG := Lib.hid (fun (k : Nat) (h : k < l.length) => allV_at (l := l) (most := most) (V := V) (q := q) (k := k) h)
  have HE := Lib.hid (fun h h' => allV_end (l := l) (most := most) (V := V) (q := q) h h')
  obtain ⟨LN, hLN⟩ : ∃ LN, l.length = LN := ⟨_, rfl⟩
  have HLN := Lib.hid hLN
  rw [hLN] at HU hc1 HN HE ⊢
  clear hv hF hV hLN
  by_cases hm : (LN : Int) ≤ most
  case neg =>
    have h0 : (LN : Int) > most := by omega
    have h0' : most < (LN : Int) := by omega
    go_enter Tryz.func32, Tryz.ntmps32
    go_wp2
    go_ret
    exact ⟨⟨_, rfl, ⟨fun h => (by cases h), fun h => absurd h (HN.out (by omega))⟩⟩, Below.refl _ _⟩
  have h0 : ¬ (LN : Int) > most := by omega
  have h0' : ¬ most < (LN : Int) := by omega
  have HM := Lib.hid hm
  clear hm
  go_enter Tryz.func32, Tryz.ntmps32
  go_wp2
  go_loopw [17] (fun v wr => ∃ k : Nat, k ≤ LN ∧ v = .int .i64 k ∧ GoodV l V q k ∧ Below w.heap.size w wr) (fun v _ => LN - (intOf v).toNat)
  case atStart => exact ⟨0, Nat.zero_le _, rfl, goodV_zero, Below.refl _ _⟩
  case round =>
    obtain ⟨k, hk, rfl, hkd, hb⟩ := hrel
    have HK := Lib.hid hkd
    have HB := Lib.hid hb
    have zr := hb.size
    clear hkd hb
    by_cases hlt' : k < LN
    · have hlt : k < l.length := by rw [HLN.out]; exact hlt'
      obtain ⟨bk, off, rfl, h00, hx⟩ := (HU.out.below HB.out).some_ k hlt
      have c0 : wr.cell? ⟨bk, off + k * 16, none⟩ = some (.string (ofL (l[k]'hlt).tag)) := hx 0 _ rfl
      have c1 : wr.cell? ⟨bk, off + k * 16 + 1, none⟩ = some (.string (ofL (l[k]'hlt).par)) := hx 1 _ rfl
      have c2 : wr.cell? ⟨bk, off + k * 16 + 2, none⟩ = some (.string (ofL (l[k]'hlt).dir)) := hx 2 _ rfl
      have c3 : wr.cell? ⟨bk, off + k * 16 + 3, none⟩ = some (.slice (l[k]'hlt).ca.a (l[k]'hlt).ca.n (l[k]'hlt).ca.c) := hx 3 _ rfl
      have c4 : wr.cell? ⟨bk, off + k * 16 + 4, none⟩ = some (.slice (l[k]'hlt).oc.a (l[k]'hlt).oc.n (l[k]'hlt).oc.c) := hx 4 _ rfl
      have c5 : wr.cell? ⟨bk, off + k * 16 + 5, none⟩ = some (.string (ofL (l[k]'hlt).sy.de)) := hx 5 _ rfl
      have c6 : wr.cell? ⟨bk, off + k * 16 + 6, none⟩ = some (.string (ofL (l[k]'hlt).sy.gr)) := hx 6 _ rfl
      have c7 : wr.cell? ⟨bk, off + k * 16 + 7, none⟩ = some (.string (ofL (l[k]'hlt).sy.mi)) := hx 7 _ rfl
      have c8 : wr.cell? ⟨bk, off + k * 16 + 8, none⟩ = some (.string (ofL (l[k]'hlt).sy.pe)) := hx 8 _ rfl
      have c9 : wr.cell? ⟨bk, off + k * 16 + 9, none⟩ = some (.int .i64 (l[k]'hlt).sy.pr) := hx 9 _ rfl
      have c10 : wr.cell? ⟨bk, off + k * 16 + 10, none⟩ = some (.int .i64 (l[k]'hlt).sy.se) := hx 10 _ rfl
      have c11 : wr.cell? ⟨bk, off + k * 16 + 11, none⟩ = some (.slice (l[k]'hlt).li.a (l[k]'hlt).li.n (l[k]'hlt).li.c) := hx 11 _ rfl
      have c12 : wr.cell? ⟨bk, off + k * 16 + 12, none⟩ = some (.slice (l[k]'hlt).un.a (l[k]'hlt).un.n (l[k]'hlt).un.c) := hx 12 _ rfl
      have c13 : wr.cell? ⟨bk, off + k * 16 + 13, none⟩ = some (.slice (l[k]'hlt).da.a (l[k]'hlt).da.n (l[k]'hlt).da.c) := hx 13 _ rfl
      have c14 : wr.cell? ⟨bk, off + k * 16 + 14, none⟩ = some (.slice (l[k]'hlt).mo.a (l[k]'hlt).mo.n (l[k]'hlt).mo.c) := hx 14 _ rfl
      have c15 : wr.cell? ⟨bk, off + k * 16 + 15, none⟩ = some (.slice (l[k]'hlt).dy.a (l[k]'hlt).dy.n (l[k]'hlt).dy.c) := hx 15 _ rfl
      have h9 : (k : Int) < (LN : Int) := by omega
      have h10 : (k : Int) ≤ (c : Int) := by omega
      have h11 : k ≤ c := by omega
      have HC := Lib.hid (fun wx (hb : Below w.heap.size w wx) => HV.out wx hb k hlt)
      have HT := Lib.hid (HU.out.take k (Nat.le_of_lt hlt))
      have HNO := Lib.hid (HG.out k hlt)
      have HQ : Hid (∀ (W1 : World) (y : RawLo), y ∈ l.take k → Calls Tryz.prog n0 #[.agg #[.string (ofL (l[k]'hlt).tag), .string (ofL (l[k]'hlt).par), .string (ofL (l[k]'hlt).dir), .slice (l[k]'hlt).ca.a (l[k]'hlt).ca.n (l[k]'hlt).ca.c, .slice (l[k]'hlt).oc.a (l[k]'hlt).oc.n (l[k]'hlt).oc.c, .string (ofL (l[k]'hlt).sy.de), .string (ofL (l[k]'hlt).sy.gr), .string (ofL (l[k]'hlt).sy.mi), .string (ofL (l[k]'hlt).sy.pe), .int .i64 (l[k]'hlt).sy.pr, .int .i64 (l[k]'hlt).sy.se, .slice (l[k]'hlt).li.a (l[k]'hlt).li.n (l[k]'hlt).li.c, .slice (l[k]'hlt).un.a (l[k]'hlt).un.n (l[k]'hlt).un.c, .slice (l[k]'hlt).da.a (l[k]'hlt).da.n (l[k]'hlt).da.c, .slice (l[k]'hlt).mo.a (l[k]'hlt).mo.n (l[k]'hlt).mo.c, .slice (l[k]'hlt).dy.a (l[k]'hlt).dy.n (l[k]'hlt).dy.c], .agg #[.string (ofL y.tag), .string (ofL y.par), .string (ofL y.dir), .slice y.ca.a y.ca.n y.ca.c, .slice y.oc.a y.oc.n y.oc.c, .string (ofL y.sy.de), .string (ofL y.sy.gr), .string (ofL y.sy.mi), .string (ofL y.sy.pe), .int .i64 y.sy.pr, .int .i64 y.sy.se, .slice y.li.a y.li.n y.li.c, .slice y.un.a y.un.n y.un.c, .slice y.da.a y.da.n y.da.c, .slice y.mo.a y.mo.n y.mo.c, .slice y.dy.a y.dy.n y.dy.c]] W1 fun e w' => e = .returned (.bool (q (l[k]'hlt) y)) ∧ Below W1.heap.size W1 w') := Lib.hid (fun W1 y _ => HF.out W1 _ y)
      have HNX := Lib.hid (goodV_next (V := V) (q := q) hlt HK.out)
      obtain ⟨x, hx0⟩ : ∃ x, l[k]'hlt = x := ⟨_, rfl⟩
      rw [hx0] at HC HQ HNO HNX c0 c1 c2 c3 c4 c5 c6 c7 c8 c9 c10 c11 c12 c13 c14 c15
      clear hx hx0
      have HA1 : Hid (Below wr.heap.size wr (wr.alloc (.cells #[.string (ofL x.tag), .string (ofL x.par), .string (ofL x.dir), .slice x.ca.a x.ca.n x.ca.c, .slice x.oc.a x.oc.n x.oc.c, .string (ofL x.sy.de), .string (ofL x.sy.gr), .string (ofL x.sy.mi), .string (ofL x.sy.pe), .int .i64 x.sy.pr, .int .i64 x.sy.se, .slice x.li.a x.li.n x.li.c, .slice x.un.a x.un.n x.un.c, .slice x.da.a x.da.n x.da.c, .slice x.mo.a x.mo.n x.mo.c, .slice x.dy.a x.dy.n x.dy.c] 51))) := Lib.hid ((Below.refl _ _).alloc (Nat.le_refl _) _)
      have HA2 : Hid (Blk wr.heap.size 51 #[.string (ofL x.tag), .string (ofL x.par), .string (ofL x.dir), .slice x.ca.a x.ca.n x.ca.c, .slice x.oc.a x.oc.n x.oc.c, .string (ofL x.sy.de), .string (ofL x.sy.gr), .string (ofL x.sy.mi), .string (ofL x.sy.pe), .int .i64 x.sy.pr, .int .i64 x.sy.se, .slice x.li.a x.li.n x.li.c, .slice x.un.a x.un.n x.un.c, .slice x.da.a x.da.n x.da.c, .slice x.mo.a x.mo.n x.mo.c, .slice x.dy.a x.dy.n x.dy.c] (wr.alloc (.cells #[.string (ofL x.tag), .string (ofL x.par), .string (ofL x.dir), .slice x.ca.a x.ca.n x.ca.c, .slice x.oc.a x.oc.n x.oc.c, .string (ofL x.sy.de), .string (ofL x.sy.gr), .string (ofL x.sy.mi), .string (ofL x.sy.pe), .int .i64 x.sy.pr, .int .i64 x.sy.se, .slice x.li.a x.li.n x.li.c, .slice x.un.a x.un.n x.un.c, .slice x.da.a x.da.n x.da.c, .slice x.mo.a x.mo.n x.mo.c, .slice x.dy.a x.dy.n x.dy.c] 51))) := Lib.hid (Blk.new _ _ _)
      obtain ⟨W1, hW1⟩ : ∃ W1, wr.alloc (.cells #[.string (ofL x.tag), .string (ofL x.par), .string (ofL x.dir), .slice x.ca.a x.ca.n x.ca.c, .slice x.oc.a x.oc.n x.oc.c, .string (ofL x.sy.de), .string (ofL x.sy.gr), .string (ofL x.sy.mi), .string (ofL x.sy.pe), .int .i64 x.sy.pr, .int .i64 x.sy.se, .slice x.li.a x.li.n x.li.c, .slice x.un.a x.un.n x.un.c, .slice x.da.a x.da.n x.da.c, .slice x.mo.a x.mo.n x.mo.c, .slice x.dy.a x.dy.n x.dy.c] 51) = W1 := ⟨_, rfl⟩
      rw [hW1] at HA1 HA2
      have HW1 := Lib.hid hW1
      obtain ⟨h, hh⟩ : ∃ h, wr.heap.size = h := ⟨_, rfl⟩
      have HH := Lib.hid hh
      rw [hh] at HA2
      clear hW1 hh
      go_upto_region 6 with fail
      rw [HW1.out, HH.out]
      have HCE : Hid (∀ wx, Below W1.heap.size W1 wx → wx.cell? ⟨h, 0, none⟩ = some (.string (ofL x.tag)) ∧ wx.cell? ⟨h, 1, none⟩ = some (.string (ofL x.par)) ∧ wx.cell? ⟨h, 2, none⟩ = some (.string (ofL x.dir)) ∧ wx.cell? ⟨h, 3, none⟩ = some (.slice x.ca.a x.ca.n x.ca.c) ∧ wx.cell? ⟨h, 4, none⟩ = some (.slice x.oc.a x.oc.n x.oc.c) ∧ wx.cell? ⟨h, 5, none⟩ = some (.string (ofL x.sy.de)) ∧ wx.cell? ⟨h, 6, none⟩ = some (.string (ofL x.sy.gr)) ∧ wx.cell? ⟨h, 7, none⟩ = some (.string (ofL x.sy.mi)) ∧ wx.cell? ⟨h, 8, none⟩ = some (.string (ofL x.sy.pe)) ∧ wx.cell? ⟨h, 9, none⟩ = some (.int .i64 x.sy.pr) ∧ wx.cell? ⟨h, 10, none⟩ = some (.int .i64 x.sy.se) ∧ wx.cell? ⟨h, 11, none⟩ = some (.slice x.li.a x.li.n x.li.c) ∧ wx.cell? ⟨h, 12, none⟩ = some (.slice x.un.a x.un.n x.un.c) ∧ wx.cell? ⟨h, 13, none⟩ = some (.slice x.da.a x.da.n x.da.c) ∧ wx.cell? ⟨h, 14, none⟩ = some (.slice x.mo.a x.mo.n x.mo.c) ∧ wx.cell? ⟨h, 15, none⟩ = some (.slice x.dy.a x.dy.n x.dy.c)) := Lib.hid (fun wx hb => ⟨(HA2.out.below hb).cell 0, (HA2.out.below hb).cell 1, (HA2.out.below hb).cell 2, (HA2.out.below hb).cell 3, (HA2.out.below hb).cell 4, (HA2.out.below hb).cell 5, (HA2.out.below hb).cell 6, (HA2.out.below hb).cell 7, (HA2.out.below hb).cell 8, (HA2.out.below hb).cell 9, (HA2.out.below hb).cell 10, (HA2.out.below hb).cell 11, (HA2.out.below hb).cell 12, (HA2.out.below hb).cell 13, (HA2.out.below hb).cell 14, (HA2.out.below hb).cell 15⟩)
      obtain ⟨y0, y1, y2, y3, y4, y5, y6, y7, y8, y9, y10, y11, y12, y13, y14, y15⟩ := HCE.out W1 (Below.refl _ _)
      have HB1 : Hid (Below w.heap.size w W1) := Lib.hid (st HB.out HA1.out zr)
      have HC : Hid (∀ wx, Below W1.heap.size W1 wx → Calls Tryz.prog n1 #[.agg #[.string (ofL x.tag), .string (ofL x.par), .string (ofL x.dir), .slice x.ca.a x.ca.n x.ca.c, .slice x.oc.a x.oc.n x.oc.c, .string (ofL x.sy.de), .string (ofL x.sy.gr), .string (ofL x.sy.mi), .string (ofL x.sy.pe), .int .i64 x.sy.pr, .int .i64 x.sy.se, .slice x.li.a x.li.n x.li.c, .slice x.un.a x.un.n x.un.c, .slice x.da.a x.da.n x.da.c, .slice x.mo.a x.mo.n x.mo.c, .slice x.dy.a x.dy.n x.dy.c]] wx (Says (V k) wx)) := Lib.hid (fun wx hb => HC.out wx (st HB1.out hb HB1.out.size))
      have HT : Hid (∀ wx, Below W1.heap.size W1 wx → Rd 16 encLo wx (.slice (some ⟨bk, off, none⟩) k c) (l.take k)) := Lib.hid (fun wx hb => HT.out.below (st HB1.out hb HB1.out.size))
      obtain ⟨L, hL⟩ : ∃ L, l.take k = L := ⟨_, rfl⟩
      rw [hL] at HT HQ HNO HNX
      clear hL HW1 HV HG HF HA1 HA2 c0 c1 c2 c3 c4 c5 c6 c7 c8 c9 c10 c11 c12 c13 c14 c15
      by_cases hVk : V k
      case neg =>
        have HVN := Lib.hid hVk
        clear hVk
        refine region_hd 11 (fun wx : World => wx.cell? ⟨h, 0, none⟩ = some (.string (ofL x.tag)) ∧ wx.cell? ⟨h, 1, none⟩ = some (.string (ofL x.par)) ∧ wx.cell? ⟨h, 2, none⟩ = some (.string (ofL x.dir)) ∧ wx.cell? ⟨h, 3, none⟩ = some (.slice x.ca.a x.ca.n x.ca.c) ∧ wx.cell? ⟨h, 4, none⟩ = some (.slice x.oc.a x.oc.n x.oc.c) ∧ wx.cell? ⟨h, 5, none⟩ = some (.string (ofL x.sy.de)) ∧ wx.cell? ⟨h, 6, none⟩ = some (.string (ofL x.sy.gr)) ∧ wx.cell? ⟨h, 7, none⟩ = some (.string (ofL x.sy.mi)) ∧ wx.cell? ⟨h, 8, none⟩ = some (.string (ofL x.sy.pe)) ∧ wx.cell? ⟨h, 9, none⟩ = some (.int .i64 x.sy.pr) ∧ wx.cell? ⟨h, 10, none⟩ = some (.int .i64 x.sy.se) ∧ wx.cell? ⟨h, 11, none⟩ = some (.slice x.li.a x.li.n x.li.c) ∧ wx.cell? ⟨h, 12, none⟩ = some (.slice x.un.a x.un.n x.un.c) ∧ wx.cell? ⟨h, 13, none⟩ = some (.slice x.da.a x.da.n x.da.c) ∧ wx.cell? ⟨h, 14, none⟩ = some (.slice x.mo.a x.mo.n x.mo.c) ∧ wx.cell? ⟨h, 15, none⟩ = some (.slice x.dy.a x.dy.n x.dy.c)) (by kernel_rfl) (by kernel_rfl) ?_
        have hS0 := HCE.out W1.drew (Below.refl _ _).drew
        refine hd_taken 0 (some 22) _ ?hdvno0 rfl rfl (by kernel_rfl) (fun _ _ _ h => h) (Or.inl ⟨by rfl, ?hdyno0⟩) hS0 ?hdrno0
        case hdyno0 => (intro wx hx; (try dsimp only at hx); go_simp; try with_reducible rfl)
        try simp only [Act.put, List.setIfInBounds_toArray, List.set_cons_zero, List.set_cons_succ]
        refine hd_taken 1 (some 23) _ ?hdvno1 rfl rfl (by kernel_rfl) (fun _ _ _ h => h) (Or.inl ⟨by rfl, ?hdyno1⟩) hS0 ?hdrno1
        case hdyno1 => (intro wx hx; (try dsimp only at hx); go_simp; try with_reducible rfl)
        try simp only [Act.put, List.setIfInBounds_toArray, List.set_cons_zero, List.set_cons_succ]
        refine hd_one 2 _ rfl (by kernel_rfl) (by decide) (fun K2 hK2 => ?_)
        go_simp
        refine (HC.out _ (Below.refl _ _).drew).mono ?_
        rintro e w5 ⟨⟨vb, rfl, hvb⟩, b5⟩
        try dsimp only
        obtain rfl : vb = false := says_no hvb HVN.out
        have B5 : Below W1.heap.size W1 w5 := (Below.refl _ W1).drew.trans b5
        have hS5 := HCE.out w5 B5
        refine hK2.out _ _ hS5 ?_
        clear hK2 K2 hS0 b5 hvb
        try simp only [Act.put, List.setIfInBounds_toArray, List.set_cons_zero, List.set_cons_succ]
        refine hd_taken 3 (some 25) _ ?hdvno3 rfl rfl (by kernel_rfl) (fun _ _ _ h => h) (Or.inl ⟨by rfl, ?hdyno3⟩) hS5 ?hdrno3
        case hdyno3 => (intro wx hx; (try dsimp only at hx); go_simp; try with_reducible rfl)
        try simp only [Act.put, List.setIfInBounds_toArray, List.set_cons_zero, List.set_cons_succ]
        refine hd_taken 4 (some 26) _ ?hdvno4 rfl rfl (by kernel_rfl) (fun _ _ _ h => h) (Or.inl ⟨by rfl, ?hdyno4⟩) hS5 ?hdrno4
        case hdyno4 => (intro wx hx; (try dsimp only at hx); go_simp; try with_reducible rfl)
        try simp only [Act.put, List.setIfInBounds_toArray, List.set_cons_zero, List.set_cons_succ]
        refine hd_taken 5 (some 27) _ undef rfl rfl (by kernel_rfl) (fun _ _ _ h => h) (Or.inr ⟨by rfl, rfl⟩) hS5 ?_
        try simp only [Act.put, List.setIfInBounds_toArray, List.set_cons_zero, List.set_cons_succ]
        refine hd_taken 6 (some 28) _ undef rfl rfl (by kernel_rfl) (fun _ _ _ h => h) (Or.inr ⟨by rfl, rfl⟩) hS5 ?_
        try simp only [Act.put, List.setIfInBounds_toArray, List.set_cons_zero, List.set_cons_succ]
        refine hd_taken 7 (some 29) _ undef rfl rfl (by kernel_rfl) (fun _ _ _ h => h) (Or.inr ⟨by rfl, rfl⟩) hS5 ?_
        try simp only [Act.put, List.setIfInBounds_toArray, List.set_cons_zero, List.set_cons_succ]
        refine hd_taken 8 (some 30) _ undef rfl rfl (by kernel_rfl) (fun _ _ _ h => h) (Or.inr ⟨by rfl, rfl⟩) hS5 ?_
        try simp only [Act.put, List.setIfInBounds_toArray, List.set_cons_zero, List.set_cons_succ]
        refine hd_taken 9 (some 31) _ undef rfl rfl (by kernel_rfl) (fun _ _ _ h => h) (Or.inr ⟨by rfl, rfl⟩) hS5 ?_
        try simp only [Act.put, List.setIfInBounds_toArray, List.set_cons_zero, List.set_cons_succ]
        refine hd_taken 10 (some 32) _ undef rfl rfl (by kernel_rfl) (fun _ _ _ h => h) (Or.inr ⟨by rfl, rfl⟩) hS5 ?_
        try simp only [Act.put, List.setIfInBounds_toArray, List.set_cons_zero, List.set_cons_succ]
        refine hd_done (by kernel_rfl) ?_
        simp only [List.drop_succ_cons, List.drop_zero]
        clear hS5
        go_wp2_with fail
        go_ret
        exact ⟨⟨_, rfl, ⟨fun h => (by cases h), fun h => absurd (HNO.out h).1 HVN.out⟩⟩, st HB1.out B5 HB1.out.size⟩
      obtain ⟨hb0, hhb⟩ : ∃ b, L.any (q x) = b := ⟨_, rfl⟩
      have HHB := Lib.hid hhb
      have HVK := Lib.hid hVk
      clear hVk hhb
      cases hb0 with
      | true =>
        refine region_hd 11 (fun wx : World => wx.cell? ⟨h, 0, none⟩ = some (.string (ofL x.tag)) ∧ wx.cell? ⟨h, 1, none⟩ = some (.string (ofL x.par)) ∧ wx.cell? ⟨h, 2, none⟩ = some (.string (ofL x.dir)) ∧ wx.cell? ⟨h, 3, none⟩ = some (.slice x.ca.a x.ca.n x.ca.c) ∧ wx.cell? ⟨h, 4, none⟩ = some (.slice x.oc.a x.oc.n x.oc.c) ∧ wx.cell? ⟨h, 5, none⟩ = some (.string (ofL x.sy.de)) ∧ wx.cell? ⟨h, 6, none⟩ = some (.string (ofL x.sy.gr)) ∧ wx.cell? ⟨h, 7, none⟩ = some (.string (ofL x.sy.mi)) ∧ wx.cell? ⟨h, 8, none⟩ = some (.string (ofL x.sy.pe)) ∧ wx.cell? ⟨h, 9, none⟩ = some (.int .i64 x.sy.pr) ∧ wx.cell? ⟨h, 10, none⟩ = some (.int .i64 x.sy.se) ∧ wx.cell? ⟨h, 11, none⟩ = some (.slice x.li.a x.li.n x.li.c) ∧ wx.cell? ⟨h, 12, none⟩ = some (.slice x.un.a x.un.n x.un.c) ∧ wx.cell? ⟨h, 13, none⟩ = some (.slice x.da.a x.da.n x.da.c) ∧ wx.cell? ⟨h, 14, none⟩ = some (.slice x.mo.a x.mo.n x.mo.c) ∧ wx.cell? ⟨h, 15, none⟩ = some (.slice x.dy.a x.dy.n x.dy.c)) (by kernel_rfl) (by kernel_rfl) ?_
        have hS0 := HCE.out W1.drew (Below.refl _ _).drew
        refine hd_taken 0 (some 22) _ ?hdvhit0 rfl rfl (by kernel_rfl) (fun _ _ _ h => h) (Or.inl ⟨by rfl, ?hdyhit0⟩) hS0 ?hdrhit0
        case hdyhit0 => (intro wx hx; (try dsimp only at hx); go_simp; try with_reducible rfl)
        try simp only [Act.put, List.setIfInBounds_toArray, List.set_cons_zero, List.set_cons_succ]
        refine hd_taken 1 (some 23) _ ?hdvhit1 rfl rfl (by kernel_rfl) (fun _ _ _ h => h) (Or.inl ⟨by rfl, ?hdyhit1⟩) hS0 ?hdrhit1
        case hdyhit1 => (intro wx hx; (try dsimp only at hx); go_simp; try with_reducible rfl)
        try simp only [Act.put, List.setIfInBounds_toArray, List.set_cons_zero, List.set_cons_succ]
        refine hd_one 2 _ rfl (by kernel_rfl) (by decide) (fun K2 hK2 => ?_)
        go_simp
        refine (HC.out _ (Below.refl _ _).drew).mono ?_
        rintro e w5 ⟨⟨vb, rfl, hvb⟩, b5⟩
        try dsimp only
        obtain rfl : vb = true := hvb.2 HVK.out
        have B5 : Below W1.heap.size W1 w5 := (Below.refl _ W1).drew.trans b5
        have hS5 := HCE.out w5 B5
        refine hK2.out _ _ hS5 ?_
        clear hK2 K2 hS0 b5 hvb
        try simp only [Act.put, List.setIfInBounds_toArray, List.set_cons_zero, List.set_cons_succ]
        refine hd_taken 3 (some 25) _ ?hdvhit3 rfl rfl (by kernel_rfl) (fun _ _ _ h => h) (Or.inl ⟨by rfl, ?hdyhit3⟩) hS5 ?hdrhit3
        case hdyhit3 => (intro wx hx; (try dsimp only at hx); go_simp; try with_reducible rfl)
        try simp only [Act.put, List.setIfInBounds_toArray, List.set_cons_zero, List.set_cons_succ]
        refine hd_taken 4 (some 26) _ ?hdvhit4 rfl rfl (by kernel_rfl) (fun _ _ _ h => h) (Or.inl ⟨by rfl, ?hdyhit4⟩) hS5 ?hdrhit4
        case hdyhit4 => (intro wx hx; (try dsimp only at hx); go_simp; try with_reducible rfl)
        try simp only [Act.put, List.setIfInBounds_toArray, List.set_cons_zero, List.set_cons_succ]
        refine hd_taken 5 (some 27) _ ?hdvhit5 rfl rfl (by kernel_rfl) (fun _ _ _ h => h) (Or.inl ⟨by rfl, ?hdyhit5⟩) hS5 ?hdrhit5
        case hdyhit5 => (intro wx hx; (try dsimp only at hx); go_simp; try with_reducible rfl)
        try simp only [Act.put, List.setIfInBounds_toArray, List.set_cons_zero, List.set_cons_succ]
        refine hd_taken 6 (some 28) _ ?hdvhit6 rfl rfl (by kernel_rfl) (fun _ _ _ h => h) (Or.inl ⟨by rfl, ?hdyhit6⟩) hS5 ?hdrhit6
        case hdyhit6 => (intro wx hx; (try dsimp only at hx); go_simp; try with_reducible rfl)
        try simp only [Act.put, List.setIfInBounds_toArray, List.set_cons_zero, List.set_cons_succ]
        refine hd_taken 7 (some 29) _ ?hdvhit7 rfl rfl (by kernel_rfl) (fun _ _ _ h => h) (Or.inl ⟨by rfl, ?hdyhit7⟩) hS5 ?hdrhit7
        case hdyhit7 => (intro wx hx; (try dsimp only at hx); go_simp; try with_reducible rfl)
        try simp only [Act.put, List.setIfInBounds_toArray, List.set_cons_zero, List.set_cons_succ]
        refine hd_taken 8 (some 30) _ ?hdvhit8 rfl rfl (by kernel_rfl) (fun _ _ _ h => h) (Or.inl ⟨by rfl, ?hdyhit8⟩) hS5 ?hdrhit8
        case hdyhit8 => (intro wx hx; (try dsimp only at hx); go_simp; try with_reducible rfl)
        try simp only [Act.put, List.setIfInBounds_toArray, List.set_cons_zero, List.set_cons_succ]
        refine hd_taken 9 (some 31) _ ?hdvhit9 rfl rfl (by kernel_rfl) (fun _ _ _ h => h) (Or.inl ⟨by rfl, ?hdyhit9⟩) hS5 ?hdrhit9
        case hdyhit9 => (intro wx hx; (try dsimp only at hx); go_simp; try with_reducible rfl)
        try simp only [Act.put, List.setIfInBounds_toArray, List.set_cons_zero, List.set_cons_succ]
        refine hd_one 10 _ rfl (by kernel_rfl) (by decide) (fun K10 hK10 => ?_)
        go_simp
        refine (hasLo_any _ L x (q x) n0 eg0 _ (HT.out _ B5) HQ.out).mono ?_
        rw [HHB.out]
        rintro e w6 ⟨rfl, b6⟩
        try dsimp only
        have B6 : Below W1.heap.size W1 w6 := st B5 b6 B5.size
        have hS6 := HCE.out w6 B6
        refine hK10.out _ _ hS6 ?_
        clear hK10 K10 hS5 b6
        try simp only [Act.put, List.setIfInBounds_toArray, List.set_cons_zero, List.set_cons_succ]
        refine hd_done (by kernel_rfl) ?_
        simp only [List.drop_succ_cons, List.drop_zero]
        clear hS6
        go_wp2_with fail
        go_ret
        exact ⟨⟨_, rfl, ⟨fun h => (by cases h), fun h => absurd (HHB.out.symm.trans (HNO.out h).2) (by decide)⟩⟩, st HB1.out B6 HB1.out.size⟩
      | false =>
        have HNX := Lib.hid (HNX.out HVK.out HHB.out)
        refine region_hd 11 (fun wx : World => wx.cell? ⟨h, 0, none⟩ = some (.string (ofL x.tag)) ∧ wx.cell? ⟨h, 1, none⟩ = some (.string (ofL x.par)) ∧ wx.cell? ⟨h, 2, none⟩ = some (.string (ofL x.dir)) ∧ wx.cell? ⟨h, 3, none⟩ = some (.slice x.ca.a x.ca.n x.ca.c) ∧ wx.cell? ⟨h, 4, none⟩ = some (.slice x.oc.a x.oc.n x.oc.c) ∧ wx.cell? ⟨h, 5, none⟩ = some (.string (ofL x.sy.de)) ∧ wx.cell? ⟨h, 6, none⟩ = some (.string (ofL x.sy.gr)) ∧ wx.cell? ⟨h, 7, none⟩ = some (.string (ofL x.sy.mi)) ∧ wx.cell? ⟨h, 8, none⟩ = some (.string (ofL x.sy.pe)) ∧ wx.cell? ⟨h, 9, none⟩ = some (.int .i64 x.sy.pr) ∧ wx.cell? ⟨h, 10, none⟩ = some (.int .i64 x.sy.se) ∧ wx.cell? ⟨h, 11, none⟩ = some (.slice x.li.a x.li.n x.li.c) ∧ wx.cell? ⟨h, 12, none⟩ = some (.slice x.un.a x.un.n x.un.c) ∧ wx.cell? ⟨h, 13, none⟩ = some (.slice x.da.a x.da.n x.da.c) ∧ wx.cell? ⟨h, 14, none⟩ = some (.slice x.mo.a x.mo.n x.mo.c) ∧ wx.cell? ⟨h, 15, none⟩ = some (.slice x.dy.a x.dy.n x.dy.c)) (by kernel_rfl) (by kernel_rfl) ?_
        have hS0 := HCE.out W1.drew (Below.refl _ _).drew
        refine hd_taken 0 (some 22) _ ?hdvmiss0 rfl rfl (by kernel_rfl) (fun _ _ _ h => h) (Or.inl ⟨by rfl, ?hdymiss0⟩) hS0 ?hdrmiss0
        case hdymiss0 => (intro wx hx; (try dsimp only at hx); go_simp; try with_reducible rfl)
        try simp only [Act.put, List.setIfInBounds_toArray, List.set_cons_zero, List.set_cons_succ]
        refine hd_taken 1 (some 23) _ ?hdvmiss1 rfl rfl (by kernel_rfl) (fun _ _ _ h => h) (Or.inl ⟨by rfl, ?hdymiss1⟩) hS0 ?hdrmiss1
        case hdymiss1 => (intro wx hx; (try dsimp only at hx); go_simp; try with_reducible rfl)
        try simp only [Act.put, List.setIfInBounds_toArray, List.set_cons_zero, List.set_cons_succ]
        refine hd_one 2 _ rfl (by kernel_rfl) (by decide) (fun K2 hK2 => ?_)
        go_simp
        refine (HC.out _ (Below.refl _ _).drew).mono ?_
        rintro e w5 ⟨⟨vb, rfl, hvb⟩, b5⟩
        try dsimp only
        obtain rfl : vb = true := hvb.2 HVK.out
        have B5 : Below W1.heap.size W1 w5 := (Below.refl _ W1).drew.trans b5
        have hS5 := HCE.out w5 B5
        refine hK2.out _ _ hS5 ?_
        clear hK2 K2 hS0 b5 hvb
        try simp only [Act.put, List.setIfInBounds_toArray, List.set_cons_zero, List.set_cons_succ]
        refine hd_taken 3 (some 25) _ ?hdvmiss3 rfl rfl (by kernel_rfl) (fun _ _ _ h => h) (Or.inl ⟨by rfl, ?hdymiss3⟩) hS5 ?hdrmiss3
        case hdymiss3 => (intro wx hx; (try dsimp only at hx); go_simp; try with_reducible rfl)
        try simp only [Act.put, List.setIfInBounds_toArray, List.set_cons_zero, List.set_cons_succ]
        refine hd_taken 4 (some 26) _ ?hdvmiss4 rfl rfl (by kernel_rfl) (fun _ _ _ h => h) (Or.inl ⟨by rfl, ?hdymiss4⟩) hS5 ?hdrmiss4
        case hdymiss4 => (intro wx hx; (try dsimp only at hx); go_simp; try with_reducible rfl)
        try simp only [Act.put, List.setIfInBounds_toArray, List.set_cons_zero, List.set_cons_succ]
        refine hd_taken 5 (some 27) _ ?hdvmiss5 rfl rfl (by kernel_rfl) (fun _ _ _ h => h) (Or.inl ⟨by rfl, ?hdymiss5⟩) hS5 ?hdrmiss5
        case hdymiss5 => (intro wx hx; (try dsimp only at hx); go_simp; try with_reducible rfl)
        try simp only [Act.put, List.setIfInBounds_toArray, List.set_cons_zero, List.set_cons_succ]
        refine hd_taken 6 (some 28) _ ?hdvmiss6 rfl rfl (by kernel_rfl) (fun _ _ _ h => h) (Or.inl ⟨by rfl, ?hdymiss6⟩) hS5 ?hdrmiss6
        case hdymiss6 => (intro wx hx; (try dsimp only at hx); go_simp; try with_reducible rfl)
        try simp only [Act.put, List.setIfInBounds_toArray, List.set_cons_zero, List.set_cons_succ]
        refine hd_taken 7 (some 29) _ ?hdvmiss7 rfl rfl (by kernel_rfl) (fun _ _ _ h => h) (Or.inl ⟨by rfl, ?hdymiss7⟩) hS5 ?hdrmiss7
        case hdymiss7 => (intro wx hx; (try dsimp only at hx); go_simp; try with_reducible rfl)
        try simp only [Act.put, List.setIfInBounds_toArray, List.set_cons_zero, List.set_cons_succ]
        refine hd_taken 8 (some 30) _ ?hdvmiss8 rfl rfl (by kernel_rfl) (fun _ _ _ h => h) (Or.inl ⟨by rfl, ?hdymiss8⟩) hS5 ?hdrmiss8
        case hdymiss8 => (intro wx hx; (try dsimp only at hx); go_simp; try with_reducible rfl)
        try simp only [Act.put, List.setIfInBounds_toArray, List.set_cons_zero, List.set_cons_succ]
        refine hd_taken 9 (some 31) _ ?hdvmiss9 rfl rfl (by kernel_rfl) (fun _ _ _ h => h) (Or.inl ⟨by rfl, ?hdymiss9⟩) hS5 ?hdrmiss9
        case hdymiss9 => (intro wx hx; (try dsimp only at hx); go_simp; try with_reducible rfl)
        try simp only [Act.put, List.setIfInBounds_toArray, List.set_cons_zero, List.set_cons_succ]
        refine hd_one 10 _ rfl (by kernel_rfl) (by decide) (fun K10 hK10 => ?_)
        go_simp
        refine (hasLo_any _ L x (q x) n0 eg0 _ (HT.out _ B5) HQ.out).mono ?_
        rw [HHB.out]
        rintro e w6 ⟨rfl, b6⟩
        try dsimp only
        have B6 : Below W1.heap.size W1 w6 := st B5 b6 B5.size
        have hS6 := HCE.out w6 B6
        refine hK10.out _ _ hS6 ?_
        clear hK10 K10 hS5 b6
        try simp only [Act.put, List.setIfInBounds_toArray, List.set_cons_zero, List.set_cons_succ]
        refine hd_done (by kernel_rfl) ?_
        simp only [List.drop_succ_cons, List.drop_zero]
        clear hS6
        go_wp2_with fail
        go_roundw
        case measure => simp [intOf]; omega
        case rel => exact ⟨k + 1, by omega, by go_num, HNX.out, st HB1.out B6 HB1.out.size⟩
    · obtain rfl : k = LN := by omega
      have h3 : ¬ (k : Int) < (k : Int) := by omega
      have HA := Lib.hid (HE.out HM.out (by rw [← HLN.out] at HK ⊢; exact HK.out))
      go_wp2
      go_ret
      exact ⟨⟨_, rfl, ⟨fun _ => HA.out, fun _ => rfl⟩⟩, HB.out⟩
end Go.Proofs.YtpmmchppfmojhaaGreatDoor


