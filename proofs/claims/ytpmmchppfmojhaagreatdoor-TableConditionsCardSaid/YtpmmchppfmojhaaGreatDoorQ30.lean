/- What the row stands on, part 30. -/
import Derived.Test.YtpmmchppfmojhaaGreatDoorQ29

/- Of the program's table package: join. -/
namespace Go.Proofs.YtpmmchppfmojhaaGreatDoor
open Go.RowKit
set_option linter.unusedVariables false

theorem flat_bound (l : List Str) (B : Nat) (h : ∀ s ∈ l, s.length ≤ B) : l.flatten.length ≤ l.length * B := by
  induction l with
  | nil => simp
  | cons s l ih =>
    have h1 := h s (List.mem_cons_self ..)
    have h2 := ih (fun x hx => h x (List.mem_cons_of_mem _ hx))
    rw [List.flatten_cons, List.length_append, List.length_cons, Nat.succ_mul]
    omega
theorem strs_next {T : List Str} {k : Nat} (h : k < T.length) : (T.take (k + 1)).flatten = (T.take k).flatten ++ T[k] := by
  rw [List.take_succ_eq_append_getElem h, List.flatten_append]
  simp
set_option maxRecDepth 1000000 in
set_option maxHeartbeats 4000000 in
theorem joinRu_any (v : Value) (l : List (Str × RawS)) (n1 : Nat) (eg1 : ∀ args w, (callFunc n1 args).run Tryz.prog w = .ok (.enter n1 args) w) (T : List Str) (hT : T.length = l.length) (hl : l.length ≤ 1000) (hz : ∀ s ∈ T, s.length ≤ 100000000) (w : World) (hv : Rd 2 encRl w v l)
    (hF : ∀ (W1 : World), Below w.heap.size w W1 → ∀ (i : Nat) (h : i < l.length) (h' : i < T.length), Calls Tryz.prog n1 #[.agg #[.string (ofL (l[i]'h).1), .slice (l[i]'h).2.a (l[i]'h).2.n (l[i]'h).2.c]] W1 (Strs (T[i]'h') W1)) :
    Calls Tryz.prog 60 #[v, .func (.func n1) #[] #[]] w (Strs T.flatten w) := by
  obtain ⟨a, c, rfl, hc1, hc2⟩ := hv.slice
  have HU := Lib.hid hv
  have HF := Lib.hid hF
  have HZ := Lib.hid hz
  have HTL := Lib.hid hT
  have HFE : Hid ((T.take l.length).flatten = T.flatten) := Lib.hid (by rw [← hT, List.take_length])
  have HLB : Hid (∀ k, k ≤ l.length → (T.take k).flatten.length ≤ 100000000000) := Lib.hid (fun k hk => by
    have h1 := flat_bound (T.take k) 100000000 (fun s hs => hz s (List.mem_of_mem_take hs))
    have h2 := Nat.mul_le_mul_right 100000000 (show (T.take k).length ≤ 1000 by rw [List.length_take]; omega)
    omega)
  have HK0 : Hid (Bld w.heap.size (T.take 0).flatten (w.alloc (.cells #[.pointer none, .slice none 0 0] 104))) := Lib.hid (Bld.fresh w)
  have HB0 : Hid (Below w.heap.size w (w.alloc (.cells #[.pointer none, .slice none 0 0] 104))) := Lib.hid ((Below.refl _ _).alloc (Nat.le_refl _) _)
  obtain ⟨W0, hW0⟩ : ∃ W0, w.alloc (.cells #[.pointer none, .slice none 0 0] 104) = W0 := ⟨_, rfl⟩
  rw [hW0] at HK0 HB0
  have HW0 := Lib.hid hW0
  obtain ⟨g, hg⟩ : ∃ g, w.heap.size = g := ⟨_, rfl⟩
  have HG := Lib.hid hg
  rw [hg] at HK0
  obtain ⟨LN, hLN⟩ : ∃ LN, l.length = LN := ⟨_, rfl⟩
  have HLN := Lib.hid hLN
  rw [hLN] at HU hc1 HFE HLB HTL ⊢
  clear hv hF hz hT hLN hg hW0
  go_enter Tryz.func60, Tryz.ntmps60
  go_upto_region 2 with fail
  rw [HW0.out, HG.out]
  clear HW0
  go_wp2_with fail
  go_loopw [10] (fun v wr => ∃ k : Nat, k ≤ LN ∧ v = .int .i64 k ∧ Bld g (T.take k).flatten wr ∧ Below w.heap.size w wr) (fun v _ => LN - (intOf v).toNat)
  case atStart => exact ⟨0, Nat.zero_le _, rfl, HK0.out, HB0.out⟩
  case round =>
    obtain ⟨k, hk, rfl, hkd, hb⟩ := hrel
    have HK := Lib.hid hkd
    have HB := Lib.hid hb
    have zr := hb.size
    clear hkd hb HK0 HB0
    by_cases hlt' : k < LN
    · have hlt : k < l.length := by rw [HLN.out]; exact hlt'
      have hlt2 : k < T.length := by rw [HTL.out]; exact hlt'
      obtain ⟨bk, off, rfl, h00, hx⟩ := (HU.out.below HB.out).some_ k hlt
      have c0 : wr.cell? ⟨bk, off + k * 2, none⟩ = some (.string (ofL (l[k]'hlt).1)) := hx 0 _ rfl
      have c1 : wr.cell? ⟨bk, off + k * 2 + 1, none⟩ = some (.slice (l[k]'hlt).2.a (l[k]'hlt).2.n (l[k]'hlt).2.c) := hx 1 _ rfl
      have h9 : (k : Int) < (LN : Int) := by omega
      have HC := Lib.hid (fun wx (hb : Below w.heap.size w wx) => HF.out wx hb k hlt hlt2)
      have HS := Lib.hid (HZ.out _ (List.getElem_mem hlt2))
      have HNX := Lib.hid (strs_next hlt2)
      have HL1 := Lib.hid (HLB.out k (by omega))
      obtain ⟨s, hs⟩ : ∃ s, T[k]'hlt2 = s := ⟨_, rfl⟩
      rw [hs] at HC HS HNX
      obtain ⟨x, hx0⟩ : ∃ x, l[k]'hlt = x := ⟨_, rfl⟩
      rw [hx0] at HC c0 c1
      obtain ⟨A, hA⟩ : ∃ A, (T.take k).flatten = A := ⟨_, rfl⟩
      rw [hA] at HK HNX HL1
      clear hx hx0 hs hA
      have HA1 : Hid (Below wr.heap.size wr (wr.alloc (.cells #[.string (ofL x.1), .slice x.2.a x.2.n x.2.c] 56))) := Lib.hid ((Below.refl _ _).alloc (Nat.le_refl _) _)
      have HA2 : Hid (Blk wr.heap.size 56 #[.string (ofL x.1), .slice x.2.a x.2.n x.2.c] (wr.alloc (.cells #[.string (ofL x.1), .slice x.2.a x.2.n x.2.c] 56))) := Lib.hid (Blk.new _ _ _)
      obtain ⟨W1, hW1⟩ : ∃ W1, wr.alloc (.cells #[.string (ofL x.1), .slice x.2.a x.2.n x.2.c] 56) = W1 := ⟨_, rfl⟩
      rw [hW1] at HA1 HA2
      have HW1 := Lib.hid hW1
      obtain ⟨h, hh⟩ : ∃ h, wr.heap.size = h := ⟨_, rfl⟩
      have HH := Lib.hid hh
      rw [hh] at HA2
      clear hW1 hh
      go_upto_region 5 with fail
      rw [HW1.out, HH.out]
      have y0 : W1.cell? ⟨h, 0, none⟩ = some (.string (ofL x.1)) := HA2.out.cell 0
      have y1 : W1.cell? ⟨h, 1, none⟩ = some (.slice x.2.a x.2.n x.2.c) := HA2.out.cell 1
      have HB1 : Hid (Below w.heap.size w W1) := Lib.hid (st HB.out HA1.out zr)
      have HK1 := Lib.hid (HK.out.below HA1.out)
      clear HW1 HH HF HU HA1 HA2 HK c0 c1
      go_wp2_with (go_at_fn n1; refine (HC.out _ HB1.out).mono ?_; rintro e w5 ⟨rfl, b5⟩)
      have HB5 := Lib.hid (st HB1.out b5 HB1.out.size)
      have HK5 := Lib.hid (HK1.out.below b5)
      clear b5 y0 y1
      go_wp2_with fail
      refine (writeString_any g A (ofL s) _ HK5.out (by have := HL1.out; omega) (by rw [ofL_size]; have := HS.out; omega)).mono ?_
      rintro e w6 ⟨rfl, k6, b6⟩
      have HB6 := Lib.hid (HB5.out.trans (by rw [HG.out]; exact b6))
      have HK6 : Hid (Bld g (A ++ s) w6) := Lib.hid k6
      clear b6 k6
      go_wp2_with fail
      go_roundw
      case measure => simp [intOf]; omega
      case rel => exact ⟨k + 1, by omega, by go_num, by rw [HNX.out]; exact HK6.out, HB6.out⟩
    · obtain rfl : k = LN := by omega
      have h3 : ¬ (k : Int) < (k : Int) := by omega
      rw [HFE.out] at HK
      go_wp2_with fail
      refine (string_any g _ _ HK.out).mono ?_
      rintro e w7 ⟨rfl, _, b7⟩
      have HB7 := Lib.hid (HB.out.trans (by rw [HG.out]; exact b7))
      clear b7
      go_wp2_with fail
      go_ret
      exact ⟨rfl, HB7.out⟩
set_option maxRecDepth 1000000 in
set_option maxHeartbeats 4000000 in
theorem joinAl_any (v : Value) (l : List (Str × Str)) (n1 : Nat) (eg1 : ∀ args w, (callFunc n1 args).run Tryz.prog w = .ok (.enter n1 args) w) (T : List Str) (hT : T.length = l.length) (hl : l.length ≤ 1000) (hz : ∀ s ∈ T, s.length ≤ 100000000) (w : World) (hv : Rd 2 encDu w v l)
    (hF : ∀ (W1 : World), Below w.heap.size w W1 → ∀ (i : Nat) (h : i < l.length) (h' : i < T.length), Calls Tryz.prog n1 #[.agg #[.string (ofL (l[i]'h).1), .string (ofL (l[i]'h).2)]] W1 (Strs (T[i]'h') W1)) :
    Calls Tryz.prog 28 #[v, .func (.func n1) #[] #[]] w (Strs T.flatten w) := by
  obtain ⟨a, c, rfl, hc1, hc2⟩ := hv.slice
  have HU := Lib.hid hv
  have HF := Lib.hid hF
  have HZ := Lib.hid hz
  have HTL := Lib.hid hT
  have HFE : Hid ((T.take l.length).flatten = T.flatten) := Lib.hid (by rw [← hT, List.take_length])
  have HLB : Hid (∀ k, k ≤ l.length → (T.take k).flatten.length ≤ 100000000000) := Lib.hid (fun k hk => by
    have h1 := flat_bound (T.take k) 100000000 (fun s hs => hz s (List.mem_of_mem_take hs))
    have h2 := Nat.mul_le_mul_right 100000000 (show (T.take k).length ≤ 1000 by rw [List.length_take]; omega)
    omega)
  have HK0 : Hid (Bld w.heap.size (T.take 0).flatten (w.alloc (.cells #[.pointer none, .slice none 0 0] 104))) := Lib.hid (Bld.fresh w)
  have HB0 : Hid (Below w.heap.size w (w.alloc (.cells #[.pointer none, .slice none 0 0] 104))) := Lib.hid ((Below.refl _ _).alloc (Nat.le_refl _) _)
  obtain ⟨W0, hW0⟩ : ∃ W0, w.alloc (.cells #[.pointer none, .slice none 0 0] 104) = W0 := ⟨_, rfl⟩
  rw [hW0] at HK0 HB0
  have HW0 := Lib.hid hW0
  obtain ⟨g, hg⟩ : ∃ g, w.heap.size = g := ⟨_, rfl⟩
  have HG := Lib.hid hg
  rw [hg] at HK0
  obtain ⟨LN, hLN⟩ : ∃ LN, l.length = LN := ⟨_, rfl⟩
  have HLN := Lib.hid hLN
  rw [hLN] at HU hc1 HFE HLB HTL ⊢
  clear hv hF hz hT hLN hg hW0
  go_enter Tryz.func28, Tryz.ntmps28
  go_upto_region 2 with fail
  rw [HW0.out, HG.out]
  clear HW0
  go_wp2_with fail
  go_loopw [10] (fun v wr => ∃ k : Nat, k ≤ LN ∧ v = .int .i64 k ∧ Bld g (T.take k).flatten wr ∧ Below w.heap.size w wr) (fun v _ => LN - (intOf v).toNat)
  case atStart => exact ⟨0, Nat.zero_le _, rfl, HK0.out, HB0.out⟩
  case round =>
    obtain ⟨k, hk, rfl, hkd, hb⟩ := hrel
    have HK := Lib.hid hkd
    have HB := Lib.hid hb
    have zr := hb.size
    clear hkd hb HK0 HB0
    by_cases hlt' : k < LN
    · have hlt : k < l.length := by rw [HLN.out]; exact hlt'
      have hlt2 : k < T.length := by rw [HTL.out]; exact hlt'
      obtain ⟨bk, off, rfl, h00, hx⟩ := (HU.out.below HB.out).some_ k hlt
      have c0 : wr.cell? ⟨bk, off + k * 2, none⟩ = some (.string (ofL (l[k]'hlt).1)) := hx 0 _ rfl
      have c1 : wr.cell? ⟨bk, off + k * 2 + 1, none⟩ = some (.string (ofL (l[k]'hlt).2)) := hx 1 _ rfl
      have h9 : (k : Int) < (LN : Int) := by omega
      have HC := Lib.hid (fun wx (hb : Below w.heap.size w wx) => HF.out wx hb k hlt hlt2)
      have HS := Lib.hid (HZ.out _ (List.getElem_mem hlt2))
      have HNX := Lib.hid (strs_next hlt2)
      have HL1 := Lib.hid (HLB.out k (by omega))
      obtain ⟨s, hs⟩ : ∃ s, T[k]'hlt2 = s := ⟨_, rfl⟩
      rw [hs] at HC HS HNX
      obtain ⟨x, hx0⟩ : ∃ x, l[k]'hlt = x := ⟨_, rfl⟩
      rw [hx0] at HC c0 c1
      obtain ⟨A, hA⟩ : ∃ A, (T.take k).flatten = A := ⟨_, rfl⟩
      rw [hA] at HK HNX HL1
      clear hx hx0 hs hA
      have HA1 : Hid (Below wr.heap.size wr (wr.alloc (.cells #[.string (ofL x.1), .string (ofL x.2)] 61))) := Lib.hid ((Below.refl _ _).alloc (Nat.le_refl _) _)
      have HA2 : Hid (Blk wr.heap.size 61 #[.string (ofL x.1), .string (ofL x.2)] (wr.alloc (.cells #[.string (ofL x.1), .string (ofL x.2)] 61))) := Lib.hid (Blk.new _ _ _)
      obtain ⟨W1, hW1⟩ : ∃ W1, wr.alloc (.cells #[.string (ofL x.1), .string (ofL x.2)] 61) = W1 := ⟨_, rfl⟩
      rw [hW1] at HA1 HA2
      have HW1 := Lib.hid hW1
      obtain ⟨h, hh⟩ : ∃ h, wr.heap.size = h := ⟨_, rfl⟩
      have HH := Lib.hid hh
      rw [hh] at HA2
      clear hW1 hh
      go_upto_region 5 with fail
      rw [HW1.out, HH.out]
      have y0 : W1.cell? ⟨h, 0, none⟩ = some (.string (ofL x.1)) := HA2.out.cell 0
      have y1 : W1.cell? ⟨h, 1, none⟩ = some (.string (ofL x.2)) := HA2.out.cell 1
      have HB1 : Hid (Below w.heap.size w W1) := Lib.hid (st HB.out HA1.out zr)
      have HK1 := Lib.hid (HK.out.below HA1.out)
      clear HW1 HH HF HU HA1 HA2 HK c0 c1
      go_wp2_with (go_at_fn n1; refine (HC.out _ HB1.out).mono ?_; rintro e w5 ⟨rfl, b5⟩)
      have HB5 := Lib.hid (st HB1.out b5 HB1.out.size)
      have HK5 := Lib.hid (HK1.out.below b5)
      clear b5 y0 y1
      go_wp2_with fail
      refine (writeString_any g A (ofL s) _ HK5.out (by have := HL1.out; omega) (by rw [ofL_size]; have := HS.out; omega)).mono ?_
      rintro e w6 ⟨rfl, k6, b6⟩
      have HB6 := Lib.hid (HB5.out.trans (by rw [HG.out]; exact b6))
      have HK6 : Hid (Bld g (A ++ s) w6) := Lib.hid k6
      clear b6 k6
      go_wp2_with fail
      go_roundw
      case measure => simp [intOf]; omega
      case rel => exact ⟨k + 1, by omega, by go_num, by rw [HNX.out]; exact HK6.out, HB6.out⟩
    · obtain rfl : k = LN := by omega
      have h3 : ¬ (k : Int) < (k : Int) := by omega
      rw [HFE.out] at HK
      go_wp2_with fail
      refine (string_any g _ _ HK.out).mono ?_
      rintro e w7 ⟨rfl, _, b7⟩
      have HB7 := Lib.hid (HB.out.trans (by rw [HG.out]; exact b7))
      clear b7
      go_wp2_with fail
      go_ret
      exact ⟨rfl, HB7.out⟩
set_option maxRecDepth 1000000 in
set_option maxHeartbeats 4000000 in
theorem joinDa_any (v : Value) (l : List (Str × Str)) (n1 : Nat) (eg1 : ∀ args w, (callFunc n1 args).run Tryz.prog w = .ok (.enter n1 args) w) (T : List Str) (hT : T.length = l.length) (hl : l.length ≤ 1000) (hz : ∀ s ∈ T, s.length ≤ 100000000) (w : World) (hv : Rd 2 encDu w v l)
    (hF : ∀ (W1 : World), Below w.heap.size w W1 → ∀ (i : Nat) (h : i < l.length) (h' : i < T.length), Calls Tryz.prog n1 #[.agg #[.string (ofL (l[i]'h).1), .string (ofL (l[i]'h).2)]] W1 (Strs (T[i]'h') W1)) :
    Calls Tryz.prog 69 #[v, .func (.func n1) #[] #[]] w (Strs T.flatten w) := by
  obtain ⟨a, c, rfl, hc1, hc2⟩ := hv.slice
  have HU := Lib.hid hv
  have HF := Lib.hid hF
  have HZ := Lib.hid hz
  have HTL := Lib.hid hT
  have HFE : Hid ((T.take l.length).flatten = T.flatten) := Lib.hid (by rw [← hT, List.take_length])
  have HLB : Hid (∀ k, k ≤ l.length → (T.take k).flatten.length ≤ 100000000000) := Lib.hid (fun k hk => by
    have h1 := flat_bound (T.take k) 100000000 (fun s hs => hz s (List.mem_of_mem_take hs))
    have h2 := Nat.mul_le_mul_right 100000000 (show (T.take k).length ≤ 1000 by rw [List.length_take]; omega)
    omega)
  have HK0 : Hid (Bld w.heap.size (T.take 0).flatten (w.alloc (.cells #[.pointer none, .slice none 0 0] 104))) := Lib.hid (Bld.fresh w)
  have HB0 : Hid (Below w.heap.size w (w.alloc (.cells #[.pointer none, .slice none 0 0] 104))) := Lib.hid ((Below.refl _ _).alloc (Nat.le_refl _) _)
  obtain ⟨W0, hW0⟩ : ∃ W0, w.alloc (.cells #[.pointer none, .slice none 0 0] 104) = W0 := ⟨_, rfl⟩
  rw [hW0] at HK0 HB0
  have HW0 := Lib.hid hW0
  obtain ⟨g, hg⟩ : ∃ g, w.heap.size = g := ⟨_, rfl⟩
  have HG := Lib.hid hg
  rw [hg] at HK0
  obtain ⟨LN, hLN⟩ : ∃ LN, l.length = LN := ⟨_, rfl⟩
  have HLN := Lib.hid hLN
  rw [hLN] at HU hc1 HFE HLB HTL ⊢
  clear hv hF hz hT hLN hg hW0
  go_enter Tryz.func69, Tryz.ntmps69
  go_upto_region 2 with fail
  rw [HW0.out, HG.out]
  clear HW0
  go_wp2_with fail
  go_loopw [10] (fun v wr => ∃ k : Nat, k ≤ LN ∧ v = .int .i64 k ∧ Bld g (T.take k).flatten wr ∧ Below w.heap.size w wr) (fun v _ => LN - (intOf v).toNat)
  case atStart => exact ⟨0, Nat.zero_le _, rfl, HK0.out, HB0.out⟩
  case round =>
    obtain ⟨k, hk, rfl, hkd, hb⟩ := hrel
    have HK := Lib.hid hkd
    have HB := Lib.hid hb
    have zr := hb.size
    clear hkd hb HK0 HB0
    by_cases hlt' : k < LN
    · have hlt : k < l.length := by rw [HLN.out]; exact hlt'
      have hlt2 : k < T.length := by rw [HTL.out]; exact hlt'
      obtain ⟨bk, off, rfl, h00, hx⟩ := (HU.out.below HB.out).some_ k hlt
      have c0 : wr.cell? ⟨bk, off + k * 2, none⟩ = some (.string (ofL (l[k]'hlt).1)) := hx 0 _ rfl
      have c1 : wr.cell? ⟨bk, off + k * 2 + 1, none⟩ = some (.string (ofL (l[k]'hlt).2)) := hx 1 _ rfl
      have h9 : (k : Int) < (LN : Int) := by omega
      have HC := Lib.hid (fun wx (hb : Below w.heap.size w wx) => HF.out wx hb k hlt hlt2)
      have HS := Lib.hid (HZ.out _ (List.getElem_mem hlt2))
      have HNX := Lib.hid (strs_next hlt2)
      have HL1 := Lib.hid (HLB.out k (by omega))
      obtain ⟨s, hs⟩ : ∃ s, T[k]'hlt2 = s := ⟨_, rfl⟩
      rw [hs] at HC HS HNX
      obtain ⟨x, hx0⟩ : ∃ x, l[k]'hlt = x := ⟨_, rfl⟩
      rw [hx0] at HC c0 c1
      obtain ⟨A, hA⟩ : ∃ A, (T.take k).flatten = A := ⟨_, rfl⟩
      rw [hA] at HK HNX HL1
      clear hx hx0 hs hA
      have HA1 : Hid (Below wr.heap.size wr (wr.alloc (.cells #[.string (ofL x.1), .string (ofL x.2)] 124))) := Lib.hid ((Below.refl _ _).alloc (Nat.le_refl _) _)
      have HA2 : Hid (Blk wr.heap.size 124 #[.string (ofL x.1), .string (ofL x.2)] (wr.alloc (.cells #[.string (ofL x.1), .string (ofL x.2)] 124))) := Lib.hid (Blk.new _ _ _)
      obtain ⟨W1, hW1⟩ : ∃ W1, wr.alloc (.cells #[.string (ofL x.1), .string (ofL x.2)] 124) = W1 := ⟨_, rfl⟩
      rw [hW1] at HA1 HA2
      have HW1 := Lib.hid hW1
      obtain ⟨h, hh⟩ : ∃ h, wr.heap.size = h := ⟨_, rfl⟩
      have HH := Lib.hid hh
      rw [hh] at HA2
      clear hW1 hh
      go_upto_region 5 with fail
      rw [HW1.out, HH.out]
      have y0 : W1.cell? ⟨h, 0, none⟩ = some (.string (ofL x.1)) := HA2.out.cell 0
      have y1 : W1.cell? ⟨h, 1, none⟩ = some (.string (ofL x.2)) := HA2.out.cell 1
      have HB1 : Hid (Below w.heap.size w W1) := Lib.hid (st HB.out HA1.out zr)
      have HK1 := Lib.hid (HK.out.below HA1.out)
      clear HW1 HH HF HU HA1 HA2 HK c0 c1
      go_wp2_with (go_at_fn n1; refine (HC.out _ HB1.out).mono ?_; rintro e w5 ⟨rfl, b5⟩)
      have HB5 := Lib.hid (st HB1.out b5 HB1.out.size)
      have HK5 := Lib.hid (HK1.out.below b5)
      clear b5 y0 y1
      go_wp2_with fail
      refine (writeString_any g A (ofL s) _ HK5.out (by have := HL1.out; omega) (by rw [ofL_size]; have := HS.out; omega)).mono ?_
      rintro e w6 ⟨rfl, k6, b6⟩
      have HB6 := Lib.hid (HB5.out.trans (by rw [HG.out]; exact b6))
      have HK6 : Hid (Bld g (A ++ s) w6) := Lib.hid k6
      clear b6 k6
      go_wp2_with fail
      go_roundw
      case measure => simp [intOf]; omega
      case rel => exact ⟨k + 1, by omega, by go_num, by rw [HNX.out]; exact HK6.out, HB6.out⟩
    · obtain rfl : k = LN := by omega
      have h3 : ¬ (k : Int) < (k : Int) := by omega
      rw [HFE.out] at HK
      go_wp2_with fail
      refine (string_any g _ _ HK.out).mono ?_
      rintro e w7 ⟨rfl, _, b7⟩
      have HB7 := Lib.hid (HB.out.trans (by rw [HG.out]; exact b7))
      clear b7
      go_wp2_with fail
      go_ret
      exact ⟨rfl, HB7.out⟩
set_option maxRecDepth 1000000 in
set_option maxHeartbeats 4000000 in
theorem joinNe_any (v : Value) (l : List (Nea)) (n1 : Nat) (eg1 : ∀ args w, (callFunc n1 args).run Tryz.prog w = .ok (.enter n1 args) w) (T : List Str) (hT : T.length = l.length) (hl : l.length ≤ 1000) (hz : ∀ s ∈ T, s.length ≤ 100000000) (w : World) (hv : Rd 3 encNe w v l)
    (hF : ∀ (W1 : World), Below w.heap.size w W1 → ∀ (i : Nat) (h : i < l.length) (h' : i < T.length), Calls Tryz.prog n1 #[.agg #[.string (ofL (l[i]'h).fr), .string (ofL (l[i]'h).to_), .int .i64 (l[i]'h).co]] W1 (Strs (T[i]'h') W1)) :
    Calls Tryz.prog 30 #[v, .func (.func n1) #[] #[]] w (Strs T.flatten w) := by
  obtain ⟨a, c, rfl, hc1, hc2⟩ := hv.slice
  have HU := Lib.hid hv
  have HF := Lib.hid hF
  have HZ := Lib.hid hz
  have HTL := Lib.hid hT
  have HFE : Hid ((T.take l.length).flatten = T.flatten) := Lib.hid (by rw [← hT, List.take_length])
  have HLB : Hid (∀ k, k ≤ l.length → (T.take k).flatten.length ≤ 100000000000) := Lib.hid (fun k hk => by
    have h1 := flat_bound (T.take k) 100000000 (fun s hs => hz s (List.mem_of_mem_take hs))
    have h2 := Nat.mul_le_mul_right 100000000 (show (T.take k).length ≤ 1000 by rw [List.length_take]; omega)
    omega)
  have HK0 : Hid (Bld w.heap.size (T.take 0).flatten (w.alloc (.cells #[.pointer none, .slice none 0 0] 104))) := Lib.hid (Bld.fresh w)
  have HB0 : Hid (Below w.heap.size w (w.alloc (.cells #[.pointer none, .slice none 0 0] 104))) := Lib.hid ((Below.refl _ _).alloc (Nat.le_refl _) _)
  obtain ⟨W0, hW0⟩ : ∃ W0, w.alloc (.cells #[.pointer none, .slice none 0 0] 104) = W0 := ⟨_, rfl⟩
  rw [hW0] at HK0 HB0
  have HW0 := Lib.hid hW0
  obtain ⟨g, hg⟩ : ∃ g, w.heap.size = g := ⟨_, rfl⟩
  have HG := Lib.hid hg
  rw [hg] at HK0
  obtain ⟨LN, hLN⟩ : ∃ LN, l.length = LN := ⟨_, rfl⟩
  have HLN := Lib.hid hLN
  rw [hLN] at HU hc1 HFE HLB HTL ⊢
  clear hv hF hz hT hLN hg hW0
  go_enter Tryz.func30, Tryz.ntmps30
  go_upto_region 2 with fail
  rw [HW0.out, HG.out]
  clear HW0
  go_wp2_with fail
  go_loopw [10] (fun v wr => ∃ k : Nat, k ≤ LN ∧ v = .int .i64 k ∧ Bld g (T.take k).flatten wr ∧ Below w.heap.size w wr) (fun v _ => LN - (intOf v).toNat)
  case atStart => exact ⟨0, Nat.zero_le _, rfl, HK0.out, HB0.out⟩
  case round =>
    obtain ⟨k, hk, rfl, hkd, hb⟩ := hrel
    have HK := Lib.hid hkd
    have HB := Lib.hid hb
    have zr := hb.size
    clear hkd hb HK0 HB0
    by_cases hlt' : k < LN
    · have hlt : k < l.length := by rw [HLN.out]; exact hlt'
      have hlt2 : k < T.length := by rw [HTL.out]; exact hlt'
      obtain ⟨bk, off, rfl, h00, hx⟩ := (HU.out.below HB.out).some_ k hlt
      have c0 : wr.cell? ⟨bk, off + k * 3, none⟩ = some (.string (ofL (l[k]'hlt).fr)) := hx 0 _ rfl
      have c1 : wr.cell? ⟨bk, off + k * 3 + 1, none⟩ = some (.string (ofL (l[k]'hlt).to_)) := hx 1 _ rfl
      have c2 : wr.cell? ⟨bk, off + k * 3 + 2, none⟩ = some (.int .i64 (l[k]'hlt).co) := hx 2 _ rfl
      have h9 : (k : Int) < (LN : Int) := by omega
      have HC := Lib.hid (fun wx (hb : Below w.heap.size w wx) => HF.out wx hb k hlt hlt2)
      have HS := Lib.hid (HZ.out _ (List.getElem_mem hlt2))
      have HNX := Lib.hid (strs_next hlt2)
      have HL1 := Lib.hid (HLB.out k (by omega))
      obtain ⟨s, hs⟩ : ∃ s, T[k]'hlt2 = s := ⟨_, rfl⟩
      rw [hs] at HC HS HNX
      obtain ⟨x, hx0⟩ : ∃ x, l[k]'hlt = x := ⟨_, rfl⟩
      rw [hx0] at HC c0 c1 c2
      obtain ⟨A, hA⟩ : ∃ A, (T.take k).flatten = A := ⟨_, rfl⟩
      rw [hA] at HK HNX HL1
      clear hx hx0 hs hA
      have HA1 : Hid (Below wr.heap.size wr (wr.alloc (.cells #[.string (ofL x.fr), .string (ofL x.to_), .int .i64 x.co] 36))) := Lib.hid ((Below.refl _ _).alloc (Nat.le_refl _) _)
      have HA2 : Hid (Blk wr.heap.size 36 #[.string (ofL x.fr), .string (ofL x.to_), .int .i64 x.co] (wr.alloc (.cells #[.string (ofL x.fr), .string (ofL x.to_), .int .i64 x.co] 36))) := Lib.hid (Blk.new _ _ _)
      obtain ⟨W1, hW1⟩ : ∃ W1, wr.alloc (.cells #[.string (ofL x.fr), .string (ofL x.to_), .int .i64 x.co] 36) = W1 := ⟨_, rfl⟩
      rw [hW1] at HA1 HA2
      have HW1 := Lib.hid hW1
      obtain ⟨h, hh⟩ : ∃ h, wr.heap.size = h := ⟨_, rfl⟩
      have HH := Lib.hid hh
      rw [hh] at HA2
      clear hW1 hh
      go_upto_region 5 with fail
      rw [HW1.out, HH.out]
      have y0 : W1.cell? ⟨h, 0, none⟩ = some (.string (ofL x.fr)) := HA2.out.cell 0
      have y1 : W1.cell? ⟨h, 1, none⟩ = some (.string (ofL x.to_)) := HA2.out.cell 1
      have y2 : W1.cell? ⟨h, 2, none⟩ = some (.int .i64 x.co) := HA2.out.cell 2
      have HB1 : Hid (Below w.heap.size w W1) := Lib.hid (st HB.out HA1.out zr)
      have HK1 := Lib.hid (HK.out.below HA1.out)
      clear HW1 HH HF HU HA1 HA2 HK c0 c1 c2
      go_wp2_with (go_at_fn n1; refine (HC.out _ HB1.out).mono ?_; rintro e w5 ⟨rfl, b5⟩)
      have HB5 := Lib.hid (st HB1.out b5 HB1.out.size)
      have HK5 := Lib.hid (HK1.out.below b5)
      clear b5 y0 y1 y2
      go_wp2_with fail
      refine (writeString_any g A (ofL s) _ HK5.out (by have := HL1.out; omega) (by rw [ofL_size]; have := HS.out; omega)).mono ?_
      rintro e w6 ⟨rfl, k6, b6⟩
      have HB6 := Lib.hid (HB5.out.trans (by rw [HG.out]; exact b6))
      have HK6 : Hid (Bld g (A ++ s) w6) := Lib.hid k6
      clear b6 k6
      go_wp2_with fail
      go_roundw
      case measure => simp [intOf]; omega
      case rel => exact ⟨k + 1, by omega, by go_num, by rw [HNX.out]; exact HK6.out, HB6.out⟩
    · obtain rfl : k = LN := by omega
      have h3 : ¬ (k : Int) < (k : Int) := by omega
      rw [HFE.out] at HK
      go_wp2_with fail
      refine (string_any g _ _ HK.out).mono ?_
      rintro e w7 ⟨rfl, _, b7⟩
      have HB7 := Lib.hid (HB.out.trans (by rw [HG.out]; exact b7))
      clear b7
      go_wp2_with fail
      go_ret
      exact ⟨rfl, HB7.out⟩
end Go.Proofs.YtpmmchppfmojhaaGreatDoor


/- Of the program's table package: join. -/
namespace Go.Proofs.YtpmmchppfmojhaaGreatDoor
open Go.RowKit
set_option linter.unusedVariables false

set_option maxRecDepth 1000000 in
set_option maxHeartbeats 4000000 in
theorem joinLi_any (v : Value) (l : List (Lis)) (n1 : Nat) (eg1 : ∀ args w, (callFunc n1 args).run Tryz.prog w = .ok (.enter n1 args) w) (T : List Str) (hT : T.length = l.length) (hl : l.length ≤ 1000) (hz : ∀ s ∈ T, s.length ≤ 100000000) (w : World) (hv : Rd 5 encLi w v l)
    (hF : ∀ (W1 : World), Below w.heap.size w W1 → ∀ (i : Nat) (h : i < l.length) (h' : i < T.length), Calls Tryz.prog n1 #[.agg #[.string (ofL (l[i]'h).st), .string (ofL (l[i]'h).two), .string (ofL (l[i]'h).sa), .string (ofL (l[i]'h).md), .string (ofL (l[i]'h).en)]] W1 (Strs (T[i]'h') W1)) :
    Calls Tryz.prog 65 #[v, .func (.func n1) #[] #[]] w (Strs T.flatten w) := by
  obtain ⟨a, c, rfl, hc1, hc2⟩ := hv.slice
  have HU := Lib.hid hv
  have HF := Lib.hid hF
  have HZ := Lib.hid hz
  have HTL := Lib.hid hT
  have HFE : Hid ((T.take l.length).flatten = T.flatten) := Lib.hid (by rw [← hT, List.take_length])
  have HLB : Hid (∀ k, k ≤ l.length → (T.take k).flatten.length ≤ 100000000000) := Lib.hid (fun k hk => by
    have h1 := flat_bound (T.take k) 100000000 (fun s hs => hz s (List.mem_of_mem_take hs))
    have h2 := Nat.mul_le_mul_right 100000000 (show (T.take k).length ≤ 1000 by rw [List.length_take]; omega)
    omega)
  have HK0 : Hid (Bld w.heap.size (T.take 0).flatten (w.alloc (.cells #[.pointer none, .slice none 0 0] 104))) := Lib.hid (Bld.fresh w)
  have HB0 : Hid (Below w.heap.size w (w.alloc (.cells #[.pointer none, .slice none 0 0] 104))) := Lib.hid ((Below.refl _ _).alloc (Nat.le_refl _) _)
  obtain ⟨W0, hW0⟩ : ∃ W0, w.alloc (.cells #[.pointer none, .slice none 0 0] 104) = W0 := ⟨_, rfl⟩
  rw [hW0] at HK0 HB0
  have HW0 := Lib.hid hW0
  obtain ⟨g, hg⟩ : ∃ g, w.heap.size = g := ⟨_, rfl⟩
  have HG := Lib.hid hg
  rw [hg] at HK0
  obtain ⟨LN, hLN⟩ : ∃ LN, l.length = LN := ⟨_, rfl⟩
  have HLN := Lib.hid hLN
  rw [hLN] at HU hc1 HFE HLB HTL ⊢
  clear hv hF hz hT hLN hg hW0
  go_enter Tryz.func65, Tryz.ntmps65
  go_upto_region 2 with fail
  rw [HW0.out, HG.out]
  clear HW0
  go_wp2_with fail
  go_loopw [10] (fun v wr => ∃ k : Nat, k ≤ LN ∧ v = .int .i64 k ∧ Bld g (T.take k).flatten wr ∧ Below w.heap.size w wr) (fun v _ => LN - (intOf v).toNat)
  case atStart => exact ⟨0, Nat.zero_le _, rfl, HK0.out, HB0.out⟩
  case round =>
    obtain ⟨k, hk, rfl, hkd, hb⟩ := hrel
    have HK := Lib.hid hkd
    have HB := Lib.hid hb
    have zr := hb.size
    clear hkd hb HK0 HB0
    by_cases hlt' : k < LN
    · have hlt : k < l.length := by rw [HLN.out]; exact hlt'
      have hlt2 : k < T.length := by rw [HTL.out]; exact hlt'
      obtain ⟨bk, off, rfl, h00, hx⟩ := (HU.out.below HB.out).some_ k hlt
      have c0 : wr.cell? ⟨bk, off + k * 5, none⟩ = some (.string (ofL (l[k]'hlt).st)) := hx 0 _ rfl
      have c1 : wr.cell? ⟨bk, off + k * 5 + 1, none⟩ = some (.string (ofL (l[k]'hlt).two)) := hx 1 _ rfl
      have c2 : wr.cell? ⟨bk, off + k * 5 + 2, none⟩ = some (.string (ofL (l[k]'hlt).sa)) := hx 2 _ rfl
      have c3 : wr.cell? ⟨bk, off + k * 5 + 3, none⟩ = some (.string (ofL (l[k]'hlt).md)) := hx 3 _ rfl
      have c4 : wr.cell? ⟨bk, off + k * 5 + 4, none⟩ = some (.string (ofL (l[k]'hlt).en)) := hx 4 _ rfl
      have h9 : (k : Int) < (LN : Int) := by omega
      have HC := Lib.hid (fun wx (hb : Below w.heap.size w wx) => HF.out wx hb k hlt hlt2)
      have HS := Lib.hid (HZ.out _ (List.getElem_mem hlt2))
      have HNX := Lib.hid (strs_next hlt2)
      have HL1 := Lib.hid (HLB.out k (by omega))
      obtain ⟨s, hs⟩ : ∃ s, T[k]'hlt2 = s := ⟨_, rfl⟩
      rw [hs] at HC HS HNX
      obtain ⟨x, hx0⟩ : ∃ x, l[k]'hlt = x := ⟨_, rfl⟩
      rw [hx0] at HC c0 c1 c2 c3 c4
      obtain ⟨A, hA⟩ : ∃ A, (T.take k).flatten = A := ⟨_, rfl⟩
      rw [hA] at HK HNX HL1
      clear hx hx0 hs hA
      have HA1 : Hid (Below wr.heap.size wr (wr.alloc (.cells #[.string (ofL x.st), .string (ofL x.two), .string (ofL x.sa), .string (ofL x.md), .string (ofL x.en)] 116))) := Lib.hid ((Below.refl _ _).alloc (Nat.le_refl _) _)
      have HA2 : Hid (Blk wr.heap.size 116 #[.string (ofL x.st), .string (ofL x.two), .string (ofL x.sa), .string (ofL x.md), .string (ofL x.en)] (wr.alloc (.cells #[.string (ofL x.st), .string (ofL x.two), .string (ofL x.sa), .string (ofL x.md), .string (ofL x.en)] 116))) := Lib.hid (Blk.new _ _ _)
      obtain ⟨W1, hW1⟩ : ∃ W1, wr.alloc (.cells #[.string (ofL x.st), .string (ofL x.two), .string (ofL x.sa), .string (ofL x.md), .string (ofL x.en)] 116) = W1 := ⟨_, rfl⟩
      rw [hW1] at HA1 HA2
      have HW1 := Lib.hid hW1
      obtain ⟨h, hh⟩ : ∃ h, wr.heap.size = h := ⟨_, rfl⟩
      have HH := Lib.hid hh
      rw [hh] at HA2
      clear hW1 hh
      go_upto_region 5 with fail
      rw [HW1.out, HH.out]
      have y0 : W1.cell? ⟨h, 0, none⟩ = some (.string (ofL x.st)) := HA2.out.cell 0
      have y1 : W1.cell? ⟨h, 1, none⟩ = some (.string (ofL x.two)) := HA2.out.cell 1
      have y2 : W1.cell? ⟨h, 2, none⟩ = some (.string (ofL x.sa)) := HA2.out.cell 2
      have y3 : W1.cell? ⟨h, 3, none⟩ = some (.string (ofL x.md)) := HA2.out.cell 3
      have y4 : W1.cell? ⟨h, 4, none⟩ = some (.string (ofL x.en)) := HA2.out.cell 4
      have HB1 : Hid (Below w.heap.size w W1) := Lib.hid (st HB.out HA1.out zr)
      have HK1 := Lib.hid (HK.out.below HA1.out)
      clear HW1 HH HF HU HA1 HA2 HK c0 c1 c2 c3 c4
      go_wp2_with (go_at_fn n1; refine (HC.out _ HB1.out).mono ?_; rintro e w5 ⟨rfl, b5⟩)
      have HB5 := Lib.hid (st HB1.out b5 HB1.out.size)
      have HK5 := Lib.hid (HK1.out.below b5)
      clear b5 y0 y1 y2 y3 y4
      go_wp2_with fail
      refine (writeString_any g A (ofL s) _ HK5.out (by have := HL1.out; omega) (by rw [ofL_size]; have := HS.out; omega)).mono ?_
      rintro e w6 ⟨rfl, k6, b6⟩
      have HB6 := Lib.hid (HB5.out.trans (by rw [HG.out]; exact b6))
      have HK6 : Hid (Bld g (A ++ s) w6) := Lib.hid k6
      clear b6 k6
      go_wp2_with fail
      go_roundw
      case measure => simp [intOf]; omega
      case rel => exact ⟨k + 1, by omega, by go_num, by rw [HNX.out]; exact HK6.out, HB6.out⟩
    · obtain rfl : k = LN := by omega
      have h3 : ¬ (k : Int) < (k : Int) := by omega
      rw [HFE.out] at HK
      go_wp2_with fail
      refine (string_any g _ _ HK.out).mono ?_
      rintro e w7 ⟨rfl, _, b7⟩
      have HB7 := Lib.hid (HB.out.trans (by rw [HG.out]; exact b7))
      clear b7
      go_wp2_with fail
      go_ret
      exact ⟨rfl, HB7.out⟩
set_option maxRecDepth 1000000 in
set_option maxHeartbeats 4000000 in
theorem joinUn_any (v : Value) (l : List (Uni)) (n1 : Nat) (eg1 : ∀ args w, (callFunc n1 args).run Tryz.prog w = .ok (.enter n1 args) w) (T : List Str) (hT : T.length = l.length) (hl : l.length ≤ 1000) (hz : ∀ s ∈ T, s.length ≤ 100000000) (w : World) (hv : Rd 3 encUn w v l)
    (hF : ∀ (W1 : World), Below w.heap.size w W1 → ∀ (i : Nat) (h : i < l.length) (h' : i < T.length), Calls Tryz.prog n1 #[.agg #[.string (ofL (l[i]'h).un), .string (ofL (l[i]'h).cl), .string (ofL (l[i]'h).pt)]] W1 (Strs (T[i]'h') W1)) :
    Calls Tryz.prog 67 #[v, .func (.func n1) #[] #[]] w (Strs T.flatten w) := by
  obtain ⟨a, c, rfl, hc1, hc2⟩ := hv.slice
  have HU := Lib.hid hv
  have HF := Lib.hid hF
  have HZ := Lib.hid hz
  have HTL := Lib.hid hT
  have HFE : Hid ((T.take l.length).flatten = T.flatten) := Lib.hid (by rw [← hT, List.take_length])
  have HLB : Hid (∀ k, k ≤ l.length → (T.take k).flatten.length ≤ 100000000000) := Lib.hid (fun k hk => by
    have h1 := flat_bound (T.take k) 100000000 (fun s hs => hz s (List.mem_of_mem_take hs))
    have h2 := Nat.mul_le_mul_right 100000000 (show (T.take k).length ≤ 1000 by rw [List.length_take]; omega)
    omega)
  have HK0 : Hid (Bld w.heap.size (T.take 0).flatten (w.alloc (.cells #[.pointer none, .slice none 0 0] 104))) := Lib.hid (Bld.fresh w)
  have HB0 : Hid (Below w.heap.size w (w.alloc (.cells #[.pointer none, .slice none 0 0] 104))) := Lib.hid ((Below.refl _ _).alloc (Nat.le_refl _) _)
  obtain ⟨W0, hW0⟩ : ∃ W0, w.alloc (.cells #[.pointer none, .slice none 0 0] 104) = W0 := ⟨_, rfl⟩
  rw [hW0] at HK0 HB0
  have HW0 := Lib.hid hW0
  obtain ⟨g, hg⟩ : ∃ g, w.heap.size = g := ⟨_, rfl⟩
  have HG := Lib.hid hg
  rw [hg] at HK0
  obtain ⟨LN, hLN⟩ : ∃ LN, l.length = LN := ⟨_, rfl⟩
  have HLN := Lib.hid hLN
  rw [hLN] at HU hc1 HFE HLB HTL ⊢
  clear hv hF hz hT hLN hg hW0
  go_enter Tryz.func67, Tryz.ntmps67
  go_upto_region 2 with fail
  rw [HW0.out, HG.out]
  clear HW0
  go_wp2_with fail
  go_loopw [10] (fun v wr => ∃ k : Nat, k ≤ LN ∧ v = .int .i64 k ∧ Bld g (T.take k).flatten wr ∧ Below w.heap.size w wr) (fun v _ => LN - (intOf v).toNat)
  case atStart => exact ⟨0, Nat.zero_le _, rfl, HK0.out, HB0.out⟩
  case round =>
    obtain ⟨k, hk, rfl, hkd, hb⟩ := hrel
    have HK := Lib.hid hkd
    have HB := Lib.hid hb
    have zr := hb.size
    clear hkd hb HK0 HB0
    by_cases hlt' : k < LN
    · have hlt : k < l.length := by rw [HLN.out]; exact hlt'
      have hlt2 : k < T.length := by rw [HTL.out]; exact hlt'
      obtain ⟨bk, off, rfl, h00, hx⟩ := (HU.out.below HB.out).some_ k hlt
      have c0 : wr.cell? ⟨bk, off + k * 3, none⟩ = some (.string (ofL (l[k]'hlt).un)) := hx 0 _ rfl
      have c1 : wr.cell? ⟨bk, off + k * 3 + 1, none⟩ = some (.string (ofL (l[k]'hlt).cl)) := hx 1 _ rfl
      have c2 : wr.cell? ⟨bk, off + k * 3 + 2, none⟩ = some (.string (ofL (l[k]'hlt).pt)) := hx 2 _ rfl
      have h9 : (k : Int) < (LN : Int) := by omega
      have HC := Lib.hid (fun wx (hb : Below w.heap.size w wx) => HF.out wx hb k hlt hlt2)
      have HS := Lib.hid (HZ.out _ (List.getElem_mem hlt2))
      have HNX := Lib.hid (strs_next hlt2)
      have HL1 := Lib.hid (HLB.out k (by omega))
      obtain ⟨s, hs⟩ : ∃ s, T[k]'hlt2 = s := ⟨_, rfl⟩
      rw [hs] at HC HS HNX
      obtain ⟨x, hx0⟩ : ∃ x, l[k]'hlt = x := ⟨_, rfl⟩
      rw [hx0] at HC c0 c1 c2
      obtain ⟨A, hA⟩ : ∃ A, (T.take k).flatten = A := ⟨_, rfl⟩
      rw [hA] at HK HNX HL1
      clear hx hx0 hs hA
      have HA1 : Hid (Below wr.heap.size wr (wr.alloc (.cells #[.string (ofL x.un), .string (ofL x.cl), .string (ofL x.pt)] 120))) := Lib.hid ((Below.refl _ _).alloc (Nat.le_refl _) _)
      have HA2 : Hid (Blk wr.heap.size 120 #[.string (ofL x.un), .string (ofL x.cl), .string (ofL x.pt)] (wr.alloc (.cells #[.string (ofL x.un), .string (ofL x.cl), .string (ofL x.pt)] 120))) := Lib.hid (Blk.new _ _ _)
      obtain ⟨W1, hW1⟩ : ∃ W1, wr.alloc (.cells #[.string (ofL x.un), .string (ofL x.cl), .string (ofL x.pt)] 120) = W1 := ⟨_, rfl⟩
      rw [hW1] at HA1 HA2
      have HW1 := Lib.hid hW1
      obtain ⟨h, hh⟩ : ∃ h, wr.heap.size = h := ⟨_, rfl⟩
      have HH := Lib.hid hh
      rw [hh] at HA2
      clear hW1 hh
      go_upto_region 5 with fail
      rw [HW1.out, HH.out]
      have y0 : W1.cell? ⟨h, 0, none⟩ = some (.string (ofL x.un)) := HA2.out.cell 0
      have y1 : W1.cell? ⟨h, 1, none⟩ = some (.string (ofL x.cl)) := HA2.out.cell 1
      have y2 : W1.cell? ⟨h, 2, none⟩ = some (.string (ofL x.pt)) := HA2.out.cell 2
      have HB1 : Hid (Below w.heap.size w W1) := Lib.hid (st HB.out HA1.out zr)
      have HK1 := Lib.hid (HK.out.below HA1.out)
      clear HW1 HH HF HU HA1 HA2 HK c0 c1 c2
      go_wp2_with (go_at_fn n1; refine (HC.out _ HB1.out).mono ?_; rintro e w5 ⟨rfl, b5⟩)
      have HB5 := Lib.hid (st HB1.out b5 HB1.out.size)
      have HK5 := Lib.hid (HK1.out.below b5)
      clear b5 y0 y1 y2
      go_wp2_with fail
      refine (writeString_any g A (ofL s) _ HK5.out (by have := HL1.out; omega) (by rw [ofL_size]; have := HS.out; omega)).mono ?_
      rintro e w6 ⟨rfl, k6, b6⟩
      have HB6 := Lib.hid (HB5.out.trans (by rw [HG.out]; exact b6))
      have HK6 : Hid (Bld g (A ++ s) w6) := Lib.hid k6
      clear b6 k6
      go_wp2_with fail
      go_roundw
      case measure => simp [intOf]; omega
      case rel => exact ⟨k + 1, by omega, by go_num, by rw [HNX.out]; exact HK6.out, HB6.out⟩
    · obtain rfl : k = LN := by omega
      have h3 : ¬ (k : Int) < (k : Int) := by omega
      rw [HFE.out] at HK
      go_wp2_with fail
      refine (string_any g _ _ HK.out).mono ?_
      rintro e w7 ⟨rfl, _, b7⟩
      have HB7 := Lib.hid (HB.out.trans (by rw [HG.out]; exact b7))
      clear b7
      go_wp2_with fail
      go_ret
      exact ⟨rfl, HB7.out⟩
set_option maxRecDepth 1000000 in
set_option maxHeartbeats 4000000 in
theorem joinLo_any (v : Value) (l : List (RawLo)) (n1 : Nat) (eg1 : ∀ args w, (callFunc n1 args).run Tryz.prog w = .ok (.enter n1 args) w) (T : List Str) (hT : T.length = l.length) (hl : l.length ≤ 1000) (hz : ∀ s ∈ T, s.length ≤ 100000000) (w : World) (hv : Rd 16 encLo w v l)
    (hF : ∀ (W1 : World), Below w.heap.size w W1 → ∀ (i : Nat) (h : i < l.length) (h' : i < T.length), Calls Tryz.prog n1 #[.agg #[.string (ofL (l[i]'h).tag), .string (ofL (l[i]'h).par), .string (ofL (l[i]'h).dir), .slice (l[i]'h).ca.a (l[i]'h).ca.n (l[i]'h).ca.c, .slice (l[i]'h).oc.a (l[i]'h).oc.n (l[i]'h).oc.c, .string (ofL (l[i]'h).sy.de), .string (ofL (l[i]'h).sy.gr), .string (ofL (l[i]'h).sy.mi), .string (ofL (l[i]'h).sy.pe), .int .i64 (l[i]'h).sy.pr, .int .i64 (l[i]'h).sy.se, .slice (l[i]'h).li.a (l[i]'h).li.n (l[i]'h).li.c, .slice (l[i]'h).un.a (l[i]'h).un.n (l[i]'h).un.c, .slice (l[i]'h).da.a (l[i]'h).da.n (l[i]'h).da.c, .slice (l[i]'h).mo.a (l[i]'h).mo.n (l[i]'h).mo.c, .slice (l[i]'h).dy.a (l[i]'h).dy.n (l[i]'h).dy.c]] W1 (Strs (T[i]'h') W1)) :
    Calls Tryz.prog 26 #[v, .func (.func n1) #[] #[]] w (Strs T.flatten w) := by
  obtain ⟨a, c, rfl, hc1, hc2⟩ := hv.slice
  have HU := Lib.hid hv
  have HF := Lib.hid hF
  have HZ := Lib.hid hz
  have HTL := Lib.hid hT
  have HFE : Hid ((T.take l.length).flatten = T.flatten) := Lib.hid (by rw [← hT, List.take_length])
  have HLB : Hid (∀ k, k ≤ l.length → (T.take k).flatten.length ≤ 100000000000) := Lib.hid (fun k hk => by
    have h1 := flat_bound (T.take k) 100000000 (fun s hs => hz s (List.mem_of_mem_take hs))
    have h2 := Nat.mul_le_mul_right 100000000 (show (T.take k).length ≤ 1000 by rw [List.length_take]; omega)
    omega)
  have HK0 : Hid (Bld w.heap.size (T.take 0).flatten (w.alloc (.cells #[.pointer none, .slice none 0 0] 104))) := Lib.hid (Bld.fresh w)
  have HB0 : Hid (Below w.heap.size w (w.alloc (.cells #[.pointer none, .slice none 0 0] 104))) := Lib.hid ((Below.refl _ _).alloc (Nat.le_refl _) _)
  obtain ⟨W0, hW0⟩ : ∃ W0, w.alloc (.cells #[.pointer none, .slice none 0 0] 104) = W0 := ⟨_, rfl⟩
  rw [hW0] at HK0 HB0
  have HW0 := Lib.hid hW0
  obtain ⟨g, hg⟩ : ∃ g, w.heap.size = g := ⟨_, rfl⟩
  have HG := Lib.hid hg
  rw [hg] at HK0
  obtain ⟨LN, hLN⟩ : ∃ LN, l.length = LN := ⟨_, rfl⟩
  have HLN := Lib.hid hLN
  rw [hLN] at HU hc1 HFE HLB HTL ⊢
  clear hv hF hz hT hLN hg hW0
  go_enter Tryz.func26, Tryz.ntmps26
  go_upto_region 2 with fail
  rw [HW0.out, HG.out]
  clear HW0
  go_wp2_with fail
  go_loopw [10] (fun v wr => ∃ k : Nat, k ≤ LN ∧ v = .int .i64 k ∧ Bld g (T.take k).flatten wr ∧ Below w.heap.size w wr) (fun v _ => LN - (intOf v).toNat)
  case atStart => exact ⟨0, Nat.zero_le _, rfl, HK0.out, HB0.out⟩
  case round =>
    obtain ⟨k, hk, rfl, hkd, hb⟩ := hrel
    have HK := Lib.hid hkd
    have HB := Lib.hid hb
    have zr := hb.size
    clear hkd hb HK0 HB0
    by_cases hlt' : k < LN
    · have hlt : k < l.length := by rw [HLN.out]; exact hlt'
      have hlt2 : k < T.length := by rw [HTL.out]; exact hlt'
      obtain ⟨bk, off, rfl, h00, hx⟩ := (HU.out.below HB.out).some_ k hlt
      have c0 : wr.cell? ⟨bk, off + k * 16, none⟩ = some (.string (ofL (l[k]'hlt).tag)) := hx 0 _ rfl
      have c1 : wr.cell? ⟨bk, off + k * 16 + 1, none⟩ = some (.string (ofL (l[k]'hlt).par)) := hx 1 _ rfl
      have c2 : wr.cell? ⟨bk, off + k * 16 + 2, none⟩ = some (.string (ofL (l[k]'hlt).dir)) := hx 2 _ rfl
      have c3 : wr.cell? ⟨bk, off + k * 16 + 3, none⟩ = some (.slice (l[k]'hlt).ca.a (l[k]'hlt).ca.n (l[k]'hlt).ca.c) := hx 3 _ rfl
      have c4 : wr.cell? ⟨bk, off + k * 16 + 4, none⟩ = some (.slice (l[k]'hlt).oc.a (l[k]'hlt).oc.n (l[k]'hlt).oc.c) := hx 4 _ rfl
      have c5 : wr.cell? ⟨bk, off + k * 16 + 5, none⟩ = some (.string (ofL (l[k]'hlt).sy.de)) := hx 5 _ rfl
      have c6 : wr.cell? ⟨bk, off + k * 16 + 6, none⟩ = some (.string (ofL (l[k]'hlt).sy.gr)) := hx 6 _ rfl
      have c7 : wr.cell? ⟨bk, off + k * 16 + 7, none⟩ = some (.string (ofL (l[k]'hlt).sy.mi)) := hx 7 _ rfl
      have c8 : wr.cell? ⟨bk, off + k * 16 + 8, none⟩ = some (.string (ofL (l[k]'hlt).sy.pe)) := hx 8 _ rfl
      have c9 : wr.cell? ⟨bk, off + k * 16 + 9, none⟩ = some (.int .i64 (l[k]'hlt).sy.pr) := hx 9 _ rfl
      have c10 : wr.cell? ⟨bk, off + k * 16 + 10, none⟩ = some (.int .i64 (l[k]'hlt).sy.se) := hx 10 _ rfl
      have c11 : wr.cell? ⟨bk, off + k * 16 + 11, none⟩ = some (.slice (l[k]'hlt).li.a (l[k]'hlt).li.n (l[k]'hlt).li.c) := hx 11 _ rfl
      have c12 : wr.cell? ⟨bk, off + k * 16 + 12, none⟩ = some (.slice (l[k]'hlt).un.a (l[k]'hlt).un.n (l[k]'hlt).un.c) := hx 12 _ rfl
      have c13 : wr.cell? ⟨bk, off + k * 16 + 13, none⟩ = some (.slice (l[k]'hlt).da.a (l[k]'hlt).da.n (l[k]'hlt).da.c) := hx 13 _ rfl
      have c14 : wr.cell? ⟨bk, off + k * 16 + 14, none⟩ = some (.slice (l[k]'hlt).mo.a (l[k]'hlt).mo.n (l[k]'hlt).mo.c) := hx 14 _ rfl
      have c15 : wr.cell? ⟨bk, off + k * 16 + 15, none⟩ = some (.slice (l[k]'hlt).dy.a (l[k]'hlt).dy.n (l[k]'hlt).dy.c) := hx 15 _ rfl
      have h9 : (k : Int) < (LN : Int) := by omega
      have HC := Lib.hid (fun wx (hb : Below w.heap.size w wx) => HF.out wx hb k hlt hlt2)
      have HS := Lib.hid (HZ.out _ (List.getElem_mem hlt2))
      have HNX := Lib.hid (strs_next hlt2)
      have HL1 := Lib.hid (HLB.out k (by omega))
      obtain ⟨s, hs⟩ : ∃ s, T[k]'hlt2 = s := ⟨_, rfl⟩
      rw [hs] at HC HS HNX
      obtain ⟨x, hx0⟩ : ∃ x, l[k]'hlt = x := ⟨_, rfl⟩
      rw [hx0] at HC c0 c1 c2 c3 c4 c5 c6 c7 c8 c9 c10 c11 c12 c13 c14 c15
      obtain ⟨A, hA⟩ : ∃ A, (T.take k).flatten = A := ⟨_, rfl⟩
      rw [hA] at HK HNX HL1
      clear hx hx0 hs hA
      have HA1 : Hid (Below wr.heap.size wr (wr.alloc (.cells #[.string (ofL x.tag), .string (ofL x.par), .string (ofL x.dir), .slice x.ca.a x.ca.n x.ca.c, .slice x.oc.a x.oc.n x.oc.c, .string (ofL x.sy.de), .string (ofL x.sy.gr), .string (ofL x.sy.mi), .string (ofL x.sy.pe), .int .i64 x.sy.pr, .int .i64 x.sy.se, .slice x.li.a x.li.n x.li.c, .slice x.un.a x.un.n x.un.c, .slice x.da.a x.da.n x.da.c, .slice x.mo.a x.mo.n x.mo.c, .slice x.dy.a x.dy.n x.dy.c] 51))) := Lib.hid ((Below.refl _ _).alloc (Nat.le_refl _) _)
      have HA2 : Hid (Blk wr.heap.size 51 #[.string (ofL x.tag), .string (ofL x.par), .string (ofL x.dir), .slice x.ca.a x.ca.n x.ca.c, .slice x.oc.a x.oc.n x.oc.c, .string (ofL x.sy.de), .string (ofL x.sy.gr), .string (ofL x.sy.mi), .string (ofL x.sy.pe), .int .i64 x.sy.pr, .int .i64 x.sy.se, .slice x.li.a x.li.n x.li.c, .slice x.un.a x.un.n x.un.c, .slice x.da.a x.da.n x.da.c, .slice x.mo.a x.mo.n x.mo.c, .slice x.dy.a x.dy.n x.dy.c] (wr.alloc (.cells #[.string (ofL x.tag), .string (ofL x.par), .string (ofL x.dir), .slice x.ca.a x.ca.n x.ca.c, .slice x.oc.a x.oc.n x.oc.c, .string (ofL x.sy.de), .string (ofL x.sy.gr), .string (ofL x.sy.mi), .string (ofL x.sy.pe), .int .i64 x.sy.pr, .int .i64 x.sy.se, .slice x.li.a x.li.n x.li.c, .slice x.un.a x.un.n x.un.c, .slice x.da.a x.da.n x.da.c, .slice x.mo.a x.mo.n x.mo.c, .slice x.dy.a x.dy.n x.dy.c] 51))) := Lib.hid (Blk.new _ _ _)
      obtain ⟨W1, hW1⟩ : ∃ W1, wr.alloc (.cells #[.string (ofL x.tag), .string (ofL x.par), .string (ofL x.dir), .slice x.ca.a x.ca.n x.ca.c, .slice x.oc.a x.oc.n x.oc.c, .string (ofL x.sy.de), .string (ofL x.sy.gr), .string (ofL x.sy.mi), .string (ofL x.sy.pe), .int .i64 x.sy.pr, .int .i64 x.sy.se, .slice x.li.a x.li.n x.li.c, .slice x.un.a x.un.n x.un.c, .slice x.da.a x.da.n x.da.c, .slice x.mo.a x.mo.n x.mo.c, .slice x.dy.a x.dy.n x.dy.c] 51) = W1 := ⟨_, rfl⟩
      rw [hW1] at HA1 HA2
      have HW1 := Lib.hid hW1
      obtain ⟨h, hh⟩ : ∃ h, wr.heap.size = h := ⟨_, rfl⟩
      have HH := Lib.hid hh
      rw [hh] at HA2
      clear hW1 hh
      go_upto_region 5 with fail
      rw [HW1.out, HH.out]
      have y0 : W1.cell? ⟨h, 0, none⟩ = some (.string (ofL x.tag)) := HA2.out.cell 0
      have y1 : W1.cell? ⟨h, 1, none⟩ = some (.string (ofL x.par)) := HA2.out.cell 1
      have y2 : W1.cell? ⟨h, 2, none⟩ = some (.string (ofL x.dir)) := HA2.out.cell 2
      have y3 : W1.cell? ⟨h, 3, none⟩ = some (.slice x.ca.a x.ca.n x.ca.c) := HA2.out.cell 3
      have y4 : W1.cell? ⟨h, 4, none⟩ = some (.slice x.oc.a x.oc.n x.oc.c) := HA2.out.cell 4
      have y5 : W1.cell? ⟨h, 5, none⟩ = some (.string (ofL x.sy.de)) := HA2.out.cell 5
      have y6 : W1.cell? ⟨h, 6, none⟩ = some (.string (ofL x.sy.gr)) := HA2.out.cell 6
      have y7 : W1.cell? ⟨h, 7, none⟩ = some (.string (ofL x.sy.mi)) := HA2.out.cell 7
      have y8 : W1.cell? ⟨h, 8, none⟩ = some (.string (ofL x.sy.pe)) := HA2.out.cell 8
      have y9 : W1.cell? ⟨h, 9, none⟩ = some (.int .i64 x.sy.pr) := HA2.out.cell 9
      have y10 : W1.cell? ⟨h, 10, none⟩ = some (.int .i64 x.sy.se) := HA2.out.cell 10
      have y11 : W1.cell? ⟨h, 11, none⟩ = some (.slice x.li.a x.li.n x.li.c) := HA2.out.cell 11
      have y12 : W1.cell? ⟨h, 12, none⟩ = some (.slice x.un.a x.un.n x.un.c) := HA2.out.cell 12
      have y13 : W1.cell? ⟨h, 13, none⟩ = some (.slice x.da.a x.da.n x.da.c) := HA2.out.cell 13
      have y14 : W1.cell? ⟨h, 14, none⟩ = some (.slice x.mo.a x.mo.n x.mo.c) := HA2.out.cell 14
      have y15 : W1.cell? ⟨h, 15, none⟩ = some (.slice x.dy.a x.dy.n x.dy.c) := HA2.out.cell 15
      have HB1 : Hid (Below w.heap.size w W1) := Lib.hid (st HB.out HA1.out zr)
      have HK1 := Lib.hid (HK.out.below HA1.out)
      clear HW1 HH HF HU HA1 HA2 HK c0 c1 c2 c3 c4 c5 c6 c7 c8 c9 c10 c11 c12 c13 c14 c15
      go_wp2_with (go_at_fn n1; refine (HC.out _ HB1.out).mono ?_; rintro e w5 ⟨rfl, b5⟩)
      have HB5 := Lib.hid (st HB1.out b5 HB1.out.size)
      have HK5 := Lib.hid (HK1.out.below b5)
      clear b5 y0 y1 y2 y3 y4 y5 y6 y7 y8 y9 y10 y11 y12 y13 y14 y15
      go_wp2_with fail
      refine (writeString_any g A (ofL s) _ HK5.out (by have := HL1.out; omega) (by rw [ofL_size]; have := HS.out; omega)).mono ?_
      rintro e w6 ⟨rfl, k6, b6⟩
      have HB6 := Lib.hid (HB5.out.trans (by rw [HG.out]; exact b6))
      have HK6 : Hid (Bld g (A ++ s) w6) := Lib.hid k6
      clear b6 k6
      go_wp2_with fail
      go_roundw
      case measure => simp [intOf]; omega
      case rel => exact ⟨k + 1, by omega, by go_num, by rw [HNX.out]; exact HK6.out, HB6.out⟩
    · obtain rfl : k = LN := by omega
      have h3 : ¬ (k : Int) < (k : Int) := by omega
      rw [HFE.out] at HK
      go_wp2_with fail
      refine (string_any g _ _ HK.out).mono ?_
      rintro e w7 ⟨rfl, _, b7⟩
      have HB7 := Lib.hid (HB.out.trans (by rw [HG.out]; exact b7))
      clear b7
      go_wp2_with fail
      go_ret
      exact ⟨rfl, HB7.out⟩
end Go.Proofs.YtpmmchppfmojhaaGreatDoor


/- Of the program's table package: the texts of lists. -/
namespace Go.Proofs.YtpmmchppfmojhaaGreatDoor
open Go.RowKit
set_option linter.unusedVariables false

theorem okW_le {t : Str} (h : okW t) : t.length ≤ 500 := by
  rcases h with ⟨_, _, k, _⟩ | ⟨k, _⟩ | ⟨k, _⟩
  · omega
  · cases k
  · cases k
theorem okX_le {t : Str} (h : okX t) : t.length ≤ 500 := by have := (okX_iff.1 h).1; omega
theorem itX_le (l : Ts) (h : ∀ t ∈ l, t.2.length ≤ 500) : (itX l).length ≤ 3003 * l.length + 3 := by
  have := lineS_len l h
  unfold itX
  simp only [List.length_cons, List.length_append, List.length_nil]
  omega
theorem enX_le (l : Ts) (h : ∀ t ∈ l, t.2.length ≤ 500) : (enX l).length ≤ 3003 * l.length + 3 := by
  have := lineS_len l h
  unfold enX
  simp only [List.length_cons, List.length_append, List.length_nil]
  omega
theorem kw_le {k : Str} (h : k ∈ [kLoc, kPar, kAli, kNea, kDir, kCar, kOrd, kSym, kLis, kUni, kDat, kMon, kDay]) : k.length ≤ 500 := okW_le (okw_kw h)
theorem ruX_le (k : Str) (hk : okW k) (u : Rul) (h1 : okW u.1) (hc : okC u.2 = true) : (ruX k u).length ≤ 100000 := by
  have := itX_le [(1, k), (1, u.1), (2, cndT u.2)] (by
    intro t ht
    simp only [List.mem_cons, List.not_mem_nil, or_false] at ht
    rcases ht with rfl | rfl | rfl
    · exact okW_le hk
    · exact okW_le h1
    · exact okX_le (ok_cnd hc))
  have e : (ruX k u).length = (itX [(1, k), (1, u.1), (2, cndT u.2)]).length := rfl
  rw [e]
  simp only [List.length_cons, List.length_nil] at this
  omega
theorem liX_le (y : Lis) (h : okW y.st ∧ okX y.two ∧ okX y.sa ∧ okX y.md ∧ okX y.en) : (liX y).length ≤ 100000 := by
  have := itX_le [(1, kLis), (1, y.st), (2, y.two), (2, y.sa), (2, y.md), (2, y.en)] (by
    intro t ht
    simp only [List.mem_cons, List.not_mem_nil, or_false] at ht
    rcases ht with rfl | rfl | rfl | rfl | rfl | rfl
    · exact kw_le (by decide)
    · exact okW_le h.1
    · exact okX_le h.2.1
    · exact okX_le h.2.2.1
    · exact okX_le h.2.2.2.1
    · exact okX_le h.2.2.2.2)
  have e : (liX y).length = (itX [(1, kLis), (1, y.st), (2, y.two), (2, y.sa), (2, y.md), (2, y.en)]).length := rfl
  rw [e]
  simp only [List.length_cons, List.length_nil] at this
  omega
theorem unX_le (y : Uni) (h : okW y.un ∧ y.cl ∈ cls6 ∧ okX y.pt) : (unX y).length ≤ 100000 := by
  have := itX_le [(1, kUni), (1, y.un), (1, y.cl), (2, y.pt)] (by
    intro t ht
    simp only [List.mem_cons, List.not_mem_nil, or_false] at ht
    rcases ht with rfl | rfl | rfl | rfl
    · exact kw_le (by decide)
    · exact okW_le h.1
    · exact okW_le (ok_cl (List.mem_append_left _ h.2.1))
    · exact okX_le h.2.2)
  have e : (unX y).length = (itX [(1, kUni), (1, y.un), (1, y.cl), (2, y.pt)]).length := rfl
  rw [e]
  simp only [List.length_cons, List.length_nil] at this
  omega
theorem daX_le (y : Str × Str) (h : okW y.1 ∧ okX y.2) : (daX y).length ≤ 100000 := by
  have := itX_le [(1, kDat), (1, y.1), (2, y.2)] (by
    intro t ht
    simp only [List.mem_cons, List.not_mem_nil, or_false] at ht
    rcases ht with rfl | rfl | rfl
    · exact kw_le (by decide)
    · exact okW_le h.1
    · exact okX_le h.2)
  have e : (daX y).length = (itX [(1, kDat), (1, y.1), (2, y.2)]).length := rfl
  rw [e]
  simp only [List.length_cons, List.length_nil] at this
  omega
theorem alX_le (y : Str × Str) (h : okW y.1 ∧ okW y.2) : (alX y).length ≤ 100000 := by
  have := enX_le [(1, kAli), (1, y.1), (1, y.2)] (by
    intro t ht
    simp only [List.mem_cons, List.not_mem_nil, or_false] at ht
    rcases ht with rfl | rfl | rfl
    · exact kw_le (by decide)
    · exact okW_le h.1
    · exact okW_le h.2)
  have e : (alX y).length = (enX [(1, kAli), (1, y.1), (1, y.2)]).length := rfl
  rw [e]
  simp only [List.length_cons, List.length_nil] at this
  omega
theorem neX_le (y : Nea) (h : okW y.fr ∧ okW y.to_ ∧ 0 ≤ y.co ∧ y.co ≤ 1000) : (neX y).length ≤ 100000 := by
  have := enX_le [(1, kNea), (1, y.fr), (1, y.to_), (1, decT y.co.toNat)] (by
    intro t ht
    simp only [List.mem_cons, List.not_mem_nil, or_false] at ht
    rcases ht with rfl | rfl | rfl | rfl
    · exact kw_le (by decide)
    · exact okW_le h.1
    · exact okW_le h.2.1
    · exact okW_le (ok_dec (by have := h.2.2; omega)))
  have e : (neX y).length = (enX [(1, kNea), (1, y.fr), (1, y.to_), (1, decT y.co.toNat)]).length := rfl
  rw [e]
  simp only [List.length_cons, List.length_nil] at this
  omega
set_option maxRecDepth 1000000 in
theorem listsText (v : Value) (l : List (Lis)) (w : World) (hv : Rd 5 encLi w v l) (hl : l.length ≤ 1000) (ho : ∀ y ∈ l, okW y.st ∧ okX y.two ∧ okX y.sa ∧ okX y.md ∧ okX y.en) (E : EnvOf8 w) : Calls Tryz.prog 65 #[v, .func (.func 66) #[] #[]] w (Strs (l.flatMap liX) w) := by
  have e : (l.map liX).flatten = l.flatMap liX := List.flatMap_def.symm
  rw [← e]
  refine joinLi_any v l 66 (enters_of Tryz.func66 (by kernel_rfl) rfl) (l.map liX) (by rw [List.length_map]) hl (fun s hs => by
    obtain ⟨y, hy, rfl⟩ := List.mem_map.1 hs
    have := liX_le y (ho y hy)
    omega) w hv (fun W1 hb i h h' => ?_)
  rw [List.getElem_map]
  have hy := List.getElem_mem h
  obtain ⟨a, b, c, d, e⟩ := ho _ hy
  exact listItem_any _ a b c d e W1 (env_of8 (E.laterZ hb))
set_option maxRecDepth 1000000 in
theorem unitsText (v : Value) (l : List (Uni)) (w : World) (hv : Rd 3 encUn w v l) (hl : l.length ≤ 1000) (ho : ∀ y ∈ l, okW y.un ∧ y.cl ∈ cls6 ∧ okX y.pt) (E : EnvOf8 w) : Calls Tryz.prog 67 #[v, .func (.func 68) #[] #[]] w (Strs (l.flatMap unX) w) := by
  have e : (l.map unX).flatten = l.flatMap unX := List.flatMap_def.symm
  rw [← e]
  refine joinUn_any v l 68 (enters_of Tryz.func68 (by kernel_rfl) rfl) (l.map unX) (by rw [List.length_map]) hl (fun s hs => by
    obtain ⟨y, hy, rfl⟩ := List.mem_map.1 hs
    have := unX_le y (ho y hy)
    omega) w hv (fun W1 hb i h h' => ?_)
  rw [List.getElem_map]
  have hy := List.getElem_mem h
  obtain ⟨a, b, c⟩ := ho _ hy
  exact unitItem_any _ a (ok_cl (List.mem_append_left _ b)) c W1 (env_of8 (E.laterZ hb))
set_option maxRecDepth 1000000 in
theorem datesText (v : Value) (l : List (Str × Str)) (w : World) (hv : Rd 2 encDu w v l) (hl : l.length ≤ 1000) (ho : ∀ y ∈ l, okW y.1 ∧ okX y.2) (E : EnvOf8 w) : Calls Tryz.prog 69 #[v, .func (.func 70) #[] #[]] w (Strs (l.flatMap daX) w) := by
  have e : (l.map daX).flatten = l.flatMap daX := List.flatMap_def.symm
  rw [← e]
  refine joinDa_any v l 70 (enters_of Tryz.func70 (by kernel_rfl) rfl) (l.map daX) (by rw [List.length_map]) hl (fun s hs => by
    obtain ⟨y, hy, rfl⟩ := List.mem_map.1 hs
    have := daX_le y (ho y hy)
    omega) w hv (fun W1 hb i h h' => ?_)
  rw [List.getElem_map]
  have hy := List.getElem_mem h
  obtain ⟨a, b⟩ := ho _ hy
  exact dateItem_any _ a b W1 (env_of8 (E.laterZ hb))
set_option maxRecDepth 1000000 in
theorem aliasesText (v : Value) (l : List (Str × Str)) (w : World) (hv : Rd 2 encDu w v l) (hl : l.length ≤ 1000) (ho : ∀ y ∈ l, okW y.1 ∧ okW y.2) (E : EnvOf8 w) : Calls Tryz.prog 28 #[v, .func (.func 29) #[] #[]] w (Strs (l.flatMap alX) w) := by
  have e : (l.map alX).flatten = l.flatMap alX := List.flatMap_def.symm
  rw [← e]
  refine joinAl_any v l 29 (enters_of Tryz.func29 (by kernel_rfl) rfl) (l.map alX) (by rw [List.length_map]) hl (fun s hs => by
    obtain ⟨y, hy, rfl⟩ := List.mem_map.1 hs
    have := alX_le y (ho y hy)
    omega) w hv (fun W1 hb i h h' => ?_)
  rw [List.getElem_map]
  have hy := List.getElem_mem h
  obtain ⟨a, b⟩ := ho _ hy
  exact aliasLine_any _ a b W1 (env_of8 (E.laterZ hb))
set_option maxRecDepth 1000000 in
theorem nearsText (v : Value) (l : List (Nea)) (w : World) (hv : Rd 3 encNe w v l) (hl : l.length ≤ 1000) (ho : ∀ y ∈ l, okW y.fr ∧ okW y.to_ ∧ 0 ≤ y.co ∧ y.co ≤ 1000) (E : EnvOf8 w) : Calls Tryz.prog 30 #[v, .func (.func 31) #[] #[]] w (Strs (l.flatMap neX) w) := by
  have e : (l.map neX).flatten = l.flatMap neX := List.flatMap_def.symm
  rw [← e]
  refine joinNe_any v l 31 (enters_of Tryz.func31 (by kernel_rfl) rfl) (l.map neX) (by rw [List.length_map]) hl (fun s hs => by
    obtain ⟨y, hy, rfl⟩ := List.mem_map.1 hs
    have := neX_le y (ho y hy)
    omega) w hv (fun W1 hb i h h' => ?_)
  rw [List.getElem_map]
  have hy := List.getElem_mem h
  obtain ⟨a, b, c⟩ := ho _ hy
  exact nearLine_any _ a b c W1 (env_of8 (E.laterZ hb))
set_option maxRecDepth 1000000 in
theorem carText (v : Value) (l : List Rul) (w : World) (hr : RdRul w v l) (ho : rulesOk l) (hs : RulR l) (E : EnvOf8 w) : Calls Tryz.prog 60 #[v, .func (.func 61) #[] #[]] w (Strs (l.flatMap (ruX kCar)) w) := by
  have e : (l.map (ruX kCar)).flatten = l.flatMap (ruX kCar) := List.flatMap_def.symm
  rw [← e]
  obtain ⟨raws, hv, hl, hx⟩ := hr
  have h5 := (rules_sm ho).2.1
  refine joinRu_any v raws 61 (enters_of Tryz.func61 (by kernel_rfl) rfl) (l.map (ruX kCar)) (by rw [List.length_map, hl]) (by omega) (fun s hs' => by
    obtain ⟨y, hy, rfl⟩ := List.mem_map.1 hs'
    have := ruX_le kCar (okw_kw (by decide)) y (ok_cl (List.mem_append_left _ (List.mem_append_left _ (ho.1 y hy).1))) (ho.1 y hy).2
    omega) w hv (fun W1 hb i h h' => ?_)
  rw [List.getElem_map]
  have hi : i < l.length := by omega
  have h3 := hx i h hi
  have hy := List.getElem_mem hi
  have h4 := ruleCar_any raws[i] l[i].2 (by rw [h3.1]; exact ok_cl (List.mem_append_left _ (List.mem_append_left _ (ho.1 _ hy).1))) (ho.1 _ hy).2 W1 (h3.2.below hb) (hs _ hy).2 (E.laterZ hb)
  have e2 : (raws[i].1, l[i].2) = l[i] := by rw [h3.1]
  rw [e2] at h4
  exact h4
set_option maxRecDepth 1000000 in
theorem ordText (v : Value) (l : List Rul) (w : World) (hr : RdRul w v l) (ho : rulesOk l) (hs : RulR l) (E : EnvOf8 w) : Calls Tryz.prog 60 #[v, .func (.func 63) #[] #[]] w (Strs (l.flatMap (ruX kOrd)) w) := by
  have e : (l.map (ruX kOrd)).flatten = l.flatMap (ruX kOrd) := List.flatMap_def.symm
  rw [← e]
  obtain ⟨raws, hv, hl, hx⟩ := hr
  have h5 := (rules_sm ho).2.1
  refine joinRu_any v raws 63 (enters_of Tryz.func63 (by kernel_rfl) rfl) (l.map (ruX kOrd)) (by rw [List.length_map, hl]) (by omega) (fun s hs' => by
    obtain ⟨y, hy, rfl⟩ := List.mem_map.1 hs'
    have := ruX_le kOrd (okw_kw (by decide)) y (ok_cl (List.mem_append_left _ (List.mem_append_left _ (ho.1 y hy).1))) (ho.1 y hy).2
    omega) w hv (fun W1 hb i h h' => ?_)
  rw [List.getElem_map]
  have hi : i < l.length := by omega
  have h3 := hx i h hi
  have hy := List.getElem_mem hi
  have h4 := ruleOrd_any raws[i] l[i].2 (by rw [h3.1]; exact ok_cl (List.mem_append_left _ (List.mem_append_left _ (ho.1 _ hy).1))) (ho.1 _ hy).2 W1 (h3.2.below hb) (hs _ hy).2 (E.laterZ hb)
  have e2 : (raws[i].1, l[i].2) = l[i] := by rw [h3.1]
  rw [e2] at h4
  exact h4
set_option maxRecDepth 1000000 in
theorem flatX_le {α : Type} (f : α → Str) (l : List α) (n : Nat) (hl : l.length ≤ n) (h : ∀ y ∈ l, (f y).length ≤ 100000) : (l.flatMap f).length ≤ n * 100000 := by
  have e : (l.map f).flatten = l.flatMap f := List.flatMap_def.symm
  rw [← e]
  have h1 := flat_bound (l.map f) 100000 (fun s hs => by obtain ⟨y, hy, rfl⟩ := List.mem_map.1 hs; exact h y hy)
  rw [List.length_map] at h1
  exact Nat.le_trans h1 (Nat.mul_le_mul_right _ hl)
set_option maxRecDepth 1000000 in
theorem dirX_le {d : Str} (h : d = [] ∨ d ∈ dirL) : (dirX d).length ≤ 100000 := by
  unfold dirX
  split
  · simp
  · rename_i hd
    have := itX_le [(1, kDir), (1, d)] (by
      intro t ht
      simp only [List.mem_cons, List.not_mem_nil, or_false] at ht
      rcases ht with rfl | rfl
      · exact kw_le (by decide)
      · exact okW_le (ok_cl (List.mem_append_right _ (h.resolve_left hd))))
    simp only [List.length_cons, List.length_nil] at this
    omega
set_option maxRecDepth 1000000 in
theorem syX_le {s : Sym} (h : symOk s) : (syX s).length ≤ 100000 := by
  unfold syX
  split
  · simp
  · rename_i hd
    have k := h.resolve_left (fun e => hd (by rw [e]; rfl))
    have := itX_le [(1, kSym), (2, s.de), (2, s.gr), (2, s.mi), (2, s.pe), (1, decT s.pr.toNat), (1, decT s.se.toNat)] (by
      intro t ht
      simp only [List.mem_cons, List.not_mem_nil, or_false] at ht
      rcases ht with rfl | rfl | rfl | rfl | rfl | rfl | rfl
      · exact kw_le (by decide)
      · exact okX_le k.2.1
      · exact okX_le k.2.2.1
      · exact okX_le k.2.2.2.1
      · exact okX_le k.2.2.2.2.1
      · exact okW_le (ok_dec (by have := k.2.2.2.2.2; omega))
      · exact okW_le (ok_dec (by have := k.2.2.2.2.2; omega)))
    simp only [List.length_cons, List.length_nil] at this
    omega
set_option maxRecDepth 1000000 in
theorem namX_le (k : Str) (hk : okW k) (l : List Str) (hl : l.length ≤ 20) (h : ∀ y ∈ l, okX y) : (namX k l).length ≤ 100000 := by
  unfold namX
  split
  · simp
  · have := itX_le ((1, k) :: l.map (fun t => ((2, t) : KT))) (by
      intro t ht
      rcases List.mem_cons.1 ht with rfl | ht
      · exact okW_le hk
      · obtain ⟨s, hs, rfl⟩ := List.mem_map.1 ht
        exact okX_le (h s hs))
    rw [List.length_cons, List.length_map] at this
    omega
end Go.Proofs.YtpmmchppfmojhaaGreatDoor


