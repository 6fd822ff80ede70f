/- Of the library: strings.IndexRune of a rune that is no ASCII one, in ASCII bytes. -/
import Derived.Test.YteofkofgdhmpjaaDoorNwa
import Derived.Test.YteofkofgdhmpjaaDoorUa
import Derived.Lib.OthersKept
import Derived.WalkMore
namespace Go.Proofs.YteofkofgdhmpjaaDoor
open Go.RowKit
set_option linter.unusedVariables false

theorem dl_high (l : List UInt8) (h : 128 ≤ byt l 0) : 128 ≤ (dl l).1 ∧ ∀ k, k < (dl l).2 → 128 ≤ byt l k := by
  have c1 : ∀ k, cnt l k = true → 128 ≤ byt l k := fun k hk => ((cnt_iff l k).1 hk).2.1
  have one : ∀ k, k < 1 → 128 ≤ byt l k := fun k hk => by
    obtain rfl : k = 0 := by omega
    exact h
  unfold dl dlf
  rw [if_neg (by omega)]
  by_cases h2 : (byt l 0 / 32 == 6 && cnt l 1) = true
  · rw [if_pos h2]
    simp only [Bool.and_eq_true] at h2
    split
    · exact ⟨by dsimp only; omega, fun k hk => by
        dsimp only at hk
        obtain rfl | rfl : k = 0 ∨ k = 1 := by omega
        · exact h
        · exact c1 _ h2.2⟩
    · exact ⟨by decide, one⟩
  rw [if_neg h2]
  by_cases h3 : (byt l 0 / 16 == 14 && cnt l 1 && cnt l 2) = true
  · rw [if_pos h3]
    simp only [Bool.and_eq_true] at h3
    split
    · rename_i h4
      simp only [Bool.and_eq_true, decide_eq_true_eq] at h4
      exact ⟨by dsimp only; omega, fun k hk => by
        dsimp only at hk
        obtain rfl | rfl | rfl : k = 0 ∨ k = 1 ∨ k = 2 := by omega
        · exact h
        · exact c1 _ h3.1.2
        · exact c1 _ h3.2⟩
    · exact ⟨by decide, one⟩
  rw [if_neg h3]
  by_cases h4 : (byt l 0 / 8 == 30 && cnt l 1 && cnt l 2 && cnt l 3) = true
  · rw [if_pos h4]
    simp only [Bool.and_eq_true] at h4
    split
    · rename_i h5
      simp only [Bool.and_eq_true, decide_eq_true_eq] at h5
      exact ⟨by dsimp only; omega, fun k hk => by
        dsimp only at hk
        obtain rfl | rfl | rfl | rfl : k = 0 ∨ k = 1 ∨ k = 2 ∨ k = 3 := by omega
        · exact h
        · exact c1 _ h4.1.1.2
        · exact c1 _ h4.1.2
        · exact c1 _ h4.2⟩
    · exact ⟨by decide, one⟩
  rw [if_neg h4]
  exact ⟨by decide, one⟩
theorem last_of {n : Nat} (h : n < 64) : 128 ≤ (UInt8.ofNat (128 + n)).toNat := by rw [toNat_of _ (by omega)]; omega
/-- The last byte of a rune that is no ASCII one. -/
theorem enc_last {r : Int} (h1 : 128 ≤ r) (hv : Utf8.valid r = true) : ∃ m : Nat, (Utf8.encode r).size = m + 1 ∧ 1 ≤ m ∧ m ≤ 3 ∧ ∀ x, (Utf8.encode r).data.toList[m]? = some x → 128 ≤ x.toNat := by
  have hl : (128 + r % 64).toNat = 128 + (r % 64).toNat := by omega
  have hl2 : (r % 64).toNat < 64 := by omega
  by_cases h2 : r < 2048
  · have e := enc2 r hv (by omega) (by omega) (by omega)
    rw [e]
    refine ⟨1, rfl, by omega, by omega, fun x hx => ?_⟩
    obtain rfl : UInt8.ofNat (128 + r % 64).toNat = x := Option.some.inj hx
    rw [hl]
    exact last_of hl2
  by_cases h3 : r < 65536
  · have e := enc3 r hv (by omega) (by omega) (by omega) (by omega)
    rw [e]
    refine ⟨2, rfl, by omega, by omega, fun x hx => ?_⟩
    obtain rfl : UInt8.ofNat (128 + r % 64).toNat = x := Option.some.inj hx
    rw [hl]
    exact last_of hl2
  · have e := enc4 r hv (by omega) (by omega)
    rw [e]
    refine ⟨3, rfl, by omega, by omega, fun x hx => ?_⟩
    obtain rfl : UInt8.ofNat (128 + r % 64).toNat = x := Option.some.inj hx
    rw [hl]
    exact last_of hl2
theorem valid_ifN (n : Int) : Utf8.valid n = true ↔ (0 ≤ n ∧ n < 0xD800) ∨ (0xE000 ≤ n ∧ n ≤ 0x10FFFF) := by
  simp [Utf8.valid]
theorem iterPos_ofN {w : World} {k : Nat} {s : ByteArray} {pos : Nat} (h : w.heap[k]? = some (.stringIter s pos)) : w.iterPos k = pos := by simp [World.iterPos, h]
set_option maxRecDepth 1000000 in
set_option maxHeartbeats 4000000 in
theorem idxRune_bad (T : ByteArray) (hd : ∀ c ∈ T.data.toList, c.toNat < 128) (w : World) : Calls Tryd.prog 60 #[.string T, .int .i32 65533] w fun e w' => e = .returned (.int .i64 (-1)) ∧ Below w.heap.size w w' := by
  have HD := Lib.hid hd
  clear hd
  go_enter Tryd.func60, Tryd.ntmps60
  go_wp2
  go_loopw [5] (fun v wr => ∃ pos, pos ≤ T.size ∧ wr.heap[w.heap.size]? = some (.stringIter T pos) ∧ Below w.heap.size w wr) (fun _ wr => T.size - wr.iterPos w.heap.size)
  case atStart => exact ⟨0, by omega, heap_alloc_new w _, (Below.refl _ _).alloc (Nat.le_refl _) _⟩
  case round =>
    obtain ⟨pos, hpl, hk, hB⟩ := hrel
    have HB := Lib.hid hB
    have HK := Lib.hid hk
    have hm : Hid (wr.iterPos w.heap.size = pos) := Lib.hid (iterPos_ofN hk)
    clear hB
    by_cases hp : pos < T.size
    · obtain ⟨x, hx⟩ : ∃ x : UInt8, T[pos]'hp = x := ⟨_, rfl⟩
      have hx1 : x.toNat < 128 := HD.out x (by rw [← hx]; exact Array.getElem_mem_toList _)
      have hnx := fun ty => Lib.run_next_ascii_at (P := Tryd.prog) wr _ T pos ty hk hp (by rw [hx]; exact hx1)
      rw [hx] at hnx
      have hne : ((x.toNat : Int) == 65533) = false := by rw [beq_eq_false_iff_ne]; omega
      have HK2 : Hid ((wr.iterAt w.heap.size T (pos + 1)).heap[w.heap.size]? = some (.stringIter T (pos + 1))) := Lib.hid (Lib.iterAt_heap _ _ _ _ _ hk)
      have hm2 := Lib.hid (iterPos_ofN HK2.out)
      have HB2 := Lib.hid (Lib.below_iterAt HB.out (Nat.le_refl _) T (pos + 1))
      clear hk hx
      go_wp2
      go_roundw
      case rel => exact ⟨pos + 1, by omega, HK2.out, HB2.out⟩
      case measure => rw [hm2.out, hm.out]; omega
    · have hnx := fun ty => Lib.run_next_end_at (P := Tryd.prog) wr _ T pos ty hk hp
      go_wp2
      go_ret
      exact ⟨rfl, HB.out⟩
theorem idxByte_none {c : UInt8} : ∀ {l : List UInt8}, (∀ x ∈ l, x ≠ c) → Lib.indexByte l c = -1
  | [], _ => rfl
  | x :: l, h => by
    have h1 : (x == c) = false := by rw [beq_eq_false_iff_ne]; exact h x List.mem_cons_self
    rw [Lib.indexByte, h1, idxByte_none (l := l) (fun y hy => h y (List.mem_cons_of_mem _ hy))]
    rfl
set_option maxRecDepth 1000000 in
set_option maxHeartbeats 4000000 in
theorem idxRune_high (T : ByteArray) (hd : ∀ c ∈ T.data.toList, c.toNat < 128) (hT : T.size = 10) (r : Int) (h1 : 128 ≤ r) (hv : Utf8.valid r = true) (w : World) : Calls Tryd.prog 60 #[.string T, .int .i32 r] w fun e w' => e = .returned (.int .i64 (-1)) ∧ Below w.heap.size w w' := by
  by_cases hr : r = 65533
  · subst hr
    exact idxRune_bad T hd w
  have hrb : r ≤ 1114111 := by have := (valid_ifN _).1 hv; omega
  have k1 : decide (r < 128) = false := decide_eq_false (by omega)
  have k0 : decide (0 ≤ r) = true := decide_eq_true (by omega)
  have k2 : (r == 65533) = false := by rw [beq_eq_false_iff_ne]; exact hr
  have HV : Hid (Lib.validRune r = true) := Lib.hid (by have := (valid_ifN _).1 hv; unfold Lib.validRune; rw [decide_eq_true_eq]; omega)
  have HVR := Lib.hid (fun w => Tryd.utf8_ValidRune r w)
  rw [HV.out] at HVR
  obtain ⟨m, hm, hm1, hm3, hx⟩ := enc_last h1 hv
  obtain ⟨R, hR⟩ : ∃ R, Utf8.encode r = R := ⟨_, rfl⟩
  rw [hR] at hm hx
  have HR := Lib.hid hR
  have cv : ∀ wx, (convert 21 9 (.int .i32 r)).run Tryd.prog wx = .ok (.string R) wx := fun wx => by rw [← hR]; exact run_convert_int_string wx _ _ _ _ (by rw [Tryd.underlying21]; rfl) Tryd.underlying9
  clear hR hv hr h1
  go_enter Tryd.func60, Tryd.ntmps60
  go_wp2_with fail
  refine (HVR.out _).mono ?_
  rintro e w2 ⟨rfl, hw2⟩
  obtain rfl := hw2.symm
  clear hw2
  have hR1 : IntKind.i64.wrap ((R.size : Int) - 1) = (m : Int) := by rw [hm, IntKind.wrap_i64]; omega
  have hmR : m < R.size := by omega
  obtain ⟨x, hxx⟩ : ∃ x : UInt8, R[m]'hmR = x := ⟨_, rfl⟩
  have hx1 : 128 ≤ x.toNat := hx x (by rw [← hxx]; exact Lib.data_getElem? R m hmR)
  have hmT : m < T.size := by omega
  obtain ⟨y, hy⟩ : ∃ y : UInt8, T[m]'hmT = y := ⟨_, rfl⟩
  have hy1 : y.toNat < 128 := hd y (by rw [← hy]; exact Array.getElem_mem_toList _)
  have k3 : ((y.toNat : Int) != (x.toNat : Int)) = true := bne_iff_ne.2 (by omega)
  have HIB := Lib.hid (fun w => Tryd.strings_IndexByte (T.extract (m + 1) T.size) (x.toNat : Int) w)
  have HI1 : Hid (Lib.indexByte (T.extract (m + 1) T.size).data.toList ((x.toNat : Int)).toNat.toUInt8 = -1) := Lib.hid (idxByte_none (fun c hc e => by
    have h1 : c ∈ T.data.toList := by
      have : (T.extract (m + 1) T.size).data.toList = (T.data.toList.drop (m + 1)).take (T.size - (m + 1)) := by simp
      rw [this] at hc
      exact List.mem_of_mem_drop (List.mem_of_mem_take hc)
    have h2 := hd c h1
    have h3 : ((x.toNat : Int)).toNat.toUInt8 = x := by simp
    rw [h3] at e
    rw [e] at h2
    omega))
  rw [HI1.out] at HIB
  obtain ⟨D, hD⟩ : ∃ D, T.extract (m + 1) T.size = D := ⟨_, rfl⟩
  have cu : ∀ wx, (Instr.slice 9 (.string T) (some (.int .i64 ((m : Int) + 1))) none none).run Tryd.prog wx = .ok (.string D) wx := fun wx => by
    have e := run_slice_string_from_if (P := Tryd.prog) (w := wx) 9 T .i64 ((m : Int) + 1) Tryd.underlying9
    rw [e, if_pos ⟨by omega, by omega⟩, show ((m : Int) + 1).toNat = m + 1 by omega, hD]
  rw [hD] at HIB
  clear hx hd HI1 hD
  have k6 : (m : Int) < (m : Int) + 1 := by omega
  go_upto_region 1 with fail
  go_step3
  go_wp2
  refine wp_loop_rounds 1 ?_
  rw [rounds_succ]
  have k4 : decide ((m : Int) < 10) = true := decide_eq_true (by omega)
  have k5 : IntKind.i64.wrap ((m : Int) + 1) = (m : Int) + 1 := by rw [IntKind.wrap_i64]; omega
  go_wp2
  go_step3
  go_wp2
  go_quiet (fail)
  go_wp2
  have HQ := Lib.hid (below_drewN (Below.refl w.heap.size w) nq)
  obtain ⟨wq, hwq⟩ : ∃ wq, w.drewN nq = wq := ⟨_, rfl⟩
  rw [hwq] at HQ ⊢
  clear hwq
  go_quiet ((go_at_call 73; exact Calls.quiet_of_same (HIB.out _)))
  go_wp2
  rw [Exit.noGoto_ret]
  go_wp2
  rw [Exit.noGoto_ret]
  go_ret
  exact ⟨rfl, below_drewN HQ.out _⟩
end Go.Proofs.YteofkofgdhmpjaaDoor
