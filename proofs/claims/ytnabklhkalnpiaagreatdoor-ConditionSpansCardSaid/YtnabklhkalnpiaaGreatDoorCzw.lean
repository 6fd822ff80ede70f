/- Of calqueref08: decimal. -/
import Derived.Test.YtnabklhkalnpiaaGreatDoorCzv
namespace Go.Proofs.YtnabklhkalnpiaaGreatDoor
open Go.RowKit
set_option linter.unusedVariables false

theorem conv_dig (n : Nat) (hn : n < 10) (w : World) : (convert 83 9 (.slice (some ⟨w.heap.size, 0, none⟩) 1 1)).run Tryz.prog (w.alloc (.cells #[.int .u8 (48 + (n : Int))] 5)) = .ok (.string (ofL (dtx n))) (w.alloc (.cells #[.int .u8 (48 + (n : Int))] 5)) := by
  have e : (48 + (n : Int)) = (((UInt8.ofNat (48 + n)).toNat : Nat) : Int) := by
    rw [UInt8.toNat_ofNat_of_lt' (by show 48 + n < 256; omega)]
    omega
  have hd : dtx n = [UInt8.ofNat (48 + n)] := by unfold dtx; rw [if_pos hn]
  rw [hd, e]
  have O : Own1 1 encB (w.alloc (.cells #[.int .u8 (((UInt8.ofNat (48 + n)).toNat : Nat) : Int)] 5)) w.heap.size 5 (.slice (some ⟨w.heap.size, 0, none⟩) 1 1) [UInt8.ofNat (48 + n)] :=
    ⟨by rfl, .inr ⟨w.heap.size, 1, #[.int .u8 (((UInt8.ofNat (48 + n)).toNat : Nat) : Int)], rfl, Nat.le_refl _, heap_alloc_new w _, Nat.le_refl _, by decide, rfl, rfl⟩⟩
  exact conv_rd Tryz.underlying83 Tryz.underlying5 Tryz.underlying9 (O.rd encB_len)
set_option maxRecDepth 1000000 in
set_option maxHeartbeats 4000000 in
theorem refDec1_any (n : Nat) (hn : n < 10) (w : World) :
    Calls Tryz.prog 49 #[.int .i64 n] w fun e w' => e = .returned (.string (ofL (dtx n))) ∧ Below w.heap.size w w' := by
  have e1 : ¬ (10 : Int) ≤ (n : Int) := by omega
  have e2 : (n : Int) < 10 := by omega
  have hc := conv_dig n hn
  go_enter Tryz.func49, Tryz.ntmps49
  go_wp2
  go_ret
  exact ⟨rfl, (Below.refl _ _).alloc (Nat.le_refl _) _⟩
theorem dtx_cut : ∀ n : Fin 101, 10 ≤ n.val → dtx (n.val / 10) ++ dtx (n.val % 10) = dtx n.val := by decide +kernel
set_option maxRecDepth 1000000 in
set_option maxHeartbeats 4000000 in
theorem refDec2_any (n : Nat) (h0 : 10 ≤ n) (hn : n ≤ 100) (hq : ∀ w : World, Calls Tryz.prog 49 #[.int .i64 (n / 10 : Nat)] w fun e w' => e = .returned (.string (ofL (dtx (n / 10)))) ∧ Below w.heap.size w w') (w : World) :
    Calls Tryz.prog 49 #[.int .i64 n] w fun e w' => e = .returned (.string (ofL (dtx n))) ∧ Below w.heap.size w w' := by
  have e1 : (10 : Int) ≤ (n : Int) := by omega
  have hc : Hid (dtx (n / 10) ++ dtx (n % 10) = dtx n) := Lib.hid (dtx_cut ⟨n, by omega⟩ h0)
  have hr := fun w => refDec1_any (n % 10) (by omega) w
  have hl1 := dtx_len (n / 10)
  have hl2 := dtx_len (n % 10)
  obtain ⟨q, hqe⟩ : ∃ q, n / 10 = q := ⟨_, rfl⟩
  obtain ⟨r, hre⟩ : ∃ r, n % 10 = r := ⟨_, rfl⟩
  rw [hqe] at hq hc hl1
  rw [hre] at hr hc hl2
  have m1 : (n : Int).tdiv 10 = (q : Int) := by rw [Int.tdiv_eq_ediv_of_nonneg (by omega)]; omega
  have m2 : (n : Int) / 10 = (q : Int) := by omega
  have m3 : (n : Int).tmod 10 = (r : Int) := by rw [Int.tmod_eq_emod_of_nonneg (by omega)]; omega
  have m4 : (n : Int) % 10 = (r : Int) := by omega
  have p1 : ∀ wx, (Op.stringOp .add (ofL (dtx q)) (ofL (dtx r))).run Tryz.prog wx = .ok (.string (ofL (dtx n))) wx := fun wx => str_add (by omega) hc.out wx
  have HQ := Lib.hid hq
  have HR := Lib.hid hr
  clear hq hr hl1 hl2 hqe hre
  go_enter Tryz.func49, Tryz.ntmps49
  go_wp2_with fail
  refine (HQ.out _).mono ?_
  rintro e w2 ⟨rfl, b2⟩
  have B2 := Lib.hid b2
  clear b2
  go_wp2_with fail
  refine (HR.out _).mono ?_
  rintro e w3 ⟨rfl, b3⟩
  have B3 := Lib.hid (st B2.out b3 B2.out.size)
  clear b3
  go_wp2
  go_ret
  exact ⟨rfl, B3.out⟩
theorem refDec_any (n : Nat) (hn : n ≤ 100) (w : World) :
    Calls Tryz.prog 49 #[.int .i64 n] w fun e w' => e = .returned (.string (ofL (dtx n))) ∧ Below w.heap.size w w' := by
  by_cases h1 : n < 10
  · exact refDec1_any n h1 w
  · by_cases h2 : n < 100
    · exact refDec2_any n (by omega) hn (fun w => refDec1_any (n / 10) (by omega) w) w
    · have e : n = 100 := by omega
      subst e
      exact refDec2_any 100 (by omega) hn (fun w => refDec2_any 10 (by omega) (by omega) (fun w => refDec1_any 1 (by omega) w) w) w
end Go.Proofs.YtnabklhkalnpiaaGreatDoor
