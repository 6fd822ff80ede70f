/- Of the reference: proper, a modulus that is not permitted. -/
import Derived.Test.YtnabklhkalnpiaaGreatDoorCv
namespace Go.Proofs.YtnabklhkalnpiaaGreatDoor
open Go.RowKit
set_option linter.unusedVariables false

set_option maxRecDepth 1000000 in
set_option maxHeartbeats 16000000 in
theorem proper_noMod (o m : Int) (nt : Bool) (a2 : Option Addr) (N c2 : Nat) (w : World) (h1 : ¬ o < 1) (h2 : ¬ 6 < o) (hm : m ≠ 0) (hx : okMod o m = false) :
    Calls Tryz.prog 29 #[.agg #[.int .i64 o, .int .i64 m, .bool nt, .slice a2 N c2]] w fun e w' => e = .returned (.bool false) ∧ Below w.heap.size w w' := by
  have K := Lib.hid ((Below.refl w.heap.size w).alloc (Nat.le_refl _) (.cells #[.int .i64 o, .int .i64 m, .bool nt, .slice a2 N c2] 38))
  have KB := Lib.hid (Blk.new w 38 #[.int .i64 o, .int .i64 m, .bool nt, .slice a2 N c2])
  obtain ⟨w1, hw1⟩ : ∃ w1, w.alloc (.cells #[.int .i64 o, .int .i64 m, .bool nt, .slice a2 N c2] 38) = w1 := ⟨_, rfl⟩
  have HMO := Lib.hid (mods_ok (o := o) (m := m) (by omega) (by omega) hm)
  rw [hx] at HMO
  have d1 := decide_eq_false h1
  have d2 := decide_eq_false h2
  have dm : (m == 0) = false := by rw [beq_eq_false_iff_ne]; exact hm
  have dm' : (m != 0) = true := by rw [bne_iff_ne]; exact hm

  clear hm hx
  go_enter Tryz.func29, Tryz.ntmps29
  go_upto_region 1 with fail
  rw [hw1] at K KB
  try rw [hw1]
  clear hw1
  have HCE : Hid (∀ wx, Below w1.heap.size w1 wx → wx.cell? ⟨w.heap.size, 0, none⟩ = some (.int .i64 o) ∧ wx.cell? ⟨w.heap.size, 1, none⟩ = some (.int .i64 m) ∧ wx.cell? ⟨w.heap.size, 3, none⟩ = some (.slice a2 (N) c2)) := Lib.hid (fun wx hb => ⟨(KB.out.below hb).cell 0, (KB.out.below hb).cell 1, (KB.out.below hb).cell 3⟩)
  obtain ⟨k0, k1, k3⟩ := HCE.out w1.drew (Below.refl _ _).drew
  first | (go_region_with (first | (go_at_call 57; refine (mods_any o _).mono ?_; rintro e w5 ⟨⟨v5, rfl, r5⟩, b5⟩; have B5 : Below w1.heap.size w1 w5 := (Below.refl _ w1).drew.trans b5; have R5 := Lib.hid r5; obtain ⟨k5, k6, k7⟩ := HCE.out _ B5; clear b5 r5) | (go_at_call 56; refine (has_any _ _ m _ R5.out).mono ?_; rw [HMO.out]; rintro e w' ⟨rfl, hw'⟩; obtain rfl := hw'.symm))) | fail
  all_goals
    go_wp2
    go_ret
    exact ⟨rfl, st K.out B5 K.out.size⟩
end Go.Proofs.YtnabklhkalnpiaaGreatDoor
