/- Of the reference of layer 15: Few, Group. -/
import Derived.Test.YteofkofgdhmpjaaDoorNub
namespace Go.Proofs.YteofkofgdhmpjaaDoor
open Go.RowKit
set_option linter.unusedVariables false

def fewY (x : SyN) : Bool := decide (x.de.length ≤ 20) && decide (x.gr.length ≤ 20) && decide (x.mi.length ≤ 20) && decide (x.pe.length ≤ 20)
set_option maxRecDepth 1000000 in
set_option maxHeartbeats 4000000 in
theorem few15_any (x : SyN) (w : World) : Calls Tryd.prog 6 #[.agg #[.string (ofL x.de), .string (ofL x.gr), .string (ofL x.mi), .string (ofL x.pe), .int .i64 x.pr, .int .i64 x.se]] w fun e w' => e = .returned (.bool (fewY x)) ∧ Below w.heap.size w w' := by
  obtain ⟨A, hA⟩ : ∃ A, ofL x.de = A := ⟨_, rfl⟩
  obtain ⟨B, hB⟩ : ∃ B, ofL x.gr = B := ⟨_, rfl⟩
  obtain ⟨C, hC⟩ : ∃ C, ofL x.mi = C := ⟨_, rfl⟩
  obtain ⟨D, hD⟩ : ∃ D, ofL x.pe = D := ⟨_, rfl⟩
  obtain ⟨p, hp⟩ : ∃ p, x.pr = p := ⟨_, rfl⟩
  obtain ⟨q, hq⟩ : ∃ q, x.se = q := ⟨_, rfl⟩
  obtain ⟨n1, e1⟩ : ∃ n, x.de.length = n := ⟨_, rfl⟩
  obtain ⟨n2, e2⟩ : ∃ n, x.gr.length = n := ⟨_, rfl⟩
  obtain ⟨n3, e3⟩ : ∃ n, x.mi.length = n := ⟨_, rfl⟩
  obtain ⟨n4, e4⟩ : ∃ n, x.pe.length = n := ⟨_, rfl⟩
  have z1 : A.size = n1 := by rw [← hA, ofL_size, e1]
  have z2 : B.size = n2 := by rw [← hB, ofL_size, e2]
  have z3 : C.size = n3 := by rw [← hC, ofL_size, e3]
  have z4 : D.size = n4 := by rw [← hD, ofL_size, e4]
  have HF : Hid (fewY x = (decide (n1 ≤ 20) && decide (n2 ≤ 20) && decide (n3 ≤ 20) && decide (n4 ≤ 20))) := Lib.hid (by unfold fewY; rw [e1, e2, e3, e4])
  rw [hA, hB, hC, hD, hp, hq, HF.out]
  clear hA hB hC hD hp hq e1 e2 e3 e4 HF
  have HW := Lib.hid ((Below.refl w.heap.size w).alloc (Nat.le_refl _) (.cells #[.string A, .string B, .string C, .string D, .int .i64 p, .int .i64 q] 23))
  obtain ⟨b1, hb1⟩ : ∃ b, decide (n1 ≤ 20) = b := ⟨_, rfl⟩
  obtain ⟨b2, hb2⟩ : ∃ b, decide (n2 ≤ 20) = b := ⟨_, rfl⟩
  obtain ⟨b3, hb3⟩ : ∃ b, decide (n3 ≤ 20) = b := ⟨_, rfl⟩
  obtain ⟨b4, hb4⟩ : ∃ b, decide (n4 ≤ 20) = b := ⟨_, rfl⟩
  rw [hb1, hb2, hb3, hb4]
  have k1 : decide ((n1 : Int) ≤ 20) = b1 := by rw [← hb1, decide_eq_decide]; omega
  have k2 : decide ((n2 : Int) ≤ 20) = b2 := by rw [← hb2, decide_eq_decide]; omega
  have k3 : decide ((n3 : Int) ≤ 20) = b3 := by rw [← hb3, decide_eq_decide]; omega
  have k4 : decide ((n4 : Int) ≤ 20) = b4 := by rw [← hb4, decide_eq_decide]; omega
  clear hb1 hb2 hb3 hb4
  cases b1 with
  | false =>
    go_enter Tryd.func6, Tryd.ntmps6
    go_wp2
    go_ret
    exact ⟨rfl, HW.out⟩
  | true =>
  cases b2 with
  | false =>
    go_enter Tryd.func6, Tryd.ntmps6
    go_wp2
    go_ret
    exact ⟨rfl, HW.out⟩
  | true =>
  cases b3 with
  | false =>
    go_enter Tryd.func6, Tryd.ntmps6
    go_wp2
    go_ret
    exact ⟨rfl, HW.out⟩
  | true =>
  cases b4 with
  | false =>
    go_enter Tryd.func6, Tryd.ntmps6
    go_wp2
    go_ret
    exact ⟨rfl, HW.out⟩
  | true =>
    go_enter Tryd.func6, Tryd.ntmps6
    go_wp2
    go_ret
    exact ⟨rfl, HW.out⟩
/-! ### Group -/
theorem frG_len {g : Str} {size : Nat} (hs : 0 < size) (d : Str) : ∀ (k : Nat), (frG g size d k).length ≤ (g.length + 1) * k := by
  intro k
  induction k using Nat.strongRecOn with
  | _ k ih =>
    by_cases h : k ≤ size
    · rw [frG_small h, List.length_take, Nat.add_mul]
      omega
    · rw [frG_big hs (by omega)]
      have := ih (k - size) (by omega)
      have e : (g.length + 1) * k = (g.length + 1) * (k - size) + (g.length + 1) * size := by rw [← Nat.mul_add]; congr 1; omega
      have e2 : g.length + size ≤ (g.length + 1) * size := by
        rw [Nat.add_mul, Nat.one_mul]
        have : g.length * 1 ≤ g.length * size := Nat.mul_le_mul_left _ hs
        omega
      rw [List.length_append, List.length_append, List.length_take]
      omega
theorem grp_len (x : SyN) (d : Str) : (grpR x d).length ≤ (x.gr.length + 1) * d.length := by
  unfold grpR
  have e0 : d.length ≤ (x.gr.length + 1) * d.length := by rw [Nat.add_mul]; omega
  split
  · exact e0
  · rename_i h
    have := frG_len (g := x.gr) (sizG_pos (fun k => h (.inl k))) d (d.length - x.pr.toNat)
    rw [List.length_append, List.length_append, List.length_drop]
    have e : (x.gr.length + 1) * d.length = (x.gr.length + 1) * (d.length - x.pr.toNat) + (x.gr.length + 1) * x.pr.toNat := by rw [← Nat.mul_add]; congr 1; omega
    have e2 : x.gr.length + x.pr.toNat ≤ (x.gr.length + 1) * x.pr.toNat := by
      rw [Nat.add_mul, Nat.one_mul]
      have : x.gr.length * 1 ≤ x.gr.length * x.pr.toNat := Nat.mul_le_mul_left _ (by omega)
      omega
    omega
end Go.Proofs.YteofkofgdhmpjaaDoor
