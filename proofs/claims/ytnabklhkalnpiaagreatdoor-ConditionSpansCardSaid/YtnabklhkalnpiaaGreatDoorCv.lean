/- Of the reference: Few, Mods, has, Bound, proper, Valid. -/
import Derived.Test.YtnabklhkalnpiaaGreatDoorCu
namespace Go.Proofs.YtnabklhkalnpiaaGreatDoor
open Go.RowKit
set_option linter.unusedVariables false

def FewPost (c : Cnd) (w : World) (e : Ending) (w' : World) : Prop := (∃ b, e = .returned (.bool b) ∧ (b = true → c.length ≤ 30)) ∧ w' = w
def FewRel (n : Nat) (w : World) (v3 v4 : Value) (wr : World) : Prop := ∃ (k : Nat) (x : Int), k ≤ n ∧ v4 = .int .i64 k ∧ v3 = .int .i64 x ∧ wr = w
set_option maxRecDepth 1000000 in
set_option maxHeartbeats 2000000 in
theorem few_any (v : Value) (c : Cnd) (w : World) (hv : RdC w v c) :
    Calls Tryz.prog 10 #[v] w (FewPost c w) := by
  obtain ⟨a, cp, rfl, hc1, hc2⟩ := hv.slice
  have HU := Lib.hid hv
  clear hv
  go_enter Tryz.func10, Tryz.ntmps10
  go_wp2
  go_loopw [3, 4] (fun v3 v4 wr => FewRel c.length w v3 v4 wr) (fun _ v4 _ => c.length - (intOf v4).toNat)
  case atStart => exact ⟨0, 0, Nat.zero_le _, rfl, rfl, rfl⟩
  case round =>
    obtain ⟨k, x, hk, rfl, rfl, hw⟩ := hrel
    obtain rfl := hw.symm
    by_cases hlt : k < c.length
    · obtain ⟨bk, off, x1, x2, rfl, h0, h4⟩ := HU.out.at_ k hlt
      have h9 : (k : Int) < (c.length : Int) := by omega
      obtain ⟨m, hm⟩ : ∃ m, c[k] = m := ⟨_, rfl⟩
      rw [hm] at h0 h4
      clear hm
      have hmb : m.length ≤ 9223372036854775807 := by obtain ⟨_, _, _, q1, q2⟩ := h4.slice; omega
      have H4 := Lib.hid h4
      clear h4
      go_wp2
      go_loopw [3, 5] (fun v3 v5 wr => FewRel m.length w v3 v5 wr) (fun _ v5 _ => m.length - (intOf v5).toNat)
      case atStart => exact ⟨0, _, Nat.zero_le _, rfl, rfl, rfl⟩
      case round =>
        obtain ⟨j, x, hj, rfl, rfl, hw⟩ := hrel
        obtain rfl := hw.symm
        by_cases hjt : j < m.length
        · obtain ⟨bm, om, y1, y2, rfl, g0, g1, g2, g3, g4⟩ := H4.out.at_ j hjt
          have h9 : (j : Int) < (m.length : Int) := by omega
          clear g0 g1 g2 g4
          obtain ⟨n, hn⟩ : ∃ n, m[j].sp.length = n := ⟨_, rfl⟩
          rw [hn] at g3
          clear hn
          go_wp2
          go_roundw
          case measure => simp [intOf]; omega
          case rel => exact ⟨j + 1, _, by omega, by go_num, rfl, rfl⟩
        · obtain rfl : j = m.length := by omega
          have h3 : ¬ (m.length : Int) < (m.length : Int) := by omega
          by_cases h80 : 80 < x
          · go_wp2
            go_ret
            exact ⟨⟨false, rfl, fun h => by cases h⟩, rfl⟩
          · go_wp2
            go_roundw
            case measure => simp [intOf]; omega
            case rel => exact ⟨k + 1, _, by omega, by go_num, rfl, rfl⟩
    · obtain rfl : k = c.length := by omega
      have h3 : ¬ (c.length : Int) < (c.length : Int) := by omega
      by_cases h30 : c.length ≤ 30
      · have t : (c.length : Int) ≤ 30 := by omega
        go_wp2
        go_ret
        exact ⟨⟨true, rfl, fun _ => h30⟩, rfl⟩
      · have t : ¬ (c.length : Int) ≤ 30 := by omega
        go_wp2
        go_ret
        exact ⟨⟨false, rfl, fun h => by cases h⟩, rfl⟩
def encI (x : Int) : List Value := [.int .i64 x]
theorem encI_len (x : Int) : (encI x).length = 1 := rfl
theorem rd_ints (w : World) (l : List Int) (hl : l.length ≤ 1000) (t : TypeId) (cs : Array Value) (hcs : cs = (l.map fun x => Value.int .i64 x).toArray) : Rd 1 encI (w.alloc (.cells cs t)) (.slice (some ⟨w.heap.size, 0, none⟩) l.length l.length) l := by
  have k := Blk.new w t cs
  refine ⟨⟨_, l.length, rfl, Nat.le_refl _, by omega, fun _ => ⟨w.heap.size, 0, rfl, k.lt, fun i u hi j v hv => ?_⟩⟩, fun n c hc => by cases hc⟩
  have hj : j = 0 := by have := (List.getElem?_eq_some_iff.1 hv).1; simp [encI] at this; exact this
  subst hj
  simp [encI] at hv
  subst hv
  rw [k.cell, hcs]
  simp [hi]
def modsL (o : Int) : List Int := if o = 1 ∨ o = 2 then [2, 3, 4, 5, 6, 10, 20, 25, 50, 100] else if o = 5 ∨ o = 6 then [10, 100] else []
theorem mods_ok {o m : Int} (h1 : 1 ≤ o) (h6 : o ≤ 6) (hm : m ≠ 0) : (modsL o).any (fun x => x == m) = okMod o m := by
  rw [Bool.eq_iff_iff]
  obtain rfl | rfl | rfl | rfl | rfl | rfl : o = 1 ∨ o = 2 ∨ o = 3 ∨ o = 4 ∨ o = 5 ∨ o = 6 := by omega
  all_goals
    unfold okMod modsL
    rw [if_neg hm]
    simp [digs]
    try omega
set_option maxRecDepth 1000000 in
set_option maxHeartbeats 1000000 in
theorem mods_any (o : Int) (w : World) : Calls Tryz.prog 57 #[.int .i64 o] w fun e w' => (∃ v, e = .returned v ∧ Rd 1 encI w' v (modsL o)) ∧ Below w.heap.size w w' := by
  have H10 := Lib.hid (rd_ints w [2, 3, 4, 5, 6, 10, 20, 25, 50, 100] (by simp) 3 _ rfl)
  have H2 := Lib.hid (rd_ints w [10, 100] (by simp) 3 _ rfl)
  by_cases h1 : o = 1
  · subst h1
    go_enter Tryz.func57, Tryz.ntmps57
    go_wp2
    go_ret
    exact ⟨⟨_, rfl, H10.out⟩, (Below.refl _ w).alloc (Nat.le_refl _) _⟩
  have t1 : (o == 1) = false := by rw [beq_eq_false_iff_ne]; exact h1
  by_cases h2 : o = 2
  · subst h2
    clear h1 t1
    go_enter Tryz.func57, Tryz.ntmps57
    go_wp2
    go_ret
    exact ⟨⟨_, rfl, H10.out⟩, (Below.refl _ w).alloc (Nat.le_refl _) _⟩
  have t2 : (o == 2) = false := by rw [beq_eq_false_iff_ne]; exact h2
  by_cases h5 : o = 5
  · subst h5
    clear h1 t1 h2 t2
    go_enter Tryz.func57, Tryz.ntmps57
    go_wp2
    go_ret
    exact ⟨⟨_, rfl, H2.out⟩, (Below.refl _ w).alloc (Nat.le_refl _) _⟩
  have t5 : (o == 5) = false := by rw [beq_eq_false_iff_ne]; exact h5
  by_cases h6 : o = 6
  · subst h6
    clear h1 t1 h2 t2 h5 t5
    go_enter Tryz.func57, Tryz.ntmps57
    go_wp2
    go_ret
    exact ⟨⟨_, rfl, H2.out⟩, (Below.refl _ w).alloc (Nat.le_refl _) _⟩
  have t6 : (o == 6) = false := by rw [beq_eq_false_iff_ne]; exact h6
  have HM : Hid (modsL o = []) := Lib.hid (by unfold modsL; rw [if_neg (by omega), if_neg (by omega)])
  clear h1 h2 h5 h6
  go_enter Tryz.func57, Tryz.ntmps57
  go_wp2
  go_ret
  exact ⟨⟨_, rfl, by rw [HM.out]; exact rd_nil _⟩, Below.refl _ _⟩
theorem Rd.int {w : World} {a : Option Addr} {n c : Nat} {l : List Int} (h : Rd 1 encI w (.slice a n c) l) (i : Nat) (hi : i < l.length) : ∃ b off, a = some ⟨b, off, none⟩ ∧ w.cell? ⟨b, off + i, none⟩ = some (.int .i64 l[i]) := by
  obtain ⟨b, off, ha, _, hx⟩ := h.some_ i hi
  have := hx 0 _ rfl
  rw [Nat.mul_one, Nat.add_zero] at this
  exact ⟨b, off, ha, this⟩
set_option maxRecDepth 1000000 in
set_option maxHeartbeats 1000000 in
theorem has_any (v : Value) (l : List Int) (n : Int) (w : World) (hv : Rd 1 encI w v l) : Calls Tryz.prog 56 #[v, .int .i64 n] w fun e w' => e = .returned (.bool (l.any fun x => x == n)) ∧ w' = w := by
  obtain ⟨a, cp, rfl, hc1, hc2⟩ := hv.slice
  have HU := Lib.hid hv
  clear hv
  go_enter Tryz.func56, Tryz.ntmps56
  go_wp2
  go_loopw [5] (fun v wr => ∃ k : Nat, k ≤ l.length ∧ v = .int .i64 k ∧ (∀ (j : Nat) (hj : j < l.length), j < k → (l[j] == n) = false) ∧ wr = w) (fun v _ => l.length - (intOf v).toNat)
  case atStart => exact ⟨0, Nat.zero_le _, rfl, fun j _ h => by omega, rfl⟩
  case round =>
    obtain ⟨k, hk, rfl, hkd, hw⟩ := hrel
    obtain rfl := hw.symm
    have HK := Lib.hid hkd
    clear hkd
    by_cases hlt : k < l.length
    · obtain ⟨bk, off, rfl, h0⟩ := HU.out.int k hlt
      have h9 : (k : Int) < (l.length : Int) := by omega
      obtain ⟨x, hx⟩ : ∃ x, (l[k] == n) = x := ⟨_, rfl⟩
      have HX := Lib.hid hx
      cases x with
      | true =>
        go_wp2
        go_ret
        exact ⟨by rw [any_hit (q := fun x => x == n) hlt HX.out]; rfl, rfl⟩
      | false =>
        go_wp2
        go_roundw
        case measure => simp [intOf]; omega
        case rel => exact ⟨k + 1, by omega, by go_num, fun j hj hjk => by
          rcases Nat.lt_or_ge j k with h | h
          · exact HK.out j hj h
          · obtain rfl : j = k := by omega
            exact HX.out, (by first | rfl | trivial)⟩
    · obtain rfl : k = l.length := by omega
      have h3 : ¬ (l.length : Int) < (l.length : Int) := by omega
      go_wp2
      go_ret
      exact ⟨by rw [any_take_miss (q := fun x => x == n) HK.out]; rfl, rfl⟩
def bnd (o : Int) : Int := if digs o = true then 6 else 100
set_option maxRecDepth 1000000 in
theorem bound_any (o : Int) (w : World) : Calls Tryz.prog 58 #[.int .i64 o] w fun e w' => e = .returned (.int .i64 (bnd o)) ∧ w' = w := by
  by_cases h3 : o = 3
  · subst h3
    go_enter Tryz.func58, Tryz.ntmps58
    go_wp2
    go_ret
    exact ⟨rfl, rfl⟩
  · have t3 : (o == 3) = false := by rw [beq_eq_false_iff_ne]; exact h3
    by_cases h4 : o = 4
    · subst h4
      clear h3 t3
      go_enter Tryz.func58, Tryz.ntmps58
      go_wp2
      go_ret
      exact ⟨rfl, rfl⟩
    · have t4 : (o == 4) = false := by rw [beq_eq_false_iff_ne]; exact h4
      have H : Hid (bnd o = 100) := Lib.hid (by unfold bnd; rw [digs_false h3 h4]; rfl)
      clear h3 h4
      go_enter Tryz.func58, Tryz.ntmps58
      go_wp2
      go_ret
      exact ⟨by rw [H.out]; rfl, rfl⟩
end Go.Proofs.YtnabklhkalnpiaaGreatDoor
