/- The small functions: price, isLong, Long, few, Same. -/
import Derived.Test.YtbcpeoomkhcgnaaTb
namespace Go.Proofs.Ytbcpeoomkhcgnaa
open Go.RowKit Go.Shelf
set_option linter.unusedVariables false
attribute [local go_sem] Oper.semAt_some

theorem price_in (F : Fence) (n : Nat) (hf : F.fn 29) (hro : F.round = none) (s t : Str) (w : World) :
    CallsIn F n Try.prog 29 #[.string (ofL s), .string (ofL t)] w fun e w' => e = .returned (.int .i64 (prc s t : Int)) ∧ w' = w := by
  refine callsIn_of_wp Try.func29 rfl hf ?_ hro
  simp only [Try.ntmps29, List.size_toArray, List.length_cons, List.length_nil, Nat.reduceAdd, Nat.reduceSub, Array.replicate_succ, Array.replicate_zero, List.push_toArray, List.append_toArray, List.nil_append, List.cons_append]
  by_cases hst : s = t
  · have HP := Lib.hid (show prc s t = 0 by rw [hst, prc_self])
    subst hst
    gi_wp2
    go_ret
    exact ⟨by rw [HP.out]; rfl, rfl⟩
  · have HP := Lib.hid (show prc s t = 1 from if_neg hst)
    obtain ⟨q1, q2⟩ := str_ne hst
    clear hst
    gi_wp2
    go_ret
    exact ⟨by rw [HP.out]; rfl, rfl⟩
theorem price_any (s t : Str) (w : World) : Calls Try.prog 29 #[.string (ofL s), .string (ofL t)] w fun e w' => e = .returned (.int .i64 (prc s t : Int)) ∧ w' = w :=
  callsIn_wide.1 (price_in Fence.wide 1 trivial rfl s t w)

theorem isLong_any (a : Option Addr) (len cap : Nat) (B : Bool) (hB : decide ((400 : Int) < (len : Int)) = B) (w : World) : Calls Try.prog 27 #[.slice a len cap] w fun e w' => e = .returned (.bool B) ∧ w' = w := by
  have HB := Lib.hid hB
  clear hB
  go_enter Try.func27, Try.ntmps27
  go_wp2
  go_ret
  exact ⟨ret_bool (by have := HB.out; simpa using this), rfl⟩
def longB (l : Nat) : Bool := decide (400 < l)
theorem isLong_no (a : Option Addr) (len cap : Nat) (h : len ≤ 400) (w : World) : Calls Try.prog 27 #[.slice a len cap] w fun e w' => e = .returned (.bool false) ∧ w' = w := isLong_any a len cap false (by simp; omega) w
theorem isLong_yes (a : Option Addr) (len cap : Nat) (h : 400 < len) (w : World) : Calls Try.prog 27 #[.slice a len cap] w fun e w' => e = .returned (.bool true) ∧ w' = w := isLong_any a len cap true (by simp; omega) w
theorem long_no (a : Option Addr) (len cap : Nat) (a2 : Option Addr) (len2 cap2 : Nat) (h : len ≤ 400) (h2 : len2 ≤ 400) (w : World) : Calls Try.prog 31 #[.slice a len cap, .slice a2 len2 cap2] w fun e w' => e = .returned (.bool false) ∧ w' = w := by
  have q1 : ¬ (400 : Int) < (len : Int) := by omega
  have q2 : ¬ (400 : Int) < (len2 : Int) := by omega
  go_enter Try.func31, Try.ntmps31
  go_wp2
  go_ret
  exact ⟨rfl, rfl⟩

/-! ### few -/
abbrev Sl := Option Addr × Nat × Nat
def encL (x : Sl) : List Value := [.slice x.1 x.2.1 x.2.2]
set_option maxRecDepth 1000000 in
set_option maxHeartbeats 400000 in
theorem few_any (n : Nat) (xs : List Sl) (Bk : Nat) (hx : xs.length ≤ 10) (hn : n ≤ 1000) (w : World) (hb : Blk Bk 23 (xs.flatMap encL).toArray w) (B : Bool) (hB : B = true ↔ ∀ x ∈ xs, x.2.1 ≤ n) :
    Calls Try.prog 15 #[.int .i64 n, .slice (some ⟨Bk, 0, none⟩) xs.length xs.length] w (fun e w' => e = .returned (.bool B) ∧ w' = w) := by
  have hu : ∀ k (h : k < xs.length), w.cell? ⟨Bk, k, none⟩ = some (.slice (xs[k]).1 (xs[k]).2.1 (xs[k]).2.2) := fun k h => by
    rw [hb.cell, List.getElem?_toArray]
    have := flat_get (enc := encL) (k := 1) (fun _ => rfl) xs k _ (List.getElem?_eq_getElem h) 0 _ rfl
    simpa using this
  have HU := Lib.hid hu; clear hu hb
  have HB := Lib.hid hB; clear hB
  go_enter Try.func15, Try.ntmps15
  go_wp2
  go_loop [5] (fun i => ∃ k : Nat, k ≤ xs.length ∧ (∀ j (hj : j < xs.length), j < k → (xs[j]).2.1 ≤ n) ∧ i = .int .i64 k) (fun i => xs.length - (intOf i).toNat)
  case atStart => exact ⟨0, Nat.zero_le _, fun j _ hj => absurd hj (Nat.not_lt_zero _), rfl⟩
  case round =>
    obtain ⟨k, hk, ht, rfl⟩ := hrel
    have Ht := Lib.hid ht; clear ht
    by_cases hlt : k < xs.length
    · have h1 := HU.out k hlt
      have h3 : (k : Int) < (xs.length : Int) := by omega
      obtain ⟨x, hxk⟩ : ∃ x, xs[k] = x := ⟨_, rfl⟩
      rw [hxk] at h1
      have HX := Lib.hid hxk
      clear hxk
      obtain ⟨x1, x2, x3⟩ := x
      dsimp only at h1
      by_cases hx : x2 ≤ n
      · have q : ¬ (n : Int) < (x2 : Int) := by omega
        have R := Lib.hid (show ∀ j (hj : j < xs.length), j < k + 1 → (xs[j]).2.1 ≤ n from fun j hj hj2 => by
          rcases Nat.lt_or_ge j k with h | h
          · exact Ht.out j hj h
          · obtain rfl : j = k := by omega
            rw [HX.out]; exact hx)
        go_wp2
        go_round
        case rel => exact ⟨k + 1, by omega, R.out, by go_num⟩
        case measure => simp [intOf]; omega
      · have q : (n : Int) < (x2 : Int) := by omega
        have hf : B = false := by
          cases B
          · rfl
          · have := HB.out.1 rfl (xs[k]) (List.getElem_mem hlt)
            rw [HX.out] at this
            exact absurd this hx
        have HF := Lib.hid hf; clear hf
        go_wp2
        go_ret
        exact ⟨ret_bool HF.out.symm, rfl⟩
    · obtain rfl : k = xs.length := by omega
      have hall : B = true := HB.out.2 fun s hs => by
        obtain ⟨i, hi, rfl⟩ := List.getElem_of_mem hs
        exact Ht.out i hi hi
      have HAL := Lib.hid hall
      clear hall
      go_wp2
      go_ret
      exact ⟨ret_bool HAL.out.symm, rfl⟩
theorem few2_any (n : Nat) (hn : n ≤ 1000) (x y : Sl) (w : World) (B : Bool) (hB : B = true ↔ x.2.1 ≤ n ∧ y.2.1 ≤ n) :
    Calls Try.prog 15 #[.int .i64 n, .slice (some ⟨w.heap.size, 0, none⟩) 2 2] (w.alloc (.cells #[.slice x.1 x.2.1 x.2.2, .slice y.1 y.2.1 y.2.2] 23)) (fun e w' => e = .returned (.bool B) ∧ w' = w.alloc (.cells #[.slice x.1 x.2.1 x.2.2, .slice y.1 y.2.1 y.2.2] 23)) :=
  few_any n [x, y] w.heap.size (by simp) hn _ (Blk.new w _ _) B (by rw [hB]; simp)
theorem few3_any (n : Nat) (hn : n ≤ 1000) (x y z : Sl) (w : World) (B : Bool) (hB : B = true ↔ x.2.1 ≤ n ∧ y.2.1 ≤ n ∧ z.2.1 ≤ n) :
    Calls Try.prog 15 #[.int .i64 n, .slice (some ⟨w.heap.size, 0, none⟩) 3 3] (w.alloc (.cells #[.slice x.1 x.2.1 x.2.2, .slice y.1 y.2.1 y.2.2, .slice z.1 z.2.1 z.2.2] 23)) (fun e w' => e = .returned (.bool B) ∧ w' = w.alloc (.cells #[.slice x.1 x.2.1 x.2.2, .slice y.1 y.2.1 y.2.2, .slice z.1 z.2.1 z.2.2] 23)) :=
  few_any n [x, y, z] w.heap.size (by simp) hn _ (Blk.new w _ _) B (by rw [hB]; simp)

/-! ### Same -/
theorem takeT_snoc (l : List Str) (k : Nat) (h : k < l.length) : l.take (k + 1) = l.take k ++ [l[k]] := List.take_succ_eq_append_getElem h

set_option maxRecDepth 1000000 in
set_option maxHeartbeats 400000 in
theorem same_any (u v : Value) (l r : List Str) (w : World) (hu : Rd 1 encT w u l) (hv : Rd 1 encT w v r) (B : Bool) (hB : B = true ↔ l = r) :
    Calls Try.prog 12 #[u, v] w (Drn w (.bool B)) := by
  obtain ⟨a, c, rfl, hc1, hc2⟩ := hu.slice
  obtain ⟨a', c', rfl, hc3, hc4⟩ := hv.slice
  have HU := Lib.hid hu; clear hu
  have HV := Lib.hid hv; clear hv
  have HB := Lib.hid hB; clear hB
  by_cases hlen : l.length = r.length
  · go_enter Try.func12, Try.ntmps12
    go_wp2
    go_loopw [5] (fun i wr => ∃ k n : Nat, k ≤ l.length ∧ l.take k = r.take k ∧ i = .int .i64 k ∧ wr = w.drewN n) (fun i _ => l.length - (intOf i).toNat)
    case atStart => exact ⟨0, 0, Nat.zero_le _, rfl, rfl, rfl⟩
    case round =>
      obtain ⟨k, n, hk, ht, rfl, rfl⟩ := hrel
      have Ht := Lib.hid ht; clear ht
      by_cases hlt : k < l.length
      · obtain ⟨bk, off, rfl, h1⟩ := HU.out.str k hlt
        obtain ⟨bk', off', rfl, h2⟩ := HV.out.str k (by omega)
        have h3 : (k : Int) < (l.length : Int) := by omega
        have h5 : (k : Int) < (r.length : Int) := by omega
        have h4 : (0 : Int) ≤ (k : Int) := by omega
        have HA := Lib.hid (takeT_snoc l k hlt)
        have HBB := Lib.hid (takeT_snoc r k (by omega))
        obtain ⟨x, hxk⟩ : ∃ x, l[k] = x := ⟨_, rfl⟩
        obtain ⟨y, hyk⟩ : ∃ y, r[k]'(by omega) = y := ⟨_, rfl⟩
        rw [hxk] at h1 HA
        rw [hyk] at h2 HBB
        by_cases hxy : x = y
        · have R := Lib.hid (show l.take (k + 1) = r.take (k + 1) by rw [HA.out, HBB.out, Ht.out, hxy])
          clear hxk hyk
          subst hxy
          go_wp2
          go_quiet (fail)
          go_wp2
          go_roundw
          case rel => exact ⟨k + 1, _, by omega, R.out, by go_num, rfl⟩
          case measure => simp [intOf]; omega
        · have R := Lib.hid (show B = false from by
            cases B
            · rfl
            · exact absurd (by rw [← hxk, ← hyk]; congr 1; exact HB.out.1 rfl) hxy)
          clear hxk hyk
          obtain ⟨q1, q2⟩ := str_ne hxy
          clear hxy
          go_wp2
          go_quiet (fail)
          go_wp2
          go_ret
          exact ⟨ret_bool R.out.symm, by simp only [World.drewN_drewN]; exact ⟨_, rfl⟩⟩
      · obtain rfl : k = l.length := by omega
        have HN := Lib.hid hlen
        have q : ¬ (l.length : Int) < (l.length : Int) := by omega
        go_wp2
        go_ret
        refine ⟨ret_bool ?_, _, rfl⟩
        have h := Ht.out
        rw [List.take_length, HN.out, List.take_length] at h
        exact (HB.out.2 h).symm
  · have Hne := Lib.hid (show B = false from by
      cases B
      · rfl
      · exact absurd (by rw [HB.out.1 rfl]) hlen)
    have q1 : ((l.length : Int) == (r.length : Int)) = false := by rw [beq_eq_false_iff_ne]; omega
    have q2 : ((l.length : Int) != (r.length : Int)) = true := by rw [bne_iff_ne]; omega
    have q3 : (l.length == r.length) = false := by rw [beq_eq_false_iff_ne]; exact hlen
    have q4 : (l.length != r.length) = true := by rw [bne_iff_ne]; exact hlen
    clear hlen
    go_enter Try.func12, Try.ntmps12
    go_wp2
    go_ret
    exact ⟨ret_bool Hne.out.symm, 0, rfl⟩
theorem same_yes (u v : Value) (l : List Str) (w : World) (hu : Rd 1 encT w u l) (hv : Rd 1 encT w v l) : Calls Try.prog 12 #[u, v] w (Drn w (.bool true)) := same_any u v l l w hu hv true ⟨fun _ => rfl, fun _ => rfl⟩
theorem same_no (u v : Value) (l r : List Str) (w : World) (hu : Rd 1 encT w u l) (hv : Rd 1 encT w v r) (h : l ≠ r) : Calls Try.prog 12 #[u, v] w (Drn w (.bool false)) := same_any u v l r w hu hv false ⟨(fun h => by cases h), (fun h' => absurd h' h)⟩


end Go.Proofs.Ytbcpeoomkhcgnaa
