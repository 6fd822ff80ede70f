/- SameStrings, few, awake. -/
import Derived.Test.YtglllbodhdgahaaPn
namespace Go.Proofs.Ytglllbodhdgahaa
open Go.RowKit
set_option linter.unusedVariables false

theorem str_ne {x y : List UInt8} (h : x ≠ y) : ((ofL x).toList == (ofL y).toList) = false ∧ ((ofL x).toList != (ofL y).toList) = true := by
  have h1 : (ofL x).toList ≠ (ofL y).toList := by rw [ByteArray.toList_eq, ByteArray.toList_eq]; exact h
  exact ⟨by rw [beq_eq_false_iff_ne]; exact h1, by rw [bne_iff_ne]; exact h1⟩
theorem takeT_snoc (l : List (List UInt8)) (k : Nat) (h : k < l.length) : l.take (k + 1) = l.take k ++ [l.getD k []] := by
  rw [List.take_succ_eq_append_getElem h]; simp [List.getD, List.getElem?_eq_getElem h]

set_option maxRecDepth 1000000 in
set_option maxHeartbeats 400000 in
theorem sameStrings_any (u v : Value) (l r : List (List UInt8)) (w : World) (hu : RdT w u l) (hv : RdT w v r) (hl : l.length ≤ 140737488355328) (hr : r.length ≤ 140737488355328) :
    Calls Try.prog 26 #[u, v] w (Drn w (.bool (decide (l = r)))) := by
  obtain ⟨a, c, rfl⟩ := hu.slice
  obtain ⟨a', c', rfl⟩ := hv.slice
  have HU := Lib.hid hu; clear hu
  have HV := Lib.hid hv; clear hv
  by_cases hlen : l.length = r.length
  · go_enter Try.func26, Try.ntmps26
    go_wp2
    go_loopw [5] (fun i wr => ∃ k n : Nat, k ≤ l.length ∧ l.take k = r.take k ∧ i = .int .i64 k ∧ wr = w.drewN n) (fun i _ => l.length - (intOf i).toNat)
    case atStart => exact ⟨0, 0, Nat.zero_le _, rfl, rfl, rfl⟩
    case round =>
      obtain ⟨k, n, hk, ht, rfl, rfl⟩ := hrel
      have Ht := Lib.hid ht; clear ht
      by_cases hlt : k < l.length
      · obtain ⟨bk, off, rfl, h1⟩ := HU.out.at k hlt
        obtain ⟨bk', off', rfl, h2⟩ := HV.out.at k (by omega)
        have h3 : (k : Int) < (l.length : Int) := by omega
        have h5 : (k : Int) < (r.length : Int) := by omega
        have h4 : (0 : Int) ≤ (k : Int) := by omega
        have HA := Lib.hid (takeT_snoc l k hlt)
        have HB := Lib.hid (takeT_snoc r k (by omega))
        obtain ⟨x, hxk⟩ : ∃ x, l.getD k [] = x := ⟨_, rfl⟩
        obtain ⟨y, hyk⟩ : ∃ y, r.getD k [] = y := ⟨_, rfl⟩
        rw [hxk] at h1 HA
        rw [hyk] at h2 HB
        by_cases hxy : x = y
        · have R := Lib.hid (show l.take (k + 1) = r.take (k + 1) by rw [HA.out, HB.out, Ht.out, hxy])
          clear hxk hyk
          subst hxy
          go_wp2
          go_quiet (fail)
          go_wp2
          go_roundw
          case rel => exact ⟨k + 1, _, by omega, R.out, by go_num, rfl⟩
          case measure => simp [intOf]; omega
        · have R := Lib.hid (show l ≠ r from fun e => hxy (by rw [← hxk, ← hyk, e]))
          clear hxk hyk
          obtain ⟨q1, q2⟩ := str_ne hxy
          clear hxy
          go_wp2
          go_quiet (fail)
          go_wp2
          go_ret
          exact ⟨ret_bool (by rw [decide_eq_false R.out]), by simp only [World.drewN_drewN]; exact ⟨_, rfl⟩⟩
      · obtain rfl : k = l.length := by omega
        have HN := Lib.hid hlen
        have q : ¬ (l.length : Int) < (l.length : Int) := by omega
        go_wp2
        go_ret
        refine ⟨ret_bool ?_, _, rfl⟩
        have h := Ht.out
        rw [List.take_length, HN.out, List.take_length] at h
        rw [decide_eq_true h]
  · have Hne := Lib.hid (show l ≠ r from fun h => hlen (by rw [h]))
    have q1 : ((l.length : Int) == (r.length : Int)) = false := by rw [beq_eq_false_iff_ne]; omega
    have q2 : ((l.length : Int) != (r.length : Int)) = true := by rw [bne_iff_ne]; omega
    have q3 : (l.length == r.length) = false := by rw [beq_eq_false_iff_ne]; exact hlen
    have q4 : (l.length != r.length) = true := by rw [bne_iff_ne]; exact hlen
    clear hlen
    go_enter Try.func26, Try.ntmps26
    go_wp2
    go_ret
    exact ⟨ret_bool (by rw [decide_eq_false Hne.out]), 0, rfl⟩

/-- Few strings, of few bytes. -/
def Few (l : List (List UInt8)) : Prop := l.length ≤ 30 ∧ ∀ i, i < l.length → (l.getD i []).length ≤ 200
theorem Few.enc {l : List (List UInt8)} (h : Few l) : (encL l).length ≤ 10000 := by
  have h1 : ∀ k, k ≤ l.length → (encP l k).length ≤ 9 + 209 * k := by
    intro k
    induction k with
    | zero => intro _; rw [encP_zero]; have := enc_len_le (l.length : Int); omega
    | succ k ih =>
      intro hk
      rw [encP_step l k (by omega), List.length_append, encS_length]
      have := ih (by omega)
      have := h.2 k (by omega)
      have := enc_len_le ((l.getD k []).length : Int)
      omega
  have := h1 l.length (Nat.le_refl _)
  rw [encP_all] at this
  have := h.1
  omega
theorem Few.mem {l : List (List UInt8)} (h : Few l) : ∀ s ∈ l, s.length ≤ 9223372036854775807 := by
  intro s hs
  obtain ⟨i, hi, rfl⟩ := List.getElem_of_mem hs
  have := h.2 i hi
  simp [List.getD, List.getElem?_eq_getElem hi] at this
  omega
set_option maxRecDepth 1000000 in
set_option maxHeartbeats 400000 in
theorem few_any (u : Value) (l : List (List UInt8)) (w : World) (hu : RdT w u l) (hl : l.length ≤ 9223372036854775807) (B : Bool) (hB : B = true ↔ Few l) :
    Calls Try.prog 11 #[u] w (Drn w (.bool B)) := by
  obtain ⟨a, c, rfl⟩ := hu.slice
  have HU := Lib.hid hu; clear hu
  have HB := Lib.hid hB; clear hB
  go_enter Try.func11, Try.ntmps11
  go_wp2
  go_loop [3] (fun i => ∃ k : Nat, k ≤ l.length ∧ (∀ j, j < k → (l.getD j []).length ≤ 200) ∧ i = .int .i64 k) (fun i => l.length - (intOf i).toNat)
  case atStart => exact ⟨0, Nat.zero_le _, fun j hj => absurd hj (Nat.not_lt_zero _), rfl⟩
  case round =>
    obtain ⟨k, hk, ht, rfl⟩ := hrel
    have Ht := Lib.hid ht; clear ht
    by_cases hlt : k < l.length
    · obtain ⟨bk, off, rfl, h1⟩ := HU.out.at k hlt
      have h3 : (k : Int) < (l.length : Int) := by omega
      obtain ⟨x, hxk⟩ : ∃ x, l.getD k [] = x := ⟨_, rfl⟩
      rw [hxk] at h1
      have HX := Lib.hid hxk
      have hsz : (ofL x).size = x.length := ofL_size x
      clear hxk
      by_cases hx : x.length ≤ 200
      · have q : ¬ (200 : Int) < (x.length : Int) := by omega
        have R := Lib.hid (show ∀ j, j < k + 1 → (l.getD j []).length ≤ 200 from fun j hj => by
          rcases Nat.lt_or_ge j k with h | h
          · exact Ht.out j h
          · obtain rfl : j = k := by omega
            rw [HX.out]; exact hx)
        go_wp2
        go_round
        case rel => exact ⟨k + 1, by omega, R.out, by go_num⟩
        case measure => simp [intOf]; omega
      · have q : (200 : Int) < (x.length : Int) := by omega
        have hf : B = false := by
          cases B
          · rfl
          · have := (HB.out.1 rfl).2 k hlt
            rw [HX.out] at this
            exact absurd this hx
        have HF := Lib.hid hf; clear hf
        go_wp2
        go_ret
        exact ⟨ret_bool HF.out.symm, 0, rfl⟩
    · obtain rfl : k = l.length := by omega
      by_cases h30 : l.length ≤ 30
      · have q : (l.length : Int) ≤ 30 := by omega
        have hf : B = true := HB.out.2 ⟨h30, Ht.out⟩
        have HF := Lib.hid hf; clear hf
        go_wp2
        go_ret
        exact ⟨ret_bool HF.out.symm, 0, rfl⟩
      · have q : ¬ (l.length : Int) ≤ 30 := by omega
        have hf : B = false := by
          cases B
          · rfl
          · exact absurd (HB.out.1 rfl).1 h30
        have HF := Lib.hid hf; clear hf
        go_wp2
        go_ret
        exact ⟨ret_bool HF.out.symm, 0, rfl⟩

/-! ### awake -/
def AwPost (w : World) (e : Ending) (w' : World) : Prop := e = .returned (.bool true) ∧ Below w.heap.size w w'
theorem ownB_lit3 (w : World) (a b c : UInt8) (x y z : Int) (ha : by8 a = x) (hb : by8 b = y) (hc : by8 c = z) : RdB (w.alloc (.cells #[.int .u8 x, .int .u8 y, .int .u8 z] 5)) (.slice (some ⟨w.heap.size, 0, none⟩) 3 3) [a, b, c] := by
  have := World.ownsRow_lit (e := 5) (size := 1) w #[.int .u8 x, .int .u8 y, .int .u8 z] 3 (Nat.le_refl _) (by decide) rfl
  refine RdB.of_own (base := w.heap.size) (n := 3) (e := 5) ?_ (by simp)
  rw [show byteCells [a, b, c] = [.int .u8 x, .int .u8 y, .int .u8 z] from by simp [byteCells, ha, hb, hc]]
  exact this
theorem ownB_lit4 (w : World) (a b c d : UInt8) (x y z t : Int) (ha : by8 a = x) (hb : by8 b = y) (hc : by8 c = z) (hd : by8 d = t) : RdB (w.alloc (.cells #[.int .u8 x, .int .u8 y, .int .u8 z, .int .u8 t] 5)) (.slice (some ⟨w.heap.size, 0, none⟩) 4 4) [a, b, c, d] := by
  have := World.ownsRow_lit (e := 5) (size := 1) w #[.int .u8 x, .int .u8 y, .int .u8 z, .int .u8 t] 4 (Nat.le_refl _) (by decide) rfl
  refine RdB.of_own (base := w.heap.size) (n := 4) (e := 5) ?_ (by simp)
  rw [show byteCells [a, b, c, d] = [.int .u8 x, .int .u8 y, .int .u8 z, .int .u8 t] from by simp [byteCells, ha, hb, hc, hd]]
  exact this
theorem ex300 : ([] : List UInt8) ++ enc (-300) = [18, 1, 44] := by decide +kernel
theorem exAb : ([] : List UInt8) ++ encS [97, 98] = [1, 2, 97, 98] := by decide +kernel
theorem ex205 : rdI (restOf [2, 0, 5] 0 false) = (0, 0) := by decide +kernel
theorem exEnd : endV [2, 0, 5] 0 true = 4 := by decide +kernel

set_option maxRecDepth 1000000 in
set_option maxHeartbeats 400000 in
theorem awake_any (w : World) : Calls Try.prog 10 #[] w (AwPost w) := by
  go_enter Try.func10, Try.ntmps10
  go_wp2_with fail
  refine (read_any _ [2, 0, 5] _ (ownB_lit3 w 2 0 5 2 0 5 rfl rfl rfl) (by decide)).mono ?_
  rintro e w1 ⟨g, u, rfl, hp, b1, hg⟩
  have hg' : w.heap.size ≤ g := Nat.le_trans (by simp) hg
  have B1 : Below w.heap.size w w1 := ((Below.refl _ w).alloc (Nat.le_refl _) _).trans (b1.mono (by simp))
  have z1 := B1.size
  have P1 := Lib.hid hp
  clear hp hg b1
  go_wp2_with fail
  refine (int_any _ [] (-300) _ (rdB_nil _) ⟨by omega, by omega⟩ (by decide)).mono ?_
  rw [ex300]
  rintro e w2 ⟨v2, rfl, o2, b2⟩
  have P2 := Lib.hid (P1.out.below b2)
  have B2 : Below w.heap.size w w2 := st B1 b2 z1
  have z2 := B2.size
  have R2 := Lib.hid (o2.rd (by decide))
  clear o2 b2 B1
  go_wp2_with fail
  refine (same_any _ _ [18, 1, 44] [18, 1, 44] _ (R2.out.alloc _) (ownB_lit3 w2 18 1 44 18 1 44 rfl rfl rfl)).mono ?_
  rw [decide_eq_true rfl]
  rintro e w' ⟨rfl, m, rfl⟩
  have B3 : Below w2.heap.size w2 ((w2.alloc (.cells #[.int .u8 18, .int .u8 1, .int .u8 44] 5)).drewN m) := below_drewN ((Below.refl _ w2).alloc (Nat.le_refl _) _) m
  have P3 := Lib.hid (P2.out.below B3)
  have B3' := st B2 B3 z2
  have z3 := B3'.size
  obtain ⟨wa, hwa⟩ : ∃ wa, (w2.alloc (.cells #[.int .u8 18, .int .u8 1, .int .u8 44] 5)).drewN m = wa := ⟨_, rfl⟩
  rw [hwa] at P3 B3' z3 ⊢
  clear hwa B3 B2 R2
  go_wp2_with fail
  refine (string_any _ [] [97, 98] _ (rdB_nil _) (by decide)).mono ?_
  rw [exAb]
  rintro e w4 ⟨v4, rfl, o4, b4⟩
  have P4 := Lib.hid (P3.out.below b4)
  have B4 : Below w.heap.size w w4 := st B3' b4 z3
  have z4 := B4.size
  have R4 := Lib.hid (o4.rd (by decide))
  clear o4 b4 B3'
  go_wp2_with fail
  refine (same_any _ _ [1, 2, 97, 98] [1, 2, 97, 98] _ (R4.out.alloc _) (ownB_lit4 w4 1 2 97 98 1 2 97 98 rfl rfl rfl rfl)).mono ?_
  rw [decide_eq_true rfl]
  rintro e w' ⟨rfl, m2, rfl⟩
  have B5 : Below w4.heap.size w4 ((w4.alloc (.cells #[.int .u8 1, .int .u8 2, .int .u8 97, .int .u8 98] 5)).drewN m2) := below_drewN ((Below.refl _ w4).alloc (Nat.le_refl _) _) m2
  have P5 := Lib.hid (P4.out.below B5)
  have B5' := st B4 B5 z4
  have z5 := B5'.size
  obtain ⟨wb, hwb⟩ : ∃ wb, (w4.alloc (.cells #[.int .u8 1, .int .u8 2, .int .u8 97, .int .u8 98] 5)).drewN m2 = wb := ⟨_, rfl⟩
  rw [hwb] at P5 B5' z5 ⊢
  clear hwb B5 B4 R4
  go_wp2_with fail
  refine (rint_any _ g u _ 0 false P5.out).mono ?_
  rw [ex205]
  rintro e w6 ⟨rfl, p6, b6⟩
  have P6 : Hid (PR w6 g u [2, 0, 5] 0 true) := Lib.hid (by simpa using p6)
  have B6 := B5'.trans (b6.below hg' z5)
  clear p6 b6 B5'
  go_wp2_with fail
  refine (end_any _ g u _ 0 true P6.out).mono ?_
  rw [exEnd]
  rintro e w' ⟨rfl, m3, rfl⟩
  have B7 := Lib.hid (below_drewN B6 m3)
  clear B6
  go_wp2
  go_ret
  exact ⟨rfl, B7.out⟩
end Go.Proofs.Ytglllbodhdgahaa
