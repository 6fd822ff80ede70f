/- ref.Same; the law DiffMetric. -/
import Derived.Test.YtcnjomkddbbopaaMo
namespace Go.Proofs.Ytcnjomkddbbopaa
open Go.RowKit
set_option linter.unusedVariables false

theorem dist_le (a b : List Str) : 0 ≤ dist a b ∧ dist a b ≤ a.length + b.length := by
  have h1 := lcs_le_left a b
  have h2 := lcs_le_right a b
  unfold dist
  omega
theorem dist_zero (a b : List Str) : dist a b = 0 ↔ a = b := by
  unfold dist
  constructor
  · intro h
    exact lcs_full (by omega)
  · intro h
    subst h
    rw [lcs_self]
    omega
theorem dist_comm (a b : List Str) : dist a b = dist b a := by
  unfold dist
  rw [lcs_comm a b]
  omega
theorem dist_third (a b c : List Str) : dist a c ≤ dist a b + dist b c := by
  have := lcs_third a b c
  unfold dist
  omega

theorem takeT_snoc (l : List Str) (k : Nat) (h : k < l.length) : l.take (k + 1) = l.take k ++ [l[k]] := List.take_succ_eq_append_getElem h

set_option maxRecDepth 1000000 in
set_option maxHeartbeats 400000 in
theorem same_any (u v : Value) (l r : List Str) (w : World) (hu : Rd 1 encT w u l) (hv : Rd 1 encT w v r) (B : Bool) (hB : B = true ↔ l = r) :
    Calls Try.prog 25 #[u, v] w (Drn w (.bool B)) := by
  obtain ⟨a, c, rfl, hc1, hc2⟩ := hu.slice
  obtain ⟨a', c', rfl, hc3, hc4⟩ := hv.slice
  have HU := Lib.hid hu; clear hu
  have HV := Lib.hid hv; clear hv
  have HB := Lib.hid hB; clear hB
  by_cases hlen : l.length = r.length
  · go_enter Try.func25, Try.ntmps25
    go_wp2
    go_loopw [5] (fun i wr => ∃ k n : Nat, k ≤ l.length ∧ l.take k = r.take k ∧ i = .int .i64 k ∧ wr = w.drewN n) (fun i _ => l.length - (intOf i).toNat)
    case atStart => exact ⟨0, 0, Nat.zero_le _, rfl, rfl, rfl⟩
    case round =>
      obtain ⟨k, n, hk, ht, rfl, rfl⟩ := hrel
      have Ht := Lib.hid ht; clear ht
      by_cases hlt : k < l.length
      · obtain ⟨bk, off, rfl, h1⟩ := HU.out.str k hlt
        obtain ⟨bk', off', rfl, h2⟩ := HV.out.str k (by omega)
        have h3 : (k : Int) < (l.length : Int) := by omega
        have h5 : (k : Int) < (r.length : Int) := by omega
        have h4 : (0 : Int) ≤ (k : Int) := by omega
        have HA := Lib.hid (takeT_snoc l k hlt)
        have HBB := Lib.hid (takeT_snoc r k (by omega))
        obtain ⟨x, hxk⟩ : ∃ x, l[k] = x := ⟨_, rfl⟩
        obtain ⟨y, hyk⟩ : ∃ y, r[k]'(by omega) = y := ⟨_, rfl⟩
        rw [hxk] at h1 HA
        rw [hyk] at h2 HBB
        by_cases hxy : x = y
        · have R := Lib.hid (show l.take (k + 1) = r.take (k + 1) by rw [HA.out, HBB.out, Ht.out, hxy])
          clear hxk hyk
          subst hxy
          go_wp2
          go_quiet (fail)
          go_wp2
          go_roundw
          case rel => exact ⟨k + 1, _, by omega, R.out, by go_num, rfl⟩
          case measure => simp [intOf]; omega
        · have R := Lib.hid (show B = false from by
            cases B
            · rfl
            · exact absurd (by rw [← hxk, ← hyk]; congr 1; exact HB.out.1 rfl) hxy)
          clear hxk hyk
          obtain ⟨q1, q2⟩ := str_ne hxy
          clear hxy
          go_wp2
          go_quiet (fail)
          go_wp2
          go_ret
          exact ⟨ret_bool R.out.symm, by simp only [World.drewN_drewN]; exact ⟨_, rfl⟩⟩
      · obtain rfl : k = l.length := by omega
        have HN := Lib.hid hlen
        have q : ¬ (l.length : Int) < (l.length : Int) := by omega
        go_wp2
        go_ret
        refine ⟨ret_bool ?_, _, rfl⟩
        have h := Ht.out
        rw [List.take_length, HN.out, List.take_length] at h
        exact (HB.out.2 h).symm
  · have Hne := Lib.hid (show B = false from by
      cases B
      · rfl
      · exact absurd (by rw [HB.out.1 rfl]) hlen)
    have q1 : ((l.length : Int) == (r.length : Int)) = false := by rw [beq_eq_false_iff_ne]; omega
    have q2 : ((l.length : Int) != (r.length : Int)) = true := by rw [bne_iff_ne]; omega
    have q3 : (l.length == r.length) = false := by rw [beq_eq_false_iff_ne]; exact hlen
    have q4 : (l.length != r.length) = true := by rw [bne_iff_ne]; exact hlen
    clear hlen
    go_enter Try.func25, Try.ntmps25
    go_wp2
    go_ret
    exact ⟨ret_bool Hne.out.symm, 0, rfl⟩
theorem same_yes (u v : Value) (l : List Str) (w : World) (hu : Rd 1 encT w u l) (hv : Rd 1 encT w v l) : Calls Try.prog 25 #[u, v] w (Drn w (.bool true)) := same_any u v l l w hu hv true ⟨fun _ => rfl, fun _ => rfl⟩
theorem same_no (u v : Value) (l r : List Str) (w : World) (hu : Rd 1 encT w u l) (hv : Rd 1 encT w v r) (h : l ≠ r) : Calls Try.prog 25 #[u, v] w (Drn w (.bool false)) := same_any u v l r w hu hv false ⟨(fun h => by cases h), (fun h' => absurd h' h)⟩

/-! ### DiffMetric -/
set_option maxRecDepth 1000000 in
set_option maxHeartbeats 1000000 in
theorem diffMetric_walk (a1 : Option Addr) (n1 c1 : Nat) (a : List Str) (a2 : Option Addr) (n2 c2 : Nat) (b : List Str) (a3 : Option Addr) (n3 c3 : Nat) (c : List Str) (w : World)
    (hs1 : IsStrs w a1 n1 c1 a) (hs2 : IsStrs w a2 n2 c2 b) (hs3 : IsStrs w a3 n3 c3 c) :
    Calls Try.prog 8 #[.slice a1 n1 c1, .slice a2 n2 c2, .slice a3 n3 c3] w fun e w' => e = .returned (.bool true) ∧ Below w.heap.size w w' := by
  obtain ⟨rfl, hr1⟩ := hs1
  obtain ⟨rfl, hr2⟩ := hs2
  obtain ⟨rfl, hr3⟩ := hs3
  have H1 := Lib.hid hr1; clear hr1
  have H2 := Lib.hid hr2; clear hr2
  have H3 := Lib.hid hr3; clear hr3
  go_enter Try.func8, Try.ntmps8
  go_wp2_with fail
  refine (awake_any _).mono ?_
  rintro e w1 ⟨rfl, B1⟩
  have R1 := Lib.hid (H1.out.below B1)
  have R2 := Lib.hid (H2.out.below B1)
  have R3 := Lib.hid (H3.out.below B1)
  have HB := Lib.hid B1
  have z1 := B1.size
  clear B1 H1 H2 H3
  by_cases f1 : Few a
  case neg =>
    go_wp2_with fail
    refine (few_no _ _ _ R1.out f1).mono ?_
    rintro e w' ⟨rfl, h⟩
    obtain rfl := h.symm
    go_wp2
    go_ret
    exact ⟨rfl, HB.out⟩
  go_wp2_with fail
  refine (few_yes _ _ _ R1.out f1).mono ?_
  rintro e w' ⟨rfl, h⟩
  obtain rfl := h.symm
  by_cases f2 : Few b
  case neg =>
    go_wp2_with fail
    refine (few_no _ _ _ R2.out f2).mono ?_
    rintro e w' ⟨rfl, h⟩
    obtain rfl := h.symm
    go_wp2
    go_ret
    exact ⟨rfl, HB.out⟩
  go_wp2_with fail
  refine (few_yes _ _ _ R2.out f2).mono ?_
  rintro e w' ⟨rfl, h⟩
  obtain rfl := h.symm
  by_cases f3 : Few c
  case neg =>
    go_wp2_with fail
    refine (few_no _ _ _ R3.out f3).mono ?_
    rintro e w' ⟨rfl, h⟩
    obtain rfl := h.symm
    go_wp2
    go_ret
    exact ⟨rfl, HB.out⟩
  go_wp2_with fail
  refine (few_yes _ _ _ R3.out f3).mono ?_
  rintro e w' ⟨rfl, h⟩
  obtain rfl := h.symm
  go_wp2_with fail
  refine (distance_any _ _ a b _ R1.out R2.out f1.sizes f2.sizes).mono ?_
  rintro e w2 ⟨rfl, B2⟩
  have S1 := Lib.hid (R1.out.below B2)
  have S2 := Lib.hid (R2.out.below B2)
  have S3 := Lib.hid (R3.out.below B2)
  have HB2 := Lib.hid (st HB.out B2 z1)
  have z2 := HB2.out.size
  clear B2 R1 R2 R3 HB z1
  go_wp2_with fail
  refine (distance_any _ _ b c _ S2.out S3.out f2.sizes f3.sizes).mono ?_
  rintro e w3 ⟨rfl, B3⟩
  have R1 := Lib.hid (S1.out.below B3)
  have R2 := Lib.hid (S2.out.below B3)
  have R3 := Lib.hid (S3.out.below B3)
  have HB3 := Lib.hid (st HB2.out B3 z2)
  have z3 := HB3.out.size
  clear B3 S1 S2 S3 HB2 z2
  go_wp2_with fail
  refine (distance_any _ _ a c _ R1.out R3.out f1.sizes f3.sizes).mono ?_
  rintro e w4 ⟨rfl, B4⟩
  have S1 := Lib.hid (R1.out.below B4)
  have S2 := Lib.hid (R2.out.below B4)
  have HB4 := Lib.hid (st HB3.out B4 z3)
  have z4 := HB4.out.size
  clear B4 R1 R2 R3 HB3 z3
  have k1 := dist_le a b
  have k2 := dist_le b c
  have k3 := dist_le a c
  have HC := Lib.hid (dist_comm a b)
  have k4 := dist_third a b c
  have HZ := Lib.hid (dist_zero a b)
  have l1 := f1.1
  have l2 := f2.1
  have l3 := f3.1
  have F1 := Lib.hid f1.sizes
  have F2 := Lib.hid f2.sizes
  clear f1 f2 f3
  obtain ⟨d1, hd1⟩ : ∃ d, dist a b = d := ⟨_, rfl⟩
  obtain ⟨d2, hd2⟩ : ∃ d, dist b c = d := ⟨_, rfl⟩
  obtain ⟨d3, hd3⟩ : ∃ d, dist a c = d := ⟨_, rfl⟩
  rw [hd1] at k1 k4 HC HZ ⊢
  rw [hd2] at k2 k4 ⊢
  rw [hd3] at k3 k4 ⊢
  clear hd1 hd2 hd3
  have g1 : 0 ≤ d1 ∧ d1 ≤ 60 := by omega
  have g2 : 0 ≤ d2 ∧ d2 ≤ 60 := by omega
  have g3 : 0 ≤ d3 ∧ d3 ≤ 60 := by omega
  clear k1 k2 k3
  obtain ⟨g11, g12⟩ := g1
  obtain ⟨g21, g22⟩ := g2
  obtain ⟨g31, g32⟩ := g3
  by_cases hab : a = b
  · have h0 := HZ.out.2 hab
    subst hab
    subst h0
    have k5 : d3 ≤ d2 := by omega
    clear HZ
    go_wp2_with fail
    refine (same_yes _ _ a _ S1.out S2.out).mono ?_
    rintro e w' ⟨rfl, m, rfl⟩
    have HB5 := Lib.hid (below_drewN HB4.out m)
    go_wp2_with fail
    refine (distance_any _ _ a a _ (S2.out.drewN m) (S1.out.drewN m) F2.out F1.out).mono ?_
    rw [← HC.out]
    rintro e w5 ⟨rfl, B5⟩
    have HB6 := Lib.hid (st HB5.out B5 (by simpa using z4))
    clear B5 HB5
    go_wp2
    go_ret
    exact ⟨rfl, HB6.out⟩
  · have h0 : d1 ≠ 0 := fun h => hab (HZ.out.1 h)
    have q1 : (d1 == 0) = false := by rw [beq_eq_false_iff_ne]; exact h0
    clear HZ
    go_wp2_with fail
    refine (same_no _ _ a b _ S1.out S2.out hab).mono ?_
    rintro e w' ⟨rfl, m, rfl⟩
    have HB5 := Lib.hid (below_drewN HB4.out m)
    go_wp2_with fail
    refine (distance_any _ _ b a _ (S2.out.drewN m) (S1.out.drewN m) F2.out F1.out).mono ?_
    rw [← HC.out]
    rintro e w5 ⟨rfl, B5⟩
    have HB6 := Lib.hid (st HB5.out B5 (by simpa using z4))
    clear B5 HB5
    go_wp2
    go_ret
    exact ⟨rfl, HB6.out⟩
end Go.Proofs.Ytcnjomkddbbopaa
