/- String, Strings of the specification; Same; decodeInt; ReadInt. -/
import Derived.Test.YtglllbodhdgahaaPf
namespace Go.Proofs.Ytglllbodhdgahaa
open Go.RowKit
set_option linter.unusedVariables false

set_option maxRecDepth 1000000 in
theorem refString_any (s : List UInt8) (w : World) (hl : s.length ≤ 100000000) :
    Calls Try.prog 18 #[.string (ofL s)] w (OwnPost w (encS s)) := by
  obtain ⟨i0, hi, hz0, hz1, hz2⟩ := info_parts Try.infoB
  have hsz : (ofL s).size = s.length := ofL_size s
  have HI := Lib.hid (len_i64 (n := s.length) (by omega))
  go_enter Try.func18, Try.ntmps18
  go_wp2_with fail
  refine (refInt_any _ _ HI.out).mono ?_
  rintro e w1 ⟨v1, rfl, o1, b1⟩
  have z1 := b1.size
  have hle := enc_len_le (s.length : Int)
  go_wp2_with (at_builtin; go_loud (refine wpList_append_text rfl _ _ 22 9 rfl w.heap.size 5 i0 Try.underlying22 Try.underlying9 hi hz0 hz1 hz2 _ (enc (s.length : Int)) s rfl o1 rfl (by omega) z1 b1 ?_))
  · intro v2 w2 o2 b2
    have Q := Lib.hid (And.intro o2 b2); clear o2 b2 o1 b1
    go_wp2
    go_ret
    exact ⟨_, rfl, Q.out.1, Q.out.2⟩

theorem encL_len (l : List (List UInt8)) : l.length ≤ (encL l).length := by
  have h1 : ∀ l : List (List UInt8), l.length ≤ (l.map encS).flatten.length := by
    intro l
    induction l with
    | nil => simp
    | cons s l ih => have := enc_len_le (s.length : Int); simp only [List.map_cons, List.flatten_cons, List.length_append, List.length_cons, encS_length]; omega
  have := h1 l
  unfold encL
  rw [List.length_append]
  omega
def RefStrsRel (w : World) (l : List (List UInt8)) (v3 v4 : Value) (wr : World) : Prop :=
  ∃ k : Nat, k ≤ l.length ∧ v4 = .int .i64 k ∧ OwnB wr w.heap.size 5 v3 (encP l k) ∧ Below w.heap.size w wr

set_option maxRecDepth 1000000 in
set_option maxHeartbeats 400000 in
theorem refStrings_any (u : Value) (l : List (List UInt8)) (w : World) (hu : RdT w u l) (hl : (encL l).length ≤ 1000000) :
    Calls Try.prog 16 #[u] w (OwnPost w (encL l)) := by
  obtain ⟨i0, hi, hz0, hz1, hz2⟩ := info_parts Try.infoB
  obtain ⟨a, c, rfl⟩ := hu.slice
  have Hu := Lib.hid hu; clear hu
  have hll := encL_len l
  have HI := Lib.hid (len_i64 (n := l.length) (by omega))
  go_enter Try.func16, Try.ntmps16
  go_wp2_with fail
  refine (refInt_any _ _ HI.out).mono ?_
  rintro e w1 ⟨v1, rfl, o1, b1⟩
  have Q := Lib.hid (And.intro o1 b1); clear o1 b1
  go_wp2
  go_loopw [3, 4] (fun v3 v4 wr => RefStrsRel w l v3 v4 wr) (fun _ v4 _ => l.length - (intOf v4).toNat)
  case atStart => exact ⟨0, Nat.zero_le _, rfl, by rw [encP_zero]; exact Q.out.1, Q.out.2⟩
  case round =>
    obtain ⟨k, hk, rfl, hown, hB⟩ := hrel
    have zr := hB.size
    by_cases hlt : k < l.length
    · obtain ⟨bk, off, rfl, hc⟩ := ((Hu.out.below hB).at k hlt)
      have hle := encS_le_encL l k hlt
      have HS := Lib.hid (encP_step l k hlt)
      obtain ⟨s, hs⟩ : ∃ s, l.getD k [] = s := ⟨_, rfl⟩
      rw [hs] at hc HS hle
      have hsl : s.length ≤ 100000000 := by rw [encS_length] at hle; omega
      have HL : Hid ((encP l k).length + (encS s).length ≤ 140737488355328) := Lib.hid (by omega)
      have HL2 : Hid ((encS s).length ≤ 140737488355328) := Lib.hid (by omega)
      clear hs hle
      go_wp2_with fail
      refine (refString_any s _ hsl).mono ?_
      rintro e w3 ⟨v3, rfl, o3, b3⟩
      have z3 := b3.size
      have H3 := Lib.hid (o3.rd HL2.out)
      have HO := Lib.hid (hown.below b3)
      have HB := Lib.hid (st hB b3 zr)
      clear o3 b3 hown hB
      go_wp2_with (at_builtin; go_loud (refine wpList_append_many rfl _ _ 22 rfl w.heap.size 5 i0 Try.underlying22 hi hz0 hz1 hz2 _ (encP l k) (encS s) _ rfl HO.out rfl H3.out HL.out (by omega) HB.out ?_))
      · intro v4 w4 o4 b4
        have R := Lib.hid (show OwnB w4 w.heap.size 5 v4 (encP l (k + 1)) ∧ Below w.heap.size w w4 from ⟨by rw [HS.out]; exact o4, b4⟩)
        clear o4 b4
        go_wp2
        go_roundw
        case rel => exact ⟨k + 1, by omega, by go_num, R.out.1, R.out.2⟩
        case measure => simp [intOf]; omega
    · obtain rfl : k = l.length := by omega
      have HB := Lib.hid (And.intro hown hB); clear hown hB
      go_wp2
      go_ret
      have := HB.out.1
      rw [encP_all] at this
      exact ⟨_, rfl, this, HB.out.2⟩

/-! ### Same -/
def DrawnIs (w : World) (b : Bool) (e : Ending) (w' : World) : Prop := e = .returned (.bool b) ∧ ∃ n, w' = w.drewN n
theorem eq_of_take {l r : List UInt8} (hl : l.length = r.length) (h : l.take l.length = r.take l.length) : l = r := by
  rw [List.take_length, hl, List.take_length] at h; exact h
theorem take_step {l r : List UInt8} {k : Nat} (hk : k < l.length) (hk' : k < r.length) (h : l.take k = r.take k) (e : by8 (l[k]?.getD 0) = by8 (r[k]?.getD 0)) : l.take (k + 1) = r.take (k + 1) := by
  rw [take_snocB l k hk, take_snocB r k hk', h, by8_inj e]
theorem ne_of_at {l r : List UInt8} {k : Nat} (e : by8 (l[k]?.getD 0) ≠ by8 (r[k]?.getD 0)) : l ≠ r := fun h => e (by rw [h])

set_option maxRecDepth 1000000 in
set_option maxHeartbeats 400000 in
theorem same_any (u v : Value) (l r : List UInt8) (w : World) (hu : RdB w u l) (hv : RdB w v r) :
    Calls Try.prog 12 #[u, v] w (DrawnIs w (decide (l = r))) := by
  obtain ⟨hl, ⟨a, c, rfl, hc1, hc2, hx⟩, _⟩ := hu
  obtain ⟨hr, ⟨a', c', rfl, hc3, hc4, hy⟩, _⟩ := hv
  clear hc1 hc2 hc3 hc4
  have Hx := Lib.hid hx; clear hx
  have Hy := Lib.hid hy; clear hy
  by_cases hlen : l.length = r.length
  · go_enter Try.func12, Try.ntmps12
    go_wp2
    go_loopw [5] (fun i wr => ∃ k n : Nat, k ≤ l.length ∧ l.take k = r.take k ∧ i = .int .i64 k ∧ wr = w.drewN n) (fun i _ => l.length - (intOf i).toNat)
    case atStart => exact ⟨0, 0, Nat.zero_le _, rfl, rfl, rfl⟩
    case round =>
      obtain ⟨k, n, hk, ht, rfl, rfl⟩ := hrel
      have Ht := Lib.hid ht; clear ht
      by_cases hlt : k < l.length
      · obtain ⟨bk, off, rfl, hbl, hc⟩ := Hx.out (List.ne_nil_of_length_pos (by omega))
        obtain ⟨bk', off', rfl, hbl', hc'⟩ := Hy.out (List.ne_nil_of_length_pos (by omega))
        have h1 : w.cell? ⟨bk, off + k, none⟩ = some (.int .u8 (by8 (l[k]?.getD 0))) := by rw [← List.getD_eq_getElem?_getD]; exact hc k hlt
        have h2 : w.cell? ⟨bk', off' + k, none⟩ = some (.int .u8 (by8 (r[k]?.getD 0))) := by rw [← List.getD_eq_getElem?_getD]; exact hc' k (by omega)
        clear hc hc'
        have h3 : (k : Int) < (l.length : Int) := by omega
        have h5 : (k : Int) < (r.length : Int) := by omega
        have h4 : (0 : Int) ≤ (k : Int) := by omega
        obtain ⟨x, hxk⟩ : ∃ x, by8 (l[k]?.getD 0) = x := ⟨_, rfl⟩
        obtain ⟨y, hyk⟩ : ∃ y, by8 (r[k]?.getD 0) = y := ⟨_, rfl⟩
        rw [hxk] at h1
        rw [hyk] at h2
        by_cases hxy : x = y
        · have R := Lib.hid (take_step hlt (by omega) Ht.out (by rw [hxk, hyk, hxy]))
          clear hxk hyk
          subst hxy
          go_wp2
          go_quiet (fail)
          go_wp2
          go_roundw
          case rel => exact ⟨k + 1, _, by omega, R.out, by go_num, rfl⟩
          case measure => simp [intOf]; omega
        · have R := Lib.hid (ne_of_at (l := l) (r := r) (k := k) (by rw [hxk, hyk]; exact hxy))
          clear hxk hyk
          have q : (x != y) = true := by rw [bne_iff_ne]; exact hxy
          clear hxy
          go_wp2
          go_quiet (fail)
          go_wp2
          go_ret
          exact ⟨ret_bool (by rw [decide_eq_false R.out]), by simp only [World.drewN_drewN]; exact ⟨_, rfl⟩⟩
      · obtain rfl : k = l.length := by omega
        go_wp2
        go_ret
        exact ⟨ret_bool (by rw [decide_eq_true (eq_of_take hlen Ht.out)]), _, rfl⟩
  · have hne : l ≠ r := fun h => hlen (by rw [h])
    have Hne := Lib.hid hne; clear hne
    go_enter Try.func12, Try.ntmps12
    go_wp2
    go_ret
    exact ⟨ret_bool (by rw [decide_eq_false Hne.out]), 0, rfl⟩

end Go.Proofs.Ytglllbodhdgahaa
