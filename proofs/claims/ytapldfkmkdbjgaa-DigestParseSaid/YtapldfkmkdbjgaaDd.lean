/- counted, seal, Sum (both); Same. -/
import Derived.Test.YtapldfkmkdbjgaaDc
namespace Go.Proofs.Ytapldfkmkdbjgaa
open Go.RowKit
set_option linter.unusedVariables false

/-- The digest of bytes from a number, with the eight bytes of their number behind. -/
def cnt (h : Int) (l : List UInt8) : Int := dig (dig h l) (le8 l.length)
theorem cnt_num {h : Int} (hh : Num h) (l : List UInt8) : Num (cnt h l) := dig_num (dig_num hh l) _
def NumPost (w : World) (n : Int) (e : Ending) (w' : World) : Prop := e = .returned (.int .u64 n) ∧ Below w.heap.size w w'
theorem len_num {l : List UInt8} (h : l.length ≤ 140737488355328) : Num (l.length : Int) := ⟨by omega, by omega⟩
theorem RdB.slice {w : World} {v : Value} {l : List UInt8} (h : RdB w v l) : ∃ a c, v = .slice a l.length c := by
  obtain ⟨_, ⟨a, c, hv, _⟩, _⟩ := h
  exact ⟨a, c, hv⟩
theorem le8_rd {w : World} {base : Nat} {v : Value} {n : Int} (h : w.ownsRow base 5 1 v (le8 n).length (byteCells (le8 n))) : RdB w v (le8 n) := RdB.of_own h (by rw [le8_length]; omega)

set_option maxRecDepth 1000000 in
set_option maxHeartbeats 400000 in
theorem counted_any (h : Int) (v : Value) (l : List UInt8) (w : World) (hv : RdB w v l) :
    Calls Try.prog 25 #[.int .u64 h, v] w (NumPost w (cnt h l)) := by
  have hl := hv.len
  obtain ⟨a, c, rfl⟩ := hv.slice
  have Hv := Lib.hid hv; clear hv
  have Hn := Lib.hid (len_num hl)
  go_enter Try.func25, Try.ntmps25
  go_wp2_with fail
  refine (from_any h _ l _ Hv.out).mono ?_
  rintro e w' ⟨rfl, rfl⟩
  go_wp2_with fail
  refine (eight_any _ _ Hn.out).mono ?_
  rintro e w1 ⟨u, rfl, hu, hb1⟩
  have Hu := Lib.hid hu; clear hu
  go_wp2_with fail
  refine (from_any _ _ _ _ (le8_rd Hu.out)).mono ?_
  rintro e w' ⟨rfl, rfl⟩
  go_wp2
  go_ret
  exact ⟨rfl, hb1⟩

set_option maxRecDepth 1000000 in
set_option maxHeartbeats 400000 in
theorem refSeal_num (h : Int) (v : Value) (l : List UInt8) (w : World) (hv : RdB w v l) :
    Calls Try.prog 26 #[.int .u64 h, v] w (NumPost w (cnt h l)) := by
  have hl := hv.len
  obtain ⟨a, c, rfl⟩ := hv.slice
  have Hv := Lib.hid hv; clear hv
  have Hn := Lib.hid (len_num hl)
  go_enter Try.func26, Try.ntmps26
  go_wp2_with fail
  refine (refFrom_any h _ l _ Hv.out).mono ?_
  rintro e w' ⟨rfl, rfl⟩
  go_wp2_with fail
  refine (refEight_any _ _ Hn.out).mono ?_
  rintro e w1 ⟨u, rfl, hu, hb1⟩
  have Hu := Lib.hid hu; clear hu
  go_wp2_with fail
  refine (refFrom_any _ _ _ _ (le8_rd Hu.out)).mono ?_
  rintro e w' ⟨rfl, rfl⟩
  go_wp2
  go_ret
  exact ⟨rfl, hb1⟩

def start : Int := 109270082352485
theorem start_num : Num start := by unfold start; exact ⟨by omega, by omega⟩
set_option maxRecDepth 1000000 in
theorem sum_any (v : Value) (l : List UInt8) (w : World) (hv : RdB w v l) :
    Calls Try.prog 13 #[v] w (NumPost w (cnt start l)) := by
  have Hv := Lib.hid hv; clear hv
  go_enter Try.func13, Try.ntmps13
  go_wp2_with fail
  refine (counted_any start _ l _ Hv.out).mono ?_
  rintro e w1 ⟨rfl, hb1⟩
  go_wp2
  go_ret
  exact ⟨rfl, hb1⟩
set_option maxRecDepth 1000000 in
theorem refSum_any (v : Value) (l : List UInt8) (w : World) (hv : RdB w v l) :
    Calls Try.prog 14 #[v] w (NumPost w (cnt start l)) := by
  have Hv := Lib.hid hv; clear hv
  go_enter Try.func14, Try.ntmps14
  go_wp2_with fail
  refine (refSeal_num start _ l _ Hv.out).mono ?_
  rintro e w1 ⟨rfl, hb1⟩
  go_wp2
  go_ret
  exact ⟨rfl, hb1⟩

/-! ### Same -/
def DrawnIs (w : World) (b : Bool) (e : Ending) (w' : World) : Prop := e = .returned (.bool b) ∧ ∃ n, w' = w.drewN n
theorem eq_of_take {l r : List UInt8} (hl : l.length = r.length) (h : l.take l.length = r.take l.length) : l = r := by
  rw [List.take_length, hl, List.take_length] at h; exact h
theorem take_step {l r : List UInt8} {k : Nat} (hk : k < l.length) (hk' : k < r.length) (h : l.take k = r.take k) (e : by8 (l[k]?.getD 0) = by8 (r[k]?.getD 0)) : l.take (k + 1) = r.take (k + 1) := by
  rw [take_snocB l k hk, take_snocB r k hk', h, by8_inj e]
theorem ne_of_at {l r : List UInt8} {k : Nat} (e : by8 (l[k]?.getD 0) ≠ by8 (r[k]?.getD 0)) : l ≠ r := fun h => e (by rw [h])

set_option maxRecDepth 1000000 in
set_option maxHeartbeats 400000 in
theorem same_any (u v : Value) (l r : List UInt8) (w : World) (hu : RdB w u l) (hv : RdB w v r) :
    Calls Try.prog 19 #[u, v] w (DrawnIs w (decide (l = r))) := by
  obtain ⟨hl, ⟨a, c, rfl, hc1, hc2, hx⟩, _⟩ := hu
  obtain ⟨hr, ⟨a', c', rfl, hc3, hc4, hy⟩, _⟩ := hv
  clear hc1 hc2 hc3 hc4
  have Hx := Lib.hid hx; clear hx
  have Hy := Lib.hid hy; clear hy
  by_cases hlen : l.length = r.length
  · go_enter Try.func19, Try.ntmps19
    go_wp2
    go_loopw [5] (fun i wr => ∃ k n : Nat, k ≤ l.length ∧ l.take k = r.take k ∧ i = .int .i64 k ∧ wr = w.drewN n) (fun i _ => l.length - (intOf i).toNat)
    case atStart => exact ⟨0, 0, Nat.zero_le _, rfl, rfl, rfl⟩
    case round =>
      obtain ⟨k, n, hk, ht, rfl, rfl⟩ := hrel
      have Ht := Lib.hid ht; clear ht
      by_cases hlt : k < l.length
      · obtain ⟨bk, off, rfl, hbl, hc⟩ := Hx.out (List.ne_nil_of_length_pos (by omega))
        obtain ⟨bk', off', rfl, hbl', hc'⟩ := Hy.out (List.ne_nil_of_length_pos (by omega))
        have h1 : w.cell? ⟨bk, off + k, none⟩ = some (.int .u8 (by8 (l[k]?.getD 0))) := by rw [← List.getD_eq_getElem?_getD]; exact hc k hlt
        have h2 : w.cell? ⟨bk', off' + k, none⟩ = some (.int .u8 (by8 (r[k]?.getD 0))) := by rw [← List.getD_eq_getElem?_getD]; exact hc' k (by omega)
        clear hc hc'
        have h3 : (k : Int) < (l.length : Int) := by omega
        have h5 : (k : Int) < (r.length : Int) := by omega
        have h4 : (0 : Int) ≤ (k : Int) := by omega
        obtain ⟨x, hxk⟩ : ∃ x, by8 (l[k]?.getD 0) = x := ⟨_, rfl⟩
        obtain ⟨y, hyk⟩ : ∃ y, by8 (r[k]?.getD 0) = y := ⟨_, rfl⟩
        rw [hxk] at h1
        rw [hyk] at h2
        by_cases hxy : x = y
        · have R := Lib.hid (take_step hlt (by omega) Ht.out (by rw [hxk, hyk, hxy]))
          clear hxk hyk
          subst hxy
          go_wp2
          go_quiet (fail)
          go_wp2
          go_roundw
          case rel => exact ⟨k + 1, _, by omega, R.out, by go_num, rfl⟩
          case measure => simp [intOf]; omega
        · have R := Lib.hid (ne_of_at (l := l) (r := r) (k := k) (by rw [hxk, hyk]; exact hxy))
          clear hxk hyk
          have q : (x != y) = true := by rw [bne_iff_ne]; exact hxy
          clear hxy
          go_wp2
          go_quiet (fail)
          go_wp2
          go_ret
          exact ⟨ret_bool (by rw [decide_eq_false R.out]), by simp only [World.drewN_drewN]; exact ⟨_, rfl⟩⟩
      · obtain rfl : k = l.length := by omega
        go_wp2
        go_ret
        exact ⟨ret_bool (by rw [decide_eq_true (eq_of_take hlen Ht.out)]), _, rfl⟩
  · have hne : l ≠ r := fun h => hlen (by rw [h])
    have Hne := Lib.hid hne; clear hne
    go_enter Try.func19, Try.ntmps19
    go_wp2
    go_ret
    exact ⟨ret_bool (by rw [decide_eq_false Hne.out]), 0, rfl⟩
end Go.Proofs.Ytapldfkmkdbjgaa
