/- Open (both). -/
import Derived.Test.YtapldfkmkdbjgaaDh
import Derived.Deep.RegionWith
import Derived.Deep.RegionHeld3
import Derived.Outline
namespace Go.Proofs.Ytapldfkmkdbjgaa
open Go.RowKit
set_option linter.unusedVariables false

theorem rdB_nil (w : World) : RdB w (.slice none 0 0) [] := ⟨by simp, ⟨_, 0, rfl, by simp, by omega, fun h => absurd rfl h⟩, fun n c hc => by injection hc with _ _ h3; exact h3.symm⟩
theorem RdB.take {w : World} {a : Option Addr} {n c : Nat} {l : List UInt8} (h : RdB w (.slice a n c) l) (k : Nat) (hk : k ≤ l.length) : RdB w (.slice a k c) (l.take k) := by
  obtain ⟨hl, ⟨a', c', hv, h1, h2, hx⟩, hn⟩ := h
  injection hv with e1 e2 e3
  subst e1
  subst e3
  have hlen : (l.take k).length = k := by rw [List.length_take]; omega
  refine ⟨by omega, ⟨a, c, by rw [hlen], by omega, h2, fun hne => ?_⟩, fun n' c' hc => hn n c' (by injection hc with q1 q2 q3; rw [q1, q3])⟩
  have hpos : 0 < k := by rw [← hlen]; exact List.length_pos_iff.2 hne
  obtain ⟨b, off, ha, hb, hc⟩ := hx (List.ne_nil_of_length_pos (by omega))
  refine ⟨b, off, ha, hb, fun i hi => ?_⟩
  rw [hlen] at hi
  rw [hc i (by omega)]
  simp only [List.getD_eq_getElem?_getD, List.getElem?_take]
  rw [if_pos hi]
theorem RdB.drop {w : World} {b off n c : Nat} {l : List UInt8} (h : RdB w (.slice (some ⟨b, off, none⟩) n c) l) (k : Nat) (hk : k < l.length) : RdB w (.slice (some ⟨b, off + k, none⟩) (l.length - k) (c - k)) (l.drop k) := by
  obtain ⟨hl, ⟨a', c', hv, h1, h2, hx⟩, hn⟩ := h
  injection hv with e1 e2 e3
  subst e3
  subst e2
  have hlen : (l.drop k).length = l.length - k := by rw [List.length_drop]
  refine ⟨by omega, ⟨_, c - k, by rw [hlen], by omega, by omega, fun hne => ?_⟩, fun n' c' hc => by injection hc with q1 _ _; cases q1⟩
  obtain ⟨b', off', ha, hb, hc⟩ := hx (List.ne_nil_of_length_pos (by omega))
  rw [← e1] at ha
  cases ha
  refine ⟨b, off + k, rfl, hb, fun i hi => ?_⟩
  rw [hlen] at hi
  rw [Nat.add_assoc, hc (k + i) (by omega)]
  simp only [List.getD_eq_getElem?_getD, List.getElem?_drop]
/-- Bytes turned into a string. -/
theorem conv_rd {P : Program} {S D e : TypeId} (hs : P.underlying S = some (.slice e)) (he : P.underlying e = some (.int .u8)) (hd : P.underlying D = some .string)
    {w : World} {v : Value} {l : List UInt8} (h : RdB w v l) : (convert S D v).run P w = .ok (.string ⟨l.toArray⟩) w := by
  obtain ⟨hl, ⟨a, c, rfl, h1, h2, hx⟩, hn⟩ := h
  rcases Classical.em (l = []) with h0 | h0
  · subst h0
    first
      | (rcases a with _ | a
         · exact run_convert_bytes_nil w S e hs he 0 _ D hd
         · refine run_convert_bytes_back w S D e a c [] hs he hd (fun j hj => absurd hj (by simp)))
  · obtain ⟨b, off, rfl, hb, hc⟩ := hx h0
    refine run_convert_bytes_back w S D e _ c l hs he hd (fun j hj => ?_)
    rw [add_off, hc j hj]
    simp [by8, List.getD, List.getElem?_eq_getElem hj]
theorem conv_ex {P : Program} {S D e : TypeId} (hs : P.underlying S = some (.slice e)) (he : P.underlying e = some (.int .u8)) (hd : P.underlying D = some .string)
    {w : World} {v : Value} {l : List UInt8} (h : RdB w v l) : ∃ B : ByteArray, B.toList = l ∧ (convert S D v).run P w = .ok (.string B) w := ⟨⟨l.toArray⟩, by rw [ByteArray.toList_eq], conv_rd hs he hd h⟩
theorem str_yes {A B : ByteArray} {l : List UInt8} (hA : A.toList = l) (hB : B.toList = l) : (A.toList == B.toList) = true := by rw [hA, hB, beq_self_eq_true]
theorem str_yes' {A B : ByteArray} {l : List UInt8} (hA : A.toList = l) (hB : B.toList = l) : (A.toList != B.toList) = false := by rw [hA, hB, bne_self_eq_false]
theorem str_no {A B : ByteArray} {l r : List UInt8} (hA : A.toList = l) (hB : B.toList = r) (h : l ≠ r) : (A.toList == B.toList) = false := by rw [hA, hB, beq_eq_false_iff_ne]; exact h
theorem str_no' {A B : ByteArray} {l r : List UInt8} (hA : A.toList = l) (hB : B.toList = r) (h : l ≠ r) : (A.toList != B.toList) = true := by rw [hA, hB, bne_iff_ne]; exact h
theorem rd_long {w : World} {v : Value} {l : List UInt8} (h : RdB w v l) (h8 : 8 ≤ l.length) : ∃ b off c, v = .slice (some ⟨b, off, none⟩) l.length c ∧ l.length ≤ c := by
  obtain ⟨_, ⟨a, c, rfl, hc1, hc2, hx⟩, _⟩ := h
  obtain ⟨b, off, rfl, hbl, _⟩ := hx (List.ne_nil_of_length_pos (by omega))
  exact ⟨b, off, c, rfl, hc1⟩
def OpPost (w : World) (p : List UInt8 × Int) (e : Ending) (w' : World) : Prop := ∃ v, e = .returned (.tuple #[v, .int .i64 p.2]) ∧ RdB w' v p.1 ∧ Below w.heap.size w w'
def opn (key : Int) (l : List UInt8) : List UInt8 × Int :=
  if l.length < 8 then ([], 4) else if l.drop (l.length - 8) = le8 (cnt key (l.take (l.length - 8))) then (l.take (l.length - 8), 0) else ([], 5)

set_option maxRecDepth 1000000 in
set_option maxHeartbeats 4000000 in
theorem open_any (key : Int) (v : Value) (l : List UInt8) (w : World) (hk : Num key) (hv : RdB w v l) (hl : l.length ≤ 1000) :
    Calls Try.prog 18 #[.int .u64 key, v] w (OpPost w (opn key l)) := by
  by_cases h8 : l.length < 8
  · have R : opn key l = ([], 4) := by unfold opn; rw [if_pos h8]
    obtain ⟨a, c, rfl⟩ := hv.slice
    rw [R]
    clear hv R
    go_enter Try.func18, Try.ntmps18
    go_wp2
    go_ret2
    exact ⟨_, rfl, rdB_nil _, Below.refl _ _⟩
  · have hlen : 8 ≤ l.length := by omega
    have Hk := Lib.hid hk; clear hk
    obtain ⟨i0, hi, hz0, hz1, hz2⟩ := info_parts Try.infoB
    have Hv := Lib.hid hv
    obtain ⟨b, off, c, rfl, hc1⟩ := rd_long hv hlen
    clear hv
    have ek : ((l.length : Int) - 8).toNat = l.length - 8 := by omega
    have HT := Lib.hid (Hv.out.take (l.length - 8) (by omega))
    have HT' : Hid (RdB w (.slice (some ⟨b, off, none⟩) ((l.length : Int) - 8).toNat c) (l.take (l.length - 8))) := Lib.hid (by rw [ek]; exact HT.out)
    have HD' : Hid (RdB w (.slice (some ⟨b, off + ((l.length : Int) - 8).toNat, none⟩) (l.length - ((l.length : Int) - 8).toNat) (c - ((l.length : Int) - 8).toNat)) (l.drop (l.length - 8))) := Lib.hid (by rw [ek]; exact Hv.out.drop (l.length - 8) (by omega))
    have s4 : ¬ c = ((l.length : Int) - 8).toNat := by omega
    clear ek
    have s1 : (0 : Int) ≤ (l.length : Int) - 8 := by omega
    have s2 : (l.length : Int) - 8 ≤ (l.length : Int) := by omega
    have s3 : (l.length : Int) - 8 ≤ (c : Int) := by omega
    obtain ⟨A, hA, hcv⟩ : ∃ A : ByteArray, A.toList = l.drop (l.length - 8) ∧ ∀ wx, Below w.heap.size w wx → (convert 23 9 (.slice (some ⟨b, off + ((l.length : Int) - 8).toNat, none⟩) (l.length - ((l.length : Int) - 8).toNat) (c - ((l.length : Int) - 8).toNat))).run Try.prog wx = .ok (.string A) wx :=
      ⟨⟨(l.drop (l.length - 8)).toArray⟩, by rw [ByteArray.toList_eq], fun wx hB => conv_rd Try.underlying23 Try.underlying5 Try.underlying9 (HD'.out.below hB)⟩
    have HA := Lib.hid hA; clear hA
    by_cases hq : l.drop (l.length - 8) = le8 (cnt key (l.take (l.length - 8)))
    · have R : opn key l = (l.take (l.length - 8), 0) := by unfold opn; rw [if_neg h8, if_pos hq]
      rw [R]
      clear R
      have Hq := Lib.hid hq; clear hq h8
      go_enter Try.func18, Try.ntmps18
      go_wp2
      have B0 : Below w.heap.size w w.drew := (Below.refl _ _).drew
      go_region_with (first | (go_at_call 25; refine (counted_any key _ (l.take (l.length - 8)) _ (HT'.out.drew)).mono ?_; rintro e w1 ⟨rfl, hb1⟩; have B1 : Below w.heap.size w w1 := ((Below.refl _ w).drew).trans (hb1.mono (Nat.le_refl _))) | (go_at_call 27; refine (eight_any _ _ (cnt_num Hk.out _)).mono ?_; rintro e w2 ⟨u, rfl, hu, hb2⟩; have B2 : Below w.heap.size w w2 := bthen B1 hb2 B1.size; obtain ⟨B, hB, hcu⟩ := conv_ex (P := Try.prog) Try.underlying23 Try.underlying5 Try.underlying9 (le8_rd hu); have q1 := str_yes (HA.out.trans Hq.out) hB; have q2 := str_yes' (HA.out.trans Hq.out) hB; have HB := Lib.hid hB; clear hB hu hb1 hb2))
      all_goals
        have o2 : w2.ownsRow w.heap.size 5 1 (.slice none 0 0) 0 (byteCells []) := World.ownsRow_nil _ _ _ _
        have z2 := B2.size
        have T2 := Lib.hid (HT.out.below B2)
        have T2' := Lib.hid (HT'.out.below B2)
        clear hcv hcu B0 B1
        go_wp2_with (at_builtin; first | (refine wpList_append_bytes rfl _ _ 23 rfl w.heap.size 5 i0 Try.underlying23 hi hz0 hz1 hz2 _ 0 [] (l.take (l.length - 8)) _ rfl o2 rfl T2.out ?c1 ?c2 ?_) | (refine wpList_append_bytes rfl _ _ 23 rfl w.heap.size 5 i0 Try.underlying23 hi hz0 hz1 hz2 _ 0 [] (l.take (l.length - 8)) _ rfl o2 rfl T2'.out ?c1 ?c2 ?_))
        case c1 => rw [List.length_take]; omega
        case c2 => exact z2
        · intro v3 w3 o3 g3
          have B3 : Below w.heap.size w w3 := B2.grown g3 z2 (fun k e => by cases e)
          have H3 := Lib.hid (RdB.of_own o3 (by rw [List.length_take]; omega))
          clear g3 o3
          go_wp2
          go_ret2
          exact ⟨_, rfl, H3.out, B3⟩
    · have R : opn key l = ([], 5) := by unfold opn; rw [if_neg h8, if_neg hq]
      rw [R]
      clear R
      have Hq := Lib.hid hq; clear hq h8
      go_enter Try.func18, Try.ntmps18
      go_wp2
      have B0 : Below w.heap.size w w.drew := (Below.refl _ _).drew
      go_region_with (first | (go_at_call 25; refine (counted_any key _ (l.take (l.length - 8)) _ (HT'.out.drew)).mono ?_; rintro e w1 ⟨rfl, hb1⟩; have B1 : Below w.heap.size w w1 := ((Below.refl _ w).drew).trans (hb1.mono (Nat.le_refl _))) | (go_at_call 27; refine (eight_any _ _ (cnt_num Hk.out _)).mono ?_; rintro e w2 ⟨u, rfl, hu, hb2⟩; have B2 : Below w.heap.size w w2 := bthen B1 hb2 B1.size; obtain ⟨B, hB, hcu⟩ := conv_ex (P := Try.prog) Try.underlying23 Try.underlying5 Try.underlying9 (le8_rd hu); have q1 := str_no HA.out hB Hq.out; have q2 := str_no' HA.out hB Hq.out; have HB := Lib.hid hB; clear hB hu hb1 hb2))
      all_goals
        clear hcv hcu B0 B1
        go_wp2
        go_ret2
        exact ⟨_, rfl, rdB_nil _, B2⟩

theorem same_open (key : Int) (l : List UInt8) (h8 : 8 ≤ l.length) : decide (sl key (l.take (l.length - 8)) = l) = decide (l.drop (l.length - 8) = le8 (cnt key (l.take (l.length - 8)))) := by
  rw [decide_eq_decide]
  unfold sl
  constructor
  · intro h
    have h2 := congrArg (List.drop (l.length - 8)) h
    rw [List.drop_append_of_le_length (by rw [List.length_take]; omega), List.drop_eq_nil_of_le (by rw [List.length_take]; omega), List.nil_append] at h2
    exact h2.symm
  · intro h
    rw [← h, List.take_append_drop]

set_option maxRecDepth 1000000 in
set_option maxHeartbeats 400000 in
theorem refOpen_any (key : Int) (v : Value) (l : List UInt8) (w : World) (hk : Num key) (hv : RdB w v l) (hl : l.length ≤ 1000) :
    Calls Try.prog 21 #[.int .u64 key, v] w (OpPost w (opn key l)) := by
  by_cases h8 : l.length < 8
  · have R : opn key l = ([], 4) := by unfold opn; rw [if_pos h8]
    obtain ⟨a, c, rfl⟩ := hv.slice
    rw [R]
    clear hv R
    go_enter Try.func21, Try.ntmps21
    go_wp2
    go_ret2
    exact ⟨_, rfl, rdB_nil _, Below.refl _ _⟩
  · have hlen : 8 ≤ l.length := by omega
    have Hk := Lib.hid hk; clear hk
    obtain ⟨i0, hi, hz0, hz1, hz2⟩ := info_parts Try.infoB
    have Hv := Lib.hid hv
    obtain ⟨b, off, c, rfl, hc1⟩ := rd_long hv hlen
    clear hv
    have ek : ((l.length : Int) - 8).toNat = l.length - 8 := by omega
    have HT := Lib.hid (Hv.out.take (l.length - 8) (by omega))
    have HT' : Hid (RdB w (.slice (some ⟨b, off, none⟩) ((l.length : Int) - 8).toNat c) (l.take (l.length - 8))) := Lib.hid (by rw [ek]; exact HT.out)
    clear ek
    have s1 : (0 : Int) ≤ (l.length : Int) - 8 := by omega
    have s2 : (l.length : Int) - 8 ≤ (l.length : Int) := by omega
    have s3 : (l.length : Int) - 8 ≤ (c : Int) := by omega
    have hS := same_open key l hlen
    by_cases hq : l.drop (l.length - 8) = le8 (cnt key (l.take (l.length - 8)))
    · have R : opn key l = (l.take (l.length - 8), 0) := by unfold opn; rw [if_neg h8, if_pos hq]
      rw [decide_eq_true hq] at hS
      rw [R]
      clear R
      have HS := Lib.hid hS
      clear hq h8 hS
      go_enter Try.func21, Try.ntmps21
      go_wp2_with fail
      first
        | refine (refSeal_any key _ (l.take (l.length - 8)) _ Hk.out HT.out (by rw [List.length_take]; omega)).mono ?_
        | refine (refSeal_any key _ (l.take (l.length - 8)) _ Hk.out HT'.out (by rw [List.length_take]; omega)).mono ?_
      rintro e w1 ⟨u, rfl, hu, B1⟩
      have Hu := Lib.hid (RdB.of_own hu (by rw [sl_length, List.length_take]; omega)); clear hu
      go_wp2_with fail
      refine (same_any _ _ _ _ _ Hu.out (Hv.out.below B1)).mono ?_
      rw [HS.out]
      rintro e w2 ⟨rfl, n, rfl⟩
      have o1 : (w1.drewN n).ownsRow w.heap.size 5 1 (.slice none 0 0) 0 (byteCells []) := World.ownsRow_nil _ _ _ _
      have B2 : Below w.heap.size w (w1.drewN n) := below_drewN B1 n
      have o2 : ((w1.drewN n).alloc (.cells #[] 5)).ownsRow w.heap.size 5 1 (.slice (some ⟨(w1.drewN n).heap.size, 0, none⟩) 0 0) 0 (byteCells []) := World.ownsRow_made (w1.drewN n) #[] 0 B2.size (by decide) rfl
      have B3 : Below w.heap.size w ((w1.drewN n).alloc (.cells #[] 5)) := B2.alloc B2.size _
      have T2 := Lib.hid (HT.out.below B3)
      have T2' := Lib.hid (HT'.out.below B3)
      have z3 := B3.size
      clear o1
      go_wp2_with (at_builtin; first | (refine wpList_append_bytes rfl _ _ 23 rfl w.heap.size 5 i0 Try.underlying23 hi hz0 hz1 hz2 _ 0 [] (l.take (l.length - 8)) _ rfl o2 rfl T2.out ?c1 ?c2 ?_) | (refine wpList_append_bytes rfl _ _ 23 rfl w.heap.size 5 i0 Try.underlying23 hi hz0 hz1 hz2 _ 0 [] (l.take (l.length - 8)) _ rfl o2 rfl T2'.out ?c1 ?c2 ?_))
      case c1 => rw [List.length_take]; omega
      case c2 => exact z3
      · intro v3 w3 o3 g3
        have B4 : Below w.heap.size w w3 := B3.grown g3 z3 (fun k e => (o2.lt k e).1)
        have H3 := Lib.hid (RdB.of_own o3 (by rw [List.length_take]; omega))
        clear g3 o3 o2
        go_wp2
        go_ret2
        exact ⟨_, rfl, H3.out, B4⟩
    · have R : opn key l = ([], 5) := by unfold opn; rw [if_neg h8, if_neg hq]
      rw [decide_eq_false hq] at hS
      rw [R]
      clear R
      have HS := Lib.hid hS
      clear hq h8 hS
      go_enter Try.func21, Try.ntmps21
      go_wp2_with fail
      first
        | refine (refSeal_any key _ (l.take (l.length - 8)) _ Hk.out HT.out (by rw [List.length_take]; omega)).mono ?_
        | refine (refSeal_any key _ (l.take (l.length - 8)) _ Hk.out HT'.out (by rw [List.length_take]; omega)).mono ?_
      rintro e w1 ⟨u, rfl, hu, B1⟩
      have Hu := Lib.hid (RdB.of_own hu (by rw [sl_length, List.length_take]; omega)); clear hu
      go_wp2_with fail
      refine (same_any _ _ _ _ _ Hu.out (Hv.out.below B1)).mono ?_
      rw [HS.out]
      rintro e w2 ⟨rfl, n, rfl⟩
      go_wp2
      go_ret2
      exact ⟨_, rfl, rdB_nil _, below_drewN B1 n⟩
end Go.Proofs.Ytapldfkmkdbjgaa
