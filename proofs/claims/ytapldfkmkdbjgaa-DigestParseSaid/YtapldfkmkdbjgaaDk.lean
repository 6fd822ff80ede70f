/- The walks of DigestJoins, DigestParse, DigestOpen. -/
import Derived.Test.YtapldfkmkdbjgaaDj
namespace Go.Proofs.Ytapldfkmkdbjgaa
open Go.RowKit
set_option linter.unusedVariables false

set_option maxRecDepth 100000 in
set_option maxHeartbeats 1000000 in
theorem digestJoins_walk (h : Int) (a : Option Addr) (len cap : Nat) (zs : List Int) (a' : Option Addr) (len' cap' : Nat) (zs' : List Int) (w : World) (hw : (Lit.int .u64 h).wf = true) (hr : IsRow .u8 w a len cap zs) (hr' : IsRow .u8 w a' len' cap' zs') :
    Calls Try.prog 5 #[.int .u64 h, .slice a len cap, .slice a' len' cap'] w fun e w' => e = .returned (.bool true) ∧ Below w.heap.size w w' := by
  show Calls _ _ _ _ (AwPost w)
  by_cases hl : 500 < len
  · clear hr hr' hw
    go_enter Try.func5, Try.ntmps5
    go_wp2_with fail
    refine (awake_any _).mono ?_
    rintro e w1 ⟨rfl, b1⟩
    go_wp2_with fail
    refine (awake_any _).mono ?_
    rintro e w2 ⟨rfl, b2⟩
    go_wp2
    go_ret
    exact ⟨rfl, st b1 b2 b1.size⟩
  by_cases hl' : 500 < len'
  · clear hr hr' hw
    go_enter Try.func5, Try.ntmps5
    go_wp2_with fail
    refine (awake_any _).mono ?_
    rintro e w1 ⟨rfl, b1⟩
    go_wp2_with fail
    refine (awake_any _).mono ?_
    rintro e w2 ⟨rfl, b2⟩
    go_wp2
    go_ret
    exact ⟨rfl, st b1 b2 b1.size⟩
  obtain ⟨i0, hi, hz0, hz1, hz2⟩ := info_parts Try.infoB
  obtain ⟨l, rfl, hv⟩ := rdB_of_row hr (by omega)
  obtain ⟨r, rfl, hv'⟩ := rdB_of_row hr' (by omega)
  have Hv := Lib.hid hv
  have Hv' := Lib.hid hv'
  clear hr hr' hw hv hv'
  go_enter Try.func5, Try.ntmps5
  go_wp2_with fail
  refine (awake_any _).mono ?_
  rintro e w1 ⟨rfl, b1⟩
  have z1 := b1.size
  have V1 := Lib.hid (Hv.out.below b1)
  have V1' := Lib.hid (Hv'.out.below b1)
  have o1 : (w1.alloc (.cells #[] 5)).ownsRow w1.heap.size 5 1 (.slice (some ⟨w1.heap.size, 0, none⟩) 0 0) 0 (byteCells []) := World.ownsRow_made w1 #[] 0 (Nat.le_refl _) (by decide) rfl
  have c1 : Below w1.heap.size w1 (w1.alloc (.cells #[] 5)) := (Below.refl _ w1).alloc (Nat.le_refl _) _
  have y1 := c1.size
  go_wp2_with (at_builtin; go_loud (refine wpList_append_bytes rfl _ _ 23 rfl w1.heap.size 5 i0 Try.underlying23 hi hz0 hz1 hz2 _ 0 [] l _ rfl o1 rfl (V1.out.below c1) ?c1 ?c2 ?_))
  case c1 => omega
  case c2 => exact y1
  · intro v2 w2 o2 g2
    have c2 : Below w1.heap.size w1 w2 := c1.grown g2 y1 (fun k e => (o1.lt k e).1)
    have y2 := c2.size
    clear g2 o1 c1 y1
    go_wp2_with (at_builtin; go_loud (refine wpList_append_bytes rfl _ _ 23 rfl w1.heap.size 5 i0 Try.underlying23 hi hz0 hz1 hz2 _ _ _ r _ rfl o2 rfl (V1'.out.below c2) ?d1 ?d2 ?_))
    case d1 => omega
    case d2 => exact y2
    · intro v3 w3 o3 g3
      have c3 : Below w1.heap.size w1 w3 := c2.grown g3 y2 (fun k e => (o2.lt k e).1)
      have b3 := st b1 c3 z1
      have H3 := Lib.hid (RdB.of_own o3 (by rw [List.length_append]; omega))
      have V3 := Lib.hid (V1.out.below c3)
      have V3' := Lib.hid (V1'.out.below c3)
      clear g3 o2 o3 c2 c3 y2
      go_wp2_with fail
      refine (from_any h _ _ _ H3.out).mono ?_
      rintro e w' ⟨rfl, rfl⟩
      go_wp2_with fail
      refine (from_any h _ l _ V3.out).mono ?_
      rintro e w' ⟨rfl, rfl⟩
      go_wp2_with fail
      refine (from_any _ _ r _ V3'.out).mono ?_
      rintro e w' ⟨rfl, rfl⟩
      rw [← dig_append]
      clear b1
      go_wp2
      go_ret
      exact ⟨rfl, b3⟩

/-! ### Parse -/
theorem prs_len {l : List UInt8} {n : Int} (h : prs l = some n) : l.length = 16 ∧ rd 0 l = some n := by
  unfold prs at h
  split at h
  · exact ⟨‹_›, h⟩
  · cases h
theorem prs_tx {n : Int} (h : Num n) : prs (tx n) = some n := by
  unfold prs
  rw [if_pos (tx_length n), rd_tx h]

set_option maxRecDepth 100000 in
set_option maxHeartbeats 1000000 in
theorem digestParse_walk (s : ByteArray) (h : Int) (hs : s.size ≤ maxLen) (hw : (Lit.int .u64 h).wf = true) (w : World) :
    Calls Try.prog 9 #[.string s, .int .u64 h] w fun e w' => e = .returned (.bool true) ∧ Below w.heap.size w w' := by
  show Calls _ _ _ _ (AwPost w)
  clear hs
  by_cases hl : 60 < s.size
  · clear hw
    go_enter Try.func9, Try.ntmps9
    go_wp2_with fail
    refine (awake_any _).mono ?_
    rintro e w1 ⟨rfl, b1⟩
    go_wp2_with fail
    refine (awake_any _).mono ?_
    rintro e w2 ⟨rfl, b2⟩
    go_wp2
    go_ret
    exact ⟨rfl, st b1 b2 b1.size⟩
  · have Hn := Lib.hid (num_of_wf hw)
    have HL := Lib.hid hl
    have hl2 : s.size ≤ 60 := by omega
    clear hw hl
    cases hp : prs s.data.toList with
    | none =>
      have Hp := Lib.hid hp; clear hp
      go_enter Try.func9, Try.ntmps9
      go_wp2_with fail
      refine (awake_any _).mono ?_
      rintro e w1 ⟨rfl, b1⟩
      go_wp2_with fail
      refine (parse_any s _ (by omega)).mono ?_
      rw [Hp.out]
      dsimp only [prV]
      rintro e w' ⟨rfl, rfl⟩
      go_wp2_with fail
      refine (refParse_any s _ (by omega)).mono ?_
      rw [Hp.out]
      dsimp only [prV]
      rintro e w' ⟨rfl, rfl⟩
      go_wp2_with fail
      refine (text_any h _ Hn.out).mono ?_
      rintro e w2 ⟨A, rfl, hA, b2⟩
      have HA := Lib.hid hA
      have hz : A.size ≤ 1000 := by rw [← len_dataB, hA, tx_length]; omega
      clear hA
      go_wp2_with fail
      refine (parse_any A _ hz).mono ?_
      rw [HA.out, prs_tx Hn.out]
      dsimp only [prV]
      rintro e w' ⟨rfl, rfl⟩
      have b12 := st b1 b2 b1.size
      clear b1 b2
      go_wp2
      go_ret
      exact ⟨rfl, b12⟩
    | some n =>
      have Hp := Lib.hid hp; clear hp
      have hq := prs_len Hp.out
      have Ht := Lib.hid (tx_rd hq.1 hq.2)
      have HN := Lib.hid (rd_num _ 0 n ⟨by omega, by omega⟩ hq.2)
      clear hq
      go_enter Try.func9, Try.ntmps9
      go_wp2_with fail
      refine (awake_any _).mono ?_
      rintro e w1 ⟨rfl, b1⟩
      go_wp2_with fail
      refine (parse_any s _ (by omega)).mono ?_
      rw [Hp.out]
      dsimp only [prV]
      rintro e w' ⟨rfl, rfl⟩
      go_wp2_with fail
      refine (refParse_any s _ (by omega)).mono ?_
      rw [Hp.out]
      dsimp only [prV]
      rintro e w' ⟨rfl, rfl⟩
      go_wp2_with fail
      refine (text_any h _ Hn.out).mono ?_
      rintro e w2 ⟨A, rfl, hA, b2⟩
      have HA := Lib.hid hA
      have hz : A.size ≤ 1000 := by rw [← len_dataB, hA, tx_length]; omega
      clear hA
      go_wp2_with fail
      refine (parse_any A _ hz).mono ?_
      rw [HA.out, prs_tx Hn.out]
      dsimp only [prV]
      rintro e w' ⟨rfl, rfl⟩
      have b12 := st b1 b2 b1.size
      clear b1 b2
      go_wp2_with fail
      refine (text_any n _ HN.out).mono ?_
      rintro e w3 ⟨B, rfl, hB, b3⟩
      obtain rfl : B = s := bytes_ext (a := s.data) (hB.trans Ht.out)
      have b13 := st b12 b3 b12.size
      clear b12 b3 hB
      go_wp2
      go_ret
      exact ⟨rfl, b13⟩

/-! ### Open -/
set_option maxRecDepth 100000 in
set_option maxHeartbeats 1000000 in
theorem digestOpen_walk (h : Int) (a : Option Addr) (len cap : Nat) (zs : List Int) (w : World) (hw : (Lit.int .u64 h).wf = true) (hr : IsRow .u8 w a len cap zs) :
    Calls Try.prog 7 #[.int .u64 h, .slice a len cap] w fun e w' => e = .returned (.bool true) ∧ Below w.heap.size w w' := by
  show Calls _ _ _ _ (AwPost w)
  by_cases hl : 500 < len
  · clear hr hw
    go_enter Try.func7, Try.ntmps7
    go_wp2_with fail
    refine (awake_any _).mono ?_
    rintro e w1 ⟨rfl, b1⟩
    go_wp2_with fail
    refine (awake_any _).mono ?_
    rintro e w2 ⟨rfl, b2⟩
    go_wp2
    go_ret
    exact ⟨rfl, st b1 b2 b1.size⟩
  · obtain ⟨l, rfl, hv⟩ := rdB_of_row hr (by omega)
    have Hn := Lib.hid (num_of_wf hw)
    have Hv := Lib.hid hv
    obtain ⟨p, hp⟩ : ∃ p, opn h l = p := ⟨_, rfl⟩
    have Hp := Lib.hid hp
    clear hr hw hv hp
    go_enter Try.func7, Try.ntmps7
    go_wp2_with fail
    refine (awake_any _).mono ?_
    rintro e w1 ⟨rfl, b1⟩
    have V1 := Lib.hid (Hv.out.below b1)
    go_wp2_with fail
    refine (open_any h _ l _ Hn.out V1.out (by omega)).mono ?_
    rw [Hp.out]
    rintro e w2 ⟨u2, rfl, h2, b2⟩
    have H2 := Lib.hid h2; clear h2
    have V2 := Lib.hid (V1.out.below b2)
    go_wp2_with fail
    refine (open_any h _ l _ Hn.out V2.out (by omega)).mono ?_
    rw [Hp.out]
    rintro e w3 ⟨u3, rfl, h3, b3⟩
    have H3 := Lib.hid h3; clear h3
    have V3 := Lib.hid (V2.out.below b3)
    go_wp2_with fail
    refine (refOpen_any h _ l _ Hn.out V3.out (by omega)).mono ?_
    rw [Hp.out]
    rintro e w4 ⟨u4, rfl, h4, b4⟩
    have H4 := Lib.hid h4; clear h4
    have S2 := Lib.hid ((H2.out.below b3).below b4)
    have S3 := Lib.hid (H3.out.below b4)
    have b12 := st b1 b2 b1.size
    have b13 := st b12 b3 b12.size
    have b14 := st b13 b4 b13.size
    clear b1 b2 b3 b4 b12 b13
    go_wp2_with fail
    refine (same_any _ _ _ _ _ S2.out H4.out).mono ?_
    rw [decide_eq_true rfl]
    rintro e w5 ⟨rfl, n, rfl⟩
    go_wp2_with fail
    refine (same_any _ _ _ _ _ (S3.out.drewN n) (H4.out.drewN n)).mono ?_
    rw [decide_eq_true rfl]
    rintro e w6 ⟨rfl, m, rfl⟩
    go_wp2
    go_ret
    exact ⟨rfl, below_drewN b14 _⟩
end Go.Proofs.Ytapldfkmkdbjgaa
