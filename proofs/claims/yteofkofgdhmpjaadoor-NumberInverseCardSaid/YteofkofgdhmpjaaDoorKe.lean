/- Of the program: trimEnd, integer, zeros, concat. -/
import Derived.Test.YteofkofgdhmpjaaDoorKd
namespace Go.Proofs.YteofkofgdhmpjaaDoor
open Go.RowKit
set_option linter.unusedVariables false

theorem getD_get {l : Str} {i : Nat} (h : i < l.length) : l.getD i 0 = l[i] := by
  rw [List.getD_eq_getElem?_getD, List.getElem?_eq_getElem h]; rfl
theorem tl_yes {l : Str} {p : Nat} (h : p < l.length) (h2 : l[p] = 48) : tl l (p + 1) = tl l p := by rw [tl, if_pos (by rw [getD_get h, h2]; rfl)]
theorem tl_no {l : Str} {p : Nat} (h : p < l.length) (h2 : l[p] ≠ 48) : tl l (p + 1) = p + 1 := by rw [tl, if_neg (by rw [getD_get h]; simpa using h2)]
theorem u8_eq48 (c : UInt8) : c = 48 ↔ (c.toNat : Int) = 48 := by
  constructor
  · rintro rfl; rfl
  · intro h; exact u8_ext (by show c.toNat = 48; omega)
set_option maxRecDepth 1000000 in
set_option maxHeartbeats 2000000 in
theorem trimEnd_any (a : Option Addr) (n c : Nat) (l : Str) (w : World) (hv : RdB w (.slice a n c) l) (hl : l.length ≤ 1000) :
    Calls Tryd.prog 59 #[.slice a n c] w fun e w' => e = .returned (.slice a (trim l).length c) ∧ w' = w := by
  have hn := hv.len
  obtain ⟨_, _, hs, hc1, hc2⟩ := hv.slice
  cases hs
  have HV := Lib.hid hv
  clear hv hn
  go_enter Tryd.func59, Tryd.ntmps59
  go_wp2
  go_loop [3] (fun v3 => ∃ k : Nat, k ≤ l.length ∧ v3 = .int .i64 k ∧ tl l k = tl l l.length) (fun v3 => (intOf v3).toNat)
  case atStart => exact ⟨l.length, Nat.le_refl _, rfl, rfl⟩
  case round =>
    obtain ⟨k, hk, rfl, htl⟩ := hrel
    have HT := Lib.hid htl
    clear htl
    have g1 : (k : Int) ≤ (c : Int) := by omega
    rcases k with _ | p
    · have HF : Hid (0 = (trim l).length) := Lib.hid (by rw [trim_len_eq, ← HT.out]; rfl)
      clear HT g1 hk
      go_wp2
      go_ret
      exact ⟨by rw [← HF.out]; rfl, rfl⟩
    · obtain ⟨b, off, rfl, hx⟩ := HV.out.byte p hk
      have hy := u8_eq48 (l[p])
      have hb1 := u8_lt (l[p])
      obtain ⟨x, hxx⟩ : ∃ x : Int, ((l[p]).toNat : Int) = x := ⟨_, rfl⟩
      rw [hxx] at hx hy
      clear hxx hb1
      by_cases h0 : x = 48
      · have HT2 := Lib.hid (tl_yes hk (hy.2 h0))
        subst h0
        clear hy
        go_wp2
        go_round
        case rel => exact ⟨p, Nat.le_of_succ_le hk, by go_num, by rw [← HT2.out, HT.out]⟩
        case measure => simp [intOf]
      · have HT2 := Lib.hid (tl_no hk (fun e => h0 (hy.1 e)))
        have HF : Hid (p + 1 = (trim l).length) := Lib.hid (by rw [trim_len_eq, ← HT.out, HT2.out])
        have g2 : (p : Int) + 1 ≤ (c : Int) := by omega
        have t1 : (x == 48) = false := by rw [beq_eq_false_iff_ne]; exact h0
        clear h0 HT HT2 hy
        go_wp2
        go_ret
        exact ⟨by rw [← HF.out]; show Ending.returned (Value.slice _ ((p : Int) + 1).toNat c) = _; rw [show ((p : Int) + 1).toNat = p + 1 by omega], rfl⟩
theorem val_take {l : Str} {k : Nat} (h : k < l.length) : val (l.take (k + 1)) = val (l.take k) * 10 + dg l[k] := by
  rw [List.take_succ_eq_append_getElem h, val_snoc]
set_option maxRecDepth 1000000 in
set_option maxHeartbeats 2000000 in
theorem zeros_any (n : Int) (h1 : -1000 ≤ n) (h2 : n ≤ 1000) (w : World) :
    Calls Tryd.prog 46 #[.int .i64 n] w fun e w' => ∃ v, e = .returned v ∧ OwnB w' w.heap.size v (zs n.toNat) ∧ Below w.heap.size w w' := by
  obtain ⟨iB, hiB, hzB, hkB, hbB⟩ := info_parts Tryd.infoB
  go_enter Tryd.func46, Tryd.ntmps46
  go_wp2
  go_loopw [3, 5] (fun v3 v5 wr => ∃ k : Nat, k ≤ n.toNat ∧ v5 = .int .i64 k ∧ OwnB wr w.heap.size v3 (zs k) ∧ Below w.heap.size w wr) (fun _ v5 _ => n.toNat - (intOf v5).toNat)
  case atStart => exact ⟨0, Nat.zero_le _, rfl, own1_nil _ _ _, Below.refl _ _⟩
  case round =>
    obtain ⟨k, hk, rfl, hown, hb⟩ := hrel
    have HO := Lib.hid hown
    have HB := Lib.hid hb
    have zr := hb.size
    clear hown hb
    by_cases hlt : (k : Int) < n
    · go_wp2_with (at_builtin; refine wpList_append_at (w0 := wr) (x := (48 : UInt8)) (N := wr.heap.size) rfl rfl _ _ 52 rfl w.heap.size iB _ 1 Tryd.underlying52 hiB hzB hkB hbB (by omega) rfl (by omega) encB_len encB_one _ (zs k) rfl rfl HO.out rfl (by rw [zs_len]; omega) zr ?_; intro v9 w9 y1 y2 y3)
      have HY1 := Lib.hid y1
      have HY2 := Lib.hid (HB.out.trans y2)
      clear y1 y2 y3
      go_wp2
      go_roundw
      case rel => exact ⟨k + 1, by omega, by go_num, by rw [zs_succ]; exact HY1.out, HY2.out⟩
      case measure => simp [intOf]; omega
    · go_wp2
      go_ret
      exact ⟨_, rfl, by rw [show n.toNat = k by omega]; exact HO.out, HB.out⟩
/-- Lists that read as lists of bytes. -/
def RdL (w : World) (vs : List Value) (ls : List Str) : Prop := vs.length = ls.length ∧ ∀ (i : Nat) v l, vs[i]? = some v → ls[i]? = some l → RdB w v l
theorem flat_take {ls : List Str} {k : Nat} (h : k < ls.length) : (ls.take (k + 1)).flatten = (ls.take k).flatten ++ ls[k] := by
  rw [List.take_succ_eq_append_getElem h, List.flatten_append]
  simp
theorem flat_le (ls : List Str) (k : Nat) : (ls.take k).flatten.length ≤ ls.flatten.length := by
  conv => rhs; rw [← List.take_append_drop k ls, List.flatten_append, List.length_append]
  omega
set_option maxRecDepth 1000000 in
set_option maxHeartbeats 2000000 in
theorem concat_any (v : Value) (vs : List Value) (ls : List Str) (w : World) (hv : Rd 1 encV w v vs) (hl : RdL w vs ls) (hn : ls.flatten.length ≤ 100000) (hk : ls.length ≤ 100000) :
    Calls Tryd.prog 45 #[v] w fun e w' => ∃ v, e = .returned v ∧ OwnB w' w.heap.size v ls.flatten ∧ Below w.heap.size w w' := by
  obtain ⟨iB, hiB, hzB, hkB, hbB⟩ := info_parts Tryd.infoB
  obtain ⟨hlen, hls⟩ := hl
  obtain ⟨a, c, rfl, hc1, hc2⟩ := hv.slice
  have HV := Lib.hid hv
  have HL := Lib.hid hls
  clear hv hls
  have HN := Lib.hid hlen
  clear hlen
  obtain ⟨K, hK⟩ : ∃ K, vs.length = K := ⟨_, rfl⟩
  have HK := Lib.hid hK
  rw [hK] at hc1 ⊢
  clear hK
  go_enter Tryd.func45, Tryd.ntmps45
  go_wp2
  go_loopw [3, 8] (fun v3 v8 wr => ∃ k : Nat, k ≤ K ∧ v8 = .int .i64 k ∧ OwnB wr w.heap.size v3 (ls.take k).flatten ∧ Below w.heap.size w wr) (fun _ v8 _ => K - (intOf v8).toNat)
  case atStart => exact ⟨0, Nat.zero_le _, rfl, own1_nil _ _ _, Below.refl _ _⟩
  case round =>
    obtain ⟨k, hk2, rfl, hown, hb⟩ := hrel
    have HO := Lib.hid hown
    have HB := Lib.hid hb
    have zr := hb.size
    clear hown hb
    by_cases hlt : k < K
    · have hlt2 : (k : Int) < (K : Int) := by omega
      have hkv : k < vs.length := by rw [HK.out]; exact hlt
      have hkl : k < ls.length := by rw [← HN.out]; exact hkv
      have hvr := HL.out k _ _ (List.getElem?_eq_getElem hkv) (List.getElem?_eq_getElem hkl)
      have HR := Lib.hid (hvr.below HB.out)
      obtain ⟨b, off, ha, _, hy⟩ := (HV.out.below HB.out).some_ k hkv
      subst ha
      have hy0 := hy 0 _ rfl
      rw [Nat.mul_one, Nat.add_zero] at hy0
      obtain ⟨u, hu⟩ : ∃ u, vs[k] = u := ⟨_, rfl⟩
      rw [hu] at HR hy0
      have HF := Lib.hid (flat_take hkl)
      have HZ : Hid ((ls.take k).flatten.length + (ls[k]).length ≤ 1000000000) := Lib.hid (by
        have h9 := flat_le ls (k + 1)
        rw [flat_take hkl, List.length_append] at h9
        omega)
      clear hy hvr hu
      go_wp2_with (at_builtin; refine wpList_append_rd rfl _ _ 52 rfl w.heap.size iB _ 1 Tryd.underlying52 hiB hzB hkB hbB (by omega) rfl (by omega) encB_len encB_one _ (ls.take k).flatten (ls[k]) _ rfl HO.out rfl HR.out HZ.out zr ?_; intro v9 w9 y1 y2)
      have HY1 := Lib.hid y1
      have HY2 := Lib.hid (HB.out.trans y2)
      clear y1 y2
      go_wp2
      go_roundw
      case rel => exact ⟨k + 1, by omega, by go_num, by rw [HF.out]; exact HY1.out, HY2.out⟩
      case measure => simp [intOf]; omega
    · have hlt2 : ¬ (k : Int) < (K : Int) := by omega
      have HE : Hid ((ls.take k).flatten = ls.flatten) := Lib.hid (by rw [List.take_of_length_le (by have := HK.out; have := HN.out; omega)])
      go_wp2
      go_ret
      exact ⟨_, rfl, by rw [← HE.out]; exact HO.out, HB.out⟩
end Go.Proofs.YteofkofgdhmpjaaDoor
