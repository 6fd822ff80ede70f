/- What the row stands on, part 14. -/
import Derived.Test.YtgogcekeklelmaaDoorZkb
import Derived.Test.YtgogcekeklelmaaDoorQ13

/- The specification's Unescape; the law EscapeUnescape. -/
namespace Go.Proofs.YtgogcekeklelmaaDoor
open Go.RowKit
set_option linter.unusedVariables false

def RUnRel (st : Nat) (s : ByteArray) (w : World) (v i : Value) (wr : World) : Prop :=
  ∃ (k : Nat) (acc : List UInt8), i = .int .i64 k ∧ k ≤ s.size + 6 ∧ acc.length ≤ 4 * k ∧ wr.ownsRow w.heap.size 5 1 v acc.length (byteCells acc) ∧ Below w.heap.size w wr ∧ un st s.data.toList = jn acc k (un st (s.data.toList.drop k))
theorem run_step {st : Nat} {s : ByteArray} {w wr w1 w2 : World} {k : Nat} {acc t : List UInt8} {z m : Nat} {v v' vi : Value} (hm : m = t.length) (hk : k < s.size) (hl : acc.length ≤ 4 * k) (hB : Below w.heap.size w wr) (hB1 : Below wr.heap.size wr w1)
    (hu : un st s.data.toList = jn acc k (un st (s.data.toList.drop k))) (hr : rd st (s.data.toList.drop k) = (t, z)) (ht : t ≠ [])
    (hown : w1.ownsRow w.heap.size 5 1 v acc.length (byteCells acc))
    (h2 : w2.ownsRow w.heap.size 5 1 v' (acc.length + m) (byteCells acc ++ Lib.strCells ⟨t.toArray⟩)) (hg : w1.grownBy w2 v.ownBlock)
    (hv : vi = .int .i64 (k + z : Nat)) : RUnRel st s w v' vi w2 := by
  have hBw := hB.trans (hB1.mono hB.size)
  have h := rd_ok st (s.data.toList.drop k)
  rw [hr] at h
  obtain ⟨h1, h3, h4⟩ := h
  simp only at h1 h3 h4
  rw [List.length_drop, len_data] at h3
  have h4 := h4 ht
  refine ⟨k + z, acc ++ t, hv, by omega, by rw [List.length_append]; omega, ?_, hBw.grown hg hBw.size (fun j e => (hown.lt j e).1), ?_⟩
  · rw [List.length_append]
    have e2 : byteCells (acc ++ t) = byteCells acc ++ Lib.strCells ⟨t.toArray⟩ := by unfold byteCells; rw [List.map_append]; rfl
    rw [e2]
    rw [hm] at h2
    exact h2
  · rw [hu, un_go (drop_ne hk) (by rw [hr]; exact ht), jn_jn, hr, List.drop_drop]
theorem in2 (n : Nat) : inL n [60, 34] = (decide (n = 60) || decide (n = 34)) := by
  simp only [inL, List.any_cons, List.any_nil]
  simp [eq_comm]
theorem rd_unf (st : Nat) (l : List UInt8) : rd st l = if byt l 0 = 92 ∧ st ≠ 4 then rdB l else if byt l 0 = 10 ∧ st ≠ 4 then ([], 0) else if byt l 0 = 34 ∧ st ≠ 1 then ([], 0)
  else if byt l 0 = 38 ∧ st = 4 then rdE l else if byt l 0 = 60 ∧ st = 4 then ([], 0) else (l.take 1, 1) := rfl
theorem byt_drop (l : List UInt8) (k : Nat) : byt (l.drop k) 0 = byt l k := by
  unfold byt
  rw [List.getElem?_drop]; rfl

set_option maxRecDepth 1000000 in
set_option maxHeartbeats 8000000 in
theorem refUnescape_st (st : Nat) (s : ByteArray) (w : World) (hs : s.size ≤ 68719476736) (hst : st = 1 ∨ st = 2 ∨ st = 3 ∨ st = 4) :
    Calls Tryd.prog 28 #[.int .i64 st, .string s] w (UnPost w (un st s.data.toList)) := by
  obtain ⟨i0, hi, hz0, hz1, hz2⟩ := info_parts Tryd.infoB
  have his := isSt_nat hst
  go_enter Tryd.func28, Tryd.ntmps28
  go_wp2_with fail
  refine (style_any _ _).mono ?_
  rintro e w' ⟨rfl, rfl⟩
  rw [his]
  clear his
  go_wp2
  go_loopw [7, 8, 9, 10, 11] (fun v i c t n wr => RUnRel st s w v i wr) (fun _ i _ _ _ _ => s.size - (intOf i).toNat)
  case atStart => exact ⟨0, [], rfl, Nat.zero_le _, by simp, World.ownsRow_nil _ _ _ _, Below.refl _ _, (jn_nil _ (un_form st _ _).1 (un_form st _ _).2).symm⟩
  case round =>
    obtain ⟨k, acc, rfl, hk, hl, hown, hB, hu⟩ := hrel
    have hU := Lib.hid hu
    clear hu
    by_cases hlt : k < s.size
    · have hrd := rd_unf st (s.data.toList.drop k)
      rw [byt_drop, ← byt_getOf2 s k hlt] at hrd
      have hdl : (s.data.toList.drop k).length = s.size - k := by rw [List.length_drop, len_data]
      have hxs : (s.extract k s.size).size = s.size - k := by simp
      have hxd : (s.extract k s.size).data.toList = s.data.toList.drop k := ext_data s k
      have hx1 : (s.extract k (k + 1)).data.toList = (s.data.toList.drop k).take 1 := by rw [ext_take]; congr 1; omega
      have hne1 : (s.data.toList.drop k).take 1 ≠ [] := by
        obtain ⟨x, e, _⟩ := drop_at (l := s.data.toList) (k := k) (by rw [len_data]; exact hlt)
        rw [e]; simp
      have HX1 := Lib.hid (str_ext hx1)
      clear hx1
      have hBS := hB.size
      by_cases h4 : st = 4
      · have f4 : ((st : Int) == 4) = true := by rw [h4]; rfl
        have f4n : ((st : Int) != 4) = false := by rw [h4]; rfl
        have f2 : ((st : Int) == 2) = false := by rw [h4]; rfl
        have f3 : ((st : Int) == 3) = false := by rw [h4]; rfl
        have n4 : ¬ st ≠ 4 := fun h => h h4
        have n1 : st ≠ 1 := by omega
        by_cases c38 : (s[k]'hlt).toNat = 38
        · have q : (((s[k]'hlt).toNat : Int) == 38) = true := by rw [c38]; rfl
          have hr : rd st (s.data.toList.drop k) = rdE (s.data.toList.drop k) := by
            rw [hrd, if_neg (fun h => n4 h.2), if_neg (fun h => n4 h.2), if_neg (fun h => by omega), if_pos ⟨c38, h4⟩]
          have hcall := refAmpersand_any (s.extract k s.size) (by rw [hxd, byt_drop, ← byt_getOf2 s k hlt]; exact c38) (by omega)
          rw [hxd, ← hr] at hcall
          clear hrd hxd hr c38 hne1 h4 n4 n1 hst
          obtain ⟨t, z, hR⟩ : ∃ t z, rd st (s.data.toList.drop k) = (t, z) := ⟨_, _, rfl⟩
          have hok := rd_ok st (s.data.toList.drop k)
          rw [hR] at hok hcall
          obtain ⟨ht4, hz, hz1'⟩ := hok
          simp only at ht4 hz hz1'
          rw [hdl] at hz
          have HR := Lib.hid hR
          clear hR hdl
          by_cases h0 : t = []
          · subst h0
            rw [nz_nil] at hcall
            clear ht4 hz1'
            go_wp2_with fail
            refine (hcall _).mono ?_
            rintro e w1 ⟨rfl, D⟩
            clear hcall
            go_wp2
            go_ret3
            refine ⟨?_, hB.trans (D.mono hB.size)⟩
            rw [un_fail hlt hU.out HR.out]
            rfl
          · have hz1' := hz1' h0
            rw [nz_ne z h0] at hcall
            have HT := Lib.hid h0
            have qz : ((z : Int) == 0) = false := by simp; omega
            clear h0
            have hsz := size_mk t
            go_wp2_with fail
            refine (hcall _).mono ?_
            rintro e w1 ⟨rfl, hB1⟩
            clear hcall
            have hown1 := own_belowU hown hB1
            go_wp2_with (at_builtin; go_loud (refine Lib.wpList_append_own_string _ rfl _ _ 40 9 rfl w.heap.size 5 i0 Tryd.underlying40 Tryd.underlying9 hi hz0 hz1 hz2 _ _ _ rfl hown1 ⟨t.toArray⟩ rfl ?c1 ?c2 ?c3 ?_))
            case c1 => unfold maxLen; omega
            case c2 => omega
            case c3 => have := hB1.size; omega
            · intro v' w2 hown2 hgrow _
              have R := Lib.hid (fun vi => run_step (vi := vi) (size_mk t) hlt hl hB hB1 hU.out HR.out HT.out hown1 hown2 hgrow)
              clear hown2 hgrow hown hown1 hB hB1
              go_wp2
              go_roundw
              case rel => exact R.out _ (by go_num)
              case measure => simp [intOf]; omega
        · have q : (((s[k]'hlt).toNat : Int) == 38) = false := by simp; omega
          by_cases cb : inL (s[k]'hlt).toNat [60, 34] = true
          · have HR := Lib.hid (show rd st (s.data.toList.drop k) = ([], 0) by
              rw [in2] at cb
              rw [hrd, if_neg (fun h => n4 h.2), if_neg (fun h => n4 h.2)]
              by_cases x : (s[k]'hlt).toNat = 34
              · rw [if_pos ⟨x, n1⟩]
              · have : (s[k]'hlt).toNat = 60 := by simp at cb; omega
                rw [if_neg (fun h => x h.1), if_neg (fun h => c38 h.1), if_pos ⟨this, h4⟩])
            clear hrd hxd c38 hne1 h4 n4 n1 hst
            go_wp2_with fail
            refine (in_any (s[k]'hlt).toNat ⟨#[60, 34]⟩ (by decide) _).mono ?_
            rintro e w' ⟨rfl, rfl⟩
            rw [show (⟨#[60, 34]⟩ : ByteArray).data.toList = [60, 34] from rfl, cb]
            go_wp2
            go_ret3
            refine ⟨?_, hB⟩
            rw [un_fail hlt hU.out HR.out]
            rfl
          · have cb' := Bool.eq_false_iff.2 cb
            have HR := Lib.hid (show rd st (s.data.toList.drop k) = ((s.data.toList.drop k).take 1, 1) by
              rw [in2] at cb'
              simp at cb'
              rw [hrd, if_neg (fun h => n4 h.2), if_neg (fun h => n4 h.2), if_neg (fun h => cb'.2 h.1), if_neg (fun h => c38 h.1), if_neg (fun h => cb'.1 h.1)])
            clear hrd hxd c38 h4 n4 n1 hst cb
            have CALLIN := in_any (s[k]'hlt).toNat ⟨#[60, 34]⟩ (by decide)
            rw [show (⟨#[60, 34]⟩ : ByteArray).data.toList = [60, 34] from rfl, cb'] at CALLIN
            have HT := Lib.hid hne1
            have hsz : (s.extract k (k + 1)).size = 1 := by rw [HX1.out, size_mk, List.length_take, hdl]; omega
            have Hl1 := Lib.hid (show 1 = ((s.data.toList.drop k).take 1).length by rw [List.length_take, hdl]; omega)
            clear hne1 hdl
            go_wp2_with fail
            refine (CALLIN _).mono ?_
            rintro e w' ⟨rfl, rfl⟩
            clear CALLIN
            go_wp2_with (at_builtin; go_loud (refine Lib.wpList_append_own_string _ rfl _ _ 40 9 rfl w.heap.size 5 i0 Tryd.underlying40 Tryd.underlying9 hi hz0 hz1 hz2 _ _ _ rfl hown (s.extract k (k + 1)) rfl ?c1 ?c2 ?c3 ?_))
            case c1 => unfold maxLen; omega
            case c2 => omega
            case c3 => have := hB.size; omega
            · intro v' w2 hown2 hgrow _
              rw [HX1.out] at hown2
              have R := Lib.hid (fun vi => run_step (vi := vi) Hl1.out hlt hl hB (Below.refl _ _) hU.out HR.out HT.out hown hown2 hgrow)
              clear hown2 hgrow hown hB
              go_wp2
              go_roundw
              case rel => exact R.out _ (by go_num)
              case measure => simp [intOf]; omega
      · have f4 : ((st : Int) == 4) = false := by simp; omega
        have f4n : ((st : Int) != 4) = true := by simp; omega
        by_cases c92 : (s[k]'hlt).toNat = 92
        · have q : (((s[k]'hlt).toNat : Int) == 92) = true := by rw [c92]; rfl
          have hr : rd st (s.data.toList.drop k) = rdB (s.data.toList.drop k) := by rw [hrd, if_pos ⟨c92, h4⟩]
          have hcall := refBackslash_any (s.extract k s.size) (by omega)
          rw [hxd, ← hr] at hcall
          clear hrd hxd hr c92 hne1 h4 hst
          obtain ⟨t, z, hR⟩ : ∃ t z, rd st (s.data.toList.drop k) = (t, z) := ⟨_, _, rfl⟩
          have hok := rd_ok st (s.data.toList.drop k)
          rw [hR] at hok hcall
          obtain ⟨ht4, hz, hz1'⟩ := hok
          simp only at ht4 hz hz1'
          rw [hdl] at hz
          have HR := Lib.hid hR
          clear hR hdl
          by_cases h0 : t = []
          · subst h0
            rw [nz_nil] at hcall
            clear ht4 hz1'
            go_wp2_with fail
            refine (hcall _).mono ?_
            rintro e w1 ⟨rfl, D⟩
            clear hcall
            go_wp2
            go_ret3
            refine ⟨?_, hB.trans (D.mono hB.size)⟩
            rw [un_fail hlt hU.out HR.out]
            rfl
          · have hz1' := hz1' h0
            rw [nz_ne z h0] at hcall
            have HT := Lib.hid h0
            have qz : ((z : Int) == 0) = false := by simp; omega
            clear h0
            have hsz := size_mk t
            go_wp2_with fail
            refine (hcall _).mono ?_
            rintro e w1 ⟨rfl, hB1⟩
            clear hcall
            have hown1 := own_belowU hown hB1
            go_wp2_with (at_builtin; go_loud (refine Lib.wpList_append_own_string _ rfl _ _ 40 9 rfl w.heap.size 5 i0 Tryd.underlying40 Tryd.underlying9 hi hz0 hz1 hz2 _ _ _ rfl hown1 ⟨t.toArray⟩ rfl ?c1 ?c2 ?c3 ?_))
            case c1 => unfold maxLen; omega
            case c2 => omega
            case c3 => have := hB1.size; omega
            · intro v' w2 hown2 hgrow _
              have R := Lib.hid (fun vi => run_step (vi := vi) (size_mk t) hlt hl hB hB1 hU.out HR.out HT.out hown1 hown2 hgrow)
              clear hown2 hgrow hown hown1 hB hB1
              go_wp2
              go_roundw
              case rel => exact R.out _ (by go_num)
              case measure => simp [intOf]; omega
        · have q : (((s[k]'hlt).toNat : Int) == 92) = false := by simp; omega
          by_cases c10 : (s[k]'hlt).toNat = 10
          · have q10 : (((s[k]'hlt).toNat : Int) == 10) = true := by rw [c10]; rfl
            have HR := Lib.hid (show rd st (s.data.toList.drop k) = ([], 0) by rw [hrd, if_neg (fun h => c92 h.1), if_pos ⟨c10, h4⟩])
            clear hrd hxd c92 c10 hne1 h4 hst
            go_wp2
            go_ret3
            refine ⟨?_, hB⟩
            rw [un_fail hlt hU.out HR.out]
            rfl
          · have q10 : (((s[k]'hlt).toNat : Int) == 10) = false := by simp; omega
            by_cases c34 : (s[k]'hlt).toNat = 34
            · have q34 : (((s[k]'hlt).toNat : Int) == 34) = true := by rw [c34]; rfl
              by_cases h1 : st = 1
              · have f2 : ((st : Int) == 2) = false := by rw [h1]; rfl
                have f3 : ((st : Int) == 3) = false := by rw [h1]; rfl
                have HR := Lib.hid (show rd st (s.data.toList.drop k) = ((s.data.toList.drop k).take 1, 1) by
                  rw [hrd, if_neg (fun h => c92 h.1), if_neg (fun h => c10 h.1), if_neg (fun h => h.2 h1), if_neg (fun h => h4 h.2), if_neg (fun h => h4 h.2)])
                clear hrd hxd c92 c10 c34 h4 hst h1
                have HT := Lib.hid hne1
                have hsz : (s.extract k (k + 1)).size = 1 := by rw [HX1.out, size_mk, List.length_take, hdl]; omega
                have Hl1 := Lib.hid (show 1 = ((s.data.toList.drop k).take 1).length by rw [List.length_take, hdl]; omega)
                clear hne1 hdl
                go_wp2_with (at_builtin; go_loud (refine Lib.wpList_append_own_string _ rfl _ _ 40 9 rfl w.heap.size 5 i0 Tryd.underlying40 Tryd.underlying9 hi hz0 hz1 hz2 _ _ _ rfl hown (s.extract k (k + 1)) rfl ?c1 ?c2 ?c3 ?_))
                case c1 => unfold maxLen; omega
                case c2 => omega
                case c3 => have := hB.size; omega
                · intro v' w2 hown2 hgrow _
                  rw [HX1.out] at hown2
                  have R := Lib.hid (fun vi => run_step (vi := vi) Hl1.out hlt hl hB (Below.refl _ _) hU.out HR.out HT.out hown hown2 hgrow)
                  clear hown2 hgrow hown hB
                  go_wp2
                  go_roundw
                  case rel => exact R.out _ (by go_num)
                  case measure => simp [intOf]; omega
              · have HR := Lib.hid (show rd st (s.data.toList.drop k) = ([], 0) by rw [hrd, if_neg (fun h => c92 h.1), if_neg (fun h => c10 h.1), if_pos ⟨c34, h1⟩])
                by_cases h2 : st = 2
                · have f2 : ((st : Int) == 2) = true := by rw [h2]; rfl
                  clear hrd hxd c92 c10 c34 h4 hst h1 hne1 h2
                  go_wp2
                  go_ret3
                  refine ⟨?_, hB⟩
                  rw [un_fail hlt hU.out HR.out]
                  rfl
                · have f2 : ((st : Int) == 2) = false := by simp; omega
                  have f3 : ((st : Int) == 3) = true := by
                    have : st = 3 := by omega
                    rw [this]; rfl
                  clear hrd hxd c92 c10 c34 h4 hst h1 hne1 h2
                  go_wp2
                  go_ret3
                  refine ⟨?_, hB⟩
                  rw [un_fail hlt hU.out HR.out]
                  rfl
            · have q34 : (((s[k]'hlt).toNat : Int) == 34) = false := by simp; omega
              have HR := Lib.hid (show rd st (s.data.toList.drop k) = ((s.data.toList.drop k).take 1, 1) by
                rw [hrd, if_neg (fun h => c92 h.1), if_neg (fun h => c10 h.1), if_neg (fun h => c34 h.1), if_neg (fun h => h4 h.2), if_neg (fun h => h4 h.2)])
              by_cases h2 : st = 2
              · have f2 : ((st : Int) == 2) = true := by rw [h2]; rfl
                clear hrd hxd c92 c10 c34 h4 hst h2
                have HT := Lib.hid hne1
                have hsz : (s.extract k (k + 1)).size = 1 := by rw [HX1.out, size_mk, List.length_take, hdl]; omega
                have Hl1 := Lib.hid (show 1 = ((s.data.toList.drop k).take 1).length by rw [List.length_take, hdl]; omega)
                clear hne1 hdl
                go_wp2_with (at_builtin; go_loud (refine Lib.wpList_append_own_string _ rfl _ _ 40 9 rfl w.heap.size 5 i0 Tryd.underlying40 Tryd.underlying9 hi hz0 hz1 hz2 _ _ _ rfl hown (s.extract k (k + 1)) rfl ?c1 ?c2 ?c3 ?_))
                case c1 => unfold maxLen; omega
                case c2 => omega
                case c3 => have := hB.size; omega
                · intro v' w2 hown2 hgrow _
                  rw [HX1.out] at hown2
                  have R := Lib.hid (fun vi => run_step (vi := vi) Hl1.out hlt hl hB (Below.refl _ _) hU.out HR.out HT.out hown hown2 hgrow)
                  clear hown2 hgrow hown hB
                  go_wp2
                  go_roundw
                  case rel => exact R.out _ (by go_num)
                  case measure => simp [intOf]; omega
              · have f2 : ((st : Int) == 2) = false := by simp; omega
                by_cases h3 : st = 3
                · have f3 : ((st : Int) == 3) = true := by rw [h3]; rfl
                  clear hrd hxd c92 c10 c34 h4 hst h2 h3
                  have HT := Lib.hid hne1
                  have hsz : (s.extract k (k + 1)).size = 1 := by rw [HX1.out, size_mk, List.length_take, hdl]; omega
                  have Hl1 := Lib.hid (show 1 = ((s.data.toList.drop k).take 1).length by rw [List.length_take, hdl]; omega)
                  clear hne1 hdl
                  go_wp2_with (at_builtin; go_loud (refine Lib.wpList_append_own_string _ rfl _ _ 40 9 rfl w.heap.size 5 i0 Tryd.underlying40 Tryd.underlying9 hi hz0 hz1 hz2 _ _ _ rfl hown (s.extract k (k + 1)) rfl ?c1 ?c2 ?c3 ?_))
                  case c1 => unfold maxLen; omega
                  case c2 => omega
                  case c3 => have := hB.size; omega
                  · intro v' w2 hown2 hgrow _
                    rw [HX1.out] at hown2
                    have R := Lib.hid (fun vi => run_step (vi := vi) Hl1.out hlt hl hB (Below.refl _ _) hU.out HR.out HT.out hown hown2 hgrow)
                    clear hown2 hgrow hown hB
                    go_wp2
                    go_roundw
                    case rel => exact R.out _ (by go_num)
                    case measure => simp [intOf]; omega
                · have f3 : ((st : Int) == 3) = false := by simp; omega
                  clear hrd hxd c92 c10 c34 h4 hst h2 h3
                  have HT := Lib.hid hne1
                  have hsz : (s.extract k (k + 1)).size = 1 := by rw [HX1.out, size_mk, List.length_take, hdl]; omega
                  have Hl1 := Lib.hid (show 1 = ((s.data.toList.drop k).take 1).length by rw [List.length_take, hdl]; omega)
                  clear hne1 hdl
                  go_wp2_with (at_builtin; go_loud (refine Lib.wpList_append_own_string _ rfl _ _ 40 9 rfl w.heap.size 5 i0 Tryd.underlying40 Tryd.underlying9 hi hz0 hz1 hz2 _ _ _ rfl hown (s.extract k (k + 1)) rfl ?c1 ?c2 ?c3 ?_))
                  case c1 => unfold maxLen; omega
                  case c2 => omega
                  case c3 => have := hB.size; omega
                  · intro v' w2 hown2 hgrow _
                    rw [HX1.out] at hown2
                    have R := Lib.hid (fun vi => run_step (vi := vi) Hl1.out hlt hl hB (Below.refl _ _) hU.out HR.out HT.out hown hown2 hgrow)
                    clear hown2 hgrow hown hB
                    go_wp2
                    go_roundw
                    case rel => exact R.out _ (by go_num)
                    case measure => simp [intOf]; omega
    · have hf := conv_own (P := Tryd.prog) Tryd.underlying40 Tryd.underlying5 Tryd.underlying9 hown
      go_wp2
      go_ret3
      refine ⟨?_, hB⟩
      rw [hU.out, drop_end hlt, un_nil]
      simp [jn]
end Go.Proofs.YtgogcekeklelmaaDoor


/- Of the reference of layer 11: part, mark, word, IsWord, skip. -/
namespace Go.Proofs.YtgogcekeklelmaaDoor
open Go.RowKit
set_option linter.unusedVariables false

theorem data_drop {s : ByteArray} {k : Nat} (h : k < s.size) : s.data.toList.drop k = (s[k]'h) :: s.data.toList.drop (k + 1) := by
  have h' : k < s.data.toList.length := by rw [len_data]; exact h
  rw [List.drop_eq_getElem_cons h']
  rfl
theorem data_end {s : ByteArray} {k : Nat} (h : s.size ≤ k) : s.data.toList.drop k = [] := List.drop_of_length_le (by rw [len_data]; exact h)
def partN (b : Nat) : Bool := (decide (97 ≤ b) && decide (b ≤ 122)) || (decide (65 ≤ b) && decide (b ≤ 90)) || (decide (48 ≤ b) && decide (b ≤ 57)) || decide (b = 45) || decide (b = 95)
def mkN (b : Nat) : Bool := decide (b = 123) || decide (b = 125) || decide (b = 59)
theorem isPart_n (c : UInt8) : isPart c = partN c.toNat := rfl
set_option maxRecDepth 1000000 in
theorem part_any (b : Nat) (hb : b < 256) (w : World) :
    Calls Tryd.prog 26 #[.int .u8 b] w fun e w' => e = .returned (.bool (partN b)) ∧ w' = w := by
  have hcase : (97 ≤ b ∧ b ≤ 122) ∨ (122 < b) ∨ (65 ≤ b ∧ b ≤ 90) ∨ (90 < b ∧ b < 95) ∨ (b = 95) ∨ (b = 96) ∨ (57 < b ∧ b < 65) ∨ (48 ≤ b ∧ b ≤ 57) ∨ (b < 45) ∨ (b = 45) ∨ (45 < b ∧ b < 48) := by omega
  rcases hcase with h | h | h | h | h | h | h | h | h | h | h
  · have HR : Hid (partN b = true) := Lib.hid (by unfold partN; simp; omega)
    have t1 : (97 : Int) ≤ (b : Int) := by omega
    have t2 : (b : Int) ≤ 122 := by omega
    clear h
    go_enter Tryd.func26, Tryd.ntmps26
    go_wp2
    go_ret
    exact ⟨by rw [HR.out]; rfl, rfl⟩
  · have HR : Hid (partN b = false) := Lib.hid (by unfold partN; simp; omega)
    have t1 : (97 : Int) ≤ (b : Int) := by omega
    have t2 : ¬ (b : Int) ≤ 122 := by omega
    have t3 : (65 : Int) ≤ (b : Int) := by omega
    have t4 : ¬ (b : Int) ≤ 90 := by omega
    have t5 : (48 : Int) ≤ (b : Int) := by omega
    have t6 : ¬ (b : Int) ≤ 57 := by omega
    have t7 : ((b : Int) == 45) = false := by rw [beq_eq_false_iff_ne]; omega
    have t8 : ((b : Int) == 95) = false := by rw [beq_eq_false_iff_ne]; omega
    clear h
    go_enter Tryd.func26, Tryd.ntmps26
    go_wp2
    go_ret
    exact ⟨by rw [HR.out]; rfl, rfl⟩
  · have HR : Hid (partN b = true) := Lib.hid (by unfold partN; simp; omega)
    have t1 : ¬ (97 : Int) ≤ (b : Int) := by omega
    have t3 : (65 : Int) ≤ (b : Int) := by omega
    have t4 : (b : Int) ≤ 90 := by omega
    clear h
    go_enter Tryd.func26, Tryd.ntmps26
    go_wp2
    go_ret
    exact ⟨by rw [HR.out]; rfl, rfl⟩
  · have HR : Hid (partN b = false) := Lib.hid (by unfold partN; simp; omega)
    have t1 : ¬ (97 : Int) ≤ (b : Int) := by omega
    have t3 : (65 : Int) ≤ (b : Int) := by omega
    have t4 : ¬ (b : Int) ≤ 90 := by omega
    have t5 : (48 : Int) ≤ (b : Int) := by omega
    have t6 : ¬ (b : Int) ≤ 57 := by omega
    have t7 : ((b : Int) == 45) = false := by rw [beq_eq_false_iff_ne]; omega
    have t8 : ((b : Int) == 95) = false := by rw [beq_eq_false_iff_ne]; omega
    clear h
    go_enter Tryd.func26, Tryd.ntmps26
    go_wp2
    go_ret
    exact ⟨by rw [HR.out]; rfl, rfl⟩
  · have HR : Hid (partN b = true) := Lib.hid (by unfold partN; simp; omega)
    have t1 : ¬ (97 : Int) ≤ (b : Int) := by omega
    have t3 : (65 : Int) ≤ (b : Int) := by omega
    have t4 : ¬ (b : Int) ≤ 90 := by omega
    have t5 : (48 : Int) ≤ (b : Int) := by omega
    have t6 : ¬ (b : Int) ≤ 57 := by omega
    have t7 : ((b : Int) == 45) = false := by rw [beq_eq_false_iff_ne]; omega
    have t8 : ((b : Int) == 95) = true := by rw [beq_iff_eq]; omega
    clear h
    go_enter Tryd.func26, Tryd.ntmps26
    go_wp2
    go_ret
    exact ⟨by rw [HR.out]; rfl, rfl⟩
  · have HR : Hid (partN b = false) := Lib.hid (by unfold partN; simp; omega)
    have t1 : ¬ (97 : Int) ≤ (b : Int) := by omega
    have t3 : (65 : Int) ≤ (b : Int) := by omega
    have t4 : ¬ (b : Int) ≤ 90 := by omega
    have t5 : (48 : Int) ≤ (b : Int) := by omega
    have t6 : ¬ (b : Int) ≤ 57 := by omega
    have t7 : ((b : Int) == 45) = false := by rw [beq_eq_false_iff_ne]; omega
    have t8 : ((b : Int) == 95) = false := by rw [beq_eq_false_iff_ne]; omega
    clear h
    go_enter Tryd.func26, Tryd.ntmps26
    go_wp2
    go_ret
    exact ⟨by rw [HR.out]; rfl, rfl⟩
  · have HR : Hid (partN b = false) := Lib.hid (by unfold partN; simp; omega)
    have t1 : ¬ (97 : Int) ≤ (b : Int) := by omega
    have t3 : ¬ (65 : Int) ≤ (b : Int) := by omega
    have t5 : (48 : Int) ≤ (b : Int) := by omega
    have t6 : ¬ (b : Int) ≤ 57 := by omega
    have t7 : ((b : Int) == 45) = false := by rw [beq_eq_false_iff_ne]; omega
    have t8 : ((b : Int) == 95) = false := by rw [beq_eq_false_iff_ne]; omega
    clear h
    go_enter Tryd.func26, Tryd.ntmps26
    go_wp2
    go_ret
    exact ⟨by rw [HR.out]; rfl, rfl⟩
  · have HR : Hid (partN b = true) := Lib.hid (by unfold partN; simp; omega)
    have t1 : ¬ (97 : Int) ≤ (b : Int) := by omega
    have t3 : ¬ (65 : Int) ≤ (b : Int) := by omega
    have t5 : (48 : Int) ≤ (b : Int) := by omega
    have t6 : (b : Int) ≤ 57 := by omega
    clear h
    go_enter Tryd.func26, Tryd.ntmps26
    go_wp2
    go_ret
    exact ⟨by rw [HR.out]; rfl, rfl⟩
  · have HR : Hid (partN b = false) := Lib.hid (by unfold partN; simp; omega)
    have t1 : ¬ (97 : Int) ≤ (b : Int) := by omega
    have t3 : ¬ (65 : Int) ≤ (b : Int) := by omega
    have t5 : ¬ (48 : Int) ≤ (b : Int) := by omega
    have t7 : ((b : Int) == 45) = false := by rw [beq_eq_false_iff_ne]; omega
    have t8 : ((b : Int) == 95) = false := by rw [beq_eq_false_iff_ne]; omega
    clear h
    go_enter Tryd.func26, Tryd.ntmps26
    go_wp2
    go_ret
    exact ⟨by rw [HR.out]; rfl, rfl⟩
  · have HR : Hid (partN b = true) := Lib.hid (by unfold partN; simp; omega)
    have t1 : ¬ (97 : Int) ≤ (b : Int) := by omega
    have t3 : ¬ (65 : Int) ≤ (b : Int) := by omega
    have t5 : ¬ (48 : Int) ≤ (b : Int) := by omega
    have t7 : ((b : Int) == 45) = true := by rw [beq_iff_eq]; omega
    have t8 : ((b : Int) == 95) = false := by rw [beq_eq_false_iff_ne]; omega
    clear h
    go_enter Tryd.func26, Tryd.ntmps26
    go_wp2
    go_ret
    exact ⟨by rw [HR.out]; rfl, rfl⟩
  · have HR : Hid (partN b = false) := Lib.hid (by unfold partN; simp; omega)
    have t1 : ¬ (97 : Int) ≤ (b : Int) := by omega
    have t3 : ¬ (65 : Int) ≤ (b : Int) := by omega
    have t5 : ¬ (48 : Int) ≤ (b : Int) := by omega
    have t7 : ((b : Int) == 45) = false := by rw [beq_eq_false_iff_ne]; omega
    have t8 : ((b : Int) == 95) = false := by rw [beq_eq_false_iff_ne]; omega
    clear h
    go_enter Tryd.func26, Tryd.ntmps26
    go_wp2
    go_ret
    exact ⟨by rw [HR.out]; rfl, rfl⟩
set_option maxRecDepth 1000000 in
theorem mark_any (b : Nat) (hb : b < 256) (w : World) :
    Calls Tryd.prog 19 #[.int .u8 b] w fun e w' => e = .returned (.bool (mkN b)) ∧ w' = w := by
  have hcase : b = 123 ∨ b = 125 ∨ b = 59 ∨ (b ≠ 123 ∧ b ≠ 125 ∧ b ≠ 59) := by omega
  rcases hcase with h | h | h | h
  · have HR : Hid (mkN b = true) := Lib.hid (by unfold mkN; simp; omega)
    have t123 : ((b : Int) == 123) = true := by rw [beq_iff_eq]; omega
    have t125 : ((b : Int) == 125) = false := by rw [beq_eq_false_iff_ne]; omega
    have t59 : ((b : Int) == 59) = false := by rw [beq_eq_false_iff_ne]; omega
    clear h
    go_enter Tryd.func19, Tryd.ntmps19
    go_wp2
    go_ret
    exact ⟨by rw [HR.out]; rfl, rfl⟩
  · have HR : Hid (mkN b = true) := Lib.hid (by unfold mkN; simp; omega)
    have t123 : ((b : Int) == 123) = false := by rw [beq_eq_false_iff_ne]; omega
    have t125 : ((b : Int) == 125) = true := by rw [beq_iff_eq]; omega
    have t59 : ((b : Int) == 59) = false := by rw [beq_eq_false_iff_ne]; omega
    clear h
    go_enter Tryd.func19, Tryd.ntmps19
    go_wp2
    go_ret
    exact ⟨by rw [HR.out]; rfl, rfl⟩
  · have HR : Hid (mkN b = true) := Lib.hid (by unfold mkN; simp; omega)
    have t123 : ((b : Int) == 123) = false := by rw [beq_eq_false_iff_ne]; omega
    have t125 : ((b : Int) == 125) = false := by rw [beq_eq_false_iff_ne]; omega
    have t59 : ((b : Int) == 59) = true := by rw [beq_iff_eq]; omega
    clear h
    go_enter Tryd.func19, Tryd.ntmps19
    go_wp2
    go_ret
    exact ⟨by rw [HR.out]; rfl, rfl⟩
  · have HR : Hid (mkN b = false) := Lib.hid (by unfold mkN; simp; omega)
    have t123 : ((b : Int) == 123) = false := by rw [beq_eq_false_iff_ne]; omega
    have t125 : ((b : Int) == 125) = false := by rw [beq_eq_false_iff_ne]; omega
    have t59 : ((b : Int) == 59) = false := by rw [beq_eq_false_iff_ne]; omega
    clear h
    go_enter Tryd.func19, Tryd.ntmps19
    go_wp2
    go_ret
    exact ⟨by rw [HR.out]; rfl, rfl⟩
def WordRel (s : ByteArray) (w : World) (v3 : Value) (wr : World) : Prop := ∃ k : Nat, v3 = .int .i64 k ∧ k ≤ s.size ∧ Hid (wordN s.data.toList = k + wordN (s.data.toList.drop k)) ∧ wr = w
theorem byte_lt (c : UInt8) : c.toNat < 256 := UInt8.toNat_lt c
set_option maxRecDepth 1000000 in
set_option maxHeartbeats 4000000 in
theorem word_any (s : ByteArray) (hs : s.size ≤ 9223372036854775807) (w : World) :
    Calls Tryd.prog 17 #[.string s] w fun e w' => e = .returned (.int .i64 (wordN s.data.toList : Nat)) ∧ w' = w := by
  go_enter Tryd.func17, Tryd.ntmps17
  go_wp2
  go_loopw [3] (fun v3 wr => WordRel s w v3 wr) (fun v3 _ => s.size - (intOf v3).toNat)
  case atStart => exact ⟨0, rfl, Nat.zero_le _, Lib.hid (by rw [List.drop_zero, Nat.zero_add]), rfl⟩
  case round =>
    rename World => wr
    obtain ⟨k, rfl, hk, HW, hwr⟩ := hrel
    obtain rfl : w = wr := hwr.symm
    clear hwr
    by_cases hlt : k < s.size
    · have HD := Lib.hid (data_drop hlt)
      have HP := Lib.hid (part_any (s[k]'hlt).toNat (byte_lt _) w)
      have HPE := Lib.hid (isPart_n (s[k]'hlt))
      obtain ⟨pb, hpb⟩ : ∃ b, partN (s[k]'hlt).toNat = b := ⟨_, rfl⟩
      rw [hpb] at HP HPE
      have h9 : (k : Int) < (s.size : Int) := by omega
      clear hpb
      cases pb with
      | true =>
        have HN : Hid (wordN s.data.toList = (k + 1) + wordN (s.data.toList.drop (k + 1))) := Lib.hid (by rw [HW.out, HD.out, wordN, if_pos HPE.out]; omega)
        clear HW HD
        go_wp2_with fail
        refine HP.out.mono ?_
        rintro e w2 ⟨rfl, hw2⟩
        obtain rfl := hw2.symm
        clear hw2
        go_wp2
        go_roundw
        case measure => simp [intOf]; omega
        case rel => exact ⟨k + 1, by go_num, by omega, HN, rfl⟩
      | false =>
        have HN : Hid (wordN s.data.toList = k) := Lib.hid (by rw [HW.out, HD.out, wordN, if_neg (by rw [HPE.out]; decide)]; rfl)
        clear HW HD
        go_wp2_with fail
        refine HP.out.mono ?_
        rintro e w2 ⟨rfl, hw2⟩
        obtain rfl := hw2.symm
        clear hw2
        go_wp2
        go_ret
        exact ⟨by rw [HN.out]; rfl, rfl⟩
    · have h9 : ¬ (k : Int) < (s.size : Int) := by omega
      have HN : Hid (wordN s.data.toList = k) := Lib.hid (by rw [HW.out, data_end (by omega)]; rfl)
      clear HW
      go_wp2
      go_ret
      exact ⟨by rw [HN.out]; rfl, rfl⟩
def isWordB (s : List UInt8) : Bool := decide (s ≠ []) && decide (wordN s = s.length) && decide (s.length ≤ 40)
def SkRel (s : ByteArray) (w : World) (K : Nat) (v1 : Value) (wr : World) : Prop := ∃ k : Nat, v1 = .int .i64 k ∧ k ≤ s.size ∧ Hid (K = k + skN false (s.data.toList.drop k)) ∧ wr = w
def SkRel2 (s : ByteArray) (w : World) (K k0 : Nat) (v1 : Value) (wr : World) : Prop := ∃ k : Nat, v1 = .int .i64 k ∧ k0 ≤ k ∧ k ≤ s.size ∧ Hid (K = k + skN true (s.data.toList.drop k)) ∧ wr = w
set_option maxRecDepth 1000000 in
set_option maxHeartbeats 8000000 in
theorem skip_any (s : ByteArray) (o : Nat) (ho : o ≤ s.size) (hs : s.size ≤ 9223372036854775807) (w : World) :
    Calls Tryd.prog 16 #[.string s, .int .i64 o] w fun e w' => e = .returned (.int .i64 ((o + skN false (s.data.toList.drop o) : Nat) : Int)) ∧ w' = w := by
  obtain ⟨K, hK⟩ : ∃ K, o + skN false (s.data.toList.drop o) = K := ⟨_, rfl⟩
  rw [hK]
  have HK := Lib.hid hK
  clear hK
  go_enter Tryd.func16, Tryd.ntmps16
  go_wp2
  go_loopw [1] (fun v1 wr => SkRel s w K v1 wr) (fun v1 _ => s.size - (intOf v1).toNat)
  case atStart => exact ⟨o, rfl, ho, Lib.hid HK.out.symm, rfl⟩
  case round =>
    rename World => wr
    obtain ⟨k, rfl, hk, HW, hwr⟩ := hrel
    obtain rfl : w = wr := hwr.symm
    clear hwr
    by_cases hlt : k < s.size
    · have HD := Lib.hid (data_drop hlt)
      have h9 : (k : Int) < (s.size : Int) := by omega
      obtain ⟨c, hc⟩ : ∃ c, s[k]'hlt = c := ⟨_, rfl⟩
      rw [hc] at HD
      have HSK : Hid (skN false (s.data.toList.drop k) = if isBlk c = true then skN false (s.data.toList.drop (k + 1)) + 1 else if c.toNat = 35 then skN true (s.data.toList.drop (k + 1)) + 1 else 0) := Lib.hid (by rw [HD.out]; rfl)
      have HSC : Hid (skN true (s.data.toList.drop k) = if c.toNat = 10 then skN false (s.data.toList.drop (k + 1)) + 1 else skN true (s.data.toList.drop (k + 1)) + 1) := Lib.hid (by rw [HD.out]; rfl)
      obtain ⟨b, hb⟩ : ∃ b, c.toNat = b := ⟨_, rfl⟩
      have HBK : Hid (isBlk c = (decide (b = 32) || decide (b = 9) || decide (b = 10) || decide (b = 13))) := Lib.hid (by rw [← hb]; rfl)
      rw [hb] at HSK HSC
      have hcb : (s[k]'hlt).toNat = b := by rw [hc]; exact hb
      clear hc hb HD
      have hcase : b = 32 ∨ b = 9 ∨ b = 10 ∨ b = 13 ∨ b = 35 ∨ (b ≠ 32 ∧ b ≠ 9 ∧ b ≠ 10 ∧ b ≠ 13 ∧ b ≠ 35) := by omega
      rcases hcase with h | h | h | h | h | h
      · have HN : Hid (K = (k + 1) + skN false (s.data.toList.drop (k + 1))) := Lib.hid (by rw [HW.out, HSK.out, if_pos (by rw [HBK.out, h]; decide)]; omega)
        have t32 : ((((s[k]'hlt).toNat : Nat) : Int) == 32) = true := by rw [beq_iff_eq]; omega
        clear HW HSK HSC HBK h hcb
        go_wp2
        go_roundw
        case measure => simp [intOf]; omega
        case rel => exact ⟨k + 1, by go_num, by omega, HN, rfl⟩
      · have HN : Hid (K = (k + 1) + skN false (s.data.toList.drop (k + 1))) := Lib.hid (by rw [HW.out, HSK.out, if_pos (by rw [HBK.out, h]; decide)]; omega)
        have t32 : ((((s[k]'hlt).toNat : Nat) : Int) == 32) = false := by rw [beq_eq_false_iff_ne]; omega
        have t9 : ((((s[k]'hlt).toNat : Nat) : Int) == 9) = true := by rw [beq_iff_eq]; omega
        clear HW HSK HSC HBK h hcb
        go_wp2
        go_roundw
        case measure => simp [intOf]; omega
        case rel => exact ⟨k + 1, by go_num, by omega, HN, rfl⟩
      · have HN : Hid (K = (k + 1) + skN false (s.data.toList.drop (k + 1))) := Lib.hid (by rw [HW.out, HSK.out, if_pos (by rw [HBK.out, h]; decide)]; omega)
        have t32 : ((((s[k]'hlt).toNat : Nat) : Int) == 32) = false := by rw [beq_eq_false_iff_ne]; omega
        have t9 : ((((s[k]'hlt).toNat : Nat) : Int) == 9) = false := by rw [beq_eq_false_iff_ne]; omega
        have t10 : ((((s[k]'hlt).toNat : Nat) : Int) == 10) = true := by rw [beq_iff_eq]; omega
        clear HW HSK HSC HBK h hcb
        go_wp2
        go_roundw
        case measure => simp [intOf]; omega
        case rel => exact ⟨k + 1, by go_num, by omega, HN, rfl⟩
      · have HN : Hid (K = (k + 1) + skN false (s.data.toList.drop (k + 1))) := Lib.hid (by rw [HW.out, HSK.out, if_pos (by rw [HBK.out, h]; decide)]; omega)
        have t32 : ((((s[k]'hlt).toNat : Nat) : Int) == 32) = false := by rw [beq_eq_false_iff_ne]; omega
        have t9 : ((((s[k]'hlt).toNat : Nat) : Int) == 9) = false := by rw [beq_eq_false_iff_ne]; omega
        have t10 : ((((s[k]'hlt).toNat : Nat) : Int) == 10) = false := by rw [beq_eq_false_iff_ne]; omega
        have t13 : ((((s[k]'hlt).toNat : Nat) : Int) == 13) = true := by rw [beq_iff_eq]; omega
        clear HW HSK HSC HBK h hcb
        go_wp2
        go_roundw
        case measure => simp [intOf]; omega
        case rel => exact ⟨k + 1, by go_num, by omega, HN, rfl⟩
      · have HN : Hid (K = k + skN true (s.data.toList.drop k)) := Lib.hid (by
          rw [HW.out, HSK.out, HSC.out, if_neg (by rw [HBK.out, h]; decide), if_pos h, if_neg (by omega)])
        have t32 : ((((s[k]'hlt).toNat : Nat) : Int) == 32) = false := by rw [beq_eq_false_iff_ne]; omega
        have t9 : ((((s[k]'hlt).toNat : Nat) : Int) == 9) = false := by rw [beq_eq_false_iff_ne]; omega
        have t10 : ((((s[k]'hlt).toNat : Nat) : Int) == 10) = false := by rw [beq_eq_false_iff_ne]; omega
        have t13 : ((((s[k]'hlt).toNat : Nat) : Int) == 13) = false := by rw [beq_eq_false_iff_ne]; omega
        have t35 : ((((s[k]'hlt).toNat : Nat) : Int) == 35) = true := by rw [beq_iff_eq]; omega
        have hb10 : b ≠ 10 := by omega
        have HCB := Lib.hid hcb
        clear HW HSK HBK h hcb
        go_wp2_with fail
        go_loopw [1] (fun v1 wr => SkRel2 s w K k v1 wr) (fun v1 _ => s.size - (intOf v1).toNat)
        case atStart => exact ⟨k, rfl, Nat.le_refl _, hk, HN, rfl⟩
        case round =>
          rename World => wr
          obtain ⟨j, rfl, hkj, hj, HJ, hwr⟩ := hrel
          obtain rfl : w = wr := hwr.symm
          clear hwr
          by_cases hjt : j < s.size
          · have HD := Lib.hid (data_drop hjt)
            have h8 : (j : Int) < (s.size : Int) := by omega
            obtain ⟨c, hc⟩ : ∃ c, s[j]'hjt = c := ⟨_, rfl⟩
            rw [hc] at HD
            have HS2 : Hid (skN true (s.data.toList.drop j) = if c.toNat = 10 then skN false (s.data.toList.drop (j + 1)) + 1 else skN true (s.data.toList.drop (j + 1)) + 1) := Lib.hid (by rw [HD.out]; rfl)
            have HS3 : Hid (c.toNat = 10 → skN false (s.data.toList.drop j) = skN false (s.data.toList.drop (j + 1)) + 1) := Lib.hid (fun e => by rw [HD.out, skN, if_pos (by unfold isBlk; rw [e]; decide)])
            have hcb2 : (s[j]'hjt).toNat = c.toNat := by rw [hc]
            obtain ⟨q, hq⟩ : ∃ q, c.toNat = q := ⟨_, rfl⟩
            rw [hq] at HS2 HS3 hcb2
            clear hc hq HD
            by_cases h10 : q = 10
            · have hjk : k < j := by
                rcases Nat.lt_or_ge k j with x | x
                · exact x
                · have e : j = k := by omega
                  subst e
                  have := HCB.out
                  omega
              have HN2 : Hid (K = j + skN false (s.data.toList.drop j)) := Lib.hid (by rw [HJ.out, HS2.out, if_pos h10, HS3.out h10])
              have t1 : ((((s[j]'hjt).toNat : Nat) : Int) == 10) = true := by rw [beq_iff_eq]; omega
              have t2 : ((((s[j]'hjt).toNat : Nat) : Int) != 10) = false := by rw [bne, t1]; rfl
              clear HJ HS2 HS3 h10 hcb2
              go_wp2
              go_roundw
              case measure => simp [intOf]; omega
              case rel => exact ⟨j, rfl, by omega, HN2, rfl⟩
            · have HN2 : Hid (K = (j + 1) + skN true (s.data.toList.drop (j + 1))) := Lib.hid (by rw [HJ.out, HS2.out, if_neg h10]; omega)
              have t1 : ((((s[j]'hjt).toNat : Nat) : Int) == 10) = false := by rw [beq_eq_false_iff_ne]; omega
              have t2 : ((((s[j]'hjt).toNat : Nat) : Int) != 10) = true := by rw [bne, t1]; rfl
              clear HJ HS2 HS3 h10 hcb2
              go_wp2
              go_roundw
              case measure => simp [intOf]; omega
              case rel => exact ⟨j + 1, by go_num, by omega, by omega, HN2, rfl⟩
          · have h8 : ¬ (j : Int) < (s.size : Int) := by omega
            have HN2 : Hid (K = j + skN false (s.data.toList.drop j)) := Lib.hid (by rw [HJ.out, data_end (by omega)]; rfl)
            clear HJ
            go_wp2
            go_roundw
            case measure => simp [intOf]; omega
            case rel => exact ⟨j, rfl, by omega, HN2, rfl⟩
      · have HN : Hid (K = k) := Lib.hid (by rw [HW.out, HSK.out, if_neg (by rw [HBK.out]; simp [h]), if_neg h.2.2.2.2]; rfl)
        have t32 : ((((s[k]'hlt).toNat : Nat) : Int) == 32) = false := by rw [beq_eq_false_iff_ne]; omega
        have t9 : ((((s[k]'hlt).toNat : Nat) : Int) == 9) = false := by rw [beq_eq_false_iff_ne]; omega
        have t10 : ((((s[k]'hlt).toNat : Nat) : Int) == 10) = false := by rw [beq_eq_false_iff_ne]; omega
        have t13 : ((((s[k]'hlt).toNat : Nat) : Int) == 13) = false := by rw [beq_eq_false_iff_ne]; omega
        have t35 : ((((s[k]'hlt).toNat : Nat) : Int) == 35) = false := by rw [beq_eq_false_iff_ne]; omega
        clear HW HSK HSC HBK h hcb
        go_wp2
        go_ret
        exact ⟨by rw [HN.out]; rfl, rfl⟩
    · have h9 : ¬ (k : Int) < (s.size : Int) := by omega
      have HN : Hid (K = k) := Lib.hid (by rw [HW.out, data_end (by omega)]; rfl)
      clear HW
      go_wp2
      go_ret
      exact ⟨by rw [HN.out]; rfl, rfl⟩
end Go.Proofs.YtgogcekeklelmaaDoor


/- Of the reference of layer 11: IsText, quoted. -/
namespace Go.Proofs.YtgogcekeklelmaaDoor
open Go.RowKit
set_option linter.unusedVariables false

theorem cut_from (s : ByteArray) {a : Nat} (h : a ≤ s.size) {B : Int} (hB : B = (a : Int)) (wx : World) : (Instr.slice 9 (.string s) (some (.int .i64 B)) none none).run Tryd.prog wx = .ok (.string (s.extract a s.size)) wx := by
  subst hB
  have e := run_slice_string_from_if (P := Tryd.prog) (w := wx) 9 s .i64 (a : Int) Tryd.underlying9
  rw [e, if_pos ⟨by omega, by omega⟩, Int.toNat_natCast]
theorem cut_mid (s : ByteArray) {a b : Nat} (h : a ≤ b) (h2 : b ≤ s.size) {A B : Int} (hA : A = (a : Int)) (hB : B = (b : Int)) (wx : World) : (Instr.slice 9 (.string s) (some (.int .i64 A)) (some (.int .i64 B)) none).run Tryd.prog wx = .ok (.string (s.extract a b)) wx := by
  subst hA hB
  have e := run_slice_string (P := Tryd.prog) (w := wx) 9 s .i64 .i64 (a : Int) (b : Int) Tryd.underlying9 (by omega) (by omega) (by omega)
  rw [Int.toNat_natCast, Int.toNat_natCast] at e
  exact e
theorem ext_of (s : ByteArray) (a b : Nat) : s.extract a b = ofL ((s.data.toList.drop a).take (b - a)) := by
  have h : (s.extract a b).data.toList = (s.data.toList.drop a).take (b - a) := by simp [List.extract]
  rw [← h, of_data]
theorem ext_end (s : ByteArray) (a : Nat) : s.extract a s.size = ofL (s.data.toList.drop a) := by
  rw [ext_of, List.take_of_length_le (by rw [List.length_drop, len_data]; omega)]

/-! ### IsText -/
def isTextB (s : List UInt8) : Bool := decide (s.length ≤ 400) && vld s
theorem resQuo {W : World} {tm : Array Value} {B : Nat} {t : TypeId} {a b c v u : Value} (t2 : tm[4]?.getD undef = .pointer (some ⟨B, 0, none⟩)) (t3 : tm[5]?.getD undef = v) (t4 : tm[6]?.getD undef = u) (h : Blk B t #[a, b, c] W) :
    (results Tryd.f18 tm).run Tryd.prog W = .ok (.tuple #[.agg #[a, b, c], v, u]) W := by
  have a0 : W.cell? ⟨B, 0, none⟩ = some a := h.cell 0
  have a1 : W.cell? ⟨B, 1, none⟩ = some b := h.cell 1
  have a2 : W.cell? ⟨B, 2, none⟩ = some c := h.cell 2
  simp [results, Tryd.f18, go_sem, t2, t3, t4, a0, a1, a2]
theorem un_le (st : Nat) : ∀ (n : Nat) (l : List UInt8), l.length ≤ n → (un st l).2.1.length ≤ 4 * l.length ∧ (un st l).2.2 ≤ l.length
  | n, [], _ => by rw [un_nil]; exact ⟨Nat.le_refl _, Nat.le_refl _⟩
  | 0, c :: l, h => by simp at h
  | n + 1, c :: l, hl => by
    have hne : (c :: l) ≠ [] := by simp
    by_cases h1 : (rd st (c :: l)).1 = []
    · rw [un_stop hne h1]
      exact ⟨Nat.zero_le _, Nat.zero_le _⟩
    · have hok := rd_ok st (c :: l)
      have hp := hok.2.2 h1
      have h5 : ((c :: l).drop (rd st (c :: l)).2).length = (c :: l).length - (rd st (c :: l)).2 := List.length_drop
      have hcl : (c :: l).length = l.length + 1 := rfl
      have ih := un_le st n ((c :: l).drop (rd st (c :: l)).2) (by rw [h5]; omega)
      constructor
      · rw [un_go hne h1]
        unfold jn
        split
        · show ((rd st (c :: l)).1 ++ _).length ≤ _
          rw [List.length_append]
          have := hok.1
          have := ih.1
          rw [h5] at this
          omega
        · exact Nat.zero_le _
      · cases hb : (un st (c :: l)).1 with
        | false => exact Nat.le_of_lt (un_lt (c :: l).length (c :: l) (Nat.le_refl _) hb)
        | true =>
          rw [un_go hne h1] at hb ⊢
          unfold jn at hb ⊢
          split
          · exact Nat.zero_le _
          · rename_i h3
            rw [if_neg h3] at hb
            cases hb
def put3 (W : World) (B : Nat) (a b c : Value) : World := ((W.setCell ⟨B, 0, none⟩ a).setCell ⟨B, 1, none⟩ b).setCell ⟨B, 2, none⟩ c
theorem put3_blk {W : World} {B n : Nat} {t : TypeId} {a b c a' b' c' : Value} (h : Blk B t #[a, b, c] W) (hn : n ≤ B) : Blk B t #[a', b', c'] (put3 W B a' b' c') ∧ Below n W (put3 W B a' b' c') := by
  refine ⟨?_, (((Below.refl n W).setCell hn a').setCell hn b').setCell hn c'⟩
  exact ((h.put 0 a').put 1 b').put 2 c'
def QuoP (o : Nat) (r : TRes) (w : World) (e : Ending) (w' : World) : Prop :=
  (match r with
    | .bad d er => e = .returned (.tuple #[.agg #[.int .i64 0, .string ⟨#[]⟩, .int .i64 0], .int .i64 ((o + d : Nat) : Int), .int .i64 (er : Int)])
    | .tok kd tx n => e = .returned (.tuple #[.agg #[.int .i64 (kd : Int), .string (ofL tx), .int .i64 (o : Int)], .int .i64 ((o + n : Nat) : Int), .int .i64 0])) ∧ Below w.heap.size w w'
set_option maxRecDepth 1000000 in
set_option maxHeartbeats 8000000 in
theorem quoted_any (s : ByteArray) (o : Nat) (ho : o < s.size) (hs : s.size ≤ 10000000) (w : World) :
    Calls Tryd.prog 18 #[.string s, .int .i64 o] w (QuoP o (quoR (s.data.toList.drop (o + 1))) w) := by
  have hsi : (s.size : Int) ≤ 10000000 := by omega
  have e1 : (o : Int) + 1 = ((o + 1 : Nat) : Int) := by omega
  have cf := cut_from s (show o + 1 ≤ s.size by omega) (show ((o : Int) + 1) = ((o + 1 : Nat) : Int) by omega)
  have hdl : (s.data.toList.drop (o + 1)).length = s.size - (o + 1) := by rw [List.length_drop, len_data]
  have HMID := Lib.hid (fun k (hk : o + 1 + k ≤ s.size) => cut_mid s (show o + 1 ≤ o + 1 + k by omega) hk (show ((o : Int) + 1) = ((o + 1 : Nat) : Int) by omega) (show ((o : Int) + 1 + (k : Int)) = ((o + 1 + k : Nat) : Int) by omega))
  have HEX := Lib.hid (fun k => ext_of s (o + 1) (o + 1 + k))
  rw [ext_end] at cf
  obtain ⟨l, hl⟩ : ∃ l, s.data.toList.drop (o + 1) = l := ⟨_, rfl⟩
  rw [hl] at cf hdl HEX ⊢
  have HLT := Lib.hid (fun k => @endF_lt 2 34 l.length l k (Nat.le_refl _))
  have HLN := Lib.hid hdl
  have HW1 := Lib.hid (show Below w.heap.size w (w.alloc (.cells #[.int .i64 0, .string ⟨#[]⟩, .int .i64 0] 48)) from (Below.refl _ _).alloc (Nat.le_refl _) _)
  have HK1 := Lib.hid (Blk.new w 48 #[.int .i64 0, .string ⟨#[]⟩, .int .i64 0])
  have HEND := Lib.hid (fun w => refEnd_st 2 (ofL l) 34 w (by rw [ofL_size]; omega) (.inr (.inl rfl)))
  rw [show (ofL l).data.toList = l from rfl] at HEND
  have HQ : Hid (quoR l = quoR l) := Lib.hid rfl
  obtain ⟨EN, hEN⟩ : ∃ o, endF 2 34 l = o := ⟨_, rfl⟩
  rw [hEN] at HEND HLT
  have HENE := Lib.hid hEN
  clear hl hdl hEN e1
  cases EN with
  | none =>
    have HR : Hid (quoR l = .bad 0 3) := Lib.hid (by unfold quoR; rw [HENE.out])
    rw [HR.out]
    go_enter Tryd.func18, Tryd.ntmps18
    go_wp2_with fail
    refine (HEND.out _).mono ?_
    rintro e w2 ⟨rfl, hw2⟩
    obtain rfl := hw2.symm
    go_wp2
    exact bodyPost_ret (v := .tuple #[.agg #[.int .i64 0, .string ⟨#[]⟩, .int .i64 0], .int .i64 (o : Int), .int .i64 3]) (resQuo rfl rfl rfl HK1.out) rfl ⟨rfl, HW1.out⟩
  | some k =>
    have hk : k < l.length := endF_lt l.length l k (Nat.le_refl _) HENE.out
    have hks : o + 1 + k ≤ s.size := by have := HLN.out; omega
    have cm := HMID.out k hks
    have hex := HEX.out k
    rw [show o + 1 + k - (o + 1) = k by omega] at hex
    rw [hex] at cm
    have hml : (l.take k).length ≤ 10000000 := by rw [List.length_take]; omega
    have HR0 : Hid (quoR l = if (un 2 (l.take k)).1 = false then .bad (1 + (un 2 (l.take k)).2.2) 3 else if 400 < (un 2 (l.take k)).2.1.length then .bad 0 6 else if vld (un 2 (l.take k)).2.1 = false then .bad 0 4 else .tok 2 (un 2 (l.take k)).2.1 (k + 2)) := Lib.hid (by unfold quoR; rw [HENE.out])
    have HUB := Lib.hid (un_le 2 (l.take k).length (l.take k) (Nat.le_refl _))
    obtain ⟨m, hm⟩ : ∃ m, l.take k = m := ⟨_, rfl⟩
    rw [hm] at cm hml HR0 HUB
    have HUN := Lib.hid (fun w => refUnescape_st 2 (ofL m) w (by rw [ofL_size]; omega) (.inr (.inl rfl)))
    rw [show (ofL m).data.toList = m from rfl] at HUN
    obtain ⟨U, hU⟩ : ∃ u, un 2 m = u := ⟨_, rfl⟩
    rw [hU] at HUN HR0 HUB
    obtain ⟨ub, ut, uk⟩ := U
    have hut : ut.length ≤ 40000000 := by have := HUB.out.1; dsimp only at this; omega
    have huk : uk ≤ 10000000 := by have := HUB.out.2; dsimp only at this; omega
    have HVA := Lib.hid (fun w => refValid_any (ofL ut) w (by rw [ofL_size]; omega))
    rw [show (ofL ut).data.toList = ut from rfl] at HVA
    have huz : (ofL ut).size = ut.length := ofL_size ut
    have ez : ((endV 0 (some k) : Int)) = (k : Int) := by simp [endV]
    rw [ez] at HEND
    obtain ⟨W1, hW1⟩ : ∃ W1, w.alloc (.cells #[.int .i64 0, .string ⟨#[]⟩, .int .i64 0] 48) = W1 := ⟨_, rfl⟩
    obtain ⟨g, hg⟩ : ∃ g, w.heap.size = g := ⟨_, rfl⟩
    rw [hW1] at HW1 HK1
    rw [hg] at HK1
    have HW := Lib.hid hW1
    have HG := Lib.hid hg
    have z0 := HK1.out.lt
    clear hU hm hex HMID HEX HLT HLN HENE hk HQ HUB hml ez hW1 hg
    go_enter Tryd.func18, Tryd.ntmps18
    go_upto_region 1 with fail
    rw [HW.out, HG.out]
    clear HW
    go_wp2_with fail
    refine (HEND.out _).mono ?_
    rintro e w2 ⟨rfl, hw2⟩
    obtain rfl := hw2.symm
    clear hw2
    go_wp2_with fail
    refine (HUN.out _).mono ?_
    rintro e w2 ⟨rfl, b2⟩
    have HB2 := Lib.hid b2
    have KR := Lib.hid (Blk.below HK1.out b2)
    have xf := KR.out.frozen
    have y0 : w2.cell? ⟨g, 0, none⟩ = some (.int .i64 0) := KR.out.cell 0
    have y1 : w2.cell? ⟨g, 1, none⟩ = some (.string ⟨#[]⟩) := KR.out.cell 1
    have y2 : w2.cell? ⟨g, 2, none⟩ = some (.int .i64 0) := KR.out.cell 2
    have HFB : Hid (Blk g 48 #[.int .i64 0, .string ⟨#[]⟩, .int .i64 0] (put3 w2 g (.int .i64 0) (.string ⟨#[]⟩) (.int .i64 0)) ∧ Below w.heap.size w (put3 w2 g (.int .i64 0) (.string ⟨#[]⟩) (.int .i64 0))) := Lib.hid (by
      obtain ⟨p1, p2⟩ := put3_blk (n := w.heap.size) (a' := .int .i64 0) (b' := .string ⟨#[]⟩) (c' := .int .i64 0) KR.out (by have := HG.out; omega)
      exact ⟨p1, (HW1.out.trans (b2.mono HW1.out.size)).trans p2⟩)
    clear b2
    cases ub with
    | false =>
      have HR : Hid (quoR l = .bad (1 + uk) 3) := Lib.hid (by rw [HR0.out, if_pos rfl])
      clear HR0
      go_wp2
      exact bodyPost_ret (v := .tuple #[.agg #[.int .i64 0, .string ⟨#[]⟩, .int .i64 0], .int .i64 ((o : Int) + 1 + (uk : Int)), .int .i64 3]) (resQuo rfl rfl rfl HFB.out.1) rfl (by show QuoP o (quoR l) w _ _; rw [HR.out]; exact ⟨by rw [show ((o : Int) + 1 + (uk : Int)) = ((o + (1 + uk) : Nat) : Int) by omega]; rfl, HFB.out.2⟩)
    | true =>
      have HR1 : Hid (quoR l = if 400 < ut.length then .bad 0 6 else if vld ut = false then .bad 0 4 else .tok 2 ut (k + 2)) := Lib.hid (by rw [HR0.out, if_neg (by decide)])
      clear HR0
      by_cases h400 : 400 < ut.length
      · have HR : Hid (quoR l = .bad 0 6) := Lib.hid (by rw [HR1.out, if_pos h400])
        have z1 : decide ((400 : Int) < (ut.length : Int)) = true := decide_eq_true (by omega)
        have z2 : decide (400 < ut.length) = true := decide_eq_true (by omega)
        clear HR1 h400 huz
        go_wp2
        exact bodyPost_ret (v := .tuple #[.agg #[.int .i64 0, .string ⟨#[]⟩, .int .i64 0], .int .i64 (o : Int), .int .i64 6]) (resQuo rfl rfl rfl HFB.out.1) rfl (by show QuoP o (quoR l) w _ _; rw [HR.out]; exact ⟨rfl, HFB.out.2⟩)
      · have z1 : decide ((400 : Int) < (ut.length : Int)) = false := decide_eq_false (by omega)
        have z2 : decide (400 < ut.length) = false := decide_eq_false (by omega)
        have HR2 : Hid (quoR l = if vld ut = false then .bad 0 4 else .tok 2 ut (k + 2)) := Lib.hid (by rw [HR1.out, if_neg h400])
        clear HR1 h400 huz xf y0 y1 y2 HFB
        obtain ⟨vb, hvb⟩ : ∃ b, vld ut = b := ⟨_, rfl⟩
        rw [hvb] at HVA HR2
        clear hvb
        go_wp2_with fail
        refine (HVA.out _).mono ?_
        rintro e w3 ⟨rfl, b3⟩
        have KR3 := Lib.hid (Blk.below KR.out b3)
        have xf := KR3.out.frozen
        have y0 : w3.cell? ⟨g, 0, none⟩ = some (.int .i64 0) := KR3.out.cell 0
        have y1 : w3.cell? ⟨g, 1, none⟩ = some (.string ⟨#[]⟩) := KR3.out.cell 1
        have y2 : w3.cell? ⟨g, 2, none⟩ = some (.int .i64 0) := KR3.out.cell 2
        have HB3 : Hid (Below w.heap.size w w3) := Lib.hid ((HW1.out.trans (HB2.out.mono HW1.out.size)).trans (b3.mono (by have := HW1.out.size; have := HB2.out.size; omega)))
        clear b3
        cases vb with
        | false =>
          have HR : Hid (quoR l = .bad 0 4) := Lib.hid (by rw [HR2.out, if_pos rfl])
          have HFB : Hid (Blk g 48 #[.int .i64 0, .string ⟨#[]⟩, .int .i64 0] (put3 w3 g (.int .i64 0) (.string ⟨#[]⟩) (.int .i64 0)) ∧ Below w.heap.size w (put3 w3 g (.int .i64 0) (.string ⟨#[]⟩) (.int .i64 0))) := Lib.hid (by
            obtain ⟨p1, p2⟩ := put3_blk (n := w.heap.size) (a' := .int .i64 0) (b' := .string ⟨#[]⟩) (c' := .int .i64 0) KR3.out (by have := HG.out; omega)
            exact ⟨p1, HB3.out.trans p2⟩)
          clear HR2
          go_wp2
          exact bodyPost_ret (v := .tuple #[.agg #[.int .i64 0, .string ⟨#[]⟩, .int .i64 0], .int .i64 (o : Int), .int .i64 4]) (resQuo rfl rfl rfl HFB.out.1) rfl (by show QuoP o (quoR l) w _ _; rw [HR.out]; exact ⟨rfl, HFB.out.2⟩)
        | true =>
          have HR : Hid (quoR l = .tok 2 ut (k + 2)) := Lib.hid (by rw [HR2.out, if_neg (by decide)])
          have HFB : Hid (Blk g 48 #[.int .i64 2, .string (ofL ut), .int .i64 (o : Int)] (put3 w3 g (.int .i64 2) (.string (ofL ut)) (.int .i64 (o : Int))) ∧ Below w.heap.size w (put3 w3 g (.int .i64 2) (.string (ofL ut)) (.int .i64 (o : Int)))) := Lib.hid (by
            obtain ⟨p1, p2⟩ := put3_blk (n := w.heap.size) (a' := .int .i64 2) (b' := .string (ofL ut)) (c' := .int .i64 (o : Int)) KR3.out (by have := HG.out; omega)
            exact ⟨p1, HB3.out.trans p2⟩)
          clear HR2
          go_wp2
          exact bodyPost_ret (v := .tuple #[.agg #[.int .i64 2, .string (ofL ut), .int .i64 (o : Int)], .int .i64 ((o : Int) + (k : Int) + 2), .int .i64 0]) (resQuo rfl rfl rfl HFB.out.1) rfl (by show QuoP o (quoR l) w _ _; rw [HR.out]; exact ⟨by rw [show ((o : Int) + (k : Int) + 2) = ((o + (k + 2) : Nat) : Int) by omega]; rfl, HFB.out.2⟩)
end Go.Proofs.YtgogcekeklelmaaDoor


/- Of the reference of layer 11: Tokens. -/
namespace Go.Proofs.YtgogcekeklelmaaDoor
open Go.RowKit
set_option linter.unusedVariables false

def encTk (t : Tok) : List Value := [.int .i64 (t.kd : Int), .string (ofL t.tx), .int .i64 (t.at_ : Int)]
theorem encTk_len (t : Tok) : (encTk t).length = 3 := rfl
theorem encTk_one (t : Tok) : ∀ u ∈ encTk t, u.oneCell' = true := by
  intro u hu
  simp [encTk] at hu
  rcases hu with rfl | rfl | rfl <;> rfl
theorem Tryd.infoTk : (Tryd.prog.info? 48).map (fun i => (i.zero, i.size, i.bytes)) = some (some (.agg #[.int .i64 0, .string ⟨#[]⟩, .int .i64 0]), 3, 32) := by kernel_rfl
theorem info_partsT {P : Program} {t : TypeId} {z : Value} {n b : Nat} (h : (P.info? t).map (fun i => (i.zero, i.size, i.bytes)) = some (some z, n, b)) : ∃ i, P.info? t = some i ∧ i.zero = some z ∧ i.size = n ∧ i.bytes = b := by
  cases hi : P.info? t with
  | none => rw [hi] at h; cases h
  | some i =>
    rw [hi] at h
    simp at h
    exact ⟨i, rfl, h.1, h.2.1, h.2.2⟩
theorem quoR_err {l : List UInt8} {d e : Nat} (h : quoR l = .bad d e) : 0 < e := by
  unfold quoR at h
  split at h
  · injection h with e1 e2; omega
  · split at h
    · injection h with e1 e2; omega
    · split at h
      · injection h with e1 e2; omega
      · split at h
        · injection h with e1 e2; omega
        · cases h
theorem alloc_sz (x : World) (o : Obj) : (x.alloc o).heap.size = x.heap.size + 1 := by simp
def TokP (T : (Nat × Nat) ⊕ List Tok) (w : World) (e : Ending) (w' : World) : Prop :=
  (match T with
    | .inl p => e = .returned (.tuple #[.slice none 0 0, .int .i64 (p.1 : Int), .int .i64 (p.2 : Int)])
    | .inr ts => ∃ v, e = .returned (.tuple #[v, .int .i64 0, .int .i64 0]) ∧ Rd 3 encTk w' v ts) ∧ Below w.heap.size w w'
def TkI (s : List UInt8) (T : (Nat × Nat) ⊕ List Tok) (w : World) (v5 v6 : Value) (wr : World) : Prop := ∃ (o : Nat) (acc : List Tok), o ≤ s.length ∧ v6 = .int .i64 o ∧ Own1 3 encTk wr w.heap.size 48 v5 acc ∧ acc.length ≤ o ∧ skN false (s.drop o) = 0 ∧ T = catT acc (toksN o (s.drop o)) ∧ Below w.heap.size w wr
theorem tk_next {s : List UInt8} {T : (Nat × Nat) ⊕ List Tok} {o kd n : Nat} {tx : List UInt8} {acc : List Tok} (ho : o < s.length) (hz : skN false (s.drop o) = 0) (hT : T = catT acc (toksN o (s.drop o))) (h : oneR (s.drop o) = .tok kd tx n) :
    o + n + skN false (s.drop (o + n)) ≤ s.length ∧ skN false (s.drop (o + n + skN false (s.drop (o + n)))) = 0 ∧ T = catT (acc ++ [⟨kd, tx, o⟩]) (toksN (o + n + skN false (s.drop (o + n))) (s.drop (o + n + skN false (s.drop (o + n))))) ∧ 0 < n ∧ o + n ≤ s.length := by
  have h1 := (oneR_ok h).2
  rw [List.length_drop] at h1
  have h2 := skN_le false (s.drop (o + n))
  rw [List.length_drop] at h2
  have hr : s.drop o ≠ [] := by
    intro e
    have := congrArg List.length e
    rw [List.length_drop] at this
    simp at this
    omega
  refine ⟨by omega, ?_, ?_, h1.1, by omega⟩
  · rw [← List.drop_drop]
    exact sk_idem _
  · rw [hT, at_tok hz h hr, catT_cat, List.drop_drop, List.drop_drop]
set_option maxRecDepth 1000000 in
set_option maxHeartbeats 16000000 in
theorem tokens_any (s : ByteArray) (hs : s.size ≤ 10000000) (w : World) :
    Calls Tryd.prog 9 #[.string s] w (TokP (toks s.data.toList) w) := by
  obtain ⟨iT, hiT, hzT, hkT, hbT⟩ := info_partsT Tryd.infoTk
  have hsi : (s.size : Int) ≤ 10000000 := by omega
  have HT0 := Lib.hid (toks_N s.data.toList)
  have HI0 := Lib.hid (sk_idem s.data.toList)
  have HLE0 := Lib.hid (skN_le false s.data.toList)
  have HLD := Lib.hid (len_data s)
  have HS0 := Lib.hid (skip_any s 0 (Nat.zero_le _) (by omega) w)
  rw [List.drop_zero, Nat.zero_add, show ((0 : Nat) : Int) = 0 from rfl] at HS0
  have HSK := Lib.hid (fun o (ho : o ≤ s.size) w => skip_any s o ho (by omega) w)
  obtain ⟨T, hT⟩ : ∃ T, toks s.data.toList = T := ⟨_, rfl⟩
  rw [hT] at HT0 ⊢
  obtain ⟨o0, ho0⟩ : ∃ o, skN false s.data.toList = o := ⟨_, rfl⟩
  rw [ho0] at HT0 HI0 HLE0 HS0
  clear hT ho0
  go_enter Tryd.func9, Tryd.ntmps9
  go_wp2_with fail
  refine HS0.out.mono ?_
  rintro e w1 ⟨rfl, hw1⟩
  obtain rfl := hw1.symm
  clear hw1 HS0
  go_wp2_with fail
  go_loopw [5, 6] (fun v5 v6 wr => TkI s.data.toList T w v5 v6 wr) (fun _ v6 _ => s.size - (intOf v6).toNat)
  case atStart => exact ⟨o0, [], HLE0.out, rfl, own1_nil _ _ _, Nat.zero_le _, HI0.out, by rw [catT_nil]; exact HT0.out, Below.refl _ _⟩
  case round =>
    rename World => W0
    obtain ⟨o, acc, ho, rfl, hown, hal, hz, hTT, hb⟩ := hrel
    have HO := Lib.hid hown
    have HAL := Lib.hid hal
    have HTT := Lib.hid hTT
    have HZ := Lib.hid hz
    have HB := Lib.hid hb
    have HZW : Hid (w.heap.size ≤ W0.heap.size) := Lib.hid hb.size
    rw [len_data] at ho
    clear hown hal hTT hz hb HT0 HI0 HLE0
    by_cases hlt : o < s.size
    · have h9 : (o : Int) < (s.size : Int) := by omega
      have HNX := Lib.hid (fun kd n tx h => @tk_next s.data.toList T o kd n tx acc (by rw [len_data]; exact hlt) HZ.out HTT.out h)
      have HDC := Lib.hid (data_drop hlt)
      have cf := cut_from s (show o ≤ s.size by omega) (show (o : Int) = ((o : Nat) : Int) from rfl)
      rw [ext_end] at cf
      have HMD := Lib.hid (fun n (hn : o + n ≤ s.size) => cut_mid s (show o ≤ o + n by omega) hn (show (o : Int) = ((o : Nat) : Int) from rfl) (show ((o : Int) + (n : Int)) = ((o + n : Nat) : Int) by omega))
      have HEX := Lib.hid (fun n => ext_of s o (o + n))
      have HQ := Lib.hid (quoted_any s o hlt hs)
      have HBAD := Lib.hid (fun d e h => @at_bad o d e (s.data.toList.drop o) HZ.out h (by rw [HDC.out]; simp))
      obtain ⟨c, hc⟩ : ∃ c, s[o]'hlt = c := ⟨_, rfl⟩
      rw [hc] at HDC
      have hcn : (s[o]'hlt).toNat = c.toNat := by rw [hc]
      obtain ⟨l, hl⟩ : ∃ l, s.data.toList.drop (o + 1) = l := ⟨_, rfl⟩
      rw [hl] at HDC HQ
      obtain ⟨r, hr⟩ : ∃ r, s.data.toList.drop o = r := ⟨_, rfl⟩
      rw [hr] at HNX cf HEX HBAD HDC HTT
      have hrl : r.length = s.size - o := by rw [← hr, List.length_drop, len_data]
      have HWD := Lib.hid (fun w => word_any (ofL r) (by rw [ofL_size]; omega) w)
      rw [show (ofL r).data.toList = r from rfl] at HWD
      have HONE : Hid (oneR r = if 40 < wordN r then .bad 0 6 else if 0 < wordN r then .tok 1 (r.take (wordN r)) (wordN r) else if c.toNat = 34 then quoR l else if isMk c = true then .tok 3 [c] 1 else .bad 0 3) := Lib.hid (by rw [HDC.out, oneR_cons])
      have HT1 : Hid (r.take 1 = [c]) := Lib.hid (by rw [HDC.out]; rfl)
      have hwl : wordN r ≤ r.length := wordN_le r
      obtain ⟨n, hn⟩ : ∃ n, wordN r = n := ⟨_, rfl⟩
      rw [hn] at HWD HONE hwl
      have HHZ := HZ
      clear hc hl hr hn HZ HDC
      by_cases h40 : 40 < n
      · have z1 : decide ((40 : Int) < (n : Int)) = true := decide_eq_true (by omega)
        have z2 : decide (40 < n) = true := decide_eq_true h40
        have HT2 : Hid (T = .inl (o, 6)) := Lib.hid (by
          have e : oneR r = .bad 0 6 := by rw [HONE.out, if_pos h40]
          rw [HTT.out, HBAD.out 0 6 e]; rfl)
        clear h40 HONE HBAD HNX HQ HMD HEX
        go_wp2_with fail
        refine (HWD.out _).mono ?_
        rintro e w2 ⟨rfl, hw2⟩
        obtain rfl := hw2.symm
        clear hw2
        go_wp2
        go_ret3
        rw [HT2.out]
        exact ⟨rfl, HB.out⟩
      · have z1 : decide ((40 : Int) < (n : Int)) = false := decide_eq_false (by omega)
        have z2 : decide (40 < n) = false := decide_eq_false h40
        by_cases hn0 : 0 < n
        · have z3 : decide ((0 : Int) < (n : Int)) = true := decide_eq_true (by omega)
          have z4 : decide (0 < n) = true := decide_eq_true hn0
          have HN := Lib.hid (HNX.out 1 n (r.take n) (by rw [HONE.out, if_neg h40, if_pos hn0]))
          have hon : o + n ≤ s.size := by omega
          have cm := HMD.out n hon
          have hex := HEX.out n
          rw [show o + n - o = n by omega] at hex
          rw [hex] at cm
          have HS2 := Lib.hid (fun w => HSK.out (o + n) hon w)
          obtain ⟨o', ho'⟩ : ∃ o', o + n + skN false (s.data.toList.drop (o + n)) = o' := ⟨_, rfl⟩
          have HOO : Hid (o + 1 ≤ o') := Lib.hid (by omega)
          rw [ho'] at HN HS2
          obtain ⟨on, hone⟩ : ∃ x, o + n = x := ⟨_, rfl⟩
          have q1 : (o : Int) + (n : Int) = (on : Int) := by omega
          rw [hone] at HS2
          rw [q1] at cm
          obtain ⟨X, hX⟩ : ∃ X, r.take n = X := ⟨_, rfl⟩
          rw [hX] at HN cm
          clear hex ho' hX h40 hn0 HONE HBAD HNX HQ HMD HEX
          go_wp2_with fail
          refine (HWD.out _).mono ?_
          rintro e w2 ⟨rfl, hw2⟩
          obtain rfl := hw2.symm
          clear hw2
          have hal : acc.length ≤ 1000000000 := by have := HAL.out; omega
          go_wp2_with (first | (at_builtin; go_loud (refine wpList_append_at (w0 := W0) (x := (⟨1, X, o⟩ : Tok)) (N := W0.heap.size) rfl rfl _ _ 27 rfl w.heap.size iT _ 32 Tryd.underlying27 hiT hzT hkT hbT (by omega) rfl (by omega) encTk_len encTk_one _ acc rfl rfl HO.out rfl hal HZW.out ?_; intro v9 w9 y9 b9 g9; have Y9 := Lib.hid y9; have B9 := Lib.hid b9; clear y9 b9 g9)) | fail)
          go_wp2_with fail
          refine (HS2.out _).mono ?_
          rintro e w3 ⟨rfl, hw3⟩
          obtain rfl := hw3.symm
          clear hw3
          go_wp2
          have hgo := HN.out
          go_roundw
          case measure => (have h1 := HN.out.1; have h2 := HOO.out; have h3 := HLD.out; simp [intOf]; omega)
          case rel => exact ⟨o', acc ++ [⟨1, X, o⟩], HN.out.1, rfl, Y9.out, by rw [List.length_append, List.length_singleton]; have := HAL.out; have := HOO.out; omega, HN.out.2.1, HN.out.2.2.1, HB.out.trans B9.out⟩
        · have z3 : decide ((0 : Int) < (n : Int)) = false := decide_eq_false (by omega)
          have z4 : decide (0 < n) = false := decide_eq_false hn0
          by_cases h34 : c.toNat = 34
          · have z5 : ((((s[o]'hlt).toNat : Nat) : Int) == 34) = true := by rw [beq_iff_eq]; omega
            have HO1 : Hid (oneR r = quoR l) := Lib.hid (by rw [HONE.out, if_neg h40, if_neg hn0, if_pos h34])
            obtain ⟨Q, hQ⟩ : ∃ Q, quoR l = Q := ⟨_, rfl⟩
            rw [hQ] at HO1 HQ
            have HQQ := Lib.hid hQ
            clear h40 hn0 h34 HONE hQ HMD HEX hcn
            cases Q with
            | bad d er =>
              have HT2 : Hid (T = .inl (o + d, er)) := Lib.hid (by rw [HTT.out, HBAD.out d er HO1.out]; rfl)
              have HER := Lib.hid (quoR_err HQQ.out)
              clear HO1 HBAD HNX HQQ HT1 HTT HHZ
              go_wp2_with fail
              refine (HWD.out _).mono ?_
              rintro e w2 ⟨rfl, hw2⟩
              obtain rfl := hw2.symm
              clear hw2
              go_wp2_with fail
              refine (HQ.out _).mono ?_
              rintro e w2 ⟨rfl, b2⟩
              have HB2 := Lib.hid b2
              clear b2
              have z6 : (((er : Nat) : Int) != 0) = true := by have := HER.out; rw [bne_iff_ne]; omega
              go_wp2
              go_ret3
              rw [HT2.out]
              exact ⟨rfl, ((HB.out.trans (HB2.out.mono HZW.out)).alloc (by have := HZW.out; have := HB2.out.size; omega) _)⟩
            | tok kd tx m =>
              have HN := Lib.hid (HNX.out kd m tx HO1.out)
              have hon : o + m ≤ s.size := by have := HN.out.2.2.2.2; rw [len_data] at this; exact this
              have HS2 := Lib.hid (fun w => HSK.out (o + m) hon w)
              have HPM := Lib.hid HN.out.2.2.2.1
              obtain ⟨o', ho'⟩ : ∃ o', o + m + skN false (s.data.toList.drop (o + m)) = o' := ⟨_, rfl⟩
              have HOO : Hid (o + 1 ≤ o') := Lib.hid (by have := HPM.out; omega)
              rw [ho'] at HN HS2
              obtain ⟨on, hone⟩ : ∃ x, o + m = x := ⟨_, rfl⟩
              rw [hone] at HS2
              have HQ3 : Hid (∀ w, Calls Tryd.prog 18 #[.string s, .int .i64 o] w (fun e w' => e = .returned (.tuple #[.agg #[.int .i64 (kd : Int), .string (ofL tx), .int .i64 (o : Int)], .int .i64 (on : Int), .int .i64 0]) ∧ Below w.heap.size w w')) := Lib.hid (fun w => (HQ.out w).mono (by rintro e w2 ⟨rfl, b2⟩; exact ⟨by rw [← hone], b2⟩))
              clear HO1 HBAD HNX HQQ HT1 HQ ho' hone HPM HTT HHZ
              obtain ⟨X, hX⟩ : ∃ X, tx = X := ⟨_, rfl⟩
              rw [hX] at HN HQ3
              clear hX
              go_wp2_with fail
              refine (HWD.out _).mono ?_
              rintro e w2 ⟨rfl, hw2⟩
              obtain rfl := hw2.symm
              clear hw2
              go_wp2_with fail
              refine (HQ3.out _).mono ?_
              rintro e w2 ⟨rfl, b2⟩
              have HO2 := Lib.hid (Own1.below HO.out b2)
              have HZ2 : Hid (w.heap.size ≤ w2.heap.size) := Lib.hid (Nat.le_trans HZW.out b2.size)
              obtain ⟨W3, hW3⟩ : ∃ W3, w2.alloc (.cells #[.int .i64 (kd : Int), .string (ofL X), .int .i64 (o : Int)] 48) = W3 := ⟨_, rfl⟩
              have b3 : Below w2.heap.size w2 W3 := by rw [← hW3]; exact (Below.refl _ _).alloc (Nat.le_refl _) _
              have HO2 := Lib.hid (Own1.below HO2.out b3)
              have HZ2 : Hid (w.heap.size ≤ w2.heap.size + 1) := Lib.hid (Nat.le_succ_of_le HZ2.out)
              have HBB : Hid (Below w.heap.size w W3) := Lib.hid ((HB.out.trans (b2.mono HZW.out)).trans (b3.mono (by have := HZW.out; have := b2.size; omega)))
              clear b2 b3
              subst hW3
              have hal : acc.length ≤ 1000000000 := by have := HAL.out; omega
              go_wp2_with (first | (at_builtin; go_loud (refine wpList_append_at (w0 := w2.alloc (.cells #[.int .i64 (kd : Int), .string (ofL X), .int .i64 (o : Int)] 48)) (x := (⟨kd, X, o⟩ : Tok)) (N := w2.heap.size + 1) (alloc_sz _ _) rfl _ _ 27 rfl w.heap.size iT _ 32 Tryd.underlying27 hiT hzT hkT hbT (by omega) rfl (by omega) encTk_len encTk_one _ acc rfl rfl HO2.out rfl hal HZ2.out ?_; intro v9 w9 y9 b9 g9; have Y9 := Lib.hid y9; have B9 := Lib.hid b9; clear y9 b9 g9)) | fail)
              go_wp2_with fail
              refine (HS2.out _).mono ?_
              rintro e w3 ⟨rfl, hw3⟩
              obtain rfl := hw3.symm
              clear hw3
              go_wp2
              have hgo := HN.out
              go_roundw
              case measure => (have h1 := HN.out.1; have h2 := HOO.out; have h3 := HLD.out; simp [intOf]; omega)
              case rel => exact ⟨o', acc ++ [⟨kd, X, o⟩], HN.out.1, rfl, Y9.out, by rw [List.length_append, List.length_singleton]; have := HAL.out; have := HOO.out; omega, HN.out.2.1, HN.out.2.2.1, HBB.out.trans B9.out⟩
          · have z5 : ((((s[o]'hlt).toNat : Nat) : Int) == 34) = false := by rw [beq_eq_false_iff_ne]; omega
            have HMK := Lib.hid (mark_any (s[o]'hlt).toNat (byte_lt _) W0)
            have HME : Hid (isMk c = mkN (s[o]'hlt).toNat) := Lib.hid (by rw [hcn]; rfl)
            obtain ⟨mb, hmb⟩ : ∃ b, mkN (s[o]'hlt).toNat = b := ⟨_, rfl⟩
            rw [hmb] at HMK HME
            clear hmb
            cases mb with
            | true =>
              have HN := Lib.hid (HNX.out 3 1 [c] (by rw [HONE.out, if_neg h40, if_neg hn0, if_neg h34, if_pos HME.out]))
              have hon : o + 1 ≤ s.size := by omega
              have cm := HMD.out 1 hon
              have hex := HEX.out 1
              rw [show o + 1 - o = 1 by omega, HT1.out] at hex
              have hex2 : s.extract o (o + 1) = ofL [c] := by rw [hex]
              rw [hex2, show ((1 : Nat) : Int) = 1 from rfl] at cm
              have HS2 := Lib.hid (fun w => HSK.out (o + 1) hon w)
              obtain ⟨o', ho'⟩ : ∃ o', o + 1 + skN false (s.data.toList.drop (o + 1)) = o' := ⟨_, rfl⟩
              have HOO : Hid (o + 1 ≤ o') := Lib.hid (by omega)
              rw [ho'] at HN HS2
              obtain ⟨on, hone⟩ : ∃ x, o + 1 = x := ⟨_, rfl⟩
              have q1 : (o : Int) + 1 = (on : Int) := by omega
              rw [hone] at HS2
              rw [q1] at cm
              clear hex hex2 ho' h40 hn0 h34 HONE HBAD HNX HQ HMD HEX hcn HT1
              obtain ⟨X, hX⟩ : ∃ X, [c] = X := ⟨_, rfl⟩
              rw [hX] at HN cm
              clear hX
              go_wp2_with fail
              refine (HWD.out _).mono ?_
              rintro e w2 ⟨rfl, hw2⟩
              obtain rfl := hw2.symm
              clear hw2
              go_wp2_with fail
              refine HMK.out.mono ?_
              rintro e w2 ⟨rfl, hw2⟩
              obtain rfl := hw2.symm
              clear hw2
              have hal : acc.length ≤ 1000000000 := by have := HAL.out; omega
              go_wp2_with (first | (at_builtin; go_loud (refine wpList_append_at (w0 := W0) (x := (⟨3, X, o⟩ : Tok)) (N := W0.heap.size) rfl rfl _ _ 27 rfl w.heap.size iT _ 32 Tryd.underlying27 hiT hzT hkT hbT (by omega) rfl (by omega) encTk_len encTk_one _ acc rfl rfl HO.out rfl hal HZW.out ?_; intro v9 w9 y9 b9 g9; have Y9 := Lib.hid y9; have B9 := Lib.hid b9; clear y9 b9 g9)) | fail)
              go_wp2_with fail
              refine (HS2.out _).mono ?_
              rintro e w3 ⟨rfl, hw3⟩
              obtain rfl := hw3.symm
              clear hw3
              go_wp2
              have hgo := HN.out
              go_roundw
              case measure => (have h1 := HN.out.1; have h2 := HOO.out; have h3 := HLD.out; simp [intOf]; omega)
              case rel => exact ⟨o', acc ++ [⟨3, X, o⟩], HN.out.1, rfl, Y9.out, by rw [List.length_append, List.length_singleton]; have := HAL.out; have := HOO.out; omega, HN.out.2.1, HN.out.2.2.1, HB.out.trans B9.out⟩
            | false =>
              have HT2 : Hid (T = .inl (o, 3)) := Lib.hid (by
                have e : oneR r = .bad 0 3 := by rw [HONE.out, if_neg h40, if_neg hn0, if_neg h34, if_neg (by rw [HME.out]; decide)]
                rw [HTT.out, HBAD.out 0 3 e]; rfl)
              clear h40 hn0 h34 HONE HBAD HNX HQ HMD HEX hcn HT1
              go_wp2_with fail
              refine (HWD.out _).mono ?_
              rintro e w2 ⟨rfl, hw2⟩
              obtain rfl := hw2.symm
              clear hw2
              go_wp2_with fail
              refine HMK.out.mono ?_
              rintro e w2 ⟨rfl, hw2⟩
              obtain rfl := hw2.symm
              clear hw2
              go_wp2
              go_ret3
              rw [HT2.out]
              exact ⟨rfl, HB.out⟩
    · have h9 : ¬ (o : Int) < (s.size : Int) := by omega
      have HT2 : Hid (T = .inr acc) := Lib.hid (by
        have e : s.data.toList.drop o = [] := data_end (by omega)
        have := HTT.out
        rw [this, at_nil HZ.out e]
        show Sum.inr (acc ++ []) = _
        rw [List.append_nil])
      clear HTT HZ
      go_wp2
      go_ret3
      rw [HT2.out]
      exact ⟨⟨_, rfl, HO.out.rd encTk_len⟩, HB.out⟩
end Go.Proofs.YtgogcekeklelmaaDoor


