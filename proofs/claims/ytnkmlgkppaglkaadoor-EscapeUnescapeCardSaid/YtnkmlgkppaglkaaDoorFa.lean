/- The specification's Unescape; the law EscapeUnescape. -/
import Derived.Test.YtnkmlgkppaglkaaDoorEz
namespace Go.Proofs.YtnkmlgkppaglkaaDoor
open Go.RowKit
set_option linter.unusedVariables false

def RUnRel (st : Nat) (s : ByteArray) (w : World) (v i : Value) (wr : World) : Prop :=
  ∃ (k : Nat) (acc : List UInt8), i = .int .i64 k ∧ k ≤ s.size + 6 ∧ acc.length ≤ 4 * k ∧ wr.ownsRow w.heap.size 5 1 v acc.length (byteCells acc) ∧ Below w.heap.size w wr ∧ un st s.data.toList = jn acc k (un st (s.data.toList.drop k))
theorem run_step {st : Nat} {s : ByteArray} {w wr w1 w2 : World} {k : Nat} {acc t : List UInt8} {z m : Nat} {v v' vi : Value} (hm : m = t.length) (hk : k < s.size) (hl : acc.length ≤ 4 * k) (hB : Below w.heap.size w wr) (hB1 : Below wr.heap.size wr w1)
    (hu : un st s.data.toList = jn acc k (un st (s.data.toList.drop k))) (hr : rd st (s.data.toList.drop k) = (t, z)) (ht : t ≠ [])
    (hown : w1.ownsRow w.heap.size 5 1 v acc.length (byteCells acc))
    (h2 : w2.ownsRow w.heap.size 5 1 v' (acc.length + m) (byteCells acc ++ Lib.strCells ⟨t.toArray⟩)) (hg : w1.grownBy w2 v.ownBlock)
    (hv : vi = .int .i64 (k + z : Nat)) : RUnRel st s w v' vi w2 := by
  have hBw := hB.trans (hB1.mono hB.size)
  have h := rd_ok st (s.data.toList.drop k)
  rw [hr] at h
  obtain ⟨h1, h3, h4⟩ := h
  simp only at h1 h3 h4
  rw [List.length_drop, len_data] at h3
  have h4 := h4 ht
  refine ⟨k + z, acc ++ t, hv, by omega, by rw [List.length_append]; omega, ?_, hBw.grown hg hBw.size (fun j e => (hown.lt j e).1), ?_⟩
  · rw [List.length_append]
    have e2 : byteCells (acc ++ t) = byteCells acc ++ Lib.strCells ⟨t.toArray⟩ := by unfold byteCells; rw [List.map_append]; rfl
    rw [e2]
    rw [hm] at h2
    exact h2
  · rw [hu, un_go (drop_ne hk) (by rw [hr]; exact ht), jn_jn, hr, List.drop_drop]
theorem in2 (n : Nat) : inL n [60, 34] = (decide (n = 60) || decide (n = 34)) := by
  simp only [inL, List.any_cons, List.any_nil]
  simp [eq_comm]
theorem rd_unf (st : Nat) (l : List UInt8) : rd st l = if byt l 0 = 92 ∧ st ≠ 4 then rdB l else if byt l 0 = 10 ∧ st ≠ 4 then ([], 0) else if byt l 0 = 34 ∧ st ≠ 1 then ([], 0)
  else if byt l 0 = 38 ∧ st = 4 then rdE l else if byt l 0 = 60 ∧ st = 4 then ([], 0) else (l.take 1, 1) := rfl
theorem byt_drop (l : List UInt8) (k : Nat) : byt (l.drop k) 0 = byt l k := by
  unfold byt
  rw [List.getElem?_drop]; rfl

set_option maxRecDepth 1000000 in
set_option maxHeartbeats 8000000 in
theorem refUnescape_st (st : Nat) (s : ByteArray) (w : World) (hs : s.size ≤ 68719476736) (hst : st = 1 ∨ st = 2 ∨ st = 3 ∨ st = 4) :
    Calls Tryd.prog 14 #[.int .i64 st, .string s] w (UnPost w (un st s.data.toList)) := by
  obtain ⟨i0, hi, hz0, hz1, hz2⟩ := info_parts Tryd.infoB
  have his := isSt_nat hst
  go_enter Tryd.func14, Tryd.ntmps14
  go_wp2_with fail
  refine (style_any _ _).mono ?_
  rintro e w' ⟨rfl, rfl⟩
  rw [his]
  clear his
  go_wp2
  go_loopw [7, 8, 9, 10, 11] (fun v i c t n wr => RUnRel st s w v i wr) (fun _ i _ _ _ _ => s.size - (intOf i).toNat)
  case atStart => exact ⟨0, [], rfl, Nat.zero_le _, by simp, World.ownsRow_nil _ _ _ _, Below.refl _ _, (jn_nil _ (un_form st _ _).1 (un_form st _ _).2).symm⟩
  case round =>
    obtain ⟨k, acc, rfl, hk, hl, hown, hB, hu⟩ := hrel
    have hU := Lib.hid hu
    clear hu
    by_cases hlt : k < s.size
    · have hrd := rd_unf st (s.data.toList.drop k)
      rw [byt_drop, ← byt_get s k hlt] at hrd
      have hdl : (s.data.toList.drop k).length = s.size - k := by rw [List.length_drop, len_data]
      have hxs : (s.extract k s.size).size = s.size - k := by simp
      have hxd : (s.extract k s.size).data.toList = s.data.toList.drop k := ext_data s k
      have hx1 : (s.extract k (k + 1)).data.toList = (s.data.toList.drop k).take 1 := by rw [ext_take]; congr 1; omega
      have hne1 : (s.data.toList.drop k).take 1 ≠ [] := by
        obtain ⟨x, e, _⟩ := drop_at (l := s.data.toList) (k := k) (by rw [len_data]; exact hlt)
        rw [e]; simp
      have HX1 := Lib.hid (str_ext hx1)
      clear hx1
      have hBS := hB.size
      by_cases h4 : st = 4
      · have f4 : ((st : Int) == 4) = true := by rw [h4]; rfl
        have f4n : ((st : Int) != 4) = false := by rw [h4]; rfl
        have f2 : ((st : Int) == 2) = false := by rw [h4]; rfl
        have f3 : ((st : Int) == 3) = false := by rw [h4]; rfl
        have n4 : ¬ st ≠ 4 := fun h => h h4
        have n1 : st ≠ 1 := by omega
        by_cases c38 : (s[k]'hlt).toNat = 38
        · have q : (((s[k]'hlt).toNat : Int) == 38) = true := by rw [c38]; rfl
          have hr : rd st (s.data.toList.drop k) = rdE (s.data.toList.drop k) := by
            rw [hrd, if_neg (fun h => n4 h.2), if_neg (fun h => n4 h.2), if_neg (fun h => by omega), if_pos ⟨c38, h4⟩]
          have hcall := refAmpersand_any (s.extract k s.size) (by rw [hxd, byt_drop, ← byt_get s k hlt]; exact c38) (by omega)
          rw [hxd, ← hr] at hcall
          clear hrd hxd hr c38 hne1 h4 n4 n1 hst
          obtain ⟨t, z, hR⟩ : ∃ t z, rd st (s.data.toList.drop k) = (t, z) := ⟨_, _, rfl⟩
          have hok := rd_ok st (s.data.toList.drop k)
          rw [hR] at hok hcall
          obtain ⟨ht4, hz, hz1'⟩ := hok
          simp only at ht4 hz hz1'
          rw [hdl] at hz
          have HR := Lib.hid hR
          clear hR hdl
          by_cases h0 : t = []
          · subst h0
            rw [nz_nil] at hcall
            clear ht4 hz1'
            go_wp2_with fail
            refine (hcall _).mono ?_
            rintro e w1 ⟨rfl, D⟩
            clear hcall
            go_wp2
            go_ret3
            refine ⟨?_, hB.trans (D.mono hB.size)⟩
            rw [un_fail hlt hU.out HR.out]
            rfl
          · have hz1' := hz1' h0
            rw [nz_ne z h0] at hcall
            have HT := Lib.hid h0
            have qz : ((z : Int) == 0) = false := by simp; omega
            clear h0
            have hsz := size_mk t
            go_wp2_with fail
            refine (hcall _).mono ?_
            rintro e w1 ⟨rfl, hB1⟩
            clear hcall
            have hown1 := own_below hown hB1
            go_wp2_with (at_builtin; go_loud (refine Lib.wpList_append_own_string _ rfl _ _ 34 9 rfl w.heap.size 5 i0 Tryd.underlying34 Tryd.underlying9 hi hz0 hz1 hz2 _ _ _ rfl hown1 ⟨t.toArray⟩ rfl ?c1 ?c2 ?c3 ?_))
            case c1 => unfold maxLen; omega
            case c2 => omega
            case c3 => have := hB1.size; omega
            · intro v' w2 hown2 hgrow _
              have R := Lib.hid (fun vi => run_step (vi := vi) (size_mk t) hlt hl hB hB1 hU.out HR.out HT.out hown1 hown2 hgrow)
              clear hown2 hgrow hown hown1 hB hB1
              go_wp2
              go_roundw
              case rel => exact R.out _ (by go_num)
              case measure => simp [intOf]; omega
        · have q : (((s[k]'hlt).toNat : Int) == 38) = false := by simp; omega
          by_cases cb : inL (s[k]'hlt).toNat [60, 34] = true
          · have HR := Lib.hid (show rd st (s.data.toList.drop k) = ([], 0) by
              rw [in2] at cb
              rw [hrd, if_neg (fun h => n4 h.2), if_neg (fun h => n4 h.2)]
              by_cases x : (s[k]'hlt).toNat = 34
              · rw [if_pos ⟨x, n1⟩]
              · have : (s[k]'hlt).toNat = 60 := by simp at cb; omega
                rw [if_neg (fun h => x h.1), if_neg (fun h => c38 h.1), if_pos ⟨this, h4⟩])
            clear hrd hxd c38 hne1 h4 n4 n1 hst
            go_wp2_with fail
            refine (in_any (s[k]'hlt).toNat ⟨#[60, 34]⟩ (by decide) _).mono ?_
            rintro e w' ⟨rfl, rfl⟩
            rw [show (⟨#[60, 34]⟩ : ByteArray).data.toList = [60, 34] from rfl, cb]
            go_wp2
            go_ret3
            refine ⟨?_, hB⟩
            rw [un_fail hlt hU.out HR.out]
            rfl
          · have cb' := Bool.eq_false_iff.2 cb
            have HR := Lib.hid (show rd st (s.data.toList.drop k) = ((s.data.toList.drop k).take 1, 1) by
              rw [in2] at cb'
              simp at cb'
              rw [hrd, if_neg (fun h => n4 h.2), if_neg (fun h => n4 h.2), if_neg (fun h => cb'.2 h.1), if_neg (fun h => c38 h.1), if_neg (fun h => cb'.1 h.1)])
            clear hrd hxd c38 h4 n4 n1 hst cb
            have CALLIN := in_any (s[k]'hlt).toNat ⟨#[60, 34]⟩ (by decide)
            rw [show (⟨#[60, 34]⟩ : ByteArray).data.toList = [60, 34] from rfl, cb'] at CALLIN
            have HT := Lib.hid hne1
            have hsz : (s.extract k (k + 1)).size = 1 := by rw [HX1.out, size_mk, List.length_take, hdl]; omega
            have Hl1 := Lib.hid (show 1 = ((s.data.toList.drop k).take 1).length by rw [List.length_take, hdl]; omega)
            clear hne1 hdl
            go_wp2_with fail
            refine (CALLIN _).mono ?_
            rintro e w' ⟨rfl, rfl⟩
            clear CALLIN
            go_wp2_with (at_builtin; go_loud (refine Lib.wpList_append_own_string _ rfl _ _ 34 9 rfl w.heap.size 5 i0 Tryd.underlying34 Tryd.underlying9 hi hz0 hz1 hz2 _ _ _ rfl hown (s.extract k (k + 1)) rfl ?c1 ?c2 ?c3 ?_))
            case c1 => unfold maxLen; omega
            case c2 => omega
            case c3 => have := hB.size; omega
            · intro v' w2 hown2 hgrow _
              rw [HX1.out] at hown2
              have R := Lib.hid (fun vi => run_step (vi := vi) Hl1.out hlt hl hB (Below.refl _ _) hU.out HR.out HT.out hown hown2 hgrow)
              clear hown2 hgrow hown hB
              go_wp2
              go_roundw
              case rel => exact R.out _ (by go_num)
              case measure => simp [intOf]; omega
      · have f4 : ((st : Int) == 4) = false := by simp; omega
        have f4n : ((st : Int) != 4) = true := by simp; omega
        by_cases c92 : (s[k]'hlt).toNat = 92
        · have q : (((s[k]'hlt).toNat : Int) == 92) = true := by rw [c92]; rfl
          have hr : rd st (s.data.toList.drop k) = rdB (s.data.toList.drop k) := by rw [hrd, if_pos ⟨c92, h4⟩]
          have hcall := refBackslash_any (s.extract k s.size) (by omega)
          rw [hxd, ← hr] at hcall
          clear hrd hxd hr c92 hne1 h4 hst
          obtain ⟨t, z, hR⟩ : ∃ t z, rd st (s.data.toList.drop k) = (t, z) := ⟨_, _, rfl⟩
          have hok := rd_ok st (s.data.toList.drop k)
          rw [hR] at hok hcall
          obtain ⟨ht4, hz, hz1'⟩ := hok
          simp only at ht4 hz hz1'
          rw [hdl] at hz
          have HR := Lib.hid hR
          clear hR hdl
          by_cases h0 : t = []
          · subst h0
            rw [nz_nil] at hcall
            clear ht4 hz1'
            go_wp2_with fail
            refine (hcall _).mono ?_
            rintro e w1 ⟨rfl, D⟩
            clear hcall
            go_wp2
            go_ret3
            refine ⟨?_, hB.trans (D.mono hB.size)⟩
            rw [un_fail hlt hU.out HR.out]
            rfl
          · have hz1' := hz1' h0
            rw [nz_ne z h0] at hcall
            have HT := Lib.hid h0
            have qz : ((z : Int) == 0) = false := by simp; omega
            clear h0
            have hsz := size_mk t
            go_wp2_with fail
            refine (hcall _).mono ?_
            rintro e w1 ⟨rfl, hB1⟩
            clear hcall
            have hown1 := own_below hown hB1
            go_wp2_with (at_builtin; go_loud (refine Lib.wpList_append_own_string _ rfl _ _ 34 9 rfl w.heap.size 5 i0 Tryd.underlying34 Tryd.underlying9 hi hz0 hz1 hz2 _ _ _ rfl hown1 ⟨t.toArray⟩ rfl ?c1 ?c2 ?c3 ?_))
            case c1 => unfold maxLen; omega
            case c2 => omega
            case c3 => have := hB1.size; omega
            · intro v' w2 hown2 hgrow _
              have R := Lib.hid (fun vi => run_step (vi := vi) (size_mk t) hlt hl hB hB1 hU.out HR.out HT.out hown1 hown2 hgrow)
              clear hown2 hgrow hown hown1 hB hB1
              go_wp2
              go_roundw
              case rel => exact R.out _ (by go_num)
              case measure => simp [intOf]; omega
        · have q : (((s[k]'hlt).toNat : Int) == 92) = false := by simp; omega
          by_cases c10 : (s[k]'hlt).toNat = 10
          · have q10 : (((s[k]'hlt).toNat : Int) == 10) = true := by rw [c10]; rfl
            have HR := Lib.hid (show rd st (s.data.toList.drop k) = ([], 0) by rw [hrd, if_neg (fun h => c92 h.1), if_pos ⟨c10, h4⟩])
            clear hrd hxd c92 c10 hne1 h4 hst
            go_wp2
            go_ret3
            refine ⟨?_, hB⟩
            rw [un_fail hlt hU.out HR.out]
            rfl
          · have q10 : (((s[k]'hlt).toNat : Int) == 10) = false := by simp; omega
            by_cases c34 : (s[k]'hlt).toNat = 34
            · have q34 : (((s[k]'hlt).toNat : Int) == 34) = true := by rw [c34]; rfl
              by_cases h1 : st = 1
              · have f2 : ((st : Int) == 2) = false := by rw [h1]; rfl
                have f3 : ((st : Int) == 3) = false := by rw [h1]; rfl
                have HR := Lib.hid (show rd st (s.data.toList.drop k) = ((s.data.toList.drop k).take 1, 1) by
                  rw [hrd, if_neg (fun h => c92 h.1), if_neg (fun h => c10 h.1), if_neg (fun h => h.2 h1), if_neg (fun h => h4 h.2), if_neg (fun h => h4 h.2)])
                clear hrd hxd c92 c10 c34 h4 hst h1
                have HT := Lib.hid hne1
                have hsz : (s.extract k (k + 1)).size = 1 := by rw [HX1.out, size_mk, List.length_take, hdl]; omega
                have Hl1 := Lib.hid (show 1 = ((s.data.toList.drop k).take 1).length by rw [List.length_take, hdl]; omega)
                clear hne1 hdl
                go_wp2_with (at_builtin; go_loud (refine Lib.wpList_append_own_string _ rfl _ _ 34 9 rfl w.heap.size 5 i0 Tryd.underlying34 Tryd.underlying9 hi hz0 hz1 hz2 _ _ _ rfl hown (s.extract k (k + 1)) rfl ?c1 ?c2 ?c3 ?_))
                case c1 => unfold maxLen; omega
                case c2 => omega
                case c3 => have := hB.size; omega
                · intro v' w2 hown2 hgrow _
                  rw [HX1.out] at hown2
                  have R := Lib.hid (fun vi => run_step (vi := vi) Hl1.out hlt hl hB (Below.refl _ _) hU.out HR.out HT.out hown hown2 hgrow)
                  clear hown2 hgrow hown hB
                  go_wp2
                  go_roundw
                  case rel => exact R.out _ (by go_num)
                  case measure => simp [intOf]; omega
              · have HR := Lib.hid (show rd st (s.data.toList.drop k) = ([], 0) by rw [hrd, if_neg (fun h => c92 h.1), if_neg (fun h => c10 h.1), if_pos ⟨c34, h1⟩])
                by_cases h2 : st = 2
                · have f2 : ((st : Int) == 2) = true := by rw [h2]; rfl
                  clear hrd hxd c92 c10 c34 h4 hst h1 hne1 h2
                  go_wp2
                  go_ret3
                  refine ⟨?_, hB⟩
                  rw [un_fail hlt hU.out HR.out]
                  rfl
                · have f2 : ((st : Int) == 2) = false := by simp; omega
                  have f3 : ((st : Int) == 3) = true := by
                    have : st = 3 := by omega
                    rw [this]; rfl
                  clear hrd hxd c92 c10 c34 h4 hst h1 hne1 h2
                  go_wp2
                  go_ret3
                  refine ⟨?_, hB⟩
                  rw [un_fail hlt hU.out HR.out]
                  rfl
            · have q34 : (((s[k]'hlt).toNat : Int) == 34) = false := by simp; omega
              have HR := Lib.hid (show rd st (s.data.toList.drop k) = ((s.data.toList.drop k).take 1, 1) by
                rw [hrd, if_neg (fun h => c92 h.1), if_neg (fun h => c10 h.1), if_neg (fun h => c34 h.1), if_neg (fun h => h4 h.2), if_neg (fun h => h4 h.2)])
              by_cases h2 : st = 2
              · have f2 : ((st : Int) == 2) = true := by rw [h2]; rfl
                clear hrd hxd c92 c10 c34 h4 hst h2
                have HT := Lib.hid hne1
                have hsz : (s.extract k (k + 1)).size = 1 := by rw [HX1.out, size_mk, List.length_take, hdl]; omega
                have Hl1 := Lib.hid (show 1 = ((s.data.toList.drop k).take 1).length by rw [List.length_take, hdl]; omega)
                clear hne1 hdl
                go_wp2_with (at_builtin; go_loud (refine Lib.wpList_append_own_string _ rfl _ _ 34 9 rfl w.heap.size 5 i0 Tryd.underlying34 Tryd.underlying9 hi hz0 hz1 hz2 _ _ _ rfl hown (s.extract k (k + 1)) rfl ?c1 ?c2 ?c3 ?_))
                case c1 => unfold maxLen; omega
                case c2 => omega
                case c3 => have := hB.size; omega
                · intro v' w2 hown2 hgrow _
                  rw [HX1.out] at hown2
                  have R := Lib.hid (fun vi => run_step (vi := vi) Hl1.out hlt hl hB (Below.refl _ _) hU.out HR.out HT.out hown hown2 hgrow)
                  clear hown2 hgrow hown hB
                  go_wp2
                  go_roundw
                  case rel => exact R.out _ (by go_num)
                  case measure => simp [intOf]; omega
              · have f2 : ((st : Int) == 2) = false := by simp; omega
                by_cases h3 : st = 3
                · have f3 : ((st : Int) == 3) = true := by rw [h3]; rfl
                  clear hrd hxd c92 c10 c34 h4 hst h2 h3
                  have HT := Lib.hid hne1
                  have hsz : (s.extract k (k + 1)).size = 1 := by rw [HX1.out, size_mk, List.length_take, hdl]; omega
                  have Hl1 := Lib.hid (show 1 = ((s.data.toList.drop k).take 1).length by rw [List.length_take, hdl]; omega)
                  clear hne1 hdl
                  go_wp2_with (at_builtin; go_loud (refine Lib.wpList_append_own_string _ rfl _ _ 34 9 rfl w.heap.size 5 i0 Tryd.underlying34 Tryd.underlying9 hi hz0 hz1 hz2 _ _ _ rfl hown (s.extract k (k + 1)) rfl ?c1 ?c2 ?c3 ?_))
                  case c1 => unfold maxLen; omega
                  case c2 => omega
                  case c3 => have := hB.size; omega
                  · intro v' w2 hown2 hgrow _
                    rw [HX1.out] at hown2
                    have R := Lib.hid (fun vi => run_step (vi := vi) Hl1.out hlt hl hB (Below.refl _ _) hU.out HR.out HT.out hown hown2 hgrow)
                    clear hown2 hgrow hown hB
                    go_wp2
                    go_roundw
                    case rel => exact R.out _ (by go_num)
                    case measure => simp [intOf]; omega
                · have f3 : ((st : Int) == 3) = false := by simp; omega
                  clear hrd hxd c92 c10 c34 h4 hst h2 h3
                  have HT := Lib.hid hne1
                  have hsz : (s.extract k (k + 1)).size = 1 := by rw [HX1.out, size_mk, List.length_take, hdl]; omega
                  have Hl1 := Lib.hid (show 1 = ((s.data.toList.drop k).take 1).length by rw [List.length_take, hdl]; omega)
                  clear hne1 hdl
                  go_wp2_with (at_builtin; go_loud (refine Lib.wpList_append_own_string _ rfl _ _ 34 9 rfl w.heap.size 5 i0 Tryd.underlying34 Tryd.underlying9 hi hz0 hz1 hz2 _ _ _ rfl hown (s.extract k (k + 1)) rfl ?c1 ?c2 ?c3 ?_))
                  case c1 => unfold maxLen; omega
                  case c2 => omega
                  case c3 => have := hB.size; omega
                  · intro v' w2 hown2 hgrow _
                    rw [HX1.out] at hown2
                    have R := Lib.hid (fun vi => run_step (vi := vi) Hl1.out hlt hl hB (Below.refl _ _) hU.out HR.out HT.out hown hown2 hgrow)
                    clear hown2 hgrow hown hB
                    go_wp2
                    go_roundw
                    case rel => exact R.out _ (by go_num)
                    case measure => simp [intOf]; omega
    · have hf := conv_own (P := Tryd.prog) Tryd.underlying34 Tryd.underlying5 Tryd.underlying9 hown
      go_wp2
      go_ret3
      refine ⟨?_, hB⟩
      rw [hU.out, drop_end hlt, un_nil]
      simp [jn]
theorem refUnescape_no (st : Int) (s : ByteArray) (w : World) (hst : isSt st = false) :
    Calls Tryd.prog 14 #[.int .i64 st, .string s] w fun e w' => e = .returned (.tuple #[.string ⟨#[]⟩, .int .i64 0, .int .i64 1]) ∧ w = w' := by
  go_enter Tryd.func14, Tryd.ntmps14
  go_wp2_with fail
  refine (style_any _ _).mono ?_
  rintro e w' ⟨rfl, rfl⟩
  rw [hst]
  clear hst
  go_wp2
  go_ret3
  exact ⟨rfl, rfl⟩


set_option maxRecDepth 100000 in
set_option maxHeartbeats 2000000 in
theorem escapeUnescape_walk (st : Int) (s : ByteArray) (hst : (Lit.int .i64 st).wf = true) (hs : s.size ≤ maxLen) (w : World) (E : Env w) :
    Calls Tryd.prog 4 #[.int .i64 st, .string s] w fun e w' => e = .returned (.bool true) ∧ Below w.heap.size w w' := by
  clear hst
  by_cases h3 : 300 < s.size
  · go_enter Tryd.func4, Tryd.ntmps4
    go_wp2_with fail
    refine (awake_any _ E).mono ?_
    rintro e w1 ⟨rfl, D1⟩
    go_wp2_with fail
    refine (awake_any _ (E.below D1)).mono ?_
    rintro e w2 ⟨rfl, D2⟩
    go_wp2
    go_ret
    exact ⟨rfl, below2 D1 D2⟩
  · by_cases hx : isSt st = true
    · obtain ⟨n, rfl, hn⟩ := st_nat hx
      have e1 := fun W hW => unescape_st n s W hW (by omega) hn
      have e2 := fun W => refUnescape_st n s W (by omega) hn
      generalize un n s.data.toList = u at e1 e2
      obtain ⟨ok, t, a⟩ := u
      obtain ⟨r, hr⟩ : ∃ r : Int, r = if ok = true then 0 else 3 := ⟨_, rfl⟩
      have e1 : ∀ W, Env W → Calls Tryd.prog 13 #[.int .i64 n, .string s] W fun e w' => e = .returned (.tuple #[.string ⟨t.toArray⟩, .int .i64 (a : Nat), .int .i64 r]) ∧ Below W.heap.size W w' := fun W hW => by rw [hr]; exact e1 W hW
      have e2 : ∀ W, Calls Tryd.prog 14 #[.int .i64 n, .string s] W fun e w' => e = .returned (.tuple #[.string ⟨t.toArray⟩, .int .i64 (a : Nat), .int .i64 r]) ∧ Below W.heap.size W w' := fun W => by rw [hr]; exact e2 W
      clear hx hn hr
      go_enter Tryd.func4, Tryd.ntmps4
      go_wp2_with fail
      refine (awake_any _ E).mono ?_
      rintro e w1 ⟨rfl, D1⟩
      go_wp2_with fail
      refine (e1 _ (E.below D1)).mono ?_
      rintro e w2 ⟨rfl, D2⟩
      go_wp2_with fail
      refine (e2 _).mono ?_
      rintro e w3 ⟨rfl, D3⟩
      have D := below2 (below2 D1 D2) D3
      clear e1 e2 D1 D2 D3
      go_wp2
      go_ret
      refine ⟨?_, D⟩
      simp
    · have hx' := Bool.eq_false_iff.2 hx
      clear hx
      go_enter Tryd.func4, Tryd.ntmps4
      go_wp2_with fail
      refine (awake_any _ E).mono ?_
      rintro e w1 ⟨rfl, D1⟩
      go_wp2_with fail
      refine (unescape_no st s _ hx').mono ?_
      rintro e w' ⟨rfl, rfl⟩
      go_wp2_with fail
      refine (refUnescape_no st s _ hx').mono ?_
      rintro e w' ⟨rfl, rfl⟩
      go_wp2
      go_ret
      exact ⟨rfl, D1⟩
end Go.Proofs.YtnkmlgkppaglkaaDoor
