/- The laws DecimalBack, DecimalOrder. -/
import Derived.Test.YtkgjadblfldjnaaKy
namespace Go.Proofs.Ytkgjadblfldjnaa
open Go.RowKit
set_option linter.unusedVariables false

theorem txt_len {x : Num} (g : Good x) : (txt x).length ≤ 23 := by
  have h1 := g.high
  have h2 := g.few
  unfold txt
  rw [List.length_append, List.length_append]
  have e1 : (if x.neg = true then ([45] : Str) else []).length ≤ 1 := by split <;> simp
  have e2 : (if x.fr = [] then ([] : Str) else 46 :: x.fr).length ≤ x.fr.length + 1 := by split <;> simp
  omega
theorem s_of {s : ByteArray} {x : Num} (h : spl s.data.toList = some x) : s = ofL (txt x) := by
  rw [(spl_some h).2, of_data]
theorem spl_ofL {x : Num} (g : Good x) : spl (ofL (txt x)).data.toList = some x := spl_of g
theorem shift_good {x : Num} (g : Good x) (n : Int) (h1 : -9223372036854775808 ≤ n) (h2 : n ≤ 9223372036854775807) (w : World) :
    Calls Try.prog 24 #[.string (ofL (txt x)), .int .i64 n] w fun e w' => (∃ o, Sh x n o ∧ e = .returned (resV o)) ∧ Below w.heap.size w w' := by
  refine (shift_any (ofL (txt x)) n (by rw [ofL_size]; have := txt_len g; omega) h1 h2 w).mono ?_
  rintro e w' ⟨h | ⟨x', o, hx, ho, h⟩, b⟩
  · rw [spl_ofL g] at h; cases h.1
  · rw [spl_ofL g] at hx
    have := Option.some.inj hx
    subst this
    exact ⟨⟨o, ho, h⟩, b⟩
theorem round_good {x : Num} (g : Good x) (n : Int) (w : World) :
    Calls Try.prog 25 #[.string (ofL (txt x)), .int .i64 n] w fun e w' => (((n < 0 ∨ 6 < n) ∧ e = .returned (resV none)) ∨ ∃ (d : Nat) (o : Option Str), n = d ∧ d ≤ 6 ∧ Ro x d o ∧ e = .returned (resV o)) ∧ Below w.heap.size w w' := by
  refine (round_any (ofL (txt x)) n (by rw [ofL_size]; have := txt_len g; omega) w).mono ?_
  rintro e w' ⟨h | ⟨x', hx, hb, h⟩ | ⟨x', d, o, hx, hn, hd, ho, h⟩, b⟩
  · rw [spl_ofL g] at h; cases h.1
  · exact ⟨.inl ⟨hb, h⟩, b⟩
  · rw [spl_ofL g] at hx
    have := Option.some.inj hx
    subst this
    exact ⟨.inr ⟨d, o, hn, hd, ho, h⟩, b⟩
theorem compare_good {x y : Num} (gx : Good x) (gy : Good y) (w : World) :
    Calls Try.prog 21 #[.string (ofL (txt x)), .string (ofL (txt y))] w fun e w' => e = .returned (.tuple #[.int .i64 (cmpI (V x) (V y)), .int .i64 0]) ∧ Below w.heap.size w w' := by
  refine (compare_any (ofL (txt x)) (ofL (txt y)) (by rw [ofL_size]; have := txt_len gx; omega) (by rw [ofL_size]; have := txt_len gy; omega) w).mono ?_
  rintro e w' ⟨h, b⟩
  rw [cmpR_some (spl_ofL gx) (spl_ofL gy)] at h
  exact ⟨h, b⟩
theorem same_good {x y : Num} (gx : Good x) (gy : Good y) (w : World) :
    Calls Try.prog 23 #[.string (ofL (txt x)), .string (ofL (txt y))] w fun e w' => e = .returned (.tuple #[.bool (cmpI (V x) (V y) == 0), .int .i64 0]) ∧ Below w.heap.size w w' := by
  refine (same_any (ofL (txt x)) (ofL (txt y)) (by rw [ofL_size]; have := txt_len gx; omega) (by rw [ofL_size]; have := txt_len gy; omega) w).mono ?_
  rintro e w' ⟨h, b⟩
  rw [cmpR_some (spl_ofL gx) (spl_ofL gy)] at h
  exact ⟨h, b⟩
theorem sh_txt {x : Num} (g : Good x) {n : Int} {t : Str} (h : Sh x n (some t)) : ∃ y, Good y ∧ txt y = t := by
  obtain ⟨y, gy, h1, _⟩ := sh_mag g h
  exact ⟨y, gy, h1⟩
set_option maxRecDepth 1000000 in
set_option maxHeartbeats 4000000 in
theorem decimalBack_walk (s : ByteArray) (n : Int) (hs : s.size ≤ maxLen) (hn : (Lit.int .i8 n).wf = true) (w : World) : Calls Try.prog 8 #[.string s, .int .i8 n] w fun e w' => e = .returned (.bool true) ∧ Below w.heap.size w w' := by
  obtain ⟨n1, n2⟩ := bounds_i8 hn
  have hm : maxLen = 9223372036854775807 := by decide
  rw [hm] at hs
  clear hn hm
  go_enter Try.func8, Try.ntmps8
  go_wp2_with fail
  refine (awake_any _).mono ?_
  rintro e w1 ⟨rfl, b1⟩
  have HB1 := Lib.hid b1
  clear b1
  go_wp2_with fail
  refine (refValid_any s hs _).mono ?_
  cases hsp : spl s.data.toList with
  | none =>
    rintro e w2 ⟨rfl, b2⟩
    have HB2 := Lib.hid (st HB1.out b2 HB1.out.size)
    clear b2 hsp
    go_wp2_with fail
    refine (awake_any _).mono ?_
    rintro e w3 ⟨rfl, b3⟩
    have HB3 := Lib.hid (st HB2.out b3 HB2.out.size)
    clear b3
    go_wp2
    go_ret
    exact ⟨rfl, HB3.out⟩
  | some x =>
    have gx := (spl_some hsp).1
    have GX := Lib.hid gx
    obtain rfl := s_of hsp
    rintro e w2 ⟨rfl, b2⟩
    have HB2 := Lib.hid (st HB1.out b2 HB1.out.size)
    clear b2 hsp gx
    go_wp2_with fail
    refine (shift_good GX.out 0 (by omega) (by omega) _).mono ?_
    rintro e w3 ⟨⟨o, ho, rfl⟩, b3⟩
    have ho2 := sh_self GX.out ho
    subst ho2
    unfold resV
    have HB3 := Lib.hid (st HB2.out b3 HB2.out.size)
    clear b3 ho
    go_wp2_with fail
    refine (shift_good GX.out n (by omega) (by omega) _).mono ?_
    rintro e w4 ⟨⟨o, ho, rfl⟩, b4⟩
    have HO := Lib.hid ho
    have HB4 := Lib.hid (st HB3.out b4 HB3.out.size)
    clear b4 ho
    cases o with
    | none =>
      have e0 : ((ofL []).toList == ([] : List UInt8)) = true := by rw [ByteArray.toList_eq]; rfl
      unfold resV
      go_wp2
      go_ret
      exact ⟨rfl, HB4.out⟩
    | some t =>
      obtain ⟨y, gy, rfl⟩ := sh_txt GX.out HO.out
      have GY := Lib.hid gy
      clear gy
      unfold resV
      go_wp2_with fail
      refine (shift_good GY.out (-n) (by omega) (by omega) _).mono ?_
      rintro e w5 ⟨⟨o, ho, rfl⟩, b5⟩
      have HP := Lib.hid ho
      have HB5 := Lib.hid (st HB4.out b5 HB4.out.size)
      clear b5 ho
      cases o with
      | none =>
        unfold resV
        go_wp2
        go_ret
        exact ⟨rfl, HB5.out⟩
      | some t2 =>
        obtain ⟨z, gz, rfl⟩ := sh_txt GY.out HP.out
        have GZ := Lib.hid gz
        have HV : Hid ((cmpI (V x) (V z) == 0) = true) := Lib.hid (by rw [beq_iff_eq, cmpI_zero]; exact (sh_back GX.out HO.out (spl_of GY.out) HP.out (spl_of gz)).symm)
        clear gz
        unfold resV
        go_wp2_with fail
        refine (same_good GX.out GZ.out _).mono ?_
        rw [HV.out]
        rintro e w6 ⟨rfl, b6⟩
        have HB6 := Lib.hid (st HB5.out b6 HB5.out.size)
        clear b6
        go_wp2
        go_ret
        exact ⟨rfl, HB6.out⟩
end Go.Proofs.Ytkgjadblfldjnaa
