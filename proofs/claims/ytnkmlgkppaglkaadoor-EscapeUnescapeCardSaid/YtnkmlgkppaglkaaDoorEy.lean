/- The specification's backslash. -/
import Derived.Test.YtnkmlgkppaglkaaDoorEx
namespace Go.Proofs.YtnkmlgkppaglkaaDoor
open Go.RowKit
set_option linter.unusedVariables false

/-- The specification's size of a sequence is 0 where there is none. -/
def nz (p : Rd) : Rd := if p.1 = [] then ([], 0) else p
theorem nz_nil (k : Nat) : nz ([], k) = ([], 0) := if_pos rfl
theorem nz_ne {a : List UInt8} (k : Nat) (h : a ≠ []) : nz (a, k) = (a, k) := if_neg h
theorem numV_cases (b : Nat) (l : List UInt8) : (numV b l = -1 ∧ charL b l = []) ∨ ∃ u : Nat, numV b l = u ∧ charL b l = (if Utf8.valid (u : Int) = true then enc u else []) := by
  unfold numV charL
  by_cases h : l = []
  · exact .inl ⟨if_pos h, if_pos h⟩
  · rw [if_neg h, if_neg h]
    cases pu b 0 l with
    | none => exact .inl ⟨rfl, rfl⟩
    | some u => exact .inr ⟨u, rfl, rfl⟩
theorem enc_small (u : Nat) (h : u < 128) : Utf8.valid (u : Int) = true ∧ enc u = [UInt8.ofNat u] := by
  have hv : Utf8.valid (u : Int) = true := (valid_iff _).2 (.inl ⟨by omega, by omega⟩)
  refine ⟨hv, ?_⟩
  rw [enc_of (enc1 (u : Int) hv (by omega) (by omega))]
  rfl
theorem hex2 (a b : UInt8) : ((0 ≤ numV 16 [a, b] ∧ numV 16 [a, b] ≤ 127) → a.toNat ≤ 55 ∧ charL 16 [a, b] = [UInt8.ofNat (numV 16 [a, b]).toNat]) ∧
    (¬ (0 ≤ numV 16 [a, b] ∧ numV 16 [a, b] ≤ 127) → a.toNat ≤ 55 → charL 16 [a, b] = []) := by
  rcases numV_cases 16 [a, b] with ⟨h1, h2⟩ | ⟨u, h1, h2⟩
  · rw [h1, h2]
    exact ⟨fun h => by omega, fun _ _ => rfl⟩
  · rw [h1, h2]
    have hp : pu 16 0 [a, b] = some u := by
      unfold numV at h1
      rw [if_neg (by simp)] at h1
      cases hq : pu 16 0 [a, b] with
      | none => rw [hq] at h1; simp only [] at h1; omega
      | some v =>
        rw [hq] at h1
        simp only [] at h1
        have : v = u := by omega
        rw [this]
    have key : u ≤ 127 ↔ a.toNat ≤ 55 := by
      simp only [pu] at hp
      cases ha : dg 16 a.toNat with
      | none => rw [ha] at hp; cases hp
      | some x =>
        rw [ha] at hp
        simp only at hp
        cases hb : dg 16 b.toNat with
        | none => rw [hb] at hp; cases hp
        | some y =>
          rw [hb] at hp
          simp only at hp
          have hu : (0 * 16 + x) * 16 + y = u := Option.some.inj hp
          have hx : (x ≤ 7 ↔ a.toNat ≤ 55) := by
            unfold dg at ha
            repeat' split at ha
            all_goals first | (have := Option.some.inj ha; omega) | cases ha
          have hy : y < 16 := by
            unfold dg at hb
            repeat' split at hb
            all_goals first | (have := Option.some.inj hb; omega) | cases hb
          omega
    refine ⟨fun h => ⟨key.1 (by omega), ?_⟩, fun h h' => absurd ⟨by omega, by have := key.2 h'; omega⟩ h⟩
    have he := enc_small u (by omega)
    rw [if_pos he.1, he.2]
    simp
theorem isSelf_in (n : Nat) : inL n [92, 34, 61, 58, 35, 33, 123, 125, 32] = isSelf n := by
  simp only [inL, isSelf, List.any_cons, List.any_nil]
  have e : ∀ k : Nat, decide (k = n) = (n == k) := fun k => by
    by_cases h : k = n
    · rw [decide_eq_true h]; simp [h]
    · rw [decide_eq_false h]; exact (beq_eq_false_iff_ne.2 (fun h' => h h'.symm)).symm
  show (decide (92 = n) || (decide (34 = n) || (decide (61 = n) || (decide (58 = n) || (decide (35 = n) || (decide (33 = n) || (decide (123 = n) || (decide (125 = n) || (decide (32 = n) || false))))))))) = _
  simp only [e, Bool.or_false, Bool.or_assoc]
theorem take_two {l : List UInt8} {i : Nat} (h : i + 2 ≤ l.length) : ∃ a b, (l.drop i).take 2 = [a, b] ∧ a.toNat = byt l i := by
  obtain ⟨a, e, ha⟩ := drop_at (l := l) (k := i) (by omega)
  obtain ⟨b, e2, _⟩ := drop_at (l := l) (k := i + 1) (by omega)
  exact ⟨a, b, by rw [e, e2]; rfl, ha⟩
theorem number_x (s : ByteArray) (i j : Nat) (h : j - i ≤ 7) (w : World) :
    Calls Tryd.prog 38 #[.string (s.extract i j), .int .i64 16] w fun e w' => e = .returned (.int .i64 (numV 16 ((s.data.toList.drop i).take (j - i)))) ∧ w = w' := by
  have hsz : (s.extract i j).size ≤ 7 := by rw [← len_data, ext_take, List.length_take]; omega
  have := number16 (s.extract i j) hsz w
  rw [ext_take] at this
  exact this

set_option maxRecDepth 1000000 in
set_option maxHeartbeats 4000000 in
theorem refBackslash_any (s : ByteArray) (hs : s.size ≤ 1099511627776) (w : World) :
    Calls Tryd.prog 30 #[.string s] w (RdPost w (nz (rdB s.data.toList))) := by
  have k1 := fun w a => conv_new1 (P := Tryd.prog) Tryd.underlying34 Tryd.underlying5 Tryd.underlying9 w a
  have hlen := len_data s
  by_cases h2 : s.size < 2
  · have H := Lib.hid (show nz (rdB s.data.toList) = ([], 0) by unfold rdB; rw [if_pos (by omega)]; rfl)
    rw [H.out]
    clear H hlen
    go_enter Tryd.func30, Tryd.ntmps30
    go_wp2
    go_ret2
    exact ⟨rfl, Below.refl _ _⟩
  have hi : 1 < s.size := by omega
  have hb := byt_get s 1 hi
  have hU : nz (rdB s.data.toList) = nz (if byt s.data.toList 1 = 110 then ([10], 2) else if byt s.data.toList 1 = 114 then ([13], 2) else if byt s.data.toList 1 = 116 then ([9], 2)
      else if isSelf (byt s.data.toList 1) = true then ((s.data.toList.drop 1).take 1, 2)
      else if byt s.data.toList 1 = 120 then (if 4 ≤ s.size ∧ byt s.data.toList 2 ≤ 55 then (charL 16 ((s.data.toList.drop 2).take 2), 4) else ([], 0))
      else if byt s.data.toList 1 = 117 then (if 6 ≤ s.size then (charL 16 ((s.data.toList.drop 2).take 4), 6) else ([], 0)) else ([], 0)) := by
    unfold rdB
    rw [if_neg (by omega), hlen]
  rw [← hb] at hU
  generalize hR : nz (rdB s.data.toList) = R at hU
  clear hR
  by_cases c0 : (s[1]'hi).toNat = 110
  · have H := Lib.hid (show R = ([10], 2) by rw [hU]; simp [c0, nz])
    rw [H.out]
    have q : (((s[1]'hi).toNat : Int) == 110) = true := by rw [c0]; rfl
    clear H hU hb hlen c0
    go_enter Tryd.func30, Tryd.ntmps30
    go_wp2
    go_ret2
    exact ⟨rfl, Below.refl _ _⟩
  have i0 : (((s[1]'hi).toNat : Int) == 110) = false := by simp; omega
  rw [if_neg c0] at hU
  by_cases c1 : (s[1]'hi).toNat = 114
  · have H := Lib.hid (show R = ([13], 2) by rw [hU]; simp [c1, nz])
    rw [H.out]
    have q : (((s[1]'hi).toNat : Int) == 114) = true := by rw [c1]; rfl
    clear H hU hb hlen c1
    go_enter Tryd.func30, Tryd.ntmps30
    go_wp2
    go_ret2
    exact ⟨rfl, Below.refl _ _⟩
  have i1 : (((s[1]'hi).toNat : Int) == 114) = false := by simp; omega
  rw [if_neg c1] at hU
  by_cases c2 : (s[1]'hi).toNat = 116
  · have H := Lib.hid (show R = ([9], 2) by rw [hU]; simp [c2, nz])
    rw [H.out]
    have q : (((s[1]'hi).toNat : Int) == 116) = true := by rw [c2]; rfl
    clear H hU hb hlen c2
    go_enter Tryd.func30, Tryd.ntmps30
    go_wp2
    go_ret2
    exact ⟨rfl, Below.refl _ _⟩
  have i2 : (((s[1]'hi).toNat : Int) == 116) = false := by simp; omega
  rw [if_neg c2] at hU
  by_cases hself : isSelf (s[1]'hi).toNat = true
  · have H := Lib.hid (show R = ((s.data.toList.drop 1).take 1, 2) by
      rw [hU, if_pos hself, nz_ne]
      obtain ⟨a, e, _⟩ := drop_at (l := s.data.toList) (k := 1) (by omega)
      rw [e]; simp)
    clear hU hb hlen c0 c1 c2
    go_enter Tryd.func30, Tryd.ntmps30
    go_wp2_with fail
    refine (in_any (s[1]'hi).toNat ⟨#[92, 34, 61, 58, 35, 33, 123, 125, 32]⟩ (by decide) _).mono ?_
    rintro e w' ⟨rfl, rfl⟩
    rw [isSelf_in]
    rw [hself]
    go_wp2
    go_ret2
    refine ⟨?_, Below.refl _ _⟩
    rw [H.out]
    exact ret_sn (str_ext (ext_take s 1 2)) rfl
  rw [if_neg hself] at hU
  replace hself := Bool.eq_false_iff.2 hself
  clear c0 c1 c2 hb
  by_cases cx : (s[1]'hi).toNat = 120
  · have q : (((s[1]'hi).toNat : Int) == 120) = true := by rw [cx]; rfl
    rw [if_pos cx] at hU
    by_cases h4 : 4 ≤ s.size
    · have g4 : decide ((4 : Int) ≤ s.size) = true := decide_eq_true (by omega)
      obtain ⟨a, b, e2, ha⟩ := take_two (l := s.data.toList) (i := 2) (by omega)
      rw [e2, ← ha] at hU
      have hnum := number_x s 2 4 (by decide)
      rw [e2] at hnum
      have hx := hex2 a b
      generalize numV 16 [a, b] = v at hx hnum
      by_cases hv : 0 ≤ v ∧ v ≤ 127
      · obtain ⟨x1, x2⟩ := hx.1 hv
        have H := Lib.hid (show R = ([UInt8.ofNat v.toNat], 4) by rw [hU, if_pos ⟨h4, x1⟩, x2]; rfl)
        obtain ⟨v0, v1⟩ := hv
        have d0 : decide (0 ≤ v) = true := decide_eq_true v0
        have d1 : decide (v ≤ 127) = true := decide_eq_true v1
        clear hU hlen cx x1 x2 hx e2 ha
        go_enter Tryd.func30, Tryd.ntmps30
        go_wp2_with fail
        refine (in_any (s[1]'hi).toNat ⟨#[92, 34, 61, 58, 35, 33, 123, 125, 32]⟩ (by decide) _).mono ?_
        rintro e w' ⟨rfl, rfl⟩
        rw [isSelf_in]
        rw [hself]
        go_wp2_with fail
        refine (hnum _).mono ?_
        rintro e w' ⟨rfl, rfl⟩
        go_wp2
        go_ret2
        refine ⟨?_, below_one⟩
        rw [H.out]
        exact ret_sn rfl rfl
      · have H := Lib.hid (show R = ([], 0) by
          rw [hU]
          split
          · rename_i h'; rw [hx.2 hv h'.2]; rfl
          · rfl)
        have d : (decide (0 ≤ v) && decide (v ≤ 127)) = false := by simp; omega
        clear hU hlen cx hx e2 ha
        by_cases v0 : 0 ≤ v
        · have d0 : decide (0 ≤ v) = true := decide_eq_true v0
          have d1 : decide (v ≤ 127) = false := decide_eq_false (by omega)
          clear d hv
          go_enter Tryd.func30, Tryd.ntmps30
          go_wp2_with fail
          refine (in_any (s[1]'hi).toNat ⟨#[92, 34, 61, 58, 35, 33, 123, 125, 32]⟩ (by decide) _).mono ?_
          rintro e w' ⟨rfl, rfl⟩
          rw [isSelf_in]
          rw [hself]
          go_wp2_with fail
          refine (hnum _).mono ?_
          rintro e w' ⟨rfl, rfl⟩
          go_wp2
          go_ret2
          refine ⟨?_, Below.refl _ _⟩
          rw [H.out]
          rfl
        · have d0 : decide (0 ≤ v) = false := decide_eq_false v0
          clear d hv
          go_enter Tryd.func30, Tryd.ntmps30
          go_wp2_with fail
          refine (in_any (s[1]'hi).toNat ⟨#[92, 34, 61, 58, 35, 33, 123, 125, 32]⟩ (by decide) _).mono ?_
          rintro e w' ⟨rfl, rfl⟩
          rw [isSelf_in]
          rw [hself]
          go_wp2_with fail
          refine (hnum _).mono ?_
          rintro e w' ⟨rfl, rfl⟩
          go_wp2
          go_ret2
          refine ⟨?_, Below.refl _ _⟩
          rw [H.out]
          rfl
    · have g4 : decide ((4 : Int) ≤ s.size) = false := decide_eq_false (by omega)
      have iu' : (((s[1]'hi).toNat : Int) == 117) = false := by simp; omega
      rw [if_neg (fun h => h4 h.1)] at hU
      have H := Lib.hid (show R = ([], 0) by rw [hU]; rfl)
      clear hU hlen cx h4
      go_enter Tryd.func30, Tryd.ntmps30
      go_wp2_with fail
      refine (in_any (s[1]'hi).toNat ⟨#[92, 34, 61, 58, 35, 33, 123, 125, 32]⟩ (by decide) _).mono ?_
      rintro e w' ⟨rfl, rfl⟩
      rw [isSelf_in]
      rw [hself]
      go_wp2
      go_ret2
      refine ⟨?_, Below.refl _ _⟩
      rw [H.out]
      rfl
  have ix : (((s[1]'hi).toNat : Int) == 120) = false := by simp; omega
  rw [if_neg cx] at hU
  clear cx
  by_cases cu : (s[1]'hi).toNat = 117
  · have q : (((s[1]'hi).toNat : Int) == 117) = true := by rw [cu]; rfl
    rw [if_pos cu] at hU
    by_cases h6 : 6 ≤ s.size
    · have g6 : decide ((6 : Int) ≤ s.size) = true := decide_eq_true (by omega)
      rw [if_pos h6] at hU
      have hnum := number_x s 2 6 (by decide)
      rcases numV_cases 16 ((s.data.toList.drop 2).take 4) with ⟨x1, x2⟩ | ⟨u, x1, x2⟩
      · rw [x2] at hU
        have H := Lib.hid (show R = ([], 0) by rw [hU]; rfl)
        have hnum : ∀ w, Calls _ _ _ w _ := hnum
        rw [show (6 - 2) = 4 from rfl, x1] at hnum
        clear hU hlen cu x1 x2
        go_enter Tryd.func30, Tryd.ntmps30
        go_wp2_with fail
        refine (in_any (s[1]'hi).toNat ⟨#[92, 34, 61, 58, 35, 33, 123, 125, 32]⟩ (by decide) _).mono ?_
        rintro e w' ⟨rfl, rfl⟩
        rw [isSelf_in]
        rw [hself]
        go_wp2_with fail
        refine (hnum _).mono ?_
        rintro e w' ⟨rfl, rfl⟩
        go_wp2
        go_ret2
        refine ⟨?_, Below.refl _ _⟩
        rw [H.out]
        rfl
      · rw [x2] at hU
        rw [show (6 - 2) = 4 from rfl, x1] at hnum
        have d0 : decide (0 ≤ (u : Int)) = true := decide_eq_true (by omega)
        by_cases hval : Utf8.valid (u : Int) = true
        · rw [if_pos hval] at hU
          have H := Lib.hid (show R = (enc u, 6) by rw [hU, nz_ne]; exact List.ne_nil_of_length_pos (by have := (enc_length (u : Int)).1; omega))
          have Hv := Lib.hid hval
          clear hU hlen cu x1 x2 hval
          go_enter Tryd.func30, Tryd.ntmps30
          go_wp2_with fail
          refine (in_any (s[1]'hi).toNat ⟨#[92, 34, 61, 58, 35, 33, 123, 125, 32]⟩ (by decide) _).mono ?_
          rintro e w' ⟨rfl, rfl⟩
          rw [isSelf_in]
          rw [hself]
          go_wp2_with fail
          refine (hnum _).mono ?_
          rintro e w' ⟨rfl, rfl⟩
          go_wp2_with fail
          refine (point_yes _ _ Hv.out).mono ?_
          rintro e w' ⟨rfl, rfl⟩
          go_wp2_with fail
          refine (one_any _ _ Hv.out).mono ?_
          rintro e w1 ⟨rfl, D⟩
          go_wp2
          go_ret2
          refine ⟨?_, D⟩
          rw [H.out]
          exact ret_sn (str_ext rfl) rfl
        · rw [if_neg hval] at hU
          have H := Lib.hid (show R = ([], 0) by rw [hU]; rfl)
          have Hv := Lib.hid (Bool.eq_false_iff.2 hval)
          clear hU hlen cu x1 x2 hval
          go_enter Tryd.func30, Tryd.ntmps30
          go_wp2_with fail
          refine (in_any (s[1]'hi).toNat ⟨#[92, 34, 61, 58, 35, 33, 123, 125, 32]⟩ (by decide) _).mono ?_
          rintro e w' ⟨rfl, rfl⟩
          rw [isSelf_in]
          rw [hself]
          go_wp2_with fail
          refine (hnum _).mono ?_
          rintro e w' ⟨rfl, rfl⟩
          go_wp2_with fail
          refine (point_no _ _ Hv.out).mono ?_
          rintro e w' ⟨rfl, rfl⟩
          go_wp2
          go_ret2
          refine ⟨?_, Below.refl _ _⟩
          rw [H.out]
          rfl
    · have g6 : decide ((6 : Int) ≤ s.size) = false := decide_eq_false (by omega)
      rw [if_neg h6] at hU
      have H := Lib.hid (show R = ([], 0) by rw [hU]; rfl)
      clear hU hlen cu h6
      go_enter Tryd.func30, Tryd.ntmps30
      go_wp2_with fail
      refine (in_any (s[1]'hi).toNat ⟨#[92, 34, 61, 58, 35, 33, 123, 125, 32]⟩ (by decide) _).mono ?_
      rintro e w' ⟨rfl, rfl⟩
      rw [isSelf_in]
      rw [hself]
      go_wp2
      go_ret2
      refine ⟨?_, Below.refl _ _⟩
      rw [H.out]
      rfl
  have iu : (((s[1]'hi).toNat : Int) == 117) = false := by simp; omega
  rw [if_neg cu] at hU
  have H := Lib.hid (show R = ([], 0) by rw [hU]; rfl)
  clear hU hlen cu
  go_enter Tryd.func30, Tryd.ntmps30
  go_wp2_with fail
  refine (in_any (s[1]'hi).toNat ⟨#[92, 34, 61, 58, 35, 33, 123, 125, 32]⟩ (by decide) _).mono ?_
  rintro e w' ⟨rfl, rfl⟩
  rw [isSelf_in]
  rw [hself]
  go_wp2
  go_ret2
  refine ⟨?_, Below.refl _ _⟩
  rw [H.out]
  rfl
end Go.Proofs.YtnkmlgkppaglkaaDoor
