/- Cut at a semicolon, entity, readEntity. -/
import Derived.Test.YtnkmlgkppaglkaaDoorEh
namespace Go.Proofs.YtnkmlgkppaglkaaDoor
open Go.RowKit
set_option linter.unusedVariables false

theorem indexByte_cases (l : List UInt8) (c : UInt8) : Lib.indexByte l c = -1 ∨ ∃ k : Nat, Lib.indexByte l c = k ∧ k < l.length := by
  induction l with
  | nil => exact .inl rfl
  | cons b l ih =>
    unfold Lib.indexByte
    split
    · exact .inr ⟨0, rfl, by simp⟩
    · rcases ih with h | ⟨k, h, hk⟩
      · rw [h]; exact .inl rfl
      · rw [h]
        refine .inr ⟨k + 1, ?_, by simp; try omega⟩
        have : ¬ ((k : Int) == -1) = true := by simp only [beq_iff_eq]; omega
        rw [if_neg this]; rfl
def CutPost (w : World) (s : ByteArray) (e : Ending) (w' : World) : Prop :=
  ((∃ k : Nat, Lib.indexByte s.data.toList 59 = k ∧ k < s.size ∧ e = .returned (.tuple #[.string (s.extract 0 k), .string (s.extract (k + 1) s.size), .bool true])) ∨
    (Lib.indexByte s.data.toList 59 = -1 ∧ e = .returned (.tuple #[.string s, .string ⟨#[]⟩, .bool false]))) ∧ Below w.heap.size w w'

set_option maxRecDepth 1000000 in
theorem cutIn_any (s : ByteArray) (hs : s.size ≤ 1099511627776) (w : World) : Calls Tryd.prog 52 #[.string s, .string ⟨#[59]⟩] w (CutPost w s) := by
  rcases indexByte_cases s.data.toList 59 with h | ⟨k, h, hk⟩
  · have H := Lib.hid h
    go_enter Tryd.func52, Tryd.ntmps52
    go_wp2_with fail
    refine (Tryd.stringslite_Index_one s 59 _).mono ?_
    rintro e w' ⟨rfl, rfl⟩
    rw [h]
    clear h
    go_wp2
    go_ret3
    exact ⟨.inr ⟨H.out, rfl⟩, Below.refl _ _⟩
  · have hk : k < s.size := by simpa using hk
    have H := Lib.hid h
    go_enter Tryd.func52, Tryd.ntmps52
    go_wp2_with fail
    refine (Tryd.stringslite_Index_one s 59 _).mono ?_
    rintro e w' ⟨rfl, rfl⟩
    rw [h]
    clear h
    go_wp2_with fail
    go_quiet (fail)
    go_wp2
    go_ret3
    exact ⟨.inl ⟨k, H.out, hk, rfl⟩, below_drewN (Below.refl _ _) _⟩
theorem cut_any (s : ByteArray) (hs : s.size ≤ 1099511627776) (w : World) : Calls Tryd.prog 45 #[.string s, .string ⟨#[59]⟩] w (CutPost w s) := by
  go_enter Tryd.func45, Tryd.ntmps45
  go_wp2_with fail
  refine (cutIn_any s hs _).mono ?_
  rintro e w1 ⟨⟨k, h, hk, rfl⟩ | ⟨h, rfl⟩, D⟩
  · have H := Lib.hid h
    clear h
    go_wp2
    go_ret3
    exact ⟨.inl ⟨k, H.out, hk, rfl⟩, D⟩
  · have H := Lib.hid h
    clear h
    go_wp2
    go_ret3
    exact ⟨.inr ⟨H.out, rfl⟩, D⟩

/-- What the bytes between & and a semicolon stand for, if they are no name. -/
def enN (l : List UInt8) : List UInt8 :=
  if (Lib.hasPrefix l [35, 120] && decide ((l.drop 2).length ≤ 6)) = true then charL 16 (l.drop 2)
  else if (Lib.hasPrefix l [35] && decide ((l.drop 1).length ≤ 7)) = true then charL 10 (l.drop 1) else []
def enL (l : List UInt8) : List UInt8 :=
  if l = [97, 109, 112] then [38] else if l = [108, 116] then [60] else if l = [103, 116] then [62] else if l = [113, 117, 111, 116] then [34] else if l = [97, 112, 111, 115] then [39] else enN l
theorem bytes_ne {t : ByteArray} {l : List UInt8} (h : ¬ t.data.toList = l) : (t.toList == l) = false := by rw [ByteArray.toList_eq]; exact beq_eq_false_iff_ne.2 h
theorem trim_yes {l p : List UInt8} (h : Lib.hasPrefix l p = true) : Lib.trimPrefix l p = l.drop p.length := if_pos h
theorem mk_data (l : List UInt8) : (⟨l.toArray⟩ : ByteArray).data.toList = l := by simp

theorem character_l (b : Nat) (d : List UInt8) (hd : d.length ≤ 7) (w : World) (E : Env w) (hb : b = 10 ∨ b = 16) :
    Calls Tryd.prog 44 #[.string ⟨d.toArray⟩, .int .i64 b] w (StrPost w (charL b d)) := by
  have := character_any b ⟨d.toArray⟩ (by rw [size_mk]; exact hd) w E hb
  rw [mk_data] at this
  exact this

set_option maxRecDepth 1000000 in
set_option maxHeartbeats 1000000 in
theorem entity_any (t : ByteArray) (w : World) (E : Env w) :
    Calls Tryd.prog 46 #[.string t] w (StrPost w (enL t.data.toList)) := by
  by_cases a0 : t.data.toList = [97, 109, 112]
  · have ht := str_ext a0
    have H := Lib.hid (show enL t.data.toList = [38] by rw [a0]; decide)
    clear a0
    rw [H.out]
    subst ht
    go_enter Tryd.func46, Tryd.ntmps46
    go_wp2
    go_ret
    exact ⟨rfl, Below.refl _ _⟩
  have b0 := bytes_ne a0
  by_cases a1 : t.data.toList = [108, 116]
  · have ht := str_ext a1
    have H := Lib.hid (show enL t.data.toList = [60] by rw [a1]; decide)
    clear a1
    rw [H.out]
    subst ht
    go_enter Tryd.func46, Tryd.ntmps46
    go_wp2
    go_ret
    exact ⟨rfl, Below.refl _ _⟩
  have b1 := bytes_ne a1
  by_cases a2 : t.data.toList = [103, 116]
  · have ht := str_ext a2
    have H := Lib.hid (show enL t.data.toList = [62] by rw [a2]; decide)
    clear a2
    rw [H.out]
    subst ht
    go_enter Tryd.func46, Tryd.ntmps46
    go_wp2
    go_ret
    exact ⟨rfl, Below.refl _ _⟩
  have b2 := bytes_ne a2
  by_cases a3 : t.data.toList = [113, 117, 111, 116]
  · have ht := str_ext a3
    have H := Lib.hid (show enL t.data.toList = [34] by rw [a3]; decide)
    clear a3
    rw [H.out]
    subst ht
    go_enter Tryd.func46, Tryd.ntmps46
    go_wp2
    go_ret
    exact ⟨rfl, Below.refl _ _⟩
  have b3 := bytes_ne a3
  by_cases a4 : t.data.toList = [97, 112, 111, 115]
  · have ht := str_ext a4
    have H := Lib.hid (show enL t.data.toList = [39] by rw [a4]; decide)
    clear a4
    rw [H.out]
    subst ht
    go_enter Tryd.func46, Tryd.ntmps46
    go_wp2
    go_ret
    exact ⟨rfl, Below.refl _ _⟩
  have b4 := bytes_ne a4
  have H := Lib.hid (show enL t.data.toList = enN t.data.toList by unfold enL; rw [if_neg a0, if_neg a1, if_neg a2, if_neg a3, if_neg a4])
  rw [H.out]
  clear a0 a1 a2 a3 a4
  by_cases h16 : Lib.hasPrefix t.data.toList [35, 120] = true
  · obtain ⟨d2, hd2⟩ : ∃ d, t.data.toList.drop 2 = d := ⟨_, rfl⟩
    have ht : Lib.trimPrefix t.data.toList [35, 120] = d2 := (trim_yes h16).trans hd2
    by_cases hl : d2.length ≤ 6
    · have H2 := Lib.hid (show enN t.data.toList = charL 16 d2 by unfold enN; rw [h16, hd2, decide_eq_true hl]; rfl)
      rw [H2.out]
      clear hd2
      go_enter Tryd.func46, Tryd.ntmps46
      go_wp2_with fail
      refine (Tryd.strings_CutPrefix t ⟨#[35, 120]⟩ _).mono ?_
      rintro e w' ⟨rfl, rfl⟩
      rw [show (⟨#[35, 120]⟩ : ByteArray).data.toList = [35, 120] from rfl]
      rw [h16, ht]
      go_wp2_with fail
      refine (character_l 16 d2 (by omega) _ E (.inr rfl)).mono ?_
      rintro e w1 ⟨rfl, D⟩
      go_wp2
      go_ret
      exact ⟨rfl, D⟩
    · have hno : (Lib.hasPrefix t.data.toList [35, 120] && decide ((t.data.toList.drop 2).length ≤ 6)) = false := by rw [h16, hd2, decide_eq_false hl]; rfl
      clear hd2
      obtain ⟨d, hd⟩ : ∃ d, t.data.toList.drop 1 = d := ⟨_, rfl⟩
      by_cases h10 : Lib.hasPrefix t.data.toList [35] = true
      · have ht1 : Lib.trimPrefix t.data.toList [35] = d := (trim_yes h10).trans hd
        by_cases hl1 : d.length ≤ 7
        · have H2 := Lib.hid (show enN t.data.toList = charL 10 d by unfold enN; rw [hno, h10, hd, decide_eq_true hl1]; rfl)
          rw [H2.out]
          clear hno hd
          go_enter Tryd.func46, Tryd.ntmps46
          go_wp2_with fail
          refine (Tryd.strings_CutPrefix t ⟨#[35, 120]⟩ _).mono ?_
          rintro e w' ⟨rfl, rfl⟩
          rw [show (⟨#[35, 120]⟩ : ByteArray).data.toList = [35, 120] from rfl]
          rw [h16, ht]
          go_wp2_with fail
          refine (Tryd.strings_CutPrefix t ⟨#[35]⟩ _).mono ?_
          rintro e w' ⟨rfl, rfl⟩
          rw [show (⟨#[35]⟩ : ByteArray).data.toList = [35] from rfl]
          rw [h10, ht1]
          go_wp2_with fail
          refine (character_l 10 d hl1 _ E (.inl rfl)).mono ?_
          rintro e w1 ⟨rfl, D⟩
          go_wp2
          go_ret
          exact ⟨rfl, D⟩
        · have H2 := Lib.hid (show enN t.data.toList = [] by unfold enN; rw [hno, h10, hd, decide_eq_false hl1]; rfl)
          rw [H2.out]
          clear hno hd
          go_enter Tryd.func46, Tryd.ntmps46
          go_wp2_with fail
          refine (Tryd.strings_CutPrefix t ⟨#[35, 120]⟩ _).mono ?_
          rintro e w' ⟨rfl, rfl⟩
          rw [show (⟨#[35, 120]⟩ : ByteArray).data.toList = [35, 120] from rfl]
          rw [h16, ht]
          go_wp2_with fail
          refine (Tryd.strings_CutPrefix t ⟨#[35]⟩ _).mono ?_
          rintro e w' ⟨rfl, rfl⟩
          rw [show (⟨#[35]⟩ : ByteArray).data.toList = [35] from rfl]
          rw [h10, ht1]
          go_wp2
          go_ret
          exact ⟨rfl, Below.refl _ _⟩
      · have h10' := Bool.eq_false_iff.2 h10
        have H2 := Lib.hid (show enN t.data.toList = [] by unfold enN; rw [hno, h10']; rfl)
        rw [H2.out]
        clear hno h10 hd
        obtain ⟨d1, hd1⟩ : ∃ d, Lib.trimPrefix t.data.toList [35] = d := ⟨_, rfl⟩
        go_enter Tryd.func46, Tryd.ntmps46
        go_wp2_with fail
        refine (Tryd.strings_CutPrefix t ⟨#[35, 120]⟩ _).mono ?_
        rintro e w' ⟨rfl, rfl⟩
        rw [show (⟨#[35, 120]⟩ : ByteArray).data.toList = [35, 120] from rfl]
        rw [h16, ht]
        go_wp2_with fail
        refine (Tryd.strings_CutPrefix t ⟨#[35]⟩ _).mono ?_
        rintro e w' ⟨rfl, rfl⟩
        rw [show (⟨#[35]⟩ : ByteArray).data.toList = [35] from rfl]
        rw [h10', hd1]
        go_wp2
        go_ret
        exact ⟨rfl, Below.refl _ _⟩
  · have h16' := Bool.eq_false_iff.2 h16
    have hno : (Lib.hasPrefix t.data.toList [35, 120] && decide ((t.data.toList.drop 2).length ≤ 6)) = false := by rw [h16']; rfl
    obtain ⟨d2, ht2⟩ : ∃ d, Lib.trimPrefix t.data.toList [35, 120] = d := ⟨_, rfl⟩
    clear h16
    obtain ⟨d, hd⟩ : ∃ d, t.data.toList.drop 1 = d := ⟨_, rfl⟩
    by_cases h10 : Lib.hasPrefix t.data.toList [35] = true
    · have ht1 : Lib.trimPrefix t.data.toList [35] = d := (trim_yes h10).trans hd
      by_cases hl1 : d.length ≤ 7
      · have H2 := Lib.hid (show enN t.data.toList = charL 10 d by unfold enN; rw [hno, h10, hd, decide_eq_true hl1]; rfl)
        rw [H2.out]
        clear hno hd
        go_enter Tryd.func46, Tryd.ntmps46
        go_wp2_with fail
        refine (Tryd.strings_CutPrefix t ⟨#[35, 120]⟩ _).mono ?_
        rintro e w' ⟨rfl, rfl⟩
        rw [show (⟨#[35, 120]⟩ : ByteArray).data.toList = [35, 120] from rfl]
        rw [h16', ht2]
        go_wp2_with fail
        refine (Tryd.strings_CutPrefix t ⟨#[35]⟩ _).mono ?_
        rintro e w' ⟨rfl, rfl⟩
        rw [show (⟨#[35]⟩ : ByteArray).data.toList = [35] from rfl]
        rw [h10, ht1]
        go_wp2_with fail
        refine (character_l 10 d hl1 _ E (.inl rfl)).mono ?_
        rintro e w1 ⟨rfl, D⟩
        go_wp2
        go_ret
        exact ⟨rfl, D⟩
      · have H2 := Lib.hid (show enN t.data.toList = [] by unfold enN; rw [hno, h10, hd, decide_eq_false hl1]; rfl)
        rw [H2.out]
        clear hno hd
        go_enter Tryd.func46, Tryd.ntmps46
        go_wp2_with fail
        refine (Tryd.strings_CutPrefix t ⟨#[35, 120]⟩ _).mono ?_
        rintro e w' ⟨rfl, rfl⟩
        rw [show (⟨#[35, 120]⟩ : ByteArray).data.toList = [35, 120] from rfl]
        rw [h16', ht2]
        go_wp2_with fail
        refine (Tryd.strings_CutPrefix t ⟨#[35]⟩ _).mono ?_
        rintro e w' ⟨rfl, rfl⟩
        rw [show (⟨#[35]⟩ : ByteArray).data.toList = [35] from rfl]
        rw [h10, ht1]
        go_wp2
        go_ret
        exact ⟨rfl, Below.refl _ _⟩
    · have h10' := Bool.eq_false_iff.2 h10
      have H2 := Lib.hid (show enN t.data.toList = [] by unfold enN; rw [hno, h10']; rfl)
      rw [H2.out]
      clear hno h10 hd
      obtain ⟨d1, hd1⟩ : ∃ d, Lib.trimPrefix t.data.toList [35] = d := ⟨_, rfl⟩
      go_enter Tryd.func46, Tryd.ntmps46
      go_wp2_with fail
      refine (Tryd.strings_CutPrefix t ⟨#[35, 120]⟩ _).mono ?_
      rintro e w' ⟨rfl, rfl⟩
      rw [show (⟨#[35, 120]⟩ : ByteArray).data.toList = [35, 120] from rfl]
      rw [h16', ht2]
      go_wp2_with fail
      refine (Tryd.strings_CutPrefix t ⟨#[35]⟩ _).mono ?_
      rintro e w' ⟨rfl, rfl⟩
      rw [show (⟨#[35]⟩ : ByteArray).data.toList = [35] from rfl]
      rw [h10', hd1]
      go_wp2
      go_ret
      exact ⟨rfl, Below.refl _ _⟩
end Go.Proofs.YtnkmlgkppaglkaaDoor
