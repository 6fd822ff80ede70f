/- In; the laws EscapeLetters and EscapeSafe. -/
import Derived.Test.YtnkmlgkppaglkaaDoorEq
namespace Go.Proofs.YtnkmlgkppaglkaaDoor
open Go.RowKit
set_option linter.unusedVariables false

def inL (c : Nat) (l : List UInt8) : Bool := l.any fun x => decide (x.toNat = c)
theorem inL_hit {c k : Nat} {l : List UInt8} (h : k < l.length) (hc : byt l k = c) : inL c (l.drop k) = true := by
  obtain ⟨x, e, hb⟩ := drop_at h
  rw [e]
  simp [inL, hb, hc]
theorem inL_step {c k : Nat} {l : List UInt8} (h : k < l.length) (hc : byt l k ≠ c) : inL c (l.drop k) = inL c (l.drop (k + 1)) := by
  obtain ⟨x, e, hb⟩ := drop_at h
  rw [e]
  simp [inL, hb, hc]
def InRel (c : Nat) (s : ByteArray) (i : Value) : Prop := ∃ k : Nat, i = .int .i64 k ∧ k ≤ s.size ∧ inL c s.data.toList = inL c (s.data.toList.drop k)
set_option maxRecDepth 1000000 in
theorem in_any (c : Nat) (s : ByteArray) (hs : s.size ≤ 1099511627776) (w : World) :
    Calls Tryd.prog 18 #[.int .u8 c, .string s] w fun e w' => e = .returned (.bool (inL c s.data.toList)) ∧ w = w' := by
  go_enter Tryd.func18, Tryd.ntmps18
  go_wp2
  go_loop [5] (fun i => InRel c s i) (fun i => s.size - (intOf i).toNat)
  case atStart => exact ⟨0, rfl, Nat.zero_le _, by rw [List.drop_zero]⟩
  case round =>
    obtain ⟨k, rfl, hk, hu⟩ := hrel
    have hU := Lib.hid hu
    clear hu
    by_cases hlt : k < s.size
    · have hb := byt_get s k hlt
      by_cases cd : (s[k]'hlt).toNat = c
      · have R := Lib.hid (inL_hit (c := c) (l := s.data.toList) (k := k) (by rw [len_data]; exact hlt) (hb.symm.trans cd))
        have id : ((s[k]'hlt).toNat : Int) = c := by omega
        have id' : (((s[k]'hlt).toNat : Int) == c) = true := by rw [id]; simp
        clear hb cd id
        go_wp2
        go_ret
        refine ⟨?_, rfl⟩
        rw [hU.out, R.out]
        rfl
      · have id : ¬ ((s[k]'hlt).toNat : Int) = c := by omega
        have R := Lib.hid (inL_step (c := c) (l := s.data.toList) (k := k) (by rw [len_data]; exact hlt) (by rw [← hb]; exact cd))
        clear hb cd
        go_wp2
        refine ⟨⟨k + 1, by go_num, by omega, hU.out.trans R.out⟩, by simp [intOf]; omega⟩
    · go_wp2
      go_ret
      refine ⟨?_, rfl⟩
      rw [hU.out, drop_end hlt]
      rfl

theorem split8 (n : Nat) : n ≤ 31 ∨ n = 32 ∨ (33 ≤ n ∧ n ≤ 47) ∨ (48 ≤ n ∧ n ≤ 57) ∨ (58 ≤ n ∧ n ≤ 64) ∨ (65 ≤ n ∧ n ≤ 90) ∨ (91 ≤ n ∧ n ≤ 96) ∨ 97 ≤ n := by omega
def LetRel (s : ByteArray) (i c : Value) : Prop := ∃ k : Nat, i = .int .i64 k ∧ k ≤ s.size ∧ ∀ x ∈ s.data.toList.take k, isLet x.toNat = true
theorem let_step {s : ByteArray} {k : Nat} {vi vc : Value} (hk : k < s.size) (h : ∀ x ∈ s.data.toList.take k, isLet x.toNat = true) (hl : isLet (s[k]'hk).toNat = true) (hv : vi = .int .i64 (k + 1 : Nat)) : LetRel s vi vc := by
  refine ⟨k + 1, hv, hk, fun x hx => ?_⟩
  rw [List.take_succ_eq_append_getElem (by rw [len_data]; exact hk)] at hx
  rcases List.mem_append.1 hx with h' | h'
  · exact h x h'
  · have : x = s[k]'hk := List.mem_singleton.1 h'
    rw [this]; exact hl

set_option maxRecDepth 1000000 in
set_option maxHeartbeats 4000000 in
theorem escapeLetters_walk (st : Int) (s : ByteArray) (hst : (Lit.int .i64 st).wf = true) (hs : s.size ≤ maxLen) (w : World) (E : Env w) :
    Calls Tryd.prog 9 #[.int .i64 st, .string s] w fun e w' => e = .returned (.bool true) ∧ Below w.heap.size w w' := by
  clear hst
  by_cases h3 : 300 < s.size
  · have b3 : decide ((300 : Int) < s.size) = true := decide_eq_true (by omega)
    go_enter Tryd.func9, Tryd.ntmps9
    go_wp2_with fail
    refine (awake_any _ E).mono ?_
    rintro e w1 ⟨rfl, D1⟩
    go_wp2_with fail
    refine (awake_any _ (E.below D1)).mono ?_
    rintro e w2 ⟨rfl, D2⟩
    go_wp2
    go_ret
    exact ⟨rfl, below2 D1 D2⟩
  have b3 : decide ((300 : Int) < s.size) = false := decide_eq_false (by omega)
  by_cases hx : isSt st = true
  · obtain ⟨n, rfl, hn⟩ := st_nat hx
    have Hn := Lib.hid hn
    clear hn
    by_cases h0 : 0 < s.size
    · have b0 : decide ((0 : Int) < s.size) = true := decide_eq_true (by omega)
      by_cases h32 : (s[0]'h0).toNat = 32
      · have q : ((s[0]'h0).toNat : Int) = 32 := by omega
        clear h32
        go_enter Tryd.func9, Tryd.ntmps9
        go_wp2_with fail
        refine (awake_any _ E).mono ?_
        rintro e w1 ⟨rfl, D1⟩
        go_wp2_with fail
        refine (style_any _ _).mono ?_
        rintro e w' ⟨rfl, rfl⟩
        rw [hx]
        go_wp2_with fail
        refine (awake_any _ (E.below D1)).mono ?_
        rintro e w2 ⟨rfl, D2⟩
        go_wp2
        go_ret
        exact ⟨rfl, below2 D1 D2⟩
      · have q : ¬ ((s[0]'h0).toNat : Int) = 32 := by omega
        have hfirst := Lib.hid (show ¬ (0 < s.data.toList.length ∧ byt s.data.toList 0 = 32) from fun h => h32 (by rw [byt_get]; exact h.2))
        clear h32
        go_enter Tryd.func9, Tryd.ntmps9
        go_wp2_with fail
        refine (awake_any _ E).mono ?_
        rintro e w1 ⟨rfl, D1⟩
        go_wp2_with fail
        refine (style_any _ _).mono ?_
        rintro e w' ⟨rfl, rfl⟩
        rw [hx]
        clear hx
        have HD := Lib.hid D1
        clear D1
        go_wp2
        go_loop [5, 6] (fun i c => LetRel s i c) (fun i _ => s.size - (intOf i).toNat)
        case atStart => exact ⟨0, rfl, Nat.zero_le _, by simp⟩
        case round =>
          obtain ⟨k, rfl, hk, hall⟩ := hrel
          have Hall := Lib.hid hall
          clear hall
          by_cases hlt : k < s.size
          · rcases split8 (s[k]'hlt).toNat with h | h | h | h | h | h | h | h
            · have q1 : 0 ≤ ((s[k]'hlt).toNat : Int) := by omega
              have q2 : ((s[k]'hlt).toNat : Int) ≤ 31 := by omega
              have t32 : (((s[k]'hlt).toNat : Int) != 32) = true := by simp; omega
              have t48 : decide (((s[k]'hlt).toNat : Int) < 48) = true := decide_eq_true (by omega)
              have t57 : decide (57 < ((s[k]'hlt).toNat : Int)) = false := decide_eq_false (by omega)
              have t65 : decide (((s[k]'hlt).toNat : Int) < 65) = true := decide_eq_true (by omega)
              have t90 : decide (90 < ((s[k]'hlt).toNat : Int)) = false := decide_eq_false (by omega)
              have t97 : decide (((s[k]'hlt).toNat : Int) < 97) = true := decide_eq_true (by omega)
              have t122 : decide (122 < ((s[k]'hlt).toNat : Int)) = false := decide_eq_false (by omega)
              clear h
              go_wp2
              go_ret
              exact ⟨rfl, HD.out⟩
            · have q1 : ((s[k]'hlt).toNat : Int) = 32 := by omega
              have hL := Lib.hid (show isLet (s[k]'hlt).toNat = true by unfold isLet; simp; omega)
              clear h
              go_wp2
              refine ⟨let_step hlt Hall.out hL.out (by go_num), by simp [intOf]; omega⟩
            · have q1 : 33 ≤ ((s[k]'hlt).toNat : Int) := by omega
              have q2 : ((s[k]'hlt).toNat : Int) ≤ 47 := by omega
              have t32 : (((s[k]'hlt).toNat : Int) != 32) = true := by simp; omega
              have t48 : decide (((s[k]'hlt).toNat : Int) < 48) = true := decide_eq_true (by omega)
              have t57 : decide (57 < ((s[k]'hlt).toNat : Int)) = false := decide_eq_false (by omega)
              have t65 : decide (((s[k]'hlt).toNat : Int) < 65) = true := decide_eq_true (by omega)
              have t90 : decide (90 < ((s[k]'hlt).toNat : Int)) = false := decide_eq_false (by omega)
              have t97 : decide (((s[k]'hlt).toNat : Int) < 97) = true := decide_eq_true (by omega)
              have t122 : decide (122 < ((s[k]'hlt).toNat : Int)) = false := decide_eq_false (by omega)
              clear h
              go_wp2
              go_ret
              exact ⟨rfl, HD.out⟩
            · have q1 : 48 ≤ ((s[k]'hlt).toNat : Int) := by omega
              have q2 : ((s[k]'hlt).toNat : Int) ≤ 57 := by omega
              have t32 : (((s[k]'hlt).toNat : Int) != 32) = true := by simp; omega
              have t48 : decide (((s[k]'hlt).toNat : Int) < 48) = false := decide_eq_false (by omega)
              have t57 : decide (57 < ((s[k]'hlt).toNat : Int)) = false := decide_eq_false (by omega)
              have t65 : decide (((s[k]'hlt).toNat : Int) < 65) = true := decide_eq_true (by omega)
              have t90 : decide (90 < ((s[k]'hlt).toNat : Int)) = false := decide_eq_false (by omega)
              have t97 : decide (((s[k]'hlt).toNat : Int) < 97) = true := decide_eq_true (by omega)
              have t122 : decide (122 < ((s[k]'hlt).toNat : Int)) = false := decide_eq_false (by omega)
              have hL := Lib.hid (show isLet (s[k]'hlt).toNat = true by unfold isLet; simp; omega)
              clear h
              go_wp2
              refine ⟨let_step hlt Hall.out hL.out (by go_num), by simp [intOf]; omega⟩
            · have q1 : 58 ≤ ((s[k]'hlt).toNat : Int) := by omega
              have q2 : ((s[k]'hlt).toNat : Int) ≤ 64 := by omega
              have t32 : (((s[k]'hlt).toNat : Int) != 32) = true := by simp; omega
              have t48 : decide (((s[k]'hlt).toNat : Int) < 48) = false := decide_eq_false (by omega)
              have t57 : decide (57 < ((s[k]'hlt).toNat : Int)) = true := decide_eq_true (by omega)
              have t65 : decide (((s[k]'hlt).toNat : Int) < 65) = true := decide_eq_true (by omega)
              have t90 : decide (90 < ((s[k]'hlt).toNat : Int)) = false := decide_eq_false (by omega)
              have t97 : decide (((s[k]'hlt).toNat : Int) < 97) = true := decide_eq_true (by omega)
              have t122 : decide (122 < ((s[k]'hlt).toNat : Int)) = false := decide_eq_false (by omega)
              clear h
              go_wp2
              go_ret
              exact ⟨rfl, HD.out⟩
            · have q1 : 65 ≤ ((s[k]'hlt).toNat : Int) := by omega
              have q2 : ((s[k]'hlt).toNat : Int) ≤ 90 := by omega
              have t32 : (((s[k]'hlt).toNat : Int) != 32) = true := by simp; omega
              have t48 : decide (((s[k]'hlt).toNat : Int) < 48) = false := decide_eq_false (by omega)
              have t57 : decide (57 < ((s[k]'hlt).toNat : Int)) = true := decide_eq_true (by omega)
              have t65 : decide (((s[k]'hlt).toNat : Int) < 65) = false := decide_eq_false (by omega)
              have t90 : decide (90 < ((s[k]'hlt).toNat : Int)) = false := decide_eq_false (by omega)
              have t97 : decide (((s[k]'hlt).toNat : Int) < 97) = true := decide_eq_true (by omega)
              have t122 : decide (122 < ((s[k]'hlt).toNat : Int)) = false := decide_eq_false (by omega)
              have hL := Lib.hid (show isLet (s[k]'hlt).toNat = true by unfold isLet; simp; omega)
              clear h
              go_wp2
              refine ⟨let_step hlt Hall.out hL.out (by go_num), by simp [intOf]; omega⟩
            · have q1 : 91 ≤ ((s[k]'hlt).toNat : Int) := by omega
              have q2 : ((s[k]'hlt).toNat : Int) ≤ 96 := by omega
              have t32 : (((s[k]'hlt).toNat : Int) != 32) = true := by simp; omega
              have t48 : decide (((s[k]'hlt).toNat : Int) < 48) = false := decide_eq_false (by omega)
              have t57 : decide (57 < ((s[k]'hlt).toNat : Int)) = true := decide_eq_true (by omega)
              have t65 : decide (((s[k]'hlt).toNat : Int) < 65) = false := decide_eq_false (by omega)
              have t90 : decide (90 < ((s[k]'hlt).toNat : Int)) = true := decide_eq_true (by omega)
              have t97 : decide (((s[k]'hlt).toNat : Int) < 97) = true := decide_eq_true (by omega)
              have t122 : decide (122 < ((s[k]'hlt).toNat : Int)) = false := decide_eq_false (by omega)
              clear h
              go_wp2
              go_ret
              exact ⟨rfl, HD.out⟩
            · by_cases h' : (s[k]'hlt).toNat ≤ 122
              · have q1 : 97 ≤ ((s[k]'hlt).toNat : Int) := by omega
                have q2 : ((s[k]'hlt).toNat : Int) ≤ 122 := by omega
                have hL := Lib.hid (show isLet (s[k]'hlt).toNat = true by unfold isLet; simp; omega)
                have t32 : (((s[k]'hlt).toNat : Int) != 32) = true := by simp; omega
                have t48 : decide (((s[k]'hlt).toNat : Int) < 48) = false := decide_eq_false (by omega)
                have t57 : decide (57 < ((s[k]'hlt).toNat : Int)) = true := decide_eq_true (by omega)
                have t65 : decide (((s[k]'hlt).toNat : Int) < 65) = false := decide_eq_false (by omega)
                have t90 : decide (90 < ((s[k]'hlt).toNat : Int)) = true := decide_eq_true (by omega)
                have t97 : decide (((s[k]'hlt).toNat : Int) < 97) = false := decide_eq_false (by omega)
                have t122 : decide (122 < ((s[k]'hlt).toNat : Int)) = false := decide_eq_false (by omega)
                clear h h'
                go_wp2
                refine ⟨let_step hlt Hall.out hL.out (by go_num), by simp [intOf]; omega⟩
              · have q1 : 123 ≤ ((s[k]'hlt).toNat : Int) := by omega
                have t32 : (((s[k]'hlt).toNat : Int) != 32) = true := by simp; omega
                have t48 : decide (((s[k]'hlt).toNat : Int) < 48) = false := decide_eq_false (by omega)
                have t57 : decide (57 < ((s[k]'hlt).toNat : Int)) = true := decide_eq_true (by omega)
                have t65 : decide (((s[k]'hlt).toNat : Int) < 65) = false := decide_eq_false (by omega)
                have t90 : decide (90 < ((s[k]'hlt).toNat : Int)) = true := decide_eq_true (by omega)
                have t97 : decide (((s[k]'hlt).toNat : Int) < 97) = false := decide_eq_false (by omega)
                have t122 : decide (122 < ((s[k]'hlt).toNat : Int)) = true := decide_eq_true (by omega)
                clear h h'
                go_wp2
                go_ret
                exact ⟨rfl, HD.out⟩
          · have hl := Hall.out
            rw [List.take_of_length_le (by rw [len_data]; omega)] at hl
            have hesc : escL n s.data.toList = s.data.toList := escF_let n _ true hl (fun h => hfirst.out ⟨h.2.1, h.2.2⟩)
            have hun : un n s.data.toList = (true, s.data.toList, 0) := by
              have := un_escL n s.data.toList
              rw [hesc] at this
              exact this
            clear hl
            go_wp2_with fail
            refine (unescape_st n s _ (E.below HD.out) (by omega) Hn.out).mono ?_
            rintro e w2 ⟨he, D2⟩
            rw [hun] at he
            simp only [mk_toList] at he
            have he : e = .returned (.tuple #[.string s, .int .i64 0, .int .i64 0]) := he
            subst he
            have D12 := below2 HD.out D2
            clear hun
            go_wp2_with fail
            refine (escape_st n s _ (E.below D12) (by omega) Hn.out).mono ?_
            rintro e w3 ⟨rfl, D3⟩
            rw [hesc, mk_toList]
            clear hesc
            go_wp2
            go_ret
            refine ⟨?_, below2 D12 D3⟩
            simp
    · have b0 : decide ((0 : Int) < s.size) = false := decide_eq_false (by omega)
      have hfirst := Lib.hid (show ¬ (0 < s.data.toList.length ∧ byt s.data.toList 0 = 32) from fun h => h0 (by rw [← len_data]; exact h.1))
      go_enter Tryd.func9, Tryd.ntmps9
      go_wp2_with fail
      refine (awake_any _ E).mono ?_
      rintro e w1 ⟨rfl, D1⟩
      go_wp2_with fail
      refine (style_any _ _).mono ?_
      rintro e w' ⟨rfl, rfl⟩
      rw [hx]
      clear hx
      have HD := Lib.hid D1
      clear D1
      go_wp2
      go_loop [5, 6] (fun i c => LetRel s i c) (fun i _ => s.size - (intOf i).toNat)
      case atStart => exact ⟨0, rfl, Nat.zero_le _, by simp⟩
      case round =>
        obtain ⟨k, rfl, hk, hall⟩ := hrel
        have Hall := Lib.hid hall
        clear hall
        by_cases hlt : k < s.size
        · exact absurd hlt (by omega)
        · have hl := Hall.out
          rw [List.take_of_length_le (by rw [len_data]; omega)] at hl
          have hesc : escL n s.data.toList = s.data.toList := escF_let n _ true hl (fun h => hfirst.out ⟨h.2.1, h.2.2⟩)
          have hun : un n s.data.toList = (true, s.data.toList, 0) := by
            have := un_escL n s.data.toList
            rw [hesc] at this
            exact this
          clear hl
          go_wp2_with fail
          refine (unescape_st n s _ (E.below HD.out) (by omega) Hn.out).mono ?_
          rintro e w2 ⟨he, D2⟩
          rw [hun] at he
          simp only [mk_toList] at he
          have he : e = .returned (.tuple #[.string s, .int .i64 0, .int .i64 0]) := he
          subst he
          have D12 := below2 HD.out D2
          clear hun
          go_wp2_with fail
          refine (escape_st n s _ (E.below D12) (by omega) Hn.out).mono ?_
          rintro e w3 ⟨rfl, D3⟩
          rw [hesc, mk_toList]
          clear hesc
          go_wp2
          go_ret
          refine ⟨?_, below2 D12 D3⟩
          simp
  · have hx' := Bool.eq_false_iff.2 hx
    clear hx
    go_enter Tryd.func9, Tryd.ntmps9
    go_wp2_with fail
    refine (awake_any _ E).mono ?_
    rintro e w1 ⟨rfl, D1⟩
    go_wp2_with fail
    refine (style_any _ _).mono ?_
    rintro e w' ⟨rfl, rfl⟩
    rw [hx']
    go_wp2_with fail
    refine (awake_any _ (E.below D1)).mono ?_
    rintro e w2 ⟨rfl, D2⟩
    go_wp2
    go_ret
    exact ⟨rfl, below2 D1 D2⟩

end Go.Proofs.YtnkmlgkppaglkaaDoor
