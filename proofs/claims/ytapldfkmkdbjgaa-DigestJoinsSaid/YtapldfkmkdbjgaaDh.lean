/- digit, Parse (both). -/
import Derived.Test.YtapldfkmkdbjgaaDg
namespace Go.Proofs.Ytapldfkmkdbjgaa
open Go.RowKit
set_option linter.unusedVariables false

theorem ret_two {a b c d : Value} (h : a = c) (k : b = d) : Ending.returned (.tuple #[a, b]) = .returned (.tuple #[c, d]) := by rw [h, k]
theorem val_u64 {a b : Int} (h : a = b) : Value.int .u64 a = .int .u64 b := by rw [h]
set_option maxRecDepth 1000000 in
theorem digit_low (c : Int) (w : World) (h0 : 48 ≤ c) (h1 : c ≤ 57) : Calls Try.prog 29 #[.int .u8 c] w (Computes w (.tuple #[.int .u64 (c - 48), .bool true])) := by
  go_enter Try.func29, Try.ntmps29
  go_wp2
  go_ret2
  exact ⟨rfl, rfl⟩
set_option maxRecDepth 1000000 in
theorem digit_high (c : Int) (w : World) (h0 : 97 ≤ c) (h1 : c ≤ 102) : Calls Try.prog 29 #[.int .u8 c] w (Computes w (.tuple #[.int .u64 (c - 97 + 10), .bool true])) := by
  go_enter Try.func29, Try.ntmps29
  go_wp2
  go_ret2
  exact ⟨rfl, rfl⟩
set_option maxRecDepth 1000000 in
theorem digit_not (c : Int) (w : World) (h0 : 0 ≤ c) (h : c < 48 ∨ (57 < c ∧ c < 97) ∨ 102 < c) (h9 : c < 256) : Calls Try.prog 29 #[.int .u8 c] w (Computes w (.tuple #[.int .u64 0, .bool false])) := by
  rcases h with h | ⟨h, h2⟩ | h
  · have q : ¬ 48 ≤ c := by omega
    have q2 : ¬ 97 ≤ c := by omega
    go_enter Try.func29, Try.ntmps29
    go_wp2
    go_ret2
    exact ⟨rfl, rfl⟩
  · have q : 48 ≤ c := by omega
    have q1 : ¬ c ≤ 57 := by omega
    have q2 : ¬ 97 ≤ c := by omega
    go_enter Try.func29, Try.ntmps29
    go_wp2
    go_ret2
    exact ⟨rfl, rfl⟩
  · have q : 48 ≤ c := by omega
    have q1 : ¬ c ≤ 57 := by omega
    have q2 : 97 ≤ c := by omega
    have q3 : ¬ c ≤ 102 := by omega
    go_enter Try.func29, Try.ntmps29
    go_wp2
    go_ret2
    exact ⟨rfl, rfl⟩
theorem digit_some (b : UInt8) (d : Int) (w : World) (h : hexV b = some d) : Calls Try.prog 29 #[.int .u8 (b.toNat : Int)] w (Computes w (.tuple #[.int .u64 d, .bool true])) := by
  unfold hexV at h
  split at h
  · cases h; exact digit_low _ w (by omega) (by omega)
  · split at h
    · cases h; exact digit_high _ w (by omega) (by omega)
    · cases h
theorem digit_none (b : UInt8) (w : World) (h : hexV b = none) : Calls Try.prog 29 #[.int .u8 (b.toNat : Int)] w (Computes w (.tuple #[.int .u64 0, .bool false])) := by
  have hb := b.toNat_lt
  unfold hexV at h
  split at h
  · cases h
  · split at h
    · cases h
    · exact digit_not _ w (by omega) (by omega) (by omega)

/-- The two answers of Parse. -/
def prV : Option Int → Value
  | some n => .tuple #[.int .u64 n, .int .i64 0]
  | none => .tuple #[.int .u64 0, .int .i64 3]
theorem len_dataB (s : ByteArray) : s.data.toList.length = s.size := by simp
theorem drop_at (s : ByteArray) (k : Nat) (h : k < s.size) : s.data.toList.drop k = (s[k]'h) :: s.data.toList.drop (k + 1) := by
  rw [List.drop_eq_getElem_cons (by rw [len_dataB]; exact h)]
  rfl
def PrRel (s : ByteArray) (v4 i : Value) : Prop := ∃ (k : Nat) (m : Int), k ≤ s.size ∧ i = .int .i64 k ∧ v4 = .int .u64 m ∧ Num m ∧ rd 0 s.data.toList = rd m (s.data.toList.drop k)
theorem pr_step {s : ByteArray} {k : Nat} {m d : Int} (hk : k < s.size) (hm : Num m) (he : rd 0 s.data.toList = rd m (s.data.toList.drop k)) (hb : hexV (s[k]'hk) = some d) {x : Int} (hx : x = (16 * m + d) % 18446744073709551616) :
    PrRel s (.int .u64 x) (.int .i64 (k + 1)) := by
  refine ⟨k + 1, x, hk, by go_num, rfl, ⟨by omega, by omega⟩, ?_⟩
  rw [he, drop_at s k hk, rd_some _ _ _ hb, hx]
theorem pr_none {s : ByteArray} {k : Nat} {m : Int} (hk : k < s.size) (he : rd 0 s.data.toList = rd m (s.data.toList.drop k)) (hb : hexV (s[k]'hk) = none) : prs s.data.toList = none := by
  unfold prs
  split
  · rw [he, drop_at s k hk, rd_none _ _ _ hb]
  · rfl
theorem pr_end {s : ByteArray} {k : Nat} {m : Int} (hk : ¬ k < s.size) (hs : s.size = 16) (he : rd 0 s.data.toList = rd m (s.data.toList.drop k)) : prs s.data.toList = some m := by
  unfold prs
  rw [if_pos (by rw [len_dataB]; exact hs), he, List.drop_eq_nil_of_le (by rw [len_dataB]; omega)]
  rfl

set_option maxRecDepth 1000000 in
set_option maxHeartbeats 400000 in
theorem parse_any (s : ByteArray) (w : World) (hs : s.size ≤ 1000) :
    Calls Try.prog 22 #[.string s] w (Computes w (prV (prs s.data.toList))) := by
  by_cases h16 : s.size = 16
  · have h15 : s.size ≤ 16 := by omega
    have h14 : 16 ≤ s.size := by omega
    have h17 : ((s.size : Int) == 16) = true := by rw [beq_iff_eq]; omega
    have h18 : ((s.size : Int) != 16) = false := by rw [bne_eq_false_iff_eq]; omega
    have H16 := Lib.hid h16; clear h16
    go_enter Try.func22, Try.ntmps22
    go_wp2
    go_loop [4, 11] (fun v4 i => PrRel s v4 i) (fun _ i => s.size - (intOf i).toNat)
    case atStart => exact ⟨0, 0, Nat.zero_le _, rfl, rfl, ⟨by omega, by omega⟩, rfl⟩
    case round =>
      obtain ⟨k, m, hk, rfl, rfl, hm, he⟩ := hrel
      have Hm := Lib.hid hm; clear hm
      have He := Lib.hid he; clear he
      by_cases hlt : k < s.size
      · have hk16 : k < 16 := by have := H16.out; omega
        cases hb : hexV (s[k]'hlt) with
        | none =>
          have Hb := Lib.hid hb; clear hb
          have R := Lib.hid (pr_none hlt He.out Hb.out)
          go_wp2_with fail
          refine (digit_none _ _ Hb.out).mono ?_
          rintro e w' ⟨rfl, rfl⟩
          go_wp2
          go_ret2
          exact ⟨by rw [R.out]; rfl, rfl⟩
        | some d =>
          have Hb := Lib.hid hb; clear hb
          have hd := hexV_lt Hb.out
          have R := Lib.hid (fun x (hx : x = _) => pr_step hlt Hm.out He.out Hb.out hx)
          have Hd := Lib.hid hd; clear hd
          go_wp2_with fail
          refine (digit_some _ _ _ Hb.out).mono ?_
          rintro e w' ⟨rfl, rfl⟩
          go_wp2
          go_round
          case rel => exact R.out _ (or_low m d Hd.out)
          case measure => simp [intOf]; omega
      · have hk16 : ¬ k < 16 := by have := H16.out; omega
        have R := Lib.hid (pr_end hlt H16.out He.out)
        go_wp2
        go_ret2
        exact ⟨by rw [R.out]; rfl, rfl⟩
  · have R : prs s.data.toList = none := by unfold prs; rw [if_neg (by rw [len_dataB]; exact h16)]
    have HR := Lib.hid R; clear R
    have h17 : ((s.size : Int) == 16) = false := by rw [beq_eq_false_iff_ne]; omega
    have h18 : ((s.size : Int) != 16) = true := by rw [bne_iff_ne]; omega
    go_enter Try.func22, Try.ntmps22
    go_wp2
    go_ret2
    exact ⟨by rw [HR.out]; rfl, rfl⟩

theorem u64_in {x : Int} (h : 0 ≤ x ∧ x < 18446744073709551616) : x = x % 18446744073709551616 := by omega
theorem ref_low (m c : Int) : IntKind.u64.wrap (IntKind.u64.wrap (16 * m) + (c - 48)) = (16 * m + (c - 48)) % 18446744073709551616 := by
  rw [IntKind.wrap_u64, IntKind.wrap_u64]; omega
theorem ref_high (m c : Int) : IntKind.u64.wrap (IntKind.u64.wrap (IntKind.u64.wrap (16 * m) + (c - 97)) + 10) = (16 * m + (c - 97 + 10)) % 18446744073709551616 := by
  rw [IntKind.wrap_u64, IntKind.wrap_u64, IntKind.wrap_u64]; omega

set_option maxRecDepth 1000000 in
set_option maxHeartbeats 400000 in
theorem refParse_any (s : ByteArray) (w : World) (hs : s.size ≤ 1000) :
    Calls Try.prog 23 #[.string s] w (Computes w (prV (prs s.data.toList))) := by
  go_enter Try.func23, Try.ntmps23
  go_wp2
  go_loop [4, 5] (fun v4 i => PrRel s v4 i) (fun _ i => s.size - (intOf i).toNat)
  case atStart => exact ⟨0, 0, Nat.zero_le _, rfl, rfl, ⟨by omega, by omega⟩, rfl⟩
  case round =>
    obtain ⟨k, m, hk, rfl, rfl, hm, he⟩ := hrel
    have Hm := Lib.hid hm; clear hm
    have He := Lib.hid he; clear he
    by_cases hlt : k < s.size
    · have hlt256 : (s[k]'hlt).toNat < 256 := (s[k]'hlt).toNat_lt
      by_cases a1 : 48 ≤ (s[k]'hlt).toNat ∧ (s[k]'hlt).toNat ≤ 57
      · have hb : hexV (s[k]'hlt) = some (((s[k]'hlt).toNat : Int) - 48) := by unfold hexV; rw [if_pos a1]
        have R := Lib.hid (pr_step hlt Hm.out He.out hb (ref_low m _)); clear hb
        obtain ⟨q1, q2⟩ := a1
        have q3 : (48 : Int) ≤ ((s[k]'hlt).toNat : Int) := by omega
        have q4 : ((s[k]'hlt).toNat : Int) ≤ 57 := by omega
        go_wp2
        go_round
        case rel => exact R.out
        case measure => simp [intOf]; omega
      · by_cases a2 : 97 ≤ (s[k]'hlt).toNat ∧ (s[k]'hlt).toNat ≤ 102
        · have hb : hexV (s[k]'hlt) = some (((s[k]'hlt).toNat : Int) - 97 + 10) := by unfold hexV; rw [if_neg a1, if_pos a2]
          have R := Lib.hid (pr_step hlt Hm.out He.out hb (ref_high m _)); clear hb a1
          obtain ⟨q1, q2⟩ := a2
          have q3 : (48 : Int) ≤ ((s[k]'hlt).toNat : Int) := by omega
          have q4 : ¬ ((s[k]'hlt).toNat : Int) ≤ 57 := by omega
          have q5 : (97 : Int) ≤ ((s[k]'hlt).toNat : Int) := by omega
          have q6 : ((s[k]'hlt).toNat : Int) ≤ 102 := by omega
          go_wp2
          go_round
          case rel => exact R.out
          case measure => simp [intOf]; omega
        · have hb : hexV (s[k]'hlt) = none := by unfold hexV; rw [if_neg a1, if_neg a2]
          have R := Lib.hid (pr_none hlt He.out hb); clear hb
          rcases (by omega : ((s[k]'hlt).toNat : Int) < 48 ∨ (57 < ((s[k]'hlt).toNat : Int) ∧ ((s[k]'hlt).toNat : Int) < 97) ∨ 102 < ((s[k]'hlt).toNat : Int)) with q | ⟨q, q'⟩ | q
          · clear a1 a2
            have q3 : ¬ (48 : Int) ≤ ((s[k]'hlt).toNat : Int) := by omega
            have q5 : ¬ (97 : Int) ≤ ((s[k]'hlt).toNat : Int) := by omega
            go_wp2
            go_ret2
            exact ⟨by rw [R.out]; rfl, rfl⟩
          · clear a1 a2
            have q3 : (48 : Int) ≤ ((s[k]'hlt).toNat : Int) := by omega
            have q4 : ¬ ((s[k]'hlt).toNat : Int) ≤ 57 := by omega
            have q5 : ¬ (97 : Int) ≤ ((s[k]'hlt).toNat : Int) := by omega
            go_wp2
            go_ret2
            exact ⟨by rw [R.out]; rfl, rfl⟩
          · clear a1 a2
            have q3 : (48 : Int) ≤ ((s[k]'hlt).toNat : Int) := by omega
            have q4 : ¬ ((s[k]'hlt).toNat : Int) ≤ 57 := by omega
            have q5 : (97 : Int) ≤ ((s[k]'hlt).toNat : Int) := by omega
            have q6 : ¬ ((s[k]'hlt).toNat : Int) ≤ 102 := by omega
            go_wp2
            go_ret2
            exact ⟨by rw [R.out]; rfl, rfl⟩
    · obtain rfl : k = s.size := by omega
      by_cases h16 : s.size = 16
      · have R := Lib.hid (pr_end hlt h16 He.out)
        have h17 : ((s.size : Int) == 16) = true := by rw [beq_iff_eq]; omega
        have h18 : ((s.size : Int) != 16) = false := by rw [bne_eq_false_iff_eq]; omega
        clear h16
        go_wp2
        go_ret2
        exact ⟨by rw [R.out]; rfl, rfl⟩
      · have R : prs s.data.toList = none := by unfold prs; rw [if_neg (by rw [len_dataB]; exact h16)]
        have HR := Lib.hid R; clear R
        have h17 : ((s.size : Int) == 16) = false := by rw [beq_eq_false_iff_ne]; omega
        have h18 : ((s.size : Int) != 16) = true := by rw [bne_iff_ne]; omega
        clear h16
        go_wp2
        go_ret2
        exact ⟨by rw [HR.out]; rfl, rfl⟩
end Go.Proofs.Ytapldfkmkdbjgaa
