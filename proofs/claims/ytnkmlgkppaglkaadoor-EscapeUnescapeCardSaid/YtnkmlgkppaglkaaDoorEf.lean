/- The library's ParseUint on short strings. -/
import Derived.Test.YtnkmlgkppaglkaaDoorEe
import Derived.BigCall
import Derived.BigGuard
import Derived.Lib.ConvBytes
namespace Go.Proofs.YtnkmlgkppaglkaaDoor
open Go.RowKit
set_option linter.unusedVariables false

/-- A digit's value in a base (10 or 16). -/
def dg (b n : Nat) : Option Nat :=
  if 48 ≤ n ∧ n ≤ 57 then some (n - 48) else if b = 16 ∧ 97 ≤ n ∧ n ≤ 102 then some (n - 87) else if b = 16 ∧ 65 ≤ n ∧ n ≤ 70 then some (n - 55) else none
def pu (b : Nat) : Nat → List UInt8 → Option Nat
  | acc, [] => some acc
  | acc, c :: r => match dg b c.toNat with | none => none | some d => pu b (acc * b + d) r

def low (n : Nat) : Nat := n ||| 32
theorem low_all : ∀ n : Fin 256, (if 65 ≤ n.1 ∧ n.1 ≤ 90 then low n.1 = n.1 + 32 else if 97 ≤ n.1 ∧ n.1 ≤ 122 then low n.1 = n.1 else low n.1 < 97 ∨ 122 < low n.1) := by decide +kernel
theorem low_bits : ∀ n : Fin 256, bits .or .u8 (n.1 : Int) 32 = (low n.1 : Int) := by decide +kernel
theorem lower_any (n : Nat) (hn : n < 256) (w : World) : Calls Tryd.prog 68 #[.int .u8 n] w fun e w' => e = .returned (.int .u8 (low n : Nat)) ∧ w = w' := by
  have h := low_bits ⟨n, hn⟩
  have h : bits .or .u8 (n : Int) 32 = (low n : Int) := h
  go_enter Tryd.func68, Tryd.ntmps68
  go_wp2
  go_ret
  exact ⟨rfl, rfl⟩
theorem lower_95 (w : World) : Calls Tryd.prog 68 #[.int .u8 95] w fun e w' => e = .returned (.int .u8 127) ∧ w = w' := lower_any 95 (by decide) w
theorem low_let {n : Nat} (hn : n < 256) (h : 65 ≤ n ∧ n ≤ 90) : low n = n + 32 := by
  have := low_all ⟨n, hn⟩
  rw [if_pos h] at this
  exact this
theorem low_low {n : Nat} (hn : n < 256) (h : 97 ≤ n ∧ n ≤ 122) : low n = n := by
  have := low_all ⟨n, hn⟩
  rw [if_neg (by simp; omega), if_pos h] at this
  exact this
theorem low_non {n : Nat} (hn : n < 256) (h : ¬ (65 ≤ n ∧ n ≤ 90)) (h' : ¬ (97 ≤ n ∧ n ≤ 122)) : low n < 97 ∨ 122 < low n := by
  have := low_all ⟨n, hn⟩
  rw [if_neg h, if_neg h'] at this
  exact this

/-- What ParseUint answers: the number and no error, or 0 and an error. -/
def PuAns (b : Nat) (l : List UInt8) (v : Value) : Prop :=
  (∃ u, l ≠ [] ∧ pu b 0 l = some u ∧ u < 16 ^ l.length ∧ v = .tuple #[.int .u64 u, .nilIface]) ∨ ((l = [] ∨ pu b 0 l = none) ∧ v = .tuple #[.int .u64 0, .iface 87 (.int .i64 2)])
def PuPost (b : Nat) (w : World) (l : List UInt8) (e : Ending) (w' : World) : Prop := ∃ v, e = .returned v ∧ PuAns b l v ∧ Below w.heap.size w w'
def PuRel (b : Nat) (l : List UInt8) (vu vn vi : Value) : Prop :=
  ∃ (k acc : Nat), vu = .bool false ∧ vn = .int .u64 acc ∧ vi = .int .i64 k ∧ k ≤ l.length ∧ acc < 16 ^ k ∧ pu b 0 l = pu b acc (l.drop k)
theorem puRel_step {b : Nat} {l : List UInt8} {k acc d : Nat} {vn vi : Value} (h : acc * b + d < 16 ^ (k + 1) ∧ pu b 0 l = pu b (acc * b + d) (l.drop (k + 1)))
    (h1 : vn = .int .u64 (acc * b + d : Nat)) (h2 : vi = .int .i64 (k + 1 : Nat)) (hk : k < l.length) : PuRel b l (.bool false) vn vi := ⟨k + 1, _, rfl, h1, h2, hk, h.1, h.2⟩
theorem pow16 {k : Nat} (h : k ≤ 7) : 16 ^ k ≤ 268435456 := Nat.le_trans (Nat.pow_le_pow_right (by decide) h) (by decide)
theorem pu_drop {b acc k : Nat} {l : List UInt8} (h : k < l.length) : pu b acc (l.drop k) = match dg b (byt l k) with | none => none | some d => pu b (acc * b + d) (l.drop (k + 1)) := by
  rw [List.drop_eq_getElem_cons h]
  simp only [pu, byt, List.getElem?_eq_getElem h, Option.getD_some]
theorem pu_ok {b acc k d : Nat} {l : List UInt8} (hb : b ≤ 16) (hd : d < 16) (h : k < l.length) (ha : acc < 16 ^ k) (hp : pu b 0 l = pu b acc (l.drop k)) (hg : dg b (byt l k) = some d) :
    acc * b + d < 16 ^ (k + 1) ∧ pu b 0 l = pu b (acc * b + d) (l.drop (k + 1)) := by
  refine ⟨?_, ?_⟩
  · rw [Nat.pow_succ]
    have : acc * b ≤ acc * 16 := Nat.mul_le_mul_left _ hb
    omega
  · rw [hp, pu_drop h, hg]
theorem pu_bad {b acc k : Nat} {l : List UInt8} (h : k < l.length) (hp : pu b 0 l = pu b acc (l.drop k)) (hg : dg b (byt l k) = none) : pu b 0 l = none := by
  rw [hp, pu_drop h, hg]

set_option maxRecDepth 1000000 in
set_option maxHeartbeats 4000000 in
theorem parse10 (t : ByteArray) (ht : t.size ≤ 7) (w : World) :
    Calls Tryd.prog 58 #[.string t, .int .i64 10, .int .i64 32] w (PuPost 10 w t.data.toList) := by
  have hsz : t.data.toList.length = t.size := by simp
  have hcv := Lib.run_convert_string_bytes (P := Tryd.prog) w 9 34 5 t (u := .string) Tryd.underlying9 Tryd.underlying34 Tryd.underlying5
  have hB : ∀ j, j < t.size → (Lib.bytesWorld w 5 t).cell? ⟨w.heap.size, j, none⟩ = some (.int .u8 (byt t.data.toList j)) := fun j hj => by
    rw [Lib.bytesWorld_cell w 5 t j hj]
    simp [byt, List.getD]
  have hD : Below w.heap.size w (Lib.bytesWorld w 5 t) := Lib.bytesWorld_below _ _ _
  by_cases h0 : t.size = 0
  · have : t = ⟨#[]⟩ := by
      cases t with | mk a => simp at hsz h0; rw [h0]; rfl
    subst this
    clear hcv hB hD
    go_enter Tryd.func58, Tryd.ntmps58
    go_wp2
    go_ret2
    exact ⟨_, rfl, .inr ⟨.inl rfl, rfl⟩, Below.refl _ _⟩
  · have hemp : t.toList.isEmpty = false := by
      rw [← decide_eq_emptyBytes]
      exact decide_eq_false (fun h => h0 (by rw [h]; rfl))
    obtain ⟨W1, hW1⟩ : ∃ W1, W1 = Lib.bytesWorld w 5 t := ⟨_, rfl⟩
    rw [← hW1] at hcv hB hD
    clear hW1
    have hmv : IntKind.u64.wrap (IntKind.u64.wrap 4294967296 - 1) = 4294967295 := by
      rw [IntKind.wrap_u64, IntKind.wrap_u64]
      decide
    have HD := Lib.hid hD
    clear hD
    generalize hl : t.data.toList = l at hsz hB
    have Hl := Lib.hid hl
    clear hl
    go_enter Tryd.func58, Tryd.ntmps58
    go_wp2
    go_loop [12, 13, 101] (fun vu vn vi => PuRel 10 l vu vn vi) (fun _ _ vi => t.size - (intOf vi).toNat)
    case atStart => exact ⟨0, 0, rfl, rfl, rfl, Nat.zero_le _, by decide, rfl⟩
    case round =>
      obtain ⟨k, acc, rfl, hvn, rfl, hk, ha, hp⟩ := hrel
      obtain ⟨a, hacc⟩ : ∃ a : Int, a = acc := ⟨_, rfl⟩
      rw [← hacc] at hvn
      subst hvn
      have ha7 := pow16 (k := k) (by omega)
      have Ha := Lib.hid ha
      have Hp := Lib.hid hp
      have a0 : 0 ≤ a := by omega
      have a1 : a ≤ 268435455 := by omega
      have Hacc := Lib.hid hacc
      clear ha hp ha7 hacc
      by_cases hkn : k < t.size
      · have hc := hB k hkn
        have hc256 : byt l k < 256 := byt_lt l k
        have hkl := Lib.hid (show k < l.length by omega)
        generalize hn : byt l k = n at hc hc256
        have Hn := Lib.hid hn
        clear hn hB
        by_cases c1 : 48 ≤ n ∧ n ≤ 57
        · have R := Lib.hid (pu_ok (d := n - 48) (by decide) (by omega) hkl.out Ha.out Hp.out (show dg 10 (byt l k) = some (n - 48) by rw [Hn.out]; unfold dg; rw [if_pos c1]))
          obtain ⟨c1a, c1b⟩ := c1
          have iov : a * 10 + ((n : Int) - 48) ≤ 4294967295 := by omega
          go_wp2
          refine ⟨puRel_step R.out ?_ ?_ hkl.out, by simp [intOf]; omega⟩
          · rw [Hacc.out]; go_num
          · go_num
        · have g0 : ¬ (48 ≤ n ∧ n ≤ 57) := c1
          by_cases cl : (65 ≤ n ∧ n ≤ 90) ∨ (97 ≤ n ∧ n ≤ 122)
          · obtain ⟨m, hm, hm1⟩ : ∃ m, low n = m ∧ ((97 ≤ n ∧ m = n) ∨ (n ≤ 90 ∧ m = n + 32)) := by
              rcases cl with h | h
              · exact ⟨_, low_let hc256 h, .inr ⟨by omega, rfl⟩⟩
              · exact ⟨_, low_low hc256 h, .inl ⟨by omega, rfl⟩⟩
            have m0 : 97 ≤ m := by omega
            have m1 : m ≤ 122 := by omega
            have n95 : ¬ (n : Int) = 95 := by omega
            have nd : ¬ (n : Int) ≤ 57 := by omega
            by_cases cv : m - 87 < 10
            · exact absurd cv (by omega)
            · have R := Lib.hid (pu_bad hkl.out Hp.out (show dg 10 (byt l k) = none by
                rw [Hn.out]; unfold dg; rw [if_neg g0, if_neg (by omega), if_neg (by omega)]))
              clear cl hm1 c1 g0
              have m2 : 10 ≤ (m : Int) - 97 + 10 := by omega
              go_wp2_with (go_at_call 68; refine (lower_any n hc256 _).mono ?_; rintro e w' ⟨rfl, rfl⟩; rw [hm])
              go_ret2
              exact ⟨_, rfl, .inr ⟨.inr R.out, rfl⟩, HD.out⟩
          · have R := Lib.hid (pu_bad hkl.out Hp.out (show dg 10 (byt l k) = none by
              rw [Hn.out]; unfold dg; rw [if_neg g0, if_neg (by omega), if_neg (by omega)]))
            have hlo := low_non hc256 (fun h => cl (.inl h)) (fun h => cl (.inr h))
            generalize hm : low n = m at hlo
            have hcase : (n < 48 ∨ 57 < n) := by omega
            clear cl c1 g0
            by_cases n95 : (n : Int) = 95
            · obtain rfl : n = 95 := by omega
              clear n95 hcase hlo hm
              go_wp2_with (go_at_call 68; refine (lower_95 _).mono ?_; rintro e w' ⟨rfl, rfl⟩)
              all_goals go_ret2
              all_goals exact ⟨_, rfl, .inr ⟨.inr R.out, rfl⟩, HD.out⟩
            · rcases hcase with hcase | hcase
              · have nd : ¬ (48 : Int) ≤ n := by omega
                rcases hlo with hlo | hlo
                · have hlo' : ¬ (97 : Int) ≤ m := by omega
                  go_wp2_with (go_at_call 68; refine (lower_any n hc256 _).mono ?_; rintro e w' ⟨rfl, rfl⟩; rw [hm])
                  all_goals go_ret2
                  all_goals exact ⟨_, rfl, .inr ⟨.inr R.out, rfl⟩, HD.out⟩
                · have hlo' : ¬ (m : Int) ≤ 122 := by omega
                  go_wp2_with (go_at_call 68; refine (lower_any n hc256 _).mono ?_; rintro e w' ⟨rfl, rfl⟩; rw [hm])
                  all_goals go_ret2
                  all_goals exact ⟨_, rfl, .inr ⟨.inr R.out, rfl⟩, HD.out⟩
              · have nd : ¬ (n : Int) ≤ 57 := by omega
                rcases hlo with hlo | hlo
                · have hlo' : ¬ (97 : Int) ≤ m := by omega
                  go_wp2_with (go_at_call 68; refine (lower_any n hc256 _).mono ?_; rintro e w' ⟨rfl, rfl⟩; rw [hm])
                  all_goals go_ret2
                  all_goals exact ⟨_, rfl, .inr ⟨.inr R.out, rfl⟩, HD.out⟩
                · have hlo' : ¬ (m : Int) ≤ 122 := by omega
                  go_wp2_with (go_at_call 68; refine (lower_any n hc256 _).mono ?_; rintro e w' ⟨rfl, rfl⟩; rw [hm])
                  all_goals go_ret2
                  all_goals exact ⟨_, rfl, .inr ⟨.inr R.out, rfl⟩, HD.out⟩
      · have R := Lib.hid (show pu 10 0 l = some acc by rw [Hp.out, List.drop_eq_nil_of_le (by omega)]; rfl)
        have hkk : k = l.length := by omega
        have Hk := Lib.hid hkk
        clear hkk hB
        go_wp2
        go_ret2
        refine ⟨_, rfl, .inl ⟨acc, ?_, R.out, ?_, by rw [Hacc.out]; rfl⟩, HD.out⟩
        · exact List.ne_nil_of_length_pos (by omega)
        · rw [← Hk.out]; exact Ha.out

set_option maxRecDepth 1000000 in
set_option maxHeartbeats 4000000 in
theorem parse16 (t : ByteArray) (ht : t.size ≤ 7) (w : World) :
    Calls Tryd.prog 58 #[.string t, .int .i64 16, .int .i64 32] w (PuPost 16 w t.data.toList) := by
  have hsz : t.data.toList.length = t.size := by simp
  have hcv := Lib.run_convert_string_bytes (P := Tryd.prog) w 9 34 5 t (u := .string) Tryd.underlying9 Tryd.underlying34 Tryd.underlying5
  have hB : ∀ j, j < t.size → (Lib.bytesWorld w 5 t).cell? ⟨w.heap.size, j, none⟩ = some (.int .u8 (byt t.data.toList j)) := fun j hj => by
    rw [Lib.bytesWorld_cell w 5 t j hj]
    simp [byt, List.getD]
  have hD : Below w.heap.size w (Lib.bytesWorld w 5 t) := Lib.bytesWorld_below _ _ _
  by_cases h0 : t.size = 0
  · have : t = ⟨#[]⟩ := by
      cases t with | mk a => simp at hsz h0; rw [h0]; rfl
    subst this
    clear hcv hB hD
    go_enter Tryd.func58, Tryd.ntmps58
    go_wp2
    go_ret2
    exact ⟨_, rfl, .inr ⟨.inl rfl, rfl⟩, Below.refl _ _⟩
  · have hemp : t.toList.isEmpty = false := by
      rw [← decide_eq_emptyBytes]
      exact decide_eq_false (fun h => h0 (by rw [h]; rfl))
    obtain ⟨W1, hW1⟩ : ∃ W1, W1 = Lib.bytesWorld w 5 t := ⟨_, rfl⟩
    rw [← hW1] at hcv hB hD
    clear hW1
    have hmv : IntKind.u64.wrap (IntKind.u64.wrap 4294967296 - 1) = 4294967295 := by
      rw [IntKind.wrap_u64, IntKind.wrap_u64]
      decide
    have HD := Lib.hid hD
    clear hD
    generalize hl : t.data.toList = l at hsz hB
    have Hl := Lib.hid hl
    clear hl
    go_enter Tryd.func58, Tryd.ntmps58
    go_wp2
    go_loop [12, 13, 101] (fun vu vn vi => PuRel 16 l vu vn vi) (fun _ _ vi => t.size - (intOf vi).toNat)
    case atStart => exact ⟨0, 0, rfl, rfl, rfl, Nat.zero_le _, by decide, rfl⟩
    case round =>
      obtain ⟨k, acc, rfl, hvn, rfl, hk, ha, hp⟩ := hrel
      obtain ⟨a, hacc⟩ : ∃ a : Int, a = acc := ⟨_, rfl⟩
      rw [← hacc] at hvn
      subst hvn
      have ha7 := pow16 (k := k) (by omega)
      have Ha := Lib.hid ha
      have Hp := Lib.hid hp
      have a0 : 0 ≤ a := by omega
      have a1 : a ≤ 268435455 := by omega
      have Hacc := Lib.hid hacc
      clear ha hp ha7 hacc
      by_cases hkn : k < t.size
      · have hc := hB k hkn
        have hc256 : byt l k < 256 := byt_lt l k
        have hkl := Lib.hid (show k < l.length by omega)
        generalize hn : byt l k = n at hc hc256
        have Hn := Lib.hid hn
        clear hn hB
        by_cases c1 : 48 ≤ n ∧ n ≤ 57
        · have R := Lib.hid (pu_ok (d := n - 48) (by decide) (by omega) hkl.out Ha.out Hp.out (show dg 16 (byt l k) = some (n - 48) by rw [Hn.out]; unfold dg; rw [if_pos c1]))
          obtain ⟨c1a, c1b⟩ := c1
          have iov : a * 16 + ((n : Int) - 48) ≤ 4294967295 := by omega
          go_wp2
          refine ⟨puRel_step R.out ?_ ?_ hkl.out, by simp [intOf]; omega⟩
          · rw [Hacc.out]; go_num
          · go_num
        · have g0 : ¬ (48 ≤ n ∧ n ≤ 57) := c1
          by_cases cl : (65 ≤ n ∧ n ≤ 90) ∨ (97 ≤ n ∧ n ≤ 122)
          · obtain ⟨m, hm, hm1⟩ : ∃ m, low n = m ∧ ((97 ≤ n ∧ m = n) ∨ (n ≤ 90 ∧ m = n + 32)) := by
              rcases cl with h | h
              · exact ⟨_, low_let hc256 h, .inr ⟨by omega, rfl⟩⟩
              · exact ⟨_, low_low hc256 h, .inl ⟨by omega, rfl⟩⟩
            have m0 : 97 ≤ m := by omega
            have m1 : m ≤ 122 := by omega
            have n95 : ¬ (n : Int) = 95 := by omega
            have nd : ¬ (n : Int) ≤ 57 := by omega
            by_cases cv : m - 87 < 16
            · have R := Lib.hid (pu_ok (d := m - 87) (by decide) (by omega) hkl.out Ha.out Hp.out (show dg 16 (byt l k) = some (m - 87) by
                rw [Hn.out]; unfold dg; rw [if_neg g0]
                rcases hm1 with ⟨h1, h2⟩ | ⟨h1, h2⟩
                · rw [if_pos (by omega), h2]
                · rw [if_neg (by omega), if_pos (by omega)]; congr 1; omega))
              clear cl hm1 c1 g0
              have m2 : m ≤ 102 := by omega
              have iov : a * 16 + ((m : Int) - 97 + 10) ≤ 4294967295 := by omega
              go_wp2_with (go_at_call 68; refine (lower_any n hc256 _).mono ?_; rintro e w' ⟨rfl, rfl⟩; rw [hm])
              refine ⟨puRel_step R.out ?_ ?_ hkl.out, by simp [intOf]; omega⟩
              · rw [Hacc.out]; go_num
              · go_num
            · have R := Lib.hid (pu_bad hkl.out Hp.out (show dg 16 (byt l k) = none by
                rw [Hn.out]; unfold dg; rw [if_neg g0, if_neg (by omega), if_neg (by omega)]))
              clear cl hm1 c1 g0
              have m2 : 16 ≤ (m : Int) - 97 + 10 := by omega
              go_wp2_with (go_at_call 68; refine (lower_any n hc256 _).mono ?_; rintro e w' ⟨rfl, rfl⟩; rw [hm])
              go_ret2
              exact ⟨_, rfl, .inr ⟨.inr R.out, rfl⟩, HD.out⟩
          · have R := Lib.hid (pu_bad hkl.out Hp.out (show dg 16 (byt l k) = none by
              rw [Hn.out]; unfold dg; rw [if_neg g0, if_neg (by omega), if_neg (by omega)]))
            have hlo := low_non hc256 (fun h => cl (.inl h)) (fun h => cl (.inr h))
            generalize hm : low n = m at hlo
            have hcase : (n < 48 ∨ 57 < n) := by omega
            clear cl c1 g0
            by_cases n95 : (n : Int) = 95
            · obtain rfl : n = 95 := by omega
              clear n95 hcase hlo hm
              go_wp2_with (go_at_call 68; refine (lower_95 _).mono ?_; rintro e w' ⟨rfl, rfl⟩)
              all_goals go_ret2
              all_goals exact ⟨_, rfl, .inr ⟨.inr R.out, rfl⟩, HD.out⟩
            · rcases hcase with hcase | hcase
              · have nd : ¬ (48 : Int) ≤ n := by omega
                rcases hlo with hlo | hlo
                · have hlo' : ¬ (97 : Int) ≤ m := by omega
                  go_wp2_with (go_at_call 68; refine (lower_any n hc256 _).mono ?_; rintro e w' ⟨rfl, rfl⟩; rw [hm])
                  all_goals go_ret2
                  all_goals exact ⟨_, rfl, .inr ⟨.inr R.out, rfl⟩, HD.out⟩
                · have hlo' : ¬ (m : Int) ≤ 122 := by omega
                  go_wp2_with (go_at_call 68; refine (lower_any n hc256 _).mono ?_; rintro e w' ⟨rfl, rfl⟩; rw [hm])
                  all_goals go_ret2
                  all_goals exact ⟨_, rfl, .inr ⟨.inr R.out, rfl⟩, HD.out⟩
              · have nd : ¬ (n : Int) ≤ 57 := by omega
                rcases hlo with hlo | hlo
                · have hlo' : ¬ (97 : Int) ≤ m := by omega
                  go_wp2_with (go_at_call 68; refine (lower_any n hc256 _).mono ?_; rintro e w' ⟨rfl, rfl⟩; rw [hm])
                  all_goals go_ret2
                  all_goals exact ⟨_, rfl, .inr ⟨.inr R.out, rfl⟩, HD.out⟩
                · have hlo' : ¬ (m : Int) ≤ 122 := by omega
                  go_wp2_with (go_at_call 68; refine (lower_any n hc256 _).mono ?_; rintro e w' ⟨rfl, rfl⟩; rw [hm])
                  all_goals go_ret2
                  all_goals exact ⟨_, rfl, .inr ⟨.inr R.out, rfl⟩, HD.out⟩
      · have R := Lib.hid (show pu 16 0 l = some acc by rw [Hp.out, List.drop_eq_nil_of_le (by omega)]; rfl)
        have hkk : k = l.length := by omega
        have Hk := Lib.hid hkk
        clear hkk hB
        go_wp2
        go_ret2
        refine ⟨_, rfl, .inl ⟨acc, ?_, R.out, ?_, by rw [Hacc.out]; rfl⟩, HD.out⟩
        · exact List.ne_nil_of_length_pos (by omega)
        · rw [← Hk.out]; exact Ha.out
end Go.Proofs.YtnkmlgkppaglkaaDoor
