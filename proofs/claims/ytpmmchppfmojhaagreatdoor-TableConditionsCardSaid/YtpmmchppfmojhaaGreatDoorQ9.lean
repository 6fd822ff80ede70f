/- What the row stands on, part 9. -/
import Derived.BigCall
import Derived.BigGuard
import Derived.Lib.ConvBytes
import Derived.Test.YtpmmchppfmojhaaGreatDoorQ8

/- The library's ParseUint on short strings. -/
namespace Go.Proofs.YtpmmchppfmojhaaGreatDoor
open Go.RowKit
set_option linter.unusedVariables false

/-- A digit's value in a base (10 or 16). -/
def dg (b n : Nat) : Option Nat :=
  if 48 ≤ n ∧ n ≤ 57 then some (n - 48) else if b = 16 ∧ 97 ≤ n ∧ n ≤ 102 then some (n - 87) else if b = 16 ∧ 65 ≤ n ∧ n ≤ 70 then some (n - 55) else none
def pu (b : Nat) : Nat → List UInt8 → Option Nat
  | acc, [] => some acc
  | acc, c :: r => match dg b c.toNat with | none => none | some d => pu b (acc * b + d) r

def low (n : Nat) : Nat := n ||| 32
theorem low_all : ∀ n : Fin 256, (if 65 ≤ n.1 ∧ n.1 ≤ 90 then low n.1 = n.1 + 32 else if 97 ≤ n.1 ∧ n.1 ≤ 122 then low n.1 = n.1 else low n.1 < 97 ∨ 122 < low n.1) := by decide +kernel
theorem low_bits : ∀ n : Fin 256, bits .or .u8 (n.1 : Int) 32 = (low n.1 : Int) := by decide +kernel
theorem lower_any (n : Nat) (hn : n < 256) (w : World) : Calls Tryz.prog 360 #[.int .u8 n] w fun e w' => e = .returned (.int .u8 (low n : Nat)) ∧ w = w' := by
  have h := low_bits ⟨n, hn⟩
  have h : bits .or .u8 (n : Int) 32 = (low n : Int) := h
  go_enter Tryz.func360, Tryz.ntmps360
  go_wp2
  go_ret
  exact ⟨rfl, rfl⟩
theorem lower_95 (w : World) : Calls Tryz.prog 360 #[.int .u8 95] w fun e w' => e = .returned (.int .u8 127) ∧ w = w' := lower_any 95 (by decide) w
theorem low_let {n : Nat} (hn : n < 256) (h : 65 ≤ n ∧ n ≤ 90) : low n = n + 32 := by
  have := low_all ⟨n, hn⟩
  rw [if_pos h] at this
  exact this
theorem low_low {n : Nat} (hn : n < 256) (h : 97 ≤ n ∧ n ≤ 122) : low n = n := by
  have := low_all ⟨n, hn⟩
  rw [if_neg (by simp; omega), if_pos h] at this
  exact this
theorem low_non {n : Nat} (hn : n < 256) (h : ¬ (65 ≤ n ∧ n ≤ 90)) (h' : ¬ (97 ≤ n ∧ n ≤ 122)) : low n < 97 ∨ 122 < low n := by
  have := low_all ⟨n, hn⟩
  rw [if_neg h, if_neg h'] at this
  exact this

/-- What ParseUint answers: the number and no error, or 0 and an error. -/
def PuAns (b : Nat) (l : List UInt8) (v : Value) : Prop :=
  (∃ u, l ≠ [] ∧ pu b 0 l = some u ∧ u < 16 ^ l.length ∧ v = .tuple #[.int .u64 u, .nilIface]) ∨ ((l = [] ∨ pu b 0 l = none) ∧ v = .tuple #[.int .u64 0, .iface 329 (.int .i64 2)])
def PuPost (b : Nat) (w : World) (l : List UInt8) (e : Ending) (w' : World) : Prop := ∃ v, e = .returned v ∧ PuAns b l v ∧ Below w.heap.size w w'
def PuRel (b : Nat) (l : List UInt8) (vu vn vi : Value) : Prop :=
  ∃ (k acc : Nat), vu = .bool false ∧ vn = .int .u64 acc ∧ vi = .int .i64 k ∧ k ≤ l.length ∧ acc < 16 ^ k ∧ pu b 0 l = pu b acc (l.drop k)
theorem puRel_step {b : Nat} {l : List UInt8} {k acc d : Nat} {vn vi : Value} (h : acc * b + d < 16 ^ (k + 1) ∧ pu b 0 l = pu b (acc * b + d) (l.drop (k + 1)))
    (h1 : vn = .int .u64 (acc * b + d : Nat)) (h2 : vi = .int .i64 (k + 1 : Nat)) (hk : k < l.length) : PuRel b l (.bool false) vn vi := ⟨k + 1, _, rfl, h1, h2, hk, h.1, h.2⟩
theorem pow16 {k : Nat} (h : k ≤ 7) : 16 ^ k ≤ 268435456 := Nat.le_trans (Nat.pow_le_pow_right (by decide) h) (by decide)
theorem pu_drop {b acc k : Nat} {l : List UInt8} (h : k < l.length) : pu b acc (l.drop k) = match dg b (byt l k) with | none => none | some d => pu b (acc * b + d) (l.drop (k + 1)) := by
  rw [List.drop_eq_getElem_cons h]
  simp only [pu, byt, List.getElem?_eq_getElem h, Option.getD_some]
theorem pu_ok {b acc k d : Nat} {l : List UInt8} (hb : b ≤ 16) (hd : d < 16) (h : k < l.length) (ha : acc < 16 ^ k) (hp : pu b 0 l = pu b acc (l.drop k)) (hg : dg b (byt l k) = some d) :
    acc * b + d < 16 ^ (k + 1) ∧ pu b 0 l = pu b (acc * b + d) (l.drop (k + 1)) := by
  refine ⟨?_, ?_⟩
  · rw [Nat.pow_succ]
    have : acc * b ≤ acc * 16 := Nat.mul_le_mul_left _ hb
    omega
  · rw [hp, pu_drop h, hg]
theorem pu_bad {b acc k : Nat} {l : List UInt8} (h : k < l.length) (hp : pu b 0 l = pu b acc (l.drop k)) (hg : dg b (byt l k) = none) : pu b 0 l = none := by
  rw [hp, pu_drop h, hg]

set_option maxRecDepth 1000000 in
set_option maxHeartbeats 4000000 in
theorem parse10 (t : ByteArray) (ht : t.size ≤ 7) (w : World) :
    Calls Tryz.prog 350 #[.string t, .int .i64 10, .int .i64 32] w (PuPost 10 w t.data.toList) := by
  have hsz : t.data.toList.length = t.size := by simp
  have hcv := Lib.run_convert_string_bytes (P := Tryz.prog) w 9 102 5 t (u := .string) Tryz.underlying9 Tryz.underlying102 Tryz.underlying5
  have hB : ∀ j, j < t.size → (Lib.bytesWorld w 5 t).cell? ⟨w.heap.size, j, none⟩ = some (.int .u8 (byt t.data.toList j)) := fun j hj => by
    rw [Lib.bytesWorld_cell w 5 t j hj]
    simp [byt, List.getD]
  have hD : Below w.heap.size w (Lib.bytesWorld w 5 t) := Lib.bytesWorld_below _ _ _
  by_cases h0 : t.size = 0
  · have : t = ⟨#[]⟩ := by
      cases t with | mk a => simp at hsz h0; rw [h0]; rfl
    subst this
    clear hcv hB hD
    go_enter Tryz.func350, Tryz.ntmps350
    go_wp2
    go_ret2
    exact ⟨_, rfl, .inr ⟨.inl rfl, rfl⟩, Below.refl _ _⟩
  · have hemp : t.toList.isEmpty = false := by
      rw [← decide_eq_emptyBytes]
      exact decide_eq_false (fun h => h0 (by rw [h]; rfl))
    obtain ⟨W1, hW1⟩ : ∃ W1, W1 = Lib.bytesWorld w 5 t := ⟨_, rfl⟩
    rw [← hW1] at hcv hB hD
    clear hW1
    have hmv : IntKind.u64.wrap (IntKind.u64.wrap 4294967296 - 1) = 4294967295 := by
      rw [IntKind.wrap_u64, IntKind.wrap_u64]
      decide
    have HD := Lib.hid hD
    clear hD
    generalize hl : t.data.toList = l at hsz hB
    have Hl := Lib.hid hl
    clear hl
    go_enter Tryz.func350, Tryz.ntmps350
    go_wp2
    go_loop [12, 13, 101] (fun vu vn vi => PuRel 10 l vu vn vi) (fun _ _ vi => t.size - (intOf vi).toNat)
    case atStart => exact ⟨0, 0, rfl, rfl, rfl, Nat.zero_le _, by decide, rfl⟩
    case round =>
      obtain ⟨k, acc, rfl, hvn, rfl, hk, ha, hp⟩ := hrel
      obtain ⟨a, hacc⟩ : ∃ a : Int, a = acc := ⟨_, rfl⟩
      rw [← hacc] at hvn
      subst hvn
      have ha7 := pow16 (k := k) (by omega)
      have Ha := Lib.hid ha
      have Hp := Lib.hid hp
      have a0 : 0 ≤ a := by omega
      have a1 : a ≤ 268435455 := by omega
      have Hacc := Lib.hid hacc
      clear ha hp ha7 hacc
      by_cases hkn : k < t.size
      · have hc := hB k hkn
        have hc256 : byt l k < 256 := byt_lt l k
        have hkl := Lib.hid (show k < l.length by omega)
        generalize hn : byt l k = n at hc hc256
        have Hn := Lib.hid hn
        clear hn hB
        by_cases c1 : 48 ≤ n ∧ n ≤ 57
        · have R := Lib.hid (pu_ok (d := n - 48) (by decide) (by omega) hkl.out Ha.out Hp.out (show dg 10 (byt l k) = some (n - 48) by rw [Hn.out]; unfold dg; rw [if_pos c1]))
          obtain ⟨c1a, c1b⟩ := c1
          have iov : a * 10 + ((n : Int) - 48) ≤ 4294967295 := by omega
          go_wp2
          refine ⟨puRel_step R.out ?_ ?_ hkl.out, by simp [intOf]; omega⟩
          · rw [Hacc.out]; go_num
          · go_num
        · have g0 : ¬ (48 ≤ n ∧ n ≤ 57) := c1
          by_cases cl : (65 ≤ n ∧ n ≤ 90) ∨ (97 ≤ n ∧ n ≤ 122)
          · obtain ⟨m, hm, hm1⟩ : ∃ m, low n = m ∧ ((97 ≤ n ∧ m = n) ∨ (n ≤ 90 ∧ m = n + 32)) := by
              rcases cl with h | h
              · exact ⟨_, low_let hc256 h, .inr ⟨by omega, rfl⟩⟩
              · exact ⟨_, low_low hc256 h, .inl ⟨by omega, rfl⟩⟩
            have m0 : 97 ≤ m := by omega
            have m1 : m ≤ 122 := by omega
            have n95 : ¬ (n : Int) = 95 := by omega
            have nd : ¬ (n : Int) ≤ 57 := by omega
            by_cases cv : m - 87 < 10
            · exact absurd cv (by omega)
            · have R := Lib.hid (pu_bad hkl.out Hp.out (show dg 10 (byt l k) = none by
                rw [Hn.out]; unfold dg; rw [if_neg g0, if_neg (by omega), if_neg (by omega)]))
              clear cl hm1 c1 g0
              have m2 : 10 ≤ (m : Int) - 97 + 10 := by omega
              go_wp2_with (go_at_call 360; refine (lower_any n hc256 _).mono ?_; rintro e w' ⟨rfl, rfl⟩; rw [hm])
              go_ret2
              exact ⟨_, rfl, .inr ⟨.inr R.out, rfl⟩, HD.out⟩
          · have R := Lib.hid (pu_bad hkl.out Hp.out (show dg 10 (byt l k) = none by
              rw [Hn.out]; unfold dg; rw [if_neg g0, if_neg (by omega), if_neg (by omega)]))
            have hlo := low_non hc256 (fun h => cl (.inl h)) (fun h => cl (.inr h))
            generalize hm : low n = m at hlo
            have hcase : (n < 48 ∨ 57 < n) := by omega
            clear cl c1 g0
            by_cases n95 : (n : Int) = 95
            · obtain rfl : n = 95 := by omega
              clear n95 hcase hlo hm
              go_wp2_with (go_at_call 360; refine (lower_95 _).mono ?_; rintro e w' ⟨rfl, rfl⟩)
              all_goals go_ret2
              all_goals exact ⟨_, rfl, .inr ⟨.inr R.out, rfl⟩, HD.out⟩
            · rcases hcase with hcase | hcase
              · have nd : ¬ (48 : Int) ≤ n := by omega
                rcases hlo with hlo | hlo
                · have hlo' : ¬ (97 : Int) ≤ m := by omega
                  go_wp2_with (go_at_call 360; refine (lower_any n hc256 _).mono ?_; rintro e w' ⟨rfl, rfl⟩; rw [hm])
                  all_goals go_ret2
                  all_goals exact ⟨_, rfl, .inr ⟨.inr R.out, rfl⟩, HD.out⟩
                · have hlo' : ¬ (m : Int) ≤ 122 := by omega
                  go_wp2_with (go_at_call 360; refine (lower_any n hc256 _).mono ?_; rintro e w' ⟨rfl, rfl⟩; rw [hm])
                  all_goals go_ret2
                  all_goals exact ⟨_, rfl, .inr ⟨.inr R.out, rfl⟩, HD.out⟩
              · have nd : ¬ (n : Int) ≤ 57 := by omega
                rcases hlo with hlo | hlo
                · have hlo' : ¬ (97 : Int) ≤ m := by omega
                  go_wp2_with (go_at_call 360; refine (lower_any n hc256 _).mono ?_; rintro e w' ⟨rfl, rfl⟩; rw [hm])
                  all_goals go_ret2
                  all_goals exact ⟨_, rfl, .inr ⟨.inr R.out, rfl⟩, HD.out⟩
                · have hlo' : ¬ (m : Int) ≤ 122 := by omega
                  go_wp2_with (go_at_call 360; refine (lower_any n hc256 _).mono ?_; rintro e w' ⟨rfl, rfl⟩; rw [hm])
                  all_goals go_ret2
                  all_goals exact ⟨_, rfl, .inr ⟨.inr R.out, rfl⟩, HD.out⟩
      · have R := Lib.hid (show pu 10 0 l = some acc by rw [Hp.out, List.drop_eq_nil_of_le (by omega)]; rfl)
        have hkk : k = l.length := by omega
        have Hk := Lib.hid hkk
        clear hkk hB
        go_wp2
        go_ret2
        refine ⟨_, rfl, .inl ⟨acc, ?_, R.out, ?_, by rw [Hacc.out]; rfl⟩, HD.out⟩
        · exact List.ne_nil_of_length_pos (by omega)
        · rw [← Hk.out]; exact Ha.out

set_option maxRecDepth 1000000 in
set_option maxHeartbeats 4000000 in
theorem parse16 (t : ByteArray) (ht : t.size ≤ 7) (w : World) :
    Calls Tryz.prog 350 #[.string t, .int .i64 16, .int .i64 32] w (PuPost 16 w t.data.toList) := by
  have hsz : t.data.toList.length = t.size := by simp
  have hcv := Lib.run_convert_string_bytes (P := Tryz.prog) w 9 102 5 t (u := .string) Tryz.underlying9 Tryz.underlying102 Tryz.underlying5
  have hB : ∀ j, j < t.size → (Lib.bytesWorld w 5 t).cell? ⟨w.heap.size, j, none⟩ = some (.int .u8 (byt t.data.toList j)) := fun j hj => by
    rw [Lib.bytesWorld_cell w 5 t j hj]
    simp [byt, List.getD]
  have hD : Below w.heap.size w (Lib.bytesWorld w 5 t) := Lib.bytesWorld_below _ _ _
  by_cases h0 : t.size = 0
  · have : t = ⟨#[]⟩ := by
      cases t with | mk a => simp at hsz h0; rw [h0]; rfl
    subst this
    clear hcv hB hD
    go_enter Tryz.func350, Tryz.ntmps350
    go_wp2
    go_ret2
    exact ⟨_, rfl, .inr ⟨.inl rfl, rfl⟩, Below.refl _ _⟩
  · have hemp : t.toList.isEmpty = false := by
      rw [← decide_eq_emptyBytes]
      exact decide_eq_false (fun h => h0 (by rw [h]; rfl))
    obtain ⟨W1, hW1⟩ : ∃ W1, W1 = Lib.bytesWorld w 5 t := ⟨_, rfl⟩
    rw [← hW1] at hcv hB hD
    clear hW1
    have hmv : IntKind.u64.wrap (IntKind.u64.wrap 4294967296 - 1) = 4294967295 := by
      rw [IntKind.wrap_u64, IntKind.wrap_u64]
      decide
    have HD := Lib.hid hD
    clear hD
    generalize hl : t.data.toList = l at hsz hB
    have Hl := Lib.hid hl
    clear hl
    go_enter Tryz.func350, Tryz.ntmps350
    go_wp2
    go_loop [12, 13, 101] (fun vu vn vi => PuRel 16 l vu vn vi) (fun _ _ vi => t.size - (intOf vi).toNat)
    case atStart => exact ⟨0, 0, rfl, rfl, rfl, Nat.zero_le _, by decide, rfl⟩
    case round =>
      obtain ⟨k, acc, rfl, hvn, rfl, hk, ha, hp⟩ := hrel
      obtain ⟨a, hacc⟩ : ∃ a : Int, a = acc := ⟨_, rfl⟩
      rw [← hacc] at hvn
      subst hvn
      have ha7 := pow16 (k := k) (by omega)
      have Ha := Lib.hid ha
      have Hp := Lib.hid hp
      have a0 : 0 ≤ a := by omega
      have a1 : a ≤ 268435455 := by omega
      have Hacc := Lib.hid hacc
      clear ha hp ha7 hacc
      by_cases hkn : k < t.size
      · have hc := hB k hkn
        have hc256 : byt l k < 256 := byt_lt l k
        have hkl := Lib.hid (show k < l.length by omega)
        generalize hn : byt l k = n at hc hc256
        have Hn := Lib.hid hn
        clear hn hB
        by_cases c1 : 48 ≤ n ∧ n ≤ 57
        · have R := Lib.hid (pu_ok (d := n - 48) (by decide) (by omega) hkl.out Ha.out Hp.out (show dg 16 (byt l k) = some (n - 48) by rw [Hn.out]; unfold dg; rw [if_pos c1]))
          obtain ⟨c1a, c1b⟩ := c1
          have iov : a * 16 + ((n : Int) - 48) ≤ 4294967295 := by omega
          go_wp2
          refine ⟨puRel_step R.out ?_ ?_ hkl.out, by simp [intOf]; omega⟩
          · rw [Hacc.out]; go_num
          · go_num
        · have g0 : ¬ (48 ≤ n ∧ n ≤ 57) := c1
          by_cases cl : (65 ≤ n ∧ n ≤ 90) ∨ (97 ≤ n ∧ n ≤ 122)
          · obtain ⟨m, hm, hm1⟩ : ∃ m, low n = m ∧ ((97 ≤ n ∧ m = n) ∨ (n ≤ 90 ∧ m = n + 32)) := by
              rcases cl with h | h
              · exact ⟨_, low_let hc256 h, .inr ⟨by omega, rfl⟩⟩
              · exact ⟨_, low_low hc256 h, .inl ⟨by omega, rfl⟩⟩
            have m0 : 97 ≤ m := by omega
            have m1 : m ≤ 122 := by omega
            have n95 : ¬ (n : Int) = 95 := by omega
            have nd : ¬ (n : Int) ≤ 57 := by omega
            by_cases cv : m - 87 < 16
            · have R := Lib.hid (pu_ok (d := m - 87) (by decide) (by omega) hkl.out Ha.out Hp.out (show dg 16 (byt l k) = some (m - 87) by
                rw [Hn.out]; unfold dg; rw [if_neg g0]
                rcases hm1 with ⟨h1, h2⟩ | ⟨h1, h2⟩
                · rw [if_pos (by omega), h2]
                · rw [if_neg (by omega), if_pos (by omega)]; congr 1; omega))
              clear cl hm1 c1 g0
              have m2 : m ≤ 102 := by omega
              have iov : a * 16 + ((m : Int) - 97 + 10) ≤ 4294967295 := by omega
              go_wp2_with (go_at_call 360; refine (lower_any n hc256 _).mono ?_; rintro e w' ⟨rfl, rfl⟩; rw [hm])
              refine ⟨puRel_step R.out ?_ ?_ hkl.out, by simp [intOf]; omega⟩
              · rw [Hacc.out]; go_num
              · go_num
            · have R := Lib.hid (pu_bad hkl.out Hp.out (show dg 16 (byt l k) = none by
                rw [Hn.out]; unfold dg; rw [if_neg g0, if_neg (by omega), if_neg (by omega)]))
              clear cl hm1 c1 g0
              have m2 : 16 ≤ (m : Int) - 97 + 10 := by omega
              go_wp2_with (go_at_call 360; refine (lower_any n hc256 _).mono ?_; rintro e w' ⟨rfl, rfl⟩; rw [hm])
              go_ret2
              exact ⟨_, rfl, .inr ⟨.inr R.out, rfl⟩, HD.out⟩
          · have R := Lib.hid (pu_bad hkl.out Hp.out (show dg 16 (byt l k) = none by
              rw [Hn.out]; unfold dg; rw [if_neg g0, if_neg (by omega), if_neg (by omega)]))
            have hlo := low_non hc256 (fun h => cl (.inl h)) (fun h => cl (.inr h))
            generalize hm : low n = m at hlo
            have hcase : (n < 48 ∨ 57 < n) := by omega
            clear cl c1 g0
            by_cases n95 : (n : Int) = 95
            · obtain rfl : n = 95 := by omega
              clear n95 hcase hlo hm
              go_wp2_with (go_at_call 360; refine (lower_95 _).mono ?_; rintro e w' ⟨rfl, rfl⟩)
              all_goals go_ret2
              all_goals exact ⟨_, rfl, .inr ⟨.inr R.out, rfl⟩, HD.out⟩
            · rcases hcase with hcase | hcase
              · have nd : ¬ (48 : Int) ≤ n := by omega
                rcases hlo with hlo | hlo
                · have hlo' : ¬ (97 : Int) ≤ m := by omega
                  go_wp2_with (go_at_call 360; refine (lower_any n hc256 _).mono ?_; rintro e w' ⟨rfl, rfl⟩; rw [hm])
                  all_goals go_ret2
                  all_goals exact ⟨_, rfl, .inr ⟨.inr R.out, rfl⟩, HD.out⟩
                · have hlo' : ¬ (m : Int) ≤ 122 := by omega
                  go_wp2_with (go_at_call 360; refine (lower_any n hc256 _).mono ?_; rintro e w' ⟨rfl, rfl⟩; rw [hm])
                  all_goals go_ret2
                  all_goals exact ⟨_, rfl, .inr ⟨.inr R.out, rfl⟩, HD.out⟩
              · have nd : ¬ (n : Int) ≤ 57 := by omega
                rcases hlo with hlo | hlo
                · have hlo' : ¬ (97 : Int) ≤ m := by omega
                  go_wp2_with (go_at_call 360; refine (lower_any n hc256 _).mono ?_; rintro e w' ⟨rfl, rfl⟩; rw [hm])
                  all_goals go_ret2
                  all_goals exact ⟨_, rfl, .inr ⟨.inr R.out, rfl⟩, HD.out⟩
                · have hlo' : ¬ (m : Int) ≤ 122 := by omega
                  go_wp2_with (go_at_call 360; refine (lower_any n hc256 _).mono ?_; rintro e w' ⟨rfl, rfl⟩; rw [hm])
                  all_goals go_ret2
                  all_goals exact ⟨_, rfl, .inr ⟨.inr R.out, rfl⟩, HD.out⟩
      · have R := Lib.hid (show pu 16 0 l = some acc by rw [Hp.out, List.drop_eq_nil_of_le (by omega)]; rfl)
        have hkk : k = l.length := by omega
        have Hk := Lib.hid hkk
        clear hkk hB
        go_wp2
        go_ret2
        refine ⟨_, rfl, .inl ⟨acc, ?_, R.out, ?_, by rw [Hacc.out]; rfl⟩, HD.out⟩
        · exact List.ne_nil_of_length_pos (by omega)
        · rw [← Hk.out]; exact Ha.out
end Go.Proofs.YtpmmchppfmojhaaGreatDoor


/- utf8.Decode and utf8.Encode of the program (out of Ud, Ue, Ug, for a translation without the specification of layer 1). -/
namespace Go.Proofs.YtpmmchppfmojhaaGreatDoor
open Go.RowKit
set_option linter.unusedVariables false

def StrPostE (w : World) (l : List UInt8) (e : Ending) (w' : World) : Prop := ∃ b : ByteArray, e = .returned (.string b) ∧ b.data.toList = l ∧ Below w.heap.size w w'
/-! ### utf8.Encode -/
set_option maxRecDepth 1000000 in
set_option maxHeartbeats 400000 in
theorem encode_anyOf2 (v : Value) (xs : List Int) (w : World) (hv : RdI w v xs) (hx : xs.length ≤ 281474976710656 / 64) :
    Calls Tryz.prog 345 #[v] w (StrPostE w (encL xs)) := by
  obtain ⟨i0, hi, hz0, hz1, hz2⟩ := info_parts Tryz.infoBU
  obtain ⟨_, ⟨a, c, rfl, hx⟩, _⟩ := hv
  have Hx := Lib.hid hx; clear hx
  go_enter Tryz.func345, Tryz.ntmps345
  go_wp2
  go_loopw [3, 8] (fun v i wr => EncRel2 xs w v i wr) (fun _ i _ => xs.length - (intOf i).toNat)
  case atStart => exact ⟨0, rfl, Nat.zero_le _, World.ownsRow_nil _ _ _ _, Below.refl _ _⟩
  case round =>
    obtain ⟨k, rfl, hk, hown, hB⟩ := hrel
    have hel : (encL (xs.take k)).length ≤ 4 * k := by
      have h2 := encL_length (xs.take k)
      rw [List.length_take] at h2
      omega
    by_cases hlt : k < xs.length
    · obtain ⟨bk, off, rfl, hbl, hc⟩ := Hx.out (List.ne_nil_of_length_pos (by omega))
      have h1 : wr.cell? ⟨bk, off + k, none⟩ = some (.int .i64 (xs[k]?.getD 0)) := by rw [← List.getD_eq_getElem?_getD]; exact (hB.cell (p := ⟨bk, off + k, none⟩) hbl).trans (hc k hlt)
      clear hc
      obtain ⟨x, hxk⟩ : ∃ x, xs[k]?.getD 0 = x := ⟨_, rfl⟩
      rw [hxk] at h1
      have Hxk := Lib.hid hxk; clear hxk
      have hes := enc_size (cp x)
      go_wp2_with fail
      refine (codePoint_any _ _).mono ?_
      rintro e w' ⟨rfl, rfl⟩
      go_wp2_with (at_builtin; go_loud (refine Lib.wpList_append_own_string _ rfl _ _ 102 9 rfl w.heap.size 5 i0 Tryz.underlying102 Tryz.underlying9 hi hz0 hz1 hz2 _ _ _ rfl hown (Utf8.encode (cp x)) rfl ?c1 ?c2 ?c3 ?_))
      case c1 => unfold maxLen; omega
      case c2 => omega
      case c3 => exact hB.size
      · intro v' w2 hown2 hgrow _
        have R := Lib.hid (enc_step2 hlt hB hown Hxk.out hown2 hgrow)
        clear hown2 hgrow hown hB
        go_wp2
        go_roundw
        case rel => exact R.out
        case measure => simp [intOf]; omega
    · have hf := conv_own (P := Tryz.prog) Tryz.underlying102 Tryz.underlying5 Tryz.underlying9 hown
      go_wp2
      go_ret
      exact ⟨_, rfl, by rw [List.take_of_length_le (by omega)], hB⟩
end Go.Proofs.YtpmmchppfmojhaaGreatDoor


/- ParseUint, character. -/
namespace Go.Proofs.YtpmmchppfmojhaaGreatDoor
open Go.RowKit
set_option linter.unusedVariables false

def PubAns (b : Nat) (l : List UInt8) (v : Value) : Prop :=
  (∃ u : Nat, l ≠ [] ∧ pu b 0 l = some u ∧ u < 16 ^ l.length ∧ v = .tuple #[.int .u64 u, .nilIface]) ∨ ((l = [] ∨ pu b 0 l = none) ∧ ∃ N, v = .tuple #[.int .u64 0, .iface 332 (.pointer (some ⟨N, 0, none⟩))])
def PubPost (b : Nat) (w : World) (l : List UInt8) (e : Ending) (w' : World) : Prop := ∃ v, e = .returned v ∧ PubAns b l v ∧ Below w.heap.size w w'
set_option maxRecDepth 1000000 in
theorem parse_any (b : Nat) (t : ByteArray) (ht : t.size ≤ 7) (w : World) (E : Env w) (hb : b = 10 ∨ b = 16) :
    Calls Tryz.prog 344 #[.string t, .int .i64 b, .int .i64 32] w (PubPost b w t.data.toList) := by
  have hI : Calls Tryz.prog 350 #[.string t, .int .i64 b, .int .i64 32] w (PuPost b w t.data.toList) := by
    rcases hb with rfl | rfl
    · exact parse10 t ht w
    · exact parse16 t ht w
  clear hb
  go_enter Tryz.func344, Tryz.ntmps344
  go_wp2_with fail
  refine hI.mono ?_
  rintro e w1 ⟨v, rfl, hA, D⟩
  rcases hA with ⟨u, h1, h2, h3, rfl⟩ | ⟨h1, rfl⟩
  · have H := Lib.hid (And.intro h1 (And.intro h2 h3))
    clear h1 h2 h3
    go_wp2
    go_ret2
    exact ⟨_, rfl, .inl ⟨u, H.out.1, H.out.2.1, H.out.2.2, rfl⟩, D⟩
  · have H := Lib.hid h1
    clear h1
    obtain ⟨tp, p, hc⟩ := (E.below D).syn
    go_wp2_with fail
    refine (Tryz.strconv_toError_syntax _ t _ _ _ w1 (by omega) hc (.inr ⟨tp, p, rfl⟩)).mono ?_
    rintro e w2 ⟨N, rfl, _, _, D2⟩
    go_wp2
    go_ret2
    exact ⟨_, rfl, .inr ⟨H.out, N, rfl⟩, D.trans (D2.mono D.size)⟩

/-- The code point with these digits. -/
def charL (b : Nat) (l : List UInt8) : List UInt8 :=
  if l = [] then [] else match pu b 0 l with | none => [] | some u => if Utf8.valid (u : Int) = true then enc u else []
theorem rdI_one (w : World) (u : Int) : RdI (w.alloc (.cells #[.int .i64 u] 3)) (.slice (some ⟨w.heap.size, 0, none⟩) 1 1) [u] := by
  refine ⟨by simp, ⟨_, _, rfl, fun _ => ⟨w.heap.size, 0, rfl, by simp [World.alloc, -World.alloc_eq], fun i hi => ?_⟩⟩, fun n c h => by cases h⟩
  have hi0 : i = 0 := by simpa using hi
  subst hi0
  rw [World.cell?_alloc_mark]
  rfl
theorem elI_enc (n : Int) (h : Utf8.valid n = true) : elI (enc n) = [n] := by
  have h1 := dl_enc n h []
  rw [List.append_nil] at h1
  have hne : enc n ≠ [] := List.ne_nil_of_length_pos (by have := (enc_length n).1; omega)
  rw [elI_cons _ hne, h1]
  have h0 : 0 ≤ n := by rcases (valid_iff n).1 h with ⟨a, _⟩ | ⟨a, _⟩ <;> omega
  simp [elI_nil, Int.toNat_of_nonneg h0]
theorem str_ext {b : ByteArray} {l : List UInt8} (h : b.data.toList = l) : b = ⟨l.toArray⟩ := by
  subst h
  cases b
  simp

set_option maxRecDepth 1000000 in
set_option maxHeartbeats 400000 in
theorem character_any (b : Nat) (t : ByteArray) (ht : t.size ≤ 7) (w : World) (E : Env w) (hb : b = 10 ∨ b = 16) :
    Calls Tryz.prog 336 #[.string t, .int .i64 b] w (StrPostOf2 w (charL b t.data.toList)) := by
  go_enter Tryz.func336, Tryz.ntmps336
  go_wp2_with fail
  refine (parse_any b t ht w E hb).mono ?_
  rintro e w1 ⟨v, rfl, hA, D⟩
  clear hb
  rcases hA with ⟨u, h1, h2, h3, rfl⟩ | ⟨h1, N, rfl⟩
  · have h4 := pow16 (k := t.data.toList.length) (by rw [len_data]; exact ht)
    have hu : u < 268435456 := by omega
    have H := Lib.hid (show charL b t.data.toList = if Utf8.valid (u : Int) = true then enc u else [] by unfold charL; rw [if_neg h1, h2])
    clear h1 h2 h3 h4
    go_wp2_with fail
    refine (encode_anyOf2 _ [(u : Int)] _ (rdI_one w1 u) (by simp)).mono ?_
    rintro e w2 ⟨bs, rfl, hbs, D2⟩
    have D2 := D.trans (((Below.refl _ w1).alloc (Nat.le_refl _) (.cells #[.int .i64 (u : Int)] 3)).trans (D2.mono (by simp [World.alloc, -World.alloc_eq])) |>.mono D.size)
    replace hbs : bs.data.toList = enc (cp u) := by rw [hbs]; simp [encL]
    have hel := elI_enc (cp u) (cp_valid u)
    have hlen : bs.size ≤ 4 := by rw [← len_data, hbs]; exact (enc_length _).2
    go_wp2_with fail
    refine (decode_any bs w2 (by omega)).mono ?_
    rintro e w3 ⟨v, rfl, hv, D3⟩
    rw [hbs, hel] at hv
    clear hel
    obtain ⟨_, ⟨a, c, rfl, hx⟩, _⟩ := hv
    obtain ⟨bk, off, rfl, hbl, hc⟩ := hx (by simp)
    have h1 := hc 0 (by simp)
    rw [Nat.add_zero, List.getD_cons_zero] at h1
    clear hc hx
    have D4 := D2.trans (D3.mono D2.size)
    clear D D2 D3
    have Hb := Lib.hid (str_ext hbs)
    by_cases hval : Utf8.valid (u : Int) = true
    · have e1 : cp u = u := if_pos hval
      have H2 := H.out
      rw [if_pos hval] at H2
      replace H2 := Lib.hid H2
      clear hval hbs
      rw [e1] at h1
      go_wp2
      go_ret
      refine ⟨?_, D4⟩
      rw [H2.out]
      exact ret_str (by rw [Hb.out, e1])
    · have e1 : cp u = 65533 := if_neg hval
      have hne : ¬ cp u = u := fun h => hval (by rw [← h]; exact cp_valid _)
      have H2 := H.out
      rw [if_neg hval] at H2
      replace H2 := Lib.hid H2
      clear hval e1 Hb hbl hlen hbs
      generalize cp (u : Int) = r at h1 hne
      go_wp2
      go_ret
      refine ⟨?_, D4⟩
      rw [H2.out]
      exact ret_str rfl
  · have H := Lib.hid (show charL b t.data.toList = [] by
      unfold charL
      rcases h1 with h1 | h1
      · rw [if_pos h1]
      · rw [h1]; split <;> rfl)
    clear h1
    go_wp2
    go_ret
    refine ⟨?_, D⟩
    rw [H.out]
    rfl
end Go.Proofs.YtpmmchppfmojhaaGreatDoor


/- Cut at a semicolon, entity, readEntity. -/
namespace Go.Proofs.YtpmmchppfmojhaaGreatDoor
open Go.RowKit
set_option linter.unusedVariables false

theorem indexByte_cases (l : List UInt8) (c : UInt8) : Lib.indexByte l c = -1 ∨ ∃ k : Nat, Lib.indexByte l c = k ∧ k < l.length := by
  induction l with
  | nil => exact .inl rfl
  | cons b l ih =>
    unfold Lib.indexByte
    split
    · exact .inr ⟨0, rfl, by simp⟩
    · rcases ih with h | ⟨k, h, hk⟩
      · rw [h]; exact .inl rfl
      · rw [h]
        refine .inr ⟨k + 1, ?_, by simp; try omega⟩
        have : ¬ ((k : Int) == -1) = true := by simp only [beq_iff_eq]; omega
        rw [if_neg this]; rfl
def CutPost (w : World) (s : ByteArray) (e : Ending) (w' : World) : Prop :=
  ((∃ k : Nat, Lib.indexByte s.data.toList 59 = k ∧ k < s.size ∧ e = .returned (.tuple #[.string (s.extract 0 k), .string (s.extract (k + 1) s.size), .bool true])) ∨
    (Lib.indexByte s.data.toList 59 = -1 ∧ e = .returned (.tuple #[.string s, .string ⟨#[]⟩, .bool false]))) ∧ Below w.heap.size w w'

set_option maxRecDepth 1000000 in
theorem cutIn_any (s : ByteArray) (hs : s.size ≤ 1099511627776) (w : World) : Calls Tryz.prog 251 #[.string s, .string ⟨#[59]⟩] w (CutPost w s) := by
  rcases indexByte_cases s.data.toList 59 with h | ⟨k, h, hk⟩
  · have H := Lib.hid h
    go_enter Tryz.func251, Tryz.ntmps251
    go_wp2_with fail
    refine (Tryz.stringslite_Index_one s 59 _).mono ?_
    rintro e w' ⟨rfl, rfl⟩
    rw [h]
    clear h
    go_wp2
    go_ret3
    exact ⟨.inr ⟨H.out, rfl⟩, Below.refl _ _⟩
  · have hk : k < s.size := by simpa using hk
    have H := Lib.hid h
    go_enter Tryz.func251, Tryz.ntmps251
    go_wp2_with fail
    refine (Tryz.stringslite_Index_one s 59 _).mono ?_
    rintro e w' ⟨rfl, rfl⟩
    rw [h]
    clear h
    go_wp2_with fail
    go_quiet (fail)
    go_wp2
    go_ret3
    exact ⟨.inl ⟨k, H.out, hk, rfl⟩, below_drewN (Below.refl _ _) _⟩
theorem cut_any (s : ByteArray) (hs : s.size ≤ 1099511627776) (w : World) : Calls Tryz.prog 213 #[.string s, .string ⟨#[59]⟩] w (CutPost w s) := by
  go_enter Tryz.func213, Tryz.ntmps213
  go_wp2_with fail
  refine (cutIn_any s hs _).mono ?_
  rintro e w1 ⟨⟨k, h, hk, rfl⟩ | ⟨h, rfl⟩, D⟩
  · have H := Lib.hid h
    clear h
    go_wp2
    go_ret3
    exact ⟨.inl ⟨k, H.out, hk, rfl⟩, D⟩
  · have H := Lib.hid h
    clear h
    go_wp2
    go_ret3
    exact ⟨.inr ⟨H.out, rfl⟩, D⟩

/-- What the bytes between & and a semicolon stand for, if they are no name. -/
def enN (l : List UInt8) : List UInt8 :=
  if (Lib.hasPrefix l [35, 120] && decide ((l.drop 2).length ≤ 6)) = true then charL 16 (l.drop 2)
  else if (Lib.hasPrefix l [35] && decide ((l.drop 1).length ≤ 7)) = true then charL 10 (l.drop 1) else []
def enL (l : List UInt8) : List UInt8 :=
  if l = [97, 109, 112] then [38] else if l = [108, 116] then [60] else if l = [103, 116] then [62] else if l = [113, 117, 111, 116] then [34] else if l = [97, 112, 111, 115] then [39] else enN l
theorem bytes_ne {t : ByteArray} {l : List UInt8} (h : ¬ t.data.toList = l) : (t.toList == l) = false := by rw [ByteArray.toList_eq]; exact beq_eq_false_iff_ne.2 h
theorem trim_yes {l p : List UInt8} (h : Lib.hasPrefix l p = true) : Lib.trimPrefix l p = l.drop p.length := if_pos h
theorem mk_data (l : List UInt8) : (⟨l.toArray⟩ : ByteArray).data.toList = l := by simp

theorem character_l (b : Nat) (d : List UInt8) (hd : d.length ≤ 7) (w : World) (E : Env w) (hb : b = 10 ∨ b = 16) :
    Calls Tryz.prog 336 #[.string ⟨d.toArray⟩, .int .i64 b] w (StrPostOf2 w (charL b d)) := by
  have := character_any b ⟨d.toArray⟩ (by rw [size_mk]; exact hd) w E hb
  rw [mk_data] at this
  exact this

set_option maxRecDepth 1000000 in
set_option maxHeartbeats 1000000 in
theorem entity_any (t : ByteArray) (w : World) (E : Env w) :
    Calls Tryz.prog 337 #[.string t] w (StrPostOf2 w (enL t.data.toList)) := by
  by_cases a0 : t.data.toList = [97, 109, 112]
  · have ht := str_ext a0
    have H := Lib.hid (show enL t.data.toList = [38] by rw [a0]; decide)
    clear a0
    rw [H.out]
    subst ht
    go_enter Tryz.func337, Tryz.ntmps337
    go_wp2
    go_ret
    exact ⟨rfl, Below.refl _ _⟩
  have b0 := bytes_ne a0
  by_cases a1 : t.data.toList = [108, 116]
  · have ht := str_ext a1
    have H := Lib.hid (show enL t.data.toList = [60] by rw [a1]; decide)
    clear a1
    rw [H.out]
    subst ht
    go_enter Tryz.func337, Tryz.ntmps337
    go_wp2
    go_ret
    exact ⟨rfl, Below.refl _ _⟩
  have b1 := bytes_ne a1
  by_cases a2 : t.data.toList = [103, 116]
  · have ht := str_ext a2
    have H := Lib.hid (show enL t.data.toList = [62] by rw [a2]; decide)
    clear a2
    rw [H.out]
    subst ht
    go_enter Tryz.func337, Tryz.ntmps337
    go_wp2
    go_ret
    exact ⟨rfl, Below.refl _ _⟩
  have b2 := bytes_ne a2
  by_cases a3 : t.data.toList = [113, 117, 111, 116]
  · have ht := str_ext a3
    have H := Lib.hid (show enL t.data.toList = [34] by rw [a3]; decide)
    clear a3
    rw [H.out]
    subst ht
    go_enter Tryz.func337, Tryz.ntmps337
    go_wp2
    go_ret
    exact ⟨rfl, Below.refl _ _⟩
  have b3 := bytes_ne a3
  by_cases a4 : t.data.toList = [97, 112, 111, 115]
  · have ht := str_ext a4
    have H := Lib.hid (show enL t.data.toList = [39] by rw [a4]; decide)
    clear a4
    rw [H.out]
    subst ht
    go_enter Tryz.func337, Tryz.ntmps337
    go_wp2
    go_ret
    exact ⟨rfl, Below.refl _ _⟩
  have b4 := bytes_ne a4
  have H := Lib.hid (show enL t.data.toList = enN t.data.toList by unfold enL; rw [if_neg a0, if_neg a1, if_neg a2, if_neg a3, if_neg a4])
  rw [H.out]
  clear a0 a1 a2 a3 a4
  by_cases h16 : Lib.hasPrefix t.data.toList [35, 120] = true
  · obtain ⟨d2, hd2⟩ : ∃ d, t.data.toList.drop 2 = d := ⟨_, rfl⟩
    have ht : Lib.trimPrefix t.data.toList [35, 120] = d2 := (trim_yes h16).trans hd2
    by_cases hl : d2.length ≤ 6
    · have H2 := Lib.hid (show enN t.data.toList = charL 16 d2 by unfold enN; rw [h16, hd2, decide_eq_true hl]; rfl)
      rw [H2.out]
      clear hd2
      go_enter Tryz.func337, Tryz.ntmps337
      go_wp2_with fail
      refine (Tryz.strings_CutPrefix t ⟨#[35, 120]⟩ _).mono ?_
      rintro e w' ⟨rfl, rfl⟩
      rw [show (⟨#[35, 120]⟩ : ByteArray).data.toList = [35, 120] from rfl]
      rw [h16, ht]
      go_wp2_with fail
      refine (character_l 16 d2 (by omega) _ E (.inr rfl)).mono ?_
      rintro e w1 ⟨rfl, D⟩
      go_wp2
      go_ret
      exact ⟨rfl, D⟩
    · have hno : (Lib.hasPrefix t.data.toList [35, 120] && decide ((t.data.toList.drop 2).length ≤ 6)) = false := by rw [h16, hd2, decide_eq_false hl]; rfl
      clear hd2
      obtain ⟨d, hd⟩ : ∃ d, t.data.toList.drop 1 = d := ⟨_, rfl⟩
      by_cases h10 : Lib.hasPrefix t.data.toList [35] = true
      · have ht1 : Lib.trimPrefix t.data.toList [35] = d := (trim_yes h10).trans hd
        by_cases hl1 : d.length ≤ 7
        · have H2 := Lib.hid (show enN t.data.toList = charL 10 d by unfold enN; rw [hno, h10, hd, decide_eq_true hl1]; rfl)
          rw [H2.out]
          clear hno hd
          go_enter Tryz.func337, Tryz.ntmps337
          go_wp2_with fail
          refine (Tryz.strings_CutPrefix t ⟨#[35, 120]⟩ _).mono ?_
          rintro e w' ⟨rfl, rfl⟩
          rw [show (⟨#[35, 120]⟩ : ByteArray).data.toList = [35, 120] from rfl]
          rw [h16, ht]
          go_wp2_with fail
          refine (Tryz.strings_CutPrefix t ⟨#[35]⟩ _).mono ?_
          rintro e w' ⟨rfl, rfl⟩
          rw [show (⟨#[35]⟩ : ByteArray).data.toList = [35] from rfl]
          rw [h10, ht1]
          go_wp2_with fail
          refine (character_l 10 d hl1 _ E (.inl rfl)).mono ?_
          rintro e w1 ⟨rfl, D⟩
          go_wp2
          go_ret
          exact ⟨rfl, D⟩
        · have H2 := Lib.hid (show enN t.data.toList = [] by unfold enN; rw [hno, h10, hd, decide_eq_false hl1]; rfl)
          rw [H2.out]
          clear hno hd
          go_enter Tryz.func337, Tryz.ntmps337
          go_wp2_with fail
          refine (Tryz.strings_CutPrefix t ⟨#[35, 120]⟩ _).mono ?_
          rintro e w' ⟨rfl, rfl⟩
          rw [show (⟨#[35, 120]⟩ : ByteArray).data.toList = [35, 120] from rfl]
          rw [h16, ht]
          go_wp2_with fail
          refine (Tryz.strings_CutPrefix t ⟨#[35]⟩ _).mono ?_
          rintro e w' ⟨rfl, rfl⟩
          rw [show (⟨#[35]⟩ : ByteArray).data.toList = [35] from rfl]
          rw [h10, ht1]
          go_wp2
          go_ret
          exact ⟨rfl, Below.refl _ _⟩
      · have h10' := Bool.eq_false_iff.2 h10
        have H2 := Lib.hid (show enN t.data.toList = [] by unfold enN; rw [hno, h10']; rfl)
        rw [H2.out]
        clear hno h10 hd
        obtain ⟨d1, hd1⟩ : ∃ d, Lib.trimPrefix t.data.toList [35] = d := ⟨_, rfl⟩
        go_enter Tryz.func337, Tryz.ntmps337
        go_wp2_with fail
        refine (Tryz.strings_CutPrefix t ⟨#[35, 120]⟩ _).mono ?_
        rintro e w' ⟨rfl, rfl⟩
        rw [show (⟨#[35, 120]⟩ : ByteArray).data.toList = [35, 120] from rfl]
        rw [h16, ht]
        go_wp2_with fail
        refine (Tryz.strings_CutPrefix t ⟨#[35]⟩ _).mono ?_
        rintro e w' ⟨rfl, rfl⟩
        rw [show (⟨#[35]⟩ : ByteArray).data.toList = [35] from rfl]
        rw [h10', hd1]
        go_wp2
        go_ret
        exact ⟨rfl, Below.refl _ _⟩
  · have h16' := Bool.eq_false_iff.2 h16
    have hno : (Lib.hasPrefix t.data.toList [35, 120] && decide ((t.data.toList.drop 2).length ≤ 6)) = false := by rw [h16']; rfl
    obtain ⟨d2, ht2⟩ : ∃ d, Lib.trimPrefix t.data.toList [35, 120] = d := ⟨_, rfl⟩
    clear h16
    obtain ⟨d, hd⟩ : ∃ d, t.data.toList.drop 1 = d := ⟨_, rfl⟩
    by_cases h10 : Lib.hasPrefix t.data.toList [35] = true
    · have ht1 : Lib.trimPrefix t.data.toList [35] = d := (trim_yes h10).trans hd
      by_cases hl1 : d.length ≤ 7
      · have H2 := Lib.hid (show enN t.data.toList = charL 10 d by unfold enN; rw [hno, h10, hd, decide_eq_true hl1]; rfl)
        rw [H2.out]
        clear hno hd
        go_enter Tryz.func337, Tryz.ntmps337
        go_wp2_with fail
        refine (Tryz.strings_CutPrefix t ⟨#[35, 120]⟩ _).mono ?_
        rintro e w' ⟨rfl, rfl⟩
        rw [show (⟨#[35, 120]⟩ : ByteArray).data.toList = [35, 120] from rfl]
        rw [h16', ht2]
        go_wp2_with fail
        refine (Tryz.strings_CutPrefix t ⟨#[35]⟩ _).mono ?_
        rintro e w' ⟨rfl, rfl⟩
        rw [show (⟨#[35]⟩ : ByteArray).data.toList = [35] from rfl]
        rw [h10, ht1]
        go_wp2_with fail
        refine (character_l 10 d hl1 _ E (.inl rfl)).mono ?_
        rintro e w1 ⟨rfl, D⟩
        go_wp2
        go_ret
        exact ⟨rfl, D⟩
      · have H2 := Lib.hid (show enN t.data.toList = [] by unfold enN; rw [hno, h10, hd, decide_eq_false hl1]; rfl)
        rw [H2.out]
        clear hno hd
        go_enter Tryz.func337, Tryz.ntmps337
        go_wp2_with fail
        refine (Tryz.strings_CutPrefix t ⟨#[35, 120]⟩ _).mono ?_
        rintro e w' ⟨rfl, rfl⟩
        rw [show (⟨#[35, 120]⟩ : ByteArray).data.toList = [35, 120] from rfl]
        rw [h16', ht2]
        go_wp2_with fail
        refine (Tryz.strings_CutPrefix t ⟨#[35]⟩ _).mono ?_
        rintro e w' ⟨rfl, rfl⟩
        rw [show (⟨#[35]⟩ : ByteArray).data.toList = [35] from rfl]
        rw [h10, ht1]
        go_wp2
        go_ret
        exact ⟨rfl, Below.refl _ _⟩
    · have h10' := Bool.eq_false_iff.2 h10
      have H2 := Lib.hid (show enN t.data.toList = [] by unfold enN; rw [hno, h10']; rfl)
      rw [H2.out]
      clear hno h10 hd
      obtain ⟨d1, hd1⟩ : ∃ d, Lib.trimPrefix t.data.toList [35] = d := ⟨_, rfl⟩
      go_enter Tryz.func337, Tryz.ntmps337
      go_wp2_with fail
      refine (Tryz.strings_CutPrefix t ⟨#[35, 120]⟩ _).mono ?_
      rintro e w' ⟨rfl, rfl⟩
      rw [show (⟨#[35, 120]⟩ : ByteArray).data.toList = [35, 120] from rfl]
      rw [h16', ht2]
      go_wp2_with fail
      refine (Tryz.strings_CutPrefix t ⟨#[35]⟩ _).mono ?_
      rintro e w' ⟨rfl, rfl⟩
      rw [show (⟨#[35]⟩ : ByteArray).data.toList = [35] from rfl]
      rw [h10', hd1]
      go_wp2
      go_ret
      exact ⟨rfl, Below.refl _ _⟩
end Go.Proofs.YtpmmchppfmojhaaGreatDoor


/- readEntity, readBackslash, read. -/
namespace Go.Proofs.YtpmmchppfmojhaaGreatDoor
open Go.RowKit
set_option linter.unusedVariables false

/-- What a sequence stands for, and its size. -/
abbrev RdOf2 := List UInt8 × Nat
def RdPost (w : World) (p : RdOf2) (e : Ending) (w' : World) : Prop := e = .returned (.tuple #[.string ⟨p.1.toArray⟩, .int .i64 p.2]) ∧ Below w.heap.size w w'
theorem ret_sn {a b : ByteArray} {m n : Int} (h : a = b) (k : m = n) : Ending.returned (.tuple #[.string a, .int .i64 m]) = .returned (.tuple #[.string b, .int .i64 n]) := by rw [h, k]
theorem ext_take (s : ByteArray) (a b : Nat) : (s.extract a b).data.toList = (s.data.toList.drop a).take (b - a) := by
  simp [List.extract]
def rdE (l : List UInt8) : RdOf2 := if Lib.indexByte (l.drop 1) 59 = -1 then ([], 0) else (enL ((l.drop 1).take (Lib.indexByte (l.drop 1) 59).toNat), (Lib.indexByte (l.drop 1) 59).toNat + 2)

set_option maxRecDepth 1000000 in
theorem readEntity_any (s : ByteArray) (h1 : 1 ≤ s.size) (hs : s.size ≤ 1099511627776) (w : World) (E : Env w) :
    Calls Tryz.prog 328 #[.string s] w (RdPost w (rdE s.data.toList)) := by
  have hx : (s.extract 1 s.size).data.toList = s.data.toList.drop 1 := ext_data s 1
  have hxs : (s.extract 1 s.size).size = s.size - 1 := by simp
  go_enter Tryz.func328, Tryz.ntmps328
  go_wp2_with fail
  refine (cut_any (s.extract 1 s.size) (by omega) _).mono ?_
  rintro e w1 ⟨⟨k, h, hk, rfl⟩ | ⟨h, rfl⟩, D⟩
  · rw [hx] at h
    have H := Lib.hid (show rdE s.data.toList = (enL ((s.data.toList.drop 1).take k), k + 2) by unfold rdE; rw [h, if_neg (by omega)]; rfl)
    have hn : ((s.extract 1 s.size).extract 0 k).data.toList = (s.data.toList.drop 1).take k := by rw [ext_take, List.drop_zero, hx]; rfl
    have hns : ((s.extract 1 s.size).extract 0 k).size = k := by rw [← len_data, hn, List.length_take, List.length_drop, len_data]; omega
    generalize (s.extract 1 s.size).extract 0 k = nm at hn hns
    generalize (s.extract 1 s.size).extract (k + 1) (s.extract 1 s.size).size = rs
    have hk' : k < 1099511627776 := by omega
    have hc := entity_any nm w1 (E.below D)
    rw [hn] at hc
    generalize hq : (s.data.toList.drop 1).take k = q at hn hc
    have Hq := Lib.hid hq
    clear hq
    clear hx hxs h hn
    go_wp2_with fail
    refine hc.mono ?_
    rintro e w2 ⟨rfl, D2⟩
    go_wp2
    go_ret2
    refine ⟨?_, D.trans (D2.mono D.size)⟩
    rw [H.out, Hq.out]
    exact ret_sn rfl (by omega)
  · rw [hx] at h
    have H := Lib.hid (show rdE s.data.toList = ([], 0) by unfold rdE; rw [h, if_pos rfl])
    clear h
    go_wp2
    go_ret2
    refine ⟨?_, D⟩
    rw [H.out]
    rfl

def isSelf (c : Nat) : Bool := c == 92 || c == 34 || c == 61 || c == 58 || c == 35 || c == 33 || c == 123 || c == 125 || c == 32
def rdB (l : List UInt8) : RdOf2 :=
  if l.length < 2 then ([], 0) else if byt l 1 = 110 then ([10], 2) else if byt l 1 = 114 then ([13], 2) else if byt l 1 = 116 then ([9], 2)
  else if isSelf (byt l 1) = true then ((l.drop 1).take 1, 2)
  else if byt l 1 = 120 then (if 4 ≤ l.length ∧ byt l 2 ≤ 55 then (charL 16 ((l.drop 2).take 2), 4) else ([], 0))
  else if byt l 1 = 117 then (if 6 ≤ l.length then (charL 16 ((l.drop 2).take 4), 6) else ([], 0)) else ([], 0)
theorem character_x (b : Nat) (s : ByteArray) (i j : Nat) (h : j - i ≤ 7) (w : World) (E : Env w) (hb : b = 10 ∨ b = 16) :
    Calls Tryz.prog 336 #[.string (s.extract i j), .int .i64 b] w (StrPostOf2 w (charL b ((s.data.toList.drop i).take (j - i)))) := by
  have hsz : (s.extract i j).size ≤ 7 := by rw [← len_data, ext_take, List.length_take]; omega
  have := character_any b (s.extract i j) hsz w E hb
  rw [ext_take] at this
  exact this

set_option maxRecDepth 1000000 in
set_option maxHeartbeats 2000000 in
theorem readBackslash_any (s : ByteArray) (hs : s.size ≤ 1099511627776) (w : World) (E : Env w) :
    Calls Tryz.prog 327 #[.string s] w (RdPost w (rdB s.data.toList)) := by
  have hlen := len_data s
  by_cases h2 : s.size < 2
  · have H := Lib.hid (show rdB s.data.toList = ([], 0) by unfold rdB; rw [if_pos (by omega)])
    rw [H.out]
    clear H hlen
    go_enter Tryz.func327, Tryz.ntmps327
    go_wp2
    go_ret2
    exact ⟨rfl, Below.refl _ _⟩
  have hi : 1 < s.size := by omega
  have hb := byt_getOf2 s 1 hi
  have hU : rdB s.data.toList = if byt s.data.toList 1 = 110 then ([10], 2) else if byt s.data.toList 1 = 114 then ([13], 2) else if byt s.data.toList 1 = 116 then ([9], 2)
      else if isSelf (byt s.data.toList 1) = true then ((s.data.toList.drop 1).take 1, 2)
      else if byt s.data.toList 1 = 120 then (if 4 ≤ s.size ∧ byt s.data.toList 2 ≤ 55 then (charL 16 ((s.data.toList.drop 2).take 2), 4) else ([], 0))
      else if byt s.data.toList 1 = 117 then (if 6 ≤ s.size then (charL 16 ((s.data.toList.drop 2).take 4), 6) else ([], 0)) else ([], 0) := by
    unfold rdB
    rw [if_neg (by omega), hlen]
  rw [← hb] at hU
  by_cases c0 : (s[1]'hi).toNat = 110
  · have H := Lib.hid (show rdB s.data.toList = ([10], 2) by rw [hU]; simp [isSelf, c0])
    rw [H.out]
    have q : ((s[1]'hi).toNat : Int) = 110 := by omega
    clear H hU hb hlen
    go_enter Tryz.func327, Tryz.ntmps327
    go_wp2
    go_ret2
    exact ⟨rfl, Below.refl _ _⟩
  have i0 : ¬ ((s[1]'hi).toNat : Int) = 110 := by omega
  by_cases c1 : (s[1]'hi).toNat = 114
  · have H := Lib.hid (show rdB s.data.toList = ([13], 2) by rw [hU]; simp [isSelf, c1])
    rw [H.out]
    have q : ((s[1]'hi).toNat : Int) = 114 := by omega
    clear H hU hb hlen
    go_enter Tryz.func327, Tryz.ntmps327
    go_wp2
    go_ret2
    exact ⟨rfl, Below.refl _ _⟩
  have i1 : ¬ ((s[1]'hi).toNat : Int) = 114 := by omega
  by_cases c2 : (s[1]'hi).toNat = 116
  · have H := Lib.hid (show rdB s.data.toList = ([9], 2) by rw [hU]; simp [isSelf, c2])
    rw [H.out]
    have q : ((s[1]'hi).toNat : Int) = 116 := by omega
    clear H hU hb hlen
    go_enter Tryz.func327, Tryz.ntmps327
    go_wp2
    go_ret2
    exact ⟨rfl, Below.refl _ _⟩
  have i2 : ¬ ((s[1]'hi).toNat : Int) = 116 := by omega
  by_cases c3 : (s[1]'hi).toNat = 92
  · have H := Lib.hid (show rdB s.data.toList = ((s.data.toList.drop 1).take 1, 2) by rw [hU]; simp [isSelf, c3])
    rw [H.out]
    have q : ((s[1]'hi).toNat : Int) = 92 := by omega
    clear H hU hb hlen
    go_enter Tryz.func327, Tryz.ntmps327
    go_wp2
    go_ret2
    exact ⟨ret_sn (str_ext (ext_take s 1 2)) rfl, Below.refl _ _⟩
  have i3 : ¬ ((s[1]'hi).toNat : Int) = 92 := by omega
  by_cases c4 : (s[1]'hi).toNat = 34
  · have H := Lib.hid (show rdB s.data.toList = ((s.data.toList.drop 1).take 1, 2) by rw [hU]; simp [isSelf, c4])
    rw [H.out]
    have q : ((s[1]'hi).toNat : Int) = 34 := by omega
    clear H hU hb hlen
    go_enter Tryz.func327, Tryz.ntmps327
    go_wp2
    go_ret2
    exact ⟨ret_sn (str_ext (ext_take s 1 2)) rfl, Below.refl _ _⟩
  have i4 : ¬ ((s[1]'hi).toNat : Int) = 34 := by omega
  by_cases c5 : (s[1]'hi).toNat = 61
  · have H := Lib.hid (show rdB s.data.toList = ((s.data.toList.drop 1).take 1, 2) by rw [hU]; simp [isSelf, c5])
    rw [H.out]
    have q : ((s[1]'hi).toNat : Int) = 61 := by omega
    clear H hU hb hlen
    go_enter Tryz.func327, Tryz.ntmps327
    go_wp2
    go_ret2
    exact ⟨ret_sn (str_ext (ext_take s 1 2)) rfl, Below.refl _ _⟩
  have i5 : ¬ ((s[1]'hi).toNat : Int) = 61 := by omega
  by_cases c6 : (s[1]'hi).toNat = 58
  · have H := Lib.hid (show rdB s.data.toList = ((s.data.toList.drop 1).take 1, 2) by rw [hU]; simp [isSelf, c6])
    rw [H.out]
    have q : ((s[1]'hi).toNat : Int) = 58 := by omega
    clear H hU hb hlen
    go_enter Tryz.func327, Tryz.ntmps327
    go_wp2
    go_ret2
    exact ⟨ret_sn (str_ext (ext_take s 1 2)) rfl, Below.refl _ _⟩
  have i6 : ¬ ((s[1]'hi).toNat : Int) = 58 := by omega
  by_cases c7 : (s[1]'hi).toNat = 35
  · have H := Lib.hid (show rdB s.data.toList = ((s.data.toList.drop 1).take 1, 2) by rw [hU]; simp [isSelf, c7])
    rw [H.out]
    have q : ((s[1]'hi).toNat : Int) = 35 := by omega
    clear H hU hb hlen
    go_enter Tryz.func327, Tryz.ntmps327
    go_wp2
    go_ret2
    exact ⟨ret_sn (str_ext (ext_take s 1 2)) rfl, Below.refl _ _⟩
  have i7 : ¬ ((s[1]'hi).toNat : Int) = 35 := by omega
  by_cases c8 : (s[1]'hi).toNat = 33
  · have H := Lib.hid (show rdB s.data.toList = ((s.data.toList.drop 1).take 1, 2) by rw [hU]; simp [isSelf, c8])
    rw [H.out]
    have q : ((s[1]'hi).toNat : Int) = 33 := by omega
    clear H hU hb hlen
    go_enter Tryz.func327, Tryz.ntmps327
    go_wp2
    go_ret2
    exact ⟨ret_sn (str_ext (ext_take s 1 2)) rfl, Below.refl _ _⟩
  have i8 : ¬ ((s[1]'hi).toNat : Int) = 33 := by omega
  by_cases c9 : (s[1]'hi).toNat = 123
  · have H := Lib.hid (show rdB s.data.toList = ((s.data.toList.drop 1).take 1, 2) by rw [hU]; simp [isSelf, c9])
    rw [H.out]
    have q : ((s[1]'hi).toNat : Int) = 123 := by omega
    clear H hU hb hlen
    go_enter Tryz.func327, Tryz.ntmps327
    go_wp2
    go_ret2
    exact ⟨ret_sn (str_ext (ext_take s 1 2)) rfl, Below.refl _ _⟩
  have i9 : ¬ ((s[1]'hi).toNat : Int) = 123 := by omega
  by_cases c10 : (s[1]'hi).toNat = 125
  · have H := Lib.hid (show rdB s.data.toList = ((s.data.toList.drop 1).take 1, 2) by rw [hU]; simp [isSelf, c10])
    rw [H.out]
    have q : ((s[1]'hi).toNat : Int) = 125 := by omega
    clear H hU hb hlen
    go_enter Tryz.func327, Tryz.ntmps327
    go_wp2
    go_ret2
    exact ⟨ret_sn (str_ext (ext_take s 1 2)) rfl, Below.refl _ _⟩
  have i10 : ¬ ((s[1]'hi).toNat : Int) = 125 := by omega
  by_cases c11 : (s[1]'hi).toNat = 32
  · have H := Lib.hid (show rdB s.data.toList = ((s.data.toList.drop 1).take 1, 2) by rw [hU]; simp [isSelf, c11])
    rw [H.out]
    have q : ((s[1]'hi).toNat : Int) = 32 := by omega
    clear H hU hb hlen
    go_enter Tryz.func327, Tryz.ntmps327
    go_wp2
    go_ret2
    exact ⟨ret_sn (str_ext (ext_take s 1 2)) rfl, Below.refl _ _⟩
  have i11 : ¬ ((s[1]'hi).toNat : Int) = 32 := by omega
  have hself : isSelf (s[1]'hi).toNat = false := by unfold isSelf; simp; omega
  rw [if_neg c0, if_neg c1, if_neg c2, if_neg (by simp [hself])] at hU
  clear hself c0 c1 c2 c3 c4 c5 c6 c7 c8 c9 c10 c11 hb
  by_cases cx : (s[1]'hi).toNat = 120
  · have q : ((s[1]'hi).toNat : Int) = 120 := by omega
    rw [if_pos cx] at hU
    by_cases h4 : 4 ≤ s.size
    · have h2i : 2 < s.size := by omega
      have hb2 := byt_getOf2 s 2 h2i
      rw [← hb2] at hU
      by_cases h5 : (s[2]'h2i).toNat ≤ 55
      · rw [if_pos ⟨h4, h5⟩] at hU
        have H := Lib.hid hU
        rw [H.out]
        have q2 : ((s[2]'h2i).toNat : Int) ≤ 55 := by omega
        clear H hU hb2 hlen cx h5
        go_enter Tryz.func327, Tryz.ntmps327
        go_wp2_with fail
        refine (character_x 16 s 2 4 (by decide) _ E (.inr rfl)).mono ?_
        rintro e w1 ⟨rfl, D⟩
        go_wp2
        go_ret2
        exact ⟨rfl, D⟩
      · rw [if_neg (fun h => h5 h.2)] at hU
        have H := Lib.hid hU
        rw [H.out]
        have q2 : ¬ ((s[2]'h2i).toNat : Int) ≤ 55 := by omega
        clear H hU hb2 hlen cx h5
        go_enter Tryz.func327, Tryz.ntmps327
        go_wp2
        go_ret2
        exact ⟨rfl, Below.refl _ _⟩
    · rw [if_neg (fun h => h4 h.1)] at hU
      have H := Lib.hid hU
      rw [H.out]
      clear H hU hlen cx
      go_enter Tryz.func327, Tryz.ntmps327
      go_wp2
      go_ret2
      exact ⟨rfl, Below.refl _ _⟩
  have ix : ¬ ((s[1]'hi).toNat : Int) = 120 := by omega
  rw [if_neg cx] at hU
  clear cx
  by_cases cu : (s[1]'hi).toNat = 117
  · have q : ((s[1]'hi).toNat : Int) = 117 := by omega
    rw [if_pos cu] at hU
    by_cases h6 : 6 ≤ s.size
    · rw [if_pos h6] at hU
      have H := Lib.hid hU
      rw [H.out]
      clear H hU hlen cu
      go_enter Tryz.func327, Tryz.ntmps327
      go_wp2_with fail
      refine (character_x 16 s 2 6 (by decide) _ E (.inr rfl)).mono ?_
      rintro e w1 ⟨rfl, D⟩
      go_wp2
      go_ret2
      exact ⟨rfl, D⟩
    · rw [if_neg h6] at hU
      have H := Lib.hid hU
      rw [H.out]
      clear H hU hlen cu
      go_enter Tryz.func327, Tryz.ntmps327
      go_wp2
      go_ret2
      exact ⟨rfl, Below.refl _ _⟩
  have iu : ¬ ((s[1]'hi).toNat : Int) = 117 := by omega
  rw [if_neg cu] at hU
  have H := Lib.hid hU
  rw [H.out]
  clear H hU hlen cu
  go_enter Tryz.func327, Tryz.ntmps327
  go_wp2
  go_ret2
  exact ⟨rfl, Below.refl _ _⟩
end Go.Proofs.YtpmmchppfmojhaaGreatDoor


/- read, Unescape. -/
namespace Go.Proofs.YtpmmchppfmojhaaGreatDoor
open Go.RowKit
set_option linter.unusedVariables false

def rd (st : Nat) (l : List UInt8) : RdOf2 :=
  if byt l 0 = 92 ∧ st ≠ 4 then rdB l else if byt l 0 = 10 ∧ st ≠ 4 then ([], 0) else if byt l 0 = 34 ∧ st ≠ 1 then ([], 0)
  else if byt l 0 = 38 ∧ st = 4 then rdE l else if byt l 0 = 60 ∧ st = 4 then ([], 0) else (l.take 1, 1)

set_option maxRecDepth 1000000 in
set_option maxHeartbeats 2000000 in
theorem read_any (st : Nat) (s : ByteArray) (hs : s.size ≤ 1099511627776) (hi : 0 < s.size) (w : World) (E : Env w) (hst : st = 1 ∨ st = 2 ∨ st = 3 ∨ st = 4) :
    Calls Tryz.prog 298 #[.int .i64 st, .string s] w (RdPost w (rd st s.data.toList)) := by
  have hb := byt_getOf2 s 0 hi
  generalize hU : rd st s.data.toList = R
  unfold rd at hU
  rw [← hb] at hU
  have hx : (s.extract 0 1).data.toList = s.data.toList.take 1 := ext_take s 0 1
  have hX := Lib.hid (str_ext hx)
  clear hx hb
  by_cases a4 : st = 4
  · have s4 : (st : Int) = 4 := by omega
    have t4 : ((st : Int) == 4) = true := by rw [s4]; rfl
    have u4 : ((st : Int) != 4) = false := by rw [s4]; rfl
    have u1 : ((st : Int) != 1) = true := by rw [s4]; rfl
    have n1 : st ≠ 1 := by omega
    have nn4 : ¬ st ≠ 4 := fun h => h a4
    clear s4
    by_cases c34 : (s[0]'hi).toNat = 34
    · have q : ((s[0]'hi).toNat : Int) = 34 := by omega
      rw [if_neg (fun h => nn4 h.2), if_neg (fun h => nn4 h.2), if_pos ⟨c34, n1⟩] at hU
      have H := Lib.hid hU.symm
      rw [H.out]
      clear H hU a4 hst n1 nn4 c34
      go_enter Tryz.func298, Tryz.ntmps298
      go_wp2
      go_ret2
      exact ⟨rfl, Below.refl _ _⟩
    · have i34 : ¬ ((s[0]'hi).toNat : Int) = 34 := by omega
      rw [if_neg (fun h => nn4 h.2), if_neg (fun h => nn4 h.2), if_neg (fun h => c34 h.1)] at hU
      by_cases c38 : (s[0]'hi).toNat = 38
      · have q : ((s[0]'hi).toNat : Int) = 38 := by omega
        rw [if_pos ⟨c38, a4⟩] at hU
        have H := Lib.hid hU.symm
        rw [H.out]
        clear H hU a4 hst n1 nn4 c34 c38
        go_enter Tryz.func298, Tryz.ntmps298
        go_wp2_with fail
        refine (readEntity_any s (by omega) hs _ E).mono ?_
        rintro e w1 ⟨rfl, D⟩
        go_wp2
        go_ret2
        exact ⟨rfl, D⟩
      · have i38 : ¬ ((s[0]'hi).toNat : Int) = 38 := by omega
        rw [if_neg (fun h => c38 h.1)] at hU
        by_cases c60 : (s[0]'hi).toNat = 60
        · have q : ((s[0]'hi).toNat : Int) = 60 := by omega
          rw [if_pos ⟨c60, a4⟩] at hU
          have H := Lib.hid hU.symm
          rw [H.out]
          clear H hU a4 hst n1 nn4 c34 c38 c60
          go_enter Tryz.func298, Tryz.ntmps298
          go_wp2
          go_ret2
          exact ⟨rfl, Below.refl _ _⟩
        · have i60 : ¬ ((s[0]'hi).toNat : Int) = 60 := by omega
          rw [if_neg (fun h => c60 h.1)] at hU
          have H := Lib.hid hU.symm
          clear hU a4 hst n1 nn4 c34 c38 c60
          go_enter Tryz.func298, Tryz.ntmps298
          go_wp2
          all_goals go_ret2
          all_goals refine ⟨?_, Below.refl _ _⟩
          all_goals rw [H.out]
          all_goals exact ret_sn hX.out rfl
  · have i4 : ¬ (st : Int) = 4 := by omega
    by_cases c92 : (s[0]'hi).toNat = 92
    · have q : ((s[0]'hi).toNat : Int) = 92 := by omega
      rw [if_pos ⟨c92, a4⟩] at hU
      have H := Lib.hid hU.symm
      rw [H.out]
      clear H hU hst a4 c92
      go_enter Tryz.func298, Tryz.ntmps298
      go_wp2_with fail
      refine (readBackslash_any s hs _ E).mono ?_
      rintro e w1 ⟨rfl, D⟩
      go_wp2
      go_ret2
      exact ⟨rfl, D⟩
    · have i92 : ¬ ((s[0]'hi).toNat : Int) = 92 := by omega
      rw [if_neg (fun h => c92 h.1)] at hU
      by_cases c10 : (s[0]'hi).toNat = 10
      · have q : ((s[0]'hi).toNat : Int) = 10 := by omega
        rw [if_pos ⟨c10, a4⟩] at hU
        have H := Lib.hid hU.symm
        rw [H.out]
        clear H hU hst a4 c92 c10
        go_enter Tryz.func298, Tryz.ntmps298
        go_wp2
        go_ret2
        exact ⟨rfl, Below.refl _ _⟩
      · have i10 : ¬ ((s[0]'hi).toNat : Int) = 10 := by omega
        rw [if_neg (fun h => c10 h.1)] at hU
        by_cases c34 : (s[0]'hi).toNat = 34 ∧ st ≠ 1
        · have q : ((s[0]'hi).toNat : Int) = 34 := by omega
          have i1 : ¬ (st : Int) = 1 := by omega
          rw [if_pos c34] at hU
          have H := Lib.hid hU.symm
          rw [H.out]
          clear H hU hst a4 c92 c10 c34
          go_enter Tryz.func298, Tryz.ntmps298
          go_wp2
          go_ret2
          exact ⟨rfl, Below.refl _ _⟩
        · rw [if_neg c34, if_neg (fun h => a4 h.2), if_neg (fun h => a4 h.2)] at hU
          have H := Lib.hid hU.symm
          clear hU
          by_cases d34 : (s[0]'hi).toNat = 34
          · have q : ((s[0]'hi).toNat : Int) = 34 := by omega
            have i1 : ((st : Int) != 1) = false := by
              have : (st : Int) = 1 := by omega
              rw [this]; rfl
            clear hst a4 c92 c10 c34 d34
            go_enter Tryz.func298, Tryz.ntmps298
            go_wp2
            all_goals go_ret2
            all_goals refine ⟨?_, Below.refl _ _⟩
            all_goals rw [H.out]
            all_goals exact ret_sn hX.out rfl
          · have i34 : ¬ ((s[0]'hi).toNat : Int) = 34 := by omega
            have i4' : ((st : Int) == 4) = false := by simpa using i4
            clear hst a4 c92 c10 c34 d34
            go_enter Tryz.func298, Tryz.ntmps298
            go_wp2
            all_goals go_ret2
            all_goals refine ⟨?_, Below.refl _ _⟩
            all_goals rw [H.out]
            all_goals exact ret_sn hX.out rfl
end Go.Proofs.YtpmmchppfmojhaaGreatDoor


/- Unescape. -/
namespace Go.Proofs.YtpmmchppfmojhaaGreatDoor
open Go.RowKit
set_option linter.unusedVariables false

theorem charL_len (b : Nat) (l : List UInt8) : (charL b l).length ≤ 4 := by
  unfold charL
  split
  · simp
  · split
    · simp
    · split
      · exact (enc_length _).2
      · simp
theorem enL_len (l : List UInt8) : (enL l).length ≤ 4 := by
  unfold enL enN
  repeat' split
  all_goals first | exact charL_len _ _ | simp
theorem rdE_ok (l : List UInt8) : (rdE l).1.length ≤ 4 ∧ (rdE l).2 ≤ l.length + 6 ∧ ((rdE l).1 ≠ [] → 1 ≤ (rdE l).2) := by
  unfold rdE
  split
  · simp
  · refine ⟨enL_len _, ?_, fun _ => by simp⟩
    rcases indexByte_cases (l.drop 1) 59 with h | ⟨k, h, hk⟩
    · rw [h]; simp
    · rw [h]
      rw [List.length_drop] at hk
      simp
      omega
theorem rdB_ok (l : List UInt8) : (rdB l).1.length ≤ 4 ∧ (rdB l).2 ≤ l.length + 6 ∧ ((rdB l).1 ≠ [] → 1 ≤ (rdB l).2) := by
  have h1 := charL_len 16 ((l.drop 2).take 2)
  have h2 := charL_len 16 ((l.drop 2).take 4)
  unfold rdB
  repeat' split
  all_goals simp
  all_goals omega
theorem rd_ok (st : Nat) (l : List UInt8) : (rd st l).1.length ≤ 4 ∧ (rd st l).2 ≤ l.length + 6 ∧ ((rd st l).1 ≠ [] → 1 ≤ (rd st l).2) := by
  unfold rd
  split
  · exact rdB_ok l
  · split
    · simp
    · split
      · simp
      · split
        · exact rdE_ok l
        · split
          · simp
          · simp; omega

abbrev Un := Bool × List UInt8 × Nat
def jn (t : List UInt8) (a : Nat) (r : Un) : Un := if r.1 = true then (true, t ++ r.2.1, 0) else (false, [], a + r.2.2)
def unF (st : Nat) : Nat → List UInt8 → Un
  | 0, _ => (true, [], 0)
  | n + 1, l => if l = [] then (true, [], 0) else if (rd st l).1 = [] then (false, [], 0) else jn (rd st l).1 (rd st l).2 (unF st n (l.drop (rd st l).2))
theorem unF_fuel (st : Nat) : ∀ (m n : Nat) (l : List UInt8), l.length ≤ m → l.length ≤ n → unF st m l = unF st n l := by
  intro m
  induction m with
  | zero =>
    intro n l h1 _
    have : l = [] := List.eq_nil_of_length_eq_zero (by omega)
    subst this
    cases n <;> simp [unF]
  | succ m ih =>
    intro n l h1 h2
    cases n with
    | zero =>
      have : l = [] := List.eq_nil_of_length_eq_zero (by omega)
      subst this
      simp [unF]
    | succ n =>
      simp only [unF]
      split
      · rfl
      · rename_i hl
        split
        · rfl
        · rename_i hr
          have := (rd_ok st l).2.2 hr
          have hp : 0 < l.length := List.length_pos_iff.2 hl
          rw [ih n (l.drop (rd st l).2) (by rw [List.length_drop]; omega) (by rw [List.length_drop]; omega)]
def un (st : Nat) (l : List UInt8) : Un := unF st l.length l
theorem un_nil (st : Nat) : un st [] = (true, [], 0) := rfl
theorem un_stop {st : Nat} {l : List UInt8} (h : l ≠ []) (h1 : (rd st l).1 = []) : un st l = (false, [], 0) := by
  unfold un
  cases l with
  | nil => exact absurd rfl h
  | cons a l => simp only [List.length_cons, unF, if_neg h, if_pos h1]
theorem un_go {st : Nat} {l : List UInt8} (h : l ≠ []) (h1 : (rd st l).1 ≠ []) : un st l = jn (rd st l).1 (rd st l).2 (un st (l.drop (rd st l).2)) := by
  have hp : 0 < l.length := List.length_pos_iff.2 h
  have := (rd_ok st l).2.2 h1
  have e : unF st l.length l = unF st (l.length - 1 + 1) l := by congr 1; omega
  unfold un
  rw [e]
  simp only [unF, if_neg h, if_neg h1]
  rw [unF_fuel st _ _ (l.drop (rd st l).2) (by rw [List.length_drop]; omega) (Nat.le_refl _)]
theorem jn_jn (t u : List UInt8) (a b : Nat) (r : Un) : jn t a (jn u b r) = jn (t ++ u) (a + b) r := by
  obtain ⟨ok, v, c⟩ := r
  cases ok <;> simp [jn, Nat.add_assoc]
theorem jn_nil (r : Un) (h : r.1 = true → r.2.2 = 0) (h2 : r.1 = false → r.2.1 = []) : jn [] 0 r = r := by
  obtain ⟨ok, v, c⟩ := r
  cases ok
  · have := h2 rfl; simp at this; subst this; simp [jn]
  · have := h rfl; simp at this; subst this; simp [jn]
theorem un_form (st : Nat) : ∀ (n : Nat) (l : List UInt8), ((unF st n l).1 = true → (unF st n l).2.2 = 0) ∧ ((unF st n l).1 = false → (unF st n l).2.1 = []) := by
  intro n
  induction n with
  | zero => intro l; simp [unF]
  | succ n ih =>
    intro l
    simp only [unF]
    split
    · simp
    · split
      · simp
      · unfold jn
        split <;> simp

def UnPost (w : World) (r : Un) (e : Ending) (w' : World) : Prop :=
  e = .returned (.tuple #[.string ⟨r.2.1.toArray⟩, .int .i64 r.2.2, .int .i64 (if r.1 = true then 0 else 3 : Int)]) ∧ Below w.heap.size w w'
def UnRel (st : Nat) (s : ByteArray) (w : World) (i t z : Value) (wr : World) : Prop :=
  ∃ (k : Nat) (acc : List UInt8), i = .int .i64 k ∧ k ≤ s.size + 6 ∧ acc.length ≤ 4 * k ∧ Bld w.heap.size acc wr ∧ Below w.heap.size w wr ∧ un st s.data.toList = jn acc k (un st (s.data.toList.drop k))
theorem un_step {st : Nat} {s : ByteArray} {w wr w2 : World} {k : Nat} {acc t : List UInt8} {z : Nat} {vi vt vz : Value} (hk : k < s.size) (hl : acc.length ≤ 4 * k) (hB : Below w.heap.size w wr) (hu : un st s.data.toList = jn acc k (un st (s.data.toList.drop k)))
    (hr : rd st (s.data.toList.drop k) = (t, z)) (ht : t ≠ []) (hb : Bld w.heap.size (acc ++ t) w2) (hD : Below w.heap.size wr w2) (hv : vi = .int .i64 (k + z : Nat)) : UnRel st s w vi vt vz w2 := by
  have h := rd_ok st (s.data.toList.drop k)
  rw [hr] at h
  obtain ⟨h1, h2, h3⟩ := h
  simp only at h1 h2 h3
  rw [List.length_drop, len_data] at h2
  have h3 := h3 ht
  refine ⟨k + z, acc ++ t, hv, by omega, by rw [List.length_append]; omega, hb, hB.trans hD, ?_⟩
  have hne : s.data.toList.drop k ≠ [] := drop_ne hk
  rw [hu, un_go hne (by rw [hr]; exact ht), jn_jn, hr, List.drop_drop]
theorem un_fail {st : Nat} {s : ByteArray} {k : Nat} {acc : List UInt8} {z : Nat} (hk : k < s.size) (hu : un st s.data.toList = jn acc k (un st (s.data.toList.drop k)))
    (hr : rd st (s.data.toList.drop k) = ([], z)) : un st s.data.toList = (false, [], k) := by
  rw [hu, un_stop (drop_ne hk) (by rw [hr])]
  simp [jn]

set_option maxRecDepth 1000000 in
set_option maxHeartbeats 2000000 in
theorem unescape_st (st : Nat) (s : ByteArray) (w : World) (E : Env w) (hs : s.size ≤ 68719476736) (hst : st = 1 ∨ st = 2 ∨ st = 3 ∨ st = 4) :
    Calls Tryz.prog 253 #[.int .i64 st, .string s] w (UnPost w (un st s.data.toList)) := by
  have his : isSt st = true := by unfold isSt; simp; omega
  go_enter Tryz.func253, Tryz.ntmps253
  go_wp2_with fail
  refine (isStyle_any _ _).mono ?_
  rintro e w' ⟨rfl, rfl⟩
  rw [his]
  clear his
  go_wp2
  go_loopw [8, 9, 10] (fun i t z wr => UnRel st s w i t z wr) (fun i _ _ _ => s.size - (intOf i).toNat)
  case atStart => exact ⟨0, [], rfl, Nat.zero_le _, by simp, Bld.fresh w, (Below.refl _ _).alloc (Nat.le_refl _) _, (jn_nil _ (un_form st _ _).1 (un_form st _ _).2).symm⟩
  case round =>
    obtain ⟨k, acc, rfl, hk, hl, hb, hB, hu⟩ := hrel
    have H := Lib.hid hb
    have hB' := Lib.hid hB
    have hU := Lib.hid hu
    clear hb hB hu
    by_cases hlt : k < s.size
    · have hxs : (s.extract k s.size).size = s.size - k := by simp
      have hrd := read_any st (s.extract k s.size) (by omega) (by omega) wr (E.below hB'.out) hst
      rw [ext_data] at hrd
      obtain ⟨t, z, hR⟩ : ∃ t z, rd st (s.data.toList.drop k) = (t, z) := ⟨_, _, rfl⟩
      rw [hR] at hrd
      have hok := rd_ok st (s.data.toList.drop k)
      rw [hR] at hok
      obtain ⟨ht4, hz, hz1⟩ := hok
      simp only at ht4 hz hz1
      rw [List.length_drop, len_data] at hz
      have HR := Lib.hid hR
      clear hR hxs
      by_cases h0 : t = []
      · subst h0
        clear ht4 hz1
        go_wp2_with fail
        refine hrd.mono ?_
        rintro e w1 ⟨rfl, D⟩
        clear hrd
        go_wp2
        go_ret3
        refine ⟨?_, hB'.out.trans (D.mono hB'.out.size)⟩
        rw [un_fail hlt hU.out HR.out]
        rfl
      · have hz1 := hz1 h0
        have h0' : t.isEmpty = false := by cases t <;> simp_all
        have h0'' : (t == []) = false := by cases t <;> simp_all
        have H0 := Lib.hid h0
        clear h0
        go_wp2_with fail
        refine hrd.mono ?_
        rintro e w1 ⟨rfl, D⟩
        clear hrd
        have hsz := size_mk t
        go_wp2_with fail
        refine (writeString_any _ acc _ w1 (H.out.below D) (by omega) (by rw [size_mk]; omega)).mono ?_
        rintro e w2 ⟨rfl, B1, D1⟩
        rw [mk_data] at B1
        have K1 := Lib.hid B1; clear B1
        go_wp2
        go_roundw
        case rel => exact un_step hlt hl hB'.out hU.out HR.out H0.out K1.out ((D.mono hB'.out.size).trans D1) (by go_num)
        case measure => simp [intOf]; omega
    · go_wp2_with fail
      refine (string_any _ _ _ H.out).mono ?_
      rintro e w1 ⟨rfl, B1, D1⟩
      go_wp2
      go_ret3
      refine ⟨?_, hB'.out.trans D1⟩
      rw [hU.out, drop_end hlt, un_nil]
      simp [jn]
end Go.Proofs.YtpmmchppfmojhaaGreatDoor


/- End (both), Style. -/
namespace Go.Proofs.YtpmmchppfmojhaaGreatDoor
open Go.RowKit
set_option linter.unusedVariables false

/-- Where the first delimiter lies. -/
def endF (st d : Nat) : List UInt8 → Option Nat
  | [] => none
  | [c] => if c.toNat = d then some 0 else none
  | c :: x :: r => if c.toNat = d then some 0 else if c.toNat = 92 ∧ st ≠ 4 then (endF st d r).map (· + 2) else (endF st d (x :: r)).map (· + 1)
def endV (k : Nat) : Option Nat → Int
  | some j => ((k + j : Nat) : Int)
  | none => -1
theorem endV_map (k a : Nat) (o : Option Nat) : endV k (o.map (· + a)) = endV (k + a) o := by
  cases o with
  | none => rfl
  | some j => simp [endV]; omega
theorem drop_at {l : List UInt8} {k : Nat} (h : k < l.length) : ∃ c, l.drop k = c :: l.drop (k + 1) ∧ c.toNat = byt l k := ⟨l[k], List.drop_eq_getElem_cons h, by simp [byt, List.getElem?_eq_getElem h]⟩
theorem endF_hit {st d k : Nat} {l : List UInt8} (h : k < l.length) (hc : byt l k = d) : endF st d (l.drop k) = some 0 := by
  obtain ⟨c, e, hb⟩ := drop_at h
  rw [e]
  cases l.drop (k + 1) <;> simp [endF, hb, hc]
theorem endF_skip {st d k : Nat} {l : List UInt8} (h : k < l.length) (hc : byt l k ≠ d) (h92 : byt l k = 92) (h4 : st ≠ 4) : endV k (endF st d (l.drop k)) = endV (k + 2) (endF st d (l.drop (k + 2))) := by
  obtain ⟨c, e, hb⟩ := drop_at h
  rw [e, ← endV_map]
  congr 1
  have e2 : l.drop (k + 2) = (l.drop (k + 1)).drop 1 := by rw [List.drop_drop]
  rw [e2]
  have hd : ¬ (92 : Nat) = d := fun x => hc (h92.trans x)
  cases l.drop (k + 1) with
  | nil => simp [endF, hb, h92, hd]
  | cons x r => simp [endF, hb, h92, h4, hd]
theorem endF_step {st d k : Nat} {l : List UInt8} (h : k < l.length) (hc : byt l k ≠ d) (h92 : ¬ (byt l k = 92 ∧ st ≠ 4)) : endV k (endF st d (l.drop k)) = endV (k + 1) (endF st d (l.drop (k + 1))) := by
  obtain ⟨c, e, hb⟩ := drop_at h
  rw [e, ← endV_map]
  congr 1
  cases l.drop (k + 1) with
  | nil => simp [endF, hb, hc]
  | cons x r =>
    simp only [endF, hb]
    rw [if_neg hc, if_neg h92]
def EndRel (st d : Nat) (s : ByteArray) (i : Value) : Prop :=
  ∃ k : Nat, i = .int .i64 k ∧ k ≤ s.size + 1 ∧ endV 0 (endF st d s.data.toList) = endV k (endF st d (s.data.toList.drop k))

set_option maxRecDepth 1000000 in
set_option maxHeartbeats 1000000 in
theorem end_st (st : Nat) (s : ByteArray) (d : Nat) (w : World) (hs : s.size ≤ 1099511627776) (hst : st = 1 ∨ st = 2 ∨ st = 3 ∨ st = 4) :
    Calls Tryz.prog 252 #[.int .i64 st, .string s, .int .u8 d] w fun e w' => e = .returned (.int .i64 (endV 0 (endF st d s.data.toList))) ∧ w = w' := by
  have his : isSt st = true := by unfold isSt; simp; omega
  go_enter Tryz.func252, Tryz.ntmps252
  go_wp2_with fail
  refine (isStyle_any _ _).mono ?_
  rintro e w' ⟨rfl, rfl⟩
  rw [his]
  clear his
  go_wp2
  go_loop [7] (fun i => EndRel st d s i) (fun i => s.size + 1 - (intOf i).toNat)
  case atStart => exact ⟨0, rfl, Nat.zero_le _, by rw [List.drop_zero]⟩
  case round =>
    obtain ⟨k, rfl, hk, hu⟩ := hrel
    have hU := Lib.hid hu
    clear hu
    by_cases hlt : k < s.size
    · have hb := byt_getOf2 s k hlt
      by_cases cd : (s[k]'hlt).toNat = d
      · have R := Lib.hid (endF_hit (st := st) (d := d) (l := s.data.toList) (k := k) (by rw [len_data]; exact hlt) (hb.symm.trans cd))
        have id : ((s[k]'hlt).toNat : Int) = d := by omega
        have id' : (((s[k]'hlt).toNat : Int) == d) = true := by rw [id]; simp
        clear hb cd id
        go_wp2
        go_ret
        refine ⟨?_, rfl⟩
        rw [hU.out, R.out]
        simp [endV]
      · have id : ¬ ((s[k]'hlt).toNat : Int) = d := by omega
        by_cases c92 : (s[k]'hlt).toNat = 92 ∧ st ≠ 4
        · have R := Lib.hid (endF_skip (st := st) (d := d) (l := s.data.toList) (k := k) (by rw [len_data]; exact hlt) (by rw [← hb]; exact cd) (by rw [← hb]; exact c92.1) c92.2)
          have q : (((s[k]'hlt).toNat : Int) == 92) = true := by rw [c92.1]; rfl
          have i4 : ((st : Int) != 4) = true := by
            have := c92.2
            simp; omega
          clear hb cd c92 hst
          go_wp2
          refine ⟨⟨k + 2, by go_num, by omega, hU.out.trans R.out⟩, by simp [intOf]; omega⟩
        · have R := Lib.hid (endF_step (st := st) (d := d) (l := s.data.toList) (k := k) (by rw [len_data]; exact hlt) (by rw [← hb]; exact cd) (by rw [← hb]; exact c92))
          have q : ((((s[k]'hlt).toNat : Int) == 92) && ((st : Int) != 4)) = false := by
            by_cases x : (s[k]'hlt).toNat = 92
            · have : st = 4 := by omega
              rw [this]; simp
            · have : ¬ ((s[k]'hlt).toNat : Int) = 92 := by omega
              simp [this]
          have q' : (((st : Int) != 4) && (((s[k]'hlt).toNat : Int) == 92)) = false := by rw [Bool.and_comm]; exact q
          by_cases x : (s[k]'hlt).toNat = 92
          · have y : (((s[k]'hlt).toNat : Int) == 92) = true := by rw [x]; rfl
            have z : ((st : Int) != 4) = false := by
              have : (st : Int) = 4 := by omega
              rw [this]; rfl
            clear hb cd c92 hst q q' x
            go_wp2
            refine ⟨⟨k + 1, by go_num, by omega, hU.out.trans R.out⟩, by simp [intOf]; omega⟩
          · have y : ¬ ((s[k]'hlt).toNat : Int) = 92 := by omega
            by_cases z4 : st = 4
            · have z : ((st : Int) != 4) = false := by rw [z4]; rfl
              clear hb cd c92 hst q q' x z4
              go_wp2
              refine ⟨⟨k + 1, by go_num, by omega, hU.out.trans R.out⟩, by simp [intOf]; omega⟩
            · have z : ((st : Int) != 4) = true := by simp; omega
              clear hb cd c92 hst q q' x z4
              go_wp2
              refine ⟨⟨k + 1, by go_num, by omega, hU.out.trans R.out⟩, by simp [intOf]; omega⟩
    · go_wp2
      go_ret
      refine ⟨?_, rfl⟩
      rw [hU.out, drop_end hlt]
      rfl
end Go.Proofs.YtpmmchppfmojhaaGreatDoor


