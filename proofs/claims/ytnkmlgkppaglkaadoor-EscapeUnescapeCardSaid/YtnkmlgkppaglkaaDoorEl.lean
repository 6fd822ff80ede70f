/- Unescape. -/
import Derived.Test.YtnkmlgkppaglkaaDoorEk
namespace Go.Proofs.YtnkmlgkppaglkaaDoor
open Go.RowKit
set_option linter.unusedVariables false

theorem charL_len (b : Nat) (l : List UInt8) : (charL b l).length ≤ 4 := by
  unfold charL
  split
  · simp
  · split
    · simp
    · split
      · exact (enc_length _).2
      · simp
theorem enL_len (l : List UInt8) : (enL l).length ≤ 4 := by
  unfold enL enN
  repeat' split
  all_goals first | exact charL_len _ _ | simp
theorem rdE_ok (l : List UInt8) : (rdE l).1.length ≤ 4 ∧ (rdE l).2 ≤ l.length + 6 ∧ ((rdE l).1 ≠ [] → 1 ≤ (rdE l).2) := by
  unfold rdE
  split
  · simp
  · refine ⟨enL_len _, ?_, fun _ => by simp⟩
    rcases indexByte_cases (l.drop 1) 59 with h | ⟨k, h, hk⟩
    · rw [h]; simp
    · rw [h]
      rw [List.length_drop] at hk
      simp
      omega
theorem rdB_ok (l : List UInt8) : (rdB l).1.length ≤ 4 ∧ (rdB l).2 ≤ l.length + 6 ∧ ((rdB l).1 ≠ [] → 1 ≤ (rdB l).2) := by
  have h1 := charL_len 16 ((l.drop 2).take 2)
  have h2 := charL_len 16 ((l.drop 2).take 4)
  unfold rdB
  repeat' split
  all_goals simp
  all_goals omega
theorem rd_ok (st : Nat) (l : List UInt8) : (rd st l).1.length ≤ 4 ∧ (rd st l).2 ≤ l.length + 6 ∧ ((rd st l).1 ≠ [] → 1 ≤ (rd st l).2) := by
  unfold rd
  split
  · exact rdB_ok l
  · split
    · simp
    · split
      · simp
      · split
        · exact rdE_ok l
        · split
          · simp
          · simp; omega

abbrev Un := Bool × List UInt8 × Nat
def jn (t : List UInt8) (a : Nat) (r : Un) : Un := if r.1 = true then (true, t ++ r.2.1, 0) else (false, [], a + r.2.2)
def unF (st : Nat) : Nat → List UInt8 → Un
  | 0, _ => (true, [], 0)
  | n + 1, l => if l = [] then (true, [], 0) else if (rd st l).1 = [] then (false, [], 0) else jn (rd st l).1 (rd st l).2 (unF st n (l.drop (rd st l).2))
theorem unF_fuel (st : Nat) : ∀ (m n : Nat) (l : List UInt8), l.length ≤ m → l.length ≤ n → unF st m l = unF st n l := by
  intro m
  induction m with
  | zero =>
    intro n l h1 _
    have : l = [] := List.eq_nil_of_length_eq_zero (by omega)
    subst this
    cases n <;> simp [unF]
  | succ m ih =>
    intro n l h1 h2
    cases n with
    | zero =>
      have : l = [] := List.eq_nil_of_length_eq_zero (by omega)
      subst this
      simp [unF]
    | succ n =>
      simp only [unF]
      split
      · rfl
      · rename_i hl
        split
        · rfl
        · rename_i hr
          have := (rd_ok st l).2.2 hr
          have hp : 0 < l.length := List.length_pos_iff.2 hl
          rw [ih n (l.drop (rd st l).2) (by rw [List.length_drop]; omega) (by rw [List.length_drop]; omega)]
def un (st : Nat) (l : List UInt8) : Un := unF st l.length l
theorem un_nil (st : Nat) : un st [] = (true, [], 0) := rfl
theorem un_stop {st : Nat} {l : List UInt8} (h : l ≠ []) (h1 : (rd st l).1 = []) : un st l = (false, [], 0) := by
  unfold un
  cases l with
  | nil => exact absurd rfl h
  | cons a l => simp only [List.length_cons, unF, if_neg h, if_pos h1]
theorem un_go {st : Nat} {l : List UInt8} (h : l ≠ []) (h1 : (rd st l).1 ≠ []) : un st l = jn (rd st l).1 (rd st l).2 (un st (l.drop (rd st l).2)) := by
  have hp : 0 < l.length := List.length_pos_iff.2 h
  have := (rd_ok st l).2.2 h1
  have e : unF st l.length l = unF st (l.length - 1 + 1) l := by congr 1; omega
  unfold un
  rw [e]
  simp only [unF, if_neg h, if_neg h1]
  rw [unF_fuel st _ _ (l.drop (rd st l).2) (by rw [List.length_drop]; omega) (Nat.le_refl _)]
theorem jn_jn (t u : List UInt8) (a b : Nat) (r : Un) : jn t a (jn u b r) = jn (t ++ u) (a + b) r := by
  obtain ⟨ok, v, c⟩ := r
  cases ok <;> simp [jn, Nat.add_assoc]
theorem jn_nil (r : Un) (h : r.1 = true → r.2.2 = 0) (h2 : r.1 = false → r.2.1 = []) : jn [] 0 r = r := by
  obtain ⟨ok, v, c⟩ := r
  cases ok
  · have := h2 rfl; simp at this; subst this; simp [jn]
  · have := h rfl; simp at this; subst this; simp [jn]
theorem un_form (st : Nat) : ∀ (n : Nat) (l : List UInt8), ((unF st n l).1 = true → (unF st n l).2.2 = 0) ∧ ((unF st n l).1 = false → (unF st n l).2.1 = []) := by
  intro n
  induction n with
  | zero => intro l; simp [unF]
  | succ n ih =>
    intro l
    simp only [unF]
    split
    · simp
    · split
      · simp
      · unfold jn
        split <;> simp

def UnPost (w : World) (r : Un) (e : Ending) (w' : World) : Prop :=
  e = .returned (.tuple #[.string ⟨r.2.1.toArray⟩, .int .i64 r.2.2, .int .i64 (if r.1 = true then 0 else 3 : Int)]) ∧ Below w.heap.size w w'
def UnRel (st : Nat) (s : ByteArray) (w : World) (i t z : Value) (wr : World) : Prop :=
  ∃ (k : Nat) (acc : List UInt8), i = .int .i64 k ∧ k ≤ s.size + 6 ∧ acc.length ≤ 4 * k ∧ Bld w.heap.size acc wr ∧ Below w.heap.size w wr ∧ un st s.data.toList = jn acc k (un st (s.data.toList.drop k))
theorem un_step {st : Nat} {s : ByteArray} {w wr w2 : World} {k : Nat} {acc t : List UInt8} {z : Nat} {vi vt vz : Value} (hk : k < s.size) (hl : acc.length ≤ 4 * k) (hB : Below w.heap.size w wr) (hu : un st s.data.toList = jn acc k (un st (s.data.toList.drop k)))
    (hr : rd st (s.data.toList.drop k) = (t, z)) (ht : t ≠ []) (hb : Bld w.heap.size (acc ++ t) w2) (hD : Below w.heap.size wr w2) (hv : vi = .int .i64 (k + z : Nat)) : UnRel st s w vi vt vz w2 := by
  have h := rd_ok st (s.data.toList.drop k)
  rw [hr] at h
  obtain ⟨h1, h2, h3⟩ := h
  simp only at h1 h2 h3
  rw [List.length_drop, len_data] at h2
  have h3 := h3 ht
  refine ⟨k + z, acc ++ t, hv, by omega, by rw [List.length_append]; omega, hb, hB.trans hD, ?_⟩
  have hne : s.data.toList.drop k ≠ [] := drop_ne hk
  rw [hu, un_go hne (by rw [hr]; exact ht), jn_jn, hr, List.drop_drop]
theorem un_fail {st : Nat} {s : ByteArray} {k : Nat} {acc : List UInt8} {z : Nat} (hk : k < s.size) (hu : un st s.data.toList = jn acc k (un st (s.data.toList.drop k)))
    (hr : rd st (s.data.toList.drop k) = ([], z)) : un st s.data.toList = (false, [], k) := by
  rw [hu, un_stop (drop_ne hk) (by rw [hr])]
  simp [jn]

set_option maxRecDepth 1000000 in
set_option maxHeartbeats 2000000 in
theorem unescape_st (st : Nat) (s : ByteArray) (w : World) (E : Env w) (hs : s.size ≤ 68719476736) (hst : st = 1 ∨ st = 2 ∨ st = 3 ∨ st = 4) :
    Calls Tryd.prog 13 #[.int .i64 st, .string s] w (UnPost w (un st s.data.toList)) := by
  have his : isSt st = true := by unfold isSt; simp; omega
  go_enter Tryd.func13, Tryd.ntmps13
  go_wp2_with fail
  refine (isStyle_any _ _).mono ?_
  rintro e w' ⟨rfl, rfl⟩
  rw [his]
  clear his
  go_wp2
  go_loopw [8, 9, 10] (fun i t z wr => UnRel st s w i t z wr) (fun i _ _ _ => s.size - (intOf i).toNat)
  case atStart => exact ⟨0, [], rfl, Nat.zero_le _, by simp, Bld.fresh w, (Below.refl _ _).alloc (Nat.le_refl _) _, (jn_nil _ (un_form st _ _).1 (un_form st _ _).2).symm⟩
  case round =>
    obtain ⟨k, acc, rfl, hk, hl, hb, hB, hu⟩ := hrel
    have H := Lib.hid hb
    have hB' := Lib.hid hB
    have hU := Lib.hid hu
    clear hb hB hu
    by_cases hlt : k < s.size
    · have hxs : (s.extract k s.size).size = s.size - k := by simp
      have hrd := read_any st (s.extract k s.size) (by omega) (by omega) wr (E.below hB'.out) hst
      rw [ext_data] at hrd
      obtain ⟨t, z, hR⟩ : ∃ t z, rd st (s.data.toList.drop k) = (t, z) := ⟨_, _, rfl⟩
      rw [hR] at hrd
      have hok := rd_ok st (s.data.toList.drop k)
      rw [hR] at hok
      obtain ⟨ht4, hz, hz1⟩ := hok
      simp only at ht4 hz hz1
      rw [List.length_drop, len_data] at hz
      have HR := Lib.hid hR
      clear hR hxs
      by_cases h0 : t = []
      · subst h0
        clear ht4 hz1
        go_wp2_with fail
        refine hrd.mono ?_
        rintro e w1 ⟨rfl, D⟩
        clear hrd
        go_wp2
        go_ret3
        refine ⟨?_, hB'.out.trans (D.mono hB'.out.size)⟩
        rw [un_fail hlt hU.out HR.out]
        rfl
      · have hz1 := hz1 h0
        have h0' : t.isEmpty = false := by cases t <;> simp_all
        have h0'' : (t == []) = false := by cases t <;> simp_all
        have H0 := Lib.hid h0
        clear h0
        go_wp2_with fail
        refine hrd.mono ?_
        rintro e w1 ⟨rfl, D⟩
        clear hrd
        have hsz := size_mk t
        go_wp2_with fail
        refine (writeString_any _ acc _ w1 (H.out.below D) (by omega) (by rw [size_mk]; omega)).mono ?_
        rintro e w2 ⟨rfl, B1, D1⟩
        rw [mk_data] at B1
        have K1 := Lib.hid B1; clear B1
        go_wp2
        go_roundw
        case rel => exact un_step hlt hl hB'.out hU.out HR.out H0.out K1.out ((D.mono hB'.out.size).trans D1) (by go_num)
        case measure => simp [intOf]; omega
    · go_wp2_with fail
      refine (string_any _ _ _ H.out).mono ?_
      rintro e w1 ⟨rfl, B1, D1⟩
      go_wp2
      go_ret3
      refine ⟨?_, hB'.out.trans D1⟩
      rw [hU.out, drop_end hlt, un_nil]
      simp [jn]
theorem unescape_no (st : Int) (s : ByteArray) (w : World) (hst : isSt st = false) :
    Calls Tryd.prog 13 #[.int .i64 st, .string s] w fun e w' => e = .returned (.tuple #[.string ⟨#[]⟩, .int .i64 0, .int .i64 1]) ∧ w = w' := by
  go_enter Tryd.func13, Tryd.ntmps13
  go_wp2_with fail
  refine (isStyle_any _ _).mono ?_
  rintro e w' ⟨rfl, rfl⟩
  rw [hst]
  clear hst
  go_wp2
  go_ret3
  exact ⟨rfl, rfl⟩
end Go.Proofs.YtnkmlgkppaglkaaDoor
