/- Int, appendString, String, Strings of the program. -/
import Derived.Test.YtglllbodhdgahaaPd
namespace Go.Proofs.Ytglllbodhdgahaa
open Go.RowKit
set_option linter.unusedVariables false

set_option maxRecDepth 1000000 in
theorem int_any (v : Value) (l : List UInt8) (n : Int) (w : World) (hv : RdB w v l) (hn : I64 n) (hl : l.length ≤ 1000000) :
    Calls Try.prog 13 #[v, .int .i64 n] w (OwnPost w (l ++ enc n)) := by
  have Hv := Lib.hid hv; clear hv
  have Hn := Lib.hid hn; clear hn
  go_enter Try.func13, Try.ntmps13
  go_wp2_with fail
  refine (copied_any _ l 9 _ Hv.out (by omega)).mono ?_
  rintro e w1 ⟨v1, rfl, o1, b1⟩
  have z1 := b1.size
  have O1 := Lib.hid o1; clear o1
  go_wp2_with fail
  refine (appendInt_any _ l n w.heap.size _ Hn.out z1 O1.out (by omega)).mono ?_
  rintro e w2 ⟨v2, rfl, o2, b2⟩
  have Q := Lib.hid (And.intro o2 (b1.trans b2)); clear o2 b2 b1
  go_wp2
  go_ret
  exact ⟨_, rfl, Q.out.1, Q.out.2⟩

set_option maxRecDepth 1000000 in
theorem appendString_any (v : Value) (xs s : List UInt8) (base : Nat) (w : World) (hbase : base ≤ w.heap.size) (ho : OwnB w base 5 v xs) (hl : xs.length + s.length ≤ 100000000) :
    Calls Try.prog 34 #[v, .string (ofL s)] w (AppPost w base (xs ++ encS s)) := by
  obtain ⟨i0, hi, hz0, hz1, hz2⟩ := info_parts Try.infoB
  have Ho := Lib.hid ho; clear ho
  have hsz : (ofL s).size = s.length := ofL_size s
  have hI : I64 (s.length : Int) := len_i64 (by omega)
  have HI := Lib.hid hI; clear hI
  go_enter Try.func34, Try.ntmps34
  go_wp2_with fail
  refine (appendInt_any _ xs _ base _ HI.out hbase Ho.out (by omega)).mono ?_
  rintro e w1 ⟨v1, rfl, o1, b1⟩
  have z1 := b1.size
  have hle := enc_len_le (s.length : Int)
  have hlen : (xs ++ enc (s.length : Int)).length + s.length ≤ 140737488355328 := by rw [List.length_append]; omega
  have HL := Lib.hid hlen; clear hlen
  go_wp2_with (at_builtin; go_loud (refine wpList_append_text rfl _ _ 22 9 rfl base 5 i0 Try.underlying22 Try.underlying9 hi hz0 hz1 hz2 _ (xs ++ enc (s.length : Int)) s rfl o1 rfl HL.out (by omega) b1 ?_))
  · intro v2 w2 o2 b2
    have Q := Lib.hid (And.intro o2 b2); clear o2 b2 o1 b1
    go_wp2
    go_ret
    refine ⟨_, rfl, ?_, Q.out.2⟩
    have := Q.out.1
    exact this

set_option maxRecDepth 1000000 in
theorem string_any (v : Value) (l s : List UInt8) (w : World) (hv : RdB w v l) (hl : l.length + s.length ≤ 1000000) :
    Calls Try.prog 17 #[v, .string (ofL s)] w (OwnPost w (l ++ encS s)) := by
  have Hv := Lib.hid hv; clear hv
  have hsz : (ofL s).size = s.length := ofL_size s
  go_enter Try.func17, Try.ntmps17
  go_wp2_with fail
  refine (copied_any _ l (9 + s.length) _ Hv.out (by omega)).mono ?_
  rintro e w1 ⟨v1, rfl, o1, b1⟩
  have z1 := b1.size
  have O1 := Lib.hid o1; clear o1
  go_wp2_with fail
  refine (appendString_any _ l s w.heap.size _ z1 O1.out (by omega)).mono ?_
  rintro e w2 ⟨v2, rfl, o2, b2⟩
  have Q := Lib.hid (And.intro o2 (b1.trans b2)); clear o2 b2 b1
  go_wp2
  go_ret
  exact ⟨_, rfl, Q.out.1, Q.out.2⟩

/-- The encoding of a list, as far as its first strings. -/
def encP (l : List (List UInt8)) (k : Nat) : List UInt8 := enc l.length ++ ((l.take k).map encS).flatten
theorem encP_zero (l : List (List UInt8)) : encP l 0 = enc l.length := by simp [encP]
theorem encP_all (l : List (List UInt8)) : encP l l.length = encL l := by simp [encP, encL]
theorem encP_step (l : List (List UInt8)) (k : Nat) (hk : k < l.length) : encP l (k + 1) = encP l k ++ encS (l.getD k []) := by
  unfold encP
  rw [List.take_succ_eq_append_getElem hk, List.map_append, List.flatten_append, List.append_assoc]
  simp [List.getD, List.getElem?_eq_getElem hk]
theorem encP_le (l : List (List UInt8)) (k : Nat) : (encP l k).length ≤ (encL l).length := by
  have : encL l = encP l k ++ ((l.drop k).map encS).flatten := by
    unfold encP encL
    rw [List.append_assoc, ← List.flatten_append, ← List.map_append, List.take_append_drop]
  rw [this, List.length_append]
  omega
theorem encS_le_encL (l : List (List UInt8)) (k : Nat) (hk : k < l.length) : (encP l k).length + (encS (l.getD k [])).length ≤ (encL l).length := by
  have := encP_le l (k + 1)
  rw [encP_step l k hk, List.length_append] at this
  exact this
theorem RdT.at {w : World} {a : Option Addr} {n c : Nat} {l : List (List UInt8)} (h : RdT w (.slice a n c) l) (k : Nat) (hk : k < l.length) : ∃ b off, a = some ⟨b, off, none⟩ ∧ w.cell? ⟨b, off + k, none⟩ = some (.string (ofL (l.getD k []))) := by
  obtain ⟨a', c', hv, hx⟩ := h
  injection hv with e1 e2 e3
  subst e1
  obtain ⟨b, off, ha, hb, hc⟩ := hx (List.ne_nil_of_length_pos (by omega))
  exact ⟨b, off, ha, hc k hk⟩
def StrsRel (w : World) (b : List UInt8) (l : List (List UInt8)) (v0 v14 : Value) (wr : World) : Prop :=
  ∃ k : Nat, k ≤ l.length ∧ v14 = .int .i64 k ∧ OwnB wr w.heap.size 5 v0 (b ++ encP l k) ∧ Below w.heap.size w wr

set_option maxRecDepth 1000000 in
set_option maxHeartbeats 400000 in
theorem strings_any (v u : Value) (b : List UInt8) (l : List (List UInt8)) (w : World) (hv : RdB w v b) (hu : RdT w u l) (hl : b.length + (encL l).length ≤ 1000000) :
    Calls Try.prog 15 #[v, u] w (OwnPost w (b ++ encL l)) := by
  have Hv := Lib.hid hv; clear hv
  obtain ⟨a, c, rfl⟩ := hu.slice
  have Hu := Lib.hid hu; clear hu
  have hll : l.length ≤ (encL l).length := by
    have h1 : ∀ l : List (List UInt8), l.length ≤ (l.map encS).flatten.length := by
      intro l
      induction l with
      | nil => simp
      | cons s l ih => have := enc_len_le (s.length : Int); simp only [List.map_cons, List.flatten_cons, List.length_append, List.length_cons, encS_length]; omega
    have := h1 l
    unfold encL
    rw [List.length_append]
    omega
  have HI := Lib.hid (len_i64 (n := l.length) (by omega))
  go_enter Try.func15, Try.ntmps15
  go_wp2_with fail
  refine (copied_any _ b 9 _ Hv.out (by omega)).mono ?_
  rintro e w1 ⟨v1, rfl, o1, b1⟩
  have z1 := b1.size
  have O1 := Lib.hid o1; clear o1
  go_wp2_with fail
  refine (appendInt_any _ b _ w.heap.size _ HI.out z1 O1.out (by omega)).mono ?_
  rintro e w2 ⟨v2, rfl, o2, b2⟩
  have Q := Lib.hid (And.intro o2 (b1.trans b2)); clear o2 b2 b1
  go_wp2
  go_loopw [0, 14] (fun v0 v14 wr => StrsRel w b l v0 v14 wr) (fun _ v14 _ => l.length - (intOf v14).toNat)
  case atStart => exact ⟨0, Nat.zero_le _, rfl, by rw [encP_zero]; exact Q.out.1, Q.out.2⟩
  case round =>
    obtain ⟨k, hk, rfl, hown, hB⟩ := hrel
    have zr := hB.size
    have Ho := Lib.hid hown; clear hown
    by_cases hlt : k < l.length
    · obtain ⟨bk, off, rfl, hc⟩ := ((Hu.out.below hB).at k hlt)
      have hle := encS_le_encL l k hlt
      have hl2 : (b ++ encP l k).length + (l.getD k []).length ≤ 100000000 := by rw [List.length_append]; rw [encS_length] at hle; omega
      have HL := Lib.hid hl2
      have HS := Lib.hid (encP_step l k hlt)
      obtain ⟨s, hs⟩ : ∃ s, l.getD k [] = s := ⟨_, rfl⟩
      rw [hs] at hc HL HS
      clear hs hl2 hle
      go_wp2_with fail
      refine (appendString_any _ (b ++ encP l k) s w.heap.size _ zr Ho.out HL.out).mono ?_
      rintro e w3 ⟨v3, rfl, o3, b3⟩
      have R := Lib.hid (show OwnB w3 w.heap.size 5 v3 (b ++ encP l (k + 1)) ∧ Below w.heap.size w w3 from ⟨by rw [HS.out, ← List.append_assoc]; exact o3, hB.trans b3⟩)
      clear o3 b3 hB
      go_wp2
      go_roundw
      case rel => exact ⟨k + 1, by omega, by go_num, R.out.1, R.out.2⟩
      case measure => simp [intOf]; omega
    · obtain rfl : k = l.length := by omega
      have HB := Lib.hid hB; clear hB
      go_wp2
      go_ret
      have := Ho.out
      rw [encP_all] at this
      exact ⟨_, rfl, this, HB.out⟩
end Go.Proofs.Ytglllbodhdgahaa
