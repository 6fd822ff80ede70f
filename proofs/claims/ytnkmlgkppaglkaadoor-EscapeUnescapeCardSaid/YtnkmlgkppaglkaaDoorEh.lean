/- ParseUint, character. -/
import Derived.Test.YtnkmlgkppaglkaaDoorEg
namespace Go.Proofs.YtnkmlgkppaglkaaDoor
open Go.RowKit
set_option linter.unusedVariables false

def PubAns (b : Nat) (l : List UInt8) (v : Value) : Prop :=
  (∃ u : Nat, l ≠ [] ∧ pu b 0 l = some u ∧ u < 16 ^ l.length ∧ v = .tuple #[.int .u64 u, .nilIface]) ∨ ((l = [] ∨ pu b 0 l = none) ∧ ∃ N, v = .tuple #[.int .u64 0, .iface 89 (.pointer (some ⟨N, 0, none⟩))])
def PubPost (b : Nat) (w : World) (l : List UInt8) (e : Ending) (w' : World) : Prop := ∃ v, e = .returned v ∧ PubAns b l v ∧ Below w.heap.size w w'
theorem ret_ex {P : Value → Prop} {v : Value} (h : P v) : ∃ v', Ending.returned v = .returned v' ∧ P v' := ⟨v, rfl, h⟩

set_option maxRecDepth 1000000 in
theorem parse_any (b : Nat) (t : ByteArray) (ht : t.size ≤ 7) (w : World) (E : Env w) (hb : b = 10 ∨ b = 16) :
    Calls Tryd.prog 49 #[.string t, .int .i64 b, .int .i64 32] w (PubPost b w t.data.toList) := by
  have hI : Calls Tryd.prog 58 #[.string t, .int .i64 b, .int .i64 32] w (PuPost b w t.data.toList) := by
    rcases hb with rfl | rfl
    · exact parse10 t ht w
    · exact parse16 t ht w
  clear hb
  go_enter Tryd.func49, Tryd.ntmps49
  go_wp2_with fail
  refine hI.mono ?_
  rintro e w1 ⟨v, rfl, hA, D⟩
  rcases hA with ⟨u, h1, h2, h3, rfl⟩ | ⟨h1, rfl⟩
  · have H := Lib.hid (And.intro h1 (And.intro h2 h3))
    clear h1 h2 h3
    go_wp2
    go_ret2
    exact ⟨_, rfl, .inl ⟨u, H.out.1, H.out.2.1, H.out.2.2, rfl⟩, D⟩
  · have H := Lib.hid h1
    clear h1
    obtain ⟨tp, p, hc⟩ := (E.below D).syn
    go_wp2_with fail
    refine (Tryd.strconv_toError_syntax _ t _ _ _ w1 (by omega) hc (.inr ⟨tp, p, rfl⟩)).mono ?_
    rintro e w2 ⟨N, rfl, _, _, D2⟩
    go_wp2
    go_ret2
    exact ⟨_, rfl, .inr ⟨H.out, N, rfl⟩, D.trans (D2.mono D.size)⟩

/-- The code point with these digits. -/
def charL (b : Nat) (l : List UInt8) : List UInt8 :=
  if l = [] then [] else match pu b 0 l with | none => [] | some u => if Utf8.valid (u : Int) = true then enc u else []
theorem rdI_one (w : World) (u : Int) : RdI (w.alloc (.cells #[.int .i64 u] 3)) (.slice (some ⟨w.heap.size, 0, none⟩) 1 1) [u] := by
  refine ⟨by simp, ⟨_, _, rfl, fun _ => ⟨w.heap.size, 0, rfl, by simp [World.alloc, -World.alloc_eq], fun i hi => ?_⟩⟩, fun n c h => by cases h⟩
  have hi0 : i = 0 := by simpa using hi
  subst hi0
  rw [World.cell?_alloc_mark]
  rfl
theorem elI_enc (n : Int) (h : Utf8.valid n = true) : elI (enc n) = [n] := by
  have h1 := dl_enc n h []
  rw [List.append_nil] at h1
  have hne : enc n ≠ [] := List.ne_nil_of_length_pos (by have := (enc_length n).1; omega)
  rw [elI_cons _ hne, h1]
  have h0 : 0 ≤ n := by rcases (valid_iff n).1 h with ⟨a, _⟩ | ⟨a, _⟩ <;> omega
  simp [elI_nil, Int.toNat_of_nonneg h0]
theorem str_ext {b : ByteArray} {l : List UInt8} (h : b.data.toList = l) : b = ⟨l.toArray⟩ := by
  subst h
  cases b
  simp

set_option maxRecDepth 1000000 in
set_option maxHeartbeats 400000 in
theorem character_any (b : Nat) (t : ByteArray) (ht : t.size ≤ 7) (w : World) (E : Env w) (hb : b = 10 ∨ b = 16) :
    Calls Tryd.prog 44 #[.string t, .int .i64 b] w (StrPost w (charL b t.data.toList)) := by
  go_enter Tryd.func44, Tryd.ntmps44
  go_wp2_with fail
  refine (parse_any b t ht w E hb).mono ?_
  rintro e w1 ⟨v, rfl, hA, D⟩
  clear hb
  rcases hA with ⟨u, h1, h2, h3, rfl⟩ | ⟨h1, N, rfl⟩
  · have h4 := pow16 (k := t.data.toList.length) (by rw [len_data]; exact ht)
    have hu : u < 268435456 := by omega
    have H := Lib.hid (show charL b t.data.toList = if Utf8.valid (u : Int) = true then enc u else [] by unfold charL; rw [if_neg h1, h2])
    clear h1 h2 h3 h4
    go_wp2_with fail
    refine (encode_any _ [(u : Int)] _ (rdI_one w1 u) (by simp)).mono ?_
    rintro e w2 ⟨bs, rfl, hbs, D2⟩
    have D2 := D.trans (((Below.refl _ w1).alloc (Nat.le_refl _) (.cells #[.int .i64 (u : Int)] 3)).trans (D2.mono (by simp [World.alloc, -World.alloc_eq])) |>.mono D.size)
    replace hbs : bs.data.toList = enc (cp u) := by rw [hbs]; simp [encL]
    have hel := elI_enc (cp u) (cp_valid u)
    have hlen : bs.size ≤ 4 := by rw [← len_data, hbs]; exact (enc_length _).2
    go_wp2_with fail
    refine (decode_any bs w2 (by omega)).mono ?_
    rintro e w3 ⟨v, rfl, hv, D3⟩
    rw [hbs, hel] at hv
    clear hel
    obtain ⟨_, ⟨a, c, rfl, hx⟩, _⟩ := hv
    obtain ⟨bk, off, rfl, hbl, hc⟩ := hx (by simp)
    have h1 := hc 0 (by simp)
    rw [Nat.add_zero, List.getD_cons_zero] at h1
    clear hc hx
    have D4 := D2.trans (D3.mono D2.size)
    clear D D2 D3
    have Hb := Lib.hid (str_ext hbs)
    by_cases hval : Utf8.valid (u : Int) = true
    · have e1 : cp u = u := if_pos hval
      have H2 := H.out
      rw [if_pos hval] at H2
      replace H2 := Lib.hid H2
      clear hval hbs
      rw [e1] at h1
      go_wp2
      go_ret
      refine ⟨?_, D4⟩
      rw [H2.out]
      exact ret_str (by rw [Hb.out, e1])
    · have e1 : cp u = 65533 := if_neg hval
      have hne : ¬ cp u = u := fun h => hval (by rw [← h]; exact cp_valid _)
      have H2 := H.out
      rw [if_neg hval] at H2
      replace H2 := Lib.hid H2
      clear hval e1 Hb hbl hlen hbs
      generalize cp (u : Int) = r at h1 hne
      go_wp2
      go_ret
      refine ⟨?_, D4⟩
      rw [H2.out]
      exact ret_str rfl
  · have H := Lib.hid (show charL b t.data.toList = [] by
      unfold charL
      rcases h1 with h1 | h1
      · rw [if_pos h1]
      · rw [h1]; split <;> rfl)
    clear h1
    go_wp2
    go_ret
    refine ⟨?_, D⟩
    rw [H.out]
    rfl
end Go.Proofs.YtnkmlgkppaglkaaDoor
