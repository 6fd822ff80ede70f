/- What the row stands on, part 3. -/
import Derived.Test.YtgogcekeklelmaaGreatDoorProg
import Derived.WalkKit
import Derived.WalkLawsBesides
import Derived.WalkSpells
import Derived.Below
import Derived.Lib.Hide
import Derived.Test.YtgogcekeklelmaaGreatDoorQ2

/- The contracts of the functions on single numbers: Point, codePoint, One. -/
namespace Go.Proofs.YtgogcekeklelmaaGreatDoor
open Go.RowKit
set_option linter.unusedVariables false

theorem valid_iff (n : Int) : Utf8.valid n = true ↔ (0 ≤ n ∧ n < 0xD800) ∨ (0xE000 ≤ n ∧ n ≤ 0x10FFFF) := by
  unfold Utf8.valid; simp
theorem point_yes (n : Int) (w : World) (h : Utf8.valid n = true) :
    Calls Tryz.prog 61 #[.int .i64 n] w fun e w' => e = .returned (.bool true) ∧ w = w' := by
  rcases (valid_iff n).1 h with ⟨h1, h2⟩ | ⟨h1, h2⟩ <;> clear h
  · have h3 : n ≤ 1114111 := by omega
    go_enter Tryz.func61, Tryz.ntmps61
    go_wp2
    go_ret
    exact ⟨rfl, rfl⟩
  · have h3 : 0 ≤ n := by omega
    have h4 : ¬ n < 55296 := by omega
    have h5 : 57343 < n := by omega
    go_enter Tryz.func61, Tryz.ntmps61
    go_wp2
    go_ret
    exact ⟨rfl, rfl⟩

theorem point_no (n : Int) (w : World) (h : Utf8.valid n = false) :
    Calls Tryz.prog 61 #[.int .i64 n] w fun e w' => e = .returned (.bool false) ∧ w = w' := by
  have h0 : ¬ ((0 ≤ n ∧ n < 0xD800) ∨ (0xE000 ≤ n ∧ n ≤ 0x10FFFF)) := fun h' => by rw [(valid_iff n).2 h'] at h; cases h
  clear h
  by_cases a : 0 ≤ n
  · by_cases b : n ≤ 1114111
    · have h4 : ¬ n < 55296 := by omega
      have h5 : ¬ 57343 < n := by omega
      clear h0
      go_enter Tryz.func61, Tryz.ntmps61
      go_wp2
      go_ret
      exact ⟨rfl, rfl⟩
    · clear h0
      go_enter Tryz.func61, Tryz.ntmps61
      go_wp2
      go_ret
      exact ⟨rfl, rfl⟩
  · clear h0
    go_enter Tryz.func61, Tryz.ntmps61
    go_wp2
    go_ret
    exact ⟨rfl, rfl⟩

/-- A number, or the replacement. -/
def cp (n : Int) : Int := if Utf8.valid n = true then n else 0xFFFD
theorem cp_valid (n : Int) : Utf8.valid (cp n) = true := by
  unfold cp
  split
  · assumption
  · decide

theorem codePoint_any (n : Int) (w : World) :
    Calls Tryz.prog 109 #[.int .i64 n] w fun e w' => e = .returned (.int .i32 (cp n)) ∧ w = w' := by
  by_cases h : Utf8.valid n = true
  · have hc : cp n = n := if_pos h
    rw [hc]
    clear hc
    rcases (valid_iff n).1 h with ⟨h1, h2⟩ | ⟨h1, h2⟩ <;> clear h
    · have h3 : n ≤ 1114111 := by omega
      go_enter Tryz.func109, Tryz.ntmps109
      go_wp2
      go_ret
      exact ⟨rfl, rfl⟩
    · have h3 : 0 ≤ n := by omega
      have h4 : 55296 ≤ n := by omega
      have h5 : ¬ n ≤ 57343 := by omega
      go_enter Tryz.func109, Tryz.ntmps109
      go_wp2
      go_ret
      exact ⟨rfl, rfl⟩
  · have hc : cp n = 65533 := if_neg h
    have h0 : ¬ ((0 ≤ n ∧ n < 0xD800) ∨ (0xE000 ≤ n ∧ n ≤ 0x10FFFF)) := fun h' => h ((valid_iff n).2 h')
    rw [hc]
    clear h hc
    by_cases a : 0 ≤ n
    · by_cases b : n ≤ 1114111
      · have h4 : 55296 ≤ n := by omega
        have h5 : n ≤ 57343 := by omega
        clear h0
        go_enter Tryz.func109, Tryz.ntmps109
        go_wp2
        go_ret
        exact ⟨rfl, rfl⟩
      · clear h0
        go_enter Tryz.func109, Tryz.ntmps109
        go_wp2
        go_ret
        exact ⟨rfl, rfl⟩
    · clear h0
      go_enter Tryz.func109, Tryz.ntmps109
      go_wp2
      go_ret
      exact ⟨rfl, rfl⟩

section
variable {P : Program}
/-- A literal of bytes turned into a string. -/
theorem conv_new {S D e : TypeId} (hs : P.underlying S = some (.slice e)) (he : P.underlying e = some (.int .u8)) (hd : P.underlying D = some .string) (w : World) (xs : List Int) (c : Nat) :
    (convert S D (.slice (some ⟨w.heap.size, 0, none⟩) xs.length c)).run P (w.alloc (.cells (xs.map (Value.int .u8)).toArray e)) =
      .ok (.string ⟨(xs.map fun n => UInt8.ofNat n.toNat).toArray⟩) (w.alloc (.cells (xs.map (Value.int .u8)).toArray e)) := by
  have h := run_convert_bytes_arg (P := P) (w.alloc (.cells (xs.map (Value.int .u8)).toArray e)) S e hs he w.heap.size 0 xs.length c xs rfl (fun i hi => by
    rw [World.cell?_alloc_mark, Nat.zero_add]
    simp [List.getD, List.getElem?_eq_getElem hi]) D hd
  exact h
theorem conv_new1 {S D e : TypeId} (hs : P.underlying S = some (.slice e)) (he : P.underlying e = some (.int .u8)) (hd : P.underlying D = some .string) (w : World) (a : Int) :
    (convert S D (.slice (some ⟨w.heap.size, 0, none⟩) 1 1)).run P (w.alloc (.cells #[.int .u8 a] e)) = .ok (.string ⟨#[UInt8.ofNat a.toNat]⟩) (w.alloc (.cells #[.int .u8 a] e)) := conv_new hs he hd w [a] 1
theorem conv_new2 {S D e : TypeId} (hs : P.underlying S = some (.slice e)) (he : P.underlying e = some (.int .u8)) (hd : P.underlying D = some .string) (w : World) (a b : Int) :
    (convert S D (.slice (some ⟨w.heap.size, 0, none⟩) 2 2)).run P (w.alloc (.cells #[.int .u8 a, .int .u8 b] e)) = .ok (.string ⟨#[UInt8.ofNat a.toNat, UInt8.ofNat b.toNat]⟩) (w.alloc (.cells #[.int .u8 a, .int .u8 b] e)) := conv_new hs he hd w [a, b] 2
theorem conv_new3 {S D e : TypeId} (hs : P.underlying S = some (.slice e)) (he : P.underlying e = some (.int .u8)) (hd : P.underlying D = some .string) (w : World) (a b c : Int) :
    (convert S D (.slice (some ⟨w.heap.size, 0, none⟩) 3 3)).run P (w.alloc (.cells #[.int .u8 a, .int .u8 b, .int .u8 c] e)) = .ok (.string ⟨#[UInt8.ofNat a.toNat, UInt8.ofNat b.toNat, UInt8.ofNat c.toNat]⟩) (w.alloc (.cells #[.int .u8 a, .int .u8 b, .int .u8 c] e)) := conv_new hs he hd w [a, b, c] 3
theorem conv_new4 {S D e : TypeId} (hs : P.underlying S = some (.slice e)) (he : P.underlying e = some (.int .u8)) (hd : P.underlying D = some .string) (w : World) (a b c d : Int) :
    (convert S D (.slice (some ⟨w.heap.size, 0, none⟩) 4 4)).run P (w.alloc (.cells #[.int .u8 a, .int .u8 b, .int .u8 c, .int .u8 d] e)) = .ok (.string ⟨#[UInt8.ofNat a.toNat, UInt8.ofNat b.toNat, UInt8.ofNat c.toNat, UInt8.ofNat d.toNat]⟩) (w.alloc (.cells #[.int .u8 a, .int .u8 b, .int .u8 c, .int .u8 d] e)) := conv_new hs he hd w [a, b, c, d] 4
end

theorem ret_str {a b : ByteArray} (h : a = b) : Ending.returned (.string a) = .returned (.string b) := by rw [h]

theorem one_any (n : Int) (w : World) (h : Utf8.valid n = true) :
    Calls Tryz.prog 62 #[.int .i64 n] w fun e w' => e = .returned (.string (Utf8.encode n)) ∧ Below w.heap.size w w' := by
  have hr : 0 ≤ n ∧ n ≤ 1114111 := by rcases (valid_iff n).1 h with ⟨h1, h2⟩ | ⟨h1, h2⟩ <;> omega
  obtain ⟨h0, h9⟩ := hr
  have H := Lib.hid h
  clear h
  have k1 := fun w a => conv_new1 (P := Tryz.prog) Tryz.underlying57 Tryz.underlying5 Tryz.underlying9 w a
  have k2 := fun w a b => conv_new2 (P := Tryz.prog) Tryz.underlying57 Tryz.underlying5 Tryz.underlying9 w a b
  have k3 := fun w a b c => conv_new3 (P := Tryz.prog) Tryz.underlying57 Tryz.underlying5 Tryz.underlying9 w a b c
  have k4 := fun w a b c d => conv_new4 (P := Tryz.prog) Tryz.underlying57 Tryz.underlying5 Tryz.underlying9 w a b c d
  by_cases a : n < 128
  · go_enter Tryz.func62, Tryz.ntmps62
    go_wp2
    go_ret
    exact ⟨ret_str (enc1 n H.out h0 a).symm, (Below.refl _ _).alloc (Nat.le_refl _) _⟩
  · by_cases b : n < 2048
    · go_enter Tryz.func62, Tryz.ntmps62
      go_wp2
      go_ret
      exact ⟨ret_str (enc2 n H.out h0 (by omega) b).symm, (Below.refl _ _).alloc (Nat.le_refl _) _⟩
    · by_cases c : n < 65536
      · go_enter Tryz.func62, Tryz.ntmps62
        go_wp2
        go_ret
        exact ⟨ret_str (enc3 n H.out h0 (by omega) (by omega) c).symm, (Below.refl _ _).alloc (Nat.le_refl _) _⟩
      · go_enter Tryz.func62, Tryz.ntmps62
        go_wp2
        go_ret
        exact ⟨ret_str (enc4 n H.out h0 (by omega)).symm, (Below.refl _ _).alloc (Nat.le_refl _) _⟩
end Go.Proofs.YtgogcekeklelmaaGreatDoor


