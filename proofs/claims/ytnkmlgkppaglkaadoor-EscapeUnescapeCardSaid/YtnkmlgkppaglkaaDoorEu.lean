/- The specification's small functions: decimal, hex, entity, one; Escape. -/
import Derived.Test.YtnkmlgkppaglkaaDoorEs
import Derived.RegionTactic
import Derived.ChangeAlike
namespace Go.Proofs.YtnkmlgkppaglkaaDoor
open Go.RowKit
set_option linter.unusedVariables false

theorem str_app (a b : List UInt8) : (⟨a.toArray⟩ ++ ⟨b.toArray⟩ : ByteArray) = ⟨(a ++ b).toArray⟩ := str_ext (by rw [data_app, mk_data, mk_data])
set_option maxRecDepth 1000000 in
theorem decimal1 (n : Nat) (h : n < 10) (w : World) : Calls Tryd.prog 43 #[.int .i64 n] w (StrPost w (Lib.decDigits n)) := by
  have k1 := fun w a => conv_new1 (P := Tryd.prog) Tryd.underlying34 Tryd.underlying5 Tryd.underlying9 w a
  have hd := Lib.hid (dec1 h)
  go_enter Tryd.func43, Tryd.ntmps43
  go_wp2
  go_ret
  refine ⟨?_, (Below.refl _ _).alloc (Nat.le_refl _) _⟩
  rw [hd.out]
  exact ret_str rfl
set_option maxRecDepth 1000000 in
theorem decimal2 (n : Nat) (h : n < 100) (w : World) : Calls Tryd.prog 43 #[.int .i64 n] w (StrPost w (Lib.decDigits n)) := by
  by_cases h0 : n < 10
  · exact decimal1 n h0 w
  · have hd := Lib.hid (show Lib.decDigits n = Lib.decDigits (n / 10) ++ Lib.decDigits (n % 10) by rw [dec2 (by omega) h, dec1 (by omega), dec1 (by omega)]; rfl)
    have hl1 := dec_len (n := n / 10) (by omega)
    have hl2 := dec_len (n := n % 10) (by omega)
    have e1 := fun W => decimal1 (n / 10) (by omega) W
    have e2 := fun W => decimal1 (n % 10) (by omega) W
    generalize Lib.decDigits (n / 10) = a at hd e1 hl1
    generalize Lib.decDigits (n % 10) = b at hd e2 hl2
    go_enter Tryd.func43, Tryd.ntmps43
    go_wp2_with fail
    refine (e1 _).mono ?_
    rintro e w1 ⟨rfl, D1⟩
    go_wp2_with fail
    refine (e2 _).mono ?_
    rintro e w2 ⟨rfl, D2⟩
    go_wp2
    go_ret
    refine ⟨?_, D1.trans (D2.mono D1.size)⟩
    rw [hd.out]
    exact ret_str (str_app _ _)
set_option maxRecDepth 1000000 in
theorem decimal3 (n : Nat) (h : n < 1000) (w : World) : Calls Tryd.prog 43 #[.int .i64 n] w (StrPost w (Lib.decDigits n)) := by
  by_cases h0 : n < 100
  · exact decimal2 n h0 w
  · have hd := Lib.hid (show Lib.decDigits n = Lib.decDigits (n / 10) ++ Lib.decDigits (n % 10) by rw [dec3 (by omega) h, dec2 (by omega) (by omega), dec1 (by omega)]; simp [Nat.div_div_eq_div_mul])
    have hl1 := dec_len (n := n / 10) (by omega)
    have hl2 := dec_len (n := n % 10) (by omega)
    have e1 := fun W => decimal2 (n / 10) (by omega) W
    have e2 := fun W => decimal1 (n % 10) (by omega) W
    generalize Lib.decDigits (n / 10) = a at hd e1 hl1
    generalize Lib.decDigits (n % 10) = b at hd e2 hl2
    go_enter Tryd.func43, Tryd.ntmps43
    go_wp2_with fail
    refine (e1 _).mono ?_
    rintro e w1 ⟨rfl, D1⟩
    go_wp2_with fail
    refine (e2 _).mono ?_
    rintro e w2 ⟨rfl, D2⟩
    go_wp2
    go_ret
    refine ⟨?_, D1.trans (D2.mono D1.size)⟩
    rw [hd.out]
    exact ret_str (str_app _ _)
set_option maxRecDepth 1000000 in
set_option maxHeartbeats 1000000 in
theorem hex_any (n : Nat) (h : n < 256) (w : World) : Calls Tryd.prog 35 #[.int .i64 n] w (StrPost w [hexd (n / 16), hexd (n % 16)]) := by
  have k2 := fun w a b => conv_new2 (P := Tryd.prog) Tryd.underlying34 Tryd.underlying5 Tryd.underlying9 w a b
  have kd : ∀ a b : Int, (convert 34 9 (.slice (some ⟨w.heap.size, 0, none⟩) 2 2)).run Tryd.prog ((w.alloc (.cells #[.int .u8 a, .int .u8 b] 5)).drew) = .ok (.string ⟨#[UInt8.ofNat a.toNat, UInt8.ofNat b.toNat]⟩) ((w.alloc (.cells #[.int .u8 a, .int .u8 b] 5)).drew) := fun a b => k2 w.drew a b
  clear k2
  have h1 : n / 16 < 16 := by omega
  have h2 : n % 16 < 16 := by omega
  have b1 : (0 : Int) ≤ (n : Int) / 16 ∧ (n : Int) / 16 < 16 := by omega
  have b2 : (0 : Int) ≤ (n : Int) % 16 ∧ (n : Int) % 16 < 16 := by omega
  go_enter Tryd.func35, Tryd.ntmps35
  go_wp2
  go_region
  all_goals go_wp2
  all_goals go_ret
  refine ⟨?_, ((Below.refl _ _).alloc (Nat.le_refl _) _).drew⟩
  rw [← hexAt _ h1, ← hexAt _ h2]
  refine ret_str ?_
  simp
end Go.Proofs.YtnkmlgkppaglkaaDoor
