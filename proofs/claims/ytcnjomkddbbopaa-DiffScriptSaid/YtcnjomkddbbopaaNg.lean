/- calquelaw05.same on equal scripts; the reference's Script. -/
import Derived.Test.YtcnjomkddbbopaaNf
import Derived.Laws.StructEq
namespace Go.Proofs.Ytcnjomkddbbopaa
open Go.RowKit
set_option linter.unusedVariables false

theorem eqEd (k : Int) (s : ByteArray) (w : World) : (Op.equalIn 10000 59 (.agg #[.int .i64 k, .string s]) (.agg #[.int .i64 k, .string s])).run Try.prog w = .ok true w := by
  rw [show (10000 : Nat) = 9999 + 1 from rfl, run_equalIn_struct _ 9999 _ _ _ (by kernel_rfl) (by kernel_rfl)]
  have u1 := Try.underlying3
  have u2 := Try.underlying9
  go_simp
set_option maxRecDepth 1000000 in
set_option maxHeartbeats 1000000 in
theorem sameE_yes (u v : Value) (l : List Ed) (w : World) (hu : Rd 2 encE w u l) (hv : Rd 2 encE w v l) :
    Calls Try.prog 17 #[u, v] w (Drn w (.bool true)) := by
  obtain ⟨a, c, rfl, hc1, hc2⟩ := hu.slice
  obtain ⟨a', c', rfl, hc3, hc4⟩ := hv.slice
  have HU := Lib.hid hu; clear hu
  have HV := Lib.hid hv; clear hv
  go_enter Try.func17, Try.ntmps17
  go_wp2
  go_loopw [5] (fun i wr => ∃ k n : Nat, k ≤ l.length ∧ i = .int .i64 k ∧ wr = w.drewN n) (fun i _ => l.length - (intOf i).toNat)
  case atStart => exact ⟨0, 0, Nat.zero_le _, rfl, rfl⟩
  case round =>
    obtain ⟨k, n, hk, rfl, rfl⟩ := hrel
    by_cases hlt : k < l.length
    · obtain ⟨bl, ol, rfl, y1, y2⟩ := HU.out.ed k hlt
      obtain ⟨bu, ou, rfl, y3, y4⟩ := HV.out.ed k hlt
      have g3 : (k : Int) < (l.length : Int) := by omega
      have g4 : (0 : Int) ≤ (k : Int) := by omega
      obtain ⟨q, hq⟩ : ∃ q, l[k] = q := ⟨_, rfl⟩
      rw [hq] at y1 y2 y3 y4
      obtain ⟨q1, t⟩ := q
      dsimp only at y1 y2 y3 y4
      have eq1 := eqEd q1 (ofL t)
      clear hq
      go_wp2_with fail
      go_big_quiet (fail)
      clear y1 y2 y3 y4
      go_wp2
      go_roundw
      case rel => exact ⟨k + 1, _, by omega, by go_num, by first | rfl | (simp only [World.drewN_drewN]; rfl)⟩
      case measure => simp [intOf]; omega
    · obtain rfl : k = l.length := by omega
      have g3 : ¬ (l.length : Int) < (l.length : Int) := by omega
      go_wp2
      go_ret
      exact ⟨rfl, _, rfl⟩
end Go.Proofs.Ytcnjomkddbbopaa
