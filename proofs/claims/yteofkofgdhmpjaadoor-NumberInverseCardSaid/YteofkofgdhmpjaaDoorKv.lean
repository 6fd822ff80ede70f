/- Of the reference: Shift. -/
import Derived.Test.YteofkofgdhmpjaaDoorKu
namespace Go.Proofs.YteofkofgdhmpjaaDoor
open Go.RowKit
set_option linter.unusedVariables false

theorem rsh_digits {x : Num} (g : Good x) {n m : Int} (hm : m = min n 30) (hn : -6 ≤ n) (hb : ¬ (21 < n ∧ W x ≠ 0)) {a b : Nat} (ha : (x.fr.length - m : Int).toNat = a) (hbb : (m - x.fr.length : Int).toNat = b) {all : Str} (hall : zs a ++ (x.wh ++ (x.fr ++ zs b)) = all) {p : Nat} (hp : p = x.wh.length + x.fr.length + b) :
    Sh x n (fin x.neg (all.take p) (all.drop p)) ∧ all.length = p + a ∧ 1 ≤ p := by
  have h1 := g.low
  have hlen : all.length = p + a := by rw [← hall, hp]; simp [zs_len]; omega
  have hd : allD all := by rw [← hall]; exact allD_app.2 ⟨allD_zs _, allD_app.2 ⟨g.dw, allD_app.2 ⟨g.df, allD_zs _⟩⟩⟩
  refine ⟨sh_ref g ?_, hlen, by omega⟩
  rw [if_neg (fun h => h.elim (by omega) hb)]
  rw [← hm]
  refine ⟨_, _, rfl, allD_take hd _, allD_drop hd _, ?_, ?_, ?_⟩
  · apply List.ne_nil_of_length_pos
    rw [List.length_take]
    omega
  · rw [List.length_drop]
    unfold shF
    omega
  · rw [List.take_append_drop, ← hall, val_app, val_zs, Nat.zero_mul, Nat.zero_add, ← List.append_assoc, val_app, val_zs, zs_len]
    unfold shD
    rw [hbb]
    rfl
theorem str_add {P : Program} {x y z : Str} (h : x.length + y.length ≤ 9223372036854775807) (hz : x ++ y = z) (wx : World) : (Op.stringOp .add (ofL x) (ofL y)).run P wx = .ok (.string (ofL z)) wx := by
  have h2 := run_string_add_sum (P := P) (w := wx) (ofL x) (ofL y) (by rw [ofL_size, ofL_size]; exact h)
  rw [add_two, hz] at h2
  exact h2
theorem ext_ofL (l : Str) (a b : Nat) : (ofL l).extract a b = ofL ((l.drop a).take (b - a)) := ext_of _ _ _
end Go.Proofs.YteofkofgdhmpjaaDoor
