/- Of the reference: Round. -/
import Derived.Test.YteofkofgdhmpjaaDoorKw
namespace Go.Proofs.YteofkofgdhmpjaaDoor
open Go.RowKit
set_option linter.unusedVariables false

theorem region_stail {P : Program} {w : World} {id : Nat} {Q : Exit → Act → World → Prop} {a : Act} {l : List Oper} (k : Nat) (hm : P.follows .mixedOrders = true) (hB : Region.lexTailB .any l.toArray k = true)
    (h : wpStill P l.toArray (w.drewN 1) (fun a' => wpList P l.toArray Q (l.drop k) a' (w.drewN 1)) (l.take k) a) : (Code.region id l.toArray true).wp P Q a w := wp_region_still_tail k hm hB h
theorem ro_small {x : Num} (g : Good x) {d k : Nat} (hd : x.fr.length ≤ d) (hk : d - x.fr.length = k) : Ro x d (fin x.neg x.wh (x.fr ++ zs k)) := by
  have h := ro_of (x := x) (d := d) (p := x.wh.length) (q := x.wh ++ (x.fr ++ zs k)) g.low (by simp [zs_len]; omega) (by
    rw [← List.append_assoc, val_app, val_zs, zs_len]
    unfold roD
    rw [if_pos hd, hk]
    rfl) (allD_app.2 ⟨g.dw, allD_app.2 ⟨g.df, allD_zs _⟩⟩)
  rw [List.take_left, List.drop_left] at h
  exact h
theorem ro_large {x : Num} (g : Good x) {d : Nat} (hd : d < x.fr.length) {q : Str} (hq : val q = val (x.wh ++ x.fr.take d) + (if 53 ≤ (x.fr[d]).toNat then 1 else 0)) (hqd : allD q) {p : Nat} (hp : q.length = p + d) (hp1 : 1 ≤ p) : Ro x d (fin x.neg (q.take p) (q.drop p)) := by
  refine ro_of hp1 hp ?_ hqd
  unfold roD
  rw [if_neg (by omega), getD_get hd]
  exact hq
end Go.Proofs.YteofkofgdhmpjaaDoor
