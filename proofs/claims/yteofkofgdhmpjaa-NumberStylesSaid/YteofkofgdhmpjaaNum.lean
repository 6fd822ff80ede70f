/- The laws of layer 15: Styles. -/
import Derived.Test.YteofkofgdhmpjaaNumb
import Derived.Test.YteofkofgdhmpjaaNumc
import Derived.Test.YteofkofgdhmpjaaNumd
import Derived.Test.YteofkofgdhmpjaaNume
namespace Go.Proofs.Yteofkofgdhmpjaa
open Go.RowKit
set_option linter.unusedVariables false
section
variable {EV : World → Prop} (C : NuC EV)
include C
set_option maxRecDepth 1000000 in
theorem numberStyles_walk (x : SyN) (p1 : -9223372036854775808 ≤ x.pr) (p2 : x.pr ≤ 9223372036854775807) (s1 : -9223372036854775808 ≤ x.se) (s2 : x.se ≤ 9223372036854775807) (s : Str) (hs : s.length ≤ 9223372036854775807) (w : World) (E : EV w) : Calls Try.prog 5 #[.agg #[.string (ofL x.de), .string (ofL x.gr), .string (ofL x.mi), .string (ofL x.pe), .int .i64 x.pr, .int .i64 x.se], .string (ofL s)] w fun e w' => e = .returned (.bool true) ∧ Below w.heap.size w w' := by
  have one : ∀ (P : Num → Prop), (∀ n, spl s = some n → P n) ∨ (∀ n, spl s = some n → ¬ P n) := fun P => by
    cases h : spl s with
    | none => exact .inl fun n h => by cases h
    | some n =>
      by_cases k : P n
      · exact .inl fun m h => by injection h with h; exact h ▸ k
      · exact .inr fun m h => by injection h with h; exact h ▸ k
  rcases one (fun n => Ro n 0 none) with hA | hA <;> rcases one (fun n => Sh n 2 none) with hB | hB
  · exact numberStyles_NN C x p1 p2 s1 s2 s hA hB hs w E
  · exact numberStyles_NS C x p1 p2 s1 s2 s hA hB hs w E
  · exact numberStyles_SN C x p1 p2 s1 s2 s hA hB hs w E
  · exact numberStyles_SS C x p1 p2 s1 s2 s hA hB hs w E
end
end Go.Proofs.Yteofkofgdhmpjaa
