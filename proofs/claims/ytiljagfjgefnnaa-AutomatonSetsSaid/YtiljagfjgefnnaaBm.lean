/- What the laws call: to, from; an automaton as an argument. -/
import Derived.Test.YtiljagfjgefnnaaBl
import Derived.Test.YtiljagfjgefnnaaAn
import Derived.Test.YtiljagfjgefnnaaAm
import Derived.OpenShut
import Derived.WideShapes
namespace Go.Proofs.Ytiljagfjgefnnaa
open Go.RowKit
set_option linter.unusedVariables false

theorem three_of {cs : Array Value} (h : cs.size = 3) : ∃ a b c, cs = #[a, b, c] := by
  obtain ⟨l⟩ := cs
  match l, h with
  | [a, b, c], _ => exact ⟨a, b, c, rfl⟩
theorem agg_of {P : Program} {w0 : World} {rc : Reach} {b0 : Nat} {t : TypeId} {fs : Array Field} {v : Value} (ht : P.underlying t = some (.struct fs)) (hC : P.cellsOf t = 3) (hv : Value.okWide P w0 rc b0 t v) : ∃ x y z, v = .agg #[x, y, z] := by
  obtain ⟨cs, rfl, hsz⟩ : ∃ cs, v = .agg cs ∧ cs.size = P.cellsOf t := by
    unfold Value.okWide at hv
    rw [ht] at hv
    obtain ⟨cs, h1, h2, _⟩ := hv
    exact ⟨cs, h1, h2⟩
  obtain ⟨x, y, z, rfl⟩ := three_of (hsz.trans hC)
  exact ⟨x, y, z, rfl⟩
set_option maxRecDepth 1000000 in
/-- An automaton that comes in as an argument. -/
theorem dfaArg_of {H : Type} {enc : TypeId × Value → H} {w w0 : World} {base b0 : Nat} {spare : Nat → Bool} {held : Bool} {rc : Reach} {v : Value} {d : DataW H} {p : List MemPlace}
    (hv : Value.okWide Try.prog w0 rc b0 25 v) (h : DataW.Trod enc Try.prog w base spare held 25 v d p) :
    ∃ (r : RawD) (a1 : Option Addr) (c1 : Nat) (a2 : Option Addr) (c2 : Nat), v = .agg #[.int .i64 r.st, .slice a1 r.nx.length c1, .slice a2 r.ac.length c2] ∧ RdRows w (.slice a1 r.nx.length c1) r.nx ∧ Rd 1 encO w (.slice a2 r.ac.length c2) r.ac := by
  obtain ⟨x, y, z, rfl⟩ := agg_of Try.underlying25 (by kernel_rfl) hv
  obtain ⟨fuel, hf⟩ := h
  obtain ⟨r, a1, c1, a2, c2, e0, e1, e2, hN, hF⟩ := dfaIn_of hf
  simp [Value.cells] at e0 e1 e2
  subst e0 e1 e2
  exact ⟨r, a1, c1, a2, c2, rfl, hN, hF⟩
theorem resTo {W : World} {tm : Array Value} {B : Nat} {t : TypeId} {a b c : Value} (t2 : tm[2]?.getD undef = .pointer (some ⟨B, 0, none⟩)) (h : Blk B t #[a, b, c] W) :
    (results Try.f14 tm).run Try.prog W = .ok (.agg #[a, b, c]) W := by
  have a0 : W.cell? ⟨B, 0, none⟩ = some a := h.cell 0
  have a1 : W.cell? ⟨B, 1, none⟩ = some b := h.cell 1
  have a2 : W.cell? ⟨B, 2, none⟩ = some c := h.cell 2
  simp [results, Try.f14, go_sem, t2, a0, a1, a2]
theorem resFrom {W : World} {tm : Array Value} {B : Nat} {t : TypeId} {a b c : Value} (t2 : tm[2]?.getD undef = .pointer (some ⟨B, 0, none⟩)) (h : Blk B t #[a, b, c] W) :
    (results Try.f21 tm).run Try.prog W = .ok (.agg #[a, b, c]) W := by
  have a0 : W.cell? ⟨B, 0, none⟩ = some a := h.cell 0
  have a1 : W.cell? ⟨B, 1, none⟩ = some b := h.cell 1
  have a2 : W.cell? ⟨B, 2, none⟩ = some c := h.cell 2
  simp [results, Try.f21, go_sem, t2, a0, a1, a2]
set_option maxRecDepth 1000000 in
theorem to_any (x : Int) (a1 : Option Addr) (n1 c1 : Nat) (a2 : Option Addr) (n2 c2 : Nat) (w : World) : Calls Try.prog 14 #[.agg #[.int .i64 x, .slice a1 n1 c1, .slice a2 n2 c2]] w (Ret w (.agg #[.int .i64 x, .slice a1 n1 c1, .slice a2 n2 c2])) := by
  have BA := (Below.refl w.heap.size w).alloc (Nat.le_refl _) (.cells #[.int .i64 x, .slice a1 n1 c1, .slice a2 n2 c2] 25)
  have BB := BA.alloc BA.size (.cells #[.int .i64 x, .slice a1 n1 c1, .slice a2 n2 c2] 29)
  have kr := Blk.new (w.alloc (.cells #[.int .i64 x, .slice a1 n1 c1, .slice a2 n2 c2] 25)) 29 #[.int .i64 x, .slice a1 n1 c1, .slice a2 n2 c2]
  rw [World.size_alloc] at kr
  have HB := Lib.hid BB
  have HK := Lib.hid kr
  clear BA BB kr
  go_enter Try.func14, Try.ntmps14
  go_wp2
  exact bodyPost_ret (v := .agg #[.int .i64 x, .slice a1 n1 c1, .slice a2 n2 c2]) (resTo rfl HK.out) rfl ⟨rfl, HB.out⟩
set_option maxRecDepth 1000000 in
theorem from_any (x : Int) (a1 : Option Addr) (n1 c1 : Nat) (a2 : Option Addr) (n2 c2 : Nat) (w : World) : Calls Try.prog 21 #[.agg #[.int .i64 x, .slice a1 n1 c1, .slice a2 n2 c2]] w (Ret w (.agg #[.int .i64 x, .slice a1 n1 c1, .slice a2 n2 c2])) := by
  have BA := (Below.refl w.heap.size w).alloc (Nat.le_refl _) (.cells #[.int .i64 x, .slice a1 n1 c1, .slice a2 n2 c2] 29)
  have BB := BA.alloc BA.size (.cells #[.int .i64 x, .slice a1 n1 c1, .slice a2 n2 c2] 25)
  have kr := Blk.new (w.alloc (.cells #[.int .i64 x, .slice a1 n1 c1, .slice a2 n2 c2] 29)) 25 #[.int .i64 x, .slice a1 n1 c1, .slice a2 n2 c2]
  rw [World.size_alloc] at kr
  have HB := Lib.hid BB
  have HK := Lib.hid kr
  clear BA BB kr
  go_enter Try.func21, Try.ntmps21
  go_wp2
  exact bodyPost_ret (v := .agg #[.int .i64 x, .slice a1 n1 c1, .slice a2 n2 c2]) (resFrom rfl HK.out) rfl ⟨rfl, HB.out⟩
end Go.Proofs.Ytiljagfjgefnnaa
