/- Of the reference of layer 15: Format. -/
import Derived.Test.YteofkofgdhmpjaaDoorNuf
namespace Go.Proofs.YteofkofgdhmpjaaDoor
open Go.RowKit
set_option linter.unusedVariables false

/-- What a locale has besides its symbols. -/
structure Sl3 where
  a : Option Addr
  n : Nat
  c : Nat
structure LocN where
  tg : ByteArray
  pa : ByteArray
  di : ByteArray
  ca : Sl3
  oc : Sl3
  li : Sl3
  un : Sl3
  da : Sl3
  mo : Sl3
  dy : Sl3
theorem stt {b : Nat} {w w1 w2 : World} (h : Below b w w1) (h2 : Below w1.heap.size w1 w2) (hs : b ≤ w1.heap.size) : Below b w w2 := st h h2 hs
theorem txt_len {n : Num} (hn : Good n) : (txt n).length ≤ 23 := by
  have h1 := hn.high
  have h2 := hn.few
  unfold txt
  rw [List.length_append, List.length_append]
  have e1 : (if n.neg = true then ([45] : Str) else []).length ≤ 1 := by split <;> simp
  have e2 : (if n.fr = [] then ([] : Str) else 46 :: n.fr).length ≤ 7 := by split <;> simp <;> omega
  omega
theorem tex_len {x : SyN} (hx : SmY x) {n : Num} (hn : Good n) : (texR x n).length ≤ 30000 := by
  have h1 := grp_le hx hn
  have h2 := hx.de
  have h3 := hx.mi
  have h4 := hn.few
  unfold texR
  rw [List.length_append, List.length_append]
  have e1 : (if n.neg = true then x.mi else []).length ≤ 1000 := by
    split
    · exact h3
    · exact Nat.zero_le _
  have e2 : (if n.fr = [] then ([] : Str) else x.de ++ n.fr).length ≤ 1006 := by split <;> simp <;> omega
  omega
def FmtPost (x : SyN) (s st : Str) (w : World) (e : Ending) (w' : World) : Prop := ∃ r : Str × Nat, FmtP x s st r ∧ e = .returned (.tuple #[.string (ofL r.1), .int .i64 (r.2 : Nat)]) ∧ Below w.heap.size w w'
theorem fmt_bad {x : SyN} {s st : Str} (h : spl s = none) : FmtP x s st ([], 1) := by unfold FmtP; rw [h]
theorem fmt_style {x : SyN} {s st : Str} (h1 : st ≠ []) (h2 : st ≠ intT) (h3 : st ≠ perT) : FmtP x s st ([], 1) := by
  unfold FmtP
  cases spl s with
  | none => rfl
  | some n => exact (if_pos (show st ≠ [] ∧ st ≠ intT ∧ st ≠ perT from ⟨h1, h2, h3⟩)).mpr rfl
theorem fmt_data {x : SyN} {n : Num} {st : Str} (g : Good n) (h : st = [] ∨ st = intT ∨ st = perT) (hd : x.de = []) : FmtP x (txt n) st ([], 18) := by
  unfold FmtP
  rw [spl_of g]
  simp only
  rw [if_neg (by rcases h with h | h | h <;> simp [h]), if_pos hd]
  trivial
theorem fmt_int {x : SyN} {n : Num} (g : Good n) (hd : x.de ≠ []) {o : Option Str} (h : Ro n 0 o) : FmtP x (txt n) intT (texO x [] o) := by
  unfold FmtP
  rw [spl_of g]
  simp only
  rw [if_neg (by simp), if_neg hd, if_neg (by decide), if_pos trivial]
  exact ⟨o, h, rfl⟩
theorem fmt_per {x : SyN} {n : Num} (g : Good n) (hd : x.de ≠ []) {o : Option Str} (h : Sh n 2 o) : FmtP x (txt n) perT (texO x x.pe o) := by
  unfold FmtP
  rw [spl_of g]
  simp only
  rw [if_neg (by simp), if_neg hd, if_neg (by decide), if_neg (by decide)]
  exact ⟨o, h, rfl⟩
theorem res_of {neg : Bool} {D F : Nat} {t : Str} (h : Res neg D F (some t)) : ∃ y, Good y ∧ txt y = t := by
  obtain ⟨y, h1, h2, _⟩ := res_some h
  exact ⟨y, h1, h2⟩
theorem roY_of {n : Num} {t : Str} (h : Ro n 0 (some t)) : ∃ y, Good y ∧ txt y = t := res_of h
theorem shY_of {n : Num} {t : Str} (h : Sh n 2 (some t)) : ∃ y, Good y ∧ txt y = t := by
  unfold Sh at h
  rw [if_neg (by decide)] at h
  exact res_of h
end Go.Proofs.YteofkofgdhmpjaaDoor
