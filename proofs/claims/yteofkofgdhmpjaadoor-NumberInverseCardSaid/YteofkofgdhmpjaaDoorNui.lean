/- What the laws of layer 15 want of the program; awake. -/
import Derived.Test.YteofkofgdhmpjaaDoorNuh
namespace Go.Proofs.YteofkofgdhmpjaaDoor
open Go.RowKit
set_option linter.unusedVariables false

def loc0 : LocN := ⟨⟨#[]⟩, ⟨#[]⟩, ⟨#[]⟩, ⟨none, 0, 0⟩, ⟨none, 0, 0⟩, ⟨none, 0, 0⟩, ⟨none, 0, 0⟩, ⟨none, 0, 0⟩, ⟨none, 0, 0⟩, ⟨none, 0, 0⟩⟩
theorem parse15_zero (x : SyN) (hx : SmY x) (s : Str) (hs : s.length ≤ 100000) (w : World) : Calls Tryd.prog 8 #[.agg #[.string ⟨#[]⟩, .string ⟨#[]⟩, .string ⟨#[]⟩, .slice none 0 0, .slice none 0 0, .string (ofL x.de), .string (ofL x.gr), .string (ofL x.mi), .string (ofL x.pe), .int .i64 x.pr, .int .i64 x.se, .slice none 0 0, .slice none 0 0, .slice none 0 0, .slice none 0 0, .slice none 0 0], .string (ofL s)] w fun e w' => e = .returned (.tuple #[.string (ofL (parR x s).1), .int .i64 ((parR x s).2 : Nat)]) ∧ Below w.heap.size w w' := parse15_any loc0 x hx s hs w
/-- The program's own functions, as the document has them. -/
structure NuC (EV : World → Prop) : Prop where
  later : ∀ {w w' : World}, EV w → Below w.heap.size w w' → EV w'
  format : ∀ (x : SyN) (s t : Str) (w : World), SmY x → s.length ≤ 1000 → t.length ≤ 1000 → EV w → Calls Tryd.prog 9 #[.agg #[.string ⟨#[]⟩, .string ⟨#[]⟩, .string ⟨#[]⟩, .slice none 0 0, .slice none 0 0, .string (ofL x.de), .string (ofL x.gr), .string (ofL x.mi), .string (ofL x.pe), .int .i64 x.pr, .int .i64 x.se, .slice none 0 0, .slice none 0 0, .slice none 0 0, .slice none 0 0, .slice none 0 0], .string (ofL s), .string (ofL t)] w (FmtPost x s t w)
  parse : ∀ (x : SyN) (s : Str) (w : World), SmY x → s.length ≤ 100000 → EV w → Calls Tryd.prog 7 #[.agg #[.string ⟨#[]⟩, .string ⟨#[]⟩, .string ⟨#[]⟩, .slice none 0 0, .slice none 0 0, .string (ofL x.de), .string (ofL x.gr), .string (ofL x.mi), .string (ofL x.pe), .int .i64 x.pr, .int .i64 x.se, .slice none 0 0, .slice none 0 0, .slice none 0 0, .slice none 0 0, .slice none 0 0], .string (ofL s)] w fun e w' => e = .returned (.tuple #[.string (ofL (parR x s).1), .int .i64 ((parR x s).2 : Nat)]) ∧ Below w.heap.size w w'
  sound : ∀ (x : SyN) (w : World), SmY x → EV w → Calls Tryd.prog 11 #[.agg #[.string (ofL x.de), .string (ofL x.gr), .string (ofL x.mi), .string (ofL x.pe), .int .i64 x.pr, .int .i64 x.se]] w fun e w' => e = .returned (.bool (souR x)) ∧ Below w.heap.size w w'
def aw0 : SyN := ⟨[46], [44], [45], [37], 3, 2⟩
def awA : Num := ⟨false, [49, 50, 51, 52, 53, 54, 55], [53, 48]⟩
def awB : Num := ⟨false, [48], [50, 53, 54]⟩
theorem aw0_sm : SmY aw0 := ⟨by decide, by decide, by decide, by decide, by decide, by decide, by decide, by decide⟩
theorem good_aw {n : Num} {x : Num} (h : spl (txt x) = some x) (e : n = x) : Good n := by rw [e]; exact (spl_some h).1
theorem awA_good : Good awA := good_aw (x := awA) (by kernel_rfl) rfl
theorem awB_good : Good awB := good_aw (x := awB) (by kernel_rfl) rfl
theorem awA_fmt {r : Str × Nat} (h : FmtP aw0 [49, 50, 51, 52, 53, 54, 55, 46, 53, 48] [] r) : r = ([49, 50, 44, 51, 52, 44, 53, 54, 55, 46, 53, 48], 0) := by
  have e := h.uniq (fmt_plain awA_good (by decide))
  rw [e]
  simp only [Prod.mk.injEq, and_true]
  unfold texR grpR
  rw [if_neg (by decide), if_neg (by decide), frG_big (by decide) (by decide), frG_small (by decide)]
  decide
theorem awB_fmt {r : Str × Nat} (h : FmtP aw0 [48, 46, 50, 53, 54] [112, 101, 114, 99, 101, 110, 116] r) : r = ([50, 53, 46, 54, 37], 0) := by
  have hs : Sh awB 2 (some [50, 53, 46, 54]) := by
    unfold Sh
    rw [if_neg (by decide)]
    exact ⟨[50, 53], [54], by decide +kernel, fun c hc => by revert c; decide, fun c hc => by revert c; decide, by decide, by decide, by decide +kernel⟩
  have e := h.uniq (fmt_per awB_good (by decide) hs)
  rw [e]
  show (texR aw0 (numO [50, 53, 46, 54]) ++ aw0.pe, 0) = _
  rw [show numO [50, 53, 46, 54] = ⟨false, [50, 53], [54]⟩ by kernel_rfl]
  simp only [Prod.mk.injEq, and_true]
  unfold texR grpR
  rw [if_neg (by decide), if_pos (by decide)]
  decide
section
variable {EV : World → Prop} (C : NuC EV)
include C
set_option maxRecDepth 1000000 in
set_option maxHeartbeats 8000000 in
theorem awake15_any (w : World) (E : EV w) : Calls Tryd.prog 5 #[] w fun e w' => e = .returned (.bool true) ∧ Below w.heap.size w w' := by
  have HF := Lib.hid (fun s t w h1 h2 E => C.format aw0 s t w aw0_sm h1 h2 E)
  have E0 := Lib.hid E
  have HL : Hid (∀ {w w' : World}, EV w → Below w.heap.size w w' → EV w') := Lib.hid C.later
  clear E
  go_enter Tryd.func5, Tryd.ntmps5
  have B0 := Lib.hid ((Below.refl w.heap.size w).alloc (Nat.le_refl _) (.cells #[.string ⟨#[]⟩, .string ⟨#[]⟩, .string ⟨#[]⟩, .slice none 0 0, .slice none 0 0, .string ⟨#[46]⟩, .string ⟨#[44]⟩, .string ⟨#[45]⟩, .string ⟨#[37]⟩, .int .i64 3, .int .i64 2, .slice none 0 0, .slice none 0 0, .slice none 0 0, .slice none 0 0, .slice none 0 0] 32))
  have K0 := Lib.hid (Blk.new w 32 #[.string ⟨#[]⟩, .string ⟨#[]⟩, .string ⟨#[]⟩, .slice none 0 0, .slice none 0 0, .string ⟨#[46]⟩, .string ⟨#[44]⟩, .string ⟨#[45]⟩, .string ⟨#[37]⟩, .int .i64 3, .int .i64 2, .slice none 0 0, .slice none 0 0, .slice none 0 0, .slice none 0 0, .slice none 0 0])
  go_wp2_with fail
  refine (HF.out [49, 50, 51, 52, 53, 54, 55, 46, 53, 48] [] _ (by decide) (by decide) (HL.out E0.out B0.out)).mono ?_
  rintro e w1 ⟨r, hr, rfl, b1⟩
  obtain rfl := awA_fmt hr
  have B1 := Lib.hid (stt B0.out b1 B0.out.size)
  have K1 := Lib.hid (K0.out.below b1)
  clear hr b1
  have d0 : w1.cell? ⟨w.heap.size, 0, none⟩ = some (.string ⟨#[]⟩) := K1.out.cell 0
  have d1 : w1.cell? ⟨w.heap.size, 1, none⟩ = some (.string ⟨#[]⟩) := K1.out.cell 1
  have d2 : w1.cell? ⟨w.heap.size, 2, none⟩ = some (.string ⟨#[]⟩) := K1.out.cell 2
  have d3 : w1.cell? ⟨w.heap.size, 3, none⟩ = some (.slice none 0 0) := K1.out.cell 3
  have d4 : w1.cell? ⟨w.heap.size, 4, none⟩ = some (.slice none 0 0) := K1.out.cell 4
  have d5 : w1.cell? ⟨w.heap.size, 5, none⟩ = some (.string ⟨#[46]⟩) := K1.out.cell 5
  have d6 : w1.cell? ⟨w.heap.size, 6, none⟩ = some (.string ⟨#[44]⟩) := K1.out.cell 6
  have d7 : w1.cell? ⟨w.heap.size, 7, none⟩ = some (.string ⟨#[45]⟩) := K1.out.cell 7
  have d8 : w1.cell? ⟨w.heap.size, 8, none⟩ = some (.string ⟨#[37]⟩) := K1.out.cell 8
  have d9 : w1.cell? ⟨w.heap.size, 9, none⟩ = some (.int .i64 3) := K1.out.cell 9
  have d10 : w1.cell? ⟨w.heap.size, 10, none⟩ = some (.int .i64 2) := K1.out.cell 10
  have d11 : w1.cell? ⟨w.heap.size, 11, none⟩ = some (.slice none 0 0) := K1.out.cell 11
  have d12 : w1.cell? ⟨w.heap.size, 12, none⟩ = some (.slice none 0 0) := K1.out.cell 12
  have d13 : w1.cell? ⟨w.heap.size, 13, none⟩ = some (.slice none 0 0) := K1.out.cell 13
  have d14 : w1.cell? ⟨w.heap.size, 14, none⟩ = some (.slice none 0 0) := K1.out.cell 14
  have d15 : w1.cell? ⟨w.heap.size, 15, none⟩ = some (.slice none 0 0) := K1.out.cell 15
  go_wp2_with fail
  refine (HF.out [48, 46, 50, 53, 54] [112, 101, 114, 99, 101, 110, 116] _ (by decide) (by decide) (HL.out E0.out B1.out)).mono ?_
  rintro e w2 ⟨r, hr, rfl, b2⟩
  obtain rfl := awB_fmt hr
  have B2 := Lib.hid (stt B1.out b2 B1.out.size)
  clear hr b2
  have g1 : ((ofL [49, 50, 44, 51, 52, 44, 53, 54, 55, 46, 53, 48]).toList == ([49, 50, 44, 51, 52, 44, 53, 54, 55, 46, 53, 48] : List UInt8)) = true := by rw [ByteArray.toList_eq]; rfl
  have g2 : ((ofL [50, 53, 46, 54, 37]).toList == ([50, 53, 46, 54, 37] : List UInt8)) = true := by rw [ByteArray.toList_eq]; rfl
  go_wp2
  go_ret
  exact ⟨rfl, B2.out⟩
end
end Go.Proofs.YteofkofgdhmpjaaDoor
