/- What the row stands on, part 17. -/
import Derived.Shelf.Strings.SlTrimAscii
import Derived.Shelf.Strings.Prefix
import Derived.Shelf.Strings.Search3
import Derived.Shelf.Strings.OnBuilder
import Derived.Shelf.Strconv.AtoiAll
import Derived.Shelf.Strconv.Itoa3
import Derived.Lib.AtoiAllCases
import Derived.Lib.AtoiErrMem
import Derived.Test.YtpmmchppfmojhaaGreatDoorZysh
import Derived.Test.YtpmmchppfmojhaaGreatDoorQ16

/- Of condition: countFrom, tokenSize; the library's TrimLeft, HasPrefix, Index and Atoi as the parser calls them; what the listed variables hold. -/
namespace Go.Proofs.YtpmmchppfmojhaaGreatDoor
open Go.RowKit
set_option linter.unusedVariables false

structure EnvOf8 (w : World) : Prop where
  pow : Lib.TabIs Tryz.prog w "internal/strconv.uint64pow10" .u64 Lib.pow10Tab
  serr : ∃ te pe, w.cell? ⟨4, 0, none⟩ = some (.iface te pe)
  rerr : ∃ te pe, w.cell? ⟨5, 0, none⟩ = some (.iface te pe)
theorem EnvOf8.cells {w w' : World} (h : EnvOf8 w) (hb : Below w.heap.size w w') : (∃ te pe, w'.cell? ⟨4, 0, none⟩ = some (.iface te pe)) ∧ (∃ te pe, w'.cell? ⟨5, 0, none⟩ = some (.iface te pe)) := by
  obtain ⟨_, ⟨t1, p1, h1⟩, ⟨t2, p2, h2⟩⟩ := h
  exact ⟨⟨t1, p1, cell_later h1 hb⟩, ⟨t2, p2, cell_later h2 hb⟩⟩
theorem bytesWorld_below (w : World) (t : TypeId) (s : ByteArray) : Below w.heap.size w (Lib.bytesWorld w t s) := Lib.bytesWorld_below w t s
end Go.Proofs.YtpmmchppfmojhaaGreatDoor


/- Of condition: the parser in memory; next, require, accept. Of condition: the parser's require, accept, number. Of condition: the parser's operand, span. -/
namespace Go.Proofs.YtpmmchppfmojhaaGreatDoor
open Go.RowKit
set_option linter.unusedVariables false

theorem wrap_fit {x : Int} (h0 : -9223372036854775808 ≤ x) (h1 : x ≤ 9223372036854775807) : IntKind.i64.wrap x = x := by
  rw [IntKind.wrap_i64]; omega
theorem region_stail {P : Program} {w : World} {id : Nat} {Q : Exit → Act → World → Prop} {a : Act} {l : List Oper} (k : Nat) (hm : P.follows .mixedOrders = true) (hB : Region.lexTailB .any l.toArray k = true)
    (h : wpStill P l.toArray (w.drewN 1) (fun a' => wpList P l.toArray Q (l.drop k) a' (w.drewN 1)) (l.take k) a) : (Code.region id l.toArray true).wp P Q a w := wp_region_still_tail k hm hB h
/-- The parser, behind a pointer: good, in a state; or failed. -/
structure PS (w0 : World) (g : Nat) (text : ByteArray) (o : Option Pst) (w : World) : Prop where
  base : w0.heap.size ≤ g
  low : Below w0.heap.size w0 w
  st : ∃ (tok rest pre : Str) (rel f : Int), Blk g 342 #[.string text, .string (ofL tok), .int .i64 (pre.length : Nat), .int .i64 rel, .int .i64 f] w ∧ text.data.toList = pre ++ (tok ++ rest) ∧ (match o with
    | none => f ≠ 0
    | some p => f = 0 ∧ tok = p.tok ∧ rest = p.rest ∧ rel = (p.n : Int))
theorem PS.lt {w0 : World} {g : Nat} {text : ByteArray} {o : Option Pst} {w : World} (h : PS w0 g text o w) : g < w.heap.size := by
  obtain ⟨_, _, _, _, _, hb, _⟩ := h.st
  exact hb.lt
theorem PS.same {w0 : World} {g : Nat} {text : ByteArray} {o : Option Pst} {w w' : World} (h : PS w0 g text o w) (hg : w'.heap[g]? = w.heap[g]?) (hl : Below w0.heap.size w0 w') : PS w0 g text o w' := by
  obtain ⟨tok, rest, pre, rel, f, hb, h1, h2⟩ := h.st
  exact ⟨h.base, hl, tok, rest, pre, rel, f, hg.trans hb, h1, h2⟩
theorem PS.below {w0 : World} {g : Nat} {text : ByteArray} {o : Option Pst} {w w' : World} (h : PS w0 g text o w) (hb : Below w.heap.size w w') : PS w0 g text o w' :=
  h.same (hb.block g h.lt) (h.low.trans (hb.mono h.low.size))
theorem PS.good {w0 : World} {g : Nat} {text : ByteArray} {p : Pst} {w : World} (h : PS w0 g text (some p) w) : ∃ pre : Str, Blk g 342 #[.string text, .string (ofL p.tok), .int .i64 (pre.length : Nat), .int .i64 (p.n : Nat), .int .i64 0] w ∧ text.data.toList = pre ++ (p.tok ++ p.rest) := by
  obtain ⟨tok, rest, pre, rel, f, hb, h1, rfl, rfl, rfl, rfl⟩ := h.st
  exact ⟨pre, hb, h1⟩
theorem PS.bad {w0 : World} {g : Nat} {text : ByteArray} {w : World} (h : PS w0 g text none w) : ∃ (tok rest pre : Str) (rel f : Int), Blk g 342 #[.string text, .string (ofL tok), .int .i64 (pre.length : Nat), .int .i64 rel, .int .i64 f] w ∧ text.data.toList = pre ++ (tok ++ rest) ∧ f ≠ 0 := h.st
/-- The current token, whether the parser is good or not. -/
theorem PS.tok {w0 : World} {g : Nat} {text : ByteArray} {o : Option Pst} {w : World} (h : PS w0 g text o w) : ∃ (tok : Str) (f : Int), w.cell? ⟨g, 1, none⟩ = some (.string (ofL tok)) ∧ w.cell? ⟨g, 4, none⟩ = some (.int .i64 f) ∧ tok.length ≤ text.size ∧ (f = 0 ↔ o.isSome = true) ∧ ∀ p, o = some p → p.tok = tok := by
  obtain ⟨tok, rest, pre, rel, f, hb, h1, h2⟩ := h.st
  refine ⟨tok, f, hb.cell 1, hb.cell 4, ?_, ?_, ?_⟩
  · have := congrArg List.length h1
    rw [len_dataOf8, List.length_append, List.length_append] at this
    omega
  · cases o with
    | none => simp; exact h2
    | some p => simp; exact h2.1
  · intro p hp
    subst hp
    exact h2.2.1.symm
end Go.Proofs.YtpmmchppfmojhaaGreatDoor

namespace Go.Proofs.YtpmmchppfmojhaaGreatDoor
open Go.RowKit
set_option linter.unusedVariables false

end Go.Proofs.YtpmmchppfmojhaaGreatDoor

namespace Go.Proofs.YtpmmchppfmojhaaGreatDoor
open Go.RowKit
set_option linter.unusedVariables false

end Go.Proofs.YtpmmchppfmojhaaGreatDoor


