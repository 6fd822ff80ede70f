/- What the row stands on, part 5. -/
import Derived.Lib.OthersKept
import Derived.Deep.QuietTactic
import Derived.OwnWalk
import Derived.Maps.AppendAt
import Derived.Lib.IndexBytes
import Derived.Test.YtpmmchppfmojhaaGreatDoorQ4

/- Lists of numbers in memory; the contracts of SameInts, Decode (both), Count. -/
namespace Go.Proofs.YtpmmchppfmojhaaGreatDoor
open Go.RowKit
set_option linter.unusedVariables false

/-- A value that reads as a list of ints. -/
structure RdI (w : World) (v : Value) (xs : List Int) : Prop where
  len : xs.length ≤ 281474976710656
  form : ∃ a c, v = .slice a xs.length c ∧ (xs ≠ [] → ∃ b off, a = some ⟨b, off, none⟩ ∧ b < w.heap.size ∧ ∀ i, i < xs.length → w.cell? ⟨b, off + i, none⟩ = some (.int .i64 (xs.getD i 0)))
  nil_ : ∀ n c, v = .slice none n c → c = 0
theorem RdI.below {w w' : World} {v : Value} {xs : List Int} (h : RdI w v xs) (hb : Below w.heap.size w w') : RdI w' v xs := by
  obtain ⟨hl, ⟨a, c, hv, hx⟩, hn⟩ := h
  refine ⟨hl, ⟨a, c, hv, fun hne => ?_⟩, hn⟩
  obtain ⟨b, off, ha, hlt, hc⟩ := hx hne
  exact ⟨b, off, ha, Nat.lt_of_lt_of_le hlt hb.size, fun i hi => (hb.cell (p := ⟨b, off + i, none⟩) hlt).trans (hc i hi)⟩
theorem RdI.drewN {w : World} {v : Value} {xs : List Int} (h : RdI w v xs) (n : Nat) : RdI (w.drewN n) v xs := h.below (below_drewN (Below.refl _ _) n)
theorem RdI.drew {w : World} {v : Value} {xs : List Int} (h : RdI w v xs) : RdI w.drew v xs := h.below (Below.refl _ _).drew
theorem RdI.alloc {w : World} {v : Value} {xs : List Int} (h : RdI w v xs) (o : Obj) : RdI (w.alloc o) v xs := h.below ((Below.refl _ _).alloc (Nat.le_refl _) o)
theorem RdI.of_own {w : World} {base n : Nat} {e : TypeId} {v : Value} {xs : List Int} (h : w.ownsRow base e 1 v n (xs.map (Value.int .i64))) (hl : xs.length ≤ 281474976710656) : RdI w v xs := by
  have hn : xs.length = n := by have := h.1; simpa using this
  rcases h.2 with ⟨rfl, h0⟩ | ⟨g, cap, cur, rfl, hb, hg, hnc, _⟩
  · exact ⟨hl, ⟨none, 0, by rw [hn, h0], fun hne => absurd (List.eq_nil_of_length_eq_zero (by omega)) hne⟩, fun n c hc => by injection hc with _ _ h3; exact h3.symm⟩
  · refine ⟨hl, ⟨_, cap, by rw [hn], fun hne => ⟨g, 0, rfl, (Array.getElem?_eq_some_iff.1 hg).1, fun i hi => ?_⟩⟩, fun n c hc => by injection hc with h1 _ _; cases h1⟩
    have := h.cells (g := g) rfl i (.int .i64 (xs.getD i 0)) (by simp [List.getD, List.getElem?_eq_getElem hi])
    have hp : (⟨g, 0, none⟩ : Addr).add i = ⟨g, 0 + i, none⟩ := by unfold Addr.add; split <;> simp_all
    rw [hp] at this
    exact this

def elI (l : List UInt8) : List Int := (elems l).map (fun n : Nat => (n : Int))
theorem elI_nil : elI [] = [] := rfl
theorem elI_cons (l : List UInt8) (h : l ≠ []) : elI l = ((dl l).1 : Int) :: elI (l.drop (dl l).2) := by unfold elI; rw [elems_cons l h]; rfl
theorem ext_data (s : ByteArray) (k : Nat) : (s.extract k s.size).data.toList = s.data.toList.drop k := Lib.extract_to_end s k
theorem Tryz.infoI : (Tryz.prog.info? 3).map (fun i => (i.zero, i.size, i.bytes)) = some (some (.int .i64 0), 1, 8) := by kernel_rfl
/-- A new list of ints, and nothing that was there has turned. -/
def ListPost (w : World) (xs : List Int) (e : Ending) (w' : World) : Prop := ∃ v, e = .returned v ∧ RdI w' v xs ∧ Below w.heap.size w w'

end Go.Proofs.YtpmmchppfmojhaaGreatDoor


