/- Of the program: graphOf. -/
import Derived.Test.YtiljagfjgefnnaaBd
namespace Go.Proofs.Ytiljagfjgefnnaa
open Go.RowKit
set_option linter.unusedVariables false

theorem resGO {W : World} {tm : Array Value} {B : Nat} {t : TypeId} {a b : Value} (t2 : tm[2]?.getD undef = .pointer (some ⟨B, 0, none⟩)) (h : Blk B t #[a, b] W) :
    (results Try.f39 tm).run Try.prog W = .ok (.agg #[a, b]) W := by
  have a0 : W.cell? ⟨B, 0, none⟩ = some a := h.cell 0
  have a1 : W.cell? ⟨B, 1, none⟩ = some b := h.cell 1
  simp [results, Try.f39, go_sem, t2, a0, a1]
set_option maxRecDepth 1000000 in
set_option maxHeartbeats 8000000 in
theorem graphOf_any (r : RawD) (ok : DOk r) (a1 : Option Addr) (c1 : Nat) (a2 : Option Addr) (c2 : Nat) (w : World) (hN : RdRows w (.slice a1 r.nx.length c1) r.nx) (hF : Rd 1 encO w (.slice a2 r.ac.length c2) r.ac) :
    Calls Try.prog 39 #[.agg #[.int .i64 r.st, .slice a1 r.nx.length c1, .slice a2 r.ac.length c2]] w (GrP (toA r) w) := by
  have BA := (Below.refl w.heap.size w).alloc (Nat.le_refl _) (.cells #[.int .i64 r.st, .slice a1 r.nx.length c1, .slice a2 r.ac.length c2] 29)
  have BB := BA.alloc BA.size (.cells #[.slice none 0 0, .slice none 0 0] 62)
  have k0 := (Blk.new w 29 #[.int .i64 r.st, .slice a1 r.nx.length c1, .slice a2 r.ac.length c2]).alloc (.cells #[.slice none 0 0, .slice none 0 0] 62)
  have kr := Blk.new (w.alloc (.cells #[.int .i64 r.st, .slice a1 r.nx.length c1, .slice a2 r.ac.length c2] 29)) 62 #[.slice none 0 0, .slice none 0 0]
  rw [World.size_alloc] at kr
  obtain ⟨W0, hW0⟩ : ∃ W0, (w.alloc (.cells #[.int .i64 r.st, .slice a1 r.nx.length c1, .slice a2 r.ac.length c2] 29)).alloc (.cells #[.slice none 0 0, .slice none 0 0] 62) = W0 := ⟨_, rfl⟩
  have HN := Lib.hid (hN.below BB)
  have HF := Lib.hid (hF.below BB)
  have HBA := Lib.hid BB
  have K0 := Lib.hid k0
  have KR := Lib.hid kr
  rw [hW0] at HN HF HBA K0 KR
  obtain ⟨g, hg⟩ : ∃ g, w.heap.size = g := ⟨_, rfl⟩
  have HG := Lib.hid hg
  have HW0 := Lib.hid hW0
  rw [hg] at K0 KR
  have f0 : W0.cell? ⟨g, 0, none⟩ = some (.int .i64 r.st) := K0.out.cell 0
  have HX := Lib.hid (exploreI_any r ok g a1 c1 a2 c2 W0 K0.out HN.out HF.out)
  clear hN hF BA BB k0 kr hW0 hg ok
  go_enter Try.func39, Try.ntmps39
  go_upto_region 1 with fail
  rw [HW0.out, HG.out]
  clear HW0
  go_wp2_with fail
  refine HX.out.mono ?_
  rintro e w2 ⟨m, b1, d1, b2, d2, hst, rfl, hn, hf, hb⟩
  have KR2 := Lib.hid (Blk.below KR.out hb)
  have xf := KR2.out.frozen
  have y0 : w2.cell? ⟨g + 1, 0, none⟩ = some (.slice none 0 0) := KR2.out.cell 0
  have y1 : w2.cell? ⟨g + 1, 1, none⟩ = some (.slice none 0 0) := KR2.out.cell 1
  have HFIN : Hid (Blk (g + 1) 62 #[.slice b1 m d1, .slice b2 m d2] ((w2.setCell ⟨g + 1, 0, none⟩ (.slice b1 m d1)).setCell ⟨g + 1, 1, none⟩ (.slice b2 m d2)) ∧ GrP (toA r) w (.returned (.agg #[.slice b1 m d1, .slice b2 m d2])) ((w2.setCell ⟨g + 1, 0, none⟩ (.slice b1 m d1)).setCell ⟨g + 1, 1, none⟩ (.slice b2 m d2))) := Lib.hid (by
    have q := ((KR2.out.put 0 (.slice b1 m d1)).put 1 (.slice b2 m d2))
    have hg2 := (grown_set w2 (g + 1) 0 (.slice b1 m d1)).trans (grown_set (w2.setCell ⟨g + 1, 0, none⟩ (.slice b1 m d1)) (g + 1) 1 (.slice b2 m d2))
    have hlt : ∀ b, W0.heap.size ≤ b → (some (g + 1) : Option Nat) ≠ some b := fun b hb e => by
      injection e with e
      have := KR.out.lt
      omega
    have hw : w.heap.size ≤ g + 1 := by have := HG.out; omega
    refine ⟨q, m, b1, d1, b2, d2, hst, rfl, ?_, ?_, ?_⟩
    · exact Own1.base (own_grown hn hg2 (fun b hb => hlt b (own_lt hn b hb).1)) HBA.out.size
    · exact Own1.base (own_grown hf hg2 (fun b hb => hlt b (own_lt hf b hb).1)) HBA.out.size
    · exact ((HBA.out.trans (hb.mono HBA.out.size)).setCell (p := ⟨g + 1, 0, none⟩) hw _).setCell (p := ⟨g + 1, 1, none⟩) hw _)
  clear hst hn hf hb
  go_wp2
  exact bodyPost_ret (v := .agg #[.slice b1 m d1, .slice b2 m d2]) (resGO rfl HFIN.out.1) rfl HFIN.out.2
end Go.Proofs.Ytiljagfjgefnnaa
