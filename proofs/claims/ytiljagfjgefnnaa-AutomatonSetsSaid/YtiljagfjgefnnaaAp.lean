/- Of the reference: Minimal, where minimal does as it should. -/
import Derived.Test.YtiljagfjgefnnaaAi
namespace Go.Proofs.Ytiljagfjgefnnaa
open Go.RowKit
set_option linter.unusedVariables false

/-- What is asked of minimal. -/
def MinC : Prop := ∀ (r : RawD) (ok : DOk r) (a1 : Option Addr) (c1 : Nat) (a2 : Option Addr) (c2 : Nat) (w : World) (hN : RdRows w (.slice a1 r.nx.length c1) r.nx) (hF : Rd 1 encO w (.slice a2 r.ac.length c2) r.ac), Calls Try.prog 41 #[.agg #[.int .i64 r.st, .slice a1 r.nx.length c1, .slice a2 r.ac.length c2]] w (MinP r w)
/-- The minimal automaton of r and no error. -/
def GotMin (A : Aut) (N : Nat) (e : Ending) (w' : World) : Prop := ∃ (m : Nat) (cl : Nat → Nat) (a1 : Option Addr) (c1 : Nat) (a2 : Option Addr) (c2 : Nat) (raws : List RawS), Cls A cl ∧ Stop A cl m ∧ e = .returned (.tuple #[.agg #[.int .i64 0, .slice a1 m c1, .slice a2 m c2], .int .i64 0]) ∧ Own1 1 encS w' N 56 (.slice a1 m c1) raws ∧ RowsOk w' raws (outN A cl m) ∧ (∀ x ∈ raws, ∀ b, (Value.slice x.a x.n x.c).ownBlock = some b → N ≤ b) ∧ Own1 1 encO w' N 4 (.slice a2 m c2) (outF A cl m)
def GotNo (x : Int) (e : Ending) : Prop := e = .returned (.tuple #[.agg #[.int .i64 0, .slice none 0 0, .slice none 0 0], .int .i64 x])
def GotM (r : RawD) (w : World) (e : Ending) (w' : World) : Prop := ((okD r = false ∧ GotNo 1 e) ∨ (okD r = true ∧ GotMin (toA r) w.heap.size e w')) ∧ Below w.heap.size w w'
theorem resT19 {W : World} {tm : Array Value} {B : Nat} {t : TypeId} {a b c x : Value} (t2 : tm[2]?.getD undef = .pointer (some ⟨B, 0, none⟩)) (t3 : tm[3]?.getD undef = x) (h : Blk B t #[a, b, c] W) :
    (results Try.f19 tm).run Try.prog W = .ok (.tuple #[.agg #[a, b, c], x]) W := by
  have a0 : W.cell? ⟨B, 0, none⟩ = some a := h.cell 0
  have a1 : W.cell? ⟨B, 1, none⟩ = some b := h.cell 1
  have a2 : W.cell? ⟨B, 2, none⟩ = some c := h.cell 2
  simp [results, Try.f19, go_sem, t2, t3, a0, a1, a2]
set_option maxRecDepth 1000000 in
set_option maxHeartbeats 16000000 in
theorem minimalR_any (HC : MinC) (r : RawD) (a1 : Option Addr) (c1 : Nat) (a2 : Option Addr) (c2 : Nat) (w : World) (hN : RdRows w (.slice a1 r.nx.length c1) r.nx) (hF : Rd 1 encO w (.slice a2 r.ac.length c2) r.ac) :
    Calls Try.prog 19 #[.agg #[.int .i64 r.st, .slice a1 r.nx.length c1, .slice a2 r.ac.length c2]] w (GotM r w) := by
  have BA := (Below.refl w.heap.size w).alloc (Nat.le_refl _) (.cells #[.int .i64 r.st, .slice a1 r.nx.length c1, .slice a2 r.ac.length c2] 25)
  have BB := BA.alloc BA.size (.cells #[.int .i64 0, .slice none 0 0, .slice none 0 0] 25)
  have k0 := (Blk.new w 25 #[.int .i64 r.st, .slice a1 r.nx.length c1, .slice a2 r.ac.length c2]).alloc (.cells #[.int .i64 0, .slice none 0 0, .slice none 0 0] 25)
  have kr := Blk.new (w.alloc (.cells #[.int .i64 r.st, .slice a1 r.nx.length c1, .slice a2 r.ac.length c2] 25)) 25 #[.int .i64 0, .slice none 0 0, .slice none 0 0]
  rw [World.size_alloc] at kr
  obtain ⟨W0, hW0⟩ : ∃ W0, (w.alloc (.cells #[.int .i64 r.st, .slice a1 r.nx.length c1, .slice a2 r.ac.length c2] 25)).alloc (.cells #[.int .i64 0, .slice none 0 0, .slice none 0 0] 25) = W0 := ⟨_, rfl⟩
  have HN := Lib.hid (hN.below BB)
  have HF := Lib.hid (hF.below BB)
  have HBA := Lib.hid BB
  have K0 := Lib.hid k0
  have KR := Lib.hid kr
  rw [hW0] at HN HF HBA K0 KR
  obtain ⟨g, hg⟩ : ∃ g, w.heap.size = g := ⟨_, rfl⟩
  have HG := Lib.hid hg
  have HW0 := Lib.hid hW0
  rw [hg] at K0 KR
  have f0 : W0.cell? ⟨g, 0, none⟩ = some (.int .i64 r.st) := K0.out.cell 0
  have f1 : W0.cell? ⟨g, 1, none⟩ = some (.slice a1 r.nx.length c1) := K0.out.cell 1
  have f2 : W0.cell? ⟨g, 2, none⟩ = some (.slice a2 r.ac.length c2) := K0.out.cell 2
  have HMC := Lib.hid HC
  have z0 := KR.out.lt
  clear hN hF BA BB k0 kr hW0 hg HC
  go_enter Try.func19, Try.ntmps19
  go_upto_region 1 with fail
  rw [HW0.out, HG.out]
  clear HW0
  go_wp2_with fail
  refine (valid_any r a1 c1 a2 c2 W0 HN.out HF.out).mono ?_
  rintro e wv ⟨rfl, bv⟩
  have HBV := Lib.hid bv
  have KV := Lib.hid (Blk.below K0.out bv)
  have KRV := Lib.hid (Blk.below KR.out bv)
  have zv := bv.size
  clear bv f0 f1 f2
  cases hok : okD r with
  | false =>
    have HOK := Lib.hid hok
    have xf := KRV.out.frozen
    have y0 : wv.cell? ⟨g + 1, 0, none⟩ = some (.int .i64 0) := KRV.out.cell 0
    have y1 : wv.cell? ⟨g + 1, 1, none⟩ = some (.slice none 0 0) := KRV.out.cell 1
    have y2 : wv.cell? ⟨g + 1, 2, none⟩ = some (.slice none 0 0) := KRV.out.cell 2
    have HFIN : Hid (Blk (g + 1) 25 #[.int .i64 0, .slice none 0 0, .slice none 0 0] (put3 wv (g + 1) (.int .i64 0) (.slice none 0 0) (.slice none 0 0)) ∧ Below w.heap.size w (put3 wv (g + 1) (.int .i64 0) (.slice none 0 0) (.slice none 0 0))) := Lib.hid (by
      obtain ⟨p1, p2⟩ := put3_ok (n := w.heap.size) (a' := .int .i64 0) (b' := .slice none 0 0) (c' := .slice none 0 0) KRV.out (by have := HG.out; omega)
      exact ⟨p1, (HBA.out.trans (HBV.out.mono HBA.out.size)).trans p2⟩)
    clear hok
    go_wp2
    exact bodyPost_ret (v := .tuple #[.agg #[.int .i64 0, .slice none 0 0, .slice none 0 0], .int .i64 1]) (resT19 rfl rfl HFIN.out.1) rfl ⟨.inl ⟨HOK.out, rfl⟩, HFIN.out.2⟩
  | true =>
    have HOK := Lib.hid hok
    have HDK := Lib.hid (okD_iff.1 hok)
    have f0 : wv.cell? ⟨g, 0, none⟩ = some (.int .i64 r.st) := KV.out.cell 0
    have f1 : wv.cell? ⟨g, 1, none⟩ = some (.slice a1 r.nx.length c1) := KV.out.cell 1
    have f2 : wv.cell? ⟨g, 2, none⟩ = some (.slice a2 r.ac.length c2) := KV.out.cell 2
    clear hok
    go_wp2_with fail
    refine (HMC.out r HDK.out.1 a1 c1 a2 c2 wv (HN.out.below HBV.out) (HF.out.below HBV.out)).mono ?_
    rintro e wm ⟨m, cl, b1, d1, b2, d2, raws, hcl, hst, rfl, hn, hrows, hlo, hf, hb⟩
    have KRM := Lib.hid (Blk.below KRV.out hb)
    have xf := KRM.out.frozen
    have y0 : wm.cell? ⟨g + 1, 0, none⟩ = some (.int .i64 0) := KRM.out.cell 0
    have y1 : wm.cell? ⟨g + 1, 1, none⟩ = some (.slice none 0 0) := KRM.out.cell 1
    have y2 : wm.cell? ⟨g + 1, 2, none⟩ = some (.slice none 0 0) := KRM.out.cell 2
    have HFIN : Hid (Blk (g + 1) 25 #[.int .i64 0, .slice b1 m d1, .slice b2 m d2] (put3 wm (g + 1) (.int .i64 0) (.slice b1 m d1) (.slice b2 m d2)) ∧ GotM r w (.returned (.tuple #[.agg #[.int .i64 0, .slice b1 m d1, .slice b2 m d2], .int .i64 0])) (put3 wm (g + 1) (.int .i64 0) (.slice b1 m d1) (.slice b2 m d2))) := Lib.hid (by
      obtain ⟨p1, p2⟩ := put3_ok (n := w.heap.size) (a' := .int .i64 0) (b' := .slice b1 m d1) (c' := .slice b2 m d2) KRM.out (by have := HG.out; omega)
      have hg := put3_grown wm (g + 1) (.int .i64 0) (.slice b1 m d1) (.slice b2 m d2)
      have hgv : g + 1 < wv.heap.size := Nat.lt_of_lt_of_le z0 zv
      have hwv : w.heap.size ≤ wv.heap.size := by have := HG.out; omega
      have hlt : ∀ b, wv.heap.size ≤ b → (some (g + 1) : Option Nat) ≠ some b := fun b hb e => by
        injection e with e
        omega
      refine ⟨p1, .inr ⟨HOK.out, m, cl, b1, d1, b2, d2, raws, hcl, hst, rfl, Own1.base (own_grown hn hg (fun b hb => hlt b (own_lt hn b hb).1)) hwv, hrows.grown hg (fun x hx b hb => hlt b (hlo x hx b hb)), fun x hx b hb => Nat.le_trans hwv (hlo x hx b hb), Own1.base (own_grown hf hg (fun b hb => hlt b (own_lt hf b hb).1)) hwv⟩, ?_⟩
      exact ((HBA.out.trans (HBV.out.mono HBA.out.size)).trans (hb.mono hwv)).trans p2)
    clear hcl hst hn hrows hlo hf hb f0 f1 f2
    go_wp2
    exact bodyPost_ret (v := .tuple #[.agg #[.int .i64 0, .slice b1 m d1, .slice b2 m d2], .int .i64 0]) (resT19 rfl rfl HFIN.out.1) rfl HFIN.out.2
end Go.Proofs.Ytiljagfjgefnnaa
