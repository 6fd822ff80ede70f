/- Of the program: Minimal, Complement. -/
import Derived.Test.YtiljagfjgefnnaaBzd
import Derived.Test.YtiljagfjgefnnaaBe
import Derived.Test.YtiljagfjgefnnaaBi
import Derived.Test.YtiljagfjgefnnaaBj
namespace Go.Proofs.Ytiljagfjgefnnaa
open Go.RowKit
set_option linter.unusedVariables false

theorem compl_rowK (A : Aut) (cl : Nat → Nat) (fd : List Nat) (s : Nat) : ∀ c, rowK (compl A) cl fd s c = rowK A cl fd s c
  | 0 => by rw [rowK, rowK]
  | c + 1 => by
    rw [rowK_succ, rowK_succ, compl_rowK A cl fd s c]
    rfl
theorem compl_fdK (A : Aut) (cl : Nat → Nat) : ∀ i, fdK (compl A) cl i = fdK A cl i
  | 0 => by rw [fdK_zero, fdK_zero]; rfl
  | i + 1 => by rw [fdK_succ, fdK_succ, compl_fdK A cl i, compl_rowK]
theorem compl_outN (A : Aut) (cl : Nat → Nat) (m : Nat) : outN (compl A) cl m = outN A cl m := by
  unfold outN
  refine List.map_congr_left (fun i _ => ?_)
  unfold rowsK
  rw [compl_fdK, compl_rowK]
theorem compl_outF (A : Aut) (cl : Nat → Nat) (m : Nat) {i : Nat} (hi : i < m) : (outF (compl A) cl m).getD i false = !(outF A cl m).getD i false := by
  unfold outF
  rw [List.getD_eq_getElem?_getD, List.getD_eq_getElem?_getD, List.getElem?_map, List.getElem?_map, List.getElem?_range hi, compl_fdK]
  rfl
theorem Stop.compl {A : Aut} {cl : Nat → Nat} {m : Nat} (h : Stop A cl m) : Stop (Go.Proofs.Ytiljagfjgefnnaa.compl A) cl m := ⟨fun j hj => by rw [compl_fdK]; exact h.1 j hj, by rw [compl_fdK]; exact h.2⟩
theorem Cls.compl {A : Aut} {cl : Nat → Nat} (h : Cls A cl) : Cls (Go.Proofs.Ytiljagfjgefnnaa.compl A) cl := fun s t hs ht => by
  rw [h s t hs ht]
  exact ⟨fun e => compl_eqv e, fun e w hw => by
    have := e w hw
    rw [compl_acc, compl_acc] at this
    cases h1 : A.acc s w <;> cases h2 : A.acc t w <;> rw [h1, h2] at this <;> simp_all⟩
/-- The minimal automaton of what is equivalent to B, made in one array; no error. -/
def GotP (B : Aut) (N n : Nat) (e : Ending) (w' : World) : Prop := ∃ (G : Aut) (cl : Nat → Nat) (k LB CB AB : Nat), G.Ok ∧ Eqv G B G.s0 B.s0 ∧ Cls G cl ∧ Stop G cl k ∧ k ≤ n ∧ e = .returned (.tuple #[.agg #[.int .i64 0, .slice (some ⟨LB, 0, none⟩) k k, .slice (some ⟨AB, 0, none⟩) k k], .int .i64 0]) ∧ MadeD w' N LB CB AB k (fun j => ((outN G cl k).getD (j / 11) []).getD (j % 11) 0) (fun i => (outF G cl k).getD i false)
def GotZ (e : Ending) : Prop := e = .returned (.tuple #[.agg #[.int .i64 0, .slice none 0 0, .slice none 0 0], .int .i64 1])
def GotQ (r : RawD) (w : World) (e : Ending) (w' : World) : Prop := ((okD r = false ∧ GotZ e) ∨ (okD r = true ∧ GotP (toA r) w.heap.size r.nx.length e w')) ∧ Below w.heap.size w w'
def GotC2 (r : RawD) (w : World) (e : Ending) (w' : World) : Prop := ((okD r = false ∧ GotZ e) ∨ (okD r = true ∧ GotP (compl (toA r)) w.heap.size r.nx.length e w')) ∧ Below w.heap.size w w'
theorem resP3 {f : Func} {W : World} {tm : Array Value} {B : Nat} {t t0 : TypeId} {a b c x : Value} (hf : f.results = #[.cell 2 t0, .tmp 3]) (hu : Try.prog.underlying t0 = Try.prog.underlying 29) (h9 : t0 = 29) (t2 : tm[2]?.getD undef = .pointer (some ⟨B, 0, none⟩)) (t3 : tm[3]?.getD undef = x) (h : Blk B t #[a, b, c] W) :
    (results f tm).run Try.prog W = .ok (.tuple #[.agg #[a, b, c], x]) W := by
  subst h9
  have a0 : W.cell? ⟨B, 0, none⟩ = some a := h.cell 0
  have a1 : W.cell? ⟨B, 1, none⟩ = some b := h.cell 1
  have a2 : W.cell? ⟨B, 2, none⟩ = some c := h.cell 2
  simp [results, hf, go_sem, t2, t3, a0, a1, a2]
theorem resMP {W : World} {tm : Array Value} {B : Nat} {t : TypeId} {a b c x : Value} (t2 : tm[2]?.getD undef = .pointer (some ⟨B, 0, none⟩)) (t3 : tm[3]?.getD undef = x) (h : Blk B t #[a, b, c] W) :
    (results Try.f18 tm).run Try.prog W = .ok (.tuple #[.agg #[a, b, c], x]) W := by
  have a0 : W.cell? ⟨B, 0, none⟩ = some a := h.cell 0
  have a1 : W.cell? ⟨B, 1, none⟩ = some b := h.cell 1
  have a2 : W.cell? ⟨B, 2, none⟩ = some c := h.cell 2
  simp [results, Try.f18, go_sem, t2, t3, a0, a1, a2]
theorem resCP {W : World} {tm : Array Value} {B : Nat} {t : TypeId} {a b c x : Value} (t2 : tm[2]?.getD undef = .pointer (some ⟨B, 0, none⟩)) (t3 : tm[3]?.getD undef = x) (h : Blk B t #[a, b, c] W) :
    (results Try.f22 tm).run Try.prog W = .ok (.tuple #[.agg #[a, b, c], x]) W := by
  have a0 : W.cell? ⟨B, 0, none⟩ = some a := h.cell 0
  have a1 : W.cell? ⟨B, 1, none⟩ = some b := h.cell 1
  have a2 : W.cell? ⟨B, 2, none⟩ = some c := h.cell 2
  simp [results, Try.f22, go_sem, t2, t3, a0, a1, a2]
theorem MadeD.grown {w w' : World} {base LB CB AB k : Nat} {nx : Nat → Nat} {ac : Nat → Bool} {row : Option Nat} (h : MadeD w base LB CB AB k nx ac) (hg : w.grownBy w' row) (hne : ∀ b, base ≤ b → row ≠ some b) : MadeD w' base LB CB AB k nx ac :=
  ⟨h.l.grown hg (hne _ h.lL), h.c.grown hg (hne _ h.lC), h.a.grown hg (hne _ h.lA), h.lL, h.lC, h.lA⟩
theorem MadeD.base {w : World} {base base' LB CB AB k : Nat} {nx : Nat → Nat} {ac : Nat → Bool} (h : MadeD w base LB CB AB k nx ac) (hb : base' ≤ base) : MadeD w base' LB CB AB k nx ac := ⟨h.l, h.c, h.a, Nat.le_trans hb h.lL, Nat.le_trans hb h.lC, Nat.le_trans hb h.lA⟩
theorem MadeD.below {w w' : World} {base LB CB AB k : Nat} {nx : Nat → Nat} {ac : Nat → Bool} (h : MadeD w base LB CB AB k nx ac) (hb : Below w.heap.size w w') : MadeD w' base LB CB AB k nx ac := ⟨h.l.below hb, h.c.below hb, h.a.below hb, h.lL, h.lC, h.lA⟩
set_option maxRecDepth 1000000 in
set_option maxHeartbeats 16000000 in
theorem minP_any (r : RawD) (a1 : Option Addr) (c1 : Nat) (a2 : Option Addr) (c2 : Nat) (w : World) (hN : RdRows w (.slice a1 r.nx.length c1) r.nx) (hF : Rd 1 encO w (.slice a2 r.ac.length c2) r.ac) :
    Calls Try.prog 18 #[.agg #[.int .i64 r.st, .slice a1 r.nx.length c1, .slice a2 r.ac.length c2]] w (GotQ r w) := by
  have BA := (Below.refl w.heap.size w).alloc (Nat.le_refl _) (.cells #[.int .i64 r.st, .slice a1 r.nx.length c1, .slice a2 r.ac.length c2] 29)
  have BB := BA.alloc BA.size (.cells #[.int .i64 0, .slice none 0 0, .slice none 0 0] 29)
  have k0 := (Blk.new w 29 #[.int .i64 r.st, .slice a1 r.nx.length c1, .slice a2 r.ac.length c2]).alloc (.cells #[.int .i64 0, .slice none 0 0, .slice none 0 0] 29)
  have kr := Blk.new (w.alloc (.cells #[.int .i64 r.st, .slice a1 r.nx.length c1, .slice a2 r.ac.length c2] 29)) 29 #[.int .i64 0, .slice none 0 0, .slice none 0 0]
  rw [World.size_alloc] at kr
  obtain ⟨W0, hW0⟩ : ∃ W0, (w.alloc (.cells #[.int .i64 r.st, .slice a1 r.nx.length c1, .slice a2 r.ac.length c2] 29)).alloc (.cells #[.int .i64 0, .slice none 0 0, .slice none 0 0] 29) = W0 := ⟨_, rfl⟩
  have HN := Lib.hid (hN.below BB)
  have HF := Lib.hid (hF.below BB)
  have HBA := Lib.hid BB
  have K0 := Lib.hid k0
  have KR := Lib.hid kr
  rw [hW0] at HN HF HBA K0 KR
  obtain ⟨g, hg⟩ : ∃ g, w.heap.size = g := ⟨_, rfl⟩
  have HG := Lib.hid hg
  have HW0 := Lib.hid hW0
  rw [hg] at K0 KR
  have f0 : W0.cell? ⟨g, 0, none⟩ = some (.int .i64 r.st) := K0.out.cell 0
  have f1 : W0.cell? ⟨g, 1, none⟩ = some (.slice a1 r.nx.length c1) := K0.out.cell 1
  have f2 : W0.cell? ⟨g, 2, none⟩ = some (.slice a2 r.ac.length c2) := K0.out.cell 2
  have z0 := KR.out.lt
  clear hN hF BA BB k0 kr hW0 hg
  go_enter Try.func18, Try.ntmps18
  go_upto_region 1 with fail
  rw [HW0.out, HG.out]
  clear HW0
  go_wp2_with fail
  refine (validP_any r a1 c1 a2 c2 W0 HN.out HF.out).mono ?_
  rintro e wv ⟨rfl, bv⟩
  have HBV := Lib.hid bv
  have KV := Lib.hid (Blk.below K0.out bv)
  have KRV := Lib.hid (Blk.below KR.out bv)
  have zv := bv.size
  clear bv f0 f1 f2
  cases hok : okD r with
  | false =>
    have HOK := Lib.hid hok
    have xf := KRV.out.frozen
    have y0 : wv.cell? ⟨g + 1, 0, none⟩ = some (.int .i64 0) := KRV.out.cell 0
    have y1 : wv.cell? ⟨g + 1, 1, none⟩ = some (.slice none 0 0) := KRV.out.cell 1
    have y2 : wv.cell? ⟨g + 1, 2, none⟩ = some (.slice none 0 0) := KRV.out.cell 2
    have HFIN : Hid (Blk (g + 1) 29 #[.int .i64 0, .slice none 0 0, .slice none 0 0] (put3 wv (g + 1) (.int .i64 0) (.slice none 0 0) (.slice none 0 0)) ∧ Below w.heap.size w (put3 wv (g + 1) (.int .i64 0) (.slice none 0 0) (.slice none 0 0))) := Lib.hid (by
      obtain ⟨p1, p2⟩ := put3_ok (n := w.heap.size) (a' := .int .i64 0) (b' := .slice none 0 0) (c' := .slice none 0 0) KRV.out (by have := HG.out; omega)
      exact ⟨p1, (HBA.out.trans (HBV.out.mono HBA.out.size)).trans p2⟩)
    clear hok
    go_wp2
    exact bodyPost_ret (v := .tuple #[.agg #[.int .i64 0, .slice none 0 0, .slice none 0 0], .int .i64 1]) (resMP rfl rfl HFIN.out.1) rfl ⟨.inl ⟨HOK.out, rfl⟩, HFIN.out.2⟩
  | true =>
    have HOK := Lib.hid hok
    have HDK := Lib.hid (okD_iff.1 hok).1
    have hn2 := (okD_iff.1 hok).2
    have HX := Lib.hid (graphOf_any r HDK.out a1 c1 a2 c2 wv (HN.out.below HBV.out) (HF.out.below HBV.out))
    have f0 : wv.cell? ⟨g, 0, none⟩ = some (.int .i64 r.st) := KV.out.cell 0
    have f1 : wv.cell? ⟨g, 1, none⟩ = some (.slice a1 r.nx.length c1) := KV.out.cell 1
    have f2 : wv.cell? ⟨g, 2, none⟩ = some (.slice a2 r.ac.length c2) := KV.out.cell 2
    clear hok
    go_wp2_with fail
    refine HX.out.mono ?_
    rintro e w3 ⟨m, b1, d1, b2, d2, hst, rfl, hn, hf, hb⟩
    have HST := Lib.hid hst
    have hmle : m ≤ r.nx.length := hst.le HDK.out.ok
    have HGN := Lib.hid (minA_n (toA r) id m)
    have HMG := Lib.hid (minimalG_any (minA (toA r) id m) hst.minOk hst.bf m (minA_n _ _ _) (by omega) (outN (toA r) id m) (outN_len _ _ _) (fun s c _ _ => rfl) (outF (toA r) id m) (outF_len _ _ _) (fun s _ => rfl) b1 d1 b2 d2 w3 (hn.rd encG_len) (hf.rd encO_len))
    have B3 := Lib.hid hb
    clear hst hn hf hb HX f0 f1 f2
    go_wp2_with fail
    refine HMG.out.mono ?_
    rintro e wm ⟨cl, k, LB, CB, AB, hcl, hst, rfl, hmd, hb⟩
    have KRM := Lib.hid (Blk.below (Blk.below KRV.out B3.out) hb)
    have xf := KRM.out.frozen
    have y0 : wm.cell? ⟨g + 1, 0, none⟩ = some (.int .i64 0) := KRM.out.cell 0
    have y1 : wm.cell? ⟨g + 1, 1, none⟩ = some (.slice none 0 0) := KRM.out.cell 1
    have y2 : wm.cell? ⟨g + 1, 2, none⟩ = some (.slice none 0 0) := KRM.out.cell 2
    have HFIN : Hid (Blk (g + 1) 29 #[.int .i64 0, .slice (some ⟨LB, 0, none⟩) k k, .slice (some ⟨AB, 0, none⟩) k k] (put3 wm (g + 1) (.int .i64 0) (.slice (some ⟨LB, 0, none⟩) k k) (.slice (some ⟨AB, 0, none⟩) k k)) ∧ GotQ r w (.returned (.tuple #[.agg #[.int .i64 0, .slice (some ⟨LB, 0, none⟩) k k, .slice (some ⟨AB, 0, none⟩) k k], .int .i64 0])) (put3 wm (g + 1) (.int .i64 0) (.slice (some ⟨LB, 0, none⟩) k k) (.slice (some ⟨AB, 0, none⟩) k k))) := Lib.hid (by
      obtain ⟨p1, p2⟩ := put3_ok (n := w.heap.size) (a' := .int .i64 0) (b' := .slice (some ⟨LB, 0, none⟩) k k) (c' := .slice (some ⟨AB, 0, none⟩) k k) KRM.out (by have := HG.out; omega)
      have hg := put3_grown wm (g + 1) (.int .i64 0) (.slice (some ⟨LB, 0, none⟩) k k) (.slice (some ⟨AB, 0, none⟩) k k)
      have hgv : g + 1 < w3.heap.size := Nat.lt_of_lt_of_le (Nat.lt_of_lt_of_le z0 zv) B3.out.size
      have hwv : w.heap.size ≤ w3.heap.size := by have := HG.out; omega
      have hkm : k ≤ m := by have := hst.le HST.out.minOk; rw [HGN.out] at this; exact this
      refine ⟨p1, .inr ⟨HOK.out, minA (toA r) id m, cl, k, LB, CB, AB, HST.out.minOk, HST.out.start HDK.out.ok (id_cls _), hcl, hst, by omega, rfl, (hmd.grown hg (fun b hb e => by injection e with e; omega)).base hwv⟩, ?_⟩
      exact (((HBA.out.trans (HBV.out.mono HBA.out.size)).trans (B3.out.mono (Nat.le_trans HBA.out.size zv))).trans (hb.mono hwv)).trans p2)
    clear hcl hst hmd hb
    go_wp2
    exact bodyPost_ret (v := .tuple #[.agg #[.int .i64 0, .slice (some ⟨LB, 0, none⟩) k k, .slice (some ⟨AB, 0, none⟩) k k], .int .i64 0]) (resMP rfl rfl HFIN.out.1) rfl HFIN.out.2
set_option maxRecDepth 1000000 in
set_option maxHeartbeats 16000000 in
theorem complP_any (r : RawD) (a1 : Option Addr) (c1 : Nat) (a2 : Option Addr) (c2 : Nat) (w : World) (hN : RdRows w (.slice a1 r.nx.length c1) r.nx) (hF : Rd 1 encO w (.slice a2 r.ac.length c2) r.ac) :
    Calls Try.prog 22 #[.agg #[.int .i64 r.st, .slice a1 r.nx.length c1, .slice a2 r.ac.length c2]] w (GotC2 r w) := by
  have BA := (Below.refl w.heap.size w).alloc (Nat.le_refl _) (.cells #[.int .i64 r.st, .slice a1 r.nx.length c1, .slice a2 r.ac.length c2] 29)
  have BB := BA.alloc BA.size (.cells #[.int .i64 0, .slice none 0 0, .slice none 0 0] 29)
  have k0 := (Blk.new w 29 #[.int .i64 r.st, .slice a1 r.nx.length c1, .slice a2 r.ac.length c2]).alloc (.cells #[.int .i64 0, .slice none 0 0, .slice none 0 0] 29)
  have kr := Blk.new (w.alloc (.cells #[.int .i64 r.st, .slice a1 r.nx.length c1, .slice a2 r.ac.length c2] 29)) 29 #[.int .i64 0, .slice none 0 0, .slice none 0 0]
  rw [World.size_alloc] at kr
  obtain ⟨W0, hW0⟩ : ∃ W0, (w.alloc (.cells #[.int .i64 r.st, .slice a1 r.nx.length c1, .slice a2 r.ac.length c2] 29)).alloc (.cells #[.int .i64 0, .slice none 0 0, .slice none 0 0] 29) = W0 := ⟨_, rfl⟩
  have HN := Lib.hid (hN.below BB)
  have HF := Lib.hid (hF.below BB)
  have HBA := Lib.hid BB
  have K0 := Lib.hid k0
  have KR := Lib.hid kr
  rw [hW0] at HN HF HBA K0 KR
  obtain ⟨g, hg⟩ : ∃ g, w.heap.size = g := ⟨_, rfl⟩
  have HG := Lib.hid hg
  have HW0 := Lib.hid hW0
  rw [hg] at K0 KR
  have f0 : W0.cell? ⟨g, 0, none⟩ = some (.int .i64 r.st) := K0.out.cell 0
  have f1 : W0.cell? ⟨g, 1, none⟩ = some (.slice a1 r.nx.length c1) := K0.out.cell 1
  have f2 : W0.cell? ⟨g, 2, none⟩ = some (.slice a2 r.ac.length c2) := K0.out.cell 2
  have z0 := KR.out.lt
  have HMP := Lib.hid (minP_any r a1 c1 a2 c2 W0 HN.out HF.out)
  clear hN hF BA BB k0 kr hW0 hg
  go_enter Try.func22, Try.ntmps22
  go_upto_region 1 with fail
  rw [HW0.out, HG.out]
  clear HW0
  go_wp2_with fail
  refine HMP.out.mono ?_
  rintro e w1 ⟨hcase, hb⟩
  have B1 := Lib.hid hb
  have z1 := hb.size
  have KR1 := Lib.hid (Blk.below KR.out hb)
  clear f0 f1 f2 hb HMP
  rcases hcase with ⟨hok, he⟩ | ⟨hok, G, cl, k, LB, CB, AB, hG, heq, hcl, hst, hkn, rfl, hmd⟩
  · have he : e = .returned (.tuple #[.agg #[.int .i64 0, .slice none 0 0, .slice none 0 0], .int .i64 1]) := he
    subst he
    have HOK := Lib.hid hok
    clear hok
    have bA := (Below.refl w1.heap.size w1).alloc (Nat.le_refl _) (.cells #[.int .i64 0, .slice none 0 0, .slice none 0 0] 29)
    have kA := Blk.new w1 29 #[.int .i64 0, .slice none 0 0, .slice none 0 0]
    obtain ⟨w2, hw2⟩ : ∃ w2, w1.alloc (.cells #[.int .i64 0, .slice none 0 0, .slice none 0 0] 29) = w2 := ⟨_, rfl⟩
    obtain ⟨nb, hnb⟩ : ∃ nb, w1.heap.size = nb := ⟨_, rfl⟩
    rw [hw2] at bA kA
    rw [hnb] at kA
    have HW2 := Lib.hid hw2
    have HNB := Lib.hid hnb
    have KA := Lib.hid kA
    have BA2 := Lib.hid bA
    have n0 : w2.cell? ⟨nb, 0, none⟩ = some (.int .i64 0) := kA.cell 0
    have n1 : w2.cell? ⟨nb, 1, none⟩ = some (.slice none 0 0) := kA.cell 1
    have n2 : w2.cell? ⟨nb, 2, none⟩ = some (.slice none 0 0) := kA.cell 2
    have KR2 := Lib.hid (Blk.below KR1.out bA)
    have xf := KR2.out.frozen
    have y0 : w2.cell? ⟨g + 1, 0, none⟩ = some (.int .i64 0) := KR2.out.cell 0
    have y1 : w2.cell? ⟨g + 1, 1, none⟩ = some (.slice none 0 0) := KR2.out.cell 1
    have y2 : w2.cell? ⟨g + 1, 2, none⟩ = some (.slice none 0 0) := KR2.out.cell 2
    have HFIN : Hid (Blk (g + 1) 29 #[.int .i64 0, .slice none 0 0, .slice none 0 0] (put3 w2 (g + 1) (.int .i64 0) (.slice none 0 0) (.slice none 0 0)) ∧ GotC2 r w (.returned (.tuple #[.agg #[.int .i64 0, .slice none 0 0, .slice none 0 0], .int .i64 1])) (put3 w2 (g + 1) (.int .i64 0) (.slice none 0 0) (.slice none 0 0))) := Lib.hid (by
      obtain ⟨p1, p2⟩ := put3_ok (n := w.heap.size) (a' := .int .i64 0) (b' := .slice none 0 0) (c' := .slice none 0 0) KR2.out (by have := HG.out; omega)
      exact ⟨p1, .inl ⟨HOK.out, rfl⟩, ((HBA.out.trans (B1.out.mono HBA.out.size)).trans (BA2.out.mono (Nat.le_trans HBA.out.size z1))).trans p2⟩)
    clear bA kA hw2 hnb
    go_upto_region 2 with fail
    rw [HW2.out, HNB.out]
    go_wp2_with fail
    go_loopw [15] (fun v15 wr => v15 = .int .i64 0 ∧ wr = w2) (fun _ _ => 0)
    case atStart => exact ⟨rfl, rfl⟩
    case round =>
      obtain ⟨rfl, hwr⟩ := hrel
      obtain rfl := hwr.symm
      have h9 : ¬ (0 : Int) < 0 := by omega
      go_wp2_with fail
      exact bodyPost_ret (v := .tuple #[.agg #[.int .i64 0, .slice none 0 0, .slice none 0 0], .int .i64 1]) (resCP rfl rfl HFIN.out.1) rfl HFIN.out.2
  · have HOK := Lib.hid hok
    have HGG := Lib.hid (And.intro hG (And.intro heq (And.intro hcl (And.intro hst hkn))))
    have hk1 : k ≤ 2000 := by have := (okD_iff.1 hok).2; omega
    clear hok hG heq hcl hst hkn
    have bA := (Below.refl w1.heap.size w1).alloc (Nat.le_refl _) (.cells #[.int .i64 0, .slice (some ⟨LB, 0, none⟩) k k, .slice (some ⟨AB, 0, none⟩) k k] 29)
    have kA := Blk.new w1 29 #[.int .i64 0, .slice (some ⟨LB, 0, none⟩) k k, .slice (some ⟨AB, 0, none⟩) k k]
    obtain ⟨w2, hw2⟩ : ∃ w2, w1.alloc (.cells #[.int .i64 0, .slice (some ⟨LB, 0, none⟩) k k, .slice (some ⟨AB, 0, none⟩) k k] 29) = w2 := ⟨_, rfl⟩
    obtain ⟨nb, hnb⟩ : ∃ nb, w1.heap.size = nb := ⟨_, rfl⟩
    rw [hw2] at bA kA
    rw [hnb] at kA
    have HW2 := Lib.hid hw2
    have HNB := Lib.hid hnb
    have KA := Lib.hid kA
    have BA2 := Lib.hid bA
    have n2 : w2.cell? ⟨nb, 2, none⟩ = some (.slice (some ⟨AB, 0, none⟩) k k) := kA.cell 2
    have M2 := Lib.hid (hmd.below bA)
    have hgx : g + 1 < W0.heap.size := z0
    clear bA kA hw2 hnb hmd
    go_upto_region 2 with fail
    rw [HW2.out, HNB.out]
    go_wp2_with fail
    go_loopw [15] (fun v15 wr => ∃ s : Nat, s ≤ k ∧ v15 = .int .i64 (s : Nat) ∧ MadeD wr W0.heap.size LB CB AB k (fun j => ((outN G cl k).getD (j / 11) []).getD (j % 11) 0) (fun i => if i < s then !(outF G cl k).getD i false else (outF G cl k).getD i false) ∧ Blk nb 29 #[.int .i64 0, .slice (some ⟨LB, 0, none⟩) k k, .slice (some ⟨AB, 0, none⟩) k k] wr ∧ Below W0.heap.size W0 wr) (fun v15 _ => k - (intOf v15).toNat)
    case atStart => exact ⟨0, Nat.zero_le _, rfl, ⟨M2.out.l, M2.out.c, M2.out.a.congr (fun i _ => by unfold boF; simp), M2.out.lL, M2.out.lC, M2.out.lA⟩, KA.out, B1.out.trans (BA2.out.mono z1)⟩
    case round =>
      rename World => w3
      obtain ⟨s, hs, rfl, hmd, hk3, hb⟩ := hrel
      have M3 := Lib.hid hmd
      have K3 := Lib.hid hk3
      have B3 := Lib.hid hb
      clear hmd hk3 hb n2
      by_cases hlt : s < k
      · have h9 : (s : Int) < (k : Int) := by omega
        obtain ⟨we, hwe⟩ : ∃ we, w3.drew = we := ⟨_, rfl⟩
        have be := (Below.refl w3.heap.size w3).drew
        have be2 := B3.out.drew
        rw [hwe] at be be2
        have Me := Lib.hid (M3.out.below be)
        have Ke := Lib.hid (Blk.below K3.out be)
        have Be := Lib.hid be2
        obtain ⟨fb, hfb⟩ : ∃ fb, (outF G cl k).getD s false = fb := ⟨_, rfl⟩
        have HFB := Lib.hid hfb
        have s1 : we.cell? ⟨nb, 2, none⟩ = some (.slice (some ⟨AB, 0, none⟩) k k) := Ke.out.cell 2
        have s2 : we.cell? ⟨AB, s, none⟩ = some (.bool fb) := by rw [Me.out.a.cell hlt]; show some (Value.bool (if s < s then _ else _)) = _; rw [if_neg (by omega), hfb]
        have cz := Me.out.a.frozen s
        have gs := grown_set we AB s (.bool !fb)
        have MN : Hid (MadeD (we.setCell ⟨AB, s, none⟩ (.bool !fb)) W0.heap.size LB CB AB k (fun j => ((outN G cl k).getD (j / 11) []).getD (j % 11) 0) (fun i => if i < s + 1 then !(outF G cl k).getD i false else (outF G cl k).getD i false)) := Lib.hid ⟨Me.out.l.grown gs (fun e => by
          injection e with e
          exact Me.out.l.apart Me.out.a (by decide) e.symm), Me.out.c.grown gs (fun e => by
          injection e with e
          exact Me.out.c.apart Me.out.a (by decide) e.symm), (Me.out.a.put hlt (.bool !fb)).congr (fun j hj => by
          rw [boF_upd]
          unfold boF
          dsimp only
          by_cases e : j = s
          · subst e; rw [if_pos rfl, if_pos (by omega), HFB.out]
          · rw [if_neg e]
            by_cases h5 : j < s
            · rw [if_pos h5, if_pos (by omega)]
            · rw [if_neg h5, if_neg (by omega)]), Me.out.lL, Me.out.lC, Me.out.lA⟩
        have KN : Hid (Blk nb 29 #[.int .i64 0, .slice (some ⟨LB, 0, none⟩) k k, .slice (some ⟨AB, 0, none⟩) k k] (we.setCell ⟨AB, s, none⟩ (.bool !fb))) := Lib.hid (Ke.out.far (p := ⟨AB, s, none⟩) (fun e => by
          obtain ⟨cs, h2, _⟩ := Me.out.a
          have e : nb = AB := e
          subst e
          have h3 := (show we.heap[nb]? = _ from Ke.out).symm.trans (show we.heap[nb]? = _ from h2)
          injection h3 with h3
          injection h3 with _ h3
          exact absurd h3 (by decide)) _)
        have BN := Lib.hid (Be.out.setCell (p := ⟨AB, s, none⟩) Me.out.lA (.bool !fb))
        have hS : (fun wx : World => wx.cell? ⟨nb, 2, none⟩ = some (.slice (some ⟨AB, 0, none⟩) k k) ∧ wx.cell? ⟨AB, s, none⟩ = some (.bool fb)) we := ⟨s1, s2⟩
        clear gs hfb be be2
        go_upto_region 5 with fail
        refine region_hd 9 (fun wx : World => wx.cell? ⟨nb, 2, none⟩ = some (.slice (some ⟨AB, 0, none⟩) k k) ∧ wx.cell? ⟨AB, s, none⟩ = some (.bool fb)) (by kernel_rfl) (by kernel_rfl) ?_
        rw [hwe]
        refine hd_taken 0 (some 18) _ ?hdv0 rfl rfl (by kernel_rfl) (fun _ _ _ h => h) (Or.inl ⟨by rfl, ?hdy0⟩) hS ?hdr0
        case hdy0 => (intro wx hx; (try dsimp only at hx); go_simp; try with_reducible rfl)
        try simp only [Act.put, List.setIfInBounds_toArray, List.set_cons_zero, List.set_cons_succ]
        refine hd_taken 1 (some 19) _ ?hdv1 rfl rfl (by kernel_rfl) (fun _ _ _ h => h) (Or.inl ⟨by rfl, ?hdy1⟩) hS ?hdr1
        case hdy1 => (intro wx hx; (try dsimp only at hx); go_simp; try with_reducible rfl)
        try simp only [Act.put, List.setIfInBounds_toArray, List.set_cons_zero, List.set_cons_succ]
        refine hd_taken 2 (some 20) _ ?hdv2 rfl rfl (by kernel_rfl) (fun _ _ _ h => h) (Or.inl ⟨by rfl, ?hdy2⟩) hS ?hdr2
        case hdy2 => (intro wx hx; (try dsimp only at hx); go_simp; try with_reducible rfl)
        try simp only [Act.put, List.setIfInBounds_toArray, List.set_cons_zero, List.set_cons_succ]
        refine hd_taken 3 (some 21) _ ?hdv3 rfl rfl (by kernel_rfl) (fun _ _ _ h => h) (Or.inl ⟨by rfl, ?hdy3⟩) hS ?hdr3
        case hdy3 => (intro wx hx; (try dsimp only at hx); go_simp; try with_reducible rfl)
        try simp only [Act.put, List.setIfInBounds_toArray, List.set_cons_zero, List.set_cons_succ]
        refine hd_taken 4 (some 22) _ ?hdv4 rfl rfl (by kernel_rfl) (fun _ _ _ h => h) (Or.inl ⟨by rfl, ?hdy4⟩) hS ?hdr4
        case hdy4 => (intro wx hx; (try dsimp only at hx); go_simp; try with_reducible rfl)
        try simp only [Act.put, List.setIfInBounds_toArray, List.set_cons_zero, List.set_cons_succ]
        refine hd_taken 5 (some 23) _ ?hdv5 rfl rfl (by kernel_rfl) (fun _ _ _ h => h) (Or.inl ⟨by rfl, ?hdy5⟩) hS ?hdr5
        case hdy5 => (intro wx hx; (try dsimp only at hx); go_simp; try with_reducible rfl)
        try simp only [Act.put, List.setIfInBounds_toArray, List.set_cons_zero, List.set_cons_succ]
        refine hd_taken 6 (some 24) _ ?hdv6 rfl rfl (by kernel_rfl) (fun _ _ _ h => h) (Or.inl ⟨by rfl, ?hdy6⟩) hS ?hdr6
        case hdy6 => (intro wx hx; (try dsimp only at hx); go_simp; try with_reducible rfl)
        try simp only [Act.put, List.setIfInBounds_toArray, List.set_cons_zero, List.set_cons_succ]
        refine hd_taken 7 (some 25) _ ?hdv7 rfl rfl (by kernel_rfl) (fun _ _ _ h => h) (Or.inl ⟨by rfl, ?hdy7⟩) hS ?hdr7
        case hdy7 => (intro wx hx; (try dsimp only at hx); go_simp; try with_reducible rfl)
        try simp only [Act.put, List.setIfInBounds_toArray, List.set_cons_zero, List.set_cons_succ]
        refine hd_taken 8 (some 26) _ ?hdv8 rfl rfl (by kernel_rfl) (fun _ _ _ h => h) (Or.inl ⟨by rfl, ?hdy8⟩) hS ?hdr8
        case hdy8 => (intro wx hx; (try dsimp only at hx); go_simp; try with_reducible rfl)
        try simp only [Act.put, List.setIfInBounds_toArray, List.set_cons_zero, List.set_cons_succ]
        refine hd_done (by kernel_rfl) ?_
        simp only [List.drop_succ_cons, List.drop_zero]
        clear hwe
        go_wp2
        go_roundw
        case measure => simp [intOf] <;> omega
        case rel => exact ⟨s + 1, by omega, by go_num, MN.out, KN.out, BN.out⟩
      · obtain rfl : s = k := by omega
        have h9 : ¬ (s : Int) < (s : Int) := by omega
        have KR3 := Lib.hid (Blk.belowAt KR.out B3.out hgx)
        have xf := KR3.out.frozen
        have y0 : w3.cell? ⟨g + 1, 0, none⟩ = some (.int .i64 0) := KR3.out.cell 0
        have y1 : w3.cell? ⟨g + 1, 1, none⟩ = some (.slice none 0 0) := KR3.out.cell 1
        have y2 : w3.cell? ⟨g + 1, 2, none⟩ = some (.slice none 0 0) := KR3.out.cell 2
        have n0 : w3.cell? ⟨nb, 0, none⟩ = some (.int .i64 0) := K3.out.cell 0
        have n1 : w3.cell? ⟨nb, 1, none⟩ = some (.slice (some ⟨LB, 0, none⟩) s s) := K3.out.cell 1
        have n2 : w3.cell? ⟨nb, 2, none⟩ = some (.slice (some ⟨AB, 0, none⟩) s s) := K3.out.cell 2
        have HFIN : Hid (Blk (g + 1) 29 #[.int .i64 0, .slice (some ⟨LB, 0, none⟩) s s, .slice (some ⟨AB, 0, none⟩) s s] (put3 w3 (g + 1) (.int .i64 0) (.slice (some ⟨LB, 0, none⟩) s s) (.slice (some ⟨AB, 0, none⟩) s s)) ∧ GotC2 r w (.returned (.tuple #[.agg #[.int .i64 0, .slice (some ⟨LB, 0, none⟩) s s, .slice (some ⟨AB, 0, none⟩) s s], .int .i64 0])) (put3 w3 (g + 1) (.int .i64 0) (.slice (some ⟨LB, 0, none⟩) s s) (.slice (some ⟨AB, 0, none⟩) s s))) := Lib.hid (by
          obtain ⟨p1, p2⟩ := put3_ok (n := w.heap.size) (a' := .int .i64 0) (b' := .slice (some ⟨LB, 0, none⟩) s s) (c' := .slice (some ⟨AB, 0, none⟩) s s) KR3.out (by have := HG.out; omega)
          have hg := put3_grown w3 (g + 1) (.int .i64 0) (.slice (some ⟨LB, 0, none⟩) s s) (.slice (some ⟨AB, 0, none⟩) s s)
          obtain ⟨hG, heq, hcl, hst, hkn⟩ := HGG.out
          refine ⟨p1, .inr ⟨HOK.out, compl G, cl, s, LB, CB, AB, compl_ok hG, compl_eqv heq, hcl.compl, hst.compl, hkn, rfl, MadeD.base (MadeD.grown ⟨M3.out.l, M3.out.c.congr (fun j _ => by rw [compl_outN]), M3.out.a.congr (fun i hi => by unfold boF; dsimp only; rw [if_pos hi, compl_outF G cl s hi]), M3.out.lL, M3.out.lC, M3.out.lA⟩ hg (fun b hb e => by injection e with e; omega)) HBA.out.size⟩, ?_⟩
          exact (HBA.out.trans (B3.out.mono HBA.out.size)).trans p2)
        go_wp2_with fail
        exact bodyPost_ret (v := .tuple #[.agg #[.int .i64 0, .slice (some ⟨LB, 0, none⟩) s s, .slice (some ⟨AB, 0, none⟩) s s], .int .i64 0]) (resCP rfl rfl HFIN.out.1) rfl HFIN.out.2
end Go.Proofs.Ytiljagfjgefnnaa
