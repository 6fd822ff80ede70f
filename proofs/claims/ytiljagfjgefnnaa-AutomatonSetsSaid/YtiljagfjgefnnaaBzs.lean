/- Of the reference: product. -/
import Derived.Test.YtiljagfjgefnnaaBzp
import Derived.Test.YtiljagfjgefnnaaAq
namespace Go.Proofs.Ytiljagfjgefnnaa
open Go.RowKit
set_option linter.unusedVariables false

/-- The lists q stand at these slices, whatever is done to blocks below N. -/
def Kept (q : RawD) (x1 : Option Addr) (d1 : Nat) (x2 : Option Addr) (d2 : Nat) (N : Nat) (w' : World) : Prop := ∀ (wx : World) (X : Nat → Prop), Fr X w' wx → (∀ b, X b → b < N) → RdRows wx (.slice x1 q.nx.length d1) q.nx ∧ Rd 1 encO wx (.slice x2 q.ac.length d2) q.ac
theorem Kept.put {q : RawD} {x1 x2 : Option Addr} {d1 d2 N N' b : Nat} {w' w2 : World} (h : Kept q x1 d1 x2 d2 N w') (hg : w'.grownBy w2 (some b)) (hb : b < N) (hn : N' ≤ N) : Kept q x1 d1 x2 d2 N' w2 := fun wx X hf hx =>
  h wx (fun k => k = b ∨ X k) ((Fr.grown hg (fun k e => by injection e with e; exact .inl e.symm)).trans hf (fun k _ hk => .inr hk)) (fun k hk => by
    rcases hk with e | hk
    · omega
    · have := hx k hk; omega)
theorem Kept.now {q : RawD} {x1 x2 : Option Addr} {d1 d2 N : Nat} {w' : World} (h : Kept q x1 d1 x2 d2 N w') : RdRows w' (.slice x1 q.nx.length d1) q.nx ∧ Rd 1 encO w' (.slice x2 q.ac.length d2) q.ac := h w' (fun _ => False) (Fr.refl _ _) (fun _ e => e.elim)
theorem kept_zero (N : Nat) (w' : World) : Kept zeroR none 0 none 0 N w' := fun wx X _ _ => ⟨rdRows_nil wx, rd_nil wx⟩
theorem GotB.kept {B : Aut} {ok : Bool} {n : Nat} {w w' : World} {e : Ending} (hn : n ≤ 2000) (h : GotB B ok n w e w') : ∃ (q : RawD) (pe : Int) (x1 : Option Addr) (d1 : Nat) (x2 : Option Addr) (d2 : Nat), e = .returned (.tuple #[.agg #[.int .i64 q.st, .slice x1 q.nx.length d1, .slice x2 q.ac.length d2], .int .i64 pe]) ∧ GotRaw B ok n q pe ∧ Kept q x1 d1 x2 d2 w.heap.size w' := by
  rcases h.1 with ⟨h1, h2⟩ | ⟨h1, G, cl, k, LB, CB, AB, hG, heq, hcl, hst, hkn, he, hmd⟩
  · exact ⟨zeroR, 1, none, 0, none, 0, h2, .inl ⟨h1, rfl, rfl⟩, kept_zero _ _⟩
  · have hl : (mkR (outN G cl k) (outF G cl k)).nx.length = k := by show (List.map _ _).length = k; rw [List.length_map, outN_len]
    have ha : (mkR (outN G cl k) (outF G cl k)).ac.length = k := outF_len _ _ _
    refine ⟨mkR (outN G cl k) (outF G cl k), 0, some ⟨LB, 0, none⟩, k, some ⟨AB, 0, none⟩, k, by rw [he, hl, ha]; rfl, .inr ⟨h1, rfl, ⟨G, cl, k, hG, heq, hcl, hst, by omega, rfl⟩, by rw [hl]; exact hkn⟩, fun wx X hg hne => ?_⟩
    exact made_rows ⟨hg.fn hmd.l (fun h => by have := hne _ h; have := hmd.lL; omega), hg.fn hmd.c (fun h => by have := hne _ h; have := hmd.lC; omega), hg.fn hmd.a (fun h => by have := hne _ h; have := hmd.lA; omega), hmd.lL, hmd.lC, hmd.lA⟩ (by omega) (outN_len _ _ _) (fun x hx => by
      unfold outN at hx
      obtain ⟨i, _, rfl⟩ := List.mem_map.1 hx
      exact rowK_len _ _ _ _ 11) (outF_len _ _ _)
/-- What stands in two slots behind a region that calls And or Or: a box with the automaton, the error. -/
def CutQ (B : Aut) (ok : Bool) (n : Nat) (w0 : World) (vp ve : Value) (wx : World) : Prop := ∃ (bx : Nat) (q : RawD) (pe : Int) (x1 : Option Addr) (d1 : Nat) (x2 : Option Addr) (d2 : Nat), vp = .pointer (some ⟨bx, 0, none⟩) ∧ ve = .int .i64 pe ∧ Blk bx 29 #[.int .i64 q.st, .slice x1 q.nx.length d1, .slice x2 q.ac.length d2] wx ∧ RdRows wx (.slice x1 q.nx.length d1) q.nx ∧ Rd 1 encO wx (.slice x2 q.ac.length d2) q.ac ∧ GotRaw B ok n q pe ∧ Below w0.heap.size w0 wx
theorem eqD_self (p : RawD) : eqD p p = true := eqD_yes ⟨rfl, rfl, rfl⟩
/-- The minimal automaton of B or ErrArg, as raw lists that stay. -/
def GotK (B : Aut) (ok : Bool) (n : Nat) (w : World) (e : Ending) (w' : World) : Prop := (∃ (q : RawD) (pe : Int) (x1 : Option Addr) (d1 : Nat) (x2 : Option Addr) (d2 : Nat), e = .returned (.tuple #[.agg #[.int .i64 q.st, .slice x1 q.nx.length d1, .slice x2 q.ac.length d2], .int .i64 pe]) ∧ GotRaw B ok n q pe ∧ Kept q x1 d1 x2 d2 w.heap.size w') ∧ Below w.heap.size w w'
theorem GotK.raws {B : Aut} {ok : Bool} {n : Nat} {w w' : World} {e : Ending} (h : GotK B ok n w e w') : ∃ q pe, Raws q pe e w' ∧ GotRaw B ok n q pe := by
  obtain ⟨q, pe, x1, d1, x2, d2, he, hg, hk⟩ := h.1
  exact ⟨q, pe, ⟨x1, d1, x2, d2, he, hk.now.1, hk.now.2⟩, hg⟩
theorem rows_ofNat {w : World} {pn : Option Addr} {cn i : Nat} {raws : List RawS} {l : List (List Nat)} (hi : raws.length = i) (hN : Rd 1 encS w (.slice pn i cn) raws) (hr : RowsOk w raws l) : RdRows w (.slice pn i cn) (l.map (fun x => x.map Int.ofNat)) := by
  refine ⟨raws, hN, by rw [List.length_map, hr.len], fun j h5 h6 => ?_⟩
  have h7 : j < l.length := by rw [← hr.len]; exact h5
  have := rd_ofNat (hr.rd j h5 h7)
  have e2 : (l.map (fun x => x.map Int.ofNat))[j]'h6 = (l[j]'h7).map Int.ofNat := List.getElem_map _
  rw [e2]
  exact this
theorem Fr.rows {X : Nat → Prop} {w w' : World} {raws : List RawS} {l : List (List Nat)} (h : Fr X w w') (hr : RowsOk w raws l) (hn : ∀ x ∈ raws, ∀ b, (Value.slice x.a x.n x.c).ownBlock = some b → ¬ X b) : RowsOk w' raws l := by
  refine ⟨hr.len, fun i a b => ?_, fun x hx b hb => Nat.lt_of_lt_of_le (hr.lt x hx b hb) h.size⟩
  obtain ⟨⟨a', c, e, h1, h2, hx⟩, hn'⟩ := hr.rd i a b
  have hna := hn _ (List.getElem_mem a)
  rw [e] at hna ⊢
  refine ⟨⟨a', c, rfl, h1, h2, fun hl => ?_⟩, fun n c hc => hn' n c (by rw [e]; exact hc)⟩
  obtain ⟨b', off, ha, hlt, hc⟩ := hx hl
  subst ha
  exact ⟨b', off, rfl, Nat.lt_of_lt_of_le hlt h.size, fun i x hi j u hu => (World.cell?_of_block (w := w) (a := ⟨b', off + i * 1 + j, none⟩) (h.block b' hlt (hna b' rfl))).trans (hc i x hi j u hu)⟩
/-- What minimal hands over stays. -/
theorem MinP.kept {r : RawD} {w w' : World} {e : Ending} (hd : DOk r ∧ r.nx.length ≤ 2000) (h : MinP r w e w') : ∃ (q : RawD) (x1 : Option Addr) (d1 : Nat) (x2 : Option Addr) (d2 : Nat), e = .returned (.agg #[.int .i64 q.st, .slice x1 q.nx.length d1, .slice x2 q.ac.length d2]) ∧ IsMin (toA r) q ∧ q.nx.length ≤ r.nx.length ∧ Kept q x1 d1 x2 d2 w.heap.size w' ∧ Below w.heap.size w w' := by
  obtain ⟨m, cl, a1, c1, a2, c2, raws, hc, hs, he, hN, hrows, hlo, hF, hb⟩ := h
  have hmn : m ≤ r.nx.length := hs.le hd.1.ok
  have hl : (mkR (outN (toA r) cl m) (outF (toA r) cl m)).nx.length = m := by show (List.map _ _).length = m; rw [List.length_map, outN_len]
  have ha : (mkR (outN (toA r) cl m) (outF (toA r) cl m)).ac.length = m := outF_len _ _ _
  refine ⟨mkR (outN (toA r) cl m) (outF (toA r) cl m), a1, c1, a2, c2, by rw [he, hl, ha]; rfl, ⟨toA r, cl, m, hd.1.ok, Eqv.refl _ _, hc, hs, by omega, rfl⟩, by rw [hl]; exact hmn, fun wx X hf hx => ?_, hb⟩
  have hN2 := hf.own hN (fun b hb hk => by have := (own_lt hN b hb).1; have := hx b hk; omega)
  have hF2 := hf.own hF (fun b hb hk => by have := (own_lt hF b hb).1; have := hx b hk; omega)
  have hR2 := hf.rows hrows (fun x hx' b hb hk => by have := hlo x hx' b hb; have := hx b hk; omega)
  rw [hl, ha]
  exact ⟨rows_ofNat (by rw [hrows.len, outN_len]) (hN2.rd encS_len) hR2, hF2.rd encO_len⟩
def opB (both : Bool) (x y : Bool) : Bool := x && y || !both && (x || y)
theorem opB_and : opB true = fun x y => x && y := by
  funext x y
  cases x <;> cases y <;> rfl
theorem opB_or : opB false = fun x y => x || y := by
  funext x y
  cases x <;> cases y <;> rfl
theorem stepLie2 {w : World} {base gout : Nat} {v4 v5 v8 vN vF : Value} {A : Aut} {fd : List Nat} {s c : Nat} {raws : List RawS} {l : List (List Nat)} {acc : List Bool} {f5 f8 : List Nat} (h : MS w base gout v4 v5 v8 vN vF [] f5 f8 raws l acc)
    (e5 : (rowK A id fd s (c + 1)).2 = f5) (e8 : (rowK A id fd s (c + 1)).1 = f8) : MS w base gout v4 v5 v8 vN vF [] (rowK A id fd s (c + 1)).2 (rowK A id fd s (c + 1)).1 raws l acc := by
  rw [e5, e8]
  exact h
theorem resPR {W : World} {tm : Array Value} {B : Nat} {t : TypeId} {a b c x : Value} (t2 : tm[6]?.getD undef = .pointer (some ⟨B, 0, none⟩)) (t3 : tm[7]?.getD undef = x) (h : Blk B t #[a, b, c] W) :
    (results Try.f44 tm).run Try.prog W = .ok (.tuple #[.agg #[a, b, c], x]) W := by
  have a0 : W.cell? ⟨B, 0, none⟩ = some a := h.cell 0
  have a1 : W.cell? ⟨B, 1, none⟩ = some b := h.cell 1
  have a2 : W.cell? ⟨B, 2, none⟩ = some c := h.cell 2
  simp [results, Try.f44, go_sem, t2, t3, a0, a1, a2]
set_option maxRecDepth 1000000 in
set_option maxHeartbeats 32000000 in
theorem productR_any (both : Bool) (r s : RawD) (hrs : r.nx.length * s.nx.length ≤ 2000) (a1 : Option Addr) (c1 : Nat) (a2 : Option Addr) (c2 : Nat) (a3 : Option Addr) (c3 : Nat) (a4 : Option Addr) (c4 : Nat) (w : World) (hN : RdRows w (.slice a1 r.nx.length c1) r.nx) (hF : Rd 1 encO w (.slice a2 r.ac.length c2) r.ac) (hN2 : RdRows w (.slice a3 s.nx.length c3) s.nx) (hF2 : Rd 1 encO w (.slice a4 s.ac.length c4) s.ac) :
    Calls Try.prog 44 #[.agg #[.int .i64 r.st, .slice a1 r.nx.length c1, .slice a2 r.ac.length c2], .agg #[.int .i64 s.st, .slice a3 s.nx.length c3, .slice a4 s.ac.length c4], .bool both] w (GotK (prodA (toA r) (toA s) (opB both)) (okD r && okD s) (r.nx.length * s.nx.length) w) := by
  obtain ⟨iI, hiI, hzI, hkI, hbI⟩ := info_parts Try.infoI
  obtain ⟨iO, hiO, hzO, hkO, hbO⟩ := info_parts Try.infoO
  obtain ⟨iR, hiR, hzR, hkR, hbR⟩ := info_parts Try.infoRow
  have BA := (Below.refl w.heap.size w).alloc (Nat.le_refl _) (.cells #[.int .i64 r.st, .slice a1 r.nx.length c1, .slice a2 r.ac.length c2] 25)
  have BA1 := BA.alloc BA.size (.cells #[.int .i64 s.st, .slice a3 s.nx.length c3, .slice a4 s.ac.length c4] 25)
  have BB := BA1.alloc BA1.size (.cells #[.int .i64 0, .slice none 0 0, .slice none 0 0] 25)
  have k0 := ((Blk.new w 25 #[.int .i64 r.st, .slice a1 r.nx.length c1, .slice a2 r.ac.length c2]).alloc (.cells #[.int .i64 s.st, .slice a3 s.nx.length c3, .slice a4 s.ac.length c4] 25)).alloc (.cells #[.int .i64 0, .slice none 0 0, .slice none 0 0] 25)
  have k1 := (Blk.new (w.alloc (.cells #[.int .i64 r.st, .slice a1 r.nx.length c1, .slice a2 r.ac.length c2] 25)) 25 #[.int .i64 s.st, .slice a3 s.nx.length c3, .slice a4 s.ac.length c4]).alloc (.cells #[.int .i64 0, .slice none 0 0, .slice none 0 0] 25)
  have k2 := Blk.new ((w.alloc (.cells #[.int .i64 r.st, .slice a1 r.nx.length c1, .slice a2 r.ac.length c2] 25)).alloc (.cells #[.int .i64 s.st, .slice a3 s.nx.length c3, .slice a4 s.ac.length c4] 25)) 25 #[.int .i64 0, .slice none 0 0, .slice none 0 0]
  rw [World.size_alloc] at k1
  rw [World.size_alloc, World.size_alloc] at k2
  obtain ⟨W0, hW0⟩ : ∃ W0, ((w.alloc (.cells #[.int .i64 r.st, .slice a1 r.nx.length c1, .slice a2 r.ac.length c2] 25)).alloc (.cells #[.int .i64 s.st, .slice a3 s.nx.length c3, .slice a4 s.ac.length c4] 25)).alloc (.cells #[.int .i64 0, .slice none 0 0, .slice none 0 0] 25) = W0 := ⟨_, rfl⟩
  have HN := Lib.hid (hN.below BB)
  have HF := Lib.hid (hF.below BB)
  have HM := Lib.hid (hN2.below BB)
  have HG2 := Lib.hid (hF2.below BB)
  have HB := Lib.hid BB
  have K := Lib.hid k0
  have L := Lib.hid k1
  have KR := Lib.hid k2
  rw [hW0] at HN HF HM HG2 HB K L KR
  obtain ⟨g, hg⟩ : ∃ g, w.heap.size = g := ⟨_, rfl⟩
  have HG := Lib.hid hg
  have HW0 := Lib.hid hW0
  have HRS := Lib.hid hrs
  rw [hg] at K L KR
  replace KR : Hid (Blk (g + 2) 25 #[.int .i64 0, .slice none 0 0, .slice none 0 0] W0) := KR
  have f0 : W0.cell? ⟨g, 0, none⟩ = some (.int .i64 r.st) := K.out.cell 0
  have f1 : W0.cell? ⟨g, 1, none⟩ = some (.slice a1 r.nx.length c1) := K.out.cell 1
  have f2 : W0.cell? ⟨g, 2, none⟩ = some (.slice a2 r.ac.length c2) := K.out.cell 2
  have e3 : g + 1 + 1 = g + 2 := rfl
  clear hN hF hN2 hF2 BA BA1 BB k0 k1 k2 hW0 hg hrs
  go_enter Try.func44, Try.ntmps44
  go_upto_region 1 with fail
  rw [HW0.out, HG.out]
  try rw [e3]
  clear HW0 e3
  have HV := Lib.hid (valid_any r a1 c1 a2 c2 W0 HN.out HF.out)
  go_wp2_with fail
  refine HV.out.mono ?_
  rintro e w1 ⟨rfl, b1⟩
  have HN1 := Lib.hid (HN.out.below b1)
  have HF1 := Lib.hid (HF.out.below b1)
  have HM1 := Lib.hid (HM.out.below b1)
  have HG1 := Lib.hid (HG2.out.below b1)
  have HB1 := Lib.hid (st HB.out b1 HB.out.size)
  have K1 := Lib.hid (Blk.below K.out b1)
  have L1 := Lib.hid (Blk.below L.out b1)
  have KR1 := Lib.hid (Blk.below KR.out b1)
  clear b1 f0 f1 f2 HV
  cases hok : okD r with
  | false =>
    have HOK := Lib.hid hok
    have xf := KR1.out.frozen
    have y0 : w1.cell? ⟨g + 2, 0, none⟩ = some (.int .i64 0) := KR1.out.cell 0
    have y1 : w1.cell? ⟨g + 2, 1, none⟩ = some (.slice none 0 0) := KR1.out.cell 1
    have y2 : w1.cell? ⟨g + 2, 2, none⟩ = some (.slice none 0 0) := KR1.out.cell 2
    have HFIN : Hid (Blk (g + 2) 25 #[.int .i64 0, .slice none 0 0, .slice none 0 0] (put3 w1 (g + 2) (.int .i64 0) (.slice none 0 0) (.slice none 0 0)) ∧ GotK (prodA (toA r) (toA s) (opB both)) (okD r && okD s) (r.nx.length * s.nx.length) w (.returned (.tuple #[.agg #[.int .i64 0, .slice none 0 0, .slice none 0 0], .int .i64 1])) (put3 w1 (g + 2) (.int .i64 0) (.slice none 0 0) (.slice none 0 0))) := Lib.hid (by
      obtain ⟨p1, p2⟩ := put3_ok (n := w.heap.size) (a' := .int .i64 0) (b' := .slice none 0 0) (c' := .slice none 0 0) KR1.out (by have := HG.out; omega)
      exact ⟨p1, ⟨zeroR, 1, none, 0, none, 0, rfl, .inl ⟨by rw [HOK.out]; rfl, rfl, rfl⟩, kept_zero _ _⟩, HB1.out.trans p2⟩)
    clear hok
    go_wp2_with fail
    exact bodyPost_ret (v := .tuple #[.agg #[.int .i64 0, .slice none 0 0, .slice none 0 0], .int .i64 1]) (resPR rfl rfl HFIN.out.1) rfl HFIN.out.2
  | true =>
  have HOK := Lib.hid hok
  clear hok
  have f0 : w1.cell? ⟨g + 1, 0, none⟩ = some (.int .i64 s.st) := L1.out.cell 0
  have f1 : w1.cell? ⟨g + 1, 1, none⟩ = some (.slice a3 s.nx.length c3) := L1.out.cell 1
  have f2 : w1.cell? ⟨g + 1, 2, none⟩ = some (.slice a4 s.ac.length c4) := L1.out.cell 2
  have HV := Lib.hid (valid_any s a3 c3 a4 c4 w1 HM1.out HG1.out)
  go_wp2_with fail
  refine HV.out.mono ?_
  rintro e wc ⟨rfl, b2⟩
  have HN2 := Lib.hid (HN1.out.below b2)
  have HF2 := Lib.hid (HF1.out.below b2)
  have HM2' := Lib.hid (HM1.out.below b2)
  have HG3 := Lib.hid (HG1.out.below b2)
  have HB2' := Lib.hid (st HB1.out b2 HB1.out.size)
  have KC := Lib.hid (Blk.below K1.out b2)
  have LC := Lib.hid (Blk.below L1.out b2)
  have KRC := Lib.hid (Blk.below KR1.out b2)
  clear b2 f0 f1 f2 HV HN1 HF1 HM1 HG1 HB1 K1 L1 KR1 HN HF HM HG2 K L KR HB
  cases hok : okD s with
  | false =>
    have HOK2 := Lib.hid hok
    have xf := KRC.out.frozen
    have y0 : wc.cell? ⟨g + 2, 0, none⟩ = some (.int .i64 0) := KRC.out.cell 0
    have y1 : wc.cell? ⟨g + 2, 1, none⟩ = some (.slice none 0 0) := KRC.out.cell 1
    have y2 : wc.cell? ⟨g + 2, 2, none⟩ = some (.slice none 0 0) := KRC.out.cell 2
    have HFIN : Hid (Blk (g + 2) 25 #[.int .i64 0, .slice none 0 0, .slice none 0 0] (put3 wc (g + 2) (.int .i64 0) (.slice none 0 0) (.slice none 0 0)) ∧ GotK (prodA (toA r) (toA s) (opB both)) (okD r && okD s) (r.nx.length * s.nx.length) w (.returned (.tuple #[.agg #[.int .i64 0, .slice none 0 0, .slice none 0 0], .int .i64 1])) (put3 wc (g + 2) (.int .i64 0) (.slice none 0 0) (.slice none 0 0))) := Lib.hid (by
      obtain ⟨p1, p2⟩ := put3_ok (n := w.heap.size) (a' := .int .i64 0) (b' := .slice none 0 0) (c' := .slice none 0 0) KRC.out (by have := HG.out; omega)
      exact ⟨p1, ⟨zeroR, 1, none, 0, none, 0, rfl, .inl ⟨by rw [HOK.out, HOK2.out]; rfl, rfl, rfl⟩, kept_zero _ _⟩, HB2'.out.trans p2⟩)
    clear hok
    go_wp2_with fail
    exact bodyPost_ret (v := .tuple #[.agg #[.int .i64 0, .slice none 0 0, .slice none 0 0], .int .i64 1]) (resPR rfl rfl HFIN.out.1) rfl HFIN.out.2
  | true =>
  have HOK2 := Lib.hid hok
  clear hok
  have HR := Lib.hid (okD_iff.1 HOK.out).1
  have HS := Lib.hid (okD_iff.1 HOK2.out).1
  have hn0 := HR.out.some_
  have hk0 := HS.out.some_
  have HA : Hid ((prodA (toA r) (toA s) (opB both)).Ok) := Lib.hid (prod_ok HR.out.ok HS.out.ok)
  obtain ⟨S, hS⟩ : ∃ S : Nat, r.st = (S : Int) := ⟨r.st.toNat, by have := HR.out.st0; omega⟩
  obtain ⟨T0, hT0⟩ : ∃ T : Nat, s.st = (T : Int) := ⟨s.st.toNat, by have := HS.out.st0; omega⟩
  obtain ⟨k, hk⟩ : ∃ k, s.nx.length = k := ⟨_, rfl⟩
  obtain ⟨rn, hrn⟩ : ∃ rn, r.nx.length = rn := ⟨_, rfl⟩
  obtain ⟨n, hn⟩ : ∃ n, rn * k = n := ⟨_, rfl⟩
  obtain ⟨M0, hM0⟩ : ∃ M, S * k = M := ⟨_, rfl⟩
  obtain ⟨Z, hZ⟩ : ∃ Z, M0 + T0 = Z := ⟨_, rfl⟩
  have HAN : Hid ((prodA (toA r) (toA s) (opB both)).n = n) := Lib.hid (by show r.nx.length * s.nx.length = n; rw [hk, hrn, hn])
  have HAZ : Hid ((prodA (toA r) (toA s) (opB both)).s0 = Z) := Lib.hid (by show r.st.toNat * s.nx.length + s.st.toNat = Z; rw [hS, hT0, hk, Int.toNat_natCast, Int.toNat_natCast, hM0, hZ])
  have hZn : Z < n := by have := HA.out.st; rw [HAZ.out, HAN.out] at this; exact this
  have hn2 : n ≤ 2000 := by have := HRS.out; rw [hk, hrn, hn] at this; exact this
  have HKE := Lib.hid hk
  have HRE := Lib.hid hrn
  have HNE := Lib.hid hn
  have hkp : 0 < k := by omega
  have hk2 : k ≤ 2000 := by have := (okD_iff.1 HOK2.out).2; omega
  have hrn2 : rn ≤ 2000 := by have := (okD_iff.1 HOK.out).2; omega
  have hm0 : (S : Int) * (k : Int) = (M0 : Int) := by rw [← hM0]; exact (Int.natCast_mul S k).symm
  have hz0 : (M0 : Int) + (T0 : Int) = (Z : Int) := by rw [← hZ]; exact (Int.natCast_add M0 T0).symm
  have hw0 : IntKind.i64.wrap (M0 : Int) = (M0 : Int) := by rw [IntKind.wrap_i64]; omega
  have hw1 : IntKind.i64.wrap (Z : Int) = (Z : Int) := by rw [IntKind.wrap_i64]; omega
  have f0 : wc.cell? ⟨g, 0, none⟩ = some (.int .i64 (S : Int)) := by rw [← hS]; exact KC.out.cell 0
  have f1 : wc.cell? ⟨g + 1, 0, none⟩ = some (.int .i64 (T0 : Int)) := by rw [← hT0]; exact LC.out.cell 0
  have f2 : wc.cell? ⟨g + 1, 1, none⟩ = some (.slice a3 k c3) := by rw [← hk]; exact LC.out.cell 1
  have ba := (Below.refl wc.heap.size wc).alloc (Nat.le_refl _) (.cells #[.int .i64 (Z : Nat)] 3)
  have bz := ba.alloc ba.size (.cells #[.int .i64 0, .slice none 0 0, .slice none 0 0] 25)
  have o5 := own_num wc wc.heap.size (Nat.le_refl _) Z
  have ko := Blk.new (wc.alloc (.cells #[.int .i64 (Z : Nat)] 3)) 25 #[.int .i64 0, .slice none 0 0, .slice none 0 0]
  have HMS : Hid (MS ((wc.alloc (.cells #[.int .i64 (Z : Nat)] 3)).alloc (.cells #[.int .i64 0, .slice none 0 0, .slice none 0 0] 25)) wc.heap.size (wc.heap.size + 1) (.slice none 0 0) (.slice (some ⟨wc.heap.size, 0, none⟩) 1 1) (.slice none 0 0) (.slice none 0 0) (.slice none 0 0) [] (fdK (prodA (toA r) (toA s) (opB both)) id 0) [] [] (outN (prodA (toA r) (toA s) (opB both)) id 0) (outF (prodA (toA r) (toA s) (opB both)) id 0)) := Lib.hid (by
    rw [World.size_alloc] at ko
    rw [fdK_zero, HAZ.out]
    have b2 := (Below.refl _ (wc.alloc (.cells #[.int .i64 (Z : Nat)] 3))).alloc (Nat.le_refl _) (.cells #[.int .i64 0, .slice none 0 0, .slice none 0 0] 25)
    exact ⟨⟨own1_nil _ _ _, own_below o5 b2, own1_nil _ _ _, fun b hb _ => (by cases hb), fun b hb _ => (by cases hb), fun b _ hb' => (by cases hb'), rowsOk_nil _, (fun x hx => by cases hx), apR_nil _, apR_nil _, apR_nil _, apR_nil _, apR_nil _, own1_nil _ _ _, own1_nil _ _ _⟩, ko⟩)
  have HBZ := Lib.hid bz
  clear ba bz o5 ko hS hT0 hk hrn hn hM0 hZ
  go_wp2_with fail
  obtain ⟨W1, hW1⟩ : ∃ W1, (wc.alloc (.cells #[.int .i64 (Z : Nat)] 3)).alloc (.cells #[.int .i64 0, .slice none 0 0, .slice none 0 0] 25) = W1 := ⟨_, rfl⟩
  rw [hW1] at HMS HBZ ⊢
  obtain ⟨base, hbase⟩ : ∃ base, wc.heap.size = base := ⟨_, rfl⟩
  have HBS := Lib.hid hbase
  rw [hbase] at HMS HBZ ⊢
  obtain ⟨gout, hgout⟩ : ∃ gout, base + 1 = gout := ⟨_, rfl⟩
  rw [hgout] at HMS ⊢
  have HGE := Lib.hid hgout
  clear hW1 hbase hgout f0 f1 f2 hm0 hz0 hw0 hw1
  go_loopw [9, 11] (fun v9 v11 wr => ∃ (i : Nat) (vN vF : Value) (raws : List RawS), v11 = .int .i64 (i : Nat) ∧ (∀ j, j < i → j < (fdK (prodA (toA r) (toA s) (opB both)) id j).length) ∧ i ≤ (fdK (prodA (toA r) (toA s) (opB both)) id i).length ∧ MS wr base gout (.slice none 0 0) v9 (.slice none 0 0) vN vF [] (fdK (prodA (toA r) (toA s) (opB both)) id i) [] raws (outN (prodA (toA r) (toA s) (opB both)) id i) (outF (prodA (toA r) (toA s) (opB both)) id i) ∧ Below base wc wr) (fun _ v11 _ => n + 1 - (intOf v11).toNat)
  case atStart => exact ⟨0, _, _, [], rfl, fun j h => by omega, Nat.zero_le _, HMS.out, HBZ.out⟩
  case round =>
    rename World => w1
    obtain ⟨i, vN, vF, raws, rfl, hgood, hile, hms, hb1⟩ := hrel
    have hfdok := fdK_ok id HA.out i hgood
    have hfdl : (fdK (prodA (toA r) (toA s) (opB both)) id i).length ≤ n := by have := hfdok.len; rw [HAN.out] at this; exact this
    obtain ⟨p9, q9, hp9⟩ := hms.o5.slice
    subst hp9
    have HM := Lib.hid hms
    have HB1 := Lib.hid hb1
    have HGD := Lib.hid hgood
    have HFO := Lib.hid hfdok
    have z1 := hb1.size
    clear hms hb1 hgood hfdok HMS HBZ
    obtain ⟨FD, hFD⟩ : ∃ FD, fdK (prodA (toA r) (toA s) (opB both)) id i = FD := ⟨_, rfl⟩
    have HFD := Lib.hid hFD
    rw [hFD] at HM HFO hile hfdl ⊢
    clear hFD
    by_cases hlt : i < FD.length
    · have h9 : (i : Int) < (FD.length : Int) := by omega
      obtain ⟨t, hs⟩ : ∃ s, FD.getD i 0 = s := ⟨_, rfl⟩
      have HSV := Lib.hid hs
      have hsn : t < n := by rw [← hs, ← HAN.out]; exact HFO.out.lt _ (getD_mem hlt)
      clear hs
      obtain ⟨hX0, hY0⟩ := div_lt_of (x := t) (n := rn) (k := k) (by rw [HNE.out]; exact hsn)
      obtain ⟨X, hX⟩ : ∃ X, t / k = X := ⟨_, rfl⟩
      obtain ⟨Y, hY⟩ : ∃ Y, t % k = Y := ⟨_, rfl⟩
      rw [hX] at hX0
      rw [hY] at hY0
      have HXY : Hid (t / k = X ∧ t % k = Y) := Lib.hid ⟨hX, hY⟩
      have hq1 : (t : Int) / (k : Int) = (X : Int) := by rw [← hX]; exact (Int.natCast_ediv t k).symm
      have hq2 : (t : Int).tdiv (k : Int) = (X : Int) := by rw [Int.tdiv_eq_ediv_of_nonneg (by omega)]; exact hq1
      have hr1 : (t : Int) % (k : Int) = (Y : Int) := by rw [← hY]; exact (Int.natCast_emod t k).symm
      have hr2 : (t : Int).tmod (k : Int) = (Y : Int) := by rw [Int.tmod_eq_emod_of_nonneg (by omega)]; exact hr1
      have hnk : ¬ k = 0 := by omega
      have hnk2 : ¬ (k : Int) = 0 := by omega
      have hwX : IntKind.i64.wrap (X : Int) = (X : Int) := by rw [IntKind.wrap_i64]; omega
      have hwY : IntKind.i64.wrap (Y : Int) = (Y : Int) := by rw [IntKind.wrap_i64]; omega
      obtain ⟨b9, off9, hp9, k9⟩ := (HM.out.o5.rd encN_len).nat i hlt
      subst hp9
      rw [HSV.out] at k9
      clear hX hY
      go_upto_region 9 with fail
      have hS : (fun wx : World => wx.cell? ⟨b9, off9 + i, none⟩ = some (.int .i64 (t : Nat))) w1.drew := k9
      refine region_hd 13 (fun wx : World => wx.cell? ⟨b9, off9 + i, none⟩ = some (.int .i64 (t : Nat))) (by kernel_rfl) (by kernel_rfl) ?_
      refine hd_taken 0 (some 44) _ ?hdv0 rfl rfl (by kernel_rfl) (fun _ _ _ h => h) (Or.inl ⟨by kernel_rfl, ?hdy0⟩) hS ?hdr0
      case hdy0 => (intro wx hx; (try dsimp only at hx); go_simp; try with_reducible rfl)
      try simp only [Act.put, List.setIfInBounds_toArray, List.set_cons_zero, List.set_cons_succ]
      refine hd_taken 1 (some 45) _ ?hdv1 rfl rfl (by kernel_rfl) (fun _ _ _ h => h) (Or.inl ⟨by kernel_rfl, ?hdy1⟩) hS ?hdr1
      case hdy1 => (intro wx hx; (try dsimp only at hx); go_simp; try with_reducible rfl)
      try simp only [Act.put, List.setIfInBounds_toArray, List.set_cons_zero, List.set_cons_succ]
      refine hd_taken 2 (some 46) _ ?hdv2 rfl rfl (by kernel_rfl) (fun _ _ _ h => h) (Or.inl ⟨by kernel_rfl, ?hdy2⟩) hS ?hdr2
      case hdy2 => (intro wx hx; (try dsimp only at hx); go_simp; try with_reducible rfl)
      try simp only [Act.put, List.setIfInBounds_toArray, List.set_cons_zero, List.set_cons_succ]
      refine hd_taken 3 (some 47) _ ?hdv3 rfl rfl (by kernel_rfl) (fun _ _ _ h => h) (Or.inl ⟨by kernel_rfl, ?hdy3⟩) hS ?hdr3
      case hdy3 => (intro wx hx; (try dsimp only at hx); go_simp; try with_reducible rfl)
      try simp only [Act.put, List.setIfInBounds_toArray, List.set_cons_zero, List.set_cons_succ]
      refine hd_taken 4 (some 48) _ ?hdv4 rfl rfl (by kernel_rfl) (fun _ _ _ h => h) (Or.inl ⟨by kernel_rfl, ?hdy4⟩) hS ?hdr4
      case hdy4 => (intro wx hx; (try dsimp only at hx); go_simp; try with_reducible rfl)
      try simp only [Act.put, List.setIfInBounds_toArray, List.set_cons_zero, List.set_cons_succ]
      refine hd_taken 5 (some 49) _ ?hdv5 rfl rfl (by kernel_rfl) (fun _ _ _ h => h) (Or.inl ⟨by kernel_rfl, ?hdy5⟩) hS ?hdr5
      case hdy5 => (intro wx hx; (try dsimp only at hx); go_simp; try with_reducible rfl)
      try simp only [Act.put, List.setIfInBounds_toArray, List.set_cons_zero, List.set_cons_succ]
      refine hd_taken 6 (some 50) _ ?hdv6 rfl rfl (by kernel_rfl) (fun _ _ _ h => h) (Or.inl ⟨by kernel_rfl, ?hdy6⟩) hS ?hdr6
      case hdy6 => (intro wx hx; (try dsimp only at hx); go_simp; try with_reducible rfl)
      try simp only [Act.put, List.setIfInBounds_toArray, List.set_cons_zero, List.set_cons_succ]
      refine hd_taken 7 (some 51) _ ?hdv7 rfl rfl (by kernel_rfl) (fun _ _ _ h => h) (Or.inl ⟨by kernel_rfl, ?hdy7⟩) hS ?hdr7
      case hdy7 => (intro wx hx; (try dsimp only at hx); go_simp; try with_reducible rfl)
      try simp only [Act.put, List.setIfInBounds_toArray, List.set_cons_zero, List.set_cons_succ]
      refine hd_taken 8 (some 52) _ ?hdv8 rfl rfl (by kernel_rfl) (fun _ _ _ h => h) (Or.inl ⟨by kernel_rfl, ?hdy8⟩) hS ?hdr8
      case hdy8 => (intro wx hx; (try dsimp only at hx); go_simp; try with_reducible rfl)
      try simp only [Act.put, List.setIfInBounds_toArray, List.set_cons_zero, List.set_cons_succ]
      refine hd_taken 9 (some 53) _ ?hdv9 rfl rfl (by kernel_rfl) (fun _ _ _ h => h) (Or.inl ⟨by kernel_rfl, ?hdy9⟩) hS ?hdr9
      case hdy9 => (intro wx hx; (try dsimp only at hx); go_simp; try with_reducible rfl)
      try simp only [Act.put, List.setIfInBounds_toArray, List.set_cons_zero, List.set_cons_succ]
      refine hd_taken 10 (some 54) _ ?hdv10 rfl rfl (by kernel_rfl) (fun _ _ _ h => h) (Or.inl ⟨by kernel_rfl, ?hdy10⟩) hS ?hdr10
      case hdy10 => (intro wx hx; (try dsimp only at hx); go_simp; try with_reducible rfl)
      try simp only [Act.put, List.setIfInBounds_toArray, List.set_cons_zero, List.set_cons_succ]
      refine hd_taken 11 (some 55) _ ?hdv11 rfl rfl (by kernel_rfl) (fun _ _ _ h => h) (Or.inl ⟨by kernel_rfl, ?hdy11⟩) hS ?hdr11
      case hdy11 => (intro wx hx; (try dsimp only at hx); go_simp; try with_reducible rfl)
      try simp only [Act.put, List.setIfInBounds_toArray, List.set_cons_zero, List.set_cons_succ]
      refine hd_taken 12 (some 12) _ ?hdv12 rfl rfl (by kernel_rfl) (fun _ _ _ h => h) (Or.inl ⟨by kernel_rfl, ?hdy12⟩) hS ?hdr12
      case hdy12 => (intro wx hx; (try dsimp only at hx); go_simp; try with_reducible rfl)
      try simp only [Act.put, List.setIfInBounds_toArray, List.set_cons_zero, List.set_cons_succ]
      refine hd_done (by kernel_rfl) ?_
      simp only [List.drop_succ_cons, List.drop_zero]
      have XD := (Below.refl w1.heap.size w1).drew
      have HMD := Lib.hid (HM.out.below XD)
      have HBD := Lib.hid (HB1.out.trans (XD.mono (by have := HBS.out; omega)))
      obtain ⟨wd1, hwd1⟩ : ∃ wd, w1.drew = wd := ⟨_, rfl⟩
      rw [hwd1] at HMD HBD ⊢
      have HM0 : Hid (MS wd1 base gout (.slice none 0 0) (.slice (some ⟨b9, off9, none⟩) FD.length q9) (.slice none 0 0) vN vF [] (rowK (prodA (toA r) (toA s) (opB both)) id FD t 0).2 (rowK (prodA (toA r) (toA s) (opB both)) id FD t 0).1 raws (outN (prodA (toA r) (toA s) (opB both)) id i) (outF (prodA (toA r) (toA s) (opB both)) id i)) := HMD
      clear hS k9 XD HMD hwd1 hq1 hq2 hr1 hr2 hwX hwY
      go_wp2_with fail
      go_loopw [9, 14, 15] (fun v9 v14 v15 wr => ∃ c : Nat, c ≤ 11 ∧ v15 = .int .i64 (c : Nat) ∧ MS wr base gout (.slice none 0 0) v9 v14 vN vF [] (rowK (prodA (toA r) (toA s) (opB both)) id FD t c).2 (rowK (prodA (toA r) (toA s) (opB both)) id FD t c).1 raws (outN (prodA (toA r) (toA s) (opB both)) id i) (outF (prodA (toA r) (toA s) (opB both)) id i) ∧ Below base wc wr) (fun _ _ v15 _ => 11 - (intOf v15).toNat)
      case atStart => exact ⟨0, by omega, rfl, HM0.out, HBD.out⟩
      case round =>
        rename World => wz
        obtain ⟨c, hc, rfl, hms, hb2⟩ := hrel
        have hrl : (rowK (prodA (toA r) (toA s) (opB both)) id FD t c).2.length ≤ n := by have := row_len_le HA.out HFO.out (show t < (prodA (toA r) (toA s) (opB both)).n by rw [HAN.out]; exact hsn) hc; rw [HAN.out] at this; exact this
        have hpre := rowK_pre (prodA (toA r) (toA s) (opB both)) id FD t c
        have hRl := rowK_len (prodA (toA r) (toA s) (opB both)) id FD t c
        obtain ⟨p9, q9, hp9⟩ := hms.o5.slice
        subst hp9
        obtain ⟨p8, q8, hp8⟩ := hms.o8.slice
        subst hp8
        have HM2 := Lib.hid hms
        have HB2 := Lib.hid hb2
        have z2 := hb2.size
        clear hms hb2 HM HM0 HBD
        obtain ⟨F, hF⟩ : ∃ F, (rowK (prodA (toA r) (toA s) (opB both)) id FD t c).2 = F := ⟨_, rfl⟩
        obtain ⟨R, hR⟩ : ∃ R, (rowK (prodA (toA r) (toA s) (opB both)) id FD t c).1 = R := ⟨_, rfl⟩
        have HFF := Lib.hid hF
        have HRR := Lib.hid hR
        have HE5 : Hid ((rowK (prodA (toA r) (toA s) (opB both)) id FD t (c + 1)).2 = add id F ((prodA (toA r) (toA s) (opB both)).d t c) ∧ (rowK (prodA (toA r) (toA s) (opB both)) id FD t (c + 1)).1 = R ++ [idx F ((prodA (toA r) (toA s) (opB both)).d t c)]) := Lib.hid (by
          rw [rowK_succ]
          unfold rowStp
          rw [hF, hR, idx_mid]
          exact ⟨rfl, rfl⟩)
        rw [hF, hR] at HM2
        rw [hF] at hrl hpre ⊢
        rw [hR] at hRl ⊢
        have hFl := hpre.length_le
        have HRL := Lib.hid hRl
        rw [hRl] at HM2 ⊢
        clear hF hR hpre hRl
        have HBW : Hid (Below wc.heap.size wc wz) := Lib.hid (by rw [HBS.out]; exact HB2.out)
        have zb : base ≤ wz.heap.size := by have := HBS.out; omega
        by_cases hct : c < 11
        · have h9c : (c : Int) < 11 := by omega
          have e1 : wz.cell? ⟨g, 1, none⟩ = some (.slice a1 rn c1) := by rw [← HRE.out]; exact (Blk.below KC.out HBW.out).cell 1
          have e2 : wz.cell? ⟨g + 1, 1, none⟩ = some (.slice a3 k c3) := by rw [← HKE.out]; exact (Blk.below LC.out HBW.out).cell 1
          have hX1 : X < r.nx.length := by rw [HRE.out]; exact hX0
          have hY1 : Y < s.nx.length := by rw [HKE.out]; exact hY0
          obtain ⟨b3, o3, b5, o5, x5, rfl, e3, e5⟩ := HR.out.cells (HN2.out.below HBW.out) hX1 hct
          obtain ⟨b4, o4, b6, o6, x6, rfl, e4, e6⟩ := HS.out.cells (HM2'.out.below HBW.out) hY1 hct
          have hd2 : (toA s).d Y c < k := by have := HS.out.ok.go Y c hY1 hct; rw [← HKE.out]; exact this
          have hdT : (prodA (toA r) (toA s) (opB both)).d t c < n := by have := HA.out.go t c (by rw [HAN.out]; exact hsn) hct; rw [HAN.out] at this; exact this
          have hde : (prodA (toA r) (toA s) (opB both)).d t c = (toA r).d X c * k + (toA s).d Y c := by
            show (toA r).d (t / s.nx.length) c * s.nx.length + (toA s).d (t % s.nx.length) c = _
            rw [HKE.out, HXY.out.1, HXY.out.2]
          obtain ⟨T, hT⟩ : ∃ T, (prodA (toA r) (toA s) (opB both)).d t c = T := ⟨_, rfl⟩
          obtain ⟨D1, hD1⟩ : ∃ D, (toA r).d X c = D := ⟨_, rfl⟩
          obtain ⟨D2, hD2⟩ : ∃ D, (toA s).d Y c = D := ⟨_, rfl⟩
          obtain ⟨M1, hM1⟩ : ∃ M, D1 * k = M := ⟨_, rfl⟩
          rw [hT] at hdT HE5 hde
          rw [hD1] at e5 hde
          rw [hD2] at e6 hde
          rw [hM1] at hde
          have hm1 : (D1 : Int) * (k : Int) = (M1 : Int) := by rw [← hM1]; exact (Int.natCast_mul D1 k).symm
          have ht1 : (M1 : Int) + (D2 : Int) = (T : Int) := by rw [hde]; exact (Int.natCast_add M1 D2).symm
          have hw1 : IntKind.i64.wrap (M1 : Int) = (M1 : Int) := by rw [IntKind.wrap_i64]; omega
          have hw2 : IntKind.i64.wrap (T : Int) = (T : Int) := by rw [IntKind.wrap_i64]; omega
          have h6 : (X : Int) < (rn : Int) := by omega
          have h7 : (Y : Int) < (k : Int) := by omega
          clear hT hD1 hD2 hM1 hde hd2 hX1 hY1
          go_upto_region 14 with fail
          have hS : (fun wx : World => wx.cell? ⟨g, 1, none⟩ = some (.slice (some ⟨b3, o3, none⟩) rn c1) ∧ wx.cell? ⟨g + 1, 1, none⟩ = some (.slice (some ⟨b4, o4, none⟩) k c3) ∧ wx.cell? ⟨b3, o3 + X, none⟩ = some (.slice (some ⟨b5, o5, none⟩) 11 x5) ∧ wx.cell? ⟨b5, o5 + c, none⟩ = some (.int .i64 (D1 : Nat)) ∧ wx.cell? ⟨b4, o4 + Y, none⟩ = some (.slice (some ⟨b6, o6, none⟩) 11 x6) ∧ wx.cell? ⟨b6, o6 + c, none⟩ = some (.int .i64 (D2 : Nat))) wz.drew := ⟨e1, e2, e3, e5, e4, e6⟩
          refine region_hd 19 (fun wx : World => wx.cell? ⟨g, 1, none⟩ = some (.slice (some ⟨b3, o3, none⟩) rn c1) ∧ wx.cell? ⟨g + 1, 1, none⟩ = some (.slice (some ⟨b4, o4, none⟩) k c3) ∧ wx.cell? ⟨b3, o3 + X, none⟩ = some (.slice (some ⟨b5, o5, none⟩) 11 x5) ∧ wx.cell? ⟨b5, o5 + c, none⟩ = some (.int .i64 (D1 : Nat)) ∧ wx.cell? ⟨b4, o4 + Y, none⟩ = some (.slice (some ⟨b6, o6, none⟩) 11 x6) ∧ wx.cell? ⟨b6, o6 + c, none⟩ = some (.int .i64 (D2 : Nat))) (by kernel_rfl) (by kernel_rfl) ?_
          refine hd_taken 0 (some 60) _ ?hdva0 rfl rfl (by kernel_rfl) (fun _ _ _ h => h) (Or.inl ⟨by kernel_rfl, ?hdya0⟩) hS ?hdra0
          case hdya0 => (intro wx hx; (try dsimp only at hx); go_simp; try with_reducible rfl)
          try simp only [Act.put, List.setIfInBounds_toArray, List.set_cons_zero, List.set_cons_succ]
          refine hd_taken 1 (some 61) _ ?hdva1 rfl rfl (by kernel_rfl) (fun _ _ _ h => h) (Or.inl ⟨by kernel_rfl, ?hdya1⟩) hS ?hdra1
          case hdya1 => (intro wx hx; (try dsimp only at hx); go_simp; try with_reducible rfl)
          try simp only [Act.put, List.setIfInBounds_toArray, List.set_cons_zero, List.set_cons_succ]
          refine hd_taken 2 (some 62) _ ?hdva2 rfl rfl (by kernel_rfl) (fun _ _ _ h => h) (Or.inl ⟨by kernel_rfl, ?hdya2⟩) hS ?hdra2
          case hdya2 => (intro wx hx; (try dsimp only at hx); go_simp; try with_reducible rfl)
          try simp only [Act.put, List.setIfInBounds_toArray, List.set_cons_zero, List.set_cons_succ]
          refine hd_taken 3 (some 63) _ ?hdva3 rfl rfl (by kernel_rfl) (fun _ _ _ h => h) (Or.inl ⟨by kernel_rfl, ?hdya3⟩) hS ?hdra3
          case hdya3 => (intro wx hx; (try dsimp only at hx); go_simp; try with_reducible rfl)
          try simp only [Act.put, List.setIfInBounds_toArray, List.set_cons_zero, List.set_cons_succ]
          refine hd_taken 4 (some 64) _ ?hdva4 rfl rfl (by kernel_rfl) (fun _ _ _ h => h) (Or.inl ⟨by kernel_rfl, ?hdya4⟩) hS ?hdra4
          case hdya4 => (intro wx hx; (try dsimp only at hx); go_simp; try with_reducible rfl)
          try simp only [Act.put, List.setIfInBounds_toArray, List.set_cons_zero, List.set_cons_succ]
          refine hd_taken 5 (some 65) _ ?hdva5 rfl rfl (by kernel_rfl) (fun _ _ _ h => h) (Or.inl ⟨by kernel_rfl, ?hdya5⟩) hS ?hdra5
          case hdya5 => (intro wx hx; (try dsimp only at hx); go_simp; try with_reducible rfl)
          try simp only [Act.put, List.setIfInBounds_toArray, List.set_cons_zero, List.set_cons_succ]
          refine hd_taken 6 (some 66) _ ?hdva6 rfl rfl (by kernel_rfl) (fun _ _ _ h => h) (Or.inl ⟨by kernel_rfl, ?hdya6⟩) hS ?hdra6
          case hdya6 => (intro wx hx; (try dsimp only at hx); go_simp; try with_reducible rfl)
          try simp only [Act.put, List.setIfInBounds_toArray, List.set_cons_zero, List.set_cons_succ]
          refine hd_taken 7 (some 67) _ ?hdva7 rfl rfl (by kernel_rfl) (fun _ _ _ h => h) (Or.inl ⟨by kernel_rfl, ?hdya7⟩) hS ?hdra7
          case hdya7 => (intro wx hx; (try dsimp only at hx); go_simp; try with_reducible rfl)
          try simp only [Act.put, List.setIfInBounds_toArray, List.set_cons_zero, List.set_cons_succ]
          refine hd_taken 8 (some 68) _ ?hdva8 rfl rfl (by kernel_rfl) (fun _ _ _ h => h) (Or.inl ⟨by kernel_rfl, ?hdya8⟩) hS ?hdra8
          case hdya8 => (intro wx hx; (try dsimp only at hx); go_simp; try with_reducible rfl)
          try simp only [Act.put, List.setIfInBounds_toArray, List.set_cons_zero, List.set_cons_succ]
          refine hd_taken 9 (some 69) _ ?hdva9 rfl rfl (by kernel_rfl) (fun _ _ _ h => h) (Or.inl ⟨by kernel_rfl, ?hdya9⟩) hS ?hdra9
          case hdya9 => (intro wx hx; (try dsimp only at hx); go_simp; try with_reducible rfl)
          try simp only [Act.put, List.setIfInBounds_toArray, List.set_cons_zero, List.set_cons_succ]
          refine hd_taken 10 (some 70) _ ?hdva10 rfl rfl (by kernel_rfl) (fun _ _ _ h => h) (Or.inl ⟨by kernel_rfl, ?hdya10⟩) hS ?hdra10
          case hdya10 => (intro wx hx; (try dsimp only at hx); go_simp; try with_reducible rfl)
          try simp only [Act.put, List.setIfInBounds_toArray, List.set_cons_zero, List.set_cons_succ]
          refine hd_taken 11 (some 71) _ ?hdva11 rfl rfl (by kernel_rfl) (fun _ _ _ h => h) (Or.inl ⟨by kernel_rfl, ?hdya11⟩) hS ?hdra11
          case hdya11 => (intro wx hx; (try dsimp only at hx); go_simp; try with_reducible rfl)
          try simp only [Act.put, List.setIfInBounds_toArray, List.set_cons_zero, List.set_cons_succ]
          refine hd_taken 12 (some 72) _ ?hdva12 rfl rfl (by kernel_rfl) (fun _ _ _ h => h) (Or.inl ⟨by kernel_rfl, ?hdya12⟩) hS ?hdra12
          case hdya12 => (intro wx hx; (try dsimp only at hx); go_simp; try with_reducible rfl)
          try simp only [Act.put, List.setIfInBounds_toArray, List.set_cons_zero, List.set_cons_succ]
          refine hd_taken 13 (some 73) _ ?hdva13 rfl rfl (by kernel_rfl) (fun _ _ _ h => h) (Or.inl ⟨by kernel_rfl, ?hdya13⟩) hS ?hdra13
          case hdya13 => (intro wx hx; (try dsimp only at hx); go_simp; try with_reducible rfl)
          try simp only [Act.put, List.setIfInBounds_toArray, List.set_cons_zero, List.set_cons_succ]
          refine hd_taken 14 (some 74) _ ?hdva14 rfl rfl (by kernel_rfl) (fun _ _ _ h => h) (Or.inl ⟨by kernel_rfl, ?hdya14⟩) hS ?hdra14
          case hdya14 => (intro wx hx; (try dsimp only at hx); go_simp; try with_reducible rfl)
          try simp only [Act.put, List.setIfInBounds_toArray, List.set_cons_zero, List.set_cons_succ]
          refine hd_taken 15 (some 75) _ ?hdva15 rfl rfl (by kernel_rfl) (fun _ _ _ h => h) (Or.inl ⟨by kernel_rfl, ?hdya15⟩) hS ?hdra15
          case hdya15 => (intro wx hx; (try dsimp only at hx); go_simp; try with_reducible rfl)
          try simp only [Act.put, List.setIfInBounds_toArray, List.set_cons_zero, List.set_cons_succ]
          refine hd_taken 16 (some 76) _ ?hdva16 rfl rfl (by kernel_rfl) (fun _ _ _ h => h) (Or.inl ⟨by kernel_rfl, ?hdya16⟩) hS ?hdra16
          case hdya16 => (intro wx hx; (try dsimp only at hx); go_simp; try with_reducible rfl)
          try simp only [Act.put, List.setIfInBounds_toArray, List.set_cons_zero, List.set_cons_succ]
          refine hd_taken 17 (some 77) _ ?hdva17 rfl rfl (by kernel_rfl) (fun _ _ _ h => h) (Or.inl ⟨by kernel_rfl, ?hdya17⟩) hS ?hdra17
          case hdya17 => (intro wx hx; (try dsimp only at hx); go_simp; try with_reducible rfl)
          try simp only [Act.put, List.setIfInBounds_toArray, List.set_cons_zero, List.set_cons_succ]
          refine hd_taken 18 (some 78) _ ?hdva18 rfl rfl (by kernel_rfl) (fun _ _ _ h => h) (Or.inl ⟨by kernel_rfl, ?hdya18⟩) hS ?hdra18
          case hdya18 => (intro wx hx; (try dsimp only at hx); go_simp; try with_reducible rfl)
          try simp only [Act.put, List.setIfInBounds_toArray, List.set_cons_zero, List.set_cons_succ]
          refine hd_done (by kernel_rfl) ?_
          simp only [List.drop_succ_cons, List.drop_zero]
          have XD := (Below.refl wz.heap.size wz).drew
          have HMQ := Lib.hid (HM2.out.below XD)
          have HBQ := Lib.hid (HB2.out.trans (XD.mono zb))
          obtain ⟨wd, hwd⟩ : ∃ wd, wz.drew = wd := ⟨_, rfl⟩
          rw [hwd] at HMQ HBQ ⊢
          have zd : base ≤ wd.heap.size := by rw [← hwd]; exact Nat.le_trans zb XD.size
          have HIQ := Lib.hid (index_any p9 q9 F T wd (HMQ.out.o5.rd encN_len))
          clear hS XD hwd e1 e2 e3 e4 e5 e6 hm1 ht1 hw1 hw2
          have hR1 : R.length ≤ 1000000000 := by rw [HRL.out]; omega
          have hF1 : F.length ≤ 1000000000 := by omega
          by_cases hV : idx F T < F.length
          · have HV1 : Hid (idxV F T = (idx F T : Int)) := Lib.hid (idxV_pos hV)
            have HAD : Hid (add id F T = F) := Lib.hid (add_old (by rw [idx_mid]; exact hV))
            obtain ⟨V, hVe⟩ : ∃ V, idx F T = V := ⟨_, rfl⟩
            rw [hVe] at HV1 HE5
            rw [HV1.out] at HIQ
            have t0 : ¬ (V : Int) < 0 := by omega
            clear hVe hV HV1
            go_wp2_with fail
            refine HIQ.out.mono ?_
            rintro e we ⟨rfl, hwe⟩
            obtain rfl := hwe.symm
            clear hwe HIQ
            go_wp2_with (first | (at_builtin; refine wpList_append_lie (w0 := wd) (x := V) (N := wd.heap.size) rfl rfl _ _ 56 rfl base iI _ 8 Try.underlying56 hiI hzI hkI hbI (by omega) rfl (by omega) encN_len encN_one _ (R) rfl rfl (HMQ.out.o8) rfl hR1 zd ?_; intro v9 w9 y1) | go_in)
            have HST := Lib.hid (stepLie2 (HMQ.out.g8 y1) (by rw [HE5.out.1, HAD.out]) HE5.out.2)
            have HB9 := Lib.hid (HBQ.out.trans y1.2.1)
            clear y1
            go_wp2
            go_roundw
            case measure => simp [intOf] <;> omega
            case rel => exact ⟨c + 1, by omega, by go_num, HST.out, HB9.out⟩
          · have HV1 : Hid (idxV F T = -1) := Lib.hid (idxV_neg hV)
            have HAD : Hid (add id F T = F ++ [T]) := Lib.hid (add_new (by rw [idx_mid]; exact hV))
            have HVF : Hid (idx F T = F.length) := Lib.hid (by have := idx_le F T; omega)
            rw [HV1.out] at HIQ
            rw [HVF.out] at HE5
            obtain ⟨m, hm⟩ : ∃ m, F.length = m := ⟨_, rfl⟩
            have HMF := Lib.hid hm
            rw [hm] at HIQ HE5 HMQ ⊢
            clear hV HV1
            go_wp2_with fail
            refine HIQ.out.mono ?_
            rintro e we ⟨rfl, hwe⟩
            obtain rfl := hwe.symm
            clear hwe HIQ
            go_wp2_with (first | (at_builtin; refine wpList_append_lie (w0 := wd) (x := T) (N := wd.heap.size) rfl rfl _ _ 56 rfl base iI _ 8 Try.underlying56 hiI hzI hkI hbI (by omega) rfl (by omega) encN_len encN_one _ (F) rfl rfl (HMQ.out.o5) rfl hF1 zd ?_; intro v10 w10 y2; have M2 := HMQ.out.g5 y2; have B2 := HBQ.out.trans y2.2.1; have zd2 := Nat.le_trans zd y2.2.1.size) | (at_builtin; refine wpList_append_lie (w0 := w10) (x := m) (N := w10.heap.size) rfl rfl _ _ 56 rfl base iI _ 8 Try.underlying56 hiI hzI hkI hbI (by omega) rfl (by omega) encN_len encN_one _ (R) rfl rfl (M2.o8) rfl hR1 zd2 ?_; intro v11 w11 y3) | go_in)
            have HST := Lib.hid (stepLie2 (M2.g8 y3) (by rw [HE5.out.1, HAD.out]) HE5.out.2)
            have HB9 := Lib.hid (B2.trans y3.2.1)
            clear y2 y3 M2 B2
            go_wp2
            go_roundw
            case measure => simp [intOf] <;> omega
            case rel => exact ⟨c + 1, by omega, by go_num, HST.out, HB9.out⟩
        · obtain rfl : c = 11 := by omega
          have hX1 : X < r.nx.length := by rw [HRE.out]; exact hX0
          have hY1 : Y < s.nx.length := by rw [HKE.out]; exact hY0
          obtain ⟨rl, hrlE⟩ : ∃ rl, r.ac.length = rl := ⟨_, rfl⟩
          obtain ⟨sl, hslE⟩ : ∃ sl, s.ac.length = sl := ⟨_, rfl⟩
          have hXa : (X : Int) < (rl : Int) := by rw [← hrlE, HR.out.ac, HRE.out]; omega
          have hYa : (Y : Int) < (sl : Int) := by rw [← hslE, HS.out.ac, HKE.out]; omega
          obtain ⟨bf, of, ea2, kf⟩ := (HF2.out.below HBW.out).boo X (by rw [HR.out.ac]; exact hX1)
          subst ea2
          obtain ⟨bg, og, ea4, kg⟩ := (HG3.out.below HBW.out).boo Y (by rw [HS.out.ac]; exact hY1)
          subst ea4
          have HFV : Hid ((prodA (toA r) (toA s) (opB both)).f t = opB both (r.ac.getD X false) (s.ac.getD Y false)) := Lib.hid (by
            show opB both ((toA r).f (t / s.nx.length)) ((toA s).f (t % s.nx.length)) = _
            rw [HKE.out, HXY.out.1, HXY.out.2]
            rfl)
          obtain ⟨fx, hfx⟩ : ∃ fx, r.ac.getD X false = fx := ⟨_, rfl⟩
          obtain ⟨fy, hfy⟩ : ∃ fy, s.ac.getD Y false = fy := ⟨_, rfl⟩
          rw [hfx] at kf HFV
          rw [hfy] at kg HFV
          have HFX := Lib.hid hfx
          have HFY := Lib.hid hfy
          clear hfx hfy
          have hrw : raws.length ≤ 1000000000 := by rw [HM2.out.rows.len, outN_len]; omega
          have hoF : (outF (prodA (toA r) (toA s) (opB both)) id i).length ≤ 1000000000 := by rw [outF_len]; omega
          have HGO : Hid (base ≤ gout) := Lib.hid (by have := HGE.out; omega)
          have HC5 : Hid (∀ wx, Blk gout 25 #[.int .i64 0, vN, vF] wx → Below base wc wx → (fun wx : World => wx.cell? ⟨gout, 1, none⟩ = some vN ∧ wx.cell? ⟨gout, 2, none⟩ = some vF ∧ wx.cell? ⟨g, 2, none⟩ = some (.slice (some ⟨bf, of, none⟩) rl c2) ∧ wx.cell? ⟨g + 1, 2, none⟩ = some (.slice (some ⟨bg, og, none⟩) sl c4) ∧ wx.cell? ⟨bf, of + X, none⟩ = some (.bool fx) ∧ wx.cell? ⟨bg, og + Y, none⟩ = some (.bool fy)) wx) := Lib.hid (by
            intro wx h2 h3
            have h3' : Below wc.heap.size wc wx := by rw [HBS.out]; exact h3
            obtain ⟨b7, off7, e7, k7⟩ := (HF2.out.below h3').boo X (by rw [HR.out.ac]; exact hX1)
            cases e7
            rw [HFX.out] at k7
            obtain ⟨b8, off8, e8, k8⟩ := (HG3.out.below h3').boo Y (by rw [HS.out.ac]; exact hY1)
            cases e8
            rw [HFY.out] at k8
            exact ⟨h2.cell 1, h2.cell 2, by rw [← hrlE]; exact (Blk.below KC.out h3').cell 2, by rw [← hslE]; exact (Blk.below LC.out h3').cell 2, k7, k8⟩)
          clear hrlE hslE
          go_upto_region 20 with fail
          have XD := (Below.refl wz.heap.size wz).drew
          have MD := HM2.out.below XD
          have CD := Lib.hid (HB2.out.trans (XD.mono zb))
          obtain ⟨wd, hwd⟩ : ∃ wd, wz.drew = wd := ⟨_, rfl⟩
          rw [hwd] at MD CD
          have M0x := Lib.hid MD.toMS1
          have K0x := Lib.hid MD.ko
          have zd : base ≤ wd.heap.size := by rw [← hwd]; exact Nat.le_trans zb XD.size
          have hS : (fun wx : World => wx.cell? ⟨gout, 1, none⟩ = some vN ∧ wx.cell? ⟨gout, 2, none⟩ = some vF ∧ wx.cell? ⟨g, 2, none⟩ = some (.slice (some ⟨bf, of, none⟩) rl c2) ∧ wx.cell? ⟨g + 1, 2, none⟩ = some (.slice (some ⟨bg, og, none⟩) sl c4) ∧ wx.cell? ⟨bf, of + X, none⟩ = some (.bool fx) ∧ wx.cell? ⟨bg, og + Y, none⟩ = some (.bool fy)) wd := HC5.out _ K0x.out CD.out
          clear XD MD kf kg
          refine region_hd 40 (fun wx : World => wx.cell? ⟨gout, 1, none⟩ = some vN ∧ wx.cell? ⟨gout, 2, none⟩ = some vF ∧ wx.cell? ⟨g, 2, none⟩ = some (.slice (some ⟨bf, of, none⟩) rl c2) ∧ wx.cell? ⟨g + 1, 2, none⟩ = some (.slice (some ⟨bg, og, none⟩) sl c4) ∧ wx.cell? ⟨bf, of + X, none⟩ = some (.bool fx) ∧ wx.cell? ⟨bg, og + Y, none⟩ = some (.bool fy)) (by kernel_rfl) (by kernel_rfl) ?_
          rw [hwd]
          clear hwd
          refine hd_taken 0 (some 94) _ ?hdvb0 rfl rfl (by kernel_rfl) (fun _ _ _ h => h) (Or.inl ⟨by kernel_rfl, ?hdyb0⟩) hS ?hdrb0
          case hdyb0 => (intro wx hx; (try dsimp only at hx); go_simp; try with_reducible rfl)
          try simp only [Act.put, List.setIfInBounds_toArray, List.set_cons_zero, List.set_cons_succ]
          refine hd_taken 1 (some 95) _ ?hdvb1 rfl rfl (by kernel_rfl) (fun _ _ _ h => h) (Or.inl ⟨by kernel_rfl, ?hdyb1⟩) hS ?hdrb1
          case hdyb1 => (intro wx hx; (try dsimp only at hx); go_simp; try with_reducible rfl)
          try simp only [Act.put, List.setIfInBounds_toArray, List.set_cons_zero, List.set_cons_succ]
          refine hd_taken 2 (some 96) _ ?hdvb2 rfl rfl (by kernel_rfl) (fun _ _ _ h => h) (Or.inl ⟨by kernel_rfl, ?hdyb2⟩) hS ?hdrb2
          case hdyb2 => (intro wx hx; (try dsimp only at hx); go_simp; try with_reducible rfl)
          try simp only [Act.put, List.setIfInBounds_toArray, List.set_cons_zero, List.set_cons_succ]
          refine hd_taken 5 (some 99) _ ?hdvb5 rfl rfl (by kernel_rfl) (fun _ _ _ h => h) (Or.inl ⟨by kernel_rfl, ?hdyb5⟩) hS ?hdrb5
          case hdyb5 => (intro wx hx; (try dsimp only at hx); go_simp; try with_reducible rfl)
          try simp only [Act.put, List.setIfInBounds_toArray, List.set_cons_zero, List.set_cons_succ]
          refine hd_taken 6 (some 100) _ ?hdvb6 rfl rfl (by kernel_rfl) (fun _ _ _ h => h) (Or.inl ⟨by kernel_rfl, ?hdyb6⟩) hS ?hdrb6
          case hdyb6 => (intro wx hx; (try dsimp only at hx); go_simp; try with_reducible rfl)
          try simp only [Act.put, List.setIfInBounds_toArray, List.set_cons_zero, List.set_cons_succ]
          refine hd_taken 7 (some 101) _ ?hdvb7 rfl rfl (by kernel_rfl) (fun _ _ _ h => h) (Or.inl ⟨by kernel_rfl, ?hdyb7⟩) hS ?hdrb7
          case hdyb7 => (intro wx hx; (try dsimp only at hx); go_simp; try with_reducible rfl)
          try simp only [Act.put, List.setIfInBounds_toArray, List.set_cons_zero, List.set_cons_succ]
          refine hd_taken 8 (some 102) _ ?hdvb8 rfl rfl (by kernel_rfl) (fun _ _ _ h => h) (Or.inl ⟨by kernel_rfl, ?hdyb8⟩) hS ?hdrb8
          case hdyb8 => (intro wx hx; (try dsimp only at hx); go_simp; try with_reducible rfl)
          try simp only [Act.put, List.setIfInBounds_toArray, List.set_cons_zero, List.set_cons_succ]
          refine hd_taken 9 (some 103) _ ?hdvb9 rfl rfl (by kernel_rfl) (fun _ _ _ h => h) (Or.inl ⟨by kernel_rfl, ?hdyb9⟩) hS ?hdrb9
          case hdyb9 => (intro wx hx; (try dsimp only at hx); go_simp; try with_reducible rfl)
          try simp only [Act.put, List.setIfInBounds_toArray, List.set_cons_zero, List.set_cons_succ]
          refine hd_taken 10 (some 104) _ ?hdvb10 rfl rfl (by kernel_rfl) (fun _ _ _ h => h) (Or.inl ⟨by kernel_rfl, ?hdyb10⟩) hS ?hdrb10
          case hdyb10 => (intro wx hx; (try dsimp only at hx); go_simp; try with_reducible rfl)
          try simp only [Act.put, List.setIfInBounds_toArray, List.set_cons_zero, List.set_cons_succ]
          refine hd_taken 11 (some 105) _ ?hdvb11 rfl rfl (by kernel_rfl) (fun _ _ _ h => h) (Or.inl ⟨by kernel_rfl, ?hdyb11⟩) hS ?hdrb11
          case hdyb11 => (intro wx hx; (try dsimp only at hx); go_simp; try with_reducible rfl)
          try simp only [Act.put, List.setIfInBounds_toArray, List.set_cons_zero, List.set_cons_succ]
          refine hd_listA [3] (by kernel_rfl) (by decide) (by decide) (fun i hi => ?_)
          simp only [List.mem_cons, List.not_mem_nil, or_false] at hi
          subst hi
          refine ⟨_, rfl, fun K3 hK3 => ?_⟩
          go_simp
          obtain ⟨w3x, hw3⟩ : ∃ wx, wd.alloc (.cells #[.slice p8 11 q8] 56) = wx := ⟨_, rfl⟩
          have b3 := (Below.refl wd.heap.size wd).alloc (Nat.le_refl _) (.cells #[.slice p8 11 q8] 56)
          have f3 := Blk.new wd 56 #[.slice p8 11 q8]
          rw [hw3] at b3 f3 ⊢
          obtain ⟨B3, hB3⟩ : ∃ B, wd.heap.size = B := ⟨_, rfl⟩
          rw [hB3] at f3 ⊢
          have kA := Lib.hid f3
          have M3 := Lib.hid (M0x.out.below b3)
          have KO3 := Lib.hid (Blk.below K0x.out b3)
          have C3 := Lib.hid (CD.out.trans (b3.mono zd))
          have z3 : base ≤ w3x.heap.size := Nat.le_trans zd b3.size
          have hS3 : (fun wx : World => wx.cell? ⟨gout, 1, none⟩ = some vN ∧ wx.cell? ⟨gout, 2, none⟩ = some vF ∧ wx.cell? ⟨g, 2, none⟩ = some (.slice (some ⟨bf, of, none⟩) rl c2) ∧ wx.cell? ⟨g + 1, 2, none⟩ = some (.slice (some ⟨bg, og, none⟩) sl c4) ∧ wx.cell? ⟨bf, of + X, none⟩ = some (.bool fx) ∧ wx.cell? ⟨bg, og + Y, none⟩ = some (.bool fy)) w3x := HC5.out _ KO3.out C3.out
          clear hw3 b3 f3 hB3
          refine hK3.out _ _ hS3 ?_
          clear hK3 K3
          try simp only [Act.put, List.setIfInBounds_toArray, List.set_cons_zero, List.set_cons_succ]
          refine hd_listA [4] (by kernel_rfl) (by decide) (by decide) (fun i hi => ?_)
          simp only [List.mem_cons, List.not_mem_nil, or_false] at hi
          subst hi
          refine ⟨_, rfl, fun K4 hK4 => ?_⟩
          refine step_append_blk (w := w3x) (x := (⟨p8, 11, q8⟩ : RawS)) (by rfl) _ _ 22 (by rfl) base iR _ 24 Try.underlying22 hiR hzR hkR hbR (by omega) rfl (by omega) encS_len encS_one _ raws (by rfl) (by rfl) M3.out.oN (by rfl) kA.out hrw z3 ?_
          intro v1 w4x y1
          obtain ⟨pv1, nv1, cv1, hv1⟩ := lie_slice y1
          subst hv1
          have M4 := Lib.hid (M3.out.gN y1)
          have KO4 := Lib.hid (y1.blk KO3.out (own_type M3.out.oN KO3.out (by decide))).1
          have C4 := Lib.hid (C3.out.trans y1.2.1)
          have z4 : base ≤ w4x.heap.size := Nat.le_trans z3 y1.2.1.size
          have hS4 : (fun wx : World => wx.cell? ⟨gout, 1, none⟩ = some vN ∧ wx.cell? ⟨gout, 2, none⟩ = some vF ∧ wx.cell? ⟨g, 2, none⟩ = some (.slice (some ⟨bf, of, none⟩) rl c2) ∧ wx.cell? ⟨g + 1, 2, none⟩ = some (.slice (some ⟨bg, og, none⟩) sl c4) ∧ wx.cell? ⟨bf, of + X, none⟩ = some (.bool fx) ∧ wx.cell? ⟨bg, og + Y, none⟩ = some (.bool fy)) w4x := HC5.out _ KO4.out C4.out
          clear y1
          refine hK4.out _ _ hS4 ?_
          change HdG _ _ _ _ _ _ _ _ (Act.put _ (some 98) _) _
          clear hK4 K4 hS3 hS
          try simp only [Act.put, List.setIfInBounds_toArray, List.set_cons_zero, List.set_cons_succ]
          have HNX : Hid (fdK (prodA (toA r) (toA s) (opB both)) id (i + 1) = F ∧ outN (prodA (toA r) (toA s) (opB both)) id (i + 1) = outN (prodA (toA r) (toA s) (opB both)) id i ++ [R] ∧ outF (prodA (toA r) (toA s) (opB both)) id (i + 1) = outF (prodA (toA r) (toA s) (opB both)) id i ++ [opB both fx fy]) := Lib.hid (by
            refine ⟨by rw [fdK_succ, HFD.out, HSV.out, HFF.out], ?_, ?_⟩
            · rw [outN_succ]
              unfold rowsK
              rw [HFD.out, HSV.out, HRR.out]
            · rw [outF_succ (by rw [HFD.out]; exact hlt), HFD.out, HSV.out, HFV.out])
          cases fx with
          | false =>
            cases both with
            | true =>
              have HNX : Hid (fdK (prodA (toA r) (toA s) (opB true)) id (i + 1) = F ∧ outN (prodA (toA r) (toA s) (opB true)) id (i + 1) = outN (prodA (toA r) (toA s) (opB true)) id i ++ [R] ∧ outF (prodA (toA r) (toA s) (opB true)) id (i + 1) = outF (prodA (toA r) (toA s) (opB true)) id i ++ [false]) := HNX
              refine hd_taken 12 (some 106) _ ?hdvc12 rfl rfl (by kernel_rfl) (fun _ _ _ h => h) (Or.inl ⟨by kernel_rfl, ?hdyc12⟩) hS4 ?hdrc12
              case hdyc12 => (intro wx hx; (try dsimp only at hx); go_simp; try with_reducible rfl)
              try simp only [Act.put, List.setIfInBounds_toArray, List.set_cons_zero, List.set_cons_succ]
              refine hd_taken 13 (some 107) _ undef rfl rfl (by kernel_rfl) (fun _ _ _ h => h) (Or.inr ⟨by kernel_rfl, rfl⟩) hS4 ?_
              try simp only [Act.put, List.setIfInBounds_toArray, List.set_cons_zero, List.set_cons_succ]
              refine hd_taken 14 (some 108) _ undef rfl rfl (by kernel_rfl) (fun _ _ _ h => h) (Or.inr ⟨by kernel_rfl, rfl⟩) hS4 ?_
              try simp only [Act.put, List.setIfInBounds_toArray, List.set_cons_zero, List.set_cons_succ]
              refine hd_taken 15 (some 109) _ undef rfl rfl (by kernel_rfl) (fun _ _ _ h => h) (Or.inr ⟨by kernel_rfl, rfl⟩) hS4 ?_
              try simp only [Act.put, List.setIfInBounds_toArray, List.set_cons_zero, List.set_cons_succ]
              refine hd_taken 16 (some 110) _ undef rfl rfl (by kernel_rfl) (fun _ _ _ h => h) (Or.inr ⟨by kernel_rfl, rfl⟩) hS4 ?_
              try simp only [Act.put, List.setIfInBounds_toArray, List.set_cons_zero, List.set_cons_succ]
              refine hd_taken 17 (some 111) _ undef rfl rfl (by kernel_rfl) (fun _ _ _ h => h) (Or.inr ⟨by kernel_rfl, rfl⟩) hS4 ?_
              try simp only [Act.put, List.setIfInBounds_toArray, List.set_cons_zero, List.set_cons_succ]
              refine hd_taken 18 (some 112) _ ?hdvd18 rfl rfl (by kernel_rfl) (fun _ _ _ h => h) (Or.inl ⟨by kernel_rfl, ?hdyd18⟩) hS4 ?hdrd18
              case hdyd18 => (intro wx hx; (try dsimp only at hx); go_simp; try with_reducible rfl)
              try simp only [Act.put, List.setIfInBounds_toArray, List.set_cons_zero, List.set_cons_succ]
              refine hd_taken 19 (some 113) _ ?hdvd19 rfl rfl (by kernel_rfl) (fun _ _ _ h => h) (Or.inl ⟨by kernel_rfl, ?hdyd19⟩) hS4 ?hdrd19
              case hdyd19 => (intro wx hx; (try dsimp only at hx); go_simp; try with_reducible rfl)
              try simp only [Act.put, List.setIfInBounds_toArray, List.set_cons_zero, List.set_cons_succ]
              refine hd_taken 20 (some 114) _ ?hdvd20 rfl rfl (by kernel_rfl) (fun _ _ _ h => h) (Or.inl ⟨by kernel_rfl, ?hdyd20⟩) hS4 ?hdrd20
              case hdyd20 => (intro wx hx; (try dsimp only at hx); go_simp; try with_reducible rfl)
              try simp only [Act.put, List.setIfInBounds_toArray, List.set_cons_zero, List.set_cons_succ]
              refine hd_taken 21 (some 115) _ ?hdvd21 rfl rfl (by kernel_rfl) (fun _ _ _ h => h) (Or.inl ⟨by kernel_rfl, ?hdyd21⟩) hS4 ?hdrd21
              case hdyd21 => (intro wx hx; (try dsimp only at hx); go_simp; try with_reducible rfl)
              try simp only [Act.put, List.setIfInBounds_toArray, List.set_cons_zero, List.set_cons_succ]
              refine hd_taken 22 (some 116) _ ?hdvd22 rfl rfl (by kernel_rfl) (fun _ _ _ h => h) (Or.inl ⟨by kernel_rfl, ?hdyd22⟩) hS4 ?hdrd22
              case hdyd22 => (intro wx hx; (try dsimp only at hx); go_simp; try with_reducible rfl)
              try simp only [Act.put, List.setIfInBounds_toArray, List.set_cons_zero, List.set_cons_succ]
              refine hd_taken 23 (some 117) _ undef rfl rfl (by kernel_rfl) (fun _ _ _ h => h) (Or.inr ⟨by kernel_rfl, rfl⟩) hS4 ?_
              try simp only [Act.put, List.setIfInBounds_toArray, List.set_cons_zero, List.set_cons_succ]
              refine hd_taken 24 (some 118) _ undef rfl rfl (by kernel_rfl) (fun _ _ _ h => h) (Or.inr ⟨by kernel_rfl, rfl⟩) hS4 ?_
              try simp only [Act.put, List.setIfInBounds_toArray, List.set_cons_zero, List.set_cons_succ]
              refine hd_taken 25 (some 119) _ undef rfl rfl (by kernel_rfl) (fun _ _ _ h => h) (Or.inr ⟨by kernel_rfl, rfl⟩) hS4 ?_
              try simp only [Act.put, List.setIfInBounds_toArray, List.set_cons_zero, List.set_cons_succ]
              refine hd_taken 26 (some 120) _ undef rfl rfl (by kernel_rfl) (fun _ _ _ h => h) (Or.inr ⟨by kernel_rfl, rfl⟩) hS4 ?_
              try simp only [Act.put, List.setIfInBounds_toArray, List.set_cons_zero, List.set_cons_succ]
              refine hd_taken 27 (some 121) _ undef rfl rfl (by kernel_rfl) (fun _ _ _ h => h) (Or.inr ⟨by kernel_rfl, rfl⟩) hS4 ?_
              try simp only [Act.put, List.setIfInBounds_toArray, List.set_cons_zero, List.set_cons_succ]
              refine hd_taken 28 (some 122) _ undef rfl rfl (by kernel_rfl) (fun _ _ _ h => h) (Or.inr ⟨by kernel_rfl, rfl⟩) hS4 ?_
              try simp only [Act.put, List.setIfInBounds_toArray, List.set_cons_zero, List.set_cons_succ]
              refine hd_taken 29 (some 123) _ undef rfl rfl (by kernel_rfl) (fun _ _ _ h => h) (Or.inr ⟨by kernel_rfl, rfl⟩) hS4 ?_
              try simp only [Act.put, List.setIfInBounds_toArray, List.set_cons_zero, List.set_cons_succ]
              refine hd_taken 30 (some 124) _ undef rfl rfl (by kernel_rfl) (fun _ _ _ h => h) (Or.inr ⟨by kernel_rfl, rfl⟩) hS4 ?_
              try simp only [Act.put, List.setIfInBounds_toArray, List.set_cons_zero, List.set_cons_succ]
              refine hd_taken 31 (some 125) _ undef rfl rfl (by kernel_rfl) (fun _ _ _ h => h) (Or.inr ⟨by kernel_rfl, rfl⟩) hS4 ?_
              try simp only [Act.put, List.setIfInBounds_toArray, List.set_cons_zero, List.set_cons_succ]
              refine hd_taken 32 (some 126) _ undef rfl rfl (by kernel_rfl) (fun _ _ _ h => h) (Or.inr ⟨by kernel_rfl, rfl⟩) hS4 ?_
              try simp only [Act.put, List.setIfInBounds_toArray, List.set_cons_zero, List.set_cons_succ]
              refine hd_taken 33 (some 127) _ undef rfl rfl (by kernel_rfl) (fun _ _ _ h => h) (Or.inr ⟨by kernel_rfl, rfl⟩) hS4 ?_
              try simp only [Act.put, List.setIfInBounds_toArray, List.set_cons_zero, List.set_cons_succ]
              refine hd_taken 34 (some 128) _ undef rfl rfl (by kernel_rfl) (fun _ _ _ h => h) (Or.inr ⟨by kernel_rfl, rfl⟩) hS4 ?_
              try simp only [Act.put, List.setIfInBounds_toArray, List.set_cons_zero, List.set_cons_succ]
              refine hd_taken 35 (some 129) _ ?hdve35 rfl rfl (by kernel_rfl) (fun _ _ _ h => h) (Or.inl ⟨by kernel_rfl, ?hdye35⟩) hS4 ?hdre35
              case hdye35 => (intro wx hx; (try dsimp only at hx); go_simp; try with_reducible rfl)
              try simp only [Act.put, List.setIfInBounds_toArray, List.set_cons_zero, List.set_cons_succ]
              refine hd_taken 36 (some 130) _ ?hdve36 rfl rfl (by kernel_rfl) (fun _ _ _ h => h) (Or.inl ⟨by kernel_rfl, ?hdye36⟩) hS4 ?hdre36
              case hdye36 => (intro wx hx; (try dsimp only at hx); go_simp; try with_reducible rfl)
              try simp only [Act.put, List.setIfInBounds_toArray, List.set_cons_zero, List.set_cons_succ]
              refine hd_taken 39 (some 133) _ ?hdvf39 rfl rfl (by kernel_rfl) (fun _ _ _ h => h) (Or.inl ⟨by kernel_rfl, ?hdyf39⟩) hS4 ?hdrf39
              case hdyf39 => (intro wx hx; (try dsimp only at hx); go_simp; try with_reducible rfl)
              try simp only [Act.put, List.setIfInBounds_toArray, List.set_cons_zero, List.set_cons_succ]
              refine hd_listA [37] (by kernel_rfl) (by decide) (by decide) (fun i hi => ?_)
              simp only [List.mem_cons, List.not_mem_nil, or_false] at hi
              subst hi
              refine ⟨_, rfl, fun K15 hK15 => ?_⟩
              go_simp
              obtain ⟨w15x, hw15⟩ : ∃ wx, w4x.alloc (.cells #[.bool false] 4) = wx := ⟨_, rfl⟩
              have b15 := (Below.refl w4x.heap.size w4x).alloc (Nat.le_refl _) (.cells #[.bool false] 4)
              have f15 := Blk.new w4x 4 #[.bool false]
              rw [hw15] at b15 f15 ⊢
              obtain ⟨B15, hB15⟩ : ∃ B, w4x.heap.size = B := ⟨_, rfl⟩
              rw [hB15] at f15 ⊢
              have kB := Lib.hid f15
              have M15 := Lib.hid (M4.out.below b15)
              have KO15 := Lib.hid (Blk.below KO4.out b15)
              have C15 := Lib.hid (C4.out.trans (b15.mono z4))
              have z15 : base ≤ w15x.heap.size := Nat.le_trans z4 b15.size
              have hS15 := HC5.out _ KO15.out C15.out
              clear hw15 b15 f15 hB15
              refine hK15.out _ _ hS15 ?_
              clear hK15 K15 hS4
              try simp only [Act.put, List.setIfInBounds_toArray, List.set_cons_zero, List.set_cons_succ]
              refine hd_listA [38] (by kernel_rfl) (by decide) (by decide) (fun i hi => ?_)
              simp only [List.mem_cons, List.not_mem_nil, or_false] at hi
              subst hi
              refine ⟨_, rfl, fun K16 hK16 => ?_⟩
              refine step_append_blk (w := w15x) (x := false) (by rfl) _ _ 23 (by rfl) base iO _ 1 Try.underlying23 hiO hzO hkO hbO (by omega) rfl (by omega) encO_len encO_one _ (outF (prodA (toA r) (toA s) (opB true)) id i) (by rfl) (by rfl) M15.out.oF (by rfl) kB.out hoF z15 ?_
              intro v2 w16x y2
              obtain ⟨pv2, nv2, cv2, hv2⟩ := lie_slice y2
              subst hv2
              have M16 := Lib.hid (M15.out.gF y2)
              have KO16 := Lib.hid (y2.blk KO15.out (own_type M15.out.oF KO15.out (by decide))).1
              have C16 := Lib.hid (C15.out.trans y2.2.1)
              have hS16 := HC5.out _ KO16.out C16.out
              clear y2
              refine hK16.out _ _ hS16 ?_
              change HdG _ _ _ _ _ _ _ _ (Act.put _ (some 132) _) _
              clear hK16 K16 hS15
              try simp only [Act.put, List.setIfInBounds_toArray, List.set_cons_zero, List.set_cons_succ]
              refine hd_done (by kernel_rfl) ?_
              simp only [List.drop_succ_cons, List.drop_zero]
              have e1 := KO16.out.cell 1
              have e2 := KO16.out.cell 2
              have ef := KO16.out.frozen
              have M3y := M16.out.set KO16.out 1 (.slice pv1 nv1 cv1)
              have K3y := KO16.out.put 1 (.slice pv1 nv1 cv1)
              have C3y := C16.out.setCell (p := ⟨gout, 1, none⟩) HGO.out (.slice pv1 nv1 cv1)
              have M4y := M3y.set K3y 2 (.slice pv2 nv2 cv2)
              have K4y := K3y.put 2 (.slice pv2 nv2 cv2)
              have C4y := Lib.hid (C3y.setCell (p := ⟨gout, 2, none⟩) HGO.out (.slice pv2 nv2 cv2))
              have HFN := Lib.hid (M4y.fin HRL.out K4y)
              clear M3y K3y C3y M4y K4y hS16
              go_wp2
              go_roundw
              case measure => simp [intOf] <;> omega
              case rel => exact ⟨i + 1, _, _, _, by go_num, fun j hj => by
                rcases Nat.lt_or_ge j i with h | h
                · exact HGD.out j h
                · obtain rfl : j = i := by omega
                  rw [HFD.out]
                  exact hlt, by rw [HNX.out.1]; omega, by rw [HNX.out.1, HNX.out.2.1, HNX.out.2.2]; exact HFN.out, C4y.out⟩
            | false =>
              have HNX : Hid (fdK (prodA (toA r) (toA s) (opB false)) id (i + 1) = F ∧ outN (prodA (toA r) (toA s) (opB false)) id (i + 1) = outN (prodA (toA r) (toA s) (opB false)) id i ++ [R] ∧ outF (prodA (toA r) (toA s) (opB false)) id (i + 1) = outF (prodA (toA r) (toA s) (opB false)) id i ++ [fy]) := HNX
              refine hd_taken 12 (some 106) _ ?hdvg12 rfl rfl (by kernel_rfl) (fun _ _ _ h => h) (Or.inl ⟨by kernel_rfl, ?hdyg12⟩) hS4 ?hdrg12
              case hdyg12 => (intro wx hx; (try dsimp only at hx); go_simp; try with_reducible rfl)
              try simp only [Act.put, List.setIfInBounds_toArray, List.set_cons_zero, List.set_cons_succ]
              refine hd_taken 13 (some 107) _ undef rfl rfl (by kernel_rfl) (fun _ _ _ h => h) (Or.inr ⟨by kernel_rfl, rfl⟩) hS4 ?_
              try simp only [Act.put, List.setIfInBounds_toArray, List.set_cons_zero, List.set_cons_succ]
              refine hd_taken 14 (some 108) _ undef rfl rfl (by kernel_rfl) (fun _ _ _ h => h) (Or.inr ⟨by kernel_rfl, rfl⟩) hS4 ?_
              try simp only [Act.put, List.setIfInBounds_toArray, List.set_cons_zero, List.set_cons_succ]
              refine hd_taken 15 (some 109) _ undef rfl rfl (by kernel_rfl) (fun _ _ _ h => h) (Or.inr ⟨by kernel_rfl, rfl⟩) hS4 ?_
              try simp only [Act.put, List.setIfInBounds_toArray, List.set_cons_zero, List.set_cons_succ]
              refine hd_taken 16 (some 110) _ undef rfl rfl (by kernel_rfl) (fun _ _ _ h => h) (Or.inr ⟨by kernel_rfl, rfl⟩) hS4 ?_
              try simp only [Act.put, List.setIfInBounds_toArray, List.set_cons_zero, List.set_cons_succ]
              refine hd_taken 17 (some 111) _ undef rfl rfl (by kernel_rfl) (fun _ _ _ h => h) (Or.inr ⟨by kernel_rfl, rfl⟩) hS4 ?_
              try simp only [Act.put, List.setIfInBounds_toArray, List.set_cons_zero, List.set_cons_succ]
              refine hd_taken 18 (some 112) _ ?hdvh18 rfl rfl (by kernel_rfl) (fun _ _ _ h => h) (Or.inl ⟨by kernel_rfl, ?hdyh18⟩) hS4 ?hdrh18
              case hdyh18 => (intro wx hx; (try dsimp only at hx); go_simp; try with_reducible rfl)
              try simp only [Act.put, List.setIfInBounds_toArray, List.set_cons_zero, List.set_cons_succ]
              refine hd_taken 19 (some 113) _ ?hdvh19 rfl rfl (by kernel_rfl) (fun _ _ _ h => h) (Or.inl ⟨by kernel_rfl, ?hdyh19⟩) hS4 ?hdrh19
              case hdyh19 => (intro wx hx; (try dsimp only at hx); go_simp; try with_reducible rfl)
              try simp only [Act.put, List.setIfInBounds_toArray, List.set_cons_zero, List.set_cons_succ]
              refine hd_taken 20 (some 114) _ ?hdvh20 rfl rfl (by kernel_rfl) (fun _ _ _ h => h) (Or.inl ⟨by kernel_rfl, ?hdyh20⟩) hS4 ?hdrh20
              case hdyh20 => (intro wx hx; (try dsimp only at hx); go_simp; try with_reducible rfl)
              try simp only [Act.put, List.setIfInBounds_toArray, List.set_cons_zero, List.set_cons_succ]
              refine hd_taken 21 (some 115) _ ?hdvh21 rfl rfl (by kernel_rfl) (fun _ _ _ h => h) (Or.inl ⟨by kernel_rfl, ?hdyh21⟩) hS4 ?hdrh21
              case hdyh21 => (intro wx hx; (try dsimp only at hx); go_simp; try with_reducible rfl)
              try simp only [Act.put, List.setIfInBounds_toArray, List.set_cons_zero, List.set_cons_succ]
              refine hd_taken 22 (some 116) _ ?hdvh22 rfl rfl (by kernel_rfl) (fun _ _ _ h => h) (Or.inl ⟨by kernel_rfl, ?hdyh22⟩) hS4 ?hdrh22
              case hdyh22 => (intro wx hx; (try dsimp only at hx); go_simp; try with_reducible rfl)
              try simp only [Act.put, List.setIfInBounds_toArray, List.set_cons_zero, List.set_cons_succ]
              refine hd_taken 23 (some 117) _ ?hdvh23 rfl rfl (by kernel_rfl) (fun _ _ _ h => h) (Or.inl ⟨by kernel_rfl, ?hdyh23⟩) hS4 ?hdrh23
              case hdyh23 => (intro wx hx; (try dsimp only at hx); go_simp; try with_reducible rfl)
              try simp only [Act.put, List.setIfInBounds_toArray, List.set_cons_zero, List.set_cons_succ]
              refine hd_taken 24 (some 118) _ ?hdvh24 rfl rfl (by kernel_rfl) (fun _ _ _ h => h) (Or.inl ⟨by kernel_rfl, ?hdyh24⟩) hS4 ?hdrh24
              case hdyh24 => (intro wx hx; (try dsimp only at hx); go_simp; try with_reducible rfl)
              try simp only [Act.put, List.setIfInBounds_toArray, List.set_cons_zero, List.set_cons_succ]
              refine hd_taken 25 (some 119) _ ?hdvh25 rfl rfl (by kernel_rfl) (fun _ _ _ h => h) (Or.inl ⟨by kernel_rfl, ?hdyh25⟩) hS4 ?hdrh25
              case hdyh25 => (intro wx hx; (try dsimp only at hx); go_simp; try with_reducible rfl)
              try simp only [Act.put, List.setIfInBounds_toArray, List.set_cons_zero, List.set_cons_succ]
              refine hd_taken 26 (some 120) _ ?hdvh26 rfl rfl (by kernel_rfl) (fun _ _ _ h => h) (Or.inl ⟨by kernel_rfl, ?hdyh26⟩) hS4 ?hdrh26
              case hdyh26 => (intro wx hx; (try dsimp only at hx); go_simp; try with_reducible rfl)
              try simp only [Act.put, List.setIfInBounds_toArray, List.set_cons_zero, List.set_cons_succ]
              refine hd_taken 27 (some 121) _ ?hdvh27 rfl rfl (by kernel_rfl) (fun _ _ _ h => h) (Or.inl ⟨by kernel_rfl, ?hdyh27⟩) hS4 ?hdrh27
              case hdyh27 => (intro wx hx; (try dsimp only at hx); go_simp; try with_reducible rfl)
              try simp only [Act.put, List.setIfInBounds_toArray, List.set_cons_zero, List.set_cons_succ]
              refine hd_taken 28 (some 122) _ ?hdvh28 rfl rfl (by kernel_rfl) (fun _ _ _ h => h) (Or.inl ⟨by kernel_rfl, ?hdyh28⟩) hS4 ?hdrh28
              case hdyh28 => (intro wx hx; (try dsimp only at hx); go_simp; try with_reducible rfl)
              try simp only [Act.put, List.setIfInBounds_toArray, List.set_cons_zero, List.set_cons_succ]
              refine hd_taken 29 (some 123) _ ?hdvh29 rfl rfl (by kernel_rfl) (fun _ _ _ h => h) (Or.inl ⟨by kernel_rfl, ?hdyh29⟩) hS4 ?hdrh29
              case hdyh29 => (intro wx hx; (try dsimp only at hx); go_simp; try with_reducible rfl)
              try simp only [Act.put, List.setIfInBounds_toArray, List.set_cons_zero, List.set_cons_succ]
              refine hd_taken 30 (some 124) _ ?hdvh30 rfl rfl (by kernel_rfl) (fun _ _ _ h => h) (Or.inl ⟨by kernel_rfl, ?hdyh30⟩) hS4 ?hdrh30
              case hdyh30 => (intro wx hx; (try dsimp only at hx); go_simp; try with_reducible rfl)
              try simp only [Act.put, List.setIfInBounds_toArray, List.set_cons_zero, List.set_cons_succ]
              refine hd_taken 31 (some 125) _ ?hdvh31 rfl rfl (by kernel_rfl) (fun _ _ _ h => h) (Or.inl ⟨by kernel_rfl, ?hdyh31⟩) hS4 ?hdrh31
              case hdyh31 => (intro wx hx; (try dsimp only at hx); go_simp; try with_reducible rfl)
              try simp only [Act.put, List.setIfInBounds_toArray, List.set_cons_zero, List.set_cons_succ]
              refine hd_taken 32 (some 126) _ ?hdvh32 rfl rfl (by kernel_rfl) (fun _ _ _ h => h) (Or.inl ⟨by kernel_rfl, ?hdyh32⟩) hS4 ?hdrh32
              case hdyh32 => (intro wx hx; (try dsimp only at hx); go_simp; try with_reducible rfl)
              try simp only [Act.put, List.setIfInBounds_toArray, List.set_cons_zero, List.set_cons_succ]
              refine hd_taken 33 (some 127) _ ?hdvh33 rfl rfl (by kernel_rfl) (fun _ _ _ h => h) (Or.inl ⟨by kernel_rfl, ?hdyh33⟩) hS4 ?hdrh33
              case hdyh33 => (intro wx hx; (try dsimp only at hx); go_simp; try with_reducible rfl)
              try simp only [Act.put, List.setIfInBounds_toArray, List.set_cons_zero, List.set_cons_succ]
              refine hd_taken 34 (some 128) _ ?hdvh34 rfl rfl (by kernel_rfl) (fun _ _ _ h => h) (Or.inl ⟨by kernel_rfl, ?hdyh34⟩) hS4 ?hdrh34
              case hdyh34 => (intro wx hx; (try dsimp only at hx); go_simp; try with_reducible rfl)
              try simp only [Act.put, List.setIfInBounds_toArray, List.set_cons_zero, List.set_cons_succ]
              refine hd_taken 35 (some 129) _ ?hdvh35 rfl rfl (by kernel_rfl) (fun _ _ _ h => h) (Or.inl ⟨by kernel_rfl, ?hdyh35⟩) hS4 ?hdrh35
              case hdyh35 => (intro wx hx; (try dsimp only at hx); go_simp; try with_reducible rfl)
              try simp only [Act.put, List.setIfInBounds_toArray, List.set_cons_zero, List.set_cons_succ]
              refine hd_taken 36 (some 130) _ ?hdvh36 rfl rfl (by kernel_rfl) (fun _ _ _ h => h) (Or.inl ⟨by kernel_rfl, ?hdyh36⟩) hS4 ?hdrh36
              case hdyh36 => (intro wx hx; (try dsimp only at hx); go_simp; try with_reducible rfl)
              try simp only [Act.put, List.setIfInBounds_toArray, List.set_cons_zero, List.set_cons_succ]
              refine hd_taken 39 (some 133) _ ?hdvi39 rfl rfl (by kernel_rfl) (fun _ _ _ h => h) (Or.inl ⟨by kernel_rfl, ?hdyi39⟩) hS4 ?hdri39
              case hdyi39 => (intro wx hx; (try dsimp only at hx); go_simp; try with_reducible rfl)
              try simp only [Act.put, List.setIfInBounds_toArray, List.set_cons_zero, List.set_cons_succ]
              refine hd_listA [37] (by kernel_rfl) (by decide) (by decide) (fun i hi => ?_)
              simp only [List.mem_cons, List.not_mem_nil, or_false] at hi
              subst hi
              refine ⟨_, rfl, fun K15 hK15 => ?_⟩
              go_simp
              obtain ⟨w15x, hw15⟩ : ∃ wx, w4x.alloc (.cells #[.bool fy] 4) = wx := ⟨_, rfl⟩
              have b15 := (Below.refl w4x.heap.size w4x).alloc (Nat.le_refl _) (.cells #[.bool fy] 4)
              have f15 := Blk.new w4x 4 #[.bool fy]
              rw [hw15] at b15 f15 ⊢
              obtain ⟨B15, hB15⟩ : ∃ B, w4x.heap.size = B := ⟨_, rfl⟩
              rw [hB15] at f15 ⊢
              have kB := Lib.hid f15
              have M15 := Lib.hid (M4.out.below b15)
              have KO15 := Lib.hid (Blk.below KO4.out b15)
              have C15 := Lib.hid (C4.out.trans (b15.mono z4))
              have z15 : base ≤ w15x.heap.size := Nat.le_trans z4 b15.size
              have hS15 := HC5.out _ KO15.out C15.out
              clear hw15 b15 f15 hB15
              refine hK15.out _ _ hS15 ?_
              clear hK15 K15 hS4
              try simp only [Act.put, List.setIfInBounds_toArray, List.set_cons_zero, List.set_cons_succ]
              refine hd_listA [38] (by kernel_rfl) (by decide) (by decide) (fun i hi => ?_)
              simp only [List.mem_cons, List.not_mem_nil, or_false] at hi
              subst hi
              refine ⟨_, rfl, fun K16 hK16 => ?_⟩
              refine step_append_blk (w := w15x) (x := fy) (by rfl) _ _ 23 (by rfl) base iO _ 1 Try.underlying23 hiO hzO hkO hbO (by omega) rfl (by omega) encO_len encO_one _ (outF (prodA (toA r) (toA s) (opB false)) id i) (by rfl) (by rfl) M15.out.oF (by rfl) kB.out hoF z15 ?_
              intro v2 w16x y2
              obtain ⟨pv2, nv2, cv2, hv2⟩ := lie_slice y2
              subst hv2
              have M16 := Lib.hid (M15.out.gF y2)
              have KO16 := Lib.hid (y2.blk KO15.out (own_type M15.out.oF KO15.out (by decide))).1
              have C16 := Lib.hid (C15.out.trans y2.2.1)
              have hS16 := HC5.out _ KO16.out C16.out
              clear y2
              refine hK16.out _ _ hS16 ?_
              change HdG _ _ _ _ _ _ _ _ (Act.put _ (some 132) _) _
              clear hK16 K16 hS15
              try simp only [Act.put, List.setIfInBounds_toArray, List.set_cons_zero, List.set_cons_succ]
              refine hd_done (by kernel_rfl) ?_
              simp only [List.drop_succ_cons, List.drop_zero]
              have e1 := KO16.out.cell 1
              have e2 := KO16.out.cell 2
              have ef := KO16.out.frozen
              have M3y := M16.out.set KO16.out 1 (.slice pv1 nv1 cv1)
              have K3y := KO16.out.put 1 (.slice pv1 nv1 cv1)
              have C3y := C16.out.setCell (p := ⟨gout, 1, none⟩) HGO.out (.slice pv1 nv1 cv1)
              have M4y := M3y.set K3y 2 (.slice pv2 nv2 cv2)
              have K4y := K3y.put 2 (.slice pv2 nv2 cv2)
              have C4y := Lib.hid (C3y.setCell (p := ⟨gout, 2, none⟩) HGO.out (.slice pv2 nv2 cv2))
              have HFN := Lib.hid (M4y.fin HRL.out K4y)
              clear M3y K3y C3y M4y K4y hS16
              go_wp2
              go_roundw
              case measure => simp [intOf] <;> omega
              case rel => exact ⟨i + 1, _, _, _, by go_num, fun j hj => by
                rcases Nat.lt_or_ge j i with h | h
                · exact HGD.out j h
                · obtain rfl : j = i := by omega
                  rw [HFD.out]
                  exact hlt, by rw [HNX.out.1]; omega, by rw [HNX.out.1, HNX.out.2.1, HNX.out.2.2]; exact HFN.out, C4y.out⟩
          | true =>
            cases fy with
            | true =>
              have HNX : Hid (fdK (prodA (toA r) (toA s) (opB both)) id (i + 1) = F ∧ outN (prodA (toA r) (toA s) (opB both)) id (i + 1) = outN (prodA (toA r) (toA s) (opB both)) id i ++ [R] ∧ outF (prodA (toA r) (toA s) (opB both)) id (i + 1) = outF (prodA (toA r) (toA s) (opB both)) id i ++ [true]) := HNX
              refine hd_taken 12 (some 106) _ ?hdvj12 rfl rfl (by kernel_rfl) (fun _ _ _ h => h) (Or.inl ⟨by kernel_rfl, ?hdyj12⟩) hS4 ?hdrj12
              case hdyj12 => (intro wx hx; (try dsimp only at hx); go_simp; try with_reducible rfl)
              try simp only [Act.put, List.setIfInBounds_toArray, List.set_cons_zero, List.set_cons_succ]
              refine hd_taken 13 (some 107) _ ?hdvj13 rfl rfl (by kernel_rfl) (fun _ _ _ h => h) (Or.inl ⟨by kernel_rfl, ?hdyj13⟩) hS4 ?hdrj13
              case hdyj13 => (intro wx hx; (try dsimp only at hx); go_simp; try with_reducible rfl)
              try simp only [Act.put, List.setIfInBounds_toArray, List.set_cons_zero, List.set_cons_succ]
              refine hd_taken 14 (some 108) _ ?hdvj14 rfl rfl (by kernel_rfl) (fun _ _ _ h => h) (Or.inl ⟨by kernel_rfl, ?hdyj14⟩) hS4 ?hdrj14
              case hdyj14 => (intro wx hx; (try dsimp only at hx); go_simp; try with_reducible rfl)
              try simp only [Act.put, List.setIfInBounds_toArray, List.set_cons_zero, List.set_cons_succ]
              refine hd_taken 15 (some 109) _ ?hdvj15 rfl rfl (by kernel_rfl) (fun _ _ _ h => h) (Or.inl ⟨by kernel_rfl, ?hdyj15⟩) hS4 ?hdrj15
              case hdyj15 => (intro wx hx; (try dsimp only at hx); go_simp; try with_reducible rfl)
              try simp only [Act.put, List.setIfInBounds_toArray, List.set_cons_zero, List.set_cons_succ]
              refine hd_taken 16 (some 110) _ ?hdvj16 rfl rfl (by kernel_rfl) (fun _ _ _ h => h) (Or.inl ⟨by kernel_rfl, ?hdyj16⟩) hS4 ?hdrj16
              case hdyj16 => (intro wx hx; (try dsimp only at hx); go_simp; try with_reducible rfl)
              try simp only [Act.put, List.setIfInBounds_toArray, List.set_cons_zero, List.set_cons_succ]
              refine hd_taken 17 (some 111) _ ?hdvj17 rfl rfl (by kernel_rfl) (fun _ _ _ h => h) (Or.inl ⟨by kernel_rfl, ?hdyj17⟩) hS4 ?hdrj17
              case hdyj17 => (intro wx hx; (try dsimp only at hx); go_simp; try with_reducible rfl)
              try simp only [Act.put, List.setIfInBounds_toArray, List.set_cons_zero, List.set_cons_succ]
              refine hd_taken 18 (some 112) _ ?hdvj18 rfl rfl (by kernel_rfl) (fun _ _ _ h => h) (Or.inl ⟨by kernel_rfl, ?hdyj18⟩) hS4 ?hdrj18
              case hdyj18 => (intro wx hx; (try dsimp only at hx); go_simp; try with_reducible rfl)
              try simp only [Act.put, List.setIfInBounds_toArray, List.set_cons_zero, List.set_cons_succ]
              refine hd_taken 19 (some 113) _ ?hdvj19 rfl rfl (by kernel_rfl) (fun _ _ _ h => h) (Or.inl ⟨by kernel_rfl, ?hdyj19⟩) hS4 ?hdrj19
              case hdyj19 => (intro wx hx; (try dsimp only at hx); go_simp; try with_reducible rfl)
              try simp only [Act.put, List.setIfInBounds_toArray, List.set_cons_zero, List.set_cons_succ]
              refine hd_taken 20 (some 114) _ undef rfl rfl (by kernel_rfl) (fun _ _ _ h => h) (Or.inr ⟨by kernel_rfl, rfl⟩) hS4 ?_
              try simp only [Act.put, List.setIfInBounds_toArray, List.set_cons_zero, List.set_cons_succ]
              refine hd_taken 21 (some 115) _ undef rfl rfl (by kernel_rfl) (fun _ _ _ h => h) (Or.inr ⟨by kernel_rfl, rfl⟩) hS4 ?_
              try simp only [Act.put, List.setIfInBounds_toArray, List.set_cons_zero, List.set_cons_succ]
              refine hd_taken 22 (some 116) _ undef rfl rfl (by kernel_rfl) (fun _ _ _ h => h) (Or.inr ⟨by kernel_rfl, rfl⟩) hS4 ?_
              try simp only [Act.put, List.setIfInBounds_toArray, List.set_cons_zero, List.set_cons_succ]
              refine hd_taken 23 (some 117) _ undef rfl rfl (by kernel_rfl) (fun _ _ _ h => h) (Or.inr ⟨by kernel_rfl, rfl⟩) hS4 ?_
              try simp only [Act.put, List.setIfInBounds_toArray, List.set_cons_zero, List.set_cons_succ]
              refine hd_taken 24 (some 118) _ undef rfl rfl (by kernel_rfl) (fun _ _ _ h => h) (Or.inr ⟨by kernel_rfl, rfl⟩) hS4 ?_
              try simp only [Act.put, List.setIfInBounds_toArray, List.set_cons_zero, List.set_cons_succ]
              refine hd_taken 25 (some 119) _ undef rfl rfl (by kernel_rfl) (fun _ _ _ h => h) (Or.inr ⟨by kernel_rfl, rfl⟩) hS4 ?_
              try simp only [Act.put, List.setIfInBounds_toArray, List.set_cons_zero, List.set_cons_succ]
              refine hd_taken 26 (some 120) _ undef rfl rfl (by kernel_rfl) (fun _ _ _ h => h) (Or.inr ⟨by kernel_rfl, rfl⟩) hS4 ?_
              try simp only [Act.put, List.setIfInBounds_toArray, List.set_cons_zero, List.set_cons_succ]
              refine hd_taken 27 (some 121) _ undef rfl rfl (by kernel_rfl) (fun _ _ _ h => h) (Or.inr ⟨by kernel_rfl, rfl⟩) hS4 ?_
              try simp only [Act.put, List.setIfInBounds_toArray, List.set_cons_zero, List.set_cons_succ]
              refine hd_taken 28 (some 122) _ undef rfl rfl (by kernel_rfl) (fun _ _ _ h => h) (Or.inr ⟨by kernel_rfl, rfl⟩) hS4 ?_
              try simp only [Act.put, List.setIfInBounds_toArray, List.set_cons_zero, List.set_cons_succ]
              refine hd_taken 29 (some 123) _ undef rfl rfl (by kernel_rfl) (fun _ _ _ h => h) (Or.inr ⟨by kernel_rfl, rfl⟩) hS4 ?_
              try simp only [Act.put, List.setIfInBounds_toArray, List.set_cons_zero, List.set_cons_succ]
              refine hd_taken 30 (some 124) _ undef rfl rfl (by kernel_rfl) (fun _ _ _ h => h) (Or.inr ⟨by kernel_rfl, rfl⟩) hS4 ?_
              try simp only [Act.put, List.setIfInBounds_toArray, List.set_cons_zero, List.set_cons_succ]
              refine hd_taken 31 (some 125) _ undef rfl rfl (by kernel_rfl) (fun _ _ _ h => h) (Or.inr ⟨by kernel_rfl, rfl⟩) hS4 ?_
              try simp only [Act.put, List.setIfInBounds_toArray, List.set_cons_zero, List.set_cons_succ]
              refine hd_taken 32 (some 126) _ undef rfl rfl (by kernel_rfl) (fun _ _ _ h => h) (Or.inr ⟨by kernel_rfl, rfl⟩) hS4 ?_
              try simp only [Act.put, List.setIfInBounds_toArray, List.set_cons_zero, List.set_cons_succ]
              refine hd_taken 33 (some 127) _ undef rfl rfl (by kernel_rfl) (fun _ _ _ h => h) (Or.inr ⟨by kernel_rfl, rfl⟩) hS4 ?_
              try simp only [Act.put, List.setIfInBounds_toArray, List.set_cons_zero, List.set_cons_succ]
              refine hd_taken 34 (some 128) _ undef rfl rfl (by kernel_rfl) (fun _ _ _ h => h) (Or.inr ⟨by kernel_rfl, rfl⟩) hS4 ?_
              try simp only [Act.put, List.setIfInBounds_toArray, List.set_cons_zero, List.set_cons_succ]
              refine hd_taken 35 (some 129) _ undef rfl rfl (by kernel_rfl) (fun _ _ _ h => h) (Or.inr ⟨by kernel_rfl, rfl⟩) hS4 ?_
              try simp only [Act.put, List.setIfInBounds_toArray, List.set_cons_zero, List.set_cons_succ]
              refine hd_taken 36 (some 130) _ ?hdvk36 rfl rfl (by kernel_rfl) (fun _ _ _ h => h) (Or.inl ⟨by kernel_rfl, ?hdyk36⟩) hS4 ?hdrk36
              case hdyk36 => (intro wx hx; (try dsimp only at hx); go_simp; try with_reducible rfl)
              try simp only [Act.put, List.setIfInBounds_toArray, List.set_cons_zero, List.set_cons_succ]
              refine hd_taken 39 (some 133) _ ?hdvl39 rfl rfl (by kernel_rfl) (fun _ _ _ h => h) (Or.inl ⟨by kernel_rfl, ?hdyl39⟩) hS4 ?hdrl39
              case hdyl39 => (intro wx hx; (try dsimp only at hx); go_simp; try with_reducible rfl)
              try simp only [Act.put, List.setIfInBounds_toArray, List.set_cons_zero, List.set_cons_succ]
              refine hd_listA [37] (by kernel_rfl) (by decide) (by decide) (fun i hi => ?_)
              simp only [List.mem_cons, List.not_mem_nil, or_false] at hi
              subst hi
              refine ⟨_, rfl, fun K15 hK15 => ?_⟩
              go_simp
              obtain ⟨w15x, hw15⟩ : ∃ wx, w4x.alloc (.cells #[.bool true] 4) = wx := ⟨_, rfl⟩
              have b15 := (Below.refl w4x.heap.size w4x).alloc (Nat.le_refl _) (.cells #[.bool true] 4)
              have f15 := Blk.new w4x 4 #[.bool true]
              rw [hw15] at b15 f15 ⊢
              obtain ⟨B15, hB15⟩ : ∃ B, w4x.heap.size = B := ⟨_, rfl⟩
              rw [hB15] at f15 ⊢
              have kB := Lib.hid f15
              have M15 := Lib.hid (M4.out.below b15)
              have KO15 := Lib.hid (Blk.below KO4.out b15)
              have C15 := Lib.hid (C4.out.trans (b15.mono z4))
              have z15 : base ≤ w15x.heap.size := Nat.le_trans z4 b15.size
              have hS15 := HC5.out _ KO15.out C15.out
              clear hw15 b15 f15 hB15
              refine hK15.out _ _ hS15 ?_
              clear hK15 K15 hS4
              try simp only [Act.put, List.setIfInBounds_toArray, List.set_cons_zero, List.set_cons_succ]
              refine hd_listA [38] (by kernel_rfl) (by decide) (by decide) (fun i hi => ?_)
              simp only [List.mem_cons, List.not_mem_nil, or_false] at hi
              subst hi
              refine ⟨_, rfl, fun K16 hK16 => ?_⟩
              refine step_append_blk (w := w15x) (x := true) (by rfl) _ _ 23 (by rfl) base iO _ 1 Try.underlying23 hiO hzO hkO hbO (by omega) rfl (by omega) encO_len encO_one _ (outF (prodA (toA r) (toA s) (opB both)) id i) (by rfl) (by rfl) M15.out.oF (by rfl) kB.out hoF z15 ?_
              intro v2 w16x y2
              obtain ⟨pv2, nv2, cv2, hv2⟩ := lie_slice y2
              subst hv2
              have M16 := Lib.hid (M15.out.gF y2)
              have KO16 := Lib.hid (y2.blk KO15.out (own_type M15.out.oF KO15.out (by decide))).1
              have C16 := Lib.hid (C15.out.trans y2.2.1)
              have hS16 := HC5.out _ KO16.out C16.out
              clear y2
              refine hK16.out _ _ hS16 ?_
              change HdG _ _ _ _ _ _ _ _ (Act.put _ (some 132) _) _
              clear hK16 K16 hS15
              try simp only [Act.put, List.setIfInBounds_toArray, List.set_cons_zero, List.set_cons_succ]
              refine hd_done (by kernel_rfl) ?_
              simp only [List.drop_succ_cons, List.drop_zero]
              have e1 := KO16.out.cell 1
              have e2 := KO16.out.cell 2
              have ef := KO16.out.frozen
              have M3y := M16.out.set KO16.out 1 (.slice pv1 nv1 cv1)
              have K3y := KO16.out.put 1 (.slice pv1 nv1 cv1)
              have C3y := C16.out.setCell (p := ⟨gout, 1, none⟩) HGO.out (.slice pv1 nv1 cv1)
              have M4y := M3y.set K3y 2 (.slice pv2 nv2 cv2)
              have K4y := K3y.put 2 (.slice pv2 nv2 cv2)
              have C4y := Lib.hid (C3y.setCell (p := ⟨gout, 2, none⟩) HGO.out (.slice pv2 nv2 cv2))
              have HFN := Lib.hid (M4y.fin HRL.out K4y)
              clear M3y K3y C3y M4y K4y hS16
              go_wp2
              go_roundw
              case measure => simp [intOf] <;> omega
              case rel => exact ⟨i + 1, _, _, _, by go_num, fun j hj => by
                rcases Nat.lt_or_ge j i with h | h
                · exact HGD.out j h
                · obtain rfl : j = i := by omega
                  rw [HFD.out]
                  exact hlt, by rw [HNX.out.1]; omega, by rw [HNX.out.1, HNX.out.2.1, HNX.out.2.2]; exact HFN.out, C4y.out⟩
            | false =>
              cases both with
              | true =>
                have HNX : Hid (fdK (prodA (toA r) (toA s) (opB true)) id (i + 1) = F ∧ outN (prodA (toA r) (toA s) (opB true)) id (i + 1) = outN (prodA (toA r) (toA s) (opB true)) id i ++ [R] ∧ outF (prodA (toA r) (toA s) (opB true)) id (i + 1) = outF (prodA (toA r) (toA s) (opB true)) id i ++ [false]) := HNX
                refine hd_taken 12 (some 106) _ ?hdvm12 rfl rfl (by kernel_rfl) (fun _ _ _ h => h) (Or.inl ⟨by kernel_rfl, ?hdym12⟩) hS4 ?hdrm12
                case hdym12 => (intro wx hx; (try dsimp only at hx); go_simp; try with_reducible rfl)
                try simp only [Act.put, List.setIfInBounds_toArray, List.set_cons_zero, List.set_cons_succ]
                refine hd_taken 13 (some 107) _ ?hdvm13 rfl rfl (by kernel_rfl) (fun _ _ _ h => h) (Or.inl ⟨by kernel_rfl, ?hdym13⟩) hS4 ?hdrm13
                case hdym13 => (intro wx hx; (try dsimp only at hx); go_simp; try with_reducible rfl)
                try simp only [Act.put, List.setIfInBounds_toArray, List.set_cons_zero, List.set_cons_succ]
                refine hd_taken 14 (some 108) _ ?hdvm14 rfl rfl (by kernel_rfl) (fun _ _ _ h => h) (Or.inl ⟨by kernel_rfl, ?hdym14⟩) hS4 ?hdrm14
                case hdym14 => (intro wx hx; (try dsimp only at hx); go_simp; try with_reducible rfl)
                try simp only [Act.put, List.setIfInBounds_toArray, List.set_cons_zero, List.set_cons_succ]
                refine hd_taken 15 (some 109) _ ?hdvm15 rfl rfl (by kernel_rfl) (fun _ _ _ h => h) (Or.inl ⟨by kernel_rfl, ?hdym15⟩) hS4 ?hdrm15
                case hdym15 => (intro wx hx; (try dsimp only at hx); go_simp; try with_reducible rfl)
                try simp only [Act.put, List.setIfInBounds_toArray, List.set_cons_zero, List.set_cons_succ]
                refine hd_taken 16 (some 110) _ ?hdvm16 rfl rfl (by kernel_rfl) (fun _ _ _ h => h) (Or.inl ⟨by kernel_rfl, ?hdym16⟩) hS4 ?hdrm16
                case hdym16 => (intro wx hx; (try dsimp only at hx); go_simp; try with_reducible rfl)
                try simp only [Act.put, List.setIfInBounds_toArray, List.set_cons_zero, List.set_cons_succ]
                refine hd_taken 17 (some 111) _ ?hdvm17 rfl rfl (by kernel_rfl) (fun _ _ _ h => h) (Or.inl ⟨by kernel_rfl, ?hdym17⟩) hS4 ?hdrm17
                case hdym17 => (intro wx hx; (try dsimp only at hx); go_simp; try with_reducible rfl)
                try simp only [Act.put, List.setIfInBounds_toArray, List.set_cons_zero, List.set_cons_succ]
                refine hd_taken 18 (some 112) _ ?hdvm18 rfl rfl (by kernel_rfl) (fun _ _ _ h => h) (Or.inl ⟨by kernel_rfl, ?hdym18⟩) hS4 ?hdrm18
                case hdym18 => (intro wx hx; (try dsimp only at hx); go_simp; try with_reducible rfl)
                try simp only [Act.put, List.setIfInBounds_toArray, List.set_cons_zero, List.set_cons_succ]
                refine hd_taken 19 (some 113) _ ?hdvm19 rfl rfl (by kernel_rfl) (fun _ _ _ h => h) (Or.inl ⟨by kernel_rfl, ?hdym19⟩) hS4 ?hdrm19
                case hdym19 => (intro wx hx; (try dsimp only at hx); go_simp; try with_reducible rfl)
                try simp only [Act.put, List.setIfInBounds_toArray, List.set_cons_zero, List.set_cons_succ]
                refine hd_taken 20 (some 114) _ ?hdvm20 rfl rfl (by kernel_rfl) (fun _ _ _ h => h) (Or.inl ⟨by kernel_rfl, ?hdym20⟩) hS4 ?hdrm20
                case hdym20 => (intro wx hx; (try dsimp only at hx); go_simp; try with_reducible rfl)
                try simp only [Act.put, List.setIfInBounds_toArray, List.set_cons_zero, List.set_cons_succ]
                refine hd_taken 21 (some 115) _ ?hdvm21 rfl rfl (by kernel_rfl) (fun _ _ _ h => h) (Or.inl ⟨by kernel_rfl, ?hdym21⟩) hS4 ?hdrm21
                case hdym21 => (intro wx hx; (try dsimp only at hx); go_simp; try with_reducible rfl)
                try simp only [Act.put, List.setIfInBounds_toArray, List.set_cons_zero, List.set_cons_succ]
                refine hd_taken 22 (some 116) _ ?hdvm22 rfl rfl (by kernel_rfl) (fun _ _ _ h => h) (Or.inl ⟨by kernel_rfl, ?hdym22⟩) hS4 ?hdrm22
                case hdym22 => (intro wx hx; (try dsimp only at hx); go_simp; try with_reducible rfl)
                try simp only [Act.put, List.setIfInBounds_toArray, List.set_cons_zero, List.set_cons_succ]
                refine hd_taken 23 (some 117) _ undef rfl rfl (by kernel_rfl) (fun _ _ _ h => h) (Or.inr ⟨by kernel_rfl, rfl⟩) hS4 ?_
                try simp only [Act.put, List.setIfInBounds_toArray, List.set_cons_zero, List.set_cons_succ]
                refine hd_taken 24 (some 118) _ undef rfl rfl (by kernel_rfl) (fun _ _ _ h => h) (Or.inr ⟨by kernel_rfl, rfl⟩) hS4 ?_
                try simp only [Act.put, List.setIfInBounds_toArray, List.set_cons_zero, List.set_cons_succ]
                refine hd_taken 25 (some 119) _ undef rfl rfl (by kernel_rfl) (fun _ _ _ h => h) (Or.inr ⟨by kernel_rfl, rfl⟩) hS4 ?_
                try simp only [Act.put, List.setIfInBounds_toArray, List.set_cons_zero, List.set_cons_succ]
                refine hd_taken 26 (some 120) _ undef rfl rfl (by kernel_rfl) (fun _ _ _ h => h) (Or.inr ⟨by kernel_rfl, rfl⟩) hS4 ?_
                try simp only [Act.put, List.setIfInBounds_toArray, List.set_cons_zero, List.set_cons_succ]
                refine hd_taken 27 (some 121) _ undef rfl rfl (by kernel_rfl) (fun _ _ _ h => h) (Or.inr ⟨by kernel_rfl, rfl⟩) hS4 ?_
                try simp only [Act.put, List.setIfInBounds_toArray, List.set_cons_zero, List.set_cons_succ]
                refine hd_taken 28 (some 122) _ undef rfl rfl (by kernel_rfl) (fun _ _ _ h => h) (Or.inr ⟨by kernel_rfl, rfl⟩) hS4 ?_
                try simp only [Act.put, List.setIfInBounds_toArray, List.set_cons_zero, List.set_cons_succ]
                refine hd_taken 29 (some 123) _ undef rfl rfl (by kernel_rfl) (fun _ _ _ h => h) (Or.inr ⟨by kernel_rfl, rfl⟩) hS4 ?_
                try simp only [Act.put, List.setIfInBounds_toArray, List.set_cons_zero, List.set_cons_succ]
                refine hd_taken 30 (some 124) _ undef rfl rfl (by kernel_rfl) (fun _ _ _ h => h) (Or.inr ⟨by kernel_rfl, rfl⟩) hS4 ?_
                try simp only [Act.put, List.setIfInBounds_toArray, List.set_cons_zero, List.set_cons_succ]
                refine hd_taken 31 (some 125) _ undef rfl rfl (by kernel_rfl) (fun _ _ _ h => h) (Or.inr ⟨by kernel_rfl, rfl⟩) hS4 ?_
                try simp only [Act.put, List.setIfInBounds_toArray, List.set_cons_zero, List.set_cons_succ]
                refine hd_taken 32 (some 126) _ undef rfl rfl (by kernel_rfl) (fun _ _ _ h => h) (Or.inr ⟨by kernel_rfl, rfl⟩) hS4 ?_
                try simp only [Act.put, List.setIfInBounds_toArray, List.set_cons_zero, List.set_cons_succ]
                refine hd_taken 33 (some 127) _ undef rfl rfl (by kernel_rfl) (fun _ _ _ h => h) (Or.inr ⟨by kernel_rfl, rfl⟩) hS4 ?_
                try simp only [Act.put, List.setIfInBounds_toArray, List.set_cons_zero, List.set_cons_succ]
                refine hd_taken 34 (some 128) _ undef rfl rfl (by kernel_rfl) (fun _ _ _ h => h) (Or.inr ⟨by kernel_rfl, rfl⟩) hS4 ?_
                try simp only [Act.put, List.setIfInBounds_toArray, List.set_cons_zero, List.set_cons_succ]
                refine hd_taken 35 (some 129) _ ?hdvn35 rfl rfl (by kernel_rfl) (fun _ _ _ h => h) (Or.inl ⟨by kernel_rfl, ?hdyn35⟩) hS4 ?hdrn35
                case hdyn35 => (intro wx hx; (try dsimp only at hx); go_simp; try with_reducible rfl)
                try simp only [Act.put, List.setIfInBounds_toArray, List.set_cons_zero, List.set_cons_succ]
                refine hd_taken 36 (some 130) _ ?hdvn36 rfl rfl (by kernel_rfl) (fun _ _ _ h => h) (Or.inl ⟨by kernel_rfl, ?hdyn36⟩) hS4 ?hdrn36
                case hdyn36 => (intro wx hx; (try dsimp only at hx); go_simp; try with_reducible rfl)
                try simp only [Act.put, List.setIfInBounds_toArray, List.set_cons_zero, List.set_cons_succ]
                refine hd_taken 39 (some 133) _ ?hdvo39 rfl rfl (by kernel_rfl) (fun _ _ _ h => h) (Or.inl ⟨by kernel_rfl, ?hdyo39⟩) hS4 ?hdro39
                case hdyo39 => (intro wx hx; (try dsimp only at hx); go_simp; try with_reducible rfl)
                try simp only [Act.put, List.setIfInBounds_toArray, List.set_cons_zero, List.set_cons_succ]
                refine hd_listA [37] (by kernel_rfl) (by decide) (by decide) (fun i hi => ?_)
                simp only [List.mem_cons, List.not_mem_nil, or_false] at hi
                subst hi
                refine ⟨_, rfl, fun K15 hK15 => ?_⟩
                go_simp
                obtain ⟨w15x, hw15⟩ : ∃ wx, w4x.alloc (.cells #[.bool false] 4) = wx := ⟨_, rfl⟩
                have b15 := (Below.refl w4x.heap.size w4x).alloc (Nat.le_refl _) (.cells #[.bool false] 4)
                have f15 := Blk.new w4x 4 #[.bool false]
                rw [hw15] at b15 f15 ⊢
                obtain ⟨B15, hB15⟩ : ∃ B, w4x.heap.size = B := ⟨_, rfl⟩
                rw [hB15] at f15 ⊢
                have kB := Lib.hid f15
                have M15 := Lib.hid (M4.out.below b15)
                have KO15 := Lib.hid (Blk.below KO4.out b15)
                have C15 := Lib.hid (C4.out.trans (b15.mono z4))
                have z15 : base ≤ w15x.heap.size := Nat.le_trans z4 b15.size
                have hS15 := HC5.out _ KO15.out C15.out
                clear hw15 b15 f15 hB15
                refine hK15.out _ _ hS15 ?_
                clear hK15 K15 hS4
                try simp only [Act.put, List.setIfInBounds_toArray, List.set_cons_zero, List.set_cons_succ]
                refine hd_listA [38] (by kernel_rfl) (by decide) (by decide) (fun i hi => ?_)
                simp only [List.mem_cons, List.not_mem_nil, or_false] at hi
                subst hi
                refine ⟨_, rfl, fun K16 hK16 => ?_⟩
                refine step_append_blk (w := w15x) (x := false) (by rfl) _ _ 23 (by rfl) base iO _ 1 Try.underlying23 hiO hzO hkO hbO (by omega) rfl (by omega) encO_len encO_one _ (outF (prodA (toA r) (toA s) (opB true)) id i) (by rfl) (by rfl) M15.out.oF (by rfl) kB.out hoF z15 ?_
                intro v2 w16x y2
                obtain ⟨pv2, nv2, cv2, hv2⟩ := lie_slice y2
                subst hv2
                have M16 := Lib.hid (M15.out.gF y2)
                have KO16 := Lib.hid (y2.blk KO15.out (own_type M15.out.oF KO15.out (by decide))).1
                have C16 := Lib.hid (C15.out.trans y2.2.1)
                have hS16 := HC5.out _ KO16.out C16.out
                clear y2
                refine hK16.out _ _ hS16 ?_
                change HdG _ _ _ _ _ _ _ _ (Act.put _ (some 132) _) _
                clear hK16 K16 hS15
                try simp only [Act.put, List.setIfInBounds_toArray, List.set_cons_zero, List.set_cons_succ]
                refine hd_done (by kernel_rfl) ?_
                simp only [List.drop_succ_cons, List.drop_zero]
                have e1 := KO16.out.cell 1
                have e2 := KO16.out.cell 2
                have ef := KO16.out.frozen
                have M3y := M16.out.set KO16.out 1 (.slice pv1 nv1 cv1)
                have K3y := KO16.out.put 1 (.slice pv1 nv1 cv1)
                have C3y := C16.out.setCell (p := ⟨gout, 1, none⟩) HGO.out (.slice pv1 nv1 cv1)
                have M4y := M3y.set K3y 2 (.slice pv2 nv2 cv2)
                have K4y := K3y.put 2 (.slice pv2 nv2 cv2)
                have C4y := Lib.hid (C3y.setCell (p := ⟨gout, 2, none⟩) HGO.out (.slice pv2 nv2 cv2))
                have HFN := Lib.hid (M4y.fin HRL.out K4y)
                clear M3y K3y C3y M4y K4y hS16
                go_wp2
                go_roundw
                case measure => simp [intOf] <;> omega
                case rel => exact ⟨i + 1, _, _, _, by go_num, fun j hj => by
                  rcases Nat.lt_or_ge j i with h | h
                  · exact HGD.out j h
                  · obtain rfl : j = i := by omega
                    rw [HFD.out]
                    exact hlt, by rw [HNX.out.1]; omega, by rw [HNX.out.1, HNX.out.2.1, HNX.out.2.2]; exact HFN.out, C4y.out⟩
              | false =>
                have HNX : Hid (fdK (prodA (toA r) (toA s) (opB false)) id (i + 1) = F ∧ outN (prodA (toA r) (toA s) (opB false)) id (i + 1) = outN (prodA (toA r) (toA s) (opB false)) id i ++ [R] ∧ outF (prodA (toA r) (toA s) (opB false)) id (i + 1) = outF (prodA (toA r) (toA s) (opB false)) id i ++ [true]) := HNX
                refine hd_taken 12 (some 106) _ ?hdvp12 rfl rfl (by kernel_rfl) (fun _ _ _ h => h) (Or.inl ⟨by kernel_rfl, ?hdyp12⟩) hS4 ?hdrp12
                case hdyp12 => (intro wx hx; (try dsimp only at hx); go_simp; try with_reducible rfl)
                try simp only [Act.put, List.setIfInBounds_toArray, List.set_cons_zero, List.set_cons_succ]
                refine hd_taken 13 (some 107) _ ?hdvp13 rfl rfl (by kernel_rfl) (fun _ _ _ h => h) (Or.inl ⟨by kernel_rfl, ?hdyp13⟩) hS4 ?hdrp13
                case hdyp13 => (intro wx hx; (try dsimp only at hx); go_simp; try with_reducible rfl)
                try simp only [Act.put, List.setIfInBounds_toArray, List.set_cons_zero, List.set_cons_succ]
                refine hd_taken 14 (some 108) _ ?hdvp14 rfl rfl (by kernel_rfl) (fun _ _ _ h => h) (Or.inl ⟨by kernel_rfl, ?hdyp14⟩) hS4 ?hdrp14
                case hdyp14 => (intro wx hx; (try dsimp only at hx); go_simp; try with_reducible rfl)
                try simp only [Act.put, List.setIfInBounds_toArray, List.set_cons_zero, List.set_cons_succ]
                refine hd_taken 15 (some 109) _ ?hdvp15 rfl rfl (by kernel_rfl) (fun _ _ _ h => h) (Or.inl ⟨by kernel_rfl, ?hdyp15⟩) hS4 ?hdrp15
                case hdyp15 => (intro wx hx; (try dsimp only at hx); go_simp; try with_reducible rfl)
                try simp only [Act.put, List.setIfInBounds_toArray, List.set_cons_zero, List.set_cons_succ]
                refine hd_taken 16 (some 110) _ ?hdvp16 rfl rfl (by kernel_rfl) (fun _ _ _ h => h) (Or.inl ⟨by kernel_rfl, ?hdyp16⟩) hS4 ?hdrp16
                case hdyp16 => (intro wx hx; (try dsimp only at hx); go_simp; try with_reducible rfl)
                try simp only [Act.put, List.setIfInBounds_toArray, List.set_cons_zero, List.set_cons_succ]
                refine hd_taken 17 (some 111) _ ?hdvp17 rfl rfl (by kernel_rfl) (fun _ _ _ h => h) (Or.inl ⟨by kernel_rfl, ?hdyp17⟩) hS4 ?hdrp17
                case hdyp17 => (intro wx hx; (try dsimp only at hx); go_simp; try with_reducible rfl)
                try simp only [Act.put, List.setIfInBounds_toArray, List.set_cons_zero, List.set_cons_succ]
                refine hd_taken 18 (some 112) _ ?hdvp18 rfl rfl (by kernel_rfl) (fun _ _ _ h => h) (Or.inl ⟨by kernel_rfl, ?hdyp18⟩) hS4 ?hdrp18
                case hdyp18 => (intro wx hx; (try dsimp only at hx); go_simp; try with_reducible rfl)
                try simp only [Act.put, List.setIfInBounds_toArray, List.set_cons_zero, List.set_cons_succ]
                refine hd_taken 19 (some 113) _ ?hdvp19 rfl rfl (by kernel_rfl) (fun _ _ _ h => h) (Or.inl ⟨by kernel_rfl, ?hdyp19⟩) hS4 ?hdrp19
                case hdyp19 => (intro wx hx; (try dsimp only at hx); go_simp; try with_reducible rfl)
                try simp only [Act.put, List.setIfInBounds_toArray, List.set_cons_zero, List.set_cons_succ]
                refine hd_taken 20 (some 114) _ ?hdvp20 rfl rfl (by kernel_rfl) (fun _ _ _ h => h) (Or.inl ⟨by kernel_rfl, ?hdyp20⟩) hS4 ?hdrp20
                case hdyp20 => (intro wx hx; (try dsimp only at hx); go_simp; try with_reducible rfl)
                try simp only [Act.put, List.setIfInBounds_toArray, List.set_cons_zero, List.set_cons_succ]
                refine hd_taken 21 (some 115) _ ?hdvp21 rfl rfl (by kernel_rfl) (fun _ _ _ h => h) (Or.inl ⟨by kernel_rfl, ?hdyp21⟩) hS4 ?hdrp21
                case hdyp21 => (intro wx hx; (try dsimp only at hx); go_simp; try with_reducible rfl)
                try simp only [Act.put, List.setIfInBounds_toArray, List.set_cons_zero, List.set_cons_succ]
                refine hd_taken 22 (some 116) _ ?hdvp22 rfl rfl (by kernel_rfl) (fun _ _ _ h => h) (Or.inl ⟨by kernel_rfl, ?hdyp22⟩) hS4 ?hdrp22
                case hdyp22 => (intro wx hx; (try dsimp only at hx); go_simp; try with_reducible rfl)
                try simp only [Act.put, List.setIfInBounds_toArray, List.set_cons_zero, List.set_cons_succ]
                refine hd_taken 23 (some 117) _ ?hdvp23 rfl rfl (by kernel_rfl) (fun _ _ _ h => h) (Or.inl ⟨by kernel_rfl, ?hdyp23⟩) hS4 ?hdrp23
                case hdyp23 => (intro wx hx; (try dsimp only at hx); go_simp; try with_reducible rfl)
                try simp only [Act.put, List.setIfInBounds_toArray, List.set_cons_zero, List.set_cons_succ]
                refine hd_taken 24 (some 118) _ ?hdvp24 rfl rfl (by kernel_rfl) (fun _ _ _ h => h) (Or.inl ⟨by kernel_rfl, ?hdyp24⟩) hS4 ?hdrp24
                case hdyp24 => (intro wx hx; (try dsimp only at hx); go_simp; try with_reducible rfl)
                try simp only [Act.put, List.setIfInBounds_toArray, List.set_cons_zero, List.set_cons_succ]
                refine hd_taken 25 (some 119) _ ?hdvp25 rfl rfl (by kernel_rfl) (fun _ _ _ h => h) (Or.inl ⟨by kernel_rfl, ?hdyp25⟩) hS4 ?hdrp25
                case hdyp25 => (intro wx hx; (try dsimp only at hx); go_simp; try with_reducible rfl)
                try simp only [Act.put, List.setIfInBounds_toArray, List.set_cons_zero, List.set_cons_succ]
                refine hd_taken 26 (some 120) _ ?hdvp26 rfl rfl (by kernel_rfl) (fun _ _ _ h => h) (Or.inl ⟨by kernel_rfl, ?hdyp26⟩) hS4 ?hdrp26
                case hdyp26 => (intro wx hx; (try dsimp only at hx); go_simp; try with_reducible rfl)
                try simp only [Act.put, List.setIfInBounds_toArray, List.set_cons_zero, List.set_cons_succ]
                refine hd_taken 27 (some 121) _ ?hdvp27 rfl rfl (by kernel_rfl) (fun _ _ _ h => h) (Or.inl ⟨by kernel_rfl, ?hdyp27⟩) hS4 ?hdrp27
                case hdyp27 => (intro wx hx; (try dsimp only at hx); go_simp; try with_reducible rfl)
                try simp only [Act.put, List.setIfInBounds_toArray, List.set_cons_zero, List.set_cons_succ]
                refine hd_taken 28 (some 122) _ ?hdvp28 rfl rfl (by kernel_rfl) (fun _ _ _ h => h) (Or.inl ⟨by kernel_rfl, ?hdyp28⟩) hS4 ?hdrp28
                case hdyp28 => (intro wx hx; (try dsimp only at hx); go_simp; try with_reducible rfl)
                try simp only [Act.put, List.setIfInBounds_toArray, List.set_cons_zero, List.set_cons_succ]
                refine hd_taken 29 (some 123) _ undef rfl rfl (by kernel_rfl) (fun _ _ _ h => h) (Or.inr ⟨by kernel_rfl, rfl⟩) hS4 ?_
                try simp only [Act.put, List.setIfInBounds_toArray, List.set_cons_zero, List.set_cons_succ]
                refine hd_taken 30 (some 124) _ undef rfl rfl (by kernel_rfl) (fun _ _ _ h => h) (Or.inr ⟨by kernel_rfl, rfl⟩) hS4 ?_
                try simp only [Act.put, List.setIfInBounds_toArray, List.set_cons_zero, List.set_cons_succ]
                refine hd_taken 31 (some 125) _ undef rfl rfl (by kernel_rfl) (fun _ _ _ h => h) (Or.inr ⟨by kernel_rfl, rfl⟩) hS4 ?_
                try simp only [Act.put, List.setIfInBounds_toArray, List.set_cons_zero, List.set_cons_succ]
                refine hd_taken 32 (some 126) _ undef rfl rfl (by kernel_rfl) (fun _ _ _ h => h) (Or.inr ⟨by kernel_rfl, rfl⟩) hS4 ?_
                try simp only [Act.put, List.setIfInBounds_toArray, List.set_cons_zero, List.set_cons_succ]
                refine hd_taken 33 (some 127) _ undef rfl rfl (by kernel_rfl) (fun _ _ _ h => h) (Or.inr ⟨by kernel_rfl, rfl⟩) hS4 ?_
                try simp only [Act.put, List.setIfInBounds_toArray, List.set_cons_zero, List.set_cons_succ]
                refine hd_taken 34 (some 128) _ ?hdvq34 rfl rfl (by kernel_rfl) (fun _ _ _ h => h) (Or.inl ⟨by kernel_rfl, ?hdyq34⟩) hS4 ?hdrq34
                case hdyq34 => (intro wx hx; (try dsimp only at hx); go_simp; try with_reducible rfl)
                try simp only [Act.put, List.setIfInBounds_toArray, List.set_cons_zero, List.set_cons_succ]
                refine hd_taken 35 (some 129) _ ?hdvq35 rfl rfl (by kernel_rfl) (fun _ _ _ h => h) (Or.inl ⟨by kernel_rfl, ?hdyq35⟩) hS4 ?hdrq35
                case hdyq35 => (intro wx hx; (try dsimp only at hx); go_simp; try with_reducible rfl)
                try simp only [Act.put, List.setIfInBounds_toArray, List.set_cons_zero, List.set_cons_succ]
                refine hd_taken 36 (some 130) _ ?hdvq36 rfl rfl (by kernel_rfl) (fun _ _ _ h => h) (Or.inl ⟨by kernel_rfl, ?hdyq36⟩) hS4 ?hdrq36
                case hdyq36 => (intro wx hx; (try dsimp only at hx); go_simp; try with_reducible rfl)
                try simp only [Act.put, List.setIfInBounds_toArray, List.set_cons_zero, List.set_cons_succ]
                refine hd_taken 39 (some 133) _ ?hdvr39 rfl rfl (by kernel_rfl) (fun _ _ _ h => h) (Or.inl ⟨by kernel_rfl, ?hdyr39⟩) hS4 ?hdrr39
                case hdyr39 => (intro wx hx; (try dsimp only at hx); go_simp; try with_reducible rfl)
                try simp only [Act.put, List.setIfInBounds_toArray, List.set_cons_zero, List.set_cons_succ]
                refine hd_listA [37] (by kernel_rfl) (by decide) (by decide) (fun i hi => ?_)
                simp only [List.mem_cons, List.not_mem_nil, or_false] at hi
                subst hi
                refine ⟨_, rfl, fun K15 hK15 => ?_⟩
                go_simp
                obtain ⟨w15x, hw15⟩ : ∃ wx, w4x.alloc (.cells #[.bool true] 4) = wx := ⟨_, rfl⟩
                have b15 := (Below.refl w4x.heap.size w4x).alloc (Nat.le_refl _) (.cells #[.bool true] 4)
                have f15 := Blk.new w4x 4 #[.bool true]
                rw [hw15] at b15 f15 ⊢
                obtain ⟨B15, hB15⟩ : ∃ B, w4x.heap.size = B := ⟨_, rfl⟩
                rw [hB15] at f15 ⊢
                have kB := Lib.hid f15
                have M15 := Lib.hid (M4.out.below b15)
                have KO15 := Lib.hid (Blk.below KO4.out b15)
                have C15 := Lib.hid (C4.out.trans (b15.mono z4))
                have z15 : base ≤ w15x.heap.size := Nat.le_trans z4 b15.size
                have hS15 := HC5.out _ KO15.out C15.out
                clear hw15 b15 f15 hB15
                refine hK15.out _ _ hS15 ?_
                clear hK15 K15 hS4
                try simp only [Act.put, List.setIfInBounds_toArray, List.set_cons_zero, List.set_cons_succ]
                refine hd_listA [38] (by kernel_rfl) (by decide) (by decide) (fun i hi => ?_)
                simp only [List.mem_cons, List.not_mem_nil, or_false] at hi
                subst hi
                refine ⟨_, rfl, fun K16 hK16 => ?_⟩
                refine step_append_blk (w := w15x) (x := true) (by rfl) _ _ 23 (by rfl) base iO _ 1 Try.underlying23 hiO hzO hkO hbO (by omega) rfl (by omega) encO_len encO_one _ (outF (prodA (toA r) (toA s) (opB false)) id i) (by rfl) (by rfl) M15.out.oF (by rfl) kB.out hoF z15 ?_
                intro v2 w16x y2
                obtain ⟨pv2, nv2, cv2, hv2⟩ := lie_slice y2
                subst hv2
                have M16 := Lib.hid (M15.out.gF y2)
                have KO16 := Lib.hid (y2.blk KO15.out (own_type M15.out.oF KO15.out (by decide))).1
                have C16 := Lib.hid (C15.out.trans y2.2.1)
                have hS16 := HC5.out _ KO16.out C16.out
                clear y2
                refine hK16.out _ _ hS16 ?_
                change HdG _ _ _ _ _ _ _ _ (Act.put _ (some 132) _) _
                clear hK16 K16 hS15
                try simp only [Act.put, List.setIfInBounds_toArray, List.set_cons_zero, List.set_cons_succ]
                refine hd_done (by kernel_rfl) ?_
                simp only [List.drop_succ_cons, List.drop_zero]
                have e1 := KO16.out.cell 1
                have e2 := KO16.out.cell 2
                have ef := KO16.out.frozen
                have M3y := M16.out.set KO16.out 1 (.slice pv1 nv1 cv1)
                have K3y := KO16.out.put 1 (.slice pv1 nv1 cv1)
                have C3y := C16.out.setCell (p := ⟨gout, 1, none⟩) HGO.out (.slice pv1 nv1 cv1)
                have M4y := M3y.set K3y 2 (.slice pv2 nv2 cv2)
                have K4y := K3y.put 2 (.slice pv2 nv2 cv2)
                have C4y := Lib.hid (C3y.setCell (p := ⟨gout, 2, none⟩) HGO.out (.slice pv2 nv2 cv2))
                have HFN := Lib.hid (M4y.fin HRL.out K4y)
                clear M3y K3y C3y M4y K4y hS16
                go_wp2
                go_roundw
                case measure => simp [intOf] <;> omega
                case rel => exact ⟨i + 1, _, _, _, by go_num, fun j hj => by
                  rcases Nat.lt_or_ge j i with h | h
                  · exact HGD.out j h
                  · obtain rfl : j = i := by omega
                    rw [HFD.out]
                    exact hlt, by rw [HNX.out.1]; omega, by rw [HNX.out.1, HNX.out.2.1, HNX.out.2.2]; exact HFN.out, C4y.out⟩
    · have him : i = FD.length := by omega
      have h9 : ¬ (i : Int) < (FD.length : Int) := by omega
      have HST : Hid (Stop (prodA (toA r) (toA s) (opB both)) id i) := Lib.hid ⟨HGD.out, by rw [HFD.out]; exact him.symm⟩
      have hin : i ≤ n := by omega
      have t0 : w1.cell? ⟨gout, 0, none⟩ = some (.int .i64 0) := HM.out.ko.cell 0
      obtain ⟨pn, cn, hpn⟩ := HM.out.oN.slice
      obtain ⟨pf, cf, hpf⟩ := HM.out.oF.slice
      have hrl : raws.length = i := by rw [HM.out.rows.len, outN_len]
      have hfl : (outF (prodA (toA r) (toA s) (opB both)) id i).length = i := outF_len _ _ _
      rw [hrl] at hpn
      rw [hfl] at hpf
      subst hpn hpf
      have t1 : w1.cell? ⟨gout, 1, none⟩ = some (.slice pn i cn) := HM.out.ko.cell 1
      have t2 : w1.cell? ⟨gout, 2, none⟩ = some (.slice pf i cf) := HM.out.ko.cell 2
      have hl : (mkR (outN (prodA (toA r) (toA s) (opB both)) id i) (outF (prodA (toA r) (toA s) (opB both)) id i)).nx.length = i := by show (List.map _ _).length = i; rw [List.length_map, outN_len]
      have ha : (mkR (outN (prodA (toA r) (toA s) (opB both)) id i) (outF (prodA (toA r) (toA s) (opB both)) id i)).ac.length = i := outF_len _ _ _
      have hdk := okD_iff.1 (made_ok HST.out (by omega : i ≤ 2000))
      have HDK := Lib.hid hdk
      have HL := Lib.hid hl
      have hmin := minimal_any (mkR (outN (prodA (toA r) (toA s) (opB both)) id i) (outF (prodA (toA r) (toA s) (opB both)) id i)) hdk.1 pn cn pf cf w1 (by rw [hl]; exact rows_ofNat hrl (HM.out.oN.rd encS_len) HM.out.rows) (by rw [ha]; have := HM.out.oF.rd encO_len; exact this)
      rw [hl, ha] at hmin
      have HMIN := Lib.hid hmin
      clear him hmin hdk hl ha hrl hfl
      go_wp2_with fail
      refine HMIN.out.mono ?_
      rintro e w3 hmp
      obtain ⟨q, x1, d1, x2, d2, rfl, hism, hql, hkept, hb3⟩ := hmp.kept HDK.out
      have KO3 := Lib.hid (Blk.below HM.out.ko hb3)
      have KR1 : Hid (Blk (g + 2) 25 #[.int .i64 0, .slice none 0 0, .slice none 0 0] w1) := Lib.hid ((HB1.out.block (g + 2) (by have := KRC.out.lt; have := HBS.out; omega)).trans KRC.out)
      have KR3 := Lib.hid (Blk.below KR1.out hb3)
      have HISM := Lib.hid hism
      have HQL := Lib.hid hql
      have HKP := Lib.hid hkept
      have HB3 := Lib.hid hb3
      have hgw : gout < w1.heap.size := HM.out.ko.lt
      have hg2 : g + 2 < w1.heap.size := KR1.out.lt
      have HGN : Hid (g + 2 ≠ gout) := Lib.hid (by have := KRC.out.lt; have := HBS.out; have := HGE.out; omega)
      have xf := KO3.out.frozen
      have y0 : w3.cell? ⟨gout, 0, none⟩ = some (.int .i64 0) := KO3.out.cell 0
      have y1 : w3.cell? ⟨gout, 1, none⟩ = some (.slice pn i cn) := KO3.out.cell 1
      have y2 : w3.cell? ⟨gout, 2, none⟩ = some (.slice pf i cf) := KO3.out.cell 2
      clear t0 t1 t2 hmp hism hql hkept hb3 HMIN
      go_upto_region 22 with fail
      have gr4 := put3_grown w3 gout (.int .i64 q.st) (.slice x1 q.nx.length d1) (.slice x2 q.ac.length d2)
      obtain ⟨k4, b4⟩ := put3_ok (n := w.heap.size) (a' := .int .i64 q.st) (b' := .slice x1 q.nx.length d1) (c' := .slice x2 q.ac.length d2) KO3.out (by have := HG.out; have := KRC.out.lt; have := HBS.out; have := HGE.out; omega)
      have hfold : ((w3.setCell ⟨gout, 0, none⟩ (.int .i64 q.st)).setCell ⟨gout, 1, none⟩ (.slice x1 q.nx.length d1)).setCell ⟨gout, 2, none⟩ (.slice x2 q.ac.length d2) = put3 w3 gout (.int .i64 q.st) (.slice x1 q.nx.length d1) (.slice x2 q.ac.length d2) := rfl
      rw [hfold]
      obtain ⟨w4, hw4⟩ : ∃ w4, put3 w3 gout (.int .i64 q.st) (.slice x1 q.nx.length d1) (.slice x2 q.ac.length d2) = w4 := ⟨_, rfl⟩
      rw [hw4] at gr4 k4 b4 ⊢
      have KR4 : Hid (Blk (g + 2) 25 #[.int .i64 0, .slice none 0 0, .slice none 0 0] w4) := Lib.hid ((gr4.block (g + 2) KR3.out.lt (by intro e; injection e with e; exact HGN.out e)).trans KR3.out)
      have HKP4 := Lib.hid (HKP.out.put gr4 hgw (Nat.le_refl _))
      have hwb : w.heap.size ≤ w1.heap.size := by have := HB2'.out.size; have := HBS.out; omega
      have B4 := Lib.hid (((HB2'.out.trans (HB1.out.mono (by have := HBS.out; have := HB2'.out.size; omega))).trans (HB3.out.mono hwb)).trans b4)
      have f0 : w4.cell? ⟨gout, 0, none⟩ = some (.int .i64 q.st) := k4.cell 0
      have f1 : w4.cell? ⟨gout, 1, none⟩ = some (.slice x1 q.nx.length d1) := k4.cell 1
      have f2 : w4.cell? ⟨gout, 2, none⟩ = some (.slice x2 q.ac.length d2) := k4.cell 2
      have hq2 : ¬ (2000 : Int) < (q.nx.length : Int) := by have := HQL.out; rw [HL.out] at this; omega
      have xf2 := KR4.out.frozen
      have v0 : w4.cell? ⟨g + 2, 0, none⟩ = some (.int .i64 0) := KR4.out.cell 0
      have v1 : w4.cell? ⟨g + 2, 1, none⟩ = some (.slice none 0 0) := KR4.out.cell 1
      have v2 : w4.cell? ⟨g + 2, 2, none⟩ = some (.slice none 0 0) := KR4.out.cell 2
      have HFIN : Hid (Blk (g + 2) 25 #[.int .i64 q.st, .slice x1 q.nx.length d1, .slice x2 q.ac.length d2] (put3 w4 (g + 2) (.int .i64 q.st) (.slice x1 q.nx.length d1) (.slice x2 q.ac.length d2)) ∧ GotK (prodA (toA r) (toA s) (opB both)) (okD r && okD s) (r.nx.length * s.nx.length) w (.returned (.tuple #[.agg #[.int .i64 q.st, .slice x1 q.nx.length d1, .slice x2 q.ac.length d2], .int .i64 0])) (put3 w4 (g + 2) (.int .i64 q.st) (.slice x1 q.nx.length d1) (.slice x2 q.ac.length d2))) := Lib.hid (by
        obtain ⟨p1, p2⟩ := put3_ok (n := w.heap.size) (a' := .int .i64 q.st) (b' := .slice x1 q.nx.length d1) (c' := .slice x2 q.ac.length d2) KR4.out (by have := HG.out; omega)
        have hg5 := put3_grown w4 (g + 2) (.int .i64 q.st) (.slice x1 q.nx.length d1) (.slice x2 q.ac.length d2)
        have hl1 := HQL.out
        rw [HL.out] at hl1
        have heq : Eqv (toA (mkR (outN (prodA (toA r) (toA s) (opB both)) id i) (outF (prodA (toA r) (toA s) (opB both)) id i))) (prodA (toA r) (toA s) (opB both)) (toA (mkR (outN (prodA (toA r) (toA s) (opB both)) id i) (outF (prodA (toA r) (toA s) (opB both)) id i))).s0 (prodA (toA r) (toA s) (opB both)).s0 := by
          rw [mkR_toA]
          exact HST.out.start HA.out (id_cls _)
        have hn5 : r.nx.length * s.nx.length = n := by rw [HRE.out, HKE.out, HNE.out]
        exact ⟨p1, ⟨q, 0, x1, d1, x2, d2, rfl, .inr ⟨by rw [HOK.out, HOK2.out]; rfl, rfl, HISM.out.of heq, by rw [hn5]; omega⟩, HKP4.out.put hg5 hg2 hwb⟩, B4.out.trans p2⟩)
      clear gr4 k4 b4 hw4 xf y0 y1 y2 hfold
      go_wp2_with fail
      exact bodyPost_ret (v := .tuple #[.agg #[.int .i64 q.st, .slice x1 q.nx.length d1, .slice x2 q.ac.length d2], .int .i64 0]) (resPR rfl rfl HFIN.out.1) rfl HFIN.out.2
end Go.Proofs.Ytiljagfjgefnnaa
