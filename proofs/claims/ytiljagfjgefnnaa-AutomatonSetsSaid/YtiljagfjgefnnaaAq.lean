/- Of the reference: Complement, where minimal does as it should. -/
import Derived.Test.YtiljagfjgefnnaaAp
import Derived.Test.YtiljagfjgefnnaaAk
import Derived.Test.YtiljagfjgefnnaaAs
import Derived.Deep.RegionLaw
namespace Go.Proofs.Ytiljagfjgefnnaa
open Go.RowKit
set_option linter.unusedVariables false

def negD (r : RawD) : RawD := ⟨r.st, r.nx, r.ac.map fun b => !b⟩
theorem negD_ok {r : RawD} (h : DOk r) : DOk (negD r) := ⟨h.some_, h.most, by show (r.ac.map _).length = _; rw [List.length_map]; exact h.ac, h.st0, h.st1, h.row, h.num⟩
theorem negD_f {r : RawD} (h : DOk r) {s : Nat} (hs : s < r.nx.length) : (toA (negD r)).f s = !(toA r).f s := by
  show (r.ac.map fun b => !b).getD s false = !r.ac.getD s false
  have h1 : s < r.ac.length := by rw [h.ac]; exact hs
  rw [List.getD_eq_getElem?_getD, List.getD_eq_getElem?_getD, List.getElem?_map, List.getElem?_eq_getElem h1]
  rfl
theorem negD_eqv {r : RawD} (h : DOk r) {s : Nat} (hs : s < r.nx.length) : Eqv (toA (negD r)) (compl (toA r)) s s := by
  refine eqv_bisim (fun a b => a = b ∧ a < r.nx.length) (fun a b e => ?_) (fun a b c e hc => ?_) s s ⟨rfl, hs⟩
  · obtain ⟨rfl, e⟩ := e
    exact negD_f h e
  · obtain ⟨rfl, e⟩ := e
    exact ⟨rfl, h.ok.go a c e hc⟩
theorem take_not {l : List Bool} {k : Nat} (h : k < l.length) : (l.take (k + 1)).map (fun b => !b) = (l.take k).map (fun b => !b) ++ [!l.getD k false] := by
  rw [List.take_succ_eq_append_getElem h, List.map_append, List.getD_eq_getElem?_getD, List.getElem?_eq_getElem h]
  rfl
def GotC (r : RawD) (w : World) (e : Ending) (w' : World) : Prop := ((okD r = false ∧ GotNo 1 e) ∨ (okD r = true ∧ GotMin (toA (negD r)) w.heap.size e w')) ∧ Below w.heap.size w w'
theorem resT23 {W : World} {tm : Array Value} {B : Nat} {t : TypeId} {a b c x : Value} (t2 : tm[2]?.getD undef = .pointer (some ⟨B, 0, none⟩)) (t3 : tm[3]?.getD undef = x) (h : Blk B t #[a, b, c] W) :
    (results Try.f23 tm).run Try.prog W = .ok (.tuple #[.agg #[a, b, c], x]) W := by
  have a0 : W.cell? ⟨B, 0, none⟩ = some a := h.cell 0
  have a1 : W.cell? ⟨B, 1, none⟩ = some b := h.cell 1
  have a2 : W.cell? ⟨B, 2, none⟩ = some c := h.cell 2
  simp [results, Try.f23, go_sem, t2, t3, a0, a1, a2]
set_option maxRecDepth 1000000 in
set_option maxHeartbeats 16000000 in
theorem complementR_any (HC : MinC) (r : RawD) (a1 : Option Addr) (c1 : Nat) (a2 : Option Addr) (c2 : Nat) (w : World) (hN : RdRows w (.slice a1 r.nx.length c1) r.nx) (hF : Rd 1 encO w (.slice a2 r.ac.length c2) r.ac) :
    Calls Try.prog 23 #[.agg #[.int .i64 r.st, .slice a1 r.nx.length c1, .slice a2 r.ac.length c2]] w (GotC r w) := by
  obtain ⟨iO, hiO, hzO, hkO, hbO⟩ := info_parts Try.infoO
  have BA := (Below.refl w.heap.size w).alloc (Nat.le_refl _) (.cells #[.int .i64 r.st, .slice a1 r.nx.length c1, .slice a2 r.ac.length c2] 25)
  have BB := BA.alloc BA.size (.cells #[.int .i64 0, .slice none 0 0, .slice none 0 0] 25)
  have k0 := (Blk.new w 25 #[.int .i64 r.st, .slice a1 r.nx.length c1, .slice a2 r.ac.length c2]).alloc (.cells #[.int .i64 0, .slice none 0 0, .slice none 0 0] 25)
  have kr := Blk.new (w.alloc (.cells #[.int .i64 r.st, .slice a1 r.nx.length c1, .slice a2 r.ac.length c2] 25)) 25 #[.int .i64 0, .slice none 0 0, .slice none 0 0]
  rw [World.size_alloc] at kr
  obtain ⟨W0, hW0⟩ : ∃ W0, (w.alloc (.cells #[.int .i64 r.st, .slice a1 r.nx.length c1, .slice a2 r.ac.length c2] 25)).alloc (.cells #[.int .i64 0, .slice none 0 0, .slice none 0 0] 25) = W0 := ⟨_, rfl⟩
  have HN := Lib.hid (hN.below BB)
  have HF := Lib.hid (hF.below BB)
  have HBA := Lib.hid BB
  have K0 := Lib.hid k0
  have KR := Lib.hid kr
  rw [hW0] at HN HF HBA K0 KR
  obtain ⟨g, hg⟩ : ∃ g, w.heap.size = g := ⟨_, rfl⟩
  have HG := Lib.hid hg
  have HW0 := Lib.hid hW0
  rw [hg] at K0 KR
  have f0 : W0.cell? ⟨g, 0, none⟩ = some (.int .i64 r.st) := K0.out.cell 0
  have f1 : W0.cell? ⟨g, 1, none⟩ = some (.slice a1 r.nx.length c1) := K0.out.cell 1
  have f2 : W0.cell? ⟨g, 2, none⟩ = some (.slice a2 r.ac.length c2) := K0.out.cell 2
  have HMC := Lib.hid HC
  have z0 := KR.out.lt
  clear hN hF BA BB k0 kr hW0 hg HC
  go_enter Try.func23, Try.ntmps23
  go_upto_region 1 with fail
  rw [HW0.out, HG.out]
  clear HW0
  go_wp2_with fail
  refine (valid_any r a1 c1 a2 c2 W0 HN.out HF.out).mono ?_
  rintro e wv ⟨rfl, bv⟩
  have HBV := Lib.hid bv
  have KV := Lib.hid (Blk.below K0.out bv)
  have KRV := Lib.hid (Blk.below KR.out bv)
  have zv := bv.size
  clear bv f0 f1 f2
  cases hok : okD r with
  | false =>
    have HOK := Lib.hid hok
    have xf := KRV.out.frozen
    have y0 : wv.cell? ⟨g + 1, 0, none⟩ = some (.int .i64 0) := KRV.out.cell 0
    have y1 : wv.cell? ⟨g + 1, 1, none⟩ = some (.slice none 0 0) := KRV.out.cell 1
    have y2 : wv.cell? ⟨g + 1, 2, none⟩ = some (.slice none 0 0) := KRV.out.cell 2
    have HFIN : Hid (Blk (g + 1) 25 #[.int .i64 0, .slice none 0 0, .slice none 0 0] (put3 wv (g + 1) (.int .i64 0) (.slice none 0 0) (.slice none 0 0)) ∧ Below w.heap.size w (put3 wv (g + 1) (.int .i64 0) (.slice none 0 0) (.slice none 0 0))) := Lib.hid (by
      obtain ⟨p1, p2⟩ := put3_ok (n := w.heap.size) (a' := .int .i64 0) (b' := .slice none 0 0) (c' := .slice none 0 0) KRV.out (by have := HG.out; omega)
      exact ⟨p1, (HBA.out.trans (HBV.out.mono HBA.out.size)).trans p2⟩)
    clear hok
    go_wp2
    exact bodyPost_ret (v := .tuple #[.agg #[.int .i64 0, .slice none 0 0, .slice none 0 0], .int .i64 1]) (resT23 rfl rfl HFIN.out.1) rfl ⟨.inl ⟨HOK.out, rfl⟩, HFIN.out.2⟩
  | true =>
    have HOK := Lib.hid hok
    have HDK := Lib.hid (okD_iff.1 hok)
    have f0 : wv.cell? ⟨g, 0, none⟩ = some (.int .i64 r.st) := KV.out.cell 0
    have f1 : wv.cell? ⟨g, 1, none⟩ = some (.slice a1 r.nx.length c1) := KV.out.cell 1
    clear hok
    have b0 := Blk.new wv 25 #[.int .i64 0, .slice none 0 0, .slice none 0 0]
    obtain ⟨W1, hW1⟩ : ∃ W1, wv.alloc (.cells #[.int .i64 0, .slice none 0 0, .slice none 0 0] 25) = W1 := ⟨_, rfl⟩
    obtain ⟨B, hB⟩ : ∃ B, wv.heap.size = B := ⟨_, rfl⟩
    have HBE := Lib.hid hB
    have bw1 : Below B wv W1 := by rw [← hW1, ← hB]; exact (Below.refl _ wv).alloc (Nat.le_refl _) _
    rw [hW1, hB] at b0
    have bf := b0.frozen
    have y0 : W1.cell? ⟨B, 0, none⟩ = some (.int .i64 0) := b0.cell 0
    have y1 : W1.cell? ⟨B, 1, none⟩ = some (.slice none 0 0) := b0.cell 1
    have y2 : W1.cell? ⟨B, 2, none⟩ = some (.slice none 0 0) := b0.cell 2
    have HP := Lib.hid (put3_ok (n := B) (a' := .int .i64 r.st) (b' := .slice a1 r.nx.length c1) (c' := .slice none 0 0) b0 (Nat.le_refl _))
    have HBW := Lib.hid bw1
    clear b0 bw1
    go_upto_region 4 with fail
    obtain ⟨W2, hW2⟩ : ∃ W2, put3 W1 B (.int .i64 r.st) (.slice a1 r.nx.length c1) (.slice none 0 0) = W2 := ⟨_, rfl⟩
    have hW3 : ((W1.setCell ⟨B, 0, none⟩ (.int .i64 r.st)).setCell ⟨B, 1, none⟩ (.slice a1 r.nx.length c1)).setCell ⟨B, 2, none⟩ (.slice none 0 0) = W2 := hW2
    rw [hW2] at HP
    rw [hW3]
    have HS0 : Hid (Blk B 25 #[.int .i64 r.st, .slice a1 r.nx.length c1, .slice none 0 0] W2 ∧ Below B wv W2) := Lib.hid ⟨HP.out.1, HBW.out.trans HP.out.2⟩
    clear hW2 hW3 hW1 hB bf y0 y1 y2 f0 f1 HP
    have hnl := HDK.out.2
    have hal := HDK.out.1.ac
    have HAL := Lib.hid hal
    have hac : r.ac.length ≤ 2000 := by omega
    clear hal
    go_wp2_with fail
    go_loopw [5] (fun v5 wr => ∃ (k : Nat) (vF : Value), k ≤ r.ac.length ∧ v5 = .int .i64 (k : Nat) ∧ Blk B 25 #[.int .i64 r.st, .slice a1 r.nx.length c1, vF] wr ∧ Own1 1 encO wr B 4 vF ((r.ac.take k).map fun b => !b) ∧ Below B wv wr) (fun v5 _ => r.ac.length - (intOf v5).toNat)
    case atStart => exact ⟨0, _, Nat.zero_le _, rfl, HS0.out.1, own1_nil _ _ _, HS0.out.2⟩
    case round =>
      rename World => w1
      obtain ⟨k, vF, hk, rfl, hkb, own, hb⟩ := hrel
      obtain ⟨p4, q4, hp4⟩ := own.slice
      subst hp4
      obtain ⟨l, hl⟩ : ∃ l, (r.ac.take k).map (fun b => !b) = l := ⟨_, rfl⟩
      have hlen : l.length = k := by rw [← hl, List.length_map, List.length_take]; omega
      have HLL := Lib.hid hl
      have HLK := Lib.hid hlen
      rw [hl, hlen] at own
      rw [hl, hlen] at hkb
      have OW := Lib.hid own
      have HKB := Lib.hid hkb
      have HB1 := Lib.hid hb
      have hb' : Below wv.heap.size wv w1 := by rw [HBE.out]; exact hb
      have z1 : B ≤ w1.heap.size := by have := hb'.size; have := HBE.out; omega
      have KG := Lib.hid (Blk.below KV.out hb')
      have HFW := Lib.hid (HF.out.below (HBV.out.trans (hb'.mono zv)))
      have HNW := Lib.hid (HN.out.below (HBV.out.trans (hb'.mono zv)))
      have HBX := Lib.hid (hb')
      clear own hkb hb hl hlen hb' HS0
      have m0 : w1.cell? ⟨g, 2, none⟩ = some (.slice a2 r.ac.length c2) := KG.out.cell 2
      by_cases hlt : k < r.ac.length
      · have h9 : (k : Int) < (r.ac.length : Int) := by omega
        obtain ⟨b2, off2, rfl, h0⟩ := HFW.out.boo k hlt
        have hll : l.length ≤ 1000000000 := by rw [HLK.out]; omega
        obtain ⟨fb, hfb⟩ : ∃ fb, r.ac.getD k false = fb := ⟨_, rfl⟩
        have HFB := Lib.hid hfb
        rw [hfb] at h0
        clear hfb
        have m0d : w1.drew.cell? ⟨g, 2, none⟩ = some (.slice (some ⟨b2, off2, none⟩) r.ac.length c2) := m0
        have m2 : w1.cell? ⟨B, 2, none⟩ = some (.slice p4 k q4) := HKB.out.cell 2
        have m2d : w1.drew.cell? ⟨B, 2, none⟩ = some (.slice p4 k q4) := m2
        cases fb with
        | true =>
          have HNB : Hid ((r.ac.take (k + 1)).map (fun b => !b) = l ++ [false]) := Lib.hid (by rw [take_not hlt, HFB.out, HLL.out]; rfl)
          have h0d : w1.drew.cell? ⟨b2, off2 + k, none⟩ = some (.bool true) := h0
          have m2a : (w1.alloc (.cells #[.bool false] 4)).cell? ⟨B, 2, none⟩ = some (.slice p4 k q4) := (Blk.alloc HKB.out (.cells #[.bool false] 4)).cell 2
          have m2c : (w1.drew.alloc (.cells #[.bool false] 4)).cell? ⟨B, 2, none⟩ = some (.slice p4 k q4) := m2a
          have XA := Lib.hid ((Below.refl w1.heap.size w1).drew.alloc (Nat.le_refl _) (.cells #[.bool false] 4))
          have OA := Lib.hid (own_below OW.out XA.out)
          have KA := Lib.hid (Blk.below HKB.out XA.out)
          have kA := Lib.hid (Blk.new w1.drew 4 #[.bool false])
          have zA : B ≤ (w1.drew.alloc (.cells #[.bool false] 4)).heap.size := Nat.le_trans z1 XA.out.size
          go_wp2_with fail
          go_region_law ((refine step_append_blk (w := w1.drew.alloc (.cells #[.bool false] 4)) (x := false) (by rfl) _ _ 23 (by rfl) B iO _ 1 Try.underlying23 hiO hzO hkO hbO (by omega) rfl (by omega) encO_len encO_one _ l (by rfl) (by rfl) OA.out (by rfl) kA.out hll zA ?_; intro v1 x1 y1; obtain ⟨pv1, nv1, cv1, hv1⟩ := lie_slice y1; subst hv1; have K1 := (y1.blk KA.out (own_type OA.out KA.out (by decide))).1; have e2 := K1.cell 2; have ef := K1.frozen; have HNX := Lib.hid (And.intro (K1.put 2 (.slice pv1 nv1 cv1)) (And.intro (own_grown y1.1 (grown_set x1 B 2 (.slice pv1 nv1 cv1)) (fun b hb e1 => own_type y1.1 K1 (by decide) (by injection e1 with e1; rw [e1]; exact hb))) ((HB1.out.trans ((XA.out.mono z1).trans y1.2.1)).setCell (p := ⟨B, 2, none⟩) (Nat.le_refl _) (.slice pv1 nv1 cv1)))); clear y1 K1))
          all_goals (
            go_wp2
            go_roundw
            case measure => simp [intOf] <;> omega
            case rel => exact ⟨k + 1, _, by omega, by go_num, HNX.out.1, by rw [HNB.out]; exact HNX.out.2.1, HNX.out.2.2⟩)
        | false =>
          have HNB : Hid ((r.ac.take (k + 1)).map (fun b => !b) = l ++ [true]) := Lib.hid (by rw [take_not hlt, HFB.out, HLL.out]; rfl)
          have h0d : w1.drew.cell? ⟨b2, off2 + k, none⟩ = some (.bool false) := h0
          have m2a : (w1.alloc (.cells #[.bool true] 4)).cell? ⟨B, 2, none⟩ = some (.slice p4 k q4) := (Blk.alloc HKB.out (.cells #[.bool true] 4)).cell 2
          have m2c : (w1.drew.alloc (.cells #[.bool true] 4)).cell? ⟨B, 2, none⟩ = some (.slice p4 k q4) := m2a
          have XA := Lib.hid ((Below.refl w1.heap.size w1).drew.alloc (Nat.le_refl _) (.cells #[.bool true] 4))
          have OA := Lib.hid (own_below OW.out XA.out)
          have KA := Lib.hid (Blk.below HKB.out XA.out)
          have kA := Lib.hid (Blk.new w1.drew 4 #[.bool true])
          have zA : B ≤ (w1.drew.alloc (.cells #[.bool true] 4)).heap.size := Nat.le_trans z1 XA.out.size
          go_wp2_with fail
          go_region_law ((refine step_append_blk (w := w1.drew.alloc (.cells #[.bool true] 4)) (x := true) (by rfl) _ _ 23 (by rfl) B iO _ 1 Try.underlying23 hiO hzO hkO hbO (by omega) rfl (by omega) encO_len encO_one _ l (by rfl) (by rfl) OA.out (by rfl) kA.out hll zA ?_; intro v1 x1 y1; obtain ⟨pv1, nv1, cv1, hv1⟩ := lie_slice y1; subst hv1; have K1 := (y1.blk KA.out (own_type OA.out KA.out (by decide))).1; have e2 := K1.cell 2; have ef := K1.frozen; have HNX := Lib.hid (And.intro (K1.put 2 (.slice pv1 nv1 cv1)) (And.intro (own_grown y1.1 (grown_set x1 B 2 (.slice pv1 nv1 cv1)) (fun b hb e1 => own_type y1.1 K1 (by decide) (by injection e1 with e1; rw [e1]; exact hb))) ((HB1.out.trans ((XA.out.mono z1).trans y1.2.1)).setCell (p := ⟨B, 2, none⟩) (Nat.le_refl _) (.slice pv1 nv1 cv1)))); clear y1 K1))
          all_goals (
            go_wp2
            go_roundw
            case measure => simp [intOf] <;> omega
            case rel => exact ⟨k + 1, _, by omega, by go_num, HNX.out.1, by rw [HNB.out]; exact HNX.out.2.1, HNX.out.2.2⟩)
      · have hkn : k = r.ac.length := by omega
        have h9 : ¬ (k : Int) < (r.ac.length : Int) := by omega
        have HKN := Lib.hid hkn
        have hkx : k = (negD r).ac.length := by rw [hkn]; show _ = (r.ac.map _).length; rw [List.length_map]
        have HLA : Hid (l = (negD r).ac) := Lib.hid (by rw [← HLL.out, hkn, List.take_length]; rfl)
        have HRD := Lib.hid (OW.out.rd encO_len)
        have HCALL : Hid (Calls Try.prog 41 #[.agg #[.int .i64 r.st, .slice a1 r.nx.length c1, .slice p4 k q4]] w1 (MinP (negD r) w1)) := Lib.hid (by
          have h1 := HRD.out
          rw [HLA.out] at h1
          have h2 := HMC.out (negD r) (negD_ok HDK.out.1) a1 c1 p4 q4 w1 HNW.out (by rw [← hkx]; exact h1)
          rw [← hkx] at h2
          exact h2)
        have m3 : w1.cell? ⟨B, 0, none⟩ = some (.int .i64 r.st) := HKB.out.cell 0
        have m4 : w1.cell? ⟨B, 1, none⟩ = some (.slice a1 r.nx.length c1) := HKB.out.cell 1
        have m5 : w1.cell? ⟨B, 2, none⟩ = some (.slice p4 k q4) := HKB.out.cell 2
        clear hkn hkx
        go_wp2_with fail
        refine HCALL.out.mono ?_
        rintro e wm ⟨m, cl, b1, d1, b2, d2, raws, hcl, hst, rfl, hn, hrows, hlo, hf, hb⟩
        have KRM := Lib.hid (Blk.below (Blk.below KRV.out HBX.out) hb)
        have xf := KRM.out.frozen
        have y0 : wm.cell? ⟨g + 1, 0, none⟩ = some (.int .i64 0) := KRM.out.cell 0
        have y1 : wm.cell? ⟨g + 1, 1, none⟩ = some (.slice none 0 0) := KRM.out.cell 1
        have y2 : wm.cell? ⟨g + 1, 2, none⟩ = some (.slice none 0 0) := KRM.out.cell 2
        have HFIN : Hid (Blk (g + 1) 25 #[.int .i64 0, .slice b1 m d1, .slice b2 m d2] (put3 wm (g + 1) (.int .i64 0) (.slice b1 m d1) (.slice b2 m d2)) ∧ GotC r w (.returned (.tuple #[.agg #[.int .i64 0, .slice b1 m d1, .slice b2 m d2], .int .i64 0])) (put3 wm (g + 1) (.int .i64 0) (.slice b1 m d1) (.slice b2 m d2))) := Lib.hid (by
          obtain ⟨p1, p2⟩ := put3_ok (n := w.heap.size) (a' := .int .i64 0) (b' := .slice b1 m d1) (c' := .slice b2 m d2) KRM.out (by have := HG.out; omega)
          have hg := put3_grown wm (g + 1) (.int .i64 0) (.slice b1 m d1) (.slice b2 m d2)
          have hgv : g + 1 < w1.heap.size := Nat.lt_of_lt_of_le (Nat.lt_of_lt_of_le z0 zv) HBX.out.size
          have hwv : w.heap.size ≤ w1.heap.size := by have := HG.out; omega
          have hlt : ∀ b, w1.heap.size ≤ b → (some (g + 1) : Option Nat) ≠ some b := fun b hb e => by
            injection e with e
            omega
          refine ⟨p1, .inr ⟨HOK.out, m, cl, b1, d1, b2, d2, raws, hcl, hst, rfl, Own1.base (own_grown hn hg (fun b hb => hlt b (own_lt hn b hb).1)) hwv, hrows.grown hg (fun x hx b hb => hlt b (hlo x hx b hb)), fun x hx b hb => Nat.le_trans hwv (hlo x hx b hb), Own1.base (own_grown hf hg (fun b hb => hlt b (own_lt hf b hb).1)) hwv⟩, ?_⟩
          exact ((HBA.out.trans ((HBV.out.trans (HBX.out.mono zv)).mono HBA.out.size)).trans (hb.mono hwv)).trans p2)
        clear hcl hst hn hrows hlo hf hb m0 m3 m4 m5
        go_wp2
        exact bodyPost_ret (v := .tuple #[.agg #[.int .i64 0, .slice b1 m d1, .slice b2 m d2], .int .i64 0]) (resT23 rfl rfl HFIN.out.1) rfl HFIN.out.2
end Go.Proofs.Ytiljagfjgefnnaa
