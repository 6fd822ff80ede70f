/- Of the program: classes. -/
import Derived.Test.YtiljagfjgefnnaaBza
import Derived.WalkMore
namespace Go.Proofs.Ytiljagfjgefnnaa
open Go.RowKit
set_option linter.unusedVariables false

theorem PM.notX {w : World} {base n : Nat} {A : Pa} {vb0 vt0 vb vt : Value} {p : Ptn} (h : PM w base A vb0 vt0 vb vt n p) {k : Nat} {t : TypeId} {cs : Array Value} (hb : Blk k t cs w) (h1 : t ≠ 82) (h2 : t ≠ 21) (h3 : t ≠ 106) : ¬ PX A vb vt k := by
  have key : ∀ {t' : TypeId} {cs' : Array Value}, Blk k t' cs' w → t = t' := fun {t' cs'} hb' => by
    have h4 := (show w.heap[k]? = _ from hb).symm.trans (show w.heap[k]? = _ from hb')
    injection h4 with h4
    injection h4
  rintro (rfl | rfl | rfl | rfl | e | e)
  · exact h1 (key h.kp)
  · obtain ⟨cs', h5, _⟩ := h.fo; exact h2 (key h5)
  · obtain ⟨cs', h5, _⟩ := h.fq; exact h2 (key h5)
  · obtain ⟨cs', h5, _⟩ := h.fb; exact h2 (key h5)
  · exact own_type h.ol hb h3 e
  · exact own_type h.oc hb h2 e
theorem PM.base {w : World} {base base' n : Nat} {A : Pa} {vb0 vt0 vb vt : Value} {p : Ptn} (h : PM w base A vb0 vt0 vb vt n p) (hb : base' ≤ base) : PM w base' A vb0 vt0 vb vt n p :=
  ⟨h.kp, h.fo, h.fq, h.fb, Own1.base h.ol hb, Own1.base h.oc hb, h.oq, h.ob, h.qb, h.to_, h.tq, h.tb, Nat.le_trans hb h.lp, Nat.le_trans hb h.lo, Nat.le_trans hb h.lq, Nat.le_trans hb h.lb⟩
theorem px_keep {A : Pa} {vb vt vb' vt' : Value} {k N : Nat} (hk : k < N) (hn : ¬ PX A vb vt k) (h1 : ∀ k, vb'.ownBlock = some k → vb.ownBlock = some k ∨ N ≤ k) (h2 : ∀ k, vt'.ownBlock = some k → vt.ownBlock = some k ∨ N ≤ k) : ¬ PX A vb' vt' k := by
  rintro (e | e | e | e | e | e)
  · exact hn (.inl e)
  · exact hn (.inr (.inl e))
  · exact hn (.inr (.inr (.inl e)))
  · exact hn (.inr (.inr (.inr (.inl e))))
  · rcases h1 k e with e1 | e1
    · exact hn (.inr (.inr (.inr (.inr (.inl e1)))))
    · omega
  · rcases h2 k e with e1 | e1
    · exact hn (.inr (.inr (.inr (.inr (.inr e1)))))
    · omega
structure CE (G : Aut) (w : World) (base : Nat) (A : Pa) (vb vt : Value) (P : Ptn) (fb ob nb : Nat) (vo : Nat → Int) : Prop where
  pm : PM w base A vb vt vb vt G.n P
  ff : Fn fb 84 (G.n * 11) (i32Z (fsT G G.n 0)) w
  fo : Fn ob 84 (G.n * 11) (i32Z vo) w
  kn : Blk nb 99 #[.slice (some ⟨fb, 0, none⟩) G.n G.n, .slice (some ⟨ob, 0, none⟩) G.n G.n] w
theorem CE.fr {G : Aut} {w w' : World} {base : Nat} {A : Pa} {vb vt vb' vt' : Value} {P P' : Ptn} {fb ob nb : Nat} {vo : Nat → Int} (h : CE G w base A vb vt P fb ob nb vo) (hp : PM w' base A vb' vt' vb' vt' G.n P') (hf : Fr (PX A vb vt) w w') : CE G w' base A vb' vt' P' fb ob nb vo := by
  refine ⟨hp, hf.fn h.ff ?_, hf.fn h.fo ?_, hf.blk h.kn (h.pm.notX h.kn (by decide) (by decide) (by decide))⟩
  · obtain ⟨cs, h1, _⟩ := h.ff; exact h.pm.notX h1 (by decide) (by decide) (by decide)
  · obtain ⟨cs, h1, _⟩ := h.fo; exact h.pm.notX h1 (by decide) (by decide) (by decide)
theorem CE.below {G : Aut} {w w' : World} {base : Nat} {A : Pa} {vb vt : Value} {P : Ptn} {fb ob nb : Nat} {vo : Nat → Int} (h : CE G w base A vb vt P fb ob nb vo) (hb : Below w.heap.size w w') : CE G w' base A vb vt P fb ob nb vo :=
  ⟨h.pm.below hb, h.ff.below hb, h.fo.below hb, Blk.below h.kn hb⟩
/-- The list of the targets, apart. -/
structure CT (w : World) (A : Pa) (vb vt v : Value) (T : List Nat) : Prop where
  own : Own1 1 encM w 0 21 v T
  ns : ∀ k, v.ownBlock = some k → ¬ PX A vb vt k
theorem CT.fr {w w' : World} {A : Pa} {vb vt vb' vt' v : Value} {T : List Nat} (h : CT w A vb vt v T) (hf : Fr (PX A vb vt) w w') (h1 : ∀ k, vb'.ownBlock = some k → vb.ownBlock = some k ∨ w.heap.size ≤ k) (h2 : ∀ k, vt'.ownBlock = some k → vt.ownBlock = some k ∨ w.heap.size ≤ k) : CT w' A vb' vt' v T :=
  ⟨hf.own h.own h.ns, fun k hk => px_keep (own_lt h.own k hk).2 (h.ns k hk) h1 h2⟩
theorem CT.below {w w' : World} {A : Pa} {vb vt v : Value} {T : List Nat} (h : CT w A vb vt v T) (hb : Below w.heap.size w w') : CT w' A vb vt v T := ⟨own_below h.own hb, h.ns⟩
def ClassesR (G : Aut) (w : World) (e : Ending) (w' : World) : Prop := ∃ A vb vt P, e = .returned (.pointer (some ⟨A.p, 0, none⟩)) ∧ PM w' w.heap.size A vb vt vb vt G.n P ∧ PB G.n P ∧ Cls G P.b ∧ Below w.heap.size w w'
set_option maxRecDepth 1000000 in
set_option maxHeartbeats 32000000 in
theorem classesP_any (G : Aut) (hG : G.Ok) (n : Nat) (hgn : G.n = n) (hn : n ≤ 2000) (l : List (List Nat)) (hl : l.length = n) (hd : ∀ s c, s < n → c < 11 → (l.getD s []).getD c 0 = G.d s c) (fl : List Bool) (hfl : fl.length = n) (hf : ∀ s, s < n → fl.getD s false = G.f s) (a1 : Option Addr) (c1 : Nat) (a2 : Option Addr) (c2 : Nat) (w : World) (hR : Rd 11 encG w (.slice a1 n c1) l) (hO : Rd 1 encO w (.slice a2 n c2) fl) :
    Calls Try.prog 54 #[.agg #[.slice a1 n c1, .slice a2 n c2]] w (ClassesR G w) := by
  subst hgn
  have h0 : 0 < G.n := by have := hG.st; omega
  have BA := (Below.refl w.heap.size w).alloc (Nat.le_refl _) (.cells #[.slice a1 G.n c1, .slice a2 G.n c2] 62)
  have k0 := Blk.new w 62 #[.slice a1 G.n c1, .slice a2 G.n c2]
  obtain ⟨W0, hW0⟩ : ∃ W0, w.alloc (.cells #[.slice a1 G.n c1, .slice a2 G.n c2] 62) = W0 := ⟨_, rfl⟩
  rw [hW0] at BA k0
  have HR := Lib.hid (hR.below BA)
  have HO := Lib.hid (hO.below BA)
  have HW0 := Lib.hid hW0
  obtain ⟨g, hg⟩ : ∃ g, w.heap.size = g := ⟨_, rfl⟩
  have HGG := Lib.hid hg
  rw [hg] at k0
  have K0 := Lib.hid k0
  have HBA := Lib.hid BA
  have HD := Lib.hid hd
  have HL := Lib.hid hl
  have HFL := Lib.hid hfl
  have HF := Lib.hid hf
  have HOK := Lib.hid hG
  have HGL := Lib.hid k0.lt
  have m0 : W0.cell? ⟨g, 0, none⟩ = some (.slice a1 G.n c1) := k0.cell 0
  have HWH := Lib.hid (whole_any G.n h0 (by omega) W0)
  clear hR hO BA k0 hW0 hg hd hl hfl hf hG
  obtain ⟨base, hbase⟩ : ∃ base, W0.heap.size = base := ⟨_, rfl⟩
  have HBS := Lib.hid hbase
  clear hbase
  go_enter Try.func54, Try.ntmps54
  go_wp2_with fail
  go_step3
  rw [HW0.out, HGG.out]
  clear HW0
  go_wp2_with fail
  refine HWH.out.mono ?_
  rintro e w1 ⟨A, vb, vt, rfl, hpm, hb1⟩
  rw [HBS.out] at hpm hb1
  have P1 := Lib.hid hpm
  have B1 := Lib.hid hb1
  have m1 : w1.cell? ⟨g, 1, none⟩ = some (.slice a2 G.n c2) := (Blk.belowAt K0.out hb1 (HBS.out ▸ HGL.out)).cell 1
  clear hpm hb1 m0 HWH
  go_wp2_with fail
  go_loopw [20] (fun v20 wr => ∃ (s : Nat) (P : Ptn) (vt1 : Value), s ≤ G.n ∧ v20 = .int .i64 (s : Nat) ∧ PM wr base A vb vt1 vb vt1 G.n P ∧ R0 G s P ∧ Below base W0 wr) (fun v20 _ => G.n - (intOf v20).toNat)
  case atStart => exact ⟨0, ptn0 G.n, vt, Nat.zero_le _, rfl, P1.out, r0_start G h0, B1.out⟩
  case round =>
    rename World => wz
    obtain ⟨s, P, vt1, hs, rfl, hpm, hr0, hb⟩ := hrel
    have PZ := Lib.hid hpm
    have RZ := Lib.hid hr0
    have BZ := Lib.hid hb
    have HBZ := Lib.hid (HBS.out ▸ hb.size : base ≤ wz.heap.size)
    clear hpm hr0 hb P1 B1 m1
    by_cases hlt : s < G.n
    · have h9 : (s : Int) < (G.n : Int) := by omega
      have HLT := Lib.hid hlt
      obtain ⟨b2, off2, rfl, k2⟩ := (HO.out.below (HBS.out ▸ BZ.out)).boo s (by rw [HFL.out]; exact hlt)
      rw [HF.out s hlt] at k2
      cases hfs : G.f s with
      | false =>
        have HN := Lib.hid (RZ.out.skip hfs)
        rw [hfs] at k2
        clear hfs
        go_wp2_with fail
        go_roundw
        case measure => (have := HLT.out); simp [intOf] <;> omega
        case rel => exact ⟨s + 1, P, vt1, HLT.out, by (have := HLT.out); go_num, PZ.out, HN.out, BZ.out⟩
      | true =>
        have HN := Lib.hid (RZ.out.take hlt hfs)
        rw [hfs] at k2
        have d1 : IntKind.i32.wrap ((s : Nat) : Int) = (s : Int) := by rw [IntKind.wrap_i32]; omega
        have HMK := Lib.hid (mark_any wz base A vb vt1 G.n P s PZ.out RZ.out.pb RZ.out.tc hlt (RZ.out.no hlt) (by omega) HBZ.out)
        clear hfs
        go_wp2_with fail
        refine HMK.out.mono ?_
        rintro e w3 ⟨vt2, rfl, hpm, hfr, hov⟩
        have P3 := Lib.hid hpm
        have B3 := Lib.hid (BZ.out.trans (hfr.below HBZ.out (fun k hk => (PZ.out.px k hk).1)))
        clear hpm hfr hov
        go_wp2_with fail
        go_roundw
        case measure => (have := HLT.out); simp [intOf] <;> omega
        case rel => exact ⟨s + 1, markP P s, vt2, HLT.out, by (have := HLT.out); go_num, P3.out, HN.out, B3.out⟩
    · obtain rfl : s = G.n := by omega
      have h9 : ¬ (G.n : Int) < (G.n : Int) := by omega
      have HSP := Lib.hid (split_any wz base A vb vt1 G.n P PZ.out RZ.out.pb RZ.out.tc (by omega) HBZ.out)
      go_wp2_with fail
      refine HSP.out.mono ?_
      rintro e w3 ⟨P3, vb3, vt3, rfl, hpm, hsp, hfr, hov1, hov2⟩
      have PM3 := Lib.hid hpm
      have RI3 := Lib.hid (RZ.out.done hsp)
      have B3 := Lib.hid (BZ.out.trans (hfr.below HBZ.out (fun k hk => (PZ.out.px k hk).1)))
      have HB3 := Lib.hid (HBS.out ▸ B3.out.size : base ≤ w3.heap.size)
      have m0 : w3.cell? ⟨g, 0, none⟩ = some (.slice a1 G.n c1) := (Blk.belowAt K0.out B3.out (HBS.out ▸ HGL.out)).cell 0
      have m1 : w3.cell? ⟨g, 1, none⟩ = some (.slice a2 G.n c2) := (Blk.belowAt K0.out B3.out (HBS.out ▸ HGL.out)).cell 1
      have HRV := Lib.hid (reversed_any G G.n h0 (by omega) l HL.out HD.out HOK.out.go a1 c1 a2 G.n c2 w3 (HR.out.below (HBS.out ▸ B3.out)))
      clear hpm hsp hfr hov1 hov2 PZ RZ BZ HBZ HSP
      go_wp2_with fail
      refine HRV.out.mono ?_
      rintro e w4 ⟨fb, ob, vo, rfl, hff, hfo, hvo, hlf, hlo, hb4⟩
      have bA := (Below.refl w4.heap.size w4).alloc (Nat.le_refl _) (.cells #[.slice (some ⟨fb, 0, none⟩) G.n G.n, .slice (some ⟨ob, 0, none⟩) G.n G.n] 99)
      have kA := Blk.new w4 99 #[.slice (some ⟨fb, 0, none⟩) G.n G.n, .slice (some ⟨ob, 0, none⟩) G.n G.n]
      obtain ⟨w5, hw5⟩ : ∃ w5, w4.alloc (.cells #[.slice (some ⟨fb, 0, none⟩) G.n G.n, .slice (some ⟨ob, 0, none⟩) G.n G.n] 99) = w5 := ⟨_, rfl⟩
      rw [hw5] at bA kA
      obtain ⟨nb, hnb⟩ : ∃ nb, w4.heap.size = nb := ⟨_, rfl⟩
      rw [hnb] at kA
      have HNB := Lib.hid hnb
      have HW5 := Lib.hid hw5
      have CE5 : Hid (CE G w5 base A vb3 vt3 P3 fb ob nb vo) := Lib.hid ⟨(PM3.out.below hb4).below bA, hff.below bA, hfo.below bA, kA⟩
      have VO := Lib.hid hvo
      have B5 := Lib.hid ((B3.out.trans (hb4.mono HB3.out)).trans (bA.mono (Nat.le_trans HB3.out hb4.size)))
      clear hff hfo hvo hlf hlo hb4 bA kA hw5 hnb PM3 B3 HB3 m0 m1 HRV
      go_upto_region 10 with fail
      rw [HW5.out, HNB.out]
      clear HW5
      go_wp2_with fail
      go_step3
      go_wp2_with fail
      go_loopw [7] (fun v7 wr => ∃ (i : Nat) (P : Ptn) (vb vt : Value), i ≤ P.l.length ∧ v7 = .int .i64 (i : Nat) ∧ CE G wr base A vb vt P fb ob nb vo ∧ RI G i P ∧ Below base W0 wr) (fun v7 _ => G.n - (intOf v7).toNat)
      case atStart => exact ⟨1, P3, vb3, vt3, by have := (RI3.out.pb.b_ 0 h0).1; omega, rfl, CE5.out, RI3.out, B5.out⟩
      case round =>
        rename World => w6
        obtain ⟨i, P, vb6, vt6, hi, rfl, hce, hri, hb⟩ := hrel
        have C6 := Lib.hid hce
        have R6 := Lib.hid hri
        have B6 := Lib.hid hb
        have HB6 := Lib.hid (HBS.out ▸ hb.size : base ≤ w6.heap.size)
        have hle := hri.pb.len_le
        obtain ⟨pb, cb, hvb⟩ := hce.pm.ol.slice
        have m3 : w6.cell? ⟨A.p, 3, none⟩ = some (.slice pb P.l.length cb) := by rw [← hvb]; exact hce.pm.kp.cell 3
        clear hce hri hb CE5 RI3 B5
        by_cases hlt : i < P.l.length
        · have h9 : (i : Int) < (P.l.length : Int) := by omega
          have HLT := Lib.hid hlt
          have hin : i < G.n := by omega
          have HST := Lib.hid (states_any w6 base A vb6 vt6 G.n P i C6.out.pm R6.out.pb hlt (by omega))
          go_wp2_with fail
          refine HST.out.mono ?_
          rintro e w7 ⟨v8, rfl, hown, hb7⟩
          have CT7 : Hid (CT w7 A vb6 vt6 v8 (stL P i)) := Lib.hid ⟨Own1.base hown (Nat.zero_le _), fun k hk e => by
            have h1 := (own_lt hown k hk).1
            have h2 := (C6.out.pm.px k e).2
            omega⟩
          have C7 := Lib.hid (C6.out.below hb7)
          have B7 := Lib.hid (B6.out.trans (hb7.mono HB6.out))
          have HTM := Lib.hid (stL_mem R6.out.pb hlt)
          have HTN := Lib.hid (stL_nodup R6.out.pb hlt)
          have HTL := Lib.hid (stL_len R6.out.pb hlt)
          obtain ⟨T, hT⟩ : ∃ T, stL P i = T := ⟨_, rfl⟩
          rw [hT] at CT7 HTM HTN HTL
          obtain ⟨pT, qT, hpT⟩ := CT7.out.own.slice
          obtain ⟨TL, hTLe⟩ : ∃ TL, T.length = TL := ⟨_, rfl⟩
          have HTE := Lib.hid hTLe
          have hTL : TL ≤ G.n := by have := HTL.out; omega
          rw [hTLe] at hpT
          subst hpT
          clear hTLe hown hb7 hT C6 B6 HB6 m3 HST
          go_wp2_with fail
          go_loopw [47] (fun v47 wr => ∃ (c : Nat) (Q : Ptn) (vb vt : Value), c ≤ 11 ∧ v47 = .int .i64 (c : Nat) ∧ CE G wr base A vb vt Q fb ob nb vo ∧ CT wr A vb vt (.slice pT TL qT) T ∧ RJ G i c P Q ∧ Below base W0 wr) (fun v47 _ => 11 - (intOf v47).toNat)
          case atStart => exact ⟨0, P, vb6, vt6, by omega, rfl, C7.out, CT7.out, R6.out.use, B7.out⟩
          case round =>
            rename World => w8
            obtain ⟨c, Q, vb8, vt8, hc, rfl, hce, hct8, hrj, hb⟩ := hrel
            have C8 := Lib.hid hce
            have T8 := Lib.hid hct8
            have J8 := Lib.hid hrj
            have B8 := Lib.hid hb
            have hle8 := hrj.pb.len_le
            obtain ⟨pb8, cb8, hvb8⟩ := hce.pm.ol.slice
            have m3 : w8.cell? ⟨A.p, 3, none⟩ = some (.slice pb8 Q.l.length cb8) := by rw [← hvb8]; exact hce.pm.kp.cell 3
            clear hce hct8 hrj hb C7 CT7 B7
            by_cases hct : c < 11
            · have h9c : (c : Int) < 11 := by omega
              have h2000 : ¬ (2000 : Int) < (Q.l.length : Int) := by omega
              have RK0 := Lib.hid (J8.out.start T (c := c))
              go_wp2_with fail
              go_loopw [58] (fun v58 wr => ∃ (j : Nat) (R : Ptn) (vt : Value), j ≤ TL ∧ v58 = .int .i64 (j : Nat) ∧ CE G wr base A vb8 vt R fb ob nb vo ∧ CT wr A vb8 vt (.slice pT TL qT) T ∧ RK G T c j G.n Q R ∧ Below base W0 wr) (fun v58 _ => TL - (intOf v58).toNat)
              case atStart => exact ⟨0, Q, vt8, Nat.zero_le _, rfl, C8.out, T8.out, RK0.out, B8.out⟩
              case round =>
                rename World => w9
                obtain ⟨j, R, vt9, hj, rfl, hce, hct9, hrk, hb⟩ := hrel
                have C9 := Lib.hid hce
                have T9 := Lib.hid hct9
                have K9 := Lib.hid hrk
                have B9 := Lib.hid hb
                clear hce hct9 hrk hb C8 T8 B8 RK0
                by_cases hjt : j < TL
                · have h9j : (j : Int) < (TL : Int) := by omega
                  have HJT := Lib.hid hjt
                  have hjT : j < T.length := by have := HTE.out; omega
                  obtain ⟨bt, ot, rfl, ct⟩ := (T9.out.own.rd encM_len).i32 j hjT
                  obtain ⟨t, ht⟩ : ∃ t, T.getD j 0 = t := ⟨_, rfl⟩
                  have HTJ : Hid (T[j]? = some t) := Lib.hid (by rw [← ht, getD_get hjT, List.getElem?_eq_getElem hjT])
                  have htn : t < G.n := ((HTM.out t).1 (by rw [← ht, getD_get hjT]; exact List.getElem_mem hjT)).1
                  rw [ht] at ct
                  have ht9 : (t : Int) < (G.n : Int) := by omega
                  have cn0 : w9.cell? ⟨nb, 0, none⟩ = some (.slice (some ⟨fb, 0, none⟩) G.n G.n) := C9.out.kn.cell 0
                  have cf : w9.cell? ⟨fb, t * 11 + c, none⟩ = some (.int .i32 (prv G c t G.n)) := by
                    rw [C9.out.ff.cell (by omega)]
                    show some (Value.int .i32 (fsT G G.n 0 (t * 11 + c))) = _
                    unfold fsT
                    rw [show (t * 11 + c) % 11 = c by omega, show (t * 11 + c) / 11 = t by omega, if_neg (by omega)]
                  have HPV : Hid (prv G c t G.n = prv G c t G.n) := Lib.hid rfl
                  obtain ⟨y, hy⟩ : ∃ y, prv G c t G.n = y := ⟨_, rfl⟩
                  have HY := Lib.hid hy
                  rw [hy] at cf
                  clear ht hy HPV
                  go_wp2_with fail
                  go_loopw [12] (fun v12 wr => ∃ (m : Nat) (R : Ptn) (vt : Value) (y : Int), m ≤ G.n ∧ v12 = .int .i32 y ∧ prv G c t m = y ∧ CE G wr base A vb8 vt R fb ob nb vo ∧ CT wr A vb8 vt (.slice (some ⟨bt, ot, none⟩) TL qT) T ∧ RK G T c j m Q R ∧ Below base W0 wr) (fun v12 _ => (intOf v12 + 1).toNat)
                  case atStart => exact ⟨G.n, R, vt9, y, Nat.le_refl _, rfl, HY.out, C9.out, T9.out, K9.out, B9.out⟩
                  case round =>
                    rename World => w10
                    obtain ⟨m, S, vt10, z, hm, rfl, hz, hce, hct9, hrk, hb⟩ := hrel
                    have C10 := Lib.hid hce
                    have T10 := Lib.hid hct9
                    have K10 := Lib.hid hrk
                    have B10 := Lib.hid hb
                    have HB10 := Lib.hid (HBS.out ▸ hb.size : base ≤ w10.heap.size)
                    clear hce hct9 hrk hb C9 T9 K9 B9 cn0 cf ct
                    rcases prv_cases G c t m with ⟨e1, e2⟩ | ⟨x, hxm, e1, e2, e3⟩
                    · have hz1 : z = -1 := by rw [← hz, e1]
                      subst hz1
                      have HNX := Lib.hid (K10.out.next HTJ.out e2)
                      clear e1 e2 hz
                      go_wp2_with fail
                      go_roundw
                      case measure => (have := HJT.out); simp [intOf] <;> omega
                      case rel => exact ⟨j + 1, S, vt10, HJT.out, by (have := HJT.out); go_num, C10.out, T10.out, HNX.out, B10.out⟩
                    · have hzx : z = (x : Int) := by rw [← hz, e1]
                      subst hzx
                      have hxn : x < G.n := by omega
                      have hno := K10.out.no HTN.out HTJ.out hxn hxm e2
                      have HNX := Lib.hid (K10.out.mark HTN.out HTJ.out hxn hxm e2 e3)
                      have HMK := Lib.hid (mark_any w10 base A vb8 vt10 G.n S x C10.out.pm K10.out.pb K10.out.tc hxn hno (by omega) HB10.out)
                      have HEX := Lib.hid e2
                      have hne : ((x : Int) != -1) = true := by rw [bne_iff_ne]; omega
                      clear e1 e2 e3 hz hno
                      go_wp2_with fail
                      refine HMK.out.mono ?_
                      rintro e w11 ⟨vt11, rfl, hpm, hfr, hov⟩
                      have C11 := Lib.hid (C10.out.fr hpm hfr)
                      have T11 := Lib.hid (T10.out.fr hfr (fun k e => .inl e) hov)
                      have B11 := Lib.hid (B10.out.trans (hfr.below HB10.out (fun k hk => (C10.out.pm.px k hk).1)))
                      have cn1 : w11.cell? ⟨nb, 1, none⟩ = some (.slice (some ⟨ob, 0, none⟩) G.n G.n) := C11.out.kn.cell 1
                      have co : w11.cell? ⟨ob, x * 11 + c, none⟩ = some (.int .i32 (prv G c t x)) := by
                        rw [C11.out.fo.cell (by omega)]
                        show some (Value.int .i32 (vo (x * 11 + c))) = _
                        rw [VO.out x c hct (.inl hxn), HEX.out]
                      have hx9 : (x : Int) < (G.n : Int) := by omega
                      obtain ⟨z2, hz2⟩ : ∃ z2, prv G c t x = z2 := ⟨_, rfl⟩
                      have HZ2 := Lib.hid hz2
                      have hz2x : z2 < (x : Int) ∧ -1 ≤ z2 := by
                        rcases prv_cases G c t x with ⟨e1, _⟩ | ⟨x2, h5, e1, _⟩
                        · rw [← hz2, e1]; omega
                        · rw [← hz2, e1]; omega
                      rw [hz2] at co
                      clear hpm hfr hov C10 T10 B10 K10 HB10 HMK hz2
                      go_wp2_with fail
                      go_roundw
                      case measure => simp [intOf] <;> omega
                      case rel => exact ⟨x, markP S x, vt11, z2, by omega, rfl, HZ2.out, C11.out, T11.out, HNX.out, B11.out⟩
                · obtain rfl : j = TL := by omega
                  have h9j : ¬ (j : Int) < (j : Int) := by omega
                  have HB9 := Lib.hid (HBS.out ▸ B9.out.size : base ≤ w9.heap.size)
                  have HSP := Lib.hid (split_any w9 base A vb8 vt9 G.n R C9.out.pm K9.out.pb K9.out.tc (by omega) HB9.out)
                  go_wp2_with fail
                  refine HSP.out.mono ?_
                  rintro e w10 ⟨R2, vb10, vt10, rfl, hpm, hsp, hfr, hov1, hov2⟩
                  have C10 := Lib.hid (C9.out.fr hpm hfr)
                  have T10 := Lib.hid (T9.out.fr hfr hov1 hov2)
                  have B10 := Lib.hid (B9.out.trans (hfr.below HB9.out (fun k hk => (C9.out.pm.px k hk).1)))
                  have J10 := Lib.hid (J8.out.step HOK.out hct R6.out K9.out.b0 K9.out.l0 (fun s hs => by
                    have h5 := K9.out
                    rw [← HTE.out] at h5
                    rw [h5.all s hs, HTM.out]
                    exact ⟨fun e => e.2, fun e => ⟨HOK.out.go s c hs hct, e⟩⟩) hsp)
                  clear hpm hsp hfr hov1 hov2 HSP
                  go_wp2_with fail
                  go_roundw
                  case measure => simp [intOf] <;> omega
                  case rel => exact ⟨c + 1, R2, vb10, vt10, by omega, by go_num, C10.out, T10.out, J10.out, B10.out⟩
            · have hc11 : c = 11 := by omega
              subst hc11
              have h9c : ¬ (11 : Int) < 11 := by omega
              have HDN := Lib.hid (J8.out.done HOK.out R6.out HLT.out)
              have HLN : Hid (i + 1 ≤ Q.l.length) := Lib.hid (by have := J8.out.len; have := HLT.out; omega)
              go_wp2_with fail
              go_roundw
              case measure => simp [intOf] <;> omega
              case rel => exact ⟨i + 1, Q, vb8, vt8, HLN.out, by go_num, C8.out, HDN.out, B8.out⟩
        · have hil : i = P.l.length := by omega
          have h9 : ¬ (i : Int) < (P.l.length : Int) := by omega
          have HFIN : Hid (ClassesR G w (.returned (.pointer (some ⟨A.p, 0, none⟩))) w6) := Lib.hid ⟨A, vb6, vt6, P, rfl, C6.out.pm.base (by have := HBA.out.size; have := HBS.out; omega), R6.out.pb, R6.out.cls HOK.out (by omega), HBA.out.trans (B6.out.mono (by have := HBA.out.size; have := HBS.out; omega))⟩
          go_wp2_with fail
          try rw [Exit.noGoto_ret]
          go_ret
          exact HFIN.out
end Go.Proofs.Ytiljagfjgefnnaa
