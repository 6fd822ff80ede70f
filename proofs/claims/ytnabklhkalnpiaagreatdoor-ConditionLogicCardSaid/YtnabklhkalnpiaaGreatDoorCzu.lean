/- Of calqueref08: equal. Of calqueref08: Equal. -/
import Derived.Test.YtnabklhkalnpiaaGreatDoorCzr
namespace Go.Proofs.YtnabklhkalnpiaaGreatDoor
open Go.RowKit
set_option linter.unusedVariables false

theorem rlq_op {r s : Rel} (h : r.op ≠ s.op) : rlq r s = false := by unfold rlq; rw [decide_eq_false h]; simp
theorem rlq_md {r s : Rel} (h : r.md ≠ s.md) : rlq r s = false := by unfold rlq; rw [decide_eq_false h]; simp
theorem rlq_nt {r s : Rel} (h : r.nt ≠ s.nt) : rlq r s = false := by unfold rlq; rw [show (r.nt == s.nt) = false from by rw [beq_eq_false_iff_ne]; exact h]; simp
theorem rlq_sp {r s : Rel} (h : allEq spq r.sp s.sp = false) : rlq r s = false := by unfold rlq; rw [h]; simp
theorem rlq_go (o m : Int) (n : Bool) (l l' : List (Int × Int)) : rlq ⟨o, m, n, l⟩ ⟨o, m, n, l'⟩ = allEq spq l l' := by unfold rlq; simp
set_option maxRecDepth 1000000 in
set_option maxHeartbeats 4000000 in
theorem refEqRel_any (r s : Rel) (a1 : Option Addr) (c1 : Nat) (a2 : Option Addr) (c2 : Nat) (w : World) (hr : Rd 2 encP w (.slice a1 r.sp.length c1) r.sp) (hs : Rd 2 encP w (.slice a2 s.sp.length c2) s.sp) :
    Calls Tryz.prog 34 #[.agg #[.int .i64 r.op, .int .i64 r.md, .bool r.nt, .slice a1 r.sp.length c1], .agg #[.int .i64 s.op, .int .i64 s.md, .bool s.nt, .slice a2 s.sp.length c2]] w fun e w' => e = .returned (.bool (rlq r s)) ∧ Below w.heap.size w w' := by
  have HR := Lib.hid hr
  have HS := Lib.hid hs
  obtain ⟨o, m, n, l⟩ := r
  obtain ⟨o', m', n', l'⟩ := s
  dsimp only at HR HS ⊢
  clear hr hs
  have BA := (Below.refl w.heap.size w).alloc (Nat.le_refl _) (.cells #[.int .i64 o, .int .i64 m, .bool n, .slice a1 l.length c1] 38)
  have BB := Lib.hid (BA.alloc BA.size (.cells #[.int .i64 o', .int .i64 m', .bool n', .slice a2 l'.length c2] 38))
  clear BA
  by_cases ho : o = o'
  case neg =>
    have e1 : (o != o') = true := by rw [bne_iff_ne]; exact ho
    have HX := Lib.hid (rlq_op (r := ⟨o, m, n, l⟩) (s := ⟨o', m', n', l'⟩) ho)
    clear ho
    go_enter Tryz.func34, Tryz.ntmps34
    go_wp2
    go_ret
    exact ⟨by rw [HX.out]; rfl, BB.out⟩
  subst ho
  by_cases hm : m = m'
  case neg =>
    have e1 : (m != m') = true := by rw [bne_iff_ne]; exact hm
    have HX := Lib.hid (rlq_md (r := ⟨o, m, n, l⟩) (s := ⟨o, m', n', l'⟩) hm)
    clear hm
    go_enter Tryz.func34, Tryz.ntmps34
    go_wp2
    go_ret
    exact ⟨by rw [HX.out]; rfl, BB.out⟩
  subst hm
  by_cases hn : n = n'
  case neg =>
    have HX := Lib.hid (rlq_nt (r := ⟨o, m, n, l⟩) (s := ⟨o, m, n', l'⟩) hn)
    cases n <;> cases n' <;> first
      | exact absurd rfl hn
      | (clear hn
         go_enter Tryz.func34, Tryz.ntmps34
         go_wp2
         go_ret
         exact ⟨by rw [HX.out]; rfl, BB.out⟩)
  subst hn
  by_cases hln : l.length = l'.length
  case neg =>
    have e1 : ((l.length : Int) != (l'.length : Int)) = true := by rw [bne_iff_ne]; omega
    have e2 : (l.length != l'.length) = true := by rw [bne_iff_ne]; exact hln
    have HX := Lib.hid (rlq_sp (r := ⟨o, m, n, l⟩) (s := ⟨o, m, n, l'⟩) (allEq_len (q := spq) hln))
    clear hln
    go_enter Tryz.func34, Tryz.ntmps34
    go_wp2
    go_ret
    exact ⟨by rw [HX.out]; rfl, BB.out⟩
  have HLN := Lib.hid hln
  have t0 : ((l.length : Int) != (l'.length : Int)) = false := by rw [bne_eq_false_iff_eq]; omega
  have t0' : (l.length != l'.length) = false := by rw [bne_eq_false_iff_eq]; exact hln
  have KA : Hid (Blk w.heap.size 38 #[.int .i64 o, .int .i64 m, .bool n, .slice a1 l.length c1] ((w.alloc (.cells #[.int .i64 o, .int .i64 m, .bool n, .slice a1 l.length c1] 38)).alloc (.cells #[.int .i64 o, .int .i64 m, .bool n, .slice a2 l'.length c2] 38))) := Lib.hid (Blk.below (heap_alloc_new w _) ((Below.refl _ _).alloc (Nat.le_refl _) _))
  have KB : Hid (Blk (w.heap.size + 1) 38 #[.int .i64 o, .int .i64 m, .bool n, .slice a2 l'.length c2] ((w.alloc (.cells #[.int .i64 o, .int .i64 m, .bool n, .slice a1 l.length c1] 38)).alloc (.cells #[.int .i64 o, .int .i64 m, .bool n, .slice a2 l'.length c2] 38))) := Lib.hid (by
    have := heap_alloc_new (w.alloc (.cells #[.int .i64 o, .int .i64 m, .bool n, .slice a1 l.length c1] 38)) (.cells #[.int .i64 o, .int .i64 m, .bool n, .slice a2 l'.length c2] 38)
    have e : (w.alloc (.cells #[.int .i64 o, .int .i64 m, .bool n, .slice a1 l.length c1] 38)).heap.size = w.heap.size + 1 := by unfold World.alloc; exact Array.size_push ..
    rw [e] at this
    exact this)
  have HRL := Lib.hid (rlq_go o m n l l')
  have hlb : l.length ≤ 9223372036854775807 := by
    obtain ⟨_, _, _, q1, q2⟩ := HR.out.slice
    omega
  clear hln
  go_enter Tryz.func34, Tryz.ntmps34
  go_wp2
  go_loopw [5] (fun v wr => ∃ k : Nat, k ≤ l.length ∧ v = .int .i64 k ∧ (∀ (j : Nat) (hj : j < l.length) (hj' : j < l'.length), j < k → spq l[j] l'[j] = true) ∧ Below w.heap.size w wr ∧ Blk w.heap.size 38 #[.int .i64 o, .int .i64 m, .bool n, .slice a1 l.length c1] wr ∧ Blk (w.heap.size + 1) 38 #[.int .i64 o, .int .i64 m, .bool n, .slice a2 l'.length c2] wr) (fun v _ => l.length - (intOf v).toNat)
  case atStart => exact ⟨0, Nat.zero_le _, rfl, fun j _ _ h => by omega, BB.out, KA.out, KB.out⟩
  case round =>
    obtain ⟨k, hk, rfl, hkd, hb, k1, k2⟩ := hrel
    have HK := Lib.hid hkd
    have HBW := Lib.hid hb
    have K1 := Lib.hid k1
    have K2 := Lib.hid k2
    have s3 : wr.cell? ⟨w.heap.size, 3, none⟩ = some (.slice a1 l.length c1) := k1.cell 3
    have z3 : wr.cell? ⟨w.heap.size + 1, 3, none⟩ = some (.slice a2 l'.length c2) := k2.cell 3
    have s3d : wr.drew.cell? ⟨w.heap.size, 3, none⟩ = some (.slice a1 l.length c1) := k1.cell 3
    have z3d : wr.drew.cell? ⟨w.heap.size + 1, 3, none⟩ = some (.slice a2 l'.length c2) := k2.cell 3
    clear hkd hb k1 k2 t0 t0' KA KB BB
    by_cases hlt : k < l.length
    · have hlt' : k < l'.length := by rw [← HLN.out]; exact hlt
      obtain ⟨bk, off, rfl, h0, h1⟩ := (HR.out.below HBW.out).span k hlt
      obtain ⟨bk', off', rfl, g0, g1⟩ := (HS.out.below HBW.out).span k hlt'
      have h9 : (k : Int) < (l.length : Int) := by omega
      have h9' : (k : Int) < (l'.length : Int) := by omega
      have e1 := eqSp l[k] l'[k]
      have d0 : wr.drew.cell? ⟨bk, off + k * 2, none⟩ = some (.int .i64 l[k].1) := h0
      have d1 : wr.drew.cell? ⟨bk, off + k * 2 + 1, none⟩ = some (.int .i64 l[k].2) := h1
      have f0 : wr.drew.cell? ⟨bk', off' + k * 2, none⟩ = some (.int .i64 l'[k].1) := g0
      have f1 : wr.drew.cell? ⟨bk', off' + k * 2 + 1, none⟩ = some (.int .i64 l'[k].2) := g1
      have HBAD := Lib.hid (allEq_bad (q := spq) hlt hlt')
      obtain ⟨x, hx⟩ : ∃ x, spq l[k] l'[k] = x := ⟨_, rfl⟩
      have HX := Lib.hid hx
      rw [hx] at e1
      clear hx
      cases x with
      | false =>
        have HV := Lib.hid (HBAD.out HX.out)
        go_wp2_with fail
        go_quiet (fail)
        go_wp2
        go_ret
        exact ⟨by rw [HRL.out, HV.out]; rfl, below_drewN HBW.out _⟩
      | true =>
        go_wp2_with fail
        go_quiet (fail)
        go_wp2
        go_roundw
        case measure => simp [intOf]; omega
        case rel => exact ⟨k + 1, by omega, by go_num, fun j hj hj' hjk => by
          rcases Nat.lt_or_ge j k with h | h
          · exact HK.out j hj hj' h
          · obtain rfl : j = k := by omega
            exact HX.out, below_drewN HBW.out _, K1.out.drewN _, K2.out.drewN _⟩
    · obtain rfl : k = l.length := by omega
      have h3 : ¬ (l.length : Int) < (l.length : Int) := by omega
      have HV := Lib.hid (allEq_good (q := spq) HLN.out HK.out)
      go_wp2
      go_ret
      exact ⟨by rw [HRL.out, HV.out]; rfl, HBW.out⟩
end Go.Proofs.YtnabklhkalnpiaaGreatDoor

namespace Go.Proofs.YtnabklhkalnpiaaGreatDoor
open Go.RowKit
set_option linter.unusedVariables false

theorem Rd.drewK {α : Type} {k : Nat} {enc : α → List Value} {w : World} {v : Value} {l : List α} (h : Rd k enc w v l) : Rd k enc w.drew v l := h.below (Below.refl _ _).drew
set_option maxRecDepth 1000000 in
set_option maxHeartbeats 8000000 in
theorem refEqual_any (u v : Value) (c d : Cnd) (w : World) (hc : RdC w u c) (hd : RdC w v d) :
    Calls Tryz.prog 16 #[u, v] w fun e w' => e = .returned (.bool (cdq c d)) ∧ Below w.heap.size w w' := by
  have HC := Lib.hid hc
  have HD := Lib.hid hd
  obtain ⟨a1, n1, hu, hu1, hu2⟩ := hc.slice
  obtain ⟨a2, n2, hv, hv1, hv2⟩ := hd.slice
  subst hu hv
  clear hc hd
  by_cases hln : c.length = d.length
  case neg =>
    have t0 : ((c.length : Int) != (d.length : Int)) = true := by rw [bne_iff_ne]; omega
    have t0' : (c.length != d.length) = true := by rw [bne_iff_ne]; exact hln
    have HX : Hid (cdq c d = false) := Lib.hid (allEq_len hln)
    clear hln
    go_enter Tryz.func16, Tryz.ntmps16
    go_wp2
    go_ret
    exact ⟨by rw [HX.out]; rfl, Below.refl _ _⟩
  have HLN := Lib.hid hln
  have t0 : ((c.length : Int) != (d.length : Int)) = false := by rw [bne_eq_false_iff_eq]; omega
  have t0' : (c.length != d.length) = false := by rw [bne_eq_false_iff_eq]; exact hln
  clear hln
  go_enter Tryz.func16, Tryz.ntmps16
  go_wp2
  go_loopw [5] (fun v5 wr => ∃ k : Nat, k ≤ c.length ∧ v5 = .int .i64 k ∧ (∀ (j : Nat) (hj : j < c.length) (hj' : j < d.length), j < k → lsq c[j] d[j] = true) ∧ Below w.heap.size w wr) (fun v5 _ => c.length - (intOf v5).toNat)
  case atStart => exact ⟨0, Nat.zero_le _, rfl, fun j _ _ h => by omega, Below.refl _ _⟩
  case round =>
    obtain ⟨k, hk, rfl, hkd, hb⟩ := hrel
    have HK := Lib.hid hkd
    have HB := Lib.hid hb
    have zr := hb.size
    clear hkd hb t0 t0'
    by_cases hlt : k < c.length
    · have hlt' : k < d.length := by rw [← HLN.out]; exact hlt
      obtain ⟨bk, off, x1, x2, rfl, h0, h4⟩ := (HC.out.below HB.out).at_ k hlt
      obtain ⟨bk', off', z1, z2, rfl, g0, g4⟩ := (HD.out.below HB.out).at_ k hlt'
      have h9 : (k : Int) < (c.length : Int) := by omega
      have h9' : (k : Int) < (d.length : Int) := by omega
      have h0d : wr.drew.cell? ⟨bk, off + k, none⟩ = some (.slice x1 c[k].length x2) := h0
      have g0d : wr.drew.cell? ⟨bk', off' + k, none⟩ = some (.slice z1 d[k].length z2) := g0
      have HBAD := Lib.hid (allEq_bad (q := lsq) hlt hlt')
      obtain ⟨l, hl⟩ : ∃ l, c[k] = l := ⟨_, rfl⟩
      obtain ⟨m, hm⟩ : ∃ m, d[k] = m := ⟨_, rfl⟩
      have HL := Lib.hid hl
      have HM := Lib.hid hm
      rw [hl] at h0 h0d h4 HBAD
      rw [hm] at g0 g0d g4 HBAD
      have H4 := Lib.hid h4
      have G4 := Lib.hid g4
      obtain ⟨_, _, _, q1, q2⟩ := h4.slice
      have hlb : l.length ≤ 9223372036854775807 := by omega
      have H0 := Lib.hid h0
      have G0 := Lib.hid g0
      clear hl hm h4 g4 q1 q2
      by_cases hlm : l.length = m.length
      case neg =>
        have s0 : ((l.length : Int) != (m.length : Int)) = true := by rw [bne_iff_ne]; omega
        have s0' : (l.length != m.length) = true := by rw [bne_iff_ne]; exact hlm
        have HX : Hid (cdq c d = false) := Lib.hid (HBAD.out (allEq_len hlm))
        clear hlm
        go_wp2_with fail
        go_quiet (fail)
        go_wp2
        go_ret
        exact ⟨by rw [HX.out]; rfl, below_drewN HB.out _⟩
      have HLM := Lib.hid hlm
      have s0 : ((l.length : Int) != (m.length : Int)) = false := by rw [bne_eq_false_iff_eq]; omega
      have s0' : (l.length != m.length) = false := by rw [bne_eq_false_iff_eq]; exact hlm
      clear hlm
      go_wp2_with fail
      go_quiet (fail)
      go_wp2
      go_loopw [6] (fun v6 wz => ∃ j : Nat, j ≤ l.length ∧ v6 = .int .i64 j ∧ (∀ (i : Nat) (hi : i < l.length) (hi' : i < m.length), i < j → rlq l[i] m[i] = true) ∧ Below wr.heap.size wr wz) (fun v6 _ => l.length - (intOf v6).toNat)
      case atStart => exact ⟨0, Nat.zero_le _, rfl, fun i _ _ h => by omega, below_drewN (Below.refl _ _) _⟩
      case round =>
        obtain ⟨j, hj, rfl, hjd, hbz⟩ := hrel
        have HJ := Lib.hid hjd
        have HBZ := Lib.hid hbz
        have r0 := cell_later H0.out hbz
        have r1 := cell_later G0.out hbz
        have r0d : wr.drew.cell? ⟨bk, off + k, none⟩ = some (.slice x1 l.length x2) := r0
        have r1d : wr.drew.cell? ⟨bk', off' + k, none⟩ = some (.slice z1 m.length z2) := r1
        clear hjd hbz h0 g0 h0d g0d s0 s0'
        by_cases hjt : j < l.length
        · have hjt' : j < m.length := by rw [← HLM.out]; exact hjt
          obtain ⟨bm, om, y1, y2, rfl, p0, p1, p2, p3, p4⟩ := (H4.out.below HBZ.out).at_ j hjt
          obtain ⟨bm', om', y1', y2', rfl, o0, o1, o2, o3, o4⟩ := (G4.out.below HBZ.out).at_ j hjt'
          have h8 : (j : Int) < (l.length : Int) := by omega
          have h8' : (j : Int) < (m.length : Int) := by omega
          have HBADL := Lib.hid (allEq_bad (q := rlq) hjt hjt')
          obtain ⟨r, hr⟩ : ∃ r, l[j] = r := ⟨_, rfl⟩
          obtain ⟨s, hs⟩ : ∃ s, m[j] = s := ⟨_, rfl⟩
          have HR := Lib.hid hr
          have HS := Lib.hid hs
          rw [hr] at p0 p1 p2 p3 p4 HBADL
          rw [hs] at o0 o1 o2 o3 o4 HBADL
          have HCE : Hid (∀ wx, Below wr.heap.size wr wx → wx.cell? ⟨bk, off + k, none⟩ = some (.slice (some ⟨bm, om, none⟩) l.length x2) ∧ wx.cell? ⟨bk', off' + k, none⟩ = some (.slice (some ⟨bm', om', none⟩) m.length z2) ∧ wx.cell? ⟨bm, om + j * 4, none⟩ = some (.int .i64 r.op) ∧ wx.cell? ⟨bm, om + j * 4 + 1, none⟩ = some (.int .i64 r.md) ∧ wx.cell? ⟨bm, om + j * 4 + 2, none⟩ = some (.bool r.nt) ∧ wx.cell? ⟨bm, om + j * 4 + 3, none⟩ = some (.slice y1 r.sp.length y2) ∧ wx.cell? ⟨bm', om' + j * 4, none⟩ = some (.int .i64 s.op) ∧ wx.cell? ⟨bm', om' + j * 4 + 1, none⟩ = some (.int .i64 s.md) ∧ wx.cell? ⟨bm', om' + j * 4 + 2, none⟩ = some (.bool s.nt) ∧ wx.cell? ⟨bm', om' + j * 4 + 3, none⟩ = some (.slice y1' s.sp.length y2')) := Lib.hid (fun wx hb => ⟨cell_later r0 hb, cell_later r1 hb, cell_later p0 hb, cell_later p1 hb, cell_later p2 hb, cell_later p3 hb, cell_later o0 hb, cell_later o1 hb, cell_later o2 hb, cell_later o3 hb⟩)
          have P4 := Lib.hid (p4.drewK)
          have O4 := Lib.hid (o4.drewK)
          obtain ⟨b, hbb⟩ : ∃ b, rlq r s = b := ⟨_, rfl⟩
          have HQ := Lib.hid hbb
          have HCALL := Lib.hid (refEqRel_any r s y1 y2 y1' y2' wr.drew P4.out O4.out)
          rw [hbb] at HCALL
          clear hr hs p4 o4 hbb
          go_wp2_with fail
          go_region_held3 (fun wx => wx.cell? ⟨bk, off + k, none⟩ = some (.slice (some ⟨bm, om, none⟩) l.length x2) ∧ wx.cell? ⟨bk', off' + k, none⟩ = some (.slice (some ⟨bm', om', none⟩) m.length z2) ∧ wx.cell? ⟨bm, om + j * 4, none⟩ = some (.int .i64 r.op) ∧ wx.cell? ⟨bm, om + j * 4 + 1, none⟩ = some (.int .i64 r.md) ∧ wx.cell? ⟨bm, om + j * 4 + 2, none⟩ = some (.bool r.nt) ∧ wx.cell? ⟨bm, om + j * 4 + 3, none⟩ = some (.slice y1 r.sp.length y2) ∧ wx.cell? ⟨bm', om' + j * 4, none⟩ = some (.int .i64 s.op) ∧ wx.cell? ⟨bm', om' + j * 4 + 1, none⟩ = some (.int .i64 s.md) ∧ wx.cell? ⟨bm', om' + j * 4 + 2, none⟩ = some (.bool s.nt) ∧ wx.cell? ⟨bm', om' + j * 4 + 3, none⟩ = some (.slice y1' s.sp.length y2')) (first | exact HCE.out _ B2 | exact HCE.out _ (Below.refl _ _).drew) (first | (go_at_call 34; refine HCALL.out.mono ?_; rintro e w2 ⟨rfl, b2⟩; have B2 : Below wr.heap.size wr w2 := (Below.refl _ wr).drew.trans b2; clear b2))
          cases b with
          | false =>
            have HV : Hid (cdq c d = false) := Lib.hid (HBAD.out (HBADL.out HQ.out))
            go_wp2
            go_ret
            exact ⟨by rw [HV.out]; rfl, st HB.out (HBZ.out.trans (B2.mono HBZ.out.size)) zr⟩
          | true =>
            go_wp2
            go_roundw
            case measure => simp [intOf]; omega
            case rel => exact ⟨j + 1, by omega, by go_num, fun i hi hi' hij => by
              rcases Nat.lt_or_ge i j with h | h
              · exact HJ.out i hi hi' h
              · obtain rfl : i = j := by omega
                rw [HR.out, HS.out]; exact HQ.out, HBZ.out.trans (B2.mono HBZ.out.size)⟩
        · obtain rfl : j = l.length := by omega
          have h3 : ¬ (l.length : Int) < (l.length : Int) := by omega
          have HG : Hid (lsq l m = true) := Lib.hid (allEq_good HLM.out HJ.out)
          go_wp2
          go_roundw
          case measure => simp [intOf]; omega
          case rel => exact ⟨k + 1, by omega, by go_num, fun i hi hi' hik => by
            rcases Nat.lt_or_ge i k with h | h
            · exact HK.out i hi hi' h
            · obtain rfl : i = k := by omega
              rw [HL.out, HM.out]; exact HG.out, st HB.out HBZ.out zr⟩
    · obtain rfl : k = c.length := by omega
      have h3 : ¬ (c.length : Int) < (c.length : Int) := by omega
      have HV : Hid (cdq c d = true) := Lib.hid (allEq_good HLN.out HK.out)
      go_wp2
      go_ret
      exact ⟨by rw [HV.out]; rfl, HB.out⟩
end Go.Proofs.YtnabklhkalnpiaaGreatDoor
