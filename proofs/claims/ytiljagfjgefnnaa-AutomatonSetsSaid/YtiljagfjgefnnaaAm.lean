/- Of the reference: Equal. -/
import Derived.Test.YtiljagfjgefnnaaAh
namespace Go.Proofs.Ytiljagfjgefnnaa
open Go.RowKit
set_option linter.unusedVariables false

def eqD (r q : RawD) : Bool := decide (r.st = q.st ∧ r.nx = q.nx ∧ r.ac = q.ac)
theorem eqD_no {r q : RawD} (h : ¬ (r.st = q.st ∧ r.nx = q.nx ∧ r.ac = q.ac)) : eqD r q = false := decide_eq_false h
theorem eqD_yes {r q : RawD} (h : r.st = q.st ∧ r.nx = q.nx ∧ r.ac = q.ac) : eqD r q = true := decide_eq_true h
theorem eqD_iff {r q : RawD} : eqD r q = true ↔ r.st = q.st ∧ r.nx = q.nx ∧ r.ac = q.ac := decide_eq_true_iff
theorem ext_get {α : Type} {a b : List α} (hl : a.length = b.length) (h : ∀ (j : Nat) (h1 : j < a.length) (h2 : j < b.length), a[j] = b[j]) : a = b := List.ext_getElem hl h
theorem bne_t {x y : Int} (h : x ≠ y) : (x != y) = true := by rw [bne_iff_ne]; exact h
theorem bne_f {x y : Int} (h : x = y) : (x != y) = false := by rw [bne_eq_false_iff_eq]; exact h
theorem bne_tN {x y : Nat} (h : x ≠ y) : (x != y) = true := by rw [bne_iff_ne]; exact h
theorem bne_fN {x y : Nat} (h : x = y) : (x != y) = false := by rw [bne_eq_false_iff_eq]; exact h
theorem bne_tO {x y : Bool} (h : x ≠ y) : (x != y) = true := by rw [bne_iff_ne]; exact h
theorem bne_fO {x y : Bool} (h : x = y) : (x != y) = false := by rw [bne_eq_false_iff_eq]; exact h
set_option maxRecDepth 1000000 in
set_option maxHeartbeats 16000000 in
theorem equalD_any (r q : RawD) (a1 : Option Addr) (c1 : Nat) (a2 : Option Addr) (c2 : Nat) (a3 : Option Addr) (c3 : Nat) (a4 : Option Addr) (c4 : Nat) (w : World) (hN : RdRows w (.slice a1 r.nx.length c1) r.nx) (hF : Rd 1 encO w (.slice a2 r.ac.length c2) r.ac) (hN2 : RdRows w (.slice a3 q.nx.length c3) q.nx) (hF2 : Rd 1 encO w (.slice a4 q.ac.length c4) q.ac) :
    Calls Try.prog 20 #[.agg #[.int .i64 r.st, .slice a1 r.nx.length c1, .slice a2 r.ac.length c2], .agg #[.int .i64 q.st, .slice a3 q.nx.length c3, .slice a4 q.ac.length c4]] w fun e w' => e = .returned (.bool (eqD r q)) ∧ Below w.heap.size w w' := by
  have HNO := Lib.hid (@eqD_no r q)
  have HYES := Lib.hid (@eqD_yes r q)
  obtain ⟨ev, hev⟩ : ∃ ev, eqD r q = ev := ⟨_, rfl⟩
  rw [hev] at HNO HYES ⊢
  clear hev
  obtain ⟨s1, n1, p1⟩ := r
  obtain ⟨s2, n2, p2⟩ := q
  dsimp only at hN hF hN2 hF2 HNO HYES ⊢
  have hb1 : n1.length ≤ 9223372036854775807 := by obtain ⟨_, _, e, u1, u2⟩ := hN.slice; omega
  have hb2 : n2.length ≤ 9223372036854775807 := by obtain ⟨_, _, e, u1, u2⟩ := hN2.slice; omega
  have hb3 : p1.length ≤ 9223372036854775807 := by obtain ⟨_, _, e, u1, u2⟩ := hF.slice; omega
  have hb4 : p2.length ≤ 9223372036854775807 := by obtain ⟨_, _, e, u1, u2⟩ := hF2.slice; omega
  have BA := (Below.refl w.heap.size w).alloc (Nat.le_refl _) (.cells #[.int .i64 s1, .slice a1 n1.length c1, .slice a2 p1.length c2] 25)
  have BB := BA.alloc BA.size (.cells #[.int .i64 s2, .slice a3 n2.length c3, .slice a4 p2.length c4] 25)
  have k0 := (Blk.new w 25 #[.int .i64 s1, .slice a1 n1.length c1, .slice a2 p1.length c2]).alloc (.cells #[.int .i64 s2, .slice a3 n2.length c3, .slice a4 p2.length c4] 25)
  have k1 := Blk.new (w.alloc (.cells #[.int .i64 s1, .slice a1 n1.length c1, .slice a2 p1.length c2] 25)) 25 #[.int .i64 s2, .slice a3 n2.length c3, .slice a4 p2.length c4]
  rw [World.size_alloc] at k1
  obtain ⟨W0, hW0⟩ : ∃ W0, (w.alloc (.cells #[.int .i64 s1, .slice a1 n1.length c1, .slice a2 p1.length c2] 25)).alloc (.cells #[.int .i64 s2, .slice a3 n2.length c3, .slice a4 p2.length c4] 25) = W0 := ⟨_, rfl⟩
  have HN := Lib.hid (hN.below BB)
  have HF := Lib.hid (hF.below BB)
  have HN2 := Lib.hid (hN2.below BB)
  have HF2 := Lib.hid (hF2.below BB)
  have HBA := Lib.hid BB
  have K0 := Lib.hid k0
  have K1 := Lib.hid k1
  rw [hW0] at HN HF HN2 HF2 HBA K0 K1
  obtain ⟨g, hg⟩ : ∃ g, w.heap.size = g := ⟨_, rfl⟩
  have HG := Lib.hid hg
  have HW0 := Lib.hid hW0
  rw [hg] at K0 K1
  have f0 : W0.cell? ⟨g, 0, none⟩ = some (.int .i64 s1) := K0.out.cell 0
  have f1 : W0.cell? ⟨g, 1, none⟩ = some (.slice a1 n1.length c1) := K0.out.cell 1
  have f2 : W0.cell? ⟨g, 2, none⟩ = some (.slice a2 p1.length c2) := K0.out.cell 2
  have g0 : W0.cell? ⟨g + 1, 0, none⟩ = some (.int .i64 s2) := K1.out.cell 0
  have g1 : W0.cell? ⟨g + 1, 1, none⟩ = some (.slice a3 n2.length c3) := K1.out.cell 1
  have g2 : W0.cell? ⟨g + 1, 2, none⟩ = some (.slice a4 p2.length c4) := K1.out.cell 2
  have HC : Hid (∀ wx, Below W0.heap.size W0 wx → wx.cell? ⟨g, 1, none⟩ = some (.slice a1 n1.length c1) ∧ wx.cell? ⟨g, 2, none⟩ = some (.slice a2 p1.length c2) ∧ wx.cell? ⟨g + 1, 1, none⟩ = some (.slice a3 n2.length c3) ∧ wx.cell? ⟨g + 1, 2, none⟩ = some (.slice a4 p2.length c4)) := Lib.hid (fun wx hx => ⟨(Blk.below K0.out hx).cell 1, (Blk.below K0.out hx).cell 2, (Blk.below K1.out hx).cell 1, (Blk.below K1.out hx).cell 2⟩)
  clear hN hF hN2 hF2 BA BB k0 k1 hW0 hg K0 K1
  go_enter Try.func20, Try.ntmps20
  go_upto_region 1 with fail
  rw [HW0.out, HG.out]
  clear HW0
  by_cases e1 : s1 = s2
  case neg =>
    have HV : Hid (ev = false) := Lib.hid (HNO.out (fun h => e1 h.1))
    have t1 := bne_t e1
    clear HNO HYES e1
    go_wp2
    go_ret
    exact ⟨by rw [HV.out]; rfl, HBA.out⟩
  have t1 := bne_f e1
  by_cases e2 : n1.length = n2.length
  case neg =>
    have HV : Hid (ev = false) := Lib.hid (HNO.out (fun h => e2 (by rw [h.2.1])))
    have t2 := bne_t (x := (n1.length : Int)) (y := (n2.length : Int)) (by omega)
    have t2' := bne_tN e2
    clear HNO HYES e1 e2
    go_wp2
    go_ret
    exact ⟨by rw [HV.out]; rfl, HBA.out⟩
  have t2 := bne_f (x := (n1.length : Int)) (y := (n2.length : Int)) (by omega)
  have t2' := bne_fN e2
  by_cases e3 : p1.length = p2.length
  case neg =>
    have HV : Hid (ev = false) := Lib.hid (HNO.out (fun h => e3 (by rw [h.2.2])))
    have t3 := bne_t (x := (p1.length : Int)) (y := (p2.length : Int)) (by omega)
    have t3' := bne_tN e3
    clear HNO HYES e1 e2 e3
    go_wp2
    go_ret
    exact ⟨by rw [HV.out]; rfl, HBA.out⟩
  have t3 := bne_f (x := (p1.length : Int)) (y := (p2.length : Int)) (by omega)
  have t3' := bne_fN e3
  have E1 := Lib.hid e1
  have E2 := Lib.hid e2
  have E3 := Lib.hid e3
  clear e1 e2 e3
  go_wp2_with fail
  go_loopw [5] (fun v wr => ∃ k : Nat, k ≤ n1.length ∧ v = .int .i64 (k : Nat) ∧ (∀ (j : Nat) (h1 : j < n1.length) (h2 : j < n2.length), j < k → n1[j] = n2[j]) ∧ Below W0.heap.size W0 wr) (fun v _ => n1.length - (intOf v).toNat)
  case atStart => exact ⟨0, Nat.zero_le _, rfl, fun j _ _ h => by omega, Below.refl _ _⟩
  case round =>
    rename World => w1
    obtain ⟨k, hk, rfl, hkd, hb⟩ := hrel
    have HK := Lib.hid hkd
    have HB := Lib.hid hb
    obtain ⟨m1, m2, m3, m4⟩ := HC.out w1 hb
    clear hkd hb f0 f1 f2 g0 g1 g2 t1 t2 t2' t3 t3'
    by_cases hlt : k < n1.length
    · have hlt2 : k < n2.length := by have := E2.out; omega
      have h9 : (k : Int) < (n1.length : Int) := by omega
      have h9b : (k : Int) < (n2.length : Int) := by omega
      obtain ⟨b, off, x1, x2, rfl, i0, r0⟩ := (HN.out.below HB.out).at_ k hlt
      obtain ⟨d, doff, y1, y2, rfl, i1, r1⟩ := (HN2.out.below HB.out).at_ k hlt2
      obtain ⟨l1, hl1⟩ : ∃ l1, n1[k] = l1 := ⟨_, rfl⟩
      obtain ⟨l2, hl2⟩ : ∃ l2, n2[k] = l2 := ⟨_, rfl⟩
      have HL1 := Lib.hid hl1
      have HL2 := Lib.hid hl2
      rw [hl1] at i0 r0
      rw [hl2] at i1 r1
      have HR0 := Lib.hid r0
      have HR1 := Lib.hid r1
      have HD : Hid (l1 ≠ l2 → ev = false) := Lib.hid (fun hne => HNO.out (fun h => hne (by
        rw [← HL1.out, ← HL2.out]
        have h2 := h.2.1
        subst h2
        rfl)))
      have hbl1 : l1.length ≤ 9223372036854775807 := by obtain ⟨_, _, e, u1, u2⟩ := r0.slice; omega
      have hbl2 : l2.length ≤ 9223372036854775807 := by obtain ⟨_, _, e, u1, u2⟩ := r1.slice; omega
      have m1d : w1.drew.cell? ⟨g, 1, none⟩ = some (.slice (some ⟨b, off, none⟩) n1.length c1) := m1
      have m3d : w1.drew.cell? ⟨g + 1, 1, none⟩ = some (.slice (some ⟨d, doff, none⟩) n2.length c3) := m3
      have i0d : w1.drew.cell? ⟨b, off + k, none⟩ = some (.slice x1 l1.length x2) := i0
      have i1d : w1.drew.cell? ⟨d, doff + k, none⟩ = some (.slice y1 l2.length y2) := i1
      clear hl1 hl2 r0 r1
      by_cases e4 : l1.length = l2.length
      case neg =>
        have HV : Hid (ev = false) := Lib.hid (HD.out (fun h => e4 (by rw [h])))
        have t4 := bne_t (x := (l1.length : Int)) (y := (l2.length : Int)) (by omega)
        have t4' := bne_tN e4
        clear e4
        go_wp2_with fail
        go_quiet (fail)
        go_wp2
        go_ret
        exact ⟨by rw [HV.out]; rfl, HBA.out.trans ((below_drewN HB.out _).mono HBA.out.size)⟩
      have t4 := bne_f (x := (l1.length : Int)) (y := (l2.length : Int)) (by omega)
      have t4' := bne_fN e4
      have E4 := Lib.hid e4
      clear e4
      go_wp2_with fail
      go_quiet (fail)
      have BQ := Lib.hid (below_drewN HB.out nq)
      obtain ⟨wd, hwd⟩ : ∃ wd, w1.drewN nq = wd := ⟨_, rfl⟩
      rw [hwd] at BQ ⊢
      have HRa := Lib.hid (HR0.out.below (hwd ▸ below_drewN (Below.refl _ _) nq))
      have HRb := Lib.hid (HR1.out.below (hwd ▸ below_drewN (Below.refl _ _) nq))
      have i0' : wd.cell? ⟨b, off + k, none⟩ = some (.slice x1 l1.length x2) := by rw [← hwd]; exact i0
      have i1' : wd.cell? ⟨d, doff + k, none⟩ = some (.slice y1 l2.length y2) := by rw [← hwd]; exact i1
      have HI0 := Lib.hid i0'
      have HI1 := Lib.hid i1'
      clear hwd m1d m3d i0d i1d m1 m2 m3 m4 i0 i1 i0' i1' t4 t4'
      go_wp2_with fail
      go_loopw [6] (fun v wr => ∃ m : Nat, m ≤ l1.length ∧ v = .int .i64 (m : Nat) ∧ (∀ (j : Nat) (h1 : j < l1.length) (h2 : j < l2.length), j < m → l1[j] = l2[j]) ∧ Below wd.heap.size wd wr) (fun v _ => l1.length - (intOf v).toNat)
      case atStart => exact ⟨0, Nat.zero_le _, rfl, fun j _ _ h => by omega, Below.refl _ _⟩
      case round =>
        rename World => w2
        obtain ⟨m, hm, rfl, hmd, hb2⟩ := hrel
        have HM := Lib.hid hmd
        have HB2 := Lib.hid hb2
        have BX := Lib.hid (BQ.out.trans (hb2.mono BQ.out.size))
        obtain ⟨m1, m2, m3, m4⟩ := HC.out w2 BX.out
        have i0 : w2.cell? ⟨b, off + k, none⟩ = some (.slice x1 l1.length x2) := (hb2.cell (p := ⟨b, off + k, none⟩) (World.block_lt_of_cell? wd _ HI0.out)).trans HI0.out
        have i1 : w2.cell? ⟨d, doff + k, none⟩ = some (.slice y1 l2.length y2) := (hb2.cell (p := ⟨d, doff + k, none⟩) (World.block_lt_of_cell? wd _ HI1.out)).trans HI1.out
        clear hmd hb2
        by_cases hml : m < l1.length
        · have hml2 : m < l2.length := by have := E4.out; omega
          have h8 : (m : Int) < (l1.length : Int) := by omega
          have h8b : (m : Int) < (l2.length : Int) := by omega
          obtain ⟨bx, ox, rfl, j0⟩ := (HRa.out.below HB2.out).num m hml
          obtain ⟨by_, oy, rfl, j1⟩ := (HRb.out.below HB2.out).num m hml2
          obtain ⟨x, hx⟩ : ∃ x, l1[m] = x := ⟨_, rfl⟩
          obtain ⟨y, hy⟩ : ∃ y, l2[m] = y := ⟨_, rfl⟩
          have HX := Lib.hid hx
          have HY := Lib.hid hy
          rw [hx] at j0
          rw [hy] at j1
          clear hx hy
          have m1d : w2.drew.cell? ⟨g, 1, none⟩ = some (.slice (some ⟨b, off, none⟩) n1.length c1) := m1
          have m3d : w2.drew.cell? ⟨g + 1, 1, none⟩ = some (.slice (some ⟨d, doff, none⟩) n2.length c3) := m3
          have i0d : w2.drew.cell? ⟨b, off + k, none⟩ = some (.slice (some ⟨bx, ox, none⟩) l1.length x2) := i0
          have i1d : w2.drew.cell? ⟨d, doff + k, none⟩ = some (.slice (some ⟨by_, oy, none⟩) l2.length y2) := i1
          have j0d : w2.drew.cell? ⟨bx, ox + m, none⟩ = some (.int .i64 x) := j0
          have j1d : w2.drew.cell? ⟨by_, oy + m, none⟩ = some (.int .i64 y) := j1
          by_cases hxy : x = y
          case neg =>
            have HV : Hid (ev = false) := Lib.hid (HD.out (fun h => hxy (by rw [← HX.out, ← HY.out]; subst h; rfl)))
            have t5 := bne_t hxy
            clear hxy
            go_wp2_with fail
            go_quiet (fail)
            go_wp2
            go_ret
            exact ⟨by rw [HV.out]; rfl, HBA.out.trans ((below_drewN BX.out _).mono HBA.out.size)⟩
          have t5 := bne_f hxy
          have HXY := Lib.hid hxy
          clear hxy
          go_wp2_with fail
          go_quiet (fail)
          go_wp2
          go_roundw
          case measure => simp [intOf] <;> omega
          case rel => exact ⟨m + 1, by omega, by go_num, fun j h1 h2 hj => by
            rcases Nat.lt_or_ge j m with h | h
            · exact HM.out j h1 h2 h
            · obtain rfl : j = m := by omega
              rw [HX.out, HY.out]; exact HXY.out, below_drewN HB2.out _⟩
        · have h8 : ¬ (m : Int) < (l1.length : Int) := by omega
          have HEQ : Hid (n1[k] = n2[k]) := Lib.hid (by
            rw [HL1.out, HL2.out]
            exact ext_get E4.out (fun j h1 h2 => HM.out j h1 h2 (by omega)))
          go_wp2_with fail
          go_roundw
          case measure => simp [intOf] <;> omega
          case rel => exact ⟨k + 1, by omega, by go_num, fun j h1 h2 hj => by
            rcases Nat.lt_or_ge j k with h | h
            · exact HK.out j h1 h2 h
            · obtain rfl : j = k := by omega
              exact HEQ.out, BX.out⟩
    · have h9 : ¬ (k : Int) < (n1.length : Int) := by omega
      have HNE : Hid (n1 = n2) := Lib.hid (ext_get E2.out (fun j h1 h2 => HK.out j h1 h2 (by omega)))
      go_wp2_with fail
      clear m1 m2 m3 m4
      go_loopw [7] (fun v wr => ∃ k : Nat, k ≤ p1.length ∧ v = .int .i64 (k : Nat) ∧ (∀ (j : Nat) (h1 : j < p1.length) (h2 : j < p2.length), j < k → p1[j] = p2[j]) ∧ Below W0.heap.size W0 wr) (fun v _ => p1.length - (intOf v).toNat)
      case atStart => exact ⟨0, Nat.zero_le _, rfl, fun j _ _ h => by omega, HB.out⟩
      case round =>
        rename World => w2
        obtain ⟨m, hm, rfl, hmd, hb2⟩ := hrel
        have HM := Lib.hid hmd
        have HB2 := Lib.hid hb2
        obtain ⟨m1, m2, m3, m4⟩ := HC.out w2 hb2
        clear hmd hb2
        by_cases hml : m < p1.length
        · have hml2 : m < p2.length := by have := E3.out; omega
          have h8 : (m : Int) < (p1.length : Int) := by omega
          have h8b : (m : Int) < (p2.length : Int) := by omega
          obtain ⟨bx, ox, rfl, j0⟩ := (HF.out.below HB2.out).one m hml rfl
          obtain ⟨by_, oy, rfl, j1⟩ := (HF2.out.below HB2.out).one m hml2 rfl
          obtain ⟨x, hx⟩ : ∃ x, p1[m] = x := ⟨_, rfl⟩
          obtain ⟨y, hy⟩ : ∃ y, p2[m] = y := ⟨_, rfl⟩
          have HX := Lib.hid hx
          have HY := Lib.hid hy
          rw [hx] at j0
          rw [hy] at j1
          clear hx hy
          have m2d : w2.drew.cell? ⟨g, 2, none⟩ = some (.slice (some ⟨bx, ox, none⟩) p1.length c2) := m2
          have m4d : w2.drew.cell? ⟨g + 1, 2, none⟩ = some (.slice (some ⟨by_, oy, none⟩) p2.length c4) := m4
          by_cases hxy : x = y
          case neg =>
            have HV : Hid (ev = false) := Lib.hid (HNO.out (fun h => hxy (by
              rw [← HX.out, ← HY.out]
              have h2 := h.2.2
              subst h2
              rfl)))
            rcases (show (x = true ∧ y = false) ∨ (x = false ∧ y = true) by cases x <;> cases y <;> simp at hxy ⊢) with ⟨rfl, rfl⟩ | ⟨rfl, rfl⟩
            · have j0d : w2.drew.cell? ⟨bx, ox + m, none⟩ = some (.bool true) := j0
              have j1d : w2.drew.cell? ⟨by_, oy + m, none⟩ = some (.bool false) := j1
              clear hxy HX HY
              go_wp2_with fail
              go_quiet (fail)
              go_wp2
              go_ret
              exact ⟨by rw [HV.out]; rfl, HBA.out.trans ((below_drewN HB2.out _).mono HBA.out.size)⟩
            · have j0d : w2.drew.cell? ⟨bx, ox + m, none⟩ = some (.bool false) := j0
              have j1d : w2.drew.cell? ⟨by_, oy + m, none⟩ = some (.bool true) := j1
              clear hxy HX HY
              go_wp2_with fail
              go_quiet (fail)
              go_wp2
              go_ret
              exact ⟨by rw [HV.out]; rfl, HBA.out.trans ((below_drewN HB2.out _).mono HBA.out.size)⟩
          have HEQ : Hid (p1[m] = p2[m]) := Lib.hid (by rw [HX.out, HY.out]; exact hxy)
          subst hxy
          clear HX HY
          cases x with
          | true =>
            have j0d : w2.drew.cell? ⟨bx, ox + m, none⟩ = some (.bool true) := j0
            have j1d : w2.drew.cell? ⟨by_, oy + m, none⟩ = some (.bool true) := j1
            go_wp2_with fail
            go_quiet (fail)
            go_wp2
            go_roundw
            case measure => simp [intOf] <;> omega
            case rel => exact ⟨m + 1, by omega, by go_num, fun j h1 h2 hj => by
              rcases Nat.lt_or_ge j m with h | h
              · exact HM.out j h1 h2 h
              · obtain rfl : j = m := by omega
                exact HEQ.out, below_drewN HB2.out _⟩
          | false =>
            have j0d : w2.drew.cell? ⟨bx, ox + m, none⟩ = some (.bool false) := j0
            have j1d : w2.drew.cell? ⟨by_, oy + m, none⟩ = some (.bool false) := j1
            go_wp2_with fail
            go_quiet (fail)
            go_wp2
            go_roundw
            case measure => simp [intOf] <;> omega
            case rel => exact ⟨m + 1, by omega, by go_num, fun j h1 h2 hj => by
              rcases Nat.lt_or_ge j m with h | h
              · exact HM.out j h1 h2 h
              · obtain rfl : j = m := by omega
                exact HEQ.out, below_drewN HB2.out _⟩
        · have h8 : ¬ (m : Int) < (p1.length : Int) := by omega
          have HV : Hid (ev = true) := Lib.hid (HYES.out ⟨E1.out, HNE.out, ext_get E3.out (fun j h1 h2 => HM.out j h1 h2 (by omega))⟩)
          go_wp2
          go_ret
          exact ⟨by rw [HV.out]; rfl, HBA.out.trans (HB2.out.mono HBA.out.size)⟩
end Go.Proofs.Ytiljagfjgefnnaa
