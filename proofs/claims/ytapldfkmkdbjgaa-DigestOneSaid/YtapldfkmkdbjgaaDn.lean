/- The walk of DigestOne. -/
import Derived.Test.YtapldfkmkdbjgaaDm
namespace Go.Proofs.Ytapldfkmkdbjgaa
open Go.RowKit
set_option linter.unusedVariables false

theorem Bx.new2 (k : IntKind) (x y : Int) (w : World) (o : Obj) (T : TypeId) : Bx k (w.heap.size + 1) x y ((w.alloc o).alloc (.cells #[.int k x, .int k y] T)) := by
  have h := Bx.new k x y (w.alloc o) T
  have e : (w.alloc o).heap.size = w.heap.size + 1 := by simp
  rw [e] at h
  exact h
theorem below_new2 (w : World) (o o' : Obj) : Below w.heap.size w ((w.alloc o).alloc o') := ((Below.refl _ w).alloc (Nat.le_refl _) o).alloc (by simp) o'
theorem cnt_set_iff {h : Int} (hh : Num h) (l : List UInt8) (k : Nat) (hk : k < l.length) (c : UInt8) : cnt h (l.set k c) = cnt h l ↔ l[k] = c := by
  constructor
  · exact cnt_set hh l k hk c
  · intro e
    subst e
    rw [List.set_getElem_self]
/-- Both comparisons of a changed byte's digests answer what the comparison of the bytes answers. -/
theorem one_facts {x : Int} (hx : Num x) (l : List UInt8) (k : Nat) (hk : k < l.length) (c : UInt8) : (cnt start l == cnt start (l.set k c)) = (by8 l[k] == by8 c) ∧ (dig x l == dig x (l.set k c)) = (by8 l[k] == by8 c) := by
  have a1 := cnt_set_iff start_num l k hk c
  have a2 := dig_set hx l k hk c
  have a3 : by8 l[k] = by8 c ↔ l[k] = c := ⟨by8_inj, fun e => by rw [e]⟩
  constructor
  · rw [Bool.eq_iff_iff, beq_iff_eq, beq_iff_eq, a3, ← a1]; exact eq_comm
  · rw [Bool.eq_iff_iff, beq_iff_eq, beq_iff_eq, a3, ← a2]; exact eq_comm

theorem rd_cells {w : World} {v : Value} {l : List UInt8} (h : RdB w v l) (h1 : 0 < l.length) : ∃ b off c, v = .slice (some ⟨b, off, none⟩) l.length c ∧ b < w.heap.size ∧ ∀ k (hk : k < l.length), w.cell? ⟨b, off + k, none⟩ = some (.int .u8 (by8 (l[k]'hk))) := by
  obtain ⟨_, ⟨a, c, rfl, _, _, hx⟩, _⟩ := h
  obtain ⟨b, off, rfl, hbl, hc⟩ := hx (List.ne_nil_of_length_pos h1)
  refine ⟨b, off, c, rfl, hbl, fun k hk => ?_⟩
  rw [hc k hk]
  simp [List.getD, List.getElem?_eq_getElem hk]
set_option maxRecDepth 100000 in
set_option maxHeartbeats 2000000 in
theorem digestOne_walk (x y : Int) (a : Option Addr) (len cap : Nat) (zs : List Int) (c d : Int) (w : World) (hx : (Lit.int .u64 x).wf = true) (hy : (Lit.int .u64 y).wf = true) (hr : IsRow .u8 w a len cap zs) (hc : (Lit.int .u8 c).wf = true) (hd : (Lit.int .u8 d).wf = true) :
    Calls Try.prog 4 #[.agg #[.int .u64 x, .int .u64 y], .slice a len cap, .agg #[.int .u8 c, .int .u8 d]] w fun e w' => e = .returned (.bool true) ∧ Below w.heap.size w w' := by
  show Calls _ _ _ _ (AwPost w)
  by_cases hl : 500 < len
  · clear hr hx hy hc hd
    go_enter Try.func4, Try.ntmps4
    go_wp2_with fail
    refine (awake_any _).mono ?_
    rintro e w1 ⟨rfl, b1⟩
    have b1 := st (below_new2 w _ _) b1 (by simp; omega)
    go_wp2_with fail
    refine (awake_any _).mono ?_
    rintro e w2 ⟨rfl, b2⟩
    go_wp2
    go_ret
    exact ⟨rfl, st b1 b2 b1.size⟩
  · obtain ⟨l, rfl, hv⟩ := rdB_of_row hr (by omega)
    have Hx := Lib.hid (num_of_wf hx)
    have Hy := Lib.hid (num_of_wf hy)
    have Hv := Lib.hid hv
    obtain ⟨c0, c1⟩ := bounds_u8 hc
    obtain ⟨d0, d1⟩ := bounds_u8 hd
    have hl2 : l.length ≤ 500 := by omega
    clear hr hx hy hc hd hv hl
    obtain ⟨bb, p1, p2⟩ : ∃ bb, (x == y) = bb ∧ (dig x l == dig y l) = bb := by
      refine ⟨x == y, rfl, ?_⟩
      rw [Bool.eq_iff_iff, beq_iff_eq, beq_iff_eq]
      exact ⟨fun e => dig_inj Hx.out Hy.out l e, fun e => by rw [e]⟩
    by_cases hne : l.length = 0
    · have p3 : ((l.length : Int) == 0) = true := by rw [beq_iff_eq]; omega
      clear hne
      go_enter Try.func4, Try.ntmps4
      go_wp2_with fail
      refine (awake_any _).mono ?_
      rintro e w1 ⟨rfl, b1⟩
      have X1 := Lib.hid (((Bx.new .u64 x y w _).below (below_new _ _)).below b1)
      have B1 := st (below_new2 w _ _) b1 (by simp; omega)
      have V1 := Lib.hid (Hv.out.below B1)
      have q0 := X1.out.c0
      have q1 := X1.out.c1
      clear b1
      go_wp2
      go_quiet ((go_at_call 11; refine Calls.quiet_of_same ((from_any _ _ l _ ?_).mono (fun _ _ h => ⟨h.1, h.2.symm⟩)); first | exact V1.out | exact V1.out.drew | exact V1.out.drewN _))
      go_wp2
      go_ret
      exact ⟨rfl, below_drewN B1 _⟩
    · have p3 : ((l.length : Int) == 0) = false := by rw [beq_eq_false_iff_ne]; omega
      have hl1 : 0 < l.length := by omega
      have hl3 : (0 : Int) < (l.length : Int) := by omega
      clear hne
      obtain ⟨i0, hi, hz0, hz1, hz2⟩ := info_parts Try.infoB
      obtain ⟨ad, rfl⟩ : ∃ ad, a = some ad := by
        obtain ⟨_, ⟨a', c', hv, _, _, hx⟩, _⟩ := Hv.out
        obtain ⟨b, off, ha, _⟩ := hx (List.ne_nil_of_length_pos hl1)
        injection hv with e1 _ _
        exact ⟨_, e1.trans ha⟩
      obtain ⟨b, off, cc, hsl, hbl, hcells⟩ := rd_cells Hv.out hl1
      injection hsl with e1 _ e3
      injection e1 with e1
      subst e1
      subst e3
      obtain ⟨k, hk, hkS⟩ : ∃ k : Nat, c % (l.length : Int) = (k : Int) ∧ k < l.length :=
        ⟨(c % (l.length : Int)).toNat, by have := Int.emod_nonneg c (show (l.length : Int) ≠ 0 by omega); omega, by have := Int.emod_lt_of_pos c hl3; have := Int.emod_nonneg c (show (l.length : Int) ≠ 0 by omega); omega⟩
      have k0 : (0 : Int) ≤ (k : Int) := by omega
      have k1 : (k : Int) < (l.length : Int) := by omega
      have hcell0 := hcells k hkS
      obtain ⟨v, hv⟩ : ∃ v, by8 (l[k]'hkS) = v := ⟨_, rfl⟩
      rw [hv] at hcell0
      obtain ⟨dd, hdd⟩ : ∃ dd : UInt8, by8 dd = d := ⟨UInt8.ofNat (d % 256).toNat, by rw [by8_ofNat]; omega⟩
      obtain ⟨r, p4, p5, p6⟩ : ∃ r, (v == d) = r ∧ (cnt start l == cnt start (l.set k dd)) = r ∧ (dig x l == dig x (l.set k dd)) = r := by
        have := one_facts Hx.out l k hkS dd
        rw [hv, hdd] at this
        exact ⟨v == d, rfl, this.1, this.2⟩
      have Hdd := Lib.hid hdd
      have Hvv := Lib.hid hv
      have Hcell := Lib.hid hcell0
      have Hbl := Lib.hid hbl
      clear hdd hv hcell0 hcells hbl
      obtain ⟨lb, hlb⟩ : ∃ lb, l.set k dd = lb := ⟨_, rfl⟩
      rw [hlb] at p5 p6
      have hlbl : lb.length = l.length := by rw [← hlb, List.length_set]
      have Hlb := Lib.hid hlb
      have Hlbl := Lib.hid hlbl
      clear hlb hlbl
      go_enter Try.func4, Try.ntmps4
      go_wp2_with fail
      refine (awake_any _).mono ?_
      rintro e w1 ⟨rfl, b1⟩
      have X1 := Lib.hid (((Bx.new .u64 x y w _).below (below_new _ _)).below b1)
      have Y1 := Lib.hid ((Bx.new2 .u8 c d w _ _).below b1)
      have B1 := st (below_new2 w _ _) b1 (by simp; omega)
      have V1 := Lib.hid (Hv.out.below B1)
      have q0 := X1.out.c0
      have q1 := X1.out.c1
      clear b1
      go_wp2
      go_quiet ((go_at_call 11; refine Calls.quiet_of_same ((from_any _ _ l _ ?_).mono (fun _ _ h => ⟨h.1, h.2.symm⟩)); first | exact V1.out | exact V1.out.drew | exact V1.out.drewN _))
      clear p1 p2
      generalize hw2 : w1.drewN _ = w2
      have b12 : Below w1.heap.size w1 w2 := by rw [← hw2]; exact below_drewN (Below.refl _ _) _
      clear hw2
      have B2 := st B1 b12 B1.size
      have V2 := Lib.hid (V1.out.below b12)
      have X2 := Lib.hid (X1.out.below b12)
      have Y2 := Lib.hid (Y1.out.below b12)
      clear q0 q1 b12
      have y0 := Y2.out.c0
      have o3 : (w2.alloc (.cells #[] 5)).ownsRow w2.heap.size 5 1 (.slice (some ⟨w2.heap.size, 0, none⟩) 0 0) 0 (byteCells []) := World.ownsRow_made w2 #[] 0 (Nat.le_refl _) (by decide) rfl
      have z3 := (below_new w2 (.cells #[] 5)).size
      go_wp2_with (at_builtin; go_loud (refine wpList_append_bytes rfl _ _ 23 rfl w2.heap.size 5 i0 Try.underlying23 hi hz0 hz1 hz2 _ 0 [] l _ rfl o3 rfl (V2.out.below (below_new w2 _)) ?c1 ?c2 ?_))
      case c1 => omega
      case c2 => exact z3
      · intro v4 w4 o4 g4
        have b4 : Below w2.heap.size w2 w4 := (below_new w2 _).grown g4 z3 (fun j e => (o3.lt j e).1)
        have o4' : w4.ownsRow w2.heap.size 5 1 v4 l.length (byteCells l) := by simpa using o4
        clear o3 o4 g4 z3 y0
        obtain ⟨g, c4, rfl, hc4⟩ := own_form o4' hl1
        have hcell4 : w4.cell? ⟨g, k, none⟩ = some (.int .u8 v) := by rw [o4'.cellAt k (by omega), ← Hvv.out]; simp [byteCells, hkS]
        have hfro4 := o4'.frozenAt k
        have y1 := (Y2.out.below b4).c1
        obtain ⟨W3, hW3⟩ : ∃ W3, w4.setCell ⟨g, k, none⟩ (.int .u8 d) = W3 := ⟨_, rfl⟩
        have h3 := dam (v := d) o4' (by omega) k dd Hdd.out.symm
        have b3 := dam_below b4 o4' (Nat.le_refl _) k (.int .u8 d)
        rw [hW3] at h3 b3
        rw [Hlb.out] at h3
        have H3 := Lib.hid h3
        have V3 := Lib.hid (V2.out.below b3)
        have X3 := X2.out.below b3
        have Y3 := Y2.out.below b3
        have B3 := st B2 b3 B2.size
        have C3 := (B3.cell (p := ⟨b, off + k, none⟩) Hbl.out).trans Hcell.out
        have z3 : b < W3.heap.size := Nat.lt_of_lt_of_le Hbl.out B3.size
        have HK : Hid (∀ wx, Below W3.heap.size W3 wx → (wx.cell? ⟨b, off + k, none⟩ = some (.int .u8 v) ∧ wx.cell? ⟨w.heap.size + 1, 1, none⟩ = some (.int .u8 d) ∧ wx.cell? ⟨w.heap.size, 0, none⟩ = some (.int .u64 x))) := Lib.hid (fun wx hb => ⟨(hb.cell (p := ⟨b, off + k, none⟩) z3).trans C3, (Y3.below hb).c1, (X3.below hb).c0⟩)
        clear h3 b3 b4 o4' X3 Y3 C3 z3 B2
        go_wp2
        go_region_held3 (fun wx => wx.cell? ⟨b, off + k, none⟩ = some (.int .u8 v) ∧ wx.cell? ⟨w.heap.size + 1, 1, none⟩ = some (.int .u8 d) ∧ wx.cell? ⟨w.heap.size, 0, none⟩ = some (.int .u64 x)) (first | exact HK.out _ B5 | exact HK.out _ B4 | exact HK.out _ (Below.refl _ _).drew) (first
          | (go_at_call 13; first | ((with_reducible refine (sum_any _ l _ (V3.out.drew)).mono ?_); rintro e w5 ⟨rfl, b5⟩; have B4 : Below W3.heap.size W3 w5 := ((Below.refl _ W3).drew).trans (b5.mono (Nat.le_refl _))) | ((with_reducible refine (sum_any _ lb _ (H3.out.below B4)).mono ?_); rintro e w6 ⟨rfl, b6⟩; have B5 : Below W3.heap.size W3 w6 := st B4 b6 B4.size))
          | (go_at_call 11; first | ((with_reducible refine (from_any _ _ l _ (V3.out.below B5)).mono ?_); rintro e w' ⟨rfl, rfl⟩) | ((with_reducible refine (from_any _ _ lb _ (H3.out.below B5)).mono ?_); rintro e w' ⟨rfl, rfl⟩)))
        all_goals
          go_wp2
          go_ret
          exact ⟨rfl, st B3 B5 B3.size⟩
end Go.Proofs.Ytapldfkmkdbjgaa
