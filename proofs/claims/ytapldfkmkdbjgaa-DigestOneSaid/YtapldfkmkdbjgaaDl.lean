/- The walks of DigestSeal and DigestDamage. -/
import Derived.Test.YtapldfkmkdbjgaaDk
namespace Go.Proofs.Ytapldfkmkdbjgaa
open Go.RowKit
set_option linter.unusedVariables false

/-- An array of two numbers in a box. -/
structure Bx (k : IntKind) (b : Nat) (x y : Int) (w : World) : Prop where
  lt : b < w.heap.size
  c0 : w.cell? ⟨b, 0, none⟩ = some (.int k x)
  c1 : w.cell? ⟨b, 1, none⟩ = some (.int k y)
theorem Bx.new (k : IntKind) (x y : Int) (w : World) (T : TypeId) : Bx k w.heap.size x y (w.alloc (.cells #[.int k x, .int k y] T)) :=
  ⟨by simp, by rw [World.cell?_alloc_mark]; rfl, by rw [World.cell?_alloc_mark]; rfl⟩
theorem Bx.below {k : IntKind} {b : Nat} {x y : Int} {w w' : World} (h : Bx k b x y w) (hb : Below w.heap.size w w') : Bx k b x y w' :=
  ⟨Nat.lt_of_lt_of_le h.lt hb.size, (hb.cell (p := ⟨b, 0, none⟩) h.lt).trans h.c0, (hb.cell (p := ⟨b, 1, none⟩) h.lt).trans h.c1⟩
theorem below_new (w : World) (o : Obj) : Below w.heap.size w (w.alloc o) := (Below.refl _ w).alloc (Nat.le_refl _) o
theorem RdB.len0 {w : World} {v : Value} (h : RdB w v []) : ∃ a c, v = .slice a 0 c := h.slice

theorem cnt_inj {h h' : Int} (hh : Num h) (hh' : Num h') (l : List UInt8) (e : cnt h l = cnt h' l) : h = h' := dig_inj hh hh' l (dig_inj (dig_num hh l) (dig_num hh' l) _ e)
theorem sl_take (key : Int) (l : List UInt8) : (sl key l).take ((sl key l).length - 8) = l := by
  rw [sl_length, Nat.add_sub_cancel]
  unfold sl
  rw [List.take_left']
  rfl
theorem sl_drop (key : Int) (l : List UInt8) : (sl key l).drop ((sl key l).length - 8) = le8 (cnt key l) := by
  rw [sl_length, Nat.add_sub_cancel]
  unfold sl
  rw [List.drop_left']
  rfl
theorem opn_yes (key : Int) (l : List UInt8) : opn key (sl key l) = (l, 0) := by
  unfold opn
  rw [if_neg (by rw [sl_length]; omega), sl_take, sl_drop, if_pos rfl]
theorem opn_no {key key' : Int} (hk : Num key) (hk' : Num key') (h : key ≠ key') (l : List UInt8) : opn key' (sl key l) = ([], 5) := by
  unfold opn
  rw [if_neg (by rw [sl_length]; omega), sl_take, sl_drop, if_neg (fun e => h (cnt_inj hk hk' l (le8_inj (cnt_num hk l) (cnt_num hk' l) e)))]

set_option maxRecDepth 100000 in
set_option maxHeartbeats 1000000 in
theorem digestSeal_walk (x y : Int) (a : Option Addr) (len cap : Nat) (zs : List Int) (w : World) (hx : (Lit.int .u64 x).wf = true) (hy : (Lit.int .u64 y).wf = true) (hr : IsRow .u8 w a len cap zs) :
    Calls Try.prog 6 #[.agg #[.int .u64 x, .int .u64 y], .slice a len cap] w fun e w' => e = .returned (.bool true) ∧ Below w.heap.size w w' := by
  show Calls _ _ _ _ (AwPost w)
  by_cases hl : 500 < len
  · clear hr hx hy
    go_enter Try.func6, Try.ntmps6
    go_wp2_with fail
    refine (awake_any _).mono ?_
    rintro e w1 ⟨rfl, b1⟩
    have b1 := st (below_new w _) b1 (by simp)
    go_wp2_with fail
    refine (awake_any _).mono ?_
    rintro e w2 ⟨rfl, b2⟩
    go_wp2
    go_ret
    exact ⟨rfl, st b1 b2 b1.size⟩
  · obtain ⟨l, rfl, hv⟩ := rdB_of_row hr (by omega)
    have Hx := Lib.hid (num_of_wf hx)
    have Hy := Lib.hid (num_of_wf hy)
    have Hv := Lib.hid hv
    have ha : ¬ 1000 < l.length := by omega
    have Ha := Lib.hid ha
    clear hr hx hy hv ha
    have hsl := sl_length x l
    have Hsl := Lib.hid hsl; clear hsl
    by_cases hxy : x = y
    · subst hxy
      go_enter Try.func6, Try.ntmps6
      go_wp2_with fail
      refine (awake_any _).mono ?_
      rintro e w1 ⟨rfl, b1⟩
      have X1 := Lib.hid ((Bx.new .u64 x x w _).below b1)
      have B1 := st (below_new w _) b1 (by simp)
      have V1 := Lib.hid (Hv.out.below B1)
      have q0 := X1.out.c0
      have q1 := X1.out.c1
      clear b1
      go_wp2_with fail
      refine (seal_any x _ l _ Hx.out V1.out (by have := Ha.out; omega)).mono ?_
      rintro e w2 ⟨u2, rfl, h2, b2⟩
      have H2 := Lib.hid (RdB.of_own h2 (by rw [Hsl.out]; have := Ha.out; omega))
      have X2 := Lib.hid (X1.out.below b2)
      have V2 := Lib.hid (V1.out.below b2)
      have B2 := st B1 b2 B1.size
      clear q0 q1 b2 h2
      have q0 := X2.out.c0
      have q1 := X2.out.c1
      go_wp2_with fail
      refine (open_any x _ _ _ Hx.out H2.out (by rw [Hsl.out]; omega)).mono ?_
      rw [opn_yes]
      rintro e w3 ⟨u3, rfl, h3, b3⟩
      have H3 := Lib.hid h3
      have X3 := Lib.hid (X2.out.below b3)
      have V3 := Lib.hid (V2.out.below b3)
      have B3 := st B2 b3 B2.size
      have H23 := Lib.hid (H2.out.below b3)
      clear q0 q1 b3 h3
      have q0 := X3.out.c0
      have q1 := X3.out.c1
      go_wp2_with fail
      refine (open_any x _ _ _ Hx.out H23.out (by rw [Hsl.out]; omega)).mono ?_
      rw [opn_yes]
      rintro e w4 ⟨u4, rfl, h4, b4⟩
      have H4 := Lib.hid h4
      have X4 := Lib.hid (X3.out.below b4)
      have V4 := Lib.hid (V3.out.below b4)
      have B4 := st B3 b4 B3.size
      have H24 := Lib.hid (H23.out.below b4)
      have H34 := Lib.hid (H3.out.below b4)
      clear q0 q1 b4 h4
      have q0 := X4.out.c0
      have q1 := X4.out.c1
      go_wp2_with fail
      refine (refSeal_any x _ l _ Hx.out V4.out (by have := Ha.out; omega)).mono ?_
      rintro e w5 ⟨u5, rfl, h5, b5⟩
      have H5 := Lib.hid (RdB.of_own h5 (by rw [Hsl.out]; have := Ha.out; omega))
      have X5 := Lib.hid (X4.out.below b5)
      have V5 := Lib.hid (V4.out.below b5)
      have B5 := st B4 b5 B4.size
      have H25 := Lib.hid (H24.out.below b5)
      have H35 := Lib.hid (H34.out.below b5)
      have H45 := Lib.hid (H4.out.below b5)
      clear q0 q1 b5 h5
      go_wp2_with fail
      refine (same_any _ _ _ _ _ H25.out H5.out).mono ?_
      rw [decide_eq_true rfl]
      rintro e w6 ⟨rfl, n, rfl⟩
      go_wp2_with fail
      refine (same_any _ _ _ _ _ (H35.out.drewN n) (V5.out.drewN n)).mono ?_
      rw [decide_eq_true rfl]
      rintro e w7 ⟨rfl, m, rfl⟩
      have q0 := X5.out.c0
      have q1 := X5.out.c1
      go_wp2_with fail
      first
        | refine (same_any _ _ _ _ _ ((H45.out.drewN n).drewN m) ((V5.out.drewN n).drewN m)).mono ?_
        | refine (same_any _ _ _ _ _ (H45.out.drewN (n + m)) (V5.out.drewN (n + m))).mono ?_
      rw [decide_eq_true rfl]
      rintro e w8 ⟨rfl, k, rfl⟩
      go_wp2
      go_ret
      first
        | exact ⟨rfl, below_drewN B5 _⟩
        | exact ⟨rfl, below_drewN (below_drewN B5 _) _⟩
        | exact ⟨rfl, below_drewN (below_drewN (below_drewN B5 _) _) _⟩
    · have Hxy := Lib.hid hxy
      have p1 : (x == y) = false := by rw [beq_eq_false_iff_ne]; exact hxy
      clear hxy
      go_enter Try.func6, Try.ntmps6
      go_wp2_with fail
      refine (awake_any _).mono ?_
      rintro e w1 ⟨rfl, b1⟩
      have X1 := Lib.hid ((Bx.new .u64 x y w _).below b1)
      have B1 := st (below_new w _) b1 (by simp)
      have V1 := Lib.hid (Hv.out.below B1)
      have q0 := X1.out.c0
      have q1 := X1.out.c1
      clear b1
      go_wp2_with fail
      refine (seal_any x _ l _ Hx.out V1.out (by have := Ha.out; omega)).mono ?_
      rintro e w2 ⟨u2, rfl, h2, b2⟩
      have H2 := Lib.hid (RdB.of_own h2 (by rw [Hsl.out]; have := Ha.out; omega))
      have X2 := Lib.hid (X1.out.below b2)
      have V2 := Lib.hid (V1.out.below b2)
      have B2 := st B1 b2 B1.size
      clear q0 q1 b2 h2
      have q0 := X2.out.c0
      have q1 := X2.out.c1
      go_wp2_with fail
      refine (open_any x _ _ _ Hx.out H2.out (by rw [Hsl.out]; omega)).mono ?_
      rw [opn_yes]
      rintro e w3 ⟨u3, rfl, h3, b3⟩
      have H3 := Lib.hid h3
      have X3 := Lib.hid (X2.out.below b3)
      have V3 := Lib.hid (V2.out.below b3)
      have B3 := st B2 b3 B2.size
      have H23 := Lib.hid (H2.out.below b3)
      clear q0 q1 b3 h3
      have q0 := X3.out.c0
      have q1 := X3.out.c1
      go_wp2_with fail
      refine (open_any y _ _ _ Hy.out H23.out (by rw [Hsl.out]; omega)).mono ?_
      rw [opn_no Hx.out Hy.out Hxy.out]
      rintro e w4 ⟨u4, rfl, h4, b4⟩
      obtain ⟨a4, c4, rfl⟩ := h4.len0
      have X4 := Lib.hid (X3.out.below b4)
      have V4 := Lib.hid (V3.out.below b4)
      have B4 := st B3 b4 B3.size
      have H24 := Lib.hid (H23.out.below b4)
      have H34 := Lib.hid (H3.out.below b4)
      clear q0 q1 b4 h4
      have q0 := X4.out.c0
      have q1 := X4.out.c1
      go_wp2_with fail
      refine (refSeal_any x _ l _ Hx.out V4.out (by have := Ha.out; omega)).mono ?_
      rintro e w5 ⟨u5, rfl, h5, b5⟩
      have H5 := Lib.hid (RdB.of_own h5 (by rw [Hsl.out]; have := Ha.out; omega))
      have X5 := Lib.hid (X4.out.below b5)
      have V5 := Lib.hid (V4.out.below b5)
      have B5 := st B4 b5 B4.size
      have H25 := Lib.hid (H24.out.below b5)
      have H35 := Lib.hid (H34.out.below b5)
      clear q0 q1 b5 h5
      go_wp2_with fail
      refine (same_any _ _ _ _ _ H25.out H5.out).mono ?_
      rw [decide_eq_true rfl]
      rintro e w6 ⟨rfl, n, rfl⟩
      go_wp2_with fail
      refine (same_any _ _ _ _ _ (H35.out.drewN n) (V5.out.drewN n)).mono ?_
      rw [decide_eq_true rfl]
      rintro e w7 ⟨rfl, m, rfl⟩
      have q0 := X5.out.c0
      have q1 := X5.out.c1
      go_wp2
      go_ret
      first
        | exact ⟨rfl, below_drewN B5 _⟩
        | exact ⟨rfl, below_drewN (below_drewN B5 _) _⟩
end Go.Proofs.Ytapldfkmkdbjgaa
