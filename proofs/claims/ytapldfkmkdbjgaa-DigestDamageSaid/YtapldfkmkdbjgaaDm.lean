/- The walk of DigestDamage. -/
import Derived.Test.YtapldfkmkdbjgaaDl
namespace Go.Proofs.Ytapldfkmkdbjgaa
open Go.RowKit
set_option linter.unusedVariables false

theorem cnt_set {h : Int} (hh : Num h) (l : List UInt8) (k : Nat) (hk : k < l.length) (c : UInt8) (e : cnt h (l.set k c) = cnt h l) : l[k] = c := by
  unfold cnt at e
  rw [List.length_set] at e
  exact (dig_set hh l k hk c).1 (dig_inj (dig_num hh _) (dig_num hh _) _ e)
theorem set_ne {l : List UInt8} {k : Nat} (hk : k < l.length) {c : UInt8} (h : l.set k c = l) : l[k] = c := by
  have h2 := congrArg (fun m => m[k]?) h
  simp [hk] at h2
  exact h2.symm
/-- One byte of a sealed string changed: it is refused. -/
theorem opn_damage {key : Int} (hk : Num key) (l : List UInt8) (k : Nat) (hkl : k < (sl key l).length) (c : UInt8) (hc : (sl key l)[k] ≠ c) : opn key ((sl key l).set k c) = ([], 5) := by
  unfold opn
  have hlen : ((sl key l).set k c).length = l.length + 8 := by rw [List.length_set, sl_length]
  rw [if_neg (by rw [hlen]; omega), if_neg ?_]
  rw [hlen, Nat.add_sub_cancel]
  rw [sl_length] at hkl
  by_cases hlt : k < l.length
  · have e : (sl key l).set k c = l.set k c ++ le8 (cnt key l) := by unfold sl; rw [List.set_append_left _ _ hlt]
    rw [e, List.drop_left' (by rw [List.length_set]), List.take_left' (by rw [List.length_set])]
    intro h
    have h2 := le8_inj (cnt_num hk _) (cnt_num hk _) h
    have h3 := cnt_set hk l k hlt c h2.symm
    apply hc
    have : (sl key l)[k]? = l[k]? := by unfold sl; rw [List.getElem?_append_left hlt]
    rw [List.getElem?_eq_getElem hlt, List.getElem?_eq_getElem (by rw [sl_length]; omega)] at this
    rw [Option.some.inj this, h3]
  · have e : (sl key l).set k c = l ++ (le8 (cnt key l)).set (k - l.length) c := by unfold sl; rw [List.set_append_right _ _ (by omega)]
    rw [e, List.drop_left' rfl, List.take_left' rfl]
    intro h
    have hk8 : k - l.length < (le8 (cnt key l)).length := by rw [le8_length]; omega
    have h3 := set_ne hk8 h
    apply hc
    have : (sl key l)[k]? = (le8 (cnt key l))[k - l.length]? := by unfold sl; rw [List.getElem?_append_right (by omega)]
    rw [List.getElem?_eq_getElem hk8, List.getElem?_eq_getElem (by rw [sl_length]; omega)] at this
    rw [Option.some.inj this, h3]

theorem dam_opn {key : Int} (hk : Num key) {l S : List UInt8} (hS : sl key l = S) {k : Nat} (hkS : k < S.length) : ∀ c : UInt8, by8 (S[k]'hkS) ≠ by8 c → opn key (S.set k c) = ([], 5) := by
  intro c hc
  subst hS
  exact opn_damage hk l k hkS c (fun e => hc (by rw [e]))
theorem byteCells_set (l : List UInt8) (k : Nat) (c : UInt8) : byteCells (l.set k c) = (byteCells l).set k (.int .u8 (by8 c)) := by unfold byteCells; rw [List.map_set]
theorem dam {W : World} {base g n cap : Nat} {e : TypeId} {l : List UInt8} (h : W.ownsRow base e 1 (.slice (some ⟨g, 0, none⟩) n cap) n (byteCells l)) (hl : l.length ≤ 140737488355328) (k : Nat) (c : UInt8) {v : Int} (hv : v = by8 c) :
    RdB (W.setCell ⟨g, k, none⟩ (.int .u8 v)) (.slice (some ⟨g, 0, none⟩) n cap) (l.set k c) := by
  subst hv
  have h2 := (h.stored k (.int .u8 (by8 c))).1
  rw [← byteCells_set] at h2
  exact RdB.of_own h2 (by rw [List.length_set]; exact hl)
theorem dam_below {w W : World} {base g n cap : Nat} {e : TypeId} {l : List Value} (hB : Below w.heap.size w W) (h : W.ownsRow base e 1 (.slice (some ⟨g, 0, none⟩) n cap) n l) (hb : w.heap.size ≤ base) (k : Nat) (u : Value) :
    Below w.heap.size w (W.setCell ⟨g, k, none⟩ u) :=
  hB.grown (h.stored k u).2 hB.size (fun j e => by have := (h.lt j e).1; omega)
theorem own_form {W : World} {base n : Nat} {e : TypeId} {v : Value} {l : List Value} (h : W.ownsRow base e 1 v n l) (hn : 0 < n) : ∃ g cap, v = .slice (some ⟨g, 0, none⟩) n cap ∧ n ≤ cap := by
  rcases h.2 with ⟨_, h0⟩ | ⟨g, cap, cur, rfl, _, _, hnc, _⟩
  · omega
  · exact ⟨g, cap, rfl, hnc⟩

set_option maxRecDepth 100000 in
set_option maxHeartbeats 1000000 in
theorem digestDamage_walk (h : Int) (a : Option Addr) (len cap : Nat) (zs : List Int) (x y : Int) (w : World) (hw : (Lit.int .u64 h).wf = true) (hr : IsRow .u8 w a len cap zs) (hx : (Lit.int .u16 x).wf = true) (hy : (Lit.int .u16 y).wf = true) :
    Calls Try.prog 8 #[.int .u64 h, .slice a len cap, .agg #[.int .u16 x, .int .u16 y]] w fun e w' => e = .returned (.bool true) ∧ Below w.heap.size w w' := by
  show Calls _ _ _ _ (AwPost w)
  by_cases hl : 500 < len
  · clear hr hx hy hw
    go_enter Try.func8, Try.ntmps8
    go_wp2_with fail
    refine (awake_any _).mono ?_
    rintro e w1 ⟨rfl, b1⟩
    have b1 := st (below_new w _) b1 (by simp)
    go_wp2_with fail
    refine (awake_any _).mono ?_
    rintro e w2 ⟨rfl, b2⟩
    go_wp2
    go_ret
    exact ⟨rfl, st b1 b2 b1.size⟩
  · obtain ⟨l, rfl, hv⟩ := rdB_of_row hr (by omega)
    have Hk := Lib.hid (num_of_wf hw)
    have Hv := Lib.hid hv
    have ha : ¬ 1000 < l.length := by omega
    have Ha := Lib.hid ha
    have bx := bounds_u16 hx
    have by_ := bounds_u16 hy
    obtain ⟨x0, x1⟩ := bx
    obtain ⟨y0, y1⟩ := by_
    clear hr hx hy hw hv ha
    obtain ⟨S, hS⟩ : ∃ S, sl h l = S := ⟨_, rfl⟩
    have hsl : S.length = l.length + 8 := by rw [← hS, sl_length]
    have hs0 : 0 < S.length := by omega
    have hs1 : S.length ≤ 600 := by omega
    have hs2 : (0 : Int) < (S.length : Int) := by omega
    have HS := Lib.hid hS
    clear hS hsl
    obtain ⟨k, hk, hkS⟩ : ∃ k : Nat, x % (S.length : Int) = (k : Int) ∧ k < S.length :=
      ⟨(x % (S.length : Int)).toNat, by have := Int.emod_nonneg x (show (S.length : Int) ≠ 0 by omega); omega, by have := Int.emod_lt_of_pos x hs2; have := Int.emod_nonneg x (show (S.length : Int) ≠ 0 by omega); omega⟩
    have HO := Lib.hid (dam_opn Hk.out HS.out hkS)
    have k0 : (0 : Int) ≤ (k : Int) := by omega
    have k1 : (k : Int) < (S.length : Int) := by omega
    have p0 : ((S.length : Int) == 0) = false := by rw [beq_eq_false_iff_ne]; omega
    go_enter Try.func8, Try.ntmps8
    go_wp2_with fail
    refine (awake_any _).mono ?_
    rintro e w1 ⟨rfl, b1⟩
    have X1 := Lib.hid ((Bx.new .u16 x y w _).below b1)
    have B1 := st (below_new w _) b1 (by simp)
    have V1 := Lib.hid (Hv.out.below B1)
    clear b1
    go_wp2_with fail
    refine (seal_any h _ l _ Hk.out V1.out (by have := Ha.out; omega)).mono ?_
    rw [HS.out]
    rintro e w2 ⟨u2, rfl, h2, b2⟩
    obtain ⟨g, cc, rfl, hcc⟩ := own_form h2 hs0
    have H2 := Lib.hid h2
    have hcell : w2.cell? ⟨g, k, none⟩ = some (.int .u8 (by8 (S[k]'hkS))) := by rw [h2.cellAt k (by omega)]; simp [byteCells, hkS]
    have hfro := h2.frozenAt k
    have X2 := Lib.hid (X1.out.below b2)
    have B2 := st B1 b2 B1.size
    have z1 := Lib.hid B1.size
    have q0 := X2.out.c0
    have q1 := X2.out.c1
    clear b2 h2
    obtain ⟨v, hv⟩ : ∃ v, by8 (S[k]'hkS) = v := ⟨_, rfl⟩
    rw [hv] at hcell
    have Hv2 := Lib.hid hv
    clear hv
    by_cases hq : v = y % 256
    · have p1 : (v == y % 256) = true := by rw [beq_iff_eq]; exact hq
      clear hq
      go_wp2
      go_quiet (fail)
      go_wp2
      go_ret
      exact ⟨rfl, below_drewN B2 _⟩
    · have p1 : (v == y % 256) = false := by rw [beq_eq_false_iff_ne]; exact hq
      have Hq := Lib.hid hq
      clear hq
      go_wp2
      go_quiet (fail)
      go_wp2_with fail
      refine (open_any h _ (S.set k (UInt8.ofNat (y % 256).toNat)) _ Hk.out (dam (own_below H2.out (below_drewN (Below.refl _ _) _)) (by omega) k (UInt8.ofNat (y % 256).toNat) (by8_ofNat y).symm) (by rw [List.length_set]; omega)).mono ?_
      rw [HO.out _ (by rw [by8_ofNat, Hv2.out]; exact Hq.out)]
      rintro e w3 ⟨u3, rfl, h3, b3⟩
      obtain ⟨a3, c3, rfl⟩ := h3.len0
      have B3 := st (dam_below (below_drewN B2 _) (own_below H2.out (below_drewN (Below.refl _ _) _)) z1.out k _) b3 (Nat.le_trans B2.size (by simp))
      clear h3 b3
      go_wp2
      go_ret
      exact ⟨rfl, B3⟩
end Go.Proofs.Ytapldfkmkdbjgaa
