/- The law DiffEnds. -/
import Derived.Test.YtcnjomkddbbopaaMp
import Derived.Deep.RegionLaw
import Derived.Deep.Strs
import Derived.Deep.CutRange
namespace Go.Proofs.Ytcnjomkddbbopaa
open Go.RowKit
set_option linter.unusedVariables false

section
variable {α : Type} {k : Nat} {enc : α → List Value}
variable {P : Program} {ops : Array Oper} {o : Oper} {a : Act} {K : Act → World → Prop} {Q : Exit → Act → World → Prop} {E : Prop}
/-- A list more, within a region that draws. -/
theorem step_append_rd {w : World} {e : TypeId} (hgd : o.guard = none) (s y : Operand) (t : TypeId)
    (ho : o.op = .call { callee := .builtin .append, args := #[s, y], argTypes := #[t, t] })
    (base : Nat) (i : TypeInfo) (z : Value) (by_ : Nat) (ht : P.underlying t = some (.slice e)) (hi : P.info? e = some i) (hz : i.zero = some z) (hsize : i.size = k) (hby : i.bytes = by_) (hb64 : by_ ≤ 64) (hzs : z.cells.size = k) (hk0 : 0 < k)
    (hk : ∀ x : α, (enc x).length = k) (h1c : ∀ x : α, ∀ u ∈ enc x, u.oneCell' = true)
    (v : Value) (l r : List α) (u : Value) (hs : a.eval s = v) (hown : Own1 k enc w base e v l) (hx : a.eval y = u) (hu : Rd k enc w u r)
    (hl : l.length + r.length ≤ 1000000000) (hbase : base ≤ w.heap.size)
    (h : ∀ v' w', Own1 k enc w' base e v' (l ++ r) ∧ Below base w w' → K (a.put o.dst v') w') : if Region.wanted o (yielded ops a.tmps) = true then Oper.wp P o a w K Q else E := by
  have hw : Region.wanted o (yielded ops a.tmps) = true := by simp [Region.wanted, hgd]
  rw [if_pos hw]
  obtain ⟨⟨ad, c, rfl, hc1, hc2, hc⟩, hn⟩ := hu
  rcases ad with _ | ad
  · have hr : r = [] := by
      rcases Classical.em (r = []) with h0 | h0
      · exact h0
      · obtain ⟨b, off, hb, _⟩ := hc h0
        cases hb
    subst hr
    have hc0 := hn _ _ rfl
    subst hc0
    have hrun := run_append_owned_none (P := P) (w := w) base t o.type e i k ht hi v l.length (l.flatMap enc) hown
    have hx' : a.eval y = .slice none 0 0 := hx
    unfold Oper.wp
    simp [execOp, ho, resolve, invoke, builtin, hs, hx', hrun, Result.andThen]
    exact h v w ⟨by simpa using hown, Below.refl _ _⟩
  · refine wp_append_own w s y t ho base e i z k by_ ht hi hz hsize hby hzs hk0 v l.length (l.flatMap enc) hs hown ad r.length c (r.flatMap enc) hx (flat_len hk r) ?_ ?_ (by unfold maxLen; omega) (Nat.le_trans (Nat.mul_le_mul_left _ hb64) (by omega)) hbase ?_
    · intro j u hj
      obtain ⟨i', x, jj, h1, h2, h3⟩ := flat_inv hk r j u hj
      obtain ⟨b, off, hb, _, hcc⟩ := hc (fun e => by rw [e] at h1; simp at h1)
      cases hb
      rw [add_off, h3, ← Nat.add_assoc]
      exact hcc i' x h1 jj u h2
    · intro u hu
      obtain ⟨x, _, hx⟩ := List.mem_flatMap.1 hu
      exact h1c x u hx
    · intro v' w' h2 h3 _
      refine h v' w' ⟨?_, (Below.refl base w).grown h3 hbase (fun j e => (World.ownsRow.lt hown j e).1)⟩
      unfold Own1
      rw [List.flatMap_append, List.length_append]
      exact h2
end
theorem own_empty (w : World) (base : Nat) (hb : base ≤ w.heap.size) : Own1 1 encT (w.alloc (.cells #[] 9)) base 9 (.slice (some ⟨w.heap.size, 0, none⟩) 0 0) [] := World.ownsRow_made w #[] 0 hb (by decide) rfl
theorem dist_ends (p s a b : List Str) : dist ([] ++ p ++ a ++ s) ([] ++ p ++ b ++ s) = dist a b := by
  have h1 := lcs_back (p ++ a) (p ++ b) s
  have h2 := lcs_front p a b
  unfold dist
  simp only [List.nil_append, List.length_append]
  omega
theorem few_ends {p s a : List Str} (h1 : Few p) (h2 : Few s) (h3 : Few a) : Sizes ([] ++ p ++ a ++ s) := by
  refine ⟨?_, fun x hx => ?_⟩
  · have := h1.1; have := h2.1; have := h3.1
    simp only [List.nil_append, List.length_append]
    omega
  · simp only [List.nil_append, List.mem_append] at hx
    rcases hx with (hx | hx) | hx
    · have := h1.2 x hx; omega
    · have := h3.2 x hx; omega
    · have := h2.2 x hx; omega

/-! ### What comes in -/
theorem two_of {α : Type} {cs : Array α} (h : cs.size = 2) : ∃ c0 c1, cs = #[c0, c1] := by
  obtain ⟨l⟩ := cs
  match l, h with
  | [c0, c1], _ => exact ⟨c0, c1, rfl⟩
theorem isStrs_from {H : Type} {enc : TypeId × Value → H} {P : Program} {w : World} {base : Nat} {spare : Nat → Bool} {held : Bool} {t e : TypeId} {fuel : Nat} {c : Value} {x : DataW H × List MemPlace}
    (ht : P.underlying t = some (.slice e)) (he : P.underlying e = some .string) (hc : P.cellsOf e = 1) (h : DataW.trod enc P w base spare held fuel t [c] = some x) : ∃ a len cap zs, c = .slice a len cap ∧ IsStrs w a len cap zs := by
  rcases Go.Deep.open_strs ht he hc h with ⟨hcs, _⟩ | ⟨x, l, c', m, Sx, hcs, _, hl, hm, hmm, _, hx⟩
  · simp at hcs
    exact ⟨_, _, _, [], hcs, isStrs_nil _⟩
  · simp at hcs
    obtain ⟨zs, hz⟩ := isStrs_of hl hm (by rw [hmm]; split <;> omega) hx
    exact ⟨_, _, _, zs, hcs, hz⟩
theorem open_strs2 {H : Type} {enc : TypeId × Value → H} {P : Program} {w w0 : World} {base b0 : Nat} {spare : Nat → Bool} {held : Bool} {r : Reach} {t e s : TypeId} {v : Value} {d : DataW H} {p : List MemPlace}
    (ht : P.underlying t = some (.array 2 e)) (he : P.underlying e = some (.slice s)) (hs : P.underlying s = some .string) (hcs : P.cellsOf s = 1) (hce : P.cellsOf e = 1) (hC : P.cellsOf t = 2)
    (hv : Value.okWide P w0 r b0 t v) (h : DataW.Trod enc P w base spare held t v d p) : ∃ a1 n1 c1 z1 a2 n2 c2 z2, v = .agg #[.slice a1 n1 c1, .slice a2 n2 c2] ∧ IsStrs w a1 n1 c1 z1 ∧ IsStrs w a2 n2 c2 z2 := by
  obtain ⟨cs, rfl, hsz⟩ : ∃ cs, v = .agg cs ∧ cs.size = P.cellsOf t := by
    unfold Value.okWide at hv
    rw [ht] at hv
    obtain ⟨cs, h1, h2, _⟩ := hv
    exact ⟨cs, h1, h2⟩
  obtain ⟨c0, c1, rfl⟩ := two_of (hsz.trans hC)
  obtain ⟨fuel, hf⟩ := h
  obtain ⟨xs, m, _, _, _, hlen, hf2⟩ := DataW.trod_array ht hf
  match xs, hlen with
  | [y0, y1], _ =>
    have h0 := hf2 0 (by decide)
    have h1 := hf2 1 (by decide)
    rw [hce] at h0 h1
    simp [Value.cells] at h0 h1
    obtain ⟨a1, n1, k1, z1, e1, i1⟩ := isStrs_from he hs hcs h0
    obtain ⟨a2, n2, k2, z2, e2, i2⟩ := isStrs_from he hs hcs h1
    subst e1
    subst e2
    exact ⟨_, _, _, _, _, _, _, _, rfl, i1, i2⟩

/-! ### The walk -/
set_option maxRecDepth 1000000 in
set_option maxHeartbeats 2000000 in
theorem diffEnds_walk (a1 : Option Addr) (n1 c1 : Nat) (a : List Str) (a2 : Option Addr) (n2 c2 : Nat) (b : List Str) (a3 : Option Addr) (n3 c3 : Nat) (p : List Str) (a4 : Option Addr) (n4 c4 : Nat) (s : List Str) (w : World)
    (hs1 : IsStrs w a1 n1 c1 a) (hs2 : IsStrs w a2 n2 c2 b) (hs3 : IsStrs w a3 n3 c3 p) (hs4 : IsStrs w a4 n4 c4 s) :
    Calls Try.prog 9 #[.slice a1 n1 c1, .slice a2 n2 c2, .agg #[.slice a3 n3 c3, .slice a4 n4 c4]] w fun e w' => e = .returned (.bool true) ∧ Below w.heap.size w w' := by
  obtain ⟨rfl, hr1⟩ := hs1
  obtain ⟨rfl, hr2⟩ := hs2
  obtain ⟨rfl, hr3⟩ := hs3
  obtain ⟨rfl, hr4⟩ := hs4
  have H1 := Lib.hid hr1; clear hr1
  have H2 := Lib.hid hr2; clear hr2
  have H3 := Lib.hid hr3; clear hr3
  have H4 := Lib.hid hr4; clear hr4
  go_enter Try.func9, Try.ntmps9
  go_wp2_with fail
  refine (awake_any _).mono ?_
  rintro e w1 ⟨rfl, B0⟩
  have B1 : Below w.heap.size w w1 := ((Below.refl _ w).alloc (Nat.le_refl _) _).trans (B0.mono (by simp))
  have k0 := (Blk.new w 48 #[.slice a3 p.length c3, .slice a4 s.length c4]).below B0
  have K0 := Lib.hid k0
  clear k0 B0
  have rd0 : ∀ (v0 v1 : Value) (W : World), Blk w.heap.size 48 #[v0, v1] W → W.cell? ⟨w.heap.size, 0, none⟩ = some v0 ∧ W.cell? ⟨w.heap.size, 1, none⟩ = some v1 := fun _ _ _ h => ⟨h.cell 0, h.cell 1⟩
  obtain ⟨g1, g2⟩ := rd0 _ _ _ K0.out
  have RD := Lib.hid rd0
  clear rd0
  have R1 := Lib.hid (H1.out.below B1)
  have R2 := Lib.hid (H2.out.below B1)
  have R3 := Lib.hid (H3.out.below B1)
  have R4 := Lib.hid (H4.out.below B1)
  have HB := Lib.hid B1
  have z1 := B1.size
  clear B1 H1 H2 H3 H4
  by_cases f1 : Few a
  case neg =>
    go_wp2_with fail
    refine (few_no _ _ _ R1.out f1).mono ?_
    rintro e w' ⟨rfl, h⟩
    obtain rfl := h.symm
    go_wp2
    go_ret
    exact ⟨rfl, HB.out⟩
  go_wp2_with fail
  refine (few_yes _ _ _ R1.out f1).mono ?_
  rintro e w' ⟨rfl, h⟩
  obtain rfl := h.symm
  by_cases f2 : Few b
  case neg =>
    go_wp2_with fail
    refine (few_no _ _ _ R2.out f2).mono ?_
    rintro e w' ⟨rfl, h⟩
    obtain rfl := h.symm
    go_wp2
    go_ret
    exact ⟨rfl, HB.out⟩
  go_wp2_with fail
  refine (few_yes _ _ _ R2.out f2).mono ?_
  rintro e w' ⟨rfl, h⟩
  obtain rfl := h.symm
  by_cases f3 : Few p
  case neg =>
    go_wp2_with fail
    refine (few_no _ _ _ R3.out f3).mono ?_
    rintro e w' ⟨rfl, h⟩
    obtain rfl := h.symm
    go_wp2
    go_ret
    exact ⟨rfl, HB.out⟩
  go_wp2_with fail
  refine (few_yes _ _ _ R3.out f3).mono ?_
  rintro e w' ⟨rfl, h⟩
  obtain rfl := h.symm
  by_cases f4 : Few s
  case neg =>
    go_wp2_with fail
    refine (few_no _ _ _ R4.out f4).mono ?_
    rintro e w' ⟨rfl, h⟩
    obtain rfl := h.symm
    go_wp2
    go_ret
    exact ⟨rfl, HB.out⟩
  go_wp2_with fail
  refine (few_yes _ _ _ R4.out f4).mono ?_
  rintro e w' ⟨rfl, h⟩
  obtain rfl := h.symm
  obtain ⟨i0, hi, hz0, hz1, hz2⟩ := info_parts Try.infoT
  have F1 := Lib.hid f1
  have F2 := Lib.hid f2
  have F3 := Lib.hid f3
  have F4 := Lib.hid f4
  have l1 := f1.1
  have l2 := f2.1
  have l3 := f3.1
  have l4 := f4.1
  clear f1 f2 f3 f4
  have bx : w.heap.size < w1.heap.size := K0.out.lt
  have E0 := Lib.hid (own_empty w1.drew w1.heap.size (Nat.le_refl _))
  have BE : Hid (Below w1.heap.size w1 (w1.drew.alloc (.cells #[] 9))) := Lib.hid ((Below.refl _ w1).drew.alloc (Nat.le_refl _) _)
  have P0 := Lib.hid (R3.out.below BE.out)
  obtain ⟨g3, g4⟩ := RD.out _ _ _ (K0.out.below BE.out)
  have y5 : w1.heap.size ≤ (w1.drew.alloc (.cells #[] 9)).heap.size := BE.out.size
  go_upto_region 5 with fail
  go_cut [7] from 31 to 39 (fun v7 wx => Own1 1 encT wx w1.heap.size 9 v7 ([] ++ p ++ a ++ s) ∧ Below w1.heap.size w1 wx)
  case first =>
   go_region_law (first
    | (refine step_append_rd (w := w1.drew.alloc (.cells #[] 9)) rfl _ _ 22 rfl w1.heap.size i0 _ 16 Try.underlying22 hi hz0 hz1 hz2 (by omega) rfl (by omega) encT_len encT_one _ [] p _ rfl E0.out rfl P0.out (by simp; omega) y5 ?_; intro v1 x1 h1; have O1 := Lib.hid h1.1; have C1 := Lib.hid (BE.out.trans h1.2); have k1 := C1.out.size; have P1 := Lib.hid (R1.out.below C1.out); obtain ⟨q1, q2⟩ := RD.out _ _ _ (K0.out.below C1.out); clear h1)
    | (refine step_append_rd rfl _ _ 22 rfl w1.heap.size i0 _ 16 Try.underlying22 hi hz0 hz1 hz2 (by omega) rfl (by omega) encT_len encT_one _ ([] ++ p) a _ rfl O1.out rfl P1.out (by simp; omega) k1 ?_; intro v2 x2 h2; have O2 := Lib.hid h2.1; have C2 := Lib.hid (C1.out.trans h2.2); have k2 := C2.out.size; have P2 := Lib.hid (R4.out.below C2.out); obtain ⟨q3, q4⟩ := RD.out _ _ _ (K0.out.below C2.out); clear h2)
    | (refine step_append_rd rfl _ _ 22 rfl w1.heap.size i0 _ 16 Try.underlying22 hi hz0 hz1 hz2 (by omega) rfl (by omega) encT_len encT_one _ ([] ++ p ++ a) s _ rfl O2.out rfl P2.out (by simp; omega) k2 ?_; intro v3 x3 h3; have O3 := Lib.hid h3.1; have C3 := Lib.hid (C2.out.trans h3.2); clear h3))
   all_goals (
    go_wp2_with fail
    go_meet
    exact ⟨O3.out, C3.out⟩)
  case rest =>
   rename World => w2
   obtain ⟨ox, bx2⟩ := hcut
   have X1 := Lib.hid (ox.rd encT_len)
   have HB2 := Lib.hid (HB.out.trans (bx2.mono z1))
   have z2 := HB2.out.size
   have K2 := Lib.hid (K0.out.below bx2)
   have S1 := Lib.hid (R1.out.below bx2)
   have S2 := Lib.hid (R2.out.below bx2)
   have S3 := Lib.hid (R3.out.below bx2)
   have S4 := Lib.hid (R4.out.below bx2)
   clear ox bx2 K0 R1 R2 R3 R4 E0 BE P0 g1 g2 g3 g4 y5 HB z1 bx
   have bx : w.heap.size < w2.heap.size := K2.out.lt
   obtain ⟨g1, g2⟩ := RD.out _ _ _ K2.out
   have E0 := Lib.hid (own_empty w2.drew w2.heap.size (Nat.le_refl _))
   have BE : Hid (Below w2.heap.size w2 (w2.drew.alloc (.cells #[] 9))) := Lib.hid ((Below.refl _ w2).drew.alloc (Nat.le_refl _) _)
   have P0 := Lib.hid (S3.out.below BE.out)
   obtain ⟨g3, g4⟩ := RD.out _ _ _ (K2.out.below BE.out)
   have y6 : w2.heap.size ≤ (w2.drew.alloc (.cells #[] 9)).heap.size := BE.out.size
   go_upto_region 6 with fail
   go_cut [8] from 40 to 48 (fun v8 wx => Own1 1 encT wx w2.heap.size 9 v8 ([] ++ p ++ b ++ s) ∧ Below w2.heap.size w2 wx)
   case first =>
    go_region_law (first
    | (refine step_append_rd (w := w2.drew.alloc (.cells #[] 9)) rfl _ _ 22 rfl w2.heap.size i0 _ 16 Try.underlying22 hi hz0 hz1 hz2 (by omega) rfl (by omega) encT_len encT_one _ [] p _ rfl E0.out rfl P0.out (by simp; omega) y6 ?_; intro v1 x1 h1; have O1 := Lib.hid h1.1; have C1 := Lib.hid (BE.out.trans h1.2); have k1 := C1.out.size; have P1 := Lib.hid (S2.out.below C1.out); obtain ⟨q1, q2⟩ := RD.out _ _ _ (K2.out.below C1.out); clear h1)
    | (refine step_append_rd rfl _ _ 22 rfl w2.heap.size i0 _ 16 Try.underlying22 hi hz0 hz1 hz2 (by omega) rfl (by omega) encT_len encT_one _ ([] ++ p) b _ rfl O1.out rfl P1.out (by simp; omega) k1 ?_; intro v2 x2 h2; have O2 := Lib.hid h2.1; have C2 := Lib.hid (C1.out.trans h2.2); have k2 := C2.out.size; have P2 := Lib.hid (S4.out.below C2.out); obtain ⟨q3, q4⟩ := RD.out _ _ _ (K2.out.below C2.out); clear h2)
    | (refine step_append_rd rfl _ _ 22 rfl w2.heap.size i0 _ 16 Try.underlying22 hi hz0 hz1 hz2 (by omega) rfl (by omega) encT_len encT_one _ ([] ++ p ++ b) s _ rfl O2.out rfl P2.out (by simp; omega) k2 ?_; intro v3 x3 h3; have O3 := Lib.hid h3.1; have C3 := Lib.hid (C2.out.trans h3.2); clear h3))
    all_goals (
     go_wp2_with fail
     go_meet
     exact ⟨O3.out, C3.out⟩)
   case rest =>
    obtain ⟨oy, by2⟩ := hcut
    have Y1 := Lib.hid (oy.rd encT_len)
    have HB3 := Lib.hid (HB2.out.trans (by2.mono z2))
    have z3 := HB3.out.size
    have X2 := Lib.hid (X1.out.below by2)
    have T1 := Lib.hid (S1.out.below by2)
    have T2 := Lib.hid (S2.out.below by2)
    clear oy by2 K2 S1 S2 S3 S4 E0 BE P0 g1 g2 g3 g4 y6 HB2 z2 bx X1
    go_wp2_with fail
    refine (distance_any _ _ _ _ _ X2.out Y1.out (few_ends F3.out F4.out F1.out) (few_ends F3.out F4.out F2.out)).mono ?_
    rw [dist_ends]
    rintro e w4 ⟨rfl, b4⟩
    have T3 := Lib.hid (T1.out.below b4)
    have T4 := Lib.hid (T2.out.below b4)
    have HB4 := Lib.hid (st HB3.out b4 z3)
    have z4 := HB4.out.size
    clear b4
    go_wp2_with fail
    refine (distance_any _ _ _ _ _ T3.out T4.out F1.out.sizes F2.out.sizes).mono ?_
    rintro e w5 ⟨rfl, b5⟩
    have HB5 := Lib.hid (st HB4.out b5 z4)
    clear b5
    go_wp2
    go_ret
    exact ⟨rfl, HB5.out⟩
end Go.Proofs.Ytcnjomkddbbopaa
