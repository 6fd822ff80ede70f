/- The law DistanceGrows. -/
import Derived.Test.YtbcpeoomkhcgnaaTm
namespace Go.Proofs.Ytbcpeoomkhcgnaa
open Go.RowKit
set_option linter.unusedVariables false

theorem step_call {P : Program} {ops : Array Oper} {o : Oper} {a : Act} {w : World} {K : Act → World → Prop} {Q : Exit → Act → World → Prop} {E : Prop} {f : Nat} {v u : Value} (hgd : o.guard = none) (s y : Operand) (ts : Array TypeId)
    (ho : o.op = .call { callee := .value (.func f), args := #[s, y], argTypes := ts }) (hs : a.eval s = v) (hy : a.eval y = u) (he : ∀ args w, (callFunc f args).run P w = .ok (.enter f args) w) {R : Ending → World → Prop} (h : Calls P f #[v, u] w R)
    (hR : ∀ e w', R e w' → ∃ x, e = .returned x ∧ K (a.put o.dst x) w') : if Region.wanted o (yielded ops a.tmps) = true then Oper.wp P o a w K Q else E := by
  have hw : Region.wanted o (yielded ops a.tmps) = true := by simp [Region.wanted, hgd]
  rw [if_pos hw]
  unfold Oper.wp execOp
  have hf : a.eval (.func f) = .func (.func f) #[] #[] := rfl
  simp only [ho, resolve, invoke, hf, hs, hy, Sem.run_bind, Sem.run_pure, Result.andThen_ok, List.map_toArray, List.map_cons, List.map_nil]
  have hd : (Sem.run P (Deferred.ofValue (Value.func (Fn.func f) #[] #[]) #[v, u]) w) = .ok { target := .fn (.func f) #[], args := #[v, u] } w := by simp [Deferred.ofValue, go_sem]
  rw [hd]
  simp only [Result.andThen_ok, Array.append_empty, he]
  show Calls P f #[v, u] w _
  refine h.mono fun e w' hr => ?_
  obtain ⟨x, rfl, hk⟩ := hR e w' hr
  exact hk
theorem wrap_sm {x : Int} (h0 : -1000 ≤ x) (h1 : x ≤ 1000) : IntKind.i64.wrap x = x := by
  have hb : IntKind.i64.bits = 64 := rfl
  have hs : IntKind.i64.signed = true := rfl
  unfold IntKind.wrap
  simp only [hb, hs]
  simp
  omega
section
variable {α : Type} {k : Nat} {enc : α → List Value}
variable {P : Program} {ops : Array Oper} {o : Oper} {a : Act} {K : Act → World → Prop} {Q : Exit → Act → World → Prop} {E : Prop}
theorem rd_grown {w w' : World} {v : Value} {l : List α} {row : Option Nat} (h : Rd k enc w v l) (hg : w.grownBy w' row) (hne : l ≠ [] → ∀ b, v.ownBlock = some b → row ≠ some b) : Rd k enc w' v l := by
  obtain ⟨⟨a, c, rfl, h1, h2, hx⟩, hn⟩ := h
  refine ⟨⟨a, c, rfl, h1, h2, fun hl => ?_⟩, hn⟩
  obtain ⟨b, off, ha, hlt, hc⟩ := hx hl
  subst ha
  exact ⟨b, off, rfl, Nat.lt_of_lt_of_le hlt hg.size, fun i x hi j u hu => (World.cell?_of_block (w := w) (a := ⟨b, off + i * k + j, none⟩) (hg.block b hlt (fun e => hne hl b rfl e.symm))).trans (hc i x hi j u hu)⟩
/-- .. and what else it leaves as it was. -/
theorem step_append_rdg {w : World} {e : TypeId} (hgd : o.guard = none) (s y : Operand) (t : TypeId)
    (ho : o.op = .call { callee := .builtin .append, args := #[s, y], argTypes := #[t, t] })
    (base : Nat) (i : TypeInfo) (z : Value) (by_ : Nat) (ht : P.underlying t = some (.slice e)) (hi : P.info? e = some i) (hz : i.zero = some z) (hsize : i.size = k) (hby : i.bytes = by_) (hb64 : by_ ≤ 64) (hzs : z.cells.size = k) (hk0 : 0 < k)
    (hk : ∀ x : α, (enc x).length = k) (h1c : ∀ x : α, ∀ u ∈ enc x, u.oneCell' = true)
    (v : Value) (l r : List α) (u : Value) (hs : a.eval s = v) (hown : Own1 k enc w base e v l) (hx : a.eval y = u) (hu : Rd k enc w u r)
    (hl : l.length + r.length ≤ 1000000000) (hbase : base ≤ w.heap.size)
    (h : ∀ v' w', Own1 k enc w' base e v' (l ++ r) ∧ Below base w w' ∧ w.grownBy w' v.ownBlock → K (a.put o.dst v') w') : if Region.wanted o (yielded ops a.tmps) = true then Oper.wp P o a w K Q else E := by
  have hw : Region.wanted o (yielded ops a.tmps) = true := by simp [Region.wanted, hgd]
  rw [if_pos hw]
  obtain ⟨⟨ad, c, rfl, hc1, hc2, hc⟩, hn⟩ := hu
  rcases ad with _ | ad
  · have hr : r = [] := by
      rcases Classical.em (r = []) with h0 | h0
      · exact h0
      · obtain ⟨b, off, hb, _⟩ := hc h0
        cases hb
    subst hr
    have hc0 := hn _ _ rfl
    subst hc0
    have hrun := run_append_owned_none (P := P) (w := w) base t o.type e i k ht hi v l.length (l.flatMap enc) hown
    have hx' : a.eval y = .slice none 0 0 := hx
    unfold Oper.wp
    simp [execOp, ho, resolve, invoke, builtin, hs, hx', hrun, Result.andThen]
    exact h v w ⟨by simpa using hown, Below.refl _ _, ⟨rfl, rfl, rfl, Nat.le_refl _, fun _ _ _ => rfl⟩⟩
  · refine wp_append_own w s y t ho base e i z k by_ ht hi hz hsize hby hzs hk0 v l.length (l.flatMap enc) hs hown ad r.length c (r.flatMap enc) hx (flat_len hk r) ?_ ?_ (by unfold maxLen; omega) (Nat.le_trans (Nat.mul_le_mul_left _ hb64) (by omega)) hbase ?_
    · intro j u hj
      obtain ⟨i', x, jj, h1, h2, h3⟩ := flat_inv hk r j u hj
      obtain ⟨b, off, hb, _, hcc⟩ := hc (fun e => by rw [e] at h1; simp at h1)
      cases hb
      rw [add_off, h3, ← Nat.add_assoc]
      exact hcc i' x h1 jj u h2
    · intro u hu
      obtain ⟨x, _, hx⟩ := List.mem_flatMap.1 hu
      exact h1c x u hx
    · intro v' w' h2 h3 _
      refine h v' w' ⟨?_, (Below.refl base w).grown h3 hbase (fun j e => (World.ownsRow.lt hown j e).1), h3⟩
      unfold Own1
      rw [List.flatMap_append, List.length_append]
      exact h2
end
theorem rd1 (w : World) (y : Str) : Rd 1 encT (w.alloc (.cells #[.string (ofL y)] 9)) (.slice (some ⟨w.heap.size, 0, none⟩) 1 1) [y] := by
  have k := Blk.new w 9 #[.string (ofL y)]
  refine ⟨⟨_, 1, rfl, Nat.le_refl _, by omega, fun _ => ⟨w.heap.size, 0, rfl, k.lt, fun i u hi j v hv => ?_⟩⟩, fun n c hc => by cases hc⟩
  have hj : j = 0 := by have := (List.getElem?_eq_some_iff.1 hv).1; simp [encT] at this; exact this
  have hi0 : i = 0 := by have := (List.getElem?_eq_some_iff.1 hi).1; simp at this; exact this
  subst hj hi0
  simp at hi
  subst hi
  simp [encT] at hv
  subst hv
  rw [k.cell]
  rfl
set_option maxRecDepth 1000000 in
set_option maxHeartbeats 4000000 in
theorem distanceGrows_walk (a1 : Option Addr) (n1 c1 : Nat) (a : List Str) (a2 : Option Addr) (n2 c2 : Nat) (b : List Str) (a3 : Option Addr) (n3 c3 : Nat) (m : List Str) (w : World)
    (hs1 : IsStrs w a1 n1 c1 a) (hs2 : IsStrs w a2 n2 c2 b) (hs3 : IsStrs w a3 n3 c3 m) :
    Calls Try.prog 9 #[.slice a1 n1 c1, .slice a2 n2 c2, .slice a3 n3 c3] w fun e w' => e = .returned (.bool true) ∧ Below w.heap.size w w' := by
  obtain ⟨rfl, hr1⟩ := hs1
  obtain ⟨rfl, hr2⟩ := hs2
  obtain ⟨rfl, hr3⟩ := hs3
  have H1 := Lib.hid hr1; clear hr1
  have H2 := Lib.hid hr2; clear hr2
  have H3 := Lib.hid hr3; clear hr3
  go_enter Try.func9, Try.ntmps9
  go_wp2_with fail
  refine (awake_any _).mono ?_
  rintro e w1 ⟨rfl, B1⟩
  have z1 := B1.size
  have B2 : Below w.heap.size w (w1.alloc (.cells #[.slice a1 a.length c1, .slice a2 b.length c2, .slice a3 m.length c3] 23)) := B1.alloc z1 _
  have R1 := Lib.hid (H1.out.below B2)
  have R2 := Lib.hid (H2.out.below B2)
  have R3 := Lib.hid (H3.out.below B2)
  have HB := Lib.hid B2
  clear B1 B2 H1 H2 H3
  go_wp2_with fail
  by_cases hf : a.length ≤ 40 ∧ b.length ≤ 40 ∧ m.length ≤ 40
  case neg =>
    refine (few3_any 40 (by omega) (a1, a.length, c1) (a2, b.length, c2) (a3, m.length, c3) w1 false ⟨(fun h => by cases h), (fun h => absurd h hf)⟩).mono ?_
    rintro e w' ⟨rfl, rfl⟩
    go_wp2
    go_ret
    exact ⟨rfl, HB.out⟩
  refine (few3_any 40 (by omega) (a1, a.length, c1) (a2, b.length, c2) (a3, m.length, c3) w1 true ⟨(fun _ => hf), (fun _ => rfl)⟩).mono ?_
  rintro e w' ⟨rfl, rfl⟩
  obtain ⟨W, hW⟩ : ∃ W, w1.alloc (.cells #[.slice a1 a.length c1, .slice a2 b.length c2, .slice a3 m.length c3] 23) = W := ⟨_, rfl⟩
  dsimp only
  rw [hW] at R1 R2 R3 HB ⊢
  have z2 := HB.out.size
  clear hW z1
  obtain ⟨l1, l2, l3⟩ := hf
  go_wp2_with fail
  refine (distance_any _ _ a b _ R1.out R2.out (by omega) (by omega)).mono ?_
  rintro e w2 ⟨rfl, B2⟩
  have S1 := Lib.hid (R1.out.below B2)
  have S2 := Lib.hid (R2.out.below B2)
  have S3 := Lib.hid (R3.out.below B2)
  have HB2 := Lib.hid (st HB.out B2 z2)
  have z3 := HB2.out.size
  clear B2 R1 R2 R3 HB z2
  have HF := Lib.hid (lev_front m a b)
  have HK := Lib.hid (lev_back m a b)
  have HSN := Lib.hid (fun x => lev_snoc a b x)
  have k1 := lev_high a b
  have k2 := lev_low a b
  obtain ⟨n, hn⟩ : ∃ n, lev a b = n := ⟨_, rfl⟩
  rw [hn] at HF HK HSN k1 k2 ⊢
  obtain ⟨mx, hmx⟩ : ∃ mx, max a.length b.length = mx := ⟨_, rfl⟩
  rw [hmx] at k1
  have hif : (if a.length < b.length then (b.length : Int) else (a.length : Int)) = (mx : Int) := by rw [← hmx]; split <;> omega
  have t1 : ¬ (n : Int) < (a.length : Int) - (b.length : Int) := by omega
  have t2 : ¬ (n : Int) < (b.length : Int) - (a.length : Int) := by omega
  have t3 : ¬ (mx : Int) < (n : Int) := by omega
  have g1 : n ≤ 40 := by omega
  clear hn hmx k1 k2
  obtain ⟨i0, hi, hz0, hz1, hz2⟩ := info_parts Try.infoT
  have E0 := Lib.hid (own_empty w2 w2.heap.size (Nat.le_refl _))
  have BE : Hid (Below w2.heap.size w2 (w2.alloc (.cells #[] 9))) := Lib.hid ((Below.refl _ w2).alloc (Nat.le_refl _) _)
  have P0 := Lib.hid (S3.out.below BE.out)
  have zE := BE.out.size
  go_wp2_with (first
    | (at_builtin; refine wpList_append_rd rfl _ _ 23 rfl w2.heap.size i0 _ 16 Try.underlying23 hi hz0 hz1 hz2 (by omega) rfl (by omega) encT_len encT_one _ [] m _ rfl E0.out rfl P0.out (by simp; omega) zE ?_; intro v1 x1 y1 y2; have O1 := Lib.hid y1; have C1 := Lib.hid (BE.out.trans y2); have zC1 := C1.out.size; have P1 := Lib.hid (S1.out.below C1.out); clear y1 y2)
    | (at_builtin; refine wpList_append_rd rfl _ _ 23 rfl w2.heap.size i0 _ 16 Try.underlying23 hi hz0 hz1 hz2 (by omega) rfl (by omega) encT_len encT_one _ ([] ++ m) a _ rfl O1.out rfl P1.out (by simp; omega) zC1 ?_; intro v2 x2 y1 y2; have O2 := Lib.hid (y1.rd encT_len); have C2 := Lib.hid (C1.out.trans y2); have zC2 := C2.out.size; have E3 := Lib.hid (own_empty x2 x2.heap.size (Nat.le_refl _)); have BE3 : Hid (Below x2.heap.size x2 (x2.alloc (.cells #[] 9))) := Lib.hid ((Below.refl _ x2).alloc (Nat.le_refl _) _); have P3 := Lib.hid ((S3.out.below C2.out).below BE3.out); have zE3 := BE3.out.size; clear y1 y2)
    | (at_builtin; refine wpList_append_rd rfl _ _ 23 rfl x2.heap.size i0 _ 16 Try.underlying23 hi hz0 hz1 hz2 (by omega) rfl (by omega) encT_len encT_one _ [] m _ rfl E3.out rfl P3.out (by simp; omega) zE3 ?_; intro v3 x3 y1 y2; have O3 := Lib.hid y1; have C3 := Lib.hid (BE3.out.trans y2); have zC3 := C3.out.size; have P4 := Lib.hid ((S2.out.below C2.out).below C3.out); clear y1 y2)
    | (at_builtin; refine wpList_append_rd rfl _ _ 23 rfl x2.heap.size i0 _ 16 Try.underlying23 hi hz0 hz1 hz2 (by omega) rfl (by omega) encT_len encT_one _ ([] ++ m) b _ rfl O3.out rfl P4.out (by simp; omega) zC3 ?_; intro v4 x4 y1 y2; have O4 := Lib.hid (y1.rd encT_len); have C4 := Lib.hid (C3.out.trans y2); clear y1 y2))
  have O5 := Lib.hid (O2.out.below C4.out)
  have C5 := Lib.hid (st C2.out C4.out zC2)
  have HB3 := Lib.hid (HB2.out.trans (C5.out.mono z3))
  have z4 := HB3.out.size
  have T1 := Lib.hid (S1.out.below C5.out)
  have T2 := Lib.hid (S2.out.below C5.out)
  have T3 := Lib.hid (S3.out.below C5.out)
  clear E0 BE P0 zE O1 C1 zC1 P1 O2 C2 zC2 E3 BE3 P3 zE3 O3 C3 zC3 P4 C4 C5 S1 S2 S3 HB2 z3
  refine (distance_any _ _ _ _ _ O5.out O4.out (by simp; omega) (by simp; omega)).mono ?_
  rw [List.nil_append, HF.out]
  rintro e w3 ⟨rfl, B3⟩
  have S1 := Lib.hid (T1.out.below B3)
  have S2 := Lib.hid (T2.out.below B3)
  have S3 := Lib.hid (T3.out.below B3)
  have HB4 := Lib.hid (st HB3.out B3 z4)
  have z5 := HB4.out.size
  clear B3 T1 T2 T3 HB3 z4 O5 O4
  have E0 := Lib.hid (own_empty w3 w3.heap.size (Nat.le_refl _))
  have BE : Hid (Below w3.heap.size w3 (w3.alloc (.cells #[] 9))) := Lib.hid ((Below.refl _ w3).alloc (Nat.le_refl _) _)
  have P0 := Lib.hid (S1.out.below BE.out)
  have zE := BE.out.size
  go_wp2_with (first
    | (at_builtin; refine wpList_append_rd rfl _ _ 23 rfl w3.heap.size i0 _ 16 Try.underlying23 hi hz0 hz1 hz2 (by omega) rfl (by omega) encT_len encT_one _ [] a _ rfl E0.out rfl P0.out (by simp; omega) zE ?_; intro v1 x1 y1 y2; have O1 := Lib.hid y1; have C1 := Lib.hid (BE.out.trans y2); have zC1 := C1.out.size; have P1 := Lib.hid (S3.out.below C1.out); clear y1 y2)
    | (at_builtin; refine wpList_append_rd rfl _ _ 23 rfl w3.heap.size i0 _ 16 Try.underlying23 hi hz0 hz1 hz2 (by omega) rfl (by omega) encT_len encT_one _ ([] ++ a) m _ rfl O1.out rfl P1.out (by simp; omega) zC1 ?_; intro v2 x2 y1 y2; have O2 := Lib.hid (y1.rd encT_len); have C2 := Lib.hid (C1.out.trans y2); have zC2 := C2.out.size; have E3 := Lib.hid (own_empty x2 x2.heap.size (Nat.le_refl _)); have BE3 : Hid (Below x2.heap.size x2 (x2.alloc (.cells #[] 9))) := Lib.hid ((Below.refl _ x2).alloc (Nat.le_refl _) _); have P3 := Lib.hid ((S2.out.below C2.out).below BE3.out); have zE3 := BE3.out.size; clear y1 y2)
    | (at_builtin; refine wpList_append_rd rfl _ _ 23 rfl x2.heap.size i0 _ 16 Try.underlying23 hi hz0 hz1 hz2 (by omega) rfl (by omega) encT_len encT_one _ [] b _ rfl E3.out rfl P3.out (by simp; omega) zE3 ?_; intro v3 x3 y1 y2; have O3 := Lib.hid y1; have C3 := Lib.hid (BE3.out.trans y2); have zC3 := C3.out.size; have P4 := Lib.hid ((S3.out.below C2.out).below C3.out); clear y1 y2)
    | (at_builtin; refine wpList_append_rd rfl _ _ 23 rfl x2.heap.size i0 _ 16 Try.underlying23 hi hz0 hz1 hz2 (by omega) rfl (by omega) encT_len encT_one _ ([] ++ b) m _ rfl O3.out rfl P4.out (by simp; omega) zC3 ?_; intro v4 x4 y1 y2; have O4 := Lib.hid (y1.rd encT_len); have C4 := Lib.hid (C3.out.trans y2); clear y1 y2))
  have O5 := Lib.hid (O2.out.below C4.out)
  have C5 := Lib.hid (st C2.out C4.out zC2)
  have HB5 := Lib.hid (HB4.out.trans (C5.out.mono z5))
  have z6 := HB5.out.size
  have T1 := Lib.hid (S1.out.below C5.out)
  have T2 := Lib.hid (S2.out.below C5.out)
  have T3 := Lib.hid (S3.out.below C5.out)
  clear E0 BE P0 zE O1 C1 zC1 P1 O2 C2 zC2 E3 BE3 P3 zE3 O3 C3 zC3 P4 C4 C5 S1 S2 S3 HB4 z5
  refine (distance_any _ _ _ _ _ O5.out O4.out (by simp; omega) (by simp; omega)).mono ?_
  rw [List.nil_append, List.nil_append, HK.out]
  rintro e w4 ⟨rfl, B4⟩
  have S1 := Lib.hid (T1.out.below B4)
  have S2 := Lib.hid (T2.out.below B4)
  have S3 := Lib.hid (T3.out.below B4)
  have HB6 := Lib.hid (st HB5.out B4 z6)
  have z7 := HB6.out.size
  clear B4 T1 T2 T3 HB5 z6 O5 O4
  cases m with
  | nil =>
    go_wp2
    go_ret
    exact ⟨rfl, HB6.out⟩
  | cons y ms =>
    obtain ⟨bm, om, rfl, c0⟩ := S3.out.str 0 (by simp)
    have HSY := Lib.hid (HSN.out y)
    have hne : ¬ ((ms.length : Int) + 1 = 0) := by omega
    have hne2 : (((y :: ms).length : Int) == 0) = false := by rw [beq_eq_false_iff_ne, List.length_cons]; omega
    rw [Nat.add_zero] at c0
    obtain ⟨d, hd⟩ : ∃ d, lev (a ++ [y]) b = d := ⟨_, rfl⟩
    rw [hd] at HSY
    have hd1 := HSY.out
    have hw : IntKind.i64.wrap ((d : Int) - (n : Int)) = (d : Int) - (n : Int) := wrap_sm (by omega) (by omega)
    have HDD := Lib.hid hd
    have g3 : (-1 : Int) ≤ (d : Int) - (n : Int) := by omega
    have g4 : (d : Int) - (n : Int) ≤ 1 := by omega
    have Wd : Hid (Below w4.heap.size w4 w4.drew) := Lib.hid (Below.refl _ w4).drew
    have EA := Lib.hid (own_empty w4.drew w4.heap.size (Nat.le_refl _))
    have BA : Hid (Below w4.heap.size w4 (w4.drew.alloc (.cells #[] 9))) := Lib.hid (Wd.out.alloc (Nat.le_refl _) _)
    have zA : w4.heap.size ≤ (w4.drew.alloc (.cells #[] 9)).heap.size := BA.out.size
    have PA := Lib.hid (S1.out.below BA.out)
    have EB := Lib.hid (Own1.below EA.out ((Below.refl _ (w4.drew.alloc (.cells #[] 9))).alloc (Nat.le_refl _) (.cells #[.string (ofL y)] 9)))
    have BB : Hid (Below w4.heap.size w4 ((w4.drew.alloc (.cells #[] 9)).alloc (.cells #[.string (ofL y)] 9))) := Lib.hid (BA.out.alloc zA _)
    have zB : w4.heap.size ≤ ((w4.drew.alloc (.cells #[] 9)).alloc (.cells #[.string (ofL y)] 9)).heap.size := BB.out.size
    have PB := Lib.hid (S1.out.below BB.out)
    have ob := rd1 (w4.drew.alloc (.cells #[] 9)) y
    rw [World.size_alloc, show w4.drew.heap.size = w4.heap.size from rfl] at ob
    have OB := Lib.hid ob
    clear ob
    have ec := own_empty (w4.drew.alloc (.cells #[.string (ofL y)] 9)) w4.heap.size (Wd.out.alloc (Nat.le_refl _) _).size
    rw [World.size_alloc, show w4.drew.heap.size = w4.heap.size from rfl] at ec
    have EC := Lib.hid ec
    clear ec
    have BC : Hid (Below w4.heap.size w4 ((w4.drew.alloc (.cells #[.string (ofL y)] 9)).alloc (.cells #[] 9))) := Lib.hid ((Wd.out.alloc (Nat.le_refl _) _).alloc (Wd.out.alloc (Nat.le_refl _) _).size _)
    have zC : w4.heap.size ≤ ((w4.drew.alloc (.cells #[.string (ofL y)] 9)).alloc (.cells #[] 9)).heap.size := BC.out.size
    have PC := Lib.hid (S1.out.below BC.out)
    have OC := Lib.hid ((rd1 w4.drew y).alloc (.cells #[] 9))
    have c1 : w4.drew.cell? ⟨bm, om, none⟩ = some (.string (ofL y)) := c0
    have cA : (w4.drew.alloc (.cells #[] 9)).cell? ⟨bm, om, none⟩ = some (.string (ofL y)) := by
      obtain ⟨_, _, e0, q⟩ := (S3.out.below BA.out).str 0 (by simp)
      cases e0
      simpa using q
    have cA2 : (w4.alloc (.cells #[] 9)).cell? ⟨bm, om, none⟩ = some (.string (ofL y)) := cA
    go_upto_region 14 with fail
    go_cut [10] from 80 (fun v10 wx => v10 = .int .i64 ((d : Int) - (n : Int)) ∧ Below w4.heap.size w4 wx)
    case first =>
      go_region_law (first
        | (refine step_append_rd (w := w4.drew.alloc (.cells #[] 9)) rfl _ _ 23 rfl w4.heap.size i0 _ 16 Try.underlying23 hi hz0 hz1 hz2 (by omega) rfl (by omega) encT_len encT_one _ [] a _ rfl EA.out rfl PA.out (by simp; omega) zA ?_; intro v1 x1 h1; have O1 := Lib.hid h1.1; have C1 := Lib.hid (BA.out.trans h1.2); have zC1 := C1.out.size; have Q1 : x1.cell? ⟨bm, om, none⟩ = some (.string (ofL y)) := (by obtain ⟨_, _, e0, q⟩ := (S3.out.below C1.out).str 0 (by simp); cases e0; simpa using q); clear h1)
        | (refine step_append_rdg (w := (w4.drew.alloc (.cells #[] 9)).alloc (.cells #[.string (ofL y)] 9)) rfl _ _ 23 rfl w4.heap.size i0 _ 16 Try.underlying23 hi hz0 hz1 hz2 (by omega) rfl (by omega) encT_len encT_one _ [] a _ rfl EB.out rfl PB.out (by simp; omega) zB ?_; intro v1 x1 h1; have O1 := Lib.hid h1.1; have C1 := Lib.hid (BB.out.trans h1.2.1); have zC1 := C1.out.size; have OO := Lib.hid (rd_grown OB.out h1.2.2 (fun _ b e => by cases e; intro h9; have h8 : (some w4.heap.size : Option Nat) = some (w4.heap.size + 1) := h9; injection h8 with h8; omega)); clear h1)
        | (refine step_append_rdg (w := (w4.drew.alloc (.cells #[.string (ofL y)] 9)).alloc (.cells #[] 9)) rfl _ _ 23 rfl w4.heap.size i0 _ 16 Try.underlying23 hi hz0 hz1 hz2 (by omega) rfl (by omega) encT_len encT_one _ [] a _ rfl EC.out rfl PC.out (by simp; omega) zC ?_; intro v1 x1 h1; have O1 := Lib.hid h1.1; have C1 := Lib.hid (BC.out.trans h1.2.1); have zC1 := C1.out.size; have OO := Lib.hid (rd_grown OC.out h1.2.2 (fun _ b e => by cases e; intro h9; have h8 : (some (w4.heap.size + 1) : Option Nat) = some w4.heap.size := h9; injection h8 with h8; omega)); clear h1)
        | (refine step_append_at (w0 := x1) (x := y) (N := x1.heap.size) rfl rfl _ _ 23 rfl w4.heap.size i0 _ 16 Try.underlying23 hi hz0 hz1 hz2 (by omega) rfl (by omega) encT_len encT_one _ ([] ++ a) rfl rfl O1.out rfl (by simp; omega) zC1 ?_; intro v2 x2 h2; have O2 := Lib.hid (h2.1.rd encT_len); have C2 := Lib.hid (C1.out.trans h2.2); have P2 := Lib.hid (S2.out.below C2.out); have z2 := C2.out.size; clear h2)
        | (refine step_append_rd (w := x1) rfl _ _ 23 rfl w4.heap.size i0 _ 16 Try.underlying23 hi hz0 hz1 hz2 (by omega) rfl (by omega) encT_len encT_one _ ([] ++ a) [y] _ rfl O1.out rfl OO.out (by simp; omega) zC1 ?_; intro v2 x2 h2; have O2 := Lib.hid (h2.1.rd encT_len); have C2 := Lib.hid (C1.out.trans h2.2); have P2 := Lib.hid (S2.out.below C2.out); have z2 := C2.out.size; clear h2)
        | (refine step_call rfl _ _ _ rfl rfl rfl (enters_of Try.func16 (by kernel_rfl) rfl) (distance_any _ _ _ _ _ O2.out P2.out (by simp; omega) (by omega)) ?_; rintro e x3 ⟨rfl, hb3⟩; refine ⟨_, rfl, ?_⟩; rw [List.nil_append, HDD.out]; have C3 := Lib.hid (st C2.out hb3 z2); clear hb3))
      all_goals (
        go_wp2_with fail
        go_meet
        exact ⟨rfl, C3.out⟩)
    case rest =>
      obtain ⟨rfl, hbw⟩ := hcut
      have HB7 := Lib.hid (HB6.out.trans (hbw.mono z7))
      clear hbw
      go_wp2
      go_ret
      exact ⟨rfl, HB7.out⟩
end Go.Proofs.Ytbcpeoomkhcgnaa
