/- The walk of PackWrites. -/
import Derived.Test.YtglllbodhdgahaaPr
import Derived.Laws.OwnMore
namespace Go.Proofs.Ytglllbodhdgahaa
open Go.RowKit
set_option linter.unusedVariables false

/-- Bytes more, as one operation. -/
theorem wp_append_many {P : Program} {W w : World} {o : Oper} {a : Act} {K : Act → World → Prop} {Q : Exit → Act → World → Prop} (s x : Operand) (t : TypeId)
    (ho : o.op = .call { callee := .builtin .append, args := #[s, x], argTypes := #[t, t] })
    (base : Nat) (e : TypeId) (i : TypeInfo) (ht : P.underlying t = some (.slice e)) (hi : P.info? e = some i) (hz : i.zero = some (.int .u8 0)) (hsize : i.size = 1) (hby : i.bytes = 1)
    (v : Value) (xs ys : List UInt8) (u : Value) (hs : a.eval s = v) (hown : OwnB w base e v xs) (hx : a.eval x = u) (hu : RdB w u ys)
    (h63 : xs.length + ys.length ≤ 140737488355328) (hbase : base ≤ w.heap.size) (hB : Below base W w)
    (h : ∀ v' w', OwnB w' base e v' (xs ++ ys) → Below base W w' → K (a.put o.dst v') w') : Oper.wp P o a w K Q := by
  obtain ⟨hl, ⟨ad, c, rfl, hc1, hc2, hc⟩, hn⟩ := hu
  rcases ad with _ | ad
  · have hys : ys = [] := by
      rcases Classical.em (ys = []) with h0 | h0
      · exact h0
      · obtain ⟨b, off, hb, _⟩ := hc h0
        cases hb
    subst hys
    have hc0 := hn _ _ rfl
    subst hc0
    have hrun := run_append_owned_none (P := P) (w := w) base t o.type e i 1 ht hi v xs.length (byteCells xs) hown
    unfold Oper.wp
    simp [execOp, ho, resolve, invoke, builtin, hs, hx, hrun, Result.andThen]
    exact h v w (by simpa using hown) hB
  · refine wp_append_own w s x t ho base e i (.int .u8 0) 1 1 ht hi hz hsize hby rfl (by decide) v xs.length (byteCells xs) hs hown ad ys.length c (byteCells ys) hx (by simp [byteCells]) ?_ ?_ (by (have hm : maxLen = 9223372036854775807 := by decide); omega) (by omega) hbase ?_
    · intro j u hj
      have hjl : j < ys.length := by
        rcases Nat.lt_or_ge j ys.length with h0 | h0
        · exact h0
        · rw [List.getElem?_eq_none (show (byteCells ys).length ≤ j by rw [byteCells_length]; exact h0)] at hj
          cases hj
      obtain ⟨b, off, hb, _, hcc⟩ := hc (List.ne_nil_of_length_pos (by omega))
      cases hb
      rw [add_off, hcc j hjl]
      simp [byteCells, List.getElem?_eq_getElem hjl] at hj
      rw [← hj]
      simp [List.getD, List.getElem?_eq_getElem hjl]
    · intro u hu
      simp only [byteCells, List.mem_map] at hu
      obtain ⟨y, _, rfl⟩ := hu
      rfl
    · intro v' w' h2 h3 _
      refine h v' w' (by unfold OwnB; rw [List.length_append, byteCells_app]; exact h2) (hB.grown h3 hbase (fun j e => (World.ownsRow.lt hown j e).1))
/-- .. behind a guard that lets it run. -/
theorem wpList_append_wanted {P : Program} {W w : World} {ops : Array Oper} {rest : List Oper} {o : Oper} {a : Act} {Q : Exit → Act → World → Prop} (hw : Region.wanted o (yielded ops a.tmps) = true) (s x : Operand) (t : TypeId)
    (ho : o.op = .call { callee := .builtin .append, args := #[s, x], argTypes := #[t, t] })
    (base : Nat) (e : TypeId) (i : TypeInfo) (ht : P.underlying t = some (.slice e)) (hi : P.info? e = some i) (hz : i.zero = some (.int .u8 0)) (hsize : i.size = 1) (hby : i.bytes = 1)
    (v : Value) (xs ys : List UInt8) (u : Value) (hs : a.eval s = v) (hown : OwnB w base e v xs) (hx : a.eval x = u) (hu : RdB w u ys)
    (h63 : xs.length + ys.length ≤ 140737488355328) (hbase : base ≤ w.heap.size) (hB : Below base W w)
    (h : ∀ v' w', OwnB w' base e v' (xs ++ ys) → Below base W w' → wpList P ops Q rest (a.put o.dst v') w') : wpList P ops Q (o :: rest) a w := by
  unfold wpList
  rw [if_pos hw]
  exact .inl (wp_append_many s x t ho base e i ht hi hz hsize hby v xs ys u hs hown hx hu h63 hbase hB h)
/-! ### An append onto an empty slice without capacity -/
/-- What it leaves: nothing that was there has turned; the result is the empty slice again, or the call's own from here on. -/
def App (w w' : World) (h : Nat) (v' : Value) (ys : List UInt8) : Prop := Below w.heap.size w w' ∧ ((v' = .slice (some ⟨h, 0, none⟩) 0 0 ∧ ys = []) ∨ OwnB w' w.heap.size 5 v' ys)
theorem run_append_empty (ty : TypeId) (w : World) (h : Nat) (u : Value) (ys : List UInt8) (hu : RdB w u ys) :
    ∃ v' w', (Builtin.append_ #[22, 22] ty #[.slice (some ⟨h, 0, none⟩) 0 0, u]).run Try.prog w = .ok v' w' ∧ App w w' h v' ys := by
  obtain ⟨i0, hi, hz0, hz1, hz2⟩ := info_parts Try.infoB
  have ht := Try.underlying22
  have hm : maxLen = 9223372036854775807 := by decide
  have hu0 := hu
  obtain ⟨hl, ⟨ad, c, rfl, hc1, hc2, hc⟩, hn⟩ := hu
  rcases Classical.em (ys = []) with h0 | h0
  · subst h0
    refine ⟨.slice (some ⟨h, 0, none⟩) 0 0, w, ?_, Below.refl _ _, .inl ⟨rfl, rfl⟩⟩
    rcases ad with _ | ad
    · have hc0 := hn _ _ rfl
      subst hc0
      simp [Builtin.append_, run_underlying ht, sizeOf, typeInfo, hi, Builtin.lenOf, Builtin.firstCells, run_firstCells_none, storeCells, Result.andThen]
    · have := run_append_room_cells (P := Try.prog) w 22 ty 5 i0 ht hi h 0 0 0 ad 0 c [] (by simp) (by simp) (by simp) (by omega) (by simp) (by simp)
      simpa [World.setCells] using this
  · obtain ⟨b, off, rfl, hlt, hcc⟩ := hc h0
    have hpos : 0 < ys.length := List.length_pos_iff.2 h0
    have hnews : ∀ j u, (byteCells ys)[j]? = some u → w.cell? ((⟨b, off, none⟩ : Addr).add j) = some u := by
      intro j u hj
      have hjl : j < ys.length := by
        rcases Nat.lt_or_ge j ys.length with h0 | h0
        · exact h0
        · rw [List.getElem?_eq_none (show (byteCells ys).length ≤ j by rw [byteCells_length]; exact h0)] at hj
          cases hj
      rw [add_off, hcc j hjl]
      simp [byteCells, List.getElem?_eq_getElem hjl] at hj
      rw [← hj]
      simp [List.getD, List.getElem?_eq_getElem hjl]
    have hone : ∀ u ∈ byteCells ys, u.oneCell' = true := by
      intro u hu
      simp only [byteCells, List.mem_map] at hu
      obtain ⟨y, _, rfl⟩ := hu
      rfl
    obtain ⟨v', w', hr, ho, hg, _⟩ := run_append_own (P := Try.prog) w w.heap.size 22 ty 5 i0 (.int .u8 0) 1 1 ht hi hz0 hz1 hz2 rfl (by decide) (.slice none 0 0) 0 [] (World.ownsRow_nil _ _ _ _) ⟨b, off, none⟩ ys.length c (byteCells ys) (by simp [byteCells]) hnews hone (by omega) (by omega) (Nat.le_refl _)
    have h1 := run_append_nil (P := Try.prog) w 22 ty 5 i0 (.int .u8 0) ht hi hz0 ⟨b, off, none⟩ ys.length c (byteCells ys) (by rw [hz1]; simp [byteCells]) hnews hpos (by omega) (by rw [hz2]; omega)
    have h2 := run_append_grow (P := Try.prog) w 22 ty 5 i0 (.int .u8 0) ht hi hz0 ⟨h, 0, none⟩ 0 0 [] (by simp) (by simp) ⟨b, off, none⟩ ys.length c (byteCells ys) (by rw [hz1]; simp [byteCells]) hnews (by omega) (by omega) (by rw [hz2, Nat.zero_add, nextslicecap_zero hpos]; omega)
    simp only [Nat.zero_add, List.append_nil, Array.empty_append] at h2
    rw [h1] at hr
    refine ⟨v', w', by rw [h2]; exact hr, (Below.refl _ w).grown hg (Nat.le_refl _) (fun k e => by cases e), .inr ?_⟩
    unfold OwnB
    simpa using ho
theorem wp_append_empty {w : World} {o : Oper} {a : Act} {K : Act → World → Prop} {Q : Exit → Act → World → Prop} (s x : Operand)
    (ho : o.op = .call { callee := .builtin .append, args := #[s, x], argTypes := #[22, 22] })
    (h : Nat) (ys : List UInt8) (u : Value) (hs : a.eval s = .slice (some ⟨h, 0, none⟩) 0 0) (hx : a.eval x = u) (hu : RdB w u ys)
    (hk : ∀ v' w', App w w' h v' ys → K (a.put o.dst v') w') : Oper.wp Try.prog o a w K Q := by
  obtain ⟨v', w', hr, h2⟩ := run_append_empty o.type w h u ys hu
  unfold Oper.wp
  simp only [execOp, ho, resolve, invoke, builtin, Sem.run_bind, Sem.run_pure, Result.andThen_ok, List.map_toArray, List.map_cons, List.map_nil, hs, hx, hr]
  exact hk v' w' h2
/-- The first append of 'append(append([]byte{}, l...), ..)'. -/
theorem step_append_first {w : World} {ops : Array Oper} {o : Oper} {a : Act} {K : Act → World → Prop} {Q : Exit → Act → World → Prop} {E : Prop} (hgd : o.guard = none) (s x : Operand)
    (ho : o.op = .call { callee := .builtin .append, args := #[s, x], argTypes := #[22, 22] })
    (h : Nat) (ys : List UInt8) (u : Value) (hs : a.eval s = .slice (some ⟨h, 0, none⟩) 0 0) (hx : a.eval x = u) (hu : RdB w u ys)
    (hk : ∀ v' w', App w w' h v' ys → K (a.put o.dst v') w') : if Region.wanted o (yielded ops a.tmps) = true then Oper.wp Try.prog o a w K Q else E := by
  have hw : Region.wanted o (yielded ops a.tmps) = true := by simp [Region.wanted, hgd]
  rw [if_pos hw]
  exact wp_append_empty s x ho h ys u hs hx hu hk
/-- The second one. -/
theorem step_append_second {w0 w1 w : World} {ops : Array Oper} {o : Oper} {a : Act} {K : Act → World → Prop} {Q : Exit → Act → World → Prop} {E : Prop} (hgd : o.guard = none) (s x : Operand)
    (ho : o.op = .call { callee := .builtin .append, args := #[s, x], argTypes := #[22, 22] })
    (h : Nat) (v : Value) (xs ys : List UInt8) (u : Value) (hs : a.eval s = v) (hA : App w0 w1 h v xs) (hB : Below w1.heap.size w1 w) (hx : a.eval x = u) (hu : RdB w u ys) (hl : xs.length + ys.length ≤ 100000000)
    (hk : ∀ v' w', RdB w' v' (xs ++ ys) → Below w0.heap.size w0 w' → K (a.put o.dst v') w') : if Region.wanted o (yielded ops a.tmps) = true then Oper.wp Try.prog o a w K Q else E := by
  have hw : Region.wanted o (yielded ops a.tmps) = true := by simp [Region.wanted, hgd]
  rw [if_pos hw]
  obtain ⟨i0, hi, hz0, hz1, hz2⟩ := info_parts Try.infoB
  obtain ⟨b1, h1⟩ := hA
  have b2 := st b1 hB b1.size
  have z2 := b2.size
  rcases h1 with ⟨rfl, rfl⟩ | h1
  · refine wp_append_empty s x ho h ys u hs hx hu ?_
    intro v' w' hA'
    have b3 := st b2 hA'.1 z2
    refine hk v' w' ?_ b3
    rw [List.nil_append]
    rcases hA'.2 with ⟨rfl, rfl⟩ | h3
    · exact ⟨by simp, ⟨_, 0, rfl, by simp, by omega, fun h => absurd rfl h⟩, fun n c hc => by injection hc with h1 _ _; cases h1⟩
    · exact h3.rd (by omega)
  · refine wp_append_many s x 22 ho w0.heap.size 5 i0 Try.underlying22 hi hz0 hz1 hz2 v xs ys u hs (h1.below hB) hx hu (by omega) z2 b2 ?_
    intro v' w' h3 h4
    exact hk v' w' (h3.rd (by rw [List.length_append]; omega)) h4
theorem cell_of {w : World} {m c b off k : Nat} {l : List (List UInt8)} {s : List UInt8} (h : RdT w (.slice (some ⟨b, off, none⟩) m c) l) (hk : k < l.length) (hs : l.getD k [] = s) : w.cell? ⟨b, off + k, none⟩ = some (.string (ofL s)) := by
  obtain ⟨b', off', ha, hc⟩ := h.at k hk
  cases ha
  rw [← hs]
  exact hc
theorem ownB_empty (w : World) : OwnB (w.alloc (.cells #[] 5)) w.heap.size 5 (.slice (some ⟨w.heap.size, 0, none⟩) 0 0) [] := World.ownsRow_made w #[] 0 (Nat.le_refl _) (by decide) rfl

set_option maxRecDepth 1000000 in
set_option maxHeartbeats 4000000 in
theorem packWrites_walk (a : Option Addr) (len cap : Nat) (rs : List Int) (n : Int) (a' : Option Addr) (len' cap' : Nat) (zs : List (List UInt8)) (w : World) (hr : IsRow .u8 w a len cap rs) (hn : (Lit.int .i64 n).wf = true) (hr' : IsStrs w a' len' cap' zs) :
    Calls Try.prog 3 #[.slice a len cap, .int .i64 n, .slice a' len' cap'] w fun e w' => e = .returned (.bool true) ∧ Below w.heap.size w w' := by
  show Calls _ _ _ _ (AwPost w)
  have HI := Lib.hid (i64_of_wf hn)
  obtain ⟨rfl, hlen, hv⟩ := hr'
  have HV := Lib.hid hv
  clear hn hv
  by_cases hl : 300 < len
  · clear hr
    go_enter Try.func3, Try.ntmps3
    go_wp2_with fail
    refine (awake_any _).mono ?_
    rintro e w1 ⟨rfl, b1⟩
    go_wp2_with fail
    refine (awake_any _).mono ?_
    rintro e w2 ⟨rfl, b2⟩
    have B := Lib.hid (st b1 b2 b1.size)
    clear b1 b2
    go_wp2
    go_ret
    exact ⟨rfl, B.out⟩
  by_cases hf : Few zs
  · have HF := Lib.hid hf
    obtain ⟨l, rfl, hv2⟩ := rdB_of_row hr (by omega)
    have HR := Lib.hid hv2
    have hl300 : l.length ≤ 300 := by omega
    have HQL := Lib.hid (hf.enc)
    have HEL := Lib.hid (enc_len_le n)
    have hl30 := hf.1
    obtain ⟨i0, hi, hz0, hz1, hz2⟩ := info_parts Try.infoB
    clear hf hr hv2 hl
    go_enter Try.func3, Try.ntmps3
    go_wp2_with fail
    refine (awake_any _).mono ?_
    rintro e w1 ⟨rfl, b1⟩
    have V1 := Lib.hid (HV.out.below b1)
    go_wp2_with fail
    refine (few_yes _ zs _ V1.out hlen HF.out).mono ?_
    rintro e w' ⟨rfl, m, rfl⟩
    have B2 := below_drewN b1 m
    have z2 := B2.size
    obtain ⟨w2, hw2⟩ : ∃ w2, w1.drewN m = w2 := ⟨_, rfl⟩
    rw [hw2] at B2 z2 ⊢
    have R2 := Lib.hid (HR.out.below B2)
    clear hw2 b1 V1
    go_wp2_with fail
    refine (int_any _ l n _ R2.out HI.out (by omega)).mono ?_
    rintro e x3 ⟨v3, rfl, o3, b3⟩
    have C3 := Lib.hid (st B2 b3 z2)
    have y3 := C3.out.size
    have hlen3 : (l ++ (enc n)).length ≤ 140737488355328 := by rw [List.length_append]; have := HEL.out; omega
    have D3 := Lib.hid (o3.rd hlen3)
    have E3 := Lib.hid (ownB_empty x3)
    have R3 := Lib.hid ((HR.out.below C3.out).alloc (.cells #[] 5))
    clear o3 b3 hlen3 B2 R2
    go_wp2_with (at_builtin; go_loud (refine wpList_append_many (W := x3.alloc (.cells #[] 5)) rfl _ _ 22 rfl x3.heap.size 5 i0 Try.underlying22 hi hz0 hz1 hz2 _ [] l _ rfl E3.out rfl R3.out (by simp; omega) (by simp) (Below.refl _ _) ?_))
    · intro v4 x4 o4 b4
      have B4 : Hid (Below x3.heap.size x3 x4) := Lib.hid (((Below.refl _ x3).alloc (Nat.le_refl _) _).trans b4)
      have y4 := B4.out.size
      have O4 := Lib.hid o4
      clear o4 b4 E3 R3
      go_wp2_with fail
      refine (refInt_any n _ HI.out).mono ?_
      rintro e x5 ⟨v5, rfl, o5, b5⟩
      have y5 := b5.size
      have B5 := Lib.hid (st B4.out b5 y4)
      have R5 := Lib.hid (o5.rd (by have := HEL.out; omega))
      have O5 := Lib.hid (O4.out.below b5)
      clear o5 b5 O4 B4
      go_wp2_with (at_builtin; go_loud (refine wpList_append_many rfl _ _ 22 rfl x3.heap.size 5 i0 Try.underlying22 hi hz0 hz1 hz2 _ l (enc n) _ rfl O5.out rfl R5.out (by have := HEL.out; omega) (by omega) B5.out ?_))
      · intro v6 x6 o6 b6
        have hlen6 : (l ++ (enc n)).length ≤ 140737488355328 := by rw [List.length_append]; have := HEL.out; omega
        have R6 := Lib.hid (o6.rd hlen6)
        have D6 := Lib.hid (D3.out.below b6)
        have C6 := C3.out.trans (b6.mono y3)
        clear o6 b6 O5 R5 B5 D3
        go_wp2_with fail
        refine (same_any _ _ (l ++ (enc n)) (l ++ (enc n)) _ D6.out R6.out).mono ?_
        rw [decide_eq_true rfl]
        rintro e w' ⟨rfl, mm, rfl⟩
        have BE := below_drewN C6 mm
        have zE := BE.size
        obtain ⟨wE, hwE⟩ : ∃ wE, x6.drewN mm = wE := ⟨_, rfl⟩
        rw [hwE] at BE zE ⊢
        have RE := Lib.hid (HR.out.below BE)
        have VE := Lib.hid (HV.out.below BE)
        clear hwE C6 D6 R6 C3 hlen6
        go_wp2_with fail
        refine (strings_any _ _ l zs _ RE.out VE.out (by have := HQL.out; omega)).mono ?_
        rintro e s3 ⟨v3, rfl, o3, b3⟩
        have C3 := Lib.hid (st BE b3 zE)
        have y3 := C3.out.size
        have hlen3 : (l ++ (encL zs)).length ≤ 140737488355328 := by rw [List.length_append]; have := HQL.out; omega
        have D3 := Lib.hid (o3.rd hlen3)
        have E3 := Lib.hid (ownB_empty s3)
        have R3 := Lib.hid ((HR.out.below C3.out).alloc (.cells #[] 5))
        have VR1 := Lib.hid ((HV.out.below C3.out))
        clear o3 b3 hlen3 BE RE
        go_wp2_with (at_builtin; go_loud (refine wpList_append_wanted (W := s3.alloc (.cells #[] 5)) (by rfl) _ _ 22 rfl s3.heap.size 5 i0 Try.underlying22 hi hz0 hz1 hz2 _ [] l _ rfl E3.out rfl R3.out (by simp; omega) (by simp) (Below.refl _ _) ?_))
        · intro v4 s4 o4 b4
          have B4 : Hid (Below s3.heap.size s3 s4) := Lib.hid (((Below.refl _ s3).alloc (Nat.le_refl _) _).trans b4)
          have y4 := B4.out.size
          have O4 := Lib.hid o4
          have VR2 := Lib.hid (VR1.out.below B4.out)
          clear o4 b4 E3 R3
          go_wp2_with fail
          refine (refStrings_any _ zs _ VR2.out (by have := HQL.out; omega)).mono ?_
          rintro e s5 ⟨v5, rfl, o5, b5⟩
          have y5 := b5.size
          have B5 := Lib.hid (st B4.out b5 y4)
          have R5 := Lib.hid (o5.rd (by have := HQL.out; omega))
          have O5 := Lib.hid (O4.out.below b5)
          clear o5 b5 O4 B4
          go_wp2_with (at_builtin; go_loud (refine wpList_append_wanted (by rfl) _ _ 22 rfl s3.heap.size 5 i0 Try.underlying22 hi hz0 hz1 hz2 _ l (encL zs) _ rfl O5.out rfl R5.out (by have := HQL.out; omega) (by omega) B5.out ?_))
          · intro v6 s6 o6 b6
            have hlen6 : (l ++ (encL zs)).length ≤ 140737488355328 := by rw [List.length_append]; have := HQL.out; omega
            have R6 := Lib.hid (o6.rd hlen6)
            have D6 := Lib.hid (D3.out.below b6)
            have C6 := C3.out.trans (b6.mono y3)
            clear o6 b6 O5 R5 B5 D3
            go_wp2_with fail
            refine (same_any _ _ (l ++ (encL zs)) (l ++ (encL zs)) _ D6.out R6.out).mono ?_
            rw [decide_eq_true rfl]
            rintro e w' ⟨rfl, mm, rfl⟩
            have BF := below_drewN C6 mm
            have zF := BF.size
            obtain ⟨wF, hwF⟩ : ∃ wF, s6.drewN mm = wF := ⟨_, rfl⟩
            rw [hwF] at BF zF ⊢
            have RF := Lib.hid (HR.out.below BF)
            have VF := Lib.hid (HV.out.below BF)
            clear hwF C6 D6 R6 C3 hlen6
            go_wp2
            go_loopw [7] (fun v7 wr => ∃ k : Nat, k ≤ zs.length ∧ v7 = .int .i64 k ∧ Below w.heap.size w wr) (fun v7 _ => zs.length - (intOf v7).toNat)
            case atStart => exact ⟨0, Nat.zero_le _, rfl, BF⟩
            case round =>
              obtain ⟨k, hk, rfl, hB⟩ := hrel
              have HB := Lib.hid hB
              have zr := hB.size
              clear RF VF BF
              by_cases hlt : k < zs.length
              · have VK := Lib.hid (HV.out.below hB)
                obtain ⟨bk, off, hab, hc⟩ := VK.out.at k hlt
                have hs200 := HF.out.2 k hlt
                obtain ⟨s, hs⟩ : ∃ s, zs.getD k [] = s := ⟨_, rfl⟩
                rw [hs] at hc hs200
                subst hab
                have q1 : (k : Int) < (zs.length : Int) := by omega
                have q2 : (0 : Int) ≤ (k : Int) := by omega
                have HSS := Lib.hid hs
                clear hB hs
                go_wp2_with fail
                have RW1 := Lib.hid (HR.out.below (HB.out.drew))
                have RW2 := Lib.hid (HR.out.below ((HB.out.drew).alloc zr (.cells #[] 5)))
                have BW1 := Lib.hid (HB.out.drew)
                have BW2 := Lib.hid ((HB.out.drew).alloc zr (.cells #[] 5))
                go_region_held3 (fun w' => w'.cell? ⟨bk, off + k, none⟩ = some (.string (ofL s))) (first | exact y5 | exact y4 | exact y3 | exact y2 | exact y1 | exact hc | go_keep) (first | (go_at_call 17; refine (string_any _ l s _ (by first | exact RW1.out | exact RW2.out) (by omega)).mono ?_; rintro e w13 ⟨v13, rfl, o13, b13⟩; have B13 : Hid (Below w.heap.size w w13) := Lib.hid (by first | exact st BW1.out b13 BW1.out.size | exact st BW2.out b13 BW2.out.size); have D13 := Lib.hid (o13.rd (by rw [List.length_append, encS_length]; have := enc_len_le (s.length : Int); omega)); have y1 := cell_of (HV.out.below B13.out) hlt HSS.out; clear o13 b13) | (refine step_append_first (by rfl) _ _ (by rfl) _ l _ (by rfl) (by rfl) (by first | exact HR.out.below (B13.out.alloc B13.out.size _) | exact HR.out.below B13.out) ?_; intro v14 w14 h14; have A14 := Lib.hid h14; have B14 : Hid (Below w.heap.size w w14) := Lib.hid (by first | exact st B13.out h14.1 B13.out.size | exact st (B13.out.alloc B13.out.size _) h14.1 (B13.out.alloc B13.out.size _).size); have D14 : Hid (RdB w14 v13 (l ++ encS s)) := Lib.hid (by first | exact D13.out.below h14.1 | exact (D13.out.alloc _).below h14.1); have y2 := cell_of (HV.out.below B14.out) hlt HSS.out; clear h14) | (go_at_call 18; refine (refString_any s _ (by omega)).mono ?_; rintro e w15 ⟨v15, rfl, o15, b15⟩; have B15 := Lib.hid b15; have R15 := Lib.hid (o15.rd (by rw [encS_length]; have := enc_len_le (s.length : Int); omega)); have y3 := cell_of (HV.out.below (st B14.out b15 B14.out.size)) hlt HSS.out; clear o15 b15) | (refine step_append_second (by rfl) _ _ (by rfl) _ v14 l (encS s) _ (by rfl) A14.out B15.out (by rfl) R15.out (by rw [encS_length]; have := enc_len_le (s.length : Int); omega) ?_; intro v16 w16 r16 b16; have R16 := Lib.hid r16; have B16 : Hid (Below w.heap.size w w16) := Lib.hid (by first | exact st B13.out b16 B13.out.size | exact st (B13.out.alloc B13.out.size _) b16 (B13.out.alloc B13.out.size _).size); have D16 : Hid (RdB w16 v13 (l ++ encS s)) := Lib.hid (by first | exact D13.out.below b16 | exact (D13.out.alloc _).below b16); have y4 := cell_of (HV.out.below B16.out) hlt HSS.out; clear r16 b16) | (go_at_call 12; refine (same_any _ _ (l ++ encS s) (l ++ encS s) _ D16.out R16.out).mono ?_; rw [decide_eq_true rfl]; rintro e w' ⟨rfl, m17, rfl⟩; have B17 := Lib.hid (below_drewN B16.out m17); have y5 : (w16.drewN m17).cell? ⟨bk, off + k, none⟩ = some (.string (ofL s)) := (by simpa using y4)))
                all_goals
                  go_wp2
                  go_roundw
                  case rel => exact ⟨k + 1, by omega, by go_num, B17.out⟩
                  case measure => simp [intOf]; omega
              · obtain rfl : k = zs.length := by omega
                have q3 : ¬ (zs.length : Int) < (zs.length : Int) := by omega
                clear hB hlt hk
                go_wp2
                go_ret
                exact ⟨rfl, HB.out⟩
  · have HF := Lib.hid hf
    clear hf hr
    go_enter Try.func3, Try.ntmps3
    go_wp2_with fail
    refine (awake_any _).mono ?_
    rintro e w1 ⟨rfl, b1⟩
    have V1 := Lib.hid (HV.out.below b1)
    go_wp2_with fail
    refine (few_no _ zs _ V1.out hlen HF.out).mono ?_
    rintro e w' ⟨rfl, m, rfl⟩
    have B2 := below_drewN b1 m
    go_wp2_with fail
    refine (awake_any _).mono ?_
    rintro e w2 ⟨rfl, b2⟩
    have B := Lib.hid (st B2 b2 B2.size)
    clear b1 b2 B2
    go_wp2
    go_ret
    exact ⟨rfl, B.out⟩
end Go.Proofs.Ytglllbodhdgahaa
