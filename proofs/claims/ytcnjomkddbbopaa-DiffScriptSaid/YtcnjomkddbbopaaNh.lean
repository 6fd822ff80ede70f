/- The reference's Script. -/
import Derived.Test.YtcnjomkddbbopaaNg
import Derived.Test.YtcnjomkddbbopaaNb
import Derived.Test.YtcnjomkddbbopaaMt
namespace Go.Proofs.Ytcnjomkddbbopaa
open Go.RowKit
set_option linter.unusedVariables false

/-! ### A region that draws its order, slices, and ends in one order -/
def calm2 : Op → Bool
  | .slice .. => true
  | x => calmOp x
theorem calm2_enter {P : Program} {o : Oper} (h : calm2 o.op = true) (w w' : World) (ρ : Operand → Value) (f : FuncId) (args : Array Value) : (execOp ρ o).run P w ≠ .ok (.enter f args) w' := by
  rcases Classical.em (calmOp o.op = true) with h2 | h2
  · exact calm_enter h2 w w' ρ f args
  · cases ho : o.op <;> rw [ho] at h h2 <;> first | exact absurd h h2 | skip
    case slice =>
      unfold execOp; rw [ho]
      dsimp only
      rw [Sem.run_bind]
      generalize (Instr.sliceAt _ _ _ _ _).run P w = r
      cases r <;> simp [Result.andThen]
section
variable {P : Program} {ops : Array Oper} {w : World}
theorem still_of_quiet2 {C : World → Prop} {o : Oper} {a : Act} {K : Act → Prop} (hc : calm2 o.op = true) (hC : C w) (h : o.quiet P a C K) : o.still P a w K := by
  obtain ⟨v, h1, h2⟩ := h
  have h3 := h1 w hC
  have hne : ∀ w' f args, (execOp a.eval o).run P w ≠ .ok (.enter f args) w' := fun w' f args => calm2_enter (P := P) hc w w' _ f args
  unfold Oper.quietAt at h3
  unfold Oper.still
  generalize (execOp a.eval o).run P w = r at *
  cases r with
  | ok x w' =>
    cases x <;> simp only [Oper.quietUpon] at h3 <;> simp only [Oper.stillUpon]
    case value u => exact ⟨h3.1, by rw [h3.2]; exact h2⟩
    case skip => exact ⟨h3.1, by rw [← h3.2]; exact h2⟩
    case enter f args => exact absurd rfl (hne w' f args)
  | halt x w' => simp only [Oper.quietUpon] at h3
theorem wpStill_of_quiet2 {C : World → Prop} {Q : Act → Prop} (hC : C w) : ∀ (l : List Oper) (a : Act), l.all (fun o => calm2 o.op) = true → wpQuiet P ops C Q l a → wpStill P ops w Q l a
  | [], _, _, h => h
  | o :: l, a, hc, h => by
    simp only [List.all_cons, Bool.and_eq_true] at hc
    unfold wpQuiet at h
    unfold wpStill
    split
    · rename_i hw
      simp only [hw, if_true] at h
      exact Oper.still_mono (fun a h => wpStill_of_quiet2 hC l a hc.2 h) (still_of_quiet2 hc.1 hC h)
    · rename_i hw
      simp only [hw] at h
      exact wpStill_of_quiet2 hC l _ hc.2 h
theorem region_tail2 {id : Nat} {Q : Exit → Act → World → Prop} {a : Act} {l : List Oper} (k : Nat) (hm : P.follows .mixedOrders = true) (hcalm : (l.take k).all (fun o => calm2 o.op) = true) (hB : Region.lexTailB .any l.toArray k = true)
    (h : wpQuiet P l.toArray (fun w' => ∃ n, w' = w.drewN n) (fun a' => wpList P l.toArray Q (l.drop k) a' (w.drewN 1)) (l.take k) a) : (Code.region id l.toArray true).wp P Q a w :=
  wp_region_still_tail k hm hB (wpStill_of_quiet2 (w := w.drewN 1) ⟨1, rfl⟩ _ _ hcalm h)
end
theorem tag_one (a : List Str) (p : Nat) (h : p < a.length) : tag 1 ((a.take (p + 1)).drop p) = [(1, a[p])] := by
  have e : (a.take (p + 1)).drop p = [a[p]] := by
    rw [List.take_succ_eq_append_getElem h, List.drop_append_of_le_length (by rw [List.length_take]; omega), List.drop_eq_nil_iff.2 (by rw [List.length_take]; omega)]
    rfl
  rw [e]
  rfl
set_option maxRecDepth 1000000 in
set_option maxHeartbeats 2000000 in
theorem refScript_any (va vb : Value) (a b : List Str) (w : World) (ha : Rd 1 encT w va a) (hb : Rd 1 encT w vb b) (hla : a.length ≤ 200) (hlb : b.length ≤ 200) :
    Calls Try.prog 19 #[va, vb] w fun e w' => ∃ v, e = .returned v ∧ Own1 2 encE w' w.heap.size 59 v (scr a b) ∧ Below w.heap.size w w' := by
  obtain ⟨aa, ca, rfl, hca, hca2⟩ := ha.slice
  obtain ⟨ab, cb, rfl, hcb, hcb2⟩ := hb.slice
  obtain ⟨iS, hiS, hzS, hkS, hbS⟩ := info_parts Try.infoT
  obtain ⟨iI, hiI, hzI, hkI, hbI⟩ := info_parts Try.infoEr
  have HA := Lib.hid ha
  have HB := Lib.hid hb
  have HAO := Lib.hid (rd_lt ha)
  have HBO := Lib.hid (rd_lt hb)
  clear ha hb hca hca2 hcb hcb2
  go_enter Try.func19, Try.ntmps19
  go_wp2_with fail
  refine (refCommon_any _ _ a b _ HA.out HB.out hla hlb).mono ?_
  rintro e w1 ⟨v, rfl, ov, b1⟩
  have A1 := Lib.hid (HA.out.below b1)
  have B1 := Lib.hid (HB.out.below b1)
  have HB1 := Lib.hid b1
  have z1 := b1.size
  have RL := Lib.hid (ov.rd encP_len)
  have HLO := Lib.hid ov.lt_
  obtain ⟨al, cl, hv⟩ := ov.slice
  subst hv
  have HGO := Lib.hid (goes_comm a b _ 0 0 rfl)
  have HSC : Hid (scr a b = scrF a b 0 0 (comm a b 0 0)) := Lib.hid rfl
  have hll := comm0_length a b
  have hlb2 := lcs_le_right a b
  obtain ⟨L, hL⟩ : ∃ L, comm a b 0 0 = L := ⟨_, rfl⟩
  rw [hL] at RL HLO HGO HSC hll ⊢
  have hL2 : L.length ≤ 200 := by omega
  clear ov b1 hL hll hlb2
  go_wp2
  go_loopw [5, 6, 7, 9] (fun v5 v6 v7 v9 wr => ∃ (x i j : Nat) (P : List Ed), x ≤ L.length ∧ v9 = .int .i64 x ∧ v6 = .int .i64 i ∧ v7 = .int .i64 j ∧ i ≤ a.length ∧ j ≤ b.length ∧ Goes a b i j (L.drop x) ∧ Own1 2 encE wr w1.heap.size 59 v5 P ∧ P ++ scrF a b i j (L.drop x) = scr a b ∧ P.length ≤ x * 500 ∧ Below w1.heap.size w1 wr) (fun _ _ _ v9 _ => L.length - (intOf v9).toNat)
  case atStart => exact ⟨0, 0, 0, [], Nat.zero_le _, rfl, rfl, rfl, Nat.zero_le _, Nat.zero_le _, HGO.out, own1_nil _ _ _, HSC.out.symm, Nat.zero_le _, Below.refl _ _⟩
  case round =>
    obtain ⟨x, i, j, P, hx, rfl, rfl, rfl, hi, hj, hgo, hown, hP, hPl, hbw⟩ := hrel
    have HP := Lib.hid hP
    have HO := Lib.hid hown
    have HBW := Lib.hid hbw
    have zr := hbw.size
    obtain ⟨av, cv, hav⟩ := hown.slice
    obtain ⟨n, hn⟩ : ∃ n, P.length = n := ⟨_, rfl⟩
    rw [hn] at hav hPl
    subst hav
    have HN := Lib.hid hn
    have AW := HA.out.below (st HB1.out hbw z1)
    have BW := HB.out.below (st HB1.out hbw z1)
    by_cases hlt : x < L.length
    · have h3 : (x : Int) < (L.length : Int) := by omega
      have HD := Lib.hid (List.drop_eq_getElem_cons hlt)
      obtain ⟨bl, ol, e0, c0, c1⟩ := (RL.out.below hbw).pair x hlt
      cases e0
      obtain ⟨p, hp⟩ : ∃ p, L[x] = p := ⟨_, rfl⟩
      rw [hp] at c0 c1 HD
      obtain ⟨p1, p2⟩ := p
      dsimp only at c0 c1
      have HGH := Lib.hid (goes_head (show Goes a b i j ((p1, p2) :: L.drop (x + 1)) by rw [← HD.out]; exact hgo))
      obtain ⟨g1, g2, g3, g4, _⟩ := HGH.out
      have HP2 : Hid (P ++ (tag 2 ((a.take p1).drop i) ++ tag 3 ((b.take p2).drop j) ++ [(1, a[p1])] ++ scrF a b (p1 + 1) (p2 + 1) (L.drop (x + 1))) = scr a b) := Lib.hid (by rw [← HP.out, HD.out, scrF_cons, tag_one a p1 g3])
      obtain ⟨t1, d1, r1, o1, s1, s1'⟩ := AW.mid_ (P := Try.prog) (T := 22) rfl hiS hkS i p1 g1 (by omega)
      obtain ⟨t2, d2, r2, o2, s2, s2'⟩ := BW.mid_ (P := Try.prog) (T := 22) rfl hiS hkS j p2 g2 (by omega)
      have lt1 := tag_len 2 ((a.take p1).drop i)
      have lt2 := tag_len 3 ((b.take p2).drop j)
      rw [List.length_drop, List.length_take] at lt1 lt2
      have bd := below_drewN (Below.refl wr.heap.size wr) 1
      have F1 := Lib.hid (parts_any _ _ _ P ((a.take p1).drop i) ((b.take p2).drop j) w1.heap.size (wr.drewN 1) (HO.out.below bd) (r1.below bd) (r2.below bd) zr
        (fun h0 y hy => by have := HAO.out (fun e => h0 (by rw [e]; simp)) y (o1 y hy); omega) (fun h0 y hy => by have := HBO.out (fun e => h0 (by rw [e]; simp)) y (o2 y hy); omega) (by rw [hn]; omega) (by rw [List.length_drop, List.length_take]; omega) (by rw [List.length_drop, List.length_take]; omega))
      have HPX := Lib.hid hp
      clear r1 r2 o1 o2 hgo hP hown hbw hp hn AW BW bd
      go_wp2_with fail
      refine region_tail2 17 (by kernel_rfl) (by decide +kernel) (by decide +kernel) ?_
      simp only [List.take_succ_cons, List.take_zero, List.drop_succ_cons, List.drop_zero]
      repeat (go_big_quiet_step (fail))
      refine wpQuiet_nil ?_
      go_wp2_with fail
      refine F1.out.mono ?_
      rintro e w2 ⟨v2, rfl, ow2, b2⟩
      have BW2 := Lib.hid (HBW.out.trans ((below_drewN (Below.refl _ wr) 1).trans b2))
      obtain ⟨av2, cv2, hav2⟩ := ow2.slice
      obtain ⟨P2, hP2⟩ : ∃ P2, P ++ ((a.take p1).drop i).map (fun u => ((2 : Int), u)) ++ ((b.take p2).drop j).map (fun u => ((3 : Int), u)) = P2 := ⟨_, rfl⟩
      have HP3 : Hid (P2 ++ [(1, a[p1])] ++ scrF a b (p1 + 1) (p2 + 1) (L.drop (x + 1)) = scr a b) := Lib.hid (by rw [← hP2, ← HP2.out]; unfold tag; simp only [List.append_assoc])
      have hP2l : P2.length ≤ n + 400 := by
        rw [← hP2, List.length_append, List.length_append]
        unfold tag at lt1 lt2
        rw [lt1, lt2, HN.out]
        omega
      rw [hP2] at ow2 hav2
      have OW2 := Lib.hid ow2
      obtain ⟨n2, hn2⟩ : ∃ n2, P2.length = n2 := ⟨_, rfl⟩
      rw [hn2] at hav2 hP2l
      subst hav2
      have HN2 := Lib.hid hn2
      have z2 := BW2.out.size
      obtain ⟨_, _, e0, x0, x1⟩ := (RL.out.below BW2.out).pair x hlt
      cases e0
      rw [HPX.out] at x0 x1
      dsimp only at x0 x1
      obtain ⟨ba, oa, e1, x2⟩ := (HA.out.below (st HB1.out BW2.out z1)).str p1 g3
      subst e1
      obtain ⟨t, ht⟩ : ∃ t, a[p1] = t := ⟨_, rfl⟩
      rw [ht] at x2 HP3
      have q1 : (p1 : Int) < (a.length : Int) := by omega
      clear ow2 b2 c0 c1 s1 s1' s2 s2' lt1 lt2 hn2 F1 hP2 ht HP2
      go_wp2_with (first | (at_builtin; refine wpList_append_at (w0 := w2) (x := ((1 : Int), t)) (N := w2.heap.size) rfl rfl _ _ 30 rfl w1.heap.size iI _ 24 Try.underlying30 hiI hzI hkI hbI (by omega) rfl (by omega) encE_len encE_one _ P2 rfl rfl OW2.out rfl (by rw [HN2.out]; omega) z2 ?_; intro v9 w9 y1 y2 y3) | go_in)
      have HY1 := Lib.hid y1
      have BW9 := Lib.hid (BW2.out.trans y2)
      clear y1 y2 y3 x2
      obtain ⟨_, _, e0, c0, c1⟩ := (RL.out.below BW9.out).pair x hlt
      cases e0
      rw [HPX.out] at c0 c1
      dsimp only at c0 c1
      clear x0 x1
      go_wp2_with fail
      go_big_quiet (fail)
      have HY2 := Lib.hid (HY1.out.below (below_drewN (Below.refl w9.heap.size w9) nq))
      have BWA := Lib.hid (below_drewN BW9.out nq)
      clear c0 c1
      go_wp2
      go_roundw
      case measure => simp [intOf]; omega
      case rel => exact ⟨x + 1, p1 + 1, p2 + 1, _, by omega, by go_num, by go_num, by go_num, by omega, by omega, HGH.out.2.2.2.2, HY2.out, HP3.out, by rw [List.length_append, List.length_singleton, HN2.out]; omega, BWA.out⟩
    · obtain rfl : x = L.length := by omega
      have h3 : ¬ (L.length : Int) < (L.length : Int) := by omega
      have HP2 : Hid (P ++ tag 2 (a.drop i) ++ tag 3 (b.drop j) = scr a b) := Lib.hid (by rw [← HP.out, List.drop_length, scrF_nil, List.append_assoc])
      obtain ⟨t1, d1, r1, o1, s1, s1'⟩ := AW.tail_ (P := Try.prog) (T := 22) rfl hiS hkS i hi
      obtain ⟨t2, d2, r2, o2, s2, s2'⟩ := BW.tail_ (P := Try.prog) (T := 22) rfl hiS hkS j hj
      have bd := below_drewN (Below.refl wr.heap.size wr) 1
      have F1 := Lib.hid (parts_any _ _ _ P (a.drop i) (b.drop j) w1.heap.size (wr.drewN 1) (HO.out.below bd) (r1.below bd) (r2.below bd) zr
        (fun h0 y hy => by have := HAO.out (fun e => h0 (by rw [e]; simp)) y (o1 y hy); omega) (fun h0 y hy => by have := HBO.out (fun e => h0 (by rw [e]; simp)) y (o2 y hy); omega) (by rw [hn]; omega) (by rw [List.length_drop]; omega) (by rw [List.length_drop]; omega))
      clear r1 r2 o1 o2 hgo hP hown hbw hn AW BW bd
      go_wp2_with fail
      refine region_tail2 7 (by kernel_rfl) (by decide +kernel) (by decide +kernel) ?_
      simp only [List.take_succ_cons, List.take_zero, List.drop_succ_cons, List.drop_zero]
      repeat (go_big_quiet_step (fail))
      refine wpQuiet_nil ?_
      go_wp2_with fail
      refine F1.out.mono ?_
      rintro e w2 ⟨v2, rfl, ow2, b2⟩
      have BW2 := Lib.hid (HBW.out.trans ((below_drewN (Below.refl _ wr) 1).trans b2))
      have OW2 : Hid (Own1 2 encE w2 w1.heap.size 59 v2 (scr a b)) := Lib.hid (by rw [← HP2.out]; exact ow2)
      clear ow2 b2 F1
      go_wp2
      go_ret
      exact ⟨_, rfl, OW2.out.base z1, st HB1.out BW2.out z1⟩
end Go.Proofs.Ytcnjomkddbbopaa
