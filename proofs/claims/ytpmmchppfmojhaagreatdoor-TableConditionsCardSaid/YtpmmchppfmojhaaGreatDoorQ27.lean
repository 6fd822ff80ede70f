/- What the row stands on, part 27. -/
import Derived.Deep.WholeRow
import Derived.Deep.MidRow
import Derived.Test.YtpmmchppfmojhaaGreatDoorQ26

/- Of the program's table package: Parse. -/
namespace Go.Proofs.YtpmmchppfmojhaaGreatDoor
open Go.RowKit
set_option linter.unusedVariables false

section
variable {P : Program} {op : Oper} {a : Act} {w : World} {Q : Exit → Act → World → Prop} {ops : Array Oper} {rest : List Oper}
theorem wp_store_new {K : Act → World → Prop} (ty : TypeId) (x y : Operand) (ho : op.op = .store ty x y) (c c' : Array Value) (hx : a.eval x = .pointer (some ⟨w.heap.size, 0, none⟩)) (hy : a.eval y = .agg c') (hi : (P.info? ty).map (·.size) = some c'.size) (hc : c.size = c'.size) (h1 : c'.all (·.oneCell') = true)
    (h : K (a.put op.dst undef) (w.alloc (.cells c' ty))) : op.wp P a (w.alloc (.cells c ty)) K Q := by
  unfold Oper.wp execOp
  simp only [ho, hx, hy, Instr.storeAt, Instr.sureAddr, Sem.run_bind, Sem.run_pure, Result.andThen_ok, run_storeVar_new w ty c c' hi hc h1]
  exact h
/-- A new block is written whole. -/
theorem wpList_store_new (hgd : op.guard = none) (ty : TypeId) (x y : Operand) (ho : op.op = .store ty x y) (c c' : Array Value) (hx : a.eval x = .pointer (some ⟨w.heap.size, 0, none⟩)) (hy : a.eval y = .agg c') (hi : (P.info? ty).map (·.size) = some c'.size) (hc : c.size = c'.size) (h1 : c'.all (·.oneCell') = true)
    (h : wpList P ops Q rest (a.put op.dst undef) (w.alloc (.cells c' ty))) : wpList P ops Q (op :: rest) a (w.alloc (.cells c ty)) :=
  wpList_plain hgd fun _ hK => wp_store_new ty x y ho c c' hx hy hi hc h1 (hK _ _ h)
end
theorem EnvOf8.laterZ {w w' : World} (h : EnvOf8 w) (hb : Below w.heap.size w w') : EnvOf8 w' := ⟨Joins.tab_stays gPow h.pow hb (Nat.le_refl _), (h.cells hb).1, (h.cells hb).2⟩
theorem env_of8 {w : World} (h : EnvOf8 w) : Env w := ⟨h.pow, h.serr⟩
theorem res_TParse {W : World} {tm : Array Value} {B : Nat} {t : TypeId} {a b c v u : Value} (t2 : tm[2]?.getD undef = .pointer (some ⟨B, 0, none⟩)) (t3 : tm[3]?.getD undef = v) (t4 : tm[4]?.getD undef = u) (h : Blk B t #[a, b, c] W) :
    (results Tryz.f18 tm).run Tryz.prog W = .ok (.tuple #[.agg #[a, b, c], v, u]) W := by
  have a0 : W.cell? ⟨B, 0, none⟩ = some a := h.cell 0
  have a1 : W.cell? ⟨B, 1, none⟩ = some b := h.cell 1
  have a2 : W.cell? ⟨B, 2, none⟩ = some c := h.cell 2
  simp [results, Tryz.f18, go_sem, t2, t3, t4, a0, a1, a2]
theorem pcells_one (m : PMem) : (pcells m).all (·.oneCell') = true := by
  unfold pcells
  refine Go.all_oneCell_toArray (fun v hv => ?_)
  simp only [List.mem_cons, List.not_mem_nil, or_false] at hv
  rcases hv with rfl | rfl | rfl | rfl | rfl | rfl | rfl | rfl | rfl | rfl | rfl | rfl | rfl | rfl | rfl | rfl | rfl | rfl | rfl | rfl | rfl | rfl <;> rfl
theorem pcells_info (m : PMem) : (Tryz.prog.info? 86).map (·.size) = some (pcells m).size := by kernel_rfl
def m00 (a : Option Addr) (n c : Nat) : PMem := ⟨⟨a, n, c⟩, ⟨none, 0, 0⟩, ⟨none, 0, 0⟩, ⟨none, 0, 0⟩, raw0 [], 0, 0⟩
/-- The result's variable is written. -/
theorem put_res {R : Nat} {T : TypeId} {a b c a' b' c' : Value} {W : World} (h : Blk R T #[a, b, c] W) : Blk R T #[a', b', c'] (((W.setCell ⟨R, 0, none⟩ a').setCell ⟨R, 1, none⟩ b').setCell ⟨R, 2, none⟩ c') ∧ But R W (((W.setCell ⟨R, 0, none⟩ a').setCell ⟨R, 1, none⟩ b').setCell ⟨R, 2, none⟩ c') :=
  ⟨((h.put 0 a').put 1 b').put 2 c', ((But.setCell R W 0 a').trans (But.setCell R _ 1 b')).trans (But.setCell R _ 2 c')⟩
theorem start_pt {w : World} {a : Option Addr} {c : Nat} {l : List Tok} {e : Tok} {base : Nat} (ho : Own1 3 encTk w base 84 (.slice a (l.length + 1) c) (l ++ [e])) (h1 : e.kd = 0) (h2 : e.tx = []) (hb : ∀ z ∈ l, z.tx.length ≤ 300000) : ∃ B0, PT w.heap.size B0 (m00 a (l.length + 1) c) true (l.map (fun t => (t.kd, t.tx))) tab0 (w.alloc (.cells (pcells (m00 a (l.length + 1) c)) 86)) := by
  have ba := (Below.refl _ w).alloc (Nat.le_refl _) (.cells (pcells (m00 a (l.length + 1) c)) 86)
  have hty := ho.ty
  have hrd := ho.rd encTk_len
  obtain ⟨b, off, rfl, hlt, _⟩ := hrd.some_ 0 (by simp)
  obtain ⟨cs, hc⟩ := hty b rfl
  refine ⟨b, ⟨Blk.new w _ _, ⟨⟨l ++ [e], hrd.below ba, by rw [List.map_append, List.map_singleton, h1, h2], fun z hz => ?_⟩, ⟨off, rfl⟩, cs, Blk.below hc ba⟩, by simp [m00]⟩, ⟨⟨[], own1_nil _ _ _, rfl, fun i h _ => by simp at h⟩, own1_nil _ _ _, own1_nil _ _ _⟩, ⟨Nat.zero_le _, Nat.zero_le _, Nat.zero_le _⟩⟩
  rcases List.mem_append.1 hz with h | h
  · exact hb z h
  · rw [List.mem_singleton] at h
    rw [h, h2]
    exact Nat.zero_le _
theorem end_tab {g B0 R : Nat} {m : PMem} {ok : Bool} {ts : List KT} {t : Tab} {w w' : World} (h : PT g B0 m ok ts t w) (hb : But R w w') (hR : R < g) : RdTab w' (.slice m.lo.a m.lo.n m.lo.c) (.slice m.al.a m.al.n m.al.c) (.slice m.ne.a m.ne.n m.ne.c) t := by
  obtain ⟨raws, o1, o2, o3⟩ := h.p0.lo
  exact ⟨⟨raws, (own_but o1 hb (by omega)).rd encLo_len, o2, fun i a b => o3 i a b w' (Fw.of_but hb (.inl hR))⟩, (own_but h.p0.al hb (by omega)).rd encDu_len, (own_but h.p0.ne hb (by omega)).rd encNe_len⟩
end Go.Proofs.YtpmmchppfmojhaaGreatDoor


/- The region of the law TableParts that makes `both`, in whatever order. (Written by wip/gen/gen12_boo.py.) -/
namespace Go.Proofs.YtpmmchppfmojhaaGreatDoor
open Go.RowKit
set_option linter.unusedVariables false

section
variable {α : Type} {k : Nat} {enc : α → List Value}
variable {P : Program} {ops : Array Oper} {o : Oper} {a : Act} {K : Act → World → Prop} {Q : Exit → Act → World → Prop} {E : Prop}
/-- How far one of the lists is: not made, made, with the first, with both. -/
def Ch (k : Nat) (enc : α → List Value) (ty : TypeId) (N : Nat) (l r : List α) : Nat → Value → Value → Value → World → Prop
  | 0, _, _, _, _ => True
  | 1, x, _, _, w => Own1 k enc w N ty x []
  | 2, _, y, _, w => Own1 k enc w N ty y l
  | _ + 3, _, _, z, w => Own1 k enc w N ty z (l ++ r)
theorem Ch.below {ty : TypeId} {N : Nat} {l r : List α} {c : Nat} {x y z : Value} {w w' : World} (h : Ch k enc ty N l r c x y z w) (hb : Below w.heap.size w w') : Ch k enc ty N l r c x y z w' := by
  rcases c with _ | _ | _ | c
  · trivial
  · exact Own1.below h hb
  · exact Own1.below h hb
  · exact Own1.below h hb
theorem Ch.grown {β : Type} {k' : Nat} {enc' : β → List Value} {ty ty' : TypeId} {N N' : Nat} {l r : List α} {l' : List β} {c : Nat} {x y z v : Value} {w w' : World} (h : Ch k enc ty N l r c x y z w) (hv : Own1 k' enc' w N' ty' v l') (hg : w.grownBy w' v.ownBlock) (hne : ty ≠ ty') : Ch k enc ty N l r c x y z w' := by
  rcases c with _ | _ | _ | c
  · trivial
  · exact Own1.fw h (Fw.of_grown hg) (fun b hb hs => Own1.apart h hv hne b hb hs)
  · exact Own1.fw h (Fw.of_grown hg) (fun b hb hs => Own1.apart h hv hne b hb hs)
  · exact Own1.fw h (Fw.of_grown hg) (fun b hb hs => Own1.apart h hv hne b hb hs)
end
/-- What is known while `both` is made. -/
structure BoJ (W0 : World) (l1 l2 : List RawLo) (m1 m2 : List (Str × Str)) (n1 n2 : List Nea) (c1 c2 c3 e d : Nat) (x1 x2 x3 y1 y2 y3 z1 z2 z3 b p : Value) (w : World) : Prop where
  bl : Below W0.heap.size W0 w
  f1 : Ch 16 encLo 51 W0.heap.size l1 l2 c1 x1 x2 x3 w
  f2 : Ch 2 encDu 61 W0.heap.size m1 m2 c2 y1 y2 y3 w
  f3 : Ch 3 encNe 36 W0.heap.size n1 n2 c3 z1 z2 z3 w
  fe : e = 1 → c1 = 3 ∧ c2 = 3 ∧ c3 = 3 ∧ b = .agg #[x3, y3, z3]
  fd : d = 1 → ∃ g, p = .pointer (some ⟨g, 0, none⟩) ∧ W0.heap.size ≤ g ∧ Blk g 27 #[.slice none 0 0, .slice none 0 0, .slice none 0 0] w
section
variable {W0 : World} {l1 l2 : List RawLo} {m1 m2 : List (Str × Str)} {n1 n2 : List Nea} {c1 c2 c3 e d : Nat} {x1 x2 x3 y1 y2 y3 z1 z2 z3 b p : Value} {w : World}
theorem BoJ.place (h : BoJ W0 l1 l2 m1 m2 n1 n2 c1 c2 c3 e 0 x1 x2 x3 y1 y2 y3 z1 z2 z3 b p w) : BoJ W0 l1 l2 m1 m2 n1 n2 c1 c2 c3 e 1 x1 x2 x3 y1 y2 y3 z1 z2 z3 b (.pointer (some ⟨w.heap.size, 0, none⟩)) (w.alloc (.cells #[.slice none 0 0, .slice none 0 0, .slice none 0 0] 27)) :=
  ⟨h.bl.alloc h.bl.size _, h.f1.below ((Below.refl _ _).alloc (Nat.le_refl _) _), h.f2.below ((Below.refl _ _).alloc (Nat.le_refl _) _), h.f3.below ((Below.refl _ _).alloc (Nat.le_refl _) _), h.fe, fun _ => ⟨_, rfl, h.bl.size, Blk.new w _ _⟩⟩
end
end Go.Proofs.YtpmmchppfmojhaaGreatDoor


/- Of the program's table parser: Parse of the laws' example, told alone. -/
namespace Go.Proofs.YtpmmchppfmojhaaGreatDoor
open Go.RowKit
set_option linter.unusedVariables false

set_option maxRecDepth 1000000 in
set_option maxHeartbeats 8000000 in
theorem statement_a {σ : Type} (g B0 : Nat) (C : Cx σ g B0) (L : List (Str × Nat)) (body : Str × Nat → σ → Ts → Option (σ × Ts)) (hL : L.length ≤ 100)
    (v : Value) (q : Bool × List KT) (s : σ) (m : PMem) (w : World) (hM : ∀ c ∈ L, isS 1 c.1 q.2 = true → ((∀ args w, (callFunc c.2 args).run Tryz.prog w = .ok (.enter c.2 args) w) ∧ ∀ q s m w, C.F q s m w → Calls Tryz.prog c.2 #[.pointer (some ⟨g, 0, none⟩)] w (ItG C (body c) q s w))) (h : C.F q s m w) (hv : ChR w v L) :
    Calls Tryz.prog 105 #[.pointer (some ⟨g, 0, none⟩), v] w (StG C (stmtG L body) q s w) := by
  have hg := (C.pl h).blk.lt
  have K0 := Lib.hid ((Below.refl w.heap.size w).alloc (Nat.le_refl _) (.cells #[.pointer (some ⟨g, 0, none⟩)] 157))
  have KP := Lib.hid (Blk.new w 157 #[.pointer (some ⟨g, 0, none⟩)])
  have H0 := Lib.hid (C.below h K0.out)
  have V0 := Lib.hid (hv.kt (KT1.below K0.out))
  obtain ⟨W0, hW0⟩ : ∃ W0, w.alloc (.cells #[.pointer (some ⟨g, 0, none⟩)] 157) = W0 := ⟨_, rfl⟩
  have HW0 := Lib.hid hW0
  obtain ⟨P, hP⟩ : ∃ P, w.heap.size = P := ⟨_, rfl⟩
  have HP := Lib.hid hP
  rw [hW0] at K0 KP H0 V0
  rw [hP] at KP K0
  have hPg : P ≠ g := by omega
  obtain ⟨off, fr, c0, hn, t0, t1, t2, _, cf⟩ := (C.pl H0.out).facts
  have cp : W0.cell? ⟨P, 0, none⟩ = some (.pointer (some ⟨g, 0, none⟩)) := KP.out.cell 0
  obtain ⟨rv, D, doff, dcs, dn, dc, rfl, dk⟩ := V0.out
  have HIX : Hid (∀ lb, lb = #[.pointer (some ⟨P, 0, none⟩)] → Calls Tryz.prog 161 #[.slice (some ⟨D, doff, none⟩) dn dc, .func (.func 162) #[] lb] W0 fun e w' => (∃ r : Int, e = .returned (.int .i64 r) ∧ IdxP L (fun c => isS 1 c.1 q.2) r) ∧ Below W0.heap.size W0 w') := Lib.hid (fun lb hlb => by
    subst hlb
    exact indexSt_any _ L (fun c => isS 1 c.1 q.2) 162 _ (enters_of Tryz.func162 (by kernel_rfl) rfl) W0 rv (fun W s hs hb => statement1_z g B0 P m q.1 q.2 s W ((C.pl H0.out).below hb) (Blk.below KP.out hb)))
  have hdn : L.length = dn := rv.len
  have HM := Lib.hid hM
  have HG := Lib.hid hg
  clear h hv hW0 hP hg cf t0 t1 dk rv hM
  go_enter Tryz.func105, Tryz.ntmps105
  go_upto_region 1 with fail
  rw [HW0.out, HP.out]
  go_wp2_with fail
  refine (HIX.out _ rfl).mono ?_
  rintro e w1 ⟨⟨r, rfl, hr⟩, b1⟩
  have B1 := Lib.hid b1
  have H1 := Lib.hid (C.below H0.out b1)
  have V1 := Lib.hid (V0.out.kt (KT1.below b1))
  have KP1 := Lib.hid (Blk.below KP.out b1)
  have HR := Lib.hid hr
  clear b1 hr c0 hn t2 cp HIX
  have cp : w1.cell? ⟨P, 0, none⟩ = some (.pointer (some ⟨g, 0, none⟩)) := KP1.out.cell 0
  rcases HR.out with ⟨i, hi, rfl, hq1, hq2⟩ | ⟨rfl, hno⟩
  · have n1 : decide ((i : Int) < 0) = false := decide_eq_false (by omega)
    have HN : Hid (q.1 = true → q.2 ≠ []) := Lib.hid (fun _ e => by
      have : isS 1 L[i].1 q.2 = true := hq1
      rw [e] at this
      unfold isS at this
      simp [hdK] at this)
    obtain ⟨c, hc⟩ : ∃ c, L[i]'hi = c := ⟨_, rfl⟩
    have HST : Hid (∀ s : σ, stmtG L body s q.2 = body c s q.2.tail) := Lib.hid (fun s => by rw [← hc]; exact stmt_hit hi hq1 hq2)
    have HIS : Hid (isS 1 c.1 q.2 = true) := Lib.hid (by rw [← hc]; exact hq1)
    have HCC := Lib.hid hc
    clear hc
    have HI := Lib.hid hi
    clear hq1 hq2
    go_wp2_with fail
    refine (next_z g B0 m q.1 q.2 HN.out _ (C.pl H1.out)).mono ?_
    rintro e w2 ⟨rfl, hq⟩
    obtain ⟨q2, hq2⟩ : ∃ q' : Bool × List KT, q' = nxS q := ⟨_, rfl⟩
    have HQ2 := Lib.hid hq2
    obtain ⟨m2, hs2, hf2, hb2⟩ := C.read H1.out (q' := q2) (by rw [hq2]; exact hq) (fun h => by
      rw [hq2] at h
      unfold nxS at h
      split at h
      · rename_i hh; exact hh
      · exact h)
    have H2 := Lib.hid hf2
    have B2 := Lib.hid hb2
    have KP2 := Lib.hid (KP1.out.but hb2 hPg)
    have V2 := Lib.hid (V1.out.kt (KT1.but hb2 (C.pl H1.out).blk (by decide)))
    have hc := HCC.out
    have hcL : c ∈ L := by rw [← hc]; exact List.getElem_mem hi
    obtain ⟨rv2, _⟩ := V2.out
    have x1' : w2.cell? ⟨D, doff + i * 2 + 1, none⟩ = some (.func (.func c.2) #[] #[]) := by rw [← hc]; exact rv2.at_ i hi 1 _ rfl
    have cp2 : w2.cell? ⟨P, 0, none⟩ = some (.pointer (some ⟨g, 0, none⟩)) := KP2.out.cell 0
    obtain ⟨eg, hM2⟩ := HM.out c hcL HIS.out
    have HIT := Lib.hid (fun wx (hb : Below w2.heap.size w2 wx) => hM2 q2 s m2 wx (C.below H2.out hb))
    have h9 : (i : Int) < (dn : Int) := by omega
    obtain ⟨n0, hn0⟩ : ∃ n0, c.2 = n0 := ⟨_, rfl⟩
    rw [hn0] at x1' eg HIT
    have HSS : Hid (∀ wx, KT1 w2 wx → wx.cell? ⟨P, 0, none⟩ = some (.pointer (some ⟨g, 0, none⟩)) ∧ wx.cell? ⟨D, doff + i * 2 + 1, none⟩ = some (.func (.func n0) #[] #[])) := Lib.hid (fun wx hk => by
      refine ⟨Blk.cell (hk P _ _ (by simp [KTl]) KP2.out) 0, ?_⟩
      obtain ⟨rv3, _⟩ := V2.out.kt hk
      rw [← hn0, ← hc]
      exact rv3.at_ i hi 1 _ rfl)
    have HS2 := Lib.hid (HSS.out _ (KT1.below (below_drewN (Below.refl _ w2) 1)))
    clear hq hq2 hs2 hf2 hb2 cp hc hn0 rv2 hM2 hcL hdn
    go_upto_region 6 with fail
    go_region_held3 (fun wx => wx.cell? ⟨P, 0, none⟩ = some (.pointer (some ⟨g, 0, none⟩)) ∧ wx.cell? ⟨D, doff + i * 2 + 1, none⟩ = some (.func (.func n0) #[] #[])) (first | exact HS4.out | exact HS3.out | exact HS2.out) (first
      | (go_at_fn n0; refine (HIT.out _ (below_drewN (Below.refl _ _) 1)).mono ?_; rintro e w3 ⟨er, m3, q3, s3, rfl, hf3, hb3, hk3, hz3, hs3⟩; have H3 := Lib.hid hf3; have B3 := Lib.hid hb3; have KK3 := Lib.hid ((KT1.below (below_drewN (Below.refl _ w2) 1)).trans hk3); have Z3 := Lib.hid hz3; have S3 := Lib.hid hs3; have HS3 := Lib.hid (HSS.out _ KK3.out); clear hf3 hb3 hk3 hz3 hs3)
      | (go_at_call 164; refine (fail_z g B0 m3 q3.1 q3.2 fr er _ (C.pl H3.out)).mono ?_; rintro e w4 ⟨rfl, hq4⟩; have Q4 := Lib.hid hq4; have HS4 := Lib.hid (HSS.out _ (KK3.out.trans (by obtain ⟨_, _, _, hb⟩ := hq4; exact KT1.but hb (C.pl H3.out).blk (by decide)))); clear hq4))
    all_goals go_wp2
    all_goals go_end0
    all_goals
      obtain ⟨m4, _, hf4, hb4⟩ := C.read H3.out (q' := reqS (er == 0) q3) Q4.out (fun h => t_of (fun h => req_f _ h) h)
      have g1 := HG.out
      have g2 := HP.out
      have b0 : Below g w w1 := (K0.out.mono (by omega)).trans (B1.out.mono (by have := K0.out.size; omega))
      have b2 : Below g w w2 := b0.trans (B2.out.below (Nat.le_refl _) (by have := b0.size; omega))
      have b3 : Below g w w3 := (b2.trans (below_drewN (Below.refl _ w2) 1)).trans B3.out
      have b4 : Below g w w4 := b3.trans (hb4.below (Nat.le_refl _) (by have := b3.size; omega))
      have k4 : KT1 w w4 := (((KT1.below (by rw [HP.out]; exact K0.out)).trans (KT1.below B1.out)).trans (KT1.but B2.out (C.pl H1.out).blk (by decide))).trans (KK3.out.trans (KT1.but hb4 (C.pl H3.out).blk (by decide)))
      refine ⟨rfl, m4, reqS (er == 0) q3, s3, hf4, b4, k4, fun e => ?_, fun e => ?_⟩
      · exact req_f _ (Z3.out (by rw [HQ2.out]; exact nx_f e))
      · have e2 : q2 = (true, q.2.tail) := by rw [HQ2.out]; unfold nxS; rw [if_pos e]
        have hs := S3.out (by rw [e2])
        rw [e2] at hs
        dsimp only at hs
        rw [HST.out]
        revert hs
        cases body c s q.2.tail with
        | some p =>
          rintro ⟨z1, z2, z3⟩
          exact ⟨by rw [z1, z2]; rfl, z3⟩
        | none =>
          intro hs
          by_cases h0 : er = 0
          · exact req_f _ (hs h0)
          · show (reqS (er == 0) q3).1 = false
            unfold reqS
            rw [beq_eq_false_iff_ne.2 h0, Bool.and_false]
  · have n1 : decide ((-1 : Int) < 0) = true := by decide
    have HST := Lib.hid (fun s : σ => stmt_miss (L := L) (body := body) (s := s) (l := q.2) hno)
    clear hno
    go_wp2_with fail
    refine (fail_z g B0 m q.1 q.2 fr 3 _ (C.pl H1.out)).mono ?_
    rintro e w2 ⟨rfl, hq⟩
    obtain ⟨q2, hq2⟩ : ∃ q' : Bool × List KT, q' = reqS ((3 : Int) == 0) q := ⟨_, rfl⟩
    obtain ⟨m2, hs2, hf2, hb2⟩ := C.read H1.out (q' := q2) (by rw [hq2]; exact hq) (fun h => t_of (fun h => req_f _ h) (by rw [← hq2]; exact h))
    have H2 := Lib.hid hf2
    have B2 := Lib.hid hb2
    have HF : Hid (q2.1 = false) := Lib.hid (by rw [hq2]; unfold reqS; simp)
    clear hq hq2 hs2 hf2 hb2 cp
    go_wp2
    go_end0
    have b0 : Below g w w1 := (K0.out.mono (by have := HP.out; have := HG.out; omega)).trans (B1.out.mono (by have := K0.out.size; have := HG.out; have := HP.out; omega))
    refine ⟨rfl, m2, q2, s, H2.out, b0.trans (B2.out.below (Nat.le_refl _) (by have := b0.size; have := HG.out; omega)), ((KT1.below (by rw [HP.out]; exact K0.out)).trans (KT1.below B1.out)).trans (KT1.but B2.out (C.pl H1.out).blk (by decide)), fun _ => HF.out, fun _ => ?_⟩
    rw [HST.out]
    exact HF.out
def tsA : Ts := [(1, kAli), (1, [105, 119]), (1, [104, 101]), (3, [59])]
def tabA : Tab := ⟨[], [([105, 119], [104, 101])], []⟩
theorem ent_A : entP tab0 tsA = some (tabA, []) := by decide +kernel
set_option maxHeartbeats 2000000 in
theorem statementA_z (g B0 : Nat) (v : Value) (q : Bool × List KT) (t : Tab) (m : PMem) (w : World) (h : (CxT g B0).F q t m w) (hv : ChR w v partsL) (hA : isS 1 kLoc q.2 = false) (hN : isS 1 kNea q.2 = false) :
    Calls Tryz.prog 105 #[.pointer (some ⟨g, 0, none⟩), v] w (StG (CxT g B0) entP q t w) := by
  have h1 := statement_a g B0 (CxT g B0) partsL (fun c => bkE c.1) (by decide) v q t m w (fun c hc hs => by
    simp only [partsL, List.mem_cons, List.not_mem_nil, or_false] at hc
    rcases hc with rfl | rfl | rfl
    · exact absurd (hs.symm.trans hA) (by decide)
    · refine ⟨enters_of Tryz.func159 (by kernel_rfl) rfl, fun q s m w h => ?_⟩
      rw [show bkE (kAli, 159).1 = body_al from funext fun x => funext fun r => bk_kAli x r]
      exact alias_z g B0 q s m w h
    · exact absurd (hs.symm.trans hN) (by decide)) h hv
  rw [show stmtG partsL (fun c => bkE c.1) = entP from funext fun x => funext fun l => (stmt_eq bkE_no x l).trans (ent_bk x l).symm] at h1
  exact h1
def LoA (g B0 : Nat) (w : World) (CH : Value) (wr : World) : Prop :=
  ∃ (m : PMem) (q : Bool × List KT) (t : Tab), (CxT g B0).F q t m wr ∧ ChR wr CH partsL ∧ Below g w wr ∧ ((q = (true, tsA) ∧ t = tab0) ∨ (q = (true, []) ∧ t = tabA))
def TbA (g B0 : Nat) (w : World) (e : Ending) (w' : World) : Prop :=
  e = .returned (.tuple #[]) ∧ ∃ (m : PMem), PT g B0 m true [] tabA w' ∧ Below g w w'
set_option maxRecDepth 1000000 in
set_option maxHeartbeats 8000000 in
theorem tableA_z (g B0 : Nat) (m : PMem) (w : World) (h : PT g B0 m true tsA tab0 w) (E : ∀ W, Below g w W → EnvOf8 W) :
    Calls Tryz.prog 47 #[.pointer (some ⟨g, 0, none⟩)] w (TbA g B0 w) := by
  have P0 := Lib.hid h
  have HE := Lib.hid E
  clear h E
  go_enter Tryz.func47, Tryz.ntmps47
  go_wp2_with fail
  refine (parts_any _).mono ?_
  rintro e wi ⟨⟨CH, rfl, hch⟩, hbi⟩
  have HL : Hid (LoA g B0 w CH wi) := Lib.hid ⟨m, (true, tsA), tab0, ⟨P0.out.below hbi, fun W hW => HE.out W ((hbi.mono (by have := P0.out.pl.blk.lt; omega)).trans hW)⟩, hch, hbi.mono (by have := P0.out.pl.blk.lt; omega), .inl ⟨rfl, rfl⟩⟩
  clear hbi hch
  go_wp2_with fail
  go_loopw [17] (fun _ wr => LoA g B0 w CH wr) (fun _ wr => mtk g wr)
  case atStart => exact HL.out
  case round =>
    rename World => wr
    obtain ⟨mx, qx, tx, hF, hch, hbx, hq⟩ := hrel
    have PX := Lib.hid hF
    have CX := Lib.hid hch
    have BX := Lib.hid hbx
    have cf : wr.cell? ⟨g, 21, none⟩ = some (.int .i64 mx.f) := hF.1.pl.blk.cell 21
    have c0 : wr.cell? ⟨g, 0, none⟩ = some (.slice mx.tk.a mx.tk.n mx.tk.c) := hF.1.pl.blk.cell 0
    have hln := hF.1.pl.tk.len
    have hok : qx.1 = true := by rcases hq with ⟨e, _⟩ | ⟨e, _⟩ <;> rw [e]
    have e1 : (mx.f == 0) = true := by rw [beq_iff_eq]; exact hF.1.pl.f.2 hok
    obtain ⟨ta, hta⟩ : ∃ a, mx.tk.a = a := ⟨_, rfl⟩
    obtain ⟨tn, htn⟩ : ∃ a, mx.tk.n = a := ⟨_, rfl⟩
    obtain ⟨tc, htc⟩ : ∃ a, mx.tk.c = a := ⟨_, rfl⟩
    rw [hta, htn, htc] at c0
    rw [htn] at hln
    clear hF hch hbx HL hta htn htc
    rcases hq with ⟨hq, ht⟩ | ⟨hq, ht⟩
    case inr =>
      have n1 : decide ((1 : Int) < (tn : Int)) = false := decide_eq_false (by rw [hln, hq]; decide)
      have n2 : decide (1 < tn) = false := decide_eq_false (by rw [hln, hq]; decide)
      have HQ := Lib.hid hq
      have HT := Lib.hid ht
      clear hln hq hok ht
      go_wp2
      go_end0
      have h5 := PX.out.1
      rw [HQ.out, HT.out] at h5
      exact ⟨rfl, mx, h5, BX.out⟩
    case inl =>
      have n1 : decide ((1 : Int) < (tn : Int)) = true := decide_eq_true (by rw [hln, hq]; decide)
      have n2 : decide (1 < tn) = true := decide_eq_true (by rw [hln, hq]; decide)
      have HQ := Lib.hid hq
      have HT := Lib.hid ht
      have HOK := Lib.hid hok
      have HME : Hid (mtk g wr = qx.2.length + 1) := Lib.hid (mtk_ok (m := mx) (B0 := B0) (by have := PX.out.1.pl; rw [HOK.out] at this; exact this))
      clear hln hq hok ht
      go_wp2_with fail
      refine (statementA_z g B0 _ qx tx mx _ PX.out CX.out (by rw [HQ.out]; rfl) (by rw [HQ.out]; rfl)).mono ?_
      rintro e w6 ⟨rfl, m6, q6, t6, hF6, hb6, hk6, hz6, hs6⟩
      have hs6' := hs6 HOK.out
      rw [HQ.out, HT.out] at hs6'
      dsimp only at hs6'
      rw [ent_A] at hs6'
      obtain ⟨z1, z2⟩ := hs6'
      have HLT : Hid (q6.1 = true → q6.2.length < qx.2.length) := Lib.hid (fun _ => by rw [z1, HQ.out]; decide)
      have HN : Hid (LoA g B0 w CH w6) := Lib.hid ⟨m6, q6, t6, hF6, CX.out.kt hk6, BX.out.trans hb6, .inr ⟨z1, z2⟩⟩
      have HPL := Lib.hid hF6.1.pl
      clear hF6 hb6 hk6 hz6 hs6 z1 z2
      go_wp2
      go_roundw
      case measure =>
        rw [HME.out]
        exact mtk_le HPL.out HLT.out (by omega)
      case rel => exact HN.out
def tokA : List Tok := [⟨1, kAli, 0⟩, ⟨1, [105, 119], 6⟩, ⟨1, [104, 101], 9⟩, ⟨3, [59], 11⟩]
theorem toks_A : toks awTb = .inr tokA := by kernel_rfl
/-- Parse of the example. -/
def AwA (w : World) (e : Ending) (w' : World) : Prop := (∃ (a b c : RawS), e = .returned (.tuple #[.agg #[.slice a.a a.n a.c, .slice b.a b.n b.c, .slice c.a c.n c.c], .int .i64 0, .int .i64 0]) ∧ RdTab w' (.slice a.a a.n a.c) (.slice b.a b.n b.c) (.slice c.a c.n c.c) tabA) ∧ Below w.heap.size w w'
set_option maxRecDepth 1000000 in
set_option maxHeartbeats 16000000 in
theorem parseA_z (w : World) (E : EnvOf8 w) : Calls Tryz.prog 18 #[.string (ofL awTb)] w (AwA w) := by
  have hTK := Lib.hid toks_A
  have hs : awTb.length ≤ 300000 := by decide
  have hl : awTb.length ≤ 200000 := by decide
  obtain ⟨s, hsA⟩ : ∃ s, awTb = s := ⟨_, rfl⟩
  rw [hsA] at hTK hs hl ⊢
  clear hsA
  have b0 := (Below.refl w.heap.size w).alloc (Nat.le_refl _) (.cells #[.slice none 0 0, .slice none 0 0, .slice none 0 0] 27)
  have K0 := Lib.hid (Blk.new w 27 #[.slice none 0 0, .slice none 0 0, .slice none 0 0])
  have B0 := Lib.hid b0
  have HE := Lib.hid E
  obtain ⟨W0, hW0⟩ : ∃ W0, w.alloc (.cells #[.slice none 0 0, .slice none 0 0, .slice none 0 0] 27) = W0 := ⟨_, rfl⟩
  have z0 : W0.heap.size = w.heap.size + 1 := by rw [← hW0, World.size_alloc]
  have HW0 := Lib.hid hW0
  obtain ⟨R, hR⟩ : ∃ R, w.heap.size = R := ⟨_, rfl⟩
  have HR := Lib.hid hR
  rw [hW0] at K0 B0
  rw [hR] at K0 z0 B0
  have Z0 := Lib.hid z0
  have zs := ofL_size s
  have HS := Lib.hid hs
  clear b0 E hW0 hR z0 hs
  go_enter Tryz.func18, Tryz.ntmps18
  go_upto_region 1 with fail
  rw [HW0.out, HR.out]
  clear HW0
  have n1 : decide ((200000 : Int) < (s.length : Int)) = false := decide_eq_false (by omega)
  have n2 : decide (200000 < s.length) = false := decide_eq_false (by omega)
  have HTO : Hid (Calls Tryz.prog 46 #[.string (ofL s)] W0 (TokPO (rT (toks s)) W0)) := Lib.hid (tokensO_any (ofL s) W0 (by rw [zs]; omega) (env_of8 (HE.out.laterZ (by rw [HR.out]; exact B0.out))))
  have HTL := Lib.hid (rT_len s)
  rw [hTK.out] at HTO HTL
  have HLM : Hid (tokA.map (fun t => (t.kd, t.tx)) = tsA) := Lib.hid rfl
  have HTB : Hid (∀ z ∈ tokA, z.tx.length ≤ 300000) := Lib.hid (by decide)
  obtain ⟨l, hlA⟩ : ∃ l, tokA = l := ⟨_, rfl⟩
  rw [hlA] at HTO HTL HLM HTB
  clear hl hlA
  go_wp2_with fail
  refine HTO.out.mono ?_
  rintro e w1 ⟨v, rfl, ho, b1⟩
  have K1 := Lib.hid (Blk.below K0.out b1)
  have B1 := Lib.hid (B0.out.trans (b1.mono (by have := Z0.out; omega)))
  obtain ⟨va, vc, hva⟩ := ho.slice
  subst hva
  have OW := Lib.hid ho
  obtain ⟨iT, hiT, hzT, hkT, hbT⟩ := info_partsT Tryz.infoZt
  have hbase : W0.heap.size ≤ w1.heap.size := b1.size
  have hll : l.length ≤ 1000000 := by have h1 := HTL.out; dsimp only [rT] at h1; have := HS.out; omega
  dsimp only [rT]
  clear ho b1
  go_wp2_with (first | (at_builtin; refine wpList_append_big (w0 := w1) (x := (⟨0, [], s.length⟩ : Tok)) (N := w1.heap.size) rfl rfl _ _ 80 rfl W0.heap.size iT _ 32 Tryz.underlying80 hiT hzT hkT hbT (by omega) rfl (by omega) encTk_len encTk_one _ l rfl rfl OW.out rfl hll hbase ?_; intro v9 w9 h9; obtain ⟨a9, c9, hv9⟩ := h9.1.slice; rw [List.length_append, List.length_singleton] at hv9; subst hv9; have H9 := Lib.hid h9; clear h9; refine wpList_plain rfl (fun K1 hK1 => ?_); go_simp; refine hK1 _ _ ?_; clear hK1 K1; refine wpList_plain rfl (fun K2 hK2 => ?_); go_simp; refine hK2 _ _ ?_; clear hK2 K2; refine wpList_store_new rfl 86 _ _ rfl _ (pcells (m00 a9 (l.length + 1) c9)) rfl rfl (pcells_info _) (by rfl) (pcells_one _) ?_; refine wpList_nil ?_) | fail)
  obtain ⟨B0', hpt⟩ := start_pt H9.out.1 rfl rfl HTB.out
  have PT4 := Lib.hid hpt
  have hown9 := OW.out
  have B9 : Hid (Below R w w9) := Lib.hid (B1.out.grown H9.out.2.1 (by have := B1.out.size; have := HR.out; omega) (fun k e => by have := (OW.out.lt_ k e).1; have := Z0.out; omega))
  have K9 : Hid (Blk R 27 #[.slice none 0 0, .slice none 0 0, .slice none 0 0] w9) := Lib.hid ((H9.out.2.1.block R K1.out.lt (fun e => by have := (OW.out.lt_ R e.symm).1; have := Z0.out; omega)).trans K1.out)
  have b4 := (Below.refl _ w9).alloc (Nat.le_refl _) (.cells (pcells (m00 a9 (l.length + 1) c9)) 86)
  have K4 := Lib.hid (Blk.below K9.out b4)
  have B4 := Lib.hid (B9.out.trans (b4.mono (by have := B9.out.size; have := HR.out; omega)))
  have HRg := Lib.hid K9.out.lt
  obtain ⟨W4, hW4⟩ : ∃ W4, w9.alloc (.cells (pcells (m00 a9 (l.length + 1) c9)) 86) = W4 := ⟨_, rfl⟩
  obtain ⟨g, hg⟩ : ∃ g, w9.heap.size = g := ⟨_, rfl⟩
  rw [hW4] at PT4 K4 B4
  rw [hg] at PT4 HRg
  have HW4 := Lib.hid hW4
  have HG := Lib.hid hg
  have HTZ := Lib.hid (tableA_z g B0' _ W4 (by have h7 := PT4.out; rw [HLM.out] at h7; exact h7) (fun W hb => HE.out.laterZ (by rw [HR.out]; exact B4.out.trans (hb.mono (by have := HRg.out; omega)))))
  clear hpt hown9 b4 hW4 hg hll hbase
  go_upto_region 7 with fail
  rw [HW4.out, HG.out]
  go_wp2_with fail
  refine HTZ.out.mono ?_
  rintro e w5 ⟨rfl, m5, hp5, hb5⟩
  have P5 := Lib.hid hp5
  have B5 : Hid (Below R w w5) := Lib.hid (B4.out.trans (hb5.mono (by have := HRg.out; omega)))
  have K5 : Hid (Blk R 27 #[.slice none 0 0, .slice none 0 0, .slice none 0 0] w5) := Lib.hid ((hb5.block R HRg.out).trans K4.out)
  have cf : w5.cell? ⟨g, 21, none⟩ = some (.int .i64 m5.f) := hp5.pl.blk.cell 21
  have ca : w5.cell? ⟨g, 20, none⟩ = some (.int .i64 m5.at_) := hp5.pl.blk.cell 20
  have x0 : w5.cell? ⟨R, 0, none⟩ = some (.slice none 0 0) := K5.out.cell 0
  have x1 : w5.cell? ⟨R, 1, none⟩ = some (.slice none 0 0) := K5.out.cell 1
  have x2 : w5.cell? ⟨R, 2, none⟩ = some (.slice none 0 0) := K5.out.cell 2
  have f0 := K5.out.frozen 0
  have f1 := K5.out.frozen 1
  have f2 := K5.out.frozen 2
  clear hp5 hb5
  have hok : true = true := rfl
  have e0 : m5.f = 0 := P5.out.pl.f.2 hok
  rw [e0] at cf
  have c1 : w5.cell? ⟨g, 1, none⟩ = some (.slice m5.lo.a m5.lo.n m5.lo.c) := P5.out.pl.blk.cell 1
  have c2 : w5.cell? ⟨g, 2, none⟩ = some (.slice m5.al.a m5.al.n m5.al.c) := P5.out.pl.blk.cell 2
  have c3 : w5.cell? ⟨g, 3, none⟩ = some (.slice m5.ne.a m5.ne.n m5.ne.c) := P5.out.pl.blk.cell 3
  clear hok e0
  go_wp2
  obtain ⟨kr, br⟩ := put_res (a' := .slice m5.lo.a m5.lo.n m5.lo.c) (b' := .slice m5.al.a m5.al.n m5.al.c) (c' := .slice m5.ne.a m5.ne.n m5.ne.c) K5.out
  exact bodyPost_ret (res_TParse rfl rfl rfl kr) rfl ⟨⟨m5.lo, m5.al, m5.ne, rfl, end_tab P5.out br HRg.out⟩, by rw [HR.out]; exact B5.out.trans (br.below (Nat.le_refl _) (by have := K5.out.lt; omega))⟩
set_option maxRecDepth 1000000 in
set_option maxHeartbeats 8000000 in
theorem awakeA_any (w : World) (E : EnvOf8 w) : Calls Tryz.prog 10 #[] w fun e w' => e = .returned (.bool true) ∧ Below w.heap.size w w' := by
  have HP := Lib.hid (parseA_z w E)
  clear E
  go_enter Tryz.func10, Tryz.ntmps10
  go_wp2_with fail
  refine HP.out.mono ?_
  rintro e w1 ⟨⟨a, b, c, rfl, hr⟩, b1⟩
  obtain ⟨ba, bn, bc⟩ := b
  have hn : (1 : Nat) = bn := hr.al.len
  subst hn
  obtain ⟨bk, off, hb, h00, hx⟩ := hr.al.some_ 0 (by decide)
  have h0 : w1.cell? ⟨bk, off + 0 * 2, none⟩ = some (.string ⟨#[105, 119]⟩) := hx 0 _ rfl
  have h2 : w1.cell? ⟨bk, off + 0 * 2 + 1, none⟩ = some (.string ⟨#[104, 101]⟩) := hx 1 _ rfl
  rw [Nat.zero_mul, Nat.add_zero] at h0 h2
  have hb' : ba = some ⟨bk, off, none⟩ := hb
  subst hb'
  have B1 := Lib.hid b1
  clear hr hx b1 hb
  have B2 := Lib.hid (B1.out.alloc B1.out.size (.cells #[.slice a.a a.n a.c, .slice (some ⟨bk, off, none⟩) 1 bc, .slice c.a c.n c.c] 27))
  go_wp2
  go_ret
  exact ⟨rfl, B2.out⟩
end Go.Proofs.YtpmmchppfmojhaaGreatDoor


