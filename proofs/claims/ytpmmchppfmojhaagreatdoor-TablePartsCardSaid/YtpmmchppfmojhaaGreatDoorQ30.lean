/- What the row stands on, part 30. -/
import Derived.Deep.WholeRow
import Derived.Deep.MidRow
import Derived.Test.YtpmmchppfmojhaaGreatDoorQ29

/- Of the program's table package: Parse. -/
namespace Go.Proofs.YtpmmchppfmojhaaGreatDoor
open Go.RowKit
set_option linter.unusedVariables false

section
variable {P : Program} {op : Oper} {a : Act} {w : World} {Q : Exit → Act → World → Prop} {ops : Array Oper} {rest : List Oper}
theorem wp_store_new {K : Act → World → Prop} (ty : TypeId) (x y : Operand) (ho : op.op = .store ty x y) (c c' : Array Value) (hx : a.eval x = .pointer (some ⟨w.heap.size, 0, none⟩)) (hy : a.eval y = .agg c') (hi : (P.info? ty).map (·.size) = some c'.size) (hc : c.size = c'.size) (h1 : c'.all (·.oneCell') = true)
    (h : K (a.put op.dst undef) (w.alloc (.cells c' ty))) : op.wp P a (w.alloc (.cells c ty)) K Q := by
  unfold Oper.wp execOp
  simp only [ho, hx, hy, Instr.storeAt, Instr.sureAddr, Sem.run_bind, Sem.run_pure, Result.andThen_ok, run_storeVar_new w ty c c' hi hc h1]
  exact h
/-- A new block is written whole. -/
theorem wpList_store_new (hgd : op.guard = none) (ty : TypeId) (x y : Operand) (ho : op.op = .store ty x y) (c c' : Array Value) (hx : a.eval x = .pointer (some ⟨w.heap.size, 0, none⟩)) (hy : a.eval y = .agg c') (hi : (P.info? ty).map (·.size) = some c'.size) (hc : c.size = c'.size) (h1 : c'.all (·.oneCell') = true)
    (h : wpList P ops Q rest (a.put op.dst undef) (w.alloc (.cells c' ty))) : wpList P ops Q (op :: rest) a (w.alloc (.cells c ty)) :=
  wpList_plain hgd fun _ hK => wp_store_new ty x y ho c c' hx hy hi hc h1 (hK _ _ h)
end
theorem EnvOf8.laterZ {w w' : World} (h : EnvOf8 w) (hb : Below w.heap.size w w') : EnvOf8 w' := ⟨Joins.tab_stays gPow h.pow hb (Nat.le_refl _), (h.cells hb).1, (h.cells hb).2⟩
theorem env_of8 {w : World} (h : EnvOf8 w) : Env w := ⟨h.pow, h.serr⟩
theorem res_TParse {W : World} {tm : Array Value} {B : Nat} {t : TypeId} {a b c v u : Value} (t2 : tm[2]?.getD undef = .pointer (some ⟨B, 0, none⟩)) (t3 : tm[3]?.getD undef = v) (t4 : tm[4]?.getD undef = u) (h : Blk B t #[a, b, c] W) :
    (results Tryz.f18 tm).run Tryz.prog W = .ok (.tuple #[.agg #[a, b, c], v, u]) W := by
  have a0 : W.cell? ⟨B, 0, none⟩ = some a := h.cell 0
  have a1 : W.cell? ⟨B, 1, none⟩ = some b := h.cell 1
  have a2 : W.cell? ⟨B, 2, none⟩ = some c := h.cell 2
  simp [results, Tryz.f18, go_sem, t2, t3, t4, a0, a1, a2]
theorem prs_of {s : Str} (hl : s.length ≤ 200000) : prsT s = match toks s with
    | .inl _ => none
    | .inr l => parT (l.map (fun t => (t.kd, t.tx))) := by
  unfold prsT
  rw [if_pos hl, ← fgt_toks]
  cases toks s with
  | inl p => rfl
  | inr l => rfl
theorem tok_bound {s : Str} {l : List Tok} (h : toks s = .inr l) : ∀ z ∈ l, z.tx.length ≤ 300000 := by
  have h1 : gtF (s.length + 1) s = .inr (l.map (fun t => (t.kd, t.tx))) := by
    have := fgt_toks s
    rw [h] at this
    exact this.symm
  intro z hz
  have := gt_okF _ _ _ h1 (z.kd, z.tx) (List.mem_map.2 ⟨z, hz, rfl⟩)
  rcases this with ⟨_, _, h3, _⟩ | ⟨_, h3, _⟩ | h3
  · dsimp only at h3; omega
  · dsimp only at h3; omega
  · obtain ⟨_, c, h4, _⟩ := h3
    dsimp only at h4
    rw [h4]
    simp
theorem pcells_one (m : PMem) : (pcells m).all (·.oneCell') = true := by
  unfold pcells
  refine Go.all_oneCell_toArray (fun v hv => ?_)
  simp only [List.mem_cons, List.not_mem_nil, or_false] at hv
  rcases hv with rfl | rfl | rfl | rfl | rfl | rfl | rfl | rfl | rfl | rfl | rfl | rfl | rfl | rfl | rfl | rfl | rfl | rfl | rfl | rfl | rfl | rfl <;> rfl
theorem pcells_info (m : PMem) : (Tryz.prog.info? 86).map (·.size) = some (pcells m).size := by kernel_rfl
def m00 (a : Option Addr) (n c : Nat) : PMem := ⟨⟨a, n, c⟩, ⟨none, 0, 0⟩, ⟨none, 0, 0⟩, ⟨none, 0, 0⟩, raw0 [], 0, 0⟩
/-- The result's variable is written. -/
theorem put_res {R : Nat} {T : TypeId} {a b c a' b' c' : Value} {W : World} (h : Blk R T #[a, b, c] W) : Blk R T #[a', b', c'] (((W.setCell ⟨R, 0, none⟩ a').setCell ⟨R, 1, none⟩ b').setCell ⟨R, 2, none⟩ c') ∧ But R W (((W.setCell ⟨R, 0, none⟩ a').setCell ⟨R, 1, none⟩ b').setCell ⟨R, 2, none⟩ c') :=
  ⟨((h.put 0 a').put 1 b').put 2 c', ((But.setCell R W 0 a').trans (But.setCell R _ 1 b')).trans (But.setCell R _ 2 c')⟩
theorem none_end {s : Str} {w w' : World} {at_ er : Int} (hp : prsT s = none) (he : er ≠ 0) (hb : Below w.heap.size w w') : TpPost s w (.returned (.tuple #[.agg #[.slice none 0 0, .slice none 0 0, .slice none 0 0], .int .i64 at_, .int .i64 er])) w' := by
  refine ⟨⟨⟨none, 0, 0⟩, ⟨none, 0, 0⟩, ⟨none, 0, 0⟩, at_, er, rfl, ?_⟩, hb⟩
  rw [hp]
  exact ⟨rdTab_nil _, he⟩
theorem start_pt {w : World} {a : Option Addr} {c : Nat} {l : List Tok} {e : Tok} {base : Nat} (ho : Own1 3 encTk w base 84 (.slice a (l.length + 1) c) (l ++ [e])) (h1 : e.kd = 0) (h2 : e.tx = []) (hb : ∀ z ∈ l, z.tx.length ≤ 300000) : ∃ B0, PT w.heap.size B0 (m00 a (l.length + 1) c) true (l.map (fun t => (t.kd, t.tx))) tab0 (w.alloc (.cells (pcells (m00 a (l.length + 1) c)) 86)) := by
  have ba := (Below.refl _ w).alloc (Nat.le_refl _) (.cells (pcells (m00 a (l.length + 1) c)) 86)
  have hty := ho.ty
  have hrd := ho.rd encTk_len
  obtain ⟨b, off, rfl, hlt, _⟩ := hrd.some_ 0 (by simp)
  obtain ⟨cs, hc⟩ := hty b rfl
  refine ⟨b, ⟨Blk.new w _ _, ⟨⟨l ++ [e], hrd.below ba, by rw [List.map_append, List.map_singleton, h1, h2], fun z hz => ?_⟩, ⟨off, rfl⟩, cs, Blk.below hc ba⟩, by simp [m00]⟩, ⟨⟨[], own1_nil _ _ _, rfl, fun i h _ => by simp at h⟩, own1_nil _ _ _, own1_nil _ _ _⟩, ⟨Nat.zero_le _, Nat.zero_le _, Nat.zero_le _⟩⟩
  rcases List.mem_append.1 hz with h | h
  · exact hb z h
  · rw [List.mem_singleton] at h
    rw [h, h2]
    exact Nat.zero_le _
theorem end_tab {g B0 R : Nat} {m : PMem} {ok : Bool} {ts : List KT} {t : Tab} {w w' : World} (h : PT g B0 m ok ts t w) (hb : But R w w') (hR : R < g) : RdTab w' (.slice m.lo.a m.lo.n m.lo.c) (.slice m.al.a m.al.n m.al.c) (.slice m.ne.a m.ne.n m.ne.c) t := by
  obtain ⟨raws, o1, o2, o3⟩ := h.p0.lo
  exact ⟨⟨raws, (own_but o1 hb (by omega)).rd encLo_len, o2, fun i a b => o3 i a b w' (Fw.of_but hb (.inl hR))⟩, (own_but h.p0.al hb (by omega)).rd encDu_len, (own_but h.p0.ne hb (by omega)).rd encNe_len⟩
set_option maxRecDepth 1000000 in
set_option maxHeartbeats 16000000 in
theorem parseT_z (w : World) (s : Str) (E : EnvOf8 w) (hs : s.length ≤ 300000) : Calls Tryz.prog 18 #[.string (ofL s)] w (TpPost s w) := by
  have b0 := (Below.refl w.heap.size w).alloc (Nat.le_refl _) (.cells #[.slice none 0 0, .slice none 0 0, .slice none 0 0] 27)
  have K0 := Lib.hid (Blk.new w 27 #[.slice none 0 0, .slice none 0 0, .slice none 0 0])
  have B0 := Lib.hid b0
  have HE := Lib.hid E
  obtain ⟨W0, hW0⟩ : ∃ W0, w.alloc (.cells #[.slice none 0 0, .slice none 0 0, .slice none 0 0] 27) = W0 := ⟨_, rfl⟩
  have z0 : W0.heap.size = w.heap.size + 1 := by rw [← hW0, World.size_alloc]
  have HW0 := Lib.hid hW0
  obtain ⟨R, hR⟩ : ∃ R, w.heap.size = R := ⟨_, rfl⟩
  have HR := Lib.hid hR
  rw [hW0] at K0 B0
  rw [hR] at K0 z0 B0
  have Z0 := Lib.hid z0
  have zs := ofL_size s
  have HS := Lib.hid hs
  clear b0 E hW0 hR z0 hs
  go_enter Tryz.func18, Tryz.ntmps18
  go_upto_region 1 with fail
  rw [HW0.out, HR.out]
  clear HW0
  by_cases hl : s.length ≤ 200000
  case neg =>
    have n1 : decide ((200000 : Int) < (s.length : Int)) = true := decide_eq_true (by omega)
    have n2 : decide (200000 < s.length) = true := decide_eq_true (by omega)
    have HPR : Hid (prsT s = none) := Lib.hid (by unfold prsT; rw [if_neg hl])
    have c0 : W0.cell? ⟨R, 0, none⟩ = some (.slice none 0 0) := K0.out.cell 0
    have c1 : W0.cell? ⟨R, 1, none⟩ = some (.slice none 0 0) := K0.out.cell 1
    have c2 : W0.cell? ⟨R, 2, none⟩ = some (.slice none 0 0) := K0.out.cell 2
    have f0 := K0.out.frozen 0
    have f1 := K0.out.frozen 1
    have f2 := K0.out.frozen 2
    clear hl
    go_wp2
    obtain ⟨kr, br⟩ := put_res (a' := .slice none 0 0) (b' := .slice none 0 0) (c' := .slice none 0 0) K0.out
    exact bodyPost_ret (res_TParse rfl rfl rfl kr) rfl (none_end HPR.out (by decide) (by rw [HR.out]; exact B0.out.trans (br.below (Nat.le_refl _) (by have := Z0.out; omega))))
  case pos =>
    have n1 : decide ((200000 : Int) < (s.length : Int)) = false := decide_eq_false (by omega)
    have n2 : decide (200000 < s.length) = false := decide_eq_false (by omega)
    have HPR := Lib.hid (prs_of hl)
    have HTB := Lib.hid (fun l (h : toks s = .inr l) => tok_bound h)
    have HTE := Lib.hid (fun p (h : toks s = .inl p) => toksF_err _ _ _ p h)
    have HTO : Hid (Calls Tryz.prog 46 #[.string (ofL s)] W0 (TokPO (rT (toks s)) W0)) := Lib.hid (tokensO_any (ofL s) W0 (by rw [zs]; omega) (env_of8 (HE.out.laterZ (by rw [HR.out]; exact B0.out))))
    have HTL := Lib.hid (rT_len s)
    obtain ⟨T, hT⟩ : ∃ T, toks s = T := ⟨_, rfl⟩
    rw [hT] at HPR HTB HTE HTO HTL
    clear hl hT
    go_wp2_with fail
    refine HTO.out.mono ?_
    cases T with
    | inl p =>
      rintro e w1 ⟨v, rfl, ho, b1⟩
      obtain ⟨pa, pe⟩ := p
      have HPE := Lib.hid (HTE.out _ rfl)
      have hpos : 0 < pe := HPE.out
      have hpe : ((pe : Int) != 0) = true := by rw [bne_iff_ne]; omega
      have hpe2 : (pe != 0) = true := by rw [bne_iff_ne]; omega
      have HPO := Lib.hid hpos
      clear hpos
      have K1 := Lib.hid (Blk.below K0.out b1)
      have B1 := Lib.hid (B0.out.trans (b1.mono (by have := Z0.out; omega)))
      have c0 : w1.cell? ⟨R, 0, none⟩ = some (.slice none 0 0) := K1.out.cell 0
      have c1 : w1.cell? ⟨R, 1, none⟩ = some (.slice none 0 0) := K1.out.cell 1
      have c2 : w1.cell? ⟨R, 2, none⟩ = some (.slice none 0 0) := K1.out.cell 2
      have f0 := K1.out.frozen 0
      have f1 := K1.out.frozen 1
      have f2 := K1.out.frozen 2
      dsimp only [rT]
      clear ho b1
      go_wp2
      obtain ⟨kr, br⟩ := put_res (a' := .slice none 0 0) (b' := .slice none 0 0) (c' := .slice none 0 0) K1.out
      exact bodyPost_ret (res_TParse rfl rfl rfl kr) rfl (none_end HPR.out (by have := HPO.out; omega) (by rw [HR.out]; exact B1.out.trans (br.below (Nat.le_refl _) (by have := B1.out.size; have := K1.out.lt; omega))))
    | inr l =>
      rintro e w1 ⟨v, rfl, ho, b1⟩
      have HTB := Lib.hid (HTB.out l rfl)
      have K1 := Lib.hid (Blk.below K0.out b1)
      have B1 := Lib.hid (B0.out.trans (b1.mono (by have := Z0.out; omega)))
      obtain ⟨va, vc, hva⟩ := ho.slice
      subst hva
      have OW := Lib.hid ho
      obtain ⟨iT, hiT, hzT, hkT, hbT⟩ := info_partsT Tryz.infoZt
      have hbase : W0.heap.size ≤ w1.heap.size := b1.size
      have hll : l.length ≤ 1000000 := by have h1 := HTL.out; dsimp only [rT] at h1; have := HS.out; omega
      dsimp only [rT]
      clear ho b1
      go_wp2_with (first | (at_builtin; refine wpList_append_big (w0 := w1) (x := (⟨0, [], s.length⟩ : Tok)) (N := w1.heap.size) rfl rfl _ _ 80 rfl W0.heap.size iT _ 32 Tryz.underlying80 hiT hzT hkT hbT (by omega) rfl (by omega) encTk_len encTk_one _ l rfl rfl OW.out rfl hll hbase ?_; intro v9 w9 h9; obtain ⟨a9, c9, hv9⟩ := h9.1.slice; rw [List.length_append, List.length_singleton] at hv9; subst hv9; have H9 := Lib.hid h9; clear h9; refine wpList_plain rfl (fun K1 hK1 => ?_); go_simp; refine hK1 _ _ ?_; clear hK1 K1; refine wpList_plain rfl (fun K2 hK2 => ?_); go_simp; refine hK2 _ _ ?_; clear hK2 K2; refine wpList_store_new rfl 86 _ _ rfl _ (pcells (m00 a9 (l.length + 1) c9)) rfl rfl (pcells_info _) (by rfl) (pcells_one _) ?_; refine wpList_nil ?_) | fail)
      obtain ⟨B0', hpt⟩ := start_pt H9.out.1 rfl rfl HTB.out
      have PT4 := Lib.hid hpt
      have hown9 := OW.out
      have B9 : Hid (Below R w w9) := Lib.hid (B1.out.grown H9.out.2.1 (by have := B1.out.size; have := HR.out; omega) (fun k e => by have := (OW.out.lt_ k e).1; have := Z0.out; omega))
      have K9 : Hid (Blk R 27 #[.slice none 0 0, .slice none 0 0, .slice none 0 0] w9) := Lib.hid ((H9.out.2.1.block R K1.out.lt (fun e => by have := (OW.out.lt_ R e.symm).1; have := Z0.out; omega)).trans K1.out)
      have b4 := (Below.refl _ w9).alloc (Nat.le_refl _) (.cells (pcells (m00 a9 (l.length + 1) c9)) 86)
      have K4 := Lib.hid (Blk.below K9.out b4)
      have B4 := Lib.hid (B9.out.trans (b4.mono (by have := B9.out.size; have := HR.out; omega)))
      have HRg := Lib.hid K9.out.lt
      obtain ⟨W4, hW4⟩ : ∃ W4, w9.alloc (.cells (pcells (m00 a9 (l.length + 1) c9)) 86) = W4 := ⟨_, rfl⟩
      obtain ⟨g, hg⟩ : ∃ g, w9.heap.size = g := ⟨_, rfl⟩
      rw [hW4] at PT4 K4 B4
      rw [hg] at PT4 HRg
      have HW4 := Lib.hid hW4
      have HG := Lib.hid hg
      have HTZ := Lib.hid (table_z g B0' _ _ W4 PT4.out (fun W hb => HE.out.laterZ (by rw [HR.out]; exact B4.out.trans (hb.mono (by have := HRg.out; omega)))))
      clear hpt hown9 b4 hW4 hg hll hbase
      go_upto_region 7 with fail
      rw [HW4.out, HG.out]
      go_wp2_with fail
      refine HTZ.out.mono ?_
      rintro e w5 ⟨rfl, m5, q5, t5, hp5, hb5, h1, h2⟩
      have P5 := Lib.hid hp5
      have B5 : Hid (Below R w w5) := Lib.hid (B4.out.trans (hb5.mono (by have := HRg.out; omega)))
      have K5 : Hid (Blk R 27 #[.slice none 0 0, .slice none 0 0, .slice none 0 0] w5) := Lib.hid ((hb5.block R HRg.out).trans K4.out)
      have H1 := Lib.hid h1
      have H2 := Lib.hid h2
      have cf : w5.cell? ⟨g, 21, none⟩ = some (.int .i64 m5.f) := hp5.pl.blk.cell 21
      have ca : w5.cell? ⟨g, 20, none⟩ = some (.int .i64 m5.at_) := hp5.pl.blk.cell 20
      have x0 : w5.cell? ⟨R, 0, none⟩ = some (.slice none 0 0) := K5.out.cell 0
      have x1 : w5.cell? ⟨R, 1, none⟩ = some (.slice none 0 0) := K5.out.cell 1
      have x2 : w5.cell? ⟨R, 2, none⟩ = some (.slice none 0 0) := K5.out.cell 2
      have f0 := K5.out.frozen 0
      have f1 := K5.out.frozen 1
      have f2 := K5.out.frozen 2
      clear hp5 hb5 h1 h2
      by_cases hok : q5.1 = true
      case pos =>
        have e0 : m5.f = 0 := P5.out.pl.f.2 hok
        have HOK := Lib.hid hok
        rw [e0] at cf
        have c1 : w5.cell? ⟨g, 1, none⟩ = some (.slice m5.lo.a m5.lo.n m5.lo.c) := P5.out.pl.blk.cell 1
        have c2 : w5.cell? ⟨g, 2, none⟩ = some (.slice m5.al.a m5.al.n m5.al.c) := P5.out.pl.blk.cell 2
        have c3 : w5.cell? ⟨g, 3, none⟩ = some (.slice m5.ne.a m5.ne.n m5.ne.c) := P5.out.pl.blk.cell 3
        clear hok e0
        go_wp2
        obtain ⟨kr, br⟩ := put_res (a' := .slice m5.lo.a m5.lo.n m5.lo.c) (b' := .slice m5.al.a m5.al.n m5.al.c) (c' := .slice m5.ne.a m5.ne.n m5.ne.c) K5.out
        have hpr : prsT s = some t5 := by rw [HPR.out]; exact H1.out HOK.out
        refine bodyPost_ret (res_TParse rfl rfl rfl kr) rfl ⟨⟨m5.lo, m5.al, m5.ne, 0, 0, rfl, ?_⟩, by rw [HR.out]; exact B5.out.trans (br.below (Nat.le_refl _) (by have := K5.out.lt; omega))⟩
        rw [hpr]
        exact ⟨end_tab P5.out br HRg.out, rfl⟩
      case neg =>
        have hok' : q5.1 = false := by simpa using hok
        have hf : m5.f ≠ 0 := fun e => hok (P5.out.pl.f.1 e)
        have e1 : (m5.f != 0) = true := by rw [bne_iff_ne]; exact hf
        have e2 : (m5.f == 0) = false := by rw [beq_eq_false_iff_ne]; exact hf
        have HF := Lib.hid hf
        have HPN : Hid (prsT s = none) := Lib.hid (by rw [HPR.out]; exact H2.out hok')
        obtain ⟨kr, br⟩ := put_res (a' := .slice none 0 0) (b' := .slice none 0 0) (c' := .slice none 0 0) K5.out
        obtain ⟨FF, hFF⟩ : ∃ FF, m5.f = FF := ⟨_, rfl⟩
        obtain ⟨AT, hAT⟩ : ∃ AT, m5.at_ = AT := ⟨_, rfl⟩
        rw [hFF] at cf e1 e2 HF
        rw [hAT] at ca
        have HKA : Hid ((((w5.drew.setCell ⟨R, 0, none⟩ (.slice none 0 0)).setCell ⟨R, 1, none⟩ (.slice none 0 0)).setCell ⟨R, 2, none⟩ (.slice none 0 0)).cell? ⟨g, 20, none⟩ = some (.int .i64 AT) ∧ (((w5.drew.setCell ⟨R, 0, none⟩ (.slice none 0 0)).setCell ⟨R, 1, none⟩ (.slice none 0 0)).setCell ⟨R, 2, none⟩ (.slice none 0 0)).cell? ⟨g, 21, none⟩ = some (.int .i64 FF)) := Lib.hid (by
          obtain ⟨_, br2⟩ := put_res (a' := .slice none 0 0) (b' := .slice none 0 0) (c' := .slice none 0 0) (Blk.below K5.out (below_drewN (Below.refl _ w5) 1))
          have kg := (Blk.below P5.out.pl.blk (below_drewN (Below.refl _ w5) 1)).but br2 (by have := HRg.out; omega)
          exact ⟨by rw [← hAT]; exact kg.cell 20, by rw [← hFF]; exact kg.cell 21⟩)
        have HKR := Lib.hid (And.intro kr br)
        clear hok hok' hf kr br hFF hAT
        go_wp2_with fail
        go_region_held3 (fun wx => wx.cell? ⟨g, 20, none⟩ = some (.int .i64 AT) ∧ wx.cell? ⟨g, 21, none⟩ = some (.int .i64 FF)) (first | exact ⟨ca, cf⟩ | exact HKA.out) (fail)
        all_goals go_wp2
        all_goals exact bodyPost_ret (res_TParse rfl rfl rfl HKR.out.1) rfl (none_end HPN.out HF.out (by rw [HR.out]; exact (B5.out.trans (HKR.out.2.below (Nat.le_refl _) (by have := K5.out.lt; omega))).trans (below_drewN (Below.refl R _) 1)))
end Go.Proofs.YtpmmchppfmojhaaGreatDoor


