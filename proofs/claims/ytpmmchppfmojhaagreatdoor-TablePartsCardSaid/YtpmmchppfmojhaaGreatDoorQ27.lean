/- What the row stands on, part 27. -/
import Derived.Test.YtpmmchppfmojhaaGreatDoorQ26

/- Of the program's table parser: the items direction, months, days. -/
namespace Go.Proofs.YtpmmchppfmojhaaGreatDoor
open Go.RowKit
set_option linter.unusedVariables false

def body_dir (x : Loc) (l : Ts) : Option (Loc × Ts) := thn (choP dirL l) fun d r => if x.dir = [] then semi { x with dir := d } r else none
theorem spec_dir (x : Loc) (l : List KT) {q0 q1 q2 : Bool × List KT} (h0 : q0 = (true, l)) (h1 : q1 = chS dirL q0) (h2 : q2 = mkS [59] q1) {er : Int} (he : er = if x.dir = [] then 0 else 9) :
    match body_dir x l with
    | some (x2, r) => er = 0 ∧ q2 = (true, r) ∧ { x with dir := (hdK q0.2).2 } = x2
    | none => er = 0 → q2.1 = false := by
  subst h0
  unfold body_dir
  have k0 := lk_ch dirL l
  cases e0 : choP dirL l with
  | none =>
    rw [e0] at k0
    intro _
    rw [h2]
    exact mk_f _ (by rw [h1]; exact k0)
  | some p0 =>
    obtain ⟨t0, r0⟩ := p0
    rw [e0] at k0
    obtain ⟨a0, b0, c0⟩ := k0
    have g1 : q1 = (true, r0) := by rw [h1]; exact a0
    rw [thn_some]
    subst g1
    by_cases hx : x.dir = []
    · rw [if_pos hx] at he ⊢
      have ks := lk_semi ({ x with dir := t0 } : Loc) r0
      show match semi ({ x with dir := t0 } : Loc) r0 with
        | some (x2, r) => _ ∧ _ ∧ _
        | none => _
      cases es : semi ({ x with dir := t0 } : Loc) r0 with
      | none =>
        rw [es] at ks
        intro _
        rw [h2]; exact ks
      | some p =>
        obtain ⟨y, r⟩ := p
        rw [es] at ks
        obtain ⟨s1, s2⟩ := ks
        refine ⟨he, by rw [h2]; exact s1, ?_⟩
        rw [s2]
        dsimp only
        rw [b0]
    · rw [if_neg hx] at he ⊢
      intro e
      rw [he] at e
      cases e
theorem nil_eqs (d : Str) : ((ofL d).toList == []) = decide (d = []) ∧ ((ofL d).toList != []) = !decide (d = []) ∧ (ofL d).toList.isEmpty = decide (d = []) := by
  rw [ByteArray.toList_eq]
  show (d == []) = _ ∧ (d != []) = _ ∧ d.isEmpty = _
  cases d <;> refine ⟨rfl, rfl, rfl⟩
set_option maxRecDepth 1000000 in
set_option maxHeartbeats 8000000 in
theorem direction_z (g B0 : Nat) (m : PMem) (ok : Bool) (ts : List KT) (t : Tab) (x : Loc) (w : World) (h : PI g B0 m ok ts t x w) :
    Calls Tryz.prog 256 #[.pointer (some ⟨g, 0, none⟩)] w (ItP g B0 t (body_dir x ts) ok w) := by
  obtain ⟨q0, hq0⟩ : ∃ q0 : Bool × List KT, (ok, ts) = q0 := ⟨_, rfl⟩
  have HQ0 := Lib.hid hq0
  have hP : PI g B0 m q0.1 q0.2 t x w := by rw [← hq0]; exact h
  have P0 := Lib.hid hP
  have c6 : w.cell? ⟨g, 6, none⟩ = some (.string (ofL x.dir)) := by rw [← h.p1.dir]; exact h.pl.blk.cell 6
  obtain ⟨n1, n2, n3⟩ := nil_eqs x.dir
  obtain ⟨b0, hb0⟩ : ∃ b, decide (x.dir = []) = b := ⟨_, rfl⟩
  have HB0 := Lib.hid hb0
  rw [hb0] at n1 n2 n3
  clear h hq0 hP hb0
  go_enter Tryz.func256, Tryz.ntmps256
  go_wp2_with fail
  refine (once_any (!b0) _).mono ?_
  rintro e w' ⟨rfl, hw⟩
  obtain rfl := hw.symm
  obtain ⟨er, her⟩ : ∃ er : Int, (if (!b0) = true then (9 : Int) else 0) = er := ⟨_, rfl⟩
  have HER := Lib.hid her
  rw [her]
  clear her n1 n2 n3
  go_wp2_with fail
  refine (choice_z g B0 m q0.1 q0.2 77 (enters_of Tryz.func77 (by kernel_rfl) rfl) dirL (fun W t => isDirection_any t W) _ P0.out.pl).mono ?_
  rintro e w1 ⟨rfl, hq⟩
  obtain ⟨q1, hq1⟩ : ∃ q : Bool × List KT, q = chS dirL q0 := ⟨_, rfl⟩
  have HQ1 := Lib.hid hq1
  obtain ⟨m1, hs1, hp1, hb1⟩ := P0.out.read (q := q1) (by rw [hq1]; exact hq) (fun h => t_of (fun h => ch_f _ h) (by rw [← hq1]; exact h))
  have P1 := Lib.hid hp1
  have B1 := Lib.hid hb1
  obtain ⟨tx, htx⟩ : ∃ tx, (hdK q0.2).2 = tx := ⟨_, rfl⟩
  have HT := Lib.hid htx
  rw [htx]
  clear hq hq1 hs1 hp1 hb1 htx c6
  have c6 : w1.cell? ⟨g, 6, none⟩ = some (.string (ofL m1.cu.dir)) := P1.out.pl.blk.cell 6
  have f6 : w1.frozen? ⟨g, 6, none⟩ = false := P1.out.pl.blk.frozen 6
  have P2 := Lib.hid (P1.out.put (x' := { x with dir := tx }) (But.setCell g w1 6 (.string (ofL tx))) { m1.cu with dir := tx } (P1.out.pl.blk.put 6 (.string (ofL tx))) ⟨rfl, rfl, rfl, rfl, rfl⟩ (fun p => ⟨p.tag, p.par, rfl, p.sy, p.ca, p.oc, p.ap, p.li, p.un, p.da, p.mo, p.dy⟩) ⟨P1.out.bx.ca, P1.out.bx.oc, P1.out.bx.li, P1.out.bx.un, P1.out.bx.da⟩ P1.out.sz)
  have B2 := Lib.hid (B1.out.trans (But.setCell g w1 6 (.string (ofL tx))))
  go_wp2_with fail
  refine (mark_z g B0 _ q1.1 q1.2 ⟨#[59]⟩ _ P2.out.pl).mono ?_
  rw [show (ByteArray.mk #[59]).data.toList = [59] from rfl]
  rintro e w3 ⟨rfl, hq⟩
  obtain ⟨q2, hq2⟩ : ∃ q : Bool × List KT, q = mkS [59] q1 := ⟨_, rfl⟩
  have HQ2 := Lib.hid hq2
  obtain ⟨m3, hs3, hp3, hb3⟩ := P2.out.read (q := q2) (by rw [hq2]; exact hq) (fun h => t_of (fun h => mk_f _ h) (by rw [← hq2]; exact h))
  have P3 := Lib.hid hp3
  have B3 := Lib.hid (B2.out.trans hb3)
  clear hq hq2 hs3 hp3 hb3 c6 f6
  go_wp2
  go_ret
  have hsp := fun e : ok = true => spec_dir x ts (q0 := q0) (by rw [← HQ0.out, e]) HQ1.out HQ2.out (er := er) (by
    rw [← HER.out]
    by_cases hd : x.dir = []
    · have := HB0.out; rw [decide_eq_true hd] at this; rw [← this, if_pos hd]; rfl
    · have := HB0.out; rw [decide_eq_false hd] at this; rw [← this, if_neg hd]; rfl)
  rw [HT.out] at hsp
  refine ⟨er, m3, q2, _, rfl, P3.out, P0.out.bel_but B3.out, P0.out.kt_but B3.out, fun e => ?_, fun e => ?_⟩
  · rw [HQ2.out]; exact mk_f _ (by rw [HQ1.out]; exact ch_f _ (by rw [← HQ0.out]; exact e))
  · exact hsp e
theorem own_of_blk {D n : Nat} {L : List Str} {w : World} (h : Blk D 9 (cellsA L n) w) (hl : L.length = n) (hn : n ≤ 1000) : Own1 1 encT w D 9 (.slice (some ⟨D, 0, none⟩) n n) L := by
  subst hl
  rw [cells_all] at h
  have hf : ∀ L : List Str, L.flatMap encT = L.map (fun x => Value.string (ofL x)) := fun L => by
    induction L with
    | nil => rfl
    | cons a L ih => rw [List.flatMap_cons, ih, List.map_cons]; rfl
  refine ⟨by rw [hf]; simp, .inr ⟨D, L.length, _, rfl, Nat.le_refl _, h, Nat.le_refl _, by unfold maxLen; omega, by simp, ?_⟩⟩
  rw [hf]
  simp only [Nat.mul_one]
  exact List.take_of_length_le (by simp)
def body_mo (x : Loc) (l : Ts) : Option (Loc × Ts) := thn (manyP 12 l) fun ts r => if x.mo = [] then semi { x with mo := ts } r else none
theorem spec_mo (x : Loc) (l : List KT) {q0 q1 q2 : Bool × List KT} (h0 : q0 = (true, l)) (h1 : q1 = txS 12 q0) (h2 : q2 = mkS [59] q1) {er : Int} (he : er = if x.mo = [] then 0 else 9) :
    match body_mo x l with
    | some (x2, r) => er = 0 ∧ q2 = (true, r) ∧ { x with mo := txL 12 q0 } = x2
    | none => er = 0 → q2.1 = false := by
  subst h0
  unfold body_mo
  have k0 := lk_tx 12 l
  cases e0 : manyP 12 l with
  | none =>
    rw [e0] at k0
    intro _
    rw [h2]
    exact mk_f _ (by rw [h1]; exact k0)
  | some p0 =>
    obtain ⟨t0, r0⟩ := p0
    rw [e0] at k0
    obtain ⟨a0, b0, c0⟩ := k0
    have g1 : q1 = (true, r0) := by rw [h1]; exact a0
    rw [thn_some]
    subst g1
    by_cases hx : x.mo = []
    · rw [if_pos hx] at he ⊢
      have ks := lk_semi ({ x with mo := t0 } : Loc) r0
      show match semi ({ x with mo := t0 } : Loc) r0 with
        | some (x2, r) => _ ∧ _ ∧ _
        | none => _
      cases es : semi ({ x with mo := t0 } : Loc) r0 with
      | none =>
        rw [es] at ks
        intro _
        rw [h2]; exact ks
      | some p =>
        obtain ⟨y, r⟩ := p
        rw [es] at ks
        obtain ⟨s1, s2⟩ := ks
        refine ⟨he, by rw [h2]; exact s1, ?_⟩
        rw [s2, b0]
    · rw [if_neg hx] at he ⊢
      intro e
      rw [he] at e
      cases e
set_option maxRecDepth 1000000 in
set_option maxHeartbeats 8000000 in
theorem months_z (g B0 : Nat) (m : PMem) (ok : Bool) (ts : List KT) (t : Tab) (x : Loc) (w : World) (h : PI g B0 m ok ts t x w) :
    Calls Tryz.prog 263 #[.pointer (some ⟨g, 0, none⟩)] w (ItP g B0 t (body_mo x ts) ok w) := by
  obtain ⟨q0, hq0⟩ : ∃ q0 : Bool × List KT, (ok, ts) = q0 := ⟨_, rfl⟩
  have HQ0 := Lib.hid hq0
  have hP : PI g B0 m q0.1 q0.2 t x w := by rw [← hq0]; exact h
  have P0 := Lib.hid hP
  have c6 : w.cell? ⟨g, 18, none⟩ = some (.slice m.cu.mo.a m.cu.mo.n m.cu.mo.c) := h.pl.blk.cell 18
  have hlen : m.cu.mo.n = x.mo.length := h.p1.mo.now.len.symm
  rw [hlen] at c6
  obtain ⟨ma, hma⟩ : ∃ a, m.cu.mo.a = a := ⟨_, rfl⟩
  obtain ⟨mc, hmc⟩ : ∃ a, m.cu.mo.c = a := ⟨_, rfl⟩
  rw [hma, hmc] at c6
  obtain ⟨N, hN⟩ : ∃ N, x.mo.length = N := ⟨_, rfl⟩
  have HN := Lib.hid hN
  rw [hN] at c6
  obtain ⟨b0, hb0⟩ : ∃ b, decide (0 < N) = b := ⟨_, rfl⟩
  have HB0 := Lib.hid hb0
  have n1 : decide ((0 : Int) < (N : Int)) = b0 := by
    rw [← hb0]
    by_cases h1 : 0 < N
    · rw [decide_eq_true h1, decide_eq_true (by omega)]
    · rw [decide_eq_false h1, decide_eq_false (by omega)]
  clear h hq0 hP hlen hma hmc hN
  go_enter Tryz.func263, Tryz.ntmps263
  go_wp2_with fail
  refine (once_any b0 _).mono ?_
  rintro e w' ⟨rfl, hw⟩
  obtain rfl := hw.symm
  obtain ⟨er, her⟩ : ∃ er : Int, (if b0 = true then (9 : Int) else 0) = er := ⟨_, rfl⟩
  have HER := Lib.hid her
  rw [her]
  clear her n1 hb0
  go_wp2_with fail
  refine (texts_z g B0 m q0.1 q0.2 12 (by decide) _ P0.out.pl).mono ?_
  rintro e w1 ⟨⟨D, rfl, hD, kD⟩, hq⟩
  obtain ⟨q1, hq1⟩ : ∃ q : Bool × List KT, q = txS 12 q0 := ⟨_, rfl⟩
  have HQ1 := Lib.hid hq1
  obtain ⟨m1, hs1, hp1, hb1⟩ := P0.out.read (q := q1) (by rw [hq1]; exact hq) (fun h => t_of (fun h => tx_f 12 h) (by rw [← hq1]; exact h))
  have P1 := Lib.hid hp1
  have B1 := Lib.hid hb1
  have hDg : D ≠ g := by have := P0.out.pl.blk.lt; omega
  obtain ⟨L, hL⟩ : ∃ L, txL 12 q0 = L := ⟨_, rfl⟩
  have kD' : Blk D 9 (cellsA L 12) w1 := by rw [← hL]; exact kD
  have HTL := Lib.hid hL
  have hll : L.length = 12 := by rw [← hL]; exact txL_len _ _
  have KD := Lib.hid kD'
  have HLL := Lib.hid hll
  clear hq hq1 hs1 hp1 hb1 c6 kD kD' hL hll
  have c6 : w1.cell? ⟨g, 18, none⟩ = some (.slice m1.cu.mo.a m1.cu.mo.n m1.cu.mo.c) := P1.out.pl.blk.cell 18
  have f6 : w1.frozen? ⟨g, 18, none⟩ = false := P1.out.pl.blk.frozen 18
  have bS := But.setCell g w1 18 (.slice (some ⟨D, 0, none⟩) 12 12)
  have HK : Kp (Up g (Wr1 g m1)) (w1.setCell ⟨g, 18, none⟩ (.slice (some ⟨D, 0, none⟩) 12 12)) (fun w => Rd 1 encT w (.slice (some ⟨D, 0, none⟩) 12 12) L) :=
    (kp_of_own (S := Up g (Wr1 g m1)) (own_of_blk KD.out HLL.out (by decide)) encT_len (fun b e => by
      obtain rfl : D = b := by simpa [Value.ownBlock] using e
      exact fun e => e.elim (fun e => by have := P0.out.pl.blk.lt; omega) (P1.out.apart KD.out (by decide)))).step (Fw.of_but bS (.inr wr_g)) (fun _ _ h => h)
  have P2 := Lib.hid (P1.out.put (x' := { x with mo := L }) bS { m1.cu with mo := ⟨some ⟨D, 0, none⟩, 12, 12⟩ } (P1.out.pl.blk.put 18 (.slice (some ⟨D, 0, none⟩) 12 12)) ⟨rfl, rfl, rfl, rfl, rfl⟩ (fun p => ⟨p.tag, p.par, p.dir, p.sy, p.ca, p.oc, p.ap, p.li, p.un, p.da, HK, p.dy⟩) ⟨P1.out.bx.ca, P1.out.bx.oc, P1.out.bx.li, P1.out.bx.un, P1.out.bx.da⟩ P1.out.sz)
  have B2 := Lib.hid (B1.out.trans bS)
  clear bS HK hD hDg
  go_wp2_with fail
  refine (mark_z g B0 _ q1.1 q1.2 ⟨#[59]⟩ _ P2.out.pl).mono ?_
  rw [show (ByteArray.mk #[59]).data.toList = [59] from rfl]
  rintro e w3 ⟨rfl, hq⟩
  obtain ⟨q2, hq2⟩ : ∃ q : Bool × List KT, q = mkS [59] q1 := ⟨_, rfl⟩
  have HQ2 := Lib.hid hq2
  obtain ⟨m3, hs3, hp3, hb3⟩ := P2.out.read (q := q2) (by rw [hq2]; exact hq) (fun h => t_of (fun h => mk_f _ h) (by rw [← hq2]; exact h))
  have P3 := Lib.hid hp3
  have B3 := Lib.hid (B2.out.trans hb3)
  clear hq hq2 hs3 hp3 hb3 c6 f6
  go_wp2
  go_ret
  have hsp := fun e : ok = true => spec_mo x ts (q0 := q0) (by rw [← HQ0.out, e]) HQ1.out HQ2.out (er := er) (by
    rw [← HER.out, ← HB0.out, ← HN.out]
    by_cases hd : x.mo = []
    · rw [if_pos hd, hd]; rfl
    · rw [if_neg hd, if_pos (decide_eq_true (List.length_pos_iff.2 hd))])
  rw [HTL.out] at hsp
  refine ⟨er, m3, q2, _, rfl, P3.out, P0.out.bel_but B3.out, P0.out.kt_but B3.out, fun e => ?_, fun e => ?_⟩
  · rw [HQ2.out]; exact mk_f _ (by rw [HQ1.out]; exact tx_f 12 (by rw [← HQ0.out]; exact e))
  · exact hsp e
def body_dy (x : Loc) (l : Ts) : Option (Loc × Ts) := thn (manyP 7 l) fun ts r => if x.dy = [] then semi { x with dy := ts } r else none
theorem spec_dy (x : Loc) (l : List KT) {q0 q1 q2 : Bool × List KT} (h0 : q0 = (true, l)) (h1 : q1 = txS 7 q0) (h2 : q2 = mkS [59] q1) {er : Int} (he : er = if x.dy = [] then 0 else 9) :
    match body_dy x l with
    | some (x2, r) => er = 0 ∧ q2 = (true, r) ∧ { x with dy := txL 7 q0 } = x2
    | none => er = 0 → q2.1 = false := by
  subst h0
  unfold body_dy
  have k0 := lk_tx 7 l
  cases e0 : manyP 7 l with
  | none =>
    rw [e0] at k0
    intro _
    rw [h2]
    exact mk_f _ (by rw [h1]; exact k0)
  | some p0 =>
    obtain ⟨t0, r0⟩ := p0
    rw [e0] at k0
    obtain ⟨a0, b0, c0⟩ := k0
    have g1 : q1 = (true, r0) := by rw [h1]; exact a0
    rw [thn_some]
    subst g1
    by_cases hx : x.dy = []
    · rw [if_pos hx] at he ⊢
      have ks := lk_semi ({ x with dy := t0 } : Loc) r0
      show match semi ({ x with dy := t0 } : Loc) r0 with
        | some (x2, r) => _ ∧ _ ∧ _
        | none => _
      cases es : semi ({ x with dy := t0 } : Loc) r0 with
      | none =>
        rw [es] at ks
        intro _
        rw [h2]; exact ks
      | some p =>
        obtain ⟨y, r⟩ := p
        rw [es] at ks
        obtain ⟨s1, s2⟩ := ks
        refine ⟨he, by rw [h2]; exact s1, ?_⟩
        rw [s2, b0]
    · rw [if_neg hx] at he ⊢
      intro e
      rw [he] at e
      cases e
set_option maxRecDepth 1000000 in
set_option maxHeartbeats 8000000 in
theorem days_z (g B0 : Nat) (m : PMem) (ok : Bool) (ts : List KT) (t : Tab) (x : Loc) (w : World) (h : PI g B0 m ok ts t x w) :
    Calls Tryz.prog 264 #[.pointer (some ⟨g, 0, none⟩)] w (ItP g B0 t (body_dy x ts) ok w) := by
  obtain ⟨q0, hq0⟩ : ∃ q0 : Bool × List KT, (ok, ts) = q0 := ⟨_, rfl⟩
  have HQ0 := Lib.hid hq0
  have hP : PI g B0 m q0.1 q0.2 t x w := by rw [← hq0]; exact h
  have P0 := Lib.hid hP
  have c6 : w.cell? ⟨g, 19, none⟩ = some (.slice m.cu.dy.a m.cu.dy.n m.cu.dy.c) := h.pl.blk.cell 19
  have hlen : m.cu.dy.n = x.dy.length := h.p1.dy.now.len.symm
  rw [hlen] at c6
  obtain ⟨ma, hma⟩ : ∃ a, m.cu.dy.a = a := ⟨_, rfl⟩
  obtain ⟨mc, hmc⟩ : ∃ a, m.cu.dy.c = a := ⟨_, rfl⟩
  rw [hma, hmc] at c6
  obtain ⟨N, hN⟩ : ∃ N, x.dy.length = N := ⟨_, rfl⟩
  have HN := Lib.hid hN
  rw [hN] at c6
  obtain ⟨b0, hb0⟩ : ∃ b, decide (0 < N) = b := ⟨_, rfl⟩
  have HB0 := Lib.hid hb0
  have n1 : decide ((0 : Int) < (N : Int)) = b0 := by
    rw [← hb0]
    by_cases h1 : 0 < N
    · rw [decide_eq_true h1, decide_eq_true (by omega)]
    · rw [decide_eq_false h1, decide_eq_false (by omega)]
  clear h hq0 hP hlen hma hmc hN
  go_enter Tryz.func264, Tryz.ntmps264
  go_wp2_with fail
  refine (once_any b0 _).mono ?_
  rintro e w' ⟨rfl, hw⟩
  obtain rfl := hw.symm
  obtain ⟨er, her⟩ : ∃ er : Int, (if b0 = true then (9 : Int) else 0) = er := ⟨_, rfl⟩
  have HER := Lib.hid her
  rw [her]
  clear her n1 hb0
  go_wp2_with fail
  refine (texts_z g B0 m q0.1 q0.2 7 (by decide) _ P0.out.pl).mono ?_
  rintro e w1 ⟨⟨D, rfl, hD, kD⟩, hq⟩
  obtain ⟨q1, hq1⟩ : ∃ q : Bool × List KT, q = txS 7 q0 := ⟨_, rfl⟩
  have HQ1 := Lib.hid hq1
  obtain ⟨m1, hs1, hp1, hb1⟩ := P0.out.read (q := q1) (by rw [hq1]; exact hq) (fun h => t_of (fun h => tx_f 7 h) (by rw [← hq1]; exact h))
  have P1 := Lib.hid hp1
  have B1 := Lib.hid hb1
  have hDg : D ≠ g := by have := P0.out.pl.blk.lt; omega
  obtain ⟨L, hL⟩ : ∃ L, txL 7 q0 = L := ⟨_, rfl⟩
  have kD' : Blk D 9 (cellsA L 7) w1 := by rw [← hL]; exact kD
  have HTL := Lib.hid hL
  have hll : L.length = 7 := by rw [← hL]; exact txL_len _ _
  have KD := Lib.hid kD'
  have HLL := Lib.hid hll
  clear hq hq1 hs1 hp1 hb1 c6 kD kD' hL hll
  have c6 : w1.cell? ⟨g, 19, none⟩ = some (.slice m1.cu.dy.a m1.cu.dy.n m1.cu.dy.c) := P1.out.pl.blk.cell 19
  have f6 : w1.frozen? ⟨g, 19, none⟩ = false := P1.out.pl.blk.frozen 19
  have bS := But.setCell g w1 19 (.slice (some ⟨D, 0, none⟩) 7 7)
  have HK : Kp (Up g (Wr1 g m1)) (w1.setCell ⟨g, 19, none⟩ (.slice (some ⟨D, 0, none⟩) 7 7)) (fun w => Rd 1 encT w (.slice (some ⟨D, 0, none⟩) 7 7) L) :=
    (kp_of_own (S := Up g (Wr1 g m1)) (own_of_blk KD.out HLL.out (by decide)) encT_len (fun b e => by
      obtain rfl : D = b := by simpa [Value.ownBlock] using e
      exact fun e => e.elim (fun e => by have := P0.out.pl.blk.lt; omega) (P1.out.apart KD.out (by decide)))).step (Fw.of_but bS (.inr wr_g)) (fun _ _ h => h)
  have P2 := Lib.hid (P1.out.put (x' := { x with dy := L }) bS { m1.cu with dy := ⟨some ⟨D, 0, none⟩, 7, 7⟩ } (P1.out.pl.blk.put 19 (.slice (some ⟨D, 0, none⟩) 7 7)) ⟨rfl, rfl, rfl, rfl, rfl⟩ (fun p => ⟨p.tag, p.par, p.dir, p.sy, p.ca, p.oc, p.ap, p.li, p.un, p.da, p.mo, HK⟩) ⟨P1.out.bx.ca, P1.out.bx.oc, P1.out.bx.li, P1.out.bx.un, P1.out.bx.da⟩ P1.out.sz)
  have B2 := Lib.hid (B1.out.trans bS)
  clear bS HK hD hDg
  go_wp2_with fail
  refine (mark_z g B0 _ q1.1 q1.2 ⟨#[59]⟩ _ P2.out.pl).mono ?_
  rw [show (ByteArray.mk #[59]).data.toList = [59] from rfl]
  rintro e w3 ⟨rfl, hq⟩
  obtain ⟨q2, hq2⟩ : ∃ q : Bool × List KT, q = mkS [59] q1 := ⟨_, rfl⟩
  have HQ2 := Lib.hid hq2
  obtain ⟨m3, hs3, hp3, hb3⟩ := P2.out.read (q := q2) (by rw [hq2]; exact hq) (fun h => t_of (fun h => mk_f _ h) (by rw [← hq2]; exact h))
  have P3 := Lib.hid hp3
  have B3 := Lib.hid (B2.out.trans hb3)
  clear hq hq2 hs3 hp3 hb3 c6 f6
  go_wp2
  go_ret
  have hsp := fun e : ok = true => spec_dy x ts (q0 := q0) (by rw [← HQ0.out, e]) HQ1.out HQ2.out (er := er) (by
    rw [← HER.out, ← HB0.out, ← HN.out]
    by_cases hd : x.dy = []
    · rw [if_pos hd, hd]; rfl
    · rw [if_neg hd, if_pos (decide_eq_true (List.length_pos_iff.2 hd))])
  rw [HTL.out] at hsp
  refine ⟨er, m3, q2, _, rfl, P3.out, P0.out.bel_but B3.out, P0.out.kt_but B3.out, fun e => ?_, fun e => ?_⟩
  · rw [HQ2.out]; exact mk_f _ (by rw [HQ1.out]; exact tx_f 7 (by rw [← HQ0.out]; exact e))
  · exact hsp e
end Go.Proofs.YtpmmchppfmojhaaGreatDoor


/- Of the program's table parser: the items symbols, cardinal, ordinal. -/
namespace Go.Proofs.YtpmmchppfmojhaaGreatDoor
open Go.RowKit
set_option linter.unusedVariables false

def body_sy (x : Loc) (l : Ts) : Option (Loc × Ts) := thn (manyP 4 l) fun ts r => thn (numP 9 r) fun p r => thn (numP 9 r) fun s r =>
  if ts.getD 0 [] = [] then none else if x.sy.de = [] then semi { x with sy := ⟨ts.getD 0 [], ts.getD 1 [], ts.getD 2 [], ts.getD 3 [], p, s⟩ } r else none
theorem spec_sy (x : Loc) (l : List KT) {q0 qr q1 q2 q3 q4 q5 q6 q7 : Bool × List KT} (h0 : q0 = (true, l)) (hr : qr = reqS (decide ((hdK q0.2).2 ≠ [])) q0) (h1 : q1 = rdS 2 qr) (h2 : q2 = rdS 2 q1) (h3 : q3 = rdS 2 q2) (h4 : q4 = rdS 2 q3) (h5 : q5 = nuS 9 q4) (h6 : q6 = nuS 9 q5) (h7 : q7 = mkS [59] q6) {er : Int} (he : er = if x.sy = sym0 then 0 else 9) (hs : x.sy = sym0 ∨ x.sy.de ≠ []) :
    match body_sy x l with
    | some (x2, r) => er = 0 ∧ q7 = (true, r) ∧ { x with sy := ⟨(hdK qr.2).2, (hdK q1.2).2, (hdK q2.2).2, (hdK q3.2).2, ((numR (hdK q4.2).2).1 : Int), ((numR (hdK q5.2).2).1 : Int)⟩ } = x2
    | none => er = 0 → q7.1 = false := by
  subst h0
  dsimp only at hr
  by_cases hne : (hdK l).2 = []
  · -- no decimal sign
    have hf : qr.1 = false := by rw [hr, decide_eq_false (by simpa using hne)]; rfl
    have f7 : q7.1 = false := by
      rw [h7]; refine mk_f _ ?_; rw [h6]; refine nu_f _ ?_; rw [h5]; refine nu_f _ ?_; rw [h4]; refine rd_f 2 ?_; rw [h3]; refine rd_f 2 ?_; rw [h2]; refine rd_f 2 ?_; rw [h1]; exact rd_f 2 hf
    unfold body_sy
    have k0 := lk_tx 4 l
    cases e0 : manyP 4 l with
    | none => intro _; exact f7
    | some p0 =>
      obtain ⟨t0, r0⟩ := p0
      rw [e0] at k0
      obtain ⟨a0, b0, c0⟩ := k0
      have hd : t0.getD 0 [] = [] := by
        rw [← b0]
        show (hdK l).2 = []
        exact hne
      rw [thn_some]
      cases e1 : numP 9 r0 with
      | none => intro _; exact f7
      | some p1 =>
        rw [thn]
        cases e2 : numP 9 p1.2 with
        | none => intro _; exact f7
        | some p2 =>
          rw [thn]
          rw [if_pos hd]
          intro _; exact f7
  · have er0 : qr = (true, l) := by rw [hr, decide_eq_true (by simpa using hne)]; rfl
    subst er0
    unfold body_sy
    have k0 := lk_tx 4 l
    have e4 : q4 = txS 4 (true, l) := by rw [h4, h3, h2, h1]; rfl
    have eL : txL 4 (true, l) = [(hdK l).2, (hdK q1.2).2, (hdK q2.2).2, (hdK q3.2).2] := by rw [h3, h2, h1]; rfl
    cases e0 : manyP 4 l with
    | none =>
      rw [e0] at k0
      intro _
      rw [h7]; refine mk_f _ ?_; rw [h6]; refine nu_f _ ?_; rw [h5]; refine nu_f _ ?_; rw [e4]; exact k0
    | some p0 =>
      obtain ⟨t0, r0⟩ := p0
      rw [e0] at k0
      obtain ⟨a0, b0, c0⟩ := k0
      have g4 : q4 = (true, r0) := e4.trans a0
      rw [thn_some]
      rw [eL] at b0
      subst b0 g4
      have k1 := lk_nu 9 r0
      cases e1 : numP 9 r0 with
      | none =>
        rw [e1] at k1
        intro _
        rw [h7]; refine mk_f _ ?_; rw [h6]; refine nu_f _ ?_; rw [h5]; exact k1
      | some p1 =>
        obtain ⟨v1, r1⟩ := p1
        rw [e1] at k1
        obtain ⟨a1, b1⟩ := k1
        have g5 : q5 = (true, r1) := by rw [h5]; exact a1
        rw [thn_some]
        subst g5
        have k2 := lk_nu 9 r1
        cases e2 : numP 9 r1 with
        | none =>
          rw [e2] at k2
          intro _
          rw [h7]; refine mk_f _ ?_; rw [h6]; exact k2
        | some p2 =>
          obtain ⟨v2, r2⟩ := p2
          rw [e2] at k2
          obtain ⟨a2, b2⟩ := k2
          have g6 : q6 = (true, r2) := by rw [h6]; exact a2
          rw [thn_some, if_neg (by exact hne)]
          subst g6
          dsimp only at b1 b2 ⊢
          rw [b1, b2]
          by_cases hx : x.sy = sym0
          · have hde : x.sy.de = [] := by rw [hx]; rfl
            rw [if_pos hde]
            rw [if_pos hx] at he
            obtain ⟨X, hX⟩ : ∃ X : Loc, ({ x with sy := ⟨(hdK l).2, (hdK q1.2).2, (hdK q2.2).2, (hdK q3.2).2, (v1 : Int), (v2 : Int)⟩ } : Loc) = X := ⟨_, rfl⟩
            have hX' : ({ x with sy := ⟨[(hdK l).2, (hdK q1.2).2, (hdK q2.2).2, (hdK q3.2).2].getD 0 [], [(hdK l).2, (hdK q1.2).2, (hdK q2.2).2, (hdK q3.2).2].getD 1 [], [(hdK l).2, (hdK q1.2).2, (hdK q2.2).2, (hdK q3.2).2].getD 2 [], [(hdK l).2, (hdK q1.2).2, (hdK q2.2).2, (hdK q3.2).2].getD 3 [], (v1 : Int), (v2 : Int)⟩ } : Loc) = X := hX
            rw [hX, hX']
            have ks := lk_semi X r2
            cases es : semi X r2 with
            | none =>
              rw [es] at ks
              intro _
              rw [h7]; exact ks
            | some p =>
              obtain ⟨y, r⟩ := p
              rw [es] at ks
              obtain ⟨s1, s2⟩ := ks
              exact ⟨he, by rw [h7]; exact s1, s2.symm⟩
          · have hde : x.sy.de ≠ [] := hs.resolve_left hx
            rw [if_neg hde]
            rw [if_neg hx] at he
            intro e
            rw [he] at e
            cases e
end Go.Proofs.YtpmmchppfmojhaaGreatDoor


/- Of the program's table parser: the item symbols. -/
namespace Go.Proofs.YtpmmchppfmojhaaGreatDoor
open Go.RowKit
set_option linter.unusedVariables false

set_option maxRecDepth 1000000 in
set_option maxHeartbeats 8000000 in
theorem symbols_z (g B0 : Nat) (m : PMem) (ok : Bool) (ts : List KT) (t : Tab) (x : Loc) (w : World) (h : PI g B0 m ok ts t x w) :
    Calls Tryz.prog 259 #[.pointer (some ⟨g, 0, none⟩)] w (ItP g B0 t (body_sy x ts) ok w) := by
  obtain ⟨q, hq0⟩ : ∃ q0 : Bool × List KT, (ok, ts) = q0 := ⟨_, rfl⟩
  have HQ := Lib.hid hq0
  have hP : PI g B0 m q.1 q.2 t x w := by rw [← hq0]; exact h
  have P := Lib.hid hP
  have c9 : w.cell? ⟨g, 9, none⟩ = some (.string (ofL x.sy.de)) := by rw [← h.p1.sy]; exact h.pl.blk.cell 9
  have c10 : w.cell? ⟨g, 10, none⟩ = some (.string (ofL x.sy.gr)) := by rw [← h.p1.sy]; exact h.pl.blk.cell 10
  have c11 : w.cell? ⟨g, 11, none⟩ = some (.string (ofL x.sy.mi)) := by rw [← h.p1.sy]; exact h.pl.blk.cell 11
  have c12 : w.cell? ⟨g, 12, none⟩ = some (.string (ofL x.sy.pe)) := by rw [← h.p1.sy]; exact h.pl.blk.cell 12
  have c13 : w.cell? ⟨g, 13, none⟩ = some (.int .i64 x.sy.pr) := by rw [← h.p1.sy]; exact h.pl.blk.cell 13
  have c14 : w.cell? ⟨g, 14, none⟩ = some (.int .i64 x.sy.se) := by rw [← h.p1.sy]; exact h.pl.blk.cell 14
  obtain ⟨b0, hb0⟩ : ∃ b, decide (x.sy = sym0) = b := ⟨_, rfl⟩
  have HB0 := Lib.hid hb0
  have n1 : ∀ wx, (Op.equalIn 10000 45 (.agg #[.string (ofL x.sy.de), .string (ofL x.sy.gr), .string (ofL x.sy.mi), .string (ofL x.sy.pe), .int .i64 x.sy.pr, .int .i64 x.sy.se]) (.agg #[.string ⟨#[]⟩, .string ⟨#[]⟩, .string ⟨#[]⟩, .string ⟨#[]⟩, .int .i64 0, .int .i64 0])).run Tryz.prog wx = .ok b0 wx := fun wx => by
    have := eqSy x.sy sym0 wx
    rw [hb0] at this
    exact this
  have HS := Lib.hid h.sz
  clear h hq0 hP hb0
  go_enter Tryz.func259, Tryz.ntmps259
  go_wp2_with fail
  refine (once_any (!b0) _).mono ?_
  rintro e w' ⟨rfl, hw⟩
  obtain rfl := hw.symm
  obtain ⟨er, her⟩ : ∃ er : Int, (if (!b0) = true then (9 : Int) else 0) = er := ⟨_, rfl⟩
  have HER := Lib.hid her
  rw [her]
  clear her n1 c9 c10 c11 c12 c13 c14
  obtain ⟨off, fr, d0, hn, t0, t1, t2, _, cf⟩ := P.out.pl.facts
  obtain ⟨n1, n2, n3⟩ := nil_eqs (hdK q.2).2
  obtain ⟨b1, hb1⟩ : ∃ b, decide ((hdK q.2).2 = []) = b := ⟨_, rfl⟩
  have HB1 := Lib.hid hb1
  rw [hb1] at n1 n2 n3
  clear hb1 cf t0 t2
  go_wp2_with fail
  refine (require_z g B0 m q.1 q.2 (!b1) 3 (by decide) _ P.out.pl).mono ?_
  rintro e w0 ⟨rfl, hq⟩
  obtain ⟨q0, hq0⟩ : ∃ q' : Bool × List KT, q' = reqS (!b1) q := ⟨_, rfl⟩
  have HQ0 := Lib.hid hq0
  obtain ⟨m0, hs0, hp0, hb0⟩ := P.out.read (q := q0) (by rw [hq0]; exact hq) (fun h => t_of (fun h => req_f _ h) (by rw [← hq0]; exact h))
  have P0 := Lib.hid hp0
  have B0' := Lib.hid hb0
  clear hq hq0 hs0 hp0 hb0 n1 n2 n3 d0 hn t1
  go_wp2_with fail
  refine (text_z g B0 m0 q0.1 q0.2 _ P0.out.pl).mono ?_
  rintro e w1 ⟨rfl, hq⟩
  obtain ⟨q1, hq1⟩ : ∃ q : Bool × List KT, q = rdS 2 q0 := ⟨_, rfl⟩
  have HQ1 := Lib.hid hq1
  obtain ⟨m1, hs1, hp1, hb1⟩ := P0.out.read (q := q1) (by rw [hq1]; exact hq) (fun h => t_of (fun h => rd_f 2 h) (by rw [← hq1]; exact h))
  have P1 := Lib.hid hp1
  have B1 := Lib.hid (B0'.out.trans hb1)
  obtain ⟨tx0, htx0⟩ : ∃ tx, (hdK q0.2).2 = tx := ⟨_, rfl⟩
  have HT0 := Lib.hid htx0
  rw [htx0]
  clear hq hq1 hs1 hp1 hb1 htx0
  go_wp2_with fail
  refine (text_z g B0 m1 q1.1 q1.2 _ P1.out.pl).mono ?_
  rintro e w2 ⟨rfl, hq⟩
  obtain ⟨q2, hq2⟩ : ∃ q : Bool × List KT, q = rdS 2 q1 := ⟨_, rfl⟩
  have HQ2 := Lib.hid hq2
  obtain ⟨m2, hs2, hp2, hb2⟩ := P1.out.read (q := q2) (by rw [hq2]; exact hq) (fun h => t_of (fun h => rd_f 2 h) (by rw [← hq2]; exact h))
  have P2 := Lib.hid hp2
  have B2 := Lib.hid (B1.out.trans hb2)
  obtain ⟨tx1, htx1⟩ : ∃ tx, (hdK q1.2).2 = tx := ⟨_, rfl⟩
  have HT1 := Lib.hid htx1
  rw [htx1]
  clear hq hq2 hs2 hp2 hb2 htx1
  go_wp2_with fail
  refine (text_z g B0 m2 q2.1 q2.2 _ P2.out.pl).mono ?_
  rintro e w3 ⟨rfl, hq⟩
  obtain ⟨q3, hq3⟩ : ∃ q : Bool × List KT, q = rdS 2 q2 := ⟨_, rfl⟩
  have HQ3 := Lib.hid hq3
  obtain ⟨m3, hs3, hp3, hb3⟩ := P2.out.read (q := q3) (by rw [hq3]; exact hq) (fun h => t_of (fun h => rd_f 2 h) (by rw [← hq3]; exact h))
  have P3 := Lib.hid hp3
  have B3 := Lib.hid (B2.out.trans hb3)
  obtain ⟨tx2, htx2⟩ : ∃ tx, (hdK q2.2).2 = tx := ⟨_, rfl⟩
  have HT2 := Lib.hid htx2
  rw [htx2]
  clear hq hq3 hs3 hp3 hb3 htx2
  go_wp2_with fail
  refine (text_z g B0 m3 q3.1 q3.2 _ P3.out.pl).mono ?_
  rintro e w4 ⟨rfl, hq⟩
  obtain ⟨q4, hq4⟩ : ∃ q : Bool × List KT, q = rdS 2 q3 := ⟨_, rfl⟩
  have HQ4 := Lib.hid hq4
  obtain ⟨m4, hs4, hp4, hb4⟩ := P3.out.read (q := q4) (by rw [hq4]; exact hq) (fun h => t_of (fun h => rd_f 2 h) (by rw [← hq4]; exact h))
  have P4 := Lib.hid hp4
  have B4 := Lib.hid (B3.out.trans hb4)
  obtain ⟨tx3, htx3⟩ : ∃ tx, (hdK q3.2).2 = tx := ⟨_, rfl⟩
  have HT3 := Lib.hid htx3
  rw [htx3]
  clear hq hq4 hs4 hp4 hb4 htx3
  go_wp2_with fail
  refine (number_z g B0 m4 q4.1 q4.2 9 _ P4.out.pl).mono ?_
  rintro e w5 ⟨rfl, hq⟩
  obtain ⟨q5, hq5⟩ : ∃ q : Bool × List KT, q = nuS 9 q4 := ⟨_, rfl⟩
  have HQ5 := Lib.hid hq5
  obtain ⟨m5, hs5, hp5, hb5⟩ := P4.out.read (q := q5) (by rw [hq5]; exact hq) (fun h => t_of (fun h => nu_f _ h) (by rw [← hq5]; exact h))
  have P5 := Lib.hid hp5
  have B5 := Lib.hid (B4.out.trans hb5)
  obtain ⟨nn4, htx4⟩ : ∃ nn, numR (hdK q4.2).2 = nn := ⟨_, rfl⟩
  have HT4 := Lib.hid htx4
  rw [htx4]
  obtain ⟨tx4, bb4⟩ := nn4
  dsimp only
  clear hq hq5 hs5 hp5 hb5 htx4
  go_wp2_with fail
  refine (number_z g B0 m5 q5.1 q5.2 9 _ P5.out.pl).mono ?_
  rintro e w6 ⟨rfl, hq⟩
  obtain ⟨q6, hq6⟩ : ∃ q : Bool × List KT, q = nuS 9 q5 := ⟨_, rfl⟩
  have HQ6 := Lib.hid hq6
  obtain ⟨m6, hs6, hp6, hb6⟩ := P5.out.read (q := q6) (by rw [hq6]; exact hq) (fun h => t_of (fun h => nu_f _ h) (by rw [← hq6]; exact h))
  have P6 := Lib.hid hp6
  have B6 := Lib.hid (B5.out.trans hb6)
  obtain ⟨nn5, htx5⟩ : ∃ nn, numR (hdK q5.2).2 = nn := ⟨_, rfl⟩
  have HT5 := Lib.hid htx5
  rw [htx5]
  obtain ⟨tx5, bb5⟩ := nn5
  dsimp only
  clear hq hq6 hs6 hp6 hb6 htx5
  have c9 : w6.cell? ⟨g, 9, none⟩ = some (.string (ofL m6.cu.sy.de)) := P6.out.pl.blk.cell 9
  have f9 : w6.frozen? ⟨g, 9, none⟩ = false := P6.out.pl.blk.frozen 9
  have c10 : w6.cell? ⟨g, 10, none⟩ = some (.string (ofL m6.cu.sy.gr)) := P6.out.pl.blk.cell 10
  have f10 : w6.frozen? ⟨g, 10, none⟩ = false := P6.out.pl.blk.frozen 10
  have c11 : w6.cell? ⟨g, 11, none⟩ = some (.string (ofL m6.cu.sy.mi)) := P6.out.pl.blk.cell 11
  have f11 : w6.frozen? ⟨g, 11, none⟩ = false := P6.out.pl.blk.frozen 11
  have c12 : w6.cell? ⟨g, 12, none⟩ = some (.string (ofL m6.cu.sy.pe)) := P6.out.pl.blk.cell 12
  have f12 : w6.frozen? ⟨g, 12, none⟩ = false := P6.out.pl.blk.frozen 12
  have c13 : w6.cell? ⟨g, 13, none⟩ = some (.int .i64 m6.cu.sy.pr) := P6.out.pl.blk.cell 13
  have f13 : w6.frozen? ⟨g, 13, none⟩ = false := P6.out.pl.blk.frozen 13
  have c14 : w6.cell? ⟨g, 14, none⟩ = some (.int .i64 m6.cu.sy.se) := P6.out.pl.blk.cell 14
  have f14 : w6.frozen? ⟨g, 14, none⟩ = false := P6.out.pl.blk.frozen 14
  have HNE : Hid (q6.1 = true → tx0 ≠ []) := Lib.hid (fun h => by
    have e0 : q0.1 = true := t_of (f := rdS 2) (fun h => rd_f 2 h) (t_of (f := rdS 2) (fun h => rd_f 2 h) (t_of (f := rdS 2) (fun h => rd_f 2 h) (t_of (f := rdS 2) (fun h => rd_f 2 h) (t_of (f := nuS 9) (fun h => nu_f _ h) (t_of (f := nuS 9) (fun h => nu_f _ h) (by rw [← HQ1.out, ← HQ2.out, ← HQ3.out, ← HQ4.out, ← HQ5.out, ← HQ6.out]; exact h))))))
    rw [HQ0.out] at e0
    have e1 : (!b1) = true := by unfold reqS at e0; simp at e0; simp [e0.2]
    have e2 : b1 = false := by simpa using e1
    have e3 := HB1.out
    rw [e2] at e3
    have e4 : q0.2 = q.2 := by rw [HQ0.out]; rfl
    rw [← HT0.out, e4]
    exact of_decide_eq_false e3)
  have bS : But g w6 ((((((w6.setCell ⟨g, 9, none⟩ (.string (ofL tx0))).setCell ⟨g, 10, none⟩ (.string (ofL tx1))).setCell ⟨g, 11, none⟩ (.string (ofL tx2))).setCell ⟨g, 12, none⟩ (.string (ofL tx3))).setCell ⟨g, 13, none⟩ (.int .i64 (tx4 : Int))).setCell ⟨g, 14, none⟩ (.int .i64 (tx5 : Int))) := (((((But.setCell g w6 9 (.string (ofL tx0))).trans (But.setCell g (w6.setCell ⟨g, 9, none⟩ (.string (ofL tx0))) 10 (.string (ofL tx1)))).trans (But.setCell g ((w6.setCell ⟨g, 9, none⟩ (.string (ofL tx0))).setCell ⟨g, 10, none⟩ (.string (ofL tx1))) 11 (.string (ofL tx2)))).trans (But.setCell g (((w6.setCell ⟨g, 9, none⟩ (.string (ofL tx0))).setCell ⟨g, 10, none⟩ (.string (ofL tx1))).setCell ⟨g, 11, none⟩ (.string (ofL tx2))) 12 (.string (ofL tx3)))).trans (But.setCell g ((((w6.setCell ⟨g, 9, none⟩ (.string (ofL tx0))).setCell ⟨g, 10, none⟩ (.string (ofL tx1))).setCell ⟨g, 11, none⟩ (.string (ofL tx2))).setCell ⟨g, 12, none⟩ (.string (ofL tx3))) 13 (.int .i64 (tx4 : Int)))).trans (But.setCell g (((((w6.setCell ⟨g, 9, none⟩ (.string (ofL tx0))).setCell ⟨g, 10, none⟩ (.string (ofL tx1))).setCell ⟨g, 11, none⟩ (.string (ofL tx2))).setCell ⟨g, 12, none⟩ (.string (ofL tx3))).setCell ⟨g, 13, none⟩ (.int .i64 (tx4 : Int))) 14 (.int .i64 (tx5 : Int)))
  have PS := Lib.hid (P6.out.put (x' := { x with sy := ⟨tx0, tx1, tx2, tx3, tx4, tx5⟩ }) bS { m6.cu with sy := ⟨tx0, tx1, tx2, tx3, tx4, tx5⟩ } ((((((P6.out.pl.blk.put 9 (.string (ofL tx0))).put 10 (.string (ofL tx1))).put 11 (.string (ofL tx2))).put 12 (.string (ofL tx3))).put 13 (.int .i64 (tx4 : Int))).put 14 (.int .i64 (tx5 : Int))) ⟨rfl, rfl, rfl, rfl, rfl⟩ (fun p => ⟨p.tag, p.par, p.dir, rfl, p.ca, p.oc, p.ap, p.li, p.un, p.da, p.mo, p.dy⟩) ⟨P6.out.bx.ca, P6.out.bx.oc, P6.out.bx.li, P6.out.bx.un, P6.out.bx.da⟩ (fun e => ⟨.inr (HNE.out e), (P6.out.sz e).2⟩))
  have BS := Lib.hid (B6.out.trans bS)
  clear bS
  go_wp2_with fail
  refine (mark_z g B0 _ q6.1 q6.2 ⟨#[59]⟩ _ PS.out.pl).mono ?_
  rw [show (ByteArray.mk #[59]).data.toList = [59] from rfl]
  rintro e w7 ⟨rfl, hq⟩
  obtain ⟨q7, hq7⟩ : ∃ q : Bool × List KT, q = mkS [59] q6 := ⟨_, rfl⟩
  have HQ7 := Lib.hid hq7
  obtain ⟨m7, hs7, hp7, hb7⟩ := PS.out.read (q := q7) (by rw [hq7]; exact hq) (fun h => t_of (fun h => mk_f _ h) (by rw [← hq7]; exact h))
  have P7 := Lib.hid hp7
  have B7 := Lib.hid (BS.out.trans hb7)
  clear hq hq7 hs7 hp7 hb7
  clear c9 c10 c11 c12 c13 c14 f9 f10 f11 f12 f13 f14
  go_wp2
  go_ret
  have hr : q0 = reqS (decide ((hdK q.2).2 ≠ [])) q := by
    rw [HQ0.out, ← HB1.out]
    congr 1
    by_cases hd : (hdK q.2).2 = []
    · rw [decide_eq_true hd, decide_eq_false (by simpa using hd)]; rfl
    · rw [decide_eq_false hd, decide_eq_true (by simpa using hd)]; rfl
  have hsp := fun e : ok = true => spec_sy x ts (q0 := q) (qr := q0) (by rw [← HQ.out, e]) hr HQ1.out HQ2.out HQ3.out HQ4.out HQ5.out HQ6.out HQ7.out (er := er) (by
    rw [← HER.out]
    by_cases hd : x.sy = sym0
    · have := HB0.out; rw [decide_eq_true hd] at this; rw [← this, if_pos hd]; rfl
    · have := HB0.out; rw [decide_eq_false hd] at this; rw [← this, if_neg hd]; rfl) (HS.out e).1
  rw [HT0.out, HT1.out, HT2.out, HT3.out, HT4.out, HT5.out] at hsp
  refine ⟨er, m7, q7, _, rfl, P7.out, P.out.bel_but B7.out, P.out.kt_but B7.out, fun e => ?_, fun e => ?_⟩
  · rw [HQ7.out]; refine mk_f _ ?_; rw [HQ6.out]; refine nu_f _ ?_; rw [HQ5.out]; refine nu_f _ ?_; rw [HQ4.out]; refine rd_f 2 ?_; rw [HQ3.out]; refine rd_f 2 ?_; rw [HQ2.out]; refine rd_f 2 ?_; rw [HQ1.out]; refine rd_f 2 ?_; rw [HQ0.out]; exact req_f _ (by rw [← HQ.out]; exact e)
  · exact hsp e
end Go.Proofs.YtpmmchppfmojhaaGreatDoor


/- Of the program's table parser: rule, and the items cardinal, ordinal. -/
namespace Go.Proofs.YtpmmchppfmojhaaGreatDoor
open Go.RowKit
set_option linter.unusedVariables false

theorem nodup_lenZ {α : Type} [DecidableEq α] : ∀ (l m : List α), l.Nodup → (∀ x ∈ l, x ∈ m) → l.length ≤ m.length
  | [], m, _, _ => Nat.zero_le _
  | x :: l, m, hn, hs => by
    have hx : x ∈ m := hs x (List.mem_cons_self ..)
    have ih := nodup_lenZ l (m.erase x) (List.nodup_cons.1 hn).2 (fun y hy => (List.mem_erase_of_ne (by rintro rfl; exact (List.nodup_cons.1 hn).1 hy)).2 (hs y (List.mem_cons_of_mem _ hy)))
    rw [List.length_erase_of_mem hx] at ih
    have := List.length_pos_of_mem hx
    rw [List.length_cons]
    omega
theorem RlC.lt {l : List Rul} (h : RlC l) {c : Str} (hc : c ∈ clsL) (hn : c ∉ l.map Prod.fst) : l.length < 5 := by
  have := nodup_lenZ (c :: l.map Prod.fst) clsL (List.nodup_cons.2 ⟨hn, h.1⟩) (fun x hx => by
    rcases List.mem_cons.1 hx with rfl | hx
    · exact hc
    · obtain ⟨u, hu, rfl⟩ := List.mem_map.1 hx
      exact h.2 u hu)
  rw [List.length_cons, List.length_map] at this
  have h5 : clsL.length = 5 := rfl
  omega
theorem RlC.snoc {l : List Rul} (h : RlC l) {u : Rul} (hc : u.1 ∈ clsL) (hn : u.1 ∉ l.map Prod.fst) : RlC (l ++ [u]) := by
  refine ⟨by rw [List.map_append]; exact nd_snoc h.1 hn, fun y hy => ?_⟩
  rcases List.mem_append.1 hy with h1 | h1
  · exact h.2 y h1
  · rw [List.mem_singleton] at h1; rw [h1]; exact hc
theorem res_rule {W : World} {tm : Array Value} {B : Nat} {t : TypeId} {a b : Value} (t2 : tm[2]?.getD undef = .pointer (some ⟨B, 0, none⟩)) (h : Blk B t #[a, b] W) :
    (results Tryz.f302 tm).run Tryz.prog W = .ok (.agg #[a, b]) W := by
  have a0 : W.cell? ⟨B, 0, none⟩ = some a := h.cell 0
  have a1 : W.cell? ⟨B, 1, none⟩ = some b := h.cell 1
  simp [results, Tryz.f302, go_sem, t2, a0, a1]
def ruS (q : Bool × List KT) : Bool × List KT := mkS [59] (coS (chS clsL q))
theorem ru_f {q : Bool × List KT} (h : q.1 = false) : (ruS q).1 = false := mk_f _ (co_f (ch_f _ h))
def RuP (g B0 : Nat) (m : PMem) (q : Bool × List KT) (w : World) (e : Ending) (w' : World) : Prop :=
  (∃ (a : Option Addr) (n c nn : Nat), e = .returned (.agg #[.string (ofL (hdK q.2).2), .slice a n c]) ∧ w.heap.size ≤ nn ∧ RdCG nn w' (.slice a n c) (coD (chS clsL q).2)) ∧ PLn g B0 m (ruS q) w w'
set_option maxRecDepth 1000000 in
set_option maxHeartbeats 8000000 in
theorem rule_z (g B0 : Nat) (m : PMem) (ok : Bool) (ts : List KT) (w : World) (E : ∀ W, Below g w W → EnvOf8 W) (h : PL g B0 m ok ts w) :
    Calls Tryz.prog 302 #[.pointer (some ⟨g, 0, none⟩)] w (RuP g B0 m (ok, ts) w) := by
  obtain ⟨q0, hq0⟩ : ∃ q0 : Bool × List KT, (ok, ts) = q0 := ⟨_, rfl⟩
  have hlt := h.blk.lt
  have hBlt := h.b0lt
  have b0 := (Below.refl w.heap.size w).alloc (Nat.le_refl _) (.cells #[.string ⟨#[]⟩, .slice none 0 0] 56)
  have P0 : Hid (PL g B0 m q0.1 q0.2 (w.alloc (.cells #[.string ⟨#[]⟩, .slice none 0 0] 56))) := Lib.hid (by rw [← hq0]; exact h.below b0)
  have K0 := Lib.hid (Blk.new w 56 #[.string ⟨#[]⟩, .slice none 0 0])
  have B0' : Hid (But g w (w.alloc (.cells #[.string ⟨#[]⟩, .slice none 0 0] 56))) := Lib.hid (But.of_below b0)
  rw [hq0]
  have HE := Lib.hid E
  clear h hq0 b0 E
  go_enter Tryz.func302, Tryz.ntmps302
  go_wp2_with fail
  obtain ⟨W0, hW0⟩ : ∃ W0, w.alloc (.cells #[.string ⟨#[]⟩, .slice none 0 0] 56) = W0 := ⟨_, rfl⟩
  have z0 : W0.heap.size = w.heap.size + 1 := by rw [← hW0, World.size_alloc]
  rw [hW0] at P0 K0 B0' ⊢
  obtain ⟨R, hR⟩ : ∃ R, w.heap.size = R := ⟨_, rfl⟩
  have HR := Lib.hid hR
  rw [hR] at K0 z0 hlt hBlt ⊢
  have hRg : R ≠ g := by omega
  have hRB : R ≠ B0 := by omega
  have Z0 := Lib.hid z0
  have HGL := Lib.hid hlt
  clear hW0 hR z0 hlt hBlt
  refine (choice_z g B0 m q0.1 q0.2 142 (enters_of Tryz.func142 (by kernel_rfl) rfl) clsL (fun W t => isRuleClass_any t W) _ P0.out).mono ?_
  rintro e w1 ⟨rfl, hq⟩
  obtain ⟨q1, hq1⟩ : ∃ q : Bool × List KT, q = chS clsL q0 := ⟨_, rfl⟩
  have HQ1 := Lib.hid hq1
  obtain ⟨m1, s1, p1, b1⟩ : PLn g B0 m q1 W0 w1 := by rw [hq1]; exact hq
  have S1 := Lib.hid s1
  have P1 := Lib.hid p1
  have B1 := Lib.hid (B0'.out.trans b1)
  have K1 := Lib.hid (K0.out.but b1 hRg)
  have Z1 : Hid (R + 1 ≤ w1.heap.size) := Lib.hid (by have := b1.size; have := Z0.out; omega)
  obtain ⟨tx, htx⟩ : ∃ tx, (hdK q0.2).2 = tx := ⟨_, rfl⟩
  have HT := Lib.hid htx
  rw [htx]
  clear hq hq1 s1 p1 b1 htx
  go_wp2_with fail
  refine (condition_z g B0 m1 q1.1 q1.2 _ (fun W hb => HE.out W ((B1.out.below (Nat.le_refl _) (by have := HR.out; have := HGL.out; omega)).trans (hb.mono (Nat.le_refl _)))) P1.out).mono ?_
  rintro e w2 ⟨⟨a, n, c, rfl, hc⟩, hq⟩
  obtain ⟨q2, hq2⟩ : ∃ q : Bool × List KT, q = coS q1 := ⟨_, rfl⟩
  have HQ2 := Lib.hid hq2
  obtain ⟨m2, s2, p2, b2⟩ : PLn g B0 m1 q2 w1 w2 := by rw [hq2]; exact hq
  have S2 := Lib.hid (S1.out.trans s2)
  have C2 := Lib.hid (hc.below ((Below.refl _ w2).alloc (Nat.le_refl _) (.cells #[.string (ofL tx), .slice a n c] 56)))
  have P2 := Lib.hid (p2.below ((Below.refl _ w2).alloc (Nat.le_refl _) (.cells #[.string (ofL tx), .slice a n c] 56)))
  have B2 := Lib.hid ((B1.out.trans b2).alloc (.cells #[.string (ofL tx), .slice a n c] 56))
  have K2 := Lib.hid ((K1.out.but b2 hRg).alloc (.cells #[.string (ofL tx), .slice a n c] 56))
  have KA := Lib.hid (Blk.new w2 56 #[.string (ofL tx), .slice a n c])
  have hgA : w2.heap.size ≠ g := by have := p2.blk.lt; omega
  have hg1 := P1.out.blk.lt
  clear hq hq2 s2 p2 b2 hc
  go_wp2_with fail
  refine (mark_z g B0 m2 q2.1 q2.2 ⟨#[59]⟩ _ P2.out).mono ?_
  rw [show (ByteArray.mk #[59]).data.toList = [59] from rfl]
  rintro e w3 ⟨rfl, hq⟩
  obtain ⟨q3, hq3⟩ : ∃ q : Bool × List KT, q = mkS [59] q2 := ⟨_, rfl⟩
  have HQ3 := Lib.hid hq3
  obtain ⟨m3, s3, p3, b3⟩ : PLn g B0 m2 q3 _ w3 := by rw [hq3]; exact hq
  have S3 := Lib.hid (S2.out.trans s3)
  have P3 := Lib.hid p3
  have B3 := Lib.hid (B2.out.trans b3)
  have K3 := Lib.hid (K2.out.but b3 hRg)
  have KB := Lib.hid (KA.out.but b3 hgA)
  have C3 := Lib.hid (C2.out.but b3 hg1)
  have x0 : w3.cell? ⟨w2.heap.size, 0, none⟩ = some (.string (ofL tx)) := KB.out.cell 0
  have x1 : w3.cell? ⟨w2.heap.size, 1, none⟩ = some (.slice a n c) := KB.out.cell 1
  have y0 : w3.cell? ⟨R, 0, none⟩ = some (.string ⟨#[]⟩) := K3.out.cell 0
  have y1 : w3.cell? ⟨R, 1, none⟩ = some (.slice none 0 0) := K3.out.cell 1
  have f0 : w3.frozen? ⟨R, 0, none⟩ = false := K3.out.frozen 0
  have f1 : w3.frozen? ⟨R, 1, none⟩ = false := K3.out.frozen 1
  clear hq hq3 s3 p3 b3 hgA
  go_wp2
  have k4 : Blk R 56 #[.string (ofL tx), .slice a n c] ((w3.setCell ⟨R, 0, none⟩ (.string (ofL tx))).setCell ⟨R, 1, none⟩ (.slice a n c)) := (K3.out.put 0 (.string (ofL tx))).put 1 (.slice a n c)
  have bR : But R w3 ((w3.setCell ⟨R, 0, none⟩ (.string (ofL tx))).setCell ⟨R, 1, none⟩ (.slice a n c)) := (But.setCell R w3 0 _).trans (But.setCell R _ 1 _)
  refine bodyPost_ret (res_rule rfl k4) rfl ⟨⟨a, n, c, w1.heap.size, by rw [HT.out], by have := Z1.out; have := HR.out; omega, ?_⟩, ?_⟩
  · rw [← HQ1.out]
    exact C3.out.but bR (by have := Z1.out; omega)
  · have e : ruS q0 = q3 := by rw [HQ3.out, HQ2.out, HQ1.out]; rfl
    rw [e]
    exact ⟨m3, S3.out, (P3.out.far hRg hRB _).far hRg hRB _, (B3.out.far (by have := HR.out; omega) _).far (by have := HR.out; omega) _⟩
def body_ca (x : Loc) (l : Ts) : Option (Loc × Ts) := thn (rulP l) fun u r => if u.1 ∈ x.ca.map Prod.fst then none else semi { x with ca := x.ca ++ [u] } r
theorem spec_ca (x : Loc) (l : List KT) {q0 q1 : Bool × List KT} (h0 : q0 = (true, l)) (h1 : q1 = ruS q0) (hz : RlC x.ca) {dup : Bool} (hd : dup = decide ((hdK q0.2).2 ∈ x.ca.map Prod.fst)) :
    match body_ca x l with
    | some (x2, r) => adR dup x.ca.length 5 = 0 ∧ q1 = (true, r) ∧ { x with ca := x.ca ++ [((hdK q0.2).2, coD (chS clsL q0).2)] } = x2
    | none => adR dup x.ca.length 5 = 0 → q1.1 = false := by
  subst h0
  unfold body_ca rulP
  have k0 := lk_ch clsL l
  cases e0 : choP clsL l with
  | none =>
    rw [e0] at k0
    intro _
    rw [h1]
    exact mk_f _ (co_f k0)
  | some p0 =>
    obtain ⟨t0, r0⟩ := p0
    rw [e0] at k0
    obtain ⟨a0, b0, c0⟩ := k0
    dsimp only at hd b0 ⊢
    have h1' : q1 = mkS [59] (coS (true, r0)) := by rw [h1, ← a0]; rfl
    rw [b0] at hd
    rw [thn_some, a0, b0]
    have k1 := lk_co r0
    cases e1 : tk1 2 r0 with
    | none =>
      rw [e1] at k1
      intro _
      rw [h1']
      exact mk_f _ k1
    | some p1 =>
      obtain ⟨t1, r1⟩ := p1
      rw [e1, thn_some] at k1
      rw [thn_some]
      cases e2 : prsM t1 with
      | none =>
        rw [e2] at k1
        intro _
        rw [h1']
        exact mk_f _ k1
      | some d =>
        rw [e2] at k1
        obtain ⟨a1, b1⟩ := k1
        rw [a1] at h1'
        show match thn (some ((t0, d), r1)) (fun u r => if u.1 ∈ x.ca.map Prod.fst then none else semi { x with ca := x.ca ++ [u] } r) with
          | some (x2, r) => _ ∧ _ ∧ _
          | none => _
        rw [thn_some]
        dsimp only at b1 ⊢
        rw [b1]
        by_cases hc : t0 ∈ x.ca.map Prod.fst
        · rw [if_pos hc]
          intro ha
          obtain ⟨z1, z2⟩ := ad_zero.1 ha
          rw [hd, decide_eq_true hc] at z1
          cases z1
        · rw [if_neg hc]
          have hzz : adR dup x.ca.length 5 = 0 := ad_zero.2 ⟨by rw [hd, decide_eq_false hc], hz.lt c0 hc⟩
          have ks := lk_semi ({ x with ca := x.ca ++ [(t0, d)] } : Loc) r1
          cases es : semi ({ x with ca := x.ca ++ [(t0, d)] } : Loc) r1 with
          | none =>
            rw [es] at ks
            intro _
            rw [h1']; exact ks
          | some p =>
            obtain ⟨y, r⟩ := p
            rw [es] at ks
            obtain ⟨s1, s2⟩ := ks
            exact ⟨hzz, by rw [h1']; exact s1, s2.symm⟩
theorem cls_of_ca {l : List KT} {q0 q1 : Bool × List KT} (h0 : q0 = (true, l)) (h1 : q1 = ruS q0) (hq : q1.1 = true) : (hdK q0.2).2 ∈ clsL := by
  subst h0
  have k0 := lk_ch clsL l
  cases e0 : choP clsL l with
  | none =>
    rw [e0] at k0
    rw [h1] at hq
    rw [show (ruS (true, l)).1 = false from mk_f _ (co_f k0)] at hq
    cases hq
  | some p0 =>
    obtain ⟨t0, r0⟩ := p0
    rw [e0] at k0
    obtain ⟨a0, b0, c0⟩ := k0
    dsimp only
    rw [b0]
    exact c0
set_option maxRecDepth 1000000 in
set_option maxHeartbeats 8000000 in
theorem cardinal_z (g B0 : Nat) (m : PMem) (ok : Bool) (ts : List KT) (t : Tab) (x : Loc) (w : World) (E : ∀ W, Below g w W → EnvOf8 W) (h : PI g B0 m ok ts t x w) :
    Calls Tryz.prog 257 #[.pointer (some ⟨g, 0, none⟩)] w (ItP g B0 t (body_ca x ts) ok w) := by
  obtain ⟨q0, hq0⟩ : ∃ q0 : Bool × List KT, (ok, ts) = q0 := ⟨_, rfl⟩
  have HQ0 := Lib.hid hq0
  have hP : PI g B0 m q0.1 q0.2 t x w := by rw [← hq0]; exact h
  have P0 := Lib.hid hP
  have HE := Lib.hid E
  have HRU := Lib.hid (fun wx (hb : Below w.heap.size w wx) => rule_z g B0 m q0.1 q0.2 wx (fun W hw => HE.out W ((hb.mono (by have := hP.pl.blk.lt; omega)).trans hw)) (hP.pl.below hb))
  clear h hq0 hP E
  go_enter Tryz.func257, Tryz.ntmps257
  go_upto_region 1 with fail
  refine region_hd 7 (fun _ => True) (by kernel_rfl) (by kernel_rfl) ?_
  have hS : True := trivial
  refine hd_taken 0 (some 3) _ ?hdv0 rfl rfl (by kernel_rfl) (fun _ _ _ h => h) (Or.inl ⟨by kernel_rfl, ?hdy0⟩) hS ?hdr0
  case hdy0 => (intro wx hx; (try dsimp only at hx); go_simp; try with_reducible rfl)
  try simp only [Act.put, List.setIfInBounds_toArray, List.set_cons_zero, List.set_cons_succ]
  refine hd_taken 1 (some 4) _ ?hdv1 rfl rfl (by kernel_rfl) (fun _ _ _ h => h) (Or.inl ⟨by kernel_rfl, ?hdy1⟩) hS ?hdr1
  case hdy1 => (intro wx hx; (try dsimp only at hx); go_simp; try with_reducible rfl)
  try simp only [Act.put, List.setIfInBounds_toArray, List.set_cons_zero, List.set_cons_succ]
  refine hd_taken 2 (some 5) _ ?hdv2 rfl rfl (by kernel_rfl) (fun _ _ _ h => h) (Or.inl ⟨by kernel_rfl, ?hdy2⟩) hS ?hdr2
  case hdy2 => (intro wx hx; (try dsimp only at hx); go_simp; try with_reducible rfl)
  try simp only [Act.put, List.setIfInBounds_toArray, List.set_cons_zero, List.set_cons_succ]
  refine hd_taken 3 (some 6) _ ?hdv3 rfl rfl (by kernel_rfl) (fun _ _ _ h => h) (Or.inl ⟨by kernel_rfl, ?hdy3⟩) hS ?hdr3
  case hdy3 => (intro wx hx; (try dsimp only at hx); go_simp; try with_reducible rfl)
  try simp only [Act.put, List.setIfInBounds_toArray, List.set_cons_zero, List.set_cons_succ]
  refine hd_taken 4 (some 7) _ ?hdv4 rfl rfl (by kernel_rfl) (fun _ _ _ h => h) (Or.inl ⟨by kernel_rfl, ?hdy4⟩) hS ?hdr4
  case hdy4 => (intro wx hx; (try dsimp only at hx); go_simp; try with_reducible rfl)
  try simp only [Act.put, List.setIfInBounds_toArray, List.set_cons_zero, List.set_cons_succ]
  refine hd_one 5 _ rfl (by kernel_rfl) (by decide) (fun K5 hK5 => ?_)
  go_simp
  refine (HRU.out _ (below_drewN (Below.refl _ _) 1)).mono ?_
  rintro e w1 ⟨⟨a, n, c, nn, rfl, hnn, hc⟩, hq⟩
  try dsimp only
  have P0d := Lib.hid (P0.out.below (below_drewN (Below.refl _ _) 1))
  obtain ⟨q1, hq1⟩ : ∃ q : Bool × List KT, q = ruS q0 := ⟨_, rfl⟩
  have HQ1 := Lib.hid hq1
  obtain ⟨m1, hs1, hp1, hb1⟩ := P0d.out.read (q := q1) (by rw [hq1]; exact hq) (fun h => t_of (fun h => ru_f h) (by rw [← hq1]; exact h))
  have P1 := Lib.hid hp1
  have B1 : Hid (But g w w1) := Lib.hid ((But.of_below (below_drewN (Below.refl _ w) 1)).trans hb1)
  have HKC : Hid (Kp (Up g (Wr1 g m1)) w1 (fun w => RdC w (.slice a n c) (coD (chS clsL q0).2))) := Lib.hid (kp_condG hc (fun b hb => by
    rw [(wr_same hs1).1] at hb
    rcases hb with hb | hb
    · have := P0d.out.pl.blk.lt
      omega
    · have := (wr_lt P0d.out.p0 P0d.out.p1 P0d.out.pl.blk.lt b hb).2
      omega))
  obtain ⟨tx, htx⟩ : ∃ tx, (hdK q0.2).2 = tx := ⟨_, rfl⟩
  have HT := Lib.hid htx
  rw [htx]
  obtain ⟨raws, o1, o2, o3⟩ := hp1.p1.ca
  have O2 := Lib.hid o2
  have O3 := Lib.hid o3
  have hl1 := hp1.bx.ca
  have had := addRu_any g 7 86 (by decide) (pcells m1) (.slice m1.cu.ca.a m1.cu.ca.n m1.cu.ca.c) raws (tx, ⟨a, n, c⟩) 5 (qRu (tx, ⟨a, n, c⟩)) 80 (enters_of Tryz.func80 (by kernel_rfl) rfl) w1 hp1.pl.blk rfl o1 (by omega) (fun W1 y _ => alikeRu_any _ y W1)
  have HAD : Hid (Calls Tryz.prog 301 #[.pointer (some ⟨g, 7, none⟩), .agg #[.string (ofL tx), .slice a n c], .int .i64 5, .func (.func 80) #[] #[]] w1 (AdP 2 encRl g 7 86 56 (pcells m1) (.slice m1.cu.ca.a m1.cu.ca.n m1.cu.ca.c) raws (tx, ⟨a, n, c⟩) 5 (raws.any (qRu (tx, ⟨a, n, c⟩))) w1)) := Lib.hid had
  clear hq hq1 hs1 hp1 hb1 htx hnn hc o1 o2 o3 hl1 had
  refine hK5.out _ _ trivial ?_
  clear hK5 K5
  try simp only [Act.put, List.setIfInBounds_toArray, List.set_cons_zero, List.set_cons_succ]
  refine hd_one 6 _ rfl (by kernel_rfl) (by decide) (fun K6 hK6 => ?_)
  go_simp
  refine HAD.out.mono ?_
  rintro e wz ⟨er, rfl, hz⟩
  try dsimp only
  have HZ := Lib.hid hz
  clear hz
  refine hK6.out _ _ trivial ?_
  clear hK6 K6
  try simp only [Act.put, List.setIfInBounds_toArray, List.set_cons_zero, List.set_cons_succ]
  refine hd_done (by kernel_rfl) ?_
  go_wp2
  go_ret
  have hmap : raws.map Prod.fst = x.ca.map Prod.fst := by
    apply List.ext_getElem (by simp [O2.out])
    intro i h1 h2
    rw [List.getElem_map, List.getElem_map]
    exact (O3.out i (by simpa using h1) (by simpa using h2)).1
  have hdup : raws.any (qRu (tx, ⟨a, n, c⟩)) = decide ((hdK q0.2).2 ∈ x.ca.map Prod.fst) := by
    rw [HT.out, ← hmap]
    exact any_mem (f := Prod.fst) (b := tx) (fun y _ => decide_eq_true_iff)
  have hsp := fun e : ok = true => spec_ca x ts (q0 := q0) (by rw [← HQ0.out, e]) HQ1.out (P0.out.sz (by rw [← HQ0.out]; exact e)).2.1 hdup
  rw [HT.out] at hsp
  have hf0 : ok = false → q1.1 = false := fun e => by rw [HQ1.out]; exact ru_f (by rw [← HQ0.out]; exact e)
  have HZZ := HZ.out
  rw [O2.out] at HZZ
  rcases HZZ with ⟨h1, h2, h3⟩ | ⟨h1, h2, a', c', h3, h4, h5, h6⟩
  · refine ⟨er, _, q1, x, rfl, P1.out.below h3, (P0.out.bel_but B1.out).trans (h3.mono (by have := P1.out.pl.blk.lt; omega)), (P0.out.kt_but B1.out).trans (KT1.below h3), hf0, fun e => ?_⟩
    have := hsp e
    revert this
    cases body_ca x ts with
    | some p => intro ⟨z, _⟩; exact absurd (h1.trans z) h2
    | none => intro _ hz; exact absurd hz h2
  · have hlen := (ad_zero.1 h2).2
    have hsz : q1.1 = true → SzP { x with ca := x.ca ++ [(tx, coD (chS clsL q0).2)] } := fun e => by
      have z := P1.out.sz e
      have e0 : q0.1 = true := t_of (fun h => ru_f h) (by rw [← HQ1.out]; exact e)
      have zc : tx ∈ clsL := by rw [← HT.out]; exact cls_of_ca (l := q0.2) (by rw [← e0]) HQ1.out e
      have zn : tx ∉ x.ca.map Prod.fst := by
        have := (ad_zero.1 h2).1
        rw [hdup, HT.out] at this
        exact of_decide_eq_false this
      exact ⟨z.1, z.2.1.snoc zc zn, z.2.2⟩
    rw [← O2.out] at h3 h4 h5
    refine ⟨er, _, q1, _, rfl, P1.out.add_ca raws O2.out (tx, ⟨a, n, c⟩) (tx, coD (chS clsL q0).2) rfl HKC.out O3.out hsz hlen h3 h4 h5 h6, (P0.out.bel_but B1.out).trans (P1.out.bel_fw h6 (fun i hi => hi.elim (fun e => e ▸ wr_g) (fun e => .inr (.inl e)))), (P0.out.kt_but B1.out).trans (P1.out.kt_fw h6 (fun i hi => hi.elim (fun e => e ▸ wr_g) (fun e => .inr (.inl e)))), hf0, fun e => ?_⟩
    have := hsp e
    revert this
    cases body_ca x ts with
    | some p => intro ⟨_, z1, z2⟩; exact ⟨h1, z1, z2⟩
    | none => intro z _; exact z h2
def body_oc (x : Loc) (l : Ts) : Option (Loc × Ts) := thn (rulP l) fun u r => if u.1 ∈ x.oc.map Prod.fst then none else semi { x with oc := x.oc ++ [u] } r
theorem spec_oc (x : Loc) (l : List KT) {q0 q1 : Bool × List KT} (h0 : q0 = (true, l)) (h1 : q1 = ruS q0) (hz : RlC x.oc) {dup : Bool} (hd : dup = decide ((hdK q0.2).2 ∈ x.oc.map Prod.fst)) :
    match body_oc x l with
    | some (x2, r) => adR dup x.oc.length 5 = 0 ∧ q1 = (true, r) ∧ { x with oc := x.oc ++ [((hdK q0.2).2, coD (chS clsL q0).2)] } = x2
    | none => adR dup x.oc.length 5 = 0 → q1.1 = false := by
  subst h0
  unfold body_oc rulP
  have k0 := lk_ch clsL l
  cases e0 : choP clsL l with
  | none =>
    rw [e0] at k0
    intro _
    rw [h1]
    exact mk_f _ (co_f k0)
  | some p0 =>
    obtain ⟨t0, r0⟩ := p0
    rw [e0] at k0
    obtain ⟨a0, b0, c0⟩ := k0
    dsimp only at hd b0 ⊢
    have h1' : q1 = mkS [59] (coS (true, r0)) := by rw [h1, ← a0]; rfl
    rw [b0] at hd
    rw [thn_some, a0, b0]
    have k1 := lk_co r0
    cases e1 : tk1 2 r0 with
    | none =>
      rw [e1] at k1
      intro _
      rw [h1']
      exact mk_f _ k1
    | some p1 =>
      obtain ⟨t1, r1⟩ := p1
      rw [e1, thn_some] at k1
      rw [thn_some]
      cases e2 : prsM t1 with
      | none =>
        rw [e2] at k1
        intro _
        rw [h1']
        exact mk_f _ k1
      | some d =>
        rw [e2] at k1
        obtain ⟨a1, b1⟩ := k1
        rw [a1] at h1'
        show match thn (some ((t0, d), r1)) (fun u r => if u.1 ∈ x.oc.map Prod.fst then none else semi { x with oc := x.oc ++ [u] } r) with
          | some (x2, r) => _ ∧ _ ∧ _
          | none => _
        rw [thn_some]
        dsimp only at b1 ⊢
        rw [b1]
        by_cases hc : t0 ∈ x.oc.map Prod.fst
        · rw [if_pos hc]
          intro ha
          obtain ⟨z1, z2⟩ := ad_zero.1 ha
          rw [hd, decide_eq_true hc] at z1
          cases z1
        · rw [if_neg hc]
          have hzz : adR dup x.oc.length 5 = 0 := ad_zero.2 ⟨by rw [hd, decide_eq_false hc], hz.lt c0 hc⟩
          have ks := lk_semi ({ x with oc := x.oc ++ [(t0, d)] } : Loc) r1
          cases es : semi ({ x with oc := x.oc ++ [(t0, d)] } : Loc) r1 with
          | none =>
            rw [es] at ks
            intro _
            rw [h1']; exact ks
          | some p =>
            obtain ⟨y, r⟩ := p
            rw [es] at ks
            obtain ⟨s1, s2⟩ := ks
            exact ⟨hzz, by rw [h1']; exact s1, s2.symm⟩
theorem cls_of_oc {l : List KT} {q0 q1 : Bool × List KT} (h0 : q0 = (true, l)) (h1 : q1 = ruS q0) (hq : q1.1 = true) : (hdK q0.2).2 ∈ clsL := by
  subst h0
  have k0 := lk_ch clsL l
  cases e0 : choP clsL l with
  | none =>
    rw [e0] at k0
    rw [h1] at hq
    rw [show (ruS (true, l)).1 = false from mk_f _ (co_f k0)] at hq
    cases hq
  | some p0 =>
    obtain ⟨t0, r0⟩ := p0
    rw [e0] at k0
    obtain ⟨a0, b0, c0⟩ := k0
    dsimp only
    rw [b0]
    exact c0
set_option maxRecDepth 1000000 in
set_option maxHeartbeats 8000000 in
theorem ordinal_z (g B0 : Nat) (m : PMem) (ok : Bool) (ts : List KT) (t : Tab) (x : Loc) (w : World) (E : ∀ W, Below g w W → EnvOf8 W) (h : PI g B0 m ok ts t x w) :
    Calls Tryz.prog 258 #[.pointer (some ⟨g, 0, none⟩)] w (ItP g B0 t (body_oc x ts) ok w) := by
  obtain ⟨q0, hq0⟩ : ∃ q0 : Bool × List KT, (ok, ts) = q0 := ⟨_, rfl⟩
  have HQ0 := Lib.hid hq0
  have hP : PI g B0 m q0.1 q0.2 t x w := by rw [← hq0]; exact h
  have P0 := Lib.hid hP
  have HE := Lib.hid E
  have HRU := Lib.hid (fun wx (hb : Below w.heap.size w wx) => rule_z g B0 m q0.1 q0.2 wx (fun W hw => HE.out W ((hb.mono (by have := hP.pl.blk.lt; omega)).trans hw)) (hP.pl.below hb))
  clear h hq0 hP E
  go_enter Tryz.func258, Tryz.ntmps258
  go_upto_region 1 with fail
  refine region_hd 7 (fun _ => True) (by kernel_rfl) (by kernel_rfl) ?_
  have hS : True := trivial
  refine hd_taken 0 (some 3) _ ?hdv0 rfl rfl (by kernel_rfl) (fun _ _ _ h => h) (Or.inl ⟨by kernel_rfl, ?hdy0⟩) hS ?hdr0
  case hdy0 => (intro wx hx; (try dsimp only at hx); go_simp; try with_reducible rfl)
  try simp only [Act.put, List.setIfInBounds_toArray, List.set_cons_zero, List.set_cons_succ]
  refine hd_taken 1 (some 4) _ ?hdv1 rfl rfl (by kernel_rfl) (fun _ _ _ h => h) (Or.inl ⟨by kernel_rfl, ?hdy1⟩) hS ?hdr1
  case hdy1 => (intro wx hx; (try dsimp only at hx); go_simp; try with_reducible rfl)
  try simp only [Act.put, List.setIfInBounds_toArray, List.set_cons_zero, List.set_cons_succ]
  refine hd_taken 2 (some 5) _ ?hdv2 rfl rfl (by kernel_rfl) (fun _ _ _ h => h) (Or.inl ⟨by kernel_rfl, ?hdy2⟩) hS ?hdr2
  case hdy2 => (intro wx hx; (try dsimp only at hx); go_simp; try with_reducible rfl)
  try simp only [Act.put, List.setIfInBounds_toArray, List.set_cons_zero, List.set_cons_succ]
  refine hd_taken 3 (some 6) _ ?hdv3 rfl rfl (by kernel_rfl) (fun _ _ _ h => h) (Or.inl ⟨by kernel_rfl, ?hdy3⟩) hS ?hdr3
  case hdy3 => (intro wx hx; (try dsimp only at hx); go_simp; try with_reducible rfl)
  try simp only [Act.put, List.setIfInBounds_toArray, List.set_cons_zero, List.set_cons_succ]
  refine hd_taken 4 (some 7) _ ?hdv4 rfl rfl (by kernel_rfl) (fun _ _ _ h => h) (Or.inl ⟨by kernel_rfl, ?hdy4⟩) hS ?hdr4
  case hdy4 => (intro wx hx; (try dsimp only at hx); go_simp; try with_reducible rfl)
  try simp only [Act.put, List.setIfInBounds_toArray, List.set_cons_zero, List.set_cons_succ]
  refine hd_one 5 _ rfl (by kernel_rfl) (by decide) (fun K5 hK5 => ?_)
  go_simp
  refine (HRU.out _ (below_drewN (Below.refl _ _) 1)).mono ?_
  rintro e w1 ⟨⟨a, n, c, nn, rfl, hnn, hc⟩, hq⟩
  try dsimp only
  have P0d := Lib.hid (P0.out.below (below_drewN (Below.refl _ _) 1))
  obtain ⟨q1, hq1⟩ : ∃ q : Bool × List KT, q = ruS q0 := ⟨_, rfl⟩
  have HQ1 := Lib.hid hq1
  obtain ⟨m1, hs1, hp1, hb1⟩ := P0d.out.read (q := q1) (by rw [hq1]; exact hq) (fun h => t_of (fun h => ru_f h) (by rw [← hq1]; exact h))
  have P1 := Lib.hid hp1
  have B1 : Hid (But g w w1) := Lib.hid ((But.of_below (below_drewN (Below.refl _ w) 1)).trans hb1)
  have HKC : Hid (Kp (Up g (Wr1 g m1)) w1 (fun w => RdC w (.slice a n c) (coD (chS clsL q0).2))) := Lib.hid (kp_condG hc (fun b hb => by
    rw [(wr_same hs1).1] at hb
    rcases hb with hb | hb
    · have := P0d.out.pl.blk.lt
      omega
    · have := (wr_lt P0d.out.p0 P0d.out.p1 P0d.out.pl.blk.lt b hb).2
      omega))
  obtain ⟨tx, htx⟩ : ∃ tx, (hdK q0.2).2 = tx := ⟨_, rfl⟩
  have HT := Lib.hid htx
  rw [htx]
  obtain ⟨raws, o1, o2, o3⟩ := hp1.p1.oc
  have O2 := Lib.hid o2
  have O3 := Lib.hid o3
  have hl1 := hp1.bx.oc
  have had := addRu_any g 8 86 (by decide) (pcells m1) (.slice m1.cu.oc.a m1.cu.oc.n m1.cu.oc.c) raws (tx, ⟨a, n, c⟩) 5 (qRu (tx, ⟨a, n, c⟩)) 80 (enters_of Tryz.func80 (by kernel_rfl) rfl) w1 hp1.pl.blk rfl o1 (by omega) (fun W1 y _ => alikeRu_any _ y W1)
  have HAD : Hid (Calls Tryz.prog 301 #[.pointer (some ⟨g, 8, none⟩), .agg #[.string (ofL tx), .slice a n c], .int .i64 5, .func (.func 80) #[] #[]] w1 (AdP 2 encRl g 8 86 56 (pcells m1) (.slice m1.cu.oc.a m1.cu.oc.n m1.cu.oc.c) raws (tx, ⟨a, n, c⟩) 5 (raws.any (qRu (tx, ⟨a, n, c⟩))) w1)) := Lib.hid had
  clear hq hq1 hs1 hp1 hb1 htx hnn hc o1 o2 o3 hl1 had
  refine hK5.out _ _ trivial ?_
  clear hK5 K5
  try simp only [Act.put, List.setIfInBounds_toArray, List.set_cons_zero, List.set_cons_succ]
  refine hd_one 6 _ rfl (by kernel_rfl) (by decide) (fun K6 hK6 => ?_)
  go_simp
  refine HAD.out.mono ?_
  rintro e wz ⟨er, rfl, hz⟩
  try dsimp only
  have HZ := Lib.hid hz
  clear hz
  refine hK6.out _ _ trivial ?_
  clear hK6 K6
  try simp only [Act.put, List.setIfInBounds_toArray, List.set_cons_zero, List.set_cons_succ]
  refine hd_done (by kernel_rfl) ?_
  go_wp2
  go_ret
  have hmap : raws.map Prod.fst = x.oc.map Prod.fst := by
    apply List.ext_getElem (by simp [O2.out])
    intro i h1 h2
    rw [List.getElem_map, List.getElem_map]
    exact (O3.out i (by simpa using h1) (by simpa using h2)).1
  have hdup : raws.any (qRu (tx, ⟨a, n, c⟩)) = decide ((hdK q0.2).2 ∈ x.oc.map Prod.fst) := by
    rw [HT.out, ← hmap]
    exact any_mem (f := Prod.fst) (b := tx) (fun y _ => decide_eq_true_iff)
  have hsp := fun e : ok = true => spec_oc x ts (q0 := q0) (by rw [← HQ0.out, e]) HQ1.out (P0.out.sz (by rw [← HQ0.out]; exact e)).2.2 hdup
  rw [HT.out] at hsp
  have hf0 : ok = false → q1.1 = false := fun e => by rw [HQ1.out]; exact ru_f (by rw [← HQ0.out]; exact e)
  have HZZ := HZ.out
  rw [O2.out] at HZZ
  rcases HZZ with ⟨h1, h2, h3⟩ | ⟨h1, h2, a', c', h3, h4, h5, h6⟩
  · refine ⟨er, _, q1, x, rfl, P1.out.below h3, (P0.out.bel_but B1.out).trans (h3.mono (by have := P1.out.pl.blk.lt; omega)), (P0.out.kt_but B1.out).trans (KT1.below h3), hf0, fun e => ?_⟩
    have := hsp e
    revert this
    cases body_oc x ts with
    | some p => intro ⟨z, _⟩; exact absurd (h1.trans z) h2
    | none => intro _ hz; exact absurd hz h2
  · have hlen := (ad_zero.1 h2).2
    have hsz : q1.1 = true → SzP { x with oc := x.oc ++ [(tx, coD (chS clsL q0).2)] } := fun e => by
      have z := P1.out.sz e
      have e0 : q0.1 = true := t_of (fun h => ru_f h) (by rw [← HQ1.out]; exact e)
      have zc : tx ∈ clsL := by rw [← HT.out]; exact cls_of_oc (l := q0.2) (by rw [← e0]) HQ1.out e
      have zn : tx ∉ x.oc.map Prod.fst := by
        have := (ad_zero.1 h2).1
        rw [hdup, HT.out] at this
        exact of_decide_eq_false this
      exact ⟨z.1, z.2.1, z.2.2.snoc zc zn⟩
    rw [← O2.out] at h3 h4 h5
    refine ⟨er, _, q1, _, rfl, P1.out.add_oc raws O2.out (tx, ⟨a, n, c⟩) (tx, coD (chS clsL q0).2) rfl HKC.out O3.out hsz hlen h3 h4 h5 h6, (P0.out.bel_but B1.out).trans (P1.out.bel_fw h6 (fun i hi => hi.elim (fun e => e ▸ wr_g) (fun e => .inr (.inr (.inl e))))), (P0.out.kt_but B1.out).trans (P1.out.kt_fw h6 (fun i hi => hi.elim (fun e => e ▸ wr_g) (fun e => .inr (.inr (.inl e))))), hf0, fun e => ?_⟩
    have := hsp e
    revert this
    cases body_oc x ts with
    | some p => intro ⟨_, z1, z2⟩; exact ⟨h1, z1, z2⟩
    | none => intro z _; exact z h2
end Go.Proofs.YtpmmchppfmojhaaGreatDoor


/- Of the program's table parser: statement, at whatever table of statements. -/
namespace Go.Proofs.YtpmmchppfmojhaaGreatDoor
open Go.RowKit
set_option linter.unusedVariables false

/-- What is kept between statements. -/
structure Cx (σ : Type) (g B0 : Nat) where
  F : Bool × List KT → σ → PMem → World → Prop
  pl : ∀ {q s m w}, F q s m w → PL g B0 m q.1 q.2 w
  read : ∀ {q s m w q' w'}, F q s m w → PLn g B0 m q' w w' → (q'.1 = true → q.1 = true) → ∃ m', sameM m m' ∧ F q' s m' w' ∧ But g w w'
  below : ∀ {q s m w w'}, F q s m w → Below w.heap.size w w' → F q s m w'
/-- What a statement's method does. -/
def ItG {σ : Type} {g B0 : Nat} (C : Cx σ g B0) (body : σ → Ts → Option (σ × Ts)) (q : Bool × List KT) (s : σ) (w : World) (e : Ending) (w' : World) : Prop :=
  ∃ (er : Int) (m' : PMem) (q' : Bool × List KT) (s' : σ), e = .returned (.int .i64 er) ∧ C.F q' s' m' w' ∧ Below g w w' ∧ KT1 w w' ∧ (q.1 = false → q'.1 = false) ∧ (q.1 = true → match body s q.2 with
    | some (s2, r) => er = 0 ∧ q' = (true, r) ∧ s' = s2
    | none => er = 0 → q'.1 = false)
def StG {σ : Type} {g B0 : Nat} (C : Cx σ g B0) (stmt : σ → Ts → Option (σ × Ts)) (q : Bool × List KT) (s : σ) (w : World) (e : Ending) (w' : World) : Prop :=
  e = .returned (.tuple #[]) ∧ ∃ (m' : PMem) (q' : Bool × List KT) (s' : σ), C.F q' s' m' w' ∧ Below g w w' ∧ KT1 w w' ∧ (q.1 = false → q'.1 = false) ∧ (q.1 = true → match stmt s q.2 with
    | some (s2, r) => q' = (true, r) ∧ s' = s2
    | none => q'.1 = false)
/-- A table of statements in memory. -/
def ChR (w : World) (v : Value) (L : List (Str × Nat)) : Prop := Rd 2 encSm w v L ∧ ∃ D off cs n c, v = .slice (some ⟨D, off, none⟩) n c ∧ Blk D 201 cs w
theorem ChR.kt {w w' : World} {v : Value} {L : List (Str × Nat)} (h : ChR w v L) (hk : KT1 w w') : ChR w' v L := by
  obtain ⟨h1, D, off, cs, n, c, rfl, h2⟩ := h
  have h3 := hk D _ cs (by simp [KTl]) h2
  exact ⟨h1.keep (fun b e _ => by
    obtain rfl : D = b := by simpa [Value.ownBlock] using e
    rw [show w.heap[D]? = _ from h2, show w'.heap[D]? = _ from h3]), D, off, cs, n, c, rfl, h3⟩
def stmtG {σ : Type} (L : List (Str × Nat)) (body : Str × Nat → σ → Ts → Option (σ × Ts)) (s : σ) (l : Ts) : Option (σ × Ts) :=
  thn (tk1 1 l) fun k r => match L.find? (fun c => decide (c.1 = k)) with
    | some c => body c s r
    | none => none
theorem find_first {α : Type} {q : α → Bool} : ∀ {l : List α} {i : Nat} (h : i < l.length), q l[i] = true → (∀ (j : Nat) (hj : j < l.length), j < i → q l[j] = false) → l.find? q = some l[i]
  | [], i, h, _, _ => absurd h (Nat.not_lt_zero _)
  | a :: l, 0, h, h1, _ => by
    have : q a = true := h1
    rw [List.find?_cons, this]; rfl
  | a :: l, i + 1, h, h1, h2 => by
    have : q a = false := h2 0 (by simp) (by omega)
    rw [List.find?_cons, this]
    exact find_first (l := l) (by simpa using h) h1 (fun j hj hji => h2 (j + 1) (by simpa using hj) (by omega))
theorem find_no {α : Type} {q : α → Bool} {l : List α} (h : ∀ (j : Nat) (hj : j < l.length), q l[j] = false) : l.find? q = none := by
  rw [List.find?_eq_none]
  intro x hx
  obtain ⟨j, hj, rfl⟩ := List.getElem_of_mem hx
  rw [h j hj]; simp
theorem stmt_hit {σ : Type} {L : List (Str × Nat)} {body : Str × Nat → σ → Ts → Option (σ × Ts)} {s : σ} {l : Ts} {i : Nat} (hi : i < L.length) (h1 : isS 1 L[i].1 l = true) (h2 : ∀ (j : Nat) (hj : j < L.length), j < i → isS 1 L[j].1 l = false) : stmtG L body s l = body L[i] s l.tail := by
  unfold isS at h1 h2
  simp only [Bool.and_eq_true, beq_iff_eq, decide_eq_true_eq] at h1
  obtain ⟨h3, h4⟩ := h1
  cases l with
  | nil => cases h3
  | cons t r =>
    have h3' : t.1 = 1 := h3
    have h4' : t.2 = L[i].1 := h4
    unfold stmtG
    rw [show tk1 1 (t :: r) = some (t.2, r) from if_pos h3', thn_some]
    rw [find_first hi (q := fun c => decide (c.1 = t.2)) (decide_eq_true h4'.symm) (fun j hj hji => by
      have := h2 j hj hji
      rw [h3, beq_self_eq_true, Bool.true_and] at this
      exact decide_eq_false (fun e => of_decide_eq_false this e.symm))]
    rfl
theorem stmt_miss {σ : Type} {L : List (Str × Nat)} {body : Str × Nat → σ → Ts → Option (σ × Ts)} {s : σ} {l : Ts} (h : ∀ (j : Nat) (hj : j < L.length), isS 1 L[j].1 l = false) : stmtG L body s l = none := by
  unfold isS at h
  cases l with
  | nil => rfl
  | cons t r =>
    unfold stmtG
    by_cases h1 : t.1 = 1
    · rw [show tk1 1 (t :: r) = some (t.2, r) from if_pos h1, thn_some]
      rw [find_no (fun j hj => by
        have := h j hj
        rw [show (hdK (t :: r)).1 = t.1 from rfl, h1, beq_self_eq_true, Bool.true_and] at this
        exact decide_eq_false (fun e => of_decide_eq_false this e.symm))]
    · rw [show tk1 1 (t :: r) = none from if_neg h1]
      rfl
set_option maxRecDepth 1000000 in
set_option maxHeartbeats 4000000 in
theorem statement1_z (g B0 P : Nat) (m : PMem) (ok : Bool) (ts : List KT) (s : Str × Nat) (W : World) (h : PL g B0 m ok ts W) (hp : Blk P 157 #[.pointer (some ⟨g, 0, none⟩)] W) :
    Calls Tryz.prog 162 (#[.agg #[.string (ofL s.1), .func (.func s.2) #[] #[]]] ++ #[.pointer (some ⟨P, 0, none⟩)]) W fun e w' => e = .returned (.bool (isS 1 s.1 ts)) ∧ Below W.heap.size W w' := by
  have K := Lib.hid ((Below.refl W.heap.size W).alloc (Nat.le_refl _) (.cells #[.string (ofL s.1), .func (.func s.2) #[] #[]] 201))
  have HI := Lib.hid (is_z g B0 m ok ts 1 (ofL s.1) _ (h.below K.out))
  have cp : (W.alloc (.cells #[.string (ofL s.1), .func (.func s.2) #[] #[]] 201)).cell? ⟨P, 0, none⟩ = some (.pointer (some ⟨g, 0, none⟩)) := (K.out.cell (p := ⟨P, 0, none⟩) hp.lt).trans (hp.cell 0)
  clear h hp
  go_enter Tryz.func162, Tryz.ntmps162
  go_wp2_with fail
  refine HI.out.mono ?_
  rintro e w2 ⟨rfl, hw⟩
  obtain rfl := hw.symm
  go_wp2
  go_ret
  exact ⟨rfl, K.out⟩
set_option maxRecDepth 1000000 in
set_option maxHeartbeats 8000000 in
theorem statement_z {σ : Type} (g B0 : Nat) (C : Cx σ g B0) (L : List (Str × Nat)) (body : Str × Nat → σ → Ts → Option (σ × Ts)) (hL : L.length ≤ 100) (hM : ∀ c ∈ L, (∀ args w, (callFunc c.2 args).run Tryz.prog w = .ok (.enter c.2 args) w) ∧ ∀ q s m w, C.F q s m w → Calls Tryz.prog c.2 #[.pointer (some ⟨g, 0, none⟩)] w (ItG C (body c) q s w))
    (v : Value) (q : Bool × List KT) (s : σ) (m : PMem) (w : World) (h : C.F q s m w) (hv : ChR w v L) :
    Calls Tryz.prog 105 #[.pointer (some ⟨g, 0, none⟩), v] w (StG C (stmtG L body) q s w) := by
  have hg := (C.pl h).blk.lt
  have K0 := Lib.hid ((Below.refl w.heap.size w).alloc (Nat.le_refl _) (.cells #[.pointer (some ⟨g, 0, none⟩)] 157))
  have KP := Lib.hid (Blk.new w 157 #[.pointer (some ⟨g, 0, none⟩)])
  have H0 := Lib.hid (C.below h K0.out)
  have V0 := Lib.hid (hv.kt (KT1.below K0.out))
  obtain ⟨W0, hW0⟩ : ∃ W0, w.alloc (.cells #[.pointer (some ⟨g, 0, none⟩)] 157) = W0 := ⟨_, rfl⟩
  have HW0 := Lib.hid hW0
  obtain ⟨P, hP⟩ : ∃ P, w.heap.size = P := ⟨_, rfl⟩
  have HP := Lib.hid hP
  rw [hW0] at K0 KP H0 V0
  rw [hP] at KP K0
  have hPg : P ≠ g := by omega
  obtain ⟨off, fr, c0, hn, t0, t1, t2, _, cf⟩ := (C.pl H0.out).facts
  have cp : W0.cell? ⟨P, 0, none⟩ = some (.pointer (some ⟨g, 0, none⟩)) := KP.out.cell 0
  obtain ⟨rv, D, doff, dcs, dn, dc, rfl, dk⟩ := V0.out
  have HIX : Hid (∀ lb, lb = #[.pointer (some ⟨P, 0, none⟩)] → Calls Tryz.prog 161 #[.slice (some ⟨D, doff, none⟩) dn dc, .func (.func 162) #[] lb] W0 fun e w' => (∃ r : Int, e = .returned (.int .i64 r) ∧ IdxP L (fun c => isS 1 c.1 q.2) r) ∧ Below W0.heap.size W0 w') := Lib.hid (fun lb hlb => by
    subst hlb
    exact indexSt_any _ L (fun c => isS 1 c.1 q.2) 162 _ (enters_of Tryz.func162 (by kernel_rfl) rfl) W0 rv (fun W s hs hb => statement1_z g B0 P m q.1 q.2 s W ((C.pl H0.out).below hb) (Blk.below KP.out hb)))
  have hdn : L.length = dn := rv.len
  have HM := Lib.hid hM
  have HG := Lib.hid hg
  clear h hv hW0 hP hg cf t0 t1 dk rv hM
  go_enter Tryz.func105, Tryz.ntmps105
  go_upto_region 1 with fail
  rw [HW0.out, HP.out]
  go_wp2_with fail
  refine (HIX.out _ rfl).mono ?_
  rintro e w1 ⟨⟨r, rfl, hr⟩, b1⟩
  have B1 := Lib.hid b1
  have H1 := Lib.hid (C.below H0.out b1)
  have V1 := Lib.hid (V0.out.kt (KT1.below b1))
  have KP1 := Lib.hid (Blk.below KP.out b1)
  have HR := Lib.hid hr
  clear b1 hr c0 hn t2 cp HIX
  have cp : w1.cell? ⟨P, 0, none⟩ = some (.pointer (some ⟨g, 0, none⟩)) := KP1.out.cell 0
  rcases HR.out with ⟨i, hi, rfl, hq1, hq2⟩ | ⟨rfl, hno⟩
  · have n1 : decide ((i : Int) < 0) = false := decide_eq_false (by omega)
    have HN : Hid (q.1 = true → q.2 ≠ []) := Lib.hid (fun _ e => by
      have : isS 1 L[i].1 q.2 = true := hq1
      rw [e] at this
      unfold isS at this
      simp [hdK] at this)
    obtain ⟨c, hc⟩ : ∃ c, L[i]'hi = c := ⟨_, rfl⟩
    have HST : Hid (∀ s : σ, stmtG L body s q.2 = body c s q.2.tail) := Lib.hid (fun s => by rw [← hc]; exact stmt_hit hi hq1 hq2)
    have HCC := Lib.hid hc
    clear hc
    have HI := Lib.hid hi
    clear hq1 hq2
    go_wp2_with fail
    refine (next_z g B0 m q.1 q.2 HN.out _ (C.pl H1.out)).mono ?_
    rintro e w2 ⟨rfl, hq⟩
    obtain ⟨q2, hq2⟩ : ∃ q' : Bool × List KT, q' = nxS q := ⟨_, rfl⟩
    have HQ2 := Lib.hid hq2
    obtain ⟨m2, hs2, hf2, hb2⟩ := C.read H1.out (q' := q2) (by rw [hq2]; exact hq) (fun h => by
      rw [hq2] at h
      unfold nxS at h
      split at h
      · rename_i hh; exact hh
      · exact h)
    have H2 := Lib.hid hf2
    have B2 := Lib.hid hb2
    have KP2 := Lib.hid (KP1.out.but hb2 hPg)
    have V2 := Lib.hid (V1.out.kt (KT1.but hb2 (C.pl H1.out).blk (by decide)))
    have hc := HCC.out
    have hcL : c ∈ L := by rw [← hc]; exact List.getElem_mem hi
    obtain ⟨rv2, _⟩ := V2.out
    have x1' : w2.cell? ⟨D, doff + i * 2 + 1, none⟩ = some (.func (.func c.2) #[] #[]) := by rw [← hc]; exact rv2.at_ i hi 1 _ rfl
    have cp2 : w2.cell? ⟨P, 0, none⟩ = some (.pointer (some ⟨g, 0, none⟩)) := KP2.out.cell 0
    obtain ⟨eg, hM2⟩ := HM.out c hcL
    have HIT := Lib.hid (fun wx (hb : Below w2.heap.size w2 wx) => hM2 q2 s m2 wx (C.below H2.out hb))
    have h9 : (i : Int) < (dn : Int) := by omega
    obtain ⟨n0, hn0⟩ : ∃ n0, c.2 = n0 := ⟨_, rfl⟩
    rw [hn0] at x1' eg HIT
    have HSS : Hid (∀ wx, KT1 w2 wx → wx.cell? ⟨P, 0, none⟩ = some (.pointer (some ⟨g, 0, none⟩)) ∧ wx.cell? ⟨D, doff + i * 2 + 1, none⟩ = some (.func (.func n0) #[] #[])) := Lib.hid (fun wx hk => by
      refine ⟨Blk.cell (hk P _ _ (by simp [KTl]) KP2.out) 0, ?_⟩
      obtain ⟨rv3, _⟩ := V2.out.kt hk
      rw [← hn0, ← hc]
      exact rv3.at_ i hi 1 _ rfl)
    have HS2 := Lib.hid (HSS.out _ (KT1.below (below_drewN (Below.refl _ w2) 1)))
    clear hq hq2 hs2 hf2 hb2 cp hc hn0 rv2 hM2 hcL hdn
    go_upto_region 6 with fail
    go_region_held3 (fun wx => wx.cell? ⟨P, 0, none⟩ = some (.pointer (some ⟨g, 0, none⟩)) ∧ wx.cell? ⟨D, doff + i * 2 + 1, none⟩ = some (.func (.func n0) #[] #[])) (first | exact HS4.out | exact HS3.out | exact HS2.out) (first
      | (go_at_fn n0; refine (HIT.out _ (below_drewN (Below.refl _ _) 1)).mono ?_; rintro e w3 ⟨er, m3, q3, s3, rfl, hf3, hb3, hk3, hz3, hs3⟩; have H3 := Lib.hid hf3; have B3 := Lib.hid hb3; have KK3 := Lib.hid ((KT1.below (below_drewN (Below.refl _ w2) 1)).trans hk3); have Z3 := Lib.hid hz3; have S3 := Lib.hid hs3; have HS3 := Lib.hid (HSS.out _ KK3.out); clear hf3 hb3 hk3 hz3 hs3)
      | (go_at_call 164; refine (fail_z g B0 m3 q3.1 q3.2 fr er _ (C.pl H3.out)).mono ?_; rintro e w4 ⟨rfl, hq4⟩; have Q4 := Lib.hid hq4; have HS4 := Lib.hid (HSS.out _ (KK3.out.trans (by obtain ⟨_, _, _, hb⟩ := hq4; exact KT1.but hb (C.pl H3.out).blk (by decide)))); clear hq4))
    all_goals go_wp2
    all_goals go_end0
    all_goals
      obtain ⟨m4, _, hf4, hb4⟩ := C.read H3.out (q' := reqS (er == 0) q3) Q4.out (fun h => t_of (fun h => req_f _ h) h)
      have g1 := HG.out
      have g2 := HP.out
      have b0 : Below g w w1 := (K0.out.mono (by omega)).trans (B1.out.mono (by have := K0.out.size; omega))
      have b2 : Below g w w2 := b0.trans (B2.out.below (Nat.le_refl _) (by have := b0.size; omega))
      have b3 : Below g w w3 := (b2.trans (below_drewN (Below.refl _ w2) 1)).trans B3.out
      have b4 : Below g w w4 := b3.trans (hb4.below (Nat.le_refl _) (by have := b3.size; omega))
      have k4 : KT1 w w4 := (((KT1.below (by rw [HP.out]; exact K0.out)).trans (KT1.below B1.out)).trans (KT1.but B2.out (C.pl H1.out).blk (by decide))).trans (KK3.out.trans (KT1.but hb4 (C.pl H3.out).blk (by decide)))
      refine ⟨rfl, m4, reqS (er == 0) q3, s3, hf4, b4, k4, fun e => ?_, fun e => ?_⟩
      · exact req_f _ (Z3.out (by rw [HQ2.out]; exact nx_f e))
      · have e2 : q2 = (true, q.2.tail) := by rw [HQ2.out]; unfold nxS; rw [if_pos e]
        have hs := S3.out (by rw [e2])
        rw [e2] at hs
        dsimp only at hs
        rw [HST.out]
        revert hs
        cases body c s q.2.tail with
        | some p =>
          rintro ⟨z1, z2, z3⟩
          exact ⟨by rw [z1, z2]; rfl, z3⟩
        | none =>
          intro hs
          by_cases h0 : er = 0
          · exact req_f _ (hs h0)
          · show (reqS (er == 0) q3).1 = false
            unfold reqS
            rw [beq_eq_false_iff_ne.2 h0, Bool.and_false]
  · have n1 : decide ((-1 : Int) < 0) = true := by decide
    have HST := Lib.hid (fun s : σ => stmt_miss (L := L) (body := body) (s := s) (l := q.2) hno)
    clear hno
    go_wp2_with fail
    refine (fail_z g B0 m q.1 q.2 fr 3 _ (C.pl H1.out)).mono ?_
    rintro e w2 ⟨rfl, hq⟩
    obtain ⟨q2, hq2⟩ : ∃ q' : Bool × List KT, q' = reqS ((3 : Int) == 0) q := ⟨_, rfl⟩
    obtain ⟨m2, hs2, hf2, hb2⟩ := C.read H1.out (q' := q2) (by rw [hq2]; exact hq) (fun h => t_of (fun h => req_f _ h) (by rw [← hq2]; exact h))
    have H2 := Lib.hid hf2
    have B2 := Lib.hid hb2
    have HF : Hid (q2.1 = false) := Lib.hid (by rw [hq2]; unfold reqS; simp)
    clear hq hq2 hs2 hf2 hb2 cp
    go_wp2
    go_end0
    have b0 : Below g w w1 := (K0.out.mono (by have := HP.out; have := HG.out; omega)).trans (B1.out.mono (by have := K0.out.size; have := HG.out; have := HP.out; omega))
    refine ⟨rfl, m2, q2, s, H2.out, b0.trans (B2.out.below (Nat.le_refl _) (by have := b0.size; have := HG.out; omega)), ((KT1.below (by rw [HP.out]; exact K0.out)).trans (KT1.below B1.out)).trans (KT1.but B2.out (C.pl H1.out).blk (by decide)), fun _ => HF.out, fun _ => ?_⟩
    rw [HST.out]
    exact HF.out
end Go.Proofs.YtpmmchppfmojhaaGreatDoor


