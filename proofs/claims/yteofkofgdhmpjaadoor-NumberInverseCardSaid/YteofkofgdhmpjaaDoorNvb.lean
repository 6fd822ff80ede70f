/- Of the program of layer 15, plain: a string divided, without another one; text. -/
import Derived.Test.YteofkofgdhmpjaaDoorNva
import Derived.Test.YteofkofgdhmpjaaDoorNug
import Derived.Lib.Replace
namespace Go.Proofs.YteofkofgdhmpjaaDoor
open Go.RowKit
set_option linter.unusedVariables false

/-! ### The library's words in ours -/
theorem pre_beg : ∀ (s t : Str), t.isPrefixOf s = begB s t
  | s, [] => by simp [begB]
  | [], d :: t => by simp [begB]
  | c :: s, d :: t => by
    have ih := pre_beg s t
    unfold begB at ih ⊢
    by_cases h : c = d
    · subst h
      simp only [List.isPrefixOf, beq_self_eq_true, Bool.true_and, List.length_cons, List.take_succ_cons, List.cons.injEq, true_and]
      exact ih
    · have h2 : (d == c) = false := by rw [beq_eq_false_iff_ne]; exact fun e => h e.symm
      simp [List.isPrefixOf, h2, h]
theorem hasP_beg (s t : Str) : Lib.hasPrefix s t = begB s t := pre_beg s t
theorem idx_pla {t : Str} (h0 : t ≠ []) : ∀ s : Str, Lib.index s t = if plaR t s < s.length then (plaR t s : Int) else -1
  | [] => by
    rw [Lib.index, if_neg (by cases t with | nil => exact absurd rfl h0 | cons a t => simp)]
    simp [plaR]
  | c :: s => by
    rw [Lib.index, pre_beg, plaR, idx_pla h0 s]
    by_cases hb : begB (c :: s) t = true
    · rw [if_pos hb, if_pos hb, if_pos (by simp)]; rfl
    · rw [if_neg hb, if_neg hb]
      by_cases hl : plaR t s < s.length
      · have h1 : ¬ (((plaR t s : Nat) : Int) == -1) = true := by rw [beq_iff_eq]; omega
        rw [if_pos hl, if_neg h1, if_pos (by simp; omega)]
        omega
      · rw [if_neg hl, if_pos (by decide), if_neg (by simp; omega)]
/-- Divided at the first place of another one. -/
def cutR (s t : Str) : Str × Str × Bool := if plaR t s < s.length then (s.take (plaR t s), s.drop (plaR t s + t.length), true) else (s, [], false)
theorem cut_eqR {s t : Str} (h0 : t ≠ []) : Lib.cut s t = cutR s t := by
  unfold Lib.cut cutR
  rw [idx_pla h0]
  by_cases hl : plaR t s < s.length
  · rw [if_pos hl, if_pos hl, if_pos (by omega), Int.toNat_natCast]
  · rw [if_neg hl, if_neg hl, if_neg (by omega)]
theorem wit_none {g : Str} : ∀ (f : Nat) (s : Str), s.length ≤ f → ¬ plaR g s < s.length → witR g f s = s
  | f, [], _, _ => by cases f <;> rfl
  | 0, c :: s, h, _ => by simp at h
  | f + 1, c :: s, h, hp => by
    rw [plaR] at hp
    by_cases hb : begB (c :: s) g = true
    · rw [if_pos hb] at hp; simp at hp
    · rw [if_neg hb] at hp
      rw [witR, if_neg (fun k => hb k.2), wit_none f s (by simpa using h) (by simp at hp; omega)]
theorem wit_hit {g : Str} (h0 : g ≠ []) : ∀ (f : Nat) (s : Str), s.length ≤ f → plaR g s < s.length → witR g f s = s.take (plaR g s) ++ witR g f (s.drop (plaR g s + g.length))
  | f, [], _, h => by simp at h
  | 0, c :: s, h, _ => by simp at h
  | f + 1, c :: s, h, hp => by
    rw [plaR] at hp ⊢
    by_cases hb : begB (c :: s) g = true
    · rw [if_pos hb, List.take_zero, List.nil_append, witR, if_pos ⟨h0, hb⟩, Nat.zero_add]
      have hg := List.length_pos_iff.2 h0
      exact wit_fuel g f (f + 1) _ (by rw [List.length_drop]; simp at h ⊢; omega) (by rw [List.length_drop]; simp at h ⊢; omega)
    · rw [if_neg hb] at hp ⊢
      simp at h hp
      rw [witR, if_neg (fun k => hb k.2), wit_hit h0 f s h hp, List.take_succ_cons, show plaR g s + 1 + g.length = (plaR g s + g.length) + 1 by omega, List.drop_succ_cons, List.cons_append]
      congr 2
      exact wit_fuel g f (f + 1) _ (by rw [List.length_drop]; omega) (by rw [List.length_drop]; omega)
theorem repl_wit {g : Str} (h0 : g ≠ []) : ∀ (n : Nat) (s : Str), s.length ≤ n → ∀ k, Lib.count s g ≤ k → Lib.replaceK g [] k s = witR g s.length s := by
  intro n
  induction n with
  | zero =>
    intro s hs k _
    obtain rfl : s = [] := List.length_eq_zero_iff.1 (by omega)
    cases k with
    | zero => rfl
    | succ k =>
      have hi := idx_pla h0 []
      rw [if_neg (by simp)] at hi
      rw [Lib.replaceK, if_pos (by rw [hi]; rfl)]; rfl
  | succ n ih =>
    intro s hs k hk
    have hi := idx_pla h0 s
    by_cases hl : plaR g s < s.length
    · rw [if_pos hl] at hi
      have hc := Lib.count_hit (sub := g) h0 hi
      have hg := List.length_pos_iff.2 h0
      cases k with
      | zero => omega
      | succ k =>
        rw [Lib.replaceK_hit _ _ _ _ _ hi, List.append_nil, wit_hit h0 _ s (Nat.le_refl _) hl]
        congr 1
        rw [ih _ (by rw [List.length_drop]; omega) k (by omega)]
        exact wit_fuel g _ _ _ (Nat.le_refl _) (by rw [List.length_drop]; omega)
    · rw [if_neg hl] at hi
      rw [wit_none _ s (Nat.le_refl _) hl]
      cases k with
      | zero => rfl
      | succ k => rw [Lib.replaceK, if_pos (by rw [hi]; rfl)]
theorem replAll_wit {g : Str} (h0 : g ≠ []) (s : Str) : Lib.replaceAll s g [] = witR g s.length s := by
  unfold Lib.replaceAll Lib.replace
  have e : (g == []) = false := by rw [beq_eq_false_iff_ne]; exact h0
  have e2 : Lib.replaceNum s g (-1) = Lib.count s g := by unfold Lib.replaceNum; rw [if_pos (Or.inl (by decide))]
  rw [e, e2]
  exact repl_wit h0 s.length s (Nat.le_refl _) _ (Nat.le_refl _)

/-! ### A variable of the library's -/
structure MaxL (w : World) : Prop where
  is : ∃ m : Int, w.cell? ⟨0, 0, none⟩ = some (.int .i64 m)
  pos : 0 < w.heap.size
theorem MaxL.below {w w' : World} (h : MaxL w) (hb : Below w.heap.size w w') : MaxL w' := by
  obtain ⟨⟨m, hm⟩, hp⟩ := h
  exact ⟨⟨m, (hb.cell (p := ⟨0, 0, none⟩) hp).trans hm⟩, Nat.lt_of_lt_of_le hp hb.size⟩
theorem cutP_any (s p : Str) (w : World) : Calls Tryd.prog 26 #[.string (ofL s), .string (ofL p)] w fun e w' => e = .returned (.tuple #[.string (ofL (if begB s p = true then s.drop p.length else s)), .bool (begB s p)]) ∧ w' = w := by
  refine (Tryd.strings_CutPrefix (ofL s) (ofL p) w).mono ?_
  rintro e w' ⟨rfl, rfl⟩
  refine ⟨?_, rfl⟩
  have e1 : Lib.hasPrefix (ofL s).data.toList (ofL p).data.toList = begB s p := hasP_beg s p
  have e2 : Lib.trimPrefix (ofL s).data.toList (ofL p).data.toList = if begB s p = true then s.drop p.length else s := by
    unfold Lib.trimPrefix
    rw [e1]
    rfl
  rw [e1, e2]
  rfl
theorem cutS_any (s t : Str) (h0 : t ≠ []) (hs : s.length ≤ 1000000) (w : World) (hm : MaxL w) : Calls Tryd.prog 27 #[.string (ofL s), .string (ofL t)] w fun e w' => e = .returned (.tuple #[.string (ofL (cutR s t).1), .string (ofL (cutR s t).2.1), .bool (cutR s t).2.2]) ∧ Below w.heap.size w w' := by
  obtain ⟨⟨m, hm⟩, hp⟩ := hm
  refine (Tryd.strings_Cut (ofL s) (ofL t) m w (by rw [ofL_size]; omega) hm).mono ?_
  rintro e w' ⟨rfl, n, rfl⟩
  refine ⟨?_, below_drewN (Below.refl _ _) _⟩
  have e1 : Lib.cut (ofL s).data.toList (ofL t).data.toList = cutR s t := cut_eqR h0
  rw [e1]
  rfl

/-! ### The text of a number -/
theorem cutN_point {n : Num} (g : Good n) : cutR (tx1 n) [46] = (n.wh, n.fr, decide (n.fr ≠ [])) := by
  have hw : ∀ c ∈ [(46 : UInt8)], c ∉ n.wh := fun c hc hm => by
    simp at hc; subst hc
    exact absurd (g.dw 46 hm) (by decide)
  unfold tx1 cutR
  by_cases hf : n.fr = []
  · rw [if_pos hf, List.append_nil, pla_none (by simp) hw, if_neg (by omega), hf]
    simp
  · rw [if_neg hf, show (46 :: n.fr : Str) = [46] ++ n.fr from rfl, pla_at (by simp) _ hw, if_pos (by simp), decide_eq_true hf]
    simp
theorem cutN_sign {n : Num} (g : Good n) : begB (txt n) [45] = n.neg ∧ (if begB (txt n) [45] = true then (txt n).drop 1 else txt n) = tx1 n := by
  rw [txt_eq]
  cases hn : n.neg with
  | true => simp [begB]
  | false =>
    have h : begB (tx1 n) [45] = false := by
      unfold begB
      rw [decide_eq_false_iff_not]
      intro e
      have := head_isD g 45 (by
        cases hx : tx1 n with
        | nil => rw [hx] at e; simp at e
        | cons a l => rw [hx] at e; simp at e; rw [e]; rfl)
      exact absurd this (by decide)
    simp [h]
theorem sy_names (x : SyN) {M : SyN → Prop} (h : ∀ (de gr mi pe : Str) (p q : Int), M ⟨de, gr, mi, pe, p, q⟩) : M x := by cases x; exact h _ _ _ _ _ _
set_option maxRecDepth 1000000 in
set_option maxHeartbeats 8000000 in
theorem textP_any (x : SyN) (hx : SmY x) (n : Num) (g : Good n) (w : World) (hm : MaxL w) : Calls Tryd.prog 15 #[.agg #[.string (ofL x.de), .string (ofL x.gr), .string (ofL x.mi), .string (ofL x.pe), .int .i64 x.pr, .int .i64 x.se], .string (ofL (txt n))] w fun e w' => e = .returned (.string (ofL (texR x n))) ∧ Below w.heap.size w w' := by
  have hgl := grp_le hx g
  have hwl := g.high
  have hfl := g.few
  have htl := txt_len g
  have HGR := Lib.hid (fun w => group_any x n.wh (by omega) hx.gr hx.p1 hx.p2 hx.s1 hx.s2 w)
  obtain ⟨hs1, hs2⟩ := cutN_sign g
  have HCP := Lib.hid (fun w => cutP_any (txt n) [45] w)
  have HCS := Lib.hid (fun w hm => cutS_any (tx1 n) [46] (by simp) (by unfold tx1; rw [List.length_append]; split <;> simp <;> omega) w hm)
  rw [show ([45] : Str).length = 1 from rfl, hs2, hs1] at HCP
  rw [cutN_point g] at HCS
  have hde := hx.de
  have hmi := hx.mi
  obtain ⟨G, hG⟩ : ∃ G, grpR x n.wh = G := ⟨_, rfl⟩
  have HR : Hid (texR x n = (if n.neg = true then x.mi else []) ++ (G ++ (if n.fr = [] then [] else x.de ++ n.fr))) := Lib.hid (by unfold texR; rw [hG])
  rw [hG] at HGR hgl
  obtain ⟨S, hS⟩ : ∃ S, txt n = S := ⟨_, rfl⟩
  obtain ⟨U, hU⟩ : ∃ U, tx1 n = U := ⟨_, rfl⟩
  rw [hS] at HCP ⊢
  rw [hU] at HCP HCS
  clear hS hU hs1 hs2 hG htl
  obtain ⟨de, e1⟩ : ∃ de, x.de = de := ⟨_, rfl⟩
  obtain ⟨gr, e2⟩ : ∃ gr, x.gr = gr := ⟨_, rfl⟩
  obtain ⟨mi, e3⟩ : ∃ mi, x.mi = mi := ⟨_, rfl⟩
  obtain ⟨pe, e4⟩ : ∃ pe, x.pe = pe := ⟨_, rfl⟩
  obtain ⟨p, e5⟩ : ∃ p, x.pr = p := ⟨_, rfl⟩
  obtain ⟨q, e6⟩ : ∃ q, x.se = q := ⟨_, rfl⟩
  rw [e1, e2, e3, e4, e5, e6] at HGR
  rw [e1] at hde
  rw [e3] at hmi
  rw [e1, e3] at HR
  rw [e1, e2, e3, e4, e5, e6]
  clear hx e1 e2 e3 e4 e5 e6
  obtain ⟨R, hR⟩ : ∃ R, texR x n = R := ⟨_, rfl⟩
  rw [hR] at HR ⊢
  clear hR
  obtain ⟨wh, ew⟩ : ∃ wh, n.wh = wh := ⟨_, rfl⟩
  obtain ⟨fr, ef⟩ : ∃ fr, n.fr = fr := ⟨_, rfl⟩
  obtain ⟨ng, en⟩ : ∃ ng, n.neg = ng := ⟨_, rfl⟩
  rw [ew] at HGR HCS
  rw [ef] at HCS HR hfl
  rw [en] at HCP HR
  clear ew ef en hwl g
  obtain ⟨fb, hfb⟩ : ∃ fb, decide (fr ≠ []) = fb := ⟨_, rfl⟩
  rw [hfb] at HCS
  have HFB := Lib.hid hfb
  clear hfb
  have HM := Lib.hid hm
  clear hm
  have B0 := Lib.hid ((Below.refl w.heap.size w).alloc (Nat.le_refl _) (.cells #[.string (ofL de), .string (ofL gr), .string (ofL mi), .string (ofL pe), .int .i64 p, .int .i64 q] 23))
  have K0 := Lib.hid (Blk.new w 23 #[.string (ofL de), .string (ofL gr), .string (ofL mi), .string (ofL pe), .int .i64 p, .int .i64 q])
  obtain ⟨F, hF⟩ : ∃ F, de ++ fr = F := ⟨_, rfl⟩
  have hFn : F.length ≤ 2000 := by rw [← hF, List.length_append]; omega
  obtain ⟨MG, hMG⟩ : ∃ MG, mi ++ G = MG := ⟨_, rfl⟩
  have hMGn : MG.length ≤ 30000 := by rw [← hMG, List.length_append]; omega
  obtain ⟨GF, hGF⟩ : ∃ GF, G ++ F = GF := ⟨_, rfl⟩
  obtain ⟨MGF, hMGF⟩ : ∃ MGF, MG ++ F = MGF := ⟨_, rfl⟩
  have s1 : ∀ wx, (Op.stringOp .add (ofL de) (ofL fr)).run Tryd.prog wx = .ok (.string (ofL F)) wx := fun wx => str_add (by omega) hF wx
  have s2 : ∀ wx, (Op.stringOp .add (ofL mi) (ofL G)).run Tryd.prog wx = .ok (.string (ofL MG)) wx := fun wx => str_add (by omega) hMG wx
  have s3 : ∀ wx, (Op.stringOp .add (ofL G) (ofL F)).run Tryd.prog wx = .ok (.string (ofL GF)) wx := fun wx => str_add (by omega) hGF wx
  have s4 : ∀ wx, (Op.stringOp .add (ofL MG) (ofL F)).run Tryd.prog wx = .ok (.string (ofL MGF)) wx := fun wx => str_add (by omega) hMGF wx
  have HX : Hid (R = if ng = true then (if fb = true then MGF else MG) else (if fb = true then GF else G)) := Lib.hid (by
    rw [HR.out, ← hMGF, ← hGF, ← hMG, ← hF, ← HFB.out]
    by_cases h : fr = [] <;> cases ng <;> simp [h])
  clear hF hMG hGF hMGF hFn hMGn hde hmi hfl hgl HR HFB
  go_enter Tryd.func15, Tryd.ntmps15
  go_wp2_with fail
  refine (HCP.out _).mono ?_
  rintro e w1 ⟨rfl, hw⟩
  obtain rfl := hw
  go_wp2_with fail
  refine (HCS.out _ (HM.out.below B0.out)).mono ?_
  rintro e w2 ⟨rfl, b2⟩
  have B2 := Lib.hid (stt B0.out b2 B0.out.size)
  have K2 := Lib.hid (K0.out.below b2)
  clear b2
  have d0 : w2.cell? ⟨w.heap.size, 0, none⟩ = some (.string (ofL de)) := K2.out.cell 0
  have d1 : w2.cell? ⟨w.heap.size, 1, none⟩ = some (.string (ofL gr)) := K2.out.cell 1
  have d2 : w2.cell? ⟨w.heap.size, 2, none⟩ = some (.string (ofL mi)) := K2.out.cell 2
  have d3 : w2.cell? ⟨w.heap.size, 3, none⟩ = some (.string (ofL pe)) := K2.out.cell 3
  have d4 : w2.cell? ⟨w.heap.size, 4, none⟩ = some (.int .i64 p) := K2.out.cell 4
  have d5 : w2.cell? ⟨w.heap.size, 5, none⟩ = some (.int .i64 q) := K2.out.cell 5
  go_wp2_with fail
  clear d0 d1 d2 d3 d4 d5
  refine (HGR.out _).mono ?_
  rintro e w3 ⟨rfl, b3⟩
  have B3 := Lib.hid (stt B2.out b3 B2.out.size)
  have K3 := Lib.hid (K2.out.below b3)
  clear b3
  have d0 : w3.cell? ⟨w.heap.size, 0, none⟩ = some (.string (ofL de)) := K3.out.cell 0
  have d2 : w3.cell? ⟨w.heap.size, 2, none⟩ = some (.string (ofL mi)) := K3.out.cell 2
  cases ng with
  | true =>
    cases fb with
    | true =>
      rw [if_pos rfl, if_pos rfl] at HX
      go_wp2
      (try (go_quiet (fail); go_wp2))
      go_ret
      exact ⟨by rw [HX.out]; rfl, B3.out⟩
    | false =>
      rw [if_pos rfl, if_neg (by simp)] at HX
      go_wp2
      go_ret
      exact ⟨by rw [HX.out]; rfl, B3.out⟩
  | false =>
    cases fb with
    | true =>
      rw [if_neg (by simp), if_pos rfl] at HX
      go_wp2
      (try (go_quiet (fail); go_wp2))
      go_ret
      exact ⟨by rw [HX.out]; rfl, B3.out⟩
    | false =>
      rw [if_neg (by simp), if_neg (by simp)] at HX
      go_wp2
      go_ret
      exact ⟨by rw [HX.out]; rfl, B3.out⟩
end Go.Proofs.YteofkofgdhmpjaaDoor
