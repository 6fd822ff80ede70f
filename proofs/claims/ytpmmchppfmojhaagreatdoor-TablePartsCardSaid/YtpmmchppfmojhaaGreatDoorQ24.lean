/- What the row stands on, part 24. -/
import Derived.Deep.AppendLies
import Derived.Test.YtpmmchppfmojhaaGreatDoorQ23

/- Of the program's table package: add. -/
namespace Go.Proofs.YtpmmchppfmojhaaGreatDoor
open Go.RowKit
set_option linter.unusedVariables false

/-- What an adding answers: twice, too many, or none. -/
def adR (dup : Bool) (n mx : Nat) : Int := if dup = true then 9 else if mx ≤ n then 6 else 0
def AdP {α : Type} (k : Nat) (enc : α → List Value) (g off : Nat) (T e : TypeId) (cs : Array Value) (v : Value) (l : List α) (x : α) (mx : Nat) (dup : Bool) (w : World) (en : Ending) (w' : World) : Prop :=
  ∃ er : Int, en = .returned (.int .i64 er) ∧ ((er = adR dup l.length mx ∧ er ≠ 0 ∧ Below w.heap.size w w') ∨ (er = 0 ∧ adR dup l.length mx = 0 ∧ ∃ a c, Blk g T (cs.setIfInBounds off (.slice a (l.length + 1) c)) w' ∧ Own1 k enc w' (g + 1) e (.slice a (l.length + 1) c) (l ++ [x]) ∧ (∀ b, (Value.slice a (l.length + 1) c).ownBlock = some b → v.ownBlock = some b ∨ w.heap.size ≤ b) ∧ Fw (fun i => i = g ∨ v.ownBlock = some i) w w'))
section
variable {P : Program} {α : Type} {k : Nat} {enc : α → List Value} {ops : Array Oper} {o : Oper} {rest : List Oper} {a : Act} {Q : Exit → Act → World → Prop}
def LieZ (k : Nat) (enc : α → List Value) (base : Nat) (e : TypeId) (w0 : World) (v : Value) (l : List α) (v' : Value) (w' : World) : Prop :=
  Own1 k enc w' base e v' l ∧ w0.grownBy w' v.ownBlock ∧ ∀ b, v'.ownBlock = some b → v.ownBlock = some b ∨ w0.heap.size ≤ b
theorem wpList_append_big {w0 : World} {e : TypeId} {cs : Array Value} {x : α} {N : Nat} (hN : w0.heap.size = N) (hgd : o.guard = none) (s y : Operand) (t : TypeId)
    (ho : o.op = .call { callee := .builtin .append, args := #[s, y], argTypes := #[t, t] })
    (base : Nat) (i : TypeInfo) (z : Value) (by_ : Nat) (ht : P.underlying t = some (.slice e)) (hi : P.info? e = some i) (hz : i.zero = some z) (hsize : i.size = k) (hby : i.bytes = by_) (hb64 : by_ ≤ 512) (hzs : z.cells.size = k) (hk0 : 0 < k)
    (hk : ∀ x : α, (enc x).length = k) (h1c : ∀ x : α, ∀ u ∈ enc x, u.oneCell' = true)
    (v : Value) (l : List α) (hcs : cs.toList = enc x) (hs : a.eval s = v) (hown : Own1 k enc w0 base e v l) (hx : a.eval y = .slice (some ⟨N, 0, none⟩) 1 1)
    (hl : l.length ≤ 1000000) (hbase : base ≤ N)
    (h : ∀ v' w', LieZ k enc base e w0 v (l ++ [x]) v' w' → wpList P ops Q rest (a.put o.dst v') w') : wpList P ops Q (o :: rest) a (w0.alloc (.cells cs e)) := by
  subst hN
  refine wpList_append_lies (w := w0.alloc (.cells cs e)) hgd s y t ho base e i z k by_ ht hi hz hsize hby hzs hk0 v l.length (l.flatMap enc) hs (World.ownsRow.alloc hown _) ⟨w0.heap.size, 0, none⟩ 1 1 cs.toList hx (by rw [hcs, hk, Nat.one_mul]) (cells_new _ _ _) (fun u hu => h1c x u (by rw [← hcs]; exact hu)) (by omega) (by unfold maxLen; omega) (Nat.le_trans (Nat.mul_le_mul_left _ hb64) (by omega)) (by simp; omega) _ rfl ?_
  intro g cap w' h2 h3 h4 h5
  refine h _ w' ⟨?_, (World.grownBy_alloc _ _ _).trans h3, fun b hb => ?_⟩
  · unfold Own1
    rw [List.flatMap_append, List.length_append, List.flatMap_cons, List.flatMap_nil, List.append_nil, ← hcs]
    exact h2
  · have hgb : g = b := by
      have : (some g : Option Nat) = some b := hb
      injection this
    subst hgb
    rcases h4 with h4 | h4
    · exact .inl h4
    · right
      rw [h4]
      simp
theorem step_append_big {K : Act → World → Prop} {E : Prop} {w0 : World} {e : TypeId} {cs : Array Value} {x : α} {N : Nat} (hN : w0.heap.size = N) (hgd : o.guard = none) (s y : Operand) (t : TypeId)
    (ho : o.op = .call { callee := .builtin .append, args := #[s, y], argTypes := #[t, t] })
    (base : Nat) (i : TypeInfo) (z : Value) (by_ : Nat) (ht : P.underlying t = some (.slice e)) (hi : P.info? e = some i) (hz : i.zero = some z) (hsize : i.size = k) (hby : i.bytes = by_) (hb64 : by_ ≤ 512) (hzs : z.cells.size = k) (hk0 : 0 < k)
    (hk : ∀ x : α, (enc x).length = k) (h1c : ∀ x : α, ∀ u ∈ enc x, u.oneCell' = true)
    (v : Value) (l : List α) (hcs : cs.toList = enc x) (hs : a.eval s = v) (hown : Own1 k enc w0 base e v l) (hx : a.eval y = .slice (some ⟨N, 0, none⟩) 1 1)
    (hl : l.length ≤ 1000000) (hbase : base ≤ N)
    (h : ∀ v' w', LieZ k enc base e w0 v (l ++ [x]) v' w' → K (a.put o.dst v') w') : if Region.wanted o (yielded ops a.tmps) = true then Oper.wp P o a (w0.alloc (.cells cs e)) K Q else E := by
  subst hN
  refine step_append_lies (w := w0.alloc (.cells cs e)) hgd s y t ho base e i z k by_ ht hi hz hsize hby hzs hk0 v l.length (l.flatMap enc) hs (World.ownsRow.alloc hown _) ⟨w0.heap.size, 0, none⟩ 1 1 cs.toList hx (by rw [hcs, hk, Nat.one_mul]) (cells_new _ _ _) (fun u hu => h1c x u (by rw [← hcs]; exact hu)) (by omega) (by unfold maxLen; omega) (Nat.le_trans (Nat.mul_le_mul_left _ hb64) (by omega)) (by simp; omega) _ rfl ?_
  intro g cap w' h2 h3 h4 h5
  refine h _ w' ⟨?_, (World.grownBy_alloc _ _ _).trans h3, fun b hb => ?_⟩
  · unfold Own1
    rw [List.flatMap_append, List.length_append, List.flatMap_cons, List.flatMap_nil, List.append_nil, ← hcs]
    exact h2
  · have hgb : g = b := by
      have : (some g : Option Nat) = some b := hb
      injection this
    subst hgb
    rcases h4 with h4 | h4
    · exact .inl h4
    · right
      rw [h4]
      simp
end
theorem Fw.of_grown {w w' : World} {row : Option Nat} (h : w.grownBy w' row) : Fw (fun i => row = some i) w w' := ⟨h.os, h.tape, h.output, h.size, fun i hi hn => h.block i hi (fun e => hn e.symm)⟩
theorem grown_blk {α : Type} {k : Nat} {enc : α → List Value} {g : Nat} {T e : TypeId} {cs : Array Value} {v : Value} {l : List α} {w w' : World} (h : Blk g T cs w) (ho : Own1 k enc w (g + 1) e v l) (hg : w.grownBy w' v.ownBlock) : Blk g T cs w' :=
  (hg.block g h.lt (fun e => by have := (ho.lt_ g e.symm).1; omega)).trans h
theorem add_end {α : Type} {k : Nat} {enc : α → List Value} {g off : Nat} {T e : TypeId} {cs : Array Value} {v : Value} {l : List α} {x : α} {mx : Nat} {dup : Bool} {w w2 w9 : World} {a9 : Option Addr} {c9 : Nat} (K : Below w.heap.size w w2) (hb : Blk g T cs w2) (k9 : Blk g T cs w9) (h9 : LieZ k enc (g + 1) e w2 v (l ++ [x]) (.slice a9 (l.length + 1) c9) w9) (hm : adR dup l.length mx = 0) :
    AdP k enc g off T e cs v l x mx dup w (.returned (.int .i64 0)) (w9.setCell ⟨g, off, none⟩ (.slice a9 (l.length + 1) c9)) := by
  obtain ⟨h1, h2, h3⟩ := h9
  have b9 : But g w9 (w9.setCell ⟨g, off, none⟩ (.slice a9 (l.length + 1) c9)) := But.setCell g _ off _
  refine ⟨0, rfl, .inr ⟨rfl, hm, a9, c9, k9.put off _, own_but h1 b9 (by omega), fun b e => ?_, ?_⟩⟩
  · rcases h3 b e with h | h
    · exact .inl h
    · exact .inr (by have := K.size; omega)
  · have f1 : Fw (fun i => i = g ∨ v.ownBlock = some i) w w2 := Fw.of_below K
    have f2 : Fw (fun i => i = g ∨ v.ownBlock = some i) w2 w9 := (Fw.of_grown h2).mono (fun i _ h => .inr h)
    have f3 : Fw (fun i => i = g ∨ v.ownBlock = some i) w9 (w9.setCell ⟨g, off, none⟩ (.slice a9 (l.length + 1) c9)) := Fw.of_but b9 (.inl rfl)
    exact (f1.trans f2 (fun _ _ h => h)).trans f3 (fun _ _ h => h)
theorem Tryz.infoARu : (Tryz.prog.info? 56).map (fun i => (i.zero, i.size, i.bytes)) = some (some (.agg #[.string ⟨#[]⟩, .slice none 0 0]), 2, 40) := by kernel_rfl
set_option maxRecDepth 1000000 in
set_option maxHeartbeats 8000000 in
theorem addRu_any (g off : Nat) (T : TypeId) (hT : T ≠ 56) (cs : Array Value) (v : Value) (l : List (Str × RawS)) (x : Str × RawS) (mx : Nat) (q : Str × RawS → Bool) (n0 : Nat) (eg : ∀ args w, (callFunc n0 args).run Tryz.prog w = .ok (.enter n0 args) w) (w : World) (hb : Blk g T cs w) (ho : cs[off]? = some v) (hown : Own1 2 encRl w (g + 1) 56 v l) (hl : l.length ≤ 1000)
    (hF : ∀ (W1 : World) (y : Str × RawS), y ∈ l → Calls Tryz.prog n0 #[.agg #[.string (ofL x.1), .slice x.2.a x.2.n x.2.c], .agg #[.string (ofL y.1), .slice y.2.a y.2.n y.2.c]] W1 fun e w' => e = .returned (.bool (q y)) ∧ Below W1.heap.size W1 w') :
    Calls Tryz.prog 301 #[.pointer (some ⟨g, off, none⟩), .agg #[.string (ofL x.1), .slice x.2.a x.2.n x.2.c], .int .i64 mx, .func (.func n0) #[] #[]] w (AdP 2 encRl g off T 56 cs v l x mx (l.any q) w) := by
  obtain ⟨va, vc, hva⟩ := hown.slice
  subst hva
  obtain ⟨iT, hiT, hzT, hkT, hbT⟩ := info_partsT Tryz.infoARu
  have hlt := hb.lt
  have K0 := Lib.hid ((Below.refl w.heap.size w).alloc (Nat.le_refl _) (.cells #[.string (ofL x.1), .slice x.2.a x.2.n x.2.c] 56))
  have KX := Lib.hid (Blk.new w 56 #[.string (ofL x.1), .slice x.2.a x.2.n x.2.c])
  have HB := Lib.hid hb
  have HO := Lib.hid ho
  have OW := Lib.hid hown
  have HH := Lib.hid (fun W (h : Rd 2 encRl W (.slice va l.length vc) l) => hasRu_any _ l x q n0 eg W h hF)
  have d0 : w.cell? ⟨g, off, none⟩ = some (.slice va l.length vc) := (hb.cell off).trans ho
  have c0 : (w.alloc (.cells #[.string (ofL x.1), .slice x.2.a x.2.n x.2.c] 56)).cell? ⟨w.heap.size, 0, none⟩ = some (.string (ofL x.1)) := KX.out.cell 0
  have c1 : (w.alloc (.cells #[.string (ofL x.1), .slice x.2.a x.2.n x.2.c] 56)).cell? ⟨w.heap.size, 1, none⟩ = some (.slice x.2.a x.2.n x.2.c) := KX.out.cell 1
  clear hb ho hown hF
  obtain ⟨LN, hLN⟩ : ∃ LN, l.length = LN := ⟨_, rfl⟩
  have HLN := Lib.hid hLN
  rw [hLN] at OW HH HO d0 hl
  rw [hLN]
  obtain ⟨dp, hdp⟩ : ∃ dp, l.any q = dp := ⟨_, rfl⟩
  rw [hdp] at HH
  rw [hdp]
  clear hLN hdp
  go_enter Tryz.func301, Tryz.ntmps301
  go_wp2_with fail
  refine region_stail 5 (by kernel_rfl) (by decide +kernel) ?_
  simp only [List.take_succ_cons, List.take_zero, List.drop_succ_cons, List.drop_zero]
  iterate 5 still_step
  refine wpStill_nil ?_
  go_wp2_with fail
  refine (HH.out _ ((OW.out.rd encRl_len).below (K0.out.trans (below_drewN (Below.refl _ _) 1)))).mono ?_
  rintro e w2 ⟨rfl, b2⟩
  have K2 := Lib.hid ((K0.out.trans (below_drewN (Below.refl _ _) 1)).trans (b2.mono (by simp)))
  have KX2 := Lib.hid (Blk.below KX.out (Below.trans (below_drewN (Below.refl _ _) 1) (b2.mono (by simp))))
  have HB2 := Lib.hid (Blk.below HB.out K2.out)
  have OW2 := Lib.hid (Own1.below OW.out K2.out)
  clear b2 d0 c0 c1
  cases dp with
  | true =>
    go_wp2
    go_ret
    exact ⟨9, rfl, .inl ⟨rfl, by decide, K2.out⟩⟩
  | false =>
    have d0 : w2.cell? ⟨g, off, none⟩ = some (.slice va LN vc) := (HB2.out.cell off).trans HO.out
    by_cases hm : mx ≤ LN
    · have z1 : decide ((mx : Int) ≤ (LN : Int)) = true := decide_eq_true (by omega)
      have z2 : decide (mx ≤ LN) = true := decide_eq_true hm
      have HM : Hid (adR false LN mx = 6) := Lib.hid (by unfold adR; simp [hm])
      clear hm
      go_wp2
      go_ret
      exact ⟨6, rfl, .inl ⟨by rw [HLN.out]; exact HM.out.symm, by decide, K2.out⟩⟩
    · have z1 : decide ((mx : Int) ≤ (LN : Int)) = false := decide_eq_false (by omega)
      have z2 : decide (mx ≤ LN) = false := decide_eq_false hm
      have HM : Hid (adR false LN mx = 0) := Lib.hid (by unfold adR; simp [hm])
      clear hm
      go_wp2_with fail
      have f1 : w2.frozen? ⟨g, off, none⟩ = false := HB2.out.frozen off
      have dA : (w2.alloc (.cells #[.string (ofL x.1), .slice x.2.a x.2.n x.2.c] 56)).cell? ⟨g, off, none⟩ = some (.slice va LN vc) := ((Blk.alloc HB2.out (.cells #[.string (ofL x.1), .slice x.2.a x.2.n x.2.c] 56)).cell off).trans HO.out
      have c0 : w2.cell? ⟨w.heap.size, 0, none⟩ = some (.string (ofL x.1)) := KX2.out.cell 0
      have c1 : w2.cell? ⟨w.heap.size, 1, none⟩ = some (.slice x.2.a x.2.n x.2.c) := KX2.out.cell 1
      have OW3 := Lib.hid (Own1.below OW2.out (below_drewN (Below.refl _ _) 1))
      have HBD := Lib.hid (Blk.below HB2.out (below_drewN (Below.refl _ _) 1))
      have hz2 : g + 1 ≤ w2.drew.heap.size := by have := HB2.out.lt; simp; omega
      go_upto_region 5 with fail
      go_region_law (first
        | (refine step_append_big (w0 := w2.drew) (x := x) (N := w2.drew.heap.size) rfl rfl _ _ 43 rfl (g + 1) iT _ 40 Tryz.underlying43 hiT hzT hkT hbT (by omega) rfl (by omega) encRl_len encRl_one _ l rfl rfl OW3.out rfl (by have := HLN.out; omega) hz2 ?_; intro v9 w9 h9; obtain ⟨a9, c9, hv9⟩ := h9.1.slice; rw [List.length_append, List.length_singleton] at hv9; subst hv9; have H9 := Lib.hid h9; have k9 := grown_blk HBD.out OW3.out h9.2.1; have d9 : w9.cell? ⟨g, off, none⟩ = some (.slice va LN vc) := (k9.cell off).trans HO.out; have f9 : w9.frozen? ⟨g, off, none⟩ = false := k9.frozen off; have K9 := Lib.hid k9; clear h9 k9))
      all_goals go_wp2
      all_goals go_ret
      all_goals exact add_end (K2.out.trans (below_drewN (Below.refl _ _) 1 |>.mono K2.out.size)) HBD.out K9.out H9.out (by rw [HLN.out]; exact HM.out)
theorem Tryz.infoAAl : (Tryz.prog.info? 61).map (fun i => (i.zero, i.size, i.bytes)) = some (some (.agg #[.string ⟨#[]⟩, .string ⟨#[]⟩]), 2, 32) := by kernel_rfl
set_option maxRecDepth 1000000 in
set_option maxHeartbeats 8000000 in
theorem addAl_any (g off : Nat) (T : TypeId) (hT : T ≠ 61) (cs : Array Value) (v : Value) (l : List (Str × Str)) (x : Str × Str) (mx : Nat) (q : Str × Str → Bool) (n0 : Nat) (eg : ∀ args w, (callFunc n0 args).run Tryz.prog w = .ok (.enter n0 args) w) (w : World) (hb : Blk g T cs w) (ho : cs[off]? = some v) (hown : Own1 2 encDu w (g + 1) 61 v l) (hl : l.length ≤ 1000)
    (hF : ∀ (W1 : World) (y : Str × Str), y ∈ l → Calls Tryz.prog n0 #[.agg #[.string (ofL x.1), .string (ofL x.2)], .agg #[.string (ofL y.1), .string (ofL y.2)]] W1 fun e w' => e = .returned (.bool (q y)) ∧ Below W1.heap.size W1 w') :
    Calls Tryz.prog 221 #[.pointer (some ⟨g, off, none⟩), .agg #[.string (ofL x.1), .string (ofL x.2)], .int .i64 mx, .func (.func n0) #[] #[]] w (AdP 2 encDu g off T 61 cs v l x mx (l.any q) w) := by
  obtain ⟨va, vc, hva⟩ := hown.slice
  subst hva
  obtain ⟨iT, hiT, hzT, hkT, hbT⟩ := info_partsT Tryz.infoAAl
  have hlt := hb.lt
  have K0 := Lib.hid ((Below.refl w.heap.size w).alloc (Nat.le_refl _) (.cells #[.string (ofL x.1), .string (ofL x.2)] 61))
  have KX := Lib.hid (Blk.new w 61 #[.string (ofL x.1), .string (ofL x.2)])
  have HB := Lib.hid hb
  have HO := Lib.hid ho
  have OW := Lib.hid hown
  have HH := Lib.hid (fun W (h : Rd 2 encDu W (.slice va l.length vc) l) => hasAl_any _ l x q n0 eg W h hF)
  have d0 : w.cell? ⟨g, off, none⟩ = some (.slice va l.length vc) := (hb.cell off).trans ho
  have c0 : (w.alloc (.cells #[.string (ofL x.1), .string (ofL x.2)] 61)).cell? ⟨w.heap.size, 0, none⟩ = some (.string (ofL x.1)) := KX.out.cell 0
  have c1 : (w.alloc (.cells #[.string (ofL x.1), .string (ofL x.2)] 61)).cell? ⟨w.heap.size, 1, none⟩ = some (.string (ofL x.2)) := KX.out.cell 1
  clear hb ho hown hF
  obtain ⟨LN, hLN⟩ : ∃ LN, l.length = LN := ⟨_, rfl⟩
  have HLN := Lib.hid hLN
  rw [hLN] at OW HH HO d0 hl
  rw [hLN]
  obtain ⟨dp, hdp⟩ : ∃ dp, l.any q = dp := ⟨_, rfl⟩
  rw [hdp] at HH
  rw [hdp]
  clear hLN hdp
  go_enter Tryz.func221, Tryz.ntmps221
  go_wp2_with fail
  refine region_stail 5 (by kernel_rfl) (by decide +kernel) ?_
  simp only [List.take_succ_cons, List.take_zero, List.drop_succ_cons, List.drop_zero]
  iterate 5 still_step
  refine wpStill_nil ?_
  go_wp2_with fail
  refine (HH.out _ ((OW.out.rd encDu_len).below (K0.out.trans (below_drewN (Below.refl _ _) 1)))).mono ?_
  rintro e w2 ⟨rfl, b2⟩
  have K2 := Lib.hid ((K0.out.trans (below_drewN (Below.refl _ _) 1)).trans (b2.mono (by simp)))
  have KX2 := Lib.hid (Blk.below KX.out (Below.trans (below_drewN (Below.refl _ _) 1) (b2.mono (by simp))))
  have HB2 := Lib.hid (Blk.below HB.out K2.out)
  have OW2 := Lib.hid (Own1.below OW.out K2.out)
  clear b2 d0 c0 c1
  cases dp with
  | true =>
    go_wp2
    go_ret
    exact ⟨9, rfl, .inl ⟨rfl, by decide, K2.out⟩⟩
  | false =>
    have d0 : w2.cell? ⟨g, off, none⟩ = some (.slice va LN vc) := (HB2.out.cell off).trans HO.out
    by_cases hm : mx ≤ LN
    · have z1 : decide ((mx : Int) ≤ (LN : Int)) = true := decide_eq_true (by omega)
      have z2 : decide (mx ≤ LN) = true := decide_eq_true hm
      have HM : Hid (adR false LN mx = 6) := Lib.hid (by unfold adR; simp [hm])
      clear hm
      go_wp2
      go_ret
      exact ⟨6, rfl, .inl ⟨by rw [HLN.out]; exact HM.out.symm, by decide, K2.out⟩⟩
    · have z1 : decide ((mx : Int) ≤ (LN : Int)) = false := decide_eq_false (by omega)
      have z2 : decide (mx ≤ LN) = false := decide_eq_false hm
      have HM : Hid (adR false LN mx = 0) := Lib.hid (by unfold adR; simp [hm])
      clear hm
      go_wp2_with fail
      have f1 : w2.frozen? ⟨g, off, none⟩ = false := HB2.out.frozen off
      have dA : (w2.alloc (.cells #[.string (ofL x.1), .string (ofL x.2)] 61)).cell? ⟨g, off, none⟩ = some (.slice va LN vc) := ((Blk.alloc HB2.out (.cells #[.string (ofL x.1), .string (ofL x.2)] 61)).cell off).trans HO.out
      have c0 : w2.cell? ⟨w.heap.size, 0, none⟩ = some (.string (ofL x.1)) := KX2.out.cell 0
      have c1 : w2.cell? ⟨w.heap.size, 1, none⟩ = some (.string (ofL x.2)) := KX2.out.cell 1
      have OW3 := Lib.hid (Own1.below OW2.out (below_drewN (Below.refl _ _) 1))
      have HBD := Lib.hid (Blk.below HB2.out (below_drewN (Below.refl _ _) 1))
      have hz2 : g + 1 ≤ w2.drew.heap.size := by have := HB2.out.lt; simp; omega
      go_upto_region 5 with fail
      go_region_law (first
        | (refine step_append_big (w0 := w2.drew) (x := x) (N := w2.drew.heap.size) rfl rfl _ _ 24 rfl (g + 1) iT _ 32 Tryz.underlying24 hiT hzT hkT hbT (by omega) rfl (by omega) encDu_len encDu_one _ l rfl rfl OW3.out rfl (by have := HLN.out; omega) hz2 ?_; intro v9 w9 h9; obtain ⟨a9, c9, hv9⟩ := h9.1.slice; rw [List.length_append, List.length_singleton] at hv9; subst hv9; have H9 := Lib.hid h9; have k9 := grown_blk HBD.out OW3.out h9.2.1; have d9 : w9.cell? ⟨g, off, none⟩ = some (.slice va LN vc) := (k9.cell off).trans HO.out; have f9 : w9.frozen? ⟨g, off, none⟩ = false := k9.frozen off; have K9 := Lib.hid k9; clear h9 k9))
      all_goals go_wp2
      all_goals go_ret
      all_goals exact add_end (K2.out.trans (below_drewN (Below.refl _ _) 1 |>.mono K2.out.size)) HBD.out K9.out H9.out (by rw [HLN.out]; exact HM.out)
theorem Tryz.infoADa : (Tryz.prog.info? 124).map (fun i => (i.zero, i.size, i.bytes)) = some (some (.agg #[.string ⟨#[]⟩, .string ⟨#[]⟩]), 2, 32) := by kernel_rfl
set_option maxRecDepth 1000000 in
set_option maxHeartbeats 8000000 in
theorem addDa_any (g off : Nat) (T : TypeId) (hT : T ≠ 124) (cs : Array Value) (v : Value) (l : List (Str × Str)) (x : Str × Str) (mx : Nat) (q : Str × Str → Bool) (n0 : Nat) (eg : ∀ args w, (callFunc n0 args).run Tryz.prog w = .ok (.enter n0 args) w) (w : World) (hb : Blk g T cs w) (ho : cs[off]? = some v) (hown : Own1 2 encDu w (g + 1) 124 v l) (hl : l.length ≤ 1000)
    (hF : ∀ (W1 : World) (y : Str × Str), y ∈ l → Calls Tryz.prog n0 #[.agg #[.string (ofL x.1), .string (ofL x.2)], .agg #[.string (ofL y.1), .string (ofL y.2)]] W1 fun e w' => e = .returned (.bool (q y)) ∧ Below W1.heap.size W1 w') :
    Calls Tryz.prog 306 #[.pointer (some ⟨g, off, none⟩), .agg #[.string (ofL x.1), .string (ofL x.2)], .int .i64 mx, .func (.func n0) #[] #[]] w (AdP 2 encDu g off T 124 cs v l x mx (l.any q) w) := by
  obtain ⟨va, vc, hva⟩ := hown.slice
  subst hva
  obtain ⟨iT, hiT, hzT, hkT, hbT⟩ := info_partsT Tryz.infoADa
  have hlt := hb.lt
  have K0 := Lib.hid ((Below.refl w.heap.size w).alloc (Nat.le_refl _) (.cells #[.string (ofL x.1), .string (ofL x.2)] 124))
  have KX := Lib.hid (Blk.new w 124 #[.string (ofL x.1), .string (ofL x.2)])
  have HB := Lib.hid hb
  have HO := Lib.hid ho
  have OW := Lib.hid hown
  have HH := Lib.hid (fun W (h : Rd 2 encDu W (.slice va l.length vc) l) => hasDa_any _ l x q n0 eg W h hF)
  have d0 : w.cell? ⟨g, off, none⟩ = some (.slice va l.length vc) := (hb.cell off).trans ho
  have c0 : (w.alloc (.cells #[.string (ofL x.1), .string (ofL x.2)] 124)).cell? ⟨w.heap.size, 0, none⟩ = some (.string (ofL x.1)) := KX.out.cell 0
  have c1 : (w.alloc (.cells #[.string (ofL x.1), .string (ofL x.2)] 124)).cell? ⟨w.heap.size, 1, none⟩ = some (.string (ofL x.2)) := KX.out.cell 1
  clear hb ho hown hF
  obtain ⟨LN, hLN⟩ : ∃ LN, l.length = LN := ⟨_, rfl⟩
  have HLN := Lib.hid hLN
  rw [hLN] at OW HH HO d0 hl
  rw [hLN]
  obtain ⟨dp, hdp⟩ : ∃ dp, l.any q = dp := ⟨_, rfl⟩
  rw [hdp] at HH
  rw [hdp]
  clear hLN hdp
  go_enter Tryz.func306, Tryz.ntmps306
  go_wp2_with fail
  refine region_stail 5 (by kernel_rfl) (by decide +kernel) ?_
  simp only [List.take_succ_cons, List.take_zero, List.drop_succ_cons, List.drop_zero]
  iterate 5 still_step
  refine wpStill_nil ?_
  go_wp2_with fail
  refine (HH.out _ ((OW.out.rd encDu_len).below (K0.out.trans (below_drewN (Below.refl _ _) 1)))).mono ?_
  rintro e w2 ⟨rfl, b2⟩
  have K2 := Lib.hid ((K0.out.trans (below_drewN (Below.refl _ _) 1)).trans (b2.mono (by simp)))
  have KX2 := Lib.hid (Blk.below KX.out (Below.trans (below_drewN (Below.refl _ _) 1) (b2.mono (by simp))))
  have HB2 := Lib.hid (Blk.below HB.out K2.out)
  have OW2 := Lib.hid (Own1.below OW.out K2.out)
  clear b2 d0 c0 c1
  cases dp with
  | true =>
    go_wp2
    go_ret
    exact ⟨9, rfl, .inl ⟨rfl, by decide, K2.out⟩⟩
  | false =>
    have d0 : w2.cell? ⟨g, off, none⟩ = some (.slice va LN vc) := (HB2.out.cell off).trans HO.out
    by_cases hm : mx ≤ LN
    · have z1 : decide ((mx : Int) ≤ (LN : Int)) = true := decide_eq_true (by omega)
      have z2 : decide (mx ≤ LN) = true := decide_eq_true hm
      have HM : Hid (adR false LN mx = 6) := Lib.hid (by unfold adR; simp [hm])
      clear hm
      go_wp2
      go_ret
      exact ⟨6, rfl, .inl ⟨by rw [HLN.out]; exact HM.out.symm, by decide, K2.out⟩⟩
    · have z1 : decide ((mx : Int) ≤ (LN : Int)) = false := decide_eq_false (by omega)
      have z2 : decide (mx ≤ LN) = false := decide_eq_false hm
      have HM : Hid (adR false LN mx = 0) := Lib.hid (by unfold adR; simp [hm])
      clear hm
      go_wp2_with fail
      have f1 : w2.frozen? ⟨g, off, none⟩ = false := HB2.out.frozen off
      have dA : (w2.alloc (.cells #[.string (ofL x.1), .string (ofL x.2)] 124)).cell? ⟨g, off, none⟩ = some (.slice va LN vc) := ((Blk.alloc HB2.out (.cells #[.string (ofL x.1), .string (ofL x.2)] 124)).cell off).trans HO.out
      have c0 : w2.cell? ⟨w.heap.size, 0, none⟩ = some (.string (ofL x.1)) := KX2.out.cell 0
      have c1 : w2.cell? ⟨w.heap.size, 1, none⟩ = some (.string (ofL x.2)) := KX2.out.cell 1
      have OW3 := Lib.hid (Own1.below OW2.out (below_drewN (Below.refl _ _) 1))
      have HBD := Lib.hid (Blk.below HB2.out (below_drewN (Below.refl _ _) 1))
      have hz2 : g + 1 ≤ w2.drew.heap.size := by have := HB2.out.lt; simp; omega
      go_upto_region 5 with fail
      go_region_law (first
        | (refine step_append_big (w0 := w2.drew) (x := x) (N := w2.drew.heap.size) rfl rfl _ _ 48 rfl (g + 1) iT _ 32 Tryz.underlying48 hiT hzT hkT hbT (by omega) rfl (by omega) encDu_len encDu_one _ l rfl rfl OW3.out rfl (by have := HLN.out; omega) hz2 ?_; intro v9 w9 h9; obtain ⟨a9, c9, hv9⟩ := h9.1.slice; rw [List.length_append, List.length_singleton] at hv9; subst hv9; have H9 := Lib.hid h9; have k9 := grown_blk HBD.out OW3.out h9.2.1; have d9 : w9.cell? ⟨g, off, none⟩ = some (.slice va LN vc) := (k9.cell off).trans HO.out; have f9 : w9.frozen? ⟨g, off, none⟩ = false := k9.frozen off; have K9 := Lib.hid k9; clear h9 k9))
      all_goals go_wp2
      all_goals go_ret
      all_goals exact add_end (K2.out.trans (below_drewN (Below.refl _ _) 1 |>.mono K2.out.size)) HBD.out K9.out H9.out (by rw [HLN.out]; exact HM.out)
theorem Tryz.infoANe : (Tryz.prog.info? 36).map (fun i => (i.zero, i.size, i.bytes)) = some (some (.agg #[.string ⟨#[]⟩, .string ⟨#[]⟩, .int .i64 0]), 3, 40) := by kernel_rfl
set_option maxRecDepth 1000000 in
set_option maxHeartbeats 8000000 in
theorem addNe_any (g off : Nat) (T : TypeId) (hT : T ≠ 36) (cs : Array Value) (v : Value) (l : List (Nea)) (x : Nea) (mx : Nat) (q : Nea → Bool) (n0 : Nat) (eg : ∀ args w, (callFunc n0 args).run Tryz.prog w = .ok (.enter n0 args) w) (w : World) (hb : Blk g T cs w) (ho : cs[off]? = some v) (hown : Own1 3 encNe w (g + 1) 36 v l) (hl : l.length ≤ 1000)
    (hF : ∀ (W1 : World) (y : Nea), y ∈ l → Calls Tryz.prog n0 #[.agg #[.string (ofL x.fr), .string (ofL x.to_), .int .i64 x.co], .agg #[.string (ofL y.fr), .string (ofL y.to_), .int .i64 y.co]] W1 fun e w' => e = .returned (.bool (q y)) ∧ Below W1.heap.size W1 w') :
    Calls Tryz.prog 223 #[.pointer (some ⟨g, off, none⟩), .agg #[.string (ofL x.fr), .string (ofL x.to_), .int .i64 x.co], .int .i64 mx, .func (.func n0) #[] #[]] w (AdP 3 encNe g off T 36 cs v l x mx (l.any q) w) := by
  obtain ⟨va, vc, hva⟩ := hown.slice
  subst hva
  obtain ⟨iT, hiT, hzT, hkT, hbT⟩ := info_partsT Tryz.infoANe
  have hlt := hb.lt
  have K0 := Lib.hid ((Below.refl w.heap.size w).alloc (Nat.le_refl _) (.cells #[.string (ofL x.fr), .string (ofL x.to_), .int .i64 x.co] 36))
  have KX := Lib.hid (Blk.new w 36 #[.string (ofL x.fr), .string (ofL x.to_), .int .i64 x.co])
  have HB := Lib.hid hb
  have HO := Lib.hid ho
  have OW := Lib.hid hown
  have HH := Lib.hid (fun W (h : Rd 3 encNe W (.slice va l.length vc) l) => hasNe_any _ l x q n0 eg W h hF)
  have d0 : w.cell? ⟨g, off, none⟩ = some (.slice va l.length vc) := (hb.cell off).trans ho
  have c0 : (w.alloc (.cells #[.string (ofL x.fr), .string (ofL x.to_), .int .i64 x.co] 36)).cell? ⟨w.heap.size, 0, none⟩ = some (.string (ofL x.fr)) := KX.out.cell 0
  have c1 : (w.alloc (.cells #[.string (ofL x.fr), .string (ofL x.to_), .int .i64 x.co] 36)).cell? ⟨w.heap.size, 1, none⟩ = some (.string (ofL x.to_)) := KX.out.cell 1
  have c2 : (w.alloc (.cells #[.string (ofL x.fr), .string (ofL x.to_), .int .i64 x.co] 36)).cell? ⟨w.heap.size, 2, none⟩ = some (.int .i64 x.co) := KX.out.cell 2
  clear hb ho hown hF
  obtain ⟨LN, hLN⟩ : ∃ LN, l.length = LN := ⟨_, rfl⟩
  have HLN := Lib.hid hLN
  rw [hLN] at OW HH HO d0 hl
  rw [hLN]
  obtain ⟨dp, hdp⟩ : ∃ dp, l.any q = dp := ⟨_, rfl⟩
  rw [hdp] at HH
  rw [hdp]
  clear hLN hdp
  go_enter Tryz.func223, Tryz.ntmps223
  go_wp2_with fail
  refine region_stail 5 (by kernel_rfl) (by decide +kernel) ?_
  simp only [List.take_succ_cons, List.take_zero, List.drop_succ_cons, List.drop_zero]
  iterate 5 still_step
  refine wpStill_nil ?_
  go_wp2_with fail
  refine (HH.out _ ((OW.out.rd encNe_len).below (K0.out.trans (below_drewN (Below.refl _ _) 1)))).mono ?_
  rintro e w2 ⟨rfl, b2⟩
  have K2 := Lib.hid ((K0.out.trans (below_drewN (Below.refl _ _) 1)).trans (b2.mono (by simp)))
  have KX2 := Lib.hid (Blk.below KX.out (Below.trans (below_drewN (Below.refl _ _) 1) (b2.mono (by simp))))
  have HB2 := Lib.hid (Blk.below HB.out K2.out)
  have OW2 := Lib.hid (Own1.below OW.out K2.out)
  clear b2 d0 c0 c1 c2
  cases dp with
  | true =>
    go_wp2
    go_ret
    exact ⟨9, rfl, .inl ⟨rfl, by decide, K2.out⟩⟩
  | false =>
    have d0 : w2.cell? ⟨g, off, none⟩ = some (.slice va LN vc) := (HB2.out.cell off).trans HO.out
    by_cases hm : mx ≤ LN
    · have z1 : decide ((mx : Int) ≤ (LN : Int)) = true := decide_eq_true (by omega)
      have z2 : decide (mx ≤ LN) = true := decide_eq_true hm
      have HM : Hid (adR false LN mx = 6) := Lib.hid (by unfold adR; simp [hm])
      clear hm
      go_wp2
      go_ret
      exact ⟨6, rfl, .inl ⟨by rw [HLN.out]; exact HM.out.symm, by decide, K2.out⟩⟩
    · have z1 : decide ((mx : Int) ≤ (LN : Int)) = false := decide_eq_false (by omega)
      have z2 : decide (mx ≤ LN) = false := decide_eq_false hm
      have HM : Hid (adR false LN mx = 0) := Lib.hid (by unfold adR; simp [hm])
      clear hm
      go_wp2_with fail
      have f1 : w2.frozen? ⟨g, off, none⟩ = false := HB2.out.frozen off
      have dA : (w2.alloc (.cells #[.string (ofL x.fr), .string (ofL x.to_), .int .i64 x.co] 36)).cell? ⟨g, off, none⟩ = some (.slice va LN vc) := ((Blk.alloc HB2.out (.cells #[.string (ofL x.fr), .string (ofL x.to_), .int .i64 x.co] 36)).cell off).trans HO.out
      have c0 : w2.cell? ⟨w.heap.size, 0, none⟩ = some (.string (ofL x.fr)) := KX2.out.cell 0
      have c1 : w2.cell? ⟨w.heap.size, 1, none⟩ = some (.string (ofL x.to_)) := KX2.out.cell 1
      have c2 : w2.cell? ⟨w.heap.size, 2, none⟩ = some (.int .i64 x.co) := KX2.out.cell 2
      have OW3 := Lib.hid (Own1.below OW2.out (below_drewN (Below.refl _ _) 1))
      have HBD := Lib.hid (Blk.below HB2.out (below_drewN (Below.refl _ _) 1))
      have hz2 : g + 1 ≤ w2.drew.heap.size := by have := HB2.out.lt; simp; omega
      go_upto_region 5 with fail
      go_region_law (first
        | (refine step_append_big (w0 := w2.drew) (x := x) (N := w2.drew.heap.size) rfl rfl _ _ 25 rfl (g + 1) iT _ 40 Tryz.underlying25 hiT hzT hkT hbT (by omega) rfl (by omega) encNe_len encNe_one _ l rfl rfl OW3.out rfl (by have := HLN.out; omega) hz2 ?_; intro v9 w9 h9; obtain ⟨a9, c9, hv9⟩ := h9.1.slice; rw [List.length_append, List.length_singleton] at hv9; subst hv9; have H9 := Lib.hid h9; have k9 := grown_blk HBD.out OW3.out h9.2.1; have d9 : w9.cell? ⟨g, off, none⟩ = some (.slice va LN vc) := (k9.cell off).trans HO.out; have f9 : w9.frozen? ⟨g, off, none⟩ = false := k9.frozen off; have K9 := Lib.hid k9; clear h9 k9))
      all_goals go_wp2
      all_goals go_ret
      all_goals exact add_end (K2.out.trans (below_drewN (Below.refl _ _) 1 |>.mono K2.out.size)) HBD.out K9.out H9.out (by rw [HLN.out]; exact HM.out)
theorem Tryz.infoALi : (Tryz.prog.info? 116).map (fun i => (i.zero, i.size, i.bytes)) = some (some (.agg #[.string ⟨#[]⟩, .string ⟨#[]⟩, .string ⟨#[]⟩, .string ⟨#[]⟩, .string ⟨#[]⟩]), 5, 80) := by kernel_rfl
set_option maxRecDepth 1000000 in
set_option maxHeartbeats 8000000 in
theorem addLi_any (g off : Nat) (T : TypeId) (hT : T ≠ 116) (cs : Array Value) (v : Value) (l : List (Lis)) (x : Lis) (mx : Nat) (q : Lis → Bool) (n0 : Nat) (eg : ∀ args w, (callFunc n0 args).run Tryz.prog w = .ok (.enter n0 args) w) (w : World) (hb : Blk g T cs w) (ho : cs[off]? = some v) (hown : Own1 5 encLi w (g + 1) 116 v l) (hl : l.length ≤ 1000)
    (hF : ∀ (W1 : World) (y : Lis), y ∈ l → Calls Tryz.prog n0 #[.agg #[.string (ofL x.st), .string (ofL x.two), .string (ofL x.sa), .string (ofL x.md), .string (ofL x.en)], .agg #[.string (ofL y.st), .string (ofL y.two), .string (ofL y.sa), .string (ofL y.md), .string (ofL y.en)]] W1 fun e w' => e = .returned (.bool (q y)) ∧ Below W1.heap.size W1 w') :
    Calls Tryz.prog 304 #[.pointer (some ⟨g, off, none⟩), .agg #[.string (ofL x.st), .string (ofL x.two), .string (ofL x.sa), .string (ofL x.md), .string (ofL x.en)], .int .i64 mx, .func (.func n0) #[] #[]] w (AdP 5 encLi g off T 116 cs v l x mx (l.any q) w) := by
  obtain ⟨va, vc, hva⟩ := hown.slice
  subst hva
  obtain ⟨iT, hiT, hzT, hkT, hbT⟩ := info_partsT Tryz.infoALi
  have hlt := hb.lt
  have K0 := Lib.hid ((Below.refl w.heap.size w).alloc (Nat.le_refl _) (.cells #[.string (ofL x.st), .string (ofL x.two), .string (ofL x.sa), .string (ofL x.md), .string (ofL x.en)] 116))
  have KX := Lib.hid (Blk.new w 116 #[.string (ofL x.st), .string (ofL x.two), .string (ofL x.sa), .string (ofL x.md), .string (ofL x.en)])
  have HB := Lib.hid hb
  have HO := Lib.hid ho
  have OW := Lib.hid hown
  have HH := Lib.hid (fun W (h : Rd 5 encLi W (.slice va l.length vc) l) => hasLi_any _ l x q n0 eg W h hF)
  have d0 : w.cell? ⟨g, off, none⟩ = some (.slice va l.length vc) := (hb.cell off).trans ho
  have c0 : (w.alloc (.cells #[.string (ofL x.st), .string (ofL x.two), .string (ofL x.sa), .string (ofL x.md), .string (ofL x.en)] 116)).cell? ⟨w.heap.size, 0, none⟩ = some (.string (ofL x.st)) := KX.out.cell 0
  have c1 : (w.alloc (.cells #[.string (ofL x.st), .string (ofL x.two), .string (ofL x.sa), .string (ofL x.md), .string (ofL x.en)] 116)).cell? ⟨w.heap.size, 1, none⟩ = some (.string (ofL x.two)) := KX.out.cell 1
  have c2 : (w.alloc (.cells #[.string (ofL x.st), .string (ofL x.two), .string (ofL x.sa), .string (ofL x.md), .string (ofL x.en)] 116)).cell? ⟨w.heap.size, 2, none⟩ = some (.string (ofL x.sa)) := KX.out.cell 2
  have c3 : (w.alloc (.cells #[.string (ofL x.st), .string (ofL x.two), .string (ofL x.sa), .string (ofL x.md), .string (ofL x.en)] 116)).cell? ⟨w.heap.size, 3, none⟩ = some (.string (ofL x.md)) := KX.out.cell 3
  have c4 : (w.alloc (.cells #[.string (ofL x.st), .string (ofL x.two), .string (ofL x.sa), .string (ofL x.md), .string (ofL x.en)] 116)).cell? ⟨w.heap.size, 4, none⟩ = some (.string (ofL x.en)) := KX.out.cell 4
  clear hb ho hown hF
  obtain ⟨LN, hLN⟩ : ∃ LN, l.length = LN := ⟨_, rfl⟩
  have HLN := Lib.hid hLN
  rw [hLN] at OW HH HO d0 hl
  rw [hLN]
  obtain ⟨dp, hdp⟩ : ∃ dp, l.any q = dp := ⟨_, rfl⟩
  rw [hdp] at HH
  rw [hdp]
  clear hLN hdp
  go_enter Tryz.func304, Tryz.ntmps304
  go_wp2_with fail
  refine region_stail 5 (by kernel_rfl) (by decide +kernel) ?_
  simp only [List.take_succ_cons, List.take_zero, List.drop_succ_cons, List.drop_zero]
  iterate 5 still_step
  refine wpStill_nil ?_
  go_wp2_with fail
  refine (HH.out _ ((OW.out.rd encLi_len).below (K0.out.trans (below_drewN (Below.refl _ _) 1)))).mono ?_
  rintro e w2 ⟨rfl, b2⟩
  have K2 := Lib.hid ((K0.out.trans (below_drewN (Below.refl _ _) 1)).trans (b2.mono (by simp)))
  have KX2 := Lib.hid (Blk.below KX.out (Below.trans (below_drewN (Below.refl _ _) 1) (b2.mono (by simp))))
  have HB2 := Lib.hid (Blk.below HB.out K2.out)
  have OW2 := Lib.hid (Own1.below OW.out K2.out)
  clear b2 d0 c0 c1 c2 c3 c4
  cases dp with
  | true =>
    go_wp2
    go_ret
    exact ⟨9, rfl, .inl ⟨rfl, by decide, K2.out⟩⟩
  | false =>
    have d0 : w2.cell? ⟨g, off, none⟩ = some (.slice va LN vc) := (HB2.out.cell off).trans HO.out
    by_cases hm : mx ≤ LN
    · have z1 : decide ((mx : Int) ≤ (LN : Int)) = true := decide_eq_true (by omega)
      have z2 : decide (mx ≤ LN) = true := decide_eq_true hm
      have HM : Hid (adR false LN mx = 6) := Lib.hid (by unfold adR; simp [hm])
      clear hm
      go_wp2
      go_ret
      exact ⟨6, rfl, .inl ⟨by rw [HLN.out]; exact HM.out.symm, by decide, K2.out⟩⟩
    · have z1 : decide ((mx : Int) ≤ (LN : Int)) = false := decide_eq_false (by omega)
      have z2 : decide (mx ≤ LN) = false := decide_eq_false hm
      have HM : Hid (adR false LN mx = 0) := Lib.hid (by unfold adR; simp [hm])
      clear hm
      go_wp2_with fail
      have f1 : w2.frozen? ⟨g, off, none⟩ = false := HB2.out.frozen off
      have dA : (w2.alloc (.cells #[.string (ofL x.st), .string (ofL x.two), .string (ofL x.sa), .string (ofL x.md), .string (ofL x.en)] 116)).cell? ⟨g, off, none⟩ = some (.slice va LN vc) := ((Blk.alloc HB2.out (.cells #[.string (ofL x.st), .string (ofL x.two), .string (ofL x.sa), .string (ofL x.md), .string (ofL x.en)] 116)).cell off).trans HO.out
      have c0 : w2.cell? ⟨w.heap.size, 0, none⟩ = some (.string (ofL x.st)) := KX2.out.cell 0
      have c1 : w2.cell? ⟨w.heap.size, 1, none⟩ = some (.string (ofL x.two)) := KX2.out.cell 1
      have c2 : w2.cell? ⟨w.heap.size, 2, none⟩ = some (.string (ofL x.sa)) := KX2.out.cell 2
      have c3 : w2.cell? ⟨w.heap.size, 3, none⟩ = some (.string (ofL x.md)) := KX2.out.cell 3
      have c4 : w2.cell? ⟨w.heap.size, 4, none⟩ = some (.string (ofL x.en)) := KX2.out.cell 4
      have OW3 := Lib.hid (Own1.below OW2.out (below_drewN (Below.refl _ _) 1))
      have HBD := Lib.hid (Blk.below HB2.out (below_drewN (Below.refl _ _) 1))
      have hz2 : g + 1 ≤ w2.drew.heap.size := by have := HB2.out.lt; simp; omega
      go_upto_region 5 with fail
      go_region_law (first
        | (refine step_append_big (w0 := w2.drew) (x := x) (N := w2.drew.heap.size) rfl rfl _ _ 46 rfl (g + 1) iT _ 80 Tryz.underlying46 hiT hzT hkT hbT (by omega) rfl (by omega) encLi_len encLi_one _ l rfl rfl OW3.out rfl (by have := HLN.out; omega) hz2 ?_; intro v9 w9 h9; obtain ⟨a9, c9, hv9⟩ := h9.1.slice; rw [List.length_append, List.length_singleton] at hv9; subst hv9; have H9 := Lib.hid h9; have k9 := grown_blk HBD.out OW3.out h9.2.1; have d9 : w9.cell? ⟨g, off, none⟩ = some (.slice va LN vc) := (k9.cell off).trans HO.out; have f9 : w9.frozen? ⟨g, off, none⟩ = false := k9.frozen off; have K9 := Lib.hid k9; clear h9 k9))
      all_goals go_wp2
      all_goals go_ret
      all_goals exact add_end (K2.out.trans (below_drewN (Below.refl _ _) 1 |>.mono K2.out.size)) HBD.out K9.out H9.out (by rw [HLN.out]; exact HM.out)
theorem Tryz.infoAUn : (Tryz.prog.info? 120).map (fun i => (i.zero, i.size, i.bytes)) = some (some (.agg #[.string ⟨#[]⟩, .string ⟨#[]⟩, .string ⟨#[]⟩]), 3, 48) := by kernel_rfl
set_option maxRecDepth 1000000 in
set_option maxHeartbeats 8000000 in
theorem addUn_any (g off : Nat) (T : TypeId) (hT : T ≠ 120) (cs : Array Value) (v : Value) (l : List (Uni)) (x : Uni) (mx : Nat) (q : Uni → Bool) (n0 : Nat) (eg : ∀ args w, (callFunc n0 args).run Tryz.prog w = .ok (.enter n0 args) w) (w : World) (hb : Blk g T cs w) (ho : cs[off]? = some v) (hown : Own1 3 encUn w (g + 1) 120 v l) (hl : l.length ≤ 1000)
    (hF : ∀ (W1 : World) (y : Uni), y ∈ l → Calls Tryz.prog n0 #[.agg #[.string (ofL x.un), .string (ofL x.cl), .string (ofL x.pt)], .agg #[.string (ofL y.un), .string (ofL y.cl), .string (ofL y.pt)]] W1 fun e w' => e = .returned (.bool (q y)) ∧ Below W1.heap.size W1 w') :
    Calls Tryz.prog 305 #[.pointer (some ⟨g, off, none⟩), .agg #[.string (ofL x.un), .string (ofL x.cl), .string (ofL x.pt)], .int .i64 mx, .func (.func n0) #[] #[]] w (AdP 3 encUn g off T 120 cs v l x mx (l.any q) w) := by
  obtain ⟨va, vc, hva⟩ := hown.slice
  subst hva
  obtain ⟨iT, hiT, hzT, hkT, hbT⟩ := info_partsT Tryz.infoAUn
  have hlt := hb.lt
  have K0 := Lib.hid ((Below.refl w.heap.size w).alloc (Nat.le_refl _) (.cells #[.string (ofL x.un), .string (ofL x.cl), .string (ofL x.pt)] 120))
  have KX := Lib.hid (Blk.new w 120 #[.string (ofL x.un), .string (ofL x.cl), .string (ofL x.pt)])
  have HB := Lib.hid hb
  have HO := Lib.hid ho
  have OW := Lib.hid hown
  have HH := Lib.hid (fun W (h : Rd 3 encUn W (.slice va l.length vc) l) => hasUn_any _ l x q n0 eg W h hF)
  have d0 : w.cell? ⟨g, off, none⟩ = some (.slice va l.length vc) := (hb.cell off).trans ho
  have c0 : (w.alloc (.cells #[.string (ofL x.un), .string (ofL x.cl), .string (ofL x.pt)] 120)).cell? ⟨w.heap.size, 0, none⟩ = some (.string (ofL x.un)) := KX.out.cell 0
  have c1 : (w.alloc (.cells #[.string (ofL x.un), .string (ofL x.cl), .string (ofL x.pt)] 120)).cell? ⟨w.heap.size, 1, none⟩ = some (.string (ofL x.cl)) := KX.out.cell 1
  have c2 : (w.alloc (.cells #[.string (ofL x.un), .string (ofL x.cl), .string (ofL x.pt)] 120)).cell? ⟨w.heap.size, 2, none⟩ = some (.string (ofL x.pt)) := KX.out.cell 2
  clear hb ho hown hF
  obtain ⟨LN, hLN⟩ : ∃ LN, l.length = LN := ⟨_, rfl⟩
  have HLN := Lib.hid hLN
  rw [hLN] at OW HH HO d0 hl
  rw [hLN]
  obtain ⟨dp, hdp⟩ : ∃ dp, l.any q = dp := ⟨_, rfl⟩
  rw [hdp] at HH
  rw [hdp]
  clear hLN hdp
  go_enter Tryz.func305, Tryz.ntmps305
  go_wp2_with fail
  refine region_stail 5 (by kernel_rfl) (by decide +kernel) ?_
  simp only [List.take_succ_cons, List.take_zero, List.drop_succ_cons, List.drop_zero]
  iterate 5 still_step
  refine wpStill_nil ?_
  go_wp2_with fail
  refine (HH.out _ ((OW.out.rd encUn_len).below (K0.out.trans (below_drewN (Below.refl _ _) 1)))).mono ?_
  rintro e w2 ⟨rfl, b2⟩
  have K2 := Lib.hid ((K0.out.trans (below_drewN (Below.refl _ _) 1)).trans (b2.mono (by simp)))
  have KX2 := Lib.hid (Blk.below KX.out (Below.trans (below_drewN (Below.refl _ _) 1) (b2.mono (by simp))))
  have HB2 := Lib.hid (Blk.below HB.out K2.out)
  have OW2 := Lib.hid (Own1.below OW.out K2.out)
  clear b2 d0 c0 c1 c2
  cases dp with
  | true =>
    go_wp2
    go_ret
    exact ⟨9, rfl, .inl ⟨rfl, by decide, K2.out⟩⟩
  | false =>
    have d0 : w2.cell? ⟨g, off, none⟩ = some (.slice va LN vc) := (HB2.out.cell off).trans HO.out
    by_cases hm : mx ≤ LN
    · have z1 : decide ((mx : Int) ≤ (LN : Int)) = true := decide_eq_true (by omega)
      have z2 : decide (mx ≤ LN) = true := decide_eq_true hm
      have HM : Hid (adR false LN mx = 6) := Lib.hid (by unfold adR; simp [hm])
      clear hm
      go_wp2
      go_ret
      exact ⟨6, rfl, .inl ⟨by rw [HLN.out]; exact HM.out.symm, by decide, K2.out⟩⟩
    · have z1 : decide ((mx : Int) ≤ (LN : Int)) = false := decide_eq_false (by omega)
      have z2 : decide (mx ≤ LN) = false := decide_eq_false hm
      have HM : Hid (adR false LN mx = 0) := Lib.hid (by unfold adR; simp [hm])
      clear hm
      go_wp2_with fail
      have f1 : w2.frozen? ⟨g, off, none⟩ = false := HB2.out.frozen off
      have dA : (w2.alloc (.cells #[.string (ofL x.un), .string (ofL x.cl), .string (ofL x.pt)] 120)).cell? ⟨g, off, none⟩ = some (.slice va LN vc) := ((Blk.alloc HB2.out (.cells #[.string (ofL x.un), .string (ofL x.cl), .string (ofL x.pt)] 120)).cell off).trans HO.out
      have c0 : w2.cell? ⟨w.heap.size, 0, none⟩ = some (.string (ofL x.un)) := KX2.out.cell 0
      have c1 : w2.cell? ⟨w.heap.size, 1, none⟩ = some (.string (ofL x.cl)) := KX2.out.cell 1
      have c2 : w2.cell? ⟨w.heap.size, 2, none⟩ = some (.string (ofL x.pt)) := KX2.out.cell 2
      have OW3 := Lib.hid (Own1.below OW2.out (below_drewN (Below.refl _ _) 1))
      have HBD := Lib.hid (Blk.below HB2.out (below_drewN (Below.refl _ _) 1))
      have hz2 : g + 1 ≤ w2.drew.heap.size := by have := HB2.out.lt; simp; omega
      go_upto_region 5 with fail
      go_region_law (first
        | (refine step_append_big (w0 := w2.drew) (x := x) (N := w2.drew.heap.size) rfl rfl _ _ 47 rfl (g + 1) iT _ 48 Tryz.underlying47 hiT hzT hkT hbT (by omega) rfl (by omega) encUn_len encUn_one _ l rfl rfl OW3.out rfl (by have := HLN.out; omega) hz2 ?_; intro v9 w9 h9; obtain ⟨a9, c9, hv9⟩ := h9.1.slice; rw [List.length_append, List.length_singleton] at hv9; subst hv9; have H9 := Lib.hid h9; have k9 := grown_blk HBD.out OW3.out h9.2.1; have d9 : w9.cell? ⟨g, off, none⟩ = some (.slice va LN vc) := (k9.cell off).trans HO.out; have f9 : w9.frozen? ⟨g, off, none⟩ = false := k9.frozen off; have K9 := Lib.hid k9; clear h9 k9))
      all_goals go_wp2
      all_goals go_ret
      all_goals exact add_end (K2.out.trans (below_drewN (Below.refl _ _) 1 |>.mono K2.out.size)) HBD.out K9.out H9.out (by rw [HLN.out]; exact HM.out)
theorem Tryz.infoALo : (Tryz.prog.info? 51).map (fun i => (i.zero, i.size, i.bytes)) = some (some (.agg #[.string ⟨#[]⟩, .string ⟨#[]⟩, .string ⟨#[]⟩, .slice none 0 0, .slice none 0 0, .string ⟨#[]⟩, .string ⟨#[]⟩, .string ⟨#[]⟩, .string ⟨#[]⟩, .int .i64 0, .int .i64 0, .slice none 0 0, .slice none 0 0, .slice none 0 0, .slice none 0 0, .slice none 0 0]), 16, 296) := by kernel_rfl
set_option maxRecDepth 1000000 in
set_option maxHeartbeats 8000000 in
theorem addLo_any (g off : Nat) (T : TypeId) (hT : T ≠ 51) (cs : Array Value) (v : Value) (l : List (RawLo)) (x : RawLo) (mx : Nat) (q : RawLo → Bool) (n0 : Nat) (eg : ∀ args w, (callFunc n0 args).run Tryz.prog w = .ok (.enter n0 args) w) (w : World) (hb : Blk g T cs w) (ho : cs[off]? = some v) (hown : Own1 16 encLo w (g + 1) 51 v l) (hl : l.length ≤ 1000)
    (hF : ∀ (W1 : World) (y : RawLo), y ∈ l → Calls Tryz.prog n0 #[.agg #[.string (ofL x.tag), .string (ofL x.par), .string (ofL x.dir), .slice x.ca.a x.ca.n x.ca.c, .slice x.oc.a x.oc.n x.oc.c, .string (ofL x.sy.de), .string (ofL x.sy.gr), .string (ofL x.sy.mi), .string (ofL x.sy.pe), .int .i64 x.sy.pr, .int .i64 x.sy.se, .slice x.li.a x.li.n x.li.c, .slice x.un.a x.un.n x.un.c, .slice x.da.a x.da.n x.da.c, .slice x.mo.a x.mo.n x.mo.c, .slice x.dy.a x.dy.n x.dy.c], .agg #[.string (ofL y.tag), .string (ofL y.par), .string (ofL y.dir), .slice y.ca.a y.ca.n y.ca.c, .slice y.oc.a y.oc.n y.oc.c, .string (ofL y.sy.de), .string (ofL y.sy.gr), .string (ofL y.sy.mi), .string (ofL y.sy.pe), .int .i64 y.sy.pr, .int .i64 y.sy.se, .slice y.li.a y.li.n y.li.c, .slice y.un.a y.un.n y.un.c, .slice y.da.a y.da.n y.da.c, .slice y.mo.a y.mo.n y.mo.c, .slice y.dy.a y.dy.n y.dy.c]] W1 fun e w' => e = .returned (.bool (q y)) ∧ Below W1.heap.size W1 w') :
    Calls Tryz.prog 220 #[.pointer (some ⟨g, off, none⟩), .agg #[.string (ofL x.tag), .string (ofL x.par), .string (ofL x.dir), .slice x.ca.a x.ca.n x.ca.c, .slice x.oc.a x.oc.n x.oc.c, .string (ofL x.sy.de), .string (ofL x.sy.gr), .string (ofL x.sy.mi), .string (ofL x.sy.pe), .int .i64 x.sy.pr, .int .i64 x.sy.se, .slice x.li.a x.li.n x.li.c, .slice x.un.a x.un.n x.un.c, .slice x.da.a x.da.n x.da.c, .slice x.mo.a x.mo.n x.mo.c, .slice x.dy.a x.dy.n x.dy.c], .int .i64 mx, .func (.func n0) #[] #[]] w (AdP 16 encLo g off T 51 cs v l x mx (l.any q) w) := by
  obtain ⟨va, vc, hva⟩ := hown.slice
  subst hva
  obtain ⟨iT, hiT, hzT, hkT, hbT⟩ := info_partsT Tryz.infoALo
  have hlt := hb.lt
  have K0 := Lib.hid ((Below.refl w.heap.size w).alloc (Nat.le_refl _) (.cells #[.string (ofL x.tag), .string (ofL x.par), .string (ofL x.dir), .slice x.ca.a x.ca.n x.ca.c, .slice x.oc.a x.oc.n x.oc.c, .string (ofL x.sy.de), .string (ofL x.sy.gr), .string (ofL x.sy.mi), .string (ofL x.sy.pe), .int .i64 x.sy.pr, .int .i64 x.sy.se, .slice x.li.a x.li.n x.li.c, .slice x.un.a x.un.n x.un.c, .slice x.da.a x.da.n x.da.c, .slice x.mo.a x.mo.n x.mo.c, .slice x.dy.a x.dy.n x.dy.c] 51))
  have KX := Lib.hid (Blk.new w 51 #[.string (ofL x.tag), .string (ofL x.par), .string (ofL x.dir), .slice x.ca.a x.ca.n x.ca.c, .slice x.oc.a x.oc.n x.oc.c, .string (ofL x.sy.de), .string (ofL x.sy.gr), .string (ofL x.sy.mi), .string (ofL x.sy.pe), .int .i64 x.sy.pr, .int .i64 x.sy.se, .slice x.li.a x.li.n x.li.c, .slice x.un.a x.un.n x.un.c, .slice x.da.a x.da.n x.da.c, .slice x.mo.a x.mo.n x.mo.c, .slice x.dy.a x.dy.n x.dy.c])
  have HB := Lib.hid hb
  have HO := Lib.hid ho
  have OW := Lib.hid hown
  have HH := Lib.hid (fun W (h : Rd 16 encLo W (.slice va l.length vc) l) => hasLo_any _ l x q n0 eg W h hF)
  have d0 : w.cell? ⟨g, off, none⟩ = some (.slice va l.length vc) := (hb.cell off).trans ho
  have c0 : (w.alloc (.cells #[.string (ofL x.tag), .string (ofL x.par), .string (ofL x.dir), .slice x.ca.a x.ca.n x.ca.c, .slice x.oc.a x.oc.n x.oc.c, .string (ofL x.sy.de), .string (ofL x.sy.gr), .string (ofL x.sy.mi), .string (ofL x.sy.pe), .int .i64 x.sy.pr, .int .i64 x.sy.se, .slice x.li.a x.li.n x.li.c, .slice x.un.a x.un.n x.un.c, .slice x.da.a x.da.n x.da.c, .slice x.mo.a x.mo.n x.mo.c, .slice x.dy.a x.dy.n x.dy.c] 51)).cell? ⟨w.heap.size, 0, none⟩ = some (.string (ofL x.tag)) := KX.out.cell 0
  have c1 : (w.alloc (.cells #[.string (ofL x.tag), .string (ofL x.par), .string (ofL x.dir), .slice x.ca.a x.ca.n x.ca.c, .slice x.oc.a x.oc.n x.oc.c, .string (ofL x.sy.de), .string (ofL x.sy.gr), .string (ofL x.sy.mi), .string (ofL x.sy.pe), .int .i64 x.sy.pr, .int .i64 x.sy.se, .slice x.li.a x.li.n x.li.c, .slice x.un.a x.un.n x.un.c, .slice x.da.a x.da.n x.da.c, .slice x.mo.a x.mo.n x.mo.c, .slice x.dy.a x.dy.n x.dy.c] 51)).cell? ⟨w.heap.size, 1, none⟩ = some (.string (ofL x.par)) := KX.out.cell 1
  have c2 : (w.alloc (.cells #[.string (ofL x.tag), .string (ofL x.par), .string (ofL x.dir), .slice x.ca.a x.ca.n x.ca.c, .slice x.oc.a x.oc.n x.oc.c, .string (ofL x.sy.de), .string (ofL x.sy.gr), .string (ofL x.sy.mi), .string (ofL x.sy.pe), .int .i64 x.sy.pr, .int .i64 x.sy.se, .slice x.li.a x.li.n x.li.c, .slice x.un.a x.un.n x.un.c, .slice x.da.a x.da.n x.da.c, .slice x.mo.a x.mo.n x.mo.c, .slice x.dy.a x.dy.n x.dy.c] 51)).cell? ⟨w.heap.size, 2, none⟩ = some (.string (ofL x.dir)) := KX.out.cell 2
  have c3 : (w.alloc (.cells #[.string (ofL x.tag), .string (ofL x.par), .string (ofL x.dir), .slice x.ca.a x.ca.n x.ca.c, .slice x.oc.a x.oc.n x.oc.c, .string (ofL x.sy.de), .string (ofL x.sy.gr), .string (ofL x.sy.mi), .string (ofL x.sy.pe), .int .i64 x.sy.pr, .int .i64 x.sy.se, .slice x.li.a x.li.n x.li.c, .slice x.un.a x.un.n x.un.c, .slice x.da.a x.da.n x.da.c, .slice x.mo.a x.mo.n x.mo.c, .slice x.dy.a x.dy.n x.dy.c] 51)).cell? ⟨w.heap.size, 3, none⟩ = some (.slice x.ca.a x.ca.n x.ca.c) := KX.out.cell 3
  have c4 : (w.alloc (.cells #[.string (ofL x.tag), .string (ofL x.par), .string (ofL x.dir), .slice x.ca.a x.ca.n x.ca.c, .slice x.oc.a x.oc.n x.oc.c, .string (ofL x.sy.de), .string (ofL x.sy.gr), .string (ofL x.sy.mi), .string (ofL x.sy.pe), .int .i64 x.sy.pr, .int .i64 x.sy.se, .slice x.li.a x.li.n x.li.c, .slice x.un.a x.un.n x.un.c, .slice x.da.a x.da.n x.da.c, .slice x.mo.a x.mo.n x.mo.c, .slice x.dy.a x.dy.n x.dy.c] 51)).cell? ⟨w.heap.size, 4, none⟩ = some (.slice x.oc.a x.oc.n x.oc.c) := KX.out.cell 4
  have c5 : (w.alloc (.cells #[.string (ofL x.tag), .string (ofL x.par), .string (ofL x.dir), .slice x.ca.a x.ca.n x.ca.c, .slice x.oc.a x.oc.n x.oc.c, .string (ofL x.sy.de), .string (ofL x.sy.gr), .string (ofL x.sy.mi), .string (ofL x.sy.pe), .int .i64 x.sy.pr, .int .i64 x.sy.se, .slice x.li.a x.li.n x.li.c, .slice x.un.a x.un.n x.un.c, .slice x.da.a x.da.n x.da.c, .slice x.mo.a x.mo.n x.mo.c, .slice x.dy.a x.dy.n x.dy.c] 51)).cell? ⟨w.heap.size, 5, none⟩ = some (.string (ofL x.sy.de)) := KX.out.cell 5
  have c6 : (w.alloc (.cells #[.string (ofL x.tag), .string (ofL x.par), .string (ofL x.dir), .slice x.ca.a x.ca.n x.ca.c, .slice x.oc.a x.oc.n x.oc.c, .string (ofL x.sy.de), .string (ofL x.sy.gr), .string (ofL x.sy.mi), .string (ofL x.sy.pe), .int .i64 x.sy.pr, .int .i64 x.sy.se, .slice x.li.a x.li.n x.li.c, .slice x.un.a x.un.n x.un.c, .slice x.da.a x.da.n x.da.c, .slice x.mo.a x.mo.n x.mo.c, .slice x.dy.a x.dy.n x.dy.c] 51)).cell? ⟨w.heap.size, 6, none⟩ = some (.string (ofL x.sy.gr)) := KX.out.cell 6
  have c7 : (w.alloc (.cells #[.string (ofL x.tag), .string (ofL x.par), .string (ofL x.dir), .slice x.ca.a x.ca.n x.ca.c, .slice x.oc.a x.oc.n x.oc.c, .string (ofL x.sy.de), .string (ofL x.sy.gr), .string (ofL x.sy.mi), .string (ofL x.sy.pe), .int .i64 x.sy.pr, .int .i64 x.sy.se, .slice x.li.a x.li.n x.li.c, .slice x.un.a x.un.n x.un.c, .slice x.da.a x.da.n x.da.c, .slice x.mo.a x.mo.n x.mo.c, .slice x.dy.a x.dy.n x.dy.c] 51)).cell? ⟨w.heap.size, 7, none⟩ = some (.string (ofL x.sy.mi)) := KX.out.cell 7
  have c8 : (w.alloc (.cells #[.string (ofL x.tag), .string (ofL x.par), .string (ofL x.dir), .slice x.ca.a x.ca.n x.ca.c, .slice x.oc.a x.oc.n x.oc.c, .string (ofL x.sy.de), .string (ofL x.sy.gr), .string (ofL x.sy.mi), .string (ofL x.sy.pe), .int .i64 x.sy.pr, .int .i64 x.sy.se, .slice x.li.a x.li.n x.li.c, .slice x.un.a x.un.n x.un.c, .slice x.da.a x.da.n x.da.c, .slice x.mo.a x.mo.n x.mo.c, .slice x.dy.a x.dy.n x.dy.c] 51)).cell? ⟨w.heap.size, 8, none⟩ = some (.string (ofL x.sy.pe)) := KX.out.cell 8
  have c9 : (w.alloc (.cells #[.string (ofL x.tag), .string (ofL x.par), .string (ofL x.dir), .slice x.ca.a x.ca.n x.ca.c, .slice x.oc.a x.oc.n x.oc.c, .string (ofL x.sy.de), .string (ofL x.sy.gr), .string (ofL x.sy.mi), .string (ofL x.sy.pe), .int .i64 x.sy.pr, .int .i64 x.sy.se, .slice x.li.a x.li.n x.li.c, .slice x.un.a x.un.n x.un.c, .slice x.da.a x.da.n x.da.c, .slice x.mo.a x.mo.n x.mo.c, .slice x.dy.a x.dy.n x.dy.c] 51)).cell? ⟨w.heap.size, 9, none⟩ = some (.int .i64 x.sy.pr) := KX.out.cell 9
  have c10 : (w.alloc (.cells #[.string (ofL x.tag), .string (ofL x.par), .string (ofL x.dir), .slice x.ca.a x.ca.n x.ca.c, .slice x.oc.a x.oc.n x.oc.c, .string (ofL x.sy.de), .string (ofL x.sy.gr), .string (ofL x.sy.mi), .string (ofL x.sy.pe), .int .i64 x.sy.pr, .int .i64 x.sy.se, .slice x.li.a x.li.n x.li.c, .slice x.un.a x.un.n x.un.c, .slice x.da.a x.da.n x.da.c, .slice x.mo.a x.mo.n x.mo.c, .slice x.dy.a x.dy.n x.dy.c] 51)).cell? ⟨w.heap.size, 10, none⟩ = some (.int .i64 x.sy.se) := KX.out.cell 10
  have c11 : (w.alloc (.cells #[.string (ofL x.tag), .string (ofL x.par), .string (ofL x.dir), .slice x.ca.a x.ca.n x.ca.c, .slice x.oc.a x.oc.n x.oc.c, .string (ofL x.sy.de), .string (ofL x.sy.gr), .string (ofL x.sy.mi), .string (ofL x.sy.pe), .int .i64 x.sy.pr, .int .i64 x.sy.se, .slice x.li.a x.li.n x.li.c, .slice x.un.a x.un.n x.un.c, .slice x.da.a x.da.n x.da.c, .slice x.mo.a x.mo.n x.mo.c, .slice x.dy.a x.dy.n x.dy.c] 51)).cell? ⟨w.heap.size, 11, none⟩ = some (.slice x.li.a x.li.n x.li.c) := KX.out.cell 11
  have c12 : (w.alloc (.cells #[.string (ofL x.tag), .string (ofL x.par), .string (ofL x.dir), .slice x.ca.a x.ca.n x.ca.c, .slice x.oc.a x.oc.n x.oc.c, .string (ofL x.sy.de), .string (ofL x.sy.gr), .string (ofL x.sy.mi), .string (ofL x.sy.pe), .int .i64 x.sy.pr, .int .i64 x.sy.se, .slice x.li.a x.li.n x.li.c, .slice x.un.a x.un.n x.un.c, .slice x.da.a x.da.n x.da.c, .slice x.mo.a x.mo.n x.mo.c, .slice x.dy.a x.dy.n x.dy.c] 51)).cell? ⟨w.heap.size, 12, none⟩ = some (.slice x.un.a x.un.n x.un.c) := KX.out.cell 12
  have c13 : (w.alloc (.cells #[.string (ofL x.tag), .string (ofL x.par), .string (ofL x.dir), .slice x.ca.a x.ca.n x.ca.c, .slice x.oc.a x.oc.n x.oc.c, .string (ofL x.sy.de), .string (ofL x.sy.gr), .string (ofL x.sy.mi), .string (ofL x.sy.pe), .int .i64 x.sy.pr, .int .i64 x.sy.se, .slice x.li.a x.li.n x.li.c, .slice x.un.a x.un.n x.un.c, .slice x.da.a x.da.n x.da.c, .slice x.mo.a x.mo.n x.mo.c, .slice x.dy.a x.dy.n x.dy.c] 51)).cell? ⟨w.heap.size, 13, none⟩ = some (.slice x.da.a x.da.n x.da.c) := KX.out.cell 13
  have c14 : (w.alloc (.cells #[.string (ofL x.tag), .string (ofL x.par), .string (ofL x.dir), .slice x.ca.a x.ca.n x.ca.c, .slice x.oc.a x.oc.n x.oc.c, .string (ofL x.sy.de), .string (ofL x.sy.gr), .string (ofL x.sy.mi), .string (ofL x.sy.pe), .int .i64 x.sy.pr, .int .i64 x.sy.se, .slice x.li.a x.li.n x.li.c, .slice x.un.a x.un.n x.un.c, .slice x.da.a x.da.n x.da.c, .slice x.mo.a x.mo.n x.mo.c, .slice x.dy.a x.dy.n x.dy.c] 51)).cell? ⟨w.heap.size, 14, none⟩ = some (.slice x.mo.a x.mo.n x.mo.c) := KX.out.cell 14
  have c15 : (w.alloc (.cells #[.string (ofL x.tag), .string (ofL x.par), .string (ofL x.dir), .slice x.ca.a x.ca.n x.ca.c, .slice x.oc.a x.oc.n x.oc.c, .string (ofL x.sy.de), .string (ofL x.sy.gr), .string (ofL x.sy.mi), .string (ofL x.sy.pe), .int .i64 x.sy.pr, .int .i64 x.sy.se, .slice x.li.a x.li.n x.li.c, .slice x.un.a x.un.n x.un.c, .slice x.da.a x.da.n x.da.c, .slice x.mo.a x.mo.n x.mo.c, .slice x.dy.a x.dy.n x.dy.c] 51)).cell? ⟨w.heap.size, 15, none⟩ = some (.slice x.dy.a x.dy.n x.dy.c) := KX.out.cell 15
  clear hb ho hown hF
  obtain ⟨LN, hLN⟩ : ∃ LN, l.length = LN := ⟨_, rfl⟩
  have HLN := Lib.hid hLN
  rw [hLN] at OW HH HO d0 hl
  rw [hLN]
  obtain ⟨dp, hdp⟩ : ∃ dp, l.any q = dp := ⟨_, rfl⟩
  rw [hdp] at HH
  rw [hdp]
  clear hLN hdp
  go_enter Tryz.func220, Tryz.ntmps220
  go_wp2_with fail
  refine region_stail 5 (by kernel_rfl) (by decide +kernel) ?_
  simp only [List.take_succ_cons, List.take_zero, List.drop_succ_cons, List.drop_zero]
  iterate 5 still_step
  refine wpStill_nil ?_
  go_wp2_with fail
  refine (HH.out _ ((OW.out.rd encLo_len).below (K0.out.trans (below_drewN (Below.refl _ _) 1)))).mono ?_
  rintro e w2 ⟨rfl, b2⟩
  have K2 := Lib.hid ((K0.out.trans (below_drewN (Below.refl _ _) 1)).trans (b2.mono (by simp)))
  have KX2 := Lib.hid (Blk.below KX.out (Below.trans (below_drewN (Below.refl _ _) 1) (b2.mono (by simp))))
  have HB2 := Lib.hid (Blk.below HB.out K2.out)
  have OW2 := Lib.hid (Own1.below OW.out K2.out)
  clear b2 d0 c0 c1 c2 c3 c4 c5 c6 c7 c8 c9 c10 c11 c12 c13 c14 c15
  cases dp with
  | true =>
    go_wp2
    go_ret
    exact ⟨9, rfl, .inl ⟨rfl, by decide, K2.out⟩⟩
  | false =>
    have d0 : w2.cell? ⟨g, off, none⟩ = some (.slice va LN vc) := (HB2.out.cell off).trans HO.out
    by_cases hm : mx ≤ LN
    · have z1 : decide ((mx : Int) ≤ (LN : Int)) = true := decide_eq_true (by omega)
      have z2 : decide (mx ≤ LN) = true := decide_eq_true hm
      have HM : Hid (adR false LN mx = 6) := Lib.hid (by unfold adR; simp [hm])
      clear hm
      go_wp2
      go_ret
      exact ⟨6, rfl, .inl ⟨by rw [HLN.out]; exact HM.out.symm, by decide, K2.out⟩⟩
    · have z1 : decide ((mx : Int) ≤ (LN : Int)) = false := decide_eq_false (by omega)
      have z2 : decide (mx ≤ LN) = false := decide_eq_false hm
      have HM : Hid (adR false LN mx = 0) := Lib.hid (by unfold adR; simp [hm])
      clear hm
      go_wp2_with fail
      have f1 : w2.frozen? ⟨g, off, none⟩ = false := HB2.out.frozen off
      have dA : (w2.alloc (.cells #[.string (ofL x.tag), .string (ofL x.par), .string (ofL x.dir), .slice x.ca.a x.ca.n x.ca.c, .slice x.oc.a x.oc.n x.oc.c, .string (ofL x.sy.de), .string (ofL x.sy.gr), .string (ofL x.sy.mi), .string (ofL x.sy.pe), .int .i64 x.sy.pr, .int .i64 x.sy.se, .slice x.li.a x.li.n x.li.c, .slice x.un.a x.un.n x.un.c, .slice x.da.a x.da.n x.da.c, .slice x.mo.a x.mo.n x.mo.c, .slice x.dy.a x.dy.n x.dy.c] 51)).cell? ⟨g, off, none⟩ = some (.slice va LN vc) := ((Blk.alloc HB2.out (.cells #[.string (ofL x.tag), .string (ofL x.par), .string (ofL x.dir), .slice x.ca.a x.ca.n x.ca.c, .slice x.oc.a x.oc.n x.oc.c, .string (ofL x.sy.de), .string (ofL x.sy.gr), .string (ofL x.sy.mi), .string (ofL x.sy.pe), .int .i64 x.sy.pr, .int .i64 x.sy.se, .slice x.li.a x.li.n x.li.c, .slice x.un.a x.un.n x.un.c, .slice x.da.a x.da.n x.da.c, .slice x.mo.a x.mo.n x.mo.c, .slice x.dy.a x.dy.n x.dy.c] 51)).cell off).trans HO.out
      have c0 : w2.cell? ⟨w.heap.size, 0, none⟩ = some (.string (ofL x.tag)) := KX2.out.cell 0
      have c1 : w2.cell? ⟨w.heap.size, 1, none⟩ = some (.string (ofL x.par)) := KX2.out.cell 1
      have c2 : w2.cell? ⟨w.heap.size, 2, none⟩ = some (.string (ofL x.dir)) := KX2.out.cell 2
      have c3 : w2.cell? ⟨w.heap.size, 3, none⟩ = some (.slice x.ca.a x.ca.n x.ca.c) := KX2.out.cell 3
      have c4 : w2.cell? ⟨w.heap.size, 4, none⟩ = some (.slice x.oc.a x.oc.n x.oc.c) := KX2.out.cell 4
      have c5 : w2.cell? ⟨w.heap.size, 5, none⟩ = some (.string (ofL x.sy.de)) := KX2.out.cell 5
      have c6 : w2.cell? ⟨w.heap.size, 6, none⟩ = some (.string (ofL x.sy.gr)) := KX2.out.cell 6
      have c7 : w2.cell? ⟨w.heap.size, 7, none⟩ = some (.string (ofL x.sy.mi)) := KX2.out.cell 7
      have c8 : w2.cell? ⟨w.heap.size, 8, none⟩ = some (.string (ofL x.sy.pe)) := KX2.out.cell 8
      have c9 : w2.cell? ⟨w.heap.size, 9, none⟩ = some (.int .i64 x.sy.pr) := KX2.out.cell 9
      have c10 : w2.cell? ⟨w.heap.size, 10, none⟩ = some (.int .i64 x.sy.se) := KX2.out.cell 10
      have c11 : w2.cell? ⟨w.heap.size, 11, none⟩ = some (.slice x.li.a x.li.n x.li.c) := KX2.out.cell 11
      have c12 : w2.cell? ⟨w.heap.size, 12, none⟩ = some (.slice x.un.a x.un.n x.un.c) := KX2.out.cell 12
      have c13 : w2.cell? ⟨w.heap.size, 13, none⟩ = some (.slice x.da.a x.da.n x.da.c) := KX2.out.cell 13
      have c14 : w2.cell? ⟨w.heap.size, 14, none⟩ = some (.slice x.mo.a x.mo.n x.mo.c) := KX2.out.cell 14
      have c15 : w2.cell? ⟨w.heap.size, 15, none⟩ = some (.slice x.dy.a x.dy.n x.dy.c) := KX2.out.cell 15
      have OW3 := Lib.hid (Own1.below OW2.out (below_drewN (Below.refl _ _) 1))
      have HBD := Lib.hid (Blk.below HB2.out (below_drewN (Below.refl _ _) 1))
      have hz2 : g + 1 ≤ w2.drew.heap.size := by have := HB2.out.lt; simp; omega
      go_upto_region 5 with fail
      go_region_law (first
        | (refine step_append_big (w0 := w2.drew) (x := x) (N := w2.drew.heap.size) rfl rfl _ _ 23 rfl (g + 1) iT _ 296 Tryz.underlying23 hiT hzT hkT hbT (by omega) rfl (by omega) encLo_len encLo_one _ l rfl rfl OW3.out rfl (by have := HLN.out; omega) hz2 ?_; intro v9 w9 h9; obtain ⟨a9, c9, hv9⟩ := h9.1.slice; rw [List.length_append, List.length_singleton] at hv9; subst hv9; have H9 := Lib.hid h9; have k9 := grown_blk HBD.out OW3.out h9.2.1; have d9 : w9.cell? ⟨g, off, none⟩ = some (.slice va LN vc) := (k9.cell off).trans HO.out; have f9 : w9.frozen? ⟨g, off, none⟩ = false := k9.frozen off; have K9 := Lib.hid k9; clear h9 k9))
      all_goals go_wp2
      all_goals go_ret
      all_goals exact add_end (K2.out.trans (below_drewN (Below.refl _ _) 1 |>.mono K2.out.size)) HBD.out K9.out H9.out (by rw [HLN.out]; exact HM.out)
end Go.Proofs.YtpmmchppfmojhaaGreatDoor


