/- What the row stands on, part 26. -/
import Derived.Deep.AppendLies
import Derived.Test.YtpmmchppfmojhaaGreatDoorQ25

/- Of the program's table package: add. -/
namespace Go.Proofs.YtpmmchppfmojhaaGreatDoor
open Go.RowKit
set_option linter.unusedVariables false

/-- What an adding answers: twice, too many, or none. -/
def adR (dup : Bool) (n mx : Nat) : Int := if dup = true then 9 else if mx ≤ n then 6 else 0
def AdP {α : Type} (k : Nat) (enc : α → List Value) (g off : Nat) (T e : TypeId) (cs : Array Value) (v : Value) (l : List α) (x : α) (mx : Nat) (dup : Bool) (w : World) (en : Ending) (w' : World) : Prop :=
  ∃ er : Int, en = .returned (.int .i64 er) ∧ ((er = adR dup l.length mx ∧ er ≠ 0 ∧ Below w.heap.size w w') ∨ (er = 0 ∧ adR dup l.length mx = 0 ∧ ∃ a c, Blk g T (cs.setIfInBounds off (.slice a (l.length + 1) c)) w' ∧ Own1 k enc w' (g + 1) e (.slice a (l.length + 1) c) (l ++ [x]) ∧ (∀ b, (Value.slice a (l.length + 1) c).ownBlock = some b → v.ownBlock = some b ∨ w.heap.size ≤ b) ∧ Fw (fun i => i = g ∨ v.ownBlock = some i) w w'))
section
variable {P : Program} {α : Type} {k : Nat} {enc : α → List Value} {ops : Array Oper} {o : Oper} {rest : List Oper} {a : Act} {Q : Exit → Act → World → Prop}
def LieZ (k : Nat) (enc : α → List Value) (base : Nat) (e : TypeId) (w0 : World) (v : Value) (l : List α) (v' : Value) (w' : World) : Prop :=
  Own1 k enc w' base e v' l ∧ w0.grownBy w' v.ownBlock ∧ ∀ b, v'.ownBlock = some b → v.ownBlock = some b ∨ w0.heap.size ≤ b
theorem wpList_append_big {w0 : World} {e : TypeId} {cs : Array Value} {x : α} {N : Nat} (hN : w0.heap.size = N) (hgd : o.guard = none) (s y : Operand) (t : TypeId)
    (ho : o.op = .call { callee := .builtin .append, args := #[s, y], argTypes := #[t, t] })
    (base : Nat) (i : TypeInfo) (z : Value) (by_ : Nat) (ht : P.underlying t = some (.slice e)) (hi : P.info? e = some i) (hz : i.zero = some z) (hsize : i.size = k) (hby : i.bytes = by_) (hb64 : by_ ≤ 512) (hzs : z.cells.size = k) (hk0 : 0 < k)
    (hk : ∀ x : α, (enc x).length = k) (h1c : ∀ x : α, ∀ u ∈ enc x, u.oneCell' = true)
    (v : Value) (l : List α) (hcs : cs.toList = enc x) (hs : a.eval s = v) (hown : Own1 k enc w0 base e v l) (hx : a.eval y = .slice (some ⟨N, 0, none⟩) 1 1)
    (hl : l.length ≤ 1000000) (hbase : base ≤ N)
    (h : ∀ v' w', LieZ k enc base e w0 v (l ++ [x]) v' w' → wpList P ops Q rest (a.put o.dst v') w') : wpList P ops Q (o :: rest) a (w0.alloc (.cells cs e)) := by
  subst hN
  refine wpList_append_lies (w := w0.alloc (.cells cs e)) hgd s y t ho base e i z k by_ ht hi hz hsize hby hzs hk0 v l.length (l.flatMap enc) hs (World.ownsRow.alloc hown _) ⟨w0.heap.size, 0, none⟩ 1 1 cs.toList hx (by rw [hcs, hk, Nat.one_mul]) (cells_new _ _ _) (fun u hu => h1c x u (by rw [← hcs]; exact hu)) (by omega) (by unfold maxLen; omega) (Nat.le_trans (Nat.mul_le_mul_left _ hb64) (by omega)) (by simp; omega) _ rfl ?_
  intro g cap w' h2 h3 h4 h5
  refine h _ w' ⟨?_, (World.grownBy_alloc _ _ _).trans h3, fun b hb => ?_⟩
  · unfold Own1
    rw [List.flatMap_append, List.length_append, List.flatMap_cons, List.flatMap_nil, List.append_nil, ← hcs]
    exact h2
  · have hgb : g = b := by
      have : (some g : Option Nat) = some b := hb
      injection this
    subst hgb
    rcases h4 with h4 | h4
    · exact .inl h4
    · right
      rw [h4]
      simp
theorem step_append_big {K : Act → World → Prop} {E : Prop} {w0 : World} {e : TypeId} {cs : Array Value} {x : α} {N : Nat} (hN : w0.heap.size = N) (hgd : o.guard = none) (s y : Operand) (t : TypeId)
    (ho : o.op = .call { callee := .builtin .append, args := #[s, y], argTypes := #[t, t] })
    (base : Nat) (i : TypeInfo) (z : Value) (by_ : Nat) (ht : P.underlying t = some (.slice e)) (hi : P.info? e = some i) (hz : i.zero = some z) (hsize : i.size = k) (hby : i.bytes = by_) (hb64 : by_ ≤ 512) (hzs : z.cells.size = k) (hk0 : 0 < k)
    (hk : ∀ x : α, (enc x).length = k) (h1c : ∀ x : α, ∀ u ∈ enc x, u.oneCell' = true)
    (v : Value) (l : List α) (hcs : cs.toList = enc x) (hs : a.eval s = v) (hown : Own1 k enc w0 base e v l) (hx : a.eval y = .slice (some ⟨N, 0, none⟩) 1 1)
    (hl : l.length ≤ 1000000) (hbase : base ≤ N)
    (h : ∀ v' w', LieZ k enc base e w0 v (l ++ [x]) v' w' → K (a.put o.dst v') w') : if Region.wanted o (yielded ops a.tmps) = true then Oper.wp P o a (w0.alloc (.cells cs e)) K Q else E := by
  subst hN
  refine step_append_lies (w := w0.alloc (.cells cs e)) hgd s y t ho base e i z k by_ ht hi hz hsize hby hzs hk0 v l.length (l.flatMap enc) hs (World.ownsRow.alloc hown _) ⟨w0.heap.size, 0, none⟩ 1 1 cs.toList hx (by rw [hcs, hk, Nat.one_mul]) (cells_new _ _ _) (fun u hu => h1c x u (by rw [← hcs]; exact hu)) (by omega) (by unfold maxLen; omega) (Nat.le_trans (Nat.mul_le_mul_left _ hb64) (by omega)) (by simp; omega) _ rfl ?_
  intro g cap w' h2 h3 h4 h5
  refine h _ w' ⟨?_, (World.grownBy_alloc _ _ _).trans h3, fun b hb => ?_⟩
  · unfold Own1
    rw [List.flatMap_append, List.length_append, List.flatMap_cons, List.flatMap_nil, List.append_nil, ← hcs]
    exact h2
  · have hgb : g = b := by
      have : (some g : Option Nat) = some b := hb
      injection this
    subst hgb
    rcases h4 with h4 | h4
    · exact .inl h4
    · right
      rw [h4]
      simp
end
theorem Fw.of_grown {w w' : World} {row : Option Nat} (h : w.grownBy w' row) : Fw (fun i => row = some i) w w' := ⟨h.os, h.tape, h.output, h.size, fun i hi hn => h.block i hi (fun e => hn e.symm)⟩
theorem grown_blk {α : Type} {k : Nat} {enc : α → List Value} {g : Nat} {T e : TypeId} {cs : Array Value} {v : Value} {l : List α} {w w' : World} (h : Blk g T cs w) (ho : Own1 k enc w (g + 1) e v l) (hg : w.grownBy w' v.ownBlock) : Blk g T cs w' :=
  (hg.block g h.lt (fun e => by have := (ho.lt_ g e.symm).1; omega)).trans h
theorem add_end {α : Type} {k : Nat} {enc : α → List Value} {g off : Nat} {T e : TypeId} {cs : Array Value} {v : Value} {l : List α} {x : α} {mx : Nat} {dup : Bool} {w w2 w9 : World} {a9 : Option Addr} {c9 : Nat} (K : Below w.heap.size w w2) (hb : Blk g T cs w2) (k9 : Blk g T cs w9) (h9 : LieZ k enc (g + 1) e w2 v (l ++ [x]) (.slice a9 (l.length + 1) c9) w9) (hm : adR dup l.length mx = 0) :
    AdP k enc g off T e cs v l x mx dup w (.returned (.int .i64 0)) (w9.setCell ⟨g, off, none⟩ (.slice a9 (l.length + 1) c9)) := by
  obtain ⟨h1, h2, h3⟩ := h9
  have b9 : But g w9 (w9.setCell ⟨g, off, none⟩ (.slice a9 (l.length + 1) c9)) := But.setCell g _ off _
  refine ⟨0, rfl, .inr ⟨rfl, hm, a9, c9, k9.put off _, own_but h1 b9 (by omega), fun b e => ?_, ?_⟩⟩
  · rcases h3 b e with h | h
    · exact .inl h
    · exact .inr (by have := K.size; omega)
  · have f1 : Fw (fun i => i = g ∨ v.ownBlock = some i) w w2 := Fw.of_below K
    have f2 : Fw (fun i => i = g ∨ v.ownBlock = some i) w2 w9 := (Fw.of_grown h2).mono (fun i _ h => .inr h)
    have f3 : Fw (fun i => i = g ∨ v.ownBlock = some i) w9 (w9.setCell ⟨g, off, none⟩ (.slice a9 (l.length + 1) c9)) := Fw.of_but b9 (.inl rfl)
    exact (f1.trans f2 (fun _ _ h => h)).trans f3 (fun _ _ h => h)
theorem Tryz.infoAAl : (Tryz.prog.info? 61).map (fun i => (i.zero, i.size, i.bytes)) = some (some (.agg #[.string ⟨#[]⟩, .string ⟨#[]⟩]), 2, 32) := by kernel_rfl
set_option maxRecDepth 1000000 in
set_option maxHeartbeats 8000000 in
theorem addAl_any (g off : Nat) (T : TypeId) (hT : T ≠ 61) (cs : Array Value) (v : Value) (l : List (Str × Str)) (x : Str × Str) (mx : Nat) (q : Str × Str → Bool) (n0 : Nat) (eg : ∀ args w, (callFunc n0 args).run Tryz.prog w = .ok (.enter n0 args) w) (w : World) (hb : Blk g T cs w) (ho : cs[off]? = some v) (hown : Own1 2 encDu w (g + 1) 61 v l) (hl : l.length ≤ 1000)
    (hF : ∀ (W1 : World) (y : Str × Str), y ∈ l → Calls Tryz.prog n0 #[.agg #[.string (ofL x.1), .string (ofL x.2)], .agg #[.string (ofL y.1), .string (ofL y.2)]] W1 fun e w' => e = .returned (.bool (q y)) ∧ Below W1.heap.size W1 w') :
    Calls Tryz.prog 221 #[.pointer (some ⟨g, off, none⟩), .agg #[.string (ofL x.1), .string (ofL x.2)], .int .i64 mx, .func (.func n0) #[] #[]] w (AdP 2 encDu g off T 61 cs v l x mx (l.any q) w) := by
  obtain ⟨va, vc, hva⟩ := hown.slice
  subst hva
  obtain ⟨iT, hiT, hzT, hkT, hbT⟩ := info_partsT Tryz.infoAAl
  have hlt := hb.lt
  have K0 := Lib.hid ((Below.refl w.heap.size w).alloc (Nat.le_refl _) (.cells #[.string (ofL x.1), .string (ofL x.2)] 61))
  have KX := Lib.hid (Blk.new w 61 #[.string (ofL x.1), .string (ofL x.2)])
  have HB := Lib.hid hb
  have HO := Lib.hid ho
  have OW := Lib.hid hown
  have HH := Lib.hid (fun W (h : Rd 2 encDu W (.slice va l.length vc) l) => hasAl_any _ l x q n0 eg W h hF)
  have d0 : w.cell? ⟨g, off, none⟩ = some (.slice va l.length vc) := (hb.cell off).trans ho
  have c0 : (w.alloc (.cells #[.string (ofL x.1), .string (ofL x.2)] 61)).cell? ⟨w.heap.size, 0, none⟩ = some (.string (ofL x.1)) := KX.out.cell 0
  have c1 : (w.alloc (.cells #[.string (ofL x.1), .string (ofL x.2)] 61)).cell? ⟨w.heap.size, 1, none⟩ = some (.string (ofL x.2)) := KX.out.cell 1
  clear hb ho hown hF
  obtain ⟨LN, hLN⟩ : ∃ LN, l.length = LN := ⟨_, rfl⟩
  have HLN := Lib.hid hLN
  rw [hLN] at OW HH HO d0 hl
  rw [hLN]
  obtain ⟨dp, hdp⟩ : ∃ dp, l.any q = dp := ⟨_, rfl⟩
  rw [hdp] at HH
  rw [hdp]
  clear hLN hdp
  go_enter Tryz.func221, Tryz.ntmps221
  go_wp2_with fail
  refine region_stail 5 (by kernel_rfl) (by decide +kernel) ?_
  simp only [List.take_succ_cons, List.take_zero, List.drop_succ_cons, List.drop_zero]
  iterate 5 still_step
  refine wpStill_nil ?_
  go_wp2_with fail
  refine (HH.out _ ((OW.out.rd encDu_len).below (K0.out.trans (below_drewN (Below.refl _ _) 1)))).mono ?_
  rintro e w2 ⟨rfl, b2⟩
  have K2 := Lib.hid ((K0.out.trans (below_drewN (Below.refl _ _) 1)).trans (b2.mono (by simp)))
  have KX2 := Lib.hid (Blk.below KX.out (Below.trans (below_drewN (Below.refl _ _) 1) (b2.mono (by simp))))
  have HB2 := Lib.hid (Blk.below HB.out K2.out)
  have OW2 := Lib.hid (Own1.below OW.out K2.out)
  clear b2 d0 c0 c1
  cases dp with
  | true =>
    go_wp2
    go_ret
    exact ⟨9, rfl, .inl ⟨rfl, by decide, K2.out⟩⟩
  | false =>
    have d0 : w2.cell? ⟨g, off, none⟩ = some (.slice va LN vc) := (HB2.out.cell off).trans HO.out
    by_cases hm : mx ≤ LN
    · have z1 : decide ((mx : Int) ≤ (LN : Int)) = true := decide_eq_true (by omega)
      have z2 : decide (mx ≤ LN) = true := decide_eq_true hm
      have HM : Hid (adR false LN mx = 6) := Lib.hid (by unfold adR; simp [hm])
      clear hm
      go_wp2
      go_ret
      exact ⟨6, rfl, .inl ⟨by rw [HLN.out]; exact HM.out.symm, by decide, K2.out⟩⟩
    · have z1 : decide ((mx : Int) ≤ (LN : Int)) = false := decide_eq_false (by omega)
      have z2 : decide (mx ≤ LN) = false := decide_eq_false hm
      have HM : Hid (adR false LN mx = 0) := Lib.hid (by unfold adR; simp [hm])
      clear hm
      go_wp2_with fail
      have f1 : w2.frozen? ⟨g, off, none⟩ = false := HB2.out.frozen off
      have dA : (w2.alloc (.cells #[.string (ofL x.1), .string (ofL x.2)] 61)).cell? ⟨g, off, none⟩ = some (.slice va LN vc) := ((Blk.alloc HB2.out (.cells #[.string (ofL x.1), .string (ofL x.2)] 61)).cell off).trans HO.out
      have c0 : w2.cell? ⟨w.heap.size, 0, none⟩ = some (.string (ofL x.1)) := KX2.out.cell 0
      have c1 : w2.cell? ⟨w.heap.size, 1, none⟩ = some (.string (ofL x.2)) := KX2.out.cell 1
      have OW3 := Lib.hid (Own1.below OW2.out (below_drewN (Below.refl _ _) 1))
      have HBD := Lib.hid (Blk.below HB2.out (below_drewN (Below.refl _ _) 1))
      have hz2 : g + 1 ≤ w2.drew.heap.size := by have := HB2.out.lt; simp; omega
      go_upto_region 5 with fail
      go_region_law (first
        | (refine step_append_big (w0 := w2.drew) (x := x) (N := w2.drew.heap.size) rfl rfl _ _ 24 rfl (g + 1) iT _ 32 Tryz.underlying24 hiT hzT hkT hbT (by omega) rfl (by omega) encDu_len encDu_one _ l rfl rfl OW3.out rfl (by have := HLN.out; omega) hz2 ?_; intro v9 w9 h9; obtain ⟨a9, c9, hv9⟩ := h9.1.slice; rw [List.length_append, List.length_singleton] at hv9; subst hv9; have H9 := Lib.hid h9; have k9 := grown_blk HBD.out OW3.out h9.2.1; have d9 : w9.cell? ⟨g, off, none⟩ = some (.slice va LN vc) := (k9.cell off).trans HO.out; have f9 : w9.frozen? ⟨g, off, none⟩ = false := k9.frozen off; have K9 := Lib.hid k9; clear h9 k9))
      all_goals go_wp2
      all_goals go_ret
      all_goals exact add_end (K2.out.trans (below_drewN (Below.refl _ _) 1 |>.mono K2.out.size)) HBD.out K9.out H9.out (by rw [HLN.out]; exact HM.out)
end Go.Proofs.YtpmmchppfmojhaaGreatDoor


/- The table parser's lists in memory. -/
namespace Go.Proofs.YtpmmchppfmojhaaGreatDoor
open Go.RowKit
set_option linter.unusedVariables false

def ob (z : RawS) (i : Nat) : Prop := (Value.slice z.a z.n z.c).ownBlock = some i
/-- What is written: the parser's own block and the blocks of its lists. -/
def Wr0 (g : Nat) (m : PMem) (i : Nat) : Prop := i = g ∨ ob m.lo i ∨ ob m.al i ∨ ob m.ne i
/-- .. and what lies below it all. -/
def Up (g : Nat) (S : Nat → Prop) (i : Nat) : Prop := i < g ∨ S i
def Wr1 (g : Nat) (m : PMem) (i : Nat) : Prop := Wr0 g m i ∨ ob m.cu.ca i ∨ ob m.cu.oc i ∨ ob m.cu.li i ∨ ob m.cu.un i ∨ ob m.cu.da i
/-- Rules of the parser's own, their conditions elsewhere. -/
def RulK (g : Nat) (S : Nat → Prop) (w : World) (z : RawS) (l : List Rul) : Prop := ∃ raws : List (Str × RawS), Own1 2 encRl w (g + 1) 56 (.slice z.a z.n z.c) raws ∧ raws.length = l.length ∧ ∀ (i : Nat) (h : i < raws.length) (h' : i < l.length), raws[i].1 = l[i].1 ∧ Kp S w (fun w => RdC w (.slice raws[i].2.a raws[i].2.n raws[i].2.c) l[i].2)
def LocK (g : Nat) (S : Nat → Prop) (w : World) (z : RawS) (l : List Loc) : Prop := ∃ raws : List RawLo, Own1 16 encLo w (g + 1) 51 (.slice z.a z.n z.c) raws ∧ raws.length = l.length ∧ ∀ (i : Nat) (h : i < raws.length) (h' : i < l.length), Kp S w (fun w => LocOk w raws[i] l[i])
structure P0 (g : Nat) (m : PMem) (t : Tab) (S : Nat → Prop) (w : World) : Prop where
  lo : LocK g S w m.lo t.lo
  al : Own1 2 encDu w (g + 1) 61 (.slice m.al.a m.al.n m.al.c) t.al
  ne : Own1 3 encNe w (g + 1) 36 (.slice m.ne.a m.ne.n m.ne.c) t.ne
structure P1 (g : Nat) (z : RawLo) (x : Loc) (S : Nat → Prop) (w : World) : Prop where
  tag : z.tag = x.tag
  par : z.par = x.par
  dir : z.dir = x.dir
  sy : z.sy = x.sy
  ca : RulK g S w z.ca x.ca
  oc : RulK g S w z.oc x.oc
  ap : ∀ b, ob z.ca b → ¬ ob z.oc b
  li : Own1 5 encLi w (g + 1) 116 (.slice z.li.a z.li.n z.li.c) x.li
  un : Own1 3 encUn w (g + 1) 120 (.slice z.un.a z.un.n z.un.c) x.un
  da : Own1 2 encDu w (g + 1) 124 (.slice z.da.a z.da.n z.da.c) x.da
  mo : Kp S w (fun w => Rd 1 encT w (.slice z.mo.a z.mo.n z.mo.c) x.mo)
  dy : Kp S w (fun w => Rd 1 encT w (.slice z.dy.a z.dy.n z.dy.c) x.dy)
/-- The lists are short. -/
structure Bd (t : Tab) : Prop where
  lo : t.lo.length ≤ 60
  al : t.al.length ≤ 200
  ne : t.ne.length ≤ 200
structure Bx (x : Loc) : Prop where
  ca : x.ca.length ≤ 5
  oc : x.oc.length ≤ 5
  li : x.li.length ≤ 10
  un : x.un.length ≤ 100
  da : x.da.length ≤ 30
/-- Rules with different classes. -/
def RlC (l : List Rul) : Prop := (l.map Prod.fst).Nodup ∧ ∀ u ∈ l, u.1 ∈ clsL
/-- What holds as long as there is no error. -/
def SzP (x : Loc) : Prop := (x.sy = sym0 ∨ x.sy.de ≠ []) ∧ RlC x.ca ∧ RlC x.oc
structure PI (g B0 : Nat) (m : PMem) (ok : Bool) (ts : List KT) (t : Tab) (x : Loc) (w : World) : Prop where
  pl : PL g B0 m ok ts w
  p0 : P0 g m t (Up g (Wr1 g m)) w
  p1 : P1 g m.cu x (Up g (Wr1 g m)) w
  bt : Bd t
  bx : Bx x
  sz : ok = true → SzP x
/-- Blocks of these types stay: tables of statements, the box of the parser's pointer. -/
def KTl : List TypeId := [201, 157]
def KT1 (w w' : World) : Prop := ∀ i T cs, T ∈ KTl → Blk i T cs w → Blk i T cs w'
theorem KT1.refl (w : World) : KT1 w w := fun _ _ _ _ h => h
theorem KT1.trans {a b c : World} (h : KT1 a b) (k : KT1 b c) : KT1 a c := fun i T cs hT x => k i T cs hT (h i T cs hT x)
theorem KT1.below {w w' : World} (h : Below w.heap.size w w') : KT1 w w' := fun i T cs _ x => Blk.below x h
theorem KT1.but {g : Nat} {T : TypeId} {cs : Array Value} {w w' : World} (h : But g w w') (hb : Blk g T cs w) (hT : T ∉ KTl) : KT1 w w' := fun i T' c hT' x => x.but h (fun e => by subst e; rw [hb.ty_eq x] at hT; exact hT hT')
theorem KT1.fw {S : Nat → Prop} {w w' : World} (h : Fw S w w') (hS : ∀ i, S i → ∀ T cs, T ∈ KTl → ¬ Blk i T cs w) : KT1 w w' := fun i T cs hT x => (h.block i x.lt (fun e => hS i e T cs hT x)).trans x
section
variable {g B0 : Nat} {m m' : PMem} {t : Tab} {x : Loc} {w w' : World} {ok : Bool} {ts : List KT}
theorem RulK.lt {S : Nat → Prop} {z : RawS} {l : List Rul} (h : RulK g S w z l) : ∀ b, ob z b → g + 1 ≤ b ∧ b < w.heap.size := by
  obtain ⟨raws, h1, _⟩ := h
  exact h1.lt_
theorem LocK.lt {S : Nat → Prop} {z : RawS} {l : List Loc} (h : LocK g S w z l) : ∀ b, ob z b → g + 1 ≤ b ∧ b < w.heap.size := by
  obtain ⟨raws, h1, _⟩ := h
  exact h1.lt_
theorem P0.wr_lt {S : Nat → Prop} (h : P0 g m t S w) (hg : g < w.heap.size) : ∀ i, Wr0 g m i → g ≤ i ∧ i < w.heap.size := by
  rintro i (rfl | e | e | e)
  · exact ⟨Nat.le_refl _, hg⟩
  · have := h.lo.lt i e; omega
  · have := h.al.lt_ i e; omega
  · have := h.ne.lt_ i e; omega
theorem wr_lt {S S' : Nat → Prop} (h0 : P0 g m t S w) (h : P1 g m.cu x S' w) (hg : g < w.heap.size) : ∀ i, Wr1 g m i → g ≤ i ∧ i < w.heap.size := by
  rintro i (e | e | e | e | e | e)
  · exact h0.wr_lt hg i e
  · have := h.ca.lt i e; omega
  · have := h.oc.lt i e; omega
  · have := h.li.lt_ i e; omega
  · have := h.un.lt_ i e; omega
  · have := h.da.lt_ i e; omega
theorem RulK.ty {S : Nat → Prop} {z : RawS} {l : List Rul} (h : RulK g S w z l) : ∀ b, ob z b → ∃ cs, Blk b 56 cs w := by
  obtain ⟨raws, h1, _⟩ := h
  exact h1.ty
theorem LocK.ty {S : Nat → Prop} {z : RawS} {l : List Loc} (h : LocK g S w z l) : ∀ b, ob z b → ∃ cs, Blk b 51 cs w := by
  obtain ⟨raws, h1, _⟩ := h
  exact h1.ty
/-- What is written is of these types. -/
theorem wr_ty0 {S : Nat → Prop} {T : TypeId} {cs : Array Value} (h : P0 g m t S w) (hb : Blk g T cs w) (i : Nat) (hi : Wr0 g m i) : ∃ t cs, t ∈ [T, 51, 61, 36] ∧ Blk i t cs w := by
  rcases hi with rfl | e | e | e
  · exact ⟨T, cs, by simp, hb⟩
  · obtain ⟨c, hc⟩ := h.lo.ty i e; exact ⟨_, c, by simp, hc⟩
  · obtain ⟨c, hc⟩ := h.al.ty i e; exact ⟨_, c, by simp, hc⟩
  · obtain ⟨c, hc⟩ := h.ne.ty i e; exact ⟨_, c, by simp, hc⟩
theorem wr_ty1 {S S' : Nat → Prop} {T : TypeId} {cs : Array Value} (h0 : P0 g m t S w) (h : P1 g m.cu x S' w) (hb : Blk g T cs w) (i : Nat) (hi : Wr1 g m i) : ∃ t cs, t ∈ [T, 51, 61, 36, 56, 116, 120, 124] ∧ Blk i t cs w := by
  rcases hi with e | e | e | e | e | e
  · obtain ⟨t, c, h1, h2⟩ := wr_ty0 h0 hb i e
    exact ⟨t, c, by simp at h1 ⊢; rcases h1 with h | h | h | h <;> simp [h], h2⟩
  · obtain ⟨c, hc⟩ := h.ca.ty i e; exact ⟨_, c, by simp, hc⟩
  · obtain ⟨c, hc⟩ := h.oc.ty i e; exact ⟨_, c, by simp, hc⟩
  · obtain ⟨c, hc⟩ := h.li.ty i e; exact ⟨_, c, by simp, hc⟩
  · obtain ⟨c, hc⟩ := h.un.ty i e; exact ⟨_, c, by simp, hc⟩
  · obtain ⟨c, hc⟩ := h.da.ty i e; exact ⟨_, c, by simp, hc⟩
/-- A block of another type is not written. -/
theorem PI.apart (h : PI g B0 m ok ts t x w) {B : Nat} {T : TypeId} {cs : Array Value} (hb : Blk B T cs w) (hT : T ∉ [86, 51, 61, 36, 56, 116, 120, 124]) : ¬ Wr1 g m B := fun e => by
  obtain ⟨t', cs', h1, h2⟩ := wr_ty1 h.p0 h.p1 h.pl.blk B e
  exact hT (by rw [hb.ty_eq h2]; exact h1)
/-! ### Where nothing of the lists is written -/
theorem RulK.fw {S S' : Nat → Prop} {z : RawS} {l : List Rul} (h : RulK g S w z l) {X : Nat → Prop} (hw : Fw X w w') (hX : ∀ i, i < w.heap.size → X i → S i) (hS : ∀ i, i < w.heap.size → S' i → S i) (hz : ∀ b, ob z b → ¬ X b) : RulK g S' w' z l := by
  obtain ⟨raws, h1, h2, h3⟩ := h
  exact ⟨raws, h1.fw hw hz, h2, fun i a b => ⟨(h3 i a b).1, (h3 i a b).2.step (hw.mono hX) hS⟩⟩
theorem LocK.fw {S S' : Nat → Prop} {z : RawS} {l : List Loc} (h : LocK g S w z l) {X : Nat → Prop} (hw : Fw X w w') (hX : ∀ i, i < w.heap.size → X i → S i) (hS : ∀ i, i < w.heap.size → S' i → S i) (hz : ∀ b, ob z b → ¬ X b) : LocK g S' w' z l := by
  obtain ⟨raws, h1, h2, h3⟩ := h
  exact ⟨raws, h1.fw hw hz, h2, fun i a b => (h3 i a b).step (hw.mono hX) hS⟩
theorem P0.fw {S S' : Nat → Prop} (h : P0 g m t S w) {X : Nat → Prop} (hw : Fw X w w') (hX : ∀ i, i < w.heap.size → X i → S i) (hS : ∀ i, i < w.heap.size → S' i → S i) (h1 : ∀ b, ob m.lo b → ¬ X b) (h2 : ∀ b, ob m.al b → ¬ X b) (h3 : ∀ b, ob m.ne b → ¬ X b) : P0 g m t S' w' :=
  ⟨h.lo.fw hw hX hS h1, h.al.fw hw h2, h.ne.fw hw h3⟩
theorem P1.fw {S S' : Nat → Prop} {z : RawLo} (h : P1 g z x S w) {X : Nat → Prop} (hw : Fw X w w') (hX : ∀ i, i < w.heap.size → X i → S i) (hS : ∀ i, i < w.heap.size → S' i → S i) (h1 : ∀ b, ob z.ca b → ¬ X b) (h2 : ∀ b, ob z.oc b → ¬ X b) (h3 : ∀ b, ob z.li b → ¬ X b) (h4 : ∀ b, ob z.un b → ¬ X b) (h5 : ∀ b, ob z.da b → ¬ X b) : P1 g z x S' w' :=
  ⟨h.tag, h.par, h.dir, h.sy, h.ca.fw hw hX hS h1, h.oc.fw hw hX hS h2, h.ap, h.li.fw hw h3, h.un.fw hw h4, h.da.fw hw h5, h.mo.step (hw.mono hX) hS, h.dy.step (hw.mono hX) hS⟩
theorem ne_g {z : RawS} {α : Type} {k : Nat} {enc : α → List Value} {e : TypeId} {l : List α} (h : Own1 k enc w (g + 1) e (.slice z.a z.n z.c) l) : ∀ b, ob z b → ¬ b = g := fun b e e' => by
  have := h.lt_ b e
  omega
theorem P0.but {S : Nat → Prop} (h : P0 g m t S w) (hb : But g w w') (hs : sameM m m') (hS : S g) : P0 g m' t S w' := by
  obtain ⟨e1, e2, e3, _⟩ := hs
  have := h.fw (X := fun i => i = g) (Fw.of_but hb rfl) (fun _ _ e => e ▸ hS) (fun _ _ h => h) (fun b e e' => by have := h.lo.lt b e; omega) (ne_g h.al) (ne_g h.ne)
  obtain ⟨h1, h2, h3⟩ := this
  exact ⟨by rw [e1]; exact h1, by rw [e2]; exact h2, by rw [e3]; exact h3⟩
theorem P1.but {S : Nat → Prop} {z : RawLo} (h : P1 g z x S w) (hb : But g w w') (hS : S g) : P1 g z x S w' :=
  h.fw (X := fun i => i = g) (Fw.of_but hb rfl) (fun _ _ e => e ▸ hS) (fun _ _ h => h) (fun b e e' => by have := h.ca.lt b e; omega) (fun b e e' => by have := h.oc.lt b e; omega) (ne_g h.li) (ne_g h.un) (ne_g h.da)
theorem wr_same (hs : sameM m m') : Wr1 g m' = Wr1 g m ∧ Wr0 g m' = Wr0 g m := by
  obtain ⟨e1, e2, e3, e4⟩ := hs
  unfold Wr1 Wr0
  rw [e1, e2, e3, e4]
  exact ⟨rfl, rfl⟩
theorem wr_g : Wr1 g m g := .inl (.inl rfl)
theorem PI.read (h : PI g B0 m ok ts t x w) {q : Bool × List KT} (hq : PLn g B0 m q w w') (hm : q.1 = true → ok = true) : ∃ m', sameM m m' ∧ PI g B0 m' q.1 q.2 t x w' ∧ But g w w' := by
  obtain ⟨m', hs, hp, hb⟩ := hq
  refine ⟨m', hs, ⟨hp, ?_, ?_, h.bt, h.bx, fun e => h.sz (hm e)⟩, hb⟩
  · rw [(wr_same hs).1]; exact h.p0.but hb hs (.inr wr_g)
  · rw [(wr_same hs).1, hs.2.2.2]; exact h.p1.but hb (.inr wr_g)
theorem PI.below (h : PI g B0 m ok ts t x w) (hb : Below w.heap.size w w') : PI g B0 m ok ts t x w' := by
  obtain ⟨m', hs, hp, hb'⟩ : PLn g B0 m (ok, ts) w w' := (pl_same h.pl).then_ hb
  exact ⟨h.pl.below hb, h.p0.fw (Fw.of_below (S := fun _ => False) hb) (fun _ _ h => h.elim) (fun _ _ h => h) (fun _ _ h => h) (fun _ _ h => h) (fun _ _ h => h), h.p1.fw (Fw.of_below (S := fun _ => False) hb) (fun _ _ h => h.elim) (fun _ _ h => h) (fun _ _ h => h) (fun _ _ h => h) (fun _ _ h => h) (fun _ _ h => h) (fun _ _ h => h), h.bt, h.bx, h.sz⟩
end
end Go.Proofs.YtpmmchppfmojhaaGreatDoor


/- The table parser's reading methods against the plain parser; what an item's method does. -/
namespace Go.Proofs.YtpmmchppfmojhaaGreatDoor
open Go.RowKit
set_option linter.unusedVariables false

theorem req_f (b : Bool) {q : Bool × List KT} (h : q.1 = false) : (reqS b q).1 = false := by unfold reqS; rw [h]; rfl
theorem nx_f {q : Bool × List KT} (h : q.1 = false) : (nxS q).1 = false := by unfold nxS; rw [h]; exact h
theorem exp_f (kd : Nat) {q : Bool × List KT} (h : q.1 = false) : (expS kd q).1 = false := req_f _ h
theorem rd_f (kd : Nat) {q : Bool × List KT} (h : q.1 = false) : (rdS kd q).1 = false := nx_f (exp_f kd h)
theorem mk_f (t : List UInt8) {q : Bool × List KT} (h : q.1 = false) : (mkS t q).1 = false := nx_f (req_f _ (exp_f 3 h))
theorem t_of {f : Bool × List KT → Bool × List KT} (hf : ∀ {q : Bool × List KT}, q.1 = false → (f q).1 = false) {q : Bool × List KT} (h : (f q).1 = true) : q.1 = true := by
  cases hq : q.1 with
  | true => rfl
  | false => rw [hf hq] at h; cases h
theorem req_t (b : Bool) (l : List KT) : reqS b (true, l) = (b, l) := by unfold reqS; simp
theorem exp_t (kd : Nat) (l : List KT) : expS kd (true, l) = ((hdK l).1 == kd, l) := by unfold expS; exact req_t _ _
theorem lk_rd {kd : Nat} (hk : kd ≠ 0) (l : List KT) : match tk1 kd l with
  | some (t, r) => rdS kd (true, l) = (true, r) ∧ (hdK l).2 = t
  | none => (rdS kd (true, l)).1 = false := by
  unfold rdS
  rw [exp_t]
  cases l with
  | nil =>
    show (nxS ((0 == kd), [])).1 = false
    rw [beq_eq_false_iff_ne.2 (fun e => hk e.symm)]
    rfl
  | cons t l =>
    unfold tk1
    show match (if t.1 = kd then some (t.2, l) else none) with
      | some (t', r) => nxS ((t.1 == kd), t :: l) = (true, r) ∧ t.2 = t'
      | none => (nxS ((t.1 == kd), t :: l)).1 = false
    by_cases h : t.1 = kd
    · rw [if_pos h, h, beq_self_eq_true]
      exact ⟨rfl, rfl⟩
    · rw [if_neg h, beq_eq_false_iff_ne.2 h]
      rfl
theorem lk_mk (c : UInt8) (l : List KT) : match mkP c l with
  | some (_, r) => mkS [c] (true, l) = (true, r)
  | none => (mkS [c] (true, l)).1 = false := by
  have h := lk_rd (kd := 3) (by decide) l
  unfold mkP mkS
  unfold rdS at h
  rw [exp_t] at h ⊢
  cases h1 : tk1 3 l with
  | none =>
    rw [h1] at h
    have h2 : ((hdK l).1 == 3) = false := by
      cases h3 : ((hdK l).1 == 3) with
      | false => rfl
      | true => rw [h3] at h; exact h.symm.trans rfl |>.symm
    show (nxS (reqS (decide ((hdK l).2 = [c])) ((hdK l).1 == 3, l))).1 = false
    rw [h2]
    exact nx_f (req_f _ rfl)
  | some p =>
    obtain ⟨t, r⟩ := p
    rw [h1] at h
    obtain ⟨h2, h3⟩ := h
    have h4 : ((hdK l).1 == 3) = true := by
      cases h5 : ((hdK l).1 == 3) with
      | true => rfl
      | false => rw [h5] at h2; cases congrArg Prod.fst h2
    rw [h4] at h2 ⊢
    show match (if t = [c] then some ((), r) else none) with
      | some (_, r') => nxS (reqS (decide ((hdK l).2 = [c])) (true, l)) = (true, r')
      | none => (nxS (reqS (decide ((hdK l).2 = [c])) (true, l))).1 = false
    rw [h3, req_t]
    by_cases hL : t = [c]
    · rw [if_pos hL, decide_eq_true hL]
      exact h2
    · rw [if_neg hL, decide_eq_false hL]
      rfl
theorem lk_semi {α : Type} (x : α) (l : List KT) : match semi x l with
  | some (y, r) => mkS [59] (true, l) = (true, r) ∧ y = x
  | none => (mkS [59] (true, l)).1 = false := by
  have h := lk_mk 59 l
  unfold semi
  cases h1 : mkP 59 l with
  | none => rw [h1] at h; exact h
  | some p => rw [h1] at h; exact ⟨h, rfl⟩
def ItP (g B0 : Nat) (t : Tab) (body : Option (Loc × Ts)) (ok : Bool) (w : World) (e : Ending) (w' : World) : Prop :=
  ∃ (er : Int) (m' : PMem) (q : Bool × List KT) (x' : Loc), e = .returned (.int .i64 er) ∧ PI g B0 m' q.1 q.2 t x' w' ∧ Below g w w' ∧ KT1 w w' ∧ (ok = false → q.1 = false) ∧ (ok = true → match body with
    | some (x2, r) => er = 0 ∧ q = (true, r) ∧ x' = x2
    | none => er = 0 → q.1 = false)
section
variable {g B0 : Nat} {m m' : PMem} {t : Tab} {x x' : Loc} {w w' : World} {ok : Bool} {ts : List KT}
theorem PI.kt_but (h : PI g B0 m ok ts t x w) (hb : But g w w') : KT1 w w' := KT1.but hb h.pl.blk (by decide)
theorem PI.bel_but (h : PI g B0 m ok ts t x w) (hb : But g w w') : Below g w w' := hb.below (Nat.le_refl _) (by have := h.pl.blk.lt; omega)
theorem PI.kt_fw (h : PI g B0 m ok ts t x w) {X : Nat → Prop} (hf : Fw X w w') (hX : ∀ i, X i → Wr1 g m i) : KT1 w w' := KT1.fw hf (fun i hi T cs hT hc => h.apart hc (by unfold KTl at hT; simp only [List.mem_cons, List.not_mem_nil, or_false] at hT; rcases hT with rfl | rfl <;> decide) (hX i hi))
theorem PI.bel_fw (h : PI g B0 m ok ts t x w) {X : Nat → Prop} (hf : Fw X w w') (hX : ∀ i, X i → Wr1 g m i) : Below g w w' := hf.below (fun i hi => (wr_lt h.p0 h.p1 h.pl.blk.lt i (hX i hi)).1) (by have := h.pl.blk.lt; omega)
/-- A store into the parser's own block that leaves tokens and lists. -/
theorem PI.put (h : PI g B0 m ok ts t x w) (hb : But g w w') (z : RawLo) (kb : Blk g 86 (pcells { m with cu := z }) w') (hz : z.ca = m.cu.ca ∧ z.oc = m.cu.oc ∧ z.li = m.cu.li ∧ z.un = m.cu.un ∧ z.da = m.cu.da)
    (hp : P1 g m.cu x (Up g (Wr1 g m)) w' → P1 g z x' (Up g (Wr1 g m)) w') (hbx : Bx x') (hsz : ok = true → SzP x') : PI g B0 { m with cu := z } ok ts t x' w' := by
  have e : Wr1 g { m with cu := z } = Wr1 g m := by
    unfold Wr1 Wr0
    rw [show ({ m with cu := z } : PMem).cu = z from rfl, hz.1, hz.2.1, hz.2.2.1, hz.2.2.2.1, hz.2.2.2.2]
  have p0 := h.p0.but hb (sameM.refl m) (.inr wr_g)
  refine ⟨⟨kb, h.pl.tk.keep (hb.block _ h.pl.b0lt h.pl.ne), h.pl.f⟩, ?_, ?_, h.bt, hbx, hsz⟩
  · rw [e]; exact ⟨p0.lo, p0.al, p0.ne⟩
  · rw [e]; exact hp (h.p1.but hb (.inr wr_g))
end
end Go.Proofs.YtpmmchppfmojhaaGreatDoor


/- Of the program's table parser: the items unit, date, list. -/
namespace Go.Proofs.YtpmmchppfmojhaaGreatDoor
open Go.RowKit
set_option linter.unusedVariables false

theorem ad_zero {dup : Bool} {n mx : Nat} : adR dup n mx = 0 ↔ dup = false ∧ n < mx := by
  unfold adR
  cases dup with
  | true => simp
  | false =>
    by_cases h : mx ≤ n
    · simp [h]
    · simp [h]; omega
end Go.Proofs.YtpmmchppfmojhaaGreatDoor


/- Of the program's table parser: rule, and the items cardinal, ordinal. -/
namespace Go.Proofs.YtpmmchppfmojhaaGreatDoor
open Go.RowKit
set_option linter.unusedVariables false

theorem nodup_lenZ {α : Type} [DecidableEq α] : ∀ (l m : List α), l.Nodup → (∀ x ∈ l, x ∈ m) → l.length ≤ m.length
  | [], m, _, _ => Nat.zero_le _
  | x :: l, m, hn, hs => by
    have hx : x ∈ m := hs x (List.mem_cons_self ..)
    have ih := nodup_lenZ l (m.erase x) (List.nodup_cons.1 hn).2 (fun y hy => (List.mem_erase_of_ne (by rintro rfl; exact (List.nodup_cons.1 hn).1 hy)).2 (hs y (List.mem_cons_of_mem _ hy)))
    rw [List.length_erase_of_mem hx] at ih
    have := List.length_pos_of_mem hx
    rw [List.length_cons]
    omega
theorem RlC.lt {l : List Rul} (h : RlC l) {c : Str} (hc : c ∈ clsL) (hn : c ∉ l.map Prod.fst) : l.length < 5 := by
  have := nodup_lenZ (c :: l.map Prod.fst) clsL (List.nodup_cons.2 ⟨hn, h.1⟩) (fun x hx => by
    rcases List.mem_cons.1 hx with rfl | hx
    · exact hc
    · obtain ⟨u, hu, rfl⟩ := List.mem_map.1 hx
      exact h.2 u hu)
  rw [List.length_cons, List.length_map] at this
  have h5 : clsL.length = 5 := rfl
  omega
end Go.Proofs.YtpmmchppfmojhaaGreatDoor


/- Of the program's table parser: statement, at whatever table of statements. -/
namespace Go.Proofs.YtpmmchppfmojhaaGreatDoor
open Go.RowKit
set_option linter.unusedVariables false

/-- What is kept between statements. -/
structure Cx (σ : Type) (g B0 : Nat) where
  F : Bool × List KT → σ → PMem → World → Prop
  pl : ∀ {q s m w}, F q s m w → PL g B0 m q.1 q.2 w
  read : ∀ {q s m w q' w'}, F q s m w → PLn g B0 m q' w w' → (q'.1 = true → q.1 = true) → ∃ m', sameM m m' ∧ F q' s m' w' ∧ But g w w'
  below : ∀ {q s m w w'}, F q s m w → Below w.heap.size w w' → F q s m w'
/-- What a statement's method does. -/
def ItG {σ : Type} {g B0 : Nat} (C : Cx σ g B0) (body : σ → Ts → Option (σ × Ts)) (q : Bool × List KT) (s : σ) (w : World) (e : Ending) (w' : World) : Prop :=
  ∃ (er : Int) (m' : PMem) (q' : Bool × List KT) (s' : σ), e = .returned (.int .i64 er) ∧ C.F q' s' m' w' ∧ Below g w w' ∧ KT1 w w' ∧ (q.1 = false → q'.1 = false) ∧ (q.1 = true → match body s q.2 with
    | some (s2, r) => er = 0 ∧ q' = (true, r) ∧ s' = s2
    | none => er = 0 → q'.1 = false)
def StG {σ : Type} {g B0 : Nat} (C : Cx σ g B0) (stmt : σ → Ts → Option (σ × Ts)) (q : Bool × List KT) (s : σ) (w : World) (e : Ending) (w' : World) : Prop :=
  e = .returned (.tuple #[]) ∧ ∃ (m' : PMem) (q' : Bool × List KT) (s' : σ), C.F q' s' m' w' ∧ Below g w w' ∧ KT1 w w' ∧ (q.1 = false → q'.1 = false) ∧ (q.1 = true → match stmt s q.2 with
    | some (s2, r) => q' = (true, r) ∧ s' = s2
    | none => q'.1 = false)
/-- A table of statements in memory. -/
def ChR (w : World) (v : Value) (L : List (Str × Nat)) : Prop := Rd 2 encSm w v L ∧ ∃ D off cs n c, v = .slice (some ⟨D, off, none⟩) n c ∧ Blk D 201 cs w
theorem ChR.kt {w w' : World} {v : Value} {L : List (Str × Nat)} (h : ChR w v L) (hk : KT1 w w') : ChR w' v L := by
  obtain ⟨h1, D, off, cs, n, c, rfl, h2⟩ := h
  have h3 := hk D _ cs (by simp [KTl]) h2
  exact ⟨h1.keep (fun b e _ => by
    obtain rfl : D = b := by simpa [Value.ownBlock] using e
    rw [show w.heap[D]? = _ from h2, show w'.heap[D]? = _ from h3]), D, off, cs, n, c, rfl, h3⟩
def stmtG {σ : Type} (L : List (Str × Nat)) (body : Str × Nat → σ → Ts → Option (σ × Ts)) (s : σ) (l : Ts) : Option (σ × Ts) :=
  thn (tk1 1 l) fun k r => match L.find? (fun c => decide (c.1 = k)) with
    | some c => body c s r
    | none => none
theorem find_first {α : Type} {q : α → Bool} : ∀ {l : List α} {i : Nat} (h : i < l.length), q l[i] = true → (∀ (j : Nat) (hj : j < l.length), j < i → q l[j] = false) → l.find? q = some l[i]
  | [], i, h, _, _ => absurd h (Nat.not_lt_zero _)
  | a :: l, 0, h, h1, _ => by
    have : q a = true := h1
    rw [List.find?_cons, this]; rfl
  | a :: l, i + 1, h, h1, h2 => by
    have : q a = false := h2 0 (by simp) (by omega)
    rw [List.find?_cons, this]
    exact find_first (l := l) (by simpa using h) h1 (fun j hj hji => h2 (j + 1) (by simpa using hj) (by omega))
theorem find_no {α : Type} {q : α → Bool} {l : List α} (h : ∀ (j : Nat) (hj : j < l.length), q l[j] = false) : l.find? q = none := by
  rw [List.find?_eq_none]
  intro x hx
  obtain ⟨j, hj, rfl⟩ := List.getElem_of_mem hx
  rw [h j hj]; simp
theorem stmt_hit {σ : Type} {L : List (Str × Nat)} {body : Str × Nat → σ → Ts → Option (σ × Ts)} {s : σ} {l : Ts} {i : Nat} (hi : i < L.length) (h1 : isS 1 L[i].1 l = true) (h2 : ∀ (j : Nat) (hj : j < L.length), j < i → isS 1 L[j].1 l = false) : stmtG L body s l = body L[i] s l.tail := by
  unfold isS at h1 h2
  simp only [Bool.and_eq_true, beq_iff_eq, decide_eq_true_eq] at h1
  obtain ⟨h3, h4⟩ := h1
  cases l with
  | nil => cases h3
  | cons t r =>
    have h3' : t.1 = 1 := h3
    have h4' : t.2 = L[i].1 := h4
    unfold stmtG
    rw [show tk1 1 (t :: r) = some (t.2, r) from if_pos h3', thn_some]
    rw [find_first hi (q := fun c => decide (c.1 = t.2)) (decide_eq_true h4'.symm) (fun j hj hji => by
      have := h2 j hj hji
      rw [h3, beq_self_eq_true, Bool.true_and] at this
      exact decide_eq_false (fun e => of_decide_eq_false this e.symm))]
    rfl
theorem stmt_miss {σ : Type} {L : List (Str × Nat)} {body : Str × Nat → σ → Ts → Option (σ × Ts)} {s : σ} {l : Ts} (h : ∀ (j : Nat) (hj : j < L.length), isS 1 L[j].1 l = false) : stmtG L body s l = none := by
  unfold isS at h
  cases l with
  | nil => rfl
  | cons t r =>
    unfold stmtG
    by_cases h1 : t.1 = 1
    · rw [show tk1 1 (t :: r) = some (t.2, r) from if_pos h1, thn_some]
      rw [find_no (fun j hj => by
        have := h j hj
        rw [show (hdK (t :: r)).1 = t.1 from rfl, h1, beq_self_eq_true, Bool.true_and] at this
        exact decide_eq_false (fun e => of_decide_eq_false this e.symm))]
    · rw [show tk1 1 (t :: r) = none from if_neg h1]
      rfl
set_option maxRecDepth 1000000 in
set_option maxHeartbeats 4000000 in
theorem statement1_z (g B0 P : Nat) (m : PMem) (ok : Bool) (ts : List KT) (s : Str × Nat) (W : World) (h : PL g B0 m ok ts W) (hp : Blk P 157 #[.pointer (some ⟨g, 0, none⟩)] W) :
    Calls Tryz.prog 162 (#[.agg #[.string (ofL s.1), .func (.func s.2) #[] #[]]] ++ #[.pointer (some ⟨P, 0, none⟩)]) W fun e w' => e = .returned (.bool (isS 1 s.1 ts)) ∧ Below W.heap.size W w' := by
  have K := Lib.hid ((Below.refl W.heap.size W).alloc (Nat.le_refl _) (.cells #[.string (ofL s.1), .func (.func s.2) #[] #[]] 201))
  have HI := Lib.hid (is_z g B0 m ok ts 1 (ofL s.1) _ (h.below K.out))
  have cp : (W.alloc (.cells #[.string (ofL s.1), .func (.func s.2) #[] #[]] 201)).cell? ⟨P, 0, none⟩ = some (.pointer (some ⟨g, 0, none⟩)) := (K.out.cell (p := ⟨P, 0, none⟩) hp.lt).trans (hp.cell 0)
  clear h hp
  go_enter Tryz.func162, Tryz.ntmps162
  go_wp2_with fail
  refine HI.out.mono ?_
  rintro e w2 ⟨rfl, hw⟩
  obtain rfl := hw.symm
  go_wp2
  go_ret
  exact ⟨rfl, K.out⟩
end Go.Proofs.YtpmmchppfmojhaaGreatDoor


/- Of the program's table parser: the tables of statements; the items of a locale. -/
namespace Go.Proofs.YtpmmchppfmojhaaGreatDoor
open Go.RowKit
set_option linter.unusedVariables false

def partsL : List (Str × Nat) := [(kLoc, 158), (kAli, 159), (kNea, 160)]
theorem chr_new {w : World} {L : List (Str × Nat)} {cs : Array Value} (h1 : cs.toList = L.flatMap encSm) (hl : L.length ≤ 100) : ChR (w.alloc (.cells cs 201)) (.slice (some ⟨w.heap.size, 0, none⟩) L.length L.length) L := by
  have hlen : ∀ l : List (Str × Nat), (l.flatMap encSm).length = l.length * 2 := flat_len (fun _ => rfl)
  have hsz : cs.size = L.length * 2 := by rw [← Array.length_toList, h1, hlen]
  have own : Own1 2 encSm (w.alloc (.cells cs 201)) w.heap.size 201 (.slice (some ⟨w.heap.size, 0, none⟩) L.length L.length) L :=
    ⟨hlen L, .inr ⟨w.heap.size, L.length, cs, rfl, Nat.le_refl _, heap_alloc_new w _, Nat.le_refl _, by unfold maxLen; omega, hsz, by rw [← h1]; exact List.take_of_length_le (by rw [Array.length_toList, hsz]; exact Nat.le_refl _)⟩⟩
  exact ⟨own.rd (fun _ => rfl), w.heap.size, 0, cs, L.length, L.length, rfl, Blk.new w _ _⟩
set_option maxRecDepth 1000000 in
theorem parts_any (w : World) : Calls Tryz.prog 104 #[] w fun e w' => (∃ v, e = .returned v ∧ ChR w' v partsL) ∧ Below w.heap.size w w' := by
  go_enter Tryz.func104, Tryz.ntmps104
  go_wp2
  go_ret
  exact ⟨⟨_, rfl, chr_new (L := partsL) rfl (by decide)⟩, (Below.refl _ _).alloc (Nat.le_refl _) _⟩
theorem stmt_eq {σ : Type} {bk : Str → σ → Ts → Option (σ × Ts)} {L : List (Str × Nat)} (hN : ∀ k, (∀ c ∈ L, c.1 ≠ k) → ∀ s r, bk k s r = none) (s : σ) (l : Ts) : stmtG L (fun c => bk c.1) s l = thn (tk1 1 l) fun k r => bk k s r := by
  unfold stmtG
  cases tk1 1 l with
  | none => rfl
  | some p =>
    obtain ⟨k, r⟩ := p
    rw [thn_some, thn_some]
    cases hf : L.find? (fun c => decide (c.1 = k)) with
    | some c =>
      have h1 : c.1 = k := of_decide_eq_true (List.find?_some (p := fun c : Str × Nat => decide (c.1 = k)) hf)
      dsimp only
      rw [h1]
    | none =>
      rw [List.find?_eq_none] at hf
      exact (hN k (fun c hc e => hf c hc (decide_eq_true e)) s r).symm
/-- The state in a locale. -/
def CxI (g B0 : Nat) (t : Tab) : Cx Loc g B0 where
  F := fun q x m w => PI g B0 m q.1 q.2 t x w ∧ ∀ W, Below g w W → EnvOf8 W
  pl := fun h => h.1.pl
  read := fun {q s m w q' w'} h hp hm => by
    obtain ⟨m', h1, h2, h3⟩ := h.1.read hp hm
    exact ⟨m', h1, ⟨h2, fun W hb => h.2 W ((h.1.bel_but h3).trans hb)⟩, h3⟩
  below := fun {q s m w w'} h hb => ⟨h.1.below hb, fun W hw => h.2 W ((hb.mono (by have := h.1.pl.blk.lt; omega)).trans hw)⟩
theorem ItP.g {g B0 : Nat} {t : Tab} {body : Loc → Ts → Option (Loc × Ts)} {q : Bool × List KT} {x : Loc} {w w' : World} {e : Ending} (E : ∀ W, Below g w W → EnvOf8 W) (h : ItP g B0 t (body x q.2) q.1 w e w') : ItG (CxI g B0 t) body q x w e w' := by
  obtain ⟨er, m', q', x', h1, h2, h3, h4, h5, h6⟩ := h
  exact ⟨er, m', q', x', h1, ⟨h2, fun W hb => E W (h3.trans hb)⟩, h3, h4, h5, fun e => by
    have := h6 e
    revert this
    cases body x q.2 with
    | some p => exact id
    | none => exact id⟩
end Go.Proofs.YtpmmchppfmojhaaGreatDoor


/- The table parser's state between locales, aliases and near entries. -/
namespace Go.Proofs.YtpmmchppfmojhaaGreatDoor
open Go.RowKit
set_option linter.unusedVariables false

structure PT (g B0 : Nat) (m : PMem) (ok : Bool) (ts : List KT) (t : Tab) (w : World) : Prop where
  pl : PL g B0 m ok ts w
  p0 : P0 g m t (Up g (Wr0 g m)) w
  bt : Bd t
def raw0 (tag : Str) : RawLo := ⟨tag, [], [], ⟨none, 0, 0⟩, ⟨none, 0, 0⟩, sym0, ⟨none, 0, 0⟩, ⟨none, 0, 0⟩, ⟨none, 0, 0⟩, ⟨none, 0, 0⟩, ⟨none, 0, 0⟩⟩
section
variable {g B0 : Nat} {m m' : PMem} {t : Tab} {x : Loc} {w w' : World} {ok : Bool} {ts : List KT}
theorem wr0_g : Wr0 g m g := .inl rfl
theorem PT.read (h : PT g B0 m ok ts t w) {q : Bool × List KT} (hq : PLn g B0 m q w w') (hm : q.1 = true → ok = true) : ∃ m', sameM m m' ∧ PT g B0 m' q.1 q.2 t w' ∧ But g w w' := by
  obtain ⟨m', hs, hp, hb⟩ := hq
  exact ⟨m', hs, ⟨hp, by rw [(wr_same hs).2]; exact h.p0.but hb hs (.inr wr0_g), h.bt⟩, hb⟩
theorem PT.below (h : PT g B0 m ok ts t w) (hb : Below w.heap.size w w') : PT g B0 m ok ts t w' :=
  ⟨h.pl.below hb, h.p0.fw (Fw.of_below (S := fun _ => False) hb) (fun _ _ h => h.elim) (fun _ _ h => h) (fun _ _ h => h) (fun _ _ h => h) (fun _ _ h => h), h.bt⟩
theorem PT.kt_but (h : PT g B0 m ok ts t w) (hb : But g w w') : KT1 w w' := KT1.but hb h.pl.blk (by decide)
theorem PT.bel_but (h : PT g B0 m ok ts t w) (hb : But g w w') : Below g w w' := hb.below (Nat.le_refl _) (by have := h.pl.blk.lt; omega)
theorem PT.apart (h : PT g B0 m ok ts t w) {B : Nat} {T : TypeId} {cs : Array Value} (hb : Blk B T cs w) (hT : T ∉ [86, 51, 61, 36]) : ¬ Wr0 g m B := fun e => by
  obtain ⟨t', cs', h1, h2⟩ := wr_ty0 h.p0 h.pl.blk B e
  exact hT (by rw [hb.ty_eq h2]; exact h1)
theorem PT.kt_fw (h : PT g B0 m ok ts t w) {X : Nat → Prop} (hf : Fw X w w') (hX : ∀ i, X i → Wr0 g m i) : KT1 w w' := KT1.fw hf (fun i hi T cs hT hc => h.apart hc (by unfold KTl at hT; simp only [List.mem_cons, List.not_mem_nil, or_false] at hT; rcases hT with rfl | rfl <;> decide) (hX i hi))
theorem PT.bel_fw (h : PT g B0 m ok ts t w) {X : Nat → Prop} (hf : Fw X w w') (hX : ∀ i, X i → Wr0 g m i) : Below g w w' := hf.below (fun i hi => (h.p0.wr_lt h.pl.blk.lt i (hX i hi)).1) (by have := h.pl.blk.lt; omega)
theorem PT.add_al (h : PT g B0 m ok ts t w) (y : Str × Str) (hmx : t.al.length < 200) {a : Option Addr} {c : Nat} (kb : Blk g 86 ((pcells m).setIfInBounds 2 (.slice a (t.al.length + 1) c)) w') (ko : Own1 2 encDu w' (g + 1) 61 (.slice a (t.al.length + 1) c) (t.al ++ [y]))
    (hn : ∀ b, (Value.slice a (t.al.length + 1) c).ownBlock = some b → ob m.al b ∨ w.heap.size ≤ b) (hf : Fw (fun i => i = g ∨ ob m.al i) w w') :
    PT g B0 { m with al := ⟨a, t.al.length + 1, c⟩ } ok ts { t with al := t.al ++ [y] } w' := by
  have hlt := h.pl.blk.lt
  have hX : ∀ i, i < w.heap.size → (i = g ∨ ob m.al i) → Up g (Wr0 g m) i := fun i _ e => .inr <| e.elim (fun e => e ▸ wr0_g) (fun e => .inr (.inr (.inl e)))
  have hS : ∀ i, i < w.heap.size → Up g (Wr0 g { m with al := ⟨a, t.al.length + 1, c⟩ }) i → Up g (Wr0 g m) i := by
    rintro i hi (e | e | e | e | e)
    · exact .inl e
    · exact .inr (.inl e)
    · exact .inr (.inr (.inl e))
    · exact (hn i e).elim (fun e => .inr (.inr (.inr (.inl e)))) (fun e => by omega)
    · exact .inr (.inr (.inr (.inr e)))
  have hB : ¬ (B0 = g ∨ ob m.al B0) := fun e => e.elim (fun e => h.pl.ne e) (fun e => by
    obtain ⟨c1, k1⟩ := h.pl.tk.ty
    obtain ⟨c2, k2⟩ := h.p0.al.ty B0 e
    exact absurd (k1.ty_eq k2) (by decide))
  refine ⟨⟨kb, h.pl.tk.keep (hf.block B0 h.pl.b0lt hB), h.pl.f⟩, ⟨?_, ?_, ?_⟩, ?_⟩
  · exact h.p0.lo.fw hf hX hS (fun b e e' => e'.elim (fun e1 => by have := h.p0.lo.lt b e; omega) (fun e2 => by obtain ⟨c1, k1⟩ := h.p0.lo.ty b e; obtain ⟨c2, k2⟩ := h.p0.al.ty b e2; exact absurd (k1.ty_eq k2) (by decide)))
  · exact ko
  · exact h.p0.ne.fw hf (fun b e e' => e'.elim (fun e1 => by have := h.p0.ne.lt_ b e; omega) (fun e2 => by obtain ⟨c1, k1⟩ := h.p0.ne.ty b e; obtain ⟨c2, k2⟩ := h.p0.al.ty b e2; exact absurd (k1.ty_eq k2) (by decide)))
  · exact ⟨h.bt.lo, by simp; omega, h.bt.ne⟩
end
def CxT (g B0 : Nat) : Cx Tab g B0 where
  F := fun q t m w => PT g B0 m q.1 q.2 t w ∧ ∀ W, Below g w W → EnvOf8 W
  pl := fun h => h.1.pl
  read := fun {q s m w q' w'} h hp hm => by
    obtain ⟨m', h1, h2, h3⟩ := h.1.read hp hm
    exact ⟨m', h1, ⟨h2, fun W hb => h.2 W ((h.1.bel_but h3).trans hb)⟩, h3⟩
  below := fun {q s m w w'} h hb => ⟨h.1.below hb, fun W hw => h.2 W ((hb.mono (by have := h.1.pl.blk.lt; omega)).trans hw)⟩
/-- An entry behind its keyword. -/
def bkE (k : Str) (t : Tab) (r : Ts) : Option (Tab × Ts) :=
  if k = kLoc then thn (locP r) fun x r => if 60 ≤ t.lo.length then none else some ({ t with lo := t.lo ++ [x] }, r)
  else if k = kAli then thn (tk1 1 r) fun f r => thn (tk1 1 r) fun g r => if 200 ≤ t.al.length then none else semi { t with al := t.al ++ [(f, g)] } r
  else if k = kNea then thn (tk1 1 r) fun f r => thn (tk1 1 r) fun g r => thn (numP 1000 r) fun n r => if 200 ≤ t.ne.length then none else semi { t with ne := t.ne ++ [⟨f, g, n⟩] } r
  else none
theorem ent_bk (t : Tab) (l : Ts) : entP t l = thn (tk1 1 l) fun k r => bkE k t r := rfl
def body_al (t : Tab) (r : Ts) : Option (Tab × Ts) := thn (tk1 1 r) fun f r => thn (tk1 1 r) fun g r => if 200 ≤ t.al.length then none else semi { t with al := t.al ++ [(f, g)] } r
theorem bk_kAli (t : Tab) (r : Ts) : bkE kAli t r = body_al t r := by
  unfold bkE; rw [if_neg (by decide), if_pos rfl]; rfl
theorem bkE_no (k : Str) (h : ∀ c ∈ partsL, c.1 ≠ k) (t : Tab) (r : Ts) : bkE k t r = none := by
  unfold bkE
  rw [if_neg (fun e => h (kLoc, 158) (by simp [partsL]) e.symm), if_neg (fun e => h (kAli, 159) (by simp [partsL]) e.symm), if_neg (fun e => h (kNea, 160) (by simp [partsL]) e.symm)]
end Go.Proofs.YtpmmchppfmojhaaGreatDoor


/- Of the program's table parser: alias, near. -/
namespace Go.Proofs.YtpmmchppfmojhaaGreatDoor
open Go.RowKit
set_option linter.unusedVariables false

theorem any_no {α : Type} {l : List α} {q : α → Bool} (h : ∀ y ∈ l, q y = false) : l.any q = false := by
  rw [List.any_eq_false]
  intro y hy e
  rw [h y hy] at e
  cases e
theorem spec_al (t : Tab) (l : List KT) {q0 q1 q2 q3 : Bool × List KT} (h0 : q0 = (true, l)) (h1 : q1 = rdS 1 q0) (h2 : q2 = rdS 1 q1) (h3 : q3 = mkS [59] q2) :
    match body_al t l with
    | some (t2, r) => adR false t.al.length 200 = 0 ∧ q3 = (true, r) ∧ { t with al := t.al ++ [((hdK q0.2).2, (hdK q1.2).2)] } = t2
    | none => adR false t.al.length 200 = 0 → q3.1 = false := by
  subst h0
  unfold body_al
  have k0 := lk_rd (kd := 1) (by decide) l
  cases e0 : tk1 1 l with
  | none =>
    rw [e0] at k0
    have hf : q1.1 = false := by rw [h1]; exact k0
    intro _
    exact by rw [h3]; exact mk_f _ (by rw [h2]; exact rd_f 1 hf)
  | some p0 =>
    obtain ⟨t0, r0⟩ := p0
    rw [e0] at k0
    obtain ⟨a0, b0⟩ := k0
    have g1 : q1 = (true, r0) := by rw [h1]; exact a0
    rw [thn_some]
    subst g1
    have k1 := lk_rd (kd := 1) (by decide) r0
    cases e1 : tk1 1 r0 with
    | none =>
      rw [e1] at k1
      have hf : q2.1 = false := by rw [h2]; exact k1
      intro _
      exact by rw [h3]; exact mk_f _ hf
    | some p1 =>
      obtain ⟨t1, r1⟩ := p1
      rw [e1] at k1
      obtain ⟨a1, b1⟩ := k1
      have g2 : q2 = (true, r1) := by rw [h2]; exact a1
      rw [thn_some]
      subst g2
      dsimp only at b0 b1 ⊢
      rw [b0, b1]
      by_cases hc : 200 ≤ t.al.length
      · rw [if_pos hc]
        intro ha
        have := (ad_zero.1 ha).2
        omega
      · rw [if_neg hc]
        have hz : adR false t.al.length 200 = 0 := ad_zero.2 ⟨rfl, by omega⟩
        have ks := lk_semi ({ t with al := t.al ++ [(t0, t1)] } : Tab) r1
        cases es : semi ({ t with al := t.al ++ [(t0, t1)] } : Tab) r1 with
        | none =>
          rw [es] at ks
          intro _
          rw [h3]; exact ks
        | some p =>
          obtain ⟨y, r⟩ := p
          rw [es] at ks
          obtain ⟨s1, s2⟩ := ks
          exact ⟨hz, by rw [h3]; exact s1, s2.symm⟩
set_option maxRecDepth 1000000 in
set_option maxHeartbeats 8000000 in
theorem alias_z (g B0 : Nat) (q : Bool × List KT) (t : Tab) (m : PMem) (w : World) (h : (CxT g B0).F q t m w) :
    Calls Tryz.prog 159 #[.pointer (some ⟨g, 0, none⟩)] w (ItG (CxT g B0) body_al q t w) := by
  obtain ⟨q0, hq0⟩ : ∃ q0 : Bool × List KT, q = q0 := ⟨_, rfl⟩
  have HQ0 := Lib.hid hq0
  have hP : PT g B0 m q0.1 q0.2 t w := by rw [← hq0]; exact h.1
  have P0 := Lib.hid hP
  have HE := Lib.hid h.2
  clear h hq0 hP
  go_enter Tryz.func159, Tryz.ntmps159
  go_wp2_with fail
  refine (word_z g B0 m q0.1 q0.2 _ P0.out.pl).mono ?_
  rintro e w1 ⟨rfl, hq⟩
  obtain ⟨q1, hq1⟩ : ∃ q : Bool × List KT, q = rdS 1 q0 := ⟨_, rfl⟩
  have HQ1 := Lib.hid hq1
  obtain ⟨m1, hs1, hp1, hb1⟩ := P0.out.read (q := q1) (by rw [hq1]; exact hq) (fun h => t_of (fun h => rd_f 1 h) (by rw [← hq1]; exact h))
  have P1 := Lib.hid hp1
  have B1 := Lib.hid (hb1)
  obtain ⟨tx0, htx0⟩ : ∃ tx, (hdK q0.2).2 = tx := ⟨_, rfl⟩
  have HT0 := Lib.hid htx0
  rw [htx0]
  clear hq hq1 hs1 hp1 hb1 htx0
  go_wp2_with fail
  refine (word_z g B0 m1 q1.1 q1.2 _ P1.out.pl).mono ?_
  rintro e w2 ⟨rfl, hq⟩
  obtain ⟨q2, hq2⟩ : ∃ q : Bool × List KT, q = rdS 1 q1 := ⟨_, rfl⟩
  have HQ2 := Lib.hid hq2
  obtain ⟨m2, hs2, hp2, hb2⟩ := P1.out.read (q := q2) (by rw [hq2]; exact hq) (fun h => t_of (fun h => rd_f 1 h) (by rw [← hq2]; exact h))
  have P2 := Lib.hid hp2
  have B2 := Lib.hid (B1.out.trans hb2)
  obtain ⟨tx1, htx1⟩ : ∃ tx, (hdK q1.2).2 = tx := ⟨_, rfl⟩
  have HT1 := Lib.hid htx1
  rw [htx1]
  clear hq hq2 hs2 hp2 hb2 htx1
  have PA := Lib.hid (P2.out.below ((Below.refl _ _).alloc (Nat.le_refl _) (.cells #[.string (ofL tx0), .string (ofL tx1)] 61)))
  have KA := Lib.hid (Blk.new w2 61 #[.string (ofL tx0), .string (ofL tx1)])
  have BA := Lib.hid (B2.out.alloc (.cells #[.string (ofL tx0), .string (ofL tx1)] 61))
  go_wp2_with fail
  refine (mark_z g B0 m2 q2.1 q2.2 ⟨#[59]⟩ _ PA.out.pl).mono ?_
  rw [show (ByteArray.mk #[59]).data.toList = [59] from rfl]
  rintro e w3 ⟨rfl, hq⟩
  obtain ⟨q3, hq3⟩ : ∃ q : Bool × List KT, q = mkS [59] q2 := ⟨_, rfl⟩
  have HQ3 := Lib.hid hq3
  obtain ⟨m3, hs3, hp3, hb3⟩ := PA.out.read (q := q3) (by rw [hq3]; exact hq) (fun h => t_of (fun h => mk_f _ h) (by rw [← hq3]; exact h))
  have PM := Lib.hid hp3
  have BM := Lib.hid (BA.out.trans hb3)
  have hgA : w2.heap.size ≠ g := by have := P2.out.pl.blk.lt; omega
  have KM := Lib.hid (KA.out.but hb3 hgA)
  clear hq hq3 hs3 hp3 hb3 hgA
  have c0 : w3.cell? ⟨w2.heap.size, 0, none⟩ = some (.string (ofL tx0)) := KM.out.cell 0
  have c1 : w3.cell? ⟨w2.heap.size, 1, none⟩ = some (.string (ofL tx1)) := KM.out.cell 1
  have hl1 := PM.out.bt.al
  have HAD := Lib.hid (fun wx hw => addAl_any g 2 86 (by decide) (pcells m3) (.slice m3.al.a m3.al.n m3.al.c) t.al (tx0, tx1) 200 (qAl (tx0, tx1)) 37 (enters_of Tryz.func37 (by kernel_rfl) rfl) wx (Blk.below PM.out.pl.blk hw) rfl (Own1.below PM.out.p0.al hw) (by omega) (fun W1 y _ => alikeAl_any _ y W1))
  clear hl1
  go_wp2_with fail
  refine region_stail 5 (by kernel_rfl) (by decide +kernel) ?_
  simp only [List.take_succ_cons, List.take_zero, List.drop_succ_cons, List.drop_zero]
  iterate 5 still_step
  refine wpStill_nil ?_
  go_wp2_with fail
  refine (HAD.out _ (below_drewN (Below.refl _ _) 1)).mono ?_
  rintro e wz ⟨er, rfl, hz⟩
  have HZ := Lib.hid hz
  clear hz c0 c1
  go_wp2
  go_ret
  have PD := PM.out.below (below_drewN (Below.refl _ w3) 1)
  have bw : But g w (w3.drewN 1) := BM.out.drewN 1
  have hf0 : q.1 = false → q3.1 = false := fun e => by
    have f0 : q0.1 = false := by rw [← HQ0.out]; exact e
    have f1 : q1.1 = false := by rw [HQ1.out]; exact rd_f 1 f0
    have f2 : q2.1 = false := by rw [HQ2.out]; exact rd_f 1 f1
    rw [HQ3.out]; exact mk_f _ f2
  have hdup : t.al.any (qAl (tx0, tx1)) = false := any_no (fun y _ => rfl)
  have hsp := fun e : q.1 = true => spec_al t q.2 (q0 := q0) (by rw [← HQ0.out, ← e]) HQ1.out HQ2.out HQ3.out
  rw [HT0.out, HT1.out] at hsp
  have HZZ := HZ.out
  rw [hdup] at HZZ
  rcases HZZ with ⟨h1, h2, h3⟩ | ⟨h1, h2, a, c, h3, h4, h5, h6⟩
  · refine ⟨er, _, q3, t, rfl, ⟨PD.below h3, fun W hW => HE.out W (((P0.out.bel_but bw).trans (h3.mono (by have := PD.pl.blk.lt; omega))).trans hW)⟩, (P0.out.bel_but bw).trans (h3.mono (by have := PD.pl.blk.lt; omega)), (P0.out.kt_but bw).trans (KT1.below h3), hf0, fun e => ?_⟩
    have := hsp e
    revert this
    cases body_al t q.2 with
    | some p => intro ⟨z, _⟩; exact absurd (h1.trans z) h2
    | none => intro _ hz; exact absurd hz h2
  · have hlen := (ad_zero.1 h2).2
    have bz := (P0.out.bel_but bw).trans (PD.bel_fw h6 (fun i hi => hi.elim (fun e => e ▸ wr0_g) (fun e => .inr (.inr (.inl e)))))
    refine ⟨er, _, q3, _, rfl, ⟨PD.add_al (tx0, tx1) hlen h3 h4 h5 h6, fun W hW => HE.out W (bz.trans hW)⟩, bz, (P0.out.kt_but bw).trans (PD.kt_fw h6 (fun i hi => hi.elim (fun e => e ▸ wr0_g) (fun e => .inr (.inr (.inl e))))), hf0, fun e => ?_⟩
    have := hsp e
    revert this
    cases body_al t q.2 with
    | some p => intro ⟨_, z1, z2⟩; exact ⟨h1, z1, z2⟩
    | none => intro z _; exact z h2
end Go.Proofs.YtpmmchppfmojhaaGreatDoor


/- Of the program's table parser: locale. -/
namespace Go.Proofs.YtpmmchppfmojhaaGreatDoor
open Go.RowKit
set_option linter.unusedVariables false

/-! ### Plain -/
/-- What is left to read, as long as there is no error. -/
def mtk (g : Nat) (w : World) : Nat := match w.cell? ⟨g, 21, none⟩ with
  | some (.int _ f) => if f = 0 then (match w.cell? ⟨g, 0, none⟩ with
    | some (.slice _ n _) => n
    | _ => 0) else 0
  | _ => 0
theorem mtk_ok {g B0 : Nat} {m : PMem} {ts : List KT} {w : World} (h : PL g B0 m true ts w) : mtk g w = ts.length + 1 := by
  have h1 : w.cell? ⟨g, 21, none⟩ = some (.int .i64 m.f) := h.blk.cell 21
  have h2 : w.cell? ⟨g, 0, none⟩ = some (.slice m.tk.a m.tk.n m.tk.c) := h.blk.cell 0
  unfold mtk
  rw [h1, h2]
  dsimp only
  rw [if_pos (h.f.2 rfl), h.tk.len]
theorem mtk_no {g B0 : Nat} {m : PMem} {ts : List KT} {w : World} (h : PL g B0 m false ts w) : mtk g w = 0 := by
  have h1 : w.cell? ⟨g, 21, none⟩ = some (.int .i64 m.f) := h.blk.cell 21
  unfold mtk
  rw [h1]
  dsimp only
  rw [if_neg (fun e => by have := h.f.1 e; cases this)]
theorem mtk_le {g B0 : Nat} {m : PMem} {q : Bool × List KT} {w : World} (h : PL g B0 m q.1 q.2 w) {n : Nat} (hn : q.1 = true → q.2.length < n) (h0 : 0 < n + 1) : mtk g w < n + 1 := by
  obtain ⟨b, ts⟩ := q
  cases b with
  | true => rw [mtk_ok h]; have := hn rfl; dsimp only at this ⊢; omega
  | false => rw [mtk_no h]; omega
end Go.Proofs.YtpmmchppfmojhaaGreatDoor


