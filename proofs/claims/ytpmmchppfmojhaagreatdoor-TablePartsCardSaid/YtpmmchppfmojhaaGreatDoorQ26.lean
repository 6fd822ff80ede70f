/- What the row stands on, part 26. -/
import Derived.Test.YtpmmchppfmojhaaGreatDoorQ25

/- The table parser's lists in memory. -/
namespace Go.Proofs.YtpmmchppfmojhaaGreatDoor
open Go.RowKit
set_option linter.unusedVariables false

def ob (z : RawS) (i : Nat) : Prop := (Value.slice z.a z.n z.c).ownBlock = some i
/-- What is written: the parser's own block and the blocks of its lists. -/
def Wr0 (g : Nat) (m : PMem) (i : Nat) : Prop := i = g ∨ ob m.lo i ∨ ob m.al i ∨ ob m.ne i
/-- .. and what lies below it all. -/
def Up (g : Nat) (S : Nat → Prop) (i : Nat) : Prop := i < g ∨ S i
def Wr1 (g : Nat) (m : PMem) (i : Nat) : Prop := Wr0 g m i ∨ ob m.cu.ca i ∨ ob m.cu.oc i ∨ ob m.cu.li i ∨ ob m.cu.un i ∨ ob m.cu.da i
/-- Rules of the parser's own, their conditions elsewhere. -/
def RulK (g : Nat) (S : Nat → Prop) (w : World) (z : RawS) (l : List Rul) : Prop := ∃ raws : List (Str × RawS), Own1 2 encRl w (g + 1) 56 (.slice z.a z.n z.c) raws ∧ raws.length = l.length ∧ ∀ (i : Nat) (h : i < raws.length) (h' : i < l.length), raws[i].1 = l[i].1 ∧ Kp S w (fun w => RdC w (.slice raws[i].2.a raws[i].2.n raws[i].2.c) l[i].2)
def LocK (g : Nat) (S : Nat → Prop) (w : World) (z : RawS) (l : List Loc) : Prop := ∃ raws : List RawLo, Own1 16 encLo w (g + 1) 51 (.slice z.a z.n z.c) raws ∧ raws.length = l.length ∧ ∀ (i : Nat) (h : i < raws.length) (h' : i < l.length), Kp S w (fun w => LocOk w raws[i] l[i])
structure P0 (g : Nat) (m : PMem) (t : Tab) (S : Nat → Prop) (w : World) : Prop where
  lo : LocK g S w m.lo t.lo
  al : Own1 2 encDu w (g + 1) 61 (.slice m.al.a m.al.n m.al.c) t.al
  ne : Own1 3 encNe w (g + 1) 36 (.slice m.ne.a m.ne.n m.ne.c) t.ne
structure P1 (g : Nat) (z : RawLo) (x : Loc) (S : Nat → Prop) (w : World) : Prop where
  tag : z.tag = x.tag
  par : z.par = x.par
  dir : z.dir = x.dir
  sy : z.sy = x.sy
  ca : RulK g S w z.ca x.ca
  oc : RulK g S w z.oc x.oc
  ap : ∀ b, ob z.ca b → ¬ ob z.oc b
  li : Own1 5 encLi w (g + 1) 116 (.slice z.li.a z.li.n z.li.c) x.li
  un : Own1 3 encUn w (g + 1) 120 (.slice z.un.a z.un.n z.un.c) x.un
  da : Own1 2 encDu w (g + 1) 124 (.slice z.da.a z.da.n z.da.c) x.da
  mo : Kp S w (fun w => Rd 1 encT w (.slice z.mo.a z.mo.n z.mo.c) x.mo)
  dy : Kp S w (fun w => Rd 1 encT w (.slice z.dy.a z.dy.n z.dy.c) x.dy)
/-- The lists are short. -/
structure Bd (t : Tab) : Prop where
  lo : t.lo.length ≤ 60
  al : t.al.length ≤ 200
  ne : t.ne.length ≤ 200
structure Bx (x : Loc) : Prop where
  ca : x.ca.length ≤ 5
  oc : x.oc.length ≤ 5
  li : x.li.length ≤ 10
  un : x.un.length ≤ 100
  da : x.da.length ≤ 30
/-- Rules with different classes. -/
def RlC (l : List Rul) : Prop := (l.map Prod.fst).Nodup ∧ ∀ u ∈ l, u.1 ∈ clsL
/-- What holds as long as there is no error. -/
def SzP (x : Loc) : Prop := (x.sy = sym0 ∨ x.sy.de ≠ []) ∧ RlC x.ca ∧ RlC x.oc
structure PI (g B0 : Nat) (m : PMem) (ok : Bool) (ts : List KT) (t : Tab) (x : Loc) (w : World) : Prop where
  pl : PL g B0 m ok ts w
  p0 : P0 g m t (Up g (Wr1 g m)) w
  p1 : P1 g m.cu x (Up g (Wr1 g m)) w
  bt : Bd t
  bx : Bx x
  sz : ok = true → SzP x
/-- Blocks of these types stay: tables of statements, the box of the parser's pointer. -/
def KTl : List TypeId := [201, 157]
def KT1 (w w' : World) : Prop := ∀ i T cs, T ∈ KTl → Blk i T cs w → Blk i T cs w'
theorem KT1.refl (w : World) : KT1 w w := fun _ _ _ _ h => h
theorem KT1.trans {a b c : World} (h : KT1 a b) (k : KT1 b c) : KT1 a c := fun i T cs hT x => k i T cs hT (h i T cs hT x)
theorem KT1.below {w w' : World} (h : Below w.heap.size w w') : KT1 w w' := fun i T cs _ x => Blk.below x h
theorem KT1.but {g : Nat} {T : TypeId} {cs : Array Value} {w w' : World} (h : But g w w') (hb : Blk g T cs w) (hT : T ∉ KTl) : KT1 w w' := fun i T' c hT' x => x.but h (fun e => by subst e; rw [hb.ty_eq x] at hT; exact hT hT')
theorem KT1.fw {S : Nat → Prop} {w w' : World} (h : Fw S w w') (hS : ∀ i, S i → ∀ T cs, T ∈ KTl → ¬ Blk i T cs w) : KT1 w w' := fun i T cs hT x => (h.block i x.lt (fun e => hS i e T cs hT x)).trans x
section
variable {g B0 : Nat} {m m' : PMem} {t : Tab} {x : Loc} {w w' : World} {ok : Bool} {ts : List KT}
theorem RulK.lt {S : Nat → Prop} {z : RawS} {l : List Rul} (h : RulK g S w z l) : ∀ b, ob z b → g + 1 ≤ b ∧ b < w.heap.size := by
  obtain ⟨raws, h1, _⟩ := h
  exact h1.lt_
theorem LocK.lt {S : Nat → Prop} {z : RawS} {l : List Loc} (h : LocK g S w z l) : ∀ b, ob z b → g + 1 ≤ b ∧ b < w.heap.size := by
  obtain ⟨raws, h1, _⟩ := h
  exact h1.lt_
theorem P0.wr_lt {S : Nat → Prop} (h : P0 g m t S w) (hg : g < w.heap.size) : ∀ i, Wr0 g m i → g ≤ i ∧ i < w.heap.size := by
  rintro i (rfl | e | e | e)
  · exact ⟨Nat.le_refl _, hg⟩
  · have := h.lo.lt i e; omega
  · have := h.al.lt_ i e; omega
  · have := h.ne.lt_ i e; omega
theorem wr_lt {S S' : Nat → Prop} (h0 : P0 g m t S w) (h : P1 g m.cu x S' w) (hg : g < w.heap.size) : ∀ i, Wr1 g m i → g ≤ i ∧ i < w.heap.size := by
  rintro i (e | e | e | e | e | e)
  · exact h0.wr_lt hg i e
  · have := h.ca.lt i e; omega
  · have := h.oc.lt i e; omega
  · have := h.li.lt_ i e; omega
  · have := h.un.lt_ i e; omega
  · have := h.da.lt_ i e; omega
theorem RulK.ty {S : Nat → Prop} {z : RawS} {l : List Rul} (h : RulK g S w z l) : ∀ b, ob z b → ∃ cs, Blk b 56 cs w := by
  obtain ⟨raws, h1, _⟩ := h
  exact h1.ty
theorem LocK.ty {S : Nat → Prop} {z : RawS} {l : List Loc} (h : LocK g S w z l) : ∀ b, ob z b → ∃ cs, Blk b 51 cs w := by
  obtain ⟨raws, h1, _⟩ := h
  exact h1.ty
/-- What is written is of these types. -/
theorem wr_ty0 {S : Nat → Prop} {T : TypeId} {cs : Array Value} (h : P0 g m t S w) (hb : Blk g T cs w) (i : Nat) (hi : Wr0 g m i) : ∃ t cs, t ∈ [T, 51, 61, 36] ∧ Blk i t cs w := by
  rcases hi with rfl | e | e | e
  · exact ⟨T, cs, by simp, hb⟩
  · obtain ⟨c, hc⟩ := h.lo.ty i e; exact ⟨_, c, by simp, hc⟩
  · obtain ⟨c, hc⟩ := h.al.ty i e; exact ⟨_, c, by simp, hc⟩
  · obtain ⟨c, hc⟩ := h.ne.ty i e; exact ⟨_, c, by simp, hc⟩
theorem wr_ty1 {S S' : Nat → Prop} {T : TypeId} {cs : Array Value} (h0 : P0 g m t S w) (h : P1 g m.cu x S' w) (hb : Blk g T cs w) (i : Nat) (hi : Wr1 g m i) : ∃ t cs, t ∈ [T, 51, 61, 36, 56, 116, 120, 124] ∧ Blk i t cs w := by
  rcases hi with e | e | e | e | e | e
  · obtain ⟨t, c, h1, h2⟩ := wr_ty0 h0 hb i e
    exact ⟨t, c, by simp at h1 ⊢; rcases h1 with h | h | h | h <;> simp [h], h2⟩
  · obtain ⟨c, hc⟩ := h.ca.ty i e; exact ⟨_, c, by simp, hc⟩
  · obtain ⟨c, hc⟩ := h.oc.ty i e; exact ⟨_, c, by simp, hc⟩
  · obtain ⟨c, hc⟩ := h.li.ty i e; exact ⟨_, c, by simp, hc⟩
  · obtain ⟨c, hc⟩ := h.un.ty i e; exact ⟨_, c, by simp, hc⟩
  · obtain ⟨c, hc⟩ := h.da.ty i e; exact ⟨_, c, by simp, hc⟩
/-- A block of another type is not written. -/
theorem PI.apart (h : PI g B0 m ok ts t x w) {B : Nat} {T : TypeId} {cs : Array Value} (hb : Blk B T cs w) (hT : T ∉ [86, 51, 61, 36, 56, 116, 120, 124]) : ¬ Wr1 g m B := fun e => by
  obtain ⟨t', cs', h1, h2⟩ := wr_ty1 h.p0 h.p1 h.pl.blk B e
  exact hT (by rw [hb.ty_eq h2]; exact h1)
/-! ### Where nothing of the lists is written -/
theorem RulK.fw {S S' : Nat → Prop} {z : RawS} {l : List Rul} (h : RulK g S w z l) {X : Nat → Prop} (hw : Fw X w w') (hX : ∀ i, i < w.heap.size → X i → S i) (hS : ∀ i, i < w.heap.size → S' i → S i) (hz : ∀ b, ob z b → ¬ X b) : RulK g S' w' z l := by
  obtain ⟨raws, h1, h2, h3⟩ := h
  exact ⟨raws, h1.fw hw hz, h2, fun i a b => ⟨(h3 i a b).1, (h3 i a b).2.step (hw.mono hX) hS⟩⟩
theorem LocK.fw {S S' : Nat → Prop} {z : RawS} {l : List Loc} (h : LocK g S w z l) {X : Nat → Prop} (hw : Fw X w w') (hX : ∀ i, i < w.heap.size → X i → S i) (hS : ∀ i, i < w.heap.size → S' i → S i) (hz : ∀ b, ob z b → ¬ X b) : LocK g S' w' z l := by
  obtain ⟨raws, h1, h2, h3⟩ := h
  exact ⟨raws, h1.fw hw hz, h2, fun i a b => (h3 i a b).step (hw.mono hX) hS⟩
theorem P0.fw {S S' : Nat → Prop} (h : P0 g m t S w) {X : Nat → Prop} (hw : Fw X w w') (hX : ∀ i, i < w.heap.size → X i → S i) (hS : ∀ i, i < w.heap.size → S' i → S i) (h1 : ∀ b, ob m.lo b → ¬ X b) (h2 : ∀ b, ob m.al b → ¬ X b) (h3 : ∀ b, ob m.ne b → ¬ X b) : P0 g m t S' w' :=
  ⟨h.lo.fw hw hX hS h1, h.al.fw hw h2, h.ne.fw hw h3⟩
theorem P1.fw {S S' : Nat → Prop} {z : RawLo} (h : P1 g z x S w) {X : Nat → Prop} (hw : Fw X w w') (hX : ∀ i, i < w.heap.size → X i → S i) (hS : ∀ i, i < w.heap.size → S' i → S i) (h1 : ∀ b, ob z.ca b → ¬ X b) (h2 : ∀ b, ob z.oc b → ¬ X b) (h3 : ∀ b, ob z.li b → ¬ X b) (h4 : ∀ b, ob z.un b → ¬ X b) (h5 : ∀ b, ob z.da b → ¬ X b) : P1 g z x S' w' :=
  ⟨h.tag, h.par, h.dir, h.sy, h.ca.fw hw hX hS h1, h.oc.fw hw hX hS h2, h.ap, h.li.fw hw h3, h.un.fw hw h4, h.da.fw hw h5, h.mo.step (hw.mono hX) hS, h.dy.step (hw.mono hX) hS⟩
theorem ne_g {z : RawS} {α : Type} {k : Nat} {enc : α → List Value} {e : TypeId} {l : List α} (h : Own1 k enc w (g + 1) e (.slice z.a z.n z.c) l) : ∀ b, ob z b → ¬ b = g := fun b e e' => by
  have := h.lt_ b e
  omega
theorem P0.but {S : Nat → Prop} (h : P0 g m t S w) (hb : But g w w') (hs : sameM m m') (hS : S g) : P0 g m' t S w' := by
  obtain ⟨e1, e2, e3, _⟩ := hs
  have := h.fw (X := fun i => i = g) (Fw.of_but hb rfl) (fun _ _ e => e ▸ hS) (fun _ _ h => h) (fun b e e' => by have := h.lo.lt b e; omega) (ne_g h.al) (ne_g h.ne)
  obtain ⟨h1, h2, h3⟩ := this
  exact ⟨by rw [e1]; exact h1, by rw [e2]; exact h2, by rw [e3]; exact h3⟩
theorem P1.but {S : Nat → Prop} {z : RawLo} (h : P1 g z x S w) (hb : But g w w') (hS : S g) : P1 g z x S w' :=
  h.fw (X := fun i => i = g) (Fw.of_but hb rfl) (fun _ _ e => e ▸ hS) (fun _ _ h => h) (fun b e e' => by have := h.ca.lt b e; omega) (fun b e e' => by have := h.oc.lt b e; omega) (ne_g h.li) (ne_g h.un) (ne_g h.da)
theorem wr_same (hs : sameM m m') : Wr1 g m' = Wr1 g m ∧ Wr0 g m' = Wr0 g m := by
  obtain ⟨e1, e2, e3, e4⟩ := hs
  unfold Wr1 Wr0
  rw [e1, e2, e3, e4]
  exact ⟨rfl, rfl⟩
theorem wr_g : Wr1 g m g := .inl (.inl rfl)
theorem PI.read (h : PI g B0 m ok ts t x w) {q : Bool × List KT} (hq : PLn g B0 m q w w') (hm : q.1 = true → ok = true) : ∃ m', sameM m m' ∧ PI g B0 m' q.1 q.2 t x w' ∧ But g w w' := by
  obtain ⟨m', hs, hp, hb⟩ := hq
  refine ⟨m', hs, ⟨hp, ?_, ?_, h.bt, h.bx, fun e => h.sz (hm e)⟩, hb⟩
  · rw [(wr_same hs).1]; exact h.p0.but hb hs (.inr wr_g)
  · rw [(wr_same hs).1, hs.2.2.2]; exact h.p1.but hb (.inr wr_g)
theorem PI.below (h : PI g B0 m ok ts t x w) (hb : Below w.heap.size w w') : PI g B0 m ok ts t x w' := by
  obtain ⟨m', hs, hp, hb'⟩ : PLn g B0 m (ok, ts) w w' := (pl_same h.pl).then_ hb
  exact ⟨h.pl.below hb, h.p0.fw (Fw.of_below (S := fun _ => False) hb) (fun _ _ h => h.elim) (fun _ _ h => h) (fun _ _ h => h) (fun _ _ h => h) (fun _ _ h => h), h.p1.fw (Fw.of_below (S := fun _ => False) hb) (fun _ _ h => h.elim) (fun _ _ h => h) (fun _ _ h => h) (fun _ _ h => h) (fun _ _ h => h) (fun _ _ h => h) (fun _ _ h => h), h.bt, h.bx, h.sz⟩
theorem PI.add_ca (h : PI g B0 m ok ts t x w) (raws : List (Str × RawS)) (hr1 : raws.length = x.ca.length) (y : Str × RawS) (u : Rul) (hy : y.1 = u.1) (hk : Kp (Up g (Wr1 g m)) w (fun w => RdC w (.slice y.2.a y.2.n y.2.c) u.2)) (hr2 : ∀ (i : Nat) (h : i < raws.length) (h' : i < x.ca.length), raws[i].1 = x.ca[i].1 ∧ Kp (Up g (Wr1 g m)) w (fun w => RdC w (.slice raws[i].2.a raws[i].2.n raws[i].2.c) x.ca[i].2)) (hsz : ok = true → SzP { x with ca := x.ca ++ [u] }) (hmx : x.ca.length < 5) {a : Option Addr} {c : Nat} (kb : Blk g 86 ((pcells m).setIfInBounds 7 (.slice a (raws.length + 1) c)) w') (ko : Own1 2 encRl w' (g + 1) 56 (.slice a (raws.length + 1) c) (raws ++ [y]))
    (hn : ∀ b, (Value.slice a (raws.length + 1) c).ownBlock = some b → ob m.cu.ca b ∨ w.heap.size ≤ b) (hf : Fw (fun i => i = g ∨ ob m.cu.ca i) w w') :
    PI g B0 { m with cu := { m.cu with ca := ⟨a, raws.length + 1, c⟩ } } ok ts t { x with ca := x.ca ++ [u] } w' := by
  have hlt := h.pl.blk.lt
  have hX : ∀ i, i < w.heap.size → (i = g ∨ ob m.cu.ca i) → Up g (Wr1 g m) i := fun i _ e => .inr <| e.elim (fun e => e ▸ wr_g) (fun e => .inr (.inl e))
  have hS : ∀ i, i < w.heap.size → Up g (Wr1 g { m with cu := { m.cu with ca := ⟨a, raws.length + 1, c⟩ } }) i → Up g (Wr1 g m) i := by
    rintro i hi (e | e | e | e | e | e | e)
    · exact .inl e
    · exact .inr (.inl e)
    · exact (hn i e).elim (fun e => .inr (.inr (.inl e))) (fun e => by omega)
    · exact .inr (.inr (.inr (.inl e)))
    · exact .inr (.inr (.inr (.inr (.inl e))))
    · exact .inr (.inr (.inr (.inr (.inr (.inl e)))))
    · exact .inr (.inr (.inr (.inr (.inr (.inr e)))))
  have hB : ¬ (B0 = g ∨ ob m.cu.ca B0) := fun e => e.elim (fun e => h.pl.ne e) (fun e => by
    obtain ⟨c1, k1⟩ := h.pl.tk.ty
    obtain ⟨c2, k2⟩ := h.p1.ca.ty B0 e
    exact absurd (k1.ty_eq k2) (by decide))
  refine ⟨⟨kb, h.pl.tk.keep (hf.block B0 h.pl.b0lt hB), h.pl.f⟩, ?_, ?_, h.bt, ?_, hsz⟩
  · have p := h.p0.fw hf hX hS (fun b e e' => e'.elim (fun e1 => by have := h.p0.lo.lt b e; omega) (fun e2 => by obtain ⟨c1, k1⟩ := h.p0.lo.ty b e; obtain ⟨c2, k2⟩ := h.p1.ca.ty b e2; exact absurd (k1.ty_eq k2) (by decide))) (fun b e e' => e'.elim (fun e1 => by have := h.p0.al.lt_ b e; omega) (fun e2 => by obtain ⟨c1, k1⟩ := h.p0.al.ty b e; obtain ⟨c2, k2⟩ := h.p1.ca.ty b e2; exact absurd (k1.ty_eq k2) (by decide))) (fun b e e' => e'.elim (fun e1 => by have := h.p0.ne.lt_ b e; omega) (fun e2 => by obtain ⟨c1, k1⟩ := h.p0.ne.ty b e; obtain ⟨c2, k2⟩ := h.p1.ca.ty b e2; exact absurd (k1.ty_eq k2) (by decide)))
    exact ⟨p.lo, p.al, p.ne⟩
  · refine ⟨h.p1.tag, h.p1.par, h.p1.dir, h.p1.sy, ?_, ?_, ?_, ?_, ?_, ?_, h.p1.mo.step (hf.mono hX) hS, h.p1.dy.step (hf.mono hX) hS⟩
    · refine ⟨raws ++ [y], ko, by simp [hr1], fun i hi hi' => ?_⟩
      rcases Nat.lt_or_ge i raws.length with hl | hl
      · rw [List.getElem_append_left hl, List.getElem_append_left (by omega)]
        exact ⟨(hr2 i hl (by omega)).1, (hr2 i hl (by omega)).2.step (hf.mono hX) hS⟩
      · have e1 : i = raws.length := by rw [List.length_append, List.length_singleton] at hi; omega
        subst e1
        have e6 : (raws ++ [y])[raws.length] = y := by simp
        have e7 : (x.ca ++ [u])[raws.length]'hi' = u := by simp [hr1]
        rw [e6, e7]
        exact ⟨hy, hk.step (hf.mono hX) hS⟩
    · exact h.p1.oc.fw hf hX hS (fun b e e' => e'.elim (fun e1 => by have := h.p1.oc.lt b e; omega) (fun e2 => h.p1.ap b e2 e))
    · exact fun b e e2 => (hn b e).elim (fun e1 => h.p1.ap b e1 e2) (fun e1 => by have := (h.p1.oc.lt b e2).2; omega)
    · exact h.p1.li.fw hf (fun b e e' => e'.elim (fun e1 => by have := h.p1.li.lt_ b e; omega) (fun e2 => by obtain ⟨c1, k1⟩ := h.p1.li.ty b e; obtain ⟨c2, k2⟩ := h.p1.ca.ty b e2; exact absurd (k1.ty_eq k2) (by decide)))
    · exact h.p1.un.fw hf (fun b e e' => e'.elim (fun e1 => by have := h.p1.un.lt_ b e; omega) (fun e2 => by obtain ⟨c1, k1⟩ := h.p1.un.ty b e; obtain ⟨c2, k2⟩ := h.p1.ca.ty b e2; exact absurd (k1.ty_eq k2) (by decide)))
    · exact h.p1.da.fw hf (fun b e e' => e'.elim (fun e1 => by have := h.p1.da.lt_ b e; omega) (fun e2 => by obtain ⟨c1, k1⟩ := h.p1.da.ty b e; obtain ⟨c2, k2⟩ := h.p1.ca.ty b e2; exact absurd (k1.ty_eq k2) (by decide)))
  · exact ⟨by simp; omega, h.bx.oc, h.bx.li, h.bx.un, h.bx.da⟩
theorem PI.add_oc (h : PI g B0 m ok ts t x w) (raws : List (Str × RawS)) (hr1 : raws.length = x.oc.length) (y : Str × RawS) (u : Rul) (hy : y.1 = u.1) (hk : Kp (Up g (Wr1 g m)) w (fun w => RdC w (.slice y.2.a y.2.n y.2.c) u.2)) (hr2 : ∀ (i : Nat) (h : i < raws.length) (h' : i < x.oc.length), raws[i].1 = x.oc[i].1 ∧ Kp (Up g (Wr1 g m)) w (fun w => RdC w (.slice raws[i].2.a raws[i].2.n raws[i].2.c) x.oc[i].2)) (hsz : ok = true → SzP { x with oc := x.oc ++ [u] }) (hmx : x.oc.length < 5) {a : Option Addr} {c : Nat} (kb : Blk g 86 ((pcells m).setIfInBounds 8 (.slice a (raws.length + 1) c)) w') (ko : Own1 2 encRl w' (g + 1) 56 (.slice a (raws.length + 1) c) (raws ++ [y]))
    (hn : ∀ b, (Value.slice a (raws.length + 1) c).ownBlock = some b → ob m.cu.oc b ∨ w.heap.size ≤ b) (hf : Fw (fun i => i = g ∨ ob m.cu.oc i) w w') :
    PI g B0 { m with cu := { m.cu with oc := ⟨a, raws.length + 1, c⟩ } } ok ts t { x with oc := x.oc ++ [u] } w' := by
  have hlt := h.pl.blk.lt
  have hX : ∀ i, i < w.heap.size → (i = g ∨ ob m.cu.oc i) → Up g (Wr1 g m) i := fun i _ e => .inr <| e.elim (fun e => e ▸ wr_g) (fun e => .inr (.inr (.inl e)))
  have hS : ∀ i, i < w.heap.size → Up g (Wr1 g { m with cu := { m.cu with oc := ⟨a, raws.length + 1, c⟩ } }) i → Up g (Wr1 g m) i := by
    rintro i hi (e | e | e | e | e | e | e)
    · exact .inl e
    · exact .inr (.inl e)
    · exact .inr (.inr (.inl e))
    · exact (hn i e).elim (fun e => .inr (.inr (.inr (.inl e)))) (fun e => by omega)
    · exact .inr (.inr (.inr (.inr (.inl e))))
    · exact .inr (.inr (.inr (.inr (.inr (.inl e)))))
    · exact .inr (.inr (.inr (.inr (.inr (.inr e)))))
  have hB : ¬ (B0 = g ∨ ob m.cu.oc B0) := fun e => e.elim (fun e => h.pl.ne e) (fun e => by
    obtain ⟨c1, k1⟩ := h.pl.tk.ty
    obtain ⟨c2, k2⟩ := h.p1.oc.ty B0 e
    exact absurd (k1.ty_eq k2) (by decide))
  refine ⟨⟨kb, h.pl.tk.keep (hf.block B0 h.pl.b0lt hB), h.pl.f⟩, ?_, ?_, h.bt, ?_, hsz⟩
  · have p := h.p0.fw hf hX hS (fun b e e' => e'.elim (fun e1 => by have := h.p0.lo.lt b e; omega) (fun e2 => by obtain ⟨c1, k1⟩ := h.p0.lo.ty b e; obtain ⟨c2, k2⟩ := h.p1.oc.ty b e2; exact absurd (k1.ty_eq k2) (by decide))) (fun b e e' => e'.elim (fun e1 => by have := h.p0.al.lt_ b e; omega) (fun e2 => by obtain ⟨c1, k1⟩ := h.p0.al.ty b e; obtain ⟨c2, k2⟩ := h.p1.oc.ty b e2; exact absurd (k1.ty_eq k2) (by decide))) (fun b e e' => e'.elim (fun e1 => by have := h.p0.ne.lt_ b e; omega) (fun e2 => by obtain ⟨c1, k1⟩ := h.p0.ne.ty b e; obtain ⟨c2, k2⟩ := h.p1.oc.ty b e2; exact absurd (k1.ty_eq k2) (by decide)))
    exact ⟨p.lo, p.al, p.ne⟩
  · refine ⟨h.p1.tag, h.p1.par, h.p1.dir, h.p1.sy, ?_, ?_, ?_, ?_, ?_, ?_, h.p1.mo.step (hf.mono hX) hS, h.p1.dy.step (hf.mono hX) hS⟩
    · exact h.p1.ca.fw hf hX hS (fun b e e' => e'.elim (fun e1 => by have := h.p1.ca.lt b e; omega) (fun e2 => h.p1.ap b e e2))
    · refine ⟨raws ++ [y], ko, by simp [hr1], fun i hi hi' => ?_⟩
      rcases Nat.lt_or_ge i raws.length with hl | hl
      · rw [List.getElem_append_left hl, List.getElem_append_left (by omega)]
        exact ⟨(hr2 i hl (by omega)).1, (hr2 i hl (by omega)).2.step (hf.mono hX) hS⟩
      · have e1 : i = raws.length := by rw [List.length_append, List.length_singleton] at hi; omega
        subst e1
        have e6 : (raws ++ [y])[raws.length] = y := by simp
        have e7 : (x.oc ++ [u])[raws.length]'hi' = u := by simp [hr1]
        rw [e6, e7]
        exact ⟨hy, hk.step (hf.mono hX) hS⟩
    · exact fun b e e2 => (hn b e2).elim (fun e1 => h.p1.ap b e e1) (fun e1 => by have := (h.p1.ca.lt b e).2; omega)
    · exact h.p1.li.fw hf (fun b e e' => e'.elim (fun e1 => by have := h.p1.li.lt_ b e; omega) (fun e2 => by obtain ⟨c1, k1⟩ := h.p1.li.ty b e; obtain ⟨c2, k2⟩ := h.p1.oc.ty b e2; exact absurd (k1.ty_eq k2) (by decide)))
    · exact h.p1.un.fw hf (fun b e e' => e'.elim (fun e1 => by have := h.p1.un.lt_ b e; omega) (fun e2 => by obtain ⟨c1, k1⟩ := h.p1.un.ty b e; obtain ⟨c2, k2⟩ := h.p1.oc.ty b e2; exact absurd (k1.ty_eq k2) (by decide)))
    · exact h.p1.da.fw hf (fun b e e' => e'.elim (fun e1 => by have := h.p1.da.lt_ b e; omega) (fun e2 => by obtain ⟨c1, k1⟩ := h.p1.da.ty b e; obtain ⟨c2, k2⟩ := h.p1.oc.ty b e2; exact absurd (k1.ty_eq k2) (by decide)))
  · exact ⟨h.bx.ca, by simp; omega, h.bx.li, h.bx.un, h.bx.da⟩
theorem PI.add_li (h : PI g B0 m ok ts t x w) (y : Lis) (hmx : x.li.length < 10) {a : Option Addr} {c : Nat} (kb : Blk g 86 ((pcells m).setIfInBounds 15 (.slice a (x.li.length + 1) c)) w') (ko : Own1 5 encLi w' (g + 1) 116 (.slice a (x.li.length + 1) c) (x.li ++ [y]))
    (hn : ∀ b, (Value.slice a (x.li.length + 1) c).ownBlock = some b → ob m.cu.li b ∨ w.heap.size ≤ b) (hf : Fw (fun i => i = g ∨ ob m.cu.li i) w w') :
    PI g B0 { m with cu := { m.cu with li := ⟨a, x.li.length + 1, c⟩ } } ok ts t { x with li := x.li ++ [y] } w' := by
  have hlt := h.pl.blk.lt
  have hX : ∀ i, i < w.heap.size → (i = g ∨ ob m.cu.li i) → Up g (Wr1 g m) i := fun i _ e => .inr <| e.elim (fun e => e ▸ wr_g) (fun e => .inr (.inr (.inr (.inl e))))
  have hS : ∀ i, i < w.heap.size → Up g (Wr1 g { m with cu := { m.cu with li := ⟨a, x.li.length + 1, c⟩ } }) i → Up g (Wr1 g m) i := by
    rintro i hi (e | e | e | e | e | e | e)
    · exact .inl e
    · exact .inr (.inl e)
    · exact .inr (.inr (.inl e))
    · exact .inr (.inr (.inr (.inl e)))
    · exact (hn i e).elim (fun e => .inr (.inr (.inr (.inr (.inl e))))) (fun e => by omega)
    · exact .inr (.inr (.inr (.inr (.inr (.inl e)))))
    · exact .inr (.inr (.inr (.inr (.inr (.inr e)))))
  have hB : ¬ (B0 = g ∨ ob m.cu.li B0) := fun e => e.elim (fun e => h.pl.ne e) (fun e => by
    obtain ⟨c1, k1⟩ := h.pl.tk.ty
    obtain ⟨c2, k2⟩ := h.p1.li.ty B0 e
    exact absurd (k1.ty_eq k2) (by decide))
  refine ⟨⟨kb, h.pl.tk.keep (hf.block B0 h.pl.b0lt hB), h.pl.f⟩, ?_, ?_, h.bt, ?_, h.sz⟩
  · have p := h.p0.fw hf hX hS (fun b e e' => e'.elim (fun e1 => by have := h.p0.lo.lt b e; omega) (fun e2 => by obtain ⟨c1, k1⟩ := h.p0.lo.ty b e; obtain ⟨c2, k2⟩ := h.p1.li.ty b e2; exact absurd (k1.ty_eq k2) (by decide))) (fun b e e' => e'.elim (fun e1 => by have := h.p0.al.lt_ b e; omega) (fun e2 => by obtain ⟨c1, k1⟩ := h.p0.al.ty b e; obtain ⟨c2, k2⟩ := h.p1.li.ty b e2; exact absurd (k1.ty_eq k2) (by decide))) (fun b e e' => e'.elim (fun e1 => by have := h.p0.ne.lt_ b e; omega) (fun e2 => by obtain ⟨c1, k1⟩ := h.p0.ne.ty b e; obtain ⟨c2, k2⟩ := h.p1.li.ty b e2; exact absurd (k1.ty_eq k2) (by decide)))
    exact ⟨p.lo, p.al, p.ne⟩
  · refine ⟨h.p1.tag, h.p1.par, h.p1.dir, h.p1.sy, ?_, ?_, ?_, ?_, ?_, ?_, h.p1.mo.step (hf.mono hX) hS, h.p1.dy.step (hf.mono hX) hS⟩
    · exact h.p1.ca.fw hf hX hS (fun b e e' => e'.elim (fun e1 => by have := h.p1.ca.lt b e; omega) (fun e2 => by obtain ⟨c1, k1⟩ := h.p1.ca.ty b e; obtain ⟨c2, k2⟩ := h.p1.li.ty b e2; exact absurd (k1.ty_eq k2) (by decide)))
    · exact h.p1.oc.fw hf hX hS (fun b e e' => e'.elim (fun e1 => by have := h.p1.oc.lt b e; omega) (fun e2 => by obtain ⟨c1, k1⟩ := h.p1.oc.ty b e; obtain ⟨c2, k2⟩ := h.p1.li.ty b e2; exact absurd (k1.ty_eq k2) (by decide)))
    · exact h.p1.ap
    · exact ko
    · exact h.p1.un.fw hf (fun b e e' => e'.elim (fun e1 => by have := h.p1.un.lt_ b e; omega) (fun e2 => by obtain ⟨c1, k1⟩ := h.p1.un.ty b e; obtain ⟨c2, k2⟩ := h.p1.li.ty b e2; exact absurd (k1.ty_eq k2) (by decide)))
    · exact h.p1.da.fw hf (fun b e e' => e'.elim (fun e1 => by have := h.p1.da.lt_ b e; omega) (fun e2 => by obtain ⟨c1, k1⟩ := h.p1.da.ty b e; obtain ⟨c2, k2⟩ := h.p1.li.ty b e2; exact absurd (k1.ty_eq k2) (by decide)))
  · exact ⟨h.bx.ca, h.bx.oc, by simp; omega, h.bx.un, h.bx.da⟩
theorem PI.add_un (h : PI g B0 m ok ts t x w) (y : Uni) (hmx : x.un.length < 100) {a : Option Addr} {c : Nat} (kb : Blk g 86 ((pcells m).setIfInBounds 16 (.slice a (x.un.length + 1) c)) w') (ko : Own1 3 encUn w' (g + 1) 120 (.slice a (x.un.length + 1) c) (x.un ++ [y]))
    (hn : ∀ b, (Value.slice a (x.un.length + 1) c).ownBlock = some b → ob m.cu.un b ∨ w.heap.size ≤ b) (hf : Fw (fun i => i = g ∨ ob m.cu.un i) w w') :
    PI g B0 { m with cu := { m.cu with un := ⟨a, x.un.length + 1, c⟩ } } ok ts t { x with un := x.un ++ [y] } w' := by
  have hlt := h.pl.blk.lt
  have hX : ∀ i, i < w.heap.size → (i = g ∨ ob m.cu.un i) → Up g (Wr1 g m) i := fun i _ e => .inr <| e.elim (fun e => e ▸ wr_g) (fun e => .inr (.inr (.inr (.inr (.inl e)))))
  have hS : ∀ i, i < w.heap.size → Up g (Wr1 g { m with cu := { m.cu with un := ⟨a, x.un.length + 1, c⟩ } }) i → Up g (Wr1 g m) i := by
    rintro i hi (e | e | e | e | e | e | e)
    · exact .inl e
    · exact .inr (.inl e)
    · exact .inr (.inr (.inl e))
    · exact .inr (.inr (.inr (.inl e)))
    · exact .inr (.inr (.inr (.inr (.inl e))))
    · exact (hn i e).elim (fun e => .inr (.inr (.inr (.inr (.inr (.inl e)))))) (fun e => by omega)
    · exact .inr (.inr (.inr (.inr (.inr (.inr e)))))
  have hB : ¬ (B0 = g ∨ ob m.cu.un B0) := fun e => e.elim (fun e => h.pl.ne e) (fun e => by
    obtain ⟨c1, k1⟩ := h.pl.tk.ty
    obtain ⟨c2, k2⟩ := h.p1.un.ty B0 e
    exact absurd (k1.ty_eq k2) (by decide))
  refine ⟨⟨kb, h.pl.tk.keep (hf.block B0 h.pl.b0lt hB), h.pl.f⟩, ?_, ?_, h.bt, ?_, h.sz⟩
  · have p := h.p0.fw hf hX hS (fun b e e' => e'.elim (fun e1 => by have := h.p0.lo.lt b e; omega) (fun e2 => by obtain ⟨c1, k1⟩ := h.p0.lo.ty b e; obtain ⟨c2, k2⟩ := h.p1.un.ty b e2; exact absurd (k1.ty_eq k2) (by decide))) (fun b e e' => e'.elim (fun e1 => by have := h.p0.al.lt_ b e; omega) (fun e2 => by obtain ⟨c1, k1⟩ := h.p0.al.ty b e; obtain ⟨c2, k2⟩ := h.p1.un.ty b e2; exact absurd (k1.ty_eq k2) (by decide))) (fun b e e' => e'.elim (fun e1 => by have := h.p0.ne.lt_ b e; omega) (fun e2 => by obtain ⟨c1, k1⟩ := h.p0.ne.ty b e; obtain ⟨c2, k2⟩ := h.p1.un.ty b e2; exact absurd (k1.ty_eq k2) (by decide)))
    exact ⟨p.lo, p.al, p.ne⟩
  · refine ⟨h.p1.tag, h.p1.par, h.p1.dir, h.p1.sy, ?_, ?_, ?_, ?_, ?_, ?_, h.p1.mo.step (hf.mono hX) hS, h.p1.dy.step (hf.mono hX) hS⟩
    · exact h.p1.ca.fw hf hX hS (fun b e e' => e'.elim (fun e1 => by have := h.p1.ca.lt b e; omega) (fun e2 => by obtain ⟨c1, k1⟩ := h.p1.ca.ty b e; obtain ⟨c2, k2⟩ := h.p1.un.ty b e2; exact absurd (k1.ty_eq k2) (by decide)))
    · exact h.p1.oc.fw hf hX hS (fun b e e' => e'.elim (fun e1 => by have := h.p1.oc.lt b e; omega) (fun e2 => by obtain ⟨c1, k1⟩ := h.p1.oc.ty b e; obtain ⟨c2, k2⟩ := h.p1.un.ty b e2; exact absurd (k1.ty_eq k2) (by decide)))
    · exact h.p1.ap
    · exact h.p1.li.fw hf (fun b e e' => e'.elim (fun e1 => by have := h.p1.li.lt_ b e; omega) (fun e2 => by obtain ⟨c1, k1⟩ := h.p1.li.ty b e; obtain ⟨c2, k2⟩ := h.p1.un.ty b e2; exact absurd (k1.ty_eq k2) (by decide)))
    · exact ko
    · exact h.p1.da.fw hf (fun b e e' => e'.elim (fun e1 => by have := h.p1.da.lt_ b e; omega) (fun e2 => by obtain ⟨c1, k1⟩ := h.p1.da.ty b e; obtain ⟨c2, k2⟩ := h.p1.un.ty b e2; exact absurd (k1.ty_eq k2) (by decide)))
  · exact ⟨h.bx.ca, h.bx.oc, h.bx.li, by simp; omega, h.bx.da⟩
theorem PI.add_da (h : PI g B0 m ok ts t x w) (y : Str × Str) (hmx : x.da.length < 30) {a : Option Addr} {c : Nat} (kb : Blk g 86 ((pcells m).setIfInBounds 17 (.slice a (x.da.length + 1) c)) w') (ko : Own1 2 encDu w' (g + 1) 124 (.slice a (x.da.length + 1) c) (x.da ++ [y]))
    (hn : ∀ b, (Value.slice a (x.da.length + 1) c).ownBlock = some b → ob m.cu.da b ∨ w.heap.size ≤ b) (hf : Fw (fun i => i = g ∨ ob m.cu.da i) w w') :
    PI g B0 { m with cu := { m.cu with da := ⟨a, x.da.length + 1, c⟩ } } ok ts t { x with da := x.da ++ [y] } w' := by
  have hlt := h.pl.blk.lt
  have hX : ∀ i, i < w.heap.size → (i = g ∨ ob m.cu.da i) → Up g (Wr1 g m) i := fun i _ e => .inr <| e.elim (fun e => e ▸ wr_g) (fun e => .inr (.inr (.inr (.inr (.inr e)))))
  have hS : ∀ i, i < w.heap.size → Up g (Wr1 g { m with cu := { m.cu with da := ⟨a, x.da.length + 1, c⟩ } }) i → Up g (Wr1 g m) i := by
    rintro i hi (e | e | e | e | e | e | e)
    · exact .inl e
    · exact .inr (.inl e)
    · exact .inr (.inr (.inl e))
    · exact .inr (.inr (.inr (.inl e)))
    · exact .inr (.inr (.inr (.inr (.inl e))))
    · exact .inr (.inr (.inr (.inr (.inr (.inl e)))))
    · exact (hn i e).elim (fun e => .inr (.inr (.inr (.inr (.inr (.inr e)))))) (fun e => by omega)
  have hB : ¬ (B0 = g ∨ ob m.cu.da B0) := fun e => e.elim (fun e => h.pl.ne e) (fun e => by
    obtain ⟨c1, k1⟩ := h.pl.tk.ty
    obtain ⟨c2, k2⟩ := h.p1.da.ty B0 e
    exact absurd (k1.ty_eq k2) (by decide))
  refine ⟨⟨kb, h.pl.tk.keep (hf.block B0 h.pl.b0lt hB), h.pl.f⟩, ?_, ?_, h.bt, ?_, h.sz⟩
  · have p := h.p0.fw hf hX hS (fun b e e' => e'.elim (fun e1 => by have := h.p0.lo.lt b e; omega) (fun e2 => by obtain ⟨c1, k1⟩ := h.p0.lo.ty b e; obtain ⟨c2, k2⟩ := h.p1.da.ty b e2; exact absurd (k1.ty_eq k2) (by decide))) (fun b e e' => e'.elim (fun e1 => by have := h.p0.al.lt_ b e; omega) (fun e2 => by obtain ⟨c1, k1⟩ := h.p0.al.ty b e; obtain ⟨c2, k2⟩ := h.p1.da.ty b e2; exact absurd (k1.ty_eq k2) (by decide))) (fun b e e' => e'.elim (fun e1 => by have := h.p0.ne.lt_ b e; omega) (fun e2 => by obtain ⟨c1, k1⟩ := h.p0.ne.ty b e; obtain ⟨c2, k2⟩ := h.p1.da.ty b e2; exact absurd (k1.ty_eq k2) (by decide)))
    exact ⟨p.lo, p.al, p.ne⟩
  · refine ⟨h.p1.tag, h.p1.par, h.p1.dir, h.p1.sy, ?_, ?_, ?_, ?_, ?_, ?_, h.p1.mo.step (hf.mono hX) hS, h.p1.dy.step (hf.mono hX) hS⟩
    · exact h.p1.ca.fw hf hX hS (fun b e e' => e'.elim (fun e1 => by have := h.p1.ca.lt b e; omega) (fun e2 => by obtain ⟨c1, k1⟩ := h.p1.ca.ty b e; obtain ⟨c2, k2⟩ := h.p1.da.ty b e2; exact absurd (k1.ty_eq k2) (by decide)))
    · exact h.p1.oc.fw hf hX hS (fun b e e' => e'.elim (fun e1 => by have := h.p1.oc.lt b e; omega) (fun e2 => by obtain ⟨c1, k1⟩ := h.p1.oc.ty b e; obtain ⟨c2, k2⟩ := h.p1.da.ty b e2; exact absurd (k1.ty_eq k2) (by decide)))
    · exact h.p1.ap
    · exact h.p1.li.fw hf (fun b e e' => e'.elim (fun e1 => by have := h.p1.li.lt_ b e; omega) (fun e2 => by obtain ⟨c1, k1⟩ := h.p1.li.ty b e; obtain ⟨c2, k2⟩ := h.p1.da.ty b e2; exact absurd (k1.ty_eq k2) (by decide)))
    · exact h.p1.un.fw hf (fun b e e' => e'.elim (fun e1 => by have := h.p1.un.lt_ b e; omega) (fun e2 => by obtain ⟨c1, k1⟩ := h.p1.un.ty b e; obtain ⟨c2, k2⟩ := h.p1.da.ty b e2; exact absurd (k1.ty_eq k2) (by decide)))
    · exact ko
  · exact ⟨h.bx.ca, h.bx.oc, h.bx.li, h.bx.un, by simp; omega⟩

end
end Go.Proofs.YtpmmchppfmojhaaGreatDoor


/- The table parser's reading methods against the plain parser; what an item's method does. -/
namespace Go.Proofs.YtpmmchppfmojhaaGreatDoor
open Go.RowKit
set_option linter.unusedVariables false

theorem req_f (b : Bool) {q : Bool × List KT} (h : q.1 = false) : (reqS b q).1 = false := by unfold reqS; rw [h]; rfl
theorem nx_f {q : Bool × List KT} (h : q.1 = false) : (nxS q).1 = false := by unfold nxS; rw [h]; exact h
theorem exp_f (kd : Nat) {q : Bool × List KT} (h : q.1 = false) : (expS kd q).1 = false := req_f _ h
theorem rd_f (kd : Nat) {q : Bool × List KT} (h : q.1 = false) : (rdS kd q).1 = false := nx_f (exp_f kd h)
theorem mk_f (t : List UInt8) {q : Bool × List KT} (h : q.1 = false) : (mkS t q).1 = false := nx_f (req_f _ (exp_f 3 h))
theorem ch_f (L : List (List UInt8)) {q : Bool × List KT} (h : q.1 = false) : (chS L q).1 = false := nx_f (req_f _ (exp_f 1 h))
theorem nu_f (m : Nat) {q : Bool × List KT} (h : q.1 = false) : (nuS m q).1 = false := nx_f (req_f _ (req_f _ (exp_f 1 h)))
theorem co_f {q : Bool × List KT} (h : q.1 = false) : (coS q).1 = false := nx_f (req_f _ (exp_f 2 h))
theorem tx_f : ∀ (n : Nat) {q : Bool × List KT}, q.1 = false → (txS n q).1 = false
  | 0, _, h => h
  | n + 1, q, h => tx_f n (q := rdS 2 q) (rd_f 2 h)
theorem t_of {f : Bool × List KT → Bool × List KT} (hf : ∀ {q : Bool × List KT}, q.1 = false → (f q).1 = false) {q : Bool × List KT} (h : (f q).1 = true) : q.1 = true := by
  cases hq : q.1 with
  | true => rfl
  | false => rw [hf hq] at h; cases h
theorem req_t (b : Bool) (l : List KT) : reqS b (true, l) = (b, l) := by unfold reqS; simp
theorem exp_t (kd : Nat) (l : List KT) : expS kd (true, l) = ((hdK l).1 == kd, l) := by unfold expS; exact req_t _ _
theorem lk_rd {kd : Nat} (hk : kd ≠ 0) (l : List KT) : match tk1 kd l with
  | some (t, r) => rdS kd (true, l) = (true, r) ∧ (hdK l).2 = t
  | none => (rdS kd (true, l)).1 = false := by
  unfold rdS
  rw [exp_t]
  cases l with
  | nil =>
    show (nxS ((0 == kd), [])).1 = false
    rw [beq_eq_false_iff_ne.2 (fun e => hk e.symm)]
    rfl
  | cons t l =>
    unfold tk1
    show match (if t.1 = kd then some (t.2, l) else none) with
      | some (t', r) => nxS ((t.1 == kd), t :: l) = (true, r) ∧ t.2 = t'
      | none => (nxS ((t.1 == kd), t :: l)).1 = false
    by_cases h : t.1 = kd
    · rw [if_pos h, h, beq_self_eq_true]
      exact ⟨rfl, rfl⟩
    · rw [if_neg h, beq_eq_false_iff_ne.2 h]
      rfl
theorem lk_ch (L : List (List UInt8)) (l : List KT) : match choP L l with
  | some (t, r) => chS L (true, l) = (true, r) ∧ (hdK l).2 = t ∧ t ∈ L
  | none => (chS L (true, l)).1 = false := by
  have h := lk_rd (kd := 1) (by decide) l
  unfold choP chS
  unfold rdS at h
  rw [exp_t] at h ⊢
  cases h1 : tk1 1 l with
  | none =>
    rw [h1] at h
    have h2 : ((hdK l).1 == 1) = false := by
      cases h3 : ((hdK l).1 == 1) with
      | false => rfl
      | true => rw [h3] at h; exact h.symm.trans rfl |>.symm
    show (nxS (reqS (decide ((hdK l).2 ∈ L)) ((hdK l).1 == 1, l))).1 = false
    rw [h2]
    exact nx_f (req_f _ rfl)
  | some p =>
    obtain ⟨t, r⟩ := p
    rw [h1] at h
    obtain ⟨h2, h3⟩ := h
    have h4 : ((hdK l).1 == 1) = true := by
      cases h5 : ((hdK l).1 == 1) with
      | true => rfl
      | false => rw [h5] at h2; cases congrArg Prod.fst h2
    rw [h4] at h2 ⊢
    show match (if t ∈ L then some (t, r) else none) with
      | some (t', r') => nxS (reqS (decide ((hdK l).2 ∈ L)) (true, l)) = (true, r') ∧ (hdK l).2 = t' ∧ t' ∈ L
      | none => (nxS (reqS (decide ((hdK l).2 ∈ L)) (true, l))).1 = false
    rw [h3, req_t]
    by_cases hL : t ∈ L
    · rw [if_pos hL, decide_eq_true hL]
      exact ⟨h2, rfl, hL⟩
    · rw [if_neg hL, decide_eq_false hL]
      rfl
theorem lk_mk (c : UInt8) (l : List KT) : match mkP c l with
  | some (_, r) => mkS [c] (true, l) = (true, r)
  | none => (mkS [c] (true, l)).1 = false := by
  have h := lk_rd (kd := 3) (by decide) l
  unfold mkP mkS
  unfold rdS at h
  rw [exp_t] at h ⊢
  cases h1 : tk1 3 l with
  | none =>
    rw [h1] at h
    have h2 : ((hdK l).1 == 3) = false := by
      cases h3 : ((hdK l).1 == 3) with
      | false => rfl
      | true => rw [h3] at h; exact h.symm.trans rfl |>.symm
    show (nxS (reqS (decide ((hdK l).2 = [c])) ((hdK l).1 == 3, l))).1 = false
    rw [h2]
    exact nx_f (req_f _ rfl)
  | some p =>
    obtain ⟨t, r⟩ := p
    rw [h1] at h
    obtain ⟨h2, h3⟩ := h
    have h4 : ((hdK l).1 == 3) = true := by
      cases h5 : ((hdK l).1 == 3) with
      | true => rfl
      | false => rw [h5] at h2; cases congrArg Prod.fst h2
    rw [h4] at h2 ⊢
    show match (if t = [c] then some ((), r) else none) with
      | some (_, r') => nxS (reqS (decide ((hdK l).2 = [c])) (true, l)) = (true, r')
      | none => (nxS (reqS (decide ((hdK l).2 = [c])) (true, l))).1 = false
    rw [h3, req_t]
    by_cases hL : t = [c]
    · rw [if_pos hL, decide_eq_true hL]
      exact h2
    · rw [if_neg hL, decide_eq_false hL]
      rfl
theorem lk_semi {α : Type} (x : α) (l : List KT) : match semi x l with
  | some (y, r) => mkS [59] (true, l) = (true, r) ∧ y = x
  | none => (mkS [59] (true, l)).1 = false := by
  have h := lk_mk 59 l
  unfold semi
  cases h1 : mkP 59 l with
  | none => rw [h1] at h; exact h
  | some p => rw [h1] at h; exact ⟨h, rfl⟩
theorem lk_nu (m : Nat) (l : List KT) : match numP m l with
  | some (n, r) => nuS m (true, l) = (true, r) ∧ (numR (hdK l).2).1 = n
  | none => (nuS m (true, l)).1 = false := by
  have h := lk_rd (kd := 1) (by decide) l
  unfold numP nuS
  unfold rdS at h
  rw [exp_t] at h ⊢
  cases h1 : tk1 1 l with
  | none =>
    rw [h1] at h
    have h2 : ((hdK l).1 == 1) = false := by
      cases h3 : ((hdK l).1 == 1) with
      | false => rfl
      | true => rw [h3] at h; exact h.symm.trans rfl |>.symm
    rw [h2]
    exact nx_f (req_f _ (req_f _ rfl))
  | some p =>
    obtain ⟨t, r⟩ := p
    rw [h1] at h
    obtain ⟨h2, h3⟩ := h
    have h4 : ((hdK l).1 == 1) = true := by
      cases h5 : ((hdK l).1 == 1) with
      | true => rfl
      | false => rw [h5] at h2; cases congrArg Prod.fst h2
    rw [h4] at h2 ⊢
    rw [thn_some]
    dsimp only
    rw [h3]
    obtain ⟨N, hN⟩ : ∃ N, numR t = N := ⟨_, rfl⟩
    rw [hN, req_t]
    obtain ⟨v, b⟩ := N
    dsimp only
    cases b with
    | false =>
      rw [if_neg (by simp)]
      exact nx_f (req_f _ rfl)
    | true =>
      rw [req_t]
      by_cases hm : v ≤ m
      · rw [if_pos ⟨rfl, hm⟩, decide_eq_true hm]
        exact ⟨h2, rfl⟩
      · rw [if_neg (fun h => hm h.2), decide_eq_false hm]
        rfl
theorem lk_tx : ∀ (n : Nat) (l : List KT), (match manyP n l with
  | some (ts, r) => txS n (true, l) = (true, r) ∧ txL n (true, l) = ts ∧ ts.length = n
  | none => (txS n (true, l)).1 = false)
  | 0, l => ⟨rfl, rfl, rfl⟩
  | n + 1, l => by
    have h := lk_rd (kd := 2) (by decide) l
    show match thn (tk1 2 l) (fun t r => thn (manyP n r) fun ts r2 => some (t :: ts, r2)) with
      | some (ts, r) => txS n (rdS 2 (true, l)) = (true, r) ∧ (hdK l).2 :: txL n (rdS 2 (true, l)) = ts ∧ ts.length = n + 1
      | none => (txS n (rdS 2 (true, l))).1 = false
    cases h1 : tk1 2 l with
    | none =>
      rw [h1] at h
      exact tx_f n h
    | some p =>
      obtain ⟨t, r⟩ := p
      rw [h1] at h
      obtain ⟨h2, h3⟩ := h
      rw [h2, h3, thn_some]
      have ih := lk_tx n r
      cases h4 : manyP n r with
      | none => rw [h4] at ih; exact ih
      | some p2 =>
        obtain ⟨ts, r2⟩ := p2
        rw [h4] at ih
        obtain ⟨i1, i2, i3⟩ := ih
        exact ⟨i1, by rw [i2], by show ts.length + 1 = n + 1; rw [i3]⟩
theorem lk_co (l : List KT) : match (thn (tk1 2 l) fun t r2 => match prsM t with
    | none => none
    | some d => some (d, r2)) with
  | some (d, r) => coS (true, l) = (true, r) ∧ coD l = d
  | none => (coS (true, l)).1 = false := by
  have h := lk_rd (kd := 2) (by decide) l
  unfold coS coD
  unfold rdS at h
  rw [exp_t] at h ⊢
  cases h1 : tk1 2 l with
  | none =>
    rw [h1] at h
    have h2 : ((hdK l).1 == 2) = false := by
      cases h3 : ((hdK l).1 == 2) with
      | false => rfl
      | true => rw [h3] at h; exact h.symm.trans rfl |>.symm
    rw [h2]
    exact nx_f (req_f _ rfl)
  | some p =>
    obtain ⟨t, r⟩ := p
    rw [h1] at h
    obtain ⟨h2, h3⟩ := h
    have h4 : ((hdK l).1 == 2) = true := by
      cases h5 : ((hdK l).1 == 2) with
      | true => rfl
      | false => rw [h5] at h2; cases congrArg Prod.fst h2
    rw [h4] at h2 ⊢
    rw [thn_some]
    dsimp only
    rw [h3]
    obtain ⟨N, hN⟩ : ∃ N, prsM t = N := ⟨_, rfl⟩
    rw [hN, req_t]
    cases N with
    | none => rfl
    | some d => exact ⟨h2, rfl⟩
/-! ### What an item's method does -/
def ItP (g B0 : Nat) (t : Tab) (body : Option (Loc × Ts)) (ok : Bool) (w : World) (e : Ending) (w' : World) : Prop :=
  ∃ (er : Int) (m' : PMem) (q : Bool × List KT) (x' : Loc), e = .returned (.int .i64 er) ∧ PI g B0 m' q.1 q.2 t x' w' ∧ Below g w w' ∧ KT1 w w' ∧ (ok = false → q.1 = false) ∧ (ok = true → match body with
    | some (x2, r) => er = 0 ∧ q = (true, r) ∧ x' = x2
    | none => er = 0 → q.1 = false)
section
variable {g B0 : Nat} {m m' : PMem} {t : Tab} {x x' : Loc} {w w' : World} {ok : Bool} {ts : List KT}
theorem PI.kt_but (h : PI g B0 m ok ts t x w) (hb : But g w w') : KT1 w w' := KT1.but hb h.pl.blk (by decide)
theorem PI.bel_but (h : PI g B0 m ok ts t x w) (hb : But g w w') : Below g w w' := hb.below (Nat.le_refl _) (by have := h.pl.blk.lt; omega)
theorem PI.kt_fw (h : PI g B0 m ok ts t x w) {X : Nat → Prop} (hf : Fw X w w') (hX : ∀ i, X i → Wr1 g m i) : KT1 w w' := KT1.fw hf (fun i hi T cs hT hc => h.apart hc (by unfold KTl at hT; simp only [List.mem_cons, List.not_mem_nil, or_false] at hT; rcases hT with rfl | rfl <;> decide) (hX i hi))
theorem PI.bel_fw (h : PI g B0 m ok ts t x w) {X : Nat → Prop} (hf : Fw X w w') (hX : ∀ i, X i → Wr1 g m i) : Below g w w' := hf.below (fun i hi => (wr_lt h.p0 h.p1 h.pl.blk.lt i (hX i hi)).1) (by have := h.pl.blk.lt; omega)
/-- A store into the parser's own block that leaves tokens and lists. -/
theorem PI.put (h : PI g B0 m ok ts t x w) (hb : But g w w') (z : RawLo) (kb : Blk g 86 (pcells { m with cu := z }) w') (hz : z.ca = m.cu.ca ∧ z.oc = m.cu.oc ∧ z.li = m.cu.li ∧ z.un = m.cu.un ∧ z.da = m.cu.da)
    (hp : P1 g m.cu x (Up g (Wr1 g m)) w' → P1 g z x' (Up g (Wr1 g m)) w') (hbx : Bx x') (hsz : ok = true → SzP x') : PI g B0 { m with cu := z } ok ts t x' w' := by
  have e : Wr1 g { m with cu := z } = Wr1 g m := by
    unfold Wr1 Wr0
    rw [show ({ m with cu := z } : PMem).cu = z from rfl, hz.1, hz.2.1, hz.2.2.1, hz.2.2.2.1, hz.2.2.2.2]
  have p0 := h.p0.but hb (sameM.refl m) (.inr wr_g)
  refine ⟨⟨kb, h.pl.tk.keep (hb.block _ h.pl.b0lt h.pl.ne), h.pl.f⟩, ?_, ?_, h.bt, hbx, hsz⟩
  · rw [e]; exact ⟨p0.lo, p0.al, p0.ne⟩
  · rw [e]; exact hp (h.p1.but hb (.inr wr_g))
end
end Go.Proofs.YtpmmchppfmojhaaGreatDoor


/- Of the program's table parser: the items unit, date, list. -/
namespace Go.Proofs.YtpmmchppfmojhaaGreatDoor
open Go.RowKit
set_option linter.unusedVariables false

theorem any_mem {α β : Type} {l : List α} {f : α → β} {b : β} {q : α → Bool} [inst : Decidable (b ∈ l.map f)] (hq : ∀ y ∈ l, q y = true ↔ b = f y) : l.any q = decide (b ∈ l.map f) := by
  by_cases h : b ∈ l.map f
  · rw [decide_eq_true h]
    obtain ⟨y, hy, e⟩ := List.mem_map.1 h
    exact List.any_eq_true.2 ⟨y, hy, (hq y hy).2 e.symm⟩
  · rw [decide_eq_false h, List.any_eq_false]
    intro y hy e
    exact h (List.mem_map.2 ⟨y, hy, ((hq y hy).1 e).symm⟩)
theorem ad_zero {dup : Bool} {n mx : Nat} : adR dup n mx = 0 ↔ dup = false ∧ n < mx := by
  unfold adR
  cases dup with
  | true => simp
  | false =>
    by_cases h : mx ≤ n
    · simp [h]
    · simp [h]; omega
def body_un (x : Loc) (l : Ts) : Option (Loc × Ts) := thn (tk1 1 l) fun u r => thn (choP cls6 r) fun c r => thn (tk1 2 r) fun p r => if (u, c) ∈ x.un.map (fun y => (y.un, y.cl)) ∨ 100 ≤ x.un.length then none else semi { x with un := x.un ++ [⟨u, c, p⟩] } r
theorem spec_un (x : Loc) (l : List KT) {q0 q1 q2 q3 q4 : Bool × List KT} (h0 : q0 = (true, l)) (h1 : q1 = rdS 1 q0) (h2 : q2 = chS cls6 q1) (h3 : q3 = rdS 2 q2) (h4 : q4 = mkS [59] q3) (hmx : x.un.length ≤ 1000) {dup : Bool} (hd : dup = decide (((hdK q0.2).2, (hdK q1.2).2) ∈ x.un.map (fun (y : Uni) => (y.un, y.cl)))) :
    match body_un x l with
    | some (x2, r) => adR dup x.un.length 100 = 0 ∧ q4 = (true, r) ∧ { x with un := x.un ++ [(⟨(hdK q0.2).2, (hdK q1.2).2, (hdK q2.2).2⟩ : Uni)] } = x2
    | none => adR dup x.un.length 100 = 0 → q4.1 = false := by
  subst h0
  unfold body_un
  have k0 := lk_rd (kd := 1) (by decide) l
  cases e0 : tk1 1 l with
  | none =>
    rw [e0] at k0
    have hf : q1.1 = false := by rw [h1]; exact k0
    intro _
    exact by rw [h4]; exact mk_f _ (by rw [h3]; exact rd_f 2 (by rw [h2]; exact ch_f _ hf))
  | some p0 =>
    obtain ⟨t0, r0⟩ := p0
    rw [e0] at k0
    obtain ⟨a0, b0⟩ := k0
    have g1 : q1 = (true, r0) := by rw [h1]; exact a0
    rw [thn_some]
    subst g1
    have k1 := lk_ch cls6 r0
    cases e1 : choP cls6 r0 with
    | none =>
      rw [e1] at k1
      have hf : q2.1 = false := by rw [h2]; exact k1
      intro _
      exact by rw [h4]; exact mk_f _ (by rw [h3]; exact rd_f 2 hf)
    | some p1 =>
      obtain ⟨t1, r1⟩ := p1
      rw [e1] at k1
      obtain ⟨a1, b1, c1⟩ := k1
      have g2 : q2 = (true, r1) := by rw [h2]; exact a1
      rw [thn_some]
      subst g2
      have k2 := lk_rd (kd := 2) (by decide) r1
      cases e2 : tk1 2 r1 with
      | none =>
        rw [e2] at k2
        have hf : q3.1 = false := by rw [h3]; exact k2
        intro _
        exact by rw [h4]; exact mk_f _ hf
      | some p2 =>
        obtain ⟨t2, r2⟩ := p2
        rw [e2] at k2
        obtain ⟨a2, b2⟩ := k2
        have g3 : q3 = (true, r2) := by rw [h3]; exact a2
        rw [thn_some]
        subst g3
        have ks := lk_semi ({ x with un := x.un ++ [(⟨t0, t1, t2⟩ : Uni)] } : Loc) r2
        dsimp only at hd b0 b1 b2
        try rw [b0] at hd
        try rw [b1] at hd
        try rw [b2] at hd
        by_cases hc : (t0, t1) ∈ x.un.map (fun (y : Uni) => (y.un, y.cl)) ∨ 100 ≤ x.un.length
        · rw [if_pos hc]
          intro ha
          obtain ⟨z1, z2⟩ := ad_zero.1 ha
          rcases hc with hc | hc
          · rw [hd, decide_eq_true hc] at z1; cases z1
          · omega
        · rw [if_neg hc]
          have hz : adR dup x.un.length 100 = 0 := ad_zero.2 ⟨by rw [hd, decide_eq_false (fun h => hc (.inl h))], by have : ¬ 100 ≤ x.un.length := fun h => hc (.inr h); omega⟩
          show match semi ({ x with un := x.un ++ [(⟨t0, t1, t2⟩ : Uni)] } : Loc) r2 with
            | some (x2, r) => _ ∧ _ ∧ _
            | none => _
          cases es : semi ({ x with un := x.un ++ [(⟨t0, t1, t2⟩ : Uni)] } : Loc) r2 with
          | none =>
            rw [es] at ks
            intro _
            rw [h4]; exact ks
          | some p =>
            obtain ⟨y, r⟩ := p
            rw [es] at ks
            obtain ⟨s1, s2⟩ := ks
            refine ⟨hz, by rw [h4]; exact s1, ?_⟩
            rw [s2]
            dsimp only
            rw [b0, b1, b2]
set_option maxRecDepth 1000000 in
set_option maxHeartbeats 8000000 in
theorem unit_z (g B0 : Nat) (m : PMem) (ok : Bool) (ts : List KT) (t : Tab) (x : Loc) (w : World) (h : PI g B0 m ok ts t x w) :
    Calls Tryz.prog 261 #[.pointer (some ⟨g, 0, none⟩)] w (ItP g B0 t (body_un x ts) ok w) := by
  have P0 := Lib.hid h
  obtain ⟨q0, hq0⟩ : ∃ q0 : Bool × List KT, (ok, ts) = q0 := ⟨_, rfl⟩
  have HQ0 := Lib.hid hq0
  have hP : PI g B0 m q0.1 q0.2 t x w := by rw [← hq0]; exact h
  have P0 := Lib.hid hP
  clear h hq0 hP
  go_enter Tryz.func261, Tryz.ntmps261
  go_wp2_with fail
  refine (word_z g B0 m q0.1 q0.2 _ P0.out.pl).mono ?_
  rintro e w1 ⟨rfl, hq⟩
  obtain ⟨q1, hq1⟩ : ∃ q : Bool × List KT, q = rdS 1 q0 := ⟨_, rfl⟩
  have HQ1 := Lib.hid hq1
  obtain ⟨m1, hs1, hp1, hb1⟩ := P0.out.read (q := q1) (by rw [hq1]; exact hq) (fun h => t_of (fun h => rd_f 1 h) (by rw [← hq1]; exact h))
  have P1 := Lib.hid hp1
  have B1 := Lib.hid (hb1)
  obtain ⟨tx0, htx0⟩ : ∃ tx, (hdK q0.2).2 = tx := ⟨_, rfl⟩
  have HT0 := Lib.hid htx0
  rw [htx0]
  clear hq hq1 hs1 hp1 hb1 htx0
  go_wp2_with fail
  refine (choice_z g B0 m1 q1.1 q1.2 147 (enters_of Tryz.func147 (by kernel_rfl) rfl) cls6 (fun W t => isClass_any t W) _ P1.out.pl).mono ?_
  rintro e w2 ⟨rfl, hq⟩
  obtain ⟨q2, hq2⟩ : ∃ q : Bool × List KT, q = chS cls6 q1 := ⟨_, rfl⟩
  have HQ2 := Lib.hid hq2
  obtain ⟨m2, hs2, hp2, hb2⟩ := P1.out.read (q := q2) (by rw [hq2]; exact hq) (fun h => t_of (fun h => ch_f _ h) (by rw [← hq2]; exact h))
  have P2 := Lib.hid hp2
  have B2 := Lib.hid (B1.out.trans hb2)
  obtain ⟨tx1, htx1⟩ : ∃ tx, (hdK q1.2).2 = tx := ⟨_, rfl⟩
  have HT1 := Lib.hid htx1
  rw [htx1]
  clear hq hq2 hs2 hp2 hb2 htx1
  go_wp2_with fail
  refine (text_z g B0 m2 q2.1 q2.2 _ P2.out.pl).mono ?_
  rintro e w3 ⟨rfl, hq⟩
  obtain ⟨q3, hq3⟩ : ∃ q : Bool × List KT, q = rdS 2 q2 := ⟨_, rfl⟩
  have HQ3 := Lib.hid hq3
  obtain ⟨m3, hs3, hp3, hb3⟩ := P2.out.read (q := q3) (by rw [hq3]; exact hq) (fun h => t_of (fun h => rd_f 2 h) (by rw [← hq3]; exact h))
  have P3 := Lib.hid hp3
  have B3 := Lib.hid (B2.out.trans hb3)
  obtain ⟨tx2, htx2⟩ : ∃ tx, (hdK q2.2).2 = tx := ⟨_, rfl⟩
  have HT2 := Lib.hid htx2
  rw [htx2]
  clear hq hq3 hs3 hp3 hb3 htx2
  have PA := Lib.hid (P3.out.below ((Below.refl _ _).alloc (Nat.le_refl _) (.cells #[.string (ofL tx0), .string (ofL tx1), .string (ofL tx2)] 120)))
  have KA := Lib.hid (Blk.new w3 120 #[.string (ofL tx0), .string (ofL tx1), .string (ofL tx2)])
  have BA := Lib.hid (B3.out.alloc (.cells #[.string (ofL tx0), .string (ofL tx1), .string (ofL tx2)] 120))
  go_wp2_with fail
  refine (mark_z g B0 m3 q3.1 q3.2 ⟨#[59]⟩ _ PA.out.pl).mono ?_
  rw [show (ByteArray.mk #[59]).data.toList = [59] from rfl]
  rintro e w4 ⟨rfl, hq⟩
  obtain ⟨q4, hq4⟩ : ∃ q : Bool × List KT, q = mkS [59] q3 := ⟨_, rfl⟩
  have HQ4 := Lib.hid hq4
  obtain ⟨m4, hs4, hp4, hb4⟩ := PA.out.read (q := q4) (by rw [hq4]; exact hq) (fun h => t_of (fun h => mk_f _ h) (by rw [← hq4]; exact h))
  have PM := Lib.hid hp4
  have BM := Lib.hid (BA.out.trans hb4)
  have hgA : w3.heap.size ≠ g := by have := P3.out.pl.blk.lt; omega
  have KM := Lib.hid (KA.out.but hb4 hgA)
  clear hq hq4 hs4 hp4 hb4 hgA

  have c0 : w4.cell? ⟨w3.heap.size, 0, none⟩ = some (.string (ofL tx0)) := KM.out.cell 0
  have c1 : w4.cell? ⟨w3.heap.size, 1, none⟩ = some (.string (ofL tx1)) := KM.out.cell 1
  have c2 : w4.cell? ⟨w3.heap.size, 2, none⟩ = some (.string (ofL tx2)) := KM.out.cell 2
  have hl1 := PM.out.bx.un
  have HAD := Lib.hid (fun wx hw => addUn_any g 16 86 (by decide) (pcells m4) (.slice m4.cu.un.a m4.cu.un.n m4.cu.un.c) x.un (⟨tx0, tx1, tx2⟩ : Uni) 100 (qUn (⟨tx0, tx1, tx2⟩ : Uni)) 87 (enters_of Tryz.func87 (by kernel_rfl) rfl) wx (Blk.below PM.out.pl.blk hw) rfl (Own1.below PM.out.p1.un hw) (by omega) (fun W1 y _ => alikeUn_any _ y W1))
  clear hl1
  go_wp2_with fail
  refine region_stail 5 (by kernel_rfl) (by decide +kernel) ?_
  simp only [List.take_succ_cons, List.take_zero, List.drop_succ_cons, List.drop_zero]
  iterate 5 still_step
  refine wpStill_nil ?_
  go_wp2_with fail
  refine (HAD.out _ (below_drewN (Below.refl _ _) 1)).mono ?_
  rintro e wz ⟨er, rfl, hz⟩
  have HZ := Lib.hid hz
  clear hz c0 c1 c2
  go_wp2
  go_ret
  have PD := PM.out.below (below_drewN (Below.refl _ w4) 1)
  have bw : But g w (w4.drewN 1) := BM.out.drewN 1
  have hf0 : ok = false → q4.1 = false := fun e => by
    have f0 : q0.1 = false := by rw [← HQ0.out]; exact e
    have f1 : q1.1 = false := by rw [HQ1.out]; exact rd_f 1 f0
    have f2 : q2.1 = false := by rw [HQ2.out]; exact ch_f _ f1
    have f3 : q3.1 = false := by rw [HQ3.out]; exact rd_f 2 f2
    rw [HQ4.out]; exact mk_f _ f3
  have hdup : x.un.any (qUn (⟨tx0, tx1, tx2⟩ : Uni)) = decide (((hdK q0.2).2, (hdK q1.2).2) ∈ x.un.map (fun (y : Uni) => (y.un, y.cl))) := by
    rw [HT0.out, HT1.out]
    exact any_mem (f := (fun (y : Uni) => (y.un, y.cl))) (b := (tx0, tx1)) (fun y _ => by show (decide (_ = y.un) && decide (_ = y.cl)) = true ↔ _; simp)
  have hsp := fun e : ok = true => spec_un x ts (q0 := q0) (by rw [← HQ0.out, e]) HQ1.out HQ2.out HQ3.out HQ4.out (by have := PM.out.bx.un; omega) hdup
  rw [HT0.out, HT1.out, HT2.out] at hsp
  rcases HZ.out with ⟨h1, h2, h3⟩ | ⟨h1, h2, a, c, h3, h4, h5, h6⟩
  · refine ⟨er, _, q4, x, rfl, PD.below h3, (P0.out.bel_but bw).trans (h3.mono (by have := PD.pl.blk.lt; omega)), (P0.out.kt_but bw).trans (KT1.below h3), hf0, fun e => ?_⟩
    have := hsp e
    revert this
    cases body_un x ts with
    | some p => intro ⟨z, _⟩; exact absurd (h1.trans z) h2
    | none => intro _ hz; exact absurd hz h2
  · have hlen := (ad_zero.1 h2).2
    refine ⟨er, _, q4, _, rfl, PD.add_un (⟨tx0, tx1, tx2⟩ : Uni) hlen h3 h4 h5 h6, (P0.out.bel_but bw).trans (PD.bel_fw h6 (fun i hi => hi.elim (fun e => e ▸ wr_g) (fun e => .inr (.inr (.inr (.inr (.inl e))))))), (P0.out.kt_but bw).trans (PD.kt_fw h6 (fun i hi => hi.elim (fun e => e ▸ wr_g) (fun e => .inr (.inr (.inr (.inr (.inl e))))))), hf0, fun e => ?_⟩
    have := hsp e
    revert this
    cases body_un x ts with
    | some p => intro ⟨_, z1, z2⟩; exact ⟨h1, z1, z2⟩
    | none => intro z _; exact z h2
def body_da (x : Loc) (l : Ts) : Option (Loc × Ts) := thn (tk1 1 l) fun s r => thn (tk1 2 r) fun p r => if s ∈ x.da.map Prod.fst ∨ 30 ≤ x.da.length then none else semi { x with da := x.da ++ [(s, p)] } r
theorem spec_da (x : Loc) (l : List KT) {q0 q1 q2 q3 : Bool × List KT} (h0 : q0 = (true, l)) (h1 : q1 = rdS 1 q0) (h2 : q2 = rdS 2 q1) (h3 : q3 = mkS [59] q2) (hmx : x.da.length ≤ 1000) {dup : Bool} (hd : dup = decide ((hdK q0.2).2 ∈ x.da.map Prod.fst)) :
    match body_da x l with
    | some (x2, r) => adR dup x.da.length 30 = 0 ∧ q3 = (true, r) ∧ { x with da := x.da ++ [((hdK q0.2).2, (hdK q1.2).2)] } = x2
    | none => adR dup x.da.length 30 = 0 → q3.1 = false := by
  subst h0
  unfold body_da
  have k0 := lk_rd (kd := 1) (by decide) l
  cases e0 : tk1 1 l with
  | none =>
    rw [e0] at k0
    have hf : q1.1 = false := by rw [h1]; exact k0
    intro _
    exact by rw [h3]; exact mk_f _ (by rw [h2]; exact rd_f 2 hf)
  | some p0 =>
    obtain ⟨t0, r0⟩ := p0
    rw [e0] at k0
    obtain ⟨a0, b0⟩ := k0
    have g1 : q1 = (true, r0) := by rw [h1]; exact a0
    rw [thn_some]
    subst g1
    have k1 := lk_rd (kd := 2) (by decide) r0
    cases e1 : tk1 2 r0 with
    | none =>
      rw [e1] at k1
      have hf : q2.1 = false := by rw [h2]; exact k1
      intro _
      exact by rw [h3]; exact mk_f _ hf
    | some p1 =>
      obtain ⟨t1, r1⟩ := p1
      rw [e1] at k1
      obtain ⟨a1, b1⟩ := k1
      have g2 : q2 = (true, r1) := by rw [h2]; exact a1
      rw [thn_some]
      subst g2
      have ks := lk_semi ({ x with da := x.da ++ [(t0, t1)] } : Loc) r1
      dsimp only at hd b0 b1
      try rw [b0] at hd
      try rw [b1] at hd
      by_cases hc : t0 ∈ x.da.map Prod.fst ∨ 30 ≤ x.da.length
      · rw [if_pos hc]
        intro ha
        obtain ⟨z1, z2⟩ := ad_zero.1 ha
        rcases hc with hc | hc
        · rw [hd, decide_eq_true hc] at z1; cases z1
        · omega
      · rw [if_neg hc]
        have hz : adR dup x.da.length 30 = 0 := ad_zero.2 ⟨by rw [hd, decide_eq_false (fun h => hc (.inl h))], by have : ¬ 30 ≤ x.da.length := fun h => hc (.inr h); omega⟩
        show match semi ({ x with da := x.da ++ [(t0, t1)] } : Loc) r1 with
          | some (x2, r) => _ ∧ _ ∧ _
          | none => _
        cases es : semi ({ x with da := x.da ++ [(t0, t1)] } : Loc) r1 with
        | none =>
          rw [es] at ks
          intro _
          rw [h3]; exact ks
        | some p =>
          obtain ⟨y, r⟩ := p
          rw [es] at ks
          obtain ⟨s1, s2⟩ := ks
          refine ⟨hz, by rw [h3]; exact s1, ?_⟩
          rw [s2]
          dsimp only
          rw [b0, b1]
set_option maxRecDepth 1000000 in
set_option maxHeartbeats 8000000 in
theorem date_z (g B0 : Nat) (m : PMem) (ok : Bool) (ts : List KT) (t : Tab) (x : Loc) (w : World) (h : PI g B0 m ok ts t x w) :
    Calls Tryz.prog 262 #[.pointer (some ⟨g, 0, none⟩)] w (ItP g B0 t (body_da x ts) ok w) := by
  have P0 := Lib.hid h
  obtain ⟨q0, hq0⟩ : ∃ q0 : Bool × List KT, (ok, ts) = q0 := ⟨_, rfl⟩
  have HQ0 := Lib.hid hq0
  have hP : PI g B0 m q0.1 q0.2 t x w := by rw [← hq0]; exact h
  have P0 := Lib.hid hP
  clear h hq0 hP
  go_enter Tryz.func262, Tryz.ntmps262
  go_wp2_with fail
  refine (word_z g B0 m q0.1 q0.2 _ P0.out.pl).mono ?_
  rintro e w1 ⟨rfl, hq⟩
  obtain ⟨q1, hq1⟩ : ∃ q : Bool × List KT, q = rdS 1 q0 := ⟨_, rfl⟩
  have HQ1 := Lib.hid hq1
  obtain ⟨m1, hs1, hp1, hb1⟩ := P0.out.read (q := q1) (by rw [hq1]; exact hq) (fun h => t_of (fun h => rd_f 1 h) (by rw [← hq1]; exact h))
  have P1 := Lib.hid hp1
  have B1 := Lib.hid (hb1)
  obtain ⟨tx0, htx0⟩ : ∃ tx, (hdK q0.2).2 = tx := ⟨_, rfl⟩
  have HT0 := Lib.hid htx0
  rw [htx0]
  clear hq hq1 hs1 hp1 hb1 htx0
  go_wp2_with fail
  refine (text_z g B0 m1 q1.1 q1.2 _ P1.out.pl).mono ?_
  rintro e w2 ⟨rfl, hq⟩
  obtain ⟨q2, hq2⟩ : ∃ q : Bool × List KT, q = rdS 2 q1 := ⟨_, rfl⟩
  have HQ2 := Lib.hid hq2
  obtain ⟨m2, hs2, hp2, hb2⟩ := P1.out.read (q := q2) (by rw [hq2]; exact hq) (fun h => t_of (fun h => rd_f 2 h) (by rw [← hq2]; exact h))
  have P2 := Lib.hid hp2
  have B2 := Lib.hid (B1.out.trans hb2)
  obtain ⟨tx1, htx1⟩ : ∃ tx, (hdK q1.2).2 = tx := ⟨_, rfl⟩
  have HT1 := Lib.hid htx1
  rw [htx1]
  clear hq hq2 hs2 hp2 hb2 htx1
  have PA := Lib.hid (P2.out.below ((Below.refl _ _).alloc (Nat.le_refl _) (.cells #[.string (ofL tx0), .string (ofL tx1)] 124)))
  have KA := Lib.hid (Blk.new w2 124 #[.string (ofL tx0), .string (ofL tx1)])
  have BA := Lib.hid (B2.out.alloc (.cells #[.string (ofL tx0), .string (ofL tx1)] 124))
  go_wp2_with fail
  refine (mark_z g B0 m2 q2.1 q2.2 ⟨#[59]⟩ _ PA.out.pl).mono ?_
  rw [show (ByteArray.mk #[59]).data.toList = [59] from rfl]
  rintro e w3 ⟨rfl, hq⟩
  obtain ⟨q3, hq3⟩ : ∃ q : Bool × List KT, q = mkS [59] q2 := ⟨_, rfl⟩
  have HQ3 := Lib.hid hq3
  obtain ⟨m3, hs3, hp3, hb3⟩ := PA.out.read (q := q3) (by rw [hq3]; exact hq) (fun h => t_of (fun h => mk_f _ h) (by rw [← hq3]; exact h))
  have PM := Lib.hid hp3
  have BM := Lib.hid (BA.out.trans hb3)
  have hgA : w2.heap.size ≠ g := by have := P2.out.pl.blk.lt; omega
  have KM := Lib.hid (KA.out.but hb3 hgA)
  clear hq hq3 hs3 hp3 hb3 hgA

  have c0 : w3.cell? ⟨w2.heap.size, 0, none⟩ = some (.string (ofL tx0)) := KM.out.cell 0
  have c1 : w3.cell? ⟨w2.heap.size, 1, none⟩ = some (.string (ofL tx1)) := KM.out.cell 1
  have hl1 := PM.out.bx.da
  have HAD := Lib.hid (fun wx hw => addDa_any g 17 86 (by decide) (pcells m3) (.slice m3.cu.da.a m3.cu.da.n m3.cu.da.c) x.da (tx0, tx1) 30 (qDa (tx0, tx1)) 90 (enters_of Tryz.func90 (by kernel_rfl) rfl) wx (Blk.below PM.out.pl.blk hw) rfl (Own1.below PM.out.p1.da hw) (by omega) (fun W1 y _ => alikeDa_any _ y W1))
  clear hl1
  go_wp2_with fail
  refine region_stail 5 (by kernel_rfl) (by decide +kernel) ?_
  simp only [List.take_succ_cons, List.take_zero, List.drop_succ_cons, List.drop_zero]
  iterate 5 still_step
  refine wpStill_nil ?_
  go_wp2_with fail
  refine (HAD.out _ (below_drewN (Below.refl _ _) 1)).mono ?_
  rintro e wz ⟨er, rfl, hz⟩
  have HZ := Lib.hid hz
  clear hz c0 c1
  go_wp2
  go_ret
  have PD := PM.out.below (below_drewN (Below.refl _ w3) 1)
  have bw : But g w (w3.drewN 1) := BM.out.drewN 1
  have hf0 : ok = false → q3.1 = false := fun e => by
    have f0 : q0.1 = false := by rw [← HQ0.out]; exact e
    have f1 : q1.1 = false := by rw [HQ1.out]; exact rd_f 1 f0
    have f2 : q2.1 = false := by rw [HQ2.out]; exact rd_f 2 f1
    rw [HQ3.out]; exact mk_f _ f2
  have hdup : x.da.any (qDa (tx0, tx1)) = decide ((hdK q0.2).2 ∈ x.da.map Prod.fst) := by
    rw [HT0.out]
    exact any_mem (f := Prod.fst) (b := tx0) (fun y _ => decide_eq_true_iff)
  have hsp := fun e : ok = true => spec_da x ts (q0 := q0) (by rw [← HQ0.out, e]) HQ1.out HQ2.out HQ3.out (by have := PM.out.bx.da; omega) hdup
  rw [HT0.out, HT1.out] at hsp
  rcases HZ.out with ⟨h1, h2, h3⟩ | ⟨h1, h2, a, c, h3, h4, h5, h6⟩
  · refine ⟨er, _, q3, x, rfl, PD.below h3, (P0.out.bel_but bw).trans (h3.mono (by have := PD.pl.blk.lt; omega)), (P0.out.kt_but bw).trans (KT1.below h3), hf0, fun e => ?_⟩
    have := hsp e
    revert this
    cases body_da x ts with
    | some p => intro ⟨z, _⟩; exact absurd (h1.trans z) h2
    | none => intro _ hz; exact absurd hz h2
  · have hlen := (ad_zero.1 h2).2
    refine ⟨er, _, q3, _, rfl, PD.add_da (tx0, tx1) hlen h3 h4 h5 h6, (P0.out.bel_but bw).trans (PD.bel_fw h6 (fun i hi => hi.elim (fun e => e ▸ wr_g) (fun e => .inr (.inr (.inr (.inr (.inr e))))))), (P0.out.kt_but bw).trans (PD.kt_fw h6 (fun i hi => hi.elim (fun e => e ▸ wr_g) (fun e => .inr (.inr (.inr (.inr (.inr e))))))), hf0, fun e => ?_⟩
    have := hsp e
    revert this
    cases body_da x ts with
    | some p => intro ⟨_, z1, z2⟩; exact ⟨h1, z1, z2⟩
    | none => intro z _; exact z h2
def body_li (x : Loc) (l : Ts) : Option (Loc × Ts) := thn (tk1 1 l) fun s r => thn (manyP 4 r) fun ts r => if s ∈ x.li.map Lis.st ∨ 10 ≤ x.li.length then none else semi { x with li := x.li ++ [⟨s, ts.getD 0 [], ts.getD 1 [], ts.getD 2 [], ts.getD 3 []⟩] } r
theorem spec_li (x : Loc) (l : List KT) {q0 q1 q2 q3 q4 q5 q6 : Bool × List KT} (h0 : q0 = (true, l)) (h1 : q1 = rdS 1 q0) (h2 : q2 = rdS 2 q1) (h3 : q3 = rdS 2 q2) (h4 : q4 = rdS 2 q3) (h5 : q5 = rdS 2 q4) (h6 : q6 = mkS [59] q5) (hmx : x.li.length ≤ 1000) {dup : Bool} (hd : dup = decide ((hdK q0.2).2 ∈ x.li.map Lis.st)) :
    match body_li x l with
    | some (x2, r) => adR dup x.li.length 10 = 0 ∧ q6 = (true, r) ∧ { x with li := x.li ++ [(⟨(hdK q0.2).2, (hdK q1.2).2, (hdK q2.2).2, (hdK q3.2).2, (hdK q4.2).2⟩ : Lis)] } = x2
    | none => adR dup x.li.length 10 = 0 → q6.1 = false := by
  subst h0
  unfold body_li
  have k0 := lk_rd (kd := 1) (by decide) l
  cases e0 : tk1 1 l with
  | none =>
    rw [e0] at k0
    have hf : q1.1 = false := by rw [h1]; exact k0
    intro _
    exact by rw [h6]; exact mk_f _ (by rw [h5]; exact rd_f 2 (by rw [h4]; exact rd_f 2 (by rw [h3]; exact rd_f 2 (by rw [h2]; exact rd_f 2 hf))))
  | some p0 =>
    obtain ⟨t0, r0⟩ := p0
    rw [e0] at k0
    obtain ⟨a0, b0⟩ := k0
    have g1 : q1 = (true, r0) := by rw [h1]; exact a0
    rw [thn_some]
    subst g1
    have k1 := lk_tx 4 r0
    have e5 : q5 = txS 4 (true, r0) := by rw [h5, h4, h3, h2]; rfl
    have e6 : txL 4 (true, r0) = [(hdK r0).2, (hdK q2.2).2, (hdK q3.2).2, (hdK q4.2).2] := by rw [h4, h3, h2]; rfl
    cases e1 : manyP 4 r0 with
    | none =>
      rw [e1] at k1
      intro _
      rw [h6]
      exact mk_f _ (by rw [e5]; exact k1)
    | some p1 =>
      obtain ⟨tl, r1⟩ := p1
      rw [e1] at k1
      obtain ⟨a1, b1, c1⟩ := k1
      have g5 : q5 = (true, r1) := e5.trans a1
      rw [thn_some]
      rw [e6] at b1
      subst b1
      subst g5
      have ks := lk_semi ({ x with li := x.li ++ [(⟨t0, (hdK r0).2, (hdK q2.2).2, (hdK q3.2).2, (hdK q4.2).2⟩ : Lis)] } : Loc) r1
      dsimp only at hd b0
      try rw [b0] at hd
      by_cases hc : t0 ∈ x.li.map Lis.st ∨ 10 ≤ x.li.length
      · rw [if_pos hc]
        intro ha
        obtain ⟨z1, z2⟩ := ad_zero.1 ha
        rcases hc with hc | hc
        · rw [hd, decide_eq_true hc] at z1; cases z1
        · omega
      · rw [if_neg hc]
        have hz : adR dup x.li.length 10 = 0 := ad_zero.2 ⟨by rw [hd, decide_eq_false (fun h => hc (.inl h))], by have : ¬ 10 ≤ x.li.length := fun h => hc (.inr h); omega⟩
        show match semi ({ x with li := x.li ++ [(⟨t0, (hdK r0).2, (hdK q2.2).2, (hdK q3.2).2, (hdK q4.2).2⟩ : Lis)] } : Loc) r1 with
          | some (x2, r) => _ ∧ _ ∧ _
          | none => _
        cases es : semi ({ x with li := x.li ++ [(⟨t0, (hdK r0).2, (hdK q2.2).2, (hdK q3.2).2, (hdK q4.2).2⟩ : Lis)] } : Loc) r1 with
        | none =>
          rw [es] at ks
          intro _
          rw [h6]; exact ks
        | some p =>
          obtain ⟨y, r⟩ := p
          rw [es] at ks
          obtain ⟨s1, s2⟩ := ks
          refine ⟨hz, by rw [h6]; exact s1, ?_⟩
          rw [s2]
          dsimp only
          rw [b0]
set_option maxRecDepth 1000000 in
set_option maxHeartbeats 8000000 in
theorem list_z (g B0 : Nat) (m : PMem) (ok : Bool) (ts : List KT) (t : Tab) (x : Loc) (w : World) (h : PI g B0 m ok ts t x w) :
    Calls Tryz.prog 260 #[.pointer (some ⟨g, 0, none⟩)] w (ItP g B0 t (body_li x ts) ok w) := by
  have P0 := Lib.hid h
  obtain ⟨q0, hq0⟩ : ∃ q0 : Bool × List KT, (ok, ts) = q0 := ⟨_, rfl⟩
  have HQ0 := Lib.hid hq0
  have hP : PI g B0 m q0.1 q0.2 t x w := by rw [← hq0]; exact h
  have P0 := Lib.hid hP
  clear h hq0 hP
  go_enter Tryz.func260, Tryz.ntmps260
  go_wp2_with fail
  refine (word_z g B0 m q0.1 q0.2 _ P0.out.pl).mono ?_
  rintro e w1 ⟨rfl, hq⟩
  obtain ⟨q1, hq1⟩ : ∃ q : Bool × List KT, q = rdS 1 q0 := ⟨_, rfl⟩
  have HQ1 := Lib.hid hq1
  obtain ⟨m1, hs1, hp1, hb1⟩ := P0.out.read (q := q1) (by rw [hq1]; exact hq) (fun h => t_of (fun h => rd_f 1 h) (by rw [← hq1]; exact h))
  have P1 := Lib.hid hp1
  have B1 := Lib.hid (hb1)
  obtain ⟨tx0, htx0⟩ : ∃ tx, (hdK q0.2).2 = tx := ⟨_, rfl⟩
  have HT0 := Lib.hid htx0
  rw [htx0]
  clear hq hq1 hs1 hp1 hb1 htx0
  go_wp2_with fail
  refine (text_z g B0 m1 q1.1 q1.2 _ P1.out.pl).mono ?_
  rintro e w2 ⟨rfl, hq⟩
  obtain ⟨q2, hq2⟩ : ∃ q : Bool × List KT, q = rdS 2 q1 := ⟨_, rfl⟩
  have HQ2 := Lib.hid hq2
  obtain ⟨m2, hs2, hp2, hb2⟩ := P1.out.read (q := q2) (by rw [hq2]; exact hq) (fun h => t_of (fun h => rd_f 2 h) (by rw [← hq2]; exact h))
  have P2 := Lib.hid hp2
  have B2 := Lib.hid (B1.out.trans hb2)
  obtain ⟨tx1, htx1⟩ : ∃ tx, (hdK q1.2).2 = tx := ⟨_, rfl⟩
  have HT1 := Lib.hid htx1
  rw [htx1]
  clear hq hq2 hs2 hp2 hb2 htx1
  go_wp2_with fail
  refine (text_z g B0 m2 q2.1 q2.2 _ P2.out.pl).mono ?_
  rintro e w3 ⟨rfl, hq⟩
  obtain ⟨q3, hq3⟩ : ∃ q : Bool × List KT, q = rdS 2 q2 := ⟨_, rfl⟩
  have HQ3 := Lib.hid hq3
  obtain ⟨m3, hs3, hp3, hb3⟩ := P2.out.read (q := q3) (by rw [hq3]; exact hq) (fun h => t_of (fun h => rd_f 2 h) (by rw [← hq3]; exact h))
  have P3 := Lib.hid hp3
  have B3 := Lib.hid (B2.out.trans hb3)
  obtain ⟨tx2, htx2⟩ : ∃ tx, (hdK q2.2).2 = tx := ⟨_, rfl⟩
  have HT2 := Lib.hid htx2
  rw [htx2]
  clear hq hq3 hs3 hp3 hb3 htx2
  go_wp2_with fail
  refine (text_z g B0 m3 q3.1 q3.2 _ P3.out.pl).mono ?_
  rintro e w4 ⟨rfl, hq⟩
  obtain ⟨q4, hq4⟩ : ∃ q : Bool × List KT, q = rdS 2 q3 := ⟨_, rfl⟩
  have HQ4 := Lib.hid hq4
  obtain ⟨m4, hs4, hp4, hb4⟩ := P3.out.read (q := q4) (by rw [hq4]; exact hq) (fun h => t_of (fun h => rd_f 2 h) (by rw [← hq4]; exact h))
  have P4 := Lib.hid hp4
  have B4 := Lib.hid (B3.out.trans hb4)
  obtain ⟨tx3, htx3⟩ : ∃ tx, (hdK q3.2).2 = tx := ⟨_, rfl⟩
  have HT3 := Lib.hid htx3
  rw [htx3]
  clear hq hq4 hs4 hp4 hb4 htx3
  go_wp2_with fail
  refine (text_z g B0 m4 q4.1 q4.2 _ P4.out.pl).mono ?_
  rintro e w5 ⟨rfl, hq⟩
  obtain ⟨q5, hq5⟩ : ∃ q : Bool × List KT, q = rdS 2 q4 := ⟨_, rfl⟩
  have HQ5 := Lib.hid hq5
  obtain ⟨m5, hs5, hp5, hb5⟩ := P4.out.read (q := q5) (by rw [hq5]; exact hq) (fun h => t_of (fun h => rd_f 2 h) (by rw [← hq5]; exact h))
  have P5 := Lib.hid hp5
  have B5 := Lib.hid (B4.out.trans hb5)
  obtain ⟨tx4, htx4⟩ : ∃ tx, (hdK q4.2).2 = tx := ⟨_, rfl⟩
  have HT4 := Lib.hid htx4
  rw [htx4]
  clear hq hq5 hs5 hp5 hb5 htx4
  have PA := Lib.hid (P5.out.below ((Below.refl _ _).alloc (Nat.le_refl _) (.cells #[.string (ofL tx0), .string (ofL tx1), .string (ofL tx2), .string (ofL tx3), .string (ofL tx4)] 116)))
  have KA := Lib.hid (Blk.new w5 116 #[.string (ofL tx0), .string (ofL tx1), .string (ofL tx2), .string (ofL tx3), .string (ofL tx4)])
  have BA := Lib.hid (B5.out.alloc (.cells #[.string (ofL tx0), .string (ofL tx1), .string (ofL tx2), .string (ofL tx3), .string (ofL tx4)] 116))
  go_wp2_with fail
  refine (mark_z g B0 m5 q5.1 q5.2 ⟨#[59]⟩ _ PA.out.pl).mono ?_
  rw [show (ByteArray.mk #[59]).data.toList = [59] from rfl]
  rintro e w6 ⟨rfl, hq⟩
  obtain ⟨q6, hq6⟩ : ∃ q : Bool × List KT, q = mkS [59] q5 := ⟨_, rfl⟩
  have HQ6 := Lib.hid hq6
  obtain ⟨m6, hs6, hp6, hb6⟩ := PA.out.read (q := q6) (by rw [hq6]; exact hq) (fun h => t_of (fun h => mk_f _ h) (by rw [← hq6]; exact h))
  have PM := Lib.hid hp6
  have BM := Lib.hid (BA.out.trans hb6)
  have hgA : w5.heap.size ≠ g := by have := P5.out.pl.blk.lt; omega
  have KM := Lib.hid (KA.out.but hb6 hgA)
  clear hq hq6 hs6 hp6 hb6 hgA

  have c0 : w6.cell? ⟨w5.heap.size, 0, none⟩ = some (.string (ofL tx0)) := KM.out.cell 0
  have c1 : w6.cell? ⟨w5.heap.size, 1, none⟩ = some (.string (ofL tx1)) := KM.out.cell 1
  have c2 : w6.cell? ⟨w5.heap.size, 2, none⟩ = some (.string (ofL tx2)) := KM.out.cell 2
  have c3 : w6.cell? ⟨w5.heap.size, 3, none⟩ = some (.string (ofL tx3)) := KM.out.cell 3
  have c4 : w6.cell? ⟨w5.heap.size, 4, none⟩ = some (.string (ofL tx4)) := KM.out.cell 4
  have hl1 := PM.out.bx.li
  have HAD := Lib.hid (fun wx hw => addLi_any g 15 86 (by decide) (pcells m6) (.slice m6.cu.li.a m6.cu.li.n m6.cu.li.c) x.li (⟨tx0, tx1, tx2, tx3, tx4⟩ : Lis) 10 (qLi (⟨tx0, tx1, tx2, tx3, tx4⟩ : Lis)) 84 (enters_of Tryz.func84 (by kernel_rfl) rfl) wx (Blk.below PM.out.pl.blk hw) rfl (Own1.below PM.out.p1.li hw) (by omega) (fun W1 y _ => alikeLi_any _ y W1))
  clear hl1
  go_wp2_with fail
  refine region_stail 5 (by kernel_rfl) (by decide +kernel) ?_
  simp only [List.take_succ_cons, List.take_zero, List.drop_succ_cons, List.drop_zero]
  iterate 5 still_step
  refine wpStill_nil ?_
  go_wp2_with fail
  refine (HAD.out _ (below_drewN (Below.refl _ _) 1)).mono ?_
  rintro e wz ⟨er, rfl, hz⟩
  have HZ := Lib.hid hz
  clear hz c0 c1 c2 c3 c4
  go_wp2
  go_ret
  have PD := PM.out.below (below_drewN (Below.refl _ w6) 1)
  have bw : But g w (w6.drewN 1) := BM.out.drewN 1
  have hf0 : ok = false → q6.1 = false := fun e => by
    have f0 : q0.1 = false := by rw [← HQ0.out]; exact e
    have f1 : q1.1 = false := by rw [HQ1.out]; exact rd_f 1 f0
    have f2 : q2.1 = false := by rw [HQ2.out]; exact rd_f 2 f1
    have f3 : q3.1 = false := by rw [HQ3.out]; exact rd_f 2 f2
    have f4 : q4.1 = false := by rw [HQ4.out]; exact rd_f 2 f3
    have f5 : q5.1 = false := by rw [HQ5.out]; exact rd_f 2 f4
    rw [HQ6.out]; exact mk_f _ f5
  have hdup : x.li.any (qLi (⟨tx0, tx1, tx2, tx3, tx4⟩ : Lis)) = decide ((hdK q0.2).2 ∈ x.li.map Lis.st) := by
    rw [HT0.out]
    exact any_mem (f := Lis.st) (b := tx0) (fun y _ => decide_eq_true_iff)
  have hsp := fun e : ok = true => spec_li x ts (q0 := q0) (by rw [← HQ0.out, e]) HQ1.out HQ2.out HQ3.out HQ4.out HQ5.out HQ6.out (by have := PM.out.bx.li; omega) hdup
  rw [HT0.out, HT1.out, HT2.out, HT3.out, HT4.out] at hsp
  rcases HZ.out with ⟨h1, h2, h3⟩ | ⟨h1, h2, a, c, h3, h4, h5, h6⟩
  · refine ⟨er, _, q6, x, rfl, PD.below h3, (P0.out.bel_but bw).trans (h3.mono (by have := PD.pl.blk.lt; omega)), (P0.out.kt_but bw).trans (KT1.below h3), hf0, fun e => ?_⟩
    have := hsp e
    revert this
    cases body_li x ts with
    | some p => intro ⟨z, _⟩; exact absurd (h1.trans z) h2
    | none => intro _ hz; exact absurd hz h2
  · have hlen := (ad_zero.1 h2).2
    refine ⟨er, _, q6, _, rfl, PD.add_li (⟨tx0, tx1, tx2, tx3, tx4⟩ : Lis) hlen h3 h4 h5 h6, (P0.out.bel_but bw).trans (PD.bel_fw h6 (fun i hi => hi.elim (fun e => e ▸ wr_g) (fun e => .inr (.inr (.inr (.inl e)))))), (P0.out.kt_but bw).trans (PD.kt_fw h6 (fun i hi => hi.elim (fun e => e ▸ wr_g) (fun e => .inr (.inr (.inr (.inl e)))))), hf0, fun e => ?_⟩
    have := hsp e
    revert this
    cases body_li x ts with
    | some p => intro ⟨_, z1, z2⟩; exact ⟨h1, z1, z2⟩
    | none => intro z _; exact z h2
end Go.Proofs.YtpmmchppfmojhaaGreatDoor


