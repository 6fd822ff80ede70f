/- What the row stands on, part 28. -/
import Derived.Test.YtpmmchppfmojhaaGreatDoorQ27

/- Of the program's table parser: the tables of statements; the items of a locale. -/
namespace Go.Proofs.YtpmmchppfmojhaaGreatDoor
open Go.RowKit
set_option linter.unusedVariables false

def itemsL : List (Str × Nat) := [(kDir, 256), (kCar, 257), (kOrd, 258), (kSym, 259), (kLis, 260), (kUni, 261), (kDat, 262), (kMon, 263), (kDay, 264)]
def partsL : List (Str × Nat) := [(kLoc, 158), (kAli, 159), (kNea, 160)]
theorem chr_new {w : World} {L : List (Str × Nat)} {cs : Array Value} (h1 : cs.toList = L.flatMap encSm) (hl : L.length ≤ 100) : ChR (w.alloc (.cells cs 201)) (.slice (some ⟨w.heap.size, 0, none⟩) L.length L.length) L := by
  have hlen : ∀ l : List (Str × Nat), (l.flatMap encSm).length = l.length * 2 := flat_len (fun _ => rfl)
  have hsz : cs.size = L.length * 2 := by rw [← Array.length_toList, h1, hlen]
  have own : Own1 2 encSm (w.alloc (.cells cs 201)) w.heap.size 201 (.slice (some ⟨w.heap.size, 0, none⟩) L.length L.length) L :=
    ⟨hlen L, .inr ⟨w.heap.size, L.length, cs, rfl, Nat.le_refl _, heap_alloc_new w _, Nat.le_refl _, by unfold maxLen; omega, hsz, by rw [← h1]; exact List.take_of_length_le (by rw [Array.length_toList, hsz]; exact Nat.le_refl _)⟩⟩
  exact ⟨own.rd (fun _ => rfl), w.heap.size, 0, cs, L.length, L.length, rfl, Blk.new w _ _⟩
set_option maxRecDepth 1000000 in
theorem items_any (w : World) : Calls Tryz.prog 219 #[] w fun e w' => (∃ v, e = .returned v ∧ ChR w' v itemsL) ∧ Below w.heap.size w w' := by
  go_enter Tryz.func219, Tryz.ntmps219
  go_wp2
  go_ret
  exact ⟨⟨_, rfl, chr_new (L := itemsL) rfl (by decide)⟩, (Below.refl _ _).alloc (Nat.le_refl _) _⟩
set_option maxRecDepth 1000000 in
theorem parts_any (w : World) : Calls Tryz.prog 104 #[] w fun e w' => (∃ v, e = .returned v ∧ ChR w' v partsL) ∧ Below w.heap.size w w' := by
  go_enter Tryz.func104, Tryz.ntmps104
  go_wp2
  go_ret
  exact ⟨⟨_, rfl, chr_new (L := partsL) rfl (by decide)⟩, (Below.refl _ _).alloc (Nat.le_refl _) _⟩
theorem stmt_eq {σ : Type} {bk : Str → σ → Ts → Option (σ × Ts)} {L : List (Str × Nat)} (hN : ∀ k, (∀ c ∈ L, c.1 ≠ k) → ∀ s r, bk k s r = none) (s : σ) (l : Ts) : stmtG L (fun c => bk c.1) s l = thn (tk1 1 l) fun k r => bk k s r := by
  unfold stmtG
  cases tk1 1 l with
  | none => rfl
  | some p =>
    obtain ⟨k, r⟩ := p
    rw [thn_some, thn_some]
    cases hf : L.find? (fun c => decide (c.1 = k)) with
    | some c =>
      have h1 : c.1 = k := of_decide_eq_true (List.find?_some (p := fun c : Str × Nat => decide (c.1 = k)) hf)
      dsimp only
      rw [h1]
    | none =>
      rw [List.find?_eq_none] at hf
      exact (hN k (fun c hc e => hf c hc (decide_eq_true e)) s r).symm
/-- An item behind its keyword. -/
def bkI (k : Str) (x : Loc) (r : Ts) : Option (Loc × Ts) :=
  if k = kDir then thn (choP dirL r) fun d r => if x.dir = [] then semi { x with dir := d } r else none
  else if k = kCar then thn (rulP r) fun u r => if u.1 ∈ x.ca.map Prod.fst then none else semi { x with ca := x.ca ++ [u] } r
  else if k = kOrd then thn (rulP r) fun u r => if u.1 ∈ x.oc.map Prod.fst then none else semi { x with oc := x.oc ++ [u] } r
  else if k = kSym then thn (manyP 4 r) fun ts r => thn (numP 9 r) fun p r => thn (numP 9 r) fun s r => if ts.getD 0 [] = [] then none else if x.sy.de = [] then semi { x with sy := ⟨ts.getD 0 [], ts.getD 1 [], ts.getD 2 [], ts.getD 3 [], p, s⟩ } r else none
  else if k = kLis then thn (tk1 1 r) fun s r => thn (manyP 4 r) fun ts r => if s ∈ x.li.map Lis.st ∨ 10 ≤ x.li.length then none else semi { x with li := x.li ++ [⟨s, ts.getD 0 [], ts.getD 1 [], ts.getD 2 [], ts.getD 3 []⟩] } r
  else if k = kUni then thn (tk1 1 r) fun u r => thn (choP cls6 r) fun c r => thn (tk1 2 r) fun p r => if (u, c) ∈ x.un.map (fun y => (y.un, y.cl)) ∨ 100 ≤ x.un.length then none else semi { x with un := x.un ++ [⟨u, c, p⟩] } r
  else if k = kDat then thn (tk1 1 r) fun s r => thn (tk1 2 r) fun p r => if s ∈ x.da.map Prod.fst ∨ 30 ≤ x.da.length then none else semi { x with da := x.da ++ [(s, p)] } r
  else if k = kMon then thn (manyP 12 r) fun ts r => if x.mo = [] then semi { x with mo := ts } r else none
  else if k = kDay then thn (manyP 7 r) fun ts r => if x.dy = [] then semi { x with dy := ts } r else none
  else none
theorem item_bk (x : Loc) (l : Ts) : itemP x l = thn (tk1 1 l) fun k r => bkI k x r := rfl
theorem bk_kDir (x : Loc) (r : Ts) : bkI kDir x r = body_dir x r := by
  unfold bkI
  rw [if_pos rfl]
  rfl
theorem bk_kCar (x : Loc) (r : Ts) : bkI kCar x r = body_ca x r := by
  unfold bkI
  rw [if_neg (by decide), if_pos rfl]
  rfl
theorem bk_kOrd (x : Loc) (r : Ts) : bkI kOrd x r = body_oc x r := by
  unfold bkI
  rw [if_neg (by decide), if_neg (by decide), if_pos rfl]
  rfl
theorem bk_kSym (x : Loc) (r : Ts) : bkI kSym x r = body_sy x r := by
  unfold bkI
  rw [if_neg (by decide), if_neg (by decide), if_neg (by decide), if_pos rfl]
  rfl
theorem bk_kLis (x : Loc) (r : Ts) : bkI kLis x r = body_li x r := by
  unfold bkI
  rw [if_neg (by decide), if_neg (by decide), if_neg (by decide), if_neg (by decide), if_pos rfl]
  rfl
theorem bk_kUni (x : Loc) (r : Ts) : bkI kUni x r = body_un x r := by
  unfold bkI
  rw [if_neg (by decide), if_neg (by decide), if_neg (by decide), if_neg (by decide), if_neg (by decide), if_pos rfl]
  rfl
theorem bk_kDat (x : Loc) (r : Ts) : bkI kDat x r = body_da x r := by
  unfold bkI
  rw [if_neg (by decide), if_neg (by decide), if_neg (by decide), if_neg (by decide), if_neg (by decide), if_neg (by decide), if_pos rfl]
  rfl
theorem bk_kMon (x : Loc) (r : Ts) : bkI kMon x r = body_mo x r := by
  unfold bkI
  rw [if_neg (by decide), if_neg (by decide), if_neg (by decide), if_neg (by decide), if_neg (by decide), if_neg (by decide), if_neg (by decide), if_pos rfl]
  rfl
theorem bk_kDay (x : Loc) (r : Ts) : bkI kDay x r = body_dy x r := by
  unfold bkI
  rw [if_neg (by decide), if_neg (by decide), if_neg (by decide), if_neg (by decide), if_neg (by decide), if_neg (by decide), if_neg (by decide), if_neg (by decide), if_pos rfl]
  rfl
theorem bk_no (k : Str) (h : ∀ c ∈ itemsL, c.1 ≠ k) (x : Loc) (r : Ts) : bkI k x r = none := by
  unfold bkI
  rw [if_neg (fun e => h (kDir, 256) (by simp [itemsL]) e.symm), if_neg (fun e => h (kCar, 257) (by simp [itemsL]) e.symm), if_neg (fun e => h (kOrd, 258) (by simp [itemsL]) e.symm), if_neg (fun e => h (kSym, 259) (by simp [itemsL]) e.symm), if_neg (fun e => h (kLis, 260) (by simp [itemsL]) e.symm), if_neg (fun e => h (kUni, 261) (by simp [itemsL]) e.symm), if_neg (fun e => h (kDat, 262) (by simp [itemsL]) e.symm), if_neg (fun e => h (kMon, 263) (by simp [itemsL]) e.symm), if_neg (fun e => h (kDay, 264) (by simp [itemsL]) e.symm)]
theorem sho_bk (k : Str) (x : Loc) : Sho (bkI k x) :=
  sho_ite (sho_thn (sho_cho dirL) (fun d => sho_ite (sho_semi _) sho_none))
  (sho_ite (sho_thn sho_rul (fun u => sho_ite sho_none (sho_semi _)))
  (sho_ite (sho_thn sho_rul (fun u => sho_ite sho_none (sho_semi _)))
  (sho_ite (sho_thn (sho_many 4) (fun ts => sho_thn (sho_num 9) (fun p => sho_thn (sho_num 9) (fun s => sho_ite sho_none (sho_ite (sho_semi _) sho_none)))))
  (sho_ite (sho_thn (sho_tk1 1) (fun s => sho_thn (sho_many 4) (fun ts => sho_ite sho_none (sho_semi _))))
  (sho_ite (sho_thn (sho_tk1 1) (fun u => sho_thn (sho_cho cls6) (fun c => sho_thn (sho_tk1 2) (fun p => sho_ite sho_none (sho_semi _)))))
  (sho_ite (sho_thn (sho_tk1 1) (fun s => sho_thn (sho_tk1 2) (fun p => sho_ite sho_none (sho_semi _))))
  (sho_ite (sho_thn (sho_many 12) (fun ts => sho_ite (sho_semi _) sho_none))
  (sho_ite (sho_thn (sho_many 7) (fun ts => sho_ite (sho_semi _) sho_none)) sho_none))))))))
theorem item_lt {x y : Loc} {l r : Ts} (h : itemP x l = some (y, r)) : r.length < l.length ∧ l.head?.map Prod.fst = some 1 := by
  rw [item_bk] at h
  obtain ⟨k, q, h1, h2⟩ := thn_inv h
  have e := tk1_inv h1
  subst e
  have := sho_bk k x q r y h2
  exact ⟨by rw [List.length_cons]; omega, rfl⟩
/-- The state in a locale. -/
def CxI (g B0 : Nat) (t : Tab) : Cx Loc g B0 where
  F := fun q x m w => PI g B0 m q.1 q.2 t x w ∧ ∀ W, Below g w W → EnvOf8 W
  pl := fun h => h.1.pl
  read := fun {q s m w q' w'} h hp hm => by
    obtain ⟨m', h1, h2, h3⟩ := h.1.read hp hm
    exact ⟨m', h1, ⟨h2, fun W hb => h.2 W ((h.1.bel_but h3).trans hb)⟩, h3⟩
  below := fun {q s m w w'} h hb => ⟨h.1.below hb, fun W hw => h.2 W ((hb.mono (by have := h.1.pl.blk.lt; omega)).trans hw)⟩
theorem ItP.g {g B0 : Nat} {t : Tab} {body : Loc → Ts → Option (Loc × Ts)} {q : Bool × List KT} {x : Loc} {w w' : World} {e : Ending} (E : ∀ W, Below g w W → EnvOf8 W) (h : ItP g B0 t (body x q.2) q.1 w e w') : ItG (CxI g B0 t) body q x w e w' := by
  obtain ⟨er, m', q', x', h1, h2, h3, h4, h5, h6⟩ := h
  exact ⟨er, m', q', x', h1, ⟨h2, fun W hb => E W (h3.trans hb)⟩, h3, h4, h5, fun e => by
    have := h6 e
    revert this
    cases body x q.2 with
    | some p => exact id
    | none => exact id⟩
theorem items_do (g B0 : Nat) (t : Tab) : ∀ c ∈ itemsL, (∀ args w, (callFunc c.2 args).run Tryz.prog w = .ok (.enter c.2 args) w) ∧ ∀ q s m w, (CxI g B0 t).F q s m w → Calls Tryz.prog c.2 #[.pointer (some ⟨g, 0, none⟩)] w (ItG (CxI g B0 t) (bkI c.1) q s w) := by
  intro c hc
  simp only [itemsL, List.mem_cons, List.not_mem_nil, or_false] at hc
  rcases hc with rfl | rfl | rfl | rfl | rfl | rfl | rfl | rfl | rfl
  · refine ⟨enters_of Tryz.func256 (by kernel_rfl) rfl, fun q s m w ⟨h, E⟩ => ?_⟩
    rw [show bkI (kDir, 256).1 = body_dir from funext fun x => funext fun r => bk_kDir x r]
    exact (direction_z g B0 m q.1 q.2 t s w h).mono (fun e w' hh => ItP.g (body := body_dir) (q := q) E hh)
  · refine ⟨enters_of Tryz.func257 (by kernel_rfl) rfl, fun q s m w ⟨h, E⟩ => ?_⟩
    rw [show bkI (kCar, 257).1 = body_ca from funext fun x => funext fun r => bk_kCar x r]
    exact (cardinal_z g B0 m q.1 q.2 t s w E h).mono (fun e w' hh => ItP.g (body := body_ca) (q := q) E hh)
  · refine ⟨enters_of Tryz.func258 (by kernel_rfl) rfl, fun q s m w ⟨h, E⟩ => ?_⟩
    rw [show bkI (kOrd, 258).1 = body_oc from funext fun x => funext fun r => bk_kOrd x r]
    exact (ordinal_z g B0 m q.1 q.2 t s w E h).mono (fun e w' hh => ItP.g (body := body_oc) (q := q) E hh)
  · refine ⟨enters_of Tryz.func259 (by kernel_rfl) rfl, fun q s m w ⟨h, E⟩ => ?_⟩
    rw [show bkI (kSym, 259).1 = body_sy from funext fun x => funext fun r => bk_kSym x r]
    exact (symbols_z g B0 m q.1 q.2 t s w h).mono (fun e w' hh => ItP.g (body := body_sy) (q := q) E hh)
  · refine ⟨enters_of Tryz.func260 (by kernel_rfl) rfl, fun q s m w ⟨h, E⟩ => ?_⟩
    rw [show bkI (kLis, 260).1 = body_li from funext fun x => funext fun r => bk_kLis x r]
    exact (list_z g B0 m q.1 q.2 t s w h).mono (fun e w' hh => ItP.g (body := body_li) (q := q) E hh)
  · refine ⟨enters_of Tryz.func261 (by kernel_rfl) rfl, fun q s m w ⟨h, E⟩ => ?_⟩
    rw [show bkI (kUni, 261).1 = body_un from funext fun x => funext fun r => bk_kUni x r]
    exact (unit_z g B0 m q.1 q.2 t s w h).mono (fun e w' hh => ItP.g (body := body_un) (q := q) E hh)
  · refine ⟨enters_of Tryz.func262 (by kernel_rfl) rfl, fun q s m w ⟨h, E⟩ => ?_⟩
    rw [show bkI (kDat, 262).1 = body_da from funext fun x => funext fun r => bk_kDat x r]
    exact (date_z g B0 m q.1 q.2 t s w h).mono (fun e w' hh => ItP.g (body := body_da) (q := q) E hh)
  · refine ⟨enters_of Tryz.func263 (by kernel_rfl) rfl, fun q s m w ⟨h, E⟩ => ?_⟩
    rw [show bkI (kMon, 263).1 = body_mo from funext fun x => funext fun r => bk_kMon x r]
    exact (months_z g B0 m q.1 q.2 t s w h).mono (fun e w' hh => ItP.g (body := body_mo) (q := q) E hh)
  · refine ⟨enters_of Tryz.func264 (by kernel_rfl) rfl, fun q s m w ⟨h, E⟩ => ?_⟩
    rw [show bkI (kDay, 264).1 = body_dy from funext fun x => funext fun r => bk_kDay x r]
    exact (days_z g B0 m q.1 q.2 t s w h).mono (fun e w' hh => ItP.g (body := body_dy) (q := q) E hh)
set_option maxHeartbeats 2000000 in
theorem statementI_z (g B0 : Nat) (t : Tab) (v : Value) (q : Bool × List KT) (x : Loc) (m : PMem) (w : World) (h : (CxI g B0 t).F q x m w) (hv : ChR w v itemsL) :
    Calls Tryz.prog 105 #[.pointer (some ⟨g, 0, none⟩), v] w (StG (CxI g B0 t) itemP q x w) := by
  have h1 := statement_z g B0 (CxI g B0 t) itemsL (fun c => bkI c.1) (by decide) (items_do g B0 t) v q x m w h hv
  rw [show stmtG itemsL (fun c => bkI c.1) = itemP from funext fun x => funext fun l => (stmt_eq bk_no x l).trans (item_bk x l).symm] at h1
  exact h1
end Go.Proofs.YtpmmchppfmojhaaGreatDoor


/- The table parser's state between locales, aliases and near entries. -/
namespace Go.Proofs.YtpmmchppfmojhaaGreatDoor
open Go.RowKit
set_option linter.unusedVariables false

structure PT (g B0 : Nat) (m : PMem) (ok : Bool) (ts : List KT) (t : Tab) (w : World) : Prop where
  pl : PL g B0 m ok ts w
  p0 : P0 g m t (Up g (Wr0 g m)) w
  bt : Bd t
def raw0 (tag : Str) : RawLo := ⟨tag, [], [], ⟨none, 0, 0⟩, ⟨none, 0, 0⟩, sym0, ⟨none, 0, 0⟩, ⟨none, 0, 0⟩, ⟨none, 0, 0⟩, ⟨none, 0, 0⟩, ⟨none, 0, 0⟩⟩
theorem ob_nil (i : Nat) : ¬ ob ⟨none, 0, 0⟩ i := fun h => by
  have h' : (Value.slice none 0 0).ownBlock = some i := h
  simp [Value.ownBlock] at h'
section
variable {g B0 : Nat} {m m' : PMem} {t : Tab} {x : Loc} {w w' : World} {ok : Bool} {ts : List KT}
theorem wr0_g : Wr0 g m g := .inl rfl
theorem wr_raw0 (tag : Str) : Wr1 g { m with cu := raw0 tag } = Wr0 g m := by
  funext i
  unfold Wr1 Wr0
  exact propext ⟨fun h => h.elim id (fun h => by
    rcases h with h | h | h | h | h <;> exact absurd h (ob_nil i)), .inl⟩
theorem PT.start (h : PT g B0 m ok ts t w) (hb : But g w w') (tag : Str) (kb : Blk g 86 (pcells { m with cu := raw0 tag }) w') : PI g B0 { m with cu := raw0 tag } ok ts t (loc0 tag []) w' := by
  have p0 := h.p0.but hb (sameM.refl m) (.inr wr0_g)
  have hn : RulK g (Up g (Wr0 g m)) w' ⟨none, 0, 0⟩ [] := ⟨[], own1_nil _ _ _, rfl, fun i h _ => by simp at h⟩
  refine ⟨⟨kb, h.pl.tk.keep (hb.block _ h.pl.b0lt h.pl.ne), h.pl.f⟩, ?_, ?_, h.bt, ⟨Nat.zero_le _, Nat.zero_le _, Nat.zero_le _, Nat.zero_le _, Nat.zero_le _⟩, fun _ => ⟨.inl rfl, ⟨List.nodup_nil, fun u hu => by cases hu⟩, ⟨List.nodup_nil, fun u hu => by cases hu⟩⟩⟩
  · rw [wr_raw0]; exact ⟨p0.lo, p0.al, p0.ne⟩
  · rw [wr_raw0]; exact ⟨rfl, rfl, rfl, rfl, hn, hn, fun b e => absurd e (ob_nil b), own1_nil _ _ _, own1_nil _ _ _, own1_nil _ _ _, fun w _ => rd_nil w, fun w _ => rd_nil w⟩
theorem PT.read (h : PT g B0 m ok ts t w) {q : Bool × List KT} (hq : PLn g B0 m q w w') (hm : q.1 = true → ok = true) : ∃ m', sameM m m' ∧ PT g B0 m' q.1 q.2 t w' ∧ But g w w' := by
  obtain ⟨m', hs, hp, hb⟩ := hq
  exact ⟨m', hs, ⟨hp, by rw [(wr_same hs).2]; exact h.p0.but hb hs (.inr wr0_g), h.bt⟩, hb⟩
theorem PT.below (h : PT g B0 m ok ts t w) (hb : Below w.heap.size w w') : PT g B0 m ok ts t w' :=
  ⟨h.pl.below hb, h.p0.fw (Fw.of_below (S := fun _ => False) hb) (fun _ _ h => h.elim) (fun _ _ h => h) (fun _ _ h => h) (fun _ _ h => h) (fun _ _ h => h), h.bt⟩
theorem PT.kt_but (h : PT g B0 m ok ts t w) (hb : But g w w') : KT1 w w' := KT1.but hb h.pl.blk (by decide)
theorem PT.bel_but (h : PT g B0 m ok ts t w) (hb : But g w w') : Below g w w' := hb.below (Nat.le_refl _) (by have := h.pl.blk.lt; omega)
theorem PT.apart (h : PT g B0 m ok ts t w) {B : Nat} {T : TypeId} {cs : Array Value} (hb : Blk B T cs w) (hT : T ∉ [86, 51, 61, 36]) : ¬ Wr0 g m B := fun e => by
  obtain ⟨t', cs', h1, h2⟩ := wr_ty0 h.p0 h.pl.blk B e
  exact hT (by rw [hb.ty_eq h2]; exact h1)
theorem PT.kt_fw (h : PT g B0 m ok ts t w) {X : Nat → Prop} (hf : Fw X w w') (hX : ∀ i, X i → Wr0 g m i) : KT1 w w' := KT1.fw hf (fun i hi T cs hT hc => h.apart hc (by unfold KTl at hT; simp only [List.mem_cons, List.not_mem_nil, or_false] at hT; rcases hT with rfl | rfl <;> decide) (hX i hi))
theorem PT.bel_fw (h : PT g B0 m ok ts t w) {X : Nat → Prop} (hf : Fw X w w') (hX : ∀ i, X i → Wr0 g m i) : Below g w w' := hf.below (fun i hi => (h.p0.wr_lt h.pl.blk.lt i (hX i hi)).1) (by have := h.pl.blk.lt; omega)
/-- A locale is whole: its lists are written no more. -/
theorem PI.fin (h : PI g B0 m ok ts t x w) : PT g B0 m ok ts t w ∧ Kp (Up g (Wr0 g m)) w (fun w => LocOk w m.cu x) := by
  have hsub : ∀ i, i < w.heap.size → Up g (Wr0 g m) i → Up g (Wr1 g m) i := fun i _ e => e.elim .inl (fun e => .inr (.inl e))
  have hno : ∀ {b : Nat} {T : TypeId} {cs : Array Value}, Blk b T cs w → T ∉ [86, 51, 61, 36] → g < b → ¬ Up g (Wr0 g m) b := fun {b T cs} hb hT hgb e => by
    rcases e with e | e
    · omega
    obtain ⟨t', cs', h1, h2⟩ := wr_ty0 h.p0 h.pl.blk b e
    exact hT (by rw [hb.ty_eq h2]; exact h1)
  refine ⟨⟨h.pl, ⟨?_, h.p0.al, h.p0.ne⟩, h.bt⟩, fun w' hw => ?_⟩
  · obtain ⟨raws, h1, h2, h3⟩ := h.p0.lo
    exact ⟨raws, h1, h2, fun i a b => (h3 i a b).mono hsub⟩
  · have hw1 : Fw (Up g (Wr1 g m)) w w' := hw.mono hsub
    have hr : ∀ {z : RawS} {l : List Rul}, RulK g (Up g (Wr1 g m)) w z l → RdRul w' (.slice z.a z.n z.c) l := fun {z l} hz => by
      obtain ⟨raws, h1, h2, h3⟩ := hz
      refine ⟨raws, (h1.rd encRl_len).keep (fun b e hb => hw.block b hb ?_), h2, fun i a b => ⟨(h3 i a b).1, (h3 i a b).2 w' hw1⟩⟩
      obtain ⟨c, hc⟩ := h1.ty b e
      exact hno hc (by decide) (h1.lt_ b e).1
    refine ⟨h.p1.tag, h.p1.par, h.p1.dir, h.p1.sy, hr h.p1.ca, hr h.p1.oc, ?_, ?_, ?_, h.p1.mo w' hw1, h.p1.dy w' hw1⟩
    · exact (h.p1.li.rd encLi_len).keep (fun b e hb => hw.block b hb (by obtain ⟨c, hc⟩ := h.p1.li.ty b e; exact hno hc (by decide) (h.p1.li.lt_ b e).1))
    · exact (h.p1.un.rd encUn_len).keep (fun b e hb => hw.block b hb (by obtain ⟨c, hc⟩ := h.p1.un.ty b e; exact hno hc (by decide) (h.p1.un.lt_ b e).1))
    · exact (h.p1.da.rd encDu_len).keep (fun b e hb => hw.block b hb (by obtain ⟨c, hc⟩ := h.p1.da.ty b e; exact hno hc (by decide) (h.p1.da.lt_ b e).1))
theorem PT.add_lo (h : PT g B0 m ok ts t w) (raws : List RawLo) (hr1 : raws.length = t.lo.length) (y : RawLo) (u : Loc) (hk : Kp (Up g (Wr0 g m)) w (fun w => LocOk w y u)) (hr2 : ∀ (i : Nat) (h : i < raws.length) (h' : i < t.lo.length), Kp (Up g (Wr0 g m)) w (fun w => LocOk w raws[i] t.lo[i])) (hmx : t.lo.length < 60) {a : Option Addr} {c : Nat} (kb : Blk g 86 ((pcells m).setIfInBounds 1 (.slice a (raws.length + 1) c)) w') (ko : Own1 16 encLo w' (g + 1) 51 (.slice a (raws.length + 1) c) (raws ++ [y]))
    (hn : ∀ b, (Value.slice a (raws.length + 1) c).ownBlock = some b → ob m.lo b ∨ w.heap.size ≤ b) (hf : Fw (fun i => i = g ∨ ob m.lo i) w w') :
    PT g B0 { m with lo := ⟨a, raws.length + 1, c⟩ } ok ts { t with lo := t.lo ++ [u] } w' := by
  have hlt := h.pl.blk.lt
  have hX : ∀ i, i < w.heap.size → (i = g ∨ ob m.lo i) → Up g (Wr0 g m) i := fun i _ e => .inr <| e.elim (fun e => e ▸ wr0_g) (fun e => .inr (.inl e))
  have hS : ∀ i, i < w.heap.size → Up g (Wr0 g { m with lo := ⟨a, raws.length + 1, c⟩ }) i → Up g (Wr0 g m) i := by
    rintro i hi (e | e | e | e | e)
    · exact .inl e
    · exact .inr (.inl e)
    · exact (hn i e).elim (fun e => .inr (.inr (.inl e))) (fun e => by omega)
    · exact .inr (.inr (.inr (.inl e)))
    · exact .inr (.inr (.inr (.inr e)))
  have hB : ¬ (B0 = g ∨ ob m.lo B0) := fun e => e.elim (fun e => h.pl.ne e) (fun e => by
    obtain ⟨c1, k1⟩ := h.pl.tk.ty
    obtain ⟨c2, k2⟩ := h.p0.lo.ty B0 e
    exact absurd (k1.ty_eq k2) (by decide))
  refine ⟨⟨kb, h.pl.tk.keep (hf.block B0 h.pl.b0lt hB), h.pl.f⟩, ⟨?_, ?_, ?_⟩, ?_⟩
  · refine ⟨raws ++ [y], ko, by simp [hr1], fun i hi hi' => ?_⟩
    rcases Nat.lt_or_ge i raws.length with hl | hl
    · rw [List.getElem_append_left hl, List.getElem_append_left (by omega)]
      exact (hr2 i hl (by omega)).step (hf.mono hX) hS
    · have e1 : i = raws.length := by rw [List.length_append, List.length_singleton] at hi; omega
      subst e1
      have e6 : (raws ++ [y])[raws.length] = y := by simp
      have e7 : (t.lo ++ [u])[raws.length]'hi' = u := by simp [hr1]
      rw [e6, e7]
      exact hk.step (hf.mono hX) hS
  · exact h.p0.al.fw hf (fun b e e' => e'.elim (fun e1 => by have := h.p0.al.lt_ b e; omega) (fun e2 => by obtain ⟨c1, k1⟩ := h.p0.al.ty b e; obtain ⟨c2, k2⟩ := h.p0.lo.ty b e2; exact absurd (k1.ty_eq k2) (by decide)))
  · exact h.p0.ne.fw hf (fun b e e' => e'.elim (fun e1 => by have := h.p0.ne.lt_ b e; omega) (fun e2 => by obtain ⟨c1, k1⟩ := h.p0.ne.ty b e; obtain ⟨c2, k2⟩ := h.p0.lo.ty b e2; exact absurd (k1.ty_eq k2) (by decide)))
  · exact ⟨by simp; omega, h.bt.al, h.bt.ne⟩
theorem PT.add_al (h : PT g B0 m ok ts t w) (y : Str × Str) (hmx : t.al.length < 200) {a : Option Addr} {c : Nat} (kb : Blk g 86 ((pcells m).setIfInBounds 2 (.slice a (t.al.length + 1) c)) w') (ko : Own1 2 encDu w' (g + 1) 61 (.slice a (t.al.length + 1) c) (t.al ++ [y]))
    (hn : ∀ b, (Value.slice a (t.al.length + 1) c).ownBlock = some b → ob m.al b ∨ w.heap.size ≤ b) (hf : Fw (fun i => i = g ∨ ob m.al i) w w') :
    PT g B0 { m with al := ⟨a, t.al.length + 1, c⟩ } ok ts { t with al := t.al ++ [y] } w' := by
  have hlt := h.pl.blk.lt
  have hX : ∀ i, i < w.heap.size → (i = g ∨ ob m.al i) → Up g (Wr0 g m) i := fun i _ e => .inr <| e.elim (fun e => e ▸ wr0_g) (fun e => .inr (.inr (.inl e)))
  have hS : ∀ i, i < w.heap.size → Up g (Wr0 g { m with al := ⟨a, t.al.length + 1, c⟩ }) i → Up g (Wr0 g m) i := by
    rintro i hi (e | e | e | e | e)
    · exact .inl e
    · exact .inr (.inl e)
    · exact .inr (.inr (.inl e))
    · exact (hn i e).elim (fun e => .inr (.inr (.inr (.inl e)))) (fun e => by omega)
    · exact .inr (.inr (.inr (.inr e)))
  have hB : ¬ (B0 = g ∨ ob m.al B0) := fun e => e.elim (fun e => h.pl.ne e) (fun e => by
    obtain ⟨c1, k1⟩ := h.pl.tk.ty
    obtain ⟨c2, k2⟩ := h.p0.al.ty B0 e
    exact absurd (k1.ty_eq k2) (by decide))
  refine ⟨⟨kb, h.pl.tk.keep (hf.block B0 h.pl.b0lt hB), h.pl.f⟩, ⟨?_, ?_, ?_⟩, ?_⟩
  · exact h.p0.lo.fw hf hX hS (fun b e e' => e'.elim (fun e1 => by have := h.p0.lo.lt b e; omega) (fun e2 => by obtain ⟨c1, k1⟩ := h.p0.lo.ty b e; obtain ⟨c2, k2⟩ := h.p0.al.ty b e2; exact absurd (k1.ty_eq k2) (by decide)))
  · exact ko
  · exact h.p0.ne.fw hf (fun b e e' => e'.elim (fun e1 => by have := h.p0.ne.lt_ b e; omega) (fun e2 => by obtain ⟨c1, k1⟩ := h.p0.ne.ty b e; obtain ⟨c2, k2⟩ := h.p0.al.ty b e2; exact absurd (k1.ty_eq k2) (by decide)))
  · exact ⟨h.bt.lo, by simp; omega, h.bt.ne⟩
theorem PT.add_ne (h : PT g B0 m ok ts t w) (y : Nea) (hmx : t.ne.length < 200) {a : Option Addr} {c : Nat} (kb : Blk g 86 ((pcells m).setIfInBounds 3 (.slice a (t.ne.length + 1) c)) w') (ko : Own1 3 encNe w' (g + 1) 36 (.slice a (t.ne.length + 1) c) (t.ne ++ [y]))
    (hn : ∀ b, (Value.slice a (t.ne.length + 1) c).ownBlock = some b → ob m.ne b ∨ w.heap.size ≤ b) (hf : Fw (fun i => i = g ∨ ob m.ne i) w w') :
    PT g B0 { m with ne := ⟨a, t.ne.length + 1, c⟩ } ok ts { t with ne := t.ne ++ [y] } w' := by
  have hlt := h.pl.blk.lt
  have hX : ∀ i, i < w.heap.size → (i = g ∨ ob m.ne i) → Up g (Wr0 g m) i := fun i _ e => .inr <| e.elim (fun e => e ▸ wr0_g) (fun e => .inr (.inr (.inr e)))
  have hS : ∀ i, i < w.heap.size → Up g (Wr0 g { m with ne := ⟨a, t.ne.length + 1, c⟩ }) i → Up g (Wr0 g m) i := by
    rintro i hi (e | e | e | e | e)
    · exact .inl e
    · exact .inr (.inl e)
    · exact .inr (.inr (.inl e))
    · exact .inr (.inr (.inr (.inl e)))
    · exact (hn i e).elim (fun e => .inr (.inr (.inr (.inr e)))) (fun e => by omega)
  have hB : ¬ (B0 = g ∨ ob m.ne B0) := fun e => e.elim (fun e => h.pl.ne e) (fun e => by
    obtain ⟨c1, k1⟩ := h.pl.tk.ty
    obtain ⟨c2, k2⟩ := h.p0.ne.ty B0 e
    exact absurd (k1.ty_eq k2) (by decide))
  refine ⟨⟨kb, h.pl.tk.keep (hf.block B0 h.pl.b0lt hB), h.pl.f⟩, ⟨?_, ?_, ?_⟩, ?_⟩
  · exact h.p0.lo.fw hf hX hS (fun b e e' => e'.elim (fun e1 => by have := h.p0.lo.lt b e; omega) (fun e2 => by obtain ⟨c1, k1⟩ := h.p0.lo.ty b e; obtain ⟨c2, k2⟩ := h.p0.ne.ty b e2; exact absurd (k1.ty_eq k2) (by decide)))
  · exact h.p0.al.fw hf (fun b e e' => e'.elim (fun e1 => by have := h.p0.al.lt_ b e; omega) (fun e2 => by obtain ⟨c1, k1⟩ := h.p0.al.ty b e; obtain ⟨c2, k2⟩ := h.p0.ne.ty b e2; exact absurd (k1.ty_eq k2) (by decide)))
  · exact ko
  · exact ⟨h.bt.lo, h.bt.al, by simp; omega⟩
end
def CxT (g B0 : Nat) : Cx Tab g B0 where
  F := fun q t m w => PT g B0 m q.1 q.2 t w ∧ ∀ W, Below g w W → EnvOf8 W
  pl := fun h => h.1.pl
  read := fun {q s m w q' w'} h hp hm => by
    obtain ⟨m', h1, h2, h3⟩ := h.1.read hp hm
    exact ⟨m', h1, ⟨h2, fun W hb => h.2 W ((h.1.bel_but h3).trans hb)⟩, h3⟩
  below := fun {q s m w w'} h hb => ⟨h.1.below hb, fun W hw => h.2 W ((hb.mono (by have := h.1.pl.blk.lt; omega)).trans hw)⟩
/-- An entry behind its keyword. -/
def bkE (k : Str) (t : Tab) (r : Ts) : Option (Tab × Ts) :=
  if k = kLoc then thn (locP r) fun x r => if 60 ≤ t.lo.length then none else some ({ t with lo := t.lo ++ [x] }, r)
  else if k = kAli then thn (tk1 1 r) fun f r => thn (tk1 1 r) fun g r => if 200 ≤ t.al.length then none else semi { t with al := t.al ++ [(f, g)] } r
  else if k = kNea then thn (tk1 1 r) fun f r => thn (tk1 1 r) fun g r => thn (numP 1000 r) fun n r => if 200 ≤ t.ne.length then none else semi { t with ne := t.ne ++ [⟨f, g, n⟩] } r
  else none
theorem ent_bk (t : Tab) (l : Ts) : entP t l = thn (tk1 1 l) fun k r => bkE k t r := rfl
def body_loc (t : Tab) (r : Ts) : Option (Tab × Ts) := thn (locP r) fun x r => if 60 ≤ t.lo.length then none else some ({ t with lo := t.lo ++ [x] }, r)
def body_al (t : Tab) (r : Ts) : Option (Tab × Ts) := thn (tk1 1 r) fun f r => thn (tk1 1 r) fun g r => if 200 ≤ t.al.length then none else semi { t with al := t.al ++ [(f, g)] } r
def body_ne (t : Tab) (r : Ts) : Option (Tab × Ts) := thn (tk1 1 r) fun f r => thn (tk1 1 r) fun g r => thn (numP 1000 r) fun n r => if 200 ≤ t.ne.length then none else semi { t with ne := t.ne ++ [⟨f, g, n⟩] } r
theorem bk_kLoc (t : Tab) (r : Ts) : bkE kLoc t r = body_loc t r := by
  unfold bkE; rw [if_pos rfl]; rfl
theorem bk_kAli (t : Tab) (r : Ts) : bkE kAli t r = body_al t r := by
  unfold bkE; rw [if_neg (by decide), if_pos rfl]; rfl
theorem bk_kNea (t : Tab) (r : Ts) : bkE kNea t r = body_ne t r := by
  unfold bkE; rw [if_neg (by decide), if_neg (by decide), if_pos rfl]; rfl
theorem bkE_no (k : Str) (h : ∀ c ∈ partsL, c.1 ≠ k) (t : Tab) (r : Ts) : bkE k t r = none := by
  unfold bkE
  rw [if_neg (fun e => h (kLoc, 158) (by simp [partsL]) e.symm), if_neg (fun e => h (kAli, 159) (by simp [partsL]) e.symm), if_neg (fun e => h (kNea, 160) (by simp [partsL]) e.symm)]
end Go.Proofs.YtpmmchppfmojhaaGreatDoor


/- Of the program's table parser: alias, near. -/
namespace Go.Proofs.YtpmmchppfmojhaaGreatDoor
open Go.RowKit
set_option linter.unusedVariables false

theorem any_no {α : Type} {l : List α} {q : α → Bool} (h : ∀ y ∈ l, q y = false) : l.any q = false := by
  rw [List.any_eq_false]
  intro y hy e
  rw [h y hy] at e
  cases e
theorem spec_al (t : Tab) (l : List KT) {q0 q1 q2 q3 : Bool × List KT} (h0 : q0 = (true, l)) (h1 : q1 = rdS 1 q0) (h2 : q2 = rdS 1 q1) (h3 : q3 = mkS [59] q2) :
    match body_al t l with
    | some (t2, r) => adR false t.al.length 200 = 0 ∧ q3 = (true, r) ∧ { t with al := t.al ++ [((hdK q0.2).2, (hdK q1.2).2)] } = t2
    | none => adR false t.al.length 200 = 0 → q3.1 = false := by
  subst h0
  unfold body_al
  have k0 := lk_rd (kd := 1) (by decide) l
  cases e0 : tk1 1 l with
  | none =>
    rw [e0] at k0
    have hf : q1.1 = false := by rw [h1]; exact k0
    intro _
    exact by rw [h3]; exact mk_f _ (by rw [h2]; exact rd_f 1 hf)
  | some p0 =>
    obtain ⟨t0, r0⟩ := p0
    rw [e0] at k0
    obtain ⟨a0, b0⟩ := k0
    have g1 : q1 = (true, r0) := by rw [h1]; exact a0
    rw [thn_some]
    subst g1
    have k1 := lk_rd (kd := 1) (by decide) r0
    cases e1 : tk1 1 r0 with
    | none =>
      rw [e1] at k1
      have hf : q2.1 = false := by rw [h2]; exact k1
      intro _
      exact by rw [h3]; exact mk_f _ hf
    | some p1 =>
      obtain ⟨t1, r1⟩ := p1
      rw [e1] at k1
      obtain ⟨a1, b1⟩ := k1
      have g2 : q2 = (true, r1) := by rw [h2]; exact a1
      rw [thn_some]
      subst g2
      dsimp only at b0 b1 ⊢
      rw [b0, b1]
      by_cases hc : 200 ≤ t.al.length
      · rw [if_pos hc]
        intro ha
        have := (ad_zero.1 ha).2
        omega
      · rw [if_neg hc]
        have hz : adR false t.al.length 200 = 0 := ad_zero.2 ⟨rfl, by omega⟩
        have ks := lk_semi ({ t with al := t.al ++ [(t0, t1)] } : Tab) r1
        cases es : semi ({ t with al := t.al ++ [(t0, t1)] } : Tab) r1 with
        | none =>
          rw [es] at ks
          intro _
          rw [h3]; exact ks
        | some p =>
          obtain ⟨y, r⟩ := p
          rw [es] at ks
          obtain ⟨s1, s2⟩ := ks
          exact ⟨hz, by rw [h3]; exact s1, s2.symm⟩
set_option maxRecDepth 1000000 in
set_option maxHeartbeats 8000000 in
theorem alias_z (g B0 : Nat) (q : Bool × List KT) (t : Tab) (m : PMem) (w : World) (h : (CxT g B0).F q t m w) :
    Calls Tryz.prog 159 #[.pointer (some ⟨g, 0, none⟩)] w (ItG (CxT g B0) body_al q t w) := by
  obtain ⟨q0, hq0⟩ : ∃ q0 : Bool × List KT, q = q0 := ⟨_, rfl⟩
  have HQ0 := Lib.hid hq0
  have hP : PT g B0 m q0.1 q0.2 t w := by rw [← hq0]; exact h.1
  have P0 := Lib.hid hP
  have HE := Lib.hid h.2
  clear h hq0 hP
  go_enter Tryz.func159, Tryz.ntmps159
  go_wp2_with fail
  refine (word_z g B0 m q0.1 q0.2 _ P0.out.pl).mono ?_
  rintro e w1 ⟨rfl, hq⟩
  obtain ⟨q1, hq1⟩ : ∃ q : Bool × List KT, q = rdS 1 q0 := ⟨_, rfl⟩
  have HQ1 := Lib.hid hq1
  obtain ⟨m1, hs1, hp1, hb1⟩ := P0.out.read (q := q1) (by rw [hq1]; exact hq) (fun h => t_of (fun h => rd_f 1 h) (by rw [← hq1]; exact h))
  have P1 := Lib.hid hp1
  have B1 := Lib.hid (hb1)
  obtain ⟨tx0, htx0⟩ : ∃ tx, (hdK q0.2).2 = tx := ⟨_, rfl⟩
  have HT0 := Lib.hid htx0
  rw [htx0]
  clear hq hq1 hs1 hp1 hb1 htx0
  go_wp2_with fail
  refine (word_z g B0 m1 q1.1 q1.2 _ P1.out.pl).mono ?_
  rintro e w2 ⟨rfl, hq⟩
  obtain ⟨q2, hq2⟩ : ∃ q : Bool × List KT, q = rdS 1 q1 := ⟨_, rfl⟩
  have HQ2 := Lib.hid hq2
  obtain ⟨m2, hs2, hp2, hb2⟩ := P1.out.read (q := q2) (by rw [hq2]; exact hq) (fun h => t_of (fun h => rd_f 1 h) (by rw [← hq2]; exact h))
  have P2 := Lib.hid hp2
  have B2 := Lib.hid (B1.out.trans hb2)
  obtain ⟨tx1, htx1⟩ : ∃ tx, (hdK q1.2).2 = tx := ⟨_, rfl⟩
  have HT1 := Lib.hid htx1
  rw [htx1]
  clear hq hq2 hs2 hp2 hb2 htx1
  have PA := Lib.hid (P2.out.below ((Below.refl _ _).alloc (Nat.le_refl _) (.cells #[.string (ofL tx0), .string (ofL tx1)] 61)))
  have KA := Lib.hid (Blk.new w2 61 #[.string (ofL tx0), .string (ofL tx1)])
  have BA := Lib.hid (B2.out.alloc (.cells #[.string (ofL tx0), .string (ofL tx1)] 61))
  go_wp2_with fail
  refine (mark_z g B0 m2 q2.1 q2.2 ⟨#[59]⟩ _ PA.out.pl).mono ?_
  rw [show (ByteArray.mk #[59]).data.toList = [59] from rfl]
  rintro e w3 ⟨rfl, hq⟩
  obtain ⟨q3, hq3⟩ : ∃ q : Bool × List KT, q = mkS [59] q2 := ⟨_, rfl⟩
  have HQ3 := Lib.hid hq3
  obtain ⟨m3, hs3, hp3, hb3⟩ := PA.out.read (q := q3) (by rw [hq3]; exact hq) (fun h => t_of (fun h => mk_f _ h) (by rw [← hq3]; exact h))
  have PM := Lib.hid hp3
  have BM := Lib.hid (BA.out.trans hb3)
  have hgA : w2.heap.size ≠ g := by have := P2.out.pl.blk.lt; omega
  have KM := Lib.hid (KA.out.but hb3 hgA)
  clear hq hq3 hs3 hp3 hb3 hgA
  have c0 : w3.cell? ⟨w2.heap.size, 0, none⟩ = some (.string (ofL tx0)) := KM.out.cell 0
  have c1 : w3.cell? ⟨w2.heap.size, 1, none⟩ = some (.string (ofL tx1)) := KM.out.cell 1
  have hl1 := PM.out.bt.al
  have HAD := Lib.hid (fun wx hw => addAl_any g 2 86 (by decide) (pcells m3) (.slice m3.al.a m3.al.n m3.al.c) t.al (tx0, tx1) 200 (qAl (tx0, tx1)) 37 (enters_of Tryz.func37 (by kernel_rfl) rfl) wx (Blk.below PM.out.pl.blk hw) rfl (Own1.below PM.out.p0.al hw) (by omega) (fun W1 y _ => alikeAl_any _ y W1))
  clear hl1
  go_wp2_with fail
  refine region_stail 5 (by kernel_rfl) (by decide +kernel) ?_
  simp only [List.take_succ_cons, List.take_zero, List.drop_succ_cons, List.drop_zero]
  iterate 5 still_step
  refine wpStill_nil ?_
  go_wp2_with fail
  refine (HAD.out _ (below_drewN (Below.refl _ _) 1)).mono ?_
  rintro e wz ⟨er, rfl, hz⟩
  have HZ := Lib.hid hz
  clear hz c0 c1
  go_wp2
  go_ret
  have PD := PM.out.below (below_drewN (Below.refl _ w3) 1)
  have bw : But g w (w3.drewN 1) := BM.out.drewN 1
  have hf0 : q.1 = false → q3.1 = false := fun e => by
    have f0 : q0.1 = false := by rw [← HQ0.out]; exact e
    have f1 : q1.1 = false := by rw [HQ1.out]; exact rd_f 1 f0
    have f2 : q2.1 = false := by rw [HQ2.out]; exact rd_f 1 f1
    rw [HQ3.out]; exact mk_f _ f2
  have hdup : t.al.any (qAl (tx0, tx1)) = false := any_no (fun y _ => rfl)
  have hsp := fun e : q.1 = true => spec_al t q.2 (q0 := q0) (by rw [← HQ0.out, ← e]) HQ1.out HQ2.out HQ3.out
  rw [HT0.out, HT1.out] at hsp
  have HZZ := HZ.out
  rw [hdup] at HZZ
  rcases HZZ with ⟨h1, h2, h3⟩ | ⟨h1, h2, a, c, h3, h4, h5, h6⟩
  · refine ⟨er, _, q3, t, rfl, ⟨PD.below h3, fun W hW => HE.out W (((P0.out.bel_but bw).trans (h3.mono (by have := PD.pl.blk.lt; omega))).trans hW)⟩, (P0.out.bel_but bw).trans (h3.mono (by have := PD.pl.blk.lt; omega)), (P0.out.kt_but bw).trans (KT1.below h3), hf0, fun e => ?_⟩
    have := hsp e
    revert this
    cases body_al t q.2 with
    | some p => intro ⟨z, _⟩; exact absurd (h1.trans z) h2
    | none => intro _ hz; exact absurd hz h2
  · have hlen := (ad_zero.1 h2).2
    have bz := (P0.out.bel_but bw).trans (PD.bel_fw h6 (fun i hi => hi.elim (fun e => e ▸ wr0_g) (fun e => .inr (.inr (.inl e)))))
    refine ⟨er, _, q3, _, rfl, ⟨PD.add_al (tx0, tx1) hlen h3 h4 h5 h6, fun W hW => HE.out W (bz.trans hW)⟩, bz, (P0.out.kt_but bw).trans (PD.kt_fw h6 (fun i hi => hi.elim (fun e => e ▸ wr0_g) (fun e => .inr (.inr (.inl e))))), hf0, fun e => ?_⟩
    have := hsp e
    revert this
    cases body_al t q.2 with
    | some p => intro ⟨_, z1, z2⟩; exact ⟨h1, z1, z2⟩
    | none => intro z _; exact z h2
theorem spec_ne (t : Tab) (l : List KT) {q0 q1 q2 q3 q4 : Bool × List KT} (h0 : q0 = (true, l)) (h1 : q1 = rdS 1 q0) (h2 : q2 = rdS 1 q1) (h3 : q3 = nuS 1000 q2) (h4 : q4 = mkS [59] q3) :
    match body_ne t l with
    | some (t2, r) => adR false t.ne.length 200 = 0 ∧ q4 = (true, r) ∧ { t with ne := t.ne ++ [(⟨(hdK q0.2).2, (hdK q1.2).2, (((numR (hdK q2.2).2).1 : Int) : Int)⟩ : Nea)] } = t2
    | none => adR false t.ne.length 200 = 0 → q4.1 = false := by
  subst h0
  unfold body_ne
  have k0 := lk_rd (kd := 1) (by decide) l
  cases e0 : tk1 1 l with
  | none =>
    rw [e0] at k0
    have hf : q1.1 = false := by rw [h1]; exact k0
    intro _
    exact by rw [h4]; exact mk_f _ (by rw [h3]; exact nu_f _ (by rw [h2]; exact rd_f 1 hf))
  | some p0 =>
    obtain ⟨t0, r0⟩ := p0
    rw [e0] at k0
    obtain ⟨a0, b0⟩ := k0
    have g1 : q1 = (true, r0) := by rw [h1]; exact a0
    rw [thn_some]
    subst g1
    have k1 := lk_rd (kd := 1) (by decide) r0
    cases e1 : tk1 1 r0 with
    | none =>
      rw [e1] at k1
      have hf : q2.1 = false := by rw [h2]; exact k1
      intro _
      exact by rw [h4]; exact mk_f _ (by rw [h3]; exact nu_f _ hf)
    | some p1 =>
      obtain ⟨t1, r1⟩ := p1
      rw [e1] at k1
      obtain ⟨a1, b1⟩ := k1
      have g2 : q2 = (true, r1) := by rw [h2]; exact a1
      rw [thn_some]
      subst g2
      have k2 := lk_nu 1000 r1
      cases e2 : numP 1000 r1 with
      | none =>
        rw [e2] at k2
        have hf : q3.1 = false := by rw [h3]; exact k2
        intro _
        exact by rw [h4]; exact mk_f _ hf
      | some p2 =>
        obtain ⟨t2, r2⟩ := p2
        rw [e2] at k2
        obtain ⟨a2, b2⟩ := k2
        have g3 : q3 = (true, r2) := by rw [h3]; exact a2
        rw [thn_some]
        subst g3
        dsimp only at b0 b1 b2 ⊢
        rw [b0, b1, b2]
        by_cases hc : 200 ≤ t.ne.length
        · rw [if_pos hc]
          intro ha
          have := (ad_zero.1 ha).2
          omega
        · rw [if_neg hc]
          have hz : adR false t.ne.length 200 = 0 := ad_zero.2 ⟨rfl, by omega⟩
          have ks := lk_semi ({ t with ne := t.ne ++ [(⟨t0, t1, (((t2 : Nat) : Int) : Int)⟩ : Nea)] } : Tab) r2
          cases es : semi ({ t with ne := t.ne ++ [(⟨t0, t1, (((t2 : Nat) : Int) : Int)⟩ : Nea)] } : Tab) r2 with
          | none =>
            rw [es] at ks
            intro _
            rw [h4]; exact ks
          | some p =>
            obtain ⟨y, r⟩ := p
            rw [es] at ks
            obtain ⟨s1, s2⟩ := ks
            exact ⟨hz, by rw [h4]; exact s1, s2.symm⟩
set_option maxRecDepth 1000000 in
set_option maxHeartbeats 8000000 in
theorem near_z (g B0 : Nat) (q : Bool × List KT) (t : Tab) (m : PMem) (w : World) (h : (CxT g B0).F q t m w) :
    Calls Tryz.prog 160 #[.pointer (some ⟨g, 0, none⟩)] w (ItG (CxT g B0) body_ne q t w) := by
  obtain ⟨q0, hq0⟩ : ∃ q0 : Bool × List KT, q = q0 := ⟨_, rfl⟩
  have HQ0 := Lib.hid hq0
  have hP : PT g B0 m q0.1 q0.2 t w := by rw [← hq0]; exact h.1
  have P0 := Lib.hid hP
  have HE := Lib.hid h.2
  clear h hq0 hP
  go_enter Tryz.func160, Tryz.ntmps160
  go_wp2_with fail
  refine (word_z g B0 m q0.1 q0.2 _ P0.out.pl).mono ?_
  rintro e w1 ⟨rfl, hq⟩
  obtain ⟨q1, hq1⟩ : ∃ q : Bool × List KT, q = rdS 1 q0 := ⟨_, rfl⟩
  have HQ1 := Lib.hid hq1
  obtain ⟨m1, hs1, hp1, hb1⟩ := P0.out.read (q := q1) (by rw [hq1]; exact hq) (fun h => t_of (fun h => rd_f 1 h) (by rw [← hq1]; exact h))
  have P1 := Lib.hid hp1
  have B1 := Lib.hid (hb1)
  obtain ⟨tx0, htx0⟩ : ∃ tx, (hdK q0.2).2 = tx := ⟨_, rfl⟩
  have HT0 := Lib.hid htx0
  rw [htx0]
  clear hq hq1 hs1 hp1 hb1 htx0
  go_wp2_with fail
  refine (word_z g B0 m1 q1.1 q1.2 _ P1.out.pl).mono ?_
  rintro e w2 ⟨rfl, hq⟩
  obtain ⟨q2, hq2⟩ : ∃ q : Bool × List KT, q = rdS 1 q1 := ⟨_, rfl⟩
  have HQ2 := Lib.hid hq2
  obtain ⟨m2, hs2, hp2, hb2⟩ := P1.out.read (q := q2) (by rw [hq2]; exact hq) (fun h => t_of (fun h => rd_f 1 h) (by rw [← hq2]; exact h))
  have P2 := Lib.hid hp2
  have B2 := Lib.hid (B1.out.trans hb2)
  obtain ⟨tx1, htx1⟩ : ∃ tx, (hdK q1.2).2 = tx := ⟨_, rfl⟩
  have HT1 := Lib.hid htx1
  rw [htx1]
  clear hq hq2 hs2 hp2 hb2 htx1
  go_wp2_with fail
  refine (number_z g B0 m2 q2.1 q2.2 1000 _ P2.out.pl).mono ?_
  rintro e w3 ⟨rfl, hq⟩
  obtain ⟨q3, hq3⟩ : ∃ q : Bool × List KT, q = nuS 1000 q2 := ⟨_, rfl⟩
  have HQ3 := Lib.hid hq3
  obtain ⟨m3, hs3, hp3, hb3⟩ := P2.out.read (q := q3) (by rw [hq3]; exact hq) (fun h => t_of (fun h => nu_f _ h) (by rw [← hq3]; exact h))
  have P3 := Lib.hid hp3
  have B3 := Lib.hid (B2.out.trans hb3)
  obtain ⟨nn2, htx2⟩ : ∃ nn, numR (hdK q2.2).2 = nn := ⟨_, rfl⟩
  have HT2 := Lib.hid htx2
  rw [htx2]
  obtain ⟨tn2, bb2⟩ := nn2
  dsimp only
  obtain ⟨tx2, hti2⟩ : ∃ ti : Int, (tn2 : Int) = ti := ⟨_, rfl⟩
  have HTI2 := Lib.hid hti2
  rw [hti2]
  clear hti2
  clear hq hq3 hs3 hp3 hb3 htx2
  have PA := Lib.hid (P3.out.below ((Below.refl _ _).alloc (Nat.le_refl _) (.cells #[.string (ofL tx0), .string (ofL tx1), .int .i64 tx2] 36)))
  have KA := Lib.hid (Blk.new w3 36 #[.string (ofL tx0), .string (ofL tx1), .int .i64 tx2])
  have BA := Lib.hid (B3.out.alloc (.cells #[.string (ofL tx0), .string (ofL tx1), .int .i64 tx2] 36))
  go_wp2_with fail
  refine (mark_z g B0 m3 q3.1 q3.2 ⟨#[59]⟩ _ PA.out.pl).mono ?_
  rw [show (ByteArray.mk #[59]).data.toList = [59] from rfl]
  rintro e w4 ⟨rfl, hq⟩
  obtain ⟨q4, hq4⟩ : ∃ q : Bool × List KT, q = mkS [59] q3 := ⟨_, rfl⟩
  have HQ4 := Lib.hid hq4
  obtain ⟨m4, hs4, hp4, hb4⟩ := PA.out.read (q := q4) (by rw [hq4]; exact hq) (fun h => t_of (fun h => mk_f _ h) (by rw [← hq4]; exact h))
  have PM := Lib.hid hp4
  have BM := Lib.hid (BA.out.trans hb4)
  have hgA : w3.heap.size ≠ g := by have := P3.out.pl.blk.lt; omega
  have KM := Lib.hid (KA.out.but hb4 hgA)
  clear hq hq4 hs4 hp4 hb4 hgA
  have c0 : w4.cell? ⟨w3.heap.size, 0, none⟩ = some (.string (ofL tx0)) := KM.out.cell 0
  have c1 : w4.cell? ⟨w3.heap.size, 1, none⟩ = some (.string (ofL tx1)) := KM.out.cell 1
  have c2 : w4.cell? ⟨w3.heap.size, 2, none⟩ = some (.int .i64 tx2) := KM.out.cell 2
  have hl1 := PM.out.bt.ne
  have HAD := Lib.hid (fun wx hw => addNe_any g 3 86 (by decide) (pcells m4) (.slice m4.ne.a m4.ne.n m4.ne.c) t.ne (⟨tx0, tx1, tx2⟩ : Nea) 200 (qNe (⟨tx0, tx1, tx2⟩ : Nea)) 40 (enters_of Tryz.func40 (by kernel_rfl) rfl) wx (Blk.below PM.out.pl.blk hw) rfl (Own1.below PM.out.p0.ne hw) (by omega) (fun W1 y _ => alikeNe_any _ y W1))
  clear hl1
  go_wp2_with fail
  refine region_stail 5 (by kernel_rfl) (by decide +kernel) ?_
  simp only [List.take_succ_cons, List.take_zero, List.drop_succ_cons, List.drop_zero]
  iterate 5 still_step
  refine wpStill_nil ?_
  go_wp2_with fail
  refine (HAD.out _ (below_drewN (Below.refl _ _) 1)).mono ?_
  rintro e wz ⟨er, rfl, hz⟩
  have HZ := Lib.hid hz
  clear hz c0 c1 c2
  go_wp2
  go_ret
  have PD := PM.out.below (below_drewN (Below.refl _ w4) 1)
  have bw : But g w (w4.drewN 1) := BM.out.drewN 1
  have hf0 : q.1 = false → q4.1 = false := fun e => by
    have f0 : q0.1 = false := by rw [← HQ0.out]; exact e
    have f1 : q1.1 = false := by rw [HQ1.out]; exact rd_f 1 f0
    have f2 : q2.1 = false := by rw [HQ2.out]; exact rd_f 1 f1
    have f3 : q3.1 = false := by rw [HQ3.out]; exact nu_f _ f2
    rw [HQ4.out]; exact mk_f _ f3
  have hdup : t.ne.any (qNe (⟨tx0, tx1, tx2⟩ : Nea)) = false := any_no (fun y _ => rfl)
  have hsp := fun e : q.1 = true => spec_ne t q.2 (q0 := q0) (by rw [← HQ0.out, ← e]) HQ1.out HQ2.out HQ3.out HQ4.out
  rw [HT0.out, HT1.out, HT2.out] at hsp
  dsimp only at hsp
  rw [HTI2.out] at hsp
  have HZZ := HZ.out
  rw [hdup] at HZZ
  rcases HZZ with ⟨h1, h2, h3⟩ | ⟨h1, h2, a, c, h3, h4, h5, h6⟩
  · refine ⟨er, _, q4, t, rfl, ⟨PD.below h3, fun W hW => HE.out W (((P0.out.bel_but bw).trans (h3.mono (by have := PD.pl.blk.lt; omega))).trans hW)⟩, (P0.out.bel_but bw).trans (h3.mono (by have := PD.pl.blk.lt; omega)), (P0.out.kt_but bw).trans (KT1.below h3), hf0, fun e => ?_⟩
    have := hsp e
    revert this
    cases body_ne t q.2 with
    | some p => intro ⟨z, _⟩; exact absurd (h1.trans z) h2
    | none => intro _ hz; exact absurd hz h2
  · have hlen := (ad_zero.1 h2).2
    have bz := (P0.out.bel_but bw).trans (PD.bel_fw h6 (fun i hi => hi.elim (fun e => e ▸ wr0_g) (fun e => .inr (.inr (.inr e)))))
    refine ⟨er, _, q4, _, rfl, ⟨PD.add_ne (⟨tx0, tx1, tx2⟩ : Nea) hlen h3 h4 h5 h6, fun W hW => HE.out W (bz.trans hW)⟩, bz, (P0.out.kt_but bw).trans (PD.kt_fw h6 (fun i hi => hi.elim (fun e => e ▸ wr0_g) (fun e => .inr (.inr (.inr e))))), hf0, fun e => ?_⟩
    have := hsp e
    revert this
    cases body_ne t q.2 with
    | some p => intro ⟨_, z1, z2⟩; exact ⟨h1, z1, z2⟩
    | none => intro z _; exact z h2
end Go.Proofs.YtpmmchppfmojhaaGreatDoor


/- Of the program's table parser: locale. -/
namespace Go.Proofs.YtpmmchppfmojhaaGreatDoor
open Go.RowKit
set_option linter.unusedVariables false

/-! ### Plain -/
def TailR (f : Nat) (x : Loc) (l : Ts) : Option (Loc × Ts) := thn (itemsP f x l) fun x r => thn (mkP 125 r) fun _ r => some (x, r)
def locR (tag par : Str) (l : Ts) : Option (Loc × Ts) := thn (mkP 123 l) fun _ r => TailR (r.length + 1) (loc0 tag par) r
theorem loc_split (l : Ts) : locP l = thn (tk1 1 l) fun tag r => thn (parP r) fun par r => locR tag par r := rfl
theorem isS_hd {kd : Nat} {t : Str} {l : Ts} (hk : kd ≠ 0) (h : isS kd t l = true) : ∃ r, l = (kd, t) :: r := by
  unfold isS at h
  simp only [Bool.and_eq_true, beq_iff_eq, decide_eq_true_eq] at h
  cases l with
  | nil => exact absurd h.1.symm hk
  | cons u r =>
    obtain ⟨u1, u2⟩ := u
    have h1 : u1 = kd := h.1
    have h2 : u2 = t := h.2
    exact ⟨r, by rw [h1, h2]⟩
theorem tail_end {f : Nat} {x : Loc} {l : Ts} (h : isS 3 [125] l = true) (hf : l.length < f) : TailR f x l = some (x, l.tail) := by
  obtain ⟨r, rfl⟩ := isS_hd (by decide) h
  obtain ⟨f, rfl⟩ : ∃ f', f = f' + 1 := ⟨f - 1, by omega⟩
  unfold TailR
  rw [itemsP, if_neg (by simp), thn_some, mkP_cons]
  rfl
theorem tail_go {f : Nat} {x y : Loc} {l r : Ts} (h : itemP x l = some (y, r)) (hf : l.length < f) : r.length < f - 1 ∧ TailR f x l = TailR (f - 1) y r := by
  obtain ⟨h1, h2⟩ := item_lt h
  obtain ⟨f, rfl⟩ : ∃ f', f = f' + 1 := ⟨f - 1, by omega⟩
  refine ⟨by omega, ?_⟩
  unfold TailR
  rw [itemsP, if_pos h2, h, thn_some]
  rfl
theorem tail_no {f : Nat} {x : Loc} {l : Ts} (h : itemP x l = none) (hn : isS 3 [125] l = false) (hf : l.length < f) : TailR f x l = none := by
  obtain ⟨f, rfl⟩ : ∃ f', f = f' + 1 := ⟨f - 1, by omega⟩
  unfold TailR
  rw [itemsP]
  by_cases h1 : l.head?.map Prod.fst = some 1
  · rw [if_pos h1, h]; rfl
  · rw [if_neg h1, thn_some]
    have hm : mkP 125 l = none := by
      cases l with
      | nil => rfl
      | cons u r =>
        obtain ⟨k, t⟩ := u
        unfold mkP
        by_cases hk : k = 3
        · rw [show tk1 3 ((k, t) :: r) = some (t, r) from if_pos hk, thn_some]
          rw [if_neg (fun e => by
            unfold isS at hn
            rw [show (hdK ((k, t) :: r)).1 = k from rfl, show (hdK ((k, t) :: r)).2 = t from rfl, hk, e] at hn
            simp at hn)]
        · rw [show tk1 3 ((k, t) :: r) = none from if_neg hk]; rfl
    rw [hm]; rfl
/-- What is left to read, as long as there is no error. -/
def mtk (g : Nat) (w : World) : Nat := match w.cell? ⟨g, 21, none⟩ with
  | some (.int _ f) => if f = 0 then (match w.cell? ⟨g, 0, none⟩ with
    | some (.slice _ n _) => n
    | _ => 0) else 0
  | _ => 0
theorem mtk_ok {g B0 : Nat} {m : PMem} {ts : List KT} {w : World} (h : PL g B0 m true ts w) : mtk g w = ts.length + 1 := by
  have h1 : w.cell? ⟨g, 21, none⟩ = some (.int .i64 m.f) := h.blk.cell 21
  have h2 : w.cell? ⟨g, 0, none⟩ = some (.slice m.tk.a m.tk.n m.tk.c) := h.blk.cell 0
  unfold mtk
  rw [h1, h2]
  dsimp only
  rw [if_pos (h.f.2 rfl), h.tk.len]
theorem mtk_no {g B0 : Nat} {m : PMem} {ts : List KT} {w : World} (h : PL g B0 m false ts w) : mtk g w = 0 := by
  have h1 : w.cell? ⟨g, 21, none⟩ = some (.int .i64 m.f) := h.blk.cell 21
  unfold mtk
  rw [h1]
  dsimp only
  rw [if_neg (fun e => by have := h.f.1 e; cases this)]
theorem mtk_le {g B0 : Nat} {m : PMem} {q : Bool × List KT} {w : World} (h : PL g B0 m q.1 q.2 w) {n : Nat} (hn : q.1 = true → q.2.length < n) (h0 : 0 < n + 1) : mtk g w < n + 1 := by
  obtain ⟨b, ts⟩ := q
  cases b with
  | true => rw [mtk_ok h]; have := hn rfl; dsimp only at this ⊢; omega
  | false => rw [mtk_no h]; omega
def LoI (g B0 : Nat) (t : Tab) (w : World) (R : Option (Loc × Ts)) (CH : Value) (v : Value) (wr : World) : Prop :=
  v = CH ∧ ∃ (m : PMem) (q : Bool × List KT) (x : Loc) (f : Nat), (CxI g B0 t).F q x m wr ∧ ChR wr CH itemsL ∧ Below g w wr ∧ KT1 w wr ∧ (q.1 = true → q.2.length < f ∧ R = TailR f x q.2) ∧ (q.1 = false → R = none)
def ExP (R : Option (Loc × Ts)) (q : Bool × List KT) (x : Loc) : Prop := match R with
    | some (x2, r) => q = (true, r) ∧ x = x2
    | none => q.1 = false
theorem mk_end {R : Option (Loc × Ts)} {q : Bool × List KT} {x : Loc} (h1 : q.1 = true → R = some (x, q.2.tail) ∧ isS 3 [125] q.2 = true) (h2 : q.1 = false → R = none) : ExP R (mkS [125] q) x := by
  obtain ⟨b, l⟩ := q
  cases b with
  | true =>
    obtain ⟨e1, e2⟩ := h1 rfl
    rw [e1]
    obtain ⟨r, rfl⟩ := isS_hd (by decide) e2
    exact ⟨rfl, rfl⟩
  | false =>
    rw [h2 rfl]
    exact mk_f _ rfl
/-- The head of a locale: the tag and the parent. -/
theorem head_par (l : List KT) {q0 q1 q2 q3 : Bool × List KT} (h0 : q0 = (true, l)) (h1 : q1 = rdS 1 q0) (hi : isS 1 kPar q1.2 = true) (h2 : q2 = nxS q1) (h3 : q3 = rdS 1 q2) {q4 : Bool × List KT} (h4 : q4 = mkS [123] q3) {R : Option (Loc × Ts)} (hR : R = if q4.1 = true then TailR (q4.2.length + 1) (loc0 (hdK q0.2).2 (hdK q2.2).2) q4.2 else none) : locP l = R := by
  subst h0
  rw [loc_split]
  have k0 := lk_rd (kd := 1) (by decide) l
  cases e0 : tk1 1 l with
  | none =>
    rw [e0] at k0
    have f4 : q4.1 = false := by rw [h4]; refine mk_f _ ?_; rw [h3]; refine rd_f 1 ?_; rw [h2]; refine nx_f ?_; rw [h1]; exact k0
    rw [hR, f4]
    rfl
  | some p0 =>
    obtain ⟨t0, r0⟩ := p0
    rw [e0] at k0
    obtain ⟨a0, b0⟩ := k0
    have g1 : q1 = (true, r0) := by rw [h1]; exact a0
    subst g1
    rw [thn_some]
    obtain ⟨r1, rfl⟩ := isS_hd (by decide) hi
    have g2 : q2 = (true, r1) := by rw [h2]; rfl
    subst g2
    dsimp only at hR b0
    rw [b0] at hR
    unfold parP
    rw [if_pos (show ((1, kPar) :: r1 : Ts).head? = some (1, kPar) from rfl), show tk1 1 ((1, kPar) :: r1) = some (kPar, r1) from rfl, thn_some]
    have k2 := lk_rd (kd := 1) (by decide) r1
    cases e2 : tk1 1 r1 with
    | none =>
      rw [e2] at k2
      have f4 : q4.1 = false := by rw [h4]; refine mk_f _ ?_; rw [h3]; exact k2
      rw [hR, f4]
      rfl
    | some p2 =>
      obtain ⟨t2, r2⟩ := p2
      rw [e2] at k2
      obtain ⟨a2, b2⟩ := k2
      have g3 : q3 = (true, r2) := by rw [h3]; exact a2
      subst g3
      rw [b2] at hR
      rw [thn_some]
      unfold locR
      have k4 := lk_mk 123 r2
      cases e4 : mkP 123 r2 with
      | none =>
        rw [e4] at k4
        have f4 : q4.1 = false := by rw [h4]; exact k4
        rw [hR, f4]
        rfl
      | some p4 =>
        obtain ⟨_, r4⟩ := p4
        rw [e4] at k4
        have g4 : q4 = (true, r4) := by rw [h4]; exact k4
        rw [hR, g4]
        rfl
theorem head_no (l : List KT) {q0 q1 : Bool × List KT} (h0 : q0 = (true, l)) (h1 : q1 = rdS 1 q0) (hi : isS 1 kPar q1.2 = false) {q4 : Bool × List KT} (h4 : q4 = mkS [123] q1) {R : Option (Loc × Ts)} (hR : R = if q4.1 = true then TailR (q4.2.length + 1) (loc0 (hdK q0.2).2 []) q4.2 else none) : locP l = R := by
  subst h0
  rw [loc_split]
  have k0 := lk_rd (kd := 1) (by decide) l
  cases e0 : tk1 1 l with
  | none =>
    rw [e0] at k0
    have f4 : q4.1 = false := by rw [h4]; refine mk_f _ ?_; rw [h1]; exact k0
    rw [hR, f4]
    rfl
  | some p0 =>
    obtain ⟨t0, r0⟩ := p0
    rw [e0] at k0
    obtain ⟨a0, b0⟩ := k0
    have g1 : q1 = (true, r0) := by rw [h1]; exact a0
    subst g1
    dsimp only at hR b0 hi
    rw [b0] at hR
    rw [thn_some]
    unfold parP
    rw [if_neg (fun e => by
      cases r0 with
      | nil => cases e
      | cons u r =>
        have : u = (1, kPar) := by simpa using e
        subst this
        unfold isS at hi
        simp [hdK] at hi), thn_some]
    unfold locR
    have k4 := lk_mk 123 r0
    cases e4 : mkP 123 r0 with
    | none =>
      rw [e4] at k4
      have f4 : q4.1 = false := by rw [h4]; exact k4
      rw [hR, f4]
      rfl
    | some p4 =>
      obtain ⟨_, r4⟩ := p4
      rw [e4] at k4
      have g4 : q4 = (true, r4) := by rw [h4]; exact k4
      rw [hR, g4]
      rfl
theorem loc_end {g B0 : Nat} {t : Tab} {x : Loc} {q q5 : Bool × List KT} {m5 : PMem} {w w5 wz : World} {e : Ending} (P5 : PT g B0 m5 q5.1 q5.2 t w5) (KL : Kp (Up g (Wr0 g m5)) w5 (fun w => LocOk w m5.cu x)) (bw : Below g w w5) (kw : KT1 w w5) (E : ∀ W, Below g w W → EnvOf8 W) {raws : List RawLo} (o2 : raws.length = t.lo.length) (o3 : ∀ (i : Nat) (h : i < raws.length) (h' : i < t.lo.length), Kp (Up g (Wr0 g m5)) w5 (fun w => LocOk w raws[i] t.lo[i]))
    (hz : AdP 16 encLo g 1 86 51 (pcells m5) (.slice m5.lo.a m5.lo.n m5.lo.c) raws m5.cu 60 (raws.any (qLo m5.cu)) w5 e wz) (hf : q.1 = false → q5.1 = false) (hs : q.1 = true → ExP (locP q.2) q5 x) : ItG (CxT g B0) body_loc q t w e wz := by
  obtain ⟨er, rfl, hzz⟩ := hz
  rw [any_no (l := raws) (q := qLo m5.cu) (fun y _ => rfl), o2] at hzz
  rcases hzz with ⟨h1, h2, h3⟩ | ⟨h1, h2, a, c, h3, h4, h5, h6⟩
  · have bz : Below g w wz := bw.trans (h3.mono (by have := P5.pl.blk.lt; omega))
    refine ⟨er, _, q5, t, rfl, ⟨P5.below h3, fun W hW => E W (bz.trans hW)⟩, bz, kw.trans (KT1.below h3), hf, fun e => ?_⟩
    have := hs e
    revert this
    unfold body_loc
    cases locP q.2 with
    | none => intro hq5 _; exact hq5
    | some p =>
      obtain ⟨x2, r⟩ := p
      intro _
      rw [thn_some]
      by_cases hc : 60 ≤ t.lo.length
      · rw [if_pos hc]; intro hz; exact absurd hz h2
      · exfalso
        rw [ad_zero.2 ⟨rfl, by omega⟩] at h1
        exact h2 h1
  · have hlen := (ad_zero.1 h2).2
    have hX : ∀ i, (i = g ∨ ob m5.lo i) → Wr0 g m5 i := fun i hi => hi.elim (fun e => e ▸ wr0_g) (fun e => .inr (.inl e))
    have bz : Below g w wz := bw.trans (P5.bel_fw h6 hX)
    rw [← o2] at h3 h4 h5
    refine ⟨er, _, q5, _, rfl, ⟨P5.add_lo raws o2 m5.cu x KL o3 hlen h3 h4 h5 h6, fun W hW => E W (bz.trans hW)⟩, bz, kw.trans (P5.kt_fw h6 hX), hf, fun e => ?_⟩
    have := hs e
    revert this
    unfold body_loc
    cases locP q.2 with
    | none => intro hq5 _; exact hq5
    | some p =>
      obtain ⟨x2, r⟩ := p
      rintro ⟨z1, z2⟩
      rw [thn_some, if_neg (by omega)]
      exact ⟨h1, z1, by rw [z2]⟩
theorem cells16 (m : PMem) (tag : Str) : (((((((((((((((((pcells m).setIfInBounds 4 (.string (ofL tag))).setIfInBounds 5 (.string ⟨#[]⟩)).setIfInBounds 6 (.string ⟨#[]⟩)).setIfInBounds 7 (.slice none 0 0)).setIfInBounds 8 (.slice none 0 0)).setIfInBounds 9 (.string ⟨#[]⟩)).setIfInBounds 10 (.string ⟨#[]⟩)).setIfInBounds 11 (.string ⟨#[]⟩)).setIfInBounds 12 (.string ⟨#[]⟩)).setIfInBounds 13 (.int .i64 0)).setIfInBounds 14 (.int .i64 0)).setIfInBounds 15 (.slice none 0 0)).setIfInBounds 16 (.slice none 0 0)).setIfInBounds 17 (.slice none 0 0)).setIfInBounds 18 (.slice none 0 0)).setIfInBounds 19 (.slice none 0 0)) = pcells { m with cu := raw0 tag } := by
  unfold pcells
  simp only [List.setIfInBounds_toArray, List.set_cons_succ, List.set_cons_zero]
  rfl
theorem but16 (g : Nat) (w : World) (tag : Str) : But g w ((((((((((((((((w.setCell ⟨g, 4, none⟩ (.string (ofL tag))).setCell ⟨g, 5, none⟩ (.string ⟨#[]⟩)).setCell ⟨g, 6, none⟩ (.string ⟨#[]⟩)).setCell ⟨g, 7, none⟩ (.slice none 0 0)).setCell ⟨g, 8, none⟩ (.slice none 0 0)).setCell ⟨g, 9, none⟩ (.string ⟨#[]⟩)).setCell ⟨g, 10, none⟩ (.string ⟨#[]⟩)).setCell ⟨g, 11, none⟩ (.string ⟨#[]⟩)).setCell ⟨g, 12, none⟩ (.string ⟨#[]⟩)).setCell ⟨g, 13, none⟩ (.int .i64 0)).setCell ⟨g, 14, none⟩ (.int .i64 0)).setCell ⟨g, 15, none⟩ (.slice none 0 0)).setCell ⟨g, 16, none⟩ (.slice none 0 0)).setCell ⟨g, 17, none⟩ (.slice none 0 0)).setCell ⟨g, 18, none⟩ (.slice none 0 0)).setCell ⟨g, 19, none⟩ (.slice none 0 0)) := (((((((((((((((But.setCell g w 4 (.string (ofL tag))).trans (But.setCell g (w.setCell ⟨g, 4, none⟩ (.string (ofL tag))) 5 (.string ⟨#[]⟩))).trans (But.setCell g _ 6 (.string ⟨#[]⟩))).trans (But.setCell g _ 7 (.slice none 0 0))).trans (But.setCell g _ 8 (.slice none 0 0))).trans (But.setCell g _ 9 (.string ⟨#[]⟩))).trans (But.setCell g _ 10 (.string ⟨#[]⟩))).trans (But.setCell g _ 11 (.string ⟨#[]⟩))).trans (But.setCell g _ 12 (.string ⟨#[]⟩))).trans (But.setCell g _ 13 (.int .i64 0))).trans (But.setCell g _ 14 (.int .i64 0))).trans (But.setCell g _ 15 (.slice none 0 0))).trans (But.setCell g _ 16 (.slice none 0 0))).trans (But.setCell g _ 17 (.slice none 0 0))).trans (But.setCell g _ 18 (.slice none 0 0))).trans (But.setCell g _ 19 (.slice none 0 0))
theorem start16 {g B0 : Nat} {m : PMem} {ok : Bool} {ts : List KT} {t : Tab} {w : World} (h : PT g B0 m ok ts t w) (tag : Str) : PI g B0 { m with cu := raw0 tag } ok ts t (loc0 tag []) ((((((((((((((((w.setCell ⟨g, 4, none⟩ (.string (ofL tag))).setCell ⟨g, 5, none⟩ (.string ⟨#[]⟩)).setCell ⟨g, 6, none⟩ (.string ⟨#[]⟩)).setCell ⟨g, 7, none⟩ (.slice none 0 0)).setCell ⟨g, 8, none⟩ (.slice none 0 0)).setCell ⟨g, 9, none⟩ (.string ⟨#[]⟩)).setCell ⟨g, 10, none⟩ (.string ⟨#[]⟩)).setCell ⟨g, 11, none⟩ (.string ⟨#[]⟩)).setCell ⟨g, 12, none⟩ (.string ⟨#[]⟩)).setCell ⟨g, 13, none⟩ (.int .i64 0)).setCell ⟨g, 14, none⟩ (.int .i64 0)).setCell ⟨g, 15, none⟩ (.slice none 0 0)).setCell ⟨g, 16, none⟩ (.slice none 0 0)).setCell ⟨g, 17, none⟩ (.slice none 0 0)).setCell ⟨g, 18, none⟩ (.slice none 0 0)).setCell ⟨g, 19, none⟩ (.slice none 0 0)) := by
  have kb := ((((((((((((((((h.pl.blk.put 4 (.string (ofL tag))).put 5 (.string ⟨#[]⟩)).put 6 (.string ⟨#[]⟩)).put 7 (.slice none 0 0)).put 8 (.slice none 0 0)).put 9 (.string ⟨#[]⟩)).put 10 (.string ⟨#[]⟩)).put 11 (.string ⟨#[]⟩)).put 12 (.string ⟨#[]⟩)).put 13 (.int .i64 0)).put 14 (.int .i64 0)).put 15 (.slice none 0 0)).put 16 (.slice none 0 0)).put 17 (.slice none 0 0)).put 18 (.slice none 0 0)).put 19 (.slice none 0 0))
  rw [cells16] at kb
  exact h.start (but16 g w tag) tag kb
end Go.Proofs.YtpmmchppfmojhaaGreatDoor


/- Of the program's table parser: locale, walked. -/
namespace Go.Proofs.YtpmmchppfmojhaaGreatDoor
open Go.RowKit
set_option linter.unusedVariables false

set_option maxRecDepth 1000000 in
set_option maxHeartbeats 32000000 in
theorem locale_zfalse (g B0 : Nat) (q : Bool × List KT) (t : Tab) (m : PMem) (w : World) (h : (CxT g B0).F q t m w) (hpp : isS 1 kPar (rdS 1 q).2 = false) :
    Calls Tryz.prog 158 #[.pointer (some ⟨g, 0, none⟩)] w (ItG (CxT g B0) body_loc q t w) := by
  obtain ⟨q0, hq0⟩ : ∃ q0 : Bool × List KT, q = q0 := ⟨_, rfl⟩
  have HQ0 := Lib.hid hq0
  have hP : PT g B0 m q0.1 q0.2 t w := by rw [← hq0]; exact h.1
  have P0 := Lib.hid hP
  have HE := Lib.hid h.2
  have HPP := Lib.hid hpp
  clear h hq0 hP hpp
  go_enter Tryz.func158, Tryz.ntmps158
  go_wp2_with fail
  refine (word_z g B0 m q0.1 q0.2 _ P0.out.pl).mono ?_
  rintro e w1 ⟨rfl, hq⟩
  obtain ⟨q1, hq1⟩ : ∃ q' : Bool × List KT, q' = rdS 1 q0 := ⟨_, rfl⟩
  have HQ1 := Lib.hid hq1
  obtain ⟨m1, hs1, hp1, hb1⟩ := P0.out.read (q := q1) (by rw [hq1]; exact hq) (fun h => t_of (fun h => rd_f 1 h) (by rw [← hq1]; exact h))
  have P1 := Lib.hid hp1
  have B1 := Lib.hid hb1
  obtain ⟨tag, htag⟩ : ∃ tg, (hdK q0.2).2 = tg := ⟨_, rfl⟩
  have HT := Lib.hid htag
  rw [htag]
  clear hq hq1 hs1 hp1 hb1 htag
  have c4 : w1.cell? ⟨g, 4, none⟩ = some (.string (ofL m1.cu.tag)) := P1.out.pl.blk.cell 4
  have f4 : w1.frozen? ⟨g, 4, none⟩ = false := P1.out.pl.blk.frozen 4
  have c5 : w1.cell? ⟨g, 5, none⟩ = some (.string (ofL m1.cu.par)) := P1.out.pl.blk.cell 5
  have f5 : w1.frozen? ⟨g, 5, none⟩ = false := P1.out.pl.blk.frozen 5
  have c6 : w1.cell? ⟨g, 6, none⟩ = some (.string (ofL m1.cu.dir)) := P1.out.pl.blk.cell 6
  have f6 : w1.frozen? ⟨g, 6, none⟩ = false := P1.out.pl.blk.frozen 6
  have c7 : w1.cell? ⟨g, 7, none⟩ = some (.slice m1.cu.ca.a m1.cu.ca.n m1.cu.ca.c) := P1.out.pl.blk.cell 7
  have f7 : w1.frozen? ⟨g, 7, none⟩ = false := P1.out.pl.blk.frozen 7
  have c8 : w1.cell? ⟨g, 8, none⟩ = some (.slice m1.cu.oc.a m1.cu.oc.n m1.cu.oc.c) := P1.out.pl.blk.cell 8
  have f8 : w1.frozen? ⟨g, 8, none⟩ = false := P1.out.pl.blk.frozen 8
  have c9 : w1.cell? ⟨g, 9, none⟩ = some (.string (ofL m1.cu.sy.de)) := P1.out.pl.blk.cell 9
  have f9 : w1.frozen? ⟨g, 9, none⟩ = false := P1.out.pl.blk.frozen 9
  have c10 : w1.cell? ⟨g, 10, none⟩ = some (.string (ofL m1.cu.sy.gr)) := P1.out.pl.blk.cell 10
  have f10 : w1.frozen? ⟨g, 10, none⟩ = false := P1.out.pl.blk.frozen 10
  have c11 : w1.cell? ⟨g, 11, none⟩ = some (.string (ofL m1.cu.sy.mi)) := P1.out.pl.blk.cell 11
  have f11 : w1.frozen? ⟨g, 11, none⟩ = false := P1.out.pl.blk.frozen 11
  have c12 : w1.cell? ⟨g, 12, none⟩ = some (.string (ofL m1.cu.sy.pe)) := P1.out.pl.blk.cell 12
  have f12 : w1.frozen? ⟨g, 12, none⟩ = false := P1.out.pl.blk.frozen 12
  have c13 : w1.cell? ⟨g, 13, none⟩ = some (.int .i64 m1.cu.sy.pr) := P1.out.pl.blk.cell 13
  have f13 : w1.frozen? ⟨g, 13, none⟩ = false := P1.out.pl.blk.frozen 13
  have c14 : w1.cell? ⟨g, 14, none⟩ = some (.int .i64 m1.cu.sy.se) := P1.out.pl.blk.cell 14
  have f14 : w1.frozen? ⟨g, 14, none⟩ = false := P1.out.pl.blk.frozen 14
  have c15 : w1.cell? ⟨g, 15, none⟩ = some (.slice m1.cu.li.a m1.cu.li.n m1.cu.li.c) := P1.out.pl.blk.cell 15
  have f15 : w1.frozen? ⟨g, 15, none⟩ = false := P1.out.pl.blk.frozen 15
  have c16 : w1.cell? ⟨g, 16, none⟩ = some (.slice m1.cu.un.a m1.cu.un.n m1.cu.un.c) := P1.out.pl.blk.cell 16
  have f16 : w1.frozen? ⟨g, 16, none⟩ = false := P1.out.pl.blk.frozen 16
  have c17 : w1.cell? ⟨g, 17, none⟩ = some (.slice m1.cu.da.a m1.cu.da.n m1.cu.da.c) := P1.out.pl.blk.cell 17
  have f17 : w1.frozen? ⟨g, 17, none⟩ = false := P1.out.pl.blk.frozen 17
  have c18 : w1.cell? ⟨g, 18, none⟩ = some (.slice m1.cu.mo.a m1.cu.mo.n m1.cu.mo.c) := P1.out.pl.blk.cell 18
  have f18 : w1.frozen? ⟨g, 18, none⟩ = false := P1.out.pl.blk.frozen 18
  have c19 : w1.cell? ⟨g, 19, none⟩ = some (.slice m1.cu.dy.a m1.cu.dy.n m1.cu.dy.c) := P1.out.pl.blk.cell 19
  have f19 : w1.frozen? ⟨g, 19, none⟩ = false := P1.out.pl.blk.frozen 19
  have bS : But g w1 ((((((((((((((((w1.setCell ⟨g, 4, none⟩ (.string (ofL tag))).setCell ⟨g, 5, none⟩ (.string ⟨#[]⟩)).setCell ⟨g, 6, none⟩ (.string ⟨#[]⟩)).setCell ⟨g, 7, none⟩ (.slice none 0 0)).setCell ⟨g, 8, none⟩ (.slice none 0 0)).setCell ⟨g, 9, none⟩ (.string ⟨#[]⟩)).setCell ⟨g, 10, none⟩ (.string ⟨#[]⟩)).setCell ⟨g, 11, none⟩ (.string ⟨#[]⟩)).setCell ⟨g, 12, none⟩ (.string ⟨#[]⟩)).setCell ⟨g, 13, none⟩ (.int .i64 0)).setCell ⟨g, 14, none⟩ (.int .i64 0)).setCell ⟨g, 15, none⟩ (.slice none 0 0)).setCell ⟨g, 16, none⟩ (.slice none 0 0)).setCell ⟨g, 17, none⟩ (.slice none 0 0)).setCell ⟨g, 18, none⟩ (.slice none 0 0)).setCell ⟨g, 19, none⟩ (.slice none 0 0)) := but16 g w1 tag
  have PS := Lib.hid (start16 P1.out tag)
  have BS : Hid (But g w ((((((((((((((((w1.setCell ⟨g, 4, none⟩ (.string (ofL tag))).setCell ⟨g, 5, none⟩ (.string ⟨#[]⟩)).setCell ⟨g, 6, none⟩ (.string ⟨#[]⟩)).setCell ⟨g, 7, none⟩ (.slice none 0 0)).setCell ⟨g, 8, none⟩ (.slice none 0 0)).setCell ⟨g, 9, none⟩ (.string ⟨#[]⟩)).setCell ⟨g, 10, none⟩ (.string ⟨#[]⟩)).setCell ⟨g, 11, none⟩ (.string ⟨#[]⟩)).setCell ⟨g, 12, none⟩ (.string ⟨#[]⟩)).setCell ⟨g, 13, none⟩ (.int .i64 0)).setCell ⟨g, 14, none⟩ (.int .i64 0)).setCell ⟨g, 15, none⟩ (.slice none 0 0)).setCell ⟨g, 16, none⟩ (.slice none 0 0)).setCell ⟨g, 17, none⟩ (.slice none 0 0)).setCell ⟨g, 18, none⟩ (.slice none 0 0)).setCell ⟨g, 19, none⟩ (.slice none 0 0))) := Lib.hid (B1.out.trans bS)
  obtain ⟨WS, hWS⟩ : ∃ WS, ((((((((((((((((w1.setCell ⟨g, 4, none⟩ (.string (ofL tag))).setCell ⟨g, 5, none⟩ (.string ⟨#[]⟩)).setCell ⟨g, 6, none⟩ (.string ⟨#[]⟩)).setCell ⟨g, 7, none⟩ (.slice none 0 0)).setCell ⟨g, 8, none⟩ (.slice none 0 0)).setCell ⟨g, 9, none⟩ (.string ⟨#[]⟩)).setCell ⟨g, 10, none⟩ (.string ⟨#[]⟩)).setCell ⟨g, 11, none⟩ (.string ⟨#[]⟩)).setCell ⟨g, 12, none⟩ (.string ⟨#[]⟩)).setCell ⟨g, 13, none⟩ (.int .i64 0)).setCell ⟨g, 14, none⟩ (.int .i64 0)).setCell ⟨g, 15, none⟩ (.slice none 0 0)).setCell ⟨g, 16, none⟩ (.slice none 0 0)).setCell ⟨g, 17, none⟩ (.slice none 0 0)).setCell ⟨g, 18, none⟩ (.slice none 0 0)).setCell ⟨g, 19, none⟩ (.slice none 0 0)) = WS := ⟨_, rfl⟩
  have HWS := Lib.hid hWS
  rw [hWS] at PS BS
  clear bS hWS
  go_upto_region 2 with fail
  rw [HWS.out]
  clear HWS c4 f4 c5 f5 c6 f6 c7 f7 c8 f8 c9 f9 c10 f10 c11 f11 c12 f12 c13 f13 c14 f14 c15 f15 c16 f16 c17 f17 c18 f18 c19 f19
  go_wp2_with fail
  refine (is_z g B0 _ q1.1 q1.2 1 ⟨#[112, 97, 114, 101, 110, 116]⟩ _ PS.out.pl).mono ?_
  rw [show (ByteArray.mk #[112, 97, 114, 101, 110, 116]).data.toList = kPar from rfl]
  rintro e w' ⟨rfl, hw⟩
  obtain rfl := hw.symm
  have HBP : Hid (isS 1 kPar q1.2 = false) := Lib.hid (by rw [HQ1.out, ← HQ0.out]; exact HPP.out)
  rw [HBP.out]
  have B3 : Hid (Below g w WS) := Lib.hid (P0.out.bel_but BS.out)
  have K3 : Hid (KT1 w WS) := Lib.hid (P0.out.kt_but BS.out)
  have HF3 : Hid (q.1 = false → q1.1 = false) := Lib.hid (fun e => by rw [HQ1.out]; exact rd_f 1 (by rw [← HQ0.out]; exact e))
  go_wp2_with fail
  refine (mark_z g B0 _ q1.1 q1.2 ⟨#[123]⟩ _ PS.out.pl).mono ?_
  rw [show (ByteArray.mk #[123]).data.toList = [123] from rfl]
  rintro e w4 ⟨rfl, hq⟩
  obtain ⟨q4, hq4⟩ : ∃ q' : Bool × List KT, q' = mkS [123] q1 := ⟨_, rfl⟩
  have HQ4 := Lib.hid hq4
  obtain ⟨m4, hs4, hp4, hb4⟩ := PS.out.read (q := q4) (by rw [hq4]; exact hq) (fun h => t_of (fun h => mk_f _ h) (by rw [← hq4]; exact h))
  have P4 := Lib.hid hp4
  have B4 : Hid (Below g w w4) := Lib.hid (B3.out.trans (PS.out.bel_but hb4))
  have K4 : Hid (KT1 w w4) := Lib.hid (K3.out.trans (PS.out.kt_but hb4))
  clear hq hq4 hs4 hp4 hb4
  obtain ⟨R, hR⟩ : ∃ R : Option (Loc × Ts), R = if q4.1 = true then TailR (q4.2.length + 1) (loc0 tag []) q4.2 else none := ⟨_, rfl⟩
  have HRR := Lib.hid hR
  have HLP : Hid (q.1 = true → locP q.2 = R) := Lib.hid (fun e => head_no q.2 (q0 := q0) (by rw [← HQ0.out, ← e]) HQ1.out HBP.out HQ4.out (by rw [HT.out]; exact hR))
  have HRN : Hid (q.1 = false → R = none) := Lib.hid (fun e => by
    have f4 : q4.1 = false := by rw [HQ4.out]; exact mk_f _ (HF3.out e)
    rw [hR, f4]; rfl)
  clear hR
  go_wp2_with fail
  refine (items_any _).mono ?_
  rintro e wi ⟨⟨CH, rfl, hch⟩, hbi⟩
  have P4i := Lib.hid (P4.out.below hbi)
  have HL : Hid (LoI g B0 t w R CH CH wi) := Lib.hid ⟨rfl, m4, q4, loc0 tag [], q4.2.length + 1, ⟨P4.out.below hbi, fun W hW => HE.out W ((B4.out.trans (hbi.mono (by have := P4.out.pl.blk.lt; omega))).trans hW)⟩, hch, B4.out.trans (hbi.mono (by have := P4.out.pl.blk.lt; omega)), K4.out.trans (KT1.below hbi), fun e => ⟨Nat.lt_succ_self _, by rw [HRR.out, if_pos e]⟩, fun e => by rw [HRR.out, e]; rfl⟩
  clear hbi hch
  go_wp2_with fail
  go_loopw [23] (fun _ wr => LoI g B0 t w R CH CH wr) (fun _ wr => mtk g wr)
  case atStart => exact HL.out
  case round =>
    rename World => wr
    obtain ⟨_, mx, qx, xx, f, hF, hch, hbx, hkx, h1, h2⟩ := hrel
    have PX := Lib.hid hF
    have CX := Lib.hid hch
    have BX := Lib.hid hbx
    have KX := Lib.hid hkx
    have H1 := Lib.hid h1
    have H2 := Lib.hid h2
    have cf : wr.cell? ⟨g, 21, none⟩ = some (.int .i64 mx.f) := hF.1.pl.blk.cell 21
    clear hF hch hbx hkx h1 h2 HL
    by_cases hok : qx.1 = true
    case neg =>
      have hok' : qx.1 = false := by simpa using hok
      have e1 : (mx.f == 0) = false := by rw [beq_eq_false_iff_ne]; exact fun e => hok (PX.out.1.pl.f.1 e)
      have HEX := Lib.hid (mk_end (R := R) (q := qx) (x := xx) (fun e => absurd e hok) H2.out)
      clear hok hok'
      go_wp2_with fail
      refine (mark_z g B0 mx qx.1 qx.2 ⟨#[125]⟩ _ PX.out.1.pl).mono ?_
      rw [show (ByteArray.mk #[125]).data.toList = [125] from rfl]
      rintro e w5 ⟨rfl, hq⟩
      obtain ⟨q5, hq5⟩ : ∃ q' : Bool × List KT, q' = mkS [125] qx := ⟨_, rfl⟩
      have HQ5 := Lib.hid hq5
      obtain ⟨m5, hs5, hp5, hb5⟩ := PX.out.1.read (q := q5) (by rw [hq5]; exact hq) (fun h => t_of (fun h => mk_f _ h) (by rw [← hq5]; exact h))
      obtain ⟨pt5, kl5⟩ := hp5.fin
      have P5 := Lib.hid hp5
      have PT5 := Lib.hid pt5
      have KL5 := Lib.hid kl5
      have B5 : Hid (Below g w w5) := Lib.hid (BX.out.trans (PX.out.1.bel_but hb5))
      have K5 : Hid (KT1 w w5) := Lib.hid (KX.out.trans (PX.out.1.kt_but hb5))
      clear hq hq5 hs5 hb5
      have c4 : w5.cell? ⟨g, 4, none⟩ = some (.string (ofL m5.cu.tag)) := P5.out.pl.blk.cell 4
      have c5 : w5.cell? ⟨g, 5, none⟩ = some (.string (ofL m5.cu.par)) := P5.out.pl.blk.cell 5
      have c6 : w5.cell? ⟨g, 6, none⟩ = some (.string (ofL m5.cu.dir)) := P5.out.pl.blk.cell 6
      have c7 : w5.cell? ⟨g, 7, none⟩ = some (.slice m5.cu.ca.a m5.cu.ca.n m5.cu.ca.c) := P5.out.pl.blk.cell 7
      have c8 : w5.cell? ⟨g, 8, none⟩ = some (.slice m5.cu.oc.a m5.cu.oc.n m5.cu.oc.c) := P5.out.pl.blk.cell 8
      have c9 : w5.cell? ⟨g, 9, none⟩ = some (.string (ofL m5.cu.sy.de)) := P5.out.pl.blk.cell 9
      have c10 : w5.cell? ⟨g, 10, none⟩ = some (.string (ofL m5.cu.sy.gr)) := P5.out.pl.blk.cell 10
      have c11 : w5.cell? ⟨g, 11, none⟩ = some (.string (ofL m5.cu.sy.mi)) := P5.out.pl.blk.cell 11
      have c12 : w5.cell? ⟨g, 12, none⟩ = some (.string (ofL m5.cu.sy.pe)) := P5.out.pl.blk.cell 12
      have c13 : w5.cell? ⟨g, 13, none⟩ = some (.int .i64 m5.cu.sy.pr) := P5.out.pl.blk.cell 13
      have c14 : w5.cell? ⟨g, 14, none⟩ = some (.int .i64 m5.cu.sy.se) := P5.out.pl.blk.cell 14
      have c15 : w5.cell? ⟨g, 15, none⟩ = some (.slice m5.cu.li.a m5.cu.li.n m5.cu.li.c) := P5.out.pl.blk.cell 15
      have c16 : w5.cell? ⟨g, 16, none⟩ = some (.slice m5.cu.un.a m5.cu.un.n m5.cu.un.c) := P5.out.pl.blk.cell 16
      have c17 : w5.cell? ⟨g, 17, none⟩ = some (.slice m5.cu.da.a m5.cu.da.n m5.cu.da.c) := P5.out.pl.blk.cell 17
      have c18 : w5.cell? ⟨g, 18, none⟩ = some (.slice m5.cu.mo.a m5.cu.mo.n m5.cu.mo.c) := P5.out.pl.blk.cell 18
      have c19 : w5.cell? ⟨g, 19, none⟩ = some (.slice m5.cu.dy.a m5.cu.dy.n m5.cu.dy.c) := P5.out.pl.blk.cell 19
      obtain ⟨raws, o1, o2, o3⟩ := pt5.p0.lo
      have hl1 := pt5.bt.lo
      have HAD := Lib.hid (fun wx (hw : Below w5.heap.size w5 wx) => addLo_any g 1 86 (by decide) (pcells m5) (.slice m5.lo.a m5.lo.n m5.lo.c) raws m5.cu 60 (qLo m5.cu) 34 (enters_of Tryz.func34 (by kernel_rfl) rfl) wx (Blk.below PT5.out.pl.blk hw) rfl (Own1.below o1 hw) (by omega) (fun W1 y _ => alikeLo_any _ y W1))
      have O2 := Lib.hid o2
      have O3 := Lib.hid o3
      clear hl1 pt5 kl5 hp5 o1 o2 o3
      go_wp2_with fail
      refine region_stail 8 (by kernel_rfl) (by decide +kernel) ?_
      simp only [List.take_succ_cons, List.take_zero, List.drop_succ_cons, List.drop_zero]
      iterate 8 still_step
      refine wpStill_nil ?_
      go_wp2_with fail
      refine (HAD.out _ (below_drewN (Below.refl _ _) 1)).mono ?_
      rintro e wz hz
      have HZ := Lib.hid hz
      obtain ⟨er, rfl, _⟩ := hz
      clear c4 c5 c6 c7 c8 c9 c10 c11 c12 c13 c14 c15 c16 c17 c18 c19
      go_wp2
      go_ret
      have bd := below_drewN (Below.refl w5.heap.size w5) 1
      refine loc_end (PT5.out.below bd) (KL5.out.below bd) (B5.out.trans (bd.mono (by have := PT5.out.pl.blk.lt; omega))) (K5.out.trans (KT1.below bd)) HE.out O2.out (fun i a b => (O3.out i a b).below bd) HZ.out (fun e => ?_) (fun e => ?_)
      · rw [HQ5.out]
        have := HEX.out
        rw [HRN.out e] at this
        exact this
      · rw [HLP.out e, HQ5.out]
        exact HEX.out

    case pos =>
      have e1 : (mx.f == 0) = true := by rw [beq_iff_eq]; exact PX.out.1.pl.f.2 hok
      have HOK := Lib.hid hok
      clear hok
      go_wp2_with fail
      refine (is_z g B0 mx qx.1 qx.2 3 ⟨#[125]⟩ _ PX.out.1.pl).mono ?_
      rw [show (ByteArray.mk #[125]).data.toList = [125] from rfl]
      rintro e w' ⟨rfl, hw⟩
      obtain rfl := hw.symm
      obtain ⟨bb, hbb⟩ : ∃ bb, isS 3 [125] qx.2 = bb := ⟨_, rfl⟩
      have HBB := Lib.hid hbb
      rw [hbb]
      clear hbb cf e1
      cases bb with
      | true =>
        have HEX := Lib.hid (mk_end (R := R) (q := qx) (x := xx) (fun e => ⟨by rw [(H1.out e).2]; exact tail_end HBB.out (H1.out e).1, HBB.out⟩) H2.out)
        go_wp2_with fail
        refine (mark_z g B0 mx qx.1 qx.2 ⟨#[125]⟩ _ PX.out.1.pl).mono ?_
        rw [show (ByteArray.mk #[125]).data.toList = [125] from rfl]
        rintro e w5 ⟨rfl, hq⟩
        obtain ⟨q5, hq5⟩ : ∃ q' : Bool × List KT, q' = mkS [125] qx := ⟨_, rfl⟩
        have HQ5 := Lib.hid hq5
        obtain ⟨m5, hs5, hp5, hb5⟩ := PX.out.1.read (q := q5) (by rw [hq5]; exact hq) (fun h => t_of (fun h => mk_f _ h) (by rw [← hq5]; exact h))
        obtain ⟨pt5, kl5⟩ := hp5.fin
        have P5 := Lib.hid hp5
        have PT5 := Lib.hid pt5
        have KL5 := Lib.hid kl5
        have B5 : Hid (Below g w w5) := Lib.hid (BX.out.trans (PX.out.1.bel_but hb5))
        have K5 : Hid (KT1 w w5) := Lib.hid (KX.out.trans (PX.out.1.kt_but hb5))
        clear hq hq5 hs5 hb5
        have c4 : w5.cell? ⟨g, 4, none⟩ = some (.string (ofL m5.cu.tag)) := P5.out.pl.blk.cell 4
        have c5 : w5.cell? ⟨g, 5, none⟩ = some (.string (ofL m5.cu.par)) := P5.out.pl.blk.cell 5
        have c6 : w5.cell? ⟨g, 6, none⟩ = some (.string (ofL m5.cu.dir)) := P5.out.pl.blk.cell 6
        have c7 : w5.cell? ⟨g, 7, none⟩ = some (.slice m5.cu.ca.a m5.cu.ca.n m5.cu.ca.c) := P5.out.pl.blk.cell 7
        have c8 : w5.cell? ⟨g, 8, none⟩ = some (.slice m5.cu.oc.a m5.cu.oc.n m5.cu.oc.c) := P5.out.pl.blk.cell 8
        have c9 : w5.cell? ⟨g, 9, none⟩ = some (.string (ofL m5.cu.sy.de)) := P5.out.pl.blk.cell 9
        have c10 : w5.cell? ⟨g, 10, none⟩ = some (.string (ofL m5.cu.sy.gr)) := P5.out.pl.blk.cell 10
        have c11 : w5.cell? ⟨g, 11, none⟩ = some (.string (ofL m5.cu.sy.mi)) := P5.out.pl.blk.cell 11
        have c12 : w5.cell? ⟨g, 12, none⟩ = some (.string (ofL m5.cu.sy.pe)) := P5.out.pl.blk.cell 12
        have c13 : w5.cell? ⟨g, 13, none⟩ = some (.int .i64 m5.cu.sy.pr) := P5.out.pl.blk.cell 13
        have c14 : w5.cell? ⟨g, 14, none⟩ = some (.int .i64 m5.cu.sy.se) := P5.out.pl.blk.cell 14
        have c15 : w5.cell? ⟨g, 15, none⟩ = some (.slice m5.cu.li.a m5.cu.li.n m5.cu.li.c) := P5.out.pl.blk.cell 15
        have c16 : w5.cell? ⟨g, 16, none⟩ = some (.slice m5.cu.un.a m5.cu.un.n m5.cu.un.c) := P5.out.pl.blk.cell 16
        have c17 : w5.cell? ⟨g, 17, none⟩ = some (.slice m5.cu.da.a m5.cu.da.n m5.cu.da.c) := P5.out.pl.blk.cell 17
        have c18 : w5.cell? ⟨g, 18, none⟩ = some (.slice m5.cu.mo.a m5.cu.mo.n m5.cu.mo.c) := P5.out.pl.blk.cell 18
        have c19 : w5.cell? ⟨g, 19, none⟩ = some (.slice m5.cu.dy.a m5.cu.dy.n m5.cu.dy.c) := P5.out.pl.blk.cell 19
        obtain ⟨raws, o1, o2, o3⟩ := pt5.p0.lo
        have hl1 := pt5.bt.lo
        have HAD := Lib.hid (fun wx (hw : Below w5.heap.size w5 wx) => addLo_any g 1 86 (by decide) (pcells m5) (.slice m5.lo.a m5.lo.n m5.lo.c) raws m5.cu 60 (qLo m5.cu) 34 (enters_of Tryz.func34 (by kernel_rfl) rfl) wx (Blk.below PT5.out.pl.blk hw) rfl (Own1.below o1 hw) (by omega) (fun W1 y _ => alikeLo_any _ y W1))
        have O2 := Lib.hid o2
        have O3 := Lib.hid o3
        clear hl1 pt5 kl5 hp5 o1 o2 o3
        go_wp2_with fail
        refine region_stail 8 (by kernel_rfl) (by decide +kernel) ?_
        simp only [List.take_succ_cons, List.take_zero, List.drop_succ_cons, List.drop_zero]
        iterate 8 still_step
        refine wpStill_nil ?_
        go_wp2_with fail
        refine (HAD.out _ (below_drewN (Below.refl _ _) 1)).mono ?_
        rintro e wz hz
        have HZ := Lib.hid hz
        obtain ⟨er, rfl, _⟩ := hz
        clear c4 c5 c6 c7 c8 c9 c10 c11 c12 c13 c14 c15 c16 c17 c18 c19
        go_wp2
        go_ret
        have bd := below_drewN (Below.refl w5.heap.size w5) 1
        refine loc_end (PT5.out.below bd) (KL5.out.below bd) (B5.out.trans (bd.mono (by have := PT5.out.pl.blk.lt; omega))) (K5.out.trans (KT1.below bd)) HE.out O2.out (fun i a b => (O3.out i a b).below bd) HZ.out (fun e => ?_) (fun e => ?_)
        · rw [HQ5.out]
          have := HEX.out
          rw [HRN.out e] at this
          exact this
        · rw [HLP.out e, HQ5.out]
          exact HEX.out

      | false =>
        have HME : Hid (mtk g wr = qx.2.length + 1) := Lib.hid (mtk_ok (m := mx) (B0 := B0) (by have := PX.out.1.pl; rw [HOK.out] at this; exact this))
        go_wp2_with fail
        refine (statementI_z g B0 t _ qx xx mx _ PX.out CX.out).mono ?_
        rintro e w6 ⟨rfl, m6, q6, x6, hF6, hb6, hk6, hz6, hs6⟩
        have hs6' := hs6 HOK.out
        have HLT : Hid (q6.1 = true → q6.2.length < qx.2.length) := Lib.hid (fun e => by
          revert hs6'
          cases hi : itemP xx qx.2 with
          | none => intro hh; rw [hh] at e; cases e
          | some p => rintro ⟨z1, _⟩; rw [z1]; exact (item_lt hi).1)
        have HN : Hid (LoI g B0 t w R CH CH w6) := Lib.hid ⟨rfl, m6, q6, x6, f - 1, hF6, CX.out.kt hk6, BX.out.trans hb6, KX.out.trans hk6, fun e => by
          obtain ⟨y1, y2⟩ := H1.out HOK.out
          revert hs6'
          cases hi : itemP xx qx.2 with
          | none => intro hh; rw [hh] at e; cases e
          | some p =>
            obtain ⟨x2, r2⟩ := p
            rintro ⟨z1, z2⟩
            obtain ⟨u1, u2⟩ := tail_go hi y1
            rw [z1, z2]
            exact ⟨u1, y2.trans u2⟩, fun e => by
          obtain ⟨y1, y2⟩ := H1.out HOK.out
          revert hs6'
          cases hi : itemP xx qx.2 with
          | none => intro _; rw [y2]; exact tail_no hi HBB.out y1
          | some p =>
            rintro ⟨z1, _⟩
            rw [z1] at e
            cases e⟩
        have HPL := Lib.hid hF6.1.pl
        clear hF6 hb6 hk6 hz6 hs6 hs6'
        go_wp2
        go_roundw
        case measure =>
          rw [HME.out]
          exact mtk_le HPL.out HLT.out (by omega)
        case rel => exact HN.out

end Go.Proofs.YtpmmchppfmojhaaGreatDoor


