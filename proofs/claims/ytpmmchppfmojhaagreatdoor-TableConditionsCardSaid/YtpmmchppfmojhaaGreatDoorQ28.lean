/- What the row stands on, part 28. -/
import Derived.Lib.AppendZerosOnto
import Derived.Lib.SliceRun
import Derived.Lib.Walk
import Derived.Test.YtpmmchppfmojhaaGreatDoorQ27

/- Of the program's table package: lists of tokens made and joined. -/
namespace Go.Proofs.YtpmmchppfmojhaaGreatDoor
open Go.RowKit
set_option linter.unusedVariables false

/-! ### An array told by a function -/
def FnT (B : Nat) (t : TypeId) (n : Nat) (f : Nat → Value) (w : World) : Prop := ∃ cs : Array Value, Blk B t cs w ∧ cs.size = n ∧ ∀ i, i < n → cs[i]? = some (f i)
def updT (f : Nat → Value) (i : Nat) (u : Value) : Nat → Value := fun j => if j = i then u else f j
section
variable {B : Nat} {t : TypeId} {n : Nat} {f : Nat → Value} {w w' : World}
theorem FnT.lt (h : FnT B t n f w) : B < w.heap.size := by
  obtain ⟨cs, h, _⟩ := h
  exact h.lt
theorem FnT.cell (h : FnT B t n f w) {i : Nat} (hi : i < n) : w.cell? ⟨B, i, none⟩ = some (f i) := by
  obtain ⟨cs, h, _, hc⟩ := h
  rw [h.cell]
  exact hc i hi
theorem FnT.frozen (h : FnT B t n f w) (i : Nat) : w.frozen? ⟨B, i, none⟩ = false := by
  obtain ⟨cs, h, _⟩ := h
  exact h.frozen i
theorem FnT.put (h : FnT B t n f w) {i : Nat} (hi : i < n) (u : Value) : FnT B t n (updT f i u) (w.setCell ⟨B, i, none⟩ u) := by
  obtain ⟨cs, h, h2, h3⟩ := h
  refine ⟨cs.setIfInBounds i u, h.put i u, by simp [h2], fun j hj => ?_⟩
  rw [Array.getElem?_setIfInBounds]
  unfold updT
  by_cases e : i = j
  · subst e
    simp [h2, hi]
  · rw [if_neg e, if_neg (fun e2 => e e2.symm)]
    exact h3 j hj
theorem FnT.congr {g : Nat → Value} (h : FnT B t n f w) (he : ∀ i, i < n → f i = g i) : FnT B t n g w := by
  obtain ⟨cs, h, h2, h3⟩ := h
  exact ⟨cs, h, h2, fun i hi => by rw [h3 i hi, he i hi]⟩
end
theorem fnT_made (w : World) (t : TypeId) (z : Array Value) (n : Nat) (hz : 0 < z.size) : FnT w.heap.size t n (fun i => z[i % z.size]!) (w.alloc (.cells (madeCells z n) t)) :=
  ⟨madeCells z n, Blk.new w t _, size_madeCells z n, fun i hi => by simp [madeCells, hi]⟩
theorem make_fnT {P : Program} (T e : TypeId) (z : Value) (k by_ : Nat) (ht : P.underlying T = some (.slice e)) (hi : (P.info? e).map (fun i => (i.zero, i.size, i.bytes)) = some (some z, k, by_)) (hk : k ≤ 11) (hb : by_ ≤ 64) (n : Nat) (hn : n ≤ 1000000) (w : World) :
    (Instr.makeSlice T (.int .i64 (n : Int)) (.int .i64 (n : Int))).run P w = .ok (.slice (some ⟨w.heap.size, 0, none⟩) n n) (w.alloc (.cells (madeCells z.cells (n * k)) e)) := by
  obtain ⟨i0, h1, h2, h3, h4⟩ := info_parts hi
  have hbb : (i0.bytes : Int) * (n : Int) ≤ 281474976710656 := by
    rw [h4]
    have := Nat.mul_le_mul hb hn
    have e : ((by_ : Int) * (n : Int)) = ((by_ * n : Nat) : Int) := by simp
    rw [e]
    omega
  have hkk := Nat.mul_le_mul hn hk
  have := run_makeSlice (P := P) (w := w) T e i0 z ht h1 h2 .i64 .i64 (n : Int) (n : Int) (by omega) (Int.le_refl _) (by rw [h3]; simp; omega) hbb (by omega)
  rw [h3] at this
  simpa using this
/-! ### The tokens of strings -/
/-- The cell of a token. -/
def tkC (kd : Int) (s : Str) : Nat → Value
  | 0 => .int .i64 kd
  | 1 => .string (ofL s)
  | _ => .int .i64 0
/-- The cells, k tokens being written. -/
def tkF (kd : Int) (l : List Str) (k j : Nat) : Value := if j / 3 < k then tkC kd (l.getD (j / 3) []) (j % 3) else tkC 0 [] (j % 3)
theorem tkF_zero (kd : Int) (l : List Str) (j : Nat) : (#[Value.int .i64 0, .string ⟨#[]⟩, .int .i64 0] : Array Value)[j % 3]! = tkF kd l 0 j := by
  unfold tkF
  rw [if_neg (Nat.not_lt_zero _)]
  have h : j % 3 < 3 := Nat.mod_lt _ (by omega)
  obtain h | h | h : j % 3 = 0 ∨ j % 3 = 1 ∨ j % 3 = 2 := by omega
  · rw [h]; rfl
  · rw [h]; rfl
  · rw [h]; rfl
theorem tkF_next (kd : Int) (l : List Str) {k : Nat} (hk : k < l.length) (j : Nat) : updT (updT (updT (tkF kd l k) (k * 3) (.int .i64 kd)) (k * 3 + 1) (.string (ofL l[k]))) (k * 3 + 2) (.int .i64 0) j = tkF kd l (k + 1) j := by
  unfold updT tkF
  have hg : l.getD k [] = l[k] := by simp [hk]
  by_cases e2 : j = k * 3 + 2
  · subst e2
    rw [if_pos rfl, show (k * 3 + 2) / 3 = k by omega, show (k * 3 + 2) % 3 = 2 by omega, if_pos (by omega)]
    rfl
  · rw [if_neg e2]
    by_cases e1 : j = k * 3 + 1
    · subst e1
      rw [if_pos rfl, show (k * 3 + 1) / 3 = k by omega, show (k * 3 + 1) % 3 = 1 by omega, if_pos (by omega), hg]
      rfl
    · rw [if_neg e1]
      by_cases e0 : j = k * 3
      · subst e0
        rw [if_pos rfl, show (k * 3) / 3 = k by omega, show (k * 3) % 3 = 0 by omega, if_pos (by omega)]
        rfl
      · rw [if_neg e0]
        by_cases hj : j / 3 < k
        · rw [if_pos hj, if_pos (by omega)]
        · rw [if_neg hj, if_neg (by omega)]
def tksOf (kd : Int) (l : List Str) : List TkZ := l.map (fun s => ⟨kd, s, 0⟩)
theorem tks_rd {B : Nat} {t : TypeId} {kd : Int} {l : List Str} {w : World} (h : FnT B t (l.length * 3) (tkF kd l l.length) w) (hl : l.length ≤ 1000) : Rd 3 encZ w (.slice (some ⟨B, 0, none⟩) l.length l.length) (tksOf kd l) := by
  refine ⟨⟨_, _, by rw [tksOf, List.length_map], by rw [tksOf, List.length_map]; exact Nat.le_refl _, by omega, fun _ => ⟨B, 0, rfl, h.lt, fun i x hi j u hu => ?_⟩⟩, fun n c hv => by cases hv⟩
  unfold tksOf at hi
  rw [List.getElem?_map, Option.map_eq_some_iff] at hi
  obtain ⟨s, hs, rfl⟩ := hi
  obtain ⟨hil, hs'⟩ := List.getElem?_eq_some_iff.1 hs
  have hj : j < 3 := (List.getElem?_eq_some_iff.1 hu).1
  rw [h.cell (by omega)]
  unfold tkF
  rw [if_pos (by omega), show (0 + i * 3 + j) / 3 = i by omega, show (0 + i * 3 + j) % 3 = j by omega, show l.getD i [] = s by simp [hs]]
  obtain rfl | rfl | rfl : j = 0 ∨ j = 1 ∨ j = 2 := by omega
  · simpa [encZ, tkC] using hu
  · simpa [encZ, tkC] using hu
  · simpa [encZ, tkC] using hu
/-- A call that hands out tokens of its own. -/
abbrev TokL (l : List TkZ) (w : World) (e : Ending) (w' : World) : Prop := (∃ a c, e = .returned (.slice a l.length c) ∧ Rd 3 encZ w' (.slice a l.length c) l) ∧ Below w.heap.size w w'
theorem tksOf_len (kd : Int) (l : List Str) : (tksOf kd l).length = l.length := List.length_map _
theorem made_tk : (Value.agg #[.int .i64 0, .string ⟨#[]⟩, .int .i64 0]).cells = #[.int .i64 0, .string ⟨#[]⟩, .int .i64 0] := by rfl
set_option maxRecDepth 1000000 in
set_option maxHeartbeats 4000000 in
theorem tokensOf_any (kd : Int) (v : Value) (l : List Str) (w : World) (hv : Rd 1 encT w v l) (hl : l.length ≤ 1000) : Calls Tryz.prog 136 #[.int .i64 kd, v] w (TokL (tksOf kd l) w) := by
  obtain ⟨a1, c1, rfl, q1, q2⟩ := hv.slice
  have HV := Lib.hid hv
  have HL := Lib.hid hl
  have m1 := fun wx => make_fnT (P := Tryz.prog) 80 84 _ 3 32 Tryz.underlying80 Tryz.infoZt (by omega) (by omega) l.length (by omega) wx
  rw [made_tk] at m1
  have HF0 : Hid (FnT w.heap.size 84 (l.length * 3) (tkF kd l 0) (w.alloc (.cells (madeCells #[.int .i64 0, .string ⟨#[]⟩, .int .i64 0] (l.length * 3)) 84))) := Lib.hid ((fnT_made w 84 #[.int .i64 0, .string ⟨#[]⟩, .int .i64 0] (l.length * 3) (by decide)).congr (fun i _ => tkF_zero kd l i))
  have HB0 : Hid (Below w.heap.size w (w.alloc (.cells (madeCells #[.int .i64 0, .string ⟨#[]⟩, .int .i64 0] (l.length * 3)) 84))) := Lib.hid ((Below.refl _ _).alloc (Nat.le_refl _) _)
  have HE : Hid (∀ (B : Nat) (wx : World), FnT B 84 (l.length * 3) (tkF kd l l.length) wx → Rd 3 encZ wx (.slice (some ⟨B, 0, none⟩) (tksOf kd l).length l.length) (tksOf kd l)) := Lib.hid (fun B wx h => by rw [tksOf_len]; exact tks_rd h hl)
  have HTL : Hid ((tksOf kd l).length = l.length) := Lib.hid (tksOf_len kd l)
  obtain ⟨W0, hW0⟩ : ∃ W0, w.alloc (.cells (madeCells #[.int .i64 0, .string ⟨#[]⟩, .int .i64 0] (l.length * 3)) 84) = W0 := ⟨_, rfl⟩
  rw [hW0] at HF0 HB0
  have HW0 := Lib.hid hW0
  obtain ⟨g, hg⟩ : ∃ g, w.heap.size = g := ⟨_, rfl⟩
  have HG := Lib.hid hg
  rw [hg] at HF0
  have HGG : Hid (w.heap.size ≤ g) := Lib.hid (by omega)
  obtain ⟨T, hT⟩ : ∃ T, tksOf kd l = T := ⟨_, rfl⟩
  have HT := Lib.hid hT
  rw [hT] at HE HTL ⊢
  obtain ⟨n, hn⟩ : ∃ n, l.length = n := ⟨_, rfl⟩
  have HN := Lib.hid hn
  rw [hn] at HF0 HE HW0 HTL m1 ⊢
  have hlb : (n : Int) ≤ 1000 := by omega
  clear hv hl q1 q2 hW0 hg hT hn
  go_enter Tryz.func136, Tryz.ntmps136
  go_upto_region 2 with fail
  rw [HW0.out, HG.out]
  clear HW0 m1
  go_wp2_with fail
  go_loopw [13] (fun v13 wr => ∃ k : Nat, k ≤ n ∧ v13 = .int .i64 k ∧ FnT g 84 (n * 3) (tkF kd l k) wr ∧ Below w.heap.size w wr) (fun v13 _ => n - (intOf v13).toNat)
  case atStart => exact ⟨0, Nat.zero_le _, rfl, HF0.out, HB0.out⟩
  case round =>
    rename World => wr
    obtain ⟨k, hk, rfl, hf, hb⟩ := hrel
    have HBW := Lib.hid hb
    have HF := Lib.hid hf
    clear hb hf HF0 HB0
    by_cases hlt : k < n
    · have hlt2 : k < l.length := by rw [HN.out]; exact hlt
      obtain ⟨bk, off, rfl, g1, x0⟩ := (HV.out.below HBW.out).some_ k hlt2
      have c0 : wr.cell? ⟨bk, off + k, none⟩ = some (.string (ofL (l[k]'hlt2))) := by have := x0 0 _ rfl; rw [Nat.mul_one, Nat.add_zero] at this; exact this
      have h9 : (k : Int) < (n : Int) := by omega
      have HFN := Lib.hid ((((HF.out.put (i := k * 3) (by omega) (.int .i64 kd)).put (i := k * 3 + 1) (by omega) (.string (ofL (l[k]'hlt2)))).put (i := k * 3 + 2) (by omega) (.int .i64 0)).congr (fun j _ => tkF_next kd l hlt2 j))
      have HBN : Hid (∀ u1 u2 u3, Below w.heap.size w (((wr.setCell ⟨g, k * 3, none⟩ u1).setCell ⟨g, k * 3 + 1, none⟩ u2).setCell ⟨g, k * 3 + 2, none⟩ u3)) := Lib.hid (fun u1 u2 u3 => ((HBW.out.setCell (p := ⟨g, k * 3, none⟩) HGG.out u1).setCell (p := ⟨g, k * 3 + 1, none⟩) HGG.out u2).setCell (p := ⟨g, k * 3 + 2, none⟩) HGG.out u3)
      have f0 : wr.frozen? ⟨g, k * 3, none⟩ = false := HF.out.frozen _
      have f1 : wr.frozen? ⟨g, k * 3 + 1, none⟩ = false := HF.out.frozen _
      have f2 : wr.frozen? ⟨g, k * 3 + 2, none⟩ = false := HF.out.frozen _
      have d0 := HF.out.cell (i := k * 3) (by omega)
      have d1 := HF.out.cell (i := k * 3 + 1) (by omega)
      have d2 := HF.out.cell (i := k * 3 + 2) (by omega)
      obtain ⟨e0, he0⟩ : ∃ u, tkF kd l k (k * 3) = u := ⟨_, rfl⟩
      obtain ⟨e1', he1⟩ : ∃ u, tkF kd l k (k * 3 + 1) = u := ⟨_, rfl⟩
      obtain ⟨e2', he2⟩ : ∃ u, tkF kd l k (k * 3 + 2) = u := ⟨_, rfl⟩
      rw [he0] at d0
      rw [he1] at d1
      rw [he2] at d2
      obtain ⟨x, hx⟩ : ∃ x, ofL (l[k]'hlt2) = x := ⟨_, rfl⟩
      rw [hx] at c0 HFN
      clear x0 g1 he0 he1 he2 hx
      go_wp2_with fail
      go_roundw
      case measure => simp [intOf]; omega
      case rel => exact ⟨k + 1, by omega, by go_num, HFN.out, HBN.out _ _ _⟩
    · obtain rfl : k = n := by omega
      have h3 : ¬ (k : Int) < (k : Int) := by omega
      have HR := Lib.hid (HE.out _ _ HF.out)
      go_wp2
      go_ret
      exact ⟨⟨some ⟨g, 0, none⟩, k, by rw [HTL.out]; rfl, HR.out⟩, HBW.out⟩
end Go.Proofs.YtpmmchppfmojhaaGreatDoor


/- Of the program's table package: lists of tokens joined; lines. -/
namespace Go.Proofs.YtpmmchppfmojhaaGreatDoor
open Go.RowKit
set_option linter.unusedVariables false

/-! ### Lists of lists of tokens -/
def RdLL (w : World) (v : Value) (ls : List (List TkZ)) : Prop := ∃ raws : List RawS, Rd 1 encS w v raws ∧ raws.length = ls.length ∧ ∀ (i : Nat) (h : i < raws.length) (h' : i < ls.length), Rd 3 encZ w (.slice raws[i].a raws[i].n raws[i].c) ls[i]
theorem RdLL.below {w w' : World} {v : Value} {c : List (List TkZ)} (h : RdLL w v c) (hb : Below w.heap.size w w') : RdLL w' v c := by
  obtain ⟨raws, h1, h2, h3⟩ := h
  exact ⟨raws, h1.below hb, h2, fun i a b => (h3 i a b).below hb⟩
theorem RdLL.slice {w : World} {v : Value} {l : List (List TkZ)} (h : RdLL w v l) : ∃ a c, v = .slice a l.length c ∧ l.length ≤ c ∧ c ≤ 9223372036854775807 := by
  obtain ⟨raws, h1, h2, h3⟩ := h
  rw [← h2]
  exact h1.slice
theorem RdLL.at_ {w : World} {a : Option Addr} {n c : Nat} {l : List (List TkZ)} (h : RdLL w (.slice a n c) l) (i : Nat) (hi : i < l.length) :
    ∃ b off x1 x2, a = some ⟨b, off, none⟩ ∧ b < w.heap.size ∧ w.cell? ⟨b, off + i, none⟩ = some (.slice x1 l[i].length x2) ∧ Rd 3 encZ w (.slice x1 l[i].length x2) l[i] := by
  obtain ⟨raws, h1, h2, h3⟩ := h
  have hi' : i < raws.length := by omega
  obtain ⟨b, off, ha, hlt, hx⟩ := h1.some_ i hi'
  have h5 := h3 i hi' hi
  obtain ⟨x1, x2, hv, _⟩ := h5.slice
  injection hv with e1 e2 e3
  have g0 := hx 0 _ rfl
  rw [Nat.mul_one, Nat.add_zero] at g0
  rw [e2] at h5 g0
  exact ⟨b, off, raws[i].a, raws[i].c, ha, hlt, g0, h5⟩
theorem own_LL1 (w : World) (a : Option Addr) (n c : Nat) (l : List TkZ) (h : Rd 3 encZ w (.slice a n c) l) : RdLL (w.alloc (.cells #[.slice a n c] 80)) (.slice (some ⟨w.heap.size, 0, none⟩) 1 1) [l] := by
  have hb := (Below.refl w.heap.size w).alloc (Nat.le_refl _) (.cells #[.slice a n c] 80)
  have o : Own1 1 encS (w.alloc (.cells #[.slice a n c] 80)) w.heap.size 80 (.slice (some ⟨w.heap.size, 0, none⟩) 1 1) ([⟨a, n, c⟩] : List RawS) := ⟨by rfl, .inr ⟨w.heap.size, 1, #[.slice a n c], rfl, Nat.le_refl _, heap_alloc_new w _, Nat.le_refl _, by decide, rfl, rfl⟩⟩
  refine ⟨[⟨a, n, c⟩], o.rd (fun _ => rfl), rfl, fun i h1 h2 => ?_⟩
  obtain rfl : i = 0 := by simp at h1; exact h1
  exact h.below hb
theorem own_LL2 (w : World) (a a' : Option Addr) (n c n' c' : Nat) (l l' : List TkZ) (h : Rd 3 encZ w (.slice a n c) l) (h' : Rd 3 encZ w (.slice a' n' c') l') : RdLL (w.alloc (.cells #[.slice a n c, .slice a' n' c'] 80)) (.slice (some ⟨w.heap.size, 0, none⟩) 2 2) [l, l'] := by
  have hb := (Below.refl w.heap.size w).alloc (Nat.le_refl _) (.cells #[.slice a n c, .slice a' n' c'] 80)
  have o : Own1 1 encS (w.alloc (.cells #[.slice a n c, .slice a' n' c'] 80)) w.heap.size 80 (.slice (some ⟨w.heap.size, 0, none⟩) 2 2) ([⟨a, n, c⟩, ⟨a', n', c'⟩] : List RawS) := ⟨by rfl, .inr ⟨w.heap.size, 2, #[.slice a n c, .slice a' n' c'], rfl, Nat.le_refl _, heap_alloc_new w _, Nat.le_refl _, by decide, rfl, rfl⟩⟩
  refine ⟨[⟨a, n, c⟩, ⟨a', n', c'⟩], o.rd (fun _ => rfl), rfl, fun i h1 h2 => ?_⟩
  obtain rfl | rfl : i = 0 ∨ i = 1 := by simp at h1; omega
  · exact h.below hb
  · exact h'.below hb
theorem own_LL4 (w : World) (a a' b b' : Option Addr) (n c n' c' m d m' d' : Nat) (l l' k k' : List TkZ) (h : Rd 3 encZ w (.slice a n c) l) (h' : Rd 3 encZ w (.slice a' n' c') l') (g : Rd 3 encZ w (.slice b m d) k) (g' : Rd 3 encZ w (.slice b' m' d') k') : RdLL (w.alloc (.cells #[.slice a n c, .slice a' n' c', .slice b m d, .slice b' m' d'] 80)) (.slice (some ⟨w.heap.size, 0, none⟩) 4 4) [l, l', k, k'] := by
  have hb := (Below.refl w.heap.size w).alloc (Nat.le_refl _) (.cells #[.slice a n c, .slice a' n' c', .slice b m d, .slice b' m' d'] 80)
  have o : Own1 1 encS (w.alloc (.cells #[.slice a n c, .slice a' n' c', .slice b m d, .slice b' m' d'] 80)) w.heap.size 80 (.slice (some ⟨w.heap.size, 0, none⟩) 4 4) ([⟨a, n, c⟩, ⟨a', n', c'⟩, ⟨b, m, d⟩, ⟨b', m', d'⟩] : List RawS) := ⟨by rfl, .inr ⟨w.heap.size, 4, #[.slice a n c, .slice a' n' c', .slice b m d, .slice b' m' d'], rfl, Nat.le_refl _, heap_alloc_new w _, Nat.le_refl _, by decide, rfl, rfl⟩⟩
  refine ⟨[⟨a, n, c⟩, ⟨a', n', c'⟩, ⟨b, m, d⟩, ⟨b', m', d'⟩], o.rd (fun _ => rfl), rfl, fun i h1 h2 => ?_⟩
  obtain rfl | rfl | rfl | rfl : i = 0 ∨ i = 1 ∨ i = 2 ∨ i = 3 := by simp at h1; omega
  · exact h.below hb
  · exact h'.below hb
  · exact g.below hb
  · exact g'.below hb
/-! ### slices.Concat -/
theorem own_freshT (w : World) (n G : Nat) (hG : n ≤ G) (hG63 : G ≤ maxLen) (Z : Array Value) (hz : Z.size = 3) :
    Own1 3 encZ (w.alloc (.cells (Builtin.zeroCells Z n ++ Builtin.zeroCells Z (G - n)) 84)).drew w.heap.size 84 (.slice (some ⟨w.heap.size, 0, none⟩) 0 G) ([] : List TkZ) := by
  refine ⟨rfl, .inr ⟨w.heap.size, G, Builtin.zeroCells Z n ++ Builtin.zeroCells Z (G - n), rfl, Nat.le_refl _, heap_alloc_new w _, ?_⟩⟩
  refine ⟨Nat.zero_le _, hG63, ?_, ?_⟩
  · rw [Array.size_append, size_zeroCells, size_zeroCells, hz, ← Nat.add_mul]
    congr 1
    omega
  · simp
set_option maxRecDepth 1000000 in
set_option maxHeartbeats 8000000 in
theorem growT_any (n : Nat) (h0 : 0 < n) (h6 : n ≤ 100) (w : World) :
    Calls Tryz.prog 189 #[.slice none 0 0, .int .i64 (n : Int)] w fun e w' => ∃ v, e = .returned v ∧ Own1 3 encZ w' w.heap.size 84 v ([] : List TkZ) ∧ Below w.heap.size w w' := by
  obtain ⟨iR, hiR, hzR, hkR, hbR⟩ := info_parts Tryz.infoZt
  have h1 : ¬ ((n : Int) < 0) := by omega
  have h4 : (n : Int) > 0 := by omega
  obtain ⟨z, hz⟩ : ∃ z, z = Value.agg #[.int .i64 0, .string ⟨#[]⟩, .int .i64 0] := ⟨_, rfl⟩
  have hz4 : z.cells.size = 3 := by rw [hz]; rfl
  rw [← hz] at hzR
  obtain ⟨Z, hZ⟩ : ∃ Z, z.cells = Z := ⟨_, rfl⟩
  rw [hZ] at hz4
  have hold : (Builtin.firstCells iR.size 0 (.slice none 0 0)).run Tryz.prog w.drew = .ok #[] w.drew := run_firstCells_none w.drew iR.size 0 0 0
  have hrz : ∀ ty, (Builtin.append_ #[80, 3] ty #[.slice none 0 0, .int .i64 (n : Int)]).run Tryz.prog w = .ok (.slice (some ⟨w.heap.size, 0, none⟩) n (grownCap w n 0 84)) (w.alloc (.cells (Builtin.zeroCells Z n ++ Builtin.zeroCells Z (grownCap w n 0 84 - n)) 84)).drew := fun ty => by
    have h := Go.Lib.run_append_grow_zeros (P := Tryz.prog) w 80 3 ty 84 iR z .i64 .i64 Tryz.underlying80 Tryz.underlying3 hiR hzR none 0 0 [] hold n h0 (by omega) (by omega) (by omega) (by rw [hbR]; omega) (growslice_fits (by omega) (by rw [hbR]; omega))
    rw [Nat.zero_add, hZ] at h
    rw [h]
    have e0 : (([] : List Value).toArray ++ Builtin.zeroCells Z n ++ Builtin.zeroCells Z (grownCap w n 0 84 - n)) = Builtin.zeroCells Z n ++ Builtin.zeroCells Z (grownCap w n 0 84 - n) := by simp
    rw [e0]
    rfl
  have hGn : n ≤ grownCap w n 0 84 := grownCap_ge w _ _ _
  have hG63 : grownCap w n 0 84 ≤ maxLen := grownCap_le_maxLen w n 0 84 (by unfold maxLen; omega)
  obtain ⟨G, hG⟩ : ∃ G, G = grownCap w n 0 84 := ⟨_, rfl⟩
  rw [← hG] at hrz hGn hG63
  have HO := Lib.hid (own_freshT w n G hGn hG63 Z hz4)
  have HB := Lib.hid (Below.drew ((Below.refl w.heap.size w).alloc (Nat.le_refl _) (.cells (Builtin.zeroCells Z n ++ Builtin.zeroCells Z (G - n)) 84)))
  have hG64 : G ≤ 9223372036854775807 := by unfold maxLen at hG63; omega
  clear hold hG hZ hz hz4 hiR hzR hkR hbR hG63
  go_enter Tryz.func189, Tryz.ntmps189
  go_wp2_with (at_builtin; refine Go.Lib.wpList_append_run _ rfl _ _ _ _ rfl _ _ rfl rfl _ _ (hrz _) ?_)
  all_goals (go_ret; exact ⟨_, rfl, HO.out, HB.out⟩)
theorem flatZ_next {ls : List (List TkZ)} {k : Nat} (h : k < ls.length) : (ls.take (k + 1)).flatten = (ls.take k).flatten ++ ls[k] := by
  rw [List.take_succ_eq_append_getElem h, List.flatten_append]
  simp
theorem flatZ_le (ls : List (List TkZ)) (k : Nat) : (ls.take k).flatten.length ≤ ls.flatten.length := by
  have e : ls.flatten = (ls.take k).flatten ++ (ls.drop k).flatten := by rw [← List.flatten_append, List.take_append_drop]
  rw [e, List.length_append]
  omega
set_option maxRecDepth 1000000 in
set_option maxHeartbeats 8000000 in
theorem concatZ_any (ls : List (List TkZ)) (h0 : 0 < ls.flatten.length) (h6 : ls.flatten.length ≤ 100) (v : Value) (w : World) (hv : RdLL w v ls) :
    Calls Tryz.prog 135 #[v] w (TokL ls.flatten w) := by
  obtain ⟨iR, hiR, hzR, hkR, hbR⟩ := info_parts Tryz.infoZt
  obtain ⟨ac, cc, rfl, hc1, hc2⟩ := hv.slice
  have HU := Lib.hid hv
  have HC6 := Lib.hid h6
  have HC1 := Lib.hid h0
  have HFE : Hid ((ls.take ls.length).flatten = ls.flatten) := Lib.hid (by rw [List.take_length])
  have HZ0 : Hid ((ls.take 0).flatten = []) := Lib.hid rfl
  obtain ⟨F, hF⟩ : ∃ F, ls.flatten = F := ⟨_, rfl⟩
  have HF := Lib.hid hF
  rw [hF] at HC6 HC1 HFE ⊢
  obtain ⟨LN, hLN⟩ : ∃ LN, ls.length = LN := ⟨_, rfl⟩
  have HLN := Lib.hid hLN
  rw [hLN] at HU HFE hc1 ⊢
  clear hv h0 h6 hF hLN
  go_enter Tryz.func135, Tryz.ntmps135
  go_wp2
  go_loopw [3, 11] (fun v3 v11 wr => ∃ k : Nat, k ≤ LN ∧ v11 = .int .i64 k ∧ v3 = .int .i64 ((ls.take k).flatten.length : Nat) ∧ wr = w) (fun _ v11 _ => LN - (intOf v11).toNat)
  case atStart => exact ⟨0, Nat.zero_le _, rfl, by rw [HZ0.out]; rfl, rfl⟩
  case round =>
    rename World => wr
    obtain ⟨k, hk, rfl, rfl, hwr⟩ := hrel
    obtain rfl : w = wr := hwr.symm
    clear hwr
    obtain ⟨S, hS⟩ : ∃ S, (ls.take k).flatten.length = S := ⟨_, rfl⟩
    rw [hS]
    by_cases hlt : k < LN
    · have hlt2 : k < ls.length := by rw [HLN.out]; exact hlt
      obtain ⟨bk, off, x1, x2, rfl, hbk, c0, hcd⟩ := HU.out.at_ k hlt2
      have h9 : (k : Int) < (LN : Int) := by omega
      have HT : Hid ((ls.take (k + 1)).flatten.length = S + (ls[k]'hlt2).length) := Lib.hid (by rw [flatZ_next hlt2, List.length_append, hS])
      have HLE : Hid (S + (ls[k]'hlt2).length ≤ 100) := Lib.hid (by have h1 := flatZ_le ls (k + 1); rw [HT.out, HF.out] at h1; have := HC6.out; omega)
      obtain ⟨n, hn⟩ : ∃ n, (ls[k]'hlt2).length = n := ⟨_, rfl⟩
      rw [hn] at HT c0 HLE
      have h8 : ¬ ((S : Int) + (n : Int) < 0) := by omega
      have h7 : S + n ≤ 100 := HLE.out
      clear hn hS hcd hbk
      go_wp2
      go_roundw
      case measure => simp [intOf]; omega
      case rel => exact ⟨k + 1, by omega, by go_num, by rw [HT.out] <;> go_num, by first | rfl | trivial⟩
    · obtain rfl : k = LN := by omega
      have h3 : ¬ (k : Int) < (k : Int) := by omega
      have HSE : Hid (S = F.length) := Lib.hid (by rw [← hS, HFE.out])
      have HGR := Lib.hid (growT_any S (by rw [HSE.out]; exact HC1.out) (by rw [HSE.out]; exact HC6.out) w)
      clear hS
      go_wp2_with fail
      refine HGR.out.mono ?_
      rintro e w1 ⟨v1, rfl, ho, hb⟩
      have HO := Lib.hid ho
      have HB := Lib.hid hb
      clear ho hb
      go_wp2_with fail
      go_loopw [6, 27] (fun v6 v27 wr => ∃ (j : Nat), j ≤ k ∧ v27 = .int .i64 j ∧ Own1 3 encZ wr w.heap.size 84 v6 ((ls.take j).flatten) ∧ Below w.heap.size w wr) (fun _ v27 _ => k - (intOf v27).toNat)
      case atStart => exact ⟨0, Nat.zero_le _, rfl, by rw [HZ0.out]; exact HO.out, HB.out⟩
      case round =>
        rename World => wj
        obtain ⟨j, hj, rfl, ho, hb⟩ := hrel
        have HO2 := Lib.hid ho
        have HB2 := Lib.hid hb
        clear ho hb
        by_cases hlt : j < k
        · have hlt2 : j < ls.length := by rw [HLN.out]; exact hlt
          obtain ⟨bk, off, x1, x2, rfl, hbk, c0, hcd⟩ := (HU.out.below HB2.out).at_ j hlt2
          have h9 : (j : Int) < (k : Int) := by omega
          have HT := Lib.hid (flatZ_next hlt2)
          have HLE : Hid ((ls.take j).flatten.length + (ls[j]'hlt2).length ≤ 100) := Lib.hid (by have h1 := flatZ_le ls (j + 1); rw [HT.out, List.length_append, HF.out] at h1; have := HC6.out; omega)
          have HQ1 := Lib.hid hcd
          obtain ⟨l, hl⟩ : ∃ l, ls[j]'hlt2 = l := ⟨_, rfl⟩
          rw [hl] at c0 HT HLE HQ1
          obtain ⟨M, hM⟩ : ∃ M, (ls.take j).flatten = M := ⟨_, rfl⟩
          rw [hM] at HT HLE HO2
          have HZW : Hid (w.heap.size ≤ wj.heap.size) := Lib.hid HB2.out.size
          clear hl hcd hbk hM
          go_wp2_with (first | (at_builtin; refine wpList_append_rd (w := wj) rfl _ _ 80 rfl w.heap.size iR _ 32 Tryz.underlying80 hiR hzR hkR hbR (by omega) rfl (by omega) encZ_len encZ_one _ M l _ rfl HO2.out rfl HQ1.out (by have := HLE.out; omega) HZW.out ?_; intro v9 w9 y9 b9; have Y9 := Lib.hid y9; have B9 := Lib.hid b9; clear y9 b9) | go_in)
          go_roundw
          case measure => simp [intOf]; omega
          case rel => exact ⟨j + 1, by omega, by go_num, by rw [HT.out]; exact Y9.out, HB2.out.trans B9.out⟩
        · obtain rfl : j = k := by omega
          have h3 : ¬ (j : Int) < (j : Int) := by omega
          rw [HFE.out] at HO2
          have HRD := Lib.hid (HO2.out.rd encZ_len)
          obtain ⟨a9, c9, hv9, _⟩ := HRD.out.slice
          subst hv9
          go_wp2
          go_ret
          exact ⟨⟨_, _, rfl, HRD.out⟩, HB2.out⟩
end Go.Proofs.YtpmmchppfmojhaaGreatDoor


/- Of the program's table package: words, texts, numbers; line, item. -/
namespace Go.Proofs.YtpmmchppfmojhaaGreatDoor
open Go.RowKit
set_option linter.unusedVariables false

theorem strAddK {P : Program} {x y z : Str} (h : x.length + y.length ≤ 9223372036854775807) (hz : x ++ y = z) (wx : World) : (Op.stringOp .add (ofL x) (ofL y)).run P wx = .ok (.string (ofL z)) wx := by
  have h2 := run_string_add_sum (P := P) (w := wx) (ofL x) (ofL y) (by rw [ofL_size, ofL_size]; exact h)
  rw [show (ofL x) ++ (ofL y) = ofL z from by rw [← hz]; apply ByteArray.ext; simp [ofL]] at h2
  exact h2
/-- A call that answers with a text. -/
abbrev Strs (s : Str) (w : World) (e : Ending) (w' : World) : Prop := e = .returned (.string (ofL s)) ∧ Below w.heap.size w w'
set_option maxRecDepth 1000000 in
set_option maxHeartbeats 2000000 in
theorem wordsK_any (v : Value) (l : List Str) (w : World) (hv : Rd 1 encT w v l) (hl : l.length ≤ 1000) : Calls Tryz.prog 73 #[v] w (TokL (tksOf 1 l) w) := by
  have H := Lib.hid (tokensOf_any 1 v l w hv hl)
  obtain ⟨a, c, rfl, _, _⟩ := hv.slice
  clear hv
  obtain ⟨T, hT⟩ : ∃ T, tksOf 1 l = T := ⟨_, rfl⟩
  rw [hT] at H ⊢
  clear hT hl
  go_enter Tryz.func73, Tryz.ntmps73
  go_wp2_with fail
  refine H.out.mono ?_
  rintro e w2 ⟨⟨a2, c2, rfl, hr⟩, b2⟩
  have HR := Lib.hid hr
  have B2 := Lib.hid b2
  clear hr b2
  go_wp2
  go_ret
  exact ⟨⟨_, _, rfl, HR.out⟩, B2.out⟩
set_option maxRecDepth 1000000 in
set_option maxHeartbeats 2000000 in
theorem textsK_any (v : Value) (l : List Str) (w : World) (hv : Rd 1 encT w v l) (hl : l.length ≤ 1000) : Calls Tryz.prog 133 #[v] w (TokL (tksOf 2 l) w) := by
  have H := Lib.hid (tokensOf_any 2 v l w hv hl)
  obtain ⟨a, c, rfl, _, _⟩ := hv.slice
  clear hv
  obtain ⟨T, hT⟩ : ∃ T, tksOf 2 l = T := ⟨_, rfl⟩
  rw [hT] at H ⊢
  clear hT hl
  go_enter Tryz.func133, Tryz.ntmps133
  go_wp2_with fail
  refine H.out.mono ?_
  rintro e w2 ⟨⟨a2, c2, rfl, hr⟩, b2⟩
  have HR := Lib.hid hr
  have B2 := Lib.hid b2
  clear hr b2
  go_wp2
  go_ret
  exact ⟨⟨_, _, rfl, HR.out⟩, B2.out⟩
set_option maxRecDepth 100000 in
theorem itoa_dec : ∀ n : Fin 1001, Lib.itoa (n.val : Int) = decT n.val := by decide +kernel
theorem own_str1 (w : World) (a : Str) : Rd 1 encT (w.alloc (.cells #[.string (ofL a)] 9)) (.slice (some ⟨w.heap.size, 0, none⟩) 1 1) [a] := by
  have o : Own1 1 encT (w.alloc (.cells #[.string (ofL a)] 9)) w.heap.size 9 (.slice (some ⟨w.heap.size, 0, none⟩) 1 1) ([a] : List Str) := ⟨by rfl, .inr ⟨w.heap.size, 1, #[.string (ofL a)], rfl, Nat.le_refl _, heap_alloc_new w _, Nat.le_refl _, by decide, rfl, rfl⟩⟩
  exact o.rd (fun _ => rfl)
set_option maxRecDepth 1000000 in
set_option maxHeartbeats 2000000 in
theorem numberK_any (n : Int) (h0 : 0 ≤ n) (h1 : n ≤ 1000) (w : World) (E : Env w) : Calls Tryz.prog 74 #[.int .i64 n] w (TokL (tksOf 1 [decT n.toNat]) w) := by
  have HI := Lib.hid (Tryz.strconv_Itoa n (by omega) (by omega) w E.tab)
  have hd : Lib.itoa n = decT n.toNat := by
    have := itoa_dec ⟨n.toNat, by omega⟩
    have e : ((n.toNat : Nat) : Int) = n := by omega
    rw [← this]
    show Lib.itoa n = Lib.itoa ((n.toNat : Nat) : Int)
    rw [e]
  rw [hd] at HI
  obtain ⟨T, hT⟩ : ∃ T, decT n.toNat = T := ⟨_, rfl⟩
  rw [hT] at HI ⊢
  clear hT hd h0 h1 E
  go_enter Tryz.func74, Tryz.ntmps74
  go_wp2_with fail
  refine HI.out.mono ?_
  rintro e w1 ⟨rfl, k, os, hw1⟩
  have B1 : Hid (Below w.heap.size w w1) := Lib.hid (by rw [hw1]; exact Lib.below_grow w.heap.size w (Nat.le_refl _) k os)
  clear hw1
  go_wp2_with fail
  refine (wordsK_any _ [T] _ (own_str1 w1 T) (by simp)).mono ?_
  rintro e w2 ⟨⟨a2, c2, rfl, hr⟩, b2⟩
  have HR := Lib.hid hr
  have B2 := Lib.hid (st (B1.out.alloc B1.out.size (.cells #[.string (ofL T)] 9)) b2 (B1.out.alloc B1.out.size _).size)
  clear hr b2
  go_wp2
  go_ret
  exact ⟨⟨_, _, rfl, HR.out⟩, B2.out⟩
/-! ### Lines -/
def OkL (l : List TkZ) : Prop := ∀ t ∈ l, (t.kd = 1 ∧ okW t.tx) ∨ (t.kd = 2 ∧ okX t.tx)
theorem OkL.all {l : List TkZ} (h : OkL l) : l.all okZ = true := by
  rw [List.all_eq_true]
  intro t ht
  unfold okZ
  rcases h t ht with ⟨e, k⟩ | ⟨e, k⟩
  · rw [if_pos e]; exact wordB_iff.2 k
  · rw [if_neg (by omega), if_neg (by omega), if_pos e]; exact textB_iff.2 k
theorem OkL.len {l : List TkZ} (h : OkL l) : ∀ t ∈ l, t.tx.length ≤ 500 := by
  intro t ht
  rcases h t ht with ⟨e, k⟩ | ⟨e, k⟩
  · rcases k with ⟨_, _, k, _⟩ | ⟨k, _⟩ | ⟨k, _⟩
    · omega
    · cases k
    · cases k
  · have := (okX_iff.1 k).1; omega
theorem OkL.spell {l : List TkZ} (h : OkL l) : spellR l = (lineS (l.map ktZ), 0) := by
  unfold spellR
  rw [if_pos h.all]
theorem OkL.lineS_le {l : List TkZ} (h : OkL l) : (lineS (l.map ktZ)).length ≤ 3003 * l.length := by
  have := lineS_len (l.map ktZ) (fun t ht => by
    obtain ⟨z, hz, rfl⟩ := List.mem_map.1 ht
    exact h.len z hz)
  rw [List.length_map] at this
  exact this
set_option maxRecDepth 1000000 in
set_option maxHeartbeats 2000000 in
theorem line_any (ls : List (List TkZ)) (h0 : 0 < ls.flatten.length) (h6 : ls.flatten.length ≤ 100) (hok : OkL ls.flatten) (v : Value) (w : World) (hv : RdLL w v ls) (E : Env w) :
    Calls Tryz.prog 72 #[v] w (Strs (enX (ls.flatten.map ktZ)) w) := by
  have HC := Lib.hid (concatZ_any ls h0 h6 v w hv)
  obtain ⟨a, c, rfl, _, _⟩ := hv.slice
  obtain ⟨F, hF⟩ : ∃ F, ls.flatten = F := ⟨_, rfl⟩
  rw [hF] at HC hok h6 ⊢
  have HE := Lib.hid E
  have HS := Lib.hid hok.spell
  have HL := Lib.hid hok.len
  have h6' := Lib.hid h6
  have HD := Lib.hid (fun wx => strAddK (P := Tryz.prog) (x := lineS (F.map ktZ)) (y := [59, 10]) (z := enX (F.map ktZ)) (by have := hok.lineS_le; simp; omega) rfl wx)
  clear hv h0 h6 hok E hF
  obtain ⟨X, hX⟩ : ∃ X, lineS (F.map ktZ) = X := ⟨_, rfl⟩
  obtain ⟨Y, hY⟩ : ∃ Y, enX (F.map ktZ) = Y := ⟨_, rfl⟩
  rw [hX, hY] at HD
  rw [hX] at HS
  rw [hY]
  clear hX hY
  go_enter Tryz.func72, Tryz.ntmps72
  go_wp2_with fail
  refine HC.out.mono ?_
  rintro e w2 ⟨⟨a2, c2, rfl, hr⟩, b2⟩
  have HR := Lib.hid hr
  have B2 := Lib.hid b2
  have E2 := Lib.hid (HE.out.below b2)
  clear hr b2
  go_wp2_with fail
  refine (spell_any _ F _ HR.out (by have := h6'.out; omega) HL.out E2.out).mono ?_
  rw [HS.out]
  rintro e w3 ⟨rfl, b3⟩
  have B3 := Lib.hid (st B2.out b3 B2.out.size)
  have D3 : ∀ wx, (Op.stringOp .add (ofL X) ⟨#[59, 10]⟩).run Tryz.prog wx = .ok (.string (ofL Y)) wx := HD.out
  clear b3
  go_wp2_with fail
  go_ret
  exact ⟨rfl, B3.out⟩
set_option maxRecDepth 1000000 in
set_option maxHeartbeats 2000000 in
theorem item_any (ls : List (List TkZ)) (h0 : 0 < ls.flatten.length) (h6 : ls.flatten.length ≤ 100) (hok : OkL ls.flatten) (v : Value) (w : World) (hv : RdLL w v ls) (E : Env w) :
    Calls Tryz.prog 131 #[v] w (Strs (itX (ls.flatten.map ktZ)) w) := by
  have HC := Lib.hid (line_any ls h0 h6 hok v w hv E)
  obtain ⟨a, c, rfl, _, _⟩ := hv.slice
  obtain ⟨F, hF⟩ : ∃ F, ls.flatten = F := ⟨_, rfl⟩
  rw [hF] at HC hok h6 ⊢
  have HD := Lib.hid (fun wx => strAddK (P := Tryz.prog) (x := [9]) (y := enX (F.map ktZ)) (z := itX (F.map ktZ)) (by have := hok.lineS_le; unfold enX; simp only [List.length_append, List.length_cons, List.length_nil]; omega) rfl wx)
  clear hv h0 h6 hok E hF
  obtain ⟨X, hX⟩ : ∃ X, enX (F.map ktZ) = X := ⟨_, rfl⟩
  obtain ⟨Y, hY⟩ : ∃ Y, itX (F.map ktZ) = Y := ⟨_, rfl⟩
  rw [hX, hY] at HD
  rw [hX] at HC
  rw [hY]
  clear hX hY
  have D3 : ∀ wx, (Op.stringOp .add ⟨#[9]⟩ (ofL X)).run Tryz.prog wx = .ok (.string (ofL Y)) wx := HD.out
  go_enter Tryz.func131, Tryz.ntmps131
  go_wp2_with fail
  refine HC.out.mono ?_
  rintro e w2 ⟨rfl, b2⟩
  have B2 := Lib.hid b2
  clear b2
  go_wp2_with fail
  go_ret
  exact ⟨rfl, B2.out⟩
end Go.Proofs.YtpmmchppfmojhaaGreatDoor


/- Of the program's table package: the lines of lists. -/
namespace Go.Proofs.YtpmmchppfmojhaaGreatDoor
open Go.RowKit
set_option linter.unusedVariables false

theorem own_strs1K (w : World) (a0 : Str) : Rd 1 encT (w.alloc (.cells #[.string (ofL a0)] 9)) (.slice (some ⟨w.heap.size, 0, none⟩) 1 1) [a0] := by
  have o : Own1 1 encT (w.alloc (.cells #[.string (ofL a0)] 9)) w.heap.size 9 (.slice (some ⟨w.heap.size, 0, none⟩) 1 1) ([a0] : List Str) := ⟨by rfl, .inr ⟨w.heap.size, 1, #[.string (ofL a0)], rfl, Nat.le_refl _, heap_alloc_new w _, Nat.le_refl _, by decide, rfl, rfl⟩⟩
  exact o.rd (fun _ => rfl)
theorem own_strs2K (w : World) (a0 a1 : Str) : Rd 1 encT (w.alloc (.cells #[.string (ofL a0), .string (ofL a1)] 9)) (.slice (some ⟨w.heap.size, 0, none⟩) 2 2) [a0, a1] := by
  have o : Own1 1 encT (w.alloc (.cells #[.string (ofL a0), .string (ofL a1)] 9)) w.heap.size 9 (.slice (some ⟨w.heap.size, 0, none⟩) 2 2) ([a0, a1] : List Str) := ⟨by rfl, .inr ⟨w.heap.size, 2, #[.string (ofL a0), .string (ofL a1)], rfl, Nat.le_refl _, heap_alloc_new w _, Nat.le_refl _, by decide, rfl, rfl⟩⟩
  exact o.rd (fun _ => rfl)
theorem own_strs3K (w : World) (a0 a1 a2 : Str) : Rd 1 encT (w.alloc (.cells #[.string (ofL a0), .string (ofL a1), .string (ofL a2)] 9)) (.slice (some ⟨w.heap.size, 0, none⟩) 3 3) [a0, a1, a2] := by
  have o : Own1 1 encT (w.alloc (.cells #[.string (ofL a0), .string (ofL a1), .string (ofL a2)] 9)) w.heap.size 9 (.slice (some ⟨w.heap.size, 0, none⟩) 3 3) ([a0, a1, a2] : List Str) := ⟨by rfl, .inr ⟨w.heap.size, 3, #[.string (ofL a0), .string (ofL a1), .string (ofL a2)], rfl, Nat.le_refl _, heap_alloc_new w _, Nat.le_refl _, by decide, rfl, rfl⟩⟩
  exact o.rd (fun _ => rfl)
theorem own_strs4K (w : World) (a0 a1 a2 a3 : Str) : Rd 1 encT (w.alloc (.cells #[.string (ofL a0), .string (ofL a1), .string (ofL a2), .string (ofL a3)] 9)) (.slice (some ⟨w.heap.size, 0, none⟩) 4 4) [a0, a1, a2, a3] := by
  have o : Own1 1 encT (w.alloc (.cells #[.string (ofL a0), .string (ofL a1), .string (ofL a2), .string (ofL a3)] 9)) w.heap.size 9 (.slice (some ⟨w.heap.size, 0, none⟩) 4 4) ([a0, a1, a2, a3] : List Str) := ⟨by rfl, .inr ⟨w.heap.size, 4, #[.string (ofL a0), .string (ofL a1), .string (ofL a2), .string (ofL a3)], rfl, Nat.le_refl _, heap_alloc_new w _, Nat.le_refl _, by decide, rfl, rfl⟩⟩
  exact o.rd (fun _ => rfl)
theorem okw_kw {k : Str} (h : k ∈ [kLoc, kPar, kAli, kNea, kDir, kCar, kOrd, kSym, kLis, kUni, kDat, kMon, kDay]) : okW k := ok_of h
theorem okL_w {l : List Str} (h : ∀ s ∈ l, okW s) : OkL (tksOf 1 l) := fun t ht => by
  obtain ⟨s, hs, rfl⟩ := List.mem_map.1 ht
  exact .inl ⟨rfl, h s hs⟩
theorem okL_x {l : List Str} (h : ∀ s ∈ l, okX s) : OkL (tksOf 2 l) := fun t ht => by
  obtain ⟨s, hs, rfl⟩ := List.mem_map.1 ht
  exact .inr ⟨rfl, h s hs⟩
theorem okL_app {a b : List TkZ} (h : OkL a) (k : OkL b) : OkL (a ++ b) := fun t ht => (List.mem_append.1 ht).elim (h t) (k t)
theorem okL1 {a : List TkZ} (h : OkL a) : OkL [a].flatten := okL_app h (fun t ht => by cases ht)
theorem okL2 {a b : List TkZ} (h : OkL a) (k : OkL b) : OkL [a, b].flatten := okL_app h (okL1 k)
theorem okL4 {a b c d : List TkZ} (h : OkL a) (k : OkL b) (i : OkL c) (j : OkL d) : OkL [a, b, c, d].flatten := okL_app h (okL_app k (okL2 i j))
set_option maxRecDepth 1000000 in
set_option maxHeartbeats 8000000 in
theorem listItem_any (y : Lis) (h1 : okW y.st) (h2 : okX y.two) (h3 : okX y.sa) (h4 : okX y.md) (h5 : okX y.en) (w : World) (E : Env w) : Calls Tryz.prog 66 #[.agg #[.string (ofL y.st), .string (ofL y.two), .string (ofL y.sa), .string (ofL y.md), .string (ofL y.en)]] w (Strs (liX y) w) := by
  have HOK : Hid (OkL [(tksOf 1 [([108, 105, 115, 116] : Str), y.st]), (tksOf 2 [y.two, y.sa, y.md, y.en])].flatten) := Lib.hid (okL2 (okL_w (by intro s hs; simp only [List.mem_cons, List.not_mem_nil, or_false] at hs; rcases hs with rfl | rfl <;> first | assumption | exact okw_kw (by decide))) (okL_x (by intro s hs; simp only [List.mem_cons, List.not_mem_nil, or_false] at hs; rcases hs with rfl | rfl | rfl | rfl <;> assumption)))
  have HRES : Hid (itX ([(tksOf 1 [([108, 105, 115, 116] : Str), y.st]), (tksOf 2 [y.two, y.sa, y.md, y.en])].flatten.map ktZ) = liX y) := Lib.hid (by rfl)
  have K0 := Lib.hid (Blk.new w 116 #[.string (ofL y.st), .string (ofL y.two), .string (ofL y.sa), .string (ofL y.md), .string (ofL y.en)])
  have B0 := Lib.hid ((Below.refl w.heap.size w).alloc (Nat.le_refl _) (.cells #[.string (ofL y.st), .string (ofL y.two), .string (ofL y.sa), .string (ofL y.md), .string (ofL y.en)] 116))
  have E0 := Lib.hid (E.below B0.out)
  obtain ⟨W0, hW0⟩ : ∃ W0, w.alloc (.cells #[.string (ofL y.st), .string (ofL y.two), .string (ofL y.sa), .string (ofL y.md), .string (ofL y.en)] 116) = W0 := ⟨_, rfl⟩
  have HW0 := Lib.hid hW0
  rw [hW0] at K0 B0 E0
  obtain ⟨h, hh⟩ : ∃ h, w.heap.size = h := ⟨_, rfl⟩
  have HH := Lib.hid hh
  rw [hh] at K0
  have HCE : Hid (∀ wx, Blk h 116 #[.string (ofL y.st), .string (ofL y.two), .string (ofL y.sa), .string (ofL y.md), .string (ofL y.en)] wx → wx.cell? ⟨h, 0, none⟩ = some (.string (ofL y.st)) ∧ wx.cell? ⟨h, 1, none⟩ = some (.string (ofL y.two)) ∧ wx.cell? ⟨h, 2, none⟩ = some (.string (ofL y.sa)) ∧ wx.cell? ⟨h, 3, none⟩ = some (.string (ofL y.md)) ∧ wx.cell? ⟨h, 4, none⟩ = some (.string (ofL y.en))) := Lib.hid (fun wx hb => ⟨hb.cell 0, hb.cell 1, hb.cell 2, hb.cell 3, hb.cell 4⟩)
  clear E hW0 hh
  go_enter Tryz.func66, Tryz.ntmps66
  go_upto_region 1 with fail
  rw [HW0.out, HH.out]
  clear HW0 HH
  refine region_hd 14 (fun wx : World => wx.cell? ⟨h, 0, none⟩ = some (.string (ofL y.st)) ∧ wx.cell? ⟨h, 1, none⟩ = some (.string (ofL y.two)) ∧ wx.cell? ⟨h, 2, none⟩ = some (.string (ofL y.sa)) ∧ wx.cell? ⟨h, 3, none⟩ = some (.string (ofL y.md)) ∧ wx.cell? ⟨h, 4, none⟩ = some (.string (ofL y.en))) (by kernel_rfl) (by kernel_rfl) ?_
  have K1 := Lib.hid (Blk.below K0.out (Below.refl W0.heap.size W0).drew)
  have B1 := Lib.hid (st B0.out (Below.refl W0.heap.size W0).drew B0.out.size)
  have E1 := Lib.hid (E0.out.below (Below.refl W0.heap.size W0).drew)
  obtain ⟨W1, hW1⟩ : ∃ W1, W0.drew = W1 := ⟨_, rfl⟩
  rw [hW1] at K1 B1 E1 ⊢
  clear hW1 K0 B0 E0
  have hS := HCE.out W1 K1.out
  refine hd_taken 0 (some 3) _ ?hdv0 rfl rfl (by kernel_rfl) (fun _ _ _ h => h) (Or.inl ⟨by rfl, ?hdy0⟩) hS ?hdr0
  case hdy0 => (intro wx hx; (try dsimp only at hx); go_simp; try with_reducible rfl)
  try simp only [Act.put, List.setIfInBounds_toArray, List.set_cons_zero, List.set_cons_succ]
  refine hd_taken 1 (some 4) _ ?hdv1 rfl rfl (by kernel_rfl) (fun _ _ _ h => h) (Or.inl ⟨by rfl, ?hdy1⟩) hS ?hdr1
  case hdy1 => (intro wx hx; (try dsimp only at hx); go_simp; try with_reducible rfl)
  try simp only [Act.put, List.setIfInBounds_toArray, List.set_cons_zero, List.set_cons_succ]
  refine hd_taken 4 (some 7) _ ?hdv4 rfl rfl (by kernel_rfl) (fun _ _ _ h => h) (Or.inl ⟨by rfl, ?hdy4⟩) hS ?hdr4
  case hdy4 => (intro wx hx; (try dsimp only at hx); go_simp; try with_reducible rfl)
  try simp only [Act.put, List.setIfInBounds_toArray, List.set_cons_zero, List.set_cons_succ]
  refine hd_taken 5 (some 8) _ ?hdv5 rfl rfl (by kernel_rfl) (fun _ _ _ h => h) (Or.inl ⟨by rfl, ?hdy5⟩) hS ?hdr5
  case hdy5 => (intro wx hx; (try dsimp only at hx); go_simp; try with_reducible rfl)
  try simp only [Act.put, List.setIfInBounds_toArray, List.set_cons_zero, List.set_cons_succ]
  refine hd_taken 6 (some 9) _ ?hdv6 rfl rfl (by kernel_rfl) (fun _ _ _ h => h) (Or.inl ⟨by rfl, ?hdy6⟩) hS ?hdr6
  case hdy6 => (intro wx hx; (try dsimp only at hx); go_simp; try with_reducible rfl)
  try simp only [Act.put, List.setIfInBounds_toArray, List.set_cons_zero, List.set_cons_succ]
  refine hd_taken 7 (some 10) _ ?hdv7 rfl rfl (by kernel_rfl) (fun _ _ _ h => h) (Or.inl ⟨by rfl, ?hdy7⟩) hS ?hdr7
  case hdy7 => (intro wx hx; (try dsimp only at hx); go_simp; try with_reducible rfl)
  try simp only [Act.put, List.setIfInBounds_toArray, List.set_cons_zero, List.set_cons_succ]
  refine hd_taken 8 (some 11) _ ?hdv8 rfl rfl (by kernel_rfl) (fun _ _ _ h => h) (Or.inl ⟨by rfl, ?hdy8⟩) hS ?hdr8
  case hdy8 => (intro wx hx; (try dsimp only at hx); go_simp; try with_reducible rfl)
  try simp only [Act.put, List.setIfInBounds_toArray, List.set_cons_zero, List.set_cons_succ]
  refine hd_taken 9 (some 12) _ ?hdv9 rfl rfl (by kernel_rfl) (fun _ _ _ h => h) (Or.inl ⟨by rfl, ?hdy9⟩) hS ?hdr9
  case hdy9 => (intro wx hx; (try dsimp only at hx); go_simp; try with_reducible rfl)
  try simp only [Act.put, List.setIfInBounds_toArray, List.set_cons_zero, List.set_cons_succ]
  refine hd_taken 10 (some 13) _ ?hdv10 rfl rfl (by kernel_rfl) (fun _ _ _ h => h) (Or.inl ⟨by rfl, ?hdy10⟩) hS ?hdr10
  case hdy10 => (intro wx hx; (try dsimp only at hx); go_simp; try with_reducible rfl)
  try simp only [Act.put, List.setIfInBounds_toArray, List.set_cons_zero, List.set_cons_succ]
  refine hd_taken 11 (some 14) _ ?hdv11 rfl rfl (by kernel_rfl) (fun _ _ _ h => h) (Or.inl ⟨by rfl, ?hdy11⟩) hS ?hdr11
  case hdy11 => (intro wx hx; (try dsimp only at hx); go_simp; try with_reducible rfl)
  try simp only [Act.put, List.setIfInBounds_toArray, List.set_cons_zero, List.set_cons_succ]
  refine hd_two 2 12 _ _ rfl rfl (by kernel_rfl) (by decide) (by decide) (fun K hK => ?_) (fun K hK => ?_)
  · have K2 := Lib.hid (Blk.alloc K1.out (.cells #[.string ⟨#[108, 105, 115, 116]⟩, .string (ofL y.st)] 9))
    have B2 := Lib.hid (B1.out.alloc B1.out.size (.cells #[.string ⟨#[108, 105, 115, 116]⟩, .string (ofL y.st)] 9))
    have E2 := Lib.hid (E1.out.below ((Below.refl _ _).alloc (Nat.le_refl _) (.cells #[.string ⟨#[108, 105, 115, 116]⟩, .string (ofL y.st)] 9)))
    have RA2 : Hid (Rd 1 encT (W1.alloc (.cells #[.string ⟨#[108, 105, 115, 116]⟩, .string (ofL y.st)] 9)) (.slice (some ⟨W1.heap.size, 0, none⟩) 2 2) [([108, 105, 115, 116] : Str), y.st]) := Lib.hid (own_strs2K W1 (([108, 105, 115, 116] : Str)) (y.st))
    go_simp
    refine hK.out _ _ (HCE.out _ K2.out) ?_
    clear hK K
    obtain ⟨W2, hW⟩ : ∃ X, W1.alloc (.cells #[.string ⟨#[108, 105, 115, 116]⟩, .string (ofL y.st)] 9) = X := ⟨_, rfl⟩
    rw [hW] at K2 B2 E2 RA2 ⊢
    obtain ⟨gA2, hg⟩ : ∃ g, W1.heap.size = g := ⟨_, rfl⟩
    rw [hg] at RA2 ⊢
    clear hW hg K1 B1 E1 
    try simp only [Act.put, List.setIfInBounds_toArray, List.set_cons_zero, List.set_cons_succ]
    refine hd_two 3 12 _ _ rfl rfl (by kernel_rfl) (by decide) (by decide) (fun K hK => ?_) (fun K hK => ?_)
    · go_simp
      refine (wordsK_any _ [([108, 105, 115, 116] : Str), y.st] _ RA2.out (by simp)).mono ?_
      rintro e W3 ⟨⟨x3, c3, rfl, hr⟩, hb⟩
      try dsimp only
      have TA3 := Lib.hid hr
      have K3 := Lib.hid (Blk.below K2.out hb)
      have B3 := Lib.hid (st B2.out hb B2.out.size)
      have E3 := Lib.hid (E2.out.below hb)
      refine hK.out _ _ (HCE.out _ K3.out) ?_
      clear hK K hr hb K2 B2 E2 RA2
      try simp only [Act.put, List.setIfInBounds_toArray, List.set_cons_zero, List.set_cons_succ]
      refine hd_one 12 _ rfl (by kernel_rfl) (by decide) (fun K hK => ?_)
      have K4 := Lib.hid (Blk.alloc K3.out (.cells #[.string (ofL y.two), .string (ofL y.sa), .string (ofL y.md), .string (ofL y.en)] 9))
      have B4 := Lib.hid (B3.out.alloc B3.out.size (.cells #[.string (ofL y.two), .string (ofL y.sa), .string (ofL y.md), .string (ofL y.en)] 9))
      have E4 := Lib.hid (E3.out.below ((Below.refl _ _).alloc (Nat.le_refl _) (.cells #[.string (ofL y.two), .string (ofL y.sa), .string (ofL y.md), .string (ofL y.en)] 9)))
      have TA4 := Lib.hid (TA3.out.alloc (.cells #[.string (ofL y.two), .string (ofL y.sa), .string (ofL y.md), .string (ofL y.en)] 9))
      have RB4 : Hid (Rd 1 encT (W3.alloc (.cells #[.string (ofL y.two), .string (ofL y.sa), .string (ofL y.md), .string (ofL y.en)] 9)) (.slice (some ⟨W3.heap.size, 0, none⟩) 4 4) [y.two, y.sa, y.md, y.en]) := Lib.hid (own_strs4K W3 (y.two) (y.sa) (y.md) (y.en))
      go_simp
      refine hK.out _ _ (HCE.out _ K4.out) ?_
      clear hK K
      obtain ⟨W4, hW⟩ : ∃ X, W3.alloc (.cells #[.string (ofL y.two), .string (ofL y.sa), .string (ofL y.md), .string (ofL y.en)] 9) = X := ⟨_, rfl⟩
      rw [hW] at K4 B4 E4 TA4 RB4 ⊢
      obtain ⟨gB4, hg⟩ : ∃ g, W3.heap.size = g := ⟨_, rfl⟩
      rw [hg] at RB4 ⊢
      clear hW hg K3 B3 E3 TA3
      try simp only [Act.put, List.setIfInBounds_toArray, List.set_cons_zero, List.set_cons_succ]
      refine hd_one 13 _ rfl (by kernel_rfl) (by decide) (fun K hK => ?_)
      go_simp
      refine (textsK_any _ [y.two, y.sa, y.md, y.en] _ RB4.out (by simp)).mono ?_
      rintro e W5 ⟨⟨x5, c5, rfl, hr⟩, hb⟩
      try dsimp only
      have TB5 := Lib.hid hr
      have K5 := Lib.hid (Blk.below K4.out hb)
      have B5 := Lib.hid (st B4.out hb B4.out.size)
      have E5 := Lib.hid (E4.out.below hb)
      have TA5 := Lib.hid (TA4.out.below hb)
      refine hK.out _ _ (HCE.out _ K5.out) ?_
      clear hK K hr hb K4 B4 E4 TA4 RB4
      try simp only [Act.put, List.setIfInBounds_toArray, List.set_cons_zero, List.set_cons_succ]
      refine hd_done (by kernel_rfl) ?_
      simp only [List.drop_succ_cons, List.drop_zero]
      go_wp2_with fail
      have hLL := own_LL2 W5 _ _ _ _ _ _ _ _ TA5.out TB5.out
      refine (item_any [(tksOf 1 [([108, 105, 115, 116] : Str), y.st]), (tksOf 2 [y.two, y.sa, y.md, y.en])] (by show 0 < 6; omega) (by show 6 ≤ 100; omega) HOK.out _ _ hLL (E5.out.below ((Below.refl _ _).alloc (Nat.le_refl _) _))).mono ?_
      rintro e w9 ⟨rfl, b9⟩
      have B9 := Lib.hid (st (B5.out.alloc B5.out.size _) b9 (B5.out.alloc B5.out.size _).size)
      rw [HRES.out]
      clear b9 hLL
      go_wp2_with fail
      go_ret
      exact ⟨rfl, B9.out⟩
    · have K6 := Lib.hid (Blk.alloc K2.out (.cells #[.string (ofL y.two), .string (ofL y.sa), .string (ofL y.md), .string (ofL y.en)] 9))
      have B6 := Lib.hid (B2.out.alloc B2.out.size (.cells #[.string (ofL y.two), .string (ofL y.sa), .string (ofL y.md), .string (ofL y.en)] 9))
      have E6 := Lib.hid (E2.out.below ((Below.refl _ _).alloc (Nat.le_refl _) (.cells #[.string (ofL y.two), .string (ofL y.sa), .string (ofL y.md), .string (ofL y.en)] 9)))
      have RA6 := Lib.hid (RA2.out.alloc (.cells #[.string (ofL y.two), .string (ofL y.sa), .string (ofL y.md), .string (ofL y.en)] 9))
      have RB6 : Hid (Rd 1 encT (W2.alloc (.cells #[.string (ofL y.two), .string (ofL y.sa), .string (ofL y.md), .string (ofL y.en)] 9)) (.slice (some ⟨W2.heap.size, 0, none⟩) 4 4) [y.two, y.sa, y.md, y.en]) := Lib.hid (own_strs4K W2 (y.two) (y.sa) (y.md) (y.en))
      go_simp
      refine hK.out _ _ (HCE.out _ K6.out) ?_
      clear hK K
      obtain ⟨W6, hW⟩ : ∃ X, W2.alloc (.cells #[.string (ofL y.two), .string (ofL y.sa), .string (ofL y.md), .string (ofL y.en)] 9) = X := ⟨_, rfl⟩
      rw [hW] at K6 B6 E6 RA6 RB6 ⊢
      obtain ⟨gB6, hg⟩ : ∃ g, W2.heap.size = g := ⟨_, rfl⟩
      rw [hg] at RB6 ⊢
      clear hW hg K2 B2 E2 RA2
      try simp only [Act.put, List.setIfInBounds_toArray, List.set_cons_zero, List.set_cons_succ]
      refine hd_one 3 _ rfl (by kernel_rfl) (by decide) (fun K hK => ?_)
      go_simp
      refine (wordsK_any _ [([108, 105, 115, 116] : Str), y.st] _ RA6.out (by simp)).mono ?_
      rintro e W7 ⟨⟨x7, c7, rfl, hr⟩, hb⟩
      try dsimp only
      have TA7 := Lib.hid hr
      have K7 := Lib.hid (Blk.below K6.out hb)
      have B7 := Lib.hid (st B6.out hb B6.out.size)
      have E7 := Lib.hid (E6.out.below hb)
      have RB7 := Lib.hid (RB6.out.below hb)
      refine hK.out _ _ (HCE.out _ K7.out) ?_
      clear hK K hr hb K6 B6 E6 RA6 RB6
      try simp only [Act.put, List.setIfInBounds_toArray, List.set_cons_zero, List.set_cons_succ]
      refine hd_one 13 _ rfl (by kernel_rfl) (by decide) (fun K hK => ?_)
      go_simp
      refine (textsK_any _ [y.two, y.sa, y.md, y.en] _ RB7.out (by simp)).mono ?_
      rintro e W8 ⟨⟨x8, c8, rfl, hr⟩, hb⟩
      try dsimp only
      have TB8 := Lib.hid hr
      have K8 := Lib.hid (Blk.below K7.out hb)
      have B8 := Lib.hid (st B7.out hb B7.out.size)
      have E8 := Lib.hid (E7.out.below hb)
      have TA8 := Lib.hid (TA7.out.below hb)
      refine hK.out _ _ (HCE.out _ K8.out) ?_
      clear hK K hr hb K7 B7 E7 RB7 TA7
      try simp only [Act.put, List.setIfInBounds_toArray, List.set_cons_zero, List.set_cons_succ]
      refine hd_done (by kernel_rfl) ?_
      simp only [List.drop_succ_cons, List.drop_zero]
      go_wp2_with fail
      have hLL := own_LL2 W8 _ _ _ _ _ _ _ _ TA8.out TB8.out
      refine (item_any [(tksOf 1 [([108, 105, 115, 116] : Str), y.st]), (tksOf 2 [y.two, y.sa, y.md, y.en])] (by show 0 < 6; omega) (by show 6 ≤ 100; omega) HOK.out _ _ hLL (E8.out.below ((Below.refl _ _).alloc (Nat.le_refl _) _))).mono ?_
      rintro e w9 ⟨rfl, b9⟩
      have B9 := Lib.hid (st (B8.out.alloc B8.out.size _) b9 (B8.out.alloc B8.out.size _).size)
      rw [HRES.out]
      clear b9 hLL
      go_wp2_with fail
      go_ret
      exact ⟨rfl, B9.out⟩
  · have K9 := Lib.hid (Blk.alloc K1.out (.cells #[.string (ofL y.two), .string (ofL y.sa), .string (ofL y.md), .string (ofL y.en)] 9))
    have B9 := Lib.hid (B1.out.alloc B1.out.size (.cells #[.string (ofL y.two), .string (ofL y.sa), .string (ofL y.md), .string (ofL y.en)] 9))
    have E9 := Lib.hid (E1.out.below ((Below.refl _ _).alloc (Nat.le_refl _) (.cells #[.string (ofL y.two), .string (ofL y.sa), .string (ofL y.md), .string (ofL y.en)] 9)))
    have RB9 : Hid (Rd 1 encT (W1.alloc (.cells #[.string (ofL y.two), .string (ofL y.sa), .string (ofL y.md), .string (ofL y.en)] 9)) (.slice (some ⟨W1.heap.size, 0, none⟩) 4 4) [y.two, y.sa, y.md, y.en]) := Lib.hid (own_strs4K W1 (y.two) (y.sa) (y.md) (y.en))
    go_simp
    refine hK.out _ _ (HCE.out _ K9.out) ?_
    clear hK K
    obtain ⟨W9, hW⟩ : ∃ X, W1.alloc (.cells #[.string (ofL y.two), .string (ofL y.sa), .string (ofL y.md), .string (ofL y.en)] 9) = X := ⟨_, rfl⟩
    rw [hW] at K9 B9 E9 RB9 ⊢
    obtain ⟨gB9, hg⟩ : ∃ g, W1.heap.size = g := ⟨_, rfl⟩
    rw [hg] at RB9 ⊢
    clear hW hg K1 B1 E1 
    try simp only [Act.put, List.setIfInBounds_toArray, List.set_cons_zero, List.set_cons_succ]
    refine hd_one 2 _ rfl (by kernel_rfl) (by decide) (fun K hK => ?_)
    have K10 := Lib.hid (Blk.alloc K9.out (.cells #[.string ⟨#[108, 105, 115, 116]⟩, .string (ofL y.st)] 9))
    have B10 := Lib.hid (B9.out.alloc B9.out.size (.cells #[.string ⟨#[108, 105, 115, 116]⟩, .string (ofL y.st)] 9))
    have E10 := Lib.hid (E9.out.below ((Below.refl _ _).alloc (Nat.le_refl _) (.cells #[.string ⟨#[108, 105, 115, 116]⟩, .string (ofL y.st)] 9)))
    have RB10 := Lib.hid (RB9.out.alloc (.cells #[.string ⟨#[108, 105, 115, 116]⟩, .string (ofL y.st)] 9))
    have RA10 : Hid (Rd 1 encT (W9.alloc (.cells #[.string ⟨#[108, 105, 115, 116]⟩, .string (ofL y.st)] 9)) (.slice (some ⟨W9.heap.size, 0, none⟩) 2 2) [([108, 105, 115, 116] : Str), y.st]) := Lib.hid (own_strs2K W9 (([108, 105, 115, 116] : Str)) (y.st))
    go_simp
    refine hK.out _ _ (HCE.out _ K10.out) ?_
    clear hK K
    obtain ⟨W10, hW⟩ : ∃ X, W9.alloc (.cells #[.string ⟨#[108, 105, 115, 116]⟩, .string (ofL y.st)] 9) = X := ⟨_, rfl⟩
    rw [hW] at K10 B10 E10 RB10 RA10 ⊢
    obtain ⟨gA10, hg⟩ : ∃ g, W9.heap.size = g := ⟨_, rfl⟩
    rw [hg] at RA10 ⊢
    clear hW hg K9 B9 E9 RB9
    try simp only [Act.put, List.setIfInBounds_toArray, List.set_cons_zero, List.set_cons_succ]
    refine hd_one 3 _ rfl (by kernel_rfl) (by decide) (fun K hK => ?_)
    go_simp
    refine (wordsK_any _ [([108, 105, 115, 116] : Str), y.st] _ RA10.out (by simp)).mono ?_
    rintro e W11 ⟨⟨x11, c11, rfl, hr⟩, hb⟩
    try dsimp only
    have TA11 := Lib.hid hr
    have K11 := Lib.hid (Blk.below K10.out hb)
    have B11 := Lib.hid (st B10.out hb B10.out.size)
    have E11 := Lib.hid (E10.out.below hb)
    have RB11 := Lib.hid (RB10.out.below hb)
    refine hK.out _ _ (HCE.out _ K11.out) ?_
    clear hK K hr hb K10 B10 E10 RB10 RA10
    try simp only [Act.put, List.setIfInBounds_toArray, List.set_cons_zero, List.set_cons_succ]
    refine hd_one 13 _ rfl (by kernel_rfl) (by decide) (fun K hK => ?_)
    go_simp
    refine (textsK_any _ [y.two, y.sa, y.md, y.en] _ RB11.out (by simp)).mono ?_
    rintro e W12 ⟨⟨x12, c12, rfl, hr⟩, hb⟩
    try dsimp only
    have TB12 := Lib.hid hr
    have K12 := Lib.hid (Blk.below K11.out hb)
    have B12 := Lib.hid (st B11.out hb B11.out.size)
    have E12 := Lib.hid (E11.out.below hb)
    have TA12 := Lib.hid (TA11.out.below hb)
    refine hK.out _ _ (HCE.out _ K12.out) ?_
    clear hK K hr hb K11 B11 E11 RB11 TA11
    try simp only [Act.put, List.setIfInBounds_toArray, List.set_cons_zero, List.set_cons_succ]
    refine hd_done (by kernel_rfl) ?_
    simp only [List.drop_succ_cons, List.drop_zero]
    go_wp2_with fail
    have hLL := own_LL2 W12 _ _ _ _ _ _ _ _ TA12.out TB12.out
    refine (item_any [(tksOf 1 [([108, 105, 115, 116] : Str), y.st]), (tksOf 2 [y.two, y.sa, y.md, y.en])] (by show 0 < 6; omega) (by show 6 ≤ 100; omega) HOK.out _ _ hLL (E12.out.below ((Below.refl _ _).alloc (Nat.le_refl _) _))).mono ?_
    rintro e w9 ⟨rfl, b9⟩
    have B9 := Lib.hid (st (B12.out.alloc B12.out.size _) b9 (B12.out.alloc B12.out.size _).size)
    rw [HRES.out]
    clear b9 hLL
    go_wp2_with fail
    go_ret
    exact ⟨rfl, B9.out⟩
end Go.Proofs.YtpmmchppfmojhaaGreatDoor


