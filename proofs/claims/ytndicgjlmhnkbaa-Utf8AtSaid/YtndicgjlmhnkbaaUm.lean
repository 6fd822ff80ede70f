/- Boundaries and Offset of the specification. -/
import Derived.Test.YtndicgjlmhnkbaaUl
namespace Go.Proofs.Ytndicgjlmhnkbaa
open Go.RowKit
set_option linter.unusedVariables false

/-- Each position lies behind the one before it. -/
def PsLt (p q : Ps) : Prop := p.o < q.o ∧ (p.l < q.l ∨ p.l = q.l ∧ p.c < q.c)
theorem nxt_lt (l : List UInt8) (p : Ps) : PsLt p (nxt l p) := by
  have := dl_width l
  unfold PsLt nxt
  dsimp only
  split <;> omega
theorem bnds_sorted (l : List UInt8) (p : Ps) : (bnds l p).Pairwise PsLt ∧ ∀ q ∈ bnds l p, q = p ∨ PsLt p q := by
  generalize hn : l.length = n
  induction n using Nat.strongRecOn generalizing l p with
  | ind n ih =>
    by_cases h : l = []
    · subst h; rw [bnds_nil]; simp
    · have h0 : 0 < l.length := List.length_pos_iff.2 h
      have hw := dl_width l
      have hl : (l.drop (dl l).2).length < n := by rw [List.length_drop]; omega
      have hi := ih _ hl (l.drop (dl l).2) (nxt l p) rfl
      have hlt := nxt_lt l p
      have hall : ∀ q ∈ bnds (l.drop (dl l).2) (nxt l p), PsLt p q := fun q hq => by
        rcases hi.2 q hq with rfl | h2
        · exact hlt
        · unfold PsLt at *; omega
      rw [bnds_cons l p h, List.pairwise_cons]
      refine ⟨⟨hall, hi.1⟩, fun q hq => ?_⟩
      rcases List.mem_cons.1 hq with rfl | h2
      · exact .inl rfl
      · exact .inr (hall q h2)
/-- What is found by a test that holds of one alone. -/
theorem find_one {L : List Ps} (hL : L.Pairwise PsLt) {f : Ps → Bool} {q : Ps} (hq : q ∈ L) (hf : f q = true) (hno : ∀ y, PsLt y q → f y = false) : L.find? f = some q := by
  induction L with
  | nil => cases hq
  | cons y L ih =>
    rw [List.pairwise_cons] at hL
    rcases List.mem_cons.1 hq with rfl | h2
    · rw [List.find?_cons, hf]
    · rw [List.find?_cons, hno y (hL.1 q h2)]
      exact ih hL.2 h2
def findLC (L : List Ps) (ln c : Int) : Option Ps := L.find? fun p => (p.l : Int) == ln && (p.c : Int) == c
theorem findP_mem {L : List Ps} (hL : L.Pairwise PsLt) {q : Ps} (hq : q ∈ L) : findP L q.o = some q :=
  find_one hL hq (by simp) (fun y hy => by unfold PsLt at hy; simp; omega)
theorem findLC_mem {L : List Ps} (hL : L.Pairwise PsLt) {q : Ps} (hq : q ∈ L) : findLC L q.l q.c = some q :=
  find_one hL hq (by simp) (fun y hy => by unfold PsLt at hy; simp; omega)
def offV (r : Option Ps) : Value := match r with
  | some p => .tuple #[.int .i64 p.o, .int .i64 0]
  | none => .tuple #[.int .i64 0, .int .i64 8]

/-! ### Boundaries -/
def offs (L : List Ps) : List Int := L.map fun p => (p.o : Int)
def BdRel (s : ByteArray) (w : World) (v at' : Value) (wr : World) : Prop :=
  ∃ (pre : List Ps) (p : Ps), at' = .int .i64 p.o ∧ bnds s.data.toList ⟨0, 1, 1⟩ = pre ++ bnds (s.data.toList.drop p.o) p ∧ p.o ≤ s.size ∧ pre.length ≤ p.o ∧
    wr.ownsRow w.heap.size 3 1 v (pre.length + 1) ((offs (pre ++ [p])).map (Value.int .i64)) ∧ Below w.heap.size w wr
theorem bd_step {s : ByteArray} {w w1 w2 : World} {pre : List Ps} {p : Ps} {v' : Value} {o : Obj} {row : Option Nat} (hp : p.o < s.size) (hsp : bnds s.data.toList ⟨0, 1, 1⟩ = pre ++ bnds (s.data.toList.drop p.o) p) (hl : pre.length ≤ p.o) (hB : Below w.heap.size w w1)
    (hown : w2.ownsRow w.heap.size 3 1 v' (pre.length + 1 + 1) ((offs (pre ++ [p])).map (Value.int .i64) ++ [.int .i64 (p.o + (dl (s.data.toList.drop p.o)).2)])) (hg : (w1.alloc o).grownBy w2 row) (hr : ∀ k, row = some k → w.heap.size ≤ k) :
    BdRel s w v' (.int .i64 (p.o + (dl (s.data.toList.drop p.o)).2)) w2 := by
  have hw := dl_width (s.data.toList.drop p.o)
  refine ⟨pre ++ [p], nxt (s.data.toList.drop p.o) p, by simp [nxt], ?_, width_le hp, by simp [nxt]; omega, ?_, (hB.alloc hB.size o).grown hg (by have := hB.size; simp; omega) hr⟩
  · rw [hsp, bnds_cons _ _ (drop_ne hp), List.drop_drop]; simp [nxt]
  · rw [show (pre ++ [p]).length + 1 = pre.length + 1 + 1 from by simp]
    have : (offs (pre ++ [p] ++ [nxt (s.data.toList.drop p.o) p])).map (Value.int .i64) = (offs (pre ++ [p])).map (Value.int .i64) ++ [.int .i64 (p.o + (dl (s.data.toList.drop p.o)).2)] := by simp [offs, nxt]
    rw [this]; exact hown

set_option maxRecDepth 1000000 in
set_option maxHeartbeats 1000000 in
theorem boundaries_any (s : ByteArray) (w : World) (hs : s.size ≤ 281474976710656 / 64) :
    Calls Try.prog 25 #[.string s] w (ListPost w (offs (bnds s.data.toList ⟨0, 1, 1⟩))) := by
  obtain ⟨i0, hi, hz0, hz1, hz2⟩ := info_parts Try.infoI
  go_enter Try.func25, Try.ntmps25
  go_wp2
  go_loopw [3, 4] (fun v a wr => BdRel s w v a wr) (fun _ a _ => s.size - (intOf a).toNat)
  case atStart =>
    refine ⟨[], ⟨0, 1, 1⟩, rfl, by simp, by simp, by simp, ?_, (Below.refl _ _).alloc (Nat.le_refl _) _⟩
    refine ⟨rfl, .inr ⟨w.heap.size, 1, #[.int .i64 0], rfl, Nat.le_refl _, heap_alloc_new w _, by simp, by unfold maxLen; omega, rfl, rfl⟩⟩
  case round =>
    obtain ⟨pre, p, rfl, hsp, hle, hl, hown, hB⟩ := hrel
    have Hsp := Lib.hid hsp; clear hsp
    by_cases hp : p.o < s.size
    · have hwl := width_le hp
      have hw := dl_width (s.data.toList.drop p.o)
      have Hd := Lib.hid (ext_data s p.o)
      go_wp2_with fail
      refine (next_any (s.extract p.o s.size) wr (by rw [ByteArray.size_extract]; omega) (by rw [ByteArray.size_extract]; unfold maxLen; omega)).mono ?_
      rw [Hd.out]
      rintro e w1 ⟨rfl, hb1⟩
      have hown1 := own_below hown hb1
      have hB1 := hB.trans (hb1.mono hB.size)
      have hsz := hB1.size
      clear hown hB hb1
      go_wp2_with (at_builtin; go_loud (refine wpList_append_own _ rfl _ _ 23 rfl w.heap.size 3 i0 (.int .i64 0) 1 8 Try.underlying23 hi hz0 hz1 hz2 rfl (by decide) _ _ _ rfl (hown1.alloc _) ⟨w1.heap.size, 0, none⟩ 1 1 [.int .i64 (p.o + (dl (s.data.toList.drop p.o)).2)] rfl rfl ?c1 ?c2 ?c3 ?c4 ?c5 ?_))
      case c1 => exact cell_one_new _ _ _
      case c2 => intro u hu; simp at hu; subst hu; rfl
      case c3 => unfold maxLen; omega
      case c4 => omega
      case c5 => simp; omega
      · intro v' w2 hown2 hgrow _
        have R := Lib.hid (bd_step hp Hsp.out hl hB1 hown2 hgrow (fun k e => (hown1.lt k e).1))
        clear hown2 hgrow hown1 hB1
        go_wp2
        go_roundw
        case rel => exact R.out
        case measure => simp [intOf]; omega
    · go_wp2
      go_ret
      have hf := Hsp.out
      rw [drop_end hp, bnds_nil] at hf
      exact ⟨_, rfl, by rw [hf]; exact RdI.of_own hown (by simp [offs]; omega), hB⟩

/-! ### Offset of the specification -/
theorem bthen {W W1 W2 : World} (h : Below W.heap.size W W1) (k : Below W1.heap.size W1 W2) : Below W.heap.size W W2 := h.trans (k.mono h.size)
theorem bdrewN {W W1 : World} (h : Below W.heap.size W W1) (n : Nat) : Below W.heap.size W (W1.drewN n) := below_drewN h n
def OfRel (L : List Ps) (ln c : Int) (w1 : World) (i : Value) (wr : World) : Prop :=
  ∃ k : Nat, i = .int .i64 k ∧ k ≤ L.length ∧ findLC (L.take k) ln c = none ∧ Below w1.heap.size w1 wr
theorem lc_split {L : List Ps} {k : Nat} {q : Ps} (hq : L[k]? = some q) : L = L.take k ++ q :: L.drop (k + 1) ∧ L.take (k + 1) = L.take k ++ [q] := by
  obtain ⟨hk, rfl⟩ := List.getElem?_eq_some_iff.1 hq
  exact ⟨by rw [List.getElem_cons_drop, List.take_append_drop], List.take_succ_eq_append_getElem hk⟩
theorem lc_no {L : List Ps} {k : Nat} {q : Ps} {ln c : Int} (hq : L[k]? = some q) (h : findLC (L.take k) ln c = none) (hm : ((q.l : Int) == ln && (q.c : Int) == c) = false) : findLC (L.take (k + 1)) ln c = none := by
  rw [(lc_split hq).2]
  unfold findLC at h ⊢
  rw [List.find?_append, h]
  simp only [Option.none_or, List.find?_cons, hm, List.find?_nil]
theorem lc_yes {L : List Ps} {k : Nat} {q : Ps} {ln c : Int} (hq : L[k]? = some q) (h : findLC (L.take k) ln c = none) (hm : ((q.l : Int) == ln && (q.c : Int) == c) = true) : findLC L ln c = some q := by
  unfold findLC at h ⊢
  rw [(lc_split hq).1, List.find?_append, h]
  simp only [Option.none_or, List.find?_cons, hm]
theorem RdI.cellAt {w : World} {v : Value} {xs : List Int} (h : RdI w v xs) {k : Nat} (hk : k < xs.length) : ∃ b off c, v = .slice (some ⟨b, off, none⟩) xs.length c ∧ b < w.heap.size ∧ w.cell? ⟨b, off + k, none⟩ = some (.int .i64 (xs[k]?.getD 0)) := by
  obtain ⟨_, ⟨a, c, rfl, hx⟩, _⟩ := h
  obtain ⟨b, off, rfl, hb, hc⟩ := hx (List.ne_nil_of_length_pos (by omega))
  exact ⟨b, off, c, rfl, hb, by rw [← List.getD_eq_getElem?_getD]; exact hc k hk⟩
theorem bnds_ne (l : List UInt8) (p : Ps) : bnds l p ≠ [] := by obtain ⟨r, hr⟩ := bnds_head l p; rw [hr]; simp

set_option maxRecDepth 1000000 in
set_option maxHeartbeats 1000000 in
theorem refOffset_any (s : ByteArray) (ln c : Int) (w : World) (hs : s.size ≤ 281474976710656 / 64) :
    Calls Try.prog 24 #[.string s, .int .i64 ln, .int .i64 c] w fun e w' => e = .returned (offV (findLC (bnds s.data.toList ⟨0, 1, 1⟩) ln c)) ∧ Below w.heap.size w w' := by
  have HS := Lib.hid (bnds_sorted s.data.toList ⟨0, 1, 1⟩).1
  go_enter Try.func24, Try.ntmps24
  go_wp2_with fail
  refine (boundaries_any s _ hs).mono ?_
  rintro e w1 ⟨v, rfl, hv, hb1⟩
  generalize hL : bnds s.data.toList ⟨0, 1, 1⟩ = L at *
  have HL := Lib.hid hL; clear hL
  have hlen : (offs L).length = L.length := by unfold offs; rw [List.length_map]
  have hne : L ≠ [] := by rw [← HL.out]; exact bnds_ne _ _
  have hpos := List.length_pos_iff.2 hne
  obtain ⟨b, off, cp, rfl, hb, _⟩ := hv.cellAt (k := 0) (by omega)
  have hll := hv.len
  rw [hlen] at hll hv ⊢
  have Hv := Lib.hid hv; clear hv hne
  have Hlen := Lib.hid hlen; clear hlen
  go_wp2
  go_loopw [6, 7, 9] (fun _ _ i wr => OfRel L ln c w1 i wr) (fun _ _ i _ => L.length - (intOf i).toNat)
  case atStart => exact ⟨0, rfl, Nat.zero_le _, rfl, Below.refl _ _⟩
  case round =>
    obtain ⟨k, rfl, hk, hno, hB⟩ := hrel
    have Hno := Lib.hid hno; clear hno
    by_cases hlt : k < L.length
    · obtain ⟨q, hq⟩ : ∃ q, L[k]? = some q := ⟨L[k], List.getElem?_eq_getElem hlt⟩
      obtain ⟨b', off', c', he, hb', hc'⟩ := Hv.out.cellAt (k := k) (by rw [Hlen.out]; exact hlt)
      injection he with e1 e0 e3
      injection e1 with e1
      injection e1 with e1 e2 e4
      clear e0 e4
      subst e1; subst e2; subst e3
      have hx : (offs L)[k]?.getD 0 = (q.o : Int) := by unfold offs; rw [List.getElem?_map, hq]; rfl
      rw [hx] at hc'
      have h1 : wr.cell? ⟨b, off + k, none⟩ = some (.int .i64 q.o) := (hB.cell (p := ⟨b, off + k, none⟩) hb).trans hc'
      have hqm : q ∈ L := List.mem_of_getElem? hq
      have hf := findP_mem HS.out hqm
      have Hf := Lib.hid hf; clear hf
      clear hc' hx hqm
      have Hq := Lib.hid hq; clear hq
      go_wp2_with fail
      refine (refAt_any s hs _ _).mono ?_
      rw [HL.out, Hf.out, show atV (some q) = .tuple #[.agg #[.int .i64 q.o, .int .i64 q.l, .int .i64 q.c], .int .i64 0] from rfl]
      rintro e w2 ⟨rfl, hb2⟩
      have hbr : b < wr.heap.size := Nat.lt_of_lt_of_le hb hB.size
      have h2 : w2.cell? ⟨b, off + k, none⟩ = some (.int .i64 q.o) := (hb2.cell (p := ⟨b, off + k, none⟩) hbr).trans h1
      have hbr2 : b < w2.heap.size := Nat.lt_of_lt_of_le hbr hb2.size
      have B2 := Lib.hid (((Below.refl w1.heap.size w1).trans hB).trans (hb2.mono hB.size))
      have hsz := B2.out.size
      clear h1 hb2 hB
      by_cases m1 : (q.l : Int) = ln
      · have q1 : ((q.l : Int) == ln) = true := by rw [m1]; simp
        have M1 := Lib.hid q1
        clear m1
        by_cases m2 : (q.c : Int) = c
        · have q2 : ((q.c : Int) == c) = true := by rw [m2]; simp
          have R := Lib.hid (lc_yes Hq.out Hno.out (by rw [M1.out, q2]; rfl))
          clear m2
          go_wp2
          go_ret2
          exact ⟨by rw [HL.out, R.out]; rfl, bthen hb1 (((B2.out).alloc (by omega) _))⟩
        · have q2 : ((q.c : Int) == c) = false := by simpa using m2
          have R := Lib.hid (lc_no Hq.out Hno.out (by rw [M1.out, q2]; rfl))
          clear m2
          go_wp2
          go_roundw
          case rel => exact ⟨k + 1, by go_num, hlt, R.out, B2.out.alloc (by omega) _⟩
          case measure => simp [intOf]; omega
      · have q1 : ((q.l : Int) == ln) = false := by simpa using m1
        have R := Lib.hid (lc_no Hq.out Hno.out (by rw [q1]; rfl))
        clear m1
        go_wp2
        go_roundw
        case rel => exact ⟨k + 1, by go_num, hlt, R.out, B2.out.alloc (by omega) _⟩
        case measure => simp [intOf]; omega
    · obtain rfl : k = L.length := by omega
      go_wp2
      go_ret2
      have h := Hno.out
      rw [List.take_length] at h
      exact ⟨by rw [HL.out, h]; rfl, bthen hb1 hB⟩
end Go.Proofs.Ytndicgjlmhnkbaa
