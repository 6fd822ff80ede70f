/- The walk of Utf8Positions. -/
import Derived.Test.YtndicgjlmhnkbaaV4
namespace Go.Proofs.Ytndicgjlmhnkbaa
open Go.RowKit
set_option linter.unusedVariables false

def prevP (L : List Ps) (k : Nat) : Ps := if k = 0 then ⟨0, 0, 0⟩ else L[k - 1]?.getD ⟨0, 0, 0⟩
theorem prev_lt (l : List UInt8) {k : Nat} {q : Ps} (hq : (bnds l ⟨0, 1, 1⟩)[k]? = some q) : (prevP (bnds l ⟨0, 1, 1⟩) k).l < q.l ∨ ((prevP (bnds l ⟨0, 1, 1⟩) k).l = q.l ∧ (prevP (bnds l ⟨0, 1, 1⟩) k).c < q.c) := by
  obtain ⟨hk, hqe⟩ := List.getElem?_eq_some_iff.1 hq
  unfold prevP
  by_cases h0 : k = 0
  · subst h0
    obtain ⟨r, hr⟩ := bnds_head l ⟨0, 1, 1⟩
    rw [hr] at hq
    simp at hq
    subst hq
    simp
  · rw [if_neg h0]
    have hs := (bnds_sorted l ⟨0, 1, 1⟩).1
    rw [List.pairwise_iff_getElem] at hs
    have := hs (k - 1) k (by omega) hk (by omega)
    rw [List.getElem?_eq_getElem (by omega)]
    rw [hqe] at this
    exact this.2
theorem prev_succ {L : List Ps} {k : Nat} {q : Ps} (hq : L[k]? = some q) : prevP L (k + 1) = q := by
  unfold prevP
  rw [if_neg (by omega), Nat.add_sub_cancel, hq]; rfl
def PoRel (L : List Ps) (B : Nat) (w1 : World) (i : Value) (wr : World) : Prop :=
  ∃ k : Nat, i = .int .i64 k ∧ k ≤ L.length ∧ Blk B 33 (psA (prevP L k)) wr ∧ Below B w1 wr

set_option maxRecDepth 1000000 in
set_option maxHeartbeats 2000000 in
theorem utf8Positions_walk (s : ByteArray) (hs : s.size ≤ maxLen) (w : World) : Calls Try.prog 9 #[.string s] w fun e w' => e = .returned (.bool true) ∧ Below w.heap.size w w' := by
  show Calls _ _ _ _ (AwPost w)
  unfold maxLen at hs
  by_cases hl : 120 < s.size
  · go_enter Try.func9, Try.ntmps9
    go_wp2_with fail
    refine (awake_any _).mono ?_
    rintro e w1 ⟨rfl, hb1⟩
    go_wp2_with fail
    refine (awake_any _).mono ?_
    rintro e w2 ⟨rfl, hb2⟩
    go_wp2
    go_ret
    exact ⟨rfl, bthen hb1 hb2⟩
  · have HS := Lib.hid (bnds_sorted s.data.toList ⟨0, 1, 1⟩).1
    have HP := Lib.hid (fun (k : Nat) (q : Ps) (h : (bnds s.data.toList ⟨0, 1, 1⟩)[k]? = some q) => prev_lt s.data.toList h)
    go_enter Try.func9, Try.ntmps9
    go_wp2_with fail
    refine (awake_any _).mono ?_
    rintro e w0 ⟨rfl, hb0⟩
    go_wp2_with fail
    refine (boundaries_any s _ (by omega)).mono ?_
    rintro e w1 ⟨v, rfl, hv, hb1⟩
    generalize hL : bnds s.data.toList ⟨0, 1, 1⟩ = L at *
    have HL := Lib.hid hL; clear hL
    have hlen : (offs L).length = L.length := by unfold offs; rw [List.length_map]
    have hne : L ≠ [] := by rw [← HL.out]; exact bnds_ne _ _
    have hpos := List.length_pos_iff.2 hne
    obtain ⟨b, off, cp, rfl, hb, _⟩ := hv.cellAt (k := 0) (by omega)
    have hll := hv.len
    rw [hlen] at hll hv ⊢
    have Hv := Lib.hid hv; clear hv hne
    have Hlen := Lib.hid hlen; clear hlen
    have B1 := Lib.hid (bthen hb0 hb1)
    have hsz1 := B1.out.size
    clear hb0 hb1
    go_wp2
    go_loopw [2, 5] (fun _ i wr => PoRel L w1.heap.size w1 i wr) (fun _ i _ => L.length - (intOf i).toNat)
    case atStart => exact ⟨0, rfl, Nat.zero_le _, Blk.new _ _ _, (Below.refl _ _).alloc (Nat.le_refl _) _⟩
    case round =>
      obtain ⟨k, rfl, hk, hlast, hB⟩ := hrel
      by_cases hlt : k < L.length
      · obtain ⟨q, hq⟩ : ∃ q, L[k]? = some q := ⟨L[k], List.getElem?_eq_getElem hlt⟩
        obtain ⟨b', off', c', he, hb', hc'⟩ := Hv.out.cellAt (k := k) (by rw [Hlen.out]; exact hlt)
        injection he with e1 e0 e3
        injection e1 with e1
        injection e1 with e1 e2 e4
        clear e0 e4
        subst e1; subst e2; subst e3
        have hx : (offs L)[k]?.getD 0 = (q.o : Int) := by unfold offs; rw [List.getElem?_map, hq]; rfl
        rw [hx] at hc'
        have h1 : wr.cell? ⟨b, off + k, none⟩ = some (.int .i64 q.o) := (hB.cell (p := ⟨b, off + k, none⟩) hb).trans hc'
        have hqm : q ∈ L := List.mem_of_getElem? hq
        have Hf := Lib.hid (findP_mem HS.out hqm)
        have Hf2 := Lib.hid (findLC_mem HS.out hqm)
        have hpl := HP.out k q hq
        have Hs := Lib.hid (prev_succ hq)
        clear hc' hx hqm hq
        generalize hp : prevP L k = p at *
        clear hp
        have hlt2 := hlast.lt
        have Hlast := Lib.hid hlast; clear hlast
        go_wp2_with fail
        refine (at_any s (by omega) _ _).mono ?_
        rw [HL.out, Hf.out, show atV (some q) = .tuple #[.agg #[.int .i64 q.o, .int .i64 q.l, .int .i64 q.c], .int .i64 0] from rfl]
        rintro e w2 ⟨rfl, hb2⟩
        have hbr : b < wr.heap.size := by omega
        have h2 : w2.cell? ⟨b, off + k, none⟩ = some (.int .i64 q.o) := (hb2.cell (p := ⟨b, off + k, none⟩) hbr).trans h1
        have hbr2 : b < w2.heap.size := Nat.lt_of_lt_of_le hbr hb2.size
        have B2 := Lib.hid (hB.trans (hb2.mono (by omega)))
        have L2 := Lib.hid (Hlast.out.below hb2 hlt2)
        have hsz2 := hb2.size
        have k2 := Blk.new w2 33 #[.int .i64 q.o, .int .i64 q.l, .int .i64 q.c]
        clear h1 hb2 hB
        go_wp2_with fail
        refine (offset_any s (by omega) _ _ _).mono ?_
        rw [HL.out, Hf2.out, show offV (some q) = .tuple #[.int .i64 q.o, .int .i64 0] from rfl]
        rintro e w3 ⟨rfl, hb3⟩
        have k3 := k2.below hb3 k2.lt
        have c0 : w3.cell? ⟨w2.heap.size, 0, none⟩ = some (.int .i64 q.o) := k3.cell 0
        have c1 : w3.cell? ⟨w2.heap.size, 1, none⟩ = some (.int .i64 q.l) := k3.cell 1
        have c2 : w3.cell? ⟨w2.heap.size, 2, none⟩ = some (.int .i64 q.c) := k3.cell 2
        have l3 := (L2.out.alloc (.cells #[.int .i64 q.o, .int .i64 q.l, .int .i64 q.c] 33)).below hb3 (by simp; omega)
        have d0 : w3.cell? ⟨w1.heap.size, 0, none⟩ = some (.int .i64 p.o) := l3.cell 0
        have d1 : w3.cell? ⟨w1.heap.size, 1, none⟩ = some (.int .i64 p.l) := l3.cell 1
        have d2 : w3.cell? ⟨w1.heap.size, 2, none⟩ = some (.int .i64 p.c) := l3.cell 2
        have g0 := l3.frozen 0
        have g1 := l3.frozen 1
        have g2 := l3.frozen 2
        have h3 : w3.cell? ⟨b, off + k, none⟩ = some (.int .i64 q.o) := (hb3.cell (p := ⟨b, off + k, none⟩) (by simp; omega)).trans ((World.cell?_alloc_past _ _ _ hbr2).trans h2)
        have B3 := Lib.hid ((B2.out.alloc (by omega) (.cells #[.int .i64 q.o, .int .i64 q.l, .int .i64 q.c] 33)).trans (hb3.mono (by simp; omega)))
        have hsz3 := k3.lt
        have L3 := Lib.hid l3
        clear k2 k3 l3 hb3 h2
        rcases hpl with hp1 | ⟨hp1, hp2⟩
        · have q1 : ((q.l : Int) == (p.l : Int)) = false := by rw [beq_eq_false_iff_ne]; omega
          have q2 : (q.l == p.l) = false := by rw [beq_eq_false_iff_ne]; omega
          have q3 : decide ((q.l : Int) < (p.l : Int)) = false := by simp; omega
          go_wp2
          obtain ⟨p1, p2⟩ := put3_ok (a' := .int .i64 q.o) (b' := .int .i64 q.l) (c' := .int .i64 q.c) L3.out (Nat.le_refl _)
          go_roundw
          case rel => exact ⟨k + 1, by go_num, hlt, by rw [Hs.out]; exact p1, B3.out.trans p2⟩
          case measure => simp [intOf]; omega
        · have q1 : ((q.l : Int) == (p.l : Int)) = true := by rw [hp1]; simp
          have q2 : (q.l == p.l) = true := by rw [hp1]; simp
          have q3 : ¬ ((q.l : Int) < (p.l : Int)) := by omega
          have q4 : ¬ ((q.c : Int) ≤ (p.c : Int)) := by omega
          clear hp1
          go_wp2
          obtain ⟨p1, p2⟩ := put3_ok (a' := .int .i64 q.o) (b' := .int .i64 q.l) (c' := .int .i64 q.c) L3.out (Nat.le_refl _)
          go_roundw
          case rel => exact ⟨k + 1, by go_num, hlt, by rw [Hs.out]; exact p1, B3.out.trans p2⟩
          case measure => simp [intOf]; omega
      · go_wp2
        go_ret
        exact ⟨rfl, bthen B1.out hB⟩
end Go.Proofs.Ytndicgjlmhnkbaa
