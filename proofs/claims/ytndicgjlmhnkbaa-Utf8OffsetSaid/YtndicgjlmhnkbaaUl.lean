/- At of the specification. -/
import Derived.Test.YtndicgjlmhnkbaaUk
import Derived.Test.YtndicgjlmhnkbaaUj
namespace Go.Proofs.Ytndicgjlmhnkbaa
open Go.RowKit
set_option linter.unusedVariables false

def psA (p : Ps) : Array Value := #[.int .i64 p.o, .int .i64 p.l, .int .i64 p.c]
/-- The number in a cell. -/
def cellNat (w : World) (a : Addr) : Nat := match w.cell? a with | some (.int _ n) => n.toNat | _ => 0
structure RAt (s : ByteArray) (off : Int) (w : World) (pre : List Ps) (p : Ps) (W : World) : Prop where
  res : Blk w.heap.size 33 #[.int .i64 0, .int .i64 0, .int .i64 0] W
  blk : Blk (w.heap.size + 1) 33 (psA p) W
  split : bnds s.data.toList ⟨0, 1, 1⟩ = pre ++ bnds (s.data.toList.drop p.o) p
  le : p.o ≤ s.size
  ll : p.l ≤ p.o + 1
  cc : p.c ≤ p.o + 1
  no : ∀ y ∈ pre, (y.o : Int) ≠ off
  bel : Below w.heap.size w W
theorem RAt.stop {s : ByteArray} {off : Int} {w W : World} {pre : List Ps} {p : Ps} (h : RAt s off w pre p W) (hp : ¬ p.o < s.size) (hne : (p.o : Int) ≠ off) : findP (bnds s.data.toList ⟨0, 1, 1⟩) off = none := by
  rw [h.split, drop_end hp, bnds_nil]
  unfold findP
  rw [List.find?_eq_none]
  intro y hy
  rcases List.mem_append.1 hy with h1 | h1
  · simpa using h.no y h1
  · simp at h1; subst h1; simpa using hne
theorem bnds_head (l : List UInt8) (p : Ps) : ∃ r, bnds l p = p :: r := by
  by_cases h : l = []
  · subst h; exact ⟨[], rfl⟩
  · exact ⟨_, bnds_cons l p h⟩
theorem RAt.hit {s : ByteArray} {off : Int} {w W : World} {pre : List Ps} {p : Ps} (h : RAt s off w pre p W) (he : (p.o : Int) = off) : findP (bnds s.data.toList ⟨0, 1, 1⟩) off = some p := by
  obtain ⟨r, hr⟩ := bnds_head (s.data.toList.drop p.o) p
  rw [h.split, hr]
  unfold findP
  rw [List.find?_append, List.find?_eq_none.2 (fun y hy => by simpa using h.no y hy)]
  simp [he]
theorem RAt.step {s : ByteArray} {off : Int} {w W W' : World} {pre : List Ps} {p q : Ps} (h : RAt s off w pre p W) (hp : p.o < s.size) (hne : (p.o : Int) ≠ off) (hq : q = nxt (s.data.toList.drop p.o) p)
    (hres : Blk w.heap.size 33 #[.int .i64 0, .int .i64 0, .int .i64 0] W') (hblk : Blk (w.heap.size + 1) 33 (psA q) W') (hb : Below w.heap.size w W') : RAt s off w (pre ++ [p]) q W' := by
  subst hq
  have hw := dl_width (s.data.toList.drop p.o)
  have h1 := h.ll
  have h2 := h.cc
  refine ⟨hres, hblk, ?_, width_le hp, ?_, ?_, ?_, hb⟩
  · rw [h.split, bnds_cons _ _ (drop_ne hp), List.drop_drop]; simp [nxt]
  · simp only [nxt]; split <;> omega
  · simp only [nxt]; split <;> omega
  · intro y hy
    rcases List.mem_append.1 hy with h3 | h3
    · exact h.no y h3
    · simp at h3; subst h3; exact hne

/-- A block of three cells stored anew. -/
def put3 (W : World) (B : Nat) (a b c : Value) : World := ((W.setCell ⟨B, 0, none⟩ a).setCell ⟨B, 1, none⟩ b).setCell ⟨B, 2, none⟩ c
theorem put3_ok {W : World} {B n : Nat} {t : TypeId} {a b c a' b' c' : Value} (h : Blk B t #[a, b, c] W) (hn : n ≤ B) : Blk B t #[a', b', c'] (put3 W B a' b' c') ∧ Below n W (put3 W B a' b' c') :=
  ⟨((h.put 0 a').put 1 b').put 2 c', (((Below.refl n W).setCell (p := ⟨B, 0, none⟩) hn _).setCell (p := ⟨B, 1, none⟩) hn _).setCell (p := ⟨B, 2, none⟩) hn _⟩
theorem res_cell1 {W : World} {tm : Array Value} {B : Nat} {t : TypeId} {a b c d : Value} (t4 : tm[4]?.getD undef = .pointer (some ⟨B, 0, none⟩)) (t5 : tm[5]?.getD undef = d) (h : Blk B t #[a, b, c] W) :
    (results Try.f22 tm).run Try.prog W = .ok (.tuple #[.agg #[a, b, c], d]) W := by
  have a0 : W.cell? ⟨B, 0, none⟩ = some a := h.cell 0
  have a1 : W.cell? ⟨B, 1, none⟩ = some b := h.cell 1
  have a2 : W.cell? ⟨B, 2, none⟩ = some c := h.cell 2
  simp [results, Try.f22, go_sem, t4, t5, a0, a1, a2]

theorem cellNat_blk {W : World} {B : Nat} {t : TypeId} {p : Ps} (h : Blk B t (psA p) W) : cellNat W ⟨B, 0, none⟩ = p.o := by
  have : W.cell? ⟨B, 0, none⟩ = some (.int .i64 p.o) := h.cell 0
  unfold cellNat; rw [this]; simp
theorem step_nl {W : World} {B B' n : Nat} {t t' : TypeId} {p : Ps} {z : Nat} {cs : Array Value} (h : Blk B t (psA p) W) (h' : Blk B' t' cs W) (hne : B' ≠ B) (hn : n ≤ B) :
    Blk B t (psA ⟨p.o + z, p.l + 1, 1⟩) ((((W.setCell ⟨B, 0, none⟩ (.int .i64 (p.o + z))).setCell ⟨B, 2, none⟩ (.int .i64 (p.c + 1))).setCell ⟨B, 1, none⟩ (.int .i64 (p.l + 1))).setCell ⟨B, 2, none⟩ (.int .i64 1)) ∧
    Blk B' t' cs ((((W.setCell ⟨B, 0, none⟩ (.int .i64 (p.o + z))).setCell ⟨B, 2, none⟩ (.int .i64 (p.c + 1))).setCell ⟨B, 1, none⟩ (.int .i64 (p.l + 1))).setCell ⟨B, 2, none⟩ (.int .i64 1)) ∧
    Below n W ((((W.setCell ⟨B, 0, none⟩ (.int .i64 (p.o + z))).setCell ⟨B, 2, none⟩ (.int .i64 (p.c + 1))).setCell ⟨B, 1, none⟩ (.int .i64 (p.l + 1))).setCell ⟨B, 2, none⟩ (.int .i64 1)) :=
  ⟨(((h.put 0 _).put 2 _).put 1 _).put 2 _, (((h'.far (p := ⟨B, 0, none⟩) hne _).far (p := ⟨B, 2, none⟩) hne _).far (p := ⟨B, 1, none⟩) hne _).far (p := ⟨B, 2, none⟩) hne _,
    ((((Below.refl n W).setCell (p := ⟨B, 0, none⟩) hn _).setCell (p := ⟨B, 2, none⟩) hn _).setCell (p := ⟨B, 1, none⟩) hn _).setCell (p := ⟨B, 2, none⟩) hn _⟩
theorem step_el {W : World} {B B' n : Nat} {t t' : TypeId} {p : Ps} {z : Nat} {cs : Array Value} (h : Blk B t (psA p) W) (h' : Blk B' t' cs W) (hne : B' ≠ B) (hn : n ≤ B) :
    Blk B t (psA ⟨p.o + z, p.l, p.c + 1⟩) ((W.setCell ⟨B, 0, none⟩ (.int .i64 (p.o + z))).setCell ⟨B, 2, none⟩ (.int .i64 (p.c + 1))) ∧
    Blk B' t' cs ((W.setCell ⟨B, 0, none⟩ (.int .i64 (p.o + z))).setCell ⟨B, 2, none⟩ (.int .i64 (p.c + 1))) ∧
    Below n W ((W.setCell ⟨B, 0, none⟩ (.int .i64 (p.o + z))).setCell ⟨B, 2, none⟩ (.int .i64 (p.c + 1))) :=
  ⟨(h.put 0 _).put 2 _, (h'.far (p := ⟨B, 0, none⟩) hne _).far (p := ⟨B, 2, none⟩) hne _, ((Below.refl n W).setCell (p := ⟨B, 0, none⟩) hn _).setCell (p := ⟨B, 2, none⟩) hn _⟩

set_option maxRecDepth 100000 in
set_option maxHeartbeats 2000000 in
theorem refAt_any (s : ByteArray) (hs : s.size ≤ 281474976710656 / 64) (off : Int) (w : World) :
    Calls Try.prog 22 #[.string s, .int .i64 off] w fun e w' => e = .returned (atV (findP (bnds s.data.toList ⟨0, 1, 1⟩) off)) ∧ Below w.heap.size w w' := by
  go_enter Try.func22, Try.ntmps22
  go_wp2
  go_loopw [7, 8] (fun _ _ wr => ∃ pre p, RAt s off w pre p wr) (fun _ _ wr => s.size - cellNat wr ⟨w.heap.size + 1, 0, none⟩)
  case atStart =>
    refine ⟨[], ⟨0, 1, 1⟩, (Blk.new w _ _).alloc _, ?_, by simp, by simp, by simp, by simp, by simp, ((Below.refl _ w).alloc (Nat.le_refl _) _).alloc (by simp) _⟩
    have := Blk.new (w.alloc (.cells #[.int .i64 0, .int .i64 0, .int .i64 0] 33)) 33 (psA ⟨0, 1, 1⟩)
    rw [World.size_alloc] at this
    exact this
  case round =>
    obtain ⟨pre, p, hrel⟩ := hrel
    have Hr := Lib.hid hrel
    have c0 : wr.cell? ⟨w.heap.size + 1, 0, none⟩ = some (.int .i64 p.o) := hrel.blk.cell 0
    have c1 : wr.cell? ⟨w.heap.size + 1, 1, none⟩ = some (.int .i64 p.l) := hrel.blk.cell 1
    have c2 : wr.cell? ⟨w.heap.size + 1, 2, none⟩ = some (.int .i64 p.c) := hrel.blk.cell 2
    have r0 : wr.cell? ⟨w.heap.size, 0, none⟩ = some (.int .i64 0) := hrel.res.cell 0
    have r1 : wr.cell? ⟨w.heap.size, 1, none⟩ = some (.int .i64 0) := hrel.res.cell 1
    have r2 : wr.cell? ⟨w.heap.size, 2, none⟩ = some (.int .i64 0) := hrel.res.cell 2
    have f0 := hrel.res.frozen 0
    have f1 := hrel.res.frozen 1
    have f2 := hrel.res.frozen 2
    have hle := hrel.le
    have hll := hrel.ll
    have hcc := hrel.cc
    have hm : Hid (cellNat wr ⟨w.heap.size + 1, 0, none⟩ = p.o) := by unfold Hid cellNat; rw [c0]; simp
    clear hrel
    by_cases hp : p.o < s.size
    · by_cases ho : (p.o : Int) = off
      · have q1 : ((p.o : Int) == off) = true := by rw [ho]; simp
        have q2 : ((p.o : Int) != off) = false := by rw [bne, q1]; rfl
        have Hf := Lib.hid (Hr.out.hit ho)
        clear ho
        go_wp2
        obtain ⟨p1, p2⟩ := put3_ok (a' := .int .i64 p.o) (b' := .int .i64 p.l) (c' := .int .i64 p.c) Hr.out.res (Nat.le_refl _)
        exact bodyPost_ret (v := .tuple #[psV p, .int .i64 0]) (res_cell1 rfl rfl p1) rfl ⟨by rw [Hf.out]; rfl, Hr.out.bel.trans p2⟩
      · have q1 : ((p.o : Int) == off) = false := by simpa using ho
        have q2 : ((p.o : Int) != off) = true := by rw [bne, q1]; rfl
        have Ho := Lib.hid ho; clear ho
        have hwl := width_le hp
        have hw := dl_width (s.data.toList.drop p.o)
        have Hd := Lib.hid (ext_data s p.o)
        go_wp2_with fail
        refine (next_any (s.extract p.o s.size) wr (by rw [ByteArray.size_extract]; omega) (by rw [ByteArray.size_extract]; unfold maxLen; omega)).mono ?_
        rw [Hd.out]
        rintro e w1 ⟨rfl, hb1⟩
        have blt := Hr.out.blk.lt
        have k1 := Hr.out.blk.below hb1 blt
        have k0 := Hr.out.res.below hb1 Hr.out.res.lt
        have B1 := Lib.hid (Hr.out.bel.trans (hb1.mono Hr.out.bel.size))
        have d0 : w1.cell? ⟨w.heap.size + 1, 0, none⟩ = some (.int .i64 p.o) := k1.cell 0
        have d1 : w1.cell? ⟨w.heap.size + 1, 1, none⟩ = some (.int .i64 p.l) := k1.cell 1
        have d2 : w1.cell? ⟨w.heap.size + 1, 2, none⟩ = some (.int .i64 p.c) := k1.cell 2
        have g0 := k1.frozen 0
        have g1 := k1.frozen 1
        have g2 := k1.frozen 2
        have K0 := Lib.hid k0
        have K1 := Lib.hid k1
        clear k0 k1 hb1 c0 c1 c2 r0 r1 r2 f0 f1 f2
        by_cases hd : (dl (s.data.toList.drop p.o)).1 = 10
        · have q3 : (((dl (s.data.toList.drop p.o)).1 : Int) == 10) = true := by rw [hd]; rfl
          have Hn := Lib.hid (nxt_nl (p := p) hd); clear hd
          go_wp2
          obtain ⟨s1, s2, s3⟩ := step_nl (z := (dl (s.data.toList.drop p.o)).2) (n := w.heap.size) K1.out K0.out (by omega) (by omega)
          exact ⟨⟨_, _, Hr.out.step hp Ho.out Hn.out s2 s1 (B1.out.trans s3)⟩, by rw [cellNat_blk s1, hm.out]; show s.size - (p.o + _) < _; omega⟩
        · have q3 : (((dl (s.data.toList.drop p.o)).1 : Int) == 10) = false := by rw [beq_eq_false_iff_ne]; omega
          have Hn := Lib.hid (nxt_el (p := p) hd); clear hd
          go_wp2
          obtain ⟨s1, s2, s3⟩ := step_el (z := (dl (s.data.toList.drop p.o)).2) (n := w.heap.size) K1.out K0.out (by omega) (by omega)
          exact ⟨⟨_, _, Hr.out.step hp Ho.out Hn.out s2 s1 (B1.out.trans s3)⟩, by rw [cellNat_blk s1, hm.out]; show s.size - (p.o + _) < _; omega⟩
    · by_cases ho : (p.o : Int) = off
      · have q1 : ((p.o : Int) == off) = true := by rw [ho]; simp
        have q2 : ((p.o : Int) != off) = false := by rw [bne, q1]; rfl
        have Hf := Lib.hid (Hr.out.hit ho)
        clear ho
        go_wp2
        obtain ⟨p1, p2⟩ := put3_ok (a' := .int .i64 p.o) (b' := .int .i64 p.l) (c' := .int .i64 p.c) Hr.out.res (Nat.le_refl _)
        exact bodyPost_ret (v := .tuple #[psV p, .int .i64 0]) (res_cell1 rfl rfl p1) rfl ⟨by rw [Hf.out]; rfl, Hr.out.bel.trans p2⟩
      · have q1 : ((p.o : Int) == off) = false := by simpa using ho
        have q2 : ((p.o : Int) != off) = true := by rw [bne, q1]; rfl
        have Hf := Lib.hid (Hr.out.stop hp ho)
        clear ho
        go_wp2
        obtain ⟨p1, p2⟩ := put3_ok (a' := .int .i64 0) (b' := .int .i64 0) (c' := .int .i64 0) Hr.out.res (Nat.le_refl _)
        exact bodyPost_ret (v := .tuple #[.agg #[.int .i64 0, .int .i64 0, .int .i64 0], .int .i64 2]) (res_cell1 rfl rfl p1) rfl ⟨by rw [Hf.out]; rfl, Hr.out.bel.trans p2⟩
end Go.Proofs.Ytndicgjlmhnkbaa
