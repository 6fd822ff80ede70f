/- Steps that came in; the walk of PackReads. -/
import Derived.Test.YtglllbodhdgahaaPp
import Derived.Deep.DeepCutAuto
import Derived.Deep.CutBlock
import Derived.IntWalk
namespace Go.Proofs.Ytglllbodhdgahaa
open Go.RowKit
set_option linter.unusedVariables false

/-- What is known of a list of steps that came in. -/
def IsSteps (w : World) (a : Option Addr) (len cap : Nat) (zs : List (Int × Int × Int)) : Prop :=
  zs.length = len ∧ len ≤ 9223372036854775807 ∧ (∀ i, i < len → I64 (zs.getD i (0, 0, 0)).1 ∧ I64 (zs.getD i (0, 0, 0)).2.1 ∧ I64 (zs.getD i (0, 0, 0)).2.2) ∧
  (zs ≠ [] → ∃ b off, a = some ⟨b, off, none⟩ ∧ b < w.heap.size ∧ ∀ i, i < len → w.cell? ⟨b, off + i * 3, none⟩ = some (.int .i64 (zs.getD i (0, 0, 0)).1) ∧ w.cell? ⟨b, off + i * 3 + 1, none⟩ = some (.int .i64 (zs.getD i (0, 0, 0)).2.1) ∧ w.cell? ⟨b, off + i * 3 + 2, none⟩ = some (.int .i64 (zs.getD i (0, 0, 0)).2.2))
theorem IsSteps.below {w w' : World} {a : Option Addr} {len cap : Nat} {zs : List (Int × Int × Int)} (h : IsSteps w a len cap zs) (hb : Below w.heap.size w w') : IsSteps w' a len cap zs := by
  obtain ⟨h1, h2, h3, h4⟩ := h
  refine ⟨h1, h2, h3, fun hne => ?_⟩
  obtain ⟨b, off, ha, hlt, hc⟩ := h4 hne
  refine ⟨b, off, ha, Nat.lt_of_lt_of_le hlt hb.size, fun i hi => ⟨(hb.cell (p := ⟨b, off + i * 3, none⟩) hlt).trans (hc i hi).1, (hb.cell (p := ⟨b, off + i * 3 + 1, none⟩) hlt).trans (hc i hi).2.1, (hb.cell (p := ⟨b, off + i * 3 + 2, none⟩) hlt).trans (hc i hi).2.2⟩⟩
theorem RdB.butNe {w w' : World} {v : Value} {l : List UInt8} {g : Nat} (h : RdB w v l) (hb : But g w w') (hne : ∀ x n c, v = .slice (some x) n c → x.block ≠ g) : RdB w' v l := by
  obtain ⟨hl, ⟨a, c, hv, h1, h2, hx⟩, hn⟩ := h
  refine ⟨hl, ⟨a, c, hv, h1, h2, fun hne0 => ?_⟩, hn⟩
  obtain ⟨b, off, ha, hlt, hc⟩ := hx hne0
  have hbg : b ≠ g := hne ⟨b, off, none⟩ _ _ (by rw [hv, ha])
  exact ⟨b, off, ha, Nat.lt_of_lt_of_le hlt hb.size, fun i hi => (World.cell?_of_block (w := w) (a := ⟨b, off + i, none⟩) (hb.block b hlt hbg)).trans (hc i hi)⟩
def NewPost' (w : World) (l : List UInt8) (e : Ending) (w' : World) : Prop := ∃ g u, e = .returned (.pointer (some ⟨g, 0, none⟩)) ∧ PR w' g u l 0 false ∧ Below w.heap.size w w' ∧ w.heap.size ≤ g ∧ (∀ x n c, u = .slice (some x) n c → w.heap.size ≤ x.block)
set_option maxRecDepth 1000000 in
theorem readNew_any (v : Value) (l : List UInt8) (w : World) (hv : RdB w v l) (hl : l.length ≤ 1000000) :
    Calls Try.prog 19 #[v] w (NewPost' w l) := by
  have HV := Lib.hid hv; clear hv
  go_enter Try.func19, Try.ntmps19
  go_wp2_with fail
  refine (copied_any _ l 0 _ HV.out (by omega)).mono ?_
  rintro e w1 ⟨v1, rfl, o1, b1⟩
  have z1 := b1.size
  have HO : Hid (∀ x n c, v1 = .slice (some x) n c → w.heap.size ≤ x.block) := Lib.hid (by
    intro x n c e
    rcases o1.2 with ⟨h, _⟩ | ⟨k, cp, cur, h, hB, _⟩
    · rw [h] at e; cases e
    · rw [h] at e; cases e; exact hB)
  have H1 := Lib.hid (o1.rd (by omega)); clear o1
  obtain ⟨a, c, rfl⟩ := H1.out.slice
  go_wp2
  go_ret
  exact ⟨w1.heap.size, .slice a l.length c, rfl, ⟨Nat.zero_le _, Blk.new _ _ _, H1.out.alloc _⟩, b1.alloc z1 _, z1, HO.out⟩

theorem rdL_len (b : List UInt8) (most : Int) : (rdL b most).1.length ≤ b.length := by
  obtain ⟨ls, hls⟩ : ∃ ls, (rdL b most).1 = ls := ⟨_, rfl⟩
  obtain ⟨k, hk⟩ : ∃ k, (rdL b most).2 = k := ⟨_, rfl⟩
  have e : rdL b most = (ls, k) := by rw [← hls, ← hk]
  rw [hls]
  rcases Nat.eq_zero_or_pos k with h0 | h0
  · subst h0; rw [rdL_zero e]; simp
  · obtain ⟨_, h2, h3, _⟩ := rdL_ok e (by omega)
    have := encL_len ls
    omega
/-- The bytes that came in, counted up in a copy. -/
def InRel (W : World) (bi n : Nat) (v8 : Value) (wr : World) : Prop :=
  ∃ k : Nat, k ≤ n ∧ v8 = .int .i64 k ∧ (0 < n → ∃ cs : Array Value, Blk bi 5 cs wr ∧ ∀ i, i < n → ∃ x : Int, 0 ≤ x ∧ x < 256 ∧ cs[i]? = some (.int .u8 x)) ∧ But bi W wr
theorem InRel.step {W wr : World} {bi n k : Nat} {cs : Array Value} {y q : Int} (hk : k < n) (hb : Blk bi 5 cs wr) (hc : ∀ i, i < n → ∃ x : Int, 0 ≤ x ∧ x < 256 ∧ cs[i]? = some (.int .u8 x)) (hB : But bi W wr) (hy0 : 0 ≤ y) (hy1 : y < 256) (hq : q = ((k + 1 : Nat) : Int)) :
    InRel W bi n (.int .i64 q) (wr.setCell ⟨bi, k, none⟩ (.int .u8 y)) := by
  refine ⟨k + 1, hk, by rw [hq], fun _ => ⟨_, hb.put k _, fun i hi => ?_⟩, hB.trans (But.setCell _ _ _ _)⟩
  rw [Array.getElem?_setIfInBounds]
  by_cases hik : k = i
  · subst hik
    obtain ⟨x, _, _, hx⟩ := hc k hk
    have hs : k < cs.size := (Array.getElem?_eq_some_iff.1 hx).1
    exact ⟨y, hy0, hy1, by rw [if_pos rfl, if_pos hs]⟩
  · obtain ⟨x, h0, h1, hx⟩ := hc i hi
    exact ⟨x, h0, h1, by rw [if_neg hik]; exact hx⟩
/-- What is known of the copy of the bytes. -/
theorem OwnB.blk {w : World} {base : Nat} {v : Value} {l : List UInt8} (h : OwnB w base 5 v l) (hbase : base < w.heap.size) : ∃ a c bi, v = .slice a l.length c ∧ base ≤ bi ∧ (l ≠ [] → a = some ⟨bi, 0, none⟩ ∧ l.length ≤ c) ∧ bi < w.heap.size ∧
    (0 < l.length → ∃ cs : Array Value, Blk bi 5 cs w ∧ ∀ i, i < l.length → ∃ x : Int, 0 ≤ x ∧ x < 256 ∧ cs[i]? = some (.int .u8 x)) := by
  rcases h.2 with ⟨hv, h0⟩ | ⟨g, cap, cur, hv, hB, hg, hn, hm, hs, ht⟩
  · have : l = [] := List.eq_nil_of_length_eq_zero h0
    subst this
    exact ⟨none, 0, base, hv, Nat.le_refl _, fun h => absurd rfl h, hbase, fun h => by simp at h⟩
  · refine ⟨some ⟨g, 0, none⟩, cap, g, hv, hB, fun _ => ⟨rfl, hn⟩, (Array.getElem?_eq_some_iff.1 hg).1, fun _ => ⟨cur, hg, fun i hi => ?_⟩⟩
    have hb := by8_lt (l.getD i 0)
    refine ⟨by8 (l.getD i 0), hb.1, hb.2, ?_⟩
    have h1 : (byteCells l)[i]? = some (.int .u8 (by8 (l.getD i 0))) := by simp [byteCells, List.getD, List.getElem?_eq_getElem hi]
    rw [← ht, Nat.mul_one, List.getElem?_take, if_pos hi] at h1
    simpa using h1

def MainRel (w : World) (g1 g2 : Nat) (u1 v0 : Value) (l : List UInt8) (n : Nat) (v9 : Value) (wr : World) : Prop :=
  ∃ (k at_ : Nat) (bad : Bool), k ≤ n ∧ v9 = .int .i64 k ∧ PR wr g1 u1 l at_ bad ∧ SR wr g2 v0 l at_ bad ∧ Below w.heap.size w wr
def CutRel (w : World) (g1 g2 : Nat) (u1 v0 : Value) (l : List UInt8) (v11 : Value) (wr : World) : Prop :=
  ∃ (at_ : Nat) (bad : Bool), v11 = .bool true ∧ PR wr g1 u1 l at_ bad ∧ SR wr g2 v0 l at_ bad ∧ Below w.heap.size w wr

set_option maxRecDepth 1000000 in
set_option maxHeartbeats 4000000 in
theorem packReads_walk (a : Option Addr) (len cap : Nat) (zs : List Int) (a' : Option Addr) (len' cap' : Nat) (ss : List (Int × Int × Int)) (w : World) (hr : IsRow .u8 w a len cap zs) (hs : IsSteps w a' len' cap' ss) :
    Calls Try.prog 4 #[.slice a len cap, .slice a' len' cap'] w fun e w' => e = .returned (.bool true) ∧ Below w.heap.size w w' := by
  show Calls _ _ _ _ (AwPost w)
  have HS := Lib.hid hs
  have hs2 := hs.2.1
  clear hs
  by_cases hl : 300 < len
  · clear hr
    go_enter Try.func4, Try.ntmps4
    go_wp2_with fail
    refine (awake_any _).mono ?_
    rintro e w1 ⟨rfl, b1⟩
    go_wp2_with fail
    refine (awake_any _).mono ?_
    rintro e w2 ⟨rfl, b2⟩
    have B := Lib.hid (st b1 b2 b1.size)
    clear b1 b2
    go_wp2
    go_ret
    exact ⟨rfl, B.out⟩
  by_cases hl2 : 20 < len'
  · clear hr
    go_enter Try.func4, Try.ntmps4
    go_wp2_with fail
    refine (awake_any _).mono ?_
    rintro e w1 ⟨rfl, b1⟩
    go_wp2_with fail
    refine (awake_any _).mono ?_
    rintro e w2 ⟨rfl, b2⟩
    have B := Lib.hid (st b1 b2 b1.size)
    clear b1 b2
    go_wp2
    go_ret
    exact ⟨rfl, B.out⟩
  obtain ⟨i0, hi, hz0, hz1, hz2⟩ := info_parts Try.infoB
  obtain ⟨l, rfl, hv⟩ := rdB_of_row hr (by omega)
  have HV := Lib.hid hv
  have hl300 : l.length ≤ 300 := by omega
  have hl20 : len' ≤ 20 := by omega
  clear hr hv hl hl2
  go_enter Try.func4, Try.ntmps4
  go_wp2_with fail
  refine (awake_any _).mono ?_
  rintro e w1 ⟨rfl, b1⟩
  have z1 := b1.size
  have A1 := Lib.hid (b1.alloc z1 (.cells #[] 5))
  have O1 : Hid (OwnB (w1.alloc (.cells #[] 5)) w1.heap.size 5 (.slice (some ⟨w1.heap.size, 0, none⟩) 0 0) []) := Lib.hid (World.ownsRow_made w1 #[] 0 (Nat.le_refl _) (by decide) rfl)
  have V1 := Lib.hid (HV.out.below A1.out)
  clear b1
  go_wp2_with (at_builtin; go_loud (refine wpList_append_many (W := w1.alloc (.cells #[] 5)) rfl _ _ 22 rfl w1.heap.size 5 i0 Try.underlying22 hi hz0 hz1 hz2 _ [] l _ rfl O1.out rfl V1.out (by simp; omega) (by simp) (Below.refl _ _) ?_))
  · intro v5 w5 o5 b5
    have O5 := Lib.hid o5
    have z15 : w1.heap.size < w5.heap.size := by have := b5.size; simp at this; omega
    have B5 : Hid (Below w.heap.size w w5) := Lib.hid (A1.out.trans (b5.mono z1))
    have z5 := B5.out.size
    have R5 := Lib.hid (o5.rd (by omega))
    clear o5 b5
    go_wp2_with fail
    refine (readNew_any _ l _ R5.out (by omega)).mono ?_
    rintro e w6 ⟨g1, u1, rfl, p6, b6, hg1, hown⟩
    have B6 := Lib.hid (st B5.out b6 z5)
    have z6 := B6.out.size
    have P6 := Lib.hid p6
    have O6 := Lib.hid (O5.out.below b6)
    have hg1l := p6.lt
    obtain ⟨ai, ci, bi, rfl, hbi, hai, hbi2, hcs⟩ := O5.out.blk z15
    have hz56 := b6.size
    have HOWN := Lib.hid hown
    have HAI := Lib.hid hai
    have HCS : Hid (0 < l.length → ∃ cs : Array Value, Blk bi 5 cs w6 ∧ ∀ i, i < l.length → ∃ x : Int, 0 ≤ x ∧ x < 256 ∧ cs[i]? = some (.int .u8 x)) := Lib.hid (fun h => by
      obtain ⟨cs, h1, h2⟩ := hcs h
      exact ⟨cs, h1.below b6, h2⟩)
    clear p6 b6 hown hai hcs R5 V1 A1 O1 O5 O6
    go_wp2

    go_loopw [8] (fun v8 wr => InRel (w6.alloc (.cells #[.slice a l.length cap, .int .i64 0, .bool false] 39)) bi l.length v8 wr) (fun v8 _ => l.length - (intOf v8).toNat)
    case atStart =>
      refine ⟨0, Nat.zero_le _, rfl, fun h => ?_, But.refl _ _⟩
      obtain ⟨cs, h1, h2⟩ := HCS.out h
      exact ⟨cs, h1.below ((Below.refl _ _).alloc (Nat.le_refl _) _), h2⟩
    case round =>
      obtain ⟨k, hk, rfl, hcs, hB⟩ := hrel
      have HB := Lib.hid hB
      have HC := Lib.hid hcs
      clear hB hcs
      by_cases hlt : k < l.length
      · obtain ⟨cs, hb, hc⟩ := HC.out (by omega)
        obtain ⟨x, hx0, hx1, hx⟩ := hc k hlt
        have c1 : wr.cell? ⟨bi, k, none⟩ = some (.int .u8 x) := by rw [hb.cell]; exact hx
        have f1 : wr.frozen? ⟨bi, k, none⟩ = false := hb.frozen k
        obtain ⟨rfl, _⟩ := HAI.out (List.ne_nil_of_length_pos (by omega))
        have q1 : (k : Int) < (l.length : Int) := by omega
        obtain ⟨y, hy⟩ : ∃ y, IntKind.u8.wrap (x + 1) = y := ⟨_, rfl⟩
        have hy2 : 0 ≤ y ∧ y < 256 := by rw [← hy, IntKind.wrap_u8]; omega
        have HSt := Lib.hid (InRel.step hlt hb hc HB.out hy2.1 hy2.2 (q := (k : Int) + 1) (by omega))
        clear hb hc hx
        go_wp2
        go_roundw
        case rel => exact HSt.out
        case measure => simp [intOf]; omega
      · have q1 : ¬ (k : Int) < (l.length : Int) := by omega
        have B7 : Below w.heap.size w (w6.alloc (.cells #[.slice a l.length cap, .int .i64 0, .bool false] 39)) := B6.out.alloc z6 _
        have P7 : PR (w6.alloc (.cells #[.slice a l.length cap, .int .i64 0, .bool false] 39)) g1 u1 l 0 false := P6.out.below ((Below.refl _ _).alloc (Nat.le_refl _) _)
        have hb1 : Hid (bi ≠ g1 ∧ bi ≠ w6.heap.size) := Lib.hid ⟨by omega, by omega⟩
        have B8 := Lib.hid (B7.trans (HB.out.below (Nat.le_trans z1 hbi) B7.size))
        have P8 : Hid (PR wr g1 u1 l 0 false) := Lib.hid ⟨Nat.zero_le _, P7.2.1.but HB.out (fun e => hb1.out.1 e.symm), P7.2.2.butNe HB.out (fun x n c e he => by
          have := HOWN.out x n c e
          omega)⟩
        have S8 : Hid (SR wr w6.heap.size (.slice a l.length cap) l 0 false) := Lib.hid ⟨Nat.zero_le _, (Blk.new w6 _ _).but HB.out (fun e => hb1.out.2 e.symm), HV.out.below B8.out⟩
        have z8 := B8.out.size
        have HG : Hid (w.heap.size ≤ g1 ∧ w.heap.size ≤ w6.heap.size ∧ g1 ≠ w6.heap.size) := Lib.hid (by
          have h1 := B5.out.size
          exact ⟨by omega, by omega, by omega⟩)
        clear B7 P7
        obtain ⟨g2, hg2⟩ : ∃ g2, w6.heap.size = g2 := ⟨_, rfl⟩
        rw [hg2] at S8 HG
        go_wp2
        have HG2 := Lib.hid hg2
        clear hg2
        go_loopw [9] (fun v9 wr => MainRel w g1 g2 u1 (.slice a l.length cap) l len' v9 wr) (fun v9 _ => len' - (intOf v9).toNat)
        case atStart => exact ⟨0, 0, false, Nat.zero_le _, rfl, P8.out, S8.out, B8.out⟩
        case round =>
          obtain ⟨k, at_, bad, hk, rfl, hp, hsr, hB⟩ := hrel
          clear HCS HAI HOWN P6 B6 HC HB P8 S8 B8 B5 hb1 HV
          have HP := Lib.hid hp
          have HSR := Lib.hid hsr
          have HB2 := Lib.hid hB
          have zr := hB.size
          by_cases hlt : k < len'
          · obtain ⟨hs1, _, hs3, hs4⟩ := HS.out.below hB
            obtain ⟨b, off, rfl, hbl, hcell⟩ := hs4 (List.ne_nil_of_length_pos (by rw [hs1]; omega))
            obtain ⟨c0, c1, c2⟩ := hcell k hlt
            obtain ⟨⟨K, lo, hhi⟩, hkk⟩ : ∃ x, ss.getD k (0, 0, 0) = x := ⟨_, rfl⟩
            rw [hkk] at c0 c1 c2
            dsimp only at c0 c1 c2
            have q1 : (k : Int) < (len' : Int) := by omega
            clear hp hsr hB hs1 hs3 hs4 hcell hkk
            obtain ⟨hg1', hg2', hne⟩ := HG.out
            have hne' : g2 ≠ g1 := fun e => hne e.symm
            have hgp := HP.out.lt
            have hgs := HSR.out.2.1.lt
            have hK := (show Hid True from trivial)
            go_upto_block 4 with fail
            obtain ⟨wx, hwx⟩ : ∃ wx, wr.alloc (.cells #[.int .i64 K, .int .i64 lo, .int .i64 hhi] 41) = wx := ⟨_, rfl⟩
            obtain ⟨gx, hgx⟩ : ∃ gx, wr.heap.size = gx := ⟨_, rfl⟩
            have PX : Hid (PR wx g1 u1 l at_ bad) := Lib.hid (by rw [← hwx]; exact HP.out.below ((Below.refl _ _).alloc (Nat.le_refl _) _))
            have SX : Hid (SR wx g2 (.slice a l.length cap) l at_ bad) := Lib.hid (by rw [← hwx]; exact HSR.out.below ((Below.refl _ _).alloc (Nat.le_refl _) _))
            have BX : Hid (Below w.heap.size w wx) := Lib.hid (by rw [← hwx]; exact HB2.out.alloc zr _)
            have KX : Hid (Blk gx 41 #[.int .i64 K, .int .i64 lo, .int .i64 hhi] wx) := Lib.hid (by rw [← hwx, ← hgx]; exact Blk.new _ _ _)
            have zx := BX.out.size
            have hx1 : gx ≠ g1 := by omega
            have hx2 : gx ≠ g2 := by omega
            rw [hwx, hgx]
            have HWX := Lib.hid (And.intro hwx hgx)
            clear hwx hgx c0 c1 c2 HP HSR HB2 HS
            go_cut [11] (fun s11 wy => CutRel w g1 g2 u1 (.slice a l.length cap) l s11 wy)
            case first =>
              by_cases k0 : K = 0
              · subst k0
                go_wp2_with fail
                refine (rint_any _ g1 u1 l at_ bad PX.out).mono ?_
                rintro e w8 ⟨rfl, p8, b8⟩
                have B8 := BX.out.trans (b8.below hg1' zx)
                have z8 := B8.size
                have P8 := Lib.hid p8
                have S8 := Lib.hid (SX.out.but hne' PX.out.2.1 (noByte3 PX.out.2.2) b8)
                clear p8 b8
                go_wp2_with fail
                refine (sint_any _ g2 _ l at_ bad S8.out).mono ?_
                rintro e w9 ⟨rfl, p9, b9⟩
                have B9 := Lib.hid (B8.trans (b9.below hg2' z8))
                have S9 := Lib.hid p9
                have P9 := Lib.hid (P8.out.but hne S8.out.2.1 (noByteS S8.out.2.2) b9)
                clear p9 b9 B8
                go_wp2_with fail
                go_meet
                exact ⟨_, _, rfl, P9.out, S9.out, B9.out⟩
              · have p0 : (K == 0) = false := by rw [beq_eq_false_iff_ne]; exact k0
                clear k0
                by_cases k1 : K = 1
                · subst k1
                  have x1 : wx.cell? ⟨gx, 1, none⟩ = some (.int .i64 lo) := KX.out.cell 1
                  have x2 : wx.cell? ⟨gx, 2, none⟩ = some (.int .i64 hhi) := KX.out.cell 2
                  go_wp2_with fail
                  go_region_held3 (fun w' => w'.cell? ⟨gx, 1, none⟩ = some (.int .i64 lo) ∧ w'.cell? ⟨gx, 2, none⟩ = some (.int .i64 hhi)) (first | exact ⟨y1, y2⟩ | exact ⟨t1, t2⟩ | exact ⟨x1, x2⟩) (first | (go_at_call 22; refine (bounded_any _ g1 u1 l at_ bad lo hhi (PX.out.drewN 1)).mono ?_; rintro e w8 ⟨rfl, p8, b8⟩; have B8 := Lib.hid ((below_drewN BX.out 1).trans (b8.below hg1' zx)); have P8 := Lib.hid p8; have S8 := Lib.hid ((SX.out.drewN 1).but hne' (PX.out.drewN 1).2.1 (noByte3 (PX.out.drewN 1).2.2) b8); have t1 : w8.cell? ⟨gx, 1, none⟩ = some (.int .i64 lo) := (((KX.out.below (below_drewN (Below.refl _ _) 1)).but b8 hx1).cell 1); have t2 : w8.cell? ⟨gx, 2, none⟩ = some (.int .i64 hhi) := (((KX.out.below (below_drewN (Below.refl _ _) 1)).but b8 hx1).cell 2); have K8 := Lib.hid ((KX.out.below (below_drewN (Below.refl _ _) 1)).but b8 hx1); clear p8 b8) | (go_at_call 23; refine (sbounded_any _ g2 _ l at_ bad lo hhi S8.out).mono ?_; rintro e w9 ⟨rfl, p9, b9⟩; have B9 := Lib.hid (B8.out.trans (b9.below hg2' B8.out.size)); have S9 := Lib.hid p9; have P9 := Lib.hid (P8.out.but hne S8.out.2.1 (noByteS S8.out.2.2) b9); have y1 : w9.cell? ⟨gx, 1, none⟩ = some (.int .i64 lo) := (K8.out.but b9 hx2).cell 1; have y2 : w9.cell? ⟨gx, 2, none⟩ = some (.int .i64 hhi) := (K8.out.but b9 hx2).cell 2; clear p9 b9))
                  all_goals
                    go_wp2_with fail
                    go_meet
                    exact ⟨_, _, rfl, P9.out, S9.out, B9.out⟩
                · have p1 : (K == 1) = false := by rw [beq_eq_false_iff_ne]; exact k1
                  clear k1
                  by_cases k2 : K = 2
                  · subst k2
                    go_wp2_with fail
                    refine (rstring_any _ g1 u1 l at_ bad PX.out).mono ?_
                    rintro e w8 ⟨rfl, p8, b8⟩
                    have B8 := BX.out.trans (b8.below hg1' zx)
                    have z8 := B8.size
                    have P8 := Lib.hid p8
                    have S8 := Lib.hid (SX.out.but hne' PX.out.2.1 (noByte3 PX.out.2.2) b8)
                    clear p8 b8
                    go_wp2_with fail
                    refine (sstring_any _ g2 _ l at_ bad S8.out).mono ?_
                    rintro e w9 ⟨rfl, p9, b9⟩
                    have B9 := Lib.hid (B8.trans (b9.below hg2' z8))
                    have S9 := Lib.hid p9
                    have P9 := Lib.hid (P8.out.but hne S8.out.2.1 (noByteS S8.out.2.2) b9)
                    clear p9 b9 B8
                    go_wp2_with fail
                    go_meet
                    exact ⟨_, _, rfl, P9.out, S9.out, B9.out⟩
                  · have p2 : (K == 2) = false := by rw [beq_eq_false_iff_ne]; exact k2
                    clear k2
                    by_cases k3 : K = 3
                    · subst k3
                      have x1 : wx.cell? ⟨gx, 2, none⟩ = some (.int .i64 hhi) := KX.out.cell 2
                      obtain ⟨pp, hpp⟩ : ∃ pp, rdL (restOf l at_ bad) hhi = pp := ⟨_, rfl⟩
                      have HPP := Lib.hid hpp
                      have HPL : Hid (pp.1.length ≤ 140737488355328) := Lib.hid (by rw [← hpp]; have h1 := rdL_len (restOf l at_ bad) hhi; have h2 := restOf_le l at_ bad PX.out.1; omega)
                      clear hpp
                      go_wp2_with fail
                      go_region_held3 (fun w' => w'.cell? ⟨gx, 2, none⟩ = some (.int .i64 hhi)) (first | exact y1 | exact t1 | exact x1) (first | (go_at_call 27; refine (rstrings_any _ g1 u1 l at_ bad hhi (PX.out.drewN 1) (by omega)).mono ?_; rw [HPP.out]; rintro e w8 ⟨x8, rfl, ht8, p8, b8⟩; have B8 := Lib.hid ((below_drewN BX.out 1).trans (b8.below hg1' zx)); have P8 := Lib.hid p8; have T8 := Lib.hid ht8; have S8 := Lib.hid ((SX.out.drewN 1).but hne' (PX.out.drewN 1).2.1 (noByte3 (PX.out.drewN 1).2.2) b8); have t1 : w8.cell? ⟨gx, 2, none⟩ = some (.int .i64 hhi) := (((KX.out.below (below_drewN (Below.refl _ _) 1)).but b8 hx1).cell 2); have K8 := Lib.hid ((KX.out.below (below_drewN (Below.refl _ _) 1)).but b8 hx1); clear p8 b8 ht8) | (go_at_call 28; refine (sstrings_any _ g2 _ l at_ bad hhi S8.out (by omega)).mono ?_; rw [HPP.out]; rintro e w9 ⟨x9, rfl, ht9, p9, b9⟩; have B9 := Lib.hid (B8.out.trans (b9.below hg2' B8.out.size)); have S9 := Lib.hid p9; have T9 := Lib.hid ht9; have T89 := Lib.hid (T8.out.butR S8.out b9); have P9 := Lib.hid (P8.out.but hne S8.out.2.1 (noByteS S8.out.2.2) b9); have y1 : w9.cell? ⟨gx, 2, none⟩ = some (.int .i64 hhi) := (K8.out.but b9 hx2).cell 2; clear p9 b9 ht9) | (go_at_call 26; refine (sameStrings_any _ _ pp.1 pp.1 _ T89.out T9.out HPL.out HPL.out).mono ?_; rw [decide_eq_true rfl]; rintro e w' ⟨rfl, m10, rfl⟩; have B10 := Lib.hid (below_drewN B9.out m10); have P10 := Lib.hid (P9.out.drewN m10); have S10 := Lib.hid (S9.out.drewN m10); have y1 : (w9.drewN m10).cell? ⟨gx, 2, none⟩ = some (.int .i64 hhi) := (by simpa using y1)))
                      all_goals
                        go_wp2_with fail
                        go_meet
                        exact ⟨_, _, rfl, P10.out, S10.out, B10.out⟩
                    · have p3 : (K == 3) = false := by rw [beq_eq_false_iff_ne]; exact k3
                      clear k3
                      by_cases k4 : K = 4
                      · subst k4
                        go_wp2_with fail
                        refine (fail_any _ g1 u1 l at_ bad PX.out).mono ?_
                        rintro e w8 ⟨rfl, p8, b8⟩
                        have B8 := BX.out.trans (b8.below hg1' zx)
                        have z8 := B8.size
                        have P8 := Lib.hid p8
                        have S8 := Lib.hid (SX.out.but hne' PX.out.2.1 (noByte3 PX.out.2.2) b8)
                        have s2 : w8.cell? ⟨g2, 2, none⟩ = some (.bool bad) := S8.out.2.1.cell 2
                        have f2 := S8.out.2.1.frozen 2
                        clear p8 b8
                        have P9 := Lib.hid (P8.out.but hne S8.out.2.1 (noByteS S8.out.2.2) (But.setCell g2 w8 2 (.bool true)))
                        have S9 := Lib.hid S8.out.setBad
                        have B9 := Lib.hid (B8.setCell (p := ⟨g2, 2, none⟩) hg2' (.bool true))
                        clear B8
                        go_wp2_with fail
                        go_meet
                        exact ⟨_, _, rfl, P9.out, S9.out, B9.out⟩
                      · have p4 : (K == 4) = false := by rw [beq_eq_false_iff_ne]; exact k4
                        clear k4
                        go_wp2_with fail
                        go_meet
                        exact ⟨at_, bad, rfl, PX.out, SX.out, BX.out⟩
            case rest =>
              obtain ⟨at2, bad2, rfl, hp, hsr, hB⟩ := hcut
              have HP := Lib.hid hp
              have HSR := Lib.hid hsr
              have HB2 := Lib.hid hB
              have s1 : wc.cell? ⟨g2, 1, none⟩ = some (.int .i64 (at2 : Nat)) := hsr.2.1.cell 1
              have s2 : wc.cell? ⟨g2, 2, none⟩ = some (.bool bad2) := hsr.2.1.cell 2
              have hle2 := hp.1
              clear hp hsr hB PX SX BX KX HWX
              cases bad2
              · by_cases hend : at2 = l.length
                · have HE := Lib.hid (show endV l at2 false = 0 by rw [hend]; exact endV_ok)
                  subst hend
                  have OF : ∀ n, Calls Try.prog 30 #[.pointer (some ⟨g1, 0, none⟩)] (wc.drewN n) fun e w' => e = .returned (.int .i64 (l.length : Nat)) ∧ ∃ m, w' = (wc.drewN n).drewN m := fun n => offset_any _ g1 u1 l l.length false (HP.out.drewN n)
                  have EN : ∀ n, Calls Try.prog 31 #[.pointer (some ⟨g1, 0, none⟩)] (wc.drewN n) fun e w' => e = .returned (.int .i64 0) ∧ ∃ m, w' = (wc.drewN n).drewN m := fun n => by
                    have h := end_any _ g1 u1 l l.length false (HP.out.drewN n)
                    rw [HE.out] at h
                    exact h
                  have HOF := Lib.hid OF
                  have HEN := Lib.hid EN
                  clear OF EN
                  go_wp2_with fail
                  go_quiet ((first | (go_at_call 30; exact Calls.quiet_of (HOF.out _)) | (go_at_call 31; exact Calls.quiet_of (HEN.out _))))
                  go_wp2
                  go_roundw
                  case rel => exact ⟨k + 1, _, _, by omega, by go_num, HP.out.drewN _, HSR.out.drewN _, below_drewN HB2.out _⟩
                  case measure => simp [intOf]; omega
                · have HE := Lib.hid (show endV l at2 false = 4 from endV_short hend)
                  have r1 : ((at2 : Int) == (l.length : Int)) = false := by rw [beq_eq_false_iff_ne]; omega
                  clear hend
                  have OF : ∀ n, Calls Try.prog 30 #[.pointer (some ⟨g1, 0, none⟩)] (wc.drewN n) fun e w' => e = .returned (.int .i64 (at2 : Nat)) ∧ ∃ m, w' = (wc.drewN n).drewN m := fun n => offset_any _ g1 u1 l at2 false (HP.out.drewN n)
                  have EN : ∀ n, Calls Try.prog 31 #[.pointer (some ⟨g1, 0, none⟩)] (wc.drewN n) fun e w' => e = .returned (.int .i64 4) ∧ ∃ m, w' = (wc.drewN n).drewN m := fun n => by
                    have h := end_any _ g1 u1 l at2 false (HP.out.drewN n)
                    rw [HE.out] at h
                    exact h
                  have HOF := Lib.hid OF
                  have HEN := Lib.hid EN
                  clear OF EN
                  go_wp2_with fail
                  go_quiet ((first | (go_at_call 30; exact Calls.quiet_of (HOF.out _)) | (go_at_call 31; exact Calls.quiet_of (HEN.out _))))
                  go_wp2
                  go_roundw
                  case rel => exact ⟨k + 1, _, _, by omega, by go_num, HP.out.drewN _, HSR.out.drewN _, below_drewN HB2.out _⟩
                  case measure => simp [intOf]; omega
              · have HE := Lib.hid (show endV l at2 true = 4 from endV_bad)
                have OF : ∀ n, Calls Try.prog 30 #[.pointer (some ⟨g1, 0, none⟩)] (wc.drewN n) fun e w' => e = .returned (.int .i64 (at2 : Nat)) ∧ ∃ m, w' = (wc.drewN n).drewN m := fun n => offset_any _ g1 u1 l at2 true (HP.out.drewN n)
                have EN : ∀ n, Calls Try.prog 31 #[.pointer (some ⟨g1, 0, none⟩)] (wc.drewN n) fun e w' => e = .returned (.int .i64 4) ∧ ∃ m, w' = (wc.drewN n).drewN m := fun n => by
                  have h := end_any _ g1 u1 l at2 true (HP.out.drewN n)
                  rw [HE.out] at h
                  exact h
                have HOF := Lib.hid OF
                have HEN := Lib.hid EN
                clear OF EN
                go_wp2_with fail
                go_quiet ((first | (go_at_call 30; exact Calls.quiet_of (HOF.out _)) | (go_at_call 31; exact Calls.quiet_of (HEN.out _))))
                go_wp2
                go_roundw
                case rel => exact ⟨k + 1, _, _, by omega, by go_num, HP.out.drewN _, HSR.out.drewN _, below_drewN HB2.out _⟩
                case measure => simp [intOf]; omega
          · have q1 : ¬ (k : Int) < (len' : Int) := by omega
            clear hp hsr hB
            go_wp2
            go_ret
            exact ⟨rfl, HB2.out⟩
end Go.Proofs.Ytglllbodhdgahaa
