/- Encode (both), Valid of the specification. -/
import Derived.Test.YtndicgjlmhnkbaaUf
import Derived.Lib.AppendStr
namespace Go.Proofs.Ytndicgjlmhnkbaa
open Go.RowKit
set_option linter.unusedVariables false

def encL (xs : List Int) : List UInt8 := xs.flatMap fun n => enc (cp n)
theorem encL_nil : encL [] = [] := rfl
theorem encL_snoc (xs : List Int) (x : Int) : encL (xs ++ [x]) = encL xs ++ enc (cp x) := by unfold encL; simp
theorem encL_cons (xs : List Int) (x : Int) : encL (x :: xs) = enc (cp x) ++ encL xs := by unfold encL; simp
theorem encL_length (xs : List Int) : (encL xs).length ≤ 4 * xs.length := by
  induction xs with
  | nil => simp [encL]
  | cons x xs ih =>
    rw [encL_cons, List.length_append, List.length_cons]
    have := (enc_length (cp x)).2
    omega
theorem take_snoc (xs : List Int) (k : Nat) (h : k < xs.length) : xs.take (k + 1) = xs.take k ++ [xs[k]?.getD 0] := by
  rw [List.take_succ_eq_append_getElem h, List.getElem?_eq_getElem h]; rfl

def StrPost (w : World) (l : List UInt8) (e : Ending) (w' : World) : Prop := ∃ b : ByteArray, e = .returned (.string b) ∧ b.data.toList = l ∧ Below w.heap.size w w'
def EncRel (xs : List Int) (w : World) (v i : Value) (wr : World) : Prop :=
  ∃ (k : Nat) (b : ByteArray), i = .int .i64 k ∧ k ≤ xs.length ∧ v = .string b ∧ b.data.toList = encL (xs.take k) ∧ Below w.heap.size w wr
theorem enc_size (n : Int) : (Utf8.encode n).size ≤ 4 := by rw [← len_data]; exact (enc_length n).2
theorem data_append (a b : ByteArray) : (a ++ b).data.toList = a.data.toList ++ b.data.toList := by simp
theorem enc_step {xs : List Int} {w wr w1 : World} {k : Nat} {b : ByteArray} (hk : k < xs.length) (hb : b.data.toList = encL (xs.take k)) (hB : Below w.heap.size w wr) (hb1 : Below wr.heap.size wr w1)
    {n : Int} (hn : n = cp (xs[k]?.getD 0)) : EncRel xs w (.string (b ++ Utf8.encode n)) (.int .i64 (k + 1)) w1 :=
  ⟨k + 1, _, by go_num, hk, rfl, by rw [data_append, hb, take_snoc xs k hk, encL_snoc, hn]; rfl, hB.trans (hb1.mono hB.size)⟩

set_option maxRecDepth 1000000 in
set_option maxHeartbeats 400000 in
theorem refEncode_any (v : Value) (xs : List Int) (w : World) (hv : RdI w v xs) (hx : xs.length ≤ 281474976710656 / 64) :
    Calls Try.prog 20 #[v] w (StrPost w (encL xs)) := by
  obtain ⟨_, ⟨a, c, rfl, hx⟩, _⟩ := hv
  have Hx := Lib.hid hx; clear hx
  go_enter Try.func20, Try.ntmps20
  go_wp2
  go_loopw [3, 4] (fun v i wr => EncRel xs w v i wr) (fun _ i _ => xs.length - (intOf i).toNat)
  case atStart => exact ⟨0, _, rfl, Nat.zero_le _, rfl, rfl, Below.refl _ _⟩
  case round =>
    obtain ⟨k, b, rfl, hk, rfl, hb, hB⟩ := hrel
    have Hb := Lib.hid hb
    have hbs : b.size ≤ 4 * k := by
      have := congrArg List.length hb
      have h2 := encL_length (xs.take k)
      rw [len_data] at this
      rw [List.length_take] at h2
      omega
    clear hb
    by_cases hlt : k < xs.length
    · obtain ⟨bk, off, rfl, hbl, hc⟩ := Hx.out (List.ne_nil_of_length_pos (by omega))
      have h1 : wr.cell? ⟨bk, off + k, none⟩ = some (.int .i64 (xs[k]?.getD 0)) := by rw [← List.getD_eq_getElem?_getD]; exact (hB.cell (p := ⟨bk, off + k, none⟩) hbl).trans (hc k hlt)
      clear hc
      obtain ⟨x, hxk⟩ : ∃ x, xs[k]?.getD 0 = x := ⟨_, rfl⟩
      rw [hxk] at h1
      have Hxk := Lib.hid hxk; clear hxk
      by_cases hval : Utf8.valid x = true
      · have hcp := Lib.hid (show x = cp (xs[k]?.getD 0) from by rw [Hxk.out]; exact (if_pos hval).symm)
        have Hval := Lib.hid hval; clear hval
        have hes := enc_size x
        go_wp2_with (first | (go_at_call 18; (with_reducible refine (point_yes _ _ Hval.out).mono ?_); rintro e w' ⟨rfl, rfl⟩) | (go_at_call 31; (with_reducible refine (one_any _ _ Hval.out).mono ?_); rintro e w1 ⟨rfl, hb1⟩))
        go_roundw
        case rel => exact enc_step hlt Hb.out hB hb1 hcp.out
        case measure => simp [intOf]; omega
      · have hcp := Lib.hid (show 65533 = cp (xs[k]?.getD 0) from by rw [Hxk.out]; exact (if_neg hval).symm)
        have Hval := Lib.hid hval; clear hval
        have hes := enc_size 65533
        go_wp2_with (first | (go_at_call 18; (with_reducible refine (point_no _ _ (by simpa using Hval.out)).mono ?_); rintro e w' ⟨rfl, rfl⟩) | (go_at_call 31; (with_reducible refine (one_any _ _ (by decide)).mono ?_); rintro e w1 ⟨rfl, hb1⟩))
        go_roundw
        case rel => exact enc_step hlt Hb.out hB hb1 hcp.out
        case measure => simp [intOf]; omega
    · go_wp2
      go_ret
      exact ⟨b, rfl, by rw [Hb.out, List.take_of_length_le (by omega)], hB⟩

/-! ### utf8.Encode -/
def byteCells (l : List UInt8) : List Value := l.map fun b => Value.int .u8 b.toNat
theorem conv_own {P : Program} {S D e : TypeId} (hs : P.underlying S = some (.slice e)) (he : P.underlying e = some (.int .u8)) (hd : P.underlying D = some .string)
    {w : World} {base : Nat} {v : Value} {l : List UInt8} (h : w.ownsRow base e 1 v l.length (byteCells l)) : (convert S D v).run P w = .ok (.string ⟨l.toArray⟩) w := by
  rcases h.2 with ⟨rfl, h0⟩ | ⟨g, cap, cur, rfl, hb, hg, hnc, _⟩
  · have : l = [] := List.eq_nil_of_length_eq_zero h0
    subst this
    exact run_convert_bytes_nil w S e hs he 0 0 D hd
  · refine run_convert_bytes_back w S D e _ cap l hs he hd (fun j hj => ?_)
    exact h.cells (g := g) rfl j _ (by simp [byteCells, hj])
theorem Try.infoB : (Try.prog.info? 5).map (fun i => (i.zero, i.size, i.bytes)) = some (some (.int .u8 0), 1, 1) := by kernel_rfl
def EncRel2 (xs : List Int) (w : World) (v i : Value) (wr : World) : Prop :=
  ∃ (k : Nat), i = .int .i64 k ∧ k ≤ xs.length ∧ wr.ownsRow w.heap.size 5 1 v (encL (xs.take k)).length (byteCells (encL (xs.take k))) ∧ Below w.heap.size w wr
theorem enc_step2 {xs : List Int} {w wr w2 : World} {k : Nat} {v v' : Value} (hk : k < xs.length) (hB : Below w.heap.size w wr)
    (hown : wr.ownsRow w.heap.size 5 1 v (encL (xs.take k)).length (byteCells (encL (xs.take k)))) {x : Int} (hx : xs[k]?.getD 0 = x)
    (h2 : w2.ownsRow w.heap.size 5 1 v' ((encL (xs.take k)).length + (Utf8.encode (cp x)).size) (byteCells (encL (xs.take k)) ++ Lib.strCells (Utf8.encode (cp x)))) (hg : wr.grownBy w2 v.ownBlock) :
    EncRel2 xs w v' (.int .i64 (k + 1)) w2 := by
  refine ⟨k + 1, by go_num, hk, ?_, hB.grown hg hB.size (fun j e => (hown.lt j e).1)⟩
  rw [take_snoc xs k hk, encL_snoc, hx, List.length_append]
  have e1 : (enc (cp x)).length = (Utf8.encode (cp x)).size := len_data _
  have e2 : byteCells (encL (xs.take k) ++ enc (cp x)) = byteCells (encL (xs.take k)) ++ Lib.strCells (Utf8.encode (cp x)) := by unfold byteCells; rw [List.map_append]; rfl
  rw [e1, e2]
  exact h2

set_option maxRecDepth 1000000 in
set_option maxHeartbeats 400000 in
theorem encode_any (v : Value) (xs : List Int) (w : World) (hv : RdI w v xs) (hx : xs.length ≤ 281474976710656 / 64) :
    Calls Try.prog 19 #[v] w (StrPost w (encL xs)) := by
  obtain ⟨i0, hi, hz0, hz1, hz2⟩ := info_parts Try.infoB
  obtain ⟨_, ⟨a, c, rfl, hx⟩, _⟩ := hv
  have Hx := Lib.hid hx; clear hx
  go_enter Try.func19, Try.ntmps19
  go_wp2
  go_loopw [3, 8] (fun v i wr => EncRel2 xs w v i wr) (fun _ i _ => xs.length - (intOf i).toNat)
  case atStart => exact ⟨0, rfl, Nat.zero_le _, World.ownsRow_nil _ _ _ _, Below.refl _ _⟩
  case round =>
    obtain ⟨k, rfl, hk, hown, hB⟩ := hrel
    have hel : (encL (xs.take k)).length ≤ 4 * k := by
      have h2 := encL_length (xs.take k)
      rw [List.length_take] at h2
      omega
    by_cases hlt : k < xs.length
    · obtain ⟨bk, off, rfl, hbl, hc⟩ := Hx.out (List.ne_nil_of_length_pos (by omega))
      have h1 : wr.cell? ⟨bk, off + k, none⟩ = some (.int .i64 (xs[k]?.getD 0)) := by rw [← List.getD_eq_getElem?_getD]; exact (hB.cell (p := ⟨bk, off + k, none⟩) hbl).trans (hc k hlt)
      clear hc
      obtain ⟨x, hxk⟩ : ∃ x, xs[k]?.getD 0 = x := ⟨_, rfl⟩
      rw [hxk] at h1
      have Hxk := Lib.hid hxk; clear hxk
      have hes := enc_size (cp x)
      go_wp2_with fail
      refine (codePoint_any _ _).mono ?_
      rintro e w' ⟨rfl, rfl⟩
      go_wp2_with (at_builtin; go_loud (refine Lib.wpList_append_own_string _ rfl _ _ 44 9 rfl w.heap.size 5 i0 Try.underlying44 Try.underlying9 hi hz0 hz1 hz2 _ _ _ rfl hown (Utf8.encode (cp x)) rfl ?c1 ?c2 ?c3 ?_))
      case c1 => unfold maxLen; omega
      case c2 => omega
      case c3 => exact hB.size
      · intro v' w2 hown2 hgrow _
        have R := Lib.hid (enc_step2 hlt hB hown Hxk.out hown2 hgrow)
        clear hown2 hgrow hown hB
        go_wp2
        go_roundw
        case rel => exact R.out
        case measure => simp [intOf]; omega
    · have hf := conv_own (P := Try.prog) Try.underlying44 Try.underlying5 Try.underlying9 hown
      go_wp2
      go_ret
      exact ⟨_, rfl, by rw [List.take_of_length_le (by omega)], hB⟩
end Go.Proofs.Ytndicgjlmhnkbaa
