/- What the row stands on, part 7. -/
import Derived.Lib.AppendStr
import Derived.Test.YtpmmchppfmojhaaGreatDoorZsh
import Derived.Test.YtpmmchppfmojhaaGreatDoorQ6

/- Encode (both), Valid of the specification. -/
namespace Go.Proofs.YtpmmchppfmojhaaGreatDoor
open Go.RowKit
set_option linter.unusedVariables false

def encL (xs : List Int) : List UInt8 := xs.flatMap fun n => enc (cp n)
theorem encL_snoc (xs : List Int) (x : Int) : encL (xs ++ [x]) = encL xs ++ enc (cp x) := by unfold encL; simp
theorem encL_cons (xs : List Int) (x : Int) : encL (x :: xs) = enc (cp x) ++ encL xs := by unfold encL; simp
theorem encL_length (xs : List Int) : (encL xs).length ≤ 4 * xs.length := by
  induction xs with
  | nil => simp [encL]
  | cons x xs ih =>
    rw [encL_cons, List.length_append, List.length_cons]
    have := (enc_length (cp x)).2
    omega
theorem take_snoc (xs : List Int) (k : Nat) (h : k < xs.length) : xs.take (k + 1) = xs.take k ++ [xs[k]?.getD 0] := by
  rw [List.take_succ_eq_append_getElem h, List.getElem?_eq_getElem h]; rfl

theorem enc_size (n : Int) : (Utf8.encode n).size ≤ 4 := by rw [← len_data]; exact (enc_length n).2
def byteCells (l : List UInt8) : List Value := l.map fun b => Value.int .u8 b.toNat
theorem conv_own {P : Program} {S D e : TypeId} (hs : P.underlying S = some (.slice e)) (he : P.underlying e = some (.int .u8)) (hd : P.underlying D = some .string)
    {w : World} {base : Nat} {v : Value} {l : List UInt8} (h : w.ownsRow base e 1 v l.length (byteCells l)) : (convert S D v).run P w = .ok (.string ⟨l.toArray⟩) w := by
  rcases h.2 with ⟨rfl, h0⟩ | ⟨g, cap, cur, rfl, hb, hg, hnc, _⟩
  · have : l = [] := List.eq_nil_of_length_eq_zero h0
    subst this
    exact run_convert_bytes_nil w S e hs he 0 0 D hd
  · refine run_convert_bytes_back w S D e _ cap l hs he hd (fun j hj => ?_)
    exact h.cells (g := g) rfl j _ (by simp [byteCells, hj])
theorem Tryz.infoBU : (Tryz.prog.info? 5).map (fun i => (i.zero, i.size, i.bytes)) = some (some (.int .u8 0), 1, 1) := by kernel_rfl
def EncRel2 (xs : List Int) (w : World) (v i : Value) (wr : World) : Prop :=
  ∃ (k : Nat), i = .int .i64 k ∧ k ≤ xs.length ∧ wr.ownsRow w.heap.size 5 1 v (encL (xs.take k)).length (byteCells (encL (xs.take k))) ∧ Below w.heap.size w wr
theorem enc_step2 {xs : List Int} {w wr w2 : World} {k : Nat} {v v' : Value} (hk : k < xs.length) (hB : Below w.heap.size w wr)
    (hown : wr.ownsRow w.heap.size 5 1 v (encL (xs.take k)).length (byteCells (encL (xs.take k)))) {x : Int} (hx : xs[k]?.getD 0 = x)
    (h2 : w2.ownsRow w.heap.size 5 1 v' ((encL (xs.take k)).length + (Utf8.encode (cp x)).size) (byteCells (encL (xs.take k)) ++ Lib.strCells (Utf8.encode (cp x)))) (hg : wr.grownBy w2 v.ownBlock) :
    EncRel2 xs w v' (.int .i64 (k + 1)) w2 := by
  refine ⟨k + 1, by go_num, hk, ?_, hB.grown hg hB.size (fun j e => (hown.lt j e).1)⟩
  rw [take_snoc xs k hk, encL_snoc, hx, List.length_append]
  have e1 : (enc (cp x)).length = (Utf8.encode (cp x)).size := len_data _
  have e2 : byteCells (encL (xs.take k) ++ enc (cp x)) = byteCells (encL (xs.take k)) ++ Lib.strCells (Utf8.encode (cp x)) := by unfold byteCells; rw [List.map_append]; rfl
  rw [e1, e2]
  exact h2

end Go.Proofs.YtpmmchppfmojhaaGreatDoor


/- strings.Builder as the code of the escape sequences uses it, and the code's small functions. -/
namespace Go.Proofs.YtpmmchppfmojhaaGreatDoor
open Go.RowKit
set_option linter.unusedVariables false

/-- Block b is a builder of the call's own that holds these bytes. -/
def Bld (b : Nat) (l : List UInt8) (w : World) : Prop := Lib.IsBuilderF 104 5 b b (Lib.byteCells l) w
theorem ownF_below {w w' : World} {base n : Nat} {e : TypeId} {size : Nat} {v : Value} {xs : List Value} (h : w.ownsRowF base e size v n xs) (hb : Below w.heap.size w w') : w'.ownsRowF base e size v n xs := by
  refine ⟨h.1, ?_⟩
  rcases h.2 with h0 | ⟨g, cap, cur, fz, hv, hB, hg, hr⟩
  · exact .inl h0
  · refine .inr ⟨g, cap, cur, fz, hv, hB, ?_, hr⟩
    have hlt : g < w.heap.size := by
      rcases Nat.lt_or_ge g w.heap.size with h' | h'
      · exact h'
      · simp [Array.getElem?_eq_none h'] at hg
    exact (hb.block g hlt).trans hg
theorem Bld.lt {b : Nat} {l : List UInt8} {w : World} (h : Bld b l w) : b < w.heap.size := by
  rcases h with h | h <;> exact h.lt
theorem Bld.below {b : Nat} {l : List UInt8} {w w' : World} (h : Bld b l w) (hb : Below w.heap.size w w') : Bld b l w' := by
  have hlt := h.lt
  rcases h with ⟨hB, v, hv, hown, hne⟩ | ⟨hB, v, hv, hown, hne⟩
  · exact .inl ⟨hB, v, (hb.block b hlt).trans hv, ownF_below hown hb, hne⟩
  · exact .inr ⟨hB, v, (hb.block b hlt).trans hv, ownF_below hown hb, hne⟩
theorem Bld.fresh (w : World) : Bld w.heap.size [] (w.alloc (.cells #[.pointer none, .slice none 0 0] 104)) := Lib.IsBuilderF.of (Lib.fresh_isBuilder _ _ w)

/-- What a function that writes does. -/
def WPost (b : Nat) (w : World) (l : List UInt8) (r : Value) (e : Ending) (w' : World) : Prop := e = .returned r ∧ Bld b l w' ∧ Below b w w'

theorem writeByte_any (b : Nat) (l : List UInt8) (c : UInt8) (w : World) (h : Bld b l w) (hl : l.length ≤ 1099511627776) :
    Calls Tryz.prog 282 #[.pointer (some ⟨b, 0, none⟩), .int .u8 c.toNat] w (WPost b w (l ++ [c]) .nilIface) := by
  refine (Tryz.Builder_WriteByte_k b b _ _ w h (by rw [Lib.byteCells_length]; omega) (Nat.le_of_lt h.lt)).mono ?_
  rintro e w' ⟨rfl, h1, h2, _⟩
  refine ⟨rfl, .inr ?_, h2⟩
  rw [Lib.byteCells_append]
  exact h1
theorem writeString_any (b : Nat) (l : List UInt8) (s : ByteArray) (w : World) (h : Bld b l w) (hl : l.length ≤ 1099511627776) (hs : s.size ≤ 1099511627776) :
    Calls Tryz.prog 57 #[.pointer (some ⟨b, 0, none⟩), .string s] w (WPost b w (l ++ s.data.toList) (.tuple #[.int .i64 s.size, .nilIface])) := by
  refine (Tryz.Builder_WriteString_k b b _ _ w h (by rw [Lib.byteCells_length]; omega) (Nat.le_of_lt h.lt)).mono ?_
  rintro e w' ⟨rfl, h1, h2, _⟩
  refine ⟨rfl, .inr ?_, h2⟩
  rw [Lib.byteCells_append]
  exact h1
theorem string_any (b : Nat) (l : List UInt8) (w : World) (h : Bld b l w) :
    Calls Tryz.prog 58 #[.pointer (some ⟨b, 0, none⟩)] w (WPost b w l (.string ⟨l.toArray⟩)) := by
  refine (Tryz.Builder_String_any_k b b l w h (Nat.le_of_lt h.lt)).mono ?_
  rintro e w' ⟨rfl, h1, h2, _⟩
  exact ⟨rfl, h1, h2⟩

def isSt (st : Int) : Bool := decide (1 ≤ st) && decide (st ≤ 4)
theorem isStyle_any (st : Int) (w : World) : Calls Tryz.prog 279 #[.int .i64 st] w fun e w' => e = .returned (.bool (isSt st)) ∧ w = w' := by
  by_cases a : 1 ≤ st
  · by_cases b : st ≤ 4
    · have h : isSt st = true := by unfold isSt; simp; omega
      rw [h]; clear h
      go_enter Tryz.func279, Tryz.ntmps279
      go_wp2
      go_ret
      exact ⟨rfl, rfl⟩
    · have h : isSt st = false := by unfold isSt; simp; omega
      rw [h]; clear h
      go_enter Tryz.func279, Tryz.ntmps279
      go_wp2
      go_ret
      exact ⟨rfl, rfl⟩
  · have h : isSt st = false := by unfold isSt; simp; omega
    rw [h]; clear h
    go_enter Tryz.func279, Tryz.ntmps279
    go_wp2
    go_ret
    exact ⟨rfl, rfl⟩
theorem isControl_any (n : Nat) (w : World) : Calls Tryz.prog 284 #[.int .u8 n] w fun e w' => e = .returned (.bool (ctl n)) ∧ w = w' := by
  by_cases a : n < 32
  · have h : ctl n = true := by unfold ctl; simp; omega
    rw [h]; clear h
    go_enter Tryz.func284, Tryz.ntmps284
    go_wp2
    go_ret
    exact ⟨rfl, rfl⟩
  · by_cases b : n = 127
    · subst b
      go_enter Tryz.func284, Tryz.ntmps284
      go_wp2
      go_ret
      exact ⟨rfl, rfl⟩
    · have h : ctl n = false := by unfold ctl; simp; omega
      have e : (decide ((n : Int) < 32) || (n : Int) == 127) = false := by simp; omega
      rw [h]; clear h
      go_enter Tryz.func284, Tryz.ntmps284
      go_wp2
      go_ret
      exact ⟨rfl, rfl⟩
theorem letter_any (n : Nat) (w : World) : Calls Tryz.prog 283 #[.int .u8 n] w fun e w' => e = .returned (.int .u8 (ltr n : Nat)) ∧ w = w' := by
  by_cases a : n = 10
  · subst a
    go_enter Tryz.func283, Tryz.ntmps283
    go_wp2
    go_ret
    exact ⟨rfl, rfl⟩
  · have a' : ¬ (n : Int) = 10 := by omega
    by_cases b : n = 13
    · subst b
      go_enter Tryz.func283, Tryz.ntmps283
      go_wp2
      go_ret
      exact ⟨rfl, rfl⟩
    · have b' : ¬ (n : Int) = 13 := by omega
      by_cases c : n = 9
      · subst c
        go_enter Tryz.func283, Tryz.ntmps283
        go_wp2
        go_ret
        exact ⟨rfl, rfl⟩
      · have c' : ¬ (n : Int) = 9 := by omega
        have h : ltr n = n := by unfold ltr; simp [a, b, c]
        rw [h]; clear h
        go_enter Tryz.func283, Tryz.ntmps283
        go_wp2
        go_ret
        exact ⟨rfl, rfl⟩
end Go.Proofs.YtpmmchppfmojhaaGreatDoor


/- takesBackslash, writeHexadecimal, writeEntity. -/
namespace Go.Proofs.YtpmmchppfmojhaaGreatDoor
open Go.RowKit
set_option linter.unusedVariables false

set_option maxRecDepth 1000000 in
theorem takes_any (st n : Nat) (f : Bool) (w : World) (hst : st = 1 ∨ st = 2 ∨ st = 3) : Calls Tryz.prog 281 #[.int .i64 st, .int .u8 n, .bool f] w fun e w' => e = .returned (.bool (tb st n f)) ∧ w = w' := by
  by_cases hall : n = 92 ∨ n = 10 ∨ n = 13 ∨ n = 9
  · have h : tb st n f = true := by unfold tb; rcases hall with rfl | rfl | rfl | rfl <;> simp
    rw [h]; clear h
    rcases hall with rfl | rfl | rfl | rfl
    · go_enter Tryz.func281, Tryz.ntmps281
      go_wp2
      go_ret
      exact ⟨rfl, rfl⟩
    · go_enter Tryz.func281, Tryz.ntmps281
      go_wp2
      go_ret
      exact ⟨rfl, rfl⟩
    · go_enter Tryz.func281, Tryz.ntmps281
      go_wp2
      go_ret
      exact ⟨rfl, rfl⟩
    · go_enter Tryz.func281, Tryz.ntmps281
      go_wp2
      go_ret
      exact ⟨rfl, rfl⟩
  · have a1 : ¬ (n : Int) = 92 := by omega
    have a2 : ¬ (n : Int) = 10 := by omega
    have a3 : ¬ (n : Int) = 13 := by omega
    have a4 : ¬ (n : Int) = 9 := by omega
    by_cases hl : n = 61 ∨ n = 58 ∨ n = 35 ∨ n = 33
    · clear hall a1 a2 a3 a4
      rcases hst with rfl | rfl | rfl <;> rcases hl with rfl | rfl | rfl | rfl
      · go_enter Tryz.func281, Tryz.ntmps281
        go_wp2
        go_ret
        exact ⟨rfl, rfl⟩
      · go_enter Tryz.func281, Tryz.ntmps281
        go_wp2
        go_ret
        exact ⟨rfl, rfl⟩
      · go_enter Tryz.func281, Tryz.ntmps281
        go_wp2
        go_ret
        exact ⟨rfl, rfl⟩
      · go_enter Tryz.func281, Tryz.ntmps281
        go_wp2
        go_ret
        exact ⟨rfl, rfl⟩
      · go_enter Tryz.func281, Tryz.ntmps281
        go_wp2
        go_ret
        exact ⟨rfl, rfl⟩
      · go_enter Tryz.func281, Tryz.ntmps281
        go_wp2
        go_ret
        exact ⟨rfl, rfl⟩
      · go_enter Tryz.func281, Tryz.ntmps281
        go_wp2
        go_ret
        exact ⟨rfl, rfl⟩
      · go_enter Tryz.func281, Tryz.ntmps281
        go_wp2
        go_ret
        exact ⟨rfl, rfl⟩
      · go_enter Tryz.func281, Tryz.ntmps281
        go_wp2
        go_ret
        exact ⟨rfl, rfl⟩
      · go_enter Tryz.func281, Tryz.ntmps281
        go_wp2
        go_ret
        exact ⟨rfl, rfl⟩
      · go_enter Tryz.func281, Tryz.ntmps281
        go_wp2
        go_ret
        exact ⟨rfl, rfl⟩
      · go_enter Tryz.func281, Tryz.ntmps281
        go_wp2
        go_ret
        exact ⟨rfl, rfl⟩
    · have b1 : ¬ (n : Int) = 61 := by omega
      have b2 : ¬ (n : Int) = 58 := by omega
      have b3 : ¬ (n : Int) = 35 := by omega
      have b4 : ¬ (n : Int) = 33 := by omega
      by_cases hs : n = 32 ∨ n = 34 ∨ n = 123 ∨ n = 125
      · clear hall a1 a2 a3 a4 hl b1 b2 b3 b4
        cases f <;> rcases hst with rfl | rfl | rfl <;> rcases hs with rfl | rfl | rfl | rfl
        · go_enter Tryz.func281, Tryz.ntmps281
          go_wp2
          go_ret
          exact ⟨rfl, rfl⟩
        · go_enter Tryz.func281, Tryz.ntmps281
          go_wp2
          go_ret
          exact ⟨rfl, rfl⟩
        · go_enter Tryz.func281, Tryz.ntmps281
          go_wp2
          go_ret
          exact ⟨rfl, rfl⟩
        · go_enter Tryz.func281, Tryz.ntmps281
          go_wp2
          go_ret
          exact ⟨rfl, rfl⟩
        · go_enter Tryz.func281, Tryz.ntmps281
          go_wp2
          go_ret
          exact ⟨rfl, rfl⟩
        · go_enter Tryz.func281, Tryz.ntmps281
          go_wp2
          go_ret
          exact ⟨rfl, rfl⟩
        · go_enter Tryz.func281, Tryz.ntmps281
          go_wp2
          go_ret
          exact ⟨rfl, rfl⟩
        · go_enter Tryz.func281, Tryz.ntmps281
          go_wp2
          go_ret
          exact ⟨rfl, rfl⟩
        · go_enter Tryz.func281, Tryz.ntmps281
          go_wp2
          go_ret
          exact ⟨rfl, rfl⟩
        · go_enter Tryz.func281, Tryz.ntmps281
          go_wp2
          go_ret
          exact ⟨rfl, rfl⟩
        · go_enter Tryz.func281, Tryz.ntmps281
          go_wp2
          go_ret
          exact ⟨rfl, rfl⟩
        · go_enter Tryz.func281, Tryz.ntmps281
          go_wp2
          go_ret
          exact ⟨rfl, rfl⟩
        · go_enter Tryz.func281, Tryz.ntmps281
          go_wp2
          go_ret
          exact ⟨rfl, rfl⟩
        · go_enter Tryz.func281, Tryz.ntmps281
          go_wp2
          go_ret
          exact ⟨rfl, rfl⟩
        · go_enter Tryz.func281, Tryz.ntmps281
          go_wp2
          go_ret
          exact ⟨rfl, rfl⟩
        · go_enter Tryz.func281, Tryz.ntmps281
          go_wp2
          go_ret
          exact ⟨rfl, rfl⟩
        · go_enter Tryz.func281, Tryz.ntmps281
          go_wp2
          go_ret
          exact ⟨rfl, rfl⟩
        · go_enter Tryz.func281, Tryz.ntmps281
          go_wp2
          go_ret
          exact ⟨rfl, rfl⟩
        · go_enter Tryz.func281, Tryz.ntmps281
          go_wp2
          go_ret
          exact ⟨rfl, rfl⟩
        · go_enter Tryz.func281, Tryz.ntmps281
          go_wp2
          go_ret
          exact ⟨rfl, rfl⟩
        · go_enter Tryz.func281, Tryz.ntmps281
          go_wp2
          go_ret
          exact ⟨rfl, rfl⟩
        · go_enter Tryz.func281, Tryz.ntmps281
          go_wp2
          go_ret
          exact ⟨rfl, rfl⟩
        · go_enter Tryz.func281, Tryz.ntmps281
          go_wp2
          go_ret
          exact ⟨rfl, rfl⟩
        · go_enter Tryz.func281, Tryz.ntmps281
          go_wp2
          go_ret
          exact ⟨rfl, rfl⟩
      · have c1 : ¬ (n : Int) = 32 := by omega
        have c2 : ¬ (n : Int) = 34 := by omega
        have c3 : ¬ (n : Int) = 123 := by omega
        have c4 : ¬ (n : Int) = 125 := by omega
        have h : tb st n f = false := by unfold tb; simp; omega
        rw [h]
        clear h hall hl hs hst
        go_enter Tryz.func281, Tryz.ntmps281
        go_wp2
        go_ret
        exact ⟨rfl, rfl⟩
end Go.Proofs.YtpmmchppfmojhaaGreatDoor


