/- Seal (both). -/
import Derived.Test.YtapldfkmkdbjgaaDd
import Derived.Laws.AppendOwnNone
namespace Go.Proofs.Ytapldfkmkdbjgaa
open Go.RowKit
set_option linter.unusedVariables false

/-- An append of bytes, nil or not, onto some of the call's own. -/
theorem wpList_append_bytes {P : Program} {w : World} {ops : Array Oper} {rest : List Oper} {o : Oper} {a : Act} {Q : Exit → Act → World → Prop} (hgd : o.guard = none) (s x : Operand) (t : TypeId)
    (ho : o.op = .call { callee := .builtin .append, args := #[s, x], argTypes := #[t, t] })
    (base : Nat) (e : TypeId) (i : TypeInfo) (ht : P.underlying t = some (.slice e)) (hi : P.info? e = some i) (hz : i.zero = some (.int .u8 0)) (hsize : i.size = 1) (hby : i.bytes = 1)
    (v : Value) (n : Nat) (xs ys : List UInt8) (u : Value) (hs : a.eval s = v) (hown : w.ownsRow base e 1 v n (byteCells xs)) (hx : a.eval x = u) (hu : RdB w u ys)
    (h63 : n + ys.length ≤ 140737488355328) (hbase : base ≤ w.heap.size)
    (h : ∀ v' w', w'.ownsRow base e 1 v' (n + ys.length) (byteCells (xs ++ ys)) → w.grownBy w' v.ownBlock → wpList P ops Q rest (a.put o.dst v') w') : wpList P ops Q (o :: rest) a w := by
  obtain ⟨hl, ⟨ad, c, rfl, hc1, hc2, hc⟩, hn⟩ := hu
  rcases ad with _ | ad
  · have hys : ys = [] := by
      rcases Classical.em (ys = []) with h0 | h0
      · exact h0
      · obtain ⟨b, off, hb, _⟩ := hc h0
        cases hb
    subst hys
    have hc0 := hn _ _ rfl
    subst hc0
    refine wpList_append_own_none hgd s x t ho base e i 1 ht hi v n (byteCells xs) hs hown hx ?_
    exact h v w (by simpa using hown) (World.grownBy.refl w _)
  · refine wpList_append_own w hgd s x t ho base e i (.int .u8 0) 1 1 ht hi hz hsize hby rfl (by decide) v n (byteCells xs) hs hown ad ys.length c (byteCells ys) hx (by simp [byteCells]) ?_ ?_ (by (have hm : maxLen = 9223372036854775807 := by decide); omega) (by omega) hbase ?_
    · intro j u hj
      have hjl : j < ys.length := by
        rcases Nat.lt_or_ge j ys.length with h0 | h0
        · exact h0
        · rw [List.getElem?_eq_none (show (byteCells ys).length ≤ j by rw [byteCells_length]; exact h0)] at hj
          cases hj
      obtain ⟨b, off, hb, _, hcc⟩ := hc (List.ne_nil_of_length_pos (by omega))
      cases hb
      rw [add_off, hcc j hjl]
      simp [byteCells, List.getElem?_eq_getElem hjl] at hj
      rw [← hj]
      simp [List.getD, List.getElem?_eq_getElem hjl]
    · intro u hu
      simp only [byteCells, List.mem_map] at hu
      obtain ⟨y, _, rfl⟩ := hu
      rfl
    · intro v' w' h2 h3 _
      exact h v' w' (by rw [byteCells_app]; exact h2) h3

/-- A sealed string. -/
def sl (key : Int) (l : List UInt8) : List UInt8 := l ++ le8 (cnt key l)
theorem sl_length (key : Int) (l : List UInt8) : (sl key l).length = l.length + 8 := by simp [sl, le8_length]

set_option maxRecDepth 1000000 in
set_option maxHeartbeats 400000 in
theorem seal_any (key : Int) (v : Value) (l : List UInt8) (w : World) (hk : Num key) (hv : RdB w v l) (hl : l.length ≤ 1000) :
    Calls Try.prog 17 #[.int .u64 key, v] w (OwnPost w (sl key l)) := by
  obtain ⟨i0, hi, hz0, hz1, hz2⟩ := info_parts Try.infoB
  obtain ⟨a, c, rfl⟩ := hv.slice
  have Hv := Lib.hid hv; clear hv
  have Hk := Lib.hid hk; clear hk
  go_enter Try.func17, Try.ntmps17
  go_wp2_with (refine wpList_make_own w rfl _ _ 23 rfl w.heap.size 5 i0 (.int .u8 0) 1 Try.underlying23 hi hz0 hz1 .i64 .i64 _ (l.length + 8) rfl rfl ?b1 ?b2 ?b3 ?b4 ?_)
  case b1 => omega
  case b2 => rw [hz2]; omega
  case b3 => (have hm : maxLen = 9223372036854775807 := by decide); omega
  case b4 => exact Nat.le_refl _
  · intro w1 o1 g1
    have b1 : Below w.heap.size w w1 := (Below.refl _ w).grown g1 (Nat.le_refl _) (fun k e => by cases e)
    have z1 := b1.size
    have o1' : w1.ownsRow w.heap.size 5 1 (.slice (some ⟨w.heap.size, 0, none⟩) 0 (l.length + 8)) 0 (byteCells []) := o1
    clear g1 o1
    go_wp2_with (at_builtin; go_loud (refine wpList_append_bytes rfl _ _ 23 rfl w.heap.size 5 i0 Try.underlying23 hi hz0 hz1 hz2 _ 0 [] l _ rfl o1' rfl (Hv.out.below b1) ?c1 ?c2 ?_))
    case c1 => omega
    case c2 => exact z1
    · intro v2 w2 o2 g2
      have b2 : Below w.heap.size w w2 := b1.grown g2 z1 (fun k e => (o1'.lt k e).1)
      have z2 := b2.size
      clear g2 o1' b1 z1
      go_wp2_with fail
      refine (counted_any key _ l _ (Hv.out.below b2)).mono ?_
      rintro e w3 ⟨rfl, b3⟩
      have z3 := b3.size
      go_wp2_with fail
      refine (eight_any _ _ (cnt_num Hk.out l)).mono ?_
      rintro e w4 ⟨v4, rfl, o4, b4⟩
      have z4 := b4.size
      have H4 := Lib.hid (le8_rd o4); clear o4
      have b34 := bthen b3 b4 z3
      have o5 := own_below o2 b34
      have b5 := bthen b2 b34 z2
      clear b3 b4 b34 o2 b2
      go_wp2_with (at_builtin; go_loud (refine wpList_append_bytes rfl _ _ 23 rfl w.heap.size 5 i0 Try.underlying23 hi hz0 hz1 hz2 _ _ _ _ _ rfl o5 rfl H4.out ?d1 ?d2 ?_))
      case d1 => rw [le8_length]; omega
      case d2 => omega
      · intro v6 w6 o6 g6
        have b6 := b5.grown g6 (by omega) (fun k e => (o5.lt k e).1)
        have Q := Lib.hid (And.intro o6 b6)
        clear o6 b6 o5 b5 g6
        go_wp2
        go_ret
        refine ⟨_, rfl, ?_, Q.out.2⟩
        have := Q.out.1
        rw [le8_length] at this
        rw [sl_length]
        simpa [sl] using this

set_option maxRecDepth 1000000 in
set_option maxHeartbeats 400000 in
theorem refSeal_any (key : Int) (v : Value) (l : List UInt8) (w : World) (hk : Num key) (hv : RdB w v l) (hl : l.length ≤ 1000) :
    Calls Try.prog 20 #[.int .u64 key, v] w (OwnPost w (sl key l)) := by
  obtain ⟨i0, hi, hz0, hz1, hz2⟩ := info_parts Try.infoB
  obtain ⟨a, c, rfl⟩ := hv.slice
  have Hv := Lib.hid hv; clear hv
  have Hk := Lib.hid hk; clear hk
  have o1 : (w.alloc (.cells #[] 5)).ownsRow w.heap.size 5 1 (.slice (some ⟨w.heap.size, 0, none⟩) 0 0) 0 (byteCells []) := World.ownsRow_made w #[] 0 (Nat.le_refl _) (by decide) rfl
  have b1 : Below w.heap.size w (w.alloc (.cells #[] 5)) := (Below.refl _ w).alloc (Nat.le_refl _) _
  go_enter Try.func20, Try.ntmps20
  go_wp2_with (at_builtin; go_loud (refine wpList_append_bytes rfl _ _ 23 rfl w.heap.size 5 i0 Try.underlying23 hi hz0 hz1 hz2 _ 0 [] l _ rfl o1 rfl (Hv.out.below b1) ?c1 ?c2 ?_))
  case c1 => omega
  case c2 => exact b1.size
  · intro v2 w2 o2 g2
    have b2 : Below w.heap.size w w2 := b1.grown g2 b1.size (fun k e => (o1.lt k e).1)
    have z2 := b2.size
    clear g2 o1 b1
    go_wp2_with fail
    refine (refSeal_num key _ l _ (Hv.out.below b2)).mono ?_
    rintro e w3 ⟨rfl, b3⟩
    have z3 := b3.size
    go_wp2_with fail
    refine (refEight_any _ _ (cnt_num Hk.out l)).mono ?_
    rintro e w4 ⟨v4, rfl, o4, b4⟩
    have z4 := b4.size
    have H4 := Lib.hid (le8_rd o4); clear o4
    have b34 := bthen b3 b4 z3
    have o5 := own_below o2 b34
    have b5 := bthen b2 b34 z2
    clear b3 b4 b34 o2 b2
    go_wp2_with (at_builtin; go_loud (refine wpList_append_bytes rfl _ _ 23 rfl w.heap.size 5 i0 Try.underlying23 hi hz0 hz1 hz2 _ _ _ _ _ rfl o5 rfl H4.out ?d1 ?d2 ?_))
    case d1 => rw [le8_length]; omega
    case d2 => omega
    · intro v6 w6 o6 g6
      have b6 := b5.grown g6 (by omega) (fun k e => (o5.lt k e).1)
      have Q := Lib.hid (And.intro o6 b6)
      clear o6 b6 o5 b5 g6
      go_wp2
      go_ret
      refine ⟨_, rfl, ?_, Q.out.2⟩
      have := Q.out.1
      rw [le8_length] at this
      rw [sl_length]
      simpa [sl] using this
end Go.Proofs.Ytapldfkmkdbjgaa
