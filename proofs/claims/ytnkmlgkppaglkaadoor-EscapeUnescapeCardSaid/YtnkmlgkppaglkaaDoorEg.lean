/- utf8.Decode and utf8.Encode of the program (out of Ud, Ue, Ug, for a translation without the specification of layer 1). -/
import Derived.Test.YtnkmlgkppaglkaaDoorEf
import Derived.Lib.OthersKept
import Derived.Deep.QuietTactic
import Derived.BigQuiet
import Derived.OwnWalk
import Derived.Maps.AppendAt
import Derived.Lib.IndexBytes
import Derived.Deep.RegionWith
import Derived.Deep.RegionHeld3
import Derived.Outline
import Derived.WalkSmall
import Derived.Lib.AppendStr
namespace Go.Proofs.YtnkmlgkppaglkaaDoor
open Go.RowKit
set_option linter.unusedVariables false

theorem len_data (s : ByteArray) : s.data.toList.length = s.size := Array.length_toList
/-- A value that reads as a list of ints. -/
structure RdI (w : World) (v : Value) (xs : List Int) : Prop where
  len : xs.length ≤ 281474976710656
  form : ∃ a c, v = .slice a xs.length c ∧ (xs ≠ [] → ∃ b off, a = some ⟨b, off, none⟩ ∧ b < w.heap.size ∧ ∀ i, i < xs.length → w.cell? ⟨b, off + i, none⟩ = some (.int .i64 (xs.getD i 0)))
  nil_ : ∀ n c, v = .slice none n c → c = 0
theorem RdI.below {w w' : World} {v : Value} {xs : List Int} (h : RdI w v xs) (hb : Below w.heap.size w w') : RdI w' v xs := by
  obtain ⟨hl, ⟨a, c, hv, hx⟩, hn⟩ := h
  refine ⟨hl, ⟨a, c, hv, fun hne => ?_⟩, hn⟩
  obtain ⟨b, off, ha, hlt, hc⟩ := hx hne
  exact ⟨b, off, ha, Nat.lt_of_lt_of_le hlt hb.size, fun i hi => (hb.cell (p := ⟨b, off + i, none⟩) hlt).trans (hc i hi)⟩
theorem RdI.drewN {w : World} {v : Value} {xs : List Int} (h : RdI w v xs) (n : Nat) : RdI (w.drewN n) v xs := h.below (below_drewN (Below.refl _ _) n)
theorem RdI.drew {w : World} {v : Value} {xs : List Int} (h : RdI w v xs) : RdI w.drew v xs := h.below (Below.refl _ _).drew
theorem RdI.alloc {w : World} {v : Value} {xs : List Int} (h : RdI w v xs) (o : Obj) : RdI (w.alloc o) v xs := h.below ((Below.refl _ _).alloc (Nat.le_refl _) o)
theorem RdI.of_own {w : World} {base n : Nat} {e : TypeId} {v : Value} {xs : List Int} (h : w.ownsRow base e 1 v n (xs.map (Value.int .i64))) (hl : xs.length ≤ 281474976710656) : RdI w v xs := by
  have hn : xs.length = n := by have := h.1; simpa using this
  rcases h.2 with ⟨rfl, h0⟩ | ⟨g, cap, cur, rfl, hb, hg, hnc, _⟩
  · exact ⟨hl, ⟨none, 0, by rw [hn, h0], fun hne => absurd (List.eq_nil_of_length_eq_zero (by omega)) hne⟩, fun n c hc => by injection hc with _ _ h3; exact h3.symm⟩
  · refine ⟨hl, ⟨_, cap, by rw [hn], fun hne => ⟨g, 0, rfl, (Array.getElem?_eq_some_iff.1 hg).1, fun i hi => ?_⟩⟩, fun n c hc => by injection hc with h1 _ _; cases h1⟩
    have := h.cells (g := g) rfl i (.int .i64 (xs.getD i 0)) (by simp [List.getD, List.getElem?_eq_getElem hi])
    have hp : (⟨g, 0, none⟩ : Addr).add i = ⟨g, 0 + i, none⟩ := by unfold Addr.add; split <;> simp_all
    rw [hp] at this
    exact this

def elI (l : List UInt8) : List Int := (elems l).map (fun n : Nat => (n : Int))
theorem elI_nil : elI [] = [] := rfl
theorem elI_cons (l : List UInt8) (h : l ≠ []) : elI l = ((dl l).1 : Int) :: elI (l.drop (dl l).2) := by unfold elI; rw [elems_cons l h]; rfl
theorem elI_length (l : List UInt8) : (elI l).length ≤ l.length := by unfold elI; rw [List.length_map]; exact elems_length l
theorem own_below {w w' : World} {base n : Nat} {e : TypeId} {size : Nat} {v : Value} {xs : List Value} (h : w.ownsRow base e size v n xs) (hb : Below w.heap.size w w') : w'.ownsRow base e size v n xs := by
  refine ⟨h.1, ?_⟩
  rcases h.2 with h0 | ⟨g, cap, cur, hv, hB, hg, hr⟩
  · exact .inl h0
  · exact .inr ⟨g, cap, cur, hv, hB, (hb.block g (Array.getElem?_eq_some_iff.1 hg).1).trans hg, hr⟩
def strLen : Value → Nat | .string b => b.size | _ => 0
theorem ext_data (s : ByteArray) (k : Nat) : (s.extract k s.size).data.toList = s.data.toList.drop k := Lib.extract_to_end s k
theorem Tryd.infoI : (Tryd.prog.info? 3).map (fun i => (i.zero, i.size, i.bytes)) = some (some (.int .i64 0), 1, 8) := by kernel_rfl
/-- A new list of ints, and nothing that was there has turned. -/
def ListPost (w : World) (xs : List Int) (e : Ending) (w' : World) : Prop := ∃ v, e = .returned v ∧ RdI w' v xs ∧ Below w.heap.size w w'

theorem dl_le (l : List UInt8) : (dl l).1 ≤ 1114111 := by
  have h := dl_valid l
  have := (valid_iff _).1 h
  omega
theorem next_at {P : Program} (w : World) (k : Nat) (s : ByteArray) (pos : Nat) (ty : TypeId) (hk : w.heap[k]? = some (.stringIter s pos)) (h : pos < s.size) :
    (Instr.next (.pointer (some ⟨k, 0, none⟩)) true ty).run P w =
      .ok (.tuple #[.bool true, .int .i64 pos, .int .i32 (dl (s.data.toList.drop pos)).1]) (w.iterAt k s (pos + (dl (s.data.toList.drop pos)).2)) := by
  rw [← decode_dl]; exact Lib.run_next_any_at w k s pos ty hk h
theorem drop_ne {s : ByteArray} {pos : Nat} (h : pos < s.size) : s.data.toList.drop pos ≠ [] := fun h' => by
  have := len_data s
  have h2 := congrArg List.length h'
  rw [List.length_drop] at h2; simp only [List.length_nil] at h2; omega
theorem drop_end {s : ByteArray} {pos : Nat} (h : ¬ pos < s.size) : s.data.toList.drop pos = [] := List.drop_eq_nil_of_le (by rw [len_data]; omega)
theorem width_le {s : ByteArray} {pos : Nat} (h : pos < s.size) : pos + (dl (s.data.toList.drop pos)).2 ≤ s.size := by
  have := dl_width_le _ (drop_ne h)
  rw [List.length_drop, len_data] at this
  omega

def DecRel2 (s : ByteArray) (w : World) (pos : Nat) (pre : List Int) (v : Value) (wr : World) : Prop :=
  wr.heap[w.heap.size]? = some (.stringIter s pos) ∧ pos ≤ s.size ∧ elI s.data.toList = pre ++ elI (s.data.toList.drop pos) ∧ pre.length ≤ pos ∧ wr.ownsRow (w.heap.size + 1) 3 1 v pre.length (pre.map (Value.int .i64)) ∧ Below w.heap.size w wr

theorem decode_step {s : ByteArray} {w wr w2 : World} {pos : Nat} {pre : List Int} {v v' : Value} {o : Obj} (hp : pos < s.size) (h : DecRel2 s w pos pre v wr)
    (hown' : w2.ownsRow (w.heap.size + 1) 3 1 v' (pre.length + 1) (pre.map (Value.int .i64) ++ [.int .i64 (dl (s.data.toList.drop pos)).1]))
    (hg : ((wr.iterAt w.heap.size s (pos + (dl (s.data.toList.drop pos)).2)).alloc o).grownBy w2 v.ownBlock) : DecRel2 s w (pos + (dl (s.data.toList.drop pos)).2) (pre ++ [((dl (s.data.toList.drop pos)).1 : Int)]) v' w2 := by
  obtain ⟨hk, _, hels, hlen, hown, hB⟩ := h
  have hw := dl_width (s.data.toList.drop pos)
  have hr : ∀ k, v.ownBlock = some k → w.heap.size + 1 ≤ k := fun k e => (hown.lt k e).1
  have hlt : w.heap.size < wr.heap.size := (Array.getElem?_eq_some_iff.1 hk).1
  refine ⟨?_, width_le hp, ?_, by simp; omega, by simpa using hown', ?_⟩
  · rw [hg.block _ (by simp [Lib.iterAt_size]; omega) (fun e => by have := hr _ e.symm; omega), Below.heap_alloc _ _ _ (by rw [Lib.iterAt_size]; exact hlt)]
    exact Lib.iterAt_heap _ _ _ _ _ hk
  · rw [hels, elI_cons _ (drop_ne hp), List.drop_drop]; simp
  · exact ((Lib.below_iterAt hB (Nat.le_refl _) _ _).alloc (by rw [Lib.iterAt_size]; omega) o).grown hg (by simp [Lib.iterAt_size]; omega) (fun k e => by have := hr k e; omega)

set_option maxRecDepth 1000000 in
set_option maxHeartbeats 400000 in
theorem decode_any (s : ByteArray) (w : World) (hs : s.size ≤ 281474976710656 / 16) :
    Calls Tryd.prog 51 #[.string s] w (ListPost w (elI s.data.toList)) := by
  obtain ⟨i0, hi, hz0, hz1, hz2⟩ := info_parts Tryd.infoI
  go_enter Tryd.func51, Tryd.ntmps51
  go_wp2
  go_loopw [3] (fun v wr => ∃ pos pre, DecRel2 s w pos pre v wr) (fun _ wr => s.size - wr.iterPos w.heap.size)
  case atStart => exact ⟨0, [], heap_alloc_new w _, by omega, by simp, by simp, World.ownsRow_nil _ _ _ _, (Below.refl _ _).alloc (Nat.le_refl _) _⟩
  case round =>
    obtain ⟨pos, pre, hrel⟩ := hrel
    have Hr := Lib.hid hrel
    obtain ⟨hk, hps, hels, hlen, hown, hB⟩ := hrel
    have hsz := hB.size
    clear hels hB
    have hm : Hid (wr.iterPos w.heap.size = pos) := iterPos_of hk
    by_cases hp : pos < s.size
    · have hnx := fun ty => next_at (P := Tryd.prog) wr _ s pos ty hk hp
      have hd := dl_le (s.data.toList.drop pos)
      have hlt : w.heap.size < wr.heap.size := (Array.getElem?_eq_some_iff.1 hk).1
      have hw := dl_width (s.data.toList.drop pos)
      have hwl := width_le hp
      clear hk
      have hown1 := ownsRow_iterAt hown (Nat.lt_succ_self _) s (pos + (dl (s.data.toList.drop pos)).2)
      clear hown
      go_wp2_with (at_builtin; refine wpList_append_own _ rfl _ _ 69 rfl (w.heap.size + 1) 3 i0 (.int .i64 0) 1 8 Tryd.underlying69 hi hz0 hz1 hz2 rfl (by decide) _ _ _ rfl (hown1.alloc _) ⟨(wr.iterAt w.heap.size s (pos + (dl (s.data.toList.drop pos)).2)).heap.size, 0, none⟩ 1 1 [.int .i64 (dl (s.data.toList.drop pos)).1] rfl rfl ?c1 ?c2 ?c3 ?c4 ?c5 ?_)
      case c1 => exact cell_one_new _ _ _
      case c2 => intro u hu; simp at hu; subst hu; rfl
      case c3 => unfold maxLen; omega
      case c4 => omega
      case c5 => simp [Lib.iterAt_size]; omega
      · intro v' w2 hown2 hgrow _
        have R := decode_step hp Hr.out hown2 hgrow
        have hm2 := Lib.hid (iterPos_of R.1)
        have R := Lib.hid R
        clear hown2 hgrow hown1
        go_wp2
        go_roundw
        case rel => exact ⟨_, _, R.out⟩
        case measure => rw [hm2.out, hm.out]; omega
    · have hnx := fun ty => Lib.run_next_end_at (P := Tryd.prog) wr _ s pos ty hk hp
      go_wp2
      go_ret
      obtain ⟨_, _, hels, _, hown, hB⟩ := Hr.out
      rw [drop_end hp, elI_nil, List.append_nil] at hels
      exact ⟨_, rfl, by rw [hels]; exact RdI.of_own hown (by omega), hB⟩

def encL (xs : List Int) : List UInt8 := xs.flatMap fun n => enc (cp n)
theorem encL_nil : encL [] = [] := rfl
theorem encL_snoc (xs : List Int) (x : Int) : encL (xs ++ [x]) = encL xs ++ enc (cp x) := by unfold encL; simp
theorem encL_cons (xs : List Int) (x : Int) : encL (x :: xs) = enc (cp x) ++ encL xs := by unfold encL; simp
theorem encL_length (xs : List Int) : (encL xs).length ≤ 4 * xs.length := by
  induction xs with
  | nil => simp [encL]
  | cons x xs ih =>
    rw [encL_cons, List.length_append, List.length_cons]
    have := (enc_length (cp x)).2
    omega
theorem take_snoc (xs : List Int) (k : Nat) (h : k < xs.length) : xs.take (k + 1) = xs.take k ++ [xs[k]?.getD 0] := by
  rw [List.take_succ_eq_append_getElem h, List.getElem?_eq_getElem h]; rfl

theorem enc_size (n : Int) : (Utf8.encode n).size ≤ 4 := by rw [← len_data]; exact (enc_length n).2
def StrPostE (w : World) (l : List UInt8) (e : Ending) (w' : World) : Prop := ∃ b : ByteArray, e = .returned (.string b) ∧ b.data.toList = l ∧ Below w.heap.size w w'
/-! ### utf8.Encode -/
def byteCells (l : List UInt8) : List Value := l.map fun b => Value.int .u8 b.toNat
theorem conv_own {P : Program} {S D e : TypeId} (hs : P.underlying S = some (.slice e)) (he : P.underlying e = some (.int .u8)) (hd : P.underlying D = some .string)
    {w : World} {base : Nat} {v : Value} {l : List UInt8} (h : w.ownsRow base e 1 v l.length (byteCells l)) : (convert S D v).run P w = .ok (.string ⟨l.toArray⟩) w := by
  rcases h.2 with ⟨rfl, h0⟩ | ⟨g, cap, cur, rfl, hb, hg, hnc, _⟩
  · have : l = [] := List.eq_nil_of_length_eq_zero h0
    subst this
    exact run_convert_bytes_nil w S e hs he 0 0 D hd
  · refine run_convert_bytes_back w S D e _ cap l hs he hd (fun j hj => ?_)
    exact h.cells (g := g) rfl j _ (by simp [byteCells, hj])
theorem Tryd.infoB : (Tryd.prog.info? 5).map (fun i => (i.zero, i.size, i.bytes)) = some (some (.int .u8 0), 1, 1) := by kernel_rfl
def EncRel2 (xs : List Int) (w : World) (v i : Value) (wr : World) : Prop :=
  ∃ (k : Nat), i = .int .i64 k ∧ k ≤ xs.length ∧ wr.ownsRow w.heap.size 5 1 v (encL (xs.take k)).length (byteCells (encL (xs.take k))) ∧ Below w.heap.size w wr
theorem enc_step2 {xs : List Int} {w wr w2 : World} {k : Nat} {v v' : Value} (hk : k < xs.length) (hB : Below w.heap.size w wr)
    (hown : wr.ownsRow w.heap.size 5 1 v (encL (xs.take k)).length (byteCells (encL (xs.take k)))) {x : Int} (hx : xs[k]?.getD 0 = x)
    (h2 : w2.ownsRow w.heap.size 5 1 v' ((encL (xs.take k)).length + (Utf8.encode (cp x)).size) (byteCells (encL (xs.take k)) ++ Lib.strCells (Utf8.encode (cp x)))) (hg : wr.grownBy w2 v.ownBlock) :
    EncRel2 xs w v' (.int .i64 (k + 1)) w2 := by
  refine ⟨k + 1, by go_num, hk, ?_, hB.grown hg hB.size (fun j e => (hown.lt j e).1)⟩
  rw [take_snoc xs k hk, encL_snoc, hx, List.length_append]
  have e1 : (enc (cp x)).length = (Utf8.encode (cp x)).size := len_data _
  have e2 : byteCells (encL (xs.take k) ++ enc (cp x)) = byteCells (encL (xs.take k)) ++ Lib.strCells (Utf8.encode (cp x)) := by unfold byteCells; rw [List.map_append]; rfl
  rw [e1, e2]
  exact h2

set_option maxRecDepth 1000000 in
set_option maxHeartbeats 400000 in
theorem encode_any (v : Value) (xs : List Int) (w : World) (hv : RdI w v xs) (hx : xs.length ≤ 281474976710656 / 64) :
    Calls Tryd.prog 50 #[v] w (StrPostE w (encL xs)) := by
  obtain ⟨i0, hi, hz0, hz1, hz2⟩ := info_parts Tryd.infoB
  obtain ⟨_, ⟨a, c, rfl, hx⟩, _⟩ := hv
  have Hx := Lib.hid hx; clear hx
  go_enter Tryd.func50, Tryd.ntmps50
  go_wp2
  go_loopw [3, 8] (fun v i wr => EncRel2 xs w v i wr) (fun _ i _ => xs.length - (intOf i).toNat)
  case atStart => exact ⟨0, rfl, Nat.zero_le _, World.ownsRow_nil _ _ _ _, Below.refl _ _⟩
  case round =>
    obtain ⟨k, rfl, hk, hown, hB⟩ := hrel
    have hel : (encL (xs.take k)).length ≤ 4 * k := by
      have h2 := encL_length (xs.take k)
      rw [List.length_take] at h2
      omega
    by_cases hlt : k < xs.length
    · obtain ⟨bk, off, rfl, hbl, hc⟩ := Hx.out (List.ne_nil_of_length_pos (by omega))
      have h1 : wr.cell? ⟨bk, off + k, none⟩ = some (.int .i64 (xs[k]?.getD 0)) := by rw [← List.getD_eq_getElem?_getD]; exact (hB.cell (p := ⟨bk, off + k, none⟩) hbl).trans (hc k hlt)
      clear hc
      obtain ⟨x, hxk⟩ : ∃ x, xs[k]?.getD 0 = x := ⟨_, rfl⟩
      rw [hxk] at h1
      have Hxk := Lib.hid hxk; clear hxk
      have hes := enc_size (cp x)
      go_wp2_with fail
      refine (codePoint_any _ _).mono ?_
      rintro e w' ⟨rfl, rfl⟩
      go_wp2_with (at_builtin; go_loud (refine Lib.wpList_append_own_string _ rfl _ _ 34 9 rfl w.heap.size 5 i0 Tryd.underlying34 Tryd.underlying9 hi hz0 hz1 hz2 _ _ _ rfl hown (Utf8.encode (cp x)) rfl ?c1 ?c2 ?c3 ?_))
      case c1 => unfold maxLen; omega
      case c2 => omega
      case c3 => exact hB.size
      · intro v' w2 hown2 hgrow _
        have R := Lib.hid (enc_step2 hlt hB hown Hxk.out hown2 hgrow)
        clear hown2 hgrow hown hB
        go_wp2
        go_roundw
        case rel => exact R.out
        case measure => simp [intOf]; omega
    · have hf := conv_own (P := Tryd.prog) Tryd.underlying34 Tryd.underlying5 Tryd.underlying9 hown
      go_wp2
      go_ret
      exact ⟨_, rfl, by rw [List.take_of_length_le (by omega)], hB⟩
end Go.Proofs.YtnkmlgkppaglkaaDoor
