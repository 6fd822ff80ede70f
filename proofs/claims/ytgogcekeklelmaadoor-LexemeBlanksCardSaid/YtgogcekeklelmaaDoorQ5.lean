/- What the row stands on, part 5. -/
import Derived.Lib.OthersKept
import Derived.Deep.QuietTactic
import Derived.OwnWalk
import Derived.Maps.AppendAt
import Derived.Lib.IndexBytes
import Derived.Test.YtgogcekeklelmaaDoorQ4

/- Lists of numbers in memory; the contracts of SameInts, Decode (both), Count. -/
namespace Go.Proofs.YtgogcekeklelmaaDoor
open Go.RowKit
set_option linter.unusedVariables false

/-- A value that reads as a list of ints. -/
structure RdI (w : World) (v : Value) (xs : List Int) : Prop where
  len : xs.length ≤ 281474976710656
  form : ∃ a c, v = .slice a xs.length c ∧ (xs ≠ [] → ∃ b off, a = some ⟨b, off, none⟩ ∧ b < w.heap.size ∧ ∀ i, i < xs.length → w.cell? ⟨b, off + i, none⟩ = some (.int .i64 (xs.getD i 0)))
  nil_ : ∀ n c, v = .slice none n c → c = 0
theorem RdI.below {w w' : World} {v : Value} {xs : List Int} (h : RdI w v xs) (hb : Below w.heap.size w w') : RdI w' v xs := by
  obtain ⟨hl, ⟨a, c, hv, hx⟩, hn⟩ := h
  refine ⟨hl, ⟨a, c, hv, fun hne => ?_⟩, hn⟩
  obtain ⟨b, off, ha, hlt, hc⟩ := hx hne
  exact ⟨b, off, ha, Nat.lt_of_lt_of_le hlt hb.size, fun i hi => (hb.cell (p := ⟨b, off + i, none⟩) hlt).trans (hc i hi)⟩
theorem RdI.drewN {w : World} {v : Value} {xs : List Int} (h : RdI w v xs) (n : Nat) : RdI (w.drewN n) v xs := h.below (below_drewN (Below.refl _ _) n)
theorem RdI.drew {w : World} {v : Value} {xs : List Int} (h : RdI w v xs) : RdI w.drew v xs := h.below (Below.refl _ _).drew
theorem RdI.alloc {w : World} {v : Value} {xs : List Int} (h : RdI w v xs) (o : Obj) : RdI (w.alloc o) v xs := h.below ((Below.refl _ _).alloc (Nat.le_refl _) o)
theorem RdI.of_own {w : World} {base n : Nat} {e : TypeId} {v : Value} {xs : List Int} (h : w.ownsRow base e 1 v n (xs.map (Value.int .i64))) (hl : xs.length ≤ 281474976710656) : RdI w v xs := by
  have hn : xs.length = n := by have := h.1; simpa using this
  rcases h.2 with ⟨rfl, h0⟩ | ⟨g, cap, cur, rfl, hb, hg, hnc, _⟩
  · exact ⟨hl, ⟨none, 0, by rw [hn, h0], fun hne => absurd (List.eq_nil_of_length_eq_zero (by omega)) hne⟩, fun n c hc => by injection hc with _ _ h3; exact h3.symm⟩
  · refine ⟨hl, ⟨_, cap, by rw [hn], fun hne => ⟨g, 0, rfl, (Array.getElem?_eq_some_iff.1 hg).1, fun i hi => ?_⟩⟩, fun n c hc => by injection hc with h1 _ _; cases h1⟩
    have := h.cells (g := g) rfl i (.int .i64 (xs.getD i 0)) (by simp [List.getD, List.getElem?_eq_getElem hi])
    have hp : (⟨g, 0, none⟩ : Addr).add i = ⟨g, 0 + i, none⟩ := by unfold Addr.add; split <;> simp_all
    rw [hp] at this
    exact this

def elI (l : List UInt8) : List Int := (elems l).map (fun n : Nat => (n : Int))
theorem elI_nil : elI [] = [] := rfl
theorem elI_cons (l : List UInt8) (h : l ≠ []) : elI l = ((dl l).1 : Int) :: elI (l.drop (dl l).2) := by unfold elI; rw [elems_cons l h]; rfl
theorem elI_length (l : List UInt8) : (elI l).length ≤ l.length := by unfold elI; rw [List.length_map]; exact elems_length l
theorem own_belowU {w w' : World} {base n : Nat} {e : TypeId} {size : Nat} {v : Value} {xs : List Value} (h : w.ownsRow base e size v n xs) (hb : Below w.heap.size w w') : w'.ownsRow base e size v n xs := by
  refine ⟨h.1, ?_⟩
  rcases h.2 with h0 | ⟨g, cap, cur, hv, hB, hg, hr⟩
  · exact .inl h0
  · exact .inr ⟨g, cap, cur, hv, hB, (hb.block g (Array.getElem?_eq_some_iff.1 hg).1).trans hg, hr⟩
def strLen : Value → Nat | .string b => b.size | _ => 0
theorem ext_data (s : ByteArray) (k : Nat) : (s.extract k s.size).data.toList = s.data.toList.drop k := Lib.extract_to_end s k
theorem Tryd.infoI : (Tryd.prog.info? 3).map (fun i => (i.zero, i.size, i.bytes)) = some (some (.int .i64 0), 1, 8) := by kernel_rfl
/-- A new list of ints, and nothing that was there has turned. -/
def ListPost (w : World) (xs : List Int) (e : Ending) (w' : World) : Prop := ∃ v, e = .returned v ∧ RdI w' v xs ∧ Below w.heap.size w w'

def DecRel (s : ByteArray) (w : World) (v0 v : Value) (wr : World) : Prop :=
  ∃ (s' : ByteArray) (pre : List Int), v0 = .string s' ∧ elI s.data.toList = pre ++ elI s'.data.toList ∧ pre.length + s'.size ≤ s.size ∧ wr.ownsRow w.heap.size 3 1 v pre.length (pre.map (Value.int .i64)) ∧ Below w.heap.size w wr

/-- One element more. -/
theorem dec_step {s s' : ByteArray} {w w1 w2 : World} {pre : List Int} {v' : Value} {z : Nat} {d : Int} {row : Option Nat} (hne : s'.data.toList ≠ []) (hels : elI s.data.toList = pre ++ elI s'.data.toList) (hlen : pre.length + s'.size ≤ s.size)
    (hz : z = (dl s'.data.toList).2) (hd : d = (dl s'.data.toList).1) (hB : Below w.heap.size w w1) (o : Obj)
    (hown' : w2.ownsRow w.heap.size 3 1 v' (pre.length + 1) (pre.map (Value.int .i64) ++ [.int .i64 d]))
    (hg : (w1.alloc o).grownBy w2 row) (hr : ∀ k, row = some k → w.heap.size ≤ k) : DecRel s w (.string (s'.extract z s'.size)) v' w2 := by
  have hw1 := (dl_width s'.data.toList).1
  have hw2 := dl_width_le s'.data.toList hne
  rw [len_data] at hw2
  refine ⟨_, pre ++ [d], rfl, ?_, ?_, by simpa using hown', (hB.alloc hB.size o).grown hg (by have := hB.size; simp; omega) hr⟩
  · rw [hels, elI_cons _ hne, ext_data, hz, hd]; simp
  · simp only [List.length_append, List.length_singleton, ByteArray.size_extract]; omega

set_option maxRecDepth 1000000 in
set_option maxHeartbeats 400000 in
theorem refDecode_any (s : ByteArray) (w : World) (hs : s.size ≤ 281474976710656 / 16) :
    Calls Tryd.prog 47 #[.string s] w (ListPost w (elI s.data.toList)) := by
  obtain ⟨i0, hi, hz0, hz1, hz2⟩ := info_parts Tryd.infoI
  go_enter Tryd.func47, Tryd.ntmps47
  go_wp2
  go_loopw [0, 3] (fun v0 v wr => DecRel s w v0 v wr) (fun v0 _ _ => strLen v0)
  case atStart => exact ⟨s, [], rfl, rfl, by simp, World.ownsRow_nil _ _ _ _, Below.refl _ _⟩
  case round =>
    rename_i u0 u3
    obtain ⟨s', pre, rfl, hels, hlen, hown, hB⟩ := hrel
    have Hels := Lib.hid hels; clear hels
    by_cases hp : 0 < s'.size
    · have hne := ne_nil hp
      have Hne := Lib.hid hne
      have hw1 := (dl_width s'.data.toList).1
      have hw2 := dl_width_le s'.data.toList hne
      rw [len_data] at hw2
      clear hne
      go_wp2_with fail
      refine (next_any s' wr hp (by unfold maxLen; omega)).mono ?_
      rintro e w1 ⟨rfl, hb1⟩
      have hown1 := own_belowU hown hb1
      have hB1 := hB.trans (hb1.mono hB.size)
      have hsz := hB1.size
      clear hown hB hb1
      go_wp2_with (at_builtin; refine wpList_append_own _ rfl _ _ 81 rfl w.heap.size 3 i0 (.int .i64 0) 1 8 Tryd.underlying81 hi hz0 hz1 hz2 rfl (by decide) _ _ _ rfl (hown1.alloc _) ⟨w1.heap.size, 0, none⟩ 1 1 [.int .i64 (dl s'.data.toList).1] rfl rfl ?c1 ?c2 ?c3 ?c4 ?c5 ?_)
      case c1 => exact cell_one_new _ _ _
      case c2 => intro u hu; simp at hu; subst hu; rfl
      case c3 => unfold maxLen; omega
      case c4 => omega
      case c5 => simp; omega
      · intro v' w2 hown2 hgrow _
        have R := Lib.hid (dec_step Hne.out Hels.out hlen rfl rfl hB1 _ hown2 hgrow (fun k e => (hown1.lt k e).1))
        clear hown2 hgrow hown1 hB1
        go_wp2
        go_roundw
        case rel => exact R.out
        case measure => simp [strLen]; omega
    · have h0 : s'.data.toList = [] := List.eq_nil_of_length_eq_zero (by rw [len_data]; omega)
      have H0 := Lib.hid h0; clear h0
      go_wp2
      go_ret
      have hf := Hels.out
      rw [H0.out, elI_nil, List.append_nil] at hf
      exact ⟨_, rfl, by rw [hf]; exact RdI.of_own hown (by omega), hB⟩
end Go.Proofs.YtgogcekeklelmaaDoor


