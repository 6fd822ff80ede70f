/- What the row stands on, part 18. -/
import Derived.Laws.OwnMore
import Derived.Test.YtgogcekeklelmaaGreatDoorQ17

/- Of the program of layer 11: Spell. -/
namespace Go.Proofs.YtgogcekeklelmaaGreatDoor
open Go.RowKit
set_option linter.unusedVariables false

/-- The strings so far, the others empty. -/
def cellsA (xs : List (List UInt8)) (n : Nat) : Array Value := (xs.map (fun x => Value.string (ofL x)) ++ List.replicate (n - xs.length) (Value.string ⟨#[]⟩)).toArray
theorem made_cells (n : Nat) : madeCells (Value.string ByteArray.empty).cells n = cellsA [] n := by
  apply Array.toList_inj.1
  have := toList_madeCells_one (Value.string ByteArray.empty) n
  rw [show (Value.string ByteArray.empty).cells = #[Value.string ByteArray.empty] from rfl, this]
  rfl
theorem cells_at {xs : List (List UInt8)} {n : Nat} (h : xs.length < n) : (cellsA xs n)[xs.length]? = some (.string ⟨#[]⟩) := by
  unfold cellsA
  rw [List.getElem?_toArray, List.getElem?_append_right (by rw [List.length_map]; exact Nat.le_refl _), List.length_map, Nat.sub_self, List.getElem?_replicate, if_pos (by omega)]
theorem cells_set {xs : List (List UInt8)} {n : Nat} (h : xs.length < n) (y : List UInt8) : (cellsA xs n).setIfInBounds xs.length (.string (ofL y)) = cellsA (xs ++ [y]) n := by
  unfold cellsA
  apply Array.toList_inj.1
  rw [Array.toList_setIfInBounds]
  show List.set (List.map (fun x => Value.string (ofL x)) xs ++ List.replicate (n - xs.length) (Value.string ⟨#[]⟩)) xs.length (.string (ofL y)) = List.map (fun x => Value.string (ofL x)) (xs ++ [y]) ++ List.replicate (n - (xs ++ [y]).length) (Value.string ⟨#[]⟩)
  obtain ⟨m, hm⟩ : ∃ m, n - xs.length = m + 1 := ⟨n - xs.length - 1, by omega⟩
  rw [hm, List.replicate_succ, List.set_append_right _ _ (by rw [List.length_map]; exact Nat.le_refl _), List.length_map, Nat.sub_self, List.set_cons_zero, List.map_append, List.length_append, List.append_assoc]
  simp only [List.map_cons, List.map_nil, List.length_cons, List.length_nil, Nat.zero_add, List.cons_append, List.nil_append]
  rw [show n - (xs.length + 1) = m by omega]
theorem cells_all {xs : List (List UInt8)} : cellsA xs xs.length = (xs.map (fun x => Value.string (ofL x))).toArray := by
  unfold cellsA
  rw [Nat.sub_self, List.replicate_zero, List.append_nil]
theorem lineF_tail : ∀ l : List TkZ, lineF (l.map ktZ) = Lib.joinTail [32] (l.map spZ)
  | [] => rfl
  | t :: l => by
    have ih := lineF_tail l
    show (32 :: spR t.kd.toNat t.tx) ++ lineF (l.map ktZ) = _
    rw [ih]
    rfl
theorem lineS_join (l : List TkZ) : lineS (l.map ktZ) = Lib.join (l.map spZ) [32] := by
  cases l with
  | nil => rfl
  | cons t l =>
    rw [List.map_cons, List.map_cons, Lib.join_cons]
    show ((32 :: spR t.kd.toNat t.tx) ++ lineF (l.map ktZ)).drop 1 = _
    rw [lineF_tail]
    rfl
def SplI (l : List TkZ) (SB : Nat) (w : World) (v12 : Value) (wr : World) : Prop := ∃ k : Nat, k ≤ l.length ∧ v12 = .int .i64 k ∧ Blk SB 9 (cellsA ((l.take k).map spZ) l.length) wr ∧ (l.take k).all okZ = true ∧ Below w.heap.size w wr
set_option maxRecDepth 1000000 in
set_option maxHeartbeats 16000000 in
theorem spell_any (v : Value) (l : List TkZ) (w : World) (hv : Rd 3 encZ w v l) (hl : l.length ≤ 2000) (ht : ∀ t ∈ l, t.tx.length ≤ 500) (E : Env w) :
    Calls Tryz.prog 6 #[v] w fun e w' => e = .returned (.tuple #[.string (ofL (spellR l).1), .int .i64 ((spellR l).2 : Int)]) ∧ Below w.heap.size w w' := by
  obtain ⟨a1, c1, rfl, q1, q2⟩ := hv.slice
  have HV := Lib.hid hv
  have HT := Lib.hid ht
  have HL := Lib.hid hl
  have HE := Lib.hid E
  have m1 := fun wx => make_at (P := Tryz.prog) 40 9 _ _ rfl Tryz.infoT (by omega) l.length (by omega) wx
  simp only [made_cells] at m1
  have HK0 : Hid (Blk w.heap.size 9 (cellsA [] l.length) (w.alloc (.cells (cellsA [] l.length) 9))) := Lib.hid (Blk.new _ _ _)
  have HB0 : Hid (Below w.heap.size w (w.alloc (.cells (cellsA [] l.length) 9))) := Lib.hid ((Below.refl _ _).alloc (Nat.le_refl _) _)
  obtain ⟨W0, hW0⟩ : ∃ W0, w.alloc (.cells (cellsA [] l.length) 9) = W0 := ⟨_, rfl⟩
  rw [hW0] at HK0 HB0
  have HW0 := Lib.hid hW0
  obtain ⟨g, hg⟩ : ∃ g, w.heap.size = g := ⟨_, rfl⟩
  have HG := Lib.hid hg
  rw [hg] at HK0
  obtain ⟨n, hn⟩ : ∃ n, l.length = n := ⟨_, rfl⟩
  have HN := Lib.hid hn
  rw [hn] at HK0 HW0 m1
  obtain ⟨S, hS⟩ : ∃ S, spellR l = S := ⟨_, rfl⟩
  have HS := Lib.hid hS
  rw [hS]
  have hlb : (n : Int) ≤ 2000 := by omega
  rw [hn]
  clear hv ht hl hS q1 q2 hW0 E hg hn
  go_enter Tryz.func6, Tryz.ntmps6
  go_upto_region 2 with fail
  rw [HW0.out, HG.out]
  clear HW0 m1
  go_wp2_with fail
  go_loopw [12] (fun v12 wr => SplI l g w v12 wr) (fun v12 _ => n - (intOf v12).toNat)
  case atStart => exact ⟨0, Nat.zero_le _, rfl, by rw [HN.out]; exact HK0.out, rfl, HB0.out⟩
  case round =>
    rename World => wr
    obtain ⟨k, hk, rfl, hblk, hal, hb⟩ := hrel
    have HBW := Lib.hid hb
    have HAL := Lib.hid hal
    have HBK := Lib.hid hblk
    rw [HN.out] at hk HBK
    clear hb hal hblk HK0 HB0
    by_cases hlt : k < n
    · have hlt2 : k < l.length := by rw [HN.out]; exact hlt
      obtain ⟨b1, o1, rfl, g1, x0, x1, x2⟩ := (HV.out.below HBW.out).tkZ k hlt2
      have h9 : (k : Int) < (n : Int) := by omega
      have HGO := Lib.hid (fun h => all_snoc hlt2 HAL.out h)
      have HBAD := Lib.hid (fun h => all_bad hlt2 h)
      have HTX := HT.out (l[k]'hlt2) (List.getElem_mem hlt2)
      have HTK : Hid ((l.take (k + 1)).map spZ = (l.take k).map spZ ++ [spZ (l[k]'hlt2)]) := Lib.hid (by rw [List.take_succ_eq_append_getElem hlt2, List.map_append, List.map_singleton])
      have hlen : ((l.take k).map spZ).length = k := by rw [List.length_map, List.length_take]; omega
      obtain ⟨x, hx⟩ : ∃ x, l[k]'hlt2 = x := ⟨_, rfl⟩
      rw [hx] at HGO HBAD HTX HTK x0 x1 x2
      have HTO := Lib.hid (fun w => isToken_any x (by omega) w)
      have HSP := Lib.hid (fun w E => spelling_any x (by omega) w E)
      obtain ⟨okb, hok⟩ : ∃ b, okZ x = b := ⟨_, rfl⟩
      rw [hok] at HGO HBAD HTO
      obtain ⟨y, hy⟩ : ∃ y, spZ x = y := ⟨_, rfl⟩
      rw [hy] at HTK HSP
      obtain ⟨xs, hxs⟩ : ∃ xs, (l.take k).map spZ = xs := ⟨_, rfl⟩
      rw [hxs] at HTK HBK hlen
      have HKA := Lib.hid (show (cellsA xs n)[k]? = some (.string ⟨#[]⟩) by have := cells_at (xs := xs) (n := n) (by omega); rw [hlen] at this; exact this)
      have HKS := Lib.hid (show (cellsA xs n).setIfInBounds k (.string (ofL y)) = cellsA (xs ++ [y]) n by have := cells_set (xs := xs) (n := n) (by omega) y; rw [hlen] at this; exact this)
      obtain ⟨kd, tx, ta⟩ := x
      dsimp only at HTX x0 x1 x2 HTO HSP
      obtain ⟨X, hX⟩ : ∃ X, ofL tx = X := ⟨_, rfl⟩
      rw [hX] at x1 HTO HSP
      obtain ⟨Y, hY⟩ : ∃ Y, ofL y = Y := ⟨_, rfl⟩
      rw [hY] at HSP HKS
      have HA1 : Hid (Below wr.heap.size wr (wr.alloc (.cells #[.int .i64 kd, .string X, .int .i64 ta] 38))) := Lib.hid ((Below.refl _ _).alloc (Nat.le_refl _) _)
      have HA2 : Hid (Blk wr.heap.size 38 #[.int .i64 kd, .string X, .int .i64 ta] (wr.alloc (.cells #[.int .i64 kd, .string X, .int .i64 ta] 38))) := Lib.hid (Blk.new _ _ _)
      obtain ⟨W1, hW1⟩ : ∃ W1, wr.alloc (.cells #[.int .i64 kd, .string X, .int .i64 ta] 38) = W1 := ⟨_, rfl⟩
      rw [hW1] at HA1 HA2
      have HW1 := Lib.hid hW1
      obtain ⟨h, hh⟩ : ∃ h, wr.heap.size = h := ⟨_, rfl⟩
      have HH := Lib.hid hh
      rw [hh] at HA2
      clear hx hok hy hxs hX hY hlen g1 HTX hW1 hh
      go_upto_region 5 with fail
      rw [HW1.out, HH.out]
      have y0 : W1.cell? ⟨h, 0, none⟩ = some (.int .i64 kd) := HA2.out.cell 0
      have y1 : W1.cell? ⟨h, 1, none⟩ = some (.string X) := HA2.out.cell 1
      have y2 : W1.cell? ⟨h, 2, none⟩ = some (.int .i64 ta) := HA2.out.cell 2
      clear HW1 x0 x1 x2
      go_wp2_with fail
      refine (HTO.out _).mono ?_
      rintro e w2 ⟨rfl, b2⟩
      have HB2 := Lib.hid (HA1.out.trans (b2.mono HA1.out.size))
      have HA3 := Lib.hid (Blk.below HA2.out b2)
      have u0 : w2.cell? ⟨h, 0, none⟩ = some (.int .i64 kd) := HA3.out.cell 0
      have u1' : w2.cell? ⟨h, 1, none⟩ = some (.string X) := HA3.out.cell 1
      have u2' : w2.cell? ⟨h, 2, none⟩ = some (.int .i64 ta) := HA3.out.cell 2
      have HW2 : Hid (Below w.heap.size w w2) := Lib.hid (HBW.out.trans (HB2.out.mono HBW.out.size))
      clear b2 y0 y1 y2
      cases okb with
      | false =>
        have HSS : Hid (S = ([], 1)) := Lib.hid (by rw [← HS.out]; exact HBAD.out rfl)
        go_wp2
        go_ret2
        rw [HSS.out]
        exact ⟨rfl, HW2.out⟩
      | true =>
        have HEW : Hid (Env w2) := Lib.hid (HE.out.below HW2.out)
        have hgn := HGO.out rfl
        have HGN := Lib.hid hgn
        clear hgn
        go_wp2_with fail
        refine (HSP.out _ HEW.out).mono ?_
        rintro e w3 ⟨rfl, b3⟩
        have HB3 := Lib.hid (HB2.out.trans (b3.mono HB2.out.size))
        have HW3 : Hid (Below w.heap.size w w3) := Lib.hid (HW2.out.trans (b3.mono HW2.out.size))
        have HBK3 := Lib.hid (Blk.below HBK.out HB3.out)
        have r0 : w3.cell? ⟨g, k, none⟩ = some (.string ⟨#[]⟩) := (HBK3.out.cell k).trans HKA.out
        have f0 := HBK3.out.frozen k
        have HPUT := Lib.hid (HBK3.out.put k (.string Y))
        have HWP : Hid (Below w.heap.size w (w3.setCell ⟨g, k, none⟩ (.string Y))) := Lib.hid (HW3.out.setCell (p := ⟨g, k, none⟩) (by show w.heap.size ≤ g; have := HG.out; omega) _)
        rw [HKS.out] at HPUT
        clear b3 u0 u1' u2'
        go_wp2
        go_roundw
        case measure => simp [intOf]; omega
        case rel => exact ⟨k + 1, by rw [HN.out]; omega, by go_num, by rw [HTK.out, HN.out]; exact HPUT.out, HGN.out, HWP.out⟩
    · have h9 : ¬ (k : Int) < (n : Int) := by omega
      have hkn : k = n := by omega
      have hta : l.take k = l := List.take_of_length_le (by rw [HN.out]; omega)
      have HSS : Hid (S = (lineS (l.map ktZ), 0)) := Lib.hid (by
        rw [← HS.out]
        unfold spellR
        rw [if_pos (by have := HAL.out; rw [hta] at this; exact this)])
      have hcs : ∀ (j : Nat) (x : ByteArray), (l.map (fun t => ofL (spZ t)))[j]? = some x → wr.cell? ⟨g, 0 + j, none⟩ = some (.string x) := by
        intro j x hj
        rw [Nat.zero_add]
        have e1 := HBK.out.cell j
        rw [hta, show n = (l.map spZ).length by rw [List.length_map, HN.out], cells_all, List.getElem?_toArray, List.map_map] at e1
        rw [e1]
        rw [List.getElem?_map] at hj ⊢
        obtain ⟨y, hy, rfl⟩ := Option.map_eq_some_iff.1 hj
        rw [hy]
        rfl
      have em : ((l.map (fun t => ofL (spZ t))).map (·.data.toList)) = l.map spZ := by rw [List.map_map]; rfl
      have hjl : (Lib.join ((l.map (fun t => ofL (spZ t))).map (·.data.toList)) (⟨#[32]⟩ : ByteArray).data.toList).length ≤ 140737488355328 := by
        rw [em]
        show (Lib.join (l.map spZ) [32]).length ≤ _
        rw [← lineS_join]
        have := lineS_len (l.map ktZ) (by
          intro t h
          obtain ⟨z, hz, rfl⟩ := List.mem_map.1 h
          exact HT.out z hz)
        rw [List.length_map] at this
        have := HL.out
        omega
      have HJ := Lib.hid (Tryz.strings_Join g 0 n (l.map (fun t => ofL (spZ t))) ⟨#[32]⟩ wr hcs (HBK.out.lt) (by rw [List.length_map]; have := HL.out; omega) (by rw [List.length_map, HN.out]; exact Nat.le_refl _) hjl)
      rw [em, List.length_map, HN.out, show (⟨#[32]⟩ : ByteArray).data.toList = [32] from rfl, ← lineS_join] at HJ
      have HO : Hid ((⟨(lineS (l.map ktZ)).toArray⟩ : ByteArray) = ofL (lineS (l.map ktZ))) := Lib.hid rfl
      obtain ⟨Z, hZ⟩ : ∃ Z, (⟨(lineS (l.map ktZ)).toArray⟩ : ByteArray) = Z := ⟨_, rfl⟩
      rw [hZ] at HJ HO
      clear hta hcs em hjl hZ hkn HBK
      go_wp2_with fail
      refine HJ.out.mono ?_
      rintro e w5 ⟨rfl, b5⟩
      have HB5 := Lib.hid (HBW.out.trans (b5.mono HBW.out.size))
      clear b5
      go_wp2
      go_ret2
      rw [HSS.out]
      exact ⟨congrArg (fun z => Ending.returned (.tuple #[.string z, .int .i64 0])) HO.out, HB5.out⟩
end Go.Proofs.YtgogcekeklelmaaGreatDoor


