/- awake; the walks of DigestSum, DigestJoins, DigestParse. -/
import Derived.Test.YtapldfkmkdbjgaaDi
import Derived.OpenShut
import Derived.WideShapes
namespace Go.Proofs.Ytapldfkmkdbjgaa
open Go.RowKit
set_option linter.unusedVariables false

def AwPost (w : World) (e : Ending) (w' : World) : Prop := e = .returned (.bool true) ∧ Below w.heap.size w w'
theorem bytes_ext {A : ByteArray} {a : Array UInt8} (h : A.data.toList = a.toList) : A = ⟨a⟩ := by
  cases A with | mk b => simp at h; rw [h]
theorem tx255 : tx 255 = (#[48, 48, 48, 48, 48, 48, 48, 48, 48, 48, 48, 48, 48, 48, 102, 102] : Array UInt8).toList := by decide
theorem st {b : Nat} {w w1 w2 : World} (h : Below b w w1) (h2 : Below w1.heap.size w1 w2) (hs : b ≤ w1.heap.size) : Below b w w2 := h.trans (h2.mono hs)

set_option maxRecDepth 1000000 in
set_option maxHeartbeats 400000 in
theorem awake_any (w : World) : Calls Try.prog 10 #[] w (AwPost w) := by
  go_enter Try.func10, Try.ntmps10
  go_wp2_with fail
  refine (from_any 5 _ [] _ (rdB_nil _)).mono ?_
  rintro e w' ⟨rfl, rfl⟩
  rw [dig_nil]
  go_wp2_with fail
  refine (text_any 255 _ ⟨by omega, by omega⟩).mono ?_
  rintro e w1 ⟨B, rfl, hB, b1⟩
  obtain rfl := bytes_ext (hB.trans tx255)
  clear hB
  have o1 : (w1.alloc (.cells #[.int .u8 1, .int .u8 2, .int .u8 3] 5)).ownsRow w1.heap.size 5 1 (.slice (some ⟨w1.heap.size, 0, none⟩) 3 3) 3 (byteCells [1, 2, 3]) := World.ownsRow_lit w1 #[.int .u8 1, .int .u8 2, .int .u8 3] 3 (Nat.le_refl _) (by decide) rfl
  have R1 := Lib.hid (RdB.of_own o1 (by decide))
  have z1 := b1.size
  have b2 := b1.alloc z1 (.cells #[.int .u8 1, .int .u8 2, .int .u8 3] 5)
  clear o1
  go_wp2_with fail
  refine (seal_any 1 _ _ _ ⟨by omega, by omega⟩ R1.out (by decide)).mono ?_
  rintro e w2 ⟨u, rfl, hu, b3⟩
  have hs := (RdB.of_own hu (by rw [sl_length]; decide)).slice
  rw [sl_length] at hs
  obtain ⟨a, c, rfl⟩ := hs
  clear hu
  have B3 := st b2 b3 b2.size
  clear b2 b3
  go_wp2
  go_ret
  exact ⟨rfl, B3⟩

/-! ### What comes in -/
/-- What is known of a list of numbers that came in. -/
def IsRow (k : IntKind) (w : World) (a : Option Addr) (len cap : Nat) (zs : List Int) : Prop :=
  (a = none ∧ len = 0 ∧ cap = 0 ∧ zs = []) ∨
  ∃ x, a = some x ∧ len ≤ cap ∧ cap ≤ maxLen ∧ zs.length = cap ∧ (∀ i, i < zs.length → w.cell? (x.add i) = some (.int k (zs.getD i 0))) ∧ ∀ n ∈ zs, (Lit.int k n).wf = true
theorem rdB_of_row {w : World} {a : Option Addr} {len cap : Nat} {zs : List Int} (h : IsRow .u8 w a len cap zs) (hl : len ≤ 140737488355328) : ∃ l : List UInt8, l.length = len ∧ RdB w (.slice a len cap) l := by
  rcases h with ⟨rfl, rfl, rfl, rfl⟩ | ⟨x, rfl, h1, h2, h3, h4, h5⟩
  · exact ⟨[], rfl, rdB_nil w⟩
  · have hm : maxLen = 9223372036854775807 := by decide
    have hlen : ((zs.take len).map fun n : Int => UInt8.ofNat n.toNat).length = len := by rw [List.length_map, List.length_take]; omega
    refine ⟨_, hlen, ⟨by omega, ⟨some x, cap, by rw [hlen], by omega, by omega, fun hne => ?_⟩, fun n c hc => by injection hc with h1 _ _; cases h1⟩⟩
    have hpos : 0 < len := by rw [← hlen]; exact List.length_pos_iff.2 hne
    obtain ⟨b, off, rfl, hc⟩ := ints_at h4 (by omega)
    refine ⟨b, off, rfl, World.block_lt_of_cell? w _ (hc 0 (by omega)), fun i hi => ?_⟩
    rw [hlen] at hi
    rw [hc i (by omega)]
    have hiz : i < zs.length := by omega
    have hb := bounds_u8 (h5 _ (List.getElem_mem hiz))
    have e : ((zs.take len).map fun n : Int => UInt8.ofNat n.toNat).getD i 0 = UInt8.ofNat (zs[i]'hiz).toNat := by
      simp only [List.getD_eq_getElem?_getD, List.getElem?_map, List.getElem?_take, if_pos hi, List.getElem?_eq_getElem hiz, Option.map_some, Option.getD_some]
    have e2 : zs.getD i 0 = zs[i]'hiz := by simp only [List.getD_eq_getElem?_getD, List.getElem?_eq_getElem hiz, Option.getD_some]
    rw [e, e2]
    unfold by8
    rw [UInt8.toNat_ofNat']
    have : (((zs[i]'hiz).toNat % 2 ^ 8 : Nat) : Int) = zs[i]'hiz := by omega
    rw [this]
theorem num_of_wf {n : Int} (h : (Lit.int .u64 n).wf = true) : Num n := by have := bounds_u64 h; exact ⟨by omega, by omega⟩
theorem two_of {α : Type} {cs : Array α} (h : cs.size = 2) : ∃ c0 c1, cs = #[c0, c1] := by
  obtain ⟨l⟩ := cs
  match l, h with
  | [c0, c1], _ => exact ⟨c0, c1, rfl⟩
theorem open_arr2 {H : Type} {enc : TypeId × Value → H} {P : Program} {w w0 : World} {base b0 : Nat} {spare : Nat → Bool} {held : Bool} {r : Reach} {t e : TypeId} {k : IntKind} {v : Value} {d : DataW H} {p : List MemPlace}
    (ht : P.underlying t = some (.array 2 e)) (he : P.underlying e = some (.int k)) (hce : P.cellsOf e = 1) (hC : P.cellsOf t = 2)
    (hv : Value.okWide P w0 r b0 t v) (h : DataW.Trod enc P w base spare held t v d p) : ∃ x y, v = .agg #[.int k x, .int k y] ∧ (Lit.int k x).wf = true ∧ (Lit.int k y).wf = true := by
  obtain ⟨cs, rfl, hsz⟩ : ∃ cs, v = .agg cs ∧ cs.size = P.cellsOf t := by
    unfold Value.okWide at hv
    rw [ht] at hv
    obtain ⟨cs, h1, h2, _⟩ := hv
    exact ⟨cs, h1, h2⟩
  obtain ⟨c0, c1, rfl⟩ := two_of (hsz.trans hC)
  obtain ⟨fuel, hf⟩ := h
  obtain ⟨xs, m, _, _, _, hlen, hf2⟩ := DataW.trod_array ht hf
  match xs, hlen with
  | [y0, y1], _ =>
    have h0 := hf2 0 (by decide)
    have h1 := hf2 1 (by decide)
    rw [hce] at h0 h1
    simp [Value.cells] at h0 h1
    obtain ⟨n0, e0, _, w0⟩ := DataW.trod_int he h0
    obtain ⟨n1, e1, _, w1⟩ := DataW.trod_int he h1
    simp at e0 e1
    subst e0
    subst e1
    exact ⟨n0, n1, rfl, w0, w1⟩

/-! ### The walks of the laws -/
set_option maxRecDepth 100000 in
set_option maxHeartbeats 1000000 in
theorem digestSum_walk (h : Int) (a : Option Addr) (len cap : Nat) (zs : List Int) (w : World) (hw : (Lit.int .u64 h).wf = true) (hr : IsRow .u8 w a len cap zs) :
    Calls Try.prog 3 #[.int .u64 h, .slice a len cap] w fun e w' => e = .returned (.bool true) ∧ Below w.heap.size w w' := by
  show Calls _ _ _ _ (AwPost w)
  by_cases hl : 500 < len
  · clear hr hw
    go_enter Try.func3, Try.ntmps3
    go_wp2_with fail
    refine (awake_any _).mono ?_
    rintro e w1 ⟨rfl, b1⟩
    go_wp2_with fail
    refine (awake_any _).mono ?_
    rintro e w2 ⟨rfl, b2⟩
    go_wp2
    go_ret
    exact ⟨rfl, st b1 b2 b1.size⟩
  · obtain ⟨l, rfl, hv⟩ := rdB_of_row hr (by omega)
    have Hn := Lib.hid (num_of_wf hw)
    have Hv := Lib.hid hv
    clear hr hw hv
    go_enter Try.func3, Try.ntmps3
    go_wp2_with fail
    refine (awake_any _).mono ?_
    rintro e w1 ⟨rfl, b1⟩
    have V1 := Lib.hid (Hv.out.below b1)
    go_wp2_with fail
    refine (from_any h _ l _ V1.out).mono ?_
    rintro e w' ⟨rfl, rfl⟩
    go_wp2_with fail
    refine (refFrom_any h _ l _ V1.out).mono ?_
    rintro e w' ⟨rfl, rfl⟩
    go_wp2_with fail
    refine (sum_any _ l _ V1.out).mono ?_
    rintro e w2 ⟨rfl, b2⟩
    have V2 := Lib.hid (V1.out.below b2)
    go_wp2_with fail
    refine (refSum_any _ l _ V2.out).mono ?_
    rintro e w3 ⟨rfl, b3⟩
    go_wp2_with fail
    refine (text_any h _ Hn.out).mono ?_
    rintro e w4 ⟨A, rfl, hA, b4⟩
    go_wp2_with fail
    refine (refText_any h _ Hn.out).mono ?_
    rintro e w5 ⟨B, rfl, hB, b5⟩
    obtain rfl : A = B := bytes_ext (a := B.data) (hA.trans hB.symm)
    clear hA hB
    have b12 := st b1 b2 b1.size
    have b13 := st b12 b3 b12.size
    have b14 := st b13 b4 b13.size
    have b15 := st b14 b5 b14.size
    clear b1 b2 b3 b4 b5 b12 b13 b14
    go_wp2
    go_ret
    exact ⟨rfl, b15⟩
end Go.Proofs.Ytapldfkmkdbjgaa
