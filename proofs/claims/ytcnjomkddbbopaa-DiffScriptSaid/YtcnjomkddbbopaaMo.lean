/- diff.Distance; awake; Few; what comes in. -/
import Derived.Test.YtcnjomkddbbopaaMn
import Derived.OpenShut
import Derived.WideShapes
import Derived.Laws.StructEq
namespace Go.Proofs.Ytcnjomkddbbopaa
open Go.RowKit
set_option linter.unusedVariables false

def dist (a b : List Str) : Int := (a.length : Int) + (b.length : Int) - 2 * (lcs a b : Int)
def Sizes (a : List Str) : Prop := a.length ≤ 200 ∧ ∀ s ∈ a, s.length ≤ 1000
set_option maxRecDepth 1000000 in
set_option maxHeartbeats 1000000 in
theorem distance_any (va vb : Value) (a b : List Str) (w : World) (ha : Rd 1 encT w va a) (hb : Rd 1 encT w vb b) (hsa : Sizes a) (hsb : Sizes b) :
    Calls Try.prog 14 #[va, vb] w fun e w' => e = .returned (.int .i64 (dist a b)) ∧ Below w.heap.size w w' := by
  obtain ⟨aa, ca, rfl, hca, hca2⟩ := ha.slice
  obtain ⟨ab, cb, rfl, hcb, hcb2⟩ := hb.slice
  have HA := Lib.hid ha
  have HB := Lib.hid hb
  obtain ⟨hla, hsa⟩ := hsa
  obtain ⟨hlb, hsb⟩ := hsb
  clear ha hb hca hca2 hcb hcb2
  go_enter Try.func14, Try.ntmps14
  go_wp2_with fail
  refine (common_any _ _ a b _ HA.out HB.out hla hlb hsa hsb).mono ?_
  rintro e w1 ⟨v, rfl, ov, b1⟩
  obtain ⟨ap, cp, hpv⟩ := ov.slice
  rw [comm0_length] at hpv
  subst hpv
  obtain ⟨n, hn⟩ : ∃ n, lcs a b = n := ⟨_, rfl⟩
  have hn1 := lcs_le_left a b
  rw [hn] at hn1 ⊢
  have HN := Lib.hid hn
  have HB1 := Lib.hid b1
  clear ov b1 hn
  go_wp2
  go_ret
  refine ⟨ret_int ?_, HB1.out⟩
  unfold dist
  rw [HN.out]

theorem eqPr (a b c d : Int) (w : World) : (Op.equalIn 10000 28 (.agg #[.int .i64 a, .int .i64 b]) (.agg #[.int .i64 c, .int .i64 d])).run Try.prog w = .ok (a == c && b == d) w := by
  have u3 := Try.underlying3
  have a3 := Try.isAgg3
  have z3 := Try.sizeOf3
  rw [show (10000 : Nat) = 9999 + 1 from rfl, Op.equalIn]
  simp only [Sem.run_bind, run_underlying Try.underlying28, Result.andThen_ok]
  simp only [Std.Legacy.Range.forIn_eq_forIn_range', Std.Legacy.Range.size, Nat.sub_zero, Nat.add_sub_cancel, Nat.div_one, List.range'_succ, List.range'_zero, List.forIn_cons, List.forIn_nil]
  go_simp
  by_cases h1 : a = c <;> by_cases h2 : b = d <;> simp [h1, h2]
theorem aw : comm ([[120], [97], [98]] : List Str) [[97], [120], [98]] 0 0 = [(0, 1), (2, 2)] := by
  rw [comm_pk _ _ _ 0 0 rfl]
  simp [en, pk, fst1, keys, lcs_cons, lcs_nil_left, lcs_nil_right]
theorem rd3 (w : World) (x y z : List UInt8) : Rd 1 encT (w.alloc (.cells #[.string (ofL x), .string (ofL y), .string (ofL z)] 9)) (.slice (some ⟨w.heap.size, 0, none⟩) 3 3) [x, y, z] := by
  have k := Blk.new w 9 #[.string (ofL x), .string (ofL y), .string (ofL z)]
  refine ⟨⟨_, 3, rfl, Nat.le_refl _, by omega, fun _ => ⟨w.heap.size, 0, rfl, k.lt, fun i u hi j v hv => ?_⟩⟩, fun n c hc => by cases hc⟩
  have hj : j = 0 := by have := (List.getElem?_eq_some_iff.1 hv).1; simp [encT] at this; exact this
  subst hj
  simp [encT] at hv
  subst hv
  rw [k.cell]
  have hi3 := (List.getElem?_eq_some_iff.1 hi).1
  simp at hi3
  obtain rfl | rfl | rfl : i = 0 ∨ i = 1 ∨ i = 2 := by omega
  · simp at hi; subst hi; rfl
  · simp at hi; subst hi; rfl
  · simp at hi; subst hi; rfl
def AwPost (w : World) (e : Ending) (w' : World) : Prop := e = .returned (.bool true) ∧ Below w.heap.size w w'
set_option maxRecDepth 1000000 in
set_option maxHeartbeats 1000000 in
theorem awake_any (w : World) : Calls Try.prog 10 #[] w (AwPost w) := by
  go_enter Try.func10, Try.ntmps10
  go_wp2_with fail
  have R2 := rd3 (w.alloc (.cells #[.string (ofL [120]), .string (ofL [97]), .string (ofL [98])] 9)) [97] [120] [98]
  have R1 := (rd3 w [120] [97] [98]).alloc (.cells #[.string (ofL [97]), .string (ofL [120]), .string (ofL [98])] 9)
  rw [World.size_alloc] at R2
  refine (common_any _ _ _ _ _ R1 R2 (by decide) (by decide) (by decide) (by decide)).mono ?_
  rintro e w1 ⟨v, rfl, ov, b1⟩
  rw [aw] at ov
  have RV := ov.rd encP_len
  have B1 : Below w.heap.size w w1 := (((Below.refl _ w).alloc (Nat.le_refl _) _).alloc (by simp) _).trans (b1.mono (by simp; omega))
  obtain ⟨ap, cp, hv, _⟩ := RV.slice
  subst hv
  obtain ⟨bp, op, rfl, c0, c1⟩ := RV.pair 0 (by simp)
  obtain ⟨_, _, e0, c2, c3⟩ := RV.pair 1 (by simp)
  cases e0
  have d0 : w1.cell? ⟨bp, op, none⟩ = some (.int .i64 0) := by simpa using c0
  have d1 : w1.cell? ⟨bp, op + 1, none⟩ = some (.int .i64 1) := by simpa using c1
  have d2 : w1.cell? ⟨bp, op + 2, none⟩ = some (.int .i64 2) := by simpa using c2
  have d3 : w1.cell? ⟨bp, op + 2 + 1, none⟩ = some (.int .i64 2) := by simpa using c3
  clear c0 c1 c2 c3
  have e1 := eqPr 0 1 0 1 w1
  have e2 := eqPr 2 2 2 2 w1
  rw [show ([(0, 1), (2, 2)] : List (Nat × Nat)).length = 2 from rfl]
  have HB1 := Lib.hid B1
  clear ov b1 B1 RV R1 R2
  go_wp2
  go_ret
  exact ⟨rfl, HB1.out⟩

/-- Few strings, of few bytes. -/
def Few (l : List Str) : Prop := l.length ≤ 30 ∧ ∀ s ∈ l, s.length ≤ 100
theorem Few.sizes {l : List Str} (h : Few l) : Sizes l := ⟨by have := h.1; omega, fun s hs => by have := h.2 s hs; omega⟩
set_option maxRecDepth 1000000 in
set_option maxHeartbeats 400000 in
theorem few_any (u : Value) (l : List Str) (w : World) (hu : Rd 1 encT w u l) (B : Bool) (hB : B = true ↔ Few l) :
    Calls Try.prog 11 #[u] w (fun e w' => e = .returned (.bool B) ∧ w' = w) := by
  obtain ⟨a, c, rfl, hc1, hc2⟩ := hu.slice
  have HU := Lib.hid hu; clear hu
  have HB := Lib.hid hB; clear hB
  go_enter Try.func11, Try.ntmps11
  go_wp2
  go_loop [3] (fun i => ∃ k : Nat, k ≤ l.length ∧ (∀ j (hj : j < l.length), j < k → (l[j]).length ≤ 100) ∧ i = .int .i64 k) (fun i => l.length - (intOf i).toNat)
  case atStart => exact ⟨0, Nat.zero_le _, fun j _ hj => absurd hj (Nat.not_lt_zero _), rfl⟩
  case round =>
    obtain ⟨k, hk, ht, rfl⟩ := hrel
    have Ht := Lib.hid ht; clear ht
    by_cases hlt : k < l.length
    · obtain ⟨bk, off, rfl, h1⟩ := HU.out.str k hlt
      have h3 : (k : Int) < (l.length : Int) := by omega
      obtain ⟨x, hxk⟩ : ∃ x, l[k] = x := ⟨_, rfl⟩
      rw [hxk] at h1
      have HX := Lib.hid hxk
      have hsz : (ofL x).size = x.length := ofL_size x
      clear hxk
      by_cases hx : x.length ≤ 100
      · have q : ¬ (100 : Int) < (x.length : Int) := by omega
        have R := Lib.hid (show ∀ j (hj : j < l.length), j < k + 1 → (l[j]).length ≤ 100 from fun j hj hj2 => by
          rcases Nat.lt_or_ge j k with h | h
          · exact Ht.out j hj h
          · obtain rfl : j = k := by omega
            rw [HX.out]; exact hx)
        go_wp2
        go_round
        case rel => exact ⟨k + 1, by omega, R.out, by go_num⟩
        case measure => simp [intOf]; omega
      · have q : (100 : Int) < (x.length : Int) := by omega
        have hf : B = false := by
          cases B
          · rfl
          · have := (HB.out.1 rfl).2 (l[k]) (List.getElem_mem hlt)
            rw [HX.out] at this
            exact absurd this hx
        have HF := Lib.hid hf; clear hf
        go_wp2
        go_ret
        exact ⟨ret_bool HF.out.symm, rfl⟩
    · obtain rfl : k = l.length := by omega
      have hall : ∀ s ∈ l, s.length ≤ 100 := fun s hs => by
        obtain ⟨i, hi, rfl⟩ := List.getElem_of_mem hs
        exact Ht.out i hi hi
      have HAL := Lib.hid hall
      clear hall
      by_cases h30 : l.length ≤ 30
      · have q : (l.length : Int) ≤ 30 := by omega
        have hf : B = true := HB.out.2 ⟨h30, HAL.out⟩
        have HF := Lib.hid hf; clear hf
        go_wp2
        go_ret
        exact ⟨ret_bool HF.out.symm, rfl⟩
      · have q : ¬ (l.length : Int) ≤ 30 := by omega
        have hf : B = false := by
          cases B
          · rfl
          · exact absurd (HB.out.1 rfl).1 h30
        have HF := Lib.hid hf; clear hf
        go_wp2
        go_ret
        exact ⟨ret_bool HF.out.symm, rfl⟩
theorem few_yes (u : Value) (l : List Str) (w : World) (hu : Rd 1 encT w u l) (hf : Few l) : Calls Try.prog 11 #[u] w (fun e w' => e = .returned (.bool true) ∧ w' = w) := few_any u l w hu true ⟨fun _ => hf, fun _ => rfl⟩
theorem few_no (u : Value) (l : List Str) (w : World) (hu : Rd 1 encT w u l) (hf : ¬ Few l) : Calls Try.prog 11 #[u] w (fun e w' => e = .returned (.bool false) ∧ w' = w) := few_any u l w hu false ⟨(fun h => by cases h), (fun h => absurd h hf)⟩

/-- What is known of a list of strings that came in. -/
def IsStrs (w : World) (a : Option Addr) (len cap : Nat) (zs : List Str) : Prop := zs.length = len ∧ Rd 1 encT w (.slice a len cap) zs
theorem isStrs_nil (w : World) : IsStrs w none 0 0 [] := ⟨rfl, rd_nil w⟩
theorem isStrs_of {w : World} {x : Addr} {len cap m : Nat} {Sx : Nat → ByteArray} (hl : len ≤ cap) (hm : cap ≤ maxLen) (hmm : len ≤ m) (hx : ∀ i, i < m → w.cell? (x.add i) = some (.string (Sx i)) ∧ (Sx i).size ≤ maxLen) : ∃ zs, IsStrs w (some x) len cap zs := by
  have hM : maxLen = 9223372036854775807 := by decide
  have hlen : ((List.range len).map fun i => (Sx i).data.toList).length = len := by simp
  refine ⟨(List.range len).map fun i => (Sx i).data.toList, hlen, ⟨⟨some x, cap, by rw [hlen], by omega, by omega, fun hne => ?_⟩, fun n c hc => by cases hc⟩⟩
  have hpos : 0 < len := by rw [← hlen]; exact List.length_pos_iff.2 hne
  obtain ⟨b, off, sp⟩ := x
  have hspot : sp = none := by simpa [Addr.add] using World.cell?_spot (hx 0 (by omega)).1
  subst hspot
  have hc : ∀ i, i < len → w.cell? ⟨b, off + i, none⟩ = some (.string (Sx i)) := fun i hi => by rw [← add_off]; exact (hx i (by omega)).1
  refine ⟨b, off, rfl, World.block_lt_of_cell? w _ (hc 0 hpos), fun i u hi j v hv => ?_⟩
  have hil := (List.getElem?_eq_some_iff.1 hi).1
  rw [hlen] at hil
  have hj : j = 0 := by have := (List.getElem?_eq_some_iff.1 hv).1; simp [encT] at this; exact this
  subst hj
  simp [encT] at hv
  subst hv
  rw [Nat.mul_one, Nat.add_zero, hc i hil]
  simp [List.getElem?_range hil] at hi
  rw [← hi, of_data]
end Go.Proofs.Ytcnjomkddbbopaa
