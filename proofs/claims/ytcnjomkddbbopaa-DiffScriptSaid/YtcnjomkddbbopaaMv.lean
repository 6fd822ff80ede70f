/- Edits: what comes in; short, own. -/
import Derived.Test.YtcnjomkddbbopaaMp
import Derived.ChangeSame
import Derived.Deep.Strs
namespace Go.Proofs.Ytcnjomkddbbopaa
open Go.RowKit
set_option linter.unusedVariables false

abbrev Ed := Int × Str
theorem Rd.ed {w : World} {a : Option Addr} {n c : Nat} {l : List Ed} (h : Rd 2 encE w (.slice a n c) l) (i : Nat) (hi : i < l.length) : ∃ b off, a = some ⟨b, off, none⟩ ∧ w.cell? ⟨b, off + i * 2, none⟩ = some (.int .i64 (l[i].1)) ∧ w.cell? ⟨b, off + i * 2 + 1, none⟩ = some (.string (ofL l[i].2)) := by
  obtain ⟨b, off, ha, _, hx⟩ := h.some_ i hi
  exact ⟨b, off, ha, hx 0 _ rfl, hx 1 _ rfl⟩
/-- What is known of a list of edits that came in. -/
def IsEds (w : World) (a : Option Addr) (len cap : Nat) (zs : List Ed) : Prop := zs.length = len ∧ Rd 2 encE w (.slice a len cap) zs
theorem isEds_nil (w : World) : IsEds w none 0 0 [] := ⟨rfl, rd_nil w⟩
theorem one_of {α : Type} {l : List α} {n i : Nat} {v : α} (h : (l.drop i).take 1 = [v]) : l[i]? = some v := by
  have := congrArg (fun r : List α => r[0]?) h
  simpa [List.getElem?_take, List.getElem?_drop] using this
theorem isEds_of {H : Type} {enc : TypeId × Value → H} {P : Program} {w : World} {base : Nat} {spare : Nat → Bool} {held : Bool} {t e : TypeId} {f0 f1 : Field} {fuel : Nat} {cs : List Value} {x : DataW H × List MemPlace}
    (ht : P.underlying t = some (.slice e)) (he : P.underlying e = some (.struct #[f0, f1])) (hce : P.cellsOf e = 2) (o0 : f0.offset = 0) (o1 : f1.offset = 1)
    (c0 : P.cellsOf f0.type = 1) (c1 : P.cellsOf f1.type = 1) (k0 : P.underlying f0.type = some (.int .i64)) (k1 : P.underlying f1.type = some .string)
    (h : DataW.trod enc P w base spare held fuel t cs = some x) : cs = [.slice none 0 0] ∨ ∃ a len cap zs, cs = [.slice (some a) len cap] ∧ IsEds w (some a) len cap zs := by
  have hM : maxLen = 9223372036854775807 := by decide
  rcases Go.Deep.open_slice ht h with ⟨h0, _⟩ | ⟨a, len, cap, m, n, D, Pl, hcs, hb, hl, hm, hmm, _, hx⟩
  · exact .inl h0
  right
  have hlm : len ≤ m := by rw [hmm]; split <;> omega
  have each : ∀ i, i < m → ∃ z : Int × ByteArray, w.cell? (a.add (i * 2)) = some (.int .i64 z.1) ∧ w.cell? (a.add (i * 2 + 1)) = some (.string z.2) := fun i hi => by
    obtain ⟨cs', hc, htr⟩ := hx i hi
    rw [hce] at hc
    obtain ⟨_, hcl, hat⟩ := World.cells?_some hc
    obtain ⟨y0, y1, n2, _, _, h0, h1⟩ := Go.ChangeShapes.trod_struct2 he htr
    rw [o0, c0] at h0
    rw [o1, c1] at h1
    obtain ⟨z0, e0, _, w0⟩ := DataW.trod_int k0 h0
    obtain ⟨z1, e1, _, w1⟩ := DataW.trod_string k1 h1
    have g0 := hat 0 (by omega)
    have g1 := hat 1 (by omega)
    rw [Go.Deep.add_add, one_of (n := 0) e0] at g0
    rw [Go.Deep.add_add, one_of (n := 0) e1] at g1
    exact ⟨(z0, z1), g0, g1⟩
  obtain ⟨Z, hZ⟩ := Go.Deep.choose_lt each
  have hlen : ((List.range len).map fun i => ((Z i).1, (Z i).2.data.toList)).length = len := by simp
  refine ⟨a, len, cap, (List.range len).map fun i => ((Z i).1, (Z i).2.data.toList), hcs, hlen, ⟨⟨_, cap, by rw [hlen], by omega, by omega, fun hne => ?_⟩, fun n c hc => by cases hc⟩⟩
  have hpos : 0 < len := by rw [← hlen]; exact List.length_pos_iff.2 hne
  obtain ⟨b, off, sp⟩ := a
  have hspot : sp = none := by simpa [Addr.add] using World.cell?_spot (hZ 0 (by omega)).1
  subst hspot
  refine ⟨b, off, rfl, ?_, fun i u hi j v hv => ?_⟩
  · have := (hZ 0 (by omega)).1
    rw [add_off] at this
    exact World.block_lt_of_cell? w _ this
  · have hil := (List.getElem?_eq_some_iff.1 hi).1
    rw [hlen] at hil
    simp [List.getElem?_range hil] at hi
    obtain ⟨q0, q1⟩ := hZ i (by omega)
    rw [add_off] at q0 q1
    have hj : j < 2 := by have := (List.getElem?_eq_some_iff.1 hv).1; simpa [encE] using this
    subst hi
    obtain rfl | rfl : j = 0 ∨ j = 1 := by omega
    · simp [encE] at hv
      subst hv
      exact q0
    · simp [encE, of_data] at hv
      subst hv
      rw [Nat.add_assoc]
      exact q1

/-! ### short -/
def Short (l : List Ed) : Prop := l.length ≤ 60 ∧ ∀ e ∈ l, e.2.length ≤ 100
set_option maxRecDepth 1000000 in
set_option maxHeartbeats 400000 in
theorem short_any (u : Value) (l : List Ed) (w : World) (hu : Rd 2 encE w u l) (B : Bool) (hB : B = true ↔ Short l) :
    Calls Try.prog 16 #[u] w (fun e w' => e = .returned (.bool B) ∧ w' = w) := by
  obtain ⟨a, c, rfl, hc1, hc2⟩ := hu.slice
  have HU := Lib.hid hu; clear hu
  have HB := Lib.hid hB; clear hB
  go_enter Try.func16, Try.ntmps16
  go_wp2
  go_loop [3] (fun i => ∃ k : Nat, k ≤ l.length ∧ (∀ j (hj : j < l.length), j < k → (l[j]).2.length ≤ 100) ∧ i = .int .i64 k) (fun i => l.length - (intOf i).toNat)
  case atStart => exact ⟨0, Nat.zero_le _, fun j _ hj => absurd hj (Nat.not_lt_zero _), rfl⟩
  case round =>
    obtain ⟨k, hk, ht, rfl⟩ := hrel
    have Ht := Lib.hid ht; clear ht
    by_cases hlt : k < l.length
    · obtain ⟨bk, off, rfl, h0, h1⟩ := HU.out.ed k hlt
      have h3 : (k : Int) < (l.length : Int) := by omega
      obtain ⟨x, hxk⟩ : ∃ x, (l[k]).2 = x := ⟨_, rfl⟩
      rw [hxk] at h1
      have HX := Lib.hid hxk
      have hsz : (ofL x).size = x.length := ofL_size x
      clear hxk h0
      by_cases hx : x.length ≤ 100
      · have q : ¬ (100 : Int) < (x.length : Int) := by omega
        have R := Lib.hid (show ∀ j (hj : j < l.length), j < k + 1 → (l[j]).2.length ≤ 100 from fun j hj hj2 => by
          rcases Nat.lt_or_ge j k with h | h
          · exact Ht.out j hj h
          · obtain rfl : j = k := by omega
            rw [HX.out]; exact hx)
        go_wp2
        go_round
        case rel => exact ⟨k + 1, by omega, R.out, by go_num⟩
        case measure => simp [intOf]; omega
      · have q : (100 : Int) < (x.length : Int) := by omega
        have hf : B = false := by
          cases B
          · rfl
          · have := (HB.out.1 rfl).2 (l[k]) (List.getElem_mem hlt)
            rw [HX.out] at this
            exact absurd this hx
        have HF := Lib.hid hf; clear hf
        go_wp2
        go_ret
        exact ⟨ret_bool HF.out.symm, rfl⟩
    · obtain rfl : k = l.length := by omega
      have hall : ∀ e ∈ l, e.2.length ≤ 100 := fun s hs => by
        obtain ⟨i, hi, rfl⟩ := List.getElem_of_mem hs
        exact Ht.out i hi hi
      have HAL := Lib.hid hall
      clear hall
      by_cases h30 : l.length ≤ 60
      · have q : (l.length : Int) ≤ 60 := by omega
        have hf : B = true := HB.out.2 ⟨h30, HAL.out⟩
        have HF := Lib.hid hf; clear hf
        go_wp2
        go_ret
        exact ⟨ret_bool HF.out.symm, rfl⟩
      · have q : ¬ (l.length : Int) ≤ 60 := by omega
        have hf : B = false := by
          cases B
          · rfl
          · exact absurd (HB.out.1 rfl).1 h30
        have HF := Lib.hid hf; clear hf
        go_wp2
        go_ret
        exact ⟨ret_bool HF.out.symm, rfl⟩
theorem short_yes (u : Value) (l : List Ed) (w : World) (hu : Rd 2 encE w u l) (hf : Short l) : Calls Try.prog 16 #[u] w (fun e w' => e = .returned (.bool true) ∧ w' = w) := short_any u l w hu true ⟨fun _ => hf, fun _ => rfl⟩
theorem short_no (u : Value) (l : List Ed) (w : World) (hu : Rd 2 encE w u l) (hf : ¬ Short l) : Calls Try.prog 16 #[u] w (fun e w' => e = .returned (.bool false) ∧ w' = w) := short_any u l w hu false ⟨(fun h => by cases h), (fun h => absurd h hf)⟩

/-! ### own -/
set_option maxRecDepth 1000000 in
set_option maxHeartbeats 1000000 in
theorem own_any (u : Value) (l : List Ed) (w : World) (hu : Rd 2 encE w u l) (hl : l.length ≤ 1000) :
    Calls Try.prog 21 #[u] w fun e w' => ∃ v, e = .returned v ∧ Own1 2 encE w' w.heap.size 60 v l ∧ Below w.heap.size w w' := by
  obtain ⟨a, c, rfl, hc1, hc2⟩ := hu.slice
  obtain ⟨iI, hiI, hzI, hkI, hbI⟩ := info_parts Try.infoEd
  have HU := Lib.hid hu; clear hu
  go_enter Try.func21, Try.ntmps21
  go_wp2
  go_loopw [3, 4] (fun v3 v4 wr => ∃ k : Nat, k ≤ l.length ∧ v4 = .int .i64 k ∧ Own1 2 encE wr w.heap.size 60 v3 (l.take k) ∧ Below w.heap.size w wr) (fun _ v4 _ => l.length - (intOf v4).toNat)
  case atStart => exact ⟨0, Nat.zero_le _, rfl, own1_nil _ _ _, Below.refl _ _⟩
  case round =>
    obtain ⟨k, hk, rfl, hown, hb⟩ := hrel
    have HO := Lib.hid hown
    have HBW := Lib.hid hb
    have zr := hb.size
    clear hown hb
    by_cases hlt : k < l.length
    · obtain ⟨bk, off, rfl, h0, h1⟩ := (HU.out.below HBW.out).ed k hlt
      have h3 : (k : Int) < (l.length : Int) := by omega
      have HT := Lib.hid (List.take_succ_eq_append_getElem hlt)
      obtain ⟨q, hq⟩ : ∃ q, l[k] = q := ⟨_, rfl⟩
      rw [hq] at h0 h1 HT
      obtain ⟨q1, q2⟩ := q
      dsimp only at h0 h1
      have hlk : (l.take k).length = k := by rw [List.length_take]; omega
      clear hq
      go_wp2_with (first | (at_builtin; refine wpList_append_at (w0 := wr) (x := (q1, q2)) (N := wr.heap.size) rfl rfl _ _ 33 rfl w.heap.size iI _ 24 Try.underlying33 hiI hzI hkI hbI (by omega) rfl (by omega) encE_len encE_one _ (l.take k) rfl rfl HO.out rfl (by omega) zr ?_; intro v9 w9 y1 y2 y3) | go_in)
      have HY1 := Lib.hid y1
      have HY2 := Lib.hid y2
      clear y1 y2 y3
      go_wp2
      go_roundw
      case measure => simp [intOf]; omega
      case rel => exact ⟨k + 1, by omega, by go_num, by rw [HT.out]; exact HY1.out, HBW.out.trans HY2.out⟩
    · obtain rfl : k = l.length := by omega
      have h3 : ¬ (l.length : Int) < (l.length : Int) := by omega
      go_wp2
      go_ret
      refine ⟨_, rfl, ?_, HBW.out⟩
      have := HO.out
      rwa [List.take_length] at this
end Go.Proofs.Ytcnjomkddbbopaa
