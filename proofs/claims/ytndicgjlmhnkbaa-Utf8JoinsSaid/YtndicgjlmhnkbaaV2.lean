/- The walk of Utf8Encode. -/
import Derived.Test.YtndicgjlmhnkbaaV1
import Derived.OpenShut
namespace Go.Proofs.Ytndicgjlmhnkbaa
open Go.RowKit
set_option linter.unusedVariables false

/-- What is known of a list of ints that came in. -/
def IsRow (k : IntKind) (w : World) (a : Option Addr) (len cap : Nat) (zs : List Int) : Prop :=
  (a = none ∧ len = 0 ∧ cap = 0 ∧ zs = []) ∨
  ∃ x, a = some x ∧ len ≤ cap ∧ cap ≤ maxLen ∧ zs.length = cap ∧ (∀ i, i < zs.length → w.cell? (x.add i) = some (.int k (zs.getD i 0))) ∧ ∀ n ∈ zs, (Lit.int k n).wf = true

theorem add_far (x : Addr) (i : Nat) (v : Value) (w : World) (h : w.cell? (x.add i) = some v) : (x.add i).block < w.heap.size := World.block_lt_of_cell? w _ h

theorem vld_encL (xs : List Int) : vld (encL xs) = true ∧ elI (encL xs) = xs.map cp := by
  induction xs with
  | nil => rw [encL_nil]; exact ⟨rfl, rfl⟩
  | cons x xs ih =>
    rw [encL_cons]
    have hv := cp_valid x
    have hr := (valid_iff _).1 hv
    have h1 := dl_enc (cp x) hv (encL xs)
    have hl := enc_length (cp x)
    have hne : enc (cp x) ++ encL xs ≠ [] := by intro h; have := congrArg List.length h; simp at this; have := this.1; rw [this] at hl; simp at hl
    rw [vld_cons _ hne, elI_cons _ hne, h1]
    have hd : (enc (cp x) ++ encL xs).drop (enc (cp x)).length = encL xs := List.drop_left
    rw [hd, ih.1, ih.2]
    refine ⟨?_, ?_⟩
    · rw [Bool.and_true, bne_iff_ne]
      intro h
      have e1 := congrArg Prod.fst h
      have e2 := congrArg Prod.snd h
      simp only at e1 e2
      have : cp x = 65533 := by omega
      rw [this, encFFFD] at e2
      exact absurd e2 (by decide)
    · rw [List.map_cons, show (((cp x).toNat : Nat) : Int) = cp x from by omega]
def allp (xs : List Int) : Bool := xs.all fun n => Utf8.valid n
theorem allp_snoc (xs : List Int) (x : Int) : allp (xs ++ [x]) = (allp xs && Utf8.valid x) := by unfold allp; simp
theorem allp_cp {xs : List Int} (h : allp xs = true) : xs.map cp = xs := by
  unfold allp at h
  rw [List.all_eq_true] at h
  rw [List.map_congr_left (fun x hx => cp_of (h x hx)), List.map_id']
theorem rdI_of_row {w : World} {a : Option Addr} {len cap : Nat} {zs : List Int} (h : IsRow .i64 w a len cap zs) (hl : len ≤ 281474976710656) : ∃ xs : List Int, xs.length = len ∧ RdI w (.slice a len cap) xs ∧ ∀ x ∈ xs, (Lit.int .i64 x).wf = true := by
  rcases h with ⟨rfl, rfl, rfl, rfl⟩ | ⟨x, rfl, h1, h2, h3, h4, h5⟩
  · exact ⟨[], rfl, ⟨by simp, ⟨none, 0, rfl, fun h => absurd rfl h⟩, fun n c hc => by injection hc with _ _ h3; exact h3.symm⟩, by simp⟩
  · have hlen : (zs.take len).length = len := by rw [List.length_take]; omega
    refine ⟨zs.take len, hlen, ⟨by omega, ⟨some x, cap, by rw [hlen], fun hne => ?_⟩, fun n c hc => by injection hc with h1 _ _; cases h1⟩, fun y hy => h5 y (List.mem_of_mem_take hy)⟩
    have hpos : 0 < len := by rw [← hlen]; exact List.length_pos_iff.2 hne
    obtain ⟨b, off, rfl, hc⟩ := ints_at h4 (by omega)
    refine ⟨b, off, rfl, World.block_lt_of_cell? w _ (hc 0 (by omega)), fun i hi => ?_⟩
    rw [hc i (by omega)]
    simp only [List.getD_eq_getElem?_getD, List.getElem?_take]
    rw [if_pos (by omega)]

def PtRel (xs : List Int) (v i : Value) : Prop := ∃ k : Nat, k ≤ xs.length ∧ i = .int .i64 k ∧ v = .bool (allp (xs.take k))
theorem pt_step {xs : List Int} {k : Nat} {x : Int} {b : Bool} (hk : k < xs.length) (hx : xs[k]?.getD 0 = x) (hb : (allp (xs.take k) && Utf8.valid x) = b) : PtRel xs (.bool b) (.int .i64 (k + 1)) :=
  ⟨k + 1, hk, by go_num, by rw [take_snoc xs k hk, allp_snoc, hx, hb]⟩

set_option maxRecDepth 100000 in
set_option maxHeartbeats 2000000 in
theorem utf8Encode_walk (a : Option Addr) (len cap : Nat) (zs : List Int) (w : World) (h : IsRow .i64 w a len cap zs) : Calls Try.prog 4 #[.slice a len cap] w fun e w' => e = .returned (.bool true) ∧ Below w.heap.size w w' := by
  show Calls _ _ _ _ (AwPost w)
  by_cases hl : 200 < len
  · clear h
    go_enter Try.func4, Try.ntmps4
    go_wp2_with fail
    refine (awake_any _).mono ?_
    rintro e w1 ⟨rfl, hb1⟩
    go_wp2_with fail
    refine (awake_any _).mono ?_
    rintro e w2 ⟨rfl, hb2⟩
    go_wp2
    go_ret
    exact ⟨rfl, bthen hb1 hb2⟩
  · obtain ⟨xs, hlen, hr, _⟩ := rdI_of_row h (by omega)
    subst hlen
    have Hr := Lib.hid hr; clear hr h
    go_enter Try.func4, Try.ntmps4
    go_wp2_with fail
    refine (awake_any _).mono ?_
    rintro e w1 ⟨rfl, hb1⟩
    have Hr1 := Lib.hid (Hr.out.below hb1)
    go_wp2
    go_loop [3, 4] (fun v i => PtRel xs v i) (fun _ i => xs.length - (intOf i).toNat)
    case atStart => exact ⟨0, Nat.zero_le _, rfl, rfl⟩
    case round =>
      obtain ⟨k, hk, rfl, rfl⟩ := hrel
      by_cases hlt : k < xs.length
      · obtain ⟨_, ⟨a', c, hvv, hx⟩, _⟩ := Hr1.out
        injection hvv with e1 e2 e3
        subst e1
        subst e3
        clear e2
        obtain ⟨bk, off, rfl, hbl, hc⟩ := hx (List.ne_nil_of_length_pos (by omega))
        have h1 : w1.cell? ⟨bk, off + k, none⟩ = some (.int .i64 (xs[k]?.getD 0)) := by rw [← List.getD_eq_getElem?_getD]; exact hc k hlt
        clear hc hx
        obtain ⟨x, hxk⟩ : ∃ x, xs[k]?.getD 0 = x := ⟨_, rfl⟩
        rw [hxk] at h1
        have Hxk := Lib.hid hxk; clear hxk
        by_cases hb : allp (xs.take k) = true
        · by_cases hval : Utf8.valid x = true
          · have R := Lib.hid (pt_step (b := true) hlt Hxk.out (by rw [hb, hval]; rfl))
            have Hval := Lib.hid hval; clear hval
            go_wp2_with (go_at_call 18; (with_reducible refine (point_yes _ _ Hval.out).mono ?_); rintro e w' ⟨rfl, rfl⟩)
            go_round
            case rel => exact R.out
            case measure => simp [intOf]; omega
          · have R := Lib.hid (pt_step (b := false) hlt Hxk.out (by rw [hb]; simpa using hval))
            have Hval := Lib.hid hval; clear hval
            go_wp2_with (go_at_call 18; (with_reducible refine (point_no _ _ (by simpa using Hval.out)).mono ?_); rintro e w' ⟨rfl, rfl⟩)
            go_round
            case rel => exact R.out
            case measure => simp [intOf]; omega
        · have hb' : allp (xs.take k) = false := by simpa using hb
          have R := Lib.hid (pt_step (b := false) hlt Hxk.out (by rw [hb']; rfl))
          clear hb
          go_wp2
          go_round
          case rel => exact R.out
          case measure => simp [intOf]; omega
      · obtain rfl : k = xs.length := by omega
        rw [List.take_length]
        have hvl := (vld_encL xs).1
        have hel := encL_length xs
        have Hel := Lib.hid (vld_encL xs).2
        have Hvl := Lib.hid hvl; clear hvl
        obtain ⟨q, hq⟩ : ∃ q, allp xs = q := ⟨_, rfl⟩
        rw [hq]
        have Hq := Lib.hid hq; clear hq
        go_wp2_with fail
        refine (encode_any _ _ _ Hr1.out (by omega)).mono ?_
        rintro e w2 ⟨b, rfl, hb, hb2⟩
        have hbs : b.size ≤ 4 * xs.length := by rw [← len_data, hb]; exact hel
        have Hb := Lib.hid hb; clear hb
        go_wp2_with fail
        refine (refEncode_any _ _ _ (Hr1.out.below hb2) (by omega)).mono ?_
        rintro e w3 ⟨b', rfl, hb', hb3⟩
        have qe : (b.toList == b'.toList) = true := by rw [ByteArray.toList_eq, ByteArray.toList_eq, Hb.out, hb']; simp
        clear hb'
        go_wp2_with fail
        refine (valid_any b _ (by omega)).mono ?_
        rw [show vld b.data.toList = true from by rw [Hb.out]; exact Hvl.out]
        rintro e w4 ⟨rfl, hb4⟩
        cases q
        · go_wp2
          go_ret
          exact ⟨rfl, bthen (bthen (bthen hb1 hb2) hb3) hb4⟩
        · go_wp2_with fail
          refine (decode_any b _ (by omega)).mono ?_
          rintro e w5 ⟨u, rfl, hu, hb5⟩
          have hu2 : RdI w5 u xs := by rw [Hb.out, Hel.out, allp_cp Hq.out] at hu; exact hu
          have Hu := Lib.hid hu2; clear hu hu2
          go_wp2_with fail
          refine (same_yes u _ _ _ Hu.out ((((Hr1.out.below hb2).below hb3).below hb4).below hb5)).mono ?_
          rintro e w6 ⟨rfl, n, rfl⟩
          go_wp2
          go_ret
          exact ⟨rfl, bdrewN (bthen (bthen (bthen (bthen hb1 hb2) hb3) hb4) hb5) n⟩
end Go.Proofs.Ytndicgjlmhnkbaa
