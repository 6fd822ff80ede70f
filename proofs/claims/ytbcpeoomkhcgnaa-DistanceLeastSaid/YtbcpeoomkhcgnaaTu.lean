/- What comes in as a list of steps; the law DistanceLeast. -/
import Derived.Test.YtbcpeoomkhcgnaaTt
import Derived.ChangeSame
import Derived.Deep.Strs
namespace Go.Proofs.Ytbcpeoomkhcgnaa
open Go.RowKit
set_option linter.unusedVariables false

/-- What is known of a list of steps that came in. -/
def IsStps (w : World) (a : Option Addr) (len cap : Nat) (zs : List (Int × Int)) : Prop := zs.length = len ∧ Rd 2 encP w (.slice a len cap) zs
theorem isStps_nil (w : World) : IsStps w none 0 0 [] := ⟨rfl, rd_nil w⟩
theorem one_of {α : Type} {l : List α} {n i : Nat} {v : α} (h : (l.drop i).take 1 = [v]) : l[i]? = some v := by
  have := congrArg (fun r : List α => r[0]?) h
  simpa [List.getElem?_take, List.getElem?_drop] using this
theorem isStps_of {H : Type} {enc : TypeId × Value → H} {P : Program} {w : World} {base : Nat} {spare : Nat → Bool} {held : Bool} {t e : TypeId} {f0 f1 : Field} {fuel : Nat} {cs : List Value} {x : DataW H × List MemPlace}
    (ht : P.underlying t = some (.slice e)) (he : P.underlying e = some (.struct #[f0, f1])) (hce : P.cellsOf e = 2) (o0 : f0.offset = 0) (o1 : f1.offset = 1)
    (c0 : P.cellsOf f0.type = 1) (c1 : P.cellsOf f1.type = 1) (k0 : P.underlying f0.type = some (.int .i64)) (k1 : P.underlying f1.type = some (.int .i64))
    (h : DataW.trod enc P w base spare held fuel t cs = some x) : cs = [.slice none 0 0] ∨ ∃ a len cap zs, cs = [.slice (some a) len cap] ∧ IsStps w (some a) len cap zs := by
  have hM : maxLen = 9223372036854775807 := by decide
  rcases Go.Deep.open_slice ht h with ⟨h0, _⟩ | ⟨a, len, cap, m, n, D, Pl, hcs, hb, hl, hm, hmm, _, hx⟩
  · exact .inl h0
  right
  have hlm : len ≤ m := by rw [hmm]; split <;> omega
  have each : ∀ i, i < m → ∃ z : Int × Int, w.cell? (a.add (i * 2)) = some (.int .i64 z.1) ∧ w.cell? (a.add (i * 2 + 1)) = some (.int .i64 z.2) := fun i hi => by
    obtain ⟨cs', hc, htr⟩ := hx i hi
    rw [hce] at hc
    obtain ⟨_, hcl, hat⟩ := World.cells?_some hc
    obtain ⟨y0, y1, n2, _, _, h0, h1⟩ := Go.ChangeShapes.trod_struct2 he htr
    rw [o0, c0] at h0
    rw [o1, c1] at h1
    obtain ⟨z0, e0, _, w0⟩ := DataW.trod_int k0 h0
    obtain ⟨z1, e1, _, w1⟩ := DataW.trod_int k1 h1
    have g0 := hat 0 (by omega)
    have g1 := hat 1 (by omega)
    rw [Go.Deep.add_add, one_of (n := 0) e0] at g0
    rw [Go.Deep.add_add, one_of (n := 0) e1] at g1
    exact ⟨(z0, z1), g0, g1⟩
  obtain ⟨Z, hZ⟩ := Go.Deep.choose_lt each
  have hlen : ((List.range len).map fun i => ((Z i).1, (Z i).2)).length = len := by simp
  refine ⟨a, len, cap, (List.range len).map fun i => ((Z i).1, (Z i).2), hcs, hlen, ⟨⟨_, cap, by rw [hlen], by omega, by omega, fun hne => ?_⟩, fun n c hc => by cases hc⟩⟩
  have hpos : 0 < len := by rw [← hlen]; exact List.length_pos_iff.2 hne
  obtain ⟨b, off, sp⟩ := a
  have hspot : sp = none := by simpa [Addr.add] using World.cell?_spot (hZ 0 (by omega)).1
  subst hspot
  refine ⟨b, off, rfl, ?_, fun i u hi j v hv => ?_⟩
  · have := (hZ 0 (by omega)).1
    rw [add_off] at this
    exact World.block_lt_of_cell? w _ this
  · have hil := (List.getElem?_eq_some_iff.1 hi).1
    rw [hlen] at hil
    simp [List.getElem?_range hil] at hi
    obtain ⟨q0, q1⟩ := hZ i (by omega)
    rw [add_off] at q0 q1
    have hj : j < 2 := by have := (List.getElem?_eq_some_iff.1 hv).1; simpa [encP] using this
    subst hi
    obtain rfl | rfl : j = 0 ∨ j = 1 := by omega
    · simp [encP] at hv
      subst hv
      exact q0
    · simp [encP] at hv
      subst hv
      rw [Nat.add_assoc]
      exact q1


set_option maxRecDepth 1000000 in
set_option maxHeartbeats 2000000 in
theorem distanceLeast_walk (a1 : Option Addr) (n1 c1 : Nat) (a : List Str) (a2 : Option Addr) (n2 c2 : Nat) (b : List Str) (a3 : Option Addr) (n3 c3 : Nat) (l : List (Int × Int)) (w : World)
    (hs1 : IsStrs w a1 n1 c1 a) (hs2 : IsStrs w a2 n2 c2 b) (hs3 : IsStps w a3 n3 c3 l) :
    Calls Try.prog 7 #[.slice a1 n1 c1, .slice a2 n2 c2, .slice a3 n3 c3] w fun e w' => e = .returned (.bool true) ∧ Below w.heap.size w w' := by
  obtain ⟨rfl, hr1⟩ := hs1
  obtain ⟨rfl, hr2⟩ := hs2
  obtain ⟨rfl, hr3⟩ := hs3
  have H1 := Lib.hid hr1; clear hr1
  have H2 := Lib.hid hr2; clear hr2
  have H3 := Lib.hid hr3; clear hr3
  obtain ⟨iI, hiI, hzI, hkI, hbI⟩ := info_parts Try.infoSt
  go_enter Try.func7, Try.ntmps7
  go_wp2_with fail
  refine (awake_any _).mono ?_
  rintro e w1 ⟨rfl, B1⟩
  have z1 := B1.size
  have B2 : Below w.heap.size w (w1.alloc (.cells #[.slice a1 a.length c1, .slice a2 b.length c2] 23)) := B1.alloc z1 _
  have R1 := Lib.hid (H1.out.below B2)
  have R2 := Lib.hid (H2.out.below B2)
  have R3 := Lib.hid (H3.out.below B2)
  have HB := Lib.hid B2
  clear B1 B2 H1 H2 H3
  go_wp2_with fail
  by_cases hf : a.length ≤ 40 ∧ b.length ≤ 40
  case neg =>
    refine (few2_any 40 (by omega) (a1, a.length, c1) (a2, b.length, c2) w1 false ⟨(fun h => by cases h), (fun h => absurd h hf)⟩).mono ?_
    rintro e w' ⟨rfl, rfl⟩
    go_wp2
    go_ret
    exact ⟨rfl, HB.out⟩
  refine (few2_any 40 (by omega) (a1, a.length, c1) (a2, b.length, c2) w1 true ⟨(fun _ => hf), (fun _ => rfl)⟩).mono ?_
  rintro e w' ⟨rfl, rfl⟩
  obtain ⟨W, hW⟩ : ∃ W, w1.alloc (.cells #[.slice a1 a.length c1, .slice a2 b.length c2] 23) = W := ⟨_, rfl⟩
  dsimp only
  rw [hW] at R1 R2 R3 HB ⊢
  have z2 := HB.out.size
  clear hW z1
  obtain ⟨l1, l2⟩ := hf
  by_cases l3 : l.length ≤ 100
  case neg =>
    have t1 : (100 : Int) < (l.length : Int) := by omega
    go_wp2
    go_ret
    exact ⟨rfl, HB.out⟩
  have t1 : ¬ (100 : Int) < (l.length : Int) := by omega
  go_wp2
  go_loopw [7, 8] (fun v7 v8 wr => ∃ k : Nat, k ≤ l.length ∧ v8 = .int .i64 k ∧ Own1 2 encP wr W.heap.size 37 v7 (l.take k) ∧ Below W.heap.size W wr) (fun _ v8 _ => l.length - (intOf v8).toNat)
  case atStart => exact ⟨0, Nat.zero_le _, rfl, own1_nil _ _ _, Below.refl _ _⟩
  case round =>
    obtain ⟨k, hk, rfl, hown, hbw⟩ := hrel
    have HO := Lib.hid hown
    have HW := Lib.hid hbw
    have zr := hbw.size
    by_cases hlt : k < l.length
    · obtain ⟨bl, ol, rfl, c0, c1'⟩ := (R3.out.below hbw).stp k hlt
      have h3 : (k : Int) < (l.length : Int) := by omega
      have HT := Lib.hid (take_next hlt)
      obtain ⟨x, hx⟩ : ∃ x, l[k] = x := ⟨_, rfl⟩
      rw [hx] at c0 c1' HT
      obtain ⟨p, q⟩ := x
      dsimp only at c0 c1'
      have hlk : (l.take k).length = k := by rw [List.length_take]; omega
      obtain ⟨av, cv, hav⟩ := hown.slice
      rw [hlk] at hav
      subst hav
      have HLK := Lib.hid hlk
      clear hown hbw hx hlk
      go_wp2_with (at_builtin; refine wpList_append_at (w0 := wr) (x := (p, q)) (N := wr.heap.size) rfl rfl _ _ 31 rfl W.heap.size iI _ 16 Try.underlying31 hiI hzI hkI hbI (by omega) rfl (by omega) encP_len encP_one _ (l.take k) rfl rfl HO.out rfl (by have := HLK.out; omega) zr ?_; intro v9 w9 y1 y2 y3)
      have HY1 := Lib.hid y1
      have HY2 := Lib.hid (HW.out.trans y2)
      clear y1 y2 y3
      go_wp2
      go_roundw
      case rel => exact ⟨k + 1, by omega, by go_num, by rw [HT.out]; exact HY1.out, HY2.out⟩
      case measure => simp [intOf]; omega
    · obtain rfl : k = l.length := by omega
      have h3 : ¬ (l.length : Int) < (l.length : Int) := by omega
      rw [List.take_length] at hown
      have RL := Lib.hid (hown.rd encP_len)
      obtain ⟨av, cv, hav⟩ := hown.slice
      subst hav
      have S1 := Lib.hid (R1.out.below hbw)
      have S2 := Lib.hid (R2.out.below hbw)
      have S3 := Lib.hid (R3.out.below hbw)
      have HB2 := Lib.hid (st HB.out hbw z2)
      have z3 := HB2.out.size
      clear hown hbw HO HW zr R1 R2 R3 HB
      go_wp2_with fail
      refine (cost_any _ _ _ a b l _ S1.out S2.out RL.out (by omega) (by omega) (by omega)).mono ?_
      rintro e w3 ⟨rfl, b3⟩
      have T1 := Lib.hid (S1.out.below b3)
      have T2 := Lib.hid (S2.out.below b3)
      have T3 := Lib.hid (S3.out.below b3)
      have HB3 := Lib.hid (st HB2.out b3 z3)
      have z4 := HB3.out.size
      have RC := refCost_any _ _ _ a b l _ T1.out T2.out T3.out (by omega) (by omega) (by omega)
      have HLO : Hid (∀ m, cst a b l 0 0 0 = some m → lev a b ≤ m) := Lib.hid (fun m h => cst_low h)
      obtain ⟨R, hR⟩ : ∃ R, cst a b l 0 0 0 = R := ⟨_, rfl⟩
      rw [hR] at RC HLO ⊢
      have HRC := Lib.hid RC
      clear hR RC b3 S1 S2 S3 HB2 z3 RL
      cases R with
      | none =>
        unfold costV at HRC ⊢
        dsimp only at HRC ⊢
        go_wp2_with fail
        refine HRC.out.mono ?_
        rintro e w4 ⟨rfl, b4⟩
        have HB4 := Lib.hid (st HB3.out b4 z4)
        clear b4
        go_wp2
        go_ret
        exact ⟨rfl, HB4.out⟩
      | some m =>
        have hlo := HLO.out m rfl
        have hlh := lev_high a b
        unfold costV at HRC ⊢
        dsimp only at HRC ⊢
        go_wp2_with fail
        refine HRC.out.mono ?_
        rintro e w4 ⟨rfl, b4⟩
        have HB4 := Lib.hid (st HB3.out b4 z4)
        have z5 := HB4.out.size
        have S1 := Lib.hid (T1.out.below b4)
        have S2 := Lib.hid (T2.out.below b4)
        clear b4
        go_wp2_with fail
        refine (distance_any _ _ a b _ S1.out S2.out (by omega) (by omega)).mono ?_
        rintro e w5 ⟨rfl, b5⟩
        have HB5 := Lib.hid (st HB4.out b5 z5)
        obtain ⟨d, hd⟩ : ∃ d, lev a b = d := ⟨_, rfl⟩
        rw [hd] at hlo ⊢
        have t2 : (d : Int) ≤ (m : Int) := by omega
        clear b5 hd hlh
        go_wp2
        go_ret
        exact ⟨rfl, HB5.out⟩
end Go.Proofs.Ytbcpeoomkhcgnaa
