/- Of the reference: Few, Valid, Run. -/
import Derived.Test.YtiljagfjgefnnaaAd
namespace Go.Proofs.Ytiljagfjgefnnaa
open Go.RowKit
set_option linter.unusedVariables false

theorem all_bad {α : Type} {l : List α} {q : α → Bool} {j : Nat} (hj : j < l.length) (h : q l[j] = false) : l.all q = false := by
  rw [List.all_eq_false]
  exact ⟨_, List.getElem_mem hj, by rw [h]; simp⟩
theorem all_good {α : Type} {l : List α} {q : α → Bool} (h : ∀ (j : Nat) (hj : j < l.length), j < l.length → q l[j] = true) : l.all q = true := by
  rw [List.all_eq_true]
  intro x hx
  obtain ⟨j, hj, rfl⟩ := List.getElem_of_mem hx
  exact h j hj hj
def FewP (n most : Nat) (w : World) (e : Ending) (w' : World) : Prop := (∃ b, e = .returned (.bool b) ∧ (b = true → n ≤ most)) ∧ Below w.heap.size w w'
set_option maxRecDepth 1000000 in
set_option maxHeartbeats 2000000 in
theorem few_any (r : RawD) (a1 : Option Addr) (c1 : Nat) (a2 : Option Addr) (c2 : Nat) (most : Nat) (hm : most ≤ 1000) (w : World) (hN : RdRows w (.slice a1 r.nx.length c1) r.nx) (hF : Rd 1 encO w (.slice a2 r.ac.length c2) r.ac) :
    Calls Try.prog 12 #[.agg #[.int .i64 r.st, .slice a1 r.nx.length c1, .slice a2 r.ac.length c2], .int .i64 (most : Int)] w (FewP r.nx.length most w) := by
  obtain ⟨s0, nx, ac⟩ := r
  dsimp only at hN hF ⊢
  have hb1 : nx.length ≤ 9223372036854775807 := by obtain ⟨_, _, e, q1, q2⟩ := hN.slice; omega
  have hb2 : ac.length ≤ 9223372036854775807 := by obtain ⟨_, _, e, q1, q2⟩ := hF.slice; omega
  have BA := (Below.refl w.heap.size w).alloc (Nat.le_refl _) (.cells #[.int .i64 s0, .slice a1 nx.length c1, .slice a2 ac.length c2] 25)
  have k0 := Blk.new w 25 #[.int .i64 s0, .slice a1 nx.length c1, .slice a2 ac.length c2]
  obtain ⟨W0, hW0⟩ : ∃ W0, w.alloc (.cells #[.int .i64 s0, .slice a1 nx.length c1, .slice a2 ac.length c2] 25) = W0 := ⟨_, rfl⟩
  have HN := Lib.hid (hN.below BA)
  have HBA := Lib.hid BA
  have K0 := Lib.hid k0
  have HW0 := Lib.hid hW0
  clear hN hF BA k0 hW0
  go_enter Try.func12, Try.ntmps12
  go_wp2_with fail
  rw [HW0.out] at HN HBA K0 ⊢
  obtain ⟨g, hg⟩ : ∃ g, w.heap.size = g := ⟨_, rfl⟩
  have HG := Lib.hid hg
  rw [hg] at K0 ⊢
  have f1 : W0.cell? ⟨g, 1, none⟩ = some (.slice a1 nx.length c1) := K0.out.cell 1
  have f2 : W0.cell? ⟨g, 2, none⟩ = some (.slice a2 ac.length c2) := K0.out.cell 2
  clear hg HW0
  go_loopw [5] (fun v wr => ∃ k : Nat, k ≤ nx.length ∧ v = .int .i64 k ∧ wr = W0) (fun v _ => nx.length - (intOf v).toNat)
  case atStart => exact ⟨0, Nat.zero_le _, rfl, rfl⟩
  case round =>
    obtain ⟨k, hk, rfl, hw⟩ := hrel
    obtain rfl := hw.symm
    by_cases hlt : k < nx.length
    · obtain ⟨bk, off, x1, x2, rfl, h0, h4⟩ := HN.out.at_ k hlt
      have h9 : (k : Int) < (nx.length : Int) := by omega
      obtain ⟨m, hm2⟩ : ∃ m, nx[k].length = m := ⟨_, rfl⟩
      have hmb : m ≤ 9223372036854775807 := by obtain ⟨_, _, e, q1, q2⟩ := h4.slice; omega
      rw [hm2] at h0
      clear h4 hm2
      by_cases h22 : 22 < m
      · have t : (22 : Int) < (m : Int) := by omega
        go_wp2
        go_ret
        exact ⟨⟨false, rfl, fun h => by cases h⟩, HBA.out⟩
      · have t : ¬ (22 : Int) < (m : Int) := by omega
        go_wp2
        go_roundw
        case measure => simp [intOf]; omega
        case rel => exact ⟨k + 1, by omega, by go_num, (by first | rfl | trivial)⟩
    · obtain rfl : k = nx.length := by omega
      have h3 : ¬ (nx.length : Int) < (nx.length : Int) := by omega
      have w2 : IntKind.i64.wrap (2 * (most : Int)) = 2 * (most : Int) := by rw [IntKind.wrap_i64]; omega
      by_cases p1 : nx.length ≤ most
      · have t1 : (nx.length : Int) ≤ (most : Int) := by omega
        by_cases p2 : ac.length ≤ 2 * most
        · have t2 : (ac.length : Int) ≤ 2 * (most : Int) := by omega
          go_wp2
          go_ret
          exact ⟨⟨true, rfl, fun _ => p1⟩, HBA.out⟩
        · have t2 : ¬ (ac.length : Int) ≤ 2 * (most : Int) := by omega
          go_wp2
          go_ret
          exact ⟨⟨false, rfl, fun h => by cases h⟩, HBA.out⟩
      · have t1 : ¬ (nx.length : Int) ≤ (most : Int) := by omega
        go_wp2
        go_ret
        exact ⟨⟨false, rfl, fun h => by cases h⟩, HBA.out⟩
def okHd (r : RawD) : Bool := decide (0 < r.nx.length) && decide (r.nx.length ≤ 2000) && decide (r.ac.length = r.nx.length) && decide (0 ≤ r.st) && decide (r.st < r.nx.length)
theorem okD_hd (r : RawD) : okD r = (okHd r && r.nx.all (okRow r.nx.length)) := rfl
theorem okHd_iff {r : RawD} : okHd r = true ↔ 0 < r.nx.length ∧ r.nx.length ≤ 2000 ∧ r.ac.length = r.nx.length ∧ 0 ≤ r.st ∧ r.st < r.nx.length := by
  unfold okHd
  simp only [Bool.and_eq_true, decide_eq_true_eq, and_assoc]
theorem okRow_len {n : Nat} {l : List Int} (h : l.length ≠ 11) : okRow n l = false := by unfold okRow; rw [decide_eq_false h]; rfl
theorem okRow_num {n : Nat} {l : List Int} {j : Nat} (hj : j < l.length) (h : (decide (0 ≤ l[j]) && decide (l[j] < n)) = false) : okRow n l = false := by
  unfold okRow
  rw [all_bad (q := fun x : Int => decide (0 ≤ x) && decide (x < (n : Int))) hj h, Bool.and_false]
theorem okRow_good {n : Nat} {l : List Int} (h0 : l.length = 11) (h : ∀ (j : Nat) (hj : j < l.length), j < l.length → (decide (0 ≤ l[j]) && decide (l[j] < n)) = true) : okRow n l = true := by
  unfold okRow
  rw [decide_eq_true h0, all_good h]
  rfl
set_option maxRecDepth 1000000 in
set_option maxHeartbeats 8000000 in
theorem valid_any (r : RawD) (a1 : Option Addr) (c1 : Nat) (a2 : Option Addr) (c2 : Nat) (w : World) (hN : RdRows w (.slice a1 r.nx.length c1) r.nx) (hF : Rd 1 encO w (.slice a2 r.ac.length c2) r.ac) :
    Calls Try.prog 15 #[.agg #[.int .i64 r.st, .slice a1 r.nx.length c1, .slice a2 r.ac.length c2]] w fun e w' => e = .returned (.bool (okD r)) ∧ Below w.heap.size w w' := by
  have HD := Lib.hid (okD_hd r)
  have HI := Lib.hid (okHd_iff (r := r))
  obtain ⟨ok, hok⟩ : ∃ ok, okD r = ok := ⟨_, rfl⟩
  rw [hok] at HD ⊢
  clear hok
  obtain ⟨hd, hhd⟩ : ∃ hd, okHd r = hd := ⟨_, rfl⟩
  rw [hhd] at HD HI
  clear hhd
  obtain ⟨s0, nx, ac⟩ := r
  dsimp only at hN hF HD HI ⊢
  have hb1 : nx.length ≤ 9223372036854775807 := by obtain ⟨_, _, e, q1, q2⟩ := hN.slice; omega
  have hb2 : ac.length ≤ 9223372036854775807 := by obtain ⟨_, _, e, q1, q2⟩ := hF.slice; omega
  have BA := (Below.refl w.heap.size w).alloc (Nat.le_refl _) (.cells #[.int .i64 s0, .slice a1 nx.length c1, .slice a2 ac.length c2] 25)
  have k0 := Blk.new w 25 #[.int .i64 s0, .slice a1 nx.length c1, .slice a2 ac.length c2]
  obtain ⟨W0, hW0⟩ : ∃ W0, w.alloc (.cells #[.int .i64 s0, .slice a1 nx.length c1, .slice a2 ac.length c2] 25) = W0 := ⟨_, rfl⟩
  have HN := Lib.hid (hN.below BA)
  have HBA := Lib.hid BA
  have K0 := Lib.hid k0
  rw [hW0] at HN HBA K0
  obtain ⟨g, hg⟩ : ∃ g, w.heap.size = g := ⟨_, rfl⟩
  have HG := Lib.hid hg
  have HW0 := Lib.hid hW0
  rw [hg] at K0
  have f0 : W0.cell? ⟨g, 0, none⟩ = some (.int .i64 s0) := K0.out.cell 0
  have f1 : W0.cell? ⟨g, 1, none⟩ = some (.slice a1 nx.length c1) := K0.out.cell 1
  have f2 : W0.cell? ⟨g, 2, none⟩ = some (.slice a2 ac.length c2) := K0.out.cell 2
  clear hN hF BA k0 hW0 hg
  go_enter Try.func15, Try.ntmps15
  go_upto_region 1 with fail
  rw [HW0.out, HG.out]
  clear HW0
  go_upto_region 2 with fail
  go_cut [32] from 9 to 32 (fun v32 wx => v32 = .bool (!hd) ∧ wx = W0)
  case first =>
    by_cases p1 : nx.length < 1
    · have t1 : (nx.length : Int) < 1 := by omega
      have HV : Hid (hd = false) := Lib.hid (by cases h : hd with | false => rfl | true => have := HI.out.1 h; omega)
      go_wp2_with fail
      go_meet
      exact ⟨by rw [HV.out]; rfl, rfl⟩
    have t1 : ¬ (nx.length : Int) < 1 := by omega
    by_cases p2 : 2000 < nx.length
    · have t2 : (2000 : Int) < (nx.length : Int) := by omega
      have HV : Hid (hd = false) := Lib.hid (by cases h : hd with | false => rfl | true => have := HI.out.1 h; omega)
      go_wp2_with fail
      go_meet
      exact ⟨by rw [HV.out]; rfl, rfl⟩
    have t2 : ¬ (2000 : Int) < (nx.length : Int) := by omega
    by_cases p3 : ac.length = nx.length
    case neg =>
      have t3 : ((ac.length : Int) != (nx.length : Int)) = true := by rw [bne_iff_ne]; omega
      have t3' : (ac.length != nx.length) = true := by rw [bne_iff_ne]; exact p3
      have HV : Hid (hd = false) := Lib.hid (by cases h : hd with | false => rfl | true => have := HI.out.1 h; omega)
      clear p3
      go_wp2_with fail
      go_meet
      exact ⟨by rw [HV.out]; rfl, rfl⟩
    have t3 : ((ac.length : Int) != (nx.length : Int)) = false := by rw [bne_eq_false_iff_eq]; omega
    have t3' : (ac.length != nx.length) = false := by rw [bne_eq_false_iff_eq]; exact p3
    have P3 := Lib.hid p3
    clear p3
    by_cases p4 : s0 < 0
    · have HV : Hid (hd = false) := Lib.hid (by cases h : hd with | false => rfl | true => have := HI.out.1 h; omega)
      go_wp2_with fail
      go_meet
      exact ⟨by rw [HV.out]; rfl, rfl⟩
    by_cases p5 : (nx.length : Int) ≤ s0
    · have HV : Hid (hd = false) := Lib.hid (by cases h : hd with | false => rfl | true => have := HI.out.1 h; omega)
      go_wp2_with fail
      go_meet
      exact ⟨by rw [HV.out]; rfl, rfl⟩
    · have HV : Hid (hd = true) := Lib.hid (HI.out.2 ⟨by omega, by omega, P3.out, by omega, by omega⟩)
      go_wp2_with fail
      go_meet
      exact ⟨by rw [HV.out]; rfl, rfl⟩
  case rest =>
    obtain ⟨rfl, hwc⟩ := hcut
    obtain rfl := hwc.symm
    cases hd with
    | false =>
      have HV : Hid (ok = false) := Lib.hid (by rw [HD.out]; rfl)
      go_wp2_with fail
      go_ret
      exact ⟨by rw [HV.out]; rfl, HBA.out⟩
    | true =>
      have HV : Hid (ok = nx.all (okRow nx.length)) := Lib.hid (by rw [HD.out]; rfl)
      go_wp2_with fail
      go_loopw [4] (fun v wr => ∃ k : Nat, k ≤ nx.length ∧ v = .int .i64 k ∧ (∀ (j : Nat) (hj : j < nx.length), j < k → okRow nx.length nx[j] = true) ∧ wr = W0) (fun v _ => nx.length - (intOf v).toNat)
      case atStart => exact ⟨0, Nat.zero_le _, rfl, fun j _ h => by omega, rfl⟩
      case round =>
        obtain ⟨k, hk, rfl, hkd, hw⟩ := hrel
        obtain rfl := hw.symm
        have HK := Lib.hid hkd
        clear hkd
        by_cases hlt : k < nx.length
        · obtain ⟨bk, off, x1, x2, rfl, h0, h4⟩ := HN.out.at_ k hlt
          have h9 : (k : Int) < (nx.length : Int) := by omega
          have HBAD := Lib.hid (all_bad (q := okRow nx.length) hlt)
          obtain ⟨m, hm2⟩ : ∃ m, nx[k] = m := ⟨_, rfl⟩
          have HM := Lib.hid hm2
          have hmb : nx[k].length ≤ 9223372036854775807 := by obtain ⟨_, _, e, q1, q2⟩ := h4.slice; omega
          rw [hm2] at h0 h4 HBAD hmb
          have H4 := Lib.hid h4
          clear h4 hm2
          by_cases h11 : m.length = 11
          case neg =>
            have t : ((m.length : Int) != 11) = true := by rw [bne_iff_ne]; omega
            have t' : (m.length != 11) = true := by rw [bne_iff_ne]; exact h11
            have HR : Hid (ok = false) := Lib.hid (by rw [HV.out]; exact HBAD.out (okRow_len h11))
            clear h11
            go_wp2
            go_ret
            exact ⟨by rw [HR.out]; rfl, HBA.out⟩
          have t : ((m.length : Int) != 11) = false := by rw [bne_eq_false_iff_eq]; omega
          have t' : (m.length != 11) = false := by rw [bne_eq_false_iff_eq]; exact h11
          have HL := Lib.hid h11
          rw [h11] at h0
          clear h11
          go_wp2_with fail
          go_loopw [5] (fun v wr => ∃ j : Nat, j ≤ 11 ∧ v = .int .i64 j ∧ (∀ (i : Nat) (hi : i < m.length), i < j → (decide (0 ≤ m[i]) && decide (m[i] < nx.length)) = true) ∧ wr = W0) (fun v _ => 11 - (intOf v).toNat)
          case atStart => exact ⟨0, Nat.zero_le _, rfl, fun j _ h => by omega, rfl⟩
          case round =>
            obtain ⟨j, hj, rfl, hjd, hw⟩ := hrel
            obtain rfl := hw.symm
            have HJ := Lib.hid hjd
            clear hjd
            by_cases hjt : j < 11
            · have hjm : j < m.length := by rw [HL.out]; exact hjt
              obtain ⟨b', off', rfl, h5⟩ := H4.out.num j hjm
              have h8 : (j : Int) < 11 := by omega
              have HB2 := Lib.hid (okRow_num (n := nx.length) hjm)
              obtain ⟨x, hx⟩ : ∃ x, m[j] = x := ⟨_, rfl⟩
              have HX := Lib.hid hx
              rw [hx] at h5 HB2
              clear hx
              by_cases q1 : x < 0
              · have HR : Hid (ok = false) := Lib.hid (by rw [HV.out]; exact HBAD.out (HB2.out (by rw [decide_eq_false (by omega : ¬ 0 ≤ x)]; rfl)))
                go_wp2
                go_ret
                exact ⟨by rw [HR.out]; rfl, HBA.out⟩
              by_cases q2 : (nx.length : Int) ≤ x
              · have HR : Hid (ok = false) := Lib.hid (by rw [HV.out]; exact HBAD.out (HB2.out (by rw [decide_eq_false (by omega : ¬ x < (nx.length : Int)), Bool.and_false])))
                go_wp2
                go_ret
                exact ⟨by rw [HR.out]; rfl, HBA.out⟩
              have HGD : Hid ((decide (0 ≤ x) && decide (x < (nx.length : Int))) = true) := Lib.hid (by rw [decide_eq_true (by omega : 0 ≤ x), decide_eq_true (by omega : x < (nx.length : Int))]; rfl)
              go_wp2
              go_roundw
              case measure => simp [intOf]; omega
              case rel => exact ⟨j + 1, by omega, by go_num, fun i hi hij => by
                rcases Nat.lt_or_ge i j with h | h
                · exact HJ.out i hi h
                · obtain rfl : i = j := by omega
                  rw [HX.out]; exact HGD.out, (by first | rfl | trivial)⟩
            · obtain rfl : j = 11 := by omega
              have HGR := Lib.hid (okRow_good (n := nx.length) HL.out (fun i hi _ => HJ.out i hi (by have := HL.out; omega)))
              go_wp2
              go_roundw
              case measure => simp [intOf]; omega
              case rel => exact ⟨k + 1, by omega, by go_num, fun i hi hik => by
                rcases Nat.lt_or_ge i k with h | h
                · exact HK.out i hi h
                · obtain rfl : i = k := by omega
                  rw [HM.out]; exact HGR.out, (by first | rfl | trivial)⟩
        · obtain rfl : k = nx.length := by omega
          have h3 : ¬ (nx.length : Int) < (nx.length : Int) := by omega
          have HR : Hid (ok = true) := Lib.hid (by rw [HV.out]; exact all_good HK.out)
          go_wp2
          go_ret
          exact ⟨by rw [HR.out]; rfl, HBA.out⟩
end Go.Proofs.Ytiljagfjgefnnaa
