/- Of the reference: increased. -/
import Derived.Test.YteofkofgdhmpjaaKv
namespace Go.Proofs.Yteofkofgdhmpjaa
open Go.RowKit
set_option linter.unusedVariables false

theorem rd_one (w : World) (c : UInt8) : Rd 1 encB (w.alloc (.cells #[.int .u8 (c.toNat : Int)] 5)) (.slice (some ⟨w.heap.size, 0, none⟩) 1 1) [c] := by
  have k := Blk.new w 5 #[.int .u8 (c.toNat : Int)]
  refine ⟨⟨_, 1, rfl, Nat.le_refl _, by omega, fun _ => ⟨w.heap.size, 0, rfl, k.lt, fun i u hi j v hv => ?_⟩⟩, fun n c hc => by cases hc⟩
  have hj : j = 0 := by have := (List.getElem?_eq_some_iff.1 hv).1; simp [encB] at this; exact this
  subst hj
  simp [encB] at hv
  subst hv
  rw [k.cell]
  have hi3 := (List.getElem?_eq_some_iff.1 hi).1
  simp at hi3
  subst hi3
  simp at hi
  subst hi
  rfl
theorem conv_lit (w : World) (x : Nat) (hx : x ≤ 255) : (convert 51 9 (.slice (some ⟨w.heap.size, 0, none⟩) 1 1)).run Try.prog (w.alloc (.cells #[.int .u8 (x : Int)] 5)).drew = .ok (.string (ofL [UInt8.ofNat x])) (w.alloc (.cells #[.int .u8 (x : Int)] 5)).drew := by
  have hc : (UInt8.ofNat x).toNat = x := by simp; omega
  have h := rd_one w (UInt8.ofNat x)
  rw [hc] at h
  exact conv_rd (P := Try.prog) (S := 51) (D := 9) (e := 5) Try.underlying51 Try.underlying5 Try.underlying9 (h.below (Below.refl _ _).drew)
def RIncPost (l : Str) (w : World) (e : Ending) (w' : World) : Prop := ∃ m, e = .returned (.string (ofL m)) ∧ allD m ∧ val m = val l + 1 ∧ l.length ≤ m.length ∧ 1 ≤ m.length ∧ m.length ≤ l.length + 1 ∧ Below w.heap.size w w'
set_option maxRecDepth 1000000 in
set_option maxHeartbeats 4000000 in
theorem refIncreased_any : ∀ (n : Nat) (l : Str) (w : World), l.length = n → n ≤ 100 → allD l → Calls Try.prog 25 #[.string (ofL l)] w (RIncPost l w) := by
  intro n
  induction n with
  | zero =>
    intro l w hl _ _
    obtain rfl : l = [] := List.eq_nil_of_length_eq_zero hl
    have e1 : ((ofL []).toList == ([] : List UInt8)) = true := by rw [ByteArray.toList_eq]; rfl
    go_enter Try.func25, Try.ntmps25
    go_wp2_with fail
    go_ret
    exact ⟨[49], rfl, allD_cons.2 ⟨rfl, allD_nil⟩, by rw [val_cons, val_nil]; rfl, by simp, by simp, by simp, Below.refl _ _⟩
  | succ k ih =>
    intro l w hl hk hd
    have hne : l ≠ [] := List.ne_nil_of_length_pos (by omega)
    obtain ⟨l', c, hlc⟩ : ∃ l' c, l = l' ++ [c] := ⟨l.dropLast, l.getLast hne, (List.dropLast_concat_getLast hne).symm⟩
    have hl' : l'.length = k := by rw [hlc, List.length_append, List.length_singleton] at hl; omega
    have hd2 := hd
    rw [hlc, allD_app, allD_cons] at hd2
    obtain ⟨hd', hdc, _⟩ := hd2
    have hN : (ofL l).size = k + 1 := by rw [ofL_size, hl]
    have h0 : k < (ofL l).size := by omega
    have hget : ((ofL l)[k]'h0) = c := by
      have e : (ofL l)[k]'h0 = l[k]'(by omega) := rfl
      rw [e]
      simp only [hlc]
      rw [List.getElem_append_right (by omega)]
      simp [hl']
    have hex : (ofL l).extract 0 k = ofL l' := by rw [ext_ofL, List.drop_zero, Nat.sub_zero, hlc, List.take_left' hl']
    have e1 : ((ofL l).toList == ([] : List UInt8)) = false := by rw [ByteArray.toList_eq, beq_eq_false_iff_ne]; exact hne
    have hv : val l = val l' * 10 + dg c := by rw [hlc, val_snoc]
    have HV := Lib.hid hv
    have HL' := Lib.hid hl'
    have HLL := Lib.hid hl
    have HD' := Lib.hid hd'
    have hcd := isD_iff.1 hdc
    have hx : (((ofL l)[k]'h0).toNat : Int) = (c.toNat : Int) := by rw [hget]
    obtain ⟨x, hcx⟩ : ∃ x : Nat, c.toNat = x := ⟨_, rfl⟩
    have HC := Lib.hid hcx
    rw [hcx] at hx hcd
    obtain ⟨d1, d2⟩ := hcd
    have g1 : (0 : Int) ≤ (k : Int) := by omega
    have g2 : (k : Int) ≤ (k : Int) + 1 := by omega
    clear hlc hl' hd hd' hdc hget hne hv hl hcx
    by_cases h9 : x = 57
    · subst h9
      have HI := Lib.hid ih
      clear d1 d2 ih
      go_enter Try.func25, Try.ntmps25
      go_wp2_with fail
      refine (HI.out l' w HL'.out (by omega) HD'.out).mono ?_
      rintro e w2 ⟨m, rfl, dm, vm, h1, h2, h3, bm⟩
      have HM := Lib.hid (And.intro dm (And.intro vm bm))
      have hmk : m.length ≤ 1000 := by have := HL'.out; omega
      have e2 : ofL m ++ (⟨#[48]⟩ : ByteArray) = ofL (m ++ [48]) := add_two m [48]
      have s1 : (ofL m).size ≤ 1000 := by rw [ofL_size]; exact hmk
      have HB := Lib.hid (And.intro h1 (And.intro h2 h3))
      clear dm vm bm h1 h2 h3 HI
      go_wp2_with fail
      go_ret
      refine ⟨m ++ [48], rfl, allD_app.2 ⟨HM.out.1, allD_cons.2 ⟨rfl, allD_nil⟩⟩, ?_, ?_, ?_, ?_, HM.out.2.2⟩
      · have hd9 : dg c = 9 := by unfold dg; rw [HC.out]
        rw [val_snoc, HM.out.2.1, HV.out, dg_48, hd9]
        omega
      · rw [List.length_append, List.length_singleton]; have := HB.out; have := HL'.out; have := HLL.out; omega
      · rw [List.length_append, List.length_singleton]; omega
      · rw [List.length_append, List.length_singleton]; have := HB.out; have := HL'.out; have := HLL.out; omega
    · have h9' : x ≤ 56 := by omega
      have t1 : ((x : Int) == 57) = false := by rw [beq_eq_false_iff_ne]; omega
      have HK := fun wx => conv_lit wx (x + 1) (by omega)
      have hcx : (UInt8.ofNat (x + 1)).toNat = x + 1 := by simp; omega
      obtain ⟨d, hd⟩ : ∃ d, UInt8.ofNat (x + 1) = d := ⟨_, rfl⟩
      rw [hd] at hcx
      simp only [hd] at HK
      have wk : IntKind.i64.wrap (k : Int) = (k : Int) := wrap_fit (by omega) (by omega)
      have hcast : ((x + 1 : Nat) : Int) = (x : Int) + 1 := by omega
      simp only [hcast] at HK
      have wr : IntKind.u8.wrap ((x : Int) + 1) = (x : Int) + 1 := by rw [IntKind.wrap_u8]; omega
      have hcat : ∀ wx, (Op.stringOp .add (ofL l') (ofL [d])).run Try.prog wx = .ok (.string (ofL (l' ++ [d]))) wx := fun wx => str_add (by have := HL'.out; rw [List.length_singleton]; omega) rfl wx
      have HCX := Lib.hid hcx
      clear hcast hcx ih h9 hd
      go_enter Try.func25, Try.ntmps25
      go_wp2_with fail
      go_region
      all_goals go_wp2_with fail
      all_goals go_ret
      all_goals refine ⟨l' ++ [d], rfl, allD_app.2 ⟨HD'.out, allD_cons.2 ⟨isD_iff.2 (by rw [HCX.out]; omega), allD_nil⟩⟩, ?_, ?_, ?_, ?_, ?_⟩
      · have hd9 : dg (d) = dg c + 1 := by unfold dg; rw [HC.out, HCX.out]; omega
        rw [val_snoc, HV.out, hd9]
        omega
      · rw [List.length_append, List.length_singleton]; have := HL'.out; have := HLL.out; omega
      · rw [List.length_append, List.length_singleton]; omega
      · rw [List.length_append, List.length_singleton]; have := HL'.out; have := HLL.out; omega
      · exact ((Below.refl w.heap.size w).alloc (Nat.le_refl _) _).drew
end Go.Proofs.Yteofkofgdhmpjaa
