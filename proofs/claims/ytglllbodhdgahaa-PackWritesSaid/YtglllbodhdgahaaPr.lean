/- The walk of PackPrefix. -/
import Derived.Test.YtglllbodhdgahaaPp
import Derived.IntWalk
namespace Go.Proofs.Ytglllbodhdgahaa
open Go.RowKit
set_option linter.unusedVariables false

/-- A value of some bytes, written out. -/
theorem RdB.some_ {w : World} {v : Value} {l : List UInt8} (h : RdB w v l) (h0 : 0 < l.length) : ∃ b off c, v = .slice (some ⟨b, off, none⟩) l.length c ∧ l.length ≤ c := by
  obtain ⟨_, ⟨a, c, rfl, hc1, hc2, hx⟩, _⟩ := h
  obtain ⟨b, off, rfl, hbl, _⟩ := hx (List.ne_nil_of_length_pos h0)
  exact ⟨b, off, c, rfl, hc1⟩
theorem few_yes (u : Value) (l : List (List UInt8)) (w : World) (hu : RdT w u l) (hl : l.length ≤ 9223372036854775807) (hf : Few l) : Calls Try.prog 11 #[u] w (Drn w (.bool true)) := few_any u l w hu hl true ⟨fun _ => hf, fun _ => rfl⟩
theorem few_no (u : Value) (l : List (List UInt8)) (w : World) (hu : RdT w u l) (hl : l.length ≤ 9223372036854775807) (hf : ¬ Few l) : Calls Try.prog 11 #[u] w (Drn w (.bool false)) := few_any u l w hu hl false ⟨(fun h => by cases h), (fun h => absurd h hf)⟩
theorem restOf_all' (l : List UInt8) : restOf l 0 false = l := rfl
theorem u16_of_wf {n : Int} (h : (Lit.int .u16 n).wf = true) : 0 ≤ n ∧ n < 65536 := by have := bounds_u16 h; exact ⟨by omega, by omega⟩

set_option maxRecDepth 1000000 in
set_option maxHeartbeats 2000000 in
theorem packPrefix_walk (n : Int) (a : Option Addr) (len cap : Nat) (zs : List (List UInt8)) (A : Int) (w : World) (hn : (Lit.int .i64 n).wf = true) (hr : IsStrs w a len cap zs) (hA : (Lit.int .u16 A).wf = true) :
    Calls Try.prog 7 #[.int .i64 n, .slice a len cap, .int .u16 A] w fun e w' => e = .returned (.bool true) ∧ Below w.heap.size w w' := by
  show Calls _ _ _ _ (AwPost w)
  have HI := Lib.hid (i64_of_wf hn)
  obtain ⟨hA1, hA2⟩ := u16_of_wf hA
  obtain ⟨α, rfl⟩ : ∃ α : Nat, A = (α : Int) := ⟨A.toNat, by omega⟩
  obtain ⟨rfl, hlen, hv⟩ := hr
  have HV := Lib.hid hv
  clear hn hA hv
  by_cases hf : Few zs
  · have HF := Lib.hid hf
    have henc := hf.enc
    obtain ⟨La, hLa⟩ : ∃ La, (enc n).length = La := ⟨_, rfl⟩
    obtain ⟨Lb, hLb⟩ : ∃ Lb, (encL zs).length = Lb := ⟨_, rfl⟩
    have hel := enc_len_le n
    have hel2 := enc_len_le (zs.length : Int)
    have hlb : 1 ≤ Lb := by rw [← hLb]; unfold encL; rw [List.length_append]; omega
    rw [hLa] at hel
    rw [hLb] at henc
    have HLa := Lib.hid hLa
    have HLb := Lib.hid hLb
    clear hf hLa hLb hel2
    obtain ⟨hel1, hel9⟩ := hel
    go_enter Try.func7, Try.ntmps7
    go_wp2_with fail
    refine (awake_any _).mono ?_
    rintro e w1 ⟨rfl, b1⟩
    have z1 := b1.size
    have V1 := Lib.hid (HV.out.below b1)
    go_wp2_with fail
    refine (few_yes _ zs _ V1.out hlen HF.out).mono ?_
    rintro e w' ⟨rfl, m, rfl⟩
    have B2 := below_drewN b1 m
    have z2 := B2.size
    obtain ⟨w2, hw2⟩ : ∃ w2, w1.drewN m = w2 := ⟨_, rfl⟩
    rw [hw2] at B2 z2 ⊢
    have V2 := Lib.hid (HV.out.below B2)
    clear hw2 b1 V1
    go_wp2_with fail
    refine (int_any _ [] n _ (rdB_nil _) HI.out (by decide)).mono ?_
    rw [List.nil_append]
    rintro e w3 ⟨v3, rfl, o3, b3⟩
    have B3 := st B2 b3 z2
    have z3 := B3.size
    have V3 := Lib.hid (HV.out.below B3)
    have R3 := Lib.hid (o3.rd (by rw [HLa.out]; omega))
    clear o3 b3 B2 V2
    go_wp2_with fail
    refine (strings_any _ _ [] zs _ (rdB_nil _) V3.out (by rw [HLb.out]; simp; omega)).mono ?_
    rw [List.nil_append]
    rintro e w4 ⟨v4, rfl, o4, b4⟩
    have B4 := st B3 b4 z3
    have z4 := B4.size
    have R4 := Lib.hid (o4.rd (by rw [HLb.out]; omega))
    have S4 := Lib.hid (R3.out.below b4)
    clear o4 b4 B3 V3 R3
    obtain ⟨ba, oa, ca, rfl, hca⟩ := S4.out.some_ (by rw [HLa.out]; omega)
    obtain ⟨bb, ob, cb, rfl, hcb⟩ := R4.out.some_ (by rw [HLb.out]; omega)
    rw [HLa.out] at hca S4 ⊢
    rw [HLb.out] at hcb R4 ⊢
    have q1 : ((La : Int) == 0) = false := by rw [beq_eq_false_iff_ne]; omega
    have q2 : ((Lb : Int) == 0) = false := by rw [beq_eq_false_iff_ne]; omega
    go_wp2_with fail
    obtain ⟨j1, hj1⟩ : ∃ j1, α % La = j1 := ⟨_, rfl⟩
    obtain ⟨j2, hj2⟩ : ∃ j2, α % Lb = j2 := ⟨_, rfl⟩
    have hj1l : j1 < La := by rw [← hj1]; exact Nat.mod_lt _ (by omega)
    have hj2l : j2 < Lb := by rw [← hj2]; exact Nat.mod_lt _ (by omega)
    have HS := Lib.hid (S4.out.take j1 (by rw [HLa.out]; omega))
    have HR := Lib.hid (R4.out.take j2 (by rw [HLb.out]; omega))
    have HJ1 : Hid (((enc n).take j1).length ≤ 1000000 ∧ rdI ((enc n).take j1) = (0, 0) ∧ ((enc n).take j1).length = j1) := Lib.hid ⟨by rw [List.length_take, HLa.out]; omega, pre_int HI.out j1 (by rw [HLa.out]; exact hj1l), by rw [List.length_take, HLa.out]; omega⟩
    have HJ2 : Hid (((encL zs).take j2).length ≤ 1000000 ∧ rdL ((encL zs).take j2) 30 = ([], 0) ∧ ((encL zs).take j2).length = j2) := Lib.hid ⟨by rw [List.length_take, HLb.out]; omega, pre_list (by have := HF.out.1; omega) hlen HF.out.mem j2 (by rw [HLb.out]; exact hj2l), by rw [List.length_take, HLb.out]; omega⟩
    have s1 : ¬ ca = 0 := by omega
    have s2 : ¬ cb = 0 := by omega
    have s3 : (j1 : Int) ≤ (ca : Int) := by omega
    have s4 : (j2 : Int) ≤ (cb : Int) := by omega
    have s5 : ((La : Int) == 0) = false := q1
    have s6 : ¬ (La : Int) = 0 := by omega
    have s7 : ¬ (Lb : Int) = 0 := by omega
    have t1 : (α : Int).tmod (La : Int) = (j1 : Int) := by rw [← hj1]; rfl
    have t2 : (α : Int).tmod (Lb : Int) = (j2 : Int) := by rw [← hj2]; rfl
    have e1 : (α : Int) % (La : Int) = (j1 : Int) := by rw [← hj1]; rfl
    have e2 : (α : Int) % (Lb : Int) = (j2 : Int) := by rw [← hj2]; rfl
    have n1 : ¬ La = 0 := by omega
    have n2 : ¬ Lb = 0 := by omega
    have t3 : IntKind.i64.wrap (α : Int) = (α : Int) := IntWalk.i64_in _ (by omega)
    have t4 : IntKind.i64.wrap (j1 : Int) = (j1 : Int) := IntWalk.i64_in _ (by omega)
    have t5 : IntKind.i64.wrap (j2 : Int) = (j2 : Int) := IntWalk.i64_in _ (by omega)
    have HB4 := Lib.hid B4
    clear S4 R4 B4 hca hcb hel1 hel9 henc hlb
    go_region_held3 (fun _ => True) (trivial) (first | (go_at_call_of 19 (Value.slice (some ⟨ba, oa, none⟩) j1 ca); refine (read_any _ ((enc n).take j1) _ (HS.out.drew) HJ1.out.1).mono ?_; rintro e w5 ⟨g1, u1, rfl, p5, b5, hg1⟩; have P5 := Lib.hid p5; have HG1 := Lib.hid hg1; have HB5 := Lib.hid b5; clear p5 b5 hg1) | (go_at_call_of 19 (Value.slice (some ⟨bb, ob, none⟩) j2 cb); refine (read_any _ ((encL zs).take j2) _ ((HR.out.drew).below HB5.out) HJ2.out.1).mono ?_; rintro e w6 ⟨g2, u2, rfl, p6, b6, hg2⟩; have P6 := Lib.hid p6; have HG2 := Lib.hid hg2; have HB6 := Lib.hid b6; clear p6 b6 hg2))
    have B6 : Below w.heap.size w w6 := ((HB4.out.drew).trans (HB5.out.mono z4)).trans (HB6.out.mono (Nat.le_trans z4 HB5.out.size))
    have z6 := B6.size
    have P6a := Lib.hid (P5.out.below HB6.out)
    have hgl := P5.out.lt
    have hg1' : w.heap.size ≤ g1 := Nat.le_trans z4 HG1.out
    have hg2' : w.heap.size ≤ g2 := Nat.le_trans (Nat.le_trans z4 HB5.out.size) HG2.out
    have hne : g2 ≠ g1 := by have := HG2.out; omega
    have hne' : g1 ≠ g2 := fun e => hne e.symm
    clear HB4 t1 t2 t3 t4 t5 e1 e2 s1 s2 s3 s4 s5 s6 s7 n1 n2 q1 q2 hj1 hj2
    go_wp2_with fail
    refine (rint_any _ g1 _ _ 0 false P6a.out).mono ?_
    rw [restOf_all', HJ1.out.2.1]
    rintro e w7 ⟨rfl, p7, b7⟩
    have B7 := B6.trans (b7.below hg1' z6)
    have z7 := B7.size
    have P7a := Lib.hid p7
    have P7b := Lib.hid (P6.out.but hne P6a.out.2.1 (noByte3 P6a.out.2.2) b7)
    clear p7 b7 B6
    go_wp2_with fail
    refine (rstrings_any _ g2 _ _ 0 false 30 P7b.out HJ2.out.1).mono ?_
    rw [restOf_all', HJ2.out.2.1]
    rintro e w8 ⟨y, rfl, ht, p8, b8⟩
    have B8 := B7.trans (b8.below hg2' z7)
    have P8a : Hid (PR w8 g1 _ ((enc n).take j1) 0 true) := Lib.hid (by simpa using P7a.out.but hne' P7b.out.2.1 (noByte3 P7b.out.2.2) b8)
    have P8b : Hid (PR w8 g2 _ ((encL zs).take j2) 0 true) := Lib.hid (by simpa using p8)
    obtain ⟨ay, cy, rfl⟩ := ht.slice
    clear ht p8 b8 B7
    go_wp2_with fail
    refine (end_any _ g1 _ _ 0 true P8a.out).mono ?_
    rw [endV_bad]
    rintro e w' ⟨rfl, m1, rfl⟩
    go_wp2_with fail
    refine (end_any _ g2 _ _ 0 true (P8b.out.drewN m1)).mono ?_
    rw [endV_bad]
    rintro e w' ⟨rfl, m2, rfl⟩
    go_wp2_with fail
    refine (offset_any _ g1 _ _ 0 true (P8a.out.drewN (m1 + m2))).mono ?_
    rintro e w' ⟨rfl, m3, rfl⟩
    go_wp2_with fail
    refine (offset_any _ g2 _ _ 0 true (P8b.out.drewN (m1 + m2 + m3))).mono ?_
    rintro e w' ⟨rfl, m4, rfl⟩
    have B9 := Lib.hid (below_drewN B8 (m1 + m2 + m3 + m4))
    clear B8
    go_wp2
    go_ret
    exact ⟨rfl, by simpa using B9.out⟩
  · have HF := Lib.hid hf
    clear hf
    go_enter Try.func7, Try.ntmps7
    go_wp2_with fail
    refine (awake_any _).mono ?_
    rintro e w1 ⟨rfl, b1⟩
    have V1 := Lib.hid (HV.out.below b1)
    go_wp2_with fail
    refine (few_no _ zs _ V1.out hlen HF.out).mono ?_
    rintro e w' ⟨rfl, m, rfl⟩
    have B2 := below_drewN b1 m
    go_wp2_with fail
    refine (awake_any _).mono ?_
    rintro e w2 ⟨rfl, b2⟩
    have B := Lib.hid (st B2 b2 B2.size)
    clear b1 b2 B2
    go_wp2
    go_ret
    exact ⟨rfl, B.out⟩
end Go.Proofs.Ytglllbodhdgahaa
