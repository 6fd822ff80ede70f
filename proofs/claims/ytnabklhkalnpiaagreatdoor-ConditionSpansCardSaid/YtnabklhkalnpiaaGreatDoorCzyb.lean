/- Of calqueref08: the text of a relation. -/
import Derived.Test.YtnabklhkalnpiaaGreatDoorCzw
namespace Go.Proofs.YtnabklhkalnpiaaGreatDoor
open Go.RowKit
set_option linter.unusedVariables false

def sgH (b : Bool) : Str := if b = true then [32, 33, 61] else [32, 61]
def sepK (k : Nat) : Str := if k = 0 then [32] else [44]
def upT (r : Rel) (k : Nat) : Str := (relH r ++ sgH r.nt) ++ (if k = 0 then [] else [32] ++ spsT (r.sp.take k))
theorem upT_zero (r : Rel) : upT r 0 = relH r ++ sgH r.nt := by unfold upT; rw [if_pos rfl, List.append_nil]
theorem upT_all (r : Rel) (h : 0 < r.sp.length) : upT r r.sp.length = relT r := by
  unfold upT relT sgH sgnT
  rw [if_neg (show ¬ r.sp.length = 0 by omega), List.take_length]
  cases r.nt <;> simp
theorem upT_succ (r : Rel) (k : Nat) (h : k < r.sp.length) : upT r (k + 1) = (upT r k ++ sepK k) ++ spT r.sp[k] := by
  unfold upT sepK spsT
  rw [if_neg (by omega), List.take_succ_eq_append_getElem h, List.map_append]
  by_cases hk : k = 0
  · subst hk
    rw [if_pos rfl, if_pos rfl]
    simp [jn]
  · rw [if_neg hk, if_neg hk, List.map_singleton, jn_snoc _ _ _ (by
      intro e
      have := congrArg List.length e
      rw [List.length_map, List.length_take, List.length_nil] at this
      omega)]
    simp
theorem spsT_len' (l : List (Int × Int)) (h : l.length ≤ 4) : (spsT l).length ≤ 36 := spsT_len l h
theorem upT_len (r : Rel) (h : r.sp.length ≤ 4) (k : Nat) : (upT r k).length ≤ 60 := by
  have h1 := spsT_len (r.sp.take k) (by rw [List.length_take]; omega)
  have h2 : (relH r).length ≤ 7 := by
    unfold relH
    have := dtx_len r.md.toNat
    split <;> simp <;> omega
  have h3 : (sgH r.nt).length ≤ 3 := by unfold sgH; split <;> simp
  unfold upT
  rw [List.length_append, List.length_append]
  split <;> simp <;> omega
theorem spT_same {a b : Int} (h : b = a) : spT (a, b) = dtx a.toNat := by unfold spT; dsimp only; rw [if_pos h, List.append_nil]
theorem spT_two {a b : Int} (h : b ≠ a) : spT (a, b) = dtx a.toNat ++ ([46, 46] ++ dtx b.toNat) := by unfold spT; dsimp only; rw [if_neg h]
set_option maxRecDepth 1000000 in
set_option maxHeartbeats 8000000 in
theorem refRel_any (r : Rel) (x1 : Option Addr) (x2 : Nat) (hr : okR r = true) (w : World) (hv : Rd 2 encP w (.slice x1 r.sp.length x2) r.sp) :
    Calls Tryz.prog 26 #[.agg #[.int .i64 r.op, .int .i64 r.md, .bool r.nt, .slice x1 r.sp.length x2]] w fun e w' => e = .returned (.string (ofL (relT r))) ∧ Below w.heap.size w w' := by
  have hk := okR_iff.1 hr
  have hlo := hk.lo
  have hhi := hk.hi
  obtain ⟨d0, d1⟩ := okMod_le hk.md
  have hfew := hk.few
  have HSP := Lib.hid hk.sp
  have HALL := Lib.hid (upT_all r hk.some_)
  have HST := Lib.hid (upT_succ r)
  have HLN := Lib.hid (upT_len r hk.few)
  have HZ := Lib.hid (upT_zero r)
  obtain ⟨U, hU⟩ : ∃ U, upT r = U := ⟨_, rfl⟩
  obtain ⟨T, hT⟩ : ∃ T, relT r = T := ⟨_, rfl⟩
  rw [hU] at HALL HST HLN HZ
  rw [hT] at HALL ⊢
  obtain ⟨RH, hRH⟩ : ∃ RH, relH r = RH := ⟨_, rfl⟩
  rw [hRH] at HZ
  have HRH := Lib.hid hRH
  clear hk hr hU hT hRH
  obtain ⟨o, d, b, l⟩ := r
  dsimp only at *
  obtain ⟨D, rfl⟩ : ∃ D : Nat, d = (D : Int) := ⟨d.toNat, by omega⟩
  obtain ⟨O, rfl⟩ : ∃ O : Nat, o = (O : Int) := ⟨o.toNat, by omega⟩
  have ecut := letr_cut ⟨O, by omega⟩ (by show 1 ≤ O; omega)
  dsimp only at ecut
  obtain ⟨LT, hLT⟩ : ∃ LT, letr (O : Int) = LT := ⟨_, rfl⟩
  rw [hLT] at ecut
  have hld := dtx_len D
  have HR : Hid (RH = if (D : Int) = 0 then [LT] else [LT] ++ ([32, 37, 32] ++ dtx D)) := Lib.hid (by
    rw [← HRH.out]
    unfold relH
    dsimp only
    rw [hLT, Int.toNat_natCast]
    split <;> rfl)
  clear hLT HRH
  have BA := (Below.refl w.heap.size w).alloc (Nat.le_refl _) (.cells #[.int .i64 O, .int .i64 D, .bool b, .slice x1 l.length x2] 38)
  have K1 : Hid (Blk w.heap.size 38 #[.int .i64 O, .int .i64 D, .bool b, .slice x1 l.length x2] (w.alloc (.cells #[.int .i64 O, .int .i64 D, .bool b, .slice x1 l.length x2] 38))) := Lib.hid (heap_alloc_new w _)
  have HV := Lib.hid hv
  have HBA := Lib.hid BA
  have w1 : IntKind.i64.wrap ((O : Int) - 1) = (O : Int) - 1 := wrap_fit (by omega) (by omega)
  obtain ⟨g, hg⟩ : ∃ g, w.heap.size = g := ⟨_, rfl⟩
  rw [hg] at K1
  have HG := Lib.hid hg
  clear BA hv
  go_enter Tryz.func26, Tryz.ntmps26
  go_upto_if 13 with fail
  go_cut [3] from 5 to 19 (fun v3 wx => v3 = .string (ofL RH) ∧ Blk g 38 #[.int .i64 O, .int .i64 D, .bool b, .slice x1 l.length x2] wx ∧ Below w.heap.size w wx)
  case first =>
    by_cases hD : (D : Int) = 0
    · have e1 : ((D : Int) != 0) = false := by rw [bne_eq_false_iff_eq]; exact hD
      rw [if_pos hD] at HR
      clear hD hld
      go_wp2_with fail
      go_meet
      exact ⟨by rw [HR.out], K1.out, HBA.out⟩
    · have e1 : ((D : Int) != 0) = true := by rw [bne_iff_ne]; exact hD
      rw [if_neg hD] at HR
      clear hD
      obtain ⟨M1, hM1⟩ : ∃ M1, [32, 37, 32] ++ dtx D = M1 := ⟨_, rfl⟩
      obtain ⟨M2, hM2⟩ : ∃ M2, [LT] ++ M1 = M2 := ⟨_, rfl⟩
      have p1 : ∀ wx, (Op.stringOp .add ⟨#[32, 37, 32]⟩ (ofL (dtx D))).run Tryz.prog wx = .ok (.string (ofL M1)) wx := fun wx => str_add (x := [32, 37, 32]) (by simp; omega) hM1 wx
      have p2 : ∀ wx, (Op.stringOp .add (ofL [LT]) (ofL M1)).run Tryz.prog wx = .ok (.string (ofL M2)) wx := fun wx => str_add (by rw [← hM1]; simp; omega) hM2 wx
      rw [hM1, hM2] at HR
      clear hld hM1 hM2
      go_wp2_with fail
      refine (refDec_any D (by omega) _).mono ?_
      rintro e w2 ⟨rfl, b2⟩
      have K2 : Hid (Blk g 38 #[.int .i64 O, .int .i64 D, .bool b, .slice x1 l.length x2] w2) := Lib.hid (Blk.below K1.out b2)
      have B2 := Lib.hid (st HBA.out b2 HBA.out.size)
      clear b2
      go_wp2_with fail
      go_meet
      exact ⟨by rw [HR.out], K2.out, B2.out⟩
  case rest =>
    obtain ⟨rfl, k1, hb1⟩ := hcut
    rename World => wc
    clear K1 HBA hld ecut w1 hlo hhi HR
    have K1 := Lib.hid k1
    have HB1 := Lib.hid hb1
    have c2 : wc.cell? ⟨g, 2, none⟩ = some (.bool b) := k1.cell 2
    have hu0 := HLN.out 0
    clear k1 hb1
    obtain ⟨U0, hU0⟩ : ∃ U0, U 0 = U0 := ⟨_, rfl⟩
    have HU0 := Lib.hid hU0
    have hrl : RH.length ≤ 60 := by
      have := congrArg List.length HZ.out
      rw [List.length_append] at this
      omega
    rw [hU0] at HZ hu0
    clear hU0
    go_upto_if 21 with fail
    go_cut [3] from 20 to 25 (fun v3 wx => v3 = .string (ofL U0) ∧ wx = wc)
    case first =>
      cases b with
      | true =>
        have p1 : ∀ wx, (Op.stringOp .add (ofL RH) ⟨#[32, 33, 61]⟩).run Tryz.prog wx = .ok (.string (ofL U0)) wx := fun wx => str_add (y := [32, 33, 61]) (by simp; omega) (by rw [HZ.out]; rfl) wx
        clear hu0 hrl
        go_wp2_with fail
        go_meet
        exact ⟨rfl, rfl⟩
      | false =>
        have p1 : ∀ wx, (Op.stringOp .add (ofL RH) ⟨#[32, 61]⟩).run Tryz.prog wx = .ok (.string (ofL U0)) wx := fun wx => str_add (y := [32, 61]) (by simp; omega) (by rw [HZ.out]; rfl) wx
        clear hu0 hrl
        go_wp2_with fail
        go_meet
        exact ⟨rfl, rfl⟩
    case rest =>
      obtain ⟨rfl, hwc⟩ := hcut
      rename World => wd
      obtain rfl := hwc.symm
      clear hu0 hrl c2 HZ
      go_wp2_with fail
      go_loopw [3, 4] (fun v3 v4 wr => ∃ k : Nat, k ≤ l.length ∧ v4 = .int .i64 k ∧ v3 = .string (ofL (U k)) ∧ Blk g 38 #[.int .i64 O, .int .i64 D, .bool b, .slice x1 l.length x2] wr ∧ Below w.heap.size w wr) (fun _ v4 _ => l.length - (intOf v4).toNat)
      case atStart => exact ⟨0, Nat.zero_le _, rfl, by rw [HU0.out], K1.out, HB1.out⟩
      case round =>
        obtain ⟨k, hk, rfl, rfl, k2, hb2⟩ := hrel
        clear K1 HB1 HU0
        have K2 := Lib.hid k2
        have HB2 := Lib.hid hb2
        have c3 : wr.cell? ⟨g, 3, none⟩ = some (.slice x1 l.length x2) := k2.cell 3
        clear k2 hb2
        by_cases hlt : k < l.length
        · obtain ⟨bk, off, rfl, h0, h1⟩ := (HV.out.below HB2.out).span k hlt
          have h9 : (k : Int) < (l.length : Int) := by omega
          have hsl := okSp_le (HSP.out l[k] (List.getElem_mem hlt))
          have HNX := Lib.hid (HST.out k hlt)
          have hl1 := HLN.out k
          have hl2 := HLN.out (k + 1)
          have hvb : bk < wr.heap.size := World.block_lt_of_cell? wr _ h0
          obtain ⟨⟨x, y⟩, hxy⟩ : ∃ s, l[k] = s := ⟨_, rfl⟩
          rw [hxy] at h0 h1 hsl HNX
          dsimp only at h0 h1 hsl
          clear hxy
          obtain ⟨X, rfl⟩ : ∃ X : Nat, x = (X : Int) := ⟨x.toNat, by omega⟩
          obtain ⟨Y, rfl⟩ : ∃ Y : Nat, y = (Y : Int) := ⟨y.toNat, by omega⟩
          have hX : X ≤ 100 := by omega
          have hY : Y ≤ 100 := by omega
          obtain ⟨S0, hS0⟩ : ∃ S0, U k = S0 := ⟨_, rfl⟩
          obtain ⟨S1, hS1⟩ : ∃ S1, S0 ++ sepK k = S1 := ⟨_, rfl⟩
          obtain ⟨S3, hS3⟩ : ∃ S3, U (k + 1) = S3 := ⟨_, rfl⟩
          have HS3 := Lib.hid hS3
          rw [hS0, hS1, hS3] at HNX
          rw [hS0] at hl1 ⊢
          rw [hS3] at hl2
          have HS1 := Lib.hid hS1
          have hl3 : S1.length ≤ 61 := by
            rw [← hS1, List.length_append]
            unfold sepK
            split <;> simp <;> omega
          clear hS0 hS1 hS3 hsl
          go_upto_if 34 with fail
          go_cut [3] from 33 to 38 (fun v3 wx => v3 = .string (ofL S1) ∧ wx = wr)
          case first =>
            by_cases hk0 : k = 0
            · subst hk0
              have p1 : ∀ wx, (Op.stringOp .add (ofL S0) ⟨#[32]⟩).run Tryz.prog wx = .ok (.string (ofL S1)) wx := fun wx => str_add (y := [32]) (by simp; omega) HS1.out wx
              clear hl1 hl2 hl3
              go_wp2_with fail
              go_meet
              exact ⟨rfl, rfl⟩
            · have t0 : ((k : Int) == 0) = false := by rw [beq_eq_false_iff_ne]; omega
              have t1 : (k == 0) = false := by rw [beq_eq_false_iff_ne]; exact hk0
              have p1 : ∀ wx, (Op.stringOp .add (ofL S0) ⟨#[44]⟩).run Tryz.prog wx = .ok (.string (ofL S1)) wx := fun wx => str_add (y := [44]) (by simp; omega) (by rw [← HS1.out]; unfold sepK; rw [if_neg hk0]) wx
              clear hl1 hl2 hl3 hk0
              go_wp2_with fail
              go_meet
              exact ⟨rfl, rfl⟩
          case rest =>
            obtain ⟨rfl, hwc⟩ := hcut
            obtain rfl := hwc.symm
            have hla := dtx_len X
            have hlb := dtx_len Y
            by_cases hxy : (Y : Int) = (X : Int)
            · have e1 : ((Y : Int) != (X : Int)) = false := by rw [bne_eq_false_iff_eq]; exact hxy
              have q1 : ∀ wx, (Op.stringOp .add (ofL S1) (ofL (dtx X))).run Tryz.prog wx = .ok (.string (ofL S3)) wx := fun wx => str_add (by omega) (by rw [HNX.out, spT_same hxy, Int.toNat_natCast]) wx
              clear hl1 hl2 hl3 hla hlb hxy
              go_wp2_with fail
              refine (refDec_any X hX _).mono ?_
              rintro e w3 ⟨rfl, b3⟩
              have K3 : Hid (Blk g 38 #[.int .i64 O, .int .i64 D, .bool b, .slice (some ⟨bk, off, none⟩) l.length x2] w3) := Lib.hid (Blk.below K2.out b3)
              have B3 := Lib.hid (st HB2.out b3 HB2.out.size)
              have a0 : w3.cell? ⟨bk, off + k * 2, none⟩ = some (.int .i64 X) := (b3.cell (p := ⟨bk, off + k * 2, none⟩) hvb).trans h0
              have a1 : w3.cell? ⟨bk, off + k * 2 + 1, none⟩ = some (.int .i64 Y) := (b3.cell (p := ⟨bk, off + k * 2 + 1, none⟩) hvb).trans h1
              have f3 : w3.cell? ⟨g, 3, none⟩ = some (.slice (some ⟨bk, off, none⟩) l.length x2) := K3.out.cell 3
              have a0d : w3.drew.cell? ⟨bk, off + k * 2, none⟩ = some (.int .i64 X) := a0
              have a1d : w3.drew.cell? ⟨bk, off + k * 2 + 1, none⟩ = some (.int .i64 Y) := a1
              have f3d : w3.drew.cell? ⟨g, 3, none⟩ = some (.slice (some ⟨bk, off, none⟩) l.length x2) := f3
              clear b3
              go_wp2_with fail
              go_quiet (fail)
              go_wp2
              go_roundw
              case measure => simp [intOf]; omega
              case rel => exact ⟨k + 1, by omega, by go_num, by rw [HS3.out], K3.out.drewN _, below_drewN B3.out _⟩
            · have e1 : ((Y : Int) != (X : Int)) = true := by rw [bne_iff_ne]; exact hxy
              obtain ⟨S2, hS2⟩ : ∃ S2, S1 ++ dtx X = S2 := ⟨_, rfl⟩
              obtain ⟨M1, hM1⟩ : ∃ M1, [46, 46] ++ dtx Y = M1 := ⟨_, rfl⟩
              have q1 : ∀ wx, (Op.stringOp .add (ofL S1) (ofL (dtx X))).run Tryz.prog wx = .ok (.string (ofL S2)) wx := fun wx => str_add (by omega) hS2 wx
              have q2 : ∀ wx, (Op.stringOp .add ⟨#[46, 46]⟩ (ofL (dtx Y))).run Tryz.prog wx = .ok (.string (ofL M1)) wx := fun wx => str_add (x := [46, 46]) (by simp; omega) hM1 wx
              have q3 : ∀ wx, (Op.stringOp .add (ofL S2) (ofL M1)).run Tryz.prog wx = .ok (.string (ofL S3)) wx := fun wx => str_add (by rw [← hS2, ← hM1]; simp; omega) (by rw [HNX.out, spT_two hxy, Int.toNat_natCast, Int.toNat_natCast, ← hS2, ← hM1, List.append_assoc]) wx
              clear hl1 hl2 hl3 hla hlb hxy hS2 hM1
              go_wp2_with fail
              refine (refDec_any X hX _).mono ?_
              rintro e w3 ⟨rfl, b3⟩
              have K3 : Hid (Blk g 38 #[.int .i64 O, .int .i64 D, .bool b, .slice (some ⟨bk, off, none⟩) l.length x2] w3) := Lib.hid (Blk.below K2.out b3)
              have B3 := Lib.hid (st HB2.out b3 HB2.out.size)
              have a0 : w3.cell? ⟨bk, off + k * 2, none⟩ = some (.int .i64 X) := (b3.cell (p := ⟨bk, off + k * 2, none⟩) hvb).trans h0
              have a1 : w3.cell? ⟨bk, off + k * 2 + 1, none⟩ = some (.int .i64 Y) := (b3.cell (p := ⟨bk, off + k * 2 + 1, none⟩) hvb).trans h1
              have f3 : w3.cell? ⟨g, 3, none⟩ = some (.slice (some ⟨bk, off, none⟩) l.length x2) := K3.out.cell 3
              have a0d : w3.drew.cell? ⟨bk, off + k * 2, none⟩ = some (.int .i64 X) := a0
              have a1d : w3.drew.cell? ⟨bk, off + k * 2 + 1, none⟩ = some (.int .i64 Y) := a1
              have f3d : w3.drew.cell? ⟨g, 3, none⟩ = some (.slice (some ⟨bk, off, none⟩) l.length x2) := f3
              clear b3
              go_wp2_with fail
              go_quiet (fail)
              go_wp2_with fail
              refine (refDec_any Y hY _).mono ?_
              rintro e w4 ⟨rfl, b4⟩
              have B4 := Lib.hid (st (below_drewN B3.out _) b4 (below_drewN B3.out _).size)
              have K4 := Lib.hid (Blk.below (K3.out.drewN _) b4)
              clear b4
              go_wp2
              go_roundw
              case measure => simp [intOf]; omega
              case rel => exact ⟨k + 1, by omega, by go_num, by rw [HS3.out], K4.out, B4.out⟩
        · obtain rfl : k = l.length := by omega
          have h3 : ¬ (l.length : Int) < (l.length : Int) := by omega
          rw [HALL.out]
          go_wp2
          go_ret
          exact ⟨rfl, by rw [← HG.out]; exact HB2.out⟩
end Go.Proofs.YtnabklhkalnpiaaGreatDoor
