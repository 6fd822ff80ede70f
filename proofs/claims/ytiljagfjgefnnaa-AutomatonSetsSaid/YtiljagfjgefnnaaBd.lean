/- Of the program: explore over the states of an automaton, walked. -/
import Derived.Test.YtiljagfjgefnnaaBc
namespace Go.Proofs.Ytiljagfjgefnnaa
open Go.RowKit Go.Maps
set_option linter.unusedVariables false

theorem resEI {W : World} {tm : Array Value} {B : Nat} {t : TypeId} {a b : Value} (t2 : tm[6]?.getD undef = .pointer (some ⟨B, 0, none⟩)) (h : Blk B t #[a, b] W) :
    (results Try.f51 tm).run Try.prog W = .ok (.agg #[a, b]) W := by
  have a0 : W.cell? ⟨B, 0, none⟩ = some a := h.cell 0
  have a1 : W.cell? ⟨B, 1, none⟩ = some b := h.cell 1
  simp [results, Try.f51, go_sem, t2, a0, a1]
set_option maxRecDepth 1000000 in
set_option maxHeartbeats 16000000 in
theorem exploreI_any (r : RawD) (ok : DOk r) (g : Nat) (a1 : Option Addr) (c1 : Nat) (a2 : Option Addr) (c2 : Nat) (w : World) (hK : Blk g 29 #[.int .i64 r.st, .slice a1 r.nx.length c1, .slice a2 r.ac.length c2] w) (hN : RdRows w (.slice a1 r.nx.length c1) r.nx) (hF : Rd 1 encO w (.slice a2 r.ac.length c2) r.ac) :
    Calls Try.prog 51 #[.int .i64 r.st, .func (.func 52) #[] #[.pointer (some ⟨g, 0, none⟩)], .func (.func 53) #[] #[.pointer (some ⟨g, 0, none⟩)]] w (GrP (toA r) w) := by
  obtain ⟨iI, hiI, hzI, hkI, hbI⟩ := info_parts Try.infoI
  obtain ⟨iO, hiO, hzO, hkO, hbO⟩ := info_parts Try.infoO
  obtain ⟨iG, hiG, hzG, hkG, hbG⟩ := info_parts Try.infoG
  have hmm := @run_makeMap Try.prog
  obtain ⟨z0, hz0⟩ : ∃ z0 : Obj, Obj.cells #[.slice none 0 0, .slice none 0 0] 62 = z0 := ⟨_, rfl⟩
  have BA := (Below.refl w.heap.size w).alloc (Nat.le_refl _) (.cells #[.slice none 0 0, .slice none 0 0] 62)
  have BB := BA.alloc BA.size (.cells #[.slice none 0 0, .slice none 0 0] 62)
  have kr := (Blk.new w 62 #[.slice none 0 0, .slice none 0 0]).alloc (.cells #[.slice none 0 0, .slice none 0 0] 62)
  have kg := Blk.new (w.alloc (.cells #[.slice none 0 0, .slice none 0 0] 62)) 62 #[.slice none 0 0, .slice none 0 0]
  rw [World.size_alloc] at kg
  obtain ⟨W0, hW0⟩ : ∃ W0, (w.alloc (.cells #[.slice none 0 0, .slice none 0 0] 62)).alloc (.cells #[.slice none 0 0, .slice none 0 0] 62) = W0 := ⟨_, rfl⟩
  have hs0 : W0.heap.size = w.heap.size + 1 + 1 := by rw [← hW0]; simp
  rw [hW0] at BB kr kg
  have HW0 := Lib.hid hW0
  have HB0 := Lib.hid BB
  have HKR := Lib.hid kr
  obtain ⟨S, hS⟩ : ∃ S : Nat, r.st = (S : Int) := ⟨r.st.toNat, by have := ok.st0; omega⟩
  have hSn : S < r.nx.length := by have := ok.st1; omega
  have HSA : Hid ((toA r).s0 = S) := Lib.hid (by show r.st.toNat = S; rw [hS]; rfl)
  have HK := Lib.hid hK
  have HN := Lib.hid hN
  have HF := Lib.hid hF
  have HOK := Lib.hid ok
  have HA := Lib.hid ok.ok
  have hn0 := ok.some_
  have hn1 := ok.most
  rw [hS]
  -- the map with the start in it
  have m0 := mapIs_made W0 3 kvI
  have b1 := (Below.refl W0.heap.size W0).alloc (Nat.le_refl _) (.map #[] 0)
  obtain ⟨w1, hmu, m1, g1⟩ := m0.put (T := 94) keyedI kvI_inj Try.underlying94 (by omega) (by simp) (kvI_key (x := S) (by omega)) (by simp)
  have hmu' : (Instr.mapUpdate 94 (.map (some W0.heap.size)) (.int .i64 (S : Int)) (.int .i32 0)).run Try.prog (W0.alloc (.map #[] 0)) = .ok () w1 := hmu
  obtain ⟨B, hB⟩ : ∃ B, W0.heap.size = B := ⟨_, rfl⟩
  obtain ⟨gg, hgg⟩ : ∃ gg, w.heap.size + 1 = gg := ⟨_, rfl⟩
  rw [hgg] at kg
  have kg1 : Blk gg 62 #[.slice none 0 0, .slice none 0 0] w1 := blk_map (kg.alloc _) m0 (by rw [hB] at g1 ⊢; exact g1)
  have bw1 : Below gg W0 w1 := ((Below.refl gg W0).alloc (by omega) (.map #[] 0)).grown g1 (by simp; omega) (fun k e => by injection e with e; omega)
  have zw1 : gg ≤ w1.heap.size := by have := bw1.size; omega
  have o9 := own_num w1 gg zw1 S
  have b2 := (Below.refl w1.heap.size w1).alloc (Nat.le_refl _) (.cells #[.int .i64 (S : Int)] 3)
  have HES : Hid (ES 1 encN 3 (w1.alloc (.cells #[.int .i64 (S : Int)] 3)) gg gg (.slice (some ⟨w1.heap.size, 0, none⟩) 1 1) (.slice none 0 0) (.slice none 0 0) (fdK (toA r) id 0) (outN (toA r) id 0) (outF (toA r) id 0)) := Lib.hid (by
    rw [fdK_zero, HSA.out]
    exact ⟨o9, own1_nil _ _ _, own1_nil _ _ _, kg1.alloc _⟩)
  have HMP : Hid (MapIs (w1.alloc (.cells #[.int .i64 (S : Int)] 3)) 3 B (fdK (toA r) id 0).length kvI (fdK (toA r) id 0)) := Lib.hid (by
    rw [fdK_zero, HSA.out, ← hB]
    exact m1.below b2)
  have HBW : Hid (Below gg W0 (w1.alloc (.cells #[.int .i64 (S : Int)] 3))) := Lib.hid (bw1.alloc zw1 _)
  have HM0 := Lib.hid hmu'
  have HBB := Lib.hid hB
  have HGG := Lib.hid hgg
  have HS0 := Lib.hid hs0
  clear hK hN hF BA BB kr kg hW0 ok hS m0 b1 hmu m1 g1 hmu' kg1 bw1 o9 b2 hz0 z0 hB hgg hs0
  go_enter Try.func51, Try.ntmps51
  go_upto_region 2 with fail
  rw [HW0.out, HGG.out]
  clear HW0
  have hm1 := HM0.out
  go_wp2_with fail
  rw [HBB.out]
  obtain ⟨W1, hW1⟩ : ∃ W1, w1.alloc (.cells #[.int .i64 (S : Int)] 3) = W1 := ⟨_, rfl⟩
  rw [hW1] at HES HMP HBW ⊢
  clear hW1 hm1 HM0
  obtain ⟨base, hbase⟩ : ∃ base, gg = base := ⟨_, rfl⟩
  have HBS : Hid (w.heap.size + 1 = base ∧ w.heap.size + 2 = W0.heap.size) := Lib.hid ⟨by rw [HGG.out, hbase], by rw [HS0.out]⟩
  have hbg : base ≤ gg := by omega
  have hbB : base ≤ B := by rw [← HBB.out, HS0.out, ← hbase, ← HGG.out]; omega
  obtain ⟨rr, hrr⟩ : ∃ rr, w.heap.size = rr := ⟨_, rfl⟩
  have HRR0 := Lib.hid hrr
  rw [hrr] at HKR ⊢
  have HES : Hid (ES 1 encN 3 W1 base gg (.slice (some ⟨w1.heap.size, 0, none⟩) 1 1) (.slice none 0 0) (.slice none 0 0) (fdK (toA r) id 0) (outN (toA r) id 0) (outF (toA r) id 0)) := by rw [← hbase]; exact HES
  have HBW : Hid (Below base W0 W1) := by rw [← hbase]; exact HBW
  clear hbase hrr
  go_loopw [9, 10] (fun v9 v10 wr => ∃ (i : Nat) (vN vF : Value), v10 = .int .i64 (i : Nat) ∧ (∀ j, j < i → j < (fdK (toA r) id j).length) ∧ i ≤ (fdK (toA r) id i).length ∧ ES 1 encN 3 wr base gg v9 vN vF (fdK (toA r) id i) (outN (toA r) id i) (outF (toA r) id i) ∧ MapIs wr 3 B (fdK (toA r) id i).length kvI (fdK (toA r) id i) ∧ Below base W0 wr) (fun _ v10 _ => r.nx.length + 1 - (intOf v10).toNat)
  case atStart => exact ⟨0, _, _, rfl, fun j h => by omega, Nat.zero_le _, HES.out, HMP.out, HBW.out⟩
  case round =>
    rename World => w2
    obtain ⟨i, vN, vF, rfl, hgood, hile, hes, hmp, hb2⟩ := hrel
    have hfdok := fdK_ok id HA.out i hgood
    have hfdl : (fdK (toA r) id i).length ≤ r.nx.length := hfdok.len
    obtain ⟨p9, q9, hp9⟩ := hes.o9.slice
    subst hp9
    have HE := Lib.hid hes
    have HMI := Lib.hid hmp
    have HB2 := Lib.hid hb2
    have HGD := Lib.hid hgood
    have HFO := Lib.hid hfdok
    have z2 := hb2.size
    clear hes hmp hb2 hgood hfdok HES HMP HBW
    obtain ⟨FD, hFD⟩ : ∃ FD, fdK (toA r) id i = FD := ⟨_, rfl⟩
    have HFD := Lib.hid hFD
    rw [hFD] at HE HMI HFO hile hfdl ⊢
    clear hFD
    by_cases hlt : i < FD.length
    · have h9 : (i : Int) < (FD.length : Int) := by omega
      obtain ⟨s, hs⟩ : ∃ s, FD.getD i 0 = s := ⟨_, rfl⟩
      have HS := Lib.hid hs
      have hsn : s < r.nx.length := by rw [← hs]; exact HFO.out.lt _ (getD_mem hlt)
      clear hs
      obtain ⟨rb, hrb⟩ : ∃ rb, w2.heap.size = rb := ⟨_, rfl⟩
      have zb2 : base ≤ w2.heap.size := by have := HBS.out; omega
      have bn := (Below.refl w2.heap.size w2).alloc (Nat.le_refl _) (.cells (encG []).toArray 84)
      have kn := Blk.new w2 84 (encG []).toArray
      have HE0 : Hid (ES 1 encN 3 (w2.alloc (.cells (encG []).toArray 84)) base gg (.slice p9 FD.length q9) vN vF (rowK (toA r) id FD s 0).2 (outN (toA r) id i) (outF (toA r) id i)) := Lib.hid (HE.out.below bn)
      have HK0 : Hid (Blk rb 84 (encG (rowK (toA r) id FD s 0).1).toArray (w2.alloc (.cells (encG []).toArray 84))) := Lib.hid (by rw [← hrb]; exact kn)
      have HM0 : Hid (MapIs (w2.alloc (.cells (encG []).toArray 84)) 3 B (rowK (toA r) id FD s 0).2.length kvI (rowK (toA r) id FD s 0).2) := Lib.hid (HMI.out.below bn)
      have HB0' : Hid (Below base W0 (w2.alloc (.cells (encG []).toArray 84))) := Lib.hid (HB2.out.alloc zb2 _)
      have HVN : Hid (∀ b, vN.ownBlock = some b → b < rb) := Lib.hid (fun b hb => by rw [← hrb]; exact (own_lt HE.out.oN b hb).2)
      have hBrb : B < rb := by rw [← hrb]; exact HMI.out.lt
      have hgrb : gg < rb := by rw [← hrb]; exact HE.out.ko.lt
      have HRB := Lib.hid hrb
      have HZ : Hid (Obj.cells (encG []).toArray 84 = .cells #[.int .i32 0, .int .i32 0, .int .i32 0, .int .i32 0, .int .i32 0, .int .i32 0, .int .i32 0, .int .i32 0, .int .i32 0, .int .i32 0, .int .i32 0] 84) := Lib.hid rfl
      rw [HZ.out] at HE0 HK0 HM0 HB0'
      clear bn kn hrb HZ
      go_wp2_with fail
      rw [HRB.out]
      obtain ⟨wn, hwn⟩ : ∃ wn, w2.alloc (.cells #[.int .i32 0, .int .i32 0, .int .i32 0, .int .i32 0, .int .i32 0, .int .i32 0, .int .i32 0, .int .i32 0, .int .i32 0, .int .i32 0, .int .i32 0] 84) = wn := ⟨_, rfl⟩
      rw [hwn] at HE0 HK0 HM0 HB0' ⊢
      clear hwn
      go_loopw [9, 27] (fun v9 v27 wr => ∃ c : Nat, c ≤ 11 ∧ v27 = .int .i64 (c : Nat) ∧ ES 1 encN 3 wr base gg v9 vN vF (rowK (toA r) id FD s c).2 (outN (toA r) id i) (outF (toA r) id i) ∧ Blk rb 84 (encG (rowK (toA r) id FD s c).1).toArray wr ∧ MapIs wr 3 B (rowK (toA r) id FD s c).2.length kvI (rowK (toA r) id FD s c).2 ∧ Below base W0 wr) (fun _ v27 _ => 11 - (intOf v27).toNat)
      case atStart => exact ⟨0, by omega, rfl, HE0.out, HK0.out, HM0.out, HB0'.out⟩
      case round =>
        rename World => wz
        obtain ⟨c, hc, rfl, hes, hkb, hmp, hb3⟩ := hrel
        have hrl : (rowK (toA r) id FD s c).2.length ≤ r.nx.length := row_len_le HA.out HFO.out (show s < (toA r).n from hsn) hc
        have hpre := rowK_pre (toA r) id FD s c
        have hRl := rowK_len (toA r) id FD s c
        obtain ⟨p9, q9, hp9⟩ := hes.o9.slice
        subst hp9
        have HE2 := Lib.hid hes
        have HK2 := Lib.hid hkb
        have HM2 := Lib.hid hmp
        have HB3 := Lib.hid hb3
        have z3 := hb3.size
        clear hes hkb hmp hb3 HE0 HK0 HM0 HB0' HE HMI
        obtain ⟨F, hF⟩ : ∃ F, (rowK (toA r) id FD s c).2 = F := ⟨_, rfl⟩
        obtain ⟨R, hR⟩ : ∃ R, (rowK (toA r) id FD s c).1 = R := ⟨_, rfl⟩
        have HFF := Lib.hid hF
        have HRR := Lib.hid hR
        have HE5 : Hid ((rowK (toA r) id FD s (c + 1)).2 = add id F ((toA r).d s c) ∧ (rowK (toA r) id FD s (c + 1)).1 = R ++ [idx F ((toA r).d s c)]) := Lib.hid (by
          rw [rowK_succ]
          unfold rowStp
          rw [hF, hR, idx_mid]
          exact ⟨rfl, rfl⟩)
        rw [hF] at HE2 HM2
        rw [hR] at HK2
        rw [hF] at hrl hpre ⊢
        rw [hR] at hRl
        have hFl := hpre.length_le
        have HFI : Hid (F.getD i 0 = s) := Lib.hid (by rw [pre_getD hpre hlt]; exact HS.out)
        have HRL := Lib.hid hRl
        clear hF hR hpre hRl
        by_cases hct : c < 11
        · have h9c : (c : Int) < 11 := by omega
          have hi5 : i < F.length := by omega
          have hi5' : (i : Int) < (F.length : Int) := by omega
          obtain ⟨b5, off5, hp5, k5⟩ := (HE2.out.o9.rd encN_len).nat i hi5
          subst hp5
          rw [HFI.out] at k5
          have HBW : Hid (Below w.heap.size w wz) := Lib.hid (HB0.out.trans (HB3.out.mono (by have := HBS.out; omega)))
          have HST := Lib.hid (step1_any r HOK.out g a1 c1 a2 c2 wz (Blk.below HK.out HBW.out) (HN.out.below HBW.out) s c hsn hct)
          have hdT := HOK.out.ok.go s c hsn hct
          have hdT1 : (toA r).d s c < r.nx.length := hdT
          obtain ⟨T, hT⟩ : ∃ T, (toA r).d s c = T := ⟨_, rfl⟩
          rw [hT] at hdT1 HE5 HST
          clear hT hdT
          obtain ⟨n0, hlk, hn0e⟩ := HM2.out.look (T := 94) keyedI Try.underlying94 zero32 (kvI_key (x := T) (by omega))
          have hlk' : (Instr.lookup 94 (.map (some B)) (.int .i64 (T : Int)) true).run Try.prog wz = .ok (.tuple #[.int .i32 (n0 : Int), .bool (decide (T ∈ F))]) wz := hlk
          have HLK := Lib.hid hlk'
          have HN0 := Lib.hid hn0e
          have xf := HK2.out.frozen c
          have xc : wz.cell? ⟨rb, c, none⟩ = some (.int .i32 0) := by
            rw [HK2.out.cell, List.getElem?_toArray, encG_get _ hct, List.getD_eq_getElem?_getD, List.getElem?_eq_none (by have := HRL.out; omega)]
            rfl
          clear hlk hlk' hn0e
          go_wp2_with fail
          refine HST.out.mono ?_
          rintro e we ⟨rfl, hwe⟩
          obtain rfl := hwe.symm
          clear hwe HST
          have hlk := HLK.out
          by_cases hmem : T ∈ F
          · have e1 : decide (T ∈ F) = true := decide_eq_true hmem
            have HV := Lib.hid (HN0.out hmem)
            have HAD : Hid (add id F T = F) := Lib.hid (add_old (by rw [idx_mid]; exact idx_lt.2 hmem))
            rw [e1] at hlk
            clear e1 hmem
            have xk := HK2.out
            have HN2 : Hid (ES 1 encN 3 (wz.setCell ⟨rb, c, none⟩ (.int .i32 (n0 : Int))) base gg (.slice (some ⟨b5, off5, none⟩) F.length q9) vN vF (rowK (toA r) id FD s (c + 1)).2 (outN (toA r) id i) (outF (toA r) id i) ∧ Blk rb 84 (encG (rowK (toA r) id FD s (c + 1)).1).toArray (wz.setCell ⟨rb, c, none⟩ (.int .i32 (n0 : Int))) ∧ MapIs (wz.setCell ⟨rb, c, none⟩ (.int .i32 (n0 : Int))) 3 B (rowK (toA r) id FD s (c + 1)).2.length kvI (rowK (toA r) id FD s (c + 1)).2 ∧ Below base W0 (wz.setCell ⟨rb, c, none⟩ (.int .i32 (n0 : Int)))) := Lib.hid (by
              rw [HE5.out.1, HE5.out.2, HAD.out, ← encG_snoc R (idx F T) (by have := HRL.out; omega), HRL.out, ← HV.out]
              exact ⟨HE2.out.row kindsI HK2.out HVN.out c _, HK2.out.put c _, HM2.out.blk HK2.out (grown_set _ _ _ _), HB3.out.setCell (p := ⟨rb, c, none⟩) (by show base ≤ rb; omega) _⟩)
            clear xk
            go_wp2_with fail
            go_roundw
            case measure => simp [intOf] <;> omega
            case rel => exact ⟨c + 1, by omega, by go_num, HN2.out⟩
          · have e1 : decide (T ∈ F) = false := decide_eq_false hmem
            have HAD : Hid (add id F T = F ++ [T]) := Lib.hid (add_new (by rw [idx_mid]; exact fun h => hmem (idx_lt.1 h)))
            have HVF : Hid (idx F T = F.length) := Lib.hid (idx_not hmem)
            obtain ⟨w3, hmu, m3, g3⟩ := HM2.out.put (T := 94) keyedI kvI_inj Try.underlying94 (by omega) (by omega) (kvI_key (x := T) (by omega)) hmem
            have hmu' : (Instr.mapUpdate 94 (.map (some B)) (.int .i64 (T : Int)) (.int .i32 (F.length : Int))).run Try.prog wz = .ok () w3 := hmu
            rw [e1] at hlk
            have E3 := Lib.hid (HE2.out.map HM2.out g3)
            have K3 := Lib.hid (blk_map HK2.out HM2.out g3)
            have B3 := Lib.hid (HB3.out.grown g3 (by have := HBS.out; omega) (fun k e => by injection e with e; omega))
            have M3 := Lib.hid m3
            have z4 : base ≤ w3.heap.size := by have := g3.size; have := HBS.out; omega
            have d1 : IntKind.i32.wrap ((F.length : Nat) : Int) = (F.length : Int) := by rw [IntKind.wrap_i32]; omega
            have hFl9 : F.length ≤ 1000000000 := by omega
            clear e1 hmem hmu m3 g3
            go_wp2_with (first | (at_builtin; refine wpList_append_lie (w0 := w3) (x := T) (N := w3.heap.size) rfl rfl _ _ 56 rfl base iI _ 8 Try.underlying56 hiI hzI hkI hbI (by omega) rfl (by omega) encN_len encN_one _ F rfl rfl (E3.out.o9) rfl hFl9 z4 ?_; intro v9 w9 y1; have K9 := Lib.hid (y1.blk K3.out (own_type E3.out.o9 K3.out (by decide))).1; have xf9 := K9.out.frozen c; have xc9 := K9.out.cell c; rw [List.getElem?_toArray, encG_get _ hct] at xc9) | go_in)
            have HN2 : Hid (ES 1 encN 3 (w9.setCell ⟨rb, c, none⟩ (.int .i32 (F.length : Int))) base gg v9 vN vF (rowK (toA r) id FD s (c + 1)).2 (outN (toA r) id i) (outF (toA r) id i) ∧ Blk rb 84 (encG (rowK (toA r) id FD s (c + 1)).1).toArray (w9.setCell ⟨rb, c, none⟩ (.int .i32 (F.length : Int))) ∧ MapIs (w9.setCell ⟨rb, c, none⟩ (.int .i32 (F.length : Int))) 3 B (rowK (toA r) id FD s (c + 1)).2.length kvI (rowK (toA r) id FD s (c + 1)).2 ∧ Below base W0 (w9.setCell ⟨rb, c, none⟩ (.int .i32 (F.length : Int)))) := Lib.hid (by
              rw [HE5.out.1, HE5.out.2, HAD.out, HVF.out, ← encG_snoc R F.length (by have := HRL.out; omega), HRL.out]
              have E9 := E3.out.g9 kindsI y1
              have M9 := M3.out.own E3.out.o9 y1.2.2.1
              exact ⟨E9.row kindsI K9.out HVN.out c _, K9.out.put c _, by rw [List.length_append, List.length_singleton]; exact M9.blk K9.out (grown_set _ _ _ _), (B3.out.trans y1.2.1).setCell (p := ⟨rb, c, none⟩) (by show base ≤ rb; omega) _⟩)
            clear y1
            go_wp2
            go_roundw
            case measure => simp [intOf] <;> omega
            case rel => exact ⟨c + 1, by omega, by go_num, HN2.out⟩
        · have hc11 : c = 11 := by omega
          subst hc11
          have h9c : ¬ (11 : Int) < 11 := by omega
          obtain ⟨pN, qN, hpN⟩ := HE2.out.oN.slice
          subst hpN
          have t0 : wz.cell? ⟨gg, 0, none⟩ = some (.slice pN (outN (toA r) id i).length qN) := HE2.out.ko.cell 0
          have hld := load_row (w := wz) (b := rb) (o := 0) (x := R) (fun j v hv => by rw [HK2.out.cell, List.getElem?_toArray, Nat.zero_add]; exact hv)
          have hlN : (outN (toA r) id i).length ≤ 1000000000 := by rw [outN_len]; omega
          have z5 : base ≤ wz.heap.size := by have := HBS.out; omega
          go_upto_region 18 with fail
          refine wp_region_lit ?_
          refine wpList_plain rfl fun K0 hK0 => ?_
          have hS := Lib.hid hK0
          clear hK0
          go_simp
          refine hS.out _ _ ?_
          clear hS K0
          try simp only [Act.put, List.setIfInBounds_toArray, List.set_cons_zero, List.set_cons_succ]
          refine wpList_plain rfl fun K0 hK0 => ?_
          have hS := Lib.hid hK0
          clear hK0
          go_simp
          refine hS.out _ _ ?_
          clear hS K0
          try simp only [Act.put, List.setIfInBounds_toArray, List.set_cons_zero, List.set_cons_succ]
          refine wpList_load_mid rfl 84 _ rfl rb 0 rfl (encG R) _ (fun j v hv => by rw [HK2.out.cell, List.getElem?_toArray, Nat.zero_add]; exact hv) Try.underlying84 rfl (by rw [encG_len]; kernel_rfl) ?_
          try simp only [Act.put, List.setIfInBounds_toArray, List.set_cons_zero, List.set_cons_succ]
          refine wpList_row R _ rfl rfl rfl ?_
          refine wpList_append_lie (w0 := wz) (x := R) (N := wz.heap.size) rfl rfl _ _ 60 rfl base iG _ 44 Try.underlying60 hiG hzG hkG hbG (by omega) (encG_len []) (by omega) encG_len encG_one _ (outN (toA r) id i) rfl rfl (HE2.out.oN) rfl hlN z5 ?_
          intro v9 w9 y1
          obtain ⟨pM, qM, hpM⟩ := lie_at y1
          obtain ⟨lM, hlM⟩ : ∃ lM, ((outN (toA r) id i) ++ [R]).length = lM := ⟨_, rfl⟩
          rw [hlM] at hpM
          have HLM := Lib.hid hlM
          clear hlM
          subst hpM
          have K9 := (y1.blk HE2.out.ko (own_type HE2.out.oN HE2.out.ko (by decide))).1
          have kf9 := K9.frozen 0
          have kc9 : w9.cell? ⟨gg, 0, none⟩ = some (.slice pN (outN (toA r) id i).length qN) := K9.cell 0
          have HE3 := Lib.hid (HE2.out.gN kindsI y1)
          have MP9 := HM2.out.own HE2.out.oN y1.2.2.1
          have HM3 := Lib.hid (MP9.blk K9 (grown_set w9 gg 0 (.slice pM lM qM)))
          have HB4 := Lib.hid ((HB3.out.trans y1.2.1).setCell (p := ⟨gg, 0, none⟩) (by show base ≤ gg; omega) (.slice pM lM qM))
          clear y1 MP9 K9 hld t0
          go_upto_region 19 with fail
          obtain ⟨wS, hwS⟩ : ∃ wS, w9.setCell ⟨gg, 0, none⟩ (.slice pM lM qM) = wS := ⟨_, rfl⟩
          rw [hwS] at HE3 HM3 HB4 ⊢
          clear hwS kf9 kc9
          obtain ⟨b5, off5, hp5, k5⟩ := (HE3.out.o9.rd encN_len).nat i (by omega)
          subst hp5
          rw [HFI.out] at k5
          obtain ⟨pF, qF, hpF⟩ := HE3.out.oF.slice
          subst hpF
          have t1 : wS.cell? ⟨gg, 1, none⟩ = some (.slice pF (outF (toA r) id i).length qF) := HE3.out.ko.cell 1
          have hi5' : (i : Int) < (F.length : Int) := by omega
          have hS : (fun wx : World => wx.cell? ⟨gg, 1, none⟩ = some (.slice pF (outF (toA r) id i).length qF) ∧ wx.cell? ⟨b5, off5 + i, none⟩ = some (.int .i64 (s : Int))) wS.drew := ⟨t1, k5⟩
          refine region_hd 9 (fun wx : World => wx.cell? ⟨gg, 1, none⟩ = some (.slice pF (outF (toA r) id i).length qF) ∧ wx.cell? ⟨b5, off5 + i, none⟩ = some (.int .i64 (s : Int))) (by kernel_rfl) (by kernel_rfl) ?_
          refine hd_taken 0 (some 65) _ ?hdv0 rfl rfl (by kernel_rfl) (fun _ _ _ h => h) (Or.inl ⟨by rfl, ?hdy0⟩) hS ?hdr0
          case hdy0 => (intro wx hx; (try dsimp only at hx); go_simp; try with_reducible rfl)
          try simp only [Act.put, List.setIfInBounds_toArray, List.set_cons_zero, List.set_cons_succ]
          refine hd_taken 1 (some 66) _ ?hdv1 rfl rfl (by kernel_rfl) (fun _ _ _ h => h) (Or.inl ⟨by rfl, ?hdy1⟩) hS ?hdr1
          case hdy1 => (intro wx hx; (try dsimp only at hx); go_simp; try with_reducible rfl)
          try simp only [Act.put, List.setIfInBounds_toArray, List.set_cons_zero, List.set_cons_succ]
          refine hd_taken 2 (some 67) _ ?hdv2 rfl rfl (by kernel_rfl) (fun _ _ _ h => h) (Or.inl ⟨by rfl, ?hdy2⟩) hS ?hdr2
          case hdy2 => (intro wx hx; (try dsimp only at hx); go_simp; try with_reducible rfl)
          try simp only [Act.put, List.setIfInBounds_toArray, List.set_cons_zero, List.set_cons_succ]
          refine hd_taken 3 (some 68) _ ?hdv3 rfl rfl (by kernel_rfl) (fun _ _ _ h => h) (Or.inl ⟨by rfl, ?hdy3⟩) hS ?hdr3
          case hdy3 => (intro wx hx; (try dsimp only at hx); go_simp; try with_reducible rfl)
          try simp only [Act.put, List.setIfInBounds_toArray, List.set_cons_zero, List.set_cons_succ]
          refine hd_taken 4 (some 69) _ ?hdv4 rfl rfl (by kernel_rfl) (fun _ _ _ h => h) (Or.inl ⟨by rfl, ?hdy4⟩) hS ?hdr4
          case hdy4 => (intro wx hx; (try dsimp only at hx); go_simp; try with_reducible rfl)
          try simp only [Act.put, List.setIfInBounds_toArray, List.set_cons_zero, List.set_cons_succ]
          refine hd_taken 5 (some 70) _ ?hdv5 rfl rfl (by kernel_rfl) (fun _ _ _ h => h) (Or.inl ⟨by rfl, ?hdy5⟩) hS ?hdr5
          case hdy5 => (intro wx hx; (try dsimp only at hx); go_simp; try with_reducible rfl)
          try simp only [Act.put, List.setIfInBounds_toArray, List.set_cons_zero, List.set_cons_succ]
          refine hd_taken 6 (some 71) _ ?hdv6 rfl rfl (by kernel_rfl) (fun _ _ _ h => h) (Or.inl ⟨by rfl, ?hdy6⟩) hS ?hdr6
          case hdy6 => (intro wx hx; (try dsimp only at hx); go_simp; try with_reducible rfl)
          try simp only [Act.put, List.setIfInBounds_toArray, List.set_cons_zero, List.set_cons_succ]
          have HBW4 : Below w.heap.size w wS := HB0.out.trans (HB4.out.mono (by have := HBS.out; omega))
          have HAC := Lib.hid (acc1_any r HOK.out g a1 c1 a2 c2 wS.drew (Blk.below (Blk.below HK.out HBW4) ((Below.refl _ wS).drew)) ((HF.out.below HBW4).below ((Below.refl _ wS).drew)) s hsn)
          clear HBW4
          refine hd_one 7 _ rfl (by kernel_rfl) (by decide) (fun K7 hK7 => ?_)
          go_simp
          refine HAC.out.mono ?_
          rintro e we ⟨rfl, rfl⟩
          dsimp only
          refine hK7.out _ _ hS ?_
          clear hK7 K7
          try simp only [Act.put, List.setIfInBounds_toArray, List.set_cons_zero, List.set_cons_succ]
          obtain ⟨fb, hfb⟩ : ∃ fb, (toA r).f s = fb := ⟨_, rfl⟩
          have HFB := Lib.hid hfb
          rw [hfb]
          clear hfb HAC
          have b8 := ((Below.refl wS.heap.size wS).drew).alloc (Nat.le_refl _) (.cells #[.bool fb] 4)
          have hS8 : (fun wx : World => wx.cell? ⟨gg, 1, none⟩ = some (.slice pF (outF (toA r) id i).length qF) ∧ wx.cell? ⟨b5, off5 + i, none⟩ = some (.int .i64 (s : Int))) (wS.drew.alloc (.cells #[.bool fb] 4)) := ⟨(b8.cell (p := ⟨gg, 1, none⟩) (World.block_lt_of_cell? wS _ t1)).trans t1, (b8.cell (p := ⟨b5, off5 + i, none⟩) (World.block_lt_of_cell? wS _ k5)).trans k5⟩
          refine hd_one 8 _ rfl (by kernel_rfl) (by decide) (fun K8 hK8 => ?_)
          go_simp
          refine hK8.out _ _ hS8 ?_
          clear hK8 K8 hS hS8 b8
          try simp only [Act.put, List.setIfInBounds_toArray, List.set_cons_zero, List.set_cons_succ]
          refine hd_done (by kernel_rfl) ?_
          simp only [List.drop_succ_cons, List.drop_zero]
          have hlF : (outF (toA r) id i).length ≤ 1000000000 := by rw [outF_len]; omega
          have z6 : base ≤ wS.heap.size := by have := HB4.out.size; have := HBS.out; omega
          refine wpList_append_lie (w0 := wS.drew) (x := fb) (N := wS.heap.size) rfl rfl _ _ 23 rfl base iO _ 1 Try.underlying23 hiO hzO hkO hbO (by omega) rfl (by omega) encO_len encO_one _ (outF (toA r) id i) rfl rfl ((HE3.out.below ((Below.refl _ wS).drew)).oF) rfl hlF z6 ?_
          intro v10 w10 y1
          simp only [Act.put, List.setIfInBounds_toArray, List.set_cons_zero, List.set_cons_succ]
          obtain ⟨pL, qL, hpL⟩ := lie_at y1
          obtain ⟨lL, hlL⟩ : ∃ lL, ((outF (toA r) id i) ++ [fb]).length = lL := ⟨_, rfl⟩
          rw [hlL] at hpL
          clear hlL
          subst hpL
          have HE9 := HE3.out.below ((Below.refl _ wS).drew)
          have K10 := (y1.blk HE9.ko (own_type HE9.oF HE9.ko (by decide))).1
          have kf9 := K10.frozen 1
          have kc9 : w10.cell? ⟨gg, 1, none⟩ = some (.slice pF (outF (toA r) id i).length qF) := K10.cell 1
          have HNX : Hid (fdK (toA r) id (i + 1) = F ∧ outN (toA r) id (i + 1) = outN (toA r) id i ++ [R] ∧ outF (toA r) id (i + 1) = outF (toA r) id i ++ [fb]) := Lib.hid (by
            refine ⟨by rw [fdK_succ, HFD.out, HS.out, HFF.out], ?_, ?_⟩
            · rw [outN_succ]
              unfold rowsK
              rw [HFD.out, HS.out, HRR.out]
            · rw [outF_succ (by rw [HFD.out]; exact hlt), HFD.out, HS.out, HFB.out])
          have HFIN : Hid (ES 1 encN 3 (w10.setCell ⟨gg, 1, none⟩ (.slice pL lL qL)) base gg (.slice (some ⟨b5, off5, none⟩) F.length q9) (.slice pM lM qM) (.slice pL lL qL) (fdK (toA r) id (i + 1)) (outN (toA r) id (i + 1)) (outF (toA r) id (i + 1)) ∧ MapIs (w10.setCell ⟨gg, 1, none⟩ (.slice pL lL qL)) 3 B (fdK (toA r) id (i + 1)).length kvI (fdK (toA r) id (i + 1)) ∧ Below base W0 (w10.setCell ⟨gg, 1, none⟩ (.slice pL lL qL))) := Lib.hid (by
            rw [HNX.out.1, HNX.out.2.1, HNX.out.2.2]
            have M9 := (HM3.out.below ((Below.refl _ wS).drew)).own HE9.oF y1.2.2.1
            exact ⟨HE9.gF kindsI y1, M9.blk K10 (grown_set _ _ _ _), ((below_drewN HB4.out 1).trans y1.2.1).setCell (p := ⟨gg, 1, none⟩) (by show base ≤ gg; omega) _⟩)
          clear y1 HE9 K10 t1 k5
          go_wp2
          go_roundw
          case measure => simp [intOf] <;> omega
          case rel => exact ⟨i + 1, _, _, by go_num, fun j hj => by
            rcases Nat.lt_or_ge j i with h | h
            · exact HGD.out j h
            · obtain rfl : j = i := by omega
              rw [HFD.out]
              exact hlt, by rw [HNX.out.1]; omega, HFIN.out⟩
    · have him : i = FD.length := by omega
      have h9 : ¬ (i : Int) < (FD.length : Int) := by omega
      have HST : Hid (Stop (toA r) id i) := Lib.hid ⟨HGD.out, by rw [HFD.out]; exact him.symm⟩
      obtain ⟨pN, qN, hpN⟩ := HE.out.oN.slice
      obtain ⟨pF, qF, hpF⟩ := HE.out.oF.slice
      rw [outN_len] at hpN
      rw [outF_len] at hpF
      subst hpN hpF
      have t0 : w2.cell? ⟨gg, 0, none⟩ = some (.slice pN i qN) := HE.out.ko.cell 0
      have t1 : w2.cell? ⟨gg, 1, none⟩ = some (.slice pF i qF) := HE.out.ko.cell 1
      have HKR2 : Hid (Blk rr 62 #[.slice none 0 0, .slice none 0 0] w2) := Lib.hid (Blk.belowAt HKR.out HB2.out (by have := HBS.out; have := HRR0.out; omega))
      have kfr := HKR2.out.frozen
      have y0 : w2.cell? ⟨rr, 0, none⟩ = some (.slice none 0 0) := HKR2.out.cell 0
      have y1 : w2.cell? ⟨rr, 1, none⟩ = some (.slice none 0 0) := HKR2.out.cell 1
      have HFIN : Hid (Blk rr 62 #[.slice pN i qN, .slice pF i qF] ((w2.setCell ⟨rr, 0, none⟩ (.slice pN i qN)).setCell ⟨rr, 1, none⟩ (.slice pF i qF)) ∧ GrP (toA r) w (.returned (.agg #[.slice pN i qN, .slice pF i qF])) ((w2.setCell ⟨rr, 0, none⟩ (.slice pN i qN)).setCell ⟨rr, 1, none⟩ (.slice pF i qF))) := Lib.hid (by
        have hg := (grown_set w2 rr 0 (.slice pN i qN)).trans (grown_set (w2.setCell ⟨rr, 0, none⟩ (.slice pN i qN)) rr 1 (.slice pF i qF))
        have hlt : ∀ b, base ≤ b → (some rr : Option Nat) ≠ some b := fun b hb e => by
          injection e with e
          have := HBS.out
          have := HRR0.out
          omega
        have oN := own_grown HE.out.oN hg (fun b hb => hlt b (own_lt HE.out.oN b hb).1)
        have oF := own_grown HE.out.oF hg (fun b hb => hlt b (own_lt HE.out.oF b hb).1)
        refine ⟨(HKR2.out.put 0 _).put 1 _, i, pN, qN, pF, qF, HST.out, rfl, Own1.base oN (by have := HBS.out; omega), Own1.base oF (by have := HBS.out; omega), ?_⟩
        exact ((HB0.out.trans (HB2.out.mono (by have := HBS.out; omega))).setCell (p := ⟨rr, 0, none⟩) (by show w.heap.size ≤ rr; have := HRR0.out; omega) _).setCell (p := ⟨rr, 1, none⟩) (by show w.heap.size ≤ rr; have := HRR0.out; omega) _)
      clear him
      go_wp2
      exact bodyPost_ret (v := .agg #[.slice pN i qN, .slice pF i qF]) (resEI rfl HFIN.out.1) rfl HFIN.out.2
end Go.Proofs.Ytiljagfjgefnnaa
