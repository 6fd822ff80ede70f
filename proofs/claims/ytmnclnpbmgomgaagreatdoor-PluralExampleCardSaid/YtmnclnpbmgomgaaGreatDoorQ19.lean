/- What the row stands on, part 19. -/
import Derived.Lib.AppendZerosOnto
import Derived.Lib.SliceRun
import Derived.Lib.Walk
import Derived.Test.YtmnclnpbmgomgaaGreatDoorQ18

/- Of decide: slices.Concat of a condition, Weight. -/
namespace Go.Proofs.YtmnclnpbmgomgaaGreatDoor
open Go.RowKit Go.Maps
set_option linter.unusedVariables false

theorem rel_app {w : World} {A A' : List RawR} {B B' : List Rel} (hl : A.length = B.length) (h : ∀ (i : Nat) (a : i < A.length) (b : i < B.length), RdRel w A[i] B[i]) (h' : ∀ (i : Nat) (a : i < A'.length) (b : i < B'.length), RdRel w A'[i] B'[i]) :
    ∀ (i : Nat) (a : i < (A ++ A').length) (b : i < (B ++ B').length), RdRel w (A ++ A')[i] (B ++ B')[i] := fun i a b => by
  by_cases hi : i < A.length
  · rw [List.getElem_append_left hi, List.getElem_append_left (show i < B.length by omega)]
    exact h i hi (by omega)
  · rw [List.length_append] at a b
    rw [List.getElem_append_right (by omega), List.getElem_append_right (by omega)]
    have e : i - A.length = i - B.length := by omega
    have := h' (i - B.length) (by omega) (by omega)
    simp only [hl]
    exact this
end Go.Proofs.YtmnclnpbmgomgaaGreatDoor


/- Of the reference of layer 10: all, valid, shows. -/
namespace Go.Proofs.YtmnclnpbmgomgaaGreatDoor
open Go.RowKit
set_option linter.unusedVariables false

/-! ### all -/
def AllPost (c : Cnd) (w0 w : World) (e : Ending) (w' : World) : Prop := (∃ v' raws, e = .returned v' ∧ Rd 4 encR w' v' raws ∧ raws.length = (c.flatMap id).length ∧ ∀ (i : Nat) (a : i < raws.length) (b : i < (c.flatMap id).length), RdRel w0 raws[i] (c.flatMap id)[i]) ∧ Below w.heap.size w w'
set_option maxRecDepth 1000000 in
set_option maxHeartbeats 8000000 in
theorem all_any (c : Cnd) (hok : okC c = true) (v : Value) (w0 w : World) (hb0 : Below w0.heap.size w0 w) (hv : RdC w0 v c) :
    Calls Tryz.prog 53 #[v] w (AllPost c w0 w) := by
  obtain ⟨iR, hiR, hzR, hkR, hbR⟩ := info_parts Tryz.infoR
  have hokc := okC_iff.1 hok
  obtain ⟨ac, cc, rfl, hc1, hc2⟩ := hv.slice
  have HU := Lib.hid hv
  have HB0 := Lib.hid hb0
  have HCN : Hid (cnt c ≤ 6) := Lib.hid hokc.2.2
  clear hv hok hokc hb0
  go_enter Tryz.func53, Tryz.ntmps53
  go_wp2
  go_loopw [3, 4] (fun v3 v4 wr => ∃ (k : Nat) (raws : List RawR), k ≤ c.length ∧ v4 = .int .i64 k ∧ Own1 4 encR wr w.heap.size 77 v3 raws ∧ raws.length = ((c.take k).flatMap id).length ∧ (∀ (i : Nat) (a : i < raws.length) (b : i < ((c.take k).flatMap id).length), RdRel w0 raws[i] ((c.take k).flatMap id)[i]) ∧ Below w.heap.size w wr) (fun _ v4 _ => c.length - (intOf v4).toNat)
  case atStart => exact ⟨0, [], Nat.zero_le _, rfl, own1_nil _ _ _, rfl, fun i a b => by simp at a, Below.refl _ _⟩
  case round =>
    rename World => wj
    obtain ⟨k, raws, hk, rfl, ho, hl, hr, hb⟩ := hrel
    have HO2 := Lib.hid ho
    have HL := Lib.hid hl
    have HR := Lib.hid hr
    have HB2 := Lib.hid hb
    have HBW : Hid (Below w0.heap.size w0 wj) := Lib.hid (HB0.out.trans (hb.mono HB0.out.size))
    clear ho hl hr hb
    by_cases hlt : k < c.length
    · obtain ⟨bk, off, x1, x2, rfl, c0, hcd⟩ := HU.out.at_ k hlt
      have c0 := (HBW.out.cell (p := ⟨bk, off + k, none⟩) (World.block_lt_of_cell? _ _ c0)).trans c0
      have h9 : (k : Int) < (c.length : Int) := by omega
      have HF := Lib.hid (flat_take hlt)
      have HT := Lib.hid (cnt_take_succ hlt)
      have HLE := Lib.hid (cnt_take_le c (k + 1))
      have HFK := Lib.hid (flat_cnt (c.take k))
      obtain ⟨l, hl⟩ : ∃ l, c[k] = l := ⟨_, rfl⟩
      rw [hl] at c0 HF HT hcd
      obtain ⟨rw1, q1, q2, q3⟩ := hcd
      have HQ1 := Lib.hid (q1.below HBW.out)
      have HAP := Lib.hid (rel_app HL.out HR.out q3)
      have HLN : Hid ((raws ++ rw1).length = ((c.take (k + 1)).flatMap id).length) := Lib.hid (by rw [HF.out, List.length_append, List.length_append, HL.out, q2])
      have HSM : Hid (raws.length + rw1.length ≤ 6) := Lib.hid (by
        have e1 := HL.out; have e2 := HFK.out; have e3 := HT.out; have e4 := HLE.out; have e5 := HCN.out
        omega)
      have HZW : Hid (w.heap.size ≤ wj.heap.size) := Lib.hid HB2.out.size
      clear hl q1 q2 q3
      go_wp2_with (first | (at_builtin; refine wpList_append_rd (w := wj) rfl _ _ 73 rfl w.heap.size iR _ 48 Tryz.underlying73 hiR hzR hkR hbR (by omega) rfl (by omega) encR_len encR_one _ raws rw1 _ rfl HO2.out rfl HQ1.out (by have := HSM.out; omega) HZW.out ?_; intro v9 w9 y9 b9; have Y9 := Lib.hid y9; have B9 := Lib.hid b9; clear y9 b9) | fail)
      go_wp2
      go_roundw
      case measure => simp [intOf]; omega
      case rel => exact ⟨k + 1, raws ++ rw1, by omega, by go_num, Y9.out, HLN.out, by rw [HF.out]; exact HAP.out, HB2.out.trans B9.out⟩
    · obtain rfl : k = c.length := by omega
      have h3 : ¬ (c.length : Int) < (c.length : Int) := by omega
      have HL2 := HL.out
      have HR2 := HR.out
      rw [List.take_length] at HL2 HR2
      have HL3 := Lib.hid HL2
      have HR3 := Lib.hid HR2
      clear HL2 HR2
      go_wp2
      go_ret
      exact ⟨⟨_, raws, rfl, HO2.out.rd encR_len, HL3.out, HR3.out⟩, HB2.out⟩

/-! ### valid -/
def ValL (l : List Cnd) (w : World) (v3 : Value) (wr : World) : Prop := ∃ k : Nat, k ≤ l.length ∧ v3 = .int .i64 k ∧ Below w.heap.size w wr ∧ Hid (∀ c ∈ l.take k, okC c = true)
def ValP (l : List Cnd) (w : World) (e : Ending) (w' : World) : Prop := (∃ b, e = .returned (.bool b) ∧ (b = true ↔ (∀ c ∈ l, okC c = true) ∧ l.length ≤ 10)) ∧ Below w.heap.size w w'
set_option maxRecDepth 1000000 in
set_option maxHeartbeats 8000000 in
theorem valid10_any (l : List Cnd) (v : Value) (hl : ∀ c ∈ l, cnt c ≤ 4611686018427387904) (w : World) (hv : RdCs w v l) :
    Calls Tryz.prog 81 #[v] w (ValP l w) := by
  obtain ⟨a, cp, rfl, hc1, hc2⟩ := hv.slice
  have HU := Lib.hid hv
  have HLB := Lib.hid hl
  clear hv hl
  go_enter Tryz.func81, Tryz.ntmps81
  go_wp2
  go_loopw [3] (fun v3 wr => ValL l w v3 wr) (fun v3 _ => l.length - (intOf v3).toNat)
  case atStart => exact ⟨0, Nat.zero_le _, rfl, Below.refl _ _, Lib.hid (fun c hc => by simp at hc)⟩
  case round =>
    rename World => wj
    obtain ⟨k, hk, rfl, hb, HA⟩ := hrel
    have HB := Lib.hid hb
    clear hb
    by_cases hlt : k < l.length
    · obtain ⟨b, off, x1, x2, rfl, h0, h4⟩ := HU.out.at_ k hlt
      have h0 := (HB.out.cell (p := ⟨b, off + k, none⟩) (World.block_lt_of_cell? _ _ h0)).trans h0
      have h9 : (k : Int) < (l.length : Int) := by omega
      have HC := Lib.hid (HLB.out l[k] (List.getElem_mem hlt))
      have HT : Hid (okC l[k] = true → ∀ c ∈ l.take (k + 1), okC c = true) := Lib.hid (fun hx c hc => by
        rw [List.take_succ_eq_append_getElem hlt, List.mem_append, List.mem_singleton] at hc
        rcases hc with hc | rfl
        · exact HA.out c hc
        · exact hx)
      have HM : Hid (l[k] ∈ l) := Lib.hid (List.getElem_mem hlt)
      obtain ⟨m, hm⟩ : ∃ m, l[k] = m := ⟨_, rfl⟩
      rw [hm] at h0 h4 HT HC HM
      clear hm
      have HF := Lib.hid (refValidC_any _ m wj (h4.below HB.out) HC.out)
      obtain ⟨bv, hbv⟩ : ∃ b, okC m = b := ⟨_, rfl⟩
      rw [hbv] at HF HT
      have HBV := Lib.hid hbv
      clear h4 hbv
      go_wp2_with fail
      refine HF.out.mono ?_
      rintro e w2 ⟨rfl, b2⟩
      have HB2 := Lib.hid (st HB.out b2 HB.out.size)
      clear b2 HF
      cases bv with
      | false =>
        go_wp2
        go_ret
        refine ⟨⟨false, rfl, ⟨fun h => (by cases h), fun h => ?_⟩⟩, HB2.out⟩
        have := h.1 m HM.out
        rw [HBV.out] at this
        cases this
      | true =>
        have H5 : Hid (∀ c ∈ l.take (k + 1), okC c = true) := Lib.hid (HT.out rfl)
        go_wp2
        go_roundw
        case measure => simp [intOf]; omega
        case rel => exact ⟨k + 1, by omega, by go_num, HB2.out, H5⟩
    · obtain rfl : k = l.length := by omega
      have h3 : ¬ (l.length : Int) < (l.length : Int) := by omega
      have HF : Hid (∀ c ∈ l, okC c = true) := Lib.hid (by have := HA.out; rwa [List.take_length] at this)
      by_cases h10 : l.length ≤ 10
      · have t : (l.length : Int) ≤ 10 := by omega
        go_wp2
        go_ret
        exact ⟨⟨true, rfl, ⟨fun _ => ⟨HF.out, h10⟩, fun _ => rfl⟩⟩, HB.out⟩
      · have t : ¬ (l.length : Int) ≤ 10 := by omega
        go_wp2
        go_ret
        exact ⟨⟨false, rfl, ⟨fun h => (by cases h), fun h => absurd h.2 h10⟩⟩, HB.out⟩

/-! ### shows -/
theorem cntH_take {l : List Cnd} {s : Str} {k : Nat} (h : k < l.length) : cntH (l.take (k + 1)) s = cntH (l.take k) s + (if hldC s l[k] = true then 1 else 0) := by
  unfold cntH
  rw [List.take_succ_eq_append_getElem h, List.filter_append, List.length_append, List.filter_cons, List.filter_nil]
  split <;> simp
theorem cntH_le (l : List Cnd) (s : Str) : cntH l s ≤ l.length := List.length_filter_le _ _
set_option maxRecDepth 1000000 in
set_option maxHeartbeats 8000000 in
theorem shows_any (l : List Cnd) (v : Value) (h10 : l.length ≤ 100) (hok : ∀ c ∈ l, okC c = true) (s : Str) (hs : isU s) (p : Nat) (hp : p ≤ 3) (w : World) (hv : RdCs w v l) :
    Calls Tryz.prog 119 #[v, .string (ofL s), .int .i64 (p : Int)] w fun e w' => e = .returned (.bool (pS l p s)) ∧ Below w.heap.size w w' := by
  obtain ⟨a, cp, rfl, hc1, hc2⟩ := hv.slice
  have HU := Lib.hid hv
  have HOK := Lib.hid hok
  have HS := Lib.hid hs
  have HSL : Hid ((ofL s).size ≤ 9223372036854775807) := Lib.hid (by rw [ofL_size]; have := (isU_len hs).1; omega)
  clear hv hok hs
  go_enter Tryz.func119, Tryz.ntmps119
  go_wp2
  go_loopw [7, 8] (fun v7 v8 wr => ∃ k : Nat, k ≤ l.length ∧ v8 = .int .i64 k ∧ v7 = .int .i64 (cntH (l.take k) s : Nat) ∧ Below w.heap.size w wr) (fun _ v8 _ => l.length - (intOf v8).toNat)
  case atStart => exact ⟨0, Nat.zero_le _, rfl, rfl, Below.refl _ _⟩
  case round =>
    rename World => wj
    obtain ⟨k, hk, rfl, rfl, hb⟩ := hrel
    have HB := Lib.hid hb
    clear hb
    have hcl : cntH (l.take k) s ≤ 100 := by have := cntH_le (l.take k) s; have := List.length_take_le k l; omega
    by_cases hlt : k < l.length
    · obtain ⟨b, off, x1, x2, rfl, h0, h4⟩ := HU.out.at_ k hlt
      have h0 := (HB.out.cell (p := ⟨b, off + k, none⟩) (World.block_lt_of_cell? _ _ h0)).trans h0
      have h9 : (k : Int) < (l.length : Int) := by omega
      have HCT := Lib.hid (cntH_take (s := s) hlt)
      have HOM := Lib.hid (HOK.out l[k] (List.getElem_mem hlt))
      obtain ⟨q, hq⟩ : ∃ q, cntH (l.take k) s = q := ⟨_, rfl⟩
      rw [hq] at HCT hcl ⊢
      obtain ⟨m, hm⟩ : ∃ m, l[k] = m := ⟨_, rfl⟩
      rw [hm] at h0 h4 HCT HOM
      clear hm hq
      have HF := Lib.hid (refHoldsC_any _ m (ofL s) HSL.out wj (h4.below HB.out) (by have := (okC_iff.1 HOM.out).2.2; omega))
      rw [show (ofL s).data.toList = s from rfl, holdR_ok HOM.out (isU_spl HS.out)] at HF
      obtain ⟨bv, hbv⟩ : ∃ b, hldC s m = b := ⟨_, rfl⟩
      rw [hbv] at HF HCT
      clear h4 hbv
      go_wp2_with fail
      refine HF.out.mono ?_
      rintro e w2 ⟨rfl, b2⟩
      have HB2 := Lib.hid (st HB.out b2 HB.out.size)
      clear b2 HF
      cases bv with
      | false =>
        have HC2 : Hid (cntH (l.take (k + 1)) s = q) := Lib.hid (by rw [HCT.out]; rfl)
        go_wp2
        go_roundw
        case measure => simp [intOf]; omega
        case rel => exact ⟨k + 1, by omega, by go_num, by rw [HC2.out], HB2.out⟩
      | true =>
        have HC2 : Hid (cntH (l.take (k + 1)) s = q + 1) := Lib.hid (by rw [HCT.out]; rfl)
        go_wp2
        go_roundw
        case measure => simp [intOf]; omega
        case rel => exact ⟨k + 1, by omega, by go_num, by rw [HC2.out]; go_num, HB2.out⟩
    · obtain rfl : k = l.length := by omega
      have h3 : ¬ (l.length : Int) < (l.length : Int) := by omega
      have HPS : Hid (pS l p s = prS p (cntH l s)) := Lib.hid rfl
      rw [List.take_length] at hcl ⊢
      obtain ⟨q, hq⟩ : ∃ q, cntH l s = q := ⟨_, rfl⟩
      rw [hq] at HPS hcl ⊢
      clear hq
      obtain ⟨r, hr⟩ : ∃ r, prS p q = r := ⟨_, rfl⟩
      rw [hr] at HPS
      have hp4 : p = 0 ∨ p = 1 ∨ p = 2 ∨ p = 3 := by omega
      rcases hp4 with rfl | rfl | rfl | rfl
      · have z1 : decide ((0 : Int) < (q : Int)) = r := by rw [← hr]; show _ = decide (0 < q); rw [decide_eq_decide]; omega
        have z2 : decide (0 < q) = r := hr
        clear hr
        go_wp2
        go_ret
        exact ⟨by rw [HPS.out]; rfl, HB.out⟩
      · have z1 : ((q : Int) == 0) = r := by rw [← hr]; show _ = decide (q = 0); rw [Bool.eq_iff_iff, beq_iff_eq, decide_eq_true_eq]; omega
        clear hr
        go_wp2
        go_ret
        exact ⟨by rw [HPS.out]; rfl, HB.out⟩
      · have z1 : ((q : Int) == 2) = r := by rw [← hr]; show _ = decide (q = 2); rw [Bool.eq_iff_iff, beq_iff_eq, decide_eq_true_eq]; omega
        clear hr
        go_wp2
        go_ret
        exact ⟨by rw [HPS.out]; rfl, HB.out⟩
      · have z1 : ((q : Int) == 1) = r := by rw [← hr]; show _ = decide (q = 1); rw [Bool.eq_iff_iff, beq_iff_eq, decide_eq_true_eq]; omega
        clear hr
        go_wp2
        go_ret
        exact ⟨by rw [HPS.out]; rfl, HB.out⟩
end Go.Proofs.YtmnclnpbmgomgaaGreatDoor


/- Of the reference of layer 10: first. -/
namespace Go.Proofs.YtmnclnpbmgomgaaGreatDoor
open Go.RowKit
set_option linter.unusedVariables false

/-! ### The candidates in the reference's order -/
def candP (A F : List Str) (i j : Nat) : List Str := ((A.take i).flatMap fun a => F.map (tx0 a)) ++ (F.take j).map (tx0 (A.getD i []))
theorem candP_zero (A F : List Str) : candP A F 0 0 = [] := by unfold candP; simp
theorem candP_start (A F : List Str) (i : Nat) : candP A F i 0 = (A.take i).flatMap fun a => F.map (tx0 a) := by unfold candP; simp
theorem candP_end {A F : List Str} {i : Nat} (h : i < A.length) : candP A F i F.length = candP A F (i + 1) 0 := by
  rw [candP_start]
  unfold candP
  rw [List.take_length, List.take_succ_eq_append_getElem h, List.flatMap_append, List.flatMap_cons, List.flatMap_nil, List.append_nil]
  congr 2
  rw [List.getD_eq_getElem?_getD, List.getElem?_eq_getElem h]
  rfl
theorem candP_succ {A F : List Str} {i j : Nat} (hi : i < A.length) (h : j < F.length) : candP A F i (j + 1) = candP A F i j ++ [tx0 A[i] F[j]] := by
  unfold candP
  rw [List.take_succ_eq_append_getElem h, List.map_append, ← List.append_assoc]
  congr 2
  rw [List.getD_eq_getElem?_getD, List.getElem?_eq_getElem hi]
  rfl
theorem candP_last {A F : List Str} : candP A F A.length 0 = A.flatMap fun a => F.map (tx0 a) := by rw [candP_start, List.take_length]
theorem cands_out (l : List Rel) : cands l = (outW l 401).flatMap fun a => (frs l 7).map (tx0 a) := by
  unfold cands outW
  rw [List.flatMap_map]
theorem bestOf_snoc (p : Str → Bool) (L : List Str) (s : Str) : bestOf p (L ++ [s]) = stepB p (bestOf p L) s := by
  unfold bestOf
  rw [List.foldl_append]
  rfl
theorem bestOf_mem (p : Str → Bool) : ∀ (L : List Str) (o : Option Str) (b : Str), L.foldl (stepB p) o = some b → b ∈ L ∨ o = some b
  | [], o, b, h => .inr h
  | s :: L, o, b, h => by
    rcases bestOf_mem p L _ b h with k | k
    · exact .inl (by simp [k])
    · unfold stepB at k
      split at k
      · injection k with k; subst k; exact .inl (by simp)
      · exact .inr k
def bbS (ps : Bool) (o : Option Str) (s : Str) : Bool := ps && (match o with | none => true | some b => befB s b)
theorem stepB_bb (p : Str → Bool) (o : Option Str) (s : Str) : stepB p o s = if bbS (p s) o s = true then some s else o := by
  unfold stepB bbS
  cases hp : p s with
  | false => simp
  | true =>
    cases o with
    | none => simp
    | some b => simp

/-! ### first -/
def BestV (o : Option Str) (v10 v11 : Value) : Prop := v10 = .string (ofL (o.getD [])) ∧ v11 = .bool o.isSome
def RelsI (w0 : World) (B : Nat) (l : List Cnd) (k : Nat) (v6 : Value) (wr : World) : Prop := ∃ raws : List RawR, Own1 4 encR wr B 77 v6 raws ∧ raws.length = (relsC (l.take k)).length ∧ (∀ (i : Nat) (a : i < raws.length) (b : i < (relsC (l.take k)).length), RdRel w0 raws[i] (relsC (l.take k))[i]) ∧ Below B w0 wr
theorem relsC_len {l : List Cnd} (h : ∀ c ∈ l, okC c = true) : (relsC l).length ≤ l.length * 6 := by
  rw [rels_cnt]
  induction l with
  | nil => exact Nat.zero_le _
  | cons c l ih =>
    have h1 := (okC_iff.1 (h c (by simp))).2.2
    have h2 := ih (fun d hd => h d (by simp [hd]))
    show cnt c + cntA_ l ≤ _
    rw [List.length_cons]
    omega
set_option maxRecDepth 1000000 in
set_option maxHeartbeats 16000000 in
theorem first_any (l : List Cnd) (v : Value) (h10 : l.length ≤ 10) (hok : ∀ c ∈ l, okC c = true) (p : Nat) (hp : p ≤ 3) (w : World) (hv : RdCs w v l) :
    Calls Tryz.prog 82 #[v, .int .i64 (p : Int)] w fun e w' => e = .returned (.tuple #[.string (ofL ((firstR l p).getD [])), .bool (firstR l p).isSome]) ∧ Below w.heap.size w w' := by
  obtain ⟨iR, hiR, hzR, hkR, hbR⟩ := info_parts Tryz.infoR
  obtain ⟨a, cp, rfl, hc1, hc2⟩ := hv.slice
  have HU := Lib.hid hv
  have HOK := Lib.hid hok
  have HFR : Hid (firstR l p = bestOf (pS l p) (cands (relsC l))) := Lib.hid rfl
  have HCG := Lib.hid (fun s => @cands_good (relsC l) s)
  have HRL : Hid ((relsC l).length ≤ 60) := Lib.hid (by have := relsC_len hok; omega)
  have HRO := Lib.hid (relsC_ok hok)
  obtain ⟨FR, hFR⟩ : ∃ o, firstR l p = o := ⟨_, rfl⟩
  rw [hFR] at HFR ⊢
  clear hv hok hFR
  go_enter Tryz.func82, Tryz.ntmps82
  go_wp2_with fail
  go_loopw [6, 7] (fun v6 v7 wr => ∃ k : Nat, k ≤ l.length ∧ v7 = .int .i64 k ∧ RelsI w w.heap.size l k v6 wr) (fun _ v7 _ => l.length - (intOf v7).toNat)
  case atStart => exact ⟨0, Nat.zero_le _, rfl, [], own1_nil _ _ _, rfl, fun i a b => by simp at a, Below.refl _ _⟩
  case round =>
    rename World => wj
    obtain ⟨k, hk, rfl, raws, ho, hl, hr, hb⟩ := hrel
    have HO2 := Lib.hid ho
    have HL := Lib.hid hl
    have HR := Lib.hid hr
    have HB2 := Lib.hid hb
    clear ho hl hr hb
    by_cases hlt : k < l.length
    · obtain ⟨bk, off, x1, x2, rfl, c0, hcd⟩ := HU.out.at_ k hlt
      have c0 := (HB2.out.cell (p := ⟨bk, off + k, none⟩) (World.block_lt_of_cell? _ _ c0)).trans c0
      have h9 : (k : Int) < (l.length : Int) := by omega
      have HT := Lib.hid (relsC_take hlt)
      have HAL := Lib.hid (all_any l[k] (HOK.out _ (List.getElem_mem hlt)) _ w wj HB2.out hcd)
      have HL6 : Hid ((l[k].flatMap id).length ≤ 6) := Lib.hid (by rw [flat_cnt]; exact (okC_iff.1 (HOK.out _ (List.getElem_mem hlt))).2.2)
      have HL60 : Hid ((relsC (l.take k)).length ≤ 60) := Lib.hid (by
        have := relsC_len (l := l.take k) (fun c hc => HOK.out c (List.mem_of_mem_take hc))
        have := List.length_take_le k l
        omega)
      obtain ⟨m, hm⟩ : ∃ m, l[k] = m := ⟨_, rfl⟩
      rw [hm] at c0 HT HAL HL6
      clear hm hcd
      go_wp2_with fail
      refine HAL.out.mono ?_
      rintro e w2 ⟨⟨v2, rw1, rfl, hr1, hl1, hr2⟩, b2⟩
      have HO3 := Lib.hid (HO2.out.below b2)
      have HR1 := Lib.hid hr1
      have HAP := Lib.hid (rel_app HL.out HR.out hr2)
      have HLN : Hid ((raws ++ rw1).length = (relsC (l.take (k + 1))).length) := Lib.hid (by rw [HT.out, List.length_append, List.length_append, HL.out, hl1])
      have HSM : Hid (raws.length + rw1.length ≤ 66) := Lib.hid (by have e1 := HL.out; have e2 := HL6.out; have e3 := HL60.out; omega)
      have HB3 := Lib.hid (st HB2.out b2 HB2.out.size)
      have HZW : Hid (w.heap.size ≤ w2.heap.size) := Lib.hid HB3.out.size
      clear hr1 hl1 hr2 b2 HO2 HAL
      go_wp2_with (first | (at_builtin; refine wpList_append_rd (w := w2) rfl _ _ 73 rfl w.heap.size iR _ 48 Tryz.underlying73 hiR hzR hkR hbR (by omega) rfl (by omega) encR_len encR_one _ raws rw1 _ rfl HO3.out rfl HR1.out (by have := HSM.out; omega) HZW.out ?_; intro v9 w9 y9 b9; have Y9 := Lib.hid y9; have B9 := Lib.hid b9; clear y9 b9) | fail)
      go_wp2
      go_roundw
      case measure => simp [intOf]; omega
      case rel => exact ⟨k + 1, by omega, by go_num, raws ++ rw1, Y9.out, HLN.out, by rw [HT.out]; exact HAP.out, HB3.out.trans B9.out⟩
    · obtain rfl : k = l.length := by omega
      have h3 : ¬ (l.length : Int) < (l.length : Int) := by omega
      have HL2 := HL.out
      have HR2 := HR.out
      rw [List.take_length] at HL2 HR2
      obtain ⟨rs, hrs⟩ : ∃ rs, relsC l = rs := ⟨_, rfl⟩
      rw [hrs] at HL2 HR2 HFR HCG HRL HRO
      have HRE : Hid (RdRels wj _ rs) := Lib.hid ⟨raws, HO2.out.rd encR_len, HL2, fun i a b => (HR2 i a b).below HB2.out⟩
      obtain ⟨p6, q6, h6⟩ := HO2.out.slice
      subst h6
      rw [HL2] at HRE
      try rw [HL2]
      clear HL2 HR2 hrs HO2 HL HR
      obtain ⟨N1, hN1⟩ : ∃ N, N = 401 := ⟨_, rfl⟩
      obtain ⟨N2, hN2⟩ : ∃ N, N = 7 := ⟨_, rfl⟩
      have HWH := Lib.hid (wholes_any N1 hN1 _ rs HRO.out (by have := HRL.out; omega) wj HRE.out)
      have HCO : Hid (cands rs = (outW rs N1).flatMap fun a => (frs rs N2).map (tx0 a)) := Lib.hid (by rw [hN1, hN2]; exact cands_out rs)
      have HAN : Hid ((outW rs N1).length ≤ 401) := Lib.hid (by rw [hN1]; exact outW_len rs 401)
      have HFN : Hid ((frs rs N2).length ≤ 21000) := Lib.hid (by rw [hN2]; exact frs_len rs 7 (by omega))
      have HN2 := Lib.hid hN2
      obtain ⟨A, hA⟩ : ∃ A, outW rs N1 = A := ⟨_, rfl⟩
      rw [hA] at HWH HCO HAN
      clear hA hN1 hN2
      go_wp2_with fail
      refine HWH.out.mono ?_
      rintro e w4 ⟨⟨v8, rfl, o8⟩, b4⟩
      have HFC := Lib.hid (refFractions_any N2 HN2.out _ rs HRO.out (by have := HRL.out; omega) w4 (HRE.out.below b4))
      have HB4 := Lib.hid (st HB2.out b4 HB2.out.size)
      have HA4 := Lib.hid (o8.rd encT_len)
      obtain ⟨F, hF⟩ : ∃ F, frs rs N2 = F := ⟨_, rfl⟩
      rw [hF] at HFC HCO HFN
      obtain ⟨p8, q8, h8⟩ := o8.slice
      subst h8
      clear o8 b4 hF HWH HRE HB2
      go_wp2_with fail
      refine HFC.out.mono ?_
      rintro e w5 ⟨⟨v9, rfl, o9⟩, b5⟩
      have HB5 := Lib.hid (st HB4.out b5 HB4.out.size)
      have HA5 := Lib.hid (HA4.out.below b5)
      have HF5 := Lib.hid (o9.rd encT_len)
      obtain ⟨p9, q9, h9⟩ := o9.slice
      subst h9
      clear o9 b5 HFC HB4 HA4
      rw [HCO.out] at HFR HCG
      clear HCO
      have HGD : Hid (∀ (i j : Nat) (hi : i < A.length) (hj : j < F.length), isU (tx0 A[i] F[j])) := Lib.hid (fun i j hi hj => HCG.out _ (List.mem_flatMap.2 ⟨_, List.getElem_mem hi, List.mem_map.2 ⟨_, List.getElem_mem hj, rfl⟩⟩))
      obtain ⟨PS, hPS⟩ : ∃ f, pS l p = f := ⟨_, rfl⟩
      rw [hPS] at HFR
      have HPS := Lib.hid hPS
      clear hPS
      have HGB : Hid (∀ (i j : Nat) (b : Str), i < A.length → bestOf PS (candP A F i j) = some b → isU b) := Lib.hid (fun i j b hi hb => HCG.out b (by
        rcases bestOf_mem PS _ none b hb with k | k
        · unfold candP at k
          rcases List.mem_append.1 k with k | k
          · obtain ⟨x, hx, k⟩ := List.mem_flatMap.1 k
            exact List.mem_flatMap.2 ⟨x, List.mem_of_mem_take hx, k⟩
          · obtain ⟨y, hy, k⟩ := List.mem_map.1 k
            rw [List.getD_eq_getElem?_getD, List.getElem?_eq_getElem hi] at k
            exact List.mem_flatMap.2 ⟨_, List.getElem_mem hi, List.mem_map.2 ⟨y, List.mem_of_mem_take hy, k⟩⟩
        · cases k))
      have HLAST : Hid (FR = bestOf PS (candP A F A.length 0)) := Lib.hid (by rw [candP_last]; exact HFR.out)
      have HZ5 : Hid (Below w.heap.size w w5 ∧ w.heap.size ≤ w5.heap.size) := Lib.hid ⟨HB5.out, HB5.out.size⟩
      clear HFR HCG HB5
      go_wp2_with fail
      go_loopw [10, 11, 12] (fun v10 v11 v12 wr => ∃ i : Nat, i ≤ A.length ∧ v12 = .int .i64 i ∧ BestV (bestOf PS (candP A F i 0)) v10 v11 ∧ Below w5.heap.size w5 wr) (fun _ _ v12 _ => A.length - (intOf v12).toNat)
      case atStart => exact ⟨0, Nat.zero_le _, rfl, by rw [candP_zero]; exact ⟨rfl, rfl⟩, Below.refl _ _⟩
      case round =>
        rename World => w6
        obtain ⟨i, hi, rfl, hbv, hb⟩ := hrel
        have HBV := Lib.hid hbv
        have HB6 := Lib.hid hb
        obtain ⟨e10, e11⟩ := hbv
        subst e10 e11
        clear hb
        by_cases hlt : i < A.length
        · have h9 : (i : Int) < (A.length : Int) := by omega
          go_wp2_with fail
          go_loopw [10, 11, 13] (fun v10 v11 v13 wr => ∃ j : Nat, j ≤ F.length ∧ v13 = .int .i64 j ∧ BestV (bestOf PS (candP A F i j)) v10 v11 ∧ Below w5.heap.size w5 wr) (fun _ _ v13 _ => F.length - (intOf v13).toNat)
          case atStart => exact ⟨0, Nat.zero_le _, rfl, HBV.out, HB6.out⟩
          case round =>
            rename World => W0
            obtain ⟨j, hj, rfl, hbv, hb⟩ := hrel
            have HB7 := Lib.hid hb
            clear hb
            by_cases hjt : j < F.length
            · have h9j : (j : Int) < (F.length : Int) := by omega
              have HST := Lib.hid (candP_succ hlt hjt)
              have HGS := Lib.hid (HGD.out i j hlt hjt)
              have HGO := Lib.hid (fun b => HGB.out i j b hlt)
              obtain ⟨bA, oA, rfl, cA⟩ := Rd.str (HA5.out.below HB7.out) i hlt
              obtain ⟨bF, oF, rfl, cF⟩ := Rd.str (HF5.out.below HB7.out) j hjt
              obtain ⟨X, hX⟩ : ∃ X, A[i] = X := ⟨_, rfl⟩
              obtain ⟨Y, hY⟩ : ∃ Y, F[j] = Y := ⟨_, rfl⟩
              rw [hX] at HST HGS cA
              rw [hY] at HST HGS cF
              obtain ⟨S, hS⟩ : ∃ S, tx0 X Y = S := ⟨_, rfl⟩
              rw [hS] at HST HGS
              have HSE := Lib.hid hS
              obtain ⟨o, ho⟩ : ∃ o, bestOf PS (candP A F i j) = o := ⟨_, rfl⟩
              have HOE := Lib.hid ho
              rw [ho] at hbv HGO
              obtain ⟨e10, e11⟩ := hbv
              obtain ⟨bst, hbs⟩ : ∃ b, o.getD [] = b := ⟨_, rfl⟩
              obtain ⟨ok, hok⟩ : ∃ b, o.isSome = b := ⟨_, rfl⟩
              rw [hbs] at e10
              rw [hok] at e11
              subst e10 e11
              have HOS : Hid (ok = true → o = some bst) := Lib.hid (fun e => by
                cases o with
                | none => rw [e] at hok; cases hok
                | some b => rw [← hbs]; rfl)
              have HON : Hid (ok = false → o = none) := Lib.hid (fun e => by
                cases o with
                | none => rfl
                | some b => rw [e] at hok; cases hok)
              have HOB : Hid (o.getD [] = bst ∧ o.isSome = ok) := Lib.hid ⟨hbs, hok⟩
              obtain ⟨yz, hyz⟩ : ∃ b, decide (Y = []) = b := ⟨_, rfl⟩
              have HYZ := Lib.hid hyz
              have z1 : ((ofL Y).toList == ([] : List UInt8)) = yz := by rw [← hyz, ByteArray.toList_eq, ofL_list, Bool.eq_iff_iff, beq_iff_eq, decide_eq_true_eq]
              have z2 : ((ofL Y).toList != ([] : List UInt8)) = !yz := by rw [← z1]; rfl
              have z3 : (ofL Y).toList.isEmpty = yz := by rw [← hyz, ByteArray.toList_eq, ofL_list]; cases Y <;> rfl
              clear hX hY hS ho hbs hok hyz
              go_upto_if 52 with fail
              go_cut [14] from 53 to 59 (fun v14 wx => v14 = .string (ofL S) ∧ wx = W0)
              case first =>
                cases yz
                · have hy : Y ≠ [] := of_decide_eq_false HYZ.out
                  have he : X ++ (46 :: Y) = S := by rw [← HSE.out]; unfold tx0; rw [if_neg hy]
                  have hlen := (isU_len HGS.out).1
                  have hln : X.length + (Y.length + 1) ≤ 22 := by rw [← he, List.length_append, List.length_cons] at hlen; exact hlen
                  obtain ⟨YY, hYY⟩ : ∃ YY, (46 :: Y : Str) = YY := ⟨_, rfl⟩
                  rw [hYY] at he
                  have hyl : YY.length = Y.length + 1 := by rw [← hYY]; rfl
                  have p1 : ∀ wx, (Op.stringOp .add ⟨#[46]⟩ (ofL Y)).run Tryz.prog wx = .ok (.string (ofL YY)) wx := fun wx => str_add (x := [46]) (by simp; omega) hYY wx
                  have p2 : ∀ wx, (Op.stringOp .add (ofL X) (ofL YY)).run Tryz.prog wx = .ok (.string (ofL S)) wx := fun wx => str_add (by omega) he wx
                  clear he hlen hln hYY hyl hy
                  go_wp2_with fail
                  go_meet
                  exact ⟨rfl, rfl⟩
                · have hy : Y = [] := of_decide_eq_true HYZ.out
                  have HE : Hid (X = S) := Lib.hid (by rw [← HSE.out]; unfold tx0; rw [if_pos hy, List.append_nil])
                  clear hy
                  go_wp2_with fail
                  go_meet
                  exact ⟨by rw [HE.out], rfl⟩
              case rest =>
                obtain ⟨rfl, hwc⟩ := hcut
                obtain rfl := hwc.symm
                clear hwc z1 z2 z3 cA cF
                have HSH := Lib.hid (shows_any l _ (by omega) HOK.out S HGS.out p hp W0 (HU.out.below (HZ5.out.1.trans (HB7.out.mono HZ5.out.2))))
                obtain ⟨ps, hps⟩ : ∃ b, PS S = b := ⟨_, rfl⟩
                rw [HPS.out, hps] at HSH
                obtain ⟨bb, hbb⟩ : ∃ b, bbS ps o S = b := ⟨_, rfl⟩
                have HBB := Lib.hid hbb
                have HSN : Hid (bestOf PS (candP A F i (j + 1)) = if bb = true then some S else o) := Lib.hid (by rw [HST.out, bestOf_snoc, HOE.out, stepB_bb, hps, hbb])
                clear hps hbb
                go_upto_region 17 with fail
                go_cut [72] from 60 to 72 (fun v72 wx => v72 = .bool bb ∧ Below W0.heap.size W0 wx)
                case first =>
                  go_wp2_with fail
                  refine HSH.out.mono ?_
                  rintro e w7 ⟨rfl, b7⟩
                  have HB8 := Lib.hid b7
                  clear b7 HSH
                  cases ps
                  · have HE : Hid (bb = false) := Lib.hid (by rw [← HBB.out]; rfl)
                    go_wp2_with fail
                    go_meet
                    exact ⟨by rw [HE.out], HB8.out⟩
                  · cases ok
                    · have HE : Hid (bb = true) := Lib.hid (by rw [← HBB.out, HON.out rfl]; rfl)
                      go_wp2_with fail
                      go_meet
                      exact ⟨by rw [HE.out], HB8.out⟩
                    · have HE : Hid (bb = befB S bst) := Lib.hid (by rw [← HBB.out, HOS.out rfl]; rfl)
                      have hub := HGO.out bst (HOS.out rfl)
                      have HBF := Lib.hid (beforeR_any (ofL S) (ofL bst) (isU_dp HGS.out) (isU_dp hub) (by rw [ofL_size]; have := (isU_len HGS.out).1; omega) (by rw [ofL_size]; have := (isU_len hub).1; omega) w7)
                      rw [show (ofL S).data.toList = S from rfl, show (ofL bst).data.toList = bst from rfl, ← HE.out] at HBF
                      clear hub
                      go_wp2_with fail
                      refine HBF.out.mono ?_
                      rintro e w8 ⟨rfl, b8⟩
                      have HB9 := Lib.hid (st HB8.out b8 HB8.out.size)
                      clear b8 HBF
                      go_wp2_with fail
                      go_meet
                      exact ⟨rfl, HB9.out⟩
                case rest =>
                  obtain ⟨rfl, hbx⟩ := hcut
                  rename World => w9
                  have HB9 := Lib.hid (st HB7.out hbx HB7.out.size)
                  clear hbx HSH
                  have han := HAN.out
                  have hfn := HFN.out
                  cases bb
                  · have HN : Hid (BestV (bestOf PS (candP A F i (j + 1))) (.string (ofL bst)) (.bool ok)) := Lib.hid (by rw [HSN.out, if_neg (by decide)]; exact ⟨by rw [HOB.out.1], by rw [HOB.out.2]⟩)
                    go_wp2
                    go_roundw
                    case measure => simp [intOf]; omega
                    case rel => exact ⟨j + 1, by omega, by go_num, HN.out, HB9.out⟩
                  · have HN : Hid (BestV (bestOf PS (candP A F i (j + 1))) (.string (ofL S)) (.bool true)) := Lib.hid (by rw [HSN.out, if_pos rfl]; exact ⟨rfl, rfl⟩)
                    go_wp2
                    go_roundw
                    case measure => simp [intOf]; omega
                    case rel => exact ⟨j + 1, by omega, by go_num, HN.out, HB9.out⟩
            · have h9j : ¬ (j : Int) < (F.length : Int) := by omega
              have HCE : Hid (candP A F i j = candP A F (i + 1) 0) := Lib.hid (by rw [show j = F.length by omega]; exact candP_end hlt)
              rw [HCE.out] at hbv
              have HBE := Lib.hid hbv
              obtain ⟨e10, e11⟩ := hbv
              subst e10 e11
              have han := HAN.out
              have hfn := HFN.out
              go_wp2
              go_roundw
              case measure => simp [intOf]; omega
              case rel => exact ⟨i + 1, by omega, by go_num, HBE.out, HB7.out⟩
        · have h9 : ¬ (i : Int) < (A.length : Int) := by omega
          have HE : Hid (bestOf PS (candP A F i 0) = FR) := Lib.hid (by rw [HLAST.out, show i = A.length by omega])
          go_wp2
          go_ret2
          exact ⟨by rw [HE.out]; rfl, HZ5.out.1.trans (HB6.out.mono HZ5.out.2)⟩
end Go.Proofs.YtmnclnpbmgomgaaGreatDoor


/- Of the reference of layer 10: Satisfiable, Total, Equivalent, Disjoint. -/
namespace Go.Proofs.YtmnclnpbmgomgaaGreatDoor
open Go.RowKit
set_option linter.unusedVariables false

def validB (cs : List Cnd) : Bool := cs.all (fun c => okC c) && decide (cs.length ≤ 10)
theorem validB_iff {cs : List Cnd} : validB cs = true ↔ (∀ c ∈ cs, okC c = true) ∧ cs.length ≤ 10 := by
  unfold validB
  rw [Bool.and_eq_true, List.all_eq_true, decide_eq_true_eq]
theorem valB_any (l : List Cnd) (v : Value) (hl : ∀ c ∈ l, cnt c ≤ 4611686018427387904) (w : World) (hv : RdCs w v l) :
    Calls Tryz.prog 81 #[v] w fun e w' => e = .returned (.bool (validB l)) ∧ Below w.heap.size w w' := by
  refine (valid10_any l v hl w hv).mono ?_
  rintro e w' ⟨⟨b, rfl, hb⟩, hw⟩
  have : b = validB l := by rw [Bool.eq_iff_iff, hb, validB_iff]
  exact ⟨by rw [this], hw⟩
/-- What the reference finds: with neg, the answer is turned. -/
def findR (cs : List Cnd) (k : Nat) (neg : Bool) : Str × Bool × Nat := if validB cs = true then ((firstR cs k).getD [], (firstR cs k).isSome != neg, 0) else ([], false, 1)
def FindP (cs : List Cnd) (k : Nat) (neg : Bool) (w : World) (e : Ending) (w' : World) : Prop := e = .returned (.tuple #[.string (ofL (findR cs k neg).1), .bool (findR cs k neg).2.1, .int .i64 ((findR cs k neg).2.2 : Nat)]) ∧ Below w.heap.size w w'
theorem findR_ok {cs : List Cnd} {k : Nat} {neg : Bool} (h : validB cs = true) : findR cs k neg = ((firstR cs k).getD [], (firstR cs k).isSome != neg, 0) := by unfold findR; rw [if_pos h]
theorem findR_bad {cs : List Cnd} {k : Nat} {neg : Bool} (h : validB cs = false) : findR cs k neg = ([], false, 1) := by unfold findR; rw [if_neg (by rw [h]; decide)]

/-! ### Satisfiable -/
set_option maxRecDepth 1000000 in
set_option maxHeartbeats 8000000 in
theorem refSat_any (a : Cnd) (u : Value) (hcn : cnt a ≤ 4611686018427387904) (w : World) (hu : RdC w u a) :
    Calls Tryz.prog 51 #[u] w (FindP [a] 0 false w) := by
  obtain ⟨x1, n1, rfl, _⟩ := hu.slice
  have HRD := Lib.hid (rdCs_one hu 39)
  have HW := Lib.hid (below_al w (.cells #[.slice x1 a.length n1] 39))
  have HVA := Lib.hid (valB_any [a] _ (fun c hc => by rw [List.mem_singleton.1 hc]; exact hcn) _ HRD.out)
  have HOK := Lib.hid (@validB_iff [a])
  have HYES := Lib.hid (@findR_ok [a] 0 false)
  have HNO := Lib.hid (@findR_bad [a] 0 false)
  have HU := Lib.hid hu
  obtain ⟨b, hb⟩ : ∃ b, validB [a] = b := ⟨_, rfl⟩
  rw [hb] at HVA HOK HYES HNO
  unfold FindP
  obtain ⟨R, hR⟩ : ∃ R, findR [a] 0 false = R := ⟨_, rfl⟩
  rw [hR] at HYES HNO ⊢
  clear hb hcn hu hR
  go_enter Tryz.func51, Tryz.ntmps51
  go_wp2_with fail
  refine HVA.out.mono ?_
  rintro e w2 ⟨rfl, b2⟩
  have HB2 := Lib.hid (st HW.out b2 HW.out.size)
  clear b2 HVA HW HRD
  cases b
  · have HE := Lib.hid (HNO.out rfl)
    clear HYES HNO HOK
    go_wp2
    go_ret3
    exact ⟨by rw [HE.out]; rfl, HB2.out⟩
  · have HE := Lib.hid (HYES.out rfl)
    have hok := (HOK.out.1 rfl).1
    have HU2 := Lib.hid (HU.out.below HB2.out)
    have HRD := Lib.hid (rdCs_one HU2.out 39)
    have HFI := Lib.hid (first_any [a] _ (by simp) hok 0 (by omega) _ HRD.out)
    have HW := Lib.hid (st HB2.out (below_al w2 (.cells #[.slice x1 a.length n1] 39)) HB2.out.size)
    clear HYES HNO HOK hok
    obtain ⟨F, hF⟩ : ∃ F, firstR [a] 0 = F := ⟨_, rfl⟩
    rw [hF] at HFI HE
    rw [show ((0 : Nat) : Int) = 0 from rfl] at HFI
    clear hF
    go_wp2_with fail
    refine HFI.out.mono ?_
    rintro e w3 ⟨rfl, b3⟩
    have HB3 := Lib.hid (st HW.out b3 HW.out.size)
    clear b3 HFI
    go_wp2
    go_ret3
    exact ⟨by rw [HE.out]; simp, HB3.out⟩

/-! ### Total -/
set_option maxRecDepth 1000000 in
set_option maxHeartbeats 8000000 in
theorem refTotal_any (cs : List Cnd) (u : Value) (hcn : ∀ c ∈ cs, cnt c ≤ 4611686018427387904) (w : World) (hu : RdCs w u cs) :
    Calls Tryz.prog 50 #[u] w (FindP cs 1 true w) := by
  have HVA := Lib.hid (valB_any cs _ hcn w hu)
  have HOK := Lib.hid (@validB_iff cs)
  have HYES := Lib.hid (@findR_ok cs 1 true)
  have HNO := Lib.hid (@findR_bad cs 1 true)
  have HU := Lib.hid hu
  obtain ⟨b, hb⟩ : ∃ b, validB cs = b := ⟨_, rfl⟩
  rw [hb] at HVA HOK HYES HNO
  unfold FindP
  obtain ⟨R, hR⟩ : ∃ R, findR cs 1 true = R := ⟨_, rfl⟩
  rw [hR] at HYES HNO ⊢
  clear hb hcn hu hR
  go_enter Tryz.func50, Tryz.ntmps50
  go_wp2_with fail
  refine HVA.out.mono ?_
  rintro e w2 ⟨rfl, b2⟩
  have HB2 := Lib.hid b2
  clear b2 HVA
  cases b
  · have HE := Lib.hid (HNO.out rfl)
    clear HYES HNO HOK
    go_wp2
    go_ret3
    exact ⟨by rw [HE.out]; rfl, HB2.out⟩
  · have HE := Lib.hid (HYES.out rfl)
    have hok := HOK.out.1 rfl
    have HFI := Lib.hid (first_any cs _ hok.2 hok.1 1 (by omega) w2 (HU.out.below HB2.out))
    clear HYES HNO HOK hok
    obtain ⟨F, hF⟩ : ∃ F, firstR cs 1 = F := ⟨_, rfl⟩
    rw [hF] at HFI HE
    rw [show ((1 : Nat) : Int) = 1 from rfl] at HFI
    clear hF
    go_wp2_with fail
    refine HFI.out.mono ?_
    rintro e w3 ⟨rfl, b3⟩
    have HB3 := Lib.hid (st HB2.out b3 HB2.out.size)
    clear b3 HFI
    go_wp2
    go_ret3
    exact ⟨by rw [HE.out]; simp, HB3.out⟩

/-! ### Equivalent -/
end Go.Proofs.YtmnclnpbmgomgaaGreatDoor


/- Of the reference of layer 10: Disjoint. -/
namespace Go.Proofs.YtmnclnpbmgomgaaGreatDoor
open Go.RowKit
set_option linter.unusedVariables false

theorem disP_isSome {cs : List Cnd} {i j : Nat} (hi : i < cs.length) (hj : j < cs.length) : disP cs i j = firstR [cs[i], cs[j]] 2 := by
  unfold disP
  rw [List.getD_eq_getElem?_getD, List.getD_eq_getElem?_getD, List.getElem?_eq_getElem hi, List.getElem?_eq_getElem hj]
  rfl
def DisRP (cs : List Cnd) (q : Bool) (w : World) (e : Ending) (w' : World) : Prop := ∃ i j W er, e = .returned (.tuple #[.int .i64 (i : Nat), .int .i64 (j : Nat), .string (ofL W), .int .i64 (er : Nat)]) ∧ (if q = true then DisA cs (i, j, W, er) else (i, j, W, er) = (0, 0, [], 1)) ∧ Below w.heap.size w w'
set_option maxRecDepth 1000000 in
set_option maxHeartbeats 16000000 in
theorem refDis_any (rs : List (Str × Cnd)) (v : Value) (h12 : rs.length ≤ 100) (hcn : ∀ c ∈ rs.map Prod.snd, cnt c ≤ 4611686018427387904) (w : World) (hv : RdRules w v rs) :
    Calls Tryz.prog 49 #[v] w (DisRP (rs.map Prod.snd) (validB (rs.map Prod.snd)) w) := by
  obtain ⟨iC, hiC, hzC, hkC, hbC⟩ := info_parts Tryz.infoCo
  obtain ⟨ac, cc, rfl, hc1, hc2⟩ := hv.slice
  have HV := Lib.hid hv
  have HCN := Lib.hid hcn
  have HLC : Hid ((rs.map Prod.snd).length = rs.length) := Lib.hid (List.length_map _)
  obtain ⟨cs, hcs⟩ : ∃ cs, rs.map Prod.snd = cs := ⟨_, rfl⟩
  have HCS := Lib.hid hcs
  rw [hcs] at HCN HLC ⊢
  have HOK := Lib.hid (@validB_iff cs)
  obtain ⟨q, hq⟩ : ∃ q, validB cs = q := ⟨_, rfl⟩
  have HVQ := Lib.hid hq
  rw [hq] at HOK ⊢
  clear hq
  have HN0 : Hid (GatC w rs 0 (.slice none 0 0) w) := Lib.hid ⟨⟨[], own1_nil _ _ _, rfl, fun i h _ => by simp at h⟩, Below.refl _ _⟩
  clear hv hcn hcs
  go_enter Tryz.func49, Tryz.ntmps49
  go_wp2
  go_loopw [6, 7] (fun v6 v7 wr => ∃ k : Nat, k ≤ rs.length ∧ v7 = .int .i64 k ∧ GatC w rs k v6 wr) (fun _ v7 _ => rs.length - (intOf v7).toNat)
  case atStart => exact ⟨0, Nat.zero_le _, rfl, HN0.out⟩
  case round =>
    rename World => wr
    obtain ⟨k, hk, rfl, hg⟩ := hrel
    have HG := Lib.hid hg
    clear hg HN0
    by_cases hlt : k < rs.length
    · obtain ⟨bk, off, s, x1, x2, rfl, hlb, h0, h1, hcd⟩ := HV.out.at_ k hlt
      have h1 := (HG.out.bw.cell (p := ⟨bk, off + k * 2 + 1, none⟩) hlb).trans h1
      have h9 : (k : Int) < (rs.length : Int) := by omega
      obtain ⟨n, hn⟩ : ∃ n, rs[k].2.length = n := ⟨_, rfl⟩
      rw [hn] at h1 hcd
      have HCD := Lib.hid hcd
      obtain ⟨raws, ho, hl, hr⟩ := HG.out.ex
      obtain ⟨p6, c6, rfl⟩ := ho.slice
      have HO := Lib.hid ho
      have HB := Lib.hid HG.out.bw
      have HL := Lib.hid hl
      have HR := Lib.hid hr
      have HZW : Hid (w.heap.size ≤ wr.heap.size) := Lib.hid HB.out.size
      clear ho hl hr hcd hn hlb h0
      go_wp2_with (first | (at_builtin; refine wpList_append_lie (w0 := wr) (x := (⟨x1, n, x2⟩ : RawS)) (N := wr.heap.size) rfl rfl _ _ 46 rfl w.heap.size iC _ 24 Tryz.underlying46 hiC hzC hkC hbC (by omega) rfl (by omega) encS_len encS_one _ raws rfl rfl HO.out rfl (by have := HL.out; omega) HZW.out ?_; intro v9 w9 y9; obtain ⟨p8, q8, e8⟩ := y9.1.slice; subst e8; have Y9 := Lib.hid y9; clear y9) | fail)
      have HGN : Hid (GatC w rs (k + 1) (.slice p8 (raws ++ [(⟨x1, n, x2⟩ : RawS)]).length q8) w9) := Lib.hid ⟨⟨_, Y9.out.1, by rw [List.length_append, HL.out]; rfl, fun i a b => by
        rw [List.length_append] at a
        by_cases hi : i < raws.length
        · rw [List.getElem_append_left hi]
          exact HR.out i hi b
        · have hk' : i = raws.length := by simp at a; omega
          subst hk'
          rw [List.getElem_append_right (Nat.le_refl _)]
          have e2 : rs[raws.length].2 = rs[k].2 := by simp only [HL.out]
          rw [e2]
          simpa using HCD.out⟩, HB.out.trans Y9.out.2.1⟩
      go_wp2
      go_roundw
      case measure => simp [intOf]; omega
      case rel => exact ⟨k + 1, by omega, by go_num, by first | exact HGN.out | (have := HGN.out; simpa using this)⟩
    · obtain rfl : k = rs.length := by omega
      have h3 : ¬ (rs.length : Int) < (rs.length : Int) := by omega
      have hrd := HG.out.rd
      rw [HCS.out] at hrd
      obtain ⟨p6, c6, rfl, _, _⟩ := hrd.slice
      have HRD := Lib.hid hrd
      have HB1 := Lib.hid HG.out.bw
      have HVA := Lib.hid (valB_any cs _ HCN.out wr HRD.out)
      have hlen : cs.length ≤ 100 := by have := HLC.out; omega
      rw [HVQ.out] at HVA
      clear hrd HG HV HVQ
      go_wp2_with fail
      refine HVA.out.mono ?_
      rintro e w2 ⟨rfl, b2⟩
      have H2 := Lib.hid (st HB1.out b2 HB1.out.size)
      have HRD2 := Lib.hid (HRD.out.below b2)
      clear b2 HVA HRD HB1
      cases q
      · go_wp2
        (try simp only [Exit.inBlock, Exit.then])
        refine bodyPost_ret (results_tmp4 rfl _ _ _) rfl ?_
        exact ⟨0, 0, [], 1, rfl, by rw [if_neg (by decide)], H2.out⟩
      · have HOKA : Hid (∀ c ∈ cs, okC c = true) := Lib.hid (HOK.out.1 rfl).1
        clear HOK
        go_wp2_with fail
        go_loopw [8] (fun v8 wx => ∃ i : Nat, i ≤ cs.length ∧ v8 = .int .i64 i ∧ NoneB cs i 0 ∧ Below w2.heap.size w2 wx) (fun v8 _ => cs.length - (intOf v8).toNat)
        case atStart => exact ⟨0, Nat.zero_le _, rfl, none_zero cs, Below.refl _ _⟩
        case round =>
          rename World => wi
          obtain ⟨i, hi, rfl, hno, hbi⟩ := hrel
          have HNO := Lib.hid hno
          have HBI := Lib.hid hbi
          clear hno hbi
          by_cases hlt : i < cs.length
          · have h9 : (i : Int) < (cs.length : Int) := by omega
            have HN1 := Lib.hid (none_first HNO.out)
            go_wp2_with fail
            go_loopw [9] (fun v9 wx => ∃ j : Nat, i < j ∧ j ≤ cs.length ∧ v9 = .int .i64 j ∧ NoneB cs i j ∧ Below w2.heap.size w2 wx) (fun v9 _ => cs.length - (intOf v9).toNat)
            case atStart => exact ⟨i + 1, by omega, by omega, by go_num, HN1.out, HBI.out⟩
            case round =>
              rename World => wj
              obtain ⟨j, hij, hj, rfl, hno, hbj⟩ := hrel
              have HNJ := Lib.hid hno
              have HBJ := Lib.hid hbj
              clear hno hbj
              by_cases hlj : j < cs.length
              · have h8 : (j : Int) < (cs.length : Int) := by omega
                have HRJ := Lib.hid (HRD2.out.below HBJ.out)
                obtain ⟨bC, oC, x1, x2, rfl, ci, hci⟩ := HRJ.out.at_ i hlt
                obtain ⟨bC', oC', y1, y2, hpe, cj, hcj⟩ := HRJ.out.at_ j hlj
                injection hpe with hpe
                injection hpe with hpe1 hpe2
                subst hpe1 hpe2
                have HRD := Lib.hid (rdCs_two hci hcj 39)
                have HFI := Lib.hid (first_any [cs[i], cs[j]] _ (by simp) (fun c hc => by
                  rcases List.mem_cons.1 hc with rfl | hc
                  · exact HOKA.out _ (List.getElem_mem hlt)
                  · rw [List.mem_singleton.1 hc]; exact HOKA.out _ (List.getElem_mem hlj)) 2 (by omega) _ (HRD.out.below (Below.refl _ _).drew))
                rw [← disP_isSome hlt hlj, show ((2 : Nat) : Int) = 2 from rfl] at HFI
                obtain ⟨n1, hn1⟩ : ∃ n, cs[i].length = n := ⟨_, rfl⟩
                obtain ⟨n2, hn2⟩ : ∃ n, cs[j].length = n := ⟨_, rfl⟩
                rw [hn1] at ci HFI
                rw [hn2] at cj HFI
                obtain ⟨D, hD⟩ : ∃ D, disP cs i j = D := ⟨_, rfl⟩
                rw [hD] at HFI
                have HD := Lib.hid hD
                have HSZ := Lib.hid (show Below wj.heap.size wj (wj.alloc (.cells #[.slice x1 n1 x2, .slice y1 n2 y2] 39)).drew from (below_al _ _).drew)
                have HKP : Hid (∀ wx, Below wj.heap.size wj wx → wx.cell? ⟨bC, oC + i, none⟩ = some (.slice x1 n1 x2) ∧ wx.cell? ⟨bC, oC + j, none⟩ = some (.slice y1 n2 y2)) := Lib.hid (fun wx hb => ⟨(hb.cell (p := ⟨bC, oC + i, none⟩) (World.block_lt_of_cell? _ _ ci)).trans ci, (hb.cell (p := ⟨bC, oC + j, none⟩) (World.block_lt_of_cell? _ _ cj)).trans cj⟩)
                clear hD hn1 hn2 hci hcj HRD
                have HBW : Hid (∀ w7, Below wj.heap.size wj w7 → Below w2.heap.size w2 w7) := Lib.hid (fun w7 hb => st HBJ.out hb HBJ.out.size)
                have HBE : Hid (∀ w7, Below w2.heap.size w2 w7 → Below w.heap.size w w7) := Lib.hid (fun w7 hb => st H2.out hb H2.out.size)
                cases D with
                | none =>
                  have HNN := Lib.hid (none_next HNJ.out HD.out)
                  go_upto_region 14 with fail
                  go_region_held3 (fun wx => wx.cell? ⟨bC, oC + i, none⟩ = some (.slice x1 n1 x2) ∧ wx.cell? ⟨bC, oC + j, none⟩ = some (.slice y1 n2 y2)) (first | exact ⟨ci, cj⟩ | exact HKP.out _ HSZ.out | exact HKP.out _ HB7.out) ((go_at_call 82; refine (HFI.out).mono ?_; rintro e w7 ⟨rfl, b7⟩; have HB7 := Lib.hid (HSZ.out.trans (b7.mono HSZ.out.size)); clear b7))
                  all_goals (
                    go_wp2_with fail
                    go_roundw
                    case measure => simp [intOf]; omega
                    case rel => exact ⟨j + 1, by omega, by omega, by go_num, HNN.out, HBW.out _ HB7.out⟩)
                | some A =>
                  go_upto_region 14 with fail
                  go_region_held3 (fun wx => wx.cell? ⟨bC, oC + i, none⟩ = some (.slice x1 n1 x2) ∧ wx.cell? ⟨bC, oC + j, none⟩ = some (.slice y1 n2 y2)) (first | exact ⟨ci, cj⟩ | exact HKP.out _ HSZ.out | exact HKP.out _ HB7.out) ((go_at_call 82; refine (HFI.out).mono ?_; rintro e w7 ⟨rfl, b7⟩; have HB7 := Lib.hid (HSZ.out.trans (b7.mono HSZ.out.size)); clear b7))
                  all_goals (
                    go_wp2
                    (try simp only [Exit.inBlock, Exit.then])
                    refine bodyPost_ret (results_tmp4 rfl _ _ _) rfl ?_
                    exact ⟨i, j, A, 19, rfl, by rw [if_pos rfl]; exact .inl ⟨i, j, A, hij, hlj, HD.out, HNJ.out, rfl⟩, HBE.out _ (HBW.out _ HB7.out)⟩)
              · obtain rfl : j = cs.length := by omega
                have h7 : ¬ (cs.length : Int) < (cs.length : Int) := by omega
                have HNR := Lib.hid (none_row HNJ.out (Nat.le_refl _))
                go_wp2_with fail
                go_roundw
                case measure => simp [intOf]; omega
                case rel => exact ⟨i + 1, by omega, by go_num, HNR.out, HBJ.out⟩
          · obtain rfl : i = cs.length := by omega
            have h7 : ¬ (cs.length : Int) < (cs.length : Int) := by omega
            have HNA := Lib.hid (none_all HNO.out (Nat.le_refl _))
            have HBE := Lib.hid (st H2.out HBI.out H2.out.size)
            go_wp2
            (try simp only [Exit.inBlock, Exit.then])
            refine bodyPost_ret (results_tmp4 rfl _ _ _) rfl ?_
            exact ⟨0, 0, [], 0, rfl, by rw [if_pos rfl]; exact .inr ⟨HNA.out, rfl⟩, HBE.out⟩
end Go.Proofs.YtmnclnpbmgomgaaGreatDoor


/- What no two rules, or two rules of a list, hold for: plain. -/
namespace Go.Proofs.YtmnclnpbmgomgaaGreatDoor
open Go.RowKit Go.Maps
set_option linter.unusedVariables false

theorem two_of {α : Type} (p : α → Bool) : ∀ l : List α, 2 ≤ (l.filter p).length → ∃ (i j : Nat) (hi : i < l.length) (hj : j < l.length), i < j ∧ p l[i] = true ∧ p l[j] = true
  | [], h => by simp at h
  | x :: l, h => by
    rw [List.filter_cons] at h
    by_cases hx : p x = true
    · rw [if_pos hx, List.length_cons] at h
      have h1 : 0 < (l.filter p).length := by omega
      obtain ⟨y, hy⟩ := List.exists_mem_of_length_pos h1
      obtain ⟨hy1, hy2⟩ := List.mem_filter.1 hy
      obtain ⟨k, hk, rfl⟩ := List.getElem_of_mem hy1
      exact ⟨0, k + 1, by simp, by simp; exact hk, by omega, hx, hy2⟩
    · rw [if_neg hx] at h
      obtain ⟨i, j, hi, hj, h1, h2, h3⟩ := two_of p l h
      exact ⟨i + 1, j + 1, by simp; exact hi, by simp; exact hj, by omega, h2, h3⟩
theorem dis_none {cs : List Cnd} (hok : ∀ c ∈ cs, okC c = true) (h : ∀ i j, i < j → j < cs.length → disP cs i j = none) : ∀ t, isU t → cntH cs t ≤ 1 := fun t ht => by
  rcases Nat.lt_or_ge 1 (cntH cs t) with h2 | h2
  · exfalso
    obtain ⟨i, j, hi, hj, hij, h3, h4⟩ := two_of (fun c => hldC t c) cs h2
    have h5 := h i j hij hj
    rw [disP_isSome hi hj] at h5
    have h6 := firstR_none (l := [cs[i], cs[j]]) (fun c hc => by
      rcases List.mem_cons.1 hc with rfl | hc
      · exact hok _ (List.getElem_mem hi)
      · rw [List.mem_singleton.1 hc]; exact hok _ (List.getElem_mem hj)) h5 t ht
    have e : pS [cs[i], cs[j]] 2 t = true := by
      unfold pS cntH
      rw [List.filter_cons, if_pos h3, List.filter_cons, if_pos h4]
      rfl
    rw [e] at h6
    cases h6
  · exact h2
theorem dis_some {cs : List Cnd} (hok : ∀ c ∈ cs, okC c = true) {i j : Nat} (hij : i < j) (hj : j < cs.length) {W : Str} (h : disP cs i j = some W) : isU W ∧ cntH [cs[i]'(by omega), cs[j]] W = 2 := by
  have hi : i < cs.length := by omega
  rw [disP_isSome hi hj] at h
  obtain ⟨h1, h2, h3⟩ := firstR_some (l := [cs[i], cs[j]]) (fun c hc => by
      rcases List.mem_cons.1 hc with rfl | hc
      · exact hok _ (List.getElem_mem hi)
      · rw [List.mem_singleton.1 hc]; exact hok _ (List.getElem_mem hj)) h
  exact ⟨h1, of_decide_eq_true h2⟩
end Go.Proofs.YtmnclnpbmgomgaaGreatDoor


/- Of the reference of layer 14: Order; rules that overlap; examples, plain. -/
namespace Go.Proofs.YtmnclnpbmgomgaaGreatDoor
open Go.RowKit
set_option linter.unusedVariables false

theorem nodup_le {α : Type} [DecidableEq α] : ∀ {l m : List α}, l.Nodup → (∀ x ∈ l, x ∈ m) → l.length ≤ m.length
  | [], _, _, _ => Nat.zero_le _
  | x :: l, m, hn, hs => by
    rw [List.nodup_cons] at hn
    have hx := hs x (by simp)
    have ih := nodup_le (l := l) (m := m.erase x) hn.2 (fun y hy => (List.mem_erase_of_ne (fun e => hn.1 (by rw [← e]; exact hy))).2 (hs y (by simp [hy])))
    rw [List.length_erase_of_mem hx] at ih
    have := List.length_pos_of_mem hx
    rw [List.length_cons]
    omega
theorem VR.len {l : Rus} (h : VR l) : l.length ≤ 5 := by
  have := nodup_le (m := clsN) h.2 (fun x hx => by
    obtain ⟨r, hr, rfl⟩ := List.mem_map.1 hx
    exact (h.1 r hr).1)
  rw [List.length_map] at this
  exact this
theorem VR.validB {l : Rus} (h : VR l) : validB (l.map Prod.snd) = true := validB_iff.2 ⟨h.ok, by rw [List.length_map]; have := h.len; omega⟩
theorem VR.valid1 {l : Rus} (h : VR l) (i : Nat) (hi : i < l.length) : Go.Proofs.YtmnclnpbmgomgaaGreatDoor.validB [(l[i]'hi).2] = true := validB_iff.2 ⟨fun c hc => by rw [List.mem_singleton.1 hc]; exact (h.1 _ (List.getElem_mem hi)).2, by simp⟩
theorem both_of {x y : Cnd} {s : Str} (h : cntH [x, y] s = 2) : hldC s x = true ∧ hldC s y = true := by
  unfold cntH at h
  cases a : hldC s x <;> cases b : hldC s y <;> simp [List.filter_cons, a, b] at h
  exact ⟨rfl, rfl⟩
theorem ov_of {l : Rus} (h : VR l) {i j : Nat} {W : Str} {er : Nat} (hd : DisA (l.map Prod.snd) (i, j, W, er)) : (er = 19 ∧ Ov l) ∨ (er = 0 ∧ ¬ Ov l) := by
  rcases hd with ⟨i', j', W', h1, h2, h3, _, e⟩ | ⟨h1, e⟩
  · injection e with _ e; injection e with _ e; injection e with _ e
    refine .inl ⟨e, W', ?_⟩
    obtain ⟨g1, g2⟩ := dis_some h.ok h1 h2 h3
    refine ⟨g1, ?_⟩
    have hb := both_of g2
    exact cnt_two (by omega) h2 h1 hb.1 hb.2
  · injection e with _ e; injection e with _ e; injection e with _ e
    refine .inr ⟨e, fun ⟨t, ht, h2⟩ => ?_⟩
    have := dis_none h.ok h1 t ht
    omega
theorem exR_bad {l : Rus} {c : Str} (h : ¬ VR l) : exR l c = ([], 1) := if_pos h
theorem exR_unk {l : Rus} {c : Str} (h : VR l) (hc : c ∉ ordN) : exR l c = ([], 10) := by
  unfold exR
  rw [if_neg (fun k => k h), if_pos hc]
theorem exR_ov {l : Rus} {c : Str} (h : VR l) (hc : c ∈ ordN) (ho : Ov l) : exR l c = ([], 19) := by
  unfold exR
  rw [if_neg (fun k => k h), if_neg (fun k => k hc), if_pos ho]
theorem exR_some {l : Rus} {c s : Str} (h : VR l) (hc : c ∈ ordN) (ho : ¬ Ov l) (hs : exF l c = some s) : exR l c = (s, 0) := by rw [exR_ok h ho hc, hs]
theorem exR_none {l : Rus} {c : Str} (h : VR l) (hc : c ∈ ordN) (ho : ¬ Ov l) (hs : exF l c = none) : exR l c = ([], 8) := by rw [exR_ok h ho hc, hs]
theorem exF_oth (l : Rus) : exF l othN = firstR (l.map Prod.snd) 1 := if_pos rfl
theorem ex_hit {l : Rus} (hv : VR l) {c b : Str} (hc : c ≠ othN) {k : Nat} (hk : k < l.length) (e : (l[k]'hk).1 = c) (h : firstR [(l[k]'hk).2] 0 = some b) : exF l c = some b := by
  unfold exF
  rw [if_neg hc]
  cases hf : l.find? (fun r => decide (r.1 = c)) with
  | none => exact absurd e (by simpa using List.find?_eq_none.1 hf _ (List.getElem_mem hk))
  | some r =>
    have hrc : r.1 = c := by simpa using List.find?_some hf
    rw [hv.inj (List.mem_of_find?_eq_some hf) (List.getElem_mem hk) (hrc.trans e.symm)]
    exact h
theorem ex_end {l : Rus} {c : Str} (hc : c ≠ othN) (h : ∀ i (hi : i < l.length), (l[i]'hi).1 = c → firstR [(l[i]'hi).2] 0 = none) : exF l c = none := by
  unfold exF
  rw [if_neg hc]
  cases hf : l.find? (fun r => decide (r.1 = c)) with
  | none => rfl
  | some r =>
    have hrc : r.1 = c := by simpa using List.find?_some hf
    obtain ⟨i, hi, rfl⟩ := List.mem_iff_getElem.1 (List.mem_of_find?_eq_some hf)
    exact h i hi hrc
/-! ### Order -/
theorem classes12_own (w : World) : Calls Tryz.prog 40 #[] w fun e w' => ∃ v, e = .returned v ∧ Own1 1 encT w' w.heap.size 9 v clsN ∧ Below w.heap.size w w' := by
  go_enter Tryz.func40, Tryz.ntmps40
  have B0 := Lib.hid ((Below.refl w.heap.size w).alloc (Nat.le_refl _) (.cells #[.string ⟨#[122, 101, 114, 111]⟩, .string ⟨#[111, 110, 101]⟩, .string ⟨#[116, 119, 111]⟩, .string ⟨#[102, 101, 119]⟩, .string ⟨#[109, 97, 110, 121]⟩] 9))
  go_wp2
  go_ret
  refine ⟨_, rfl, ?_, B0.out⟩
  exact ⟨by rfl, .inr ⟨w.heap.size, 5, #[.string (ofL [122, 101, 114, 111]), .string (ofL [111, 110, 101]), .string (ofL [116, 119, 111]), .string (ofL [102, 101, 119]), .string (ofL [109, 97, 110, 121])], rfl, Nat.le_refl _, heap_alloc_new w _, Nat.le_refl _, by decide, rfl, rfl⟩⟩
set_option maxRecDepth 1000000 in
set_option maxHeartbeats 4000000 in
theorem order14_any (w : World) : Calls Tryz.prog 45 #[] w fun e w' => ∃ v, e = .returned v ∧ Rd 1 encT w' v ordN ∧ Below w.heap.size w w' := by
  obtain ⟨iT, hiT, hzT, hkT, hbT⟩ := info_parts Tryz.infoT
  go_enter Tryz.func45, Tryz.ntmps45
  go_wp2_with fail
  refine (classes12_own _).mono ?_
  rintro e w1 ⟨v1, rfl, o1, b1⟩
  obtain ⟨a1, c1, rfl⟩ := o1.slice
  have O1 := Lib.hid o1
  have B1 := Lib.hid b1
  have z1 := b1.size
  clear o1 b1
  go_wp2_with (first | (at_builtin; refine wpList_append_lie (w0 := w1) (x := othN) (N := w1.heap.size) rfl rfl _ _ 29 rfl w.heap.size iT _ 16 Tryz.underlying29 hiT hzT hkT hbT (by omega) rfl (by omega) encT_len encT_one _ clsN rfl rfl O1.out rfl (by decide) z1 ?_; intro v9 w9 y9; have Y9 := Lib.hid y9; clear y9) | fail)
  go_wp2
  go_ret
  exact ⟨_, rfl, Y9.out.1.rd encT_len, B1.out.trans Y9.out.2.1⟩
end Go.Proofs.YtmnclnpbmgomgaaGreatDoor


/- Of the program of layer 14: overlap, conditions, first. -/
namespace Go.Proofs.YtmnclnpbmgomgaaGreatDoor
open Go.RowKit Go.Maps
set_option linter.unusedVariables false

/-- Whether two rules hold for one number, of valid rules. -/
def OvP (l : Rus) (w : World) (e : Ending) (w' : World) : Prop := ∃ b, e = .returned (.bool b) ∧ (b = true → Ov l) ∧ (b = false → ¬ Ov l) ∧ Below w.heap.size w w'
set_option maxRecDepth 1000000 in
set_option maxHeartbeats 4000000 in
theorem overlap_any (v : Value) (l : Rus) (w : World) (hv : RdRus w v l) (hvr : VR l) (hm : MaxL w) : Calls Tryz.prog 42 #[v] w (OvP l w) := by
  have HD := Lib.hid (disjoint_any l v (by have := hvr.len; omega) hvr.ok w hv.rules hm)
  have HO := Lib.hid (fun i j W er h => @ov_of l hvr i j W er h)
  have HEX : Hid (∀ (b : Bool) (w' : World), (b = true → Ov l) → (b = false → ¬ Ov l) → Below w.heap.size w w' → OvP l w (.returned (.bool b)) w') := Lib.hid (fun b w' h1 h2 h3 => ⟨b, rfl, h1, h2, h3⟩)
  obtain ⟨E, hE⟩ : ∃ E, OvP l w = E := ⟨_, rfl⟩
  rw [hE] at HEX ⊢
  clear hE hv hvr hm
  go_enter Tryz.func42, Tryz.ntmps42
  go_wp2_with fail
  refine HD.out.mono ?_
  rintro e w2 ⟨i, j, W, er, rfl, hd, b2⟩
  have B2 := Lib.hid b2
  rcases HO.out i j W er hd with ⟨rfl, h⟩ | ⟨rfl, h⟩
  · have HH := Lib.hid h
    clear h hd b2
    go_wp2
    exact HEX.out _ _ (fun _ => HH.out) (fun h => by cases h) B2.out
  · have HH := Lib.hid h
    clear h hd b2
    go_wp2
    exact HEX.out _ _ (fun h => by cases h) (fun _ => HH.out) B2.out
set_option maxRecDepth 1000000 in
set_option maxHeartbeats 8000000 in
theorem conditions_any14 (rs : Rus) (v : Value) (h10 : rs.length ≤ 10) (w : World) (hv : RdRules w v rs) :
    Calls Tryz.prog 80 #[v] w fun e w' => ∃ v', e = .returned v' ∧ RdCs w' v' (rs.map Prod.snd) ∧ Below w.heap.size w w' := by
  obtain ⟨iC, hiC, hzC, hkC, hbC⟩ := info_parts Tryz.infoCo
  obtain ⟨ac, cc, rfl, hc1, hc2⟩ := hv.slice
  have HV := Lib.hid hv
  have HN0 : Hid (GatC w rs 0 (.slice none 0 0) w) := Lib.hid ⟨⟨[], own1_nil _ _ _, rfl, fun i h _ => by simp at h⟩, Below.refl _ _⟩
  clear hv
  go_enter Tryz.func80, Tryz.ntmps80
  go_wp2
  go_loopw [3, 8] (fun v6 v13 wr => ∃ k : Nat, k ≤ rs.length ∧ v13 = .int .i64 k ∧ GatC w rs k v6 wr) (fun _ v13 _ => rs.length - (intOf v13).toNat)
  case atStart => exact ⟨0, Nat.zero_le _, rfl, HN0.out⟩
  case round =>
    obtain ⟨k, hk, rfl, hg⟩ := hrel
    have HG := Lib.hid hg
    clear hg HN0
    by_cases hlt : k < rs.length
    · skip
      obtain ⟨bk, off, s, x1, x2, rfl, hlb, h0, h1, hcd⟩ := HV.out.at_ k hlt
      have h0 := (HG.out.bw.cell (p := ⟨bk, off + k * 2, none⟩) hlb).trans h0
      have h1 := (HG.out.bw.cell (p := ⟨bk, off + k * 2 + 1, none⟩) hlb).trans h1
      have h9 : (k : Int) < (rs.length : Int) := by omega
      obtain ⟨n, hn⟩ : ∃ n, rs[k].2.length = n := ⟨_, rfl⟩
      rw [hn] at h1 hcd
      have HCD := Lib.hid hcd
      obtain ⟨raws, ho, hl, hr⟩ := HG.out.ex
      obtain ⟨p6, c6, rfl⟩ := ho.slice
      have HO := Lib.hid (own_below ho (below_al wr (.cells #[.string (ofL s), .slice x1 n x2] 41)))
      have HB := Lib.hid ((HG.out.bw).trans ((below_al wr (.cells #[.string (ofL s), .slice x1 n x2] 41)).mono HG.out.bw.size))
      have HL := Lib.hid hl
      have HR := Lib.hid hr
      obtain ⟨wb, hwb⟩ : ∃ wb, wr.alloc (.cells #[.string (ofL s), .slice x1 n x2] 41) = wb := ⟨_, rfl⟩
      have HWB := Lib.hid hwb
      rw [hwb] at HO HB
      have r0 : wb.cell? ⟨wr.heap.size, 1, none⟩ = some (.slice x1 n x2) := by
        rw [← hwb]
        exact (Blk.new wr 41 #[.string (ofL s), .slice x1 n x2]).cell 1
      have HZW : Hid (w.heap.size ≤ wb.heap.size) := Lib.hid HB.out.size
      clear ho hl hr hwb hcd hn hlb
      go_upto_region 5 with fail
      rw [HWB.out]
      go_wp2_with (first | (at_builtin; refine wpList_append_lie (w0 := wb) (x := (⟨x1, n, x2⟩ : RawS)) (N := wb.heap.size) rfl rfl _ _ 46 rfl w.heap.size iC _ 24 Tryz.underlying46 hiC hzC hkC hbC (by omega) rfl (by omega) encS_len encS_one _ raws rfl rfl HO.out rfl (by have := HL.out; omega) HZW.out ?_; intro v9 w9 y9; obtain ⟨p8, q8, e8⟩ := y9.1.slice; subst e8; have Y9 := Lib.hid y9; clear y9) | go_in)
      have HGN : Hid (GatC w rs (k + 1) (.slice p8 (raws ++ [(⟨x1, n, x2⟩ : RawS)]).length q8) w9) := Lib.hid ⟨⟨_, Y9.out.1, by rw [List.length_append, HL.out]; rfl, fun i a b => by
        rw [List.length_append] at a
        by_cases hi : i < raws.length
        · rw [List.getElem_append_left hi]
          exact HR.out i hi b
        · have hk' : i = raws.length := by simp at a; omega
          subst hk'
          rw [List.getElem_append_right (Nat.le_refl _)]
          have e2 : rs[raws.length].2 = rs[k].2 := by simp only [HL.out]
          rw [e2]
          simpa using HCD.out⟩, HB.out.trans Y9.out.2.1⟩
      go_roundw
      case measure => simp [intOf]; omega
      case rel => exact ⟨k + 1, by omega, by go_num, by first | exact HGN.out | (have := HGN.out; simpa using this)⟩
    · obtain rfl : k = rs.length := by omega
      have h3 : ¬ (rs.length : Int) < (rs.length : Int) := by omega
      obtain ⟨raws, ho, hl, hr⟩ := HG.out.ex
      obtain ⟨p6, c6, e6⟩ := ho.slice
      subst e6
      have HRD := Lib.hid HG.out.rd
      have HB1 := Lib.hid HG.out.bw
      clear HG HV ho hl hr
      go_wp2
      go_ret
      exact ⟨_, rfl, HRD.out, HB1.out⟩
/-! ### first -/
theorem exF_fnd {l : Rus} (hv : VR l) {c : Str} {k : Nat} (hk : k < l.length) (e : (l[k]'hk).1 = c) : exF l c = firstR [(l[k]'hk).2] 0 := by
  have hc : c ≠ othN := by rw [← e]; exact hv.ne_oth (List.getElem_mem hk)
  unfold exF
  rw [if_neg hc]
  cases hf : l.find? (fun r => decide (r.1 = c)) with
  | none => exact absurd e (by simpa using List.find?_eq_none.1 hf _ (List.getElem_mem hk))
  | some r =>
    have hrc : r.1 = c := by simpa using List.find?_some hf
    rw [hv.inj (List.mem_of_find?_eq_some hf) (List.getElem_mem hk) (hrc.trans e.symm)]
theorem exF_miss {l : Rus} {c : Str} (hc : c ≠ othN) (h : ∀ (j : Nat) (hj : j < l.length), (l[j]'hj).1 ≠ c) : exF l c = none := by
  unfold exF
  rw [if_neg hc, List.find?_eq_none.2 (fun r hr => ?_)]
  obtain ⟨j, hj, rfl⟩ := List.mem_iff_getElem.1 hr
  simpa using h j hj
set_option maxRecDepth 1000000 in
set_option maxHeartbeats 8000000 in
theorem first14_any (v : Value) (l : Rus) (c : Str) (w : World) (hv : RdRus w v l) (hvr : VR l) (hm : MaxL w) :
    Calls Tryz.prog 48 #[v, .string (ofL c)] w fun e w' => e = .returned (.string (ofL ((exF l c).getD []))) ∧ Below w.heap.size w w' := by
  have HF := Lib.hid (find14_any v l c w hv)
  have HFN := Lib.hid (fun k hk e => @exF_fnd l hvr c k hk e)
  have HMS := Lib.hid (fun hc h => @exF_miss l c hc h)
  have HOT := Lib.hid (fun h : c = othN => show exF l c = firstR (l.map Prod.snd) 1 by rw [h]; exact exF_oth l)
  have HOK := Lib.hid (fun k (hk : k < l.length) => (hvr.1 _ (List.getElem_mem hk)).2)
  have HAL := Lib.hid hvr.ok
  have H10 : Hid (l.length ≤ 10) := Lib.hid (by have := hvr.len; omega)
  obtain ⟨A, hA⟩ : ∃ A, exF l c = A := ⟨_, rfl⟩
  rw [hA] at HFN HMS HOT ⊢
  have HV := Lib.hid hv
  have HM := Lib.hid hm
  obtain ⟨a, cp, rfl, h2, h3⟩ := hv.slice
  obtain ⟨N, hN⟩ : ∃ N, l.length = N := ⟨_, rfl⟩
  have HN := Lib.hid hN
  rw [hN] at HV HF h2 ⊢
  have HOC : Hid (∀ b, decide (c = othN) = b → ((ofL c).toList == ([111, 116, 104, 101, 114] : List UInt8)) = b) := Lib.hid (fun b h => by
    rw [← h]
    have e := beqP c othN
    rw [show (ofL othN).toList = ([111, 116, 104, 101, 114] : List UInt8) from by rw [ByteArray.toList_eq]; rfl] at e
    exact e)
  clear hA hv hvr hm hN
  go_enter Tryz.func48, Tryz.ntmps48
  go_wp2_with fail
  refine HF.out.mono ?_
  rintro e w2 ⟨⟨r, rfl, hr⟩, b2⟩
  have B2 := Lib.hid b2
  have V2 := Lib.hid (HV.out.below b2)
  have M2 := Lib.hid (HM.out.below b2)
  clear b2
  rcases hr with ⟨i, hi, rfl, he, _⟩ | ⟨rfl, hno⟩
  · have n1 : decide ((0 : Int) ≤ (i : Int)) = true := decide_eq_true (by omega)
    have n2 : ¬ ((i : Int) < 0) := by omega
    have hiN : i < N := by rw [← HN.out]; exact hi
    have n3 : (i : Int) < (N : Int) := by omega
    have HE := Lib.hid (HFN.out i hi he)
    obtain ⟨b, off, x1, x2, rfl, hbs, c0, c1, hc⟩ := V2.out.at_ i hi
    have HSA := Lib.hid (sat_any _ _ (HOK.out i hi) w2 hc M2.out)
    rw [← HE.out] at HSA
    obtain ⟨n, hn⟩ : ∃ n, (l[i]'hi).2.length = n := ⟨_, rfl⟩
    rw [hn] at c1 HSA
    clear c0 hc hn he
    go_wp2_with fail
    refine HSA.out.mono ?_
    rintro e w3 ⟨rfl, b3⟩
    have B3 := Lib.hid (st B2.out b3 B2.out.size)
    clear b3
    go_wp2
    go_ret
    exact ⟨rfl, B3.out⟩
  · by_cases ho : c = othN
    · have t1 := HOC.out true (decide_eq_true ho)
      have HE := Lib.hid (HOT.out ho)
      have HCO := Lib.hid (conditions_any14 l _ H10.out w2 V2.out.rules)
      clear ho hno
      go_wp2_with fail
      refine HCO.out.mono ?_
      rintro e w3 ⟨v3, rfl, r3, b3⟩
      have B3 := Lib.hid (st B2.out b3 B2.out.size)
      have HTO := Lib.hid (total_any (l.map Prod.snd) v3 (by rw [List.length_map]; exact H10.out) HAL.out w3 r3 (M2.out.below b3))
      rw [← HE.out] at HTO
      clear r3 b3
      go_wp2_with fail
      refine HTO.out.mono ?_
      rintro e w4 ⟨rfl, b4⟩
      have B4 := Lib.hid (st B3.out b4 B3.out.size)
      clear b4
      go_wp2
      go_ret
      exact ⟨rfl, B4.out⟩
    · have t1 := HOC.out false (decide_eq_false ho)
      have HE := Lib.hid (HMS.out ho hno)
      clear ho hno
      go_wp2
      go_ret
      exact ⟨by rw [HE.out]; rfl, B2.out⟩
end Go.Proofs.YtmnclnpbmgomgaaGreatDoor


