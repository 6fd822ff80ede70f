/- Of the law: before; the law AutomatonShortest. -/
import Derived.Test.YtiljagfjgefnnaaBm
import Derived.Test.YtiljagfjgefnnaaBq
namespace Go.Proofs.Ytiljagfjgefnnaa
open Go.RowKit
set_option linter.unusedVariables false

def lexB : Str → Str → Bool
  | a :: x, b :: y => if a = b then lexB x y else decide (symI a.toNat < symI b.toNat)
  | _, _ => false
def bfR (x y : Str) : Bool := if x.length = y.length then lexB x y else decide (x.length < y.length)
theorem lexB_drop {x y : Str} {k : Nat} (hx : k < x.length) (hy : k < y.length) : lexB (x.drop k) (y.drop k) = if x[k] = y[k] then lexB (x.drop (k + 1)) (y.drop (k + 1)) else decide (symI x[k].toNat < symI y[k].toNat) := by
  rw [List.drop_eq_getElem_cons hx, List.drop_eq_getElem_cons hy]
  rfl
theorem lexB_end (x y : Str) (h : x.length = y.length) : lexB (x.drop x.length) (y.drop x.length) = false := by
  rw [List.drop_length, h, List.drop_length]
  rfl
theorem lexB_lexW : ∀ {x y : Str}, isW x = true → isW y = true → lexB x y = true → lexW (wdN x) (wdN y)
  | [], _, _, _, h => by cases h
  | _ :: _, [], _, _, h => by cases h
  | a :: x, b :: y, hx, hy, h => by
    unfold isW at hx hy
    rw [List.all_cons, Bool.and_eq_true] at hx hy
    unfold lexB at h
    by_cases e : a = b
    · rw [if_pos e] at h
      exact .inr ⟨by rw [e], lexB_lexW hx.2 hy.2 h⟩
    · rw [if_neg e, decide_eq_true_eq] at h
      have h1 := hx.1
      have h2 := hy.1
      unfold okc at h1 h2
      rw [decide_eq_true_eq] at h1 h2
      exact .inl (by unfold sy; omega)
theorem bfR_bef {x y : Str} (hx : isW x = true) (hy : isW y = true) (h : bfR x y = true) : bef (wdN x) (wdN y) := by
  unfold bfR at h
  have l1 : (wdN x).length = x.length := by unfold wdN; rw [List.length_map]
  have l2 : (wdN y).length = y.length := by unfold wdN; rw [List.length_map]
  by_cases e : x.length = y.length
  · rw [if_pos e] at h
    exact .inr ⟨by omega, lexB_lexW hx hy h⟩
  · rw [if_neg e, decide_eq_true_eq] at h
    exact .inl (by omega)
theorem sy_chr : ∀ c : Fin 11, sy (chrN c.val) = c.val ∧ okc (chrN c.val) = true := by decide +kernel
theorem strW_W {v : List Nat} (h : word v) : isW (strW v) = true ∧ wdN (strW v) = v := by
  induction v with
  | nil => exact ⟨rfl, rfl⟩
  | cons c v ih =>
    obtain ⟨i1, i2⟩ := ih (fun d hd => h d (List.mem_cons_of_mem _ hd))
    obtain ⟨j1, j2⟩ := sy_chr ⟨c, h c (List.mem_cons_self)⟩
    dsimp only at j1 j2
    refine ⟨?_, ?_⟩
    · unfold isW strW at i1 ⊢
      rw [List.map_cons, List.all_cons, j2, i1]
      rfl
    · unfold wdN strW at i2 ⊢
      rw [List.map_cons, List.map_cons, j1, i2]
theorem First.runs {r : RawD} {v : List Nat} (hk : okD r = true) (h : First (toA r) v) : runP r (strW v) = true := by
  obtain ⟨h1, h2⟩ := strW_W h.1
  unfold runP
  rw [hk, h1, h2, h.2.1]
  rfl
theorem First.nothing {r : RawD} {v : List Nat} (h : First (toA r) v) {s : Str} (hs : runP r s = true) : bfR s (strW v) = false := by
  unfold runP at hs
  rw [Bool.and_eq_true, Bool.and_eq_true] at hs
  rw [Bool.eq_false_iff]
  intro hb
  have := bfR_bef hs.1.2 (strW_W h.1).1 hb
  rw [(strW_W h.1).2] at this
  have := h.2.2 _ (word_wdN s) this
  rw [hs.2] at this
  cases this
theorem Never.no {r : RawD} (h : Never (toA r)) (s : Str) : runP r s = false := by
  unfold runP
  rw [h _ (word_wdN s), Bool.and_false]
theorem bad_no {r : RawD} (h : okD r = false) (s : Str) : runP r s = false := by
  unfold runP
  rw [h]
  rfl
set_option maxRecDepth 1000000 in
set_option maxHeartbeats 8000000 in
theorem before_any (x y : ByteArray) (hx : x.size ≤ 9223372036854775807) (hy : y.size ≤ 9223372036854775807) (w : World) :
    Calls Try.prog 33 #[.string x, .string y] w fun e w' => e = .returned (.bool (bfR x.data.toList y.data.toList)) ∧ Below w.heap.size w w' := by
  go_enter Try.func33, Try.ntmps33
  have hxl : x.data.toList.length = x.size := len_data x
  have hyl : y.data.toList.length = y.size := len_data y
  by_cases hsz : x.size = y.size
  case neg =>
    have t : ((x.size : Int) != (y.size : Int)) = true := by rw [bne_iff_ne]; omega
    have t' : (x.size != y.size) = true := by rw [bne_iff_ne]; exact hsz
    have HV : Hid (bfR x.data.toList y.data.toList = decide (x.size < y.size)) := Lib.hid (by
      unfold bfR
      rw [hxl, hyl, if_neg hsz])
    by_cases hlt : x.size < y.size
    · have t2 : (x.size : Int) < (y.size : Int) := by omega
      have HV2 := Lib.hid (HV.out.trans (decide_eq_true hlt))
      clear hsz hxl hyl
      go_wp2_with fail
      go_ret
      exact ⟨by rw [HV2.out]; rfl, Below.refl _ _⟩
    · have t2 : ¬ (x.size : Int) < (y.size : Int) := by omega
      have HV2 := Lib.hid (HV.out.trans (decide_eq_false hlt))
      clear hsz hxl hyl
      go_wp2_with fail
      go_ret
      exact ⟨by rw [HV2.out]; rfl, Below.refl _ _⟩
  case pos =>
    have HV : Hid (bfR x.data.toList y.data.toList = lexB x.data.toList y.data.toList) := Lib.hid (by
      unfold bfR
      rw [hxl, hyl, if_pos hsz])
    have HSZ := Lib.hid hsz
    obtain ⟨n, hn⟩ : ∃ n, x.size = n := ⟨_, rfl⟩
    have HN := Lib.hid hn
    have HXL := Lib.hid (hxl.trans hn)
    have HYL := Lib.hid (hyl.trans (hsz.symm.trans hn))
    have hn2 : y.size = n := hsz.symm.trans hn
    have t : ((n : Int) != (n : Int)) = false := by simp
    rw [hn] at hx
    clear hxl hyl hsz hy
    go_wp2_with fail
    go_loopw [5] (fun v5 wr => ∃ k : Nat, k ≤ n ∧ v5 = .int .i64 k ∧ lexB x.data.toList y.data.toList = lexB (x.data.toList.drop k) (y.data.toList.drop k) ∧ Below w.heap.size w wr) (fun v5 _ => n - (intOf v5).toNat)
    case atStart => exact ⟨0, Nat.zero_le _, rfl, rfl, Below.refl _ _⟩
    case round =>
      rename World => wz
      obtain ⟨k, hk, rfl, hlx, hb⟩ := hrel
      have HLX := Lib.hid hlx
      have HB := Lib.hid hb
      clear hlx hb
      by_cases hlt : k < n
      · have h9 : (k : Int) < (n : Int) := by omega
        have hkx : k < x.data.toList.length := by have := HXL.out; omega
        have hky : k < y.data.toList.length := by have := HYL.out; omega
        have HST := Lib.hid (lexB_drop hkx hky)
        have bx := byte_at x (by omega : k < x.size)
        have by_ := byte_at y (by omega : k < y.size)
        obtain ⟨c, hc⟩ : ∃ c, x.data.toList[k] = c := ⟨_, rfl⟩
        obtain ⟨d, hd⟩ : ∃ d, y.data.toList[k] = d := ⟨_, rfl⟩
        rw [hc, hd] at HST
        rw [hc] at bx
        rw [hd] at by_
        have hcn := c.toNat_lt
        have hdn := d.toNat_lt
        have SC := Lib.hid (symbol_any c.toNat (by omega))
        have SD := Lib.hid (symbol_any d.toNat (by omega))
        have HCD : Hid (c = d ↔ c.toNat = d.toNat) := Lib.hid ⟨fun h => by rw [h], fun h => UInt8.toNat_inj.1 h⟩
        clear hc hd hkx hky
        rw [bx, by_] at HST HCD
        rw [bx] at SC hcn
        rw [by_] at SD hdn
        have hkx : k < x.size := by omega
        have hky : k < y.size := by omega
        have h9x : (k : Int) < (x.size : Int) := by omega
        have h9y : (k : Int) < (y.size : Int) := by omega
        clear bx by_
        by_cases he : x[k] = y[k]
        · have tb : ((x[k].toNat : Int) != (y[k].toNat : Int)) = false := by rw [he]; simp
          have tb' : (x[k].toNat != y[k].toNat) = false := by rw [he]; simp
          have HNX := Lib.hid (HLX.out.trans (HST.out.trans (if_pos he)))
          have HBQ := Lib.hid (fun q => below_drewN HB.out q)
          clear he
          go_wp2_with fail
          go_quiet (fail)
          go_wp2_with fail
          go_roundw
          case measure => simp [intOf]; omega
          case rel => exact ⟨k + 1, by omega, by go_num, HNX.out, HBQ.out _⟩
        · have hne : ¬ x[k].toNat = y[k].toNat := fun h => he (HCD.out.2 h)
          have tb : ((x[k].toNat : Int) != (y[k].toNat : Int)) = true := by rw [bne_iff_ne]; omega
          have tb' : (x[k].toNat != y[k].toNat) = true := by rw [bne_iff_ne]; exact hne
          have HNX := Lib.hid (HV.out.trans (HLX.out.trans (HST.out.trans (if_neg he))))
          have HBQ := Lib.hid (fun q => below_drewN HB.out q)
          clear he hne
          go_wp2_with fail
          go_quiet (fail)
          obtain ⟨wq, hwq⟩ : ∃ wq, wz.drewN nq = wq := ⟨_, rfl⟩
          have HBW := Lib.hid (HBQ.out nq)
          rw [hwq] at HBW ⊢
          clear hwq HBQ
          go_upto_region 7 with fail
          refine region_hd 7 (fun _ : World => True) (by kernel_rfl) (by kernel_rfl) ?_
          refine hd_taken 0 (some 29) _ ?hdv0 rfl rfl (by kernel_rfl) (fun _ _ _ h => h) (Or.inl ⟨by rfl, ?hdy0⟩) trivial ?hdr0
          case hdy0 => (intro wx hx; (try dsimp only at hx); go_simp; try with_reducible rfl)
          try simp only [Act.put, List.setIfInBounds_toArray, List.set_cons_zero, List.set_cons_succ]
          refine hd_taken 1 (some 30) _ ?hdv1 rfl rfl (by kernel_rfl) (fun _ _ _ h => h) (Or.inl ⟨by rfl, ?hdy1⟩) trivial ?hdr1
          case hdy1 => (intro wx hx; (try dsimp only at hx); go_simp; try with_reducible rfl)
          try simp only [Act.put, List.setIfInBounds_toArray, List.set_cons_zero, List.set_cons_succ]
          refine hd_taken 2 (some 31) _ ?hdv2 rfl rfl (by kernel_rfl) (fun _ _ _ h => h) (Or.inl ⟨by rfl, ?hdy2⟩) trivial ?hdr2
          case hdy2 => (intro wx hx; (try dsimp only at hx); go_simp; try with_reducible rfl)
          try simp only [Act.put, List.setIfInBounds_toArray, List.set_cons_zero, List.set_cons_succ]
          refine hd_taken 4 (some 33) _ ?hdv4 rfl rfl (by kernel_rfl) (fun _ _ _ h => h) (Or.inl ⟨by rfl, ?hdy4⟩) trivial ?hdr4
          case hdy4 => (intro wx hx; (try dsimp only at hx); go_simp; try with_reducible rfl)
          try simp only [Act.put, List.setIfInBounds_toArray, List.set_cons_zero, List.set_cons_succ]
          refine hd_taken 5 (some 34) _ ?hdv5 rfl rfl (by kernel_rfl) (fun _ _ _ h => h) (Or.inl ⟨by rfl, ?hdy5⟩) trivial ?hdr5
          case hdy5 => (intro wx hx; (try dsimp only at hx); go_simp; try with_reducible rfl)
          try simp only [Act.put, List.setIfInBounds_toArray, List.set_cons_zero, List.set_cons_succ]
          refine hd_taken 6 (some 35) _ ?hdv6 rfl rfl (by kernel_rfl) (fun _ _ _ h => h) (Or.inl ⟨by rfl, ?hdy6⟩) trivial ?hdr6
          case hdy6 => (intro wx hx; (try dsimp only at hx); go_simp; try with_reducible rfl)
          try simp only [Act.put, List.setIfInBounds_toArray, List.set_cons_zero, List.set_cons_succ]
          refine hd_one 3 _ rfl (by kernel_rfl) (by decide) (fun K3 hK3 => ?_)
          go_simp
          refine (SC.out _).mono ?_
          rintro e we ⟨rfl, rfl⟩
          try dsimp only
          refine hK3.out _ _ trivial ?_
          clear hK3 K3
          try simp only [Act.put, List.setIfInBounds_toArray, List.set_cons_zero, List.set_cons_succ]
          refine hd_done (by kernel_rfl) ?_
          simp only [List.drop_succ_cons, List.drop_zero]
          go_wp2_with fail
          refine (SD.out _).mono ?_
          rintro e we ⟨rfl, rfl⟩
          obtain ⟨p, hp⟩ : ∃ p, symI x[k].toNat = p := ⟨_, rfl⟩
          obtain ⟨q, hq⟩ : ∃ q, symI y[k].toNat = q := ⟨_, rfl⟩
          rw [hp, hq] at HNX ⊢
          clear hp hq
          go_wp2_with fail
          go_ret
          exact ⟨by rw [HNX.out]; simp, HBW.out.drew⟩
      · obtain rfl : k = n := by omega
        have h3 : ¬ (k : Int) < (k : Int) := by omega
        have HNX : Hid (bfR x.data.toList y.data.toList = false) := Lib.hid (by
          rw [HV.out, HLX.out]
          have h5 := lexB_end x.data.toList y.data.toList (HXL.out.trans HYL.out.symm)
          rw [HXL.out] at h5
          exact h5)
        go_wp2_with fail
        go_ret
        exact ⟨by rw [HNX.out]; rfl, HB.out⟩
end Go.Proofs.Ytiljagfjgefnnaa
