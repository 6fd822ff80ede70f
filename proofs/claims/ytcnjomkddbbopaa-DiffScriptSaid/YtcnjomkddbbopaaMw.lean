/- Unknown kinds. -/
import Derived.Test.YtcnjomkddbbopaaMv
import Derived.Test.YtcnjomkddbbopaaMk
import Derived.Deep.CutRange
namespace Go.Proofs.Ytcnjomkddbbopaa
open Go.RowKit
set_option linter.unusedVariables false

def unk (k : Int) : Bool := decide (k < 1) || decide (3 < k)
theorem unk_iff (k : Int) : unk k = false ↔ 1 ≤ k ∧ k ≤ 3 := by unfold unk; simp
set_option maxRecDepth 1000000 in
set_option maxHeartbeats 400000 in
theorem isUnknown_any (q1 : Int) (q2 : Str) (w : World) : Calls Try.prog 34 #[.agg #[.int .i64 q1, .string (ofL q2)]] w fun e w' => e = .returned (.bool (unk q1)) ∧ Below w.heap.size w w' := by
  by_cases h1 : q1 < 1
  · have d1 := decide_eq_true h1
    have hu : unk q1 = true := by unfold unk; rw [d1]; rfl
    have HU := Lib.hid hu
    clear hu
    go_enter Try.func34, Try.ntmps34
    go_wp2
    go_ret
    exact ⟨ret_bool HU.out.symm, (Below.refl _ w).alloc (Nat.le_refl _) _⟩
  · have d1 := decide_eq_false h1
    have hu : unk q1 = decide (3 < q1) := by unfold unk; rw [d1]; rfl
    have HU := Lib.hid hu
    clear hu
    go_enter Try.func34, Try.ntmps34
    go_wp2
    go_ret
    exact ⟨ret_bool HU.out.symm, (Below.refl _ w).alloc (Nat.le_refl _) _⟩

set_option maxRecDepth 1000000 in
set_option maxHeartbeats 400000 in
theorem indexFunc_any (u : Value) (l : List Ed) (w : World) (hu : Rd 2 encE w u l) (hl : l.length ≤ 1000) :
    Calls Try.prog 41 #[u, .func (.func 34) #[] #[]] w fun e w' => (∃ r : Int, e = .returned (.int .i64 r) ∧ (r < 0 ↔ Kinds l)) ∧ Below w.heap.size w w' := by
  obtain ⟨a, c, rfl, hc1, hc2⟩ := hu.slice
  have HU := Lib.hid hu; clear hu
  go_enter Try.func41, Try.ntmps41
  go_wp2
  go_loopw [8] (fun v wr => ∃ k : Nat, k ≤ l.length ∧ v = .int .i64 k ∧ Kinds (l.take k) ∧ Below w.heap.size w wr) (fun v _ => l.length - (intOf v).toNat)
  case atStart => exact ⟨0, Nat.zero_le _, rfl, fun e he => by simp at he, Below.refl _ _⟩
  case round =>
    obtain ⟨k, hk, rfl, hkd, hb⟩ := hrel
    have HK := Lib.hid hkd
    have HB := Lib.hid hb
    have zr := hb.size
    clear hkd hb
    by_cases hlt : k < l.length
    · obtain ⟨bk, off, rfl, h0, h1⟩ := (HU.out.below HB.out).ed k hlt
      have h3 : (k : Int) < (l.length : Int) := by omega
      have HM := Lib.hid (List.getElem_mem hlt)
      have HT := Lib.hid (List.take_succ_eq_append_getElem hlt)
      obtain ⟨q, hq⟩ : ∃ q, l[k] = q := ⟨_, rfl⟩
      rw [hq] at h0 h1 HT HM
      obtain ⟨q1, q2⟩ := q
      dsimp only at h0 h1
      clear hq
      go_wp2_with fail
      refine (isUnknown_any q1 q2 _).mono ?_
      rintro e w2 ⟨rfl, b2⟩
      have HB2 := Lib.hid (st HB.out b2 zr)
      have HUK := Lib.hid (unk_iff q1)
      clear b2
      obtain ⟨bt, hbt⟩ : ∃ bt, unk q1 = bt := ⟨_, rfl⟩
      rw [hbt] at HUK ⊢
      clear hbt
      cases bt with
      | true =>
        go_wp2
        go_ret
        refine ⟨⟨_, rfl, ?_⟩, HB2.out⟩
        constructor
        · intro h; omega
        · intro h
          have := HUK.out.2 (h _ HM.out)
          cases this
      | false =>
        go_wp2
        go_roundw
        case measure => simp [intOf]; omega
        case rel => exact ⟨k + 1, by omega, by go_num, by
          rw [HT.out]
          exact kinds_append HK.out (fun e he => by simp at he; subst he; exact HUK.out.1 (by first | rfl | trivial)), HB2.out⟩
    · obtain rfl : k = l.length := by omega
      have h3 : ¬ (l.length : Int) < (l.length : Int) := by omega
      go_wp2
      go_ret
      refine ⟨⟨_, rfl, ?_⟩, HB.out⟩
      have := HK.out
      rw [List.take_length] at this
      simp [this]

def kindsB (l : List Ed) : Bool := l.all fun e => decide (1 ≤ e.1 ∧ e.1 ≤ 3)
theorem kindsB_iff (l : List Ed) : kindsB l = true ↔ Kinds l := by
  unfold kindsB Kinds
  rw [List.all_eq_true]
  simp only [decide_eq_true_eq]
set_option maxRecDepth 1000000 in
set_option maxHeartbeats 400000 in
theorem containsFunc_any (u : Value) (l : List Ed) (w : World) (hu : Rd 2 encE w u l) (hl : l.length ≤ 1000) :
    Calls Try.prog 33 #[u, .func (.func 34) #[] #[]] w fun e w' => e = .returned (.bool (!kindsB l)) ∧ Below w.heap.size w w' := by
  obtain ⟨a, c, rfl, hc1, hc2⟩ := hu.slice
  have HU := Lib.hid hu; clear hu
  have HK := Lib.hid (kindsB_iff l)
  go_enter Try.func33, Try.ntmps33
  go_wp2_with fail
  refine (indexFunc_any _ l _ HU.out hl).mono ?_
  rintro e w2 ⟨⟨r, rfl, hr⟩, b2⟩
  have HB2 := Lib.hid b2
  have HR := Lib.hid hr
  clear b2 hr
  by_cases h0 : 0 ≤ r
  · go_wp2
    go_ret
    refine ⟨ret_bool ?_, HB2.out⟩
    cases h : kindsB l with
    | false => rfl
    | true => have := HR.out.2 (HK.out.1 h); omega
  · go_wp2
    go_ret
    refine ⟨ret_bool ?_, HB2.out⟩
    rw [HK.out.2 (HR.out.1 (by omega))]
    simp
    omega

/-! ### Apply -/
/-- What applying a script gives: the error, the list. -/
def apR (a : List Str) (s : List Ed) : Int × List Str := if kindsB s then (match runE a s [] with | some z => (0, z) | none => (14, [])) else (1, [])
theorem apR_unk {a : List Str} {s : List Ed} (h : kindsB s = false) : apR a s = (1, []) := by unfold apR; rw [h]; rfl
theorem apR_none {a : List Str} {s : List Ed} (h : kindsB s = true) (h2 : runE a s [] = none) : apR a s = (14, []) := by unfold apR; rw [h, h2]; rfl
theorem apR_some {a z : List Str} {s : List Ed} (h : kindsB s = true) (h2 : runE a s [] = some z) : apR a s = (0, z) := by unfold apR; rw [h, h2]; rfl
theorem run_ins {a out : List Str} {s : List Ed} {t : Str} : runE a ((3, t) :: s) out = runE a s (out ++ [t]) := by cases a <;> simp [runE]
theorem run_keep {a out : List Str} {s : List Ed} {t : Str} : runE (t :: a) ((1, t) :: s) out = runE a s (out ++ [t]) := by simp [runE]
theorem run_del {a out : List Str} {s : List Ed} {t : Str} : runE (t :: a) ((2, t) :: s) out = runE a s out := by simp [runE]
theorem run_out {out : List Str} {s : List Ed} {t : Str} {q : Int} (hq : q ≠ 3) : runE [] ((q, t) :: s) out = none := by simp [runE, hq]
theorem run_ne {a out : List Str} {s : List Ed} {t x : Str} {q : Int} (hq : q ≠ 3) (h : x ≠ t) : runE (x :: a) ((q, t) :: s) out = none := by simp [runE, hq, h]

set_option maxRecDepth 1000000 in
set_option maxHeartbeats 2000000 in
theorem apply_any (va vs : Value) (a : List Str) (s : List Ed) (w : World) (ha : Rd 1 encT w va a) (hs : Rd 2 encE w vs s) (hla : a.length ≤ 200) (hls : s.length ≤ 200) :
    Calls Try.prog 23 #[va, vs] w fun e w' => ∃ v, e = .returned (.tuple #[v, .int .i64 (apR a s).1]) ∧ Own1 1 encT w' w.heap.size 9 v (apR a s).2 ∧ Below w.heap.size w w' := by
  obtain ⟨aa, ca, rfl, hca, hca2⟩ := ha.slice
  obtain ⟨asx, cs, rfl, hcs, hcs2⟩ := hs.slice
  obtain ⟨iS, hiS, hzS, hkS, hbS⟩ := info_parts Try.infoT
  have HA := Lib.hid ha
  have HS := Lib.hid hs
  clear ha hs hca hca2 hcs hcs2
  go_enter Try.func23, Try.ntmps23
  go_wp2_with fail
  refine (containsFunc_any _ s _ HS.out (by omega)).mono ?_
  rintro e w1 ⟨rfl, b1⟩
  have A1 := Lib.hid (HA.out.below b1)
  have S1 := Lib.hid (HS.out.below b1)
  have HB1 := Lib.hid b1
  have z1 := b1.size
  clear b1 HA HS
  cases hk : kindsB s with
  | false =>
    have HR := Lib.hid (apR_unk (a := a) hk)
    clear hk
    go_wp2
    go_ret2
    rw [HR.out]
    exact ⟨_, rfl, own1_nil _ _ _, HB1.out⟩
  | true =>
    have HK := Lib.hid hk
    have HKK := Lib.hid ((kindsB_iff s).1 hk)
    clear hk
    go_wp2
    go_loopw [0, 6, 13] (fun v0 v6 v13 wr => ∃ (k : Nat) (r out : List Str), k ≤ s.length ∧ v13 = .int .i64 k ∧ Rd 1 encT w1 v0 r ∧ r.length ≤ 200 ∧ out.length ≤ k ∧ Own1 1 encT wr w1.heap.size 9 v6 out ∧ runE a s [] = runE r (s.drop k) out ∧ Below w1.heap.size w1 wr) (fun _ _ v13 _ => s.length - (intOf v13).toNat)
    case atStart => exact ⟨0, a, [], Nat.zero_le _, rfl, A1.out, hla, Nat.le_refl _, own1_nil _ _ _, rfl, Below.refl _ _⟩
    case round =>
      obtain ⟨k, r, out, hk, rfl, hr, hrl, hol, hown, hrun, hb⟩ := hrel
      have HO := Lib.hid hown
      have HRN := Lib.hid hrun
      have HB := Lib.hid hb
      have zr := hb.size
      obtain ⟨ar, cr, rfl, _, _⟩ := hr.slice
      have HRD := Lib.hid hr
      obtain ⟨av, cv, hav⟩ := hown.slice
      subst hav
      clear hown hrun hb hr
      by_cases hlt : k < s.length
      · obtain ⟨bk, off, rfl, h0, h1⟩ := (S1.out.below HB.out).ed k hlt
        have h3 : (k : Int) < (s.length : Int) := by omega
        have HM := Lib.hid (HKK.out _ (List.getElem_mem hlt))
        have HD := Lib.hid (List.drop_eq_getElem_cons hlt)
        obtain ⟨q, hq⟩ : ∃ q, s[k] = q := ⟨_, rfl⟩
        rw [hq] at h0 h1 HM HD
        obtain ⟨q1, t⟩ := q
        dsimp only at h0 h1 HM
        clear hq
        have hq3 : q1 = 1 ∨ q1 = 2 ∨ q1 = 3 := by have := HM.out; omega
        rcases hq3 with e3 | e3 | e3
        · subst e3
          have HRU : Hid (runE a s [] = runE r ((1, t) :: s.drop (k + 1)) out) := Lib.hid (by rw [HRN.out, HD.out])
          have BW : Hid (Below w1.heap.size w1 (wr.alloc (.cells #[.int .i64 1, .string (ofL t)] 60))) := Lib.hid (HB.out.alloc zr _)
          obtain ⟨wz, hwz⟩ : ∃ wz, wr.alloc (.cells #[.int .i64 1, .string (ofL t)] 60) = wz := ⟨_, rfl⟩
          have kE := Blk.new wr 60 #[.int .i64 1, .string (ofL t)]
          have O1 := Lib.hid (HO.out.below ((Below.refl _ wr).alloc (Nat.le_refl _) (.cells #[.int .i64 1, .string (ofL t)] 60)))
          have zz : wz.heap.size = wr.heap.size + 1 := by rw [← hwz]; simp
          rw [hwz] at BW kE O1
          have k0 : wz.cell? ⟨wr.heap.size, 0, none⟩ = some (.int .i64 1) := kE.cell 0
          have k1 : wz.cell? ⟨wr.heap.size, 1, none⟩ = some (.string (ofL t)) := kE.cell 1
          have HKE := Lib.hid kE
          clear kE
          go_upto_region 8 with fail
          try rw [hwz]
          clear hwz h0 h1
          rcases r with _ | ⟨x, r'⟩
          · have HAP := Lib.hid (apR_none HK.out (HRU.out.trans (run_out (by omega))))
            rw [List.length_nil]
            have u0 : (((0 : Nat) : Int) == 0) = true := rfl
            go_big_quiet (fail)
            clear k0 k1
            go_wp2
            go_ret2
            rw [HAP.out]
            exact ⟨_, rfl, own1_nil _ _ _, below_drewN (HB1.out.trans (BW.out.mono z1)) _⟩
          · obtain ⟨br, orr, rfl, x1⟩ := (HRD.out.below BW.out).str 0 (by simp)
            obtain ⟨a2, c2, ra, rb, _⟩ := HRD.out.from_ (P := Try.prog) (T := 22) rfl hiS hkS 1 (by simp)
            have rb' : ∀ wx, (Instr.slice 22 (.slice (some ⟨br, orr, none⟩) (x :: r').length cr) (some (.int .i64 1)) none none).run Try.prog wx = .ok (.slice a2 r'.length c2) wx := fun wx => by simpa using rb wx
            have RA : Hid (Rd 1 encT w1 (.slice a2 r'.length c2) r') := Lib.hid (by simpa using ra)
            have x1' : wz.cell? ⟨br, orr, none⟩ = some (.string (ofL x)) := by simpa using x1
            obtain ⟨n, hn⟩ : ∃ n, (x :: r').length = n := ⟨_, rfl⟩
            have hn1 : 1 ≤ n := by rw [← hn]; simp
            have hn2 : r'.length ≤ 200 := by have h := hrl; rw [List.length_cons] at h; omega
            rw [hn] at rb' ⊢
            have u0 : ((n : Int) == 0) = false := by rw [beq_eq_false_iff_ne]; omega
            have u1 : (n == 0) = false := by rw [beq_eq_false_iff_ne]; omega
            have u2 : ¬ n = 0 := by omega
            have u3 : (0 : Int) < (n : Int) := by omega
            have u4 : 0 < n := by omega
            clear ra rb x1 hn hrl
            by_cases hxt : x = t
            · subst hxt
              have HR1 : Hid (runE a s [] = runE r' (s.drop (k + 1)) (out ++ [x])) := Lib.hid (by rw [HRU.out, run_keep])
              go_big_quiet (fail)
              clear x1' u0 u1 u2 u3
              have HO2 := Lib.hid (O1.out.below (below_drewN (Below.refl _ wz) nq))
              go_wp2_with (first | (at_builtin; refine wpList_append_at (w0 := wz.drewN nq) (x := x) (N := wr.heap.size + 1) (by simp [zz]) rfl _ _ 22 rfl w1.heap.size iS _ 16 Try.underlying22 hiS hzS hkS hbS (by omega) rfl (by omega) encT_len encT_one _ out rfl rfl HO2.out rfl (by omega) (by omega) ?_; intro v9 w9 y1 y2 y3) | go_in)
              have HY1 := Lib.hid y1
              have HY2 := Lib.hid y2
              clear y1 y2 y3
              go_wp2
              go_roundw
              case measure => simp [intOf]; omega
              case rel => exact ⟨k + 1, r', out ++ [x], by omega, by go_num, RA.out, hn2, by rw [List.length_append, List.length_singleton]; omega, HY1.out, HR1.out, (below_drewN BW.out nq).trans HY2.out⟩
            · obtain ⟨q5, q6⟩ := str_ne hxt
              have HAP := Lib.hid (apR_none HK.out (HRU.out.trans (run_ne (by omega) hxt)))
              clear hxt
              go_big_quiet (fail)
              clear x1' k0 k1
              go_wp2
              go_ret2
              rw [HAP.out]
              exact ⟨_, rfl, own1_nil _ _ _, below_drewN (HB1.out.trans (BW.out.mono z1)) _⟩
        · subst e3
          have HRU : Hid (runE a s [] = runE r ((2, t) :: s.drop (k + 1)) out) := Lib.hid (by rw [HRN.out, HD.out])
          have BW : Hid (Below w1.heap.size w1 (wr.alloc (.cells #[.int .i64 2, .string (ofL t)] 60))) := Lib.hid (HB.out.alloc zr _)
          obtain ⟨wz, hwz⟩ : ∃ wz, wr.alloc (.cells #[.int .i64 2, .string (ofL t)] 60) = wz := ⟨_, rfl⟩
          have kE := Blk.new wr 60 #[.int .i64 2, .string (ofL t)]
          have O1 := Lib.hid (HO.out.below ((Below.refl _ wr).alloc (Nat.le_refl _) (.cells #[.int .i64 2, .string (ofL t)] 60)))
          have zz : wz.heap.size = wr.heap.size + 1 := by rw [← hwz]; simp
          rw [hwz] at BW kE O1
          have k0 : wz.cell? ⟨wr.heap.size, 0, none⟩ = some (.int .i64 2) := kE.cell 0
          have k1 : wz.cell? ⟨wr.heap.size, 1, none⟩ = some (.string (ofL t)) := kE.cell 1
          have HKE := Lib.hid kE
          clear kE
          go_upto_region 8 with fail
          try rw [hwz]
          clear hwz h0 h1
          rcases r with _ | ⟨x, r'⟩
          · have HAP := Lib.hid (apR_none HK.out (HRU.out.trans (run_out (by omega))))
            rw [List.length_nil]
            have u0 : (((0 : Nat) : Int) == 0) = true := rfl
            go_big_quiet (fail)
            clear k0 k1
            go_wp2
            go_ret2
            rw [HAP.out]
            exact ⟨_, rfl, own1_nil _ _ _, below_drewN (HB1.out.trans (BW.out.mono z1)) _⟩
          · obtain ⟨br, orr, rfl, x1⟩ := (HRD.out.below BW.out).str 0 (by simp)
            obtain ⟨a2, c2, ra, rb, _⟩ := HRD.out.from_ (P := Try.prog) (T := 22) rfl hiS hkS 1 (by simp)
            have rb' : ∀ wx, (Instr.slice 22 (.slice (some ⟨br, orr, none⟩) (x :: r').length cr) (some (.int .i64 1)) none none).run Try.prog wx = .ok (.slice a2 r'.length c2) wx := fun wx => by simpa using rb wx
            have RA : Hid (Rd 1 encT w1 (.slice a2 r'.length c2) r') := Lib.hid (by simpa using ra)
            have x1' : wz.cell? ⟨br, orr, none⟩ = some (.string (ofL x)) := by simpa using x1
            obtain ⟨n, hn⟩ : ∃ n, (x :: r').length = n := ⟨_, rfl⟩
            have hn1 : 1 ≤ n := by rw [← hn]; simp
            have hn2 : r'.length ≤ 200 := by have h := hrl; rw [List.length_cons] at h; omega
            rw [hn] at rb' ⊢
            have u0 : ((n : Int) == 0) = false := by rw [beq_eq_false_iff_ne]; omega
            have u1 : (n == 0) = false := by rw [beq_eq_false_iff_ne]; omega
            have u2 : ¬ n = 0 := by omega
            have u3 : (0 : Int) < (n : Int) := by omega
            have u4 : 0 < n := by omega
            clear ra rb x1 hn hrl
            by_cases hxt : x = t
            · subst hxt
              have HR1 : Hid (runE a s [] = runE r' (s.drop (k + 1)) (out)) := Lib.hid (by rw [HRU.out, run_del])
              go_big_quiet (fail)
              clear x1' u0 u1 u2 u3
              go_wp2
              go_roundw
              case measure => simp [intOf]; omega
              case rel => exact ⟨k + 1, r', out, by omega, by go_num, RA.out, hn2, by omega, O1.out.below (below_drewN (Below.refl _ wz) _), HR1.out, below_drewN BW.out _⟩
            · obtain ⟨q5, q6⟩ := str_ne hxt
              have HAP := Lib.hid (apR_none HK.out (HRU.out.trans (run_ne (by omega) hxt)))
              clear hxt
              go_big_quiet (fail)
              clear x1' k0 k1
              go_wp2
              go_ret2
              rw [HAP.out]
              exact ⟨_, rfl, own1_nil _ _ _, below_drewN (HB1.out.trans (BW.out.mono z1)) _⟩
        · subst e3
          have HR1 : Hid (runE a s [] = runE r (s.drop (k + 1)) (out ++ [t])) := Lib.hid (by rw [HRN.out, HD.out, run_ins])
          have BW : Hid (Below w1.heap.size w1 (wr.alloc (.cells #[.int .i64 3, .string (ofL t)] 60))) := Lib.hid (HB.out.alloc zr _)
          have O1 := Lib.hid (HO.out.below ((Below.refl _ wr).alloc (Nat.le_refl _) (.cells #[.int .i64 3, .string (ofL t)] 60)))
          go_wp2_with (first | (at_builtin; refine wpList_append_at (w0 := wr.alloc (.cells #[.int .i64 3, .string (ofL t)] 60)) (x := t) (N := wr.heap.size + 1) (by simp) rfl _ _ 22 rfl w1.heap.size iS _ 16 Try.underlying22 hiS hzS hkS hbS (by omega) rfl (by omega) encT_len encT_one _ out rfl rfl O1.out rfl (by omega) (by omega) ?_; intro v9 w9 y1 y2 y3) | go_in)
          have HY1 := Lib.hid y1
          have HY2 := Lib.hid y2
          clear y1 y2 y3
          go_wp2
          go_roundw
          case measure => simp [intOf]; omega
          case rel => exact ⟨k + 1, r, out ++ [t], by omega, by go_num, HRD.out, hrl, by rw [List.length_append, List.length_singleton]; omega, HY1.out, HR1.out, BW.out.trans HY2.out⟩
      · obtain rfl : k = s.length := by omega
        have h3 : ¬ (s.length : Int) < (s.length : Int) := by omega
        have HR1 : Hid (runE a s [] = runE r [] out) := Lib.hid (by rw [HRN.out, List.drop_length])
        rcases r with _ | ⟨x, r'⟩
        · have HAP := Lib.hid (apR_some HK.out (HR1.out.trans (show runE ([] : List Str) ([] : List Ed) out = some out by simp [runE])))
          rw [List.length_nil]
          go_wp2
          go_ret2
          rw [HAP.out]
          exact ⟨_, rfl, HO.out.base z1, HB1.out.trans (HB.out.mono z1)⟩
        · have HAP := Lib.hid (apR_none HK.out (HR1.out.trans (by simp [runE])))
          obtain ⟨n, hn⟩ : ∃ n, (x :: r').length = n := ⟨_, rfl⟩
          have hn1 : 1 ≤ n := by rw [← hn]; simp
          rw [hn]
          have u3 : (0 : Int) < (n : Int) := by omega
          have u4 : 0 < n := by omega
          clear hn hrl
          go_wp2
          go_ret2
          rw [HAP.out]
          exact ⟨_, rfl, own1_nil _ _ _, HB1.out.trans (HB.out.mono z1)⟩
end Go.Proofs.Ytcnjomkddbbopaa
