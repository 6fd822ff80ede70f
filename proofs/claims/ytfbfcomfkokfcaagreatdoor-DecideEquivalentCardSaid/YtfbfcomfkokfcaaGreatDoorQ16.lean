/- What the row stands on, part 16. -/
import Derived.Test.YtfbfcomfkokfcaaGreatDoorZish
import Derived.Test.YtfbfcomfkokfcaaGreatDoorQ15

/- Of decide: firstsOf, walked. -/
namespace Go.Proofs.YtfbfcomfkokfcaaGreatDoor
open Go.RowKit Go.Maps
set_option linter.unusedVariables false

theorem shl_int {n : Nat} (h : n ≤ 10) {M : Nat} (hM : 2 ^ n = M) : IntKind.i64.wrap ((2 : Int) ^ n) = (M : Int) := by
  have h1 : 2 ^ n ≤ 2 ^ 10 := Nat.pow_le_pow_right (by omega) h
  have h3 : (2 : Nat) ^ 10 = 1024 := by decide
  have h2 : ((2 : Int) ^ n) = (M : Int) := by rw [← hM]; exact (Int.natCast_pow 2 n).symm
  rw [h2, IntKind.wrap_i64]
  omega
/-- What firstsOf holds in its loops. -/
structure FW (w1 w3 : World) (B n : Nat) (L : List Str) (w : World) : Prop where
  own : Own1 1 encT w w1.heap.size 9 (.slice (some ⟨B, 0, none⟩) n n) L
  bt : Bt w3.heap.size B w3 w
  len : L.length = n
  sm : Sm L
theorem FW.below {w1 w3 w w' : World} {B n : Nat} {L : List Str} (h : FW w1 w3 B n L w) (hb : Below w.heap.size w w') : FW w1 w3 B n L w' :=
  ⟨own_below h.own hb, h.bt.trans (Bt.of_below (hb.mono h.bt.size)), h.len, h.sm⟩
theorem FW.put {w1 w3 w : World} {B n : Nat} {L : List Str} (h : FW w1 w3 B n L w) (c : Nat) {x : Str} (hx : x.length ≤ 1000) : FW w1 w3 B n (L.set c x) (w.setCell ⟨B, c, none⟩ (.string (ofL x))) :=
  ⟨h.own.putI c x, h.bt.trans (Bt.setCell _ _ _ c _), by rw [List.length_set]; exact h.len, fun y hy => by
    rcases List.mem_or_eq_of_mem_set hy with hy | rfl
    · exact h.sm y hy
    · exact hx⟩
set_option maxRecDepth 1000000 in
set_option maxHeartbeats 64000000 in
theorem firsts_any (cs : List Cnd) (v : Value) (h10 : cs.length ≤ 10) (hok : ∀ c ∈ cs, okC c = true) (w : World) (hv : RdCs w v cs) :
    Calls Tryz.prog 64 #[v] w fun e w' => ∃ v' Qw Qf, e = .returned (.tuple #[v', .int .i64 0]) ∧ Own1 1 encT w' w.heap.size 9 v' (firL cs Qw Qf) ∧ Found (nxR (relsC cs) (redL (relsC cs) 1 2) (redL (relsC cs) 3 4) (redL (relsC cs) 5 6)) (stRg (relsC cs) 0) 10 15 Qw ∧ Found (nxR (relsC cs) (redL (relsC cs) 1 2) (redL (relsC cs) 3 4) (redL (relsC cs) 5 6)) (stRg (relsC cs) 2) 10 6 Qf ∧ Below w.heap.size w w' := by
  obtain ⟨iT, hiT, hzT, hkT, hbT⟩ := info_parts Tryz.infoT
  obtain ⟨iA, hiA, hzA, hkA, hbA⟩ := info_parts Tryz.infoAr
  obtain ⟨ac, cc, rfl, hc1, hc2⟩ := hv.slice
  have HV := Lib.hid hv
  have HRO := Lib.hid (fun wx hx => relationsOf_any cs hok h10 (.slice ac cs.length cc) wx hx)
  have hkr := relsC_ok hok
  have hl6 : (relsC cs).length ≤ 60 := by rw [rels_cnt]; have := cntS_le hok; omega
  have HLSN : Hid ((listsO 0 cs).length = cs.length) := Lib.hid (listsO_len 0 cs)
  have HLS : Hid (∀ c ∈ listsO 0 cs, ∀ a ∈ c, a < 18446744073709551616) := Lib.hid (listsO_lt (by have := cntS_le hok; omega))
  have HA : Hid ((cs.any fun c => !okC c) = false) := Lib.hid (by rw [List.any_eq_false]; intro c hc; rw [hok c hc]; decide)
  have HSML : Hid (∀ c ∈ cs, ∀ l ∈ c, l.length ≤ 4611686018427387904) := Lib.hid (fun c hc l hl => by
    have h1 := (okC_iff.1 (hok c hc)).2.2
    have h2 := cnt_get hl
    omega)
  have HFIR : Hid (∀ Qw Qf, firL cs Qw Qf = outL cs (Qf.map (frOf (relsC cs))) (Qw.drop 1) (List.replicate (2 ^ cs.length) [])) := Lib.hid (fun _ _ => rfl)
  have HSETB : Hid (∀ x f, setN cs x f < 2 ^ cs.length) := Lib.hid (fun x f => cndN_lt (by rw [listsO_len]; exact Nat.le_refl _) (by omega))
  have HSETD : Hid (∀ x f, setN cs x f = cndN (listsO 0 cs) ((x.hold &&& f.kept) ||| f.hold) cs.length) := Lib.hid (fun _ _ => rfl)
  obtain ⟨l, hle⟩ : ∃ l, relsC cs = l := ⟨_, rfl⟩
  have HLE := Lib.hid hle
  rw [hle] at HRO hkr hl6 HFIR
  have hs1 := scOk hkr 1 2
  have hs2 := scOk hkr 3 4
  have hs3 := scOk hkr 5 6
  have HOL := Lib.hid hkr
  have HBW := Lib.hid (fun L h1 h2 => bound_whole hkr hl6 (redL l 3 4) (redL l 5 6) 15 L h1 h2)
  have HFRA := Lib.hid (fun g ls wx hp => fractions_any g l ls (redL l 1 2) (redL l 3 4) (redL l 5 6) hkr hl6 hs1 hs2 hs3 wx hp)
  have HSTA := Lib.hid (fun g ls wx hp => start_any g l ls (redL l 1 2) (redL l 3 4) (redL l 5 6) hkr hl6 0 wx hp)
  have HSEA := Lib.hid (fun g ls wx hp => search_any g l ls (redL l 1 2) (redL l 3 4) (redL l 5 6) hkr hl6 hs1 hs2 hs3 (stRg l 0) (stRg_ok hl6 0) (by show 0 ≤ 4; omega) 10 15 403 (by omega) (by omega) (fun L h1 h2 => HBW.out L h1 h2) (by omega) wx hp)
  have HRUNOK := Lib.hid (fun u => runR_ok hl6 hs1 hs2 hs3 (stRg_ok hl6 0) (by show 0 ≤ 4; omega) u)
  have HRUNOK2 := Lib.hid (fun u => runR_ok hl6 hs1 hs2 hs3 (stRg_ok hl6 2) (by show 2 ≤ 4; omega) u)
  have HON1 := Lib.hid (on_lt hl6 1)
  have HON2 := Lib.hid (on_lt hl6 2)
  obtain ⟨p, hpp⟩ : ∃ p, redL l 1 2 = p := ⟨_, rfl⟩
  obtain ⟨q, hqq⟩ : ∃ p, redL l 3 4 = p := ⟨_, rfl⟩
  obtain ⟨s, hss⟩ : ∃ p, redL l 5 6 = p := ⟨_, rfl⟩
  rw [hpp] at HRO HBW HFRA HSTA HSEA HRUNOK HRUNOK2 hs1
  rw [hqq] at HRO HBW HFRA HSTA HSEA HRUNOK HRUNOK2 hs2
  rw [hss] at HRO HBW HFRA HSTA HSEA HRUNOK HRUNOK2 hs3
  have HPE := Lib.hid hpp
  have HQE := Lib.hid hqq
  have HSE := Lib.hid hss
  have HPOST : Hid (∀ (v' : Value) Qw Qf (w' : World), Own1 1 encT w' w.heap.size 9 v' (firL cs Qw Qf) → Found (nxR l p q s) (stRg l 0) 10 15 Qw → Found (nxR l p q s) (stRg l 2) 10 6 Qf → Below w.heap.size w w' → ∃ v'' Qw Qf, Ending.returned (.tuple #[v', .int .i64 0]) = .returned (.tuple #[v'', .int .i64 0]) ∧ Own1 1 encT w' w.heap.size 9 v'' (firL cs Qw Qf) ∧ Found (nxR (relsC cs) (redL (relsC cs) 1 2) (redL (relsC cs) 3 4) (redL (relsC cs) 5 6)) (stRg (relsC cs) 0) 10 15 Qw ∧ Found (nxR (relsC cs) (redL (relsC cs) 1 2) (redL (relsC cs) 3 4) (redL (relsC cs) 5 6)) (stRg (relsC cs) 2) 10 6 Qf ∧ Below w.heap.size w w') := Lib.hid (fun v' Qw Qf w' h1 h2 h3 h4 => by
    rw [hle, hpp, hqq, hss]
    exact ⟨v', Qw, Qf, rfl, h1, h2, h3, h4⟩)
  obtain ⟨N, hN⟩ : ∃ N, 2 ^ cs.length = N := ⟨_, rfl⟩
  have s1 := shl_int h10 hN
  have HN0 : Hid (0 < N ∧ N ≤ 1024) := Lib.hid (by
    have h1 : 2 ^ cs.length ≤ 2 ^ 10 := Nat.pow_le_pow_right (by omega) h10
    have h3 : (2 : Nat) ^ 10 = 1024 := by decide
    have h4 : 0 < 2 ^ cs.length := Nat.pow_pos (by omega)
    omega)
  rw [hN] at HFIR HSETB
  have t0 : ¬ (10 : Int) < (cs.length : Int) := by omega
  obtain ⟨Rpost, hRp⟩ : ∃ Rpost : Ending → World → Prop, (fun e w' => ∃ v' Qw Qf, e = Ending.returned (.tuple #[v', .int .i64 0]) ∧ Own1 1 encT w' w.heap.size 9 v' (firL cs Qw Qf) ∧ Found (nxR (relsC cs) (redL (relsC cs) 1 2) (redL (relsC cs) 3 4) (redL (relsC cs) 5 6)) (stRg (relsC cs) 0) 10 15 Qw ∧ Found (nxR (relsC cs) (redL (relsC cs) 1 2) (redL (relsC cs) 3 4) (redL (relsC cs) 5 6)) (stRg (relsC cs) 2) 10 6 Qf ∧ Below w.heap.size w w') = Rpost := ⟨_, rfl⟩
  have HRP : Hid (∀ (v' : Value) Qw Qf (w' : World), Own1 1 encT w' w.heap.size 9 v' (firL cs Qw Qf) → Found (nxR l p q s) (stRg l 0) 10 15 Qw → Found (nxR l p q s) (stRg l 2) 10 6 Qf → Below w.heap.size w w' → Rpost (.returned (.tuple #[v', .int .i64 0])) w') := Lib.hid (fun v' Qw Qf w' h1 h2 h3 h4 => by rw [← hRp]; exact HPOST.out v' Qw Qf w' h1 h2 h3 h4)
  rw [hRp]
  clear hRp HPOST hle hpp hqq hss hN hkr hl6 hs1 hs2 hs3 hv hok h10
  go_enter Tryz.func64, Tryz.ntmps64
  go_wp2_with fail
  refine (containsCnd_any _ cs (fun c => !okC c) 109 #[] (enters_of Tryz.func109 (by kernel_rfl) rfl) _ HV.out (fun W c a2 c2 hc hb hr => invalid_any c a2 c2 (HSML.out c hc) W hr)).mono ?_
  rintro e w0 ⟨rfl, b0⟩
  have B0 := Lib.hid b0
  clear b0
  rw [HA.out]
  go_wp2_with fail
  refine (HRO.out w0 (HV.out.below B0.out)).mono ?_
  rintro e w1 ⟨g, rfl, hrp, b1⟩
  have HP := Lib.hid hrp
  have B1 := Lib.hid (st B0.out b1 B0.out.size)
  clear hrp b1
  go_upto_region 5 with fail
  obtain ⟨wd, hwd⟩ : ∃ wd, w1.drew = wd := ⟨_, rfl⟩
  have HD := Lib.hid hwd
  have bd : Below w1.heap.size w1 wd := by rw [← hwd]; exact (Below.refl _ _).drew
  have HBD := Lib.hid bd
  have HPD := Lib.hid (HP.out.below bd)
  clear hwd bd
  go_cut [6, 7] from 24 to 30 (fun v6 v7 wx => ∃ (B : Nat) (Qf : List (List Nat × Rg)), v6 = .slice (some ⟨B, 0, none⟩) N N ∧ Own1 1 encT wx w1.heap.size 9 (.slice (some ⟨B, 0, none⟩) N N) (List.replicate N []) ∧ Own1 3 encFr wx w1.heap.size 169 v7 (Qf.map (frOf l)) ∧ Found (nxR l p q s) (stRg l 2) 10 6 Qf ∧ w1.heap.size ≤ B ∧ Below w1.heap.size w1 wx)
  case first =>
    have hmk : ∀ wx : World, (Instr.makeSlice 106 (.int .i64 (N : Int)) (.int .i64 (N : Int))).run Tryz.prog wx = .ok (.slice (some ⟨wx.heap.size, 0, none⟩) N N) (wx.alloc (.cells (madeCells #[.string ByteArray.empty] N) 9)) := fun wx => make_at (P := Tryz.prog) 106 9 (.string ByteArray.empty) 16 Tryz.underlying106 Tryz.infoT (by omega) N (by have := HN0.out; omega) wx
    have hS : (fun _ : World => True) wd := trivial
    have HZD : Hid (w1.heap.size ≤ wd.heap.size) := Lib.hid HBD.out.size
    refine region_hd 7 (fun _ : World => True) (by kernel_rfl) (by kernel_rfl) ?_
    rw [HD.out]
    refine hd_taken 0 (some 24) _ ?hdv0 rfl rfl (by kernel_rfl) (fun _ _ _ h => h) (Or.inl ⟨by kernel_rfl, ?hdy0⟩) hS ?hdr0
    case hdy0 => (intro wx hx; (try dsimp only at hx); go_simp; try with_reducible rfl)
    try simp only [Act.put, List.setIfInBounds_toArray, List.set_cons_zero, List.set_cons_succ]
    refine hd_taken 1 (some 25) _ ?hdv1 rfl rfl (by kernel_rfl) (fun _ _ _ h => h) (Or.inl ⟨by kernel_rfl, ?hdy1⟩) hS ?hdr1
    case hdy1 => (intro wx hx; (try dsimp only at hx); go_simp; try with_reducible rfl)
    try simp only [Act.put, List.setIfInBounds_toArray, List.set_cons_zero, List.set_cons_succ]
    refine hd_taken 2 (some 26) _ ?hdv2 rfl rfl (by kernel_rfl) (fun _ _ _ h => h) (Or.inl ⟨by kernel_rfl, ?hdy2⟩) hS ?hdr2
    case hdy2 => (intro wx hx; (try dsimp only at hx); go_simp; try with_reducible rfl)
    try simp only [Act.put, List.setIfInBounds_toArray, List.set_cons_zero, List.set_cons_succ]
    refine hd_taken 4 (some 28) _ ?hdv4 rfl rfl (by kernel_rfl) (fun _ _ _ h => h) (Or.inl ⟨by kernel_rfl, ?hdy4⟩) hS ?hdr4
    case hdy4 => (intro wx hx; (try dsimp only at hx); go_simp; try with_reducible rfl)
    try simp only [Act.put, List.setIfInBounds_toArray, List.set_cons_zero, List.set_cons_succ]
    refine hd_listI [3, 5] (by kernel_rfl) (by decide) (by decide) (fun i hi => ?_)
    simp only [List.mem_cons, List.not_mem_nil, or_false] at hi
    rcases hi with rfl | rfl
    · refine ⟨_, rfl, fun K3 hK3 => ?_⟩
      have om := own_madeS wd w1.heap.size N HZD.out (by have := HN0.out; omega)
      have bm := (Below.refl wd.heap.size wd).alloc (Nat.le_refl _) (.cells (madeCells #[.string ByteArray.empty] N) 9)
      obtain ⟨wm, hwm⟩ : ∃ wm, wd.alloc (.cells (madeCells #[.string ByteArray.empty] N) 9) = wm := ⟨_, rfl⟩
      have hmk1 := hmk wd
      rw [hwm] at om bm hmk1
      clear hmk
      go_simp
      refine hK3.out _ _ trivial ?_
      clear hK3 K3 hmk1
      try simp only [Act.put, List.setIfInBounds_toArray, List.set_cons_zero, List.set_cons_succ]
      refine hd_one 5 _ rfl (by kernel_rfl) (by decide) (fun K5 hK5 => ?_)
      go_simp
      refine (HFRA.out g _ wm (HPD.out.below bm)).mono ?_
      rintro e w5 ⟨v7, Qf, rfl, o7, f7, b7⟩
      try dsimp only
      refine hK5.out _ _ trivial ?_
      clear hK5 K5
      try simp only [Act.put, List.setIfInBounds_toArray, List.set_cons_zero, List.set_cons_succ]
      refine hd_taken 6 (some 6) _ ?hdva6 rfl rfl (by kernel_rfl) (fun _ _ _ h => h) (Or.inl ⟨by kernel_rfl, ?hdya6⟩) trivial ?hdra6
      case hdya6 => (intro wx hx; (try dsimp only at hx); go_simp; try with_reducible rfl)
      try simp only [Act.put, List.setIfInBounds_toArray, List.set_cons_zero, List.set_cons_succ]
      refine hd_done (by kernel_rfl) ?_
      simp only [List.drop_succ_cons, List.drop_zero]
      have HFIN : Hid (Own1 1 encT w5 w1.heap.size 9 (.slice (some ⟨wd.heap.size, 0, none⟩) N N) (List.replicate N []) ∧ Own1 3 encFr w5 w1.heap.size 169 v7 (Qf.map (frOf l)) ∧ Below w1.heap.size w1 w5) := Lib.hid ⟨own_below om b7, o7.base (by have := HZD.out; have := bm.size; omega), HBD.out.trans ((st bm b7 bm.size).mono HZD.out)⟩
      have HF7 := Lib.hid f7
      clear om bm o7 f7 b7 hwm
      go_wp2_with fail
      go_meet
      exact ⟨_, Qf, rfl, HFIN.out.1, HFIN.out.2.1, HF7.out, HZD.out, HFIN.out.2.2⟩
    · refine ⟨_, rfl, fun K5 hK5 => ?_⟩
      go_simp
      refine (HFRA.out g _ wd HPD.out).mono ?_
      rintro e w5 ⟨v7, Qf, rfl, o7, f7, b7⟩
      try dsimp only
      refine hK5.out _ _ trivial ?_
      clear hK5 K5
      try simp only [Act.put, List.setIfInBounds_toArray, List.set_cons_zero, List.set_cons_succ]
      refine hd_one 3 _ rfl (by kernel_rfl) (by decide) (fun K3 hK3 => ?_)
      have z5 : w1.heap.size ≤ w5.heap.size := by have := HZD.out; have := b7.size; omega
      have om := own_madeS w5 w1.heap.size N z5 (by have := HN0.out; omega)
      have bm := (Below.refl w5.heap.size w5).alloc (Nat.le_refl _) (.cells (madeCells #[.string ByteArray.empty] N) 9)
      obtain ⟨wm, hwm⟩ : ∃ wm, w5.alloc (.cells (madeCells #[.string ByteArray.empty] N) 9) = wm := ⟨_, rfl⟩
      have hmk1 := hmk w5
      rw [hwm] at om bm hmk1
      clear hmk
      go_simp
      refine hK3.out _ _ trivial ?_
      clear hK3 K3 hmk1
      try simp only [Act.put, List.setIfInBounds_toArray, List.set_cons_zero, List.set_cons_succ]
      refine hd_taken 6 (some 6) _ ?hdvb6 rfl rfl (by kernel_rfl) (fun _ _ _ h => h) (Or.inl ⟨by kernel_rfl, ?hdyb6⟩) trivial ?hdrb6
      case hdyb6 => (intro wx hx; (try dsimp only at hx); go_simp; try with_reducible rfl)
      try simp only [Act.put, List.setIfInBounds_toArray, List.set_cons_zero, List.set_cons_succ]
      refine hd_done (by kernel_rfl) ?_
      simp only [List.drop_succ_cons, List.drop_zero]
      have HFIN : Hid (Own1 1 encT wm w1.heap.size 9 (.slice (some ⟨w5.heap.size, 0, none⟩) N N) (List.replicate N []) ∧ Own1 3 encFr wm w1.heap.size 169 v7 (Qf.map (frOf l)) ∧ Below w1.heap.size w1 wm) := Lib.hid ⟨om, own_below (o7.base HZD.out) bm, HBD.out.trans ((st b7 bm b7.size).mono HZD.out)⟩
      have HF7 := Lib.hid f7
      have HZ5 := Lib.hid z5
      clear om bm o7 f7 b7 hwm z5
      go_wp2_with fail
      go_meet
      exact ⟨_, Qf, rfl, HFIN.out.1, HFIN.out.2.1, HF7.out, HZ5.out, HFIN.out.2.2⟩
  case rest =>
    rename World => w2
    obtain ⟨B, Qf, rfl, hol, hof, hff, hB1, hb2⟩ := hcut
    obtain ⟨pf, cf, hvf⟩ := hof.slice
    subst hvf
    have HOLs := Lib.hid hol
    have HOF := Lib.hid hof
    have HFF := Lib.hid hff
    have HB1 := Lib.hid hB1
    have B2 := Lib.hid hb2
    have z2 := hb2.size
    have HP2 := Lib.hid (HP.out.below hb2)
    clear hol hof hff hB1 hb2 HD HBD HPD HFRA HRO HA HSML HV
    obtain ⟨F, hF⟩ : ∃ F, Qf.map (frOf l) = F := ⟨_, rfl⟩
    have HFTX : Hid (∀ f ∈ F, f.tx.length ≤ 100 ∧ f.hold < 18446744073709551616 ∧ f.kept < 18446744073709551616) := Lib.hid (fun f hf => by
      rw [← hF] at hf
      obtain ⟨z, hz, rfl⟩ := List.mem_map.1 hf
      obtain ⟨h1, h2, h3⟩ := HFF.out.run z hz
      have h4 := (HRUNOK2.out z.1).1.hold
      rw [h1] at h4
      refine ⟨?_, h4, ?_⟩
      · show (if z.1 = [] then [] else 58 :: chS z.1 : Str).length ≤ 100
        split
        · simp
        · rw [List.length_cons, chS_len]; omega
      · show (if z.2.int = true then on l 2 ||| on l 1 else on l 2) < _
        split
        · exact or_lt HON2.out HON1.out
        · exact HON2.out)
    have HFE := Lib.hid hF
    have hfl : F.length ≤ 2985984 := by
      have := bound_frac (nxR l p q s) (stRg l 2) (Qf.map Prod.snd) HFF.out.nd (fun x hx => by
        obtain ⟨z, hz, rfl⟩ := List.mem_map.1 hx
        obtain ⟨h1, h2, h3⟩ := HFF.out.run z hz
        exact ⟨z.1, h2, h3, h1⟩)
      rw [List.length_map] at this
      rw [← hF, List.length_map]
      exact this
    rw [hF] at HOF
    try rw [hF]
    clear hF
    go_wp2_with fail
    refine (HSTA.out g _ w2 HP2.out).mono ?_
    rintro e w2a ⟨rfl, b2a⟩
    have B2a := Lib.hid b2a
    clear b2a
    go_wp2_with fail
    refine (HSEA.out g _ w2a (HP2.out.below B2a.out)).mono ?_
    rintro e w3 ⟨vq, Qw, rfl, owq, fnd, b3⟩
    obtain ⟨pq, cq, hvq⟩ := owq.slice
    subst hvq
    have B3 := Lib.hid (st B2a.out b3 B2a.out.size)
    have HFD := Lib.hid fnd
    have HQ1 : Hid (1 ≤ Qw.length) := Lib.hid (by have := (List.getElem?_eq_some_iff.1 fnd.head).1; omega)
    have HQN : Hid (Qw.length ≤ 403) := Lib.hid (by
      have := HBW.out (Qw.map Prod.snd) fnd.nd (fun x hx => by
        obtain ⟨z, hz, rfl⟩ := List.mem_map.1 hx
        obtain ⟨h1, h2, h3⟩ := fnd.run z hz
        exact ⟨z.1, h2, h3, h1⟩)
      rwa [List.length_map] at this)
    have hol3 := own_below HOLs.out B3.out
    obtain ⟨_, Lcs, hLb⟩ := own_blk hol3 B rfl
    have HFW0 : Hid (FW w1 w3 B N (List.replicate N []) w3) := Lib.hid ⟨hol3, Bt.refl _ _ _, by simp, fun x hx => by rw [List.eq_of_mem_replicate hx]; simp⟩
    have HNB : Hid (∀ b, (Value.slice pq Qw.length cq).ownBlock = some b → b < w3.heap.size ∧ b ≠ B) := Lib.hid (fun b hb => ⟨(own_lt owq b hb).2, fun e => own_type owq hLb (by decide) (by rw [← e]; exact hb)⟩)
    have HNF : Hid (∀ b, (Value.slice pf F.length cf).ownBlock = some b → b < w3.heap.size ∧ b ≠ B) := Lib.hid (fun b hb => by
      have hof3 := own_below HOF.out B3.out
      exact ⟨(own_lt hof3 b hb).2, fun e => own_type hof3 hLb (by decide) (by rw [← e]; exact hb)⟩)
    have HRF := Lib.hid ((HOF.out.below B3.out).rd encFr_len)
    obtain ⟨pd, cd, hrd, hbd, hr1, hr2⟩ := Rd.tail_ (P := Tryz.prog) (T := 140) (e := 147) (i := iA) Tryz.underlying140 hiA hkA (owq.rd encAr_len) 1 HQ1.out
    have HR1 : Hid (∀ wx, (Instr.slice 140 (.slice pq Qw.length cq) (some (.int .i64 1)) none none).run Tryz.prog wx = .ok (.slice pd (Qw.length - 1) cd) wx) := Lib.hid hr1
    have HR2 : Hid (∀ wx, (Instr.sliceAt 140 (.slice pq Qw.length cq) (some (.int .i64 1)) none none).run Tryz.prog wx = .ok (.slice pd (Qw.length - 1) cd) wx) := Lib.hid hr2
    have HZ31 : Hid (w1.heap.size ≤ w2.heap.size ∧ w2.heap.size ≤ w3.heap.size) := Lib.hid ⟨z2, B3.out.size⟩
    have HDR : Hid (∀ z ∈ Qw.drop 1, z.1.length ≤ 15 ∧ z.2.hold < 18446744073709551616) := Lib.hid (fun z hz => by
      obtain ⟨h1, h2, h3⟩ := fnd.run z (List.mem_of_mem_drop hz)
      have h4 := (HRUNOK.out z.1).1.hold
      rw [h1] at h4
      exact ⟨h3, h4⟩)
    obtain ⟨D, hD⟩ : ∃ D, Qw.drop 1 = D := ⟨_, rfl⟩
    have HDL : Hid (D.length = Qw.length - 1) := Lib.hid (by rw [← hD, List.length_drop])
    have HDE := Lib.hid hD
    rw [hD] at hrd HDR
    obtain ⟨nd, hnd⟩ : ∃ nd, Qw.length - 1 = nd := ⟨_, rfl⟩
    rw [hnd] at hrd hbd HR1 HR2 HDL
    have HRD := Lib.hid hrd
    have HBD2 := Lib.hid hbd
    have hndl : nd ≤ 403 := by have := HQN.out; omega
    have hr1 := HR1.out
    have hr2 := HR2.out
    have HND := HDL.out
    clear owq fnd b3 hol3 hLb hrd hbd hD hnd
    go_wp2_with fail
    clear hr1 hr2
    go_loopw [36] (fun v36 wr => ∃ i : Nat, i ≤ D.length ∧ v36 = .int .i64 (i : Nat) ∧ FW w1 w3 B N (outL cs F (D.take i) (List.replicate N [])) wr) (fun v36 _ => D.length - (intOf v36).toNat)
    case atStart => exact ⟨0, Nat.zero_le _, rfl, HFW0.out⟩
    case round =>
      obtain ⟨i, hi, rfl, hfw⟩ := hrel
      have HFW := Lib.hid hfw
      have zr := hfw.bt.size
      clear hfw
      by_cases hlt : i < D.length
      · have h9 : (i : Int) < (nd : Int) := by have := HDL.out; omega
        have hrdb := HRD.out.bt HFW.out.bt (fun b hb => HNB.out b (HBD2.out b hb))
        obtain ⟨b5, f5, hp5, hl5, c0, c1, c2, c3', c4, c5⟩ := hrdb.arr i hlt
        subst hp5
        have HDI := Lib.hid (HDR.out _ (List.getElem_mem hlt))
        have HTK := Lib.hid (outL_succ cs F D (List.replicate N []) hlt)
        obtain ⟨⟨u, x1, x2, x3, x4, x5⟩, hqe⟩ : ∃ q, D[i] = q := ⟨_, rfl⟩
        rw [hqe] at HDI c0 c1 c2 c3' c4 c5 HTK
        dsimp only at HDI c0 c1 c2 c3' c4 c5
        obtain ⟨U, hU⟩ : ∃ U, chS u = U := ⟨_, rfl⟩
        have HUL : Hid (U.length ≤ 15) := Lib.hid (by rw [← hU, chS_len]; exact HDI.out.1)
        have HUE := Lib.hid hU
        rw [hU] at c0
        have HINN := Lib.hid (fun j hj => innL_succ cs (u, ⟨x1, x2, x3, x4, x5⟩) F (outL cs F (D.take i) (List.replicate N [])) (j := j) hj)
        have HINE : Hid (innL cs (u, ⟨x1, x2, x3, x4, x5⟩) (F.take F.length) (outL cs F (D.take i) (List.replicate N [])) = outL cs F (D.take (i + 1)) (List.replicate N [])) := Lib.hid (by rw [List.take_length, HTK.out])
        obtain ⟨L0, hL0⟩ : ∃ L0, outL cs F (D.take i) (List.replicate N []) = L0 := ⟨_, rfl⟩
        rw [hL0] at HFW HINN HINE
        try rw [hL0]
        have kx := Blk.new wr 147 #[.string (ofL U), .int .i64 x1, .int .u64 x2, .int .i64 x3, .int .i64 x4, .bool x5]
        have bx := (Below.refl wr.heap.size wr).alloc (Nat.le_refl _) (.cells #[.string (ofL U), .int .i64 x1, .int .u64 x2, .int .i64 x3, .int .i64 x4, .bool x5] 147)
        obtain ⟨gx, hgx⟩ : ∃ gx, wr.heap.size = gx := ⟨_, rfl⟩
        obtain ⟨X, hX⟩ : ∃ X, wr.alloc (.cells #[.string (ofL U), .int .i64 x1, .int .u64 x2, .int .i64 x3, .int .i64 x4, .bool x5] 147) = X := ⟨_, rfl⟩
        have HFX := Lib.hid (HFW.out.below bx)
        rw [hX] at kx bx HFX
        rw [hgx] at kx
        have HKX := Lib.hid kx
        have HXE := Lib.hid hX
        have HGX : Hid (B < gx) := Lib.hid (by rw [← hgx]; have := (own_lt HFW.out.own B rfl).2; exact this)
        clear hqe hU kx bx hX hL0 hrdb
        go_upto_region 9 with fail
        rw [HXE.out]
        try rw [hgx]
        clear hgx c0 c1 c2 c3' c4 c5
        go_wp2_with fail
        go_loopw [42] (fun v42 wz => ∃ j : Nat, j ≤ F.length ∧ v42 = .int .i64 (j : Nat) ∧ FW w1 w3 B N (innL cs (u, ⟨x1, x2, x3, x4, x5⟩) (F.take j) L0) wz ∧ Blk gx 147 #[.string (ofL U), .int .i64 x1, .int .u64 x2, .int .i64 x3, .int .i64 x4, .bool x5] wz) (fun v42 _ => F.length - (intOf v42).toNat)
        case atStart => exact ⟨0, Nat.zero_le _, rfl, HFX.out, HKX.out⟩
        case round =>
          rename World => wz
          obtain ⟨j, hj, rfl, hfw, hkx⟩ := hrel
          have HFZ := Lib.hid hfw
          have HKZ := Lib.hid hkx
          have zz := hfw.bt.size
          clear hfw hkx HFX HKX HFW HXE
          by_cases hjt : j < F.length
          · have h8 : (j : Int) < (F.length : Int) := by omega
            have hrfb := HRF.out.bt HFZ.out.bt (fun b hb => HNF.out b hb)
            obtain ⟨b6, f6, hp6, hl6, d0, d1, d2⟩ := hrfb.fra j hjt
            subst hp6
            have HFT := Lib.hid (HFTX.out _ (List.getElem_mem hjt))
            have HST := Lib.hid (HINN.out j hjt)
            have HSB := Lib.hid (HSETB.out ⟨x1, x2, x3, x4, x5⟩ F[j])
            have HSD := Lib.hid (HSETD.out ⟨x1, x2, x3, x4, x5⟩ F[j])
            have HTX : Hid (txN u F[j] = U ++ F[j].tx) := Lib.hid (by unfold txN; rw [HUE.out])
            obtain ⟨⟨ft, fh, fk⟩, hfe⟩ : ∃ f, F[j] = f := ⟨_, rfl⟩
            rw [hfe] at d0 d1 d2 HFT HST HSB HSD HTX
            dsimp only at d0 d1 d2 HFT HST HSB HSD HTX
            obtain ⟨LJ, hLJ⟩ : ∃ LJ, innL cs (u, ⟨x1, x2, x3, x4, x5⟩) (F.take j) L0 = LJ := ⟨_, rfl⟩
            rw [hLJ] at HFZ HST
            try rw [hLJ]
            obtain ⟨c, hc⟩ : ∃ c, setN cs ⟨x1, x2, x3, x4, x5⟩ ⟨ft, fh, fk⟩ = c := ⟨_, rfl⟩
            rw [hc] at HST HSB HSD
            obtain ⟨n, hn⟩ : ∃ n, txN u ⟨ft, fh, fk⟩ = n := ⟨_, rfl⟩
            rw [hn] at HST HTX
            have HNL : Hid (n.length ≤ 200) := Lib.hid (by rw [HTX.out, List.length_append]; have := HUL.out; have := HFT.out.1; omega)
            have hadd : ∀ wx, (Op.stringOp .add (ofL U) (ofL ft)).run Tryz.prog wx = .ok (.string (ofL n)) wx := fun wx => str_add (by have := HUL.out; have := HFT.out.1; omega) HTX.out.symm wx
            have a1 : bits .and .u64 (x2 : Int) (fk : Int) = ((x2 &&& fk : Nat) : Int) := u64_and_nat x2 fk HDI.out.2 HFT.out.2.2
            have HAL : Hid (x2 &&& fk < 18446744073709551616) := Lib.hid (and_lt HDI.out.2)
            obtain ⟨A, hA⟩ : ∃ A, x2 &&& fk = A := ⟨_, rfl⟩
            rw [hA] at a1 HAL HSD
            have a2 : bits .or .u64 (A : Int) (fh : Int) = ((A ||| fh : Nat) : Int) := u64_or_nat A fh HAL.out HFT.out.2.1
            have HOL2 : Hid (A ||| fh < 18446744073709551616) := Lib.hid (or_lt HAL.out HFT.out.2.1)
            obtain ⟨O, hO⟩ : ∃ O, A ||| fh = O := ⟨_, rfl⟩
            rw [hO] at a2 HOL2 HSD
            have kf := Blk.new wz 169 #[.string (ofL ft), .int .u64 fh, .int .u64 fk]
            have bf := (Below.refl wz.heap.size wz).alloc (Nat.le_refl _) (.cells #[.string (ofL ft), .int .u64 fh, .int .u64 fk] 169)
            obtain ⟨gf, hgf⟩ : ∃ gf, wz.heap.size = gf := ⟨_, rfl⟩
            obtain ⟨Y, hY⟩ : ∃ Y, wz.alloc (.cells #[.string (ofL ft), .int .u64 fh, .int .u64 fk] 169) = Y := ⟨_, rfl⟩
            have HFY := Lib.hid (HFZ.out.below bf)
            have HKY := Lib.hid (HKZ.out.below bf)
            rw [hY] at kf bf HFY HKY
            rw [hgf] at kf
            have HKF := Lib.hid kf
            have HYE := Lib.hid hY
            have HPY : Hid (RelP Y g l (listsO 0 cs) p q s) := Lib.hid (HP.out.below (by
              have h1 : Below w1.heap.size w1 w3 := B2.out.trans (B3.out.mono HZ31.out.1)
              exact h1.trans (bt_below HFY.out.bt (by have := HZ31.out; omega) HB1.out)))
            clear hfe hLJ hn hA hO hc kf bf hY hrfb
            go_upto_region 12 with fail
            rw [HYE.out]
            try rw [hgf]
            clear hgf d0 d1 d2
            have q2 : Y.cell? ⟨gx, 2, none⟩ = some (.int .u64 x2) := HKY.out.cell 2
            have q0 : Y.cell? ⟨gf, 1, none⟩ = some (.int .u64 fh) := HKF.out.cell 1
            have q1 : Y.cell? ⟨gf, 2, none⟩ = some (.int .u64 fk) := HKF.out.cell 2
            have HCO := Lib.hid (conditions_any g l (listsO 0 cs) p q s (by rw [HLSN.out]; omega) HLS.out O HOL2.out Y HPY.out)
            rw [HLSN.out, ← HSD.out] at HCO
            go_wp2_with fail
            refine HCO.out.mono ?_
            rintro e w5 ⟨rfl, b5⟩
            have HF5 := Lib.hid (HFY.out.below b5)
            have HK5 := Lib.hid (HKY.out.below b5)
            have HG5 := Lib.hid (HKF.out.below b5)
            clear b5 q0 q1 q2 HCO
            have r0 : w5.cell? ⟨gx, 0, none⟩ = some (.string (ofL U)) := HK5.out.cell 0
            have r1 : w5.cell? ⟨gf, 0, none⟩ = some (.string (ofL ft)) := HG5.out.cell 0
            have hcl : c < LJ.length := by rw [HF5.out.len]; exact HSB.out
            obtain ⟨bL, fL, hbL, r2⟩ := (HF5.out.own.rd encT_len).str c hcl
            cases hbL
            rw [Nat.zero_add] at r2
            have HUPD : Hid (updL LJ c n = if isB n LJ[c] = true then LJ.set c n else LJ) := Lib.hid (by unfold updL; rw [List.getD_eq_getElem?_getD, List.getElem?_eq_getElem hcl]; rfl)
            have HLJS := Lib.hid (HF5.out.sm _ (List.getElem_mem hcl))
            obtain ⟨o, ho⟩ : ∃ o, LJ[c] = o := ⟨_, rfl⟩
            rw [ho] at r2 HUPD HLJS
            have h7 : (c : Int) < (N : Int) := by have := HSB.out; omega
            have HISB := Lib.hid (isBefore_any n o (by have := HNL.out; omega) (by have := HLJS.out; omega) w5)
            obtain ⟨y, hy⟩ : ∃ y, isB n o = y := ⟨_, rfl⟩
            rw [hy] at HISB HUPD
            clear ho hy hcl
            go_wp2_with fail
            refine HISB.out.mono ?_
            rintro e w6 ⟨rfl, hw6⟩
            obtain rfl := hw6.symm
            cases y with
            | true =>
              have r3 : w5.frozen? ⟨B, c, none⟩ = false := by
                obtain ⟨_, cs5, hb5⟩ := own_blk HF5.out.own B rfl
                exact hb5.frozen c
              have HGO : Hid (innL cs (u, ⟨x1, x2, x3, x4, x5⟩) (F.take (j + 1)) L0 = LJ.set c n) := Lib.hid (by rw [HST.out, HUPD.out, if_pos rfl])
              have HFP := Lib.hid (HF5.out.put c (x := n) (by have := HNL.out; omega))
              have HKP := Lib.hid (HK5.out.far (p := ⟨B, c, none⟩) (by show gx ≠ B; have := HGX.out; omega) (.string (ofL n)))
              go_wp2
              go_roundw
              case measure => simp [intOf] <;> omega
              case rel => exact ⟨j + 1, by omega, by go_num, by rw [HGO.out]; exact HFP.out, HKP.out⟩
            | false =>
              have HGO : Hid (innL cs (u, ⟨x1, x2, x3, x4, x5⟩) (F.take (j + 1)) L0 = LJ) := Lib.hid (by rw [HST.out, HUPD.out, if_neg (by decide)])
              go_wp2
              go_roundw
              case measure => simp [intOf] <;> omega
              case rel => exact ⟨j + 1, by omega, by go_num, by rw [HGO.out]; exact HF5.out, HK5.out⟩
          · obtain rfl : j = F.length := by omega
            have h8 : ¬ (F.length : Int) < (F.length : Int) := by omega
            have HFN : Hid (FW w1 w3 B N (outL cs F (D.take (i + 1)) (List.replicate N [])) wz) := Lib.hid (by rw [← HINE.out]; exact HFZ.out)
            go_wp2
            go_roundw
            case measure => simp [intOf] <;> omega
            case rel => exact ⟨i + 1, by omega, by go_num, HFN.out⟩
      · obtain rfl : i = D.length := by omega
        have h9 : ¬ ((D.length : Nat) : Int) < (nd : Int) := by have := HDL.out; omega
        have HEND := Lib.hid (HRP.out (.slice (some ⟨B, 0, none⟩) N N) Qw Qf wr (by
          have h1 := HFW.out.own
          rw [List.take_length] at h1
          rw [HFIR.out, HFE.out, HDE.out]
          exact h1.base B1.out.size) HFD.out HFF.out (by
          have h1 : Below w1.heap.size w1 w3 := B2.out.trans (B3.out.mono HZ31.out.1)
          exact st B1.out (h1.trans (bt_below HFW.out.bt (by have := HZ31.out; omega) HB1.out)) B1.out.size))
        go_wp2
        exact HEND.out
end Go.Proofs.YtfbfcomfkokfcaaGreatDoor


/- Of decide: where. -/
namespace Go.Proofs.YtfbfcomfkokfcaaGreatDoor
open Go.RowKit Go.Maps
set_option linter.unusedVariables false

/-! ### The text with a point -/
def ptS (s : Str) : Str := s.map (fun c => if c = 58 then 46 else c)
theorem ptS_len (s : Str) : (ptS s).length = s.length := by unfold ptS; rw [List.length_map]
theorem ptS_no : ∀ {s : Str}, 58 ∉ s → ptS s = s
  | [], _ => rfl
  | c :: s, h => by
    unfold ptS
    rw [List.map_cons, if_neg (fun e => h (by rw [e]; exact List.mem_cons_self))]
    exact congrArg (c :: ·) (ptS_no (s := s) (fun hm => h (List.mem_cons_of_mem _ hm)))
theorem ptS_append (a b : Str) : ptS (a ++ b) = ptS a ++ ptS b := by unfold ptS; rw [List.map_append]
theorem idx_colon : ∀ (s : Str), (Lib.index s [58] = -1 ∧ 58 ∉ s) ∨ ∃ a b, s = a ++ 58 :: b ∧ 58 ∉ a ∧ Lib.index s [58] = (a.length : Nat)
  | [] => .inl ⟨by decide, by simp⟩
  | c :: s => by
    by_cases hc : c = 58
    · subst hc
      refine .inr ⟨[], s, rfl, by simp, ?_⟩
      have e : List.isPrefixOf [58] ((58 : UInt8) :: s) = true := by simp [List.isPrefixOf]
      rw [Lib.index, if_pos e]
      rfl
    · have e : ¬ List.isPrefixOf [58] (c :: s) = true := by simp [List.isPrefixOf]; exact fun h => hc h.symm
      rcases idx_colon s with ⟨h1, h2⟩ | ⟨a, b, h1, h2, h3⟩
      · refine .inl ⟨?_, ?_⟩
        · rw [Lib.index, if_neg e, h1]; rfl
        · intro hm
          rcases List.mem_cons.1 hm with h | h
          · exact hc h.symm
          · exact h2 h
      · refine .inr ⟨c :: a, b, by rw [h1]; rfl, ?_, ?_⟩
        · intro hm
          rcases List.mem_cons.1 hm with h | h
          · exact hc h.symm
          · exact h2 h
        · have e2 : ¬ (Lib.index s [58] == -1) = true := by rw [h3, beq_iff_eq]; omega
          rw [Lib.index, if_neg e, if_neg e2, h3, List.length_cons]
          omega
theorem repl_colon : ∀ (n : Nat) (s : Str), s.length ≤ n → ∀ k, Lib.count s [58] ≤ k → Lib.replaceK [58] [46] k s = ptS s := by
  intro n
  induction n with
  | zero =>
    intro s hs k _
    obtain rfl : s = [] := List.length_eq_zero_iff.1 (by omega)
    cases k with
    | zero => rfl
    | succ k => rfl
  | succ n ih =>
    intro s hs k hk
    rcases idx_colon s with ⟨h1, h2⟩ | ⟨a, b, h1, h2, h3⟩
    · rw [ptS_no h2]
      cases k with
      | zero => rfl
      | succ k => rw [Lib.replaceK, if_pos (by rw [h1]; rfl)]
    · have hc := Lib.count_hit (sub := [58]) (by simp) h3
      cases k with
      | zero => omega
      | succ k =>
        rw [Lib.replaceK_hit _ _ _ _ _ h3]
        have e1 : s.take a.length = a := by rw [h1, List.take_left]
        have e2 : s.drop (a.length + [(58 : UInt8)].length) = b := by
          rw [h1, List.drop_append, List.drop_of_length_le (by simp)]
          simp
        rw [e2] at hc ⊢
        rw [e1, ih b (by rw [h1] at hs; simp at hs; omega) k (by omega), h1, ptS_append, ptS_no h2]
        have e3 : ptS (58 :: b) = 46 :: ptS b := rfl
        rw [e3]
        simp
theorem replAll_colon (s : Str) : Lib.replaceAll s [58] [46] = ptS s := by
  unfold Lib.replaceAll Lib.replace
  have e : ([(58 : UInt8)] == [46]) = false := by decide
  rw [e]
  have e2 : Lib.replaceNum s [58] (-1) = Lib.count s [58] := by unfold Lib.replaceNum; rw [if_pos (Or.inl (by decide))]
  rw [e2]
  exact repl_colon s.length s (Nat.le_refl _) _ (Nat.le_refl _)

/-! ### The first of the list for which something is true -/
def stepW (p : Nat → Bool) (L : List Str) (best : Str) (k : Nat) : Str := if (decide (L.getD k [] ≠ []) && (p k && isB (L.getD k []) best)) = true then L.getD k [] else best
def wheL (p : Nat → Bool) (L : List Str) (n : Nat) : Str := (List.range n).foldl (stepW p L) []
theorem wheL_succ (p : Nat → Bool) (L : List Str) (n : Nat) : wheL p L (n + 1) = stepW p L (wheL p L n) n := by
  unfold wheL
  rw [List.range_succ, List.foldl_append]
  rfl
theorem wheL_len {p : Nat → Bool} {L : List Str} {m : Nat} (h : ∀ x ∈ L, x.length ≤ m) : ∀ n, (wheL p L n).length ≤ m
  | 0 => Nat.zero_le _
  | n + 1 => by
    rw [wheL_succ]
    unfold stepW
    split
    · rw [List.getD_eq_getElem?_getD]
      cases hx : L[n]? with
      | none => exact Nat.zero_le _
      | some x => exact h x (List.mem_of_getElem? hx)
    · exact wheL_len h n
structure MaxL (w : World) : Prop where
  is : ∃ m : Int, w.cell? ⟨0, 0, none⟩ = some (.int .i64 m)
  pos : 0 < w.heap.size
theorem MaxL.below {w w' : World} (h : MaxL w) (hb : Below w.heap.size w w') : MaxL w' := by
  obtain ⟨⟨m, hm⟩, hp⟩ := h
  exact ⟨⟨m, (hb.cell (p := ⟨0, 0, none⟩) hp).trans hm⟩, Nat.lt_of_lt_of_le hp hb.size⟩
set_option maxRecDepth 1000000 in
set_option maxHeartbeats 4000000 in
theorem replC_any (s : Str) (hs : s.length ≤ 1000000) (w : World) (hm : MaxL w) :
    Calls Tryz.prog 113 #[.string (ofL s), .string (ofL [58]), .string (ofL [46])] w fun e w' => e = .returned (.string (ofL (ptS s))) ∧ Below w.heap.size w w' := by
  obtain ⟨⟨m, hm⟩, hp⟩ := hm
  have h1 := ofL_size s
  have h2 : Lib.countB (ofL s) (ofL [58]) ≤ s.length + 1 := Lib.count_le s [58]
  have h3 : (ofL [46]).size = 1 := rfl
  refine (Tryz.strings_ReplaceAll (ofL s) (ofL [58]) (ofL [46]) m w (by omega) hm (by decide) (by rw [h3, Nat.mul_one]; omega)).mono ?_
  rintro e w' ⟨rfl, hw⟩
  refine ⟨?_, hw⟩
  have e1 : Lib.replaceAll (ofL s).data.toList (ofL [58]).data.toList (ofL [46]).data.toList = ptS s := replAll_colon s
  rw [e1]
  rfl
set_option maxRecDepth 1000000 in
set_option maxHeartbeats 8000000 in
theorem where_any (v : Value) (L : List Str) (p : Nat → Bool) (g : Nat) (lb : Array Value) (eg : ∀ args w, (callFunc g args).run Tryz.prog w = .ok (.enter g args) w) (w : World) (hv : Rd 1 encT w v L) (hL : L.length ≤ 1024) (hx : ∀ x ∈ L, x.length ≤ 1000000) (hm : MaxL w)
    (hF : ∀ (W : World) (c : Nat), c < L.length → Below w.heap.size w W → Calls Tryz.prog g (#[.int .u64 (c : Int)] ++ lb) W fun e w' => e = .returned (.bool (p c)) ∧ w' = W) :
    Calls Tryz.prog 65 #[v, .func (.func g) #[] lb] w fun e w' => e = .returned (.string (ofL (ptS (wheL p L L.length)))) ∧ Below w.heap.size w w' := by
  obtain ⟨a, c, rfl, hc1, hc2⟩ := hv.slice
  have HU := Lib.hid hv
  have HF := Lib.hid hF
  have HM := Lib.hid hm
  have HX := Lib.hid hx
  clear hv hF hm hx
  go_enter Tryz.func65, Tryz.ntmps65
  go_wp2
  go_loopw [5, 10] (fun v5 v10 wr => ∃ k : Nat, k ≤ L.length ∧ v10 = .int .i64 k ∧ v5 = .string (ofL (wheL p L k)) ∧ Below w.heap.size w wr) (fun _ v10 _ => L.length - (intOf v10).toNat)
  case atStart => exact ⟨0, Nat.zero_le _, rfl, rfl, Below.refl _ _⟩
  case round =>
    obtain ⟨k, hk, rfl, rfl, hb⟩ := hrel
    have HB := Lib.hid hb
    have zr := hb.size
    clear hb
    obtain ⟨O, hO⟩ : ∃ O, wheL p L k = O := ⟨_, rfl⟩
    have HOL : Hid (O.length ≤ 1000000) := Lib.hid (by rw [← hO]; exact wheL_len HX.out k)
    rw [hO]
    by_cases hlt : k < L.length
    · obtain ⟨bk, off, rfl, h0⟩ := (HU.out.below HB.out).str k hlt
      have h9 : (k : Int) < (L.length : Int) := by omega
      have hcall := HF.out wr k hlt HB.out
      have HST : Hid (wheL p L (k + 1) = if (decide (L[k] ≠ []) && (p k && isB L[k] O)) = true then L[k] else O) := Lib.hid (by
        rw [wheL_succ, hO]
        unfold stepW
        rw [List.getD_eq_getElem?_getD, List.getElem?_eq_getElem hlt]
        rfl)
      have HNL := Lib.hid (HX.out _ (List.getElem_mem hlt))
      obtain ⟨n, hn⟩ : ∃ n, L[k] = n := ⟨_, rfl⟩
      rw [hn] at h0 HST HNL
      obtain ⟨pb, hpb⟩ : ∃ pb, p k = pb := ⟨_, rfl⟩
      rw [hpb] at hcall HST
      have HC := Lib.hid hcall
      clear hn hpb hO hcall hlt
      by_cases hn0 : n = []
      · subst hn0
        have t0 : ((ofL []).toList == ([] : List UInt8)) = true := by rw [toL]; rfl
        have HGO : Hid (wheL p L (k + 1) = O) := Lib.hid (by rw [HST.out]; rfl)
        go_wp2_with fail
        go_roundw
        case measure => simp [intOf]; omega
        case rel => exact ⟨k + 1, by omega, by go_num, by rw [HGO.out], HB.out⟩
      · have t0 : ((ofL n).toList == ([] : List UInt8)) = false := by rw [beq_eq_false_iff_ne, toL]; exact hn0
        have t00 : (ofL n).toList.isEmpty = false := by rw [toL]; cases n with | nil => exact absurd rfl hn0 | cons x l => rfl
        have HST2 : Hid (wheL p L (k + 1) = if (pb && isB n O) = true then n else O) := Lib.hid (by rw [HST.out, decide_eq_true hn0, Bool.true_and])
        clear hn0 HST
        cases pb with
        | false =>
          have HGO : Hid (wheL p L (k + 1) = O) := Lib.hid (by rw [HST2.out]; rfl)
          go_wp2_with fail
          refine HC.out.mono ?_
          rintro e w2 ⟨rfl, hw2⟩
          obtain rfl := hw2.symm
          go_wp2_with fail
          go_roundw
          case measure => simp [intOf]; omega
          case rel => exact ⟨k + 1, by omega, by go_num, by rw [HGO.out], HB.out⟩
        | true =>
          have HISB := Lib.hid (isBefore_any n O HNL.out HOL.out wr)
          obtain ⟨y, hy⟩ : ∃ y, isB n O = y := ⟨_, rfl⟩
          rw [hy] at HISB HST2
          clear hy
          go_wp2_with fail
          refine HC.out.mono ?_
          rintro e w2 ⟨rfl, hw2⟩
          obtain rfl := hw2.symm
          go_wp2_with fail
          refine HISB.out.mono ?_
          rintro e w3 ⟨rfl, hw3⟩
          obtain rfl := hw3.symm
          cases y with
          | true =>
            have HGO : Hid (wheL p L (k + 1) = n) := Lib.hid (by rw [HST2.out]; rfl)
            go_wp2_with fail
            go_roundw
            case measure => simp [intOf]; omega
            case rel => exact ⟨k + 1, by omega, by go_num, by rw [HGO.out], HB.out⟩
          | false =>
            have HGO : Hid (wheL p L (k + 1) = O) := Lib.hid (by rw [HST2.out]; rfl)
            go_wp2_with fail
            go_roundw
            case measure => simp [intOf]; omega
            case rel => exact ⟨k + 1, by omega, by go_num, by rw [HGO.out], HB.out⟩
    · obtain rfl : k = L.length := by omega
      have h3 : ¬ (L.length : Int) < (L.length : Int) := by omega
      have HRE := Lib.hid (replC_any O HOL.out wr (HM.out.below HB.out))
      have HO := Lib.hid hO
      clear hO
      go_wp2_with fail
      refine HRE.out.mono ?_
      rintro e w2 ⟨rfl, hw2⟩
      have HB2 := Lib.hid (st HB.out hw2 zr)
      go_wp2
      go_ret
      exact ⟨by rw [HO.out]; rfl, HB2.out⟩
end Go.Proofs.YtfbfcomfkokfcaaGreatDoor


/- Plain facts on decide: the order of the texts; the lists of first numbers; where. -/
namespace Go.Proofs.YtfbfcomfkokfcaaGreatDoor
set_option linter.unusedVariables false

/-! ### The order of the texts -/
def okT (s : Str) : Prop := ∀ c ∈ s, isD c = true ∨ c = 58
def isLt (a b : Str) : Bool := decide (a.length < b.length) || (decide (a.length = b.length) && Op.bytesLess a b)
theorem isB_eq (a b : Str) : isB a b = (decide (b = []) || isLt a b) := rfl
theorem sy_pt {c : UInt8} (h : isD c = true ∨ c = 58) : sy0 (if c = 58 then 46 else c) + 48 = c.toNat := by
  rcases h with h | rfl
  · have e := isD_iff.1 h
    have hne : ¬ c = 58 := fun e2 => by rw [e2] at e; exact absurd e.2 (by decide)
    rw [if_neg hne, sy0_digit h]
    unfold dg
    omega
  · rfl
theorem less_lex : ∀ {a b : Str}, okT a → okT b → a.length = b.length → (Op.bytesLess a b = true ↔ lexW (wd0 (ptS a)) (wd0 (ptS b)))
  | [], [], _, _, _ => by simp [Op.bytesLess, ptS, wd0, lexW]
  | [], _ :: _, _, _, h => by simp at h
  | _ :: _, [], _, _, h => by simp at h
  | c :: a, d :: b, ha, hb, hl => by
    have hl' : a.length = b.length := by simpa using hl
    have ih := less_lex (fun x hx => ha x (by simp [hx])) (fun x hx => hb x (by simp [hx])) hl'
    have hc := sy_pt (ha c (by simp))
    have hd := sy_pt (hb d (by simp))
    have hu : Op.bytesLess (c :: a) (d :: b) = (decide (c < d) || (c == d && Op.bytesLess a b)) := by rw [Op.bytesLess]
    have e1 : wd0 (ptS (c :: a)) = sy0 (if c = 58 then 46 else c) :: wd0 (ptS a) := rfl
    have e2 : wd0 (ptS (d :: b)) = sy0 (if d = 58 then 46 else d) :: wd0 (ptS b) := rfl
    rw [hu, e1, e2, lexW, ← ih, Bool.or_eq_true, Bool.and_eq_true, decide_eq_true_iff, beq_iff_eq, UInt8.lt_iff_toNat_lt]
    constructor
    · rintro (h | ⟨h, k⟩)
      · exact .inl (by omega)
      · subst h
        exact .inr ⟨rfl, k⟩
    · rintro (h | ⟨h, k⟩)
      · exact .inl (by omega)
      · exact .inr ⟨u8_ext (by omega), k⟩
theorem lt_bef {a b : Str} (ha : okT a) (hb : okT b) : isLt a b = true ↔ befS (ptS a) (ptS b) := by
  unfold isLt befS bef
  rw [wd0_len, wd0_len, ptS_len, ptS_len, Bool.or_eq_true, Bool.and_eq_true, decide_eq_true_iff, decide_eq_true_iff]
  constructor
  · rintro (h | ⟨h, k⟩)
    · exact .inl h
    · exact .inr ⟨h, (less_lex ha hb h).1 k⟩
  · rintro (h | ⟨h, k⟩)
    · exact .inl h
    · exact .inr ⟨h, (less_lex ha hb h).2 k⟩
theorem lt_trans' {a b c : Str} (ha : okT a) (hb : okT b) (hc : okT c) (h : isLt a b = true) (k : isLt b c = true) : isLt a c = true :=
  (lt_bef ha hc).2 (bef_trans ((lt_bef ha hb).1 h) ((lt_bef hb hc).1 k))
theorem lt_irr {a : Str} (ha : okT a) : isLt a a = false := by
  cases h : isLt a a with
  | false => rfl
  | true => exact absurd ((lt_bef ha ha).1 h) (bef_irr _)
theorem lt_not {a b c : Str} (ha : okT a) (hb : okT b) (hc : okT c) (h : isLt a b = false) (k : isLt b c = false) : isLt a c = false := by
  cases hx : isLt a c with
  | false => rfl
  | true =>
    have h1 := (lt_bef ha hc).1 hx
    rcases bef_total (wd0 (ptS c)) (wd0 (ptS b)) with e | e | e
    · rw [(lt_bef ha hb).2 (bef_trans h1 e)] at h; cases h
    · rw [(lt_bef ha hb).2 (by unfold befS at h1 ⊢; rw [← e]; exact h1)] at h; cases h
    · rw [(lt_bef hb hc).2 e] at k; cases k

/-! ### The first texts of all sets -/
def KOk (N : Nat) (K : List (Nat × Str)) : Prop := ∀ kv ∈ K, kv.1 < N ∧ kv.2 ≠ [] ∧ okT kv.2
structure FstI (N : Nat) (K : List (Nat × Str)) (L : List Str) : Prop where
  len : L.length = N
  ok : ∀ k, okT (L.getD k [])
  no : ∀ k, L.getD k [] = [] → ∀ t, (k, t) ∉ K
  yes : ∀ k, L.getD k [] ≠ [] → (k, L.getD k []) ∈ K
  low : ∀ k, L.getD k [] ≠ [] → ∀ t, (k, t) ∈ K → isLt t (L.getD k []) = false
theorem okT_nil : okT [] := fun c h => by cases h
theorem getD_rep (N k : Nat) : (List.replicate N ([] : Str)).getD k [] = [] := by
  rw [List.getD_eq_getElem?_getD, List.getElem?_replicate]
  split <;> rfl
theorem fst_zero (N : Nat) : FstI N [] (List.replicate N []) :=
  ⟨List.length_replicate, fun k => by rw [getD_rep]; exact okT_nil, fun k _ t h => (by cases h), fun k h => absurd (getD_rep N k) h, fun k _ t h => (by cases h)⟩
theorem getD_setS {L : List Str} {i k : Nat} (s : Str) (hk : k < L.length) : (L.set k s).getD i [] = if i = k then s else L.getD i [] := by
  rw [List.getD_eq_getElem?_getD, List.getD_eq_getElem?_getD, List.getElem?_set]
  by_cases h : k = i
  · subst h
    rw [if_pos rfl, if_pos rfl, if_pos hk]
    rfl
  · rw [if_neg h, if_neg (fun e => h e.symm)]
theorem FstI.step {N : Nat} {K : List (Nat × Str)} {L : List Str} (h : FstI N K L) (hK : KOk N K) {k0 : Nat} {t0 : Str} (h0 : k0 < N) (hn : t0 ≠ []) (ht : okT t0) : FstI N (K ++ [(k0, t0)]) (updL L k0 t0) := by
  have hk0 : k0 < L.length := by rw [h.len]; exact h0
  have inK : ∀ {k : Nat} {t : Str}, (k, t) ∈ K ++ [(k0, t0)] ↔ (k, t) ∈ K ∨ (k = k0 ∧ t = t0) := fun {k t} => by
    rw [List.mem_append, List.mem_singleton, Prod.mk.injEq]
  unfold updL
  cases hb : isB t0 (L.getD k0 []) with
  | true =>
    rw [if_pos rfl]
    refine ⟨by rw [List.length_set, h.len], fun k => ?_, fun k hk t hm => ?_, fun k hk => ?_, fun k hk t hm => ?_⟩
    · rw [getD_setS _ hk0]
      split
      · exact ht
      · exact h.ok k
    · rw [getD_setS _ hk0] at hk
      split at hk
      · exact hn hk
      · rename_i hne
        rcases inK.1 hm with hm | hm
        · exact h.no k hk t hm
        · exact hne hm.1
    · rw [getD_setS _ hk0] at hk ⊢
      split
      · rename_i he
        exact inK.2 (.inr ⟨he, rfl⟩)
      · rename_i hne
        rw [if_neg hne] at hk
        exact inK.2 (.inl (h.yes k hk))
    · rw [getD_setS _ hk0] at hk ⊢
      split
      · rename_i he
        subst he
        rcases inK.1 hm with hm | hm
        · by_cases hz : L.getD k [] = []
          · exact absurd hm (h.no k hz t)
          · have h1 := h.low k hz t hm
            rw [isB_eq, decide_eq_false hz, Bool.false_or] at hb
            cases hx : isLt t t0 with
            | false => rfl
            | true => rw [lt_trans' (hK _ hm).2.2 ht (h.ok k) hx hb] at h1; cases h1
        · rw [hm.2]
          exact lt_irr ht
      · rename_i hne
        rw [if_neg hne] at hk
        rcases inK.1 hm with hm | hm
        · exact h.low k hk t hm
        · exact absurd hm.1 hne
  | false =>
    rw [if_neg (by decide)]
    have hz : ¬ L.getD k0 [] = [] := fun e => by rw [isB_eq, decide_eq_true e] at hb; cases hb
    rw [isB_eq, decide_eq_false hz, Bool.false_or] at hb
    refine ⟨h.len, h.ok, fun k hk t hm => ?_, fun k hk => inK.2 (.inl (h.yes k hk)), fun k hk t hm => ?_⟩
    · rcases inK.1 hm with hm | hm
      · exact h.no k hk t hm
      · rw [hm.1] at hk
        exact hz hk
    · rcases inK.1 hm with hm | hm
      · exact h.low k hk t hm
      · rw [hm.1, hm.2]
        exact hb
theorem fst_fold {N : Nat} : ∀ {K2 K : List (Nat × Str)} {L : List Str}, FstI N K L → KOk N K → KOk N K2 → FstI N (K ++ K2) (K2.foldl (fun L kv => updL L kv.1 kv.2) L)
  | [], K, L, h, _, _ => by rw [List.append_nil]; exact h
  | kv :: K2, K, L, h, hK, h2 => by
    obtain ⟨a, b, c⟩ := h2 kv (by simp)
    have h3 := fst_fold (K2 := K2) (h.step hK a b c) (fun x hx => by
      rcases List.mem_append.1 hx with hx | hx
      · exact hK x hx
      · rw [List.mem_singleton.1 hx]; exact ⟨a, b, c⟩) (fun x hx => h2 x (by simp [hx]))
    rw [List.append_assoc] at h3
    exact h3

/-! ### where -/
structure WheI (p : Nat → Bool) (L : List Str) (n : Nat) (W : Str) : Prop where
  no : W = [] → ∀ k, k < n → p k = true → L.getD k [] = []
  yes : W ≠ [] → ∃ k, k < n ∧ p k = true ∧ L.getD k [] = W
  low : W ≠ [] → ∀ k, k < n → p k = true → L.getD k [] ≠ [] → isLt (L.getD k []) W = false
theorem whe_ok (p : Nat → Bool) {L : List Str} (hok : ∀ k, okT (L.getD k [])) : ∀ n, okT (wheL p L n) ∧ WheI p L n (wheL p L n)
  | 0 => ⟨okT_nil, fun _ k h => (by omega), fun h => absurd rfl h, fun h => absurd rfl h⟩
  | n + 1 => by
    obtain ⟨ho, hi⟩ := whe_ok p hok n
    rw [wheL_succ]
    generalize wheL p L n = O at ho hi ⊢
    unfold stepW
    split
    · rename_i hc
      rw [Bool.and_eq_true, Bool.and_eq_true, decide_eq_true_iff] at hc
      obtain ⟨h1, h2, h3⟩ := hc
      refine ⟨hok n, fun h => absurd h h1, fun _ => ⟨n, by omega, h2, rfl⟩, fun _ k hk hp hz => ?_⟩
      by_cases he : k = n
      · rw [he]; exact lt_irr (hok n)
      · by_cases hO : O = []
        · exact absurd (hi.no hO k (by omega) hp) hz
        · have h4 := hi.low hO k (by omega) hp hz
          rw [isB_eq, decide_eq_false hO, Bool.false_or] at h3
          cases hx : isLt (L.getD k []) (L.getD n []) with
          | false => rfl
          | true => rw [lt_trans' (hok k) (hok n) ho hx h3] at h4; cases h4
    · rename_i hc
      rw [Bool.and_eq_true, Bool.and_eq_true, decide_eq_true_iff] at hc
      refine ⟨ho, fun hO k hk hp => ?_, fun hO => ?_, fun hO k hk hp hz => ?_⟩
      · by_cases he : k = n
        · subst he
          refine Classical.byContradiction fun hz => hc ⟨hz, hp, ?_⟩
          rw [isB_eq, decide_eq_true hO]
          rfl
        · exact hi.no hO k (by omega) hp
      · obtain ⟨k, a, b, c⟩ := hi.yes hO
        exact ⟨k, by omega, b, c⟩
      · by_cases he : k = n
        · subst he
          cases hx : isLt (L.getD k []) O with
          | false => rfl
          | true => exact absurd ⟨hz, hp, by rw [isB_eq, hx, Bool.or_true]⟩ hc
        · exact hi.low hO k (by omega) hp hz
theorem whe_none {N : Nat} {K : List (Nat × Str)} {L : List Str} (h : FstI N K L) (hK : KOk N K) {p : Nat → Bool} (hw : wheL p L N = []) : ∀ kv ∈ K, p kv.1 = false := fun kv hm => by
  have hi := (whe_ok p h.ok N).2
  cases hp : p kv.1 with
  | false => rfl
  | true => exact absurd hm (h.no kv.1 (hi.no hw kv.1 (hK kv hm).1 hp) kv.2)
theorem whe_some {N : Nat} {K : List (Nat × Str)} {L : List Str} (h : FstI N K L) (hK : KOk N K) {p : Nat → Bool} (hw : wheL p L N ≠ []) : ∃ k, (k, wheL p L N) ∈ K ∧ p k = true ∧ ∀ kv ∈ K, p kv.1 = true → isLt kv.2 (wheL p L N) = false := by
  obtain ⟨ho, hi⟩ := whe_ok p h.ok N
  obtain ⟨k, a, b, c⟩ := hi.yes hw
  refine ⟨k, ?_, b, fun kv hm hp => ?_⟩
  · rw [← c]
    exact h.yes k (by rw [c]; exact hw)
  · by_cases hz : L.getD kv.1 [] = []
    · exact absurd hm (h.no kv.1 hz kv.2)
    · exact lt_not (hK kv hm).2.2 (h.ok kv.1) ho (h.low kv.1 hz kv.2 hm) (hi.low hw kv.1 (hK kv hm).1 hp hz)
end Go.Proofs.YtfbfcomfkokfcaaGreatDoor


/- Plain facts on decide: the candidates of firstsOf are numbers, and every number has one in front of it; so where finds the first number. -/
namespace Go.Proofs.YtfbfcomfkokfcaaGreatDoor
set_option linter.unusedVariables false

/-! ### What holds -/
def sN (cs : List Cnd) (s : Str) : Nat := bitsF (fun c => hldC s c) cs
theorem or_bits {l : List Rel} (f g h : Rel → Bool) : (bitsF f l &&& bitsF g l) ||| bitsF h l = bitsF (fun r => f r && g r || h r) l := by
  refine eq_bits fun j => ?_
  rw [Nat.testBit_or, Nat.testBit_and, bitsF_bit, bitsF_bit, bitsF_bit]
  cases l[j]? <;> rfl
theorem or_bits2 {l : List Rel} (f g : Rel → Bool) : bitsF f l ||| bitsF g l = bitsF (fun r => f r || g r) l := by
  refine eq_bits fun j => ?_
  rw [Nat.testBit_or, bitsF_bit, bitsF_bit]
  cases l[j]? <;> rfl
theorem tr_parts {r : Rel} (h : OkR r) (x : Num) : (trW (val x.wh) r && (decide (r.op = 2) || (zero x.fr && decide (r.op = 1))) || trF trS x.fr r) = hldO r (opnd x r.op) := by
  have h1 := h.lo
  have h2 := h.hi
  rw [hld_parts]
  unfold trW trF trS isWh fT
  by_cases o1 : r.op = 1
  · rw [o1]
    cases zero x.fr <;> simp
  · by_cases o2 : r.op = 2
    · rw [o2]
      simp
    · have hf : (decide (r.op = 2) || (zero x.fr && decide (r.op = 1))) = false := by simp [o1, o2]
      rw [hf, Bool.and_false, Bool.false_or, if_neg o1]
      have hw : (decide (r.op = 1) || decide (r.op = 2)) = false := by simp [o1, o2]
      rw [hw]
      simp only [Bool.false_eq_true, if_false]
      unfold hldO opnd wT
      by_cases o3 : r.op = 3
      · simp [o3]
      · by_cases o4 : r.op = 4
        · simp [o4]
        · by_cases o5 : r.op = 5
          · simp [o5]
          · have o6 : r.op = 6 := by omega
            simp [o6]
theorem hldC_parts {x : Num} (g : Good x) (c : Cnd) : hldC (txt x) c = c.any fun k => k.all fun r => hldO r (opnd x r.op) := by
  refine anyC (fun k hk => allC (fun r hr => ?_))
  unfold hldR
  rw [opR_some (spl_of g)]
theorem set_parts {cs : List Cnd} (hok : ∀ c ∈ cs, okC c = true) (h6 : (relsC cs).length ≤ 60) (h10 : cs.length ≤ 10) {x : Num} (g : Good x) {w : List Nat} :
    setN cs (rgW (relsC cs) (val x.wh)) (frOf (relsC cs) (w, rgF (relsC cs) trS x.fr)) = sN cs (txt x) := by
  have e : setN cs (rgW (relsC cs) (val x.wh)) (frOf (relsC cs) (w, rgF (relsC cs) trS x.fr)) = cnds cs (bitsF (fun r => hldO r (opnd x r.op)) (relsC cs)) := by
    unfold setN cnds
    congr 1
    have e1 : (frOf (relsC cs) (w, rgF (relsC cs) trS x.fr)).kept = bitsF (fun r => decide (r.op = 2) || (zero x.fr && decide (r.op = 1))) (relsC cs) := by
      show (if (rgF (relsC cs) trS x.fr).int = true then on (relsC cs) 2 ||| on (relsC cs) 1 else on (relsC cs) 2) = _
      by_cases hz : (rgF (relsC cs) trS x.fr).int = true
      · rw [if_pos hz, on_bits (by omega), on_bits (by omega), or_bits2]
        have hz : zero x.fr = true := hz
        rw [hz]
        rfl
      · rw [if_neg hz, on_bits (by omega)]
        have hz : zero x.fr = false := Bool.eq_false_iff.2 hz
        rw [hz]
        exact bitsF_congr fun r _ => by simp
    rw [e1]
    show (bitsF (trW (val x.wh)) (relsC cs) &&& bitsF _ (relsC cs)) ||| bitsF (trF trS x.fr) (relsC cs) = _
    rw [or_bits]
    exact bitsF_congr fun r hr => tr_parts (relsC_ok hok r hr) x
  rw [e, cnds_bits (by omega) (by omega)]
  unfold sN
  exact bitsF_congr fun c _ => (hldC_parts g c).symm

/-! ### The candidates -/
def candK (cs : List Cnd) (Qw Qf : List (List Nat × Rg)) : List (Nat × Str) := (Qw.drop 1).flatMap fun q => (Qf.map (frOf (relsC cs))).map fun f => (setN cs q.2 f, txN q.1 f)
theorem inL_fold (cs : List Cnd) (q : List Nat × Rg) : ∀ (F : List Fra) (L : List Str), innL cs q F L = (F.map fun f => (setN cs q.2 f, txN q.1 f)).foldl (fun L kv => updL L kv.1 kv.2) L
  | [], L => rfl
  | f :: F, L => inL_fold cs q F (updL L (setN cs q.2 f) (txN q.1 f))
theorem outL_fold (cs : List Cnd) (F : List Fra) : ∀ (D : List (List Nat × Rg)) (L : List Str), outL cs F D L = (D.flatMap fun q => F.map fun f => (setN cs q.2 f, txN q.1 f)).foldl (fun L kv => updL L kv.1 kv.2) L
  | [], L => rfl
  | q :: D, L => by
    rw [List.flatMap_cons, List.foldl_append, ← inL_fold]
    exact outL_fold cs F D (innL cs q F L)
theorem firL_fold (cs : List Cnd) (Qw Qf : List (List Nat × Rg)) : firL cs Qw Qf = (candK cs Qw Qf).foldl (fun L kv => updL L kv.1 kv.2) (List.replicate (2 ^ cs.length) []) := outL_fold cs _ _ _

abbrev nxC (l : List Rel) : Rg → Nat → Rg := nxR l (redL l 1 2) (redL l 3 4) (redL l 5 6)
section
variable {cs : List Cnd} (hok : ∀ c ∈ cs, okC c = true) (h6 : (relsC cs).length ≤ 60) (h10 : cs.length ≤ 10) {Qw Qf : List (List Nat × Rg)}
  (hw : Found (nxC (relsC cs)) (stRg (relsC cs) 0) 10 15 Qw) (hf : Found (nxC (relsC cs)) (stRg (relsC cs) 2) 10 6 Qf)
include hok h6
theorem runW {u : List Nat} (hu : ∀ c ∈ u, c < 10) (hne : u ≠ []) : ∃ ds, allD ds ∧ wd0 ds = u ∧ chS u = ds ∧ ds ≠ [] ∧ runR (nxC (relsC cs)) (stRg (relsC cs) 0) u = rgW (relsC cs) (val ds) := by
  obtain ⟨ds, h1, h2, h3⟩ := word_digits u hu
  have hd : ds ≠ [] := fun e => hne (by rw [← h2, e]; rfl)
  refine ⟨ds, h1, h2, h3, hd, ?_⟩
  rw [← h2]
  exact run_whole (relsC_ok hok) h6 rfl _ ds rfl h1 hd
theorem runF {u : List Nat} (hu : ∀ c ∈ u, c < 10) : ∃ es, allD es ∧ wd0 es = u ∧ chS u = es ∧ runR (nxC (relsC cs)) (stRg (relsC cs) 2) u = rgF (relsC cs) trS es := by
  obtain ⟨es, h1, h2, h3⟩ := word_digits u hu
  refine ⟨es, h1, h2, h3, ?_⟩
  rw [← h2, stRg_eq (relsC_ok hok) h6]
  exact run_frac (relsC_ok hok) h6 rfl rfl (fun r hr h => by unfold trS; rw [if_neg (by omega)]) _ es rfl h1
end
theorem found_ne {f : Rg → Nat → Rg} {x0 : Rg} {m N : Nat} {Q : List (List Nat × Rg)} (h : Found f x0 m N Q) {q : List Nat × Rg} (hq : q ∈ Q.drop 1) : q ∈ Q ∧ q.1 ≠ [] := by
  have hm := List.mem_of_mem_drop hq
  refine ⟨hm, fun e => ?_⟩
  cases Q with
  | nil => cases hm
  | cons a Q =>
    have h0 := h.head
    rw [List.getElem?_cons_zero] at h0
    injection h0 with h0
    have hq' : q ∈ Q := hq
    have h1 := (h.run q hm).1
    rw [e] at h1
    have h2 : q.2 = x0 := h1.symm
    have h3 := h.nd
    rw [List.map_cons, List.nodup_cons] at h3
    refine h3.1 ?_
    rw [h0]
    show x0 ∈ _
    rw [← h2]
    exact List.mem_map.2 ⟨q, hq', rfl⟩
theorem found_one {f : Rg → Nat → Rg} {x0 : Rg} {m N : Nat} {Q : List (List Nat × Rg)} (h : Found f x0 m N Q) {q r : List Nat × Rg} (hq : q ∈ Q) (hr : r ∈ Q) (e : q.2 = r.2) : q = r := by
  have h3 := h.nd
  clear h
  induction Q with
  | nil => cases hq
  | cons a Q ih =>
    rw [List.map_cons, List.nodup_cons] at h3
    rcases List.mem_cons.1 hq with h1 | h1 <;> rcases List.mem_cons.1 hr with h2 | h2
    · rw [h1, h2]
    · exact absurd (List.mem_map.2 ⟨r, h2, by rw [← e, h1]⟩) h3.1
    · exact absurd (List.mem_map.2 ⟨q, h1, by rw [e, h2]⟩) h3.1
    · exact ih h1 h2 h3.2
theorem slim_of {ds : Str} (hd : allD ds) (h : ∀ es, allD es → es ≠ [] → val es = val ds → es.length < ds.length → False) : slim ds := fun hl hz => by
  cases ds with
  | nil => simp at hl
  | cons c es =>
    simp only [List.head?_cons, Option.some.injEq] at hz
    subst hz
    have he : es ≠ [] := fun e => by rw [e] at hl; simp at hl
    refine h es (allD_cons.1 hd).2 he ?_ (by simp)
    rw [val_cons]
    have : dg 48 = 0 := rfl
    rw [this]
    omega
section
variable {cs : List Cnd} (hok : ∀ c ∈ cs, okC c = true) (h6 : (relsC cs).length ≤ 60) (h10 : cs.length ≤ 10) {Qw Qf : List (List Nat × Rg)}
  (hw : Found (nxC (relsC cs)) (stRg (relsC cs) 0) 10 15 Qw) (hf : Found (nxC (relsC cs)) (stRg (relsC cs) 2) 10 6 Qf)
include hok h6 hw
theorem whole_of {q : List Nat × Rg} (hq : q ∈ Qw.drop 1) : ∃ ds, allD ds ∧ ds ≠ [] ∧ slim ds ∧ ds.length ≤ 15 ∧ wd0 ds = q.1 ∧ chS q.1 = ds ∧ q.2 = rgW (relsC cs) (val ds) := by
  obtain ⟨hm, hne⟩ := found_ne hw hq
  obtain ⟨h1, h2, h3⟩ := hw.run q hm
  obtain ⟨ds, a, b, c, d, e⟩ := runW hok h6 h2 hne
  have hlen : ds.length = q.1.length := by rw [← b, wd0_len]
  refine ⟨ds, a, d, slim_of a (fun es ha he hv hl => ?_), by omega, b, c, by rw [← h1, e]⟩
  have hdg : ∀ c ∈ wd0 es, c < 10 := fun c hc => by
    obtain ⟨x, hx, rfl⟩ := List.mem_map.1 hc
    rw [sy0_digit (ha x hx)]
    have := dg_le (ha x hx)
    omega
  obtain ⟨r, hr, h4, h5⟩ := hw.all (wd0 es) hdg (by rw [wd0_len]; omega)
  have h7 : runR (nxC (relsC cs)) (stRg (relsC cs) 0) (wd0 es) = rgW (relsC cs) (val es) := run_whole (relsC_ok hok) h6 rfl _ es rfl ha he
  have h8 : r = q := found_one hw hr hm (by rw [h4, h7, hv, ← e, h1])
  rw [h8] at h5
  rcases h5 with h5 | h5
  · have := congrArg List.length h5
    rw [wd0_len] at this
    omega
  · rcases h5 with h5 | h5
    · rw [wd0_len] at h5; omega
    · have := h5.1; rw [wd0_len] at this; omega
theorem whole_has {wh : Str} (ha : allD wh) (hl : 1 ≤ wh.length) (h15 : wh.length ≤ 15) : ∃ q ∈ Qw.drop 1, q.2 = rgW (relsC cs) (val wh) ∧ befE q.1 (wd0 wh) := by
  have hne : wh ≠ [] := fun e => by rw [e] at hl; simp at hl
  have hdg : ∀ c ∈ wd0 wh, c < 10 := fun c hc => by
    obtain ⟨x, hx, rfl⟩ := List.mem_map.1 hc
    rw [sy0_digit (ha x hx)]
    have := dg_le (ha x hx)
    omega
  obtain ⟨q, hq, h1, h2⟩ := hw.all (wd0 wh) hdg (by rw [wd0_len]; omega)
  have h7 : runR (nxC (relsC cs)) (stRg (relsC cs) 0) (wd0 wh) = rgW (relsC cs) (val wh) := run_whole (relsC_ok hok) h6 rfl _ wh rfl ha hne
  rw [h7] at h1
  refine ⟨q, ?_, h1, h2⟩
  cases Qw with
  | nil => cases hq
  | cons a Q =>
    rcases List.mem_cons.1 hq with rfl | hq
    · have h0 := hw.head
      rw [List.getElem?_cons_zero] at h0
      injection h0 with h0
      rw [h0] at h1
      have h8 : (stRg (relsC cs) 0).pl = (rgW (relsC cs) (val wh)).pl := congrArg Rg.pl h1
      exact absurd h8 (by show ¬ (0 : Nat) = 1; omega)
    · exact hq
end
section
variable {cs : List Cnd} (hok : ∀ c ∈ cs, okC c = true) (h6 : (relsC cs).length ≤ 60) (h10 : cs.length ≤ 10) {Qw Qf : List (List Nat × Rg)}
  (hw : Found (nxC (relsC cs)) (stRg (relsC cs) 0) 10 15 Qw) (hf : Found (nxC (relsC cs)) (stRg (relsC cs) 2) 10 6 Qf)
include hok h6 hf
theorem fract_of {q : List Nat × Rg} (hq : q ∈ Qf) : ∃ es, allD es ∧ es.length ≤ 6 ∧ wd0 es = q.1 ∧ chS q.1 = es ∧ q.2 = rgF (relsC cs) trS es := by
  obtain ⟨h1, h2, h3⟩ := hf.run q hq
  obtain ⟨es, a, b, c, d⟩ := runF hok h6 h2
  exact ⟨es, a, by rw [← b, wd0_len] at h3; exact h3, b, c, by rw [← h1, d]⟩
theorem fract_has2 {fr : Str} (ha : allD fr) (h15 : fr.length ≤ 6) : ∃ q ∈ Qf, q.2 = rgF (relsC cs) trS fr ∧ befE q.1 (wd0 fr) := by
  have hdg : ∀ c ∈ wd0 fr, c < 10 := fun c hc => by
    obtain ⟨x, hx, rfl⟩ := List.mem_map.1 hc
    rw [sy0_digit (ha x hx)]
    have := dg_le (ha x hx)
    omega
  obtain ⟨q, hq, h1, h2⟩ := hf.all (wd0 fr) hdg (by rw [wd0_len]; omega)
  have h7 : runR (nxC (relsC cs)) (stRg (relsC cs) 2) (wd0 fr) = rgF (relsC cs) trS fr := by
    rw [stRg_eq (relsC_ok hok) h6]
    exact run_frac (relsC_ok hok) h6 rfl rfl (fun r hr h => by unfold trS; rw [if_neg (by omega)]) _ fr rfl ha
  exact ⟨q, hq, by rw [h1, h7], h2⟩
end
theorem bef_num {a wh : Str} (ha : allD a) (hw : allD wh) (h : befE (wd0 a) (wd0 wh)) : a.length ≤ wh.length ∧ (a.length = wh.length → val a ≤ val wh) := by
  rcases h with h | h | h
  · have hl := congrArg List.length h
    rw [wd0_len, wd0_len] at hl
    have : a = wh := wd0_inj (fun c hc => .inl (ha c hc)) (fun c hc => .inl (hw c hc)) h
    rw [this]
    exact ⟨Nat.le_refl _, fun _ => Nat.le_refl _⟩
  · rw [wd0_len, wd0_len] at h
    exact ⟨by omega, fun e => by omega⟩
  · obtain ⟨h1, h2⟩ := h
    rw [wd0_len, wd0_len] at h1
    exact ⟨by omega, fun e => Nat.le_of_lt ((lex_val ha hw e).1 h2)⟩
theorem okT_digits {s : Str} (h : allD s) : okT s := fun c hc => .inl (h c hc)
theorem no_colon {s : Str} (h : allD s) : 58 ∉ s := fun hc => absurd (h 58 hc) (by decide)
theorem txN_pt {u v : List Nat} {ds es : Str} (h1 : chS u = ds) (h2 : chS v = es) (hd : allD ds) (he : allD es) (hv : v = [] ↔ es = []) {l : List Rel} {x : Rg} : ptS (txN u (frOf l (v, x))) = tx0 ds es ∧ okT (txN u (frOf l (v, x))) := by
  unfold txN frOf tx0
  dsimp only
  rw [h1, h2]
  by_cases hz : es = []
  · rw [if_pos (hv.2 hz), if_pos hz]
    simp only [List.append_nil]
    exact ⟨ptS_no (no_colon hd), okT_digits hd⟩
  · rw [if_neg (fun e => hz (hv.1 e)), if_neg hz, ptS_append, ptS_no (no_colon hd)]
    refine ⟨?_, fun c hc => ?_⟩
    · have e3 : ptS (58 :: es) = 46 :: ptS es := rfl
      rw [e3, ptS_no (no_colon he)]
    · rcases List.mem_append.1 hc with hc | hc
      · exact .inl (hd c hc)
      · rcases List.mem_cons.1 hc with rfl | hc
        · exact .inr rfl
        · exact .inl (he c hc)
section
variable {cs : List Cnd} (hok : ∀ c ∈ cs, okC c = true) (h6 : (relsC cs).length ≤ 60) (h10 : cs.length ≤ 10) {Qw Qf : List (List Nat × Rg)}
  (hw : Found (nxC (relsC cs)) (stRg (relsC cs) 0) 10 15 Qw) (hf : Found (nxC (relsC cs)) (stRg (relsC cs) 2) 10 6 Qf)
include hok h6 h10 hw hf
theorem cand_of {kv : Nat × Str} (h : kv ∈ candK cs Qw Qf) : ∃ x : Num, Good x ∧ x.neg = false ∧ ptS kv.2 = txt x ∧ kv.1 = sN cs (txt x) ∧ okT kv.2 ∧ kv.2 ≠ [] := by
  obtain ⟨q, hq, h⟩ := List.mem_flatMap.1 h
  obtain ⟨f, hfm, rfl⟩ := List.mem_map.1 h
  obtain ⟨⟨v, y⟩, hr, rfl⟩ := List.mem_map.1 hfm
  obtain ⟨ds, a1, a2, a3, a4, a5, a6, a7⟩ := whole_of hok h6 hw hq
  obtain ⟨es, b1, b2, b3, b4, b5⟩ := fract_of hok h6 hf hr
  have g : Good ⟨false, ds, es⟩ := ⟨a1, b1, by cases ds with | nil => exact absurd rfl a2 | cons c l => show 1 ≤ (c :: l).length; simp, a4, a3, b2, fun e => by cases e⟩
  have hp := txN_pt (u := q.1) (v := v) (l := relsC cs) (x := y) a6 b4 a1 b1 ⟨fun e => by rw [← b4, e]; rfl, fun e => by have := b3; rw [e] at this; exact this.symm⟩
  refine ⟨⟨false, ds, es⟩, g, rfl, by rw [txt_tx0 rfl]; exact hp.1, ?_, hp.2, fun e => ?_⟩
  · show setN cs q.2 _ = _
    rw [a7, show y = rgF (relsC cs) trS es from b5]
    exact set_parts hok h6 h10 g (w := v)
  · have h0 := hp.1
    have e2 : txN q.1 (frOf (relsC cs) (v, y)) = [] := e
    rw [e2] at h0
    have := congrArg List.length h0
    rw [tx0_len] at this
    have h1 := g.low
    have e3 : (ptS []).length = 0 := rfl
    rw [e3] at this
    dsimp only at h1
    omega
theorem cand_has {x : Num} (g : Good x) (hn : x.neg = false) : ∃ kv ∈ candK cs Qw Qf, kv.1 = sN cs (txt x) ∧ ¬ befS (txt x) (ptS kv.2) := by
  obtain ⟨q, hq, h1, h2⟩ := whole_has hok h6 hw g.dw g.low g.high
  obtain ⟨⟨v, y⟩, hr, h3, h4⟩ := fract_has2 hok h6 hf g.df g.few
  obtain ⟨ds, a1, a2, a3, a4, a5, a6, a7⟩ := whole_of hok h6 hw hq
  obtain ⟨es, b1, b2, b3, b4, b5⟩ := fract_of hok h6 hf hr
  have hp := txN_pt (u := q.1) (v := v) (l := relsC cs) (x := y) a6 b4 a1 b1 ⟨fun e => by rw [← b4, e]; rfl, fun e => by have := b3; rw [e] at this; exact this.symm⟩
  refine ⟨(setN cs q.2 (frOf (relsC cs) (v, y)), txN q.1 (frOf (relsC cs) (v, y))), List.mem_flatMap.2 ⟨q, hq, List.mem_map.2 ⟨_, List.mem_map.2 ⟨_, hr, rfl⟩, rfl⟩⟩, ?_, ?_⟩
  · show setN cs q.2 _ = _
    rw [h1, show y = rgF (relsC cs) trS x.fr from h3]
    exact set_parts hok h6 h10 g (w := v)
  · show ¬ befS (txt x) (ptS (txN q.1 (frOf (relsC cs) (v, y))))
    rw [hp.1, txt_tx0 hn]
    rw [← a5] at h2
    have h4' : befE v (wd0 x.fr) := h4
    rw [← show wd0 es = v from b3] at h4'
    have c1 := bef_num a1 g.dw h2
    have c2 := bef_num b1 g.df h4'
    exact num_order a1 b1 g.dw g.df c1.1 c2.1 c1.2 c2.2
/-- What where finds is the first number for whose conditions something is true. -/
theorem where_first (p : Nat → Bool) : (wheL p (firL cs Qw Qf) (2 ^ cs.length) = [] ∧ NoneN (fun s => p (sN cs s))) ∨ (wheL p (firL cs Qw Qf) (2 ^ cs.length) ≠ [] ∧ FirstN (fun s => p (sN cs s)) (ptS (wheL p (firL cs Qw Qf) (2 ^ cs.length)))) := by
  have hK : KOk (2 ^ cs.length) (candK cs Qw Qf) := fun kv hm => by
    obtain ⟨x, g, hn, h1, h2, h3, h4⟩ := cand_of hok h6 h10 hw hf hm
    exact ⟨by rw [h2]; exact bitsF_lt _ cs, h4, h3⟩
  have hF : FstI (2 ^ cs.length) (candK cs Qw Qf) (firL cs Qw Qf) := by
    rw [firL_fold]
    have := fst_fold (fst_zero (2 ^ cs.length)) (fun x hx => (by cases hx)) hK
    rw [List.nil_append] at this
    exact this
  by_cases hz : wheL p (firL cs Qw Qf) (2 ^ cs.length) = []
  · refine .inl ⟨hz, fun t ht => ?_⟩
    obtain ⟨x, g, hn, rfl⟩ := ht
    obtain ⟨kv, hm, h1, _⟩ := cand_has hok h6 h10 hw hf g hn
    show p (sN cs (txt x)) = false
    rw [← h1]
    exact whe_none hF hK hz kv hm
  · obtain ⟨k, h1, h2, h3⟩ := whe_some hF hK hz
    refine .inr ⟨hz, ?_⟩
    generalize hW : wheL p (firL cs Qw Qf) (2 ^ cs.length) = W at h1 h2 h3 hz ⊢
    obtain ⟨x, g, hn, h4, h5, h7, h8⟩ := cand_of hok h6 h10 hw hf h1
    have h4 : ptS W = txt x := h4
    have h5 : k = sN cs (txt x) := h5
    have h7 : okT W := h7
    refine ⟨⟨x, g, hn, h4.symm⟩, by show p (sN cs (ptS W)) = true; rw [h4, ← h5]; exact h2, fun t ht hpt hb => ?_⟩
    obtain ⟨y, gy, hny, rfl⟩ := ht
    obtain ⟨kv, hm, h9, h10'⟩ := cand_has hok h6 h10 hw hf gy hny
    have h11 := h3 kv hm (by rw [h9]; exact hpt)
    rcases bef_total (wd0 (txt y)) (wd0 (ptS kv.2)) with e | e | e
    · exact h10' e
    · have : isLt kv.2 W = true := (lt_bef (hK kv hm).2.2 h7).2 (by unfold befS at hb ⊢; rw [← e]; exact hb)
      rw [this] at h11; cases h11
    · have : isLt kv.2 W = true := (lt_bef (hK kv hm).2.2 h7).2 (bef_trans e hb)
      rw [this] at h11; cases h11
end
end Go.Proofs.YtfbfcomfkokfcaaGreatDoor


/- Of decide: never, Satisfiable, Total, Equivalent: what they return is what the reference finds. -/
namespace Go.Proofs.YtfbfcomfkokfcaaGreatDoor
open Go.RowKit Go.Maps
set_option linter.unusedVariables false

theorem FirstN.congr {p q : Str → Bool} (h : ∀ s, isU s → p s = q s) {s : Str} (hf : FirstN p s) : FirstN q s :=
  ⟨hf.1, by rw [← h s hf.1]; exact hf.2.1, fun t ht hq => hf.2.2 t ht (by rw [h t ht]; exact hq)⟩
section
variable {cs : List Cnd} (hok : ∀ c ∈ cs, okC c = true) (h10 : cs.length ≤ 10) {Qw Qf : List (List Nat × Rg)}
  (hw : Found (nxC (relsC cs)) (stRg (relsC cs) 0) 10 15 Qw) (hf : Found (nxC (relsC cs)) (stRg (relsC cs) 2) 10 6 Qf)
include hok h10 hw hf
theorem firL_facts : (firL cs Qw Qf).length = 2 ^ cs.length ∧ ∀ x ∈ firL cs Qw Qf, x.length ≤ 1000 := by
  have h6 : (relsC cs).length ≤ 60 := by rw [rels_cnt]; have := cntS_le hok; omega
  have hK : KOk (2 ^ cs.length) (candK cs Qw Qf) := fun kv hm => by
    obtain ⟨x, g, hn, h1, h2, h3, h4⟩ := cand_of hok h6 h10 hw hf hm
    exact ⟨by rw [h2]; exact bitsF_lt _ cs, h4, h3⟩
  have hF : FstI (2 ^ cs.length) (candK cs Qw Qf) (firL cs Qw Qf) := by
    rw [firL_fold]
    have := fst_fold (fst_zero (2 ^ cs.length)) (fun x hx => (by cases hx)) hK
    rw [List.nil_append] at this
    exact this
  refine ⟨hF.len, fun x hx => ?_⟩
  obtain ⟨k, hk, rfl⟩ := List.getElem_of_mem hx
  have e : (firL cs Qw Qf).getD k [] = (firL cs Qw Qf)[k] := by rw [List.getD_eq_getElem?_getD, List.getElem?_eq_getElem hk]; rfl
  by_cases hz : (firL cs Qw Qf)[k] = []
  · rw [hz]; exact Nat.zero_le _
  · have h1 := hF.yes k (by rw [e]; exact hz)
    rw [e] at h1
    obtain ⟨x, g, hn, h2, _⟩ := cand_of hok h6 h10 hw hf h1
    have h3 := (isU_len ⟨x, g, hn, rfl⟩).1
    rw [← h2, ptS_len] at h3
    exact Nat.le_trans h3 (by omega)
theorem where_R {p : Nat → Bool} {k : Nat} (hp : ∀ s, isU s → p (sN cs s) = pS cs k s) : ptS (wheL p (firL cs Qw Qf) (firL cs Qw Qf).length) = (firstR cs k).getD [] := by
  have h6 : (relsC cs).length ≤ 60 := by rw [rels_cnt]; have := cntS_le hok; omega
  rw [(firL_facts hok h10 hw hf).1]
  rcases where_first hok h6 h10 hw hf p with ⟨h1, h2⟩ | ⟨h1, h2⟩
  · rw [h1, firstR_eq_none hok (k := k) (fun t ht => by rw [← hp t ht]; exact h2 t ht)]
    rfl
  · rw [firstR_eq hok (h2.congr hp)]
    rfl
end
theorem firstR_ne {cs : List Cnd} (hok : ∀ c ∈ cs, okC c = true) (k : Nat) : (firstR cs k).isSome = decide ((firstR cs k).getD [] ≠ []) := by
  cases h : firstR cs k with
  | none => rfl
  | some b =>
    have h1 := (isU_len (firstR_some hok h).1).2
    have : b ≠ [] := fun e => by rw [e] at h1; simp at h1
    exact (decide_eq_true this).symm

/-! ### The properties -/
theorem sN_sat (c : Cnd) (s : Str) : decide (sN [c] s = 1) = pS [c] 0 s := by
  unfold sN pS prS cntH
  cases h : hldC s c <;> simp [bitsF, h]
theorem bitsF_zero {α : Type} (f : α → Bool) : ∀ l : List α, decide (bitsF f l = 0) = decide ((l.filter f).length = 0)
  | [] => rfl
  | a :: l => by
    have ih := bitsF_zero f l
    rw [decide_eq_decide] at ih ⊢
    cases h : f a with
    | true => simp [bitsF, h]
    | false =>
      have e : bitsF f (a :: l) = 2 * bitsF f l := by simp [bitsF, h]
      rw [e, List.filter_cons, if_neg (by rw [h]; decide), ← ih]
      omega
theorem sN_tot (cs : List Cnd) (s : Str) : decide (sN cs s = 0) = pS cs 1 s := by
  unfold sN pS prS cntH
  rw [bitsF_zero]
  rfl
theorem sN_equ (a b : Cnd) (s : Str) : (decide (sN [a, b] s = 1) || decide (sN [a, b] s = 2)) = pS [a, b] 3 s := by
  unfold sN pS prS cntH
  cases h : hldC s a <;> cases k : hldC s b <;> simp [bitsF, h, k]
theorem str_dec (A : Str) : ((ofL A).toList == ([] : List UInt8)) = decide (A = []) := by
  rw [toL]
  cases A <;> rfl
set_option maxRecDepth 1000000 in
set_option maxHeartbeats 8000000 in
theorem never_any (cs : List Cnd) (k : Nat) (p : Nat → Bool) (v : Value) (g : Nat) (lb : Array Value) (eg : ∀ args w, (callFunc g args).run Tryz.prog w = .ok (.enter g args) w) (h10 : cs.length ≤ 10) (hok : ∀ c ∈ cs, okC c = true) (hp : ∀ s, isU s → p (sN cs s) = pS cs k s) (w : World) (hv : RdCs w v cs) (hm : MaxL w)
    (hF : ∀ (W : World) (c : Nat), c < 2 ^ cs.length → Below w.heap.size w W → Calls Tryz.prog g (#[.int .u64 (c : Int)] ++ lb) W fun e w' => e = .returned (.bool (p c)) ∧ w' = W) :
    Calls Tryz.prog 70 #[v, .func (.func g) #[] lb] w fun e w' => e = .returned (.tuple #[.string (ofL ((firstR cs k).getD [])), .bool (decide ((firstR cs k).getD [] = [])), .int .i64 0]) ∧ Below w.heap.size w w' := by
  obtain ⟨A, hA⟩ : ∃ A, (firstR cs k).getD [] = A := ⟨_, rfl⟩
  rw [hA]
  have HFI := Lib.hid (firsts_any cs v h10 hok w hv)
  have HOK := Lib.hid hok
  have HP := Lib.hid hp
  have HA := Lib.hid hA
  have HM := Lib.hid hm
  have HF := Lib.hid hF
  have H10 := Lib.hid h10
  have t1 : ((0 : Int) != 0) = false := rfl
  clear hok hp hA hm hF h10 hv
  by_cases hz : A = []
  · have HZ := Lib.hid hz
    have t0 : ((ofL A).toList == ([] : List UInt8)) = true := by rw [str_dec, decide_eq_true hz]
    clear hz
    go_enter Tryz.func70, Tryz.ntmps70
    go_wp2_with fail
    refine HFI.out.mono ?_
    rintro e w2 ⟨v', Qw, Qf, rfl, h1, h2, h3, h4⟩
    have HWR := Lib.hid (where_R HOK.out H10.out h2 h3 HP.out)
    have HFF := Lib.hid (firL_facts HOK.out H10.out h2 h3)
    obtain ⟨L, hL⟩ : ∃ L, firL cs Qw Qf = L := ⟨_, rfl⟩
    rw [hL] at HWR HFF h1
    have HWH := Lib.hid (where_any v' L p g lb eg w2 (h1.rd encT_len) (by rw [HFF.out.1]; exact Nat.pow_le_pow_right (by omega) H10.out) (fun x hx => Nat.le_trans (HFF.out.2 x hx) (by omega)) (HM.out.below h4) (fun W c hc hb => HF.out W c (by rw [← HFF.out.1]; exact hc) (st h4 hb h4.size)))
    rw [HWR.out, HA.out] at HWH
    have H4 := Lib.hid h4
    clear h1 h2 h3 h4 hL HWR HFF HP
    go_wp2_with fail
    refine HWH.out.mono ?_
    rintro e w3 ⟨rfl, h5⟩
    have HB := Lib.hid (st H4.out h5 H4.out.size)
    clear h5
    go_wp2
    go_ret3
    exact ⟨by rw [decide_eq_true HZ.out]; rfl, HB.out⟩
  · have HZ := Lib.hid hz
    have t0 : ((ofL A).toList == ([] : List UInt8)) = false := by rw [str_dec, decide_eq_false hz]
    clear hz
    go_enter Tryz.func70, Tryz.ntmps70
    go_wp2_with fail
    refine HFI.out.mono ?_
    rintro e w2 ⟨v', Qw, Qf, rfl, h1, h2, h3, h4⟩
    have HWR := Lib.hid (where_R HOK.out H10.out h2 h3 HP.out)
    have HFF := Lib.hid (firL_facts HOK.out H10.out h2 h3)
    obtain ⟨L, hL⟩ : ∃ L, firL cs Qw Qf = L := ⟨_, rfl⟩
    rw [hL] at HWR HFF h1
    have HWH := Lib.hid (where_any v' L p g lb eg w2 (h1.rd encT_len) (by rw [HFF.out.1]; exact Nat.pow_le_pow_right (by omega) H10.out) (fun x hx => Nat.le_trans (HFF.out.2 x hx) (by omega)) (HM.out.below h4) (fun W c hc hb => HF.out W c (by rw [← HFF.out.1]; exact hc) (st h4 hb h4.size)))
    rw [HWR.out, HA.out] at HWH
    have H4 := Lib.hid h4
    clear h1 h2 h3 h4 hL HWR HFF HP
    go_wp2_with fail
    refine HWH.out.mono ?_
    rintro e w3 ⟨rfl, h5⟩
    have HB := Lib.hid (st H4.out h5 H4.out.size)
    clear h5
    go_wp2
    go_ret3
    exact ⟨by rw [decide_eq_false HZ.out]; rfl, HB.out⟩
set_option maxRecDepth 1000000 in
set_option maxHeartbeats 8000000 in
theorem neverBad_any (cs : List Cnd) (v fv : Value) (hbig : ∀ c ∈ cs, ∀ l ∈ c, l.length ≤ 4611686018427387904) (hbad : ¬ (cs.length ≤ 10 ∧ ∀ c ∈ cs, okC c = true)) (w : World) (hv : RdCs w v cs) :
    Calls Tryz.prog 70 #[v, fv] w fun e w' => e = .returned (.tuple #[.string (ofL []), .bool false, .int .i64 1]) ∧ Below w.heap.size w w' := by
  have HFI := Lib.hid (firstsBad_any cs v hbig hbad w hv)
  have t1 : ((1 : Int) != 0) = true := rfl
  clear hbig hbad hv
  go_enter Tryz.func70, Tryz.ntmps70
  go_wp2_with fail
  refine HFI.out.mono ?_
  rintro e w2 ⟨rfl, h4⟩
  have H4 := Lib.hid h4
  clear h4
  go_wp2
  go_ret3
  exact ⟨rfl, H4.out⟩
end Go.Proofs.YtfbfcomfkokfcaaGreatDoor


