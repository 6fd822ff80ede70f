/- The law ConditionSpans. -/
import Derived.Test.YtnabklhkalnpiaaGreatDoorCzyf
namespace Go.Proofs.YtnabklhkalnpiaaGreatDoor
open Go.RowKit
set_option linter.unusedVariables false

theorem own_set {α : Type} {k : Nat} {enc : α → List Value} {w : World} {base : Nat} {e : TypeId} {v : Value} {l : List α} (h : Own1 k enc w base e v l) {p : Addr} (hp : ∀ b, v.ownBlock = some b → b ≠ p.block) (u : Value) : Own1 k enc (w.setCell p u) base e v l := by
  refine ⟨h.1, ?_⟩
  rcases h.2 with h0 | ⟨g, cap, cur, hv, hB, hg, hr⟩
  · exact .inl h0
  · exact .inr ⟨g, cap, cur, hv, hB, (Below.heap_setCell w p u g (hp g (by rw [hv]; rfl))).trans hg, hr⟩
theorem u8_of {k : Int} (h : (Lit.int .u8 k).wf = true) : 0 ≤ k ∧ k ≤ 255 := by
  simp only [Lit.wf, Bool.and_eq_true, decide_eq_true_eq] at h
  exact h
/-- A row of spans is not a block that holds another first number. -/
theorem span_apart {w : World} {base : Nat} {v : Value} {A : List (Int × Int)} {p : Int × Int} {g : Nat} {X Y : Int} (h : Own1 2 encP w base 42 v (A ++ [p])) (hk : Blk g 42 #[.int .i64 X, .int .i64 Y] w) (hp : p.1 ≠ X) : ∀ b, v.ownBlock = some b → b ≠ g := by
  intro b hb e
  subst e
  rcases h.2 with ⟨rfl, _⟩ | ⟨g, cap, cur, rfl, _, hg, hnc, hcap, hsz, hr⟩
  · cases hb
  · obtain rfl : g = b := by cases hb; rfl
    have hc : cur = #[.int .i64 X, .int .i64 Y] := by
      have := (show w.heap[g]? = _ from hk).symm.trans hg
      injection this with this
      injection this with h1 _
      exact h1.symm
    subst hc
    simp at hsz
    have hl : (A ++ [p]).length ≤ 1 := by omega
    have hA : A = [] := by
      cases A with
      | nil => rfl
      | cons x l => simp at hl
    subst hA
    simp [encP] at hr
    exact hp hr.1.symm
theorem RelOk.below {w w' : World} {g : Nat} {x : RawR} {r : Rel} (h : RelOk w g x r) (hb : Below w.heap.size w w') : RelOk w' g x r :=
  ⟨h.1.below hb, fun b e => by
    obtain ⟨h1, cs, h2⟩ := h.2 b e
    exact ⟨h1, cs, Blk.below h2 hb⟩⟩
theorem LstOk.below {w w' : World} {g : Nat} {x : RawS} {l : List Rel} (h : LstOk w g x l) (hb : Below w.heap.size w w') : LstOk w' g x l := by
  obtain ⟨⟨raws, h1, h2, h3⟩, h4⟩ := h
  refine ⟨⟨raws, h1.below hb, h2, fun i a b => (h3 i a b).below hb⟩, fun b e => ?_⟩
  obtain ⟨g1, cs, g2⟩ := h4 b e
  exact ⟨g1, cs, Blk.below g2 hb⟩
def accS (K : Int) (sp : List (Int × Int)) (t : Nat) : List (Int × Int) := if t = 0 then backS K sp else (sp.drop t).reverse
def piece (K : Int) (n t : Nat) (s : Int × Int) : List (Int × Int) := if t = 0 then lastS K n s else [s]
theorem accS_zero (K : Int) (sp : List (Int × Int)) : accS K sp 0 = backS K sp := if_pos rfl
theorem accS_end (K : Int) (sp : List (Int × Int)) (h : 0 < sp.length) : accS K sp sp.length = [] := by
  unfold accS
  rw [if_neg (by omega), List.drop_length, List.reverse_nil]
theorem accS_step (K : Int) (sp : List (Int × Int)) (t : Nat) (h : t < sp.length) : accS K sp (t + 1) ++ piece K sp.length t sp[t] = accS K sp t := by
  unfold accS piece
  rw [if_neg (by omega)]
  by_cases ht : t = 0
  · subst ht
    rw [if_pos rfl, if_pos rfl]
    cases sp with
    | nil => simp at h
    | cons s l => rfl
  · rw [if_neg ht, if_neg ht, List.drop_eq_getElem_cons h, List.reverse_cons]
theorem accS_len (K : Int) (sp : List (Int × Int)) (t : Nat) : (accS K sp t).length ≤ sp.length + 4 := by
  unfold accS
  split
  · have := (backS_len K sp).1
    omega
  · rw [List.length_reverse, List.length_drop]
    omega
def accL (K : Int) (l : List Rel) (t : Nat) : List Rel := ((l.drop t).reverse).map (bkR K)
theorem accL_zero (K : Int) (l : List Rel) : accL K l 0 = bkL K l := rfl
theorem accL_end (K : Int) (l : List Rel) : accL K l l.length = [] := by
  unfold accL
  rw [List.drop_length, List.reverse_nil, List.map_nil]
theorem accL_step (K : Int) (l : List Rel) (t : Nat) (h : t < l.length) : accL K l (t + 1) ++ [bkR K l[t]] = accL K l t := by
  unfold accL
  rw [List.drop_eq_getElem_cons h, List.reverse_cons, List.map_append, List.map_singleton]
theorem accL_len (K : Int) (l : List Rel) (t : Nat) : (accL K l t).length ≤ l.length := by
  unfold accL
  rw [List.length_map, List.length_reverse, List.length_drop]
  omega
def accC (K : Int) (c : Cnd) (t : Nat) : Cnd := ((c.drop t).reverse).map (bkL K)
theorem accC_zero (K : Int) (c : Cnd) : accC K c 0 = bkC K c := rfl
theorem accC_end (K : Int) (c : Cnd) : accC K c c.length = [] := by
  unfold accC
  rw [List.drop_length, List.reverse_nil, List.map_nil]
theorem accC_step (K : Int) (c : Cnd) (t : Nat) (h : t < c.length) : accC K c (t + 1) ++ [bkL K c[t]] = accC K c t := by
  unfold accC
  rw [List.drop_eq_getElem_cons h, List.reverse_cons, List.map_append, List.map_singleton]
theorem accC_len (K : Int) (c : Cnd) (t : Nat) : (accC K c t).length ≤ c.length := by
  unfold accC
  rw [List.length_map, List.length_reverse, List.length_drop]
  omega
theorem snoc_get {α β : Type} {p : α → β → Prop} {a : List α} {b : List β} {x : α} {y : β} (hl : a.length = b.length) (h : ∀ (i : Nat) (h : i < a.length) (h' : i < b.length), p a[i] b[i]) (hx : p x y) (i : Nat) (h1 : i < (a ++ [x]).length) (h2 : i < (b ++ [y]).length) : p (a ++ [x])[i] (b ++ [y])[i] := by
  rcases Nat.lt_or_ge i a.length with hi | hi
  · rw [List.getElem_append_left hi, List.getElem_append_left (by omega)]
    exact h i hi (by omega)
  · have e1 : i = a.length := by rw [List.length_append, List.length_singleton] at h1; omega
    subst e1
    have e6 : (a ++ [x])[a.length] = x := by simp
    have e7 : (b ++ [y])[a.length]'h2 = y := by simp [hl]
    rw [e6, e7]
    exact hx
set_option maxRecDepth 1000000 in
set_option maxHeartbeats 16000000 in
theorem conditionSpans_walk (c : Cnd) (v : Value) (s : ByteArray) (hs : s.size ≤ maxLen) (k : Int) (hk0 : 0 ≤ k) (hk1 : k ≤ 255) (w : World) (hv : RdC w v c) (hl : ∀ l ∈ c, l.length ≤ 140737488355328) (E : Env w) :
    Calls Tryz.prog 7 #[v, .string s, .int .u8 k] w fun e w' => e = .returned (.bool true) ∧ Below w.heap.size w w' := by
  have hm : maxLen = 9223372036854775807 := by decide
  rw [hm] at hs
  obtain ⟨iL, hiL, hzL, hkL, hbL⟩ := info_parts Tryz.infoLst
  obtain ⟨iR, hiR, hzR, hkR, hbR⟩ := info_parts Tryz.infoRel
  obtain ⟨iS, hiS, hzS, hkS, hbS⟩ := info_parts Tryz.infoSp
  have HS := Lib.hid hs
  have HE := Lib.hid E
  have HV := Lib.hid hv
  have HL := Lib.hid hl
  have HK0 := Lib.hid hk0
  have HK1 := Lib.hid hk1
  obtain ⟨a, n, hva, _⟩ := hv.slice
  subst hva
  clear E hv hl hs hk0 hk1
  go_enter Tryz.func7, Tryz.ntmps7
  go_wp2_with fail
  refine (awake_any _ HE.out).mono ?_
  rintro e w1 ⟨rfl, b1⟩
  have B1 := Lib.hid b1
  have E1 := Lib.hid (HE.out.later b1)
  have V1 := Lib.hid (HV.out.below b1)
  clear b1 HV HE
  go_wp2_with fail
  refine (few_any _ c _ V1.out).mono ?_
  rintro e w2 ⟨⟨bf, rfl, hf⟩, hw2⟩
  obtain rfl := hw2.symm
  have HF := Lib.hid hf
  clear hf hw2
  cases bf with
  | false =>
    go_wp2_with fail
    refine (awake_any _ E1.out).mono ?_
    rintro e w3 ⟨rfl, bq⟩
    have BQ := Lib.hid (st B1.out bq B1.out.size)
    clear bq
    go_wp2
    go_ret
    exact ⟨rfl, BQ.out⟩
  | true =>
    have HCN := Lib.hid (cnt_few (by have := HF.out; simpa using this) HL.out)
    have HLB : Hid (∀ l ∈ c, l.length ≤ 4611686018427387904) := Lib.hid (fun l hx => Nat.le_trans (HL.out l hx) (by decide))
    have Q0 := Lib.hid (refValidC_any _ c w1 V1.out HCN.out)
    obtain ⟨vb, hvb⟩ : ∃ vb, okC c = vb := ⟨_, rfl⟩
    have HVB := Lib.hid hvb
    rw [hvb] at Q0
    clear hvb
    go_wp2_with fail
    refine Q0.out.mono ?_
    rintro e w3 ⟨rfl, b3⟩
    have B3 := Lib.hid (st B1.out b3 B1.out.size)
    have E3 := Lib.hid (E1.out.later b3)
    have V3 := Lib.hid (V1.out.below b3)
    clear b3 Q0
    cases vb with
    | false =>
      go_wp2_with fail
      refine (awake_any _ E3.out).mono ?_
      rintro e w4 ⟨rfl, bq⟩
      have BQ := Lib.hid (st B3.out bq B3.out.size)
      clear bq
      go_wp2
      go_ret
      exact ⟨rfl, BQ.out⟩
    | true =>
      have Q2 := Lib.hid (refValid_any s HS.out w3)
      obtain ⟨vs, hvs⟩ : ∃ vs, (spl s.data.toList).isSome = vs := ⟨_, rfl⟩
      have HVS := Lib.hid hvs
      rw [hvs] at Q2
      clear hvs
      go_wp2_with fail
      refine Q2.out.mono ?_
      rintro e w5 ⟨rfl, b5⟩
      have B5 := Lib.hid (st B3.out b5 B3.out.size)
      have E5 := Lib.hid (E3.out.later b5)
      have V5 := Lib.hid (V3.out.below b5)
      clear b5 Q2
      cases vs with
      | false =>
        go_wp2_with fail
        refine (awake_any _ E5.out).mono ?_
        rintro e w6 ⟨rfl, bq⟩
        have BQ := Lib.hid (st B5.out bq B5.out.size)
        clear bq
        go_wp2
        go_ret
        exact ⟨rfl, BQ.out⟩
      | true =>
        obtain ⟨x, hx⟩ := Option.isSome_iff_exists.1 HVS.out
        have hs0 : s.size ≤ 1000 := by have := spl_len hx; omega
        clear hx E1 E3 V1 V3 B1 B3
        have HC1 : Hid (okC c = true) := HVB
        have hc0 := (okC_iff.1 HC1.out).1
        have HLE := Lib.hid (len_le c HC1.out)
        have HOK := Lib.hid (okC_iff.1 HC1.out).2.1
        have hcl := HLE.out.1
        have hpos : 0 < w5.heap.size := by
          obtain ⟨bk, off, y1, y2, _, h0, _⟩ := V5.out.at_ 0 hc0
          have := World.block_lt_of_cell? w5 _ h0
          omega
        have HCZ := Lib.hid (accC_zero k c)
        have HCE := Lib.hid (accC_end k c)
        have HCS := Lib.hid (accC_step k c)
        have HCL := Lib.hid (accC_len k c)
        obtain ⟨AC, hAC⟩ : ∃ AC, accC k c = AC := ⟨_, rfl⟩
        rw [hAC] at HCZ HCE HCS HCL
        clear hAC hc0
        go_wp2_with fail
        go_loopw [7, 8] (fun v7 v8 wr => ∃ (t : Nat) (x : Int) (raws : List RawS), t ≤ c.length ∧ x = (t : Int) - 1 ∧ v8 = .int .i64 x ∧ Own1 1 encS wr w5.heap.size 39 v7 raws ∧ raws.length = (AC t).length ∧ (∀ (i : Nat) (h : i < raws.length) (h' : i < (AC t).length), LstOk wr 0 raws[i] (AC t)[i]) ∧ Below w5.heap.size w5 wr) (fun _ v8 _ => (intOf v8 + 1).toNat)
        case atStart => exact ⟨c.length, _, [], Nat.le_refl _, rfl, rfl, own1_nil _ _ _, by rw [HCE.out]; rfl, fun i h _ => by simp at h, Below.refl _ _⟩
        case round =>
          rename World => wi
          obtain ⟨t, x, raws, ht, hx, rfl, own, hlen, hok, hb⟩ := hrel
          obtain ⟨va, vc, hva⟩ := own.slice
          subst hva
          have OW := Lib.hid own
          have HLN := Lib.hid hlen
          have HLO := Lib.hid hok
          have HB := Lib.hid hb
          have zi := hb.size
          have hrl : raws.length ≤ 6 := by have := HCL.out t; omega
          clear own hlen hok hb
          cases t with
          | zero =>
            obtain rfl : x = -1 := by omega
            clear hx ht
            have VB : Hid (RdC wi (.slice va raws.length vc) (bkC k c)) := Lib.hid (by
              rw [← HCZ.out]
              exact ⟨raws, OW.out.rd encS_len, HLN.out, fun i h h' => (HLO.out i h h').rd⟩)
            have HBK := Lib.hid (okC_back HK0.out HC1.out)
            have HBL := Lib.hid (len_le _ HBK.out)
            obtain ⟨hb, hhb⟩ : ∃ hb, hldC s.data.toList c = hb := ⟨_, rfl⟩
            have HHB := Lib.hid hhb
            have HHK : Hid (hldC s.data.toList (bkC k c) = hb) := Lib.hid (by rw [hldC_back HK0.out, hhb])
            have VI := Lib.hid (V5.out.below HB.out)
            have BI := Lib.hid (st B5.out HB.out B5.out.size)
            have H1 := Lib.hid (holdsC_any _ c s hs0 wi VI.out HLB.out)
            rw [holdR_ok HC1.out HVS.out, hhb] at H1
            have t1 : (hb == hb) = true := by simp
            clear hhb
            go_wp2_with fail
            refine H1.out.mono ?_
            rintro e w6 ⟨rfl, b6⟩
            have B6 := Lib.hid (st BI.out b6 BI.out.size)
            have H2 := Lib.hid (holdsC_any _ (bkC k c) s hs0 w6 (VB.out.below b6) (fun l hx => by have := HBL.out.2 l hx; omega))
            rw [holdR_ok HBK.out HVS.out, HHK.out] at H2
            clear b6 H1
            go_wp2_with fail
            refine H2.out.mono ?_
            rintro e w7 ⟨rfl, b7⟩
            have B7 := Lib.hid (st B6.out b7 B6.out.size)
            clear b7 H2
            go_wp2
            go_ret
            exact ⟨rfl, B7.out⟩
          | succ t =>
            obtain rfl : x = (t : Int) := by omega
            clear hx
            have hlt : t < c.length := by omega
            obtain ⟨bk, off, y1, y2, rfl, h0, h4⟩ := (V5.out.below HB.out).at_ t hlt
            have h9 : (0 : Int) ≤ (t : Int) := by omega
            have h9' : (t : Int) < (c.length : Int) := by omega
            have HNX := Lib.hid (HCS.out t hlt)
            have hml := HLE.out.2 c[t] (List.getElem_mem hlt)
            have HMO := Lib.hid (HOK.out c[t] (List.getElem_mem hlt))
            obtain ⟨m, hm⟩ : ∃ m, c[t] = m := ⟨_, rfl⟩
            rw [hm] at h0 h4 HNX hml HMO
            have H4 := Lib.hid h4
            have H0 := Lib.hid h0
            clear hm h4
            have HLZ := Lib.hid (accL_zero k m)
            have HLE2 := Lib.hid (accL_end k m)
            have HLS := Lib.hid (accL_step k m)
            have HLL := Lib.hid (accL_len k m)
            obtain ⟨AL, hAL⟩ : ∃ AL, accL k m = AL := ⟨_, rfl⟩
            rw [hAL] at HLZ HLE2 HLS HLL
            clear hAL
            go_wp2_with fail
            go_loopw [9, 10] (fun v9 v10 wz => ∃ (t2 : Nat) (x2 : Int) (rr : List RawR), t2 ≤ m.length ∧ x2 = (t2 : Int) - 1 ∧ v10 = .int .i64 x2 ∧ Own1 4 encR wz wi.heap.size 38 v9 rr ∧ rr.length = (AL t2).length ∧ (∀ (i : Nat) (h : i < rr.length) (h' : i < (AL t2).length), RelOk wz 0 rr[i] (AL t2)[i]) ∧ Below wi.heap.size wi wz) (fun _ v10 _ => (intOf v10 + 1).toNat)
            case atStart => exact ⟨m.length, _, [], Nat.le_refl _, rfl, rfl, own1_nil _ _ _, by rw [HLE2.out]; rfl, fun i h _ => by simp at h, Below.refl _ _⟩
            case round =>
              rename World => wk
              obtain ⟨t2, x2, rr, ht2, hx2, rfl, own2, hlen2, hok2, hb2⟩ := hrel
              obtain ⟨vl, vlc, hvl⟩ := own2.slice
              subst hvl
              have OW2 := Lib.hid own2
              have HLN2 := Lib.hid hlen2
              have HLO2 := Lib.hid hok2
              have HB2 := Lib.hid hb2
              have zk := hb2.size
              have hrl2 : rr.length ≤ 6 := by have := HLL.out t2; omega
              have h0k := cell_later H0.out hb2
              clear own2 hlen2 hok2 hb2 h0
              cases t2 with
              | zero =>
                obtain rfl : x2 = -1 := by omega
                clear hx2 ht2 h0k
                have OWk : Hid (Own1 1 encS wk w5.heap.size 39 (.slice va raws.length vc) raws) := Lib.hid (own_below OW.out HB2.out)
                have hz : w5.heap.size ≤ wk.heap.size := Nat.le_trans zi zk
                go_wp2_with (first | (at_builtin; refine wpList_append_at (w0 := wk) (x := (⟨vl, rr.length, vlc⟩ : RawS)) (N := wk.heap.size) rfl rfl _ _ 23 rfl w5.heap.size iL _ 24 Tryz.underlying23 hiL hzL hkL hbL (by omega) rfl (by omega) encS_len encS_one _ raws rfl rfl OWk.out rfl (by omega) hz ?_; intro v9 w9 y1 y2 y3) | go_in)
                obtain ⟨a9, c9, hv9⟩ := y1.slice
                rw [List.length_append, List.length_singleton] at hv9
                subst hv9
                have hrow : ∀ b, (Value.slice va raws.length vc).ownBlock = some b → ∃ t cs, t ≠ 42 ∧ t ≠ 38 ∧ Blk b t cs wk := fun b hb => by
                  obtain ⟨cs, hcs⟩ := OWk.out.blk b hb
                  exact ⟨_, cs, by decide, by decide, hcs⟩
                have hnew : LstOk wk 0 (⟨vl, rr.length, vlc⟩ : RawS) (bkL k m) := by
                  rw [← HLZ.out]
                  exact ⟨⟨rr, OW2.out.rd encR_len, HLN2.out, HLO2.out⟩, fun b hb => ⟨by have := (OW2.out.lt_ b hb).1; omega, OW2.out.blk b hb⟩⟩
                have HN : Hid (raws.length + 1 = (AC t).length ∧ (∀ (i : Nat) (h : i < (raws ++ [(⟨vl, rr.length, vlc⟩ : RawS)]).length) (h' : i < (AC t).length), LstOk w9 0 (raws ++ [(⟨vl, rr.length, vlc⟩ : RawS)])[i] (AC t)[i])) := Lib.hid (by
                  rw [← HNX.out]
                  refine ⟨by rw [List.length_append, List.length_singleton, HLN.out], fun i h h' => ?_⟩
                  exact snoc_get (p := fun x y => LstOk w9 0 x y) HLN.out (fun i h h' => ((HLO.out i h h').below HB2.out).grown y3 hrow) (hnew.grown y3 hrow) i h h')
                have O9 := Lib.hid y1
                have BL9 := Lib.hid ((HB.out.trans (HB2.out.mono zi)).trans y2)
                clear y1 y2 y3 hrow hnew
                go_wp2
                go_roundw
                case measure => simp [intOf] <;> omega
                case rel => exact ⟨t, (t : Int) - 1, raws ++ [(⟨vl, rr.length, vlc⟩ : RawS)], by omega, rfl, by go_num, O9.out, by rw [List.length_append, List.length_singleton]; exact HN.out.1, HN.out.2, BL9.out⟩
              | succ t2 =>
                obtain rfl : x2 = (t2 : Int) := by omega
                clear hx2
                have hlt2 : t2 < m.length := by omega
                obtain ⟨bm, om, z1, z2, rfl, g0, g1, g2, g3, g4⟩ := (H4.out.below HB2.out).at_ t2 hlt2
                have h8 : (0 : Int) ≤ (t2 : Int) := by omega
                have h8' : (t2 : Int) < (m.length : Int) := by omega
                have HNX2 := Lib.hid (HLS.out t2 hlt2)
                have HRO := Lib.hid ((okL_iff.1 HMO.out).2 m[t2] (List.getElem_mem hlt2))
                obtain ⟨r, hr⟩ : ∃ r, m[t2] = r := ⟨_, rfl⟩
                rw [hr] at g0 g1 g2 g3 g4 HNX2 HRO
                clear hr
                have hfew := (okR_iff.1 HRO.out).few
                have hsome := (okR_iff.1 HRO.out).some_
                have HSPO := Lib.hid (okR_iff.1 HRO.out).sp
                obtain ⟨o, md, b, sp⟩ := r
                dsimp only at g0 g1 g2 g3 g4 hfew hsome HSPO
                have G4 := Lib.hid g4
                have ba := (Below.refl wk.heap.size wk).alloc (Nat.le_refl _) (.cells #[.int .i64 o, .int .i64 md, .bool b, .slice z1 sp.length z2] 38)
                have kr := Blk.new wk 38 #[.int .i64 o, .int .i64 md, .bool b, .slice z1 sp.length z2]
                have hszj := World.size_alloc wk (.cells #[.int .i64 o, .int .i64 md, .bool b, .slice z1 sp.length z2] 38)
                have HSZ := Lib.hid (accS_zero k sp)
                have HSE := Lib.hid (accS_end k sp hsome)
                have HSS := Lib.hid (accS_step k sp)
                have HSL := Lib.hid (accS_len k sp)
                obtain ⟨AS, hAS⟩ : ∃ AS, accS k sp = AS := ⟨_, rfl⟩
                rw [hAS] at HSZ HSE HSS HSL
                have HBA := Lib.hid ba
                have KR := Lib.hid kr
                have HSZJ := Lib.hid hszj
                clear g4 hAS ba kr hszj
                go_wp2_with fail
                obtain ⟨Wj, hWj⟩ : ∃ Wj, wk.alloc (.cells #[.int .i64 o, .int .i64 md, .bool b, .slice z1 sp.length z2] 38) = Wj := ⟨_, rfl⟩
                rw [hWj] at HBA KR HSZJ ⊢
                obtain ⟨gR, hgR⟩ : ∃ gR, wk.heap.size = gR := ⟨_, rfl⟩
                have HGR := Lib.hid hgR
                rw [hgR] at KR HSZJ ⊢
                have hszj := HSZJ.out
                clear hWj hgR h0k g0 g1 g2 g3
                go_loopw [12, 13] (fun v12 v13 wq => ∃ (t3 : Nat) (x3 : Int), t3 ≤ sp.length ∧ x3 = (t3 : Int) - 1 ∧ v13 = .int .i64 x3 ∧ Own1 2 encP wq Wj.heap.size 42 v12 (AS t3) ∧ Below Wj.heap.size Wj wq) (fun _ v13 _ => (intOf v13 + 1).toNat)
                case atStart => exact ⟨sp.length, _, Nat.le_refl _, rfl, by go_num, by rw [HSE.out]; exact own1_nil _ _ _, Below.refl _ _⟩
                case round =>
                  rename World => wq
                  obtain ⟨t3, x3, ht3, hx3, rfl, own3, hb3⟩ := hrel
                  have hal := HSL.out t3
                  obtain ⟨A, hA⟩ : ∃ A, AS t3 = A := ⟨_, rfl⟩
                  have HA := Lib.hid hA
                  rw [hA] at own3 hal
                  obtain ⟨vs_, vsc, hvs⟩ := own3.slice
                  subst hvs
                  have OW3 := Lib.hid own3
                  have HB3 := Lib.hid hb3
                  have zq := hb3.size
                  have KQ := Lib.hid (Blk.below KR.out hb3)
                  clear own3 hb3 hA
                  cases t3 with
                  | zero =>
                    obtain rfl : x3 = -1 := by omega
                    clear hx3 ht3
                    have hAB : Hid (A = backS k sp) := Lib.hid (by rw [← HA.out, HSZ.out])
                    have HGL : gR < Wj.heap.size := by omega
                    have s3 : wq.cell? ⟨gR, 3, none⟩ = some (.slice z1 sp.length z2) := KQ.out.cell 3
                    have s3f : wq.frozen? ⟨gR, 3, none⟩ = false := KQ.out.frozen 3
                    go_upto_region 22 with fail
                    go_cut [12] from 115 to 116 (fun v12 wx => v12 = .slice vs_ A.length vsc ∧ wx = wq.setCell ⟨gR, 3, none⟩ (.slice vs_ A.length vsc))
                    case first =>
                      go_wp2_with fail
                      go_meet
                      exact ⟨rfl, rfl⟩
                    case rest =>
                      obtain ⟨rfl, hwc⟩ := hcut
                      rename World => ws
                      have KS : Hid (Blk gR 38 #[.int .i64 o, .int .i64 md, .bool b, .slice vs_ A.length vsc] ws) := Lib.hid (by rw [hwc]; exact KQ.out.put 3 _)
                      have OS : Hid (Own1 2 encP ws Wj.heap.size 42 (.slice vs_ A.length vsc) A) := Lib.hid (by
                        rw [hwc]
                        exact own_set OW3.out (fun b hb => by have := (OW3.out.lt_ b hb).1; show b ≠ gR; omega) _)
                      have BS : Hid (Below wk.heap.size wk ws) := Lib.hid (by
                        rw [hwc]
                        exact (HBA.out.trans (HB3.out.mono (by have := HGR.out; omega))).setCell (p := ⟨gR, 3, none⟩) (by have := HGR.out; show wk.heap.size ≤ gR; omega) _)
                      have a0 : ws.cell? ⟨gR, 0, none⟩ = some (.int .i64 o) := KS.out.cell 0
                      have a1 : ws.cell? ⟨gR, 1, none⟩ = some (.int .i64 md) := KS.out.cell 1
                      have a2 : ws.cell? ⟨gR, 2, none⟩ = some (.bool b) := KS.out.cell 2
                      have a3 : ws.cell? ⟨gR, 3, none⟩ = some (.slice vs_ A.length vsc) := KS.out.cell 3
                      have OWL : Hid (Own1 4 encR ws wi.heap.size 38 (.slice vl rr.length vlc) rr) := Lib.hid (own_below OW2.out BS.out)
                      have hz2 : wi.heap.size ≤ ws.heap.size := Nat.le_trans zk BS.out.size
                      clear hwc s3 s3f
                      go_wp2_with (first | (at_builtin; refine wpList_append_at (w0 := ws) (x := (⟨o, md, b, vs_, A.length, vsc⟩ : RawR)) (N := ws.heap.size) rfl rfl _ _ 39 rfl wi.heap.size iR _ 48 Tryz.underlying39 hiR hzR hkR hbR (by omega) rfl (by omega) encR_len encR_one _ rr rfl rfl OWL.out rfl (by omega) hz2 ?_; intro v9 w9 y1 y2 y3) | go_in)
                      obtain ⟨a9, c9, hv9⟩ := y1.slice
                      rw [List.length_append, List.length_singleton] at hv9
                      subst hv9
                      have hrow : ∀ b, (Value.slice vl rr.length vlc).ownBlock = some b → ∃ t cs, t ≠ 42 ∧ Blk b t cs ws := fun b hb => by
                        obtain ⟨cs, hcs⟩ := OWL.out.blk b hb
                        exact ⟨_, cs, by decide, hcs⟩
                      have hnew : RelOk ws 0 (⟨o, md, b, vs_, A.length, vsc⟩ : RawR) (bkR k ⟨o, md, b, sp⟩) := by
                        refine ⟨⟨rfl, rfl, rfl, ?_⟩, fun b hb => ⟨by have := (OS.out.lt_ b hb).1; omega, OS.out.blk b hb⟩⟩
                        show Rd 2 encP ws (.slice vs_ A.length vsc) (backS k sp)
                        rw [← hAB.out]
                        exact OS.out.rd encP_len
                      have HN : Hid (rr.length + 1 = (AL t2).length ∧ (∀ (i : Nat) (h : i < (rr ++ [(⟨o, md, b, vs_, A.length, vsc⟩ : RawR)]).length) (h' : i < (AL t2).length), RelOk w9 0 (rr ++ [(⟨o, md, b, vs_, A.length, vsc⟩ : RawR)])[i] (AL t2)[i])) := Lib.hid (by
                        rw [← HNX2.out]
                        refine ⟨by rw [List.length_append, List.length_singleton, HLN2.out], fun i h h' => ?_⟩
                        exact snoc_get (p := fun x y => RelOk w9 0 x y) HLN2.out (fun i h h' => ((HLO2.out i h h').below BS.out).grown y3 hrow) (hnew.grown y3 hrow) i h h')
                      have O9 := Lib.hid y1
                      have BL9 := Lib.hid ((HB2.out.trans (BS.out.mono zk)).trans y2)
                      clear y1 y2 y3 hrow hnew a0 a1 a2 a3
                      go_wp2
                      go_roundw
                      case measure => simp [intOf] <;> omega
                      case rel => exact ⟨t2, (t2 : Int) - 1, rr ++ [(⟨o, md, b, vs_, A.length, vsc⟩ : RawR)], by omega, rfl, by go_num, O9.out, by rw [List.length_append, List.length_singleton]; exact HN.out.1, HN.out.2, BL9.out⟩
                  | succ t3 =>
                    obtain rfl : x3 = (t3 : Int) := by omega
                    clear hx3
                    have hlt3 : t3 < sp.length := by omega
                    obtain ⟨bs, os_, rfl, s0, s1⟩ := ((G4.out.below HBA.out).below HB3.out).span t3 hlt3
                    have h7 : (0 : Int) ≤ (t3 : Int) := by omega
                    have h7' : (t3 : Int) < (sp.length : Int) := by omega
                    have HNX3 := Lib.hid (HSS.out t3 hlt3)
                    rw [HA.out] at HNX3
                    have hsl := okSp_le (HSPO.out sp[t3] (List.getElem_mem hlt3))
                    obtain ⟨⟨X, Y⟩, hxy⟩ : ∃ s, sp[t3] = s := ⟨_, rfl⟩
                    rw [hxy] at s0 s1 HNX3 hsl
                    dsimp only at s0 s1 hsl
                    have c3 : wq.cell? ⟨gR, 3, none⟩ = some (.slice (some ⟨bs, os_, none⟩) sp.length z2) := KQ.out.cell 3
                    have hgq : gR < wq.heap.size := by omega
                    have bq := (Below.refl wq.heap.size wq).alloc (Nat.le_refl _) (.cells #[.int .i64 X, .int .i64 Y] 42)
                    have ks := Blk.new wq 42 #[.int .i64 X, .int .i64 Y]
                    have HBQ := Lib.hid bq
                    have KS := Lib.hid ks
                    obtain ⟨W1, hW1⟩ : ∃ W1, wq.alloc (.cells #[.int .i64 X, .int .i64 Y] 42) = W1 := ⟨_, rfl⟩
                    have HW1 := Lib.hid hW1
                    clear hxy bq ks hW1
                    go_upto_region 17 with fail
                    rw [HW1.out] at HBQ KS ⊢
                    obtain ⟨gS, hgS⟩ : ∃ gS, wq.heap.size = gS := ⟨_, rfl⟩
                    have HGS := Lib.hid hgS
                    rw [hgS] at KS ⊢
                    have KQ1 := Lib.hid (Blk.below KQ.out HBQ.out)
                    have e0 : W1.cell? ⟨gS, 0, none⟩ = some (.int .i64 X) := KS.out.cell 0
                    have e1 : W1.cell? ⟨gS, 1, none⟩ = some (.int .i64 Y) := KS.out.cell 1
                    have e3 : W1.cell? ⟨gR, 3, none⟩ = some (.slice (some ⟨bs, os_, none⟩) sp.length z2) := KQ1.out.cell 3
                    have O1 : Hid (Own1 2 encP W1 Wj.heap.size 42 (.slice vs_ A.length vsc) A) := Lib.hid (own_below OW3.out HBQ.out)
                    have BW1 := Lib.hid (HB3.out.trans (HBQ.out.mono zq))
                    obtain ⟨bb, hbb⟩ : ∃ bb, decide (t3 = 0 ∧ X < Y ∧ sp.length < 4) = bb := ⟨_, rfl⟩
                    have HBB := Lib.hid hbb
                    clear hgS c3 s0 s1 hbb
                    go_cut [89] from 75 to 89 (fun v89 wx => v89 = .bool bb ∧ wx = W1)
                    case first =>
                      by_cases p0 : t3 = 0
                      · have d0 : ((t3 : Int) == 0) = true := by rw [beq_iff_eq]; omega
                        have d0' : (t3 == 0) = true := by rw [beq_iff_eq]; exact p0
                        by_cases p1 : X < Y
                        · have d1 := decide_eq_true p1
                          by_cases p2 : sp.length < 4
                          · have d2 := decide_eq_true p2
                            have d2' : decide ((sp.length : Int) < 4) = true := decide_eq_true (by omega)
                            have HV : Hid (bb = true) := Lib.hid (by rw [← HBB.out]; exact decide_eq_true ⟨p0, p1, p2⟩)
                            clear p0 p1 p2
                            go_wp2_with fail
                            go_meet
                            exact ⟨by rw [HV.out], rfl⟩
                          · have d2 := decide_eq_false p2
                            have d2' : decide ((sp.length : Int) < 4) = false := decide_eq_false (by omega)
                            have HV : Hid (bb = false) := Lib.hid (by rw [← HBB.out]; exact decide_eq_false (fun h => p2 h.2.2))
                            clear p0 p1 p2
                            go_wp2_with fail
                            go_meet
                            exact ⟨by rw [HV.out], rfl⟩
                        · have d1 := decide_eq_false p1
                          have HV : Hid (bb = false) := Lib.hid (by rw [← HBB.out]; exact decide_eq_false (fun h => p1 h.2.1))
                          clear p0 p1
                          go_wp2_with fail
                          go_meet
                          exact ⟨by rw [HV.out], rfl⟩
                      · have d0 : ((t3 : Int) == 0) = false := by rw [beq_eq_false_iff_ne]; omega
                        have d0' : (t3 == 0) = false := by rw [beq_eq_false_iff_ne]; exact p0
                        have HV : Hid (bb = false) := Lib.hid (by rw [← HBB.out]; exact decide_eq_false (fun h => p0 h.1))
                        clear p0
                        go_wp2_with fail
                        go_meet
                        exact ⟨by rw [HV.out], rfl⟩
                    case rest =>
                      obtain ⟨rfl, hwc⟩ := hcut
                      obtain rfl := hwc.symm
                      go_upto_if 89 with fail
                      go_cut [12] from 90 to 110 (fun v12 wx => ∃ (B : List (Int × Int)) (S : Int × Int), Own1 2 encP wx Wj.heap.size 42 v12 B ∧ B ++ [S] = AS t3 ∧ Blk gS 42 #[.int .i64 S.1, .int .i64 S.2] wx ∧ Below Wj.heap.size Wj wx ∧ B.length ≤ 10)
                      case first =>
                        cases bb with
                        | false =>
                          have HP : Hid (piece k sp.length t3 (X, Y) = [(X, Y)]) := Lib.hid (by
                            have h := of_decide_eq_false HBB.out
                            unfold piece lastS
                            by_cases h0 : t3 = 0
                            · rw [if_pos h0, if_neg (fun h2 => h ⟨h0, h2⟩)]
                            · rw [if_neg h0])
                          go_wp2_with fail
                          go_meet
                          exact ⟨A, (X, Y), O1.out, by rw [← HNX3.out, HP.out], KS.out, BW1.out, by omega⟩
                        | true =>
                          have hcond := of_decide_eq_true HBB.out
                          have hXY := hcond.2.1
                          have HP : Hid (piece k sp.length t3 (X, Y) = [(midS k (X, Y) + 1, Y), (X, midS k (X, Y))]) := Lib.hid (by
                            unfold piece lastS
                            rw [if_pos hcond.1, if_pos hcond.2])
                          have hmi := midS_in HK0.out (s := (X, Y)) hXY
                          dsimp only at hmi
                          have hmd : midS k (X, Y) = X + k.tmod (Y - X) := rfl
                          obtain ⟨M, hM⟩ : ∃ M, midS k (X, Y) = M := ⟨_, rfl⟩
                          rw [hM] at HP hmi hmd
                          obtain ⟨D, hD⟩ : ∃ D, Y - X = D := ⟨_, rfl⟩
                          rw [hD] at hmd
                          obtain ⟨R, hR⟩ : ∃ R, k.tmod D = R := ⟨_, rfl⟩
                          rw [hR] at hmd
                          have hk0 := HK0.out
                          have hk1 := HK1.out
                          have d1 : IntKind.i64.wrap (Y - X) = D := by rw [wrap_fit (by omega) (by omega)]; exact hD
                          have d2 : ¬ D = 0 := by omega
                          have d3 : k % D = R := by rw [← hR, Int.tmod_eq_emod_of_nonneg hk0]
                          have d4 : IntKind.i64.wrap (X + R) = M := by rw [wrap_fit (by omega) (by omega)]; exact hmd.symm
                          have d5 : IntKind.i64.wrap k = k := wrap_fit (by omega) (by omega)
                          have d6 : IntKind.i64.wrap R = R := wrap_fit (by omega) (by omega)
                          have d7 : IntKind.i64.wrap (M + 1) = M + 1 := wrap_fit (by omega) (by omega)
                          have f0 : W1.drew.cell? ⟨gS, 0, none⟩ = some (.int .i64 X) := e0
                          have f1 : W1.drew.cell? ⟨gS, 1, none⟩ = some (.int .i64 Y) := e1
                          have HMI := Lib.hid hmi
                          have D7 := Lib.hid d7
                          clear hcond hXY hmi hmd hM hD d7 hsl hk0 hk1
                          go_upto_region 18 with fail
                          go_cut [15] from 90 to 100 (fun v15 wx => v15 = .int .i64 M ∧ ∃ nq, wx = W1.drewN nq)
                          case first =>
                            go_wp2_with fail
                            go_quiet (fail)
                            go_wp2_with fail
                            go_meet
                            exact ⟨rfl, _, rfl⟩
                          case rest =>
                            obtain ⟨rfl, nq, hwq⟩ := hcut
                            rename World => wd
                            have OD : Hid (Own1 2 encP wd Wj.heap.size 42 (.slice vs_ A.length vsc) A) := Lib.hid (by rw [hwq]; exact own_below O1.out (below_drewN (Below.refl _ _) nq))
                            have KD : Hid (Blk gS 42 #[.int .i64 X, .int .i64 Y] wd) := Lib.hid (by rw [hwq]; exact KS.out.drewN nq)
                            have BD : Hid (Below Wj.heap.size Wj wd) := Lib.hid (by rw [hwq]; exact below_drewN BW1.out nq)
                            have u1 : wd.cell? ⟨gS, 1, none⟩ = some (.int .i64 Y) := KD.out.cell 1
                            have zx := BD.out.size
                            have d7 := D7.out
                            clear hwq d1 d2 d3 d4 d5 d6 f0 f1 e0 e1 e3 hR
                            go_upto_region 20 with (first | (at_builtin; refine wpList_append_at (w0 := wd) (x := (M + 1, Y)) (N := wd.heap.size) rfl rfl _ _ 36 rfl Wj.heap.size iS _ 16 Tryz.underlying36 hiS hzS hkS hbS (by omega) rfl (by omega) encP_len encP_one _ A rfl rfl OD.out rfl (by omega) zx ?_; intro v9 w9 y1 y2 y3) | go_in)
                            have K9 : Hid (Blk gS 42 #[.int .i64 X, .int .i64 Y] w9) := Lib.hid ((y3.block gS KD.out.lt (fun e => by have := (OW3.out.lt_ gS e.symm).2; have := HGS.out; omega)).trans KD.out)
                            have hap := span_apart y1 K9.out (by have := HMI.out; show M + 1 ≠ X; omega)
                            have HGJ : Hid (Wj.heap.size ≤ gS) := Lib.hid (by have := HGS.out; omega)
                            have hfin : Hid (Own1 2 encP (w9.setCell ⟨gS, 1, none⟩ (.int .i64 M)) Wj.heap.size 42 v9 (A ++ [(M + 1, Y)]) ∧ (A ++ [(M + 1, Y)]) ++ [(X, M)] = AS t3 ∧ Blk gS 42 #[.int .i64 X, .int .i64 M] (w9.setCell ⟨gS, 1, none⟩ (.int .i64 M)) ∧ Below Wj.heap.size Wj (w9.setCell ⟨gS, 1, none⟩ (.int .i64 M)) ∧ (A ++ [(M + 1, Y)]).length ≤ 10) :=
                              Lib.hid ⟨own_set y1 (fun b hb => hap b hb) _, by rw [← HNX3.out, HP.out]; simp, K9.out.put 1 _, (BD.out.trans y2).setCell (p := ⟨gS, 1, none⟩) HGJ.out _, by rw [List.length_append, List.length_singleton]; omega⟩
                            have q1 : w9.cell? ⟨gS, 1, none⟩ = some (.int .i64 Y) := K9.out.cell 1
                            have q2 : w9.frozen? ⟨gS, 1, none⟩ = false := K9.out.frozen 1
                            clear y1 y2 y3 hap u1 d7
                            go_wp2_with fail
                            go_meet
                            exact ⟨A ++ [(M + 1, Y)], (X, M), hfin.out⟩
                      case rest =>
                        obtain ⟨B, S, own4, hBS, ks4, hb4, hBl⟩ := hcut
                        rename World => wx
                        obtain ⟨vt, vtc, hvt⟩ := own4.slice
                        subst hvt
                        obtain ⟨S1, S2⟩ := S
                        dsimp only at ks4
                        have OW4 := Lib.hid own4
                        have HBS := Lib.hid hBS
                        have KS4 := Lib.hid ks4
                        have HB4 := Lib.hid hb4
                        have u0 : wx.cell? ⟨gS, 0, none⟩ = some (.int .i64 S1) := ks4.cell 0
                        have u1 : wx.cell? ⟨gS, 1, none⟩ = some (.int .i64 S2) := ks4.cell 1
                        have zx := hb4.size
                        clear own4 hBS ks4 hb4 e0 e1 e3
                        go_wp2_with (first | (at_builtin; refine wpList_append_at (w0 := wx) (x := (S1, S2)) (N := wx.heap.size) rfl rfl _ _ 36 rfl Wj.heap.size iS _ 16 Tryz.underlying36 hiS hzS hkS hbS (by omega) rfl (by omega) encP_len encP_one _ B rfl rfl OW4.out rfl (by omega) zx ?_; intro v9 w9 y1 y2 y3) | go_in)
                        have O9 : Hid (Own1 2 encP w9 Wj.heap.size 42 v9 (AS t3)) := Lib.hid (by rw [← HBS.out]; exact y1)
                        obtain ⟨a9, c9, hv9⟩ := y1.slice
                        rw [List.length_append, List.length_singleton] at hv9
                        subst hv9
                        have BL9 := Lib.hid (HB4.out.trans y2)
                        clear y1 y2 y3 u0 u1
                        go_wp2
                        go_roundw
                        case measure => simp [intOf] <;> omega
                        case rel => exact ⟨t3, (t3 : Int) - 1, by omega, rfl, by go_num, O9.out, BL9.out⟩
end Go.Proofs.YtnabklhkalnpiaaGreatDoor
