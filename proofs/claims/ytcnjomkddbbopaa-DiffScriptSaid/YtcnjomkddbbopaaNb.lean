/- diff.Script. -/
import Derived.Test.YtcnjomkddbbopaaNa
namespace Go.Proofs.Ytcnjomkddbbopaa
open Go.RowKit
set_option linter.unusedVariables false

theorem cutV_block {a : Option Addr} {m n c k b : Nat} (n' c' : Nat) (h : (cutV a m n c k).ownBlock = some b) : (Value.slice a n' c').ownBlock = some b := by
  cases a with
  | none => unfold cutV at h; split at h <;> simp [Value.ownBlock] at h
  | some x =>
    unfold cutV at h
    split at h
    · simpa [Value.ownBlock] using h
    · obtain ⟨x1, x2, x3⟩ := x
      unfold Addr.add at h
      simp [Value.ownBlock] at h ⊢
      split at h <;> simpa using h
/-- A list from one of its places up to another. -/
theorem Rd.mid_ {P : Program} {α : Type} {k : Nat} {enc : α → List Value} {T e : TypeId} {i : TypeInfo} (hT : P.underlying T = some (.slice e)) (he : P.info? e = some i) (hi : i.size = k) {w : World} {a : Option Addr} {n c : Nat} {l : List α} (h : Rd k enc w (.slice a n c) l) (lo up : Nat) (h1 : lo ≤ up) (h2 : up ≤ l.length) :
    ∃ a2 c2, Rd k enc w (.slice a2 (up - lo) c2) ((l.take up).drop lo) ∧ (∀ b, (Value.slice a2 (up - lo) c2).ownBlock = some b → (Value.slice a n c).ownBlock = some b) ∧ (∀ wx, (Instr.slice T (.slice a n c) (some (.int .i64 (lo : Int))) (some (.int .i64 (up : Int))) none).run P wx = .ok (.slice a2 (up - lo) c2) wx) ∧ (∀ wx, (Instr.sliceAt T (.slice a n c) (some (.int .i64 (lo : Int))) (some (.int .i64 (up : Int))) none).run P wx = .ok (.slice a2 (up - lo) c2) wx) := by
  have ht := h.take up h2
  have hlen : (l.take up).length = up := by rw [List.length_take]; omega
  have hc := ht.cut lo (by omega)
  obtain ⟨a', c', hv, hlc, hc63⟩ := h.slice
  injection hv with e1 e2 e3
  subst e1 e3
  have hE : P.elem T = e := by unfold Program.elem; rw [hT]
  have hs : ∀ wx, (Instr.slice T (.slice a n c) (some (.int .i64 (lo : Int))) (some (.int .i64 (up : Int))) none).run P wx = .ok (cutV a lo up c k) wx := fun wx => by
    rw [run_slice_lh (P := P) (w := wx) (t := T) (a := a) (len := n) (cap := c) (by rw [hT, hE]) .i64 .i64 (lo : Int) (up : Int) (by omega) (by omega) (by omega)]
    rw [hE]
    simp [sizeOf, typeInfo, he, hi, Result.andThen, cutV, sliced]
  obtain ⟨a2, c2, hv2, _⟩ := hc.slice
  have hl2 : ((l.take up).drop lo).length = up - lo := by rw [List.length_drop, hlen]
  rw [hl2] at hv2
  rw [hv2] at hc
  refine ⟨a2, c2, hc, fun b hb => cutV_block (k := k) (m := lo) (n := up) n c (by rw [hv2]; exact hb), fun wx => by rw [hs, hv2], fun wx => ?_⟩
  rw [run_sliceAt_slice (P := P) (w := wx) T _ _ _ _ (by rw [hT, hE]), hs, hv2]
theorem Rd.tail_ {P : Program} {α : Type} {k : Nat} {enc : α → List Value} {T e : TypeId} {i : TypeInfo} (hT : P.underlying T = some (.slice e)) (he : P.info? e = some i) (hi : i.size = k) {w : World} {a : Option Addr} {n c : Nat} {l : List α} (h : Rd k enc w (.slice a n c) l) (lo : Nat) (h1 : lo ≤ l.length) :
    ∃ a2 c2, Rd k enc w (.slice a2 (l.length - lo) c2) (l.drop lo) ∧ (∀ b, (Value.slice a2 (l.length - lo) c2).ownBlock = some b → (Value.slice a n c).ownBlock = some b) ∧ (∀ wx, (Instr.slice T (.slice a n c) (some (.int .i64 (lo : Int))) none none).run P wx = .ok (.slice a2 (l.length - lo) c2) wx) ∧ (∀ wx, (Instr.sliceAt T (.slice a n c) (some (.int .i64 (lo : Int))) none none).run P wx = .ok (.slice a2 (l.length - lo) c2) wx) := by
  have hn := h.len
  have hc := h.cut lo h1
  obtain ⟨a2, c2, hv2, _⟩ := hc.slice
  rw [List.length_drop] at hv2
  rw [hv2] at hc
  exact ⟨a2, c2, hc, fun b hb => cutV_block (k := k) (m := lo) (n := n) n c (by rw [hv2]; exact hb), fun wx => by rw [(cut_run hT he hi a n c lo (by omega) wx).1, hv2], fun wx => by rw [(cut_run hT he hi a n c lo (by omega) wx).2, hv2]⟩
theorem goes_head {a b : List Str} {i j p1 p2 : Nat} {L : List (Nat × Nat)} (h : Goes a b i j ((p1, p2) :: L)) : i ≤ p1 ∧ j ≤ p2 ∧ p1 < a.length ∧ p2 < b.length ∧ Goes a b (p1 + 1) (p2 + 1) L := by
  cases h with
  | cons hx hy h1 h2 h => exact ⟨hx, hy, (List.getElem?_eq_some_iff.1 h1).1, (List.getElem?_eq_some_iff.1 h2).1, h⟩
theorem scrF_cons (a b : List Str) (i j p1 p2 : Nat) (L : List (Nat × Nat)) : scrF a b i j ((p1, p2) :: L) = tag 2 ((a.take p1).drop i) ++ tag 3 ((b.take p2).drop j) ++ tag 1 ((a.take (p1 + 1)).drop p1) ++ scrF a b (p1 + 1) (p2 + 1) L := by
  have e : (a.take (p1 + 1)).drop p1 = (a.drop p1).take 1 := by rw [List.drop_take, Nat.add_sub_cancel_left]
  rw [scrF, e]
  unfold tag
  simp only [List.append_assoc]
theorem scrF_nil (a b : List Str) (i j : Nat) : scrF a b i j [] = tag 2 (a.drop i) ++ tag 3 (b.drop j) := by rw [scrF]; rfl
theorem tag_len (k : Int) (l : List Str) : (tag k l).length = l.length := by unfold tag; rw [List.length_map]
set_option maxRecDepth 1000000 in
set_option maxHeartbeats 2000000 in
theorem script_any (va vb : Value) (a b : List Str) (w : World) (ha : Rd 1 encT w va a) (hb : Rd 1 encT w vb b) (hla : a.length ≤ 200) (hlb : b.length ≤ 200) (hsa : ∀ s ∈ a, s.length ≤ 1000) (hsb : ∀ s ∈ b, s.length ≤ 1000) :
    Calls Try.prog 18 #[va, vb] w fun e w' => ∃ v, e = .returned v ∧ Rd 2 encE w' v (scr a b) ∧ Below w.heap.size w w' := by
  obtain ⟨aa, ca, rfl, hca, hca2⟩ := ha.slice
  obtain ⟨ab, cb, rfl, hcb, hcb2⟩ := hb.slice
  obtain ⟨iS, hiS, hzS, hkS, hbS⟩ := info_parts Try.infoT
  have HA := Lib.hid ha
  have HB := Lib.hid hb
  have HAO := Lib.hid (rd_lt ha)
  have HBO := Lib.hid (rd_lt hb)
  clear ha hb hca hca2 hcb hcb2
  go_enter Try.func18, Try.ntmps18
  have A0 := HA.out.alloc (.cells #[.slice none 0 0] 33)
  have B0 := HB.out.alloc (.cells #[.slice none 0 0] 33)
  have K0 := Blk.new w 33 #[.slice none 0 0]
  go_wp2_with fail
  refine (common_any _ _ a b _ A0 B0 hla hlb hsa hsb).mono ?_
  rintro e w2 ⟨v, rfl, ov, b2⟩
  have KG := Lib.hid (K0.below b2)
  have A2 := Lib.hid (A0.below b2)
  have B2 := Lib.hid (B0.below b2)
  have BW := ((Below.refl _ w).alloc (Nat.le_refl _) (.cells #[.slice none 0 0] 33)).trans (b2.mono (by simp))
  have HBW := Lib.hid BW
  have hG2 : w.heap.size < w2.heap.size := KG.out.lt
  have RL := Lib.hid (ov.rd encP_len)
  have hlo := ov.lt_
  obtain ⟨al, cl, hv⟩ := ov.slice
  subst hv
  have HLO : Hid (∀ x, (Value.slice al (comm a b 0 0).length cl).ownBlock = some x → w.heap.size < x ∧ x < w2.heap.size) := Lib.hid (fun x hx => by have := hlo x hx; simp at this; omega)
  have HGO := Lib.hid (goes_comm a b _ 0 0 rfl)
  have HSC : Hid (scr a b = scrF a b 0 0 (comm a b 0 0)) := Lib.hid rfl
  have hll := comm0_length a b
  have hlb2 := lcs_le_right a b
  obtain ⟨L, hL⟩ : ∃ L, comm a b 0 0 = L := ⟨_, rfl⟩
  rw [hL] at RL HLO HGO HSC hll ⊢
  have hL2 : L.length ≤ 200 := by omega
  obtain ⟨G, hG⟩ : ∃ G, w.heap.size = G := ⟨_, rfl⟩
  have HGE := Lib.hid hG
  rw [hG] at KG HLO hG2 HAO HBO ⊢
  clear ov b2 hlo hL hll hlb2 A0 B0 K0 BW hG
  go_wp2
  go_loopw [7, 8, 16] (fun v7 v8 v16 wr => ∃ (x i j : Nat) (P : List Ed) (v : Value), x ≤ L.length ∧ v16 = .int .i64 x ∧ v7 = .int .i64 i ∧ v8 = .int .i64 j ∧ i ≤ a.length ∧ j ≤ b.length ∧ Goes a b i j (L.drop x) ∧ Blk G 33 #[v] wr ∧ Own1 2 encE wr w2.heap.size 60 v P ∧ P ++ scrF a b i j (L.drop x) = scr a b ∧ P.length ≤ x * 500 ∧ Bt w2.heap.size G w2 wr) (fun _ _ v16 _ => L.length - (intOf v16).toNat)
  case atStart => exact ⟨0, 0, 0, [], _, Nat.zero_le _, rfl, rfl, rfl, Nat.zero_le _, Nat.zero_le _, HGO.out, KG.out, own1_nil _ _ _, HSC.out.symm, Nat.zero_le _, Bt.refl _ _ _⟩
  case round =>
    obtain ⟨x, i, j, P, v, hx, rfl, rfl, rfl, hi, hj, hgo, hg, hown, hP, hPl, hbt⟩ := hrel
    have HGo := Lib.hid hgo
    have HP := Lib.hid hP
    have HBT := Lib.hid hbt
    have zr := hbt.size
    have AO : Hid (a ≠ [] → ∀ y, (Value.slice aa a.length ca).ownBlock = some y → y < w2.heap.size ∧ y ≠ G) := Lib.hid (fun h0 y hy => by have := HAO.out h0 y hy; omega)
    have BO : Hid (b ≠ [] → ∀ y, (Value.slice ab b.length cb).ownBlock = some y → y < w2.heap.size ∧ y ≠ G) := Lib.hid (fun h0 y hy => by have := HBO.out h0 y hy; omega)
    by_cases hlt : x < L.length
    · have h3 : (x : Int) < (L.length : Int) := by omega
      have HD := Lib.hid (List.drop_eq_getElem_cons hlt)
      obtain ⟨bl, ol, e0, c0, c1⟩ := (RL.out.bt hbt (fun y hy => by have := HLO.out y hy; omega)).pair x hlt
      cases e0
      obtain ⟨p, hp⟩ : ∃ p, L[x] = p := ⟨_, rfl⟩
      rw [hp] at c0 c1 HD
      obtain ⟨p1, p2⟩ := p
      dsimp only at c0 c1
      have HGH := Lib.hid (goes_head (show Goes a b i j ((p1, p2) :: L.drop (x + 1)) by rw [← HD.out]; exact hgo))
      obtain ⟨g1, g2, g3, g4, _⟩ := HGH.out
      have HP2 : Hid (P ++ (tag 2 ((a.take p1).drop i) ++ tag 3 ((b.take p2).drop j) ++ tag 1 ((a.take (p1 + 1)).drop p1) ++ scrF a b (p1 + 1) (p2 + 1) (L.drop (x + 1))) = scr a b) := Lib.hid (by rw [← HP.out, HD.out, scrF_cons])
      obtain ⟨wz, hwz⟩ : ∃ wz, wr.alloc (.cells #[.int .i64 (p1 : Int), .int .i64 (p2 : Int)] 28) = wz := ⟨_, rfl⟩
      have kX := Blk.new wr 28 #[.int .i64 (p1 : Int), .int .i64 (p2 : Int)]
      have bA := (Below.refl wr.heap.size wr).alloc (Nat.le_refl _) (.cells #[.int .i64 (p1 : Int), .int .i64 (p2 : Int)] 28)
      rw [hwz] at kX bA
      have bt1 : Bt w2.heap.size G w2 wz := hbt.trans (Bt.of_below (bA.mono zr))
      have gz := hg.below bA
      have oz := hown.below bA
      have zz := bt1.size
      have hXG : wr.heap.size ≠ G := by omega
      clear hgo hP hbt hg hown hp
      obtain ⟨t1, d1, r1, o1, s1, s1'⟩ := (rd_bt A2.out bt1 AO.out).mid_ (P := Try.prog) (T := 22) rfl hiS hkS i p1 g1 (by omega)
      obtain ⟨t2, d2, r2, o2, s2, s2'⟩ := B2.out.mid_ (P := Try.prog) (T := 22) rfl hiS hkS j p2 g2 (by omega)
      obtain ⟨t3, d3, r3, o3, s3, s3'⟩ := A2.out.mid_ (P := Try.prog) (T := 22) rfl hiS hkS p1 (p1 + 1) (by omega) (by omega)
      have q0 := kX.cell 0
      have q1 := kX.cell 1
      have r3b : Rd 1 encT w2 (.slice t3 1 d3) ((a.take (p1 + 1)).drop p1) := by simpa using r3
      have s3b : ∀ wx, (Instr.slice 22 (.slice aa a.length ca) (some (.int .i64 (p1 : Int))) (some (.int .i64 ((p1 : Int) + 1))) none).run Try.prog wx = .ok (.slice t3 1 d3) wx := fun wx => by have := s3 wx; simpa only [Int.natCast_add, Int.natCast_one, Nat.add_sub_cancel_left] using this
      have s3c : ∀ wx, (Instr.sliceAt 22 (.slice aa a.length ca) (some (.int .i64 (p1 : Int))) (some (.int .i64 ((p1 : Int) + 1))) none).run Try.prog wx = .ok (.slice t3 1 d3) wx := fun wx => by have := s3' wx; simpa only [Int.natCast_add, Int.natCast_one, Nat.add_sub_cancel_left] using this
      have o3b : ∀ y, (Value.slice t3 1 d3).ownBlock = some y → (Value.slice aa a.length ca).ownBlock = some y := by simpa only [Nat.add_sub_cancel_left] using o3
      have lt1 := tag_len 2 ((a.take p1).drop i)
      have lt2 := tag_len 3 ((b.take p2).drop j)
      have lt3 := tag_len 1 ((a.take (p1 + 1)).drop p1)
      rw [List.length_drop, List.length_take] at lt1 lt2 lt3
      have F1 := Lib.hid (add_any 2 _ _ _ P G w2.heap.size wz r1 gz oz hG2 zz (fun h0 y hy => AO.out (fun e => h0 (by rw [e]; simp)) y (o1 y hy)) (by rw [List.length_drop, List.length_take]; omega) (by omega))
      have O2 := Lib.hid o2
      have O3 := Lib.hid o3b
      have R2 := Lib.hid r2
      have R3 := Lib.hid r3b
      have BT1 := Lib.hid bt1
      have KX := Lib.hid kX
      clear r1 r2 r3 r3b o1 o2 o3 o3b s3 s3' gz oz bt1 kX bA
      go_upto_region 7 with fail
      try rw [hwz]
      clear hwz c0 c1
      go_wp2_with fail
      refine F1.out.mono ?_
      rintro e x1 ⟨⟨vr, rfl⟩, ⟨v1, k1, ow1⟩, b1, hx1⟩
      have BT2 := Lib.hid (BT1.out.trans b1)
      have kx1 := hx1 _ _ hXG KX.out
      have e0 := kx1.cell 0
      have e1 := kx1.cell 1
      have F2 := Lib.hid (add_any 3 _ _ _ _ G w2.heap.size x1 (rd_bt R2.out BT2.out (fun h0 y hy => BO.out (fun e => h0 (by rw [e]; simp)) y (O2.out y hy))) k1 ow1 hG2 BT2.out.size (fun h0 y hy => BO.out (fun e => h0 (by rw [e]; simp)) y (O2.out y hy)) (by rw [List.length_drop, List.length_take]; omega) (by rw [List.length_append]; omega))
      have KX1 := Lib.hid kx1
      clear k1 ow1 b1 hx1 F1 q0 q1 kx1
      go_wp2_with fail
      refine F2.out.mono ?_
      rintro e x2 ⟨⟨vr2, rfl⟩, ⟨v2, k2, ow2⟩, b2, hx2⟩
      have BT3 := Lib.hid (BT2.out.trans b2)
      have kx2 := hx2 _ _ hXG KX1.out
      have q0 := kx2.cell 0
      have q1 := kx2.cell 1
      have K2 := Lib.hid k2
      have OW2 := Lib.hid ow2
      have KX2 := Lib.hid kx2
      clear k2 ow2 b2 hx2 F2 e0 e1 kx2
      go_wp2_with fail
      go_big_quiet (fail)
      have bq := below_drewN (Below.refl x2.heap.size x2) nq
      have BT4 := Lib.hid (BT3.out.trans (Bt.of_below (bq.mono BT3.out.size)))
      have kx3 := KX2.out.below bq
      have e0 := kx3.cell 0
      have e1 := kx3.cell 1
      have F3 := Lib.hid (add_any 1 _ _ _ _ G w2.heap.size (x2.drewN nq) (rd_bt R3.out BT4.out (fun h0 y hy => AO.out (fun e => h0 (by rw [e]; simp)) y (O3.out y hy))) (K2.out.below bq) (OW2.out.below bq) hG2 BT4.out.size (fun h0 y hy => AO.out (fun e => h0 (by rw [e]; simp)) y (O3.out y hy)) (by rw [List.length_drop, List.length_take]; omega) (by rw [List.length_append, List.length_append]; omega))
      clear q0 q1 bq kx3
      go_wp2_with fail
      refine F3.out.mono ?_
      rintro e x3 ⟨⟨vr3, rfl⟩, ⟨v3, k3, ow3⟩, b3, hx3⟩
      have K3 := Lib.hid k3
      have OW3 := Lib.hid ow3
      have BT5 := Lib.hid (BT4.out.trans b3)
      clear k3 ow3 b3 hx3 F3 e0 e1
      go_wp2
      go_roundw
      case measure => simp [intOf]; omega
      case rel => exact ⟨x + 1, p1 + 1, p2 + 1, _, v3, by omega, by go_num, by go_num, by go_num, by omega, by omega, HGH.out.2.2.2.2, K3.out, OW3.out, by rw [← HP2.out]; simp only [List.append_assoc], by simp only [List.length_append]; omega, BT5.out⟩
    · obtain rfl : x = L.length := by omega
      have h3 : ¬ (L.length : Int) < (L.length : Int) := by omega
      have HP2 : Hid (P ++ tag 2 (a.drop i) ++ tag 3 (b.drop j) = scr a b) := Lib.hid (by rw [← HP.out, List.drop_length, scrF_nil, List.append_assoc])
      obtain ⟨t1, d1, r1, o1, s1, s1'⟩ := (rd_bt A2.out hbt AO.out).tail_ (P := Try.prog) (T := 22) rfl hiS hkS i hi
      obtain ⟨t2, d2, r2, o2, s2, s2'⟩ := B2.out.tail_ (P := Try.prog) (T := 22) rfl hiS hkS j hj
      have lt1 := tag_len 2 (a.drop i)
      rw [List.length_drop] at lt1
      have F1 := Lib.hid (add_any 2 _ _ _ P G w2.heap.size wr r1 hg hown hG2 zr (fun h0 y hy => AO.out (fun e => h0 (by rw [e]; simp)) y (o1 y hy)) (by rw [List.length_drop]; omega) (by omega))
      have O2 := Lib.hid o2
      have R2 := Lib.hid r2
      clear r1 r2 o1 o2 hg hown hgo hP hbt
      go_wp2_with fail
      refine F1.out.mono ?_
      rintro e x1 ⟨⟨vr, rfl⟩, ⟨v1, k1, ow1⟩, b1, hx1⟩
      have BT2 := Lib.hid (HBT.out.trans b1)
      have F2 := Lib.hid (add_any 3 _ _ _ _ G w2.heap.size x1 (rd_bt R2.out BT2.out (fun h0 y hy => BO.out (fun e => h0 (by rw [e]; simp)) y (O2.out y hy))) k1 ow1 hG2 BT2.out.size (fun h0 y hy => BO.out (fun e => h0 (by rw [e]; simp)) y (O2.out y hy)) (by rw [List.length_drop]; omega) (by rw [List.length_append]; omega))
      clear k1 ow1 b1 hx1 F1
      go_wp2_with fail
      refine F2.out.mono ?_
      rintro e x2 ⟨⟨vr2, rfl⟩, ⟨v2, k2, ow2⟩, b2, hx2⟩
      have BT3 := Lib.hid (BT2.out.trans b2)
      have RD := Lib.hid (ow2.rd encE_len)
      obtain ⟨a9, k9, h9⟩ := ow2.slice
      obtain ⟨n, hn⟩ : ∃ n, (P ++ tag 2 (a.drop i) ++ tag 3 (b.drop j)).length = n := ⟨_, rfl⟩
      rw [hn] at h9
      clear hn
      subst h9
      have c9 := k2.cell 0
      clear k2 ow2 b2 hx2 F2
      go_wp2
      go_ret
      refine ⟨_, rfl, by have h := RD.out; rwa [HP2.out] at h, ?_⟩
      have hb := HBW.out
      refine hb.trans ⟨BT3.out.os, BT3.out.tape, BT3.out.output, BT3.out.size, fun y hy => BT3.out.block y (by have := HGE.out; omega) (by have := HGE.out; omega)⟩
end Go.Proofs.Ytcnjomkddbbopaa
