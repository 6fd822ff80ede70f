/- What the row stands on, part 18. -/
import Derived.Lib.Join
import Derived.Test.YtpmmchppfmojhaaGreatDoorQ17

/- Of condition: the texts of numbers and spans; joining. Of condition: joining relations and lists of relations. Of condition: the texts of relations, lists, conditions; Print. Of condition: the texts of lists and conditions; Print. Of the laws of condition: awake. -/
namespace Go.Proofs.YtpmmchppfmojhaaGreatDoor
open Go.RowKit
set_option linter.unusedVariables false

theorem gPowOf8 : Tryz.prog.globalNamed "internal/strconv.uint64pow10" = some 0 := by kernel_rfl
theorem EnvOf8.later {w w' : World} (h : EnvOf8 w) (hb : Below w.heap.size w w') : EnvOf8 w' := ⟨Joins.tab_stays gPowOf8 h.pow hb (Nat.le_refl _), (h.cells hb).1, (h.cells hb).2⟩
theorem dtx_dec : ∀ n : Fin 100, Lib.decDigits n.val = dtx n.val := by decide +kernel
theorem itoa_any (n : Nat) (hn : n ≤ 100) (w : World) (E : EnvOf8 w) : Calls Tryz.prog 137 #[.int .i64 n] w fun e w' => e = .returned (.string (ofL (dtx n))) ∧ Below w.heap.size w w' := by
  by_cases h : n < 100
  · refine (Tryz.strconv_Itoa_small n h w).mono ?_
    rintro e w' ⟨rfl, hw⟩
    rw [dtx_dec ⟨n, h⟩, hw]
    exact ⟨rfl, Below.refl _ _⟩
  · have e100 : n = 100 := by omega
    subst e100
    refine (Tryz.strconv_Itoa 100 (by decide) (by decide) w E.pow).mono ?_
    rintro e w' ⟨rfl, k, os, rfl⟩
    refine ⟨?_, Lib.below_grow w.heap.size w (Nat.le_refl _) k os⟩
    have : Lib.itoa 100 = dtx 100 := by decide +kernel
    rw [this]
    rfl
theorem str_add {P : Program} {x y z : Str} (h : x.length + y.length ≤ 9223372036854775807) (hz : x ++ y = z) (wx : World) : (Op.stringOp .add (ofL x) (ofL y)).run P wx = .ok (.string (ofL z)) wx := by
  have h2 := run_string_add_sum (P := P) (w := wx) (ofL x) (ofL y) (by rw [ofL_size, ofL_size]; exact h)
  rw [add_two, hz] at h2
  exact h2
theorem join_eq (sep : Str) : ∀ l : List Str, Lib.join l sep = jnOf8 sep l
  | [] => rfl
  | [x] => by
    show sep.intercalate [x] = x
    simp [List.intercalate]
  | x :: y :: l => by
    have ih := join_eq sep (y :: l)
    have e : Lib.join (x :: y :: l) sep = x ++ (sep ++ Lib.join (y :: l) sep) := by
      show sep.intercalate (x :: y :: l) = x ++ (sep ++ sep.intercalate (y :: l))
      simp [List.intercalate]
    rw [e, ih, jn_cons sep x (by simp)]
set_option maxRecDepth 1000000 in
set_option maxHeartbeats 4000000 in
theorem spanText_any (o : Int) (s : Int × Int) (hs : okSp o s = true) (w : World) (E : EnvOf8 w) :
    Calls Tryz.prog 278 #[.agg #[.int .i64 s.1, .int .i64 s.2]] w fun e w' => e = .returned (.string (ofL (spT s))) ∧ Below w.heap.size w w' := by
  obtain ⟨a0, ab, b1⟩ := okSp_le hs
  obtain ⟨a, b⟩ := s
  dsimp only at a0 ab b1
  obtain ⟨A, rfl⟩ : ∃ A : Nat, a = (A : Int) := ⟨a.toNat, by omega⟩
  obtain ⟨B, rfl⟩ : ∃ B : Nat, b = (B : Int) := ⟨b.toNat, by omega⟩
  have BA := (Below.refl w.heap.size w).alloc (Nat.le_refl _) (.cells #[.int .i64 A, .int .i64 B] 180)
  have E1 := Lib.hid (E.later BA)
  have K1 : Hid (Blk w.heap.size 180 #[.int .i64 A, .int .i64 B] (w.alloc (.cells #[.int .i64 A, .int .i64 B] 180))) := Lib.hid (heap_alloc_new w _)
  obtain ⟨g, hg⟩ : ∃ g, w.heap.size = g := ⟨_, rfl⟩
  rw [hg] at BA K1
  have HBA := Lib.hid BA
  have HG := Lib.hid hg
  clear BA hs E
  go_enter Tryz.func278, Tryz.ntmps278
  go_wp2_with fail
  refine (itoa_any A (by omega) _ E1.out).mono ?_
  rintro e w2 ⟨rfl, b2⟩
  have K2 : Hid (Blk g 180 #[.int .i64 A, .int .i64 B] w2) := Lib.hid (Blk.below K1.out b2)
  have E2 := Lib.hid (E1.out.later b2)
  have c0 : w2.cell? ⟨g, 0, none⟩ = some (.int .i64 A) := K2.out.cell 0
  have c1 : w2.cell? ⟨g, 1, none⟩ = some (.int .i64 B) := K2.out.cell 1
  have L2 : Hid (Below w.heap.size w w2) := Lib.hid (by rw [HG.out]; exact st HBA.out b2 (by rw [← HG.out]; exact (Below.refl w.heap.size w).alloc (Nat.le_refl _) _ |>.size))
  have hla := dtx_len A
  have hlb := dtx_len B
  clear b2
  by_cases e : (B : Int) = (A : Int)
  · have e1 : ((B : Int) != (A : Int)) = false := by rw [bne_eq_false_iff_eq]; exact e
    have HT : Hid (spT ((A : Int), (B : Int)) = dtx A) := Lib.hid (by unfold spT; dsimp only; rw [if_pos e, List.append_nil, Int.toNat_natCast])
    clear e hla hlb
    go_wp2
    go_ret
    rw [HT.out]
    exact ⟨rfl, L2.out⟩
  · have e1 : ((B : Int) != (A : Int)) = true := by rw [bne_iff_ne]; exact e
    have HT : Hid (spT ((A : Int), (B : Int)) = dtx A ++ ([46, 46] ++ dtx B)) := Lib.hid (by unfold spT; dsimp only; rw [if_neg e, Int.toNat_natCast, Int.toNat_natCast])
    obtain ⟨S1, hS1⟩ : ∃ S1, [46, 46] ++ dtx B = S1 := ⟨_, rfl⟩
    obtain ⟨S2, hS2⟩ : ∃ S2, dtx A ++ S1 = S2 := ⟨_, rfl⟩
    have q1 : ∀ wx, (Op.stringOp .add ⟨#[46, 46]⟩ (ofL (dtx B))).run Tryz.prog wx = .ok (.string (ofL S1)) wx := fun wx => str_add (x := [46, 46]) (by simp; omega) hS1 wx
    have q2 : ∀ wx, (Op.stringOp .add (ofL (dtx A)) (ofL S1)).run Tryz.prog wx = .ok (.string (ofL S2)) wx := fun wx => str_add (by rw [← hS1]; simp; omega) hS2 wx
    have HT2 : Hid (spT ((A : Int), (B : Int)) = S2) := Lib.hid (by rw [HT.out, ← hS2, ← hS1])
    clear e hla hlb hS1 hS2 HT
    go_wp2_with fail
    refine (itoa_any B (by omega) _ E2.out).mono ?_
    rintro e w3 ⟨rfl, b3⟩
    have L3 := Lib.hid (st L2.out b3 L2.out.size)
    clear b3
    go_wp2
    go_ret
    rw [HT2.out]
    exact ⟨rfl, L3.out⟩
/-! ### joining -/
theorem ofL_data (x : Str) : (ofL x).data.toList = x := rfl
theorem join_any (v : Value) (l : List Str) (sep : Str) (w : World) (h : Rd 1 encT w v l) (hs : sep.length ≤ 10) (hl : l.length ≤ 1000) (hx : ∀ x ∈ l, x.length ≤ 100000) :
    Calls Tryz.prog 188 #[v, .string (ofL sep)] w fun e w' => e = .returned (.string (ofL (jnOf8 sep l))) ∧ Below w.heap.size w w' := by
  obtain ⟨a, c, rfl, hc1, hc2⟩ := h.slice
  by_cases h0 : l = []
  · subst h0
    refine (Tryz.strings_Join_none a c (ofL sep) w).mono ?_
    rintro e w' ⟨rfl, hw⟩
    rw [hw]
    exact ⟨rfl, Below.refl _ _⟩
  · obtain ⟨b, off, ha, hlt, hcell⟩ := h.form.choose_spec.choose_spec.2.2.2 h0
    have ea : a = some ⟨b, off, none⟩ := by
      have e0 := h.form.choose_spec.choose_spec.1
      injection e0 with e1 _ _
      rw [e1]; exact ha
    subst ea
    have hcs : ∀ (j : Nat) (x : ByteArray), (l.map ofL)[j]? = some x → w.cell? ⟨b, off + j, none⟩ = some (.string x) := fun j x hj => by
      rw [List.getElem?_map] at hj
      obtain ⟨y, hy, rfl⟩ := Option.map_eq_some_iff.1 hj
      have := hcell j y hy 0 (.string (ofL y)) rfl
      rw [Nat.mul_one, Nat.add_zero] at this
      exact this
    have em : ((l.map ofL).map (·.data.toList)) = l := by
      rw [List.map_map]
      exact List.map_id' _ |>.trans rfl
    have h4 := jn_len sep 100000 l hx
    have hjl : (Lib.join ((l.map ofL).map (·.data.toList)) (ofL sep).data.toList).length ≤ 140737488355328 := by
      rw [em, ofL_data, join_eq]
      have h5 : l.length * (100000 + sep.length) ≤ 1000 * 100010 := Nat.mul_le_mul hl (by omega)
      omega
    have := Tryz.strings_Join b off c (l.map ofL) (ofL sep) w hcs hlt (by rw [List.length_map]; omega) (by rw [List.length_map]; exact hc1) hjl
    rw [List.length_map] at this
    refine this.mono ?_
    rintro e w' ⟨rfl, hb⟩
    rw [em, ofL_data, join_eq]
    exact ⟨rfl, hb⟩
set_option maxRecDepth 1000000 in
set_option maxHeartbeats 4000000 in
theorem joinSpan_any (v : Value) (l : List (Int × Int)) (tx : Int × Int → Str) (sep : Str) (g : Nat) (lb : Array Value) (eg : ∀ args w, (callFunc g args).run Tryz.prog w = .ok (.enter g args) w) (w : World) (hv : Rd 2 encP w v l) (hl : l.length ≤ 1000) (hs : sep.length ≤ 10) (hx : ∀ x ∈ l, (tx x).length ≤ 100000)
    (hF : ∀ (W : World) (s : Int × Int), s ∈ l → Below w.heap.size w W → Calls Tryz.prog g (#[.agg #[.int .i64 s.1, .int .i64 s.2]] ++ lb) W fun e w' => e = .returned (.string (ofL (tx s))) ∧ Below W.heap.size W w') :
    Calls Tryz.prog 277 #[v, .string (ofL sep), .func (.func g) #[] lb] w fun e w' => e = .returned (.string (ofL (jnOf8 sep (l.map tx)))) ∧ Below w.heap.size w w' := by
  obtain ⟨a, c, rfl, hc1, hc2⟩ := hv.slice
  have HU := Lib.hid hv
  have HF := Lib.hid hF
  have HX := Lib.hid hx
  obtain ⟨iT, hiT, hzT, hkT, hbT⟩ := info_parts Tryz.infoT
  clear hv hF hx
  go_enter Tryz.func277, Tryz.ntmps277
  go_wp2
  go_loopw [7, 12] (fun v7 v wr => ∃ ts : List Str, ts.length ≤ l.length ∧ v = .int .i64 (ts.length : Nat) ∧ Own1 1 encT wr w.heap.size 9 v7 ts ∧ ts = (l.take ts.length).map tx ∧ Below w.heap.size w wr) (fun _ v _ => l.length - (intOf v).toNat)
  case atStart => exact ⟨[], Nat.zero_le _, rfl, own1_nil _ _ _, rfl, Below.refl _ _⟩
  case round =>
    obtain ⟨ts, hk, rfl, own, hts, hb⟩ := hrel
    obtain ⟨va, vc, hva⟩ := own.slice
    subst hva
    have OW := Lib.hid own
    have HB := Lib.hid hb
    have HTS := Lib.hid hts
    have zr := hb.size
    clear own hb hts
    obtain ⟨k, hkk⟩ : ∃ k, ts.length = k := ⟨_, rfl⟩
    have HK := Lib.hid hkk
    rw [hkk] at OW HTS hk ⊢
    clear hkk
    by_cases hlt : k < l.length
    · obtain ⟨bk, off, rfl, h0, h1⟩ := (HU.out.below HB.out).span k hlt
      have h9 : (k : Int) < (l.length : Int) := by omega
      have zl : Hid (ts.length ≤ 1000000000) := Lib.hid (by rw [HK.out]; omega)
      have hlm : l[k] ∈ l := List.getElem_mem hlt
      have HNX : Hid (ts ++ [tx l[k]] = (l.take (k + 1)).map tx) := Lib.hid (by
        rw [List.take_succ_eq_append_getElem hlt, List.map_append, ← HTS.out]
        rfl)
      obtain ⟨s, hs2⟩ : ∃ s, l[k] = s := ⟨_, rfl⟩
      obtain ⟨sx, sy⟩ := s
      rw [hs2] at h0 h1 hlm HNX
      dsimp only at h0 h1
      obtain ⟨X, hX⟩ : ∃ X, tx (sx, sy) = X := ⟨_, rfl⟩
      have BA := HB.out.alloc zr (.cells #[.int .i64 sx, .int .i64 sy] 180)
      have HC := Lib.hid (HF.out _ (sx, sy) hlm BA)
      rw [hX] at HC HNX
      have HBA := Lib.hid BA
      have OA := Lib.hid (own_below OW.out ((Below.refl wr.heap.size wr).alloc (Nat.le_refl _) (.cells #[.int .i64 sx, .int .i64 sy] 180)))
      have HAK : Hid (wr.heap.size ≤ (wr.alloc (.cells #[.int .i64 sx, .int .i64 sy] 180)).heap.size) := Lib.hid ((Below.refl wr.heap.size wr).alloc (Nat.le_refl _) (.cells #[.int .i64 sx, .int .i64 sy] 180)).size
      clear BA hs2 hlm hX
      go_wp2_with fail
      refine HC.out.mono ?_
      rintro e w2 ⟨rfl, b2⟩
      have O2 : Hid (Own1 1 encT w2 w.heap.size 9 (.slice va k vc) ts) := Lib.hid (own_below OA.out b2)
      have B2 := Lib.hid (st HBA.out b2 (Nat.le_trans zr HAK.out))
      have hz : w.heap.size ≤ w2.heap.size := B2.out.size
      clear b2 HC OA HAK HBA
      go_wp2_with (first | (at_builtin; refine wpList_append_at (w0 := w2) (x := X) (N := w2.heap.size) rfl rfl _ _ 49 rfl w.heap.size iT _ 16 Tryz.underlying49 hiT hzT hkT hbT (by omega) rfl (by omega) encT_len encT_one _ ts rfl rfl O2.out rfl zl.out hz ?_; intro v9 w9 y1 y2 y3) | go_in)
      obtain ⟨a9, c9, hv9⟩ := y1.slice
      rw [List.length_append, List.length_singleton, HK.out] at hv9
      subst hv9
      have N1 := Lib.hid y1
      have B9 := Lib.hid (B2.out.trans y2)
      clear y1 y2 y3
      go_wp2
      go_roundw
      case measure => simp [intOf]; omega
      case rel => exact ⟨ts ++ [X], by rw [List.length_append, List.length_singleton, HK.out]; omega, by rw [List.length_append, List.length_singleton, HK.out]; go_num, N1.out, by rw [List.length_append, List.length_singleton, HK.out]; exact HNX.out, B9.out⟩
    · have hkl : k = l.length := by omega
      have HALL : Hid (ts = l.map tx) := Lib.hid (by rw [HTS.out, hkl, List.take_length])
      have HJ : Hid (∀ x ∈ ts, x.length ≤ 100000) := Lib.hid (fun x hx => by
        rw [HALL.out] at hx
        obtain ⟨y, hy, rfl⟩ := List.mem_map.1 hx
        exact HX.out y hy)
      have h9 : ¬ (k : Int) < (l.length : Int) := by omega
      clear hkl
      go_wp2_with fail
      refine (join_any _ ts sep _ (OW.out.rd encT_len) hs (by rw [HK.out]; omega) HJ.out).mono ?_
      rintro e w2 ⟨rfl, b2⟩
      have B2 := Lib.hid (st HB.out b2 zr)
      clear b2
      go_wp2
      go_ret
      exact ⟨by rw [← HALL.out]; rfl, B2.out⟩
end Go.Proofs.YtpmmchppfmojhaaGreatDoor

namespace Go.Proofs.YtpmmchppfmojhaaGreatDoor
open Go.RowKit
set_option linter.unusedVariables false

set_option maxRecDepth 1000000 in
set_option maxHeartbeats 4000000 in
theorem joinRel_any (v : Value) (l : List Rel) (tx : Rel → Str) (sep : Str) (g : Nat) (lb : Array Value) (eg : ∀ args w, (callFunc g args).run Tryz.prog w = .ok (.enter g args) w) (w : World) (hv : RdRels w v l) (hl : l.length ≤ 1000) (hs : sep.length ≤ 10) (hx : ∀ x ∈ l, (tx x).length ≤ 100000)
    (hF : ∀ (W : World) (s : Rel) (x1 : Option Addr) (x2 : Nat), s ∈ l → Below w.heap.size w W → Rd 2 encP W (.slice x1 s.sp.length x2) s.sp → Calls Tryz.prog g (#[.agg #[.int .i64 s.op, .int .i64 s.md, .bool s.nt, .slice x1 s.sp.length x2]] ++ lb) W fun e w' => e = .returned (.string (ofL (tx s))) ∧ Below W.heap.size W w') :
    Calls Tryz.prog 232 #[v, .string (ofL sep), .func (.func g) #[] lb] w fun e w' => e = .returned (.string (ofL (jnOf8 sep (l.map tx)))) ∧ Below w.heap.size w w' := by
  obtain ⟨a, c, rfl, hc1, hc2⟩ := hv.slice
  have HU := Lib.hid hv
  have HF := Lib.hid hF
  have HX := Lib.hid hx
  obtain ⟨iT, hiT, hzT, hkT, hbT⟩ := info_parts Tryz.infoT
  clear hv hF hx
  go_enter Tryz.func232, Tryz.ntmps232
  go_wp2
  go_loopw [7, 12] (fun v7 v wr => ∃ ts : List Str, ts.length ≤ l.length ∧ v = .int .i64 (ts.length : Nat) ∧ Own1 1 encT wr w.heap.size 9 v7 ts ∧ ts = (l.take ts.length).map tx ∧ Below w.heap.size w wr) (fun _ v _ => l.length - (intOf v).toNat)
  case atStart => exact ⟨[], Nat.zero_le _, rfl, own1_nil _ _ _, rfl, Below.refl _ _⟩
  case round =>
    obtain ⟨ts, hk, rfl, own, hts, hb⟩ := hrel
    obtain ⟨va, vc, hva⟩ := own.slice
    subst hva
    have OW := Lib.hid own
    have HB := Lib.hid hb
    have HTS := Lib.hid hts
    have zr := hb.size
    clear own hb hts
    obtain ⟨k, hkk⟩ : ∃ k, ts.length = k := ⟨_, rfl⟩
    have HK := Lib.hid hkk
    rw [hkk] at OW HTS hk ⊢
    clear hkk
    by_cases hlt : k < l.length
    · obtain ⟨bk, off, x1, x2, rfl, h0, h1, h2, h3, h4⟩ := (HU.out.below HB.out).at_ k hlt
      have H4 := Lib.hid h4
      clear h4
      have h9 : (k : Int) < (l.length : Int) := by omega
      have zl : Hid (ts.length ≤ 1000000000) := Lib.hid (by rw [HK.out]; omega)
      have hlm : l[k] ∈ l := List.getElem_mem hlt
      have HNX : Hid (ts ++ [tx l[k]] = (l.take (k + 1)).map tx) := Lib.hid (by
        rw [List.take_succ_eq_append_getElem hlt, List.map_append, ← HTS.out]
        rfl)
      obtain ⟨s, hs2⟩ : ∃ s, l[k] = s := ⟨_, rfl⟩
      rw [hs2] at h0 h1 h2 h3 hlm HNX H4
      obtain ⟨sn, hsn⟩ : ∃ sn, s.sp.length = sn := ⟨_, rfl⟩
      rw [hsn] at h3 H4
      obtain ⟨X, hX⟩ : ∃ X, tx s = X := ⟨_, rfl⟩
      have BA := HB.out.alloc zr (.cells #[.int .i64 s.op, .int .i64 s.md, .bool s.nt, .slice x1 sn x2] 99)
      have HC0 := HF.out _ s x1 x2 hlm BA (by rw [hsn]; exact H4.out.below ((Below.refl wr.heap.size wr).alloc (Nat.le_refl _) _))
      rw [hsn, hX] at HC0
      have HC := Lib.hid HC0
      rw [hX] at HNX
      have HBA := Lib.hid BA
      have OA := Lib.hid (own_below OW.out ((Below.refl wr.heap.size wr).alloc (Nat.le_refl _) (.cells #[.int .i64 s.op, .int .i64 s.md, .bool s.nt, .slice x1 sn x2] 99)))
      have HAK : Hid (wr.heap.size ≤ (wr.alloc (.cells #[.int .i64 s.op, .int .i64 s.md, .bool s.nt, .slice x1 sn x2] 99)).heap.size) := Lib.hid ((Below.refl wr.heap.size wr).alloc (Nat.le_refl _) (.cells #[.int .i64 s.op, .int .i64 s.md, .bool s.nt, .slice x1 sn x2] 99)).size
      clear BA hs2 hlm hX HC0 hsn
      go_wp2_with fail
      refine HC.out.mono ?_
      rintro e w2 ⟨rfl, b2⟩
      have O2 : Hid (Own1 1 encT w2 w.heap.size 9 (.slice va k vc) ts) := Lib.hid (own_below OA.out b2)
      have B2 := Lib.hid (st HBA.out b2 (Nat.le_trans zr HAK.out))
      have hz : w.heap.size ≤ w2.heap.size := B2.out.size
      clear b2 HC OA HAK HBA
      go_wp2_with (first | (at_builtin; refine wpList_append_at (w0 := w2) (x := X) (N := w2.heap.size) rfl rfl _ _ 49 rfl w.heap.size iT _ 16 Tryz.underlying49 hiT hzT hkT hbT (by omega) rfl (by omega) encT_len encT_one _ ts rfl rfl O2.out rfl zl.out hz ?_; intro v9 w9 y1 y2 y3) | go_in)
      obtain ⟨a9, c9, hv9⟩ := y1.slice
      rw [List.length_append, List.length_singleton, HK.out] at hv9
      subst hv9
      have N1 := Lib.hid y1
      have B9 := Lib.hid (B2.out.trans y2)
      clear y1 y2 y3
      go_wp2
      go_roundw
      case measure => simp [intOf]; omega
      case rel => exact ⟨ts ++ [X], by rw [List.length_append, List.length_singleton, HK.out]; omega, by rw [List.length_append, List.length_singleton, HK.out]; go_num, N1.out, by rw [List.length_append, List.length_singleton, HK.out]; exact HNX.out, B9.out⟩
    · have hkl : k = l.length := by omega
      have HALL : Hid (ts = l.map tx) := Lib.hid (by rw [HTS.out, hkl, List.take_length])
      have HJ : Hid (∀ x ∈ ts, x.length ≤ 100000) := Lib.hid (fun x hx => by
        rw [HALL.out] at hx
        obtain ⟨y, hy, rfl⟩ := List.mem_map.1 hx
        exact HX.out y hy)
      have h9 : ¬ (k : Int) < (l.length : Int) := by omega
      clear hkl
      go_wp2_with fail
      refine (join_any _ ts sep _ (OW.out.rd encT_len) hs (by rw [HK.out]; omega) HJ.out).mono ?_
      rintro e w2 ⟨rfl, b2⟩
      have B2 := Lib.hid (st HB.out b2 zr)
      clear b2
      go_wp2
      go_ret
      exact ⟨by rw [← HALL.out]; rfl, B2.out⟩
set_option maxRecDepth 1000000 in
set_option maxHeartbeats 4000000 in
theorem joinLst_any (v : Value) (l : Cnd) (tx : List Rel → Str) (sep : Str) (g : Nat) (lb : Array Value) (eg : ∀ args w, (callFunc g args).run Tryz.prog w = .ok (.enter g args) w) (w : World) (hv : RdC w v l) (hl : l.length ≤ 1000) (hs : sep.length ≤ 10) (hx : ∀ x ∈ l, (tx x).length ≤ 100000)
    (hF : ∀ (W : World) (s : List Rel) (x1 : Option Addr) (x2 : Nat), s ∈ l → Below w.heap.size w W → RdRels W (.slice x1 s.length x2) s → Calls Tryz.prog g (#[.slice x1 s.length x2] ++ lb) W fun e w' => e = .returned (.string (ofL (tx s))) ∧ Below W.heap.size W w') :
    Calls Tryz.prog 184 #[v, .string (ofL sep), .func (.func g) #[] lb] w fun e w' => e = .returned (.string (ofL (jnOf8 sep (l.map tx)))) ∧ Below w.heap.size w w' := by
  obtain ⟨a, c, rfl, hc1, hc2⟩ := hv.slice
  have HU := Lib.hid hv
  have HF := Lib.hid hF
  have HX := Lib.hid hx
  obtain ⟨iT, hiT, hzT, hkT, hbT⟩ := info_parts Tryz.infoT
  clear hv hF hx
  go_enter Tryz.func184, Tryz.ntmps184
  go_wp2
  go_loopw [7, 12] (fun v7 v wr => ∃ ts : List Str, ts.length ≤ l.length ∧ v = .int .i64 (ts.length : Nat) ∧ Own1 1 encT wr w.heap.size 9 v7 ts ∧ ts = (l.take ts.length).map tx ∧ Below w.heap.size w wr) (fun _ v _ => l.length - (intOf v).toNat)
  case atStart => exact ⟨[], Nat.zero_le _, rfl, own1_nil _ _ _, rfl, Below.refl _ _⟩
  case round =>
    obtain ⟨ts, hk, rfl, own, hts, hb⟩ := hrel
    obtain ⟨va, vc, hva⟩ := own.slice
    subst hva
    have OW := Lib.hid own
    have HB := Lib.hid hb
    have HTS := Lib.hid hts
    have zr := hb.size
    clear own hb hts
    obtain ⟨k, hkk⟩ : ∃ k, ts.length = k := ⟨_, rfl⟩
    have HK := Lib.hid hkk
    rw [hkk] at OW HTS hk ⊢
    clear hkk
    by_cases hlt : k < l.length
    · obtain ⟨bk, off, x1, x2, rfl, h0, h4⟩ := (HU.out.below HB.out).at_ k hlt
      have H4 := Lib.hid h4
      clear h4
      have h9 : (k : Int) < (l.length : Int) := by omega
      have zl : Hid (ts.length ≤ 1000000000) := Lib.hid (by rw [HK.out]; omega)
      have hlm : l[k] ∈ l := List.getElem_mem hlt
      have HNX : Hid (ts ++ [tx l[k]] = (l.take (k + 1)).map tx) := Lib.hid (by
        rw [List.take_succ_eq_append_getElem hlt, List.map_append, ← HTS.out]
        rfl)
      obtain ⟨s, hs2⟩ : ∃ s, l[k] = s := ⟨_, rfl⟩
      rw [hs2] at h0 hlm HNX H4
      obtain ⟨sn, hsn⟩ : ∃ sn, s.length = sn := ⟨_, rfl⟩
      rw [hsn] at h0 H4
      obtain ⟨X, hX⟩ : ∃ X, tx s = X := ⟨_, rfl⟩
      have HC0 := HF.out wr s x1 x2 hlm HB.out (by rw [hsn]; exact H4.out)
      rw [hsn, hX] at HC0
      have HC := Lib.hid HC0
      rw [hX] at HNX
      clear hs2 hlm hX HC0 hsn
      go_wp2_with fail
      refine HC.out.mono ?_
      rintro e w2 ⟨rfl, b2⟩
      have O2 : Hid (Own1 1 encT w2 w.heap.size 9 (.slice va k vc) ts) := Lib.hid (own_below OW.out b2)
      have B2 := Lib.hid (st HB.out b2 zr)
      have hz : w.heap.size ≤ w2.heap.size := B2.out.size
      clear b2 HC
      go_wp2_with (first | (at_builtin; refine wpList_append_at (w0 := w2) (x := X) (N := w2.heap.size) rfl rfl _ _ 49 rfl w.heap.size iT _ 16 Tryz.underlying49 hiT hzT hkT hbT (by omega) rfl (by omega) encT_len encT_one _ ts rfl rfl O2.out rfl zl.out hz ?_; intro v9 w9 y1 y2 y3) | go_in)
      obtain ⟨a9, c9, hv9⟩ := y1.slice
      rw [List.length_append, List.length_singleton, HK.out] at hv9
      subst hv9
      have N1 := Lib.hid y1
      have B9 := Lib.hid (B2.out.trans y2)
      clear y1 y2 y3
      go_wp2
      go_roundw
      case measure => simp [intOf]; omega
      case rel => exact ⟨ts ++ [X], by rw [List.length_append, List.length_singleton, HK.out]; omega, by rw [List.length_append, List.length_singleton, HK.out]; go_num, N1.out, by rw [List.length_append, List.length_singleton, HK.out]; exact HNX.out, B9.out⟩
    · have hkl : k = l.length := by omega
      have HALL : Hid (ts = l.map tx) := Lib.hid (by rw [HTS.out, hkl, List.take_length])
      have HJ : Hid (∀ x ∈ ts, x.length ≤ 100000) := Lib.hid (fun x hx => by
        rw [HALL.out] at hx
        obtain ⟨y, hy, rfl⟩ := List.mem_map.1 hx
        exact HX.out y hy)
      have h9 : ¬ (k : Int) < (l.length : Int) := by omega
      clear hkl
      go_wp2_with fail
      refine (join_any _ ts sep _ (OW.out.rd encT_len) hs (by rw [HK.out]; omega) HJ.out).mono ?_
      rintro e w2 ⟨rfl, b2⟩
      have B2 := Lib.hid (st HB.out b2 zr)
      clear b2
      go_wp2
      go_ret
      exact ⟨by rw [← HALL.out]; rfl, B2.out⟩
end Go.Proofs.YtpmmchppfmojhaaGreatDoor

namespace Go.Proofs.YtpmmchppfmojhaaGreatDoor
open Go.RowKit
set_option linter.unusedVariables false

theorem spsT_len (l : List (Int × Int)) (h : l.length ≤ 4) : (spsT l).length ≤ 36 := by
  unfold spsT
  have h1 := jn_len [44] 8 (l.map spT) (fun x hx => by
    obtain ⟨y, hy, rfl⟩ := List.mem_map.1 hx
    exact spT_len y)
  rw [List.length_map] at h1
  have h2 : l.length * (8 + ([44] : Str).length) ≤ 4 * 9 := Nat.mul_le_mul h (Nat.le_refl _)
  omega
theorem letr_cut : ∀ O : Fin 7, 1 ≤ O.val → (⟨#[110, 105, 118, 119, 102, 116]⟩ : ByteArray).extract (O.val - 1) O.val = ofL [letr (O.val : Int)] := by decide +kernel
theorem relT_eq (r : Rel) : relT r = (relH r ++ sgnT r.nt) ++ spsT r.sp := rfl
set_option maxRecDepth 1000000 in
set_option maxHeartbeats 4000000 in
theorem relationText_any (r : Rel) (x1 : Option Addr) (x2 : Nat) (hr : okR r = true) (w : World) (E : EnvOf8 w) (hv : Rd 2 encP w (.slice x1 r.sp.length x2) r.sp) :
    Calls Tryz.prog 233 #[.agg #[.int .i64 r.op, .int .i64 r.md, .bool r.nt, .slice x1 r.sp.length x2]] w fun e w' => e = .returned (.string (ofL (relT r))) ∧ Below w.heap.size w w' := by
  have hk := okR_iff.1 hr
  have hlo := hk.lo
  have hhi := hk.hi
  obtain ⟨d0, d1⟩ := okMod_le hk.md
  have HK := Lib.hid hk
  have HSL := Lib.hid (spsT_len r.sp hk.few)
  obtain ⟨o, d, b, l⟩ := r
  dsimp only at *
  obtain ⟨D, rfl⟩ : ∃ D : Nat, d = (D : Int) := ⟨d.toNat, by omega⟩
  obtain ⟨O, rfl⟩ : ∃ O : Nat, o = (O : Int) := ⟨o.toNat, by omega⟩
  have ecut := letr_cut ⟨O, by omega⟩ (by show 1 ≤ O; omega)
  dsimp only at ecut
  obtain ⟨LT, hLT⟩ : ∃ LT, letr (O : Int) = LT := ⟨_, rfl⟩
  rw [hLT] at ecut
  obtain ⟨J, hJ⟩ : ∃ J, spsT l = J := ⟨_, rfl⟩
  have HJ := Lib.hid hJ
  rw [hJ] at HSL
  have hld := dtx_len D
  have HR : Hid (relT ⟨(O : Int), (D : Int), b, l⟩ = ((if (D : Int) = 0 then [LT] else [LT] ++ ([32, 37, 32] ++ dtx D)) ++ sgnT b) ++ J) := Lib.hid (by
    rw [relT_eq]
    dsimp only
    rw [hJ]
    unfold relH
    dsimp only
    rw [hLT, Int.toNat_natCast]
    split <;> rfl)
  clear hLT hJ
  have BA := (Below.refl w.heap.size w).alloc (Nat.le_refl _) (.cells #[.int .i64 O, .int .i64 D, .bool b, .slice x1 l.length x2] 99)
  have E1 := Lib.hid (E.later BA)
  have V1 := Lib.hid (hv.below BA)
  have K1 : Hid (Blk w.heap.size 99 #[.int .i64 O, .int .i64 D, .bool b, .slice x1 l.length x2] (w.alloc (.cells #[.int .i64 O, .int .i64 D, .bool b, .slice x1 l.length x2] 99))) := Lib.hid (heap_alloc_new w _)
  obtain ⟨g, hg⟩ : ∃ g, w.heap.size = g := ⟨_, rfl⟩
  rw [hg] at K1
  have HBA := Lib.hid BA
  have HG := Lib.hid hg
  have w1 : IntKind.i64.wrap ((O : Int) - 1) = (O : Int) - 1 := wrap_fit (by omega) (by omega)
  clear BA hk hr E hv
  by_cases hD : (D : Int) = 0
  · have e1 : ((D : Int) != 0) = false := by rw [bne_eq_false_iff_eq]; exact hD
    rw [if_pos hD] at HR
    clear hD hld
    cases b with
    | true =>
      obtain ⟨S1, hS1⟩ : ∃ S1, [LT] ++ [32, 33, 61, 32] = S1 := ⟨_, rfl⟩
      obtain ⟨S2, hS2⟩ : ∃ S2, S1 ++ J = S2 := ⟨_, rfl⟩
      have q1 : ∀ wx, (Op.stringOp .add (ofL [LT]) ⟨#[32, 33, 61, 32]⟩).run Tryz.prog wx = .ok (.string (ofL S1)) wx := fun wx => str_add (y := [32, 33, 61, 32]) (by simp) hS1 wx
      have q2 : ∀ wx, (Op.stringOp .add (ofL S1) (ofL J)).run Tryz.prog wx = .ok (.string (ofL S2)) wx := fun wx => str_add (by have := HSL.out; rw [← hS1]; simp; omega) hS2 wx
      have HR2 : Hid (relT ⟨(O : Int), (D : Int), true, l⟩ = S2) := Lib.hid (by rw [HR.out, ← hS2, ← hS1]; rfl)
      clear hS1 hS2 HR
      go_enter Tryz.func233, Tryz.ntmps233
      go_wp2_with fail
      refine (joinSpan_any _ l spT [44] 278 #[] (enters_of Tryz.func278 (by kernel_rfl) rfl) _ V1.out (by have := HK.out.few; dsimp only at this; omega) (by decide) (fun x _ => by have := spT_len x; omega) (fun W s hs hb => spanText_any (O : Int) s (HK.out.sp s hs) W (E1.out.later hb))).mono ?_
      rintro e w9 ⟨rfl, b9⟩
      rw [show jnOf8 [44] (l.map spT) = J from HJ.out]
      have B9 := Lib.hid (st HBA.out b9 HBA.out.size)
      clear b9
      go_wp2
      go_ret
      rw [HR2.out]
      exact ⟨rfl, B9.out⟩
    | false =>
      obtain ⟨S1, hS1⟩ : ∃ S1, [LT] ++ [32, 61, 32] = S1 := ⟨_, rfl⟩
      obtain ⟨S2, hS2⟩ : ∃ S2, S1 ++ J = S2 := ⟨_, rfl⟩
      have q1 : ∀ wx, (Op.stringOp .add (ofL [LT]) ⟨#[32, 61, 32]⟩).run Tryz.prog wx = .ok (.string (ofL S1)) wx := fun wx => str_add (y := [32, 61, 32]) (by simp) hS1 wx
      have q2 : ∀ wx, (Op.stringOp .add (ofL S1) (ofL J)).run Tryz.prog wx = .ok (.string (ofL S2)) wx := fun wx => str_add (by have := HSL.out; rw [← hS1]; simp; omega) hS2 wx
      have HR2 : Hid (relT ⟨(O : Int), (D : Int), false, l⟩ = S2) := Lib.hid (by rw [HR.out, ← hS2, ← hS1]; rfl)
      clear hS1 hS2 HR
      go_enter Tryz.func233, Tryz.ntmps233
      go_wp2_with fail
      refine (joinSpan_any _ l spT [44] 278 #[] (enters_of Tryz.func278 (by kernel_rfl) rfl) _ V1.out (by have := HK.out.few; dsimp only at this; omega) (by decide) (fun x _ => by have := spT_len x; omega) (fun W s hs hb => spanText_any (O : Int) s (HK.out.sp s hs) W (E1.out.later hb))).mono ?_
      rintro e w9 ⟨rfl, b9⟩
      rw [show jnOf8 [44] (l.map spT) = J from HJ.out]
      have B9 := Lib.hid (st HBA.out b9 HBA.out.size)
      clear b9
      go_wp2
      go_ret
      rw [HR2.out]
      exact ⟨rfl, B9.out⟩
  · have e1 : ((D : Int) != 0) = true := by rw [bne_iff_ne]; exact hD
    rw [if_neg hD] at HR
    clear hD
    obtain ⟨M1, hM1⟩ : ∃ M1, [32, 37, 32] ++ dtx D = M1 := ⟨_, rfl⟩
    obtain ⟨M2, hM2⟩ : ∃ M2, [LT] ++ M1 = M2 := ⟨_, rfl⟩
    have p1 : ∀ wx, (Op.stringOp .add ⟨#[32, 37, 32]⟩ (ofL (dtx D))).run Tryz.prog wx = .ok (.string (ofL M1)) wx := fun wx => str_add (x := [32, 37, 32]) (by simp; omega) hM1 wx
    have p2 : ∀ wx, (Op.stringOp .add (ofL [LT]) (ofL M1)).run Tryz.prog wx = .ok (.string (ofL M2)) wx := fun wx => str_add (by rw [← hM1]; simp; omega) hM2 wx
    have hm2 : M2.length ≤ 10 := by rw [← hM2, ← hM1]; simp; omega
    rw [hM1, hM2] at HR
    clear hld hM1 hM2
    cases b with
    | true =>
      obtain ⟨S1, hS1⟩ : ∃ S1, M2 ++ [32, 33, 61, 32] = S1 := ⟨_, rfl⟩
      obtain ⟨S2, hS2⟩ : ∃ S2, S1 ++ J = S2 := ⟨_, rfl⟩
      have q1 : ∀ wx, (Op.stringOp .add (ofL M2) ⟨#[32, 33, 61, 32]⟩).run Tryz.prog wx = .ok (.string (ofL S1)) wx := fun wx => str_add (y := [32, 33, 61, 32]) (by simp; omega) hS1 wx
      have q2 : ∀ wx, (Op.stringOp .add (ofL S1) (ofL J)).run Tryz.prog wx = .ok (.string (ofL S2)) wx := fun wx => str_add (by have := HSL.out; rw [← hS1]; simp; omega) hS2 wx
      have HR2 : Hid (relT ⟨(O : Int), (D : Int), true, l⟩ = S2) := Lib.hid (by rw [HR.out, ← hS2, ← hS1]; rfl)
      clear hS1 hS2 HR hm2
      go_enter Tryz.func233, Tryz.ntmps233
      go_wp2_with fail
      refine (itoa_any D (by omega) _ E1.out).mono ?_
      rintro e w2 ⟨rfl, b2⟩
      have K2 : Hid (Blk g 99 #[.int .i64 O, .int .i64 D, .bool true, .slice x1 l.length x2] w2) := Lib.hid (Blk.below K1.out b2)
      have E2 := Lib.hid (E1.out.later b2)
      have V2 := Lib.hid (V1.out.below b2)
      have c2 : w2.cell? ⟨g, 2, none⟩ = some (.bool true) := K2.out.cell 2
      have c3 : w2.cell? ⟨g, 3, none⟩ = some (.slice x1 l.length x2) := K2.out.cell 3
      have B2 := Lib.hid (st HBA.out b2 HBA.out.size)
      clear b2
      go_wp2_with fail
      refine (joinSpan_any _ l spT [44] 278 #[] (enters_of Tryz.func278 (by kernel_rfl) rfl) _ V2.out (by have := HK.out.few; dsimp only at this; omega) (by decide) (fun x _ => by have := spT_len x; omega) (fun W s hs hb => spanText_any (O : Int) s (HK.out.sp s hs) W (E2.out.later hb))).mono ?_
      rintro e w9 ⟨rfl, b9⟩
      rw [show jnOf8 [44] (l.map spT) = J from HJ.out]
      have B9 := Lib.hid (st B2.out b9 B2.out.size)
      clear b9
      go_wp2
      go_ret
      rw [HR2.out]
      exact ⟨rfl, B9.out⟩
    | false =>
      obtain ⟨S1, hS1⟩ : ∃ S1, M2 ++ [32, 61, 32] = S1 := ⟨_, rfl⟩
      obtain ⟨S2, hS2⟩ : ∃ S2, S1 ++ J = S2 := ⟨_, rfl⟩
      have q1 : ∀ wx, (Op.stringOp .add (ofL M2) ⟨#[32, 61, 32]⟩).run Tryz.prog wx = .ok (.string (ofL S1)) wx := fun wx => str_add (y := [32, 61, 32]) (by simp; omega) hS1 wx
      have q2 : ∀ wx, (Op.stringOp .add (ofL S1) (ofL J)).run Tryz.prog wx = .ok (.string (ofL S2)) wx := fun wx => str_add (by have := HSL.out; rw [← hS1]; simp; omega) hS2 wx
      have HR2 : Hid (relT ⟨(O : Int), (D : Int), false, l⟩ = S2) := Lib.hid (by rw [HR.out, ← hS2, ← hS1]; rfl)
      clear hS1 hS2 HR hm2
      go_enter Tryz.func233, Tryz.ntmps233
      go_wp2_with fail
      refine (itoa_any D (by omega) _ E1.out).mono ?_
      rintro e w2 ⟨rfl, b2⟩
      have K2 : Hid (Blk g 99 #[.int .i64 O, .int .i64 D, .bool false, .slice x1 l.length x2] w2) := Lib.hid (Blk.below K1.out b2)
      have E2 := Lib.hid (E1.out.later b2)
      have V2 := Lib.hid (V1.out.below b2)
      have c2 : w2.cell? ⟨g, 2, none⟩ = some (.bool false) := K2.out.cell 2
      have c3 : w2.cell? ⟨g, 3, none⟩ = some (.slice x1 l.length x2) := K2.out.cell 3
      have B2 := Lib.hid (st HBA.out b2 HBA.out.size)
      clear b2
      go_wp2_with fail
      refine (joinSpan_any _ l spT [44] 278 #[] (enters_of Tryz.func278 (by kernel_rfl) rfl) _ V2.out (by have := HK.out.few; dsimp only at this; omega) (by decide) (fun x _ => by have := spT_len x; omega) (fun W s hs hb => spanText_any (O : Int) s (HK.out.sp s hs) W (E2.out.later hb))).mono ?_
      rintro e w9 ⟨rfl, b9⟩
      rw [show jnOf8 [44] (l.map spT) = J from HJ.out]
      have B9 := Lib.hid (st B2.out b9 B2.out.size)
      clear b9
      go_wp2
      go_ret
      rw [HR2.out]
      exact ⟨rfl, B9.out⟩
end Go.Proofs.YtpmmchppfmojhaaGreatDoor

namespace Go.Proofs.YtpmmchppfmojhaaGreatDoor
open Go.RowKit
set_option linter.unusedVariables false

theorem relT_le (r : Rel) (h : r.sp.length ≤ 4) : (relT r).length ≤ 50 := by
  rw [relT_eq, List.length_append, List.length_append]
  have h1 := spsT_len r.sp h
  have h2 : (relH r).length ≤ 7 := by
    unfold relH
    have := dtx_len r.md.toNat
    split <;> simp <;> omega
  have h3 : (sgnT r.nt).length ≤ 4 := by unfold sgnT; split <;> simp
  omega
theorem lstT_le (l : List Rel) (h : okL l = true) (hl : l.length ≤ 1000) : (lstT l).length ≤ 100000 := by
  unfold lstT
  have h1 := jn_len [32, 97, 110, 100, 32] 50 (l.map relT) (fun x hx => by
    obtain ⟨y, hy, rfl⟩ := List.mem_map.1 hx
    exact relT_le y (okR_iff.1 ((okL_iff.1 h).2 y hy)).few)
  rw [List.length_map] at h1
  have h2 : l.length * (50 + ([32, 97, 110, 100, 32] : Str).length) ≤ 1000 * 55 := Nat.mul_le_mul hl (Nat.le_refl _)
  omega
set_option maxRecDepth 1000000 in
set_option maxHeartbeats 4000000 in
theorem listText_any (l : List Rel) (x1 : Option Addr) (x2 : Nat) (hl : okL l = true) (hn : l.length ≤ 1000) (w : World) (E : EnvOf8 w) (hv : RdRels w (.slice x1 l.length x2) l) :
    Calls Tryz.prog 185 #[.slice x1 l.length x2] w fun e w' => e = .returned (.string (ofL (lstT l))) ∧ Below w.heap.size w w' := by
  have HE := Lib.hid E
  have HV := Lib.hid hv
  have HL := Lib.hid ((okL_iff.1 hl).2)
  clear E hv hl
  go_enter Tryz.func185, Tryz.ntmps185
  go_wp2_with fail
  refine (joinRel_any _ l relT [32, 97, 110, 100, 32] 233 #[] (enters_of Tryz.func233 (by kernel_rfl) rfl) _ HV.out hn (by decide) (fun x hx => by have := relT_le x (okR_iff.1 (HL.out x hx)).few; omega) (fun W s a1 a2 hs hb hr => relationText_any s a1 a2 (HL.out s hs) W (HE.out.later hb) hr)).mono ?_
  rintro e w9 ⟨rfl, b9⟩
  have B9 := Lib.hid b9
  clear b9
  go_wp2
  go_ret
  exact ⟨rfl, B9.out⟩
def prtR (c : Cnd) : Str × Int := if okC c = true then (cndT c, 0) else ([], 1)
theorem mem_cnt : ∀ (c : Cnd) (l : List Rel), l ∈ c → l.length ≤ cntOf8 c
  | [], _, h => by cases h
  | x :: c, l, h => by
    rw [cnt_cons]
    rcases List.mem_cons.1 h with e | h
    · rw [e]; omega
    · have := mem_cnt c l h
      omega
theorem len_le (c : Cnd) (h : okC c = true) : c.length ≤ 6 ∧ ∀ l ∈ c, l.length ≤ 6 := by
  obtain ⟨h0, h1, h2⟩ := okC_iff.1 h
  refine ⟨by have := len_cnt c h1; omega, fun l hl => ?_⟩
  have := mem_cnt c l hl
  omega
set_option maxRecDepth 1000000 in
set_option maxHeartbeats 4000000 in
theorem print_any (c : Cnd) (v : Value) (w : World) (E : EnvOf8 w) (hv : RdC w v c) (hB : ∀ l ∈ c, l.length ≤ 4611686018427387904) :
    Calls Tryz.prog 132 #[v] w fun e w' => e = .returned (.tuple #[.string (ofL (prtR c).1), .int .i64 (prtR c).2]) ∧ Below w.heap.size w w' := by
  have HE := Lib.hid E
  have HV := Lib.hid hv
  have HB := Lib.hid hB
  obtain ⟨a, n, hva, _⟩ := hv.slice
  subst hva
  clear E hv hB
  obtain ⟨vb, hvb⟩ : ∃ vb, okC c = vb := ⟨_, rfl⟩
  have HVB := Lib.hid hvb
  have hval := valid_cond_any _ c w HV.out HB.out
  rw [hvb] at hval
  have HVA := Lib.hid hval
  clear hvb hval
  go_enter Tryz.func132, Tryz.ntmps132
  go_wp2_with fail
  refine HVA.out.mono ?_
  rintro e w2 ⟨rfl, b2⟩
  have B2 := Lib.hid b2
  have E2 := Lib.hid (HE.out.later b2)
  have V2 := Lib.hid (HV.out.below b2)
  clear b2
  cases vb with
  | false =>
    have HP : Hid (prtR c = ([], 1)) := Lib.hid (by unfold prtR; rw [HVB.out, if_neg (by simp)])
    go_wp2
    go_ret2
    rw [HP.out]
    exact ⟨rfl, B2.out⟩
  | true =>
    have HP : Hid (prtR c = (cndT c, 0)) := Lib.hid (by unfold prtR; rw [HVB.out, if_pos rfl])
    have HLE := Lib.hid (len_le c HVB.out)
    have HOK := Lib.hid (okC_iff.1 HVB.out).2.1
    go_wp2_with fail
    refine (joinLst_any _ c lstT [32, 111, 114, 32] 185 #[] (enters_of Tryz.func185 (by kernel_rfl) rfl) _ V2.out (by have := HLE.out.1; omega) (by decide) (fun x hx => lstT_le x (HOK.out x hx) (by have := HLE.out.2 x hx; omega)) (fun W s a1 a2 hs hb hr => listText_any s a1 a2 (HOK.out s hs) (by have := HLE.out.2 s hs; omega) W (E2.out.later hb) hr)).mono ?_
    rintro e w9 ⟨rfl, b9⟩
    have B9 := Lib.hid (st B2.out b9 B2.out.size)
    clear b9
    go_wp2
    go_ret2
    rw [HP.out]
    exact ⟨rfl, B9.out⟩
end Go.Proofs.YtpmmchppfmojhaaGreatDoor

namespace Go.Proofs.YtpmmchppfmojhaaGreatDoor
open Go.RowKit
set_option linter.unusedVariables false

end Go.Proofs.YtpmmchppfmojhaaGreatDoor


/- Of calqueref08: decimal. -/
namespace Go.Proofs.YtpmmchppfmojhaaGreatDoor
open Go.RowKit
set_option linter.unusedVariables false

theorem conv_dig (n : Nat) (hn : n < 10) (w : World) : (convert 102 9 (.slice (some ⟨w.heap.size, 0, none⟩) 1 1)).run Tryz.prog (w.alloc (.cells #[.int .u8 (48 + (n : Int))] 5)) = .ok (.string (ofL (dtx n))) (w.alloc (.cells #[.int .u8 (48 + (n : Int))] 5)) := by
  have e : (48 + (n : Int)) = (((UInt8.ofNat (48 + n)).toNat : Nat) : Int) := by
    rw [UInt8.toNat_ofNat_of_lt' (by show 48 + n < 256; omega)]
    omega
  have hd : dtx n = [UInt8.ofNat (48 + n)] := by unfold dtx; rw [if_pos hn]
  rw [hd, e]
  have O : Own1 1 encB (w.alloc (.cells #[.int .u8 (((UInt8.ofNat (48 + n)).toNat : Nat) : Int)] 5)) w.heap.size 5 (.slice (some ⟨w.heap.size, 0, none⟩) 1 1) [UInt8.ofNat (48 + n)] :=
    ⟨by rfl, .inr ⟨w.heap.size, 1, #[.int .u8 (((UInt8.ofNat (48 + n)).toNat : Nat) : Int)], rfl, Nat.le_refl _, heap_alloc_new w _, Nat.le_refl _, by decide, rfl, rfl⟩⟩
  exact conv_rd Tryz.underlying102 Tryz.underlying5 Tryz.underlying9 (O.rd encB_len)
set_option maxRecDepth 1000000 in
set_option maxHeartbeats 4000000 in
theorem refDec1_any (n : Nat) (hn : n < 10) (w : World) :
    Calls Tryz.prog 129 #[.int .i64 n] w fun e w' => e = .returned (.string (ofL (dtx n))) ∧ Below w.heap.size w w' := by
  have e1 : ¬ (10 : Int) ≤ (n : Int) := by omega
  have e2 : (n : Int) < 10 := by omega
  have hc := conv_dig n hn
  go_enter Tryz.func129, Tryz.ntmps129
  go_wp2
  go_ret
  exact ⟨rfl, (Below.refl _ _).alloc (Nat.le_refl _) _⟩
theorem dtx_cut : ∀ n : Fin 101, 10 ≤ n.val → dtx (n.val / 10) ++ dtx (n.val % 10) = dtx n.val := by decide +kernel
set_option maxRecDepth 1000000 in
set_option maxHeartbeats 4000000 in
theorem refDec2_any (n : Nat) (h0 : 10 ≤ n) (hn : n ≤ 100) (hq : ∀ w : World, Calls Tryz.prog 129 #[.int .i64 (n / 10 : Nat)] w fun e w' => e = .returned (.string (ofL (dtx (n / 10)))) ∧ Below w.heap.size w w') (w : World) :
    Calls Tryz.prog 129 #[.int .i64 n] w fun e w' => e = .returned (.string (ofL (dtx n))) ∧ Below w.heap.size w w' := by
  have e1 : (10 : Int) ≤ (n : Int) := by omega
  have hc : Hid (dtx (n / 10) ++ dtx (n % 10) = dtx n) := Lib.hid (dtx_cut ⟨n, by omega⟩ h0)
  have hr := fun w => refDec1_any (n % 10) (by omega) w
  have hl1 := dtx_len (n / 10)
  have hl2 := dtx_len (n % 10)
  obtain ⟨q, hqe⟩ : ∃ q, n / 10 = q := ⟨_, rfl⟩
  obtain ⟨r, hre⟩ : ∃ r, n % 10 = r := ⟨_, rfl⟩
  rw [hqe] at hq hc hl1
  rw [hre] at hr hc hl2
  have m1 : (n : Int).tdiv 10 = (q : Int) := by rw [Int.tdiv_eq_ediv_of_nonneg (by omega)]; omega
  have m2 : (n : Int) / 10 = (q : Int) := by omega
  have m3 : (n : Int).tmod 10 = (r : Int) := by rw [Int.tmod_eq_emod_of_nonneg (by omega)]; omega
  have m4 : (n : Int) % 10 = (r : Int) := by omega
  have p1 : ∀ wx, (Op.stringOp .add (ofL (dtx q)) (ofL (dtx r))).run Tryz.prog wx = .ok (.string (ofL (dtx n))) wx := fun wx => str_add (by omega) hc.out wx
  have HQ := Lib.hid hq
  have HR := Lib.hid hr
  clear hq hr hl1 hl2 hqe hre
  go_enter Tryz.func129, Tryz.ntmps129
  go_wp2_with fail
  refine (HQ.out _).mono ?_
  rintro e w2 ⟨rfl, b2⟩
  have B2 := Lib.hid b2
  clear b2
  go_wp2_with fail
  refine (HR.out _).mono ?_
  rintro e w3 ⟨rfl, b3⟩
  have B3 := Lib.hid (st B2.out b3 B2.out.size)
  clear b3
  go_wp2
  go_ret
  exact ⟨rfl, B3.out⟩
theorem refDec_any (n : Nat) (hn : n ≤ 100) (w : World) :
    Calls Tryz.prog 129 #[.int .i64 n] w fun e w' => e = .returned (.string (ofL (dtx n))) ∧ Below w.heap.size w w' := by
  by_cases h1 : n < 10
  · exact refDec1_any n h1 w
  · by_cases h2 : n < 100
    · exact refDec2_any n (by omega) hn (fun w => refDec1_any (n / 10) (by omega) w) w
    · have e : n = 100 := by omega
      subst e
      exact refDec2_any 100 (by omega) hn (fun w => refDec2_any 10 (by omega) (by omega) (fun w => refDec1_any 1 (by omega) w) w) w
end Go.Proofs.YtpmmchppfmojhaaGreatDoor


/- Of calqueref08: the text of a relation. -/
namespace Go.Proofs.YtpmmchppfmojhaaGreatDoor
open Go.RowKit
set_option linter.unusedVariables false
theorem wrap_fitW {x : Int} (h0 : -9223372036854775808 ≤ x) (h1 : x ≤ 9223372036854775807) : IntKind.i64.wrap x = x := by
  rw [IntKind.wrap_i64]; omega

def sgH (b : Bool) : Str := if b = true then [32, 33, 61] else [32, 61]
def sepK (k : Nat) : Str := if k = 0 then [32] else [44]
def upT (r : Rel) (k : Nat) : Str := (relH r ++ sgH r.nt) ++ (if k = 0 then [] else [32] ++ spsT (r.sp.take k))
theorem upT_zero (r : Rel) : upT r 0 = relH r ++ sgH r.nt := by unfold upT; rw [if_pos rfl, List.append_nil]
theorem upT_all (r : Rel) (h : 0 < r.sp.length) : upT r r.sp.length = relT r := by
  unfold upT relT sgH sgnT
  rw [if_neg (show ¬ r.sp.length = 0 by omega), List.take_length]
  cases r.nt <;> simp
theorem upT_succ (r : Rel) (k : Nat) (h : k < r.sp.length) : upT r (k + 1) = (upT r k ++ sepK k) ++ spT r.sp[k] := by
  unfold upT sepK spsT
  rw [if_neg (by omega), List.take_succ_eq_append_getElem h, List.map_append]
  by_cases hk : k = 0
  · subst hk
    rw [if_pos rfl, if_pos rfl]
    simp [jnOf8]
  · rw [if_neg hk, if_neg hk, List.map_singleton, jn_snoc _ _ _ (by
      intro e
      have := congrArg List.length e
      rw [List.length_map, List.length_take, List.length_nil] at this
      omega)]
    simp
theorem upT_len (r : Rel) (h : r.sp.length ≤ 4) (k : Nat) : (upT r k).length ≤ 60 := by
  have h1 := spsT_len (r.sp.take k) (by rw [List.length_take]; omega)
  have h2 : (relH r).length ≤ 7 := by
    unfold relH
    have := dtx_len r.md.toNat
    split <;> simp <;> omega
  have h3 : (sgH r.nt).length ≤ 3 := by unfold sgH; split <;> simp
  unfold upT
  rw [List.length_append, List.length_append]
  split <;> simp <;> omega
theorem spT_same {a b : Int} (h : b = a) : spT (a, b) = dtx a.toNat := by unfold spT; dsimp only; rw [if_pos h, List.append_nil]
theorem spT_two {a b : Int} (h : b ≠ a) : spT (a, b) = dtx a.toNat ++ ([46, 46] ++ dtx b.toNat) := by unfold spT; dsimp only; rw [if_neg h]
set_option maxRecDepth 1000000 in
set_option maxHeartbeats 8000000 in
theorem refRel_any (r : Rel) (x1 : Option Addr) (x2 : Nat) (hr : okR r = true) (w : World) (hv : Rd 2 encP w (.slice x1 r.sp.length x2) r.sp) :
    Calls Tryz.prog 56 #[.agg #[.int .i64 r.op, .int .i64 r.md, .bool r.nt, .slice x1 r.sp.length x2]] w fun e w' => e = .returned (.string (ofL (relT r))) ∧ Below w.heap.size w w' := by
  have hk := okR_iff.1 hr
  have hlo := hk.lo
  have hhi := hk.hi
  obtain ⟨d0, d1⟩ := okMod_le hk.md
  have hfew := hk.few
  have HSP := Lib.hid hk.sp
  have HALL := Lib.hid (upT_all r hk.some_)
  have HST := Lib.hid (upT_succ r)
  have HLN := Lib.hid (upT_len r hk.few)
  have HZ := Lib.hid (upT_zero r)
  obtain ⟨U, hU⟩ : ∃ U, upT r = U := ⟨_, rfl⟩
  obtain ⟨T, hT⟩ : ∃ T, relT r = T := ⟨_, rfl⟩
  rw [hU] at HALL HST HLN HZ
  rw [hT] at HALL ⊢
  obtain ⟨RH, hRH⟩ : ∃ RH, relH r = RH := ⟨_, rfl⟩
  rw [hRH] at HZ
  have HRH := Lib.hid hRH
  clear hk hr hU hT hRH
  obtain ⟨o, d, b, l⟩ := r
  dsimp only at *
  obtain ⟨D, rfl⟩ : ∃ D : Nat, d = (D : Int) := ⟨d.toNat, by omega⟩
  obtain ⟨O, rfl⟩ : ∃ O : Nat, o = (O : Int) := ⟨o.toNat, by omega⟩
  have ecut := letr_cut ⟨O, by omega⟩ (by show 1 ≤ O; omega)
  dsimp only at ecut
  obtain ⟨LT, hLT⟩ : ∃ LT, letr (O : Int) = LT := ⟨_, rfl⟩
  rw [hLT] at ecut
  have hld := dtx_len D
  have HR : Hid (RH = if (D : Int) = 0 then [LT] else [LT] ++ ([32, 37, 32] ++ dtx D)) := Lib.hid (by
    rw [← HRH.out]
    unfold relH
    dsimp only
    rw [hLT, Int.toNat_natCast]
    split <;> rfl)
  clear hLT HRH
  have BA := (Below.refl w.heap.size w).alloc (Nat.le_refl _) (.cells #[.int .i64 O, .int .i64 D, .bool b, .slice x1 l.length x2] 99)
  have K1 : Hid (Blk w.heap.size 99 #[.int .i64 O, .int .i64 D, .bool b, .slice x1 l.length x2] (w.alloc (.cells #[.int .i64 O, .int .i64 D, .bool b, .slice x1 l.length x2] 99))) := Lib.hid (heap_alloc_new w _)
  have HV := Lib.hid hv
  have HBA := Lib.hid BA
  have w1 : IntKind.i64.wrap ((O : Int) - 1) = (O : Int) - 1 := wrap_fitW (by omega) (by omega)
  obtain ⟨g, hg⟩ : ∃ g, w.heap.size = g := ⟨_, rfl⟩
  rw [hg] at K1
  have HG := Lib.hid hg
  clear BA hv
  go_enter Tryz.func56, Tryz.ntmps56
  go_upto_if 13 with fail
  go_cut [3] from 5 to 19 (fun v3 wx => v3 = .string (ofL RH) ∧ Blk g 99 #[.int .i64 O, .int .i64 D, .bool b, .slice x1 l.length x2] wx ∧ Below w.heap.size w wx)
  case first =>
    by_cases hD : (D : Int) = 0
    · have e1 : ((D : Int) != 0) = false := by rw [bne_eq_false_iff_eq]; exact hD
      rw [if_pos hD] at HR
      clear hD hld
      go_wp2_with fail
      go_meet
      exact ⟨by rw [HR.out], K1.out, HBA.out⟩
    · have e1 : ((D : Int) != 0) = true := by rw [bne_iff_ne]; exact hD
      rw [if_neg hD] at HR
      clear hD
      obtain ⟨M1, hM1⟩ : ∃ M1, [32, 37, 32] ++ dtx D = M1 := ⟨_, rfl⟩
      obtain ⟨M2, hM2⟩ : ∃ M2, [LT] ++ M1 = M2 := ⟨_, rfl⟩
      have p1 : ∀ wx, (Op.stringOp .add ⟨#[32, 37, 32]⟩ (ofL (dtx D))).run Tryz.prog wx = .ok (.string (ofL M1)) wx := fun wx => str_add (x := [32, 37, 32]) (by simp; omega) hM1 wx
      have p2 : ∀ wx, (Op.stringOp .add (ofL [LT]) (ofL M1)).run Tryz.prog wx = .ok (.string (ofL M2)) wx := fun wx => str_add (by rw [← hM1]; simp; omega) hM2 wx
      rw [hM1, hM2] at HR
      clear hld hM1 hM2
      go_wp2_with fail
      refine (refDec_any D (by omega) _).mono ?_
      rintro e w2 ⟨rfl, b2⟩
      have K2 : Hid (Blk g 99 #[.int .i64 O, .int .i64 D, .bool b, .slice x1 l.length x2] w2) := Lib.hid (Blk.below K1.out b2)
      have B2 := Lib.hid (st HBA.out b2 HBA.out.size)
      clear b2
      go_wp2_with fail
      go_meet
      exact ⟨by rw [HR.out], K2.out, B2.out⟩
  case rest =>
    obtain ⟨rfl, k1, hb1⟩ := hcut
    rename World => wc
    clear K1 HBA hld ecut w1 hlo hhi HR
    have K1 := Lib.hid k1
    have HB1 := Lib.hid hb1
    have c2 : wc.cell? ⟨g, 2, none⟩ = some (.bool b) := k1.cell 2
    have hu0 := HLN.out 0
    clear k1 hb1
    obtain ⟨U0, hU0⟩ : ∃ U0, U 0 = U0 := ⟨_, rfl⟩
    have HU0 := Lib.hid hU0
    have hrl : RH.length ≤ 60 := by
      have := congrArg List.length HZ.out
      rw [List.length_append] at this
      omega
    rw [hU0] at HZ hu0
    clear hU0
    go_upto_if 21 with fail
    go_cut [3] from 20 to 25 (fun v3 wx => v3 = .string (ofL U0) ∧ wx = wc)
    case first =>
      cases b with
      | true =>
        have p1 : ∀ wx, (Op.stringOp .add (ofL RH) ⟨#[32, 33, 61]⟩).run Tryz.prog wx = .ok (.string (ofL U0)) wx := fun wx => str_add (y := [32, 33, 61]) (by simp; omega) (by rw [HZ.out]; rfl) wx
        clear hu0 hrl
        go_wp2_with fail
        go_meet
        exact ⟨rfl, rfl⟩
      | false =>
        have p1 : ∀ wx, (Op.stringOp .add (ofL RH) ⟨#[32, 61]⟩).run Tryz.prog wx = .ok (.string (ofL U0)) wx := fun wx => str_add (y := [32, 61]) (by simp; omega) (by rw [HZ.out]; rfl) wx
        clear hu0 hrl
        go_wp2_with fail
        go_meet
        exact ⟨rfl, rfl⟩
    case rest =>
      obtain ⟨rfl, hwc⟩ := hcut
      rename World => wd
      obtain rfl := hwc.symm
      clear hu0 hrl c2 HZ
      go_wp2_with fail
      go_loopw [3, 4] (fun v3 v4 wr => ∃ k : Nat, k ≤ l.length ∧ v4 = .int .i64 k ∧ v3 = .string (ofL (U k)) ∧ Blk g 99 #[.int .i64 O, .int .i64 D, .bool b, .slice x1 l.length x2] wr ∧ Below w.heap.size w wr) (fun _ v4 _ => l.length - (intOf v4).toNat)
      case atStart => exact ⟨0, Nat.zero_le _, rfl, by rw [HU0.out], K1.out, HB1.out⟩
      case round =>
        obtain ⟨k, hk, rfl, rfl, k2, hb2⟩ := hrel
        clear K1 HB1 HU0
        have K2 := Lib.hid k2
        have HB2 := Lib.hid hb2
        have c3 : wr.cell? ⟨g, 3, none⟩ = some (.slice x1 l.length x2) := k2.cell 3
        clear k2 hb2
        by_cases hlt : k < l.length
        · obtain ⟨bk, off, rfl, h0, h1⟩ := (HV.out.below HB2.out).span k hlt
          have h9 : (k : Int) < (l.length : Int) := by omega
          have hsl := okSp_le (HSP.out l[k] (List.getElem_mem hlt))
          have HNX := Lib.hid (HST.out k hlt)
          have hl1 := HLN.out k
          have hl2 := HLN.out (k + 1)
          have hvb : bk < wr.heap.size := World.block_lt_of_cell? wr _ h0
          obtain ⟨⟨x, y⟩, hxy⟩ : ∃ s, l[k] = s := ⟨_, rfl⟩
          rw [hxy] at h0 h1 hsl HNX
          dsimp only at h0 h1 hsl
          clear hxy
          obtain ⟨X, rfl⟩ : ∃ X : Nat, x = (X : Int) := ⟨x.toNat, by omega⟩
          obtain ⟨Y, rfl⟩ : ∃ Y : Nat, y = (Y : Int) := ⟨y.toNat, by omega⟩
          have hX : X ≤ 100 := by omega
          have hY : Y ≤ 100 := by omega
          obtain ⟨S0, hS0⟩ : ∃ S0, U k = S0 := ⟨_, rfl⟩
          obtain ⟨S1, hS1⟩ : ∃ S1, S0 ++ sepK k = S1 := ⟨_, rfl⟩
          obtain ⟨S3, hS3⟩ : ∃ S3, U (k + 1) = S3 := ⟨_, rfl⟩
          have HS3 := Lib.hid hS3
          rw [hS0, hS1, hS3] at HNX
          rw [hS0] at hl1 ⊢
          rw [hS3] at hl2
          have HS1 := Lib.hid hS1
          have hl3 : S1.length ≤ 61 := by
            rw [← hS1, List.length_append]
            unfold sepK
            split <;> simp <;> omega
          clear hS0 hS1 hS3 hsl
          go_upto_if 34 with fail
          go_cut [3] from 33 to 38 (fun v3 wx => v3 = .string (ofL S1) ∧ wx = wr)
          case first =>
            by_cases hk0 : k = 0
            · subst hk0
              have p1 : ∀ wx, (Op.stringOp .add (ofL S0) ⟨#[32]⟩).run Tryz.prog wx = .ok (.string (ofL S1)) wx := fun wx => str_add (y := [32]) (by simp; omega) HS1.out wx
              clear hl1 hl2 hl3
              go_wp2_with fail
              go_meet
              exact ⟨rfl, rfl⟩
            · have t0 : ((k : Int) == 0) = false := by rw [beq_eq_false_iff_ne]; omega
              have t1 : (k == 0) = false := by rw [beq_eq_false_iff_ne]; exact hk0
              have p1 : ∀ wx, (Op.stringOp .add (ofL S0) ⟨#[44]⟩).run Tryz.prog wx = .ok (.string (ofL S1)) wx := fun wx => str_add (y := [44]) (by simp; omega) (by rw [← HS1.out]; unfold sepK; rw [if_neg hk0]) wx
              clear hl1 hl2 hl3 hk0
              go_wp2_with fail
              go_meet
              exact ⟨rfl, rfl⟩
          case rest =>
            obtain ⟨rfl, hwc⟩ := hcut
            obtain rfl := hwc.symm
            have hla := dtx_len X
            have hlb := dtx_len Y
            by_cases hxy : (Y : Int) = (X : Int)
            · have e1 : ((Y : Int) != (X : Int)) = false := by rw [bne_eq_false_iff_eq]; exact hxy
              have q1 : ∀ wx, (Op.stringOp .add (ofL S1) (ofL (dtx X))).run Tryz.prog wx = .ok (.string (ofL S3)) wx := fun wx => str_add (by omega) (by rw [HNX.out, spT_same hxy, Int.toNat_natCast]) wx
              clear hl1 hl2 hl3 hla hlb hxy
              go_wp2_with fail
              refine (refDec_any X hX _).mono ?_
              rintro e w3 ⟨rfl, b3⟩
              have K3 : Hid (Blk g 99 #[.int .i64 O, .int .i64 D, .bool b, .slice (some ⟨bk, off, none⟩) l.length x2] w3) := Lib.hid (Blk.below K2.out b3)
              have B3 := Lib.hid (st HB2.out b3 HB2.out.size)
              have a0 : w3.cell? ⟨bk, off + k * 2, none⟩ = some (.int .i64 X) := (b3.cell (p := ⟨bk, off + k * 2, none⟩) hvb).trans h0
              have a1 : w3.cell? ⟨bk, off + k * 2 + 1, none⟩ = some (.int .i64 Y) := (b3.cell (p := ⟨bk, off + k * 2 + 1, none⟩) hvb).trans h1
              have f3 : w3.cell? ⟨g, 3, none⟩ = some (.slice (some ⟨bk, off, none⟩) l.length x2) := K3.out.cell 3
              have a0d : w3.drew.cell? ⟨bk, off + k * 2, none⟩ = some (.int .i64 X) := a0
              have a1d : w3.drew.cell? ⟨bk, off + k * 2 + 1, none⟩ = some (.int .i64 Y) := a1
              have f3d : w3.drew.cell? ⟨g, 3, none⟩ = some (.slice (some ⟨bk, off, none⟩) l.length x2) := f3
              clear b3
              go_wp2_with fail
              go_quiet (fail)
              go_wp2
              go_roundw
              case measure => simp [intOf]; omega
              case rel => exact ⟨k + 1, by omega, by go_num, by rw [HS3.out], K3.out.drewN _, below_drewN B3.out _⟩
            · have e1 : ((Y : Int) != (X : Int)) = true := by rw [bne_iff_ne]; exact hxy
              obtain ⟨S2, hS2⟩ : ∃ S2, S1 ++ dtx X = S2 := ⟨_, rfl⟩
              obtain ⟨M1, hM1⟩ : ∃ M1, [46, 46] ++ dtx Y = M1 := ⟨_, rfl⟩
              have q1 : ∀ wx, (Op.stringOp .add (ofL S1) (ofL (dtx X))).run Tryz.prog wx = .ok (.string (ofL S2)) wx := fun wx => str_add (by omega) hS2 wx
              have q2 : ∀ wx, (Op.stringOp .add ⟨#[46, 46]⟩ (ofL (dtx Y))).run Tryz.prog wx = .ok (.string (ofL M1)) wx := fun wx => str_add (x := [46, 46]) (by simp; omega) hM1 wx
              have q3 : ∀ wx, (Op.stringOp .add (ofL S2) (ofL M1)).run Tryz.prog wx = .ok (.string (ofL S3)) wx := fun wx => str_add (by rw [← hS2, ← hM1]; simp; omega) (by rw [HNX.out, spT_two hxy, Int.toNat_natCast, Int.toNat_natCast, ← hS2, ← hM1, List.append_assoc]) wx
              clear hl1 hl2 hl3 hla hlb hxy hS2 hM1
              go_wp2_with fail
              refine (refDec_any X hX _).mono ?_
              rintro e w3 ⟨rfl, b3⟩
              have K3 : Hid (Blk g 99 #[.int .i64 O, .int .i64 D, .bool b, .slice (some ⟨bk, off, none⟩) l.length x2] w3) := Lib.hid (Blk.below K2.out b3)
              have B3 := Lib.hid (st HB2.out b3 HB2.out.size)
              have a0 : w3.cell? ⟨bk, off + k * 2, none⟩ = some (.int .i64 X) := (b3.cell (p := ⟨bk, off + k * 2, none⟩) hvb).trans h0
              have a1 : w3.cell? ⟨bk, off + k * 2 + 1, none⟩ = some (.int .i64 Y) := (b3.cell (p := ⟨bk, off + k * 2 + 1, none⟩) hvb).trans h1
              have f3 : w3.cell? ⟨g, 3, none⟩ = some (.slice (some ⟨bk, off, none⟩) l.length x2) := K3.out.cell 3
              have a0d : w3.drew.cell? ⟨bk, off + k * 2, none⟩ = some (.int .i64 X) := a0
              have a1d : w3.drew.cell? ⟨bk, off + k * 2 + 1, none⟩ = some (.int .i64 Y) := a1
              have f3d : w3.drew.cell? ⟨g, 3, none⟩ = some (.slice (some ⟨bk, off, none⟩) l.length x2) := f3
              clear b3
              go_wp2_with fail
              go_quiet (fail)
              go_wp2_with fail
              refine (refDec_any Y hY _).mono ?_
              rintro e w4 ⟨rfl, b4⟩
              have B4 := Lib.hid (st (below_drewN B3.out _) b4 (below_drewN B3.out _).size)
              have K4 := Lib.hid (Blk.below (K3.out.drewN _) b4)
              clear b4
              go_wp2
              go_roundw
              case measure => simp [intOf]; omega
              case rel => exact ⟨k + 1, by omega, by go_num, by rw [HS3.out], K4.out, B4.out⟩
        · obtain rfl : k = l.length := by omega
          have h3 : ¬ (l.length : Int) < (l.length : Int) := by omega
          rw [HALL.out]
          go_wp2
          go_ret
          exact ⟨rfl, by rw [← HG.out]; exact HB2.out⟩
end Go.Proofs.YtpmmchppfmojhaaGreatDoor


/- Of calqueref08: Print. -/
namespace Go.Proofs.YtpmmchppfmojhaaGreatDoor
open Go.RowKit
set_option linter.unusedVariables false

def gap (sep : Str) (k : Nat) : Str := if k = 0 then [] else sep
theorem gap_pos (sep : Str) {k : Nat} (h : k ≠ 0) : gap sep k = sep := if_neg h
theorem jn_step (sep : Str) (l : List Str) (k : Nat) (h : k < l.length) : (jnOf8 sep (l.take k) ++ gap sep k) ++ l[k] = jnOf8 sep (l.take (k + 1)) := by
  rw [List.take_succ_eq_append_getElem h]
  by_cases hk : k = 0
  · subst hk
    simp [jnOf8, gap]
  · rw [jn_snoc _ _ _ (by
      intro e
      have := congrArg List.length e
      rw [List.length_take, List.length_nil] at this
      omega), gap_pos _ hk, List.append_assoc]
def otT (c : Cnd) (k : Nat) : Str := jnOf8 [32, 111, 114, 32] ((c.map lstT).take k)
theorem otT_zero (c : Cnd) : otT c 0 = [] := rfl
theorem otT_all (c : Cnd) : otT c c.length = cndT c := by
  unfold otT cndT
  rw [List.take_of_length_le (by rw [List.length_map]; exact Nat.le_refl _)]
theorem otT_step (c : Cnd) (k : Nat) (h : k < c.length) : (otT c k ++ gap [32, 111, 114, 32] k) ++ lstT c[k] = otT c (k + 1) := by
  have := jn_step [32, 111, 114, 32] (c.map lstT) k (by rw [List.length_map]; exact h)
  rw [List.getElem_map] at this
  exact this
theorem otT_le (c : Cnd) (h : okC c = true) (k : Nat) : (otT c k).length ≤ 1000000 := by
  have h0 := len_le c h
  have h1 := jn_len [32, 111, 114, 32] 100000 ((c.map lstT).take k) (fun x hx => by
    obtain ⟨y, hy, rfl⟩ := List.mem_map.1 (List.mem_of_mem_take hx)
    exact lstT_le y ((okC_iff.1 h).2.1 y hy) (by have := h0.2 y hy; omega))
  rw [List.length_take, List.length_map] at h1
  have h2 : min k c.length * (100000 + ([32, 111, 114, 32] : Str).length) ≤ 6 * 100004 := Nat.mul_le_mul (by omega) (Nat.le_refl _)
  unfold otT
  omega
def inT (p : Str) (l : List Rel) (k : Nat) : Str := p ++ jnOf8 [32, 97, 110, 100, 32] ((l.map relT).take k)
theorem inT_zero (p : Str) (l : List Rel) : inT p l 0 = p := List.append_nil _
theorem inT_all (p : Str) (l : List Rel) : inT p l l.length = p ++ lstT l := by
  unfold inT lstT
  rw [List.take_of_length_le (by rw [List.length_map]; exact Nat.le_refl _)]
theorem inT_step (p : Str) (l : List Rel) (k : Nat) (h : k < l.length) : (inT p l k ++ gap [32, 97, 110, 100, 32] k) ++ relT l[k] = inT p l (k + 1) := by
  have := jn_step [32, 97, 110, 100, 32] (l.map relT) k (by rw [List.length_map]; exact h)
  rw [List.getElem_map] at this
  unfold inT
  rw [← this]
  simp
theorem inT_le (p : Str) (l : List Rel) (h : okL l = true) (hl : l.length ≤ 6) (hp : p.length ≤ 2000000) (k : Nat) : (inT p l k).length ≤ 3000000 := by
  have h1 := jn_len [32, 97, 110, 100, 32] 50 ((l.map relT).take k) (fun x hx => by
    obtain ⟨y, hy, rfl⟩ := List.mem_map.1 (List.mem_of_mem_take hx)
    exact relT_le y (okR_iff.1 ((okL_iff.1 h).2 y hy)).few)
  rw [List.length_take, List.length_map] at h1
  have h2 : min k l.length * (50 + ([32, 97, 110, 100, 32] : Str).length) ≤ 6 * 55 := Nat.mul_le_mul (by omega) (Nat.le_refl _)
  unfold inT
  rw [List.length_append]
  omega
set_option maxRecDepth 1000000 in
set_option maxHeartbeats 8000000 in
theorem refPrint_any (c : Cnd) (v : Value) (w : World) (hv : RdC w v c) (hl : cntOf8 c ≤ 4611686018427387904) :
    Calls Tryz.prog 24 #[v] w fun e w' => e = .returned (.tuple #[.string (ofL (prtR c).1), .int .i64 (prtR c).2]) ∧ Below w.heap.size w w' := by
  have HV := Lib.hid hv
  obtain ⟨a, n, hva, _⟩ := hv.slice
  subst hva
  obtain ⟨vb, hvb⟩ : ∃ vb, okC c = vb := ⟨_, rfl⟩
  have HVB := Lib.hid hvb
  have hval := refValidC_any _ c w hv hl
  rw [hvb] at hval
  have HVA := Lib.hid hval
  clear hv hvb hval hl
  go_enter Tryz.func24, Tryz.ntmps24
  go_wp2_with fail
  refine HVA.out.mono ?_
  rintro e w2 ⟨rfl, b2⟩
  have B2 := Lib.hid b2
  have V2 := Lib.hid (HV.out.below b2)
  clear b2 HV HVA
  cases vb with
  | false =>
    have HP : Hid (prtR c = ([], 1)) := Lib.hid (by unfold prtR; rw [HVB.out, if_neg (by simp)])
    go_wp2
    go_ret2
    rw [HP.out]
    exact ⟨rfl, B2.out⟩
  | true =>
    have HP : Hid (prtR c = (cndT c, 0)) := Lib.hid (by unfold prtR; rw [HVB.out, if_pos rfl])
    have HLE := Lib.hid (len_le c HVB.out)
    have HOK := Lib.hid (okC_iff.1 HVB.out).2.1
    have HOZ := Lib.hid (otT_zero c)
    have HOA := Lib.hid (otT_all c)
    have HOS := Lib.hid (otT_step c)
    have HOL := Lib.hid (otT_le c HVB.out)
    have hcl := HLE.out.1
    obtain ⟨OT, hOT⟩ : ∃ OT, otT c = OT := ⟨_, rfl⟩
    rw [hOT] at HOZ HOA HOS HOL
    clear hOT
    go_wp2_with fail
    go_loopw [4, 5] (fun v4 v5 wr => ∃ k : Nat, k ≤ c.length ∧ v5 = .int .i64 k ∧ v4 = .string (ofL (OT k)) ∧ Below w2.heap.size w2 wr) (fun _ v5 _ => c.length - (intOf v5).toNat)
    case atStart => exact ⟨0, Nat.zero_le _, rfl, by rw [HOZ.out]; rfl, Below.refl _ _⟩
    case round =>
      obtain ⟨k, hk, rfl, rfl, hb⟩ := hrel
      have HB := Lib.hid hb
      have zr := hb.size
      clear hb
      by_cases hlt : k < c.length
      · obtain ⟨bk, off, y1, y2, rfl, h0, h4⟩ := (V2.out.below HB.out).at_ k hlt
        have h9 : (k : Int) < (c.length : Int) := by omega
        have HS := Lib.hid (HOS.out k hlt)
        have hol := HOL.out k
        have hml := HLE.out.2 c[k] (List.getElem_mem hlt)
        have HMO := Lib.hid (HOK.out c[k] (List.getElem_mem hlt))
        obtain ⟨m, hm⟩ : ∃ m, c[k] = m := ⟨_, rfl⟩
        rw [hm] at h0 h4 HS hml HMO
        have H4 := Lib.hid h4
        clear hm h4
        obtain ⟨S0, hS0⟩ : ∃ S0, OT k = S0 := ⟨_, rfl⟩
        obtain ⟨S1, hS1⟩ : ∃ S1, S0 ++ gap [32, 111, 114, 32] k = S1 := ⟨_, rfl⟩
        rw [hS0, hS1] at HS
        rw [hS0] at hol ⊢
        have HS1 := Lib.hid hS1
        have hl1 : S1.length ≤ 2000000 := by
          rw [← hS1, List.length_append]
          unfold gap
          split <;> simp <;> omega
        have H0 := Lib.hid h0
        clear hS0 hS1
        go_upto_if 17 with fail
        go_cut [4] from 16 to 19 (fun v4 wx => v4 = .string (ofL S1) ∧ wx = wr)
        case first =>
          by_cases hk0 : k = 0
          · subst hk0
            have HE : Hid (S0 = S1) := Lib.hid (by rw [← HS1.out]; exact (List.append_nil _).symm)
            clear hol hl1
            go_wp2_with fail
            go_meet
            exact ⟨by rw [HE.out], rfl⟩
          · have t0 : (0 : Int) < (k : Int) := by omega
            have p1 : ∀ wx, (Op.stringOp .add (ofL S0) ⟨#[32, 111, 114, 32]⟩).run Tryz.prog wx = .ok (.string (ofL S1)) wx := fun wx => str_add (y := [32, 111, 114, 32]) (by simp; omega) (by rw [← HS1.out, gap_pos _ hk0]) wx
            clear hol hl1 hk0
            go_wp2_with fail
            go_meet
            exact ⟨rfl, rfl⟩
        case rest =>
          obtain ⟨rfl, hwc⟩ := hcut
          obtain rfl := hwc.symm
          have HIZ := Lib.hid (inT_zero S1 m)
          have HIA := Lib.hid (inT_all S1 m)
          have HIS := Lib.hid (inT_step S1 m)
          have HIL := Lib.hid (inT_le S1 m HMO.out hml hl1)
          obtain ⟨IT, hIT⟩ : ∃ IT, inT S1 m = IT := ⟨_, rfl⟩
          rw [hIT] at HIZ HIA HIS HIL
          clear hIT hol hl1
          go_wp2_with fail
          go_loopw [4, 6] (fun v4 v6 wz => ∃ j : Nat, j ≤ m.length ∧ v6 = .int .i64 j ∧ v4 = .string (ofL (IT j)) ∧ Below wr.heap.size wr wz) (fun _ v6 _ => m.length - (intOf v6).toNat)
          case atStart => exact ⟨0, Nat.zero_le _, rfl, by rw [HIZ.out], Below.refl _ _⟩
          case round =>
            rename World => wz
            obtain ⟨j, hj, rfl, rfl, hbz⟩ := hrel
            have HBZ := Lib.hid hbz
            have h0z := cell_later H0.out hbz
            clear hbz h0
            by_cases hjt : j < m.length
            · obtain ⟨bm, om, q1, q2, rfl, g0, g1, g2, g3, g4⟩ := (H4.out.below HBZ.out).at_ j hjt
              have h8 : (j : Int) < (m.length : Int) := by omega
              have G4 := Lib.hid g4
              have HRO := Lib.hid ((okL_iff.1 HMO.out).2 m[j] (List.getElem_mem hjt))
              have HJS := Lib.hid (HIS.out j hjt)
              have hi1 := HIL.out j
              have hi2 := relT_le m[j] (okR_iff.1 HRO.out).few
              clear g4
              obtain ⟨r, hr⟩ : ∃ r, m[j] = r := ⟨_, rfl⟩
              rw [hr] at g0 g1 g2 g3 G4 HRO HJS hi2
              clear hr
              obtain ⟨T0, hT0⟩ : ∃ T0, IT j = T0 := ⟨_, rfl⟩
              obtain ⟨T1, hT1⟩ : ∃ T1, T0 ++ gap [32, 97, 110, 100, 32] j = T1 := ⟨_, rfl⟩
              obtain ⟨T2, hT2⟩ : ∃ T2, IT (j + 1) = T2 := ⟨_, rfl⟩
              have HT2 := Lib.hid hT2
              have HT1 := Lib.hid hT1
              rw [hT0, hT1, hT2] at HJS
              rw [hT0] at hi1 ⊢
              have hi3 : T1.length ≤ 3000010 := by
                rw [← hT1, List.length_append]
                unfold gap
                split <;> simp <;> omega
              clear hT0 hT1 hT2
              go_upto_if 30 with fail
              go_cut [4] from 29 to 32 (fun v4 wx => v4 = .string (ofL T1) ∧ wx = wz)
              case first =>
                by_cases hj0 : j = 0
                · subst hj0
                  have HE : Hid (T0 = T1) := Lib.hid (by rw [← HT1.out]; exact (List.append_nil _).symm)
                  clear hi1 hi2 hi3
                  go_wp2_with fail
                  go_meet
                  exact ⟨by rw [HE.out], rfl⟩
                · have t0 : (0 : Int) < (j : Int) := by omega
                  have p1 : ∀ wx, (Op.stringOp .add (ofL T0) ⟨#[32, 97, 110, 100, 32]⟩).run Tryz.prog wx = .ok (.string (ofL T1)) wx := fun wx => str_add (y := [32, 97, 110, 100, 32]) (by simp; omega) (by rw [← HT1.out, gap_pos _ hj0]) wx
                  clear hi1 hi2 hi3 hj0
                  go_wp2_with fail
                  go_meet
                  exact ⟨rfl, rfl⟩
              case rest =>
                obtain ⟨rfl, hwc⟩ := hcut
                obtain rfl := hwc.symm
                have q9 : ∀ wx, (Op.stringOp .add (ofL T1) (ofL (relT r))).run Tryz.prog wx = .ok (.string (ofL T2)) wx := fun wx => str_add (by omega) HJS.out wx
                clear hi1 hi2 hi3
                go_wp2_with fail
                refine (refRel_any r q1 q2 HRO.out _ G4.out).mono ?_
                rintro e w3 ⟨rfl, b3⟩
                have B3 := Lib.hid (st HBZ.out b3 HBZ.out.size)
                clear b3
                go_wp2
                go_roundw
                case measure => simp [intOf]; omega
                case rel => exact ⟨j + 1, by omega, by go_num, by rw [HT2.out], B3.out⟩
            · obtain rfl : j = m.length := by omega
              have h3 : ¬ (m.length : Int) < (m.length : Int) := by omega
              have HX : Hid (IT m.length = OT (k + 1)) := Lib.hid (by rw [HIA.out, HS.out])
              rw [HX.out]
              go_wp2
              go_roundw
              case measure => simp [intOf]; omega
              case rel => exact ⟨k + 1, by omega, by go_num, rfl, st HB.out HBZ.out zr⟩
      · obtain rfl : k = c.length := by omega
        have h3 : ¬ (c.length : Int) < (c.length : Int) := by omega
        rw [HOA.out]
        go_wp2
        go_ret2
        rw [HP.out]
        exact ⟨rfl, st B2.out HB.out B2.out.size⟩
end Go.Proofs.YtpmmchppfmojhaaGreatDoor


/- The law ConditionHolds. -/
namespace Go.Proofs.YtpmmchppfmojhaaGreatDoor
open Go.RowKit
set_option linter.unusedVariables false

theorem cnt_le (m : Nat) : ∀ c : Cnd, (∀ l ∈ c, l.length ≤ m) → cntOf8 c ≤ c.length * m
  | [], _ => by simp [cnt_nil]
  | l :: c, h => by
    have h1 := h l (by simp)
    have h2 := cnt_le m c (fun x hx => h x (by simp [hx]))
    rw [cnt_cons, List.length_cons, Nat.add_mul]
    omega
theorem cnt_few {c : Cnd} (h : c.length ≤ 30) (hl : ∀ l ∈ c, l.length ≤ 140737488355328) : cntOf8 c ≤ 4611686018427387904 := by
  have h1 := cnt_le _ c hl
  have h2 : c.length * 140737488355328 ≤ 30 * 140737488355328 := Nat.mul_le_mul h (Nat.le_refl _)
  omega
end Go.Proofs.YtpmmchppfmojhaaGreatDoor


