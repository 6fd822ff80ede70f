/- Of condition: the texts of numbers and spans; joining. Of condition: joining relations and lists of relations. Of condition: the texts of relations, lists, conditions; Print. Of condition: the texts of lists and conditions; Print. Of the laws of condition: awake. -/
import Derived.Test.YtnabklhkalnpiaaGreatDoorCzk
import Derived.Test.YtnabklhkalnpiaaGreatDoorCzl
import Derived.Lib.AppendIntMem
import Derived.Lib.SmallJoins
namespace Go.Proofs.YtnabklhkalnpiaaGreatDoor
open Go.RowKit
set_option linter.unusedVariables false

theorem gPow : Tryz.prog.globalNamed "internal/strconv.uint64pow10" = some 3 := by kernel_rfl
theorem Env.later {w w' : World} (h : Env w) (hb : Below w.heap.size w w') : Env w' := ⟨Joins.tab_stays gPow h.pow hb (Nat.le_refl _), (h.cells hb).1, (h.cells hb).2⟩
theorem dtx_dec : ∀ n : Fin 100, Lib.decDigits n.val = dtx n.val := by decide +kernel
theorem itoa_any (n : Nat) (hn : n ≤ 100) (w : World) (E : Env w) : Calls Tryz.prog 75 #[.int .i64 n] w fun e w' => e = .returned (.string (ofL (dtx n))) ∧ Below w.heap.size w w' := by
  by_cases h : n < 100
  · refine (Tryz.strconv_Itoa_small n h w).mono ?_
    rintro e w' ⟨rfl, hw⟩
    rw [dtx_dec ⟨n, h⟩, hw]
    exact ⟨rfl, Below.refl _ _⟩
  · have e100 : n = 100 := by omega
    subst e100
    refine (Tryz.strconv_Itoa 100 (by decide) (by decide) w E.pow).mono ?_
    rintro e w' ⟨rfl, k, os, rfl⟩
    refine ⟨?_, Lib.below_grow w.heap.size w (Nat.le_refl _) k os⟩
    have : Lib.itoa 100 = dtx 100 := by decide +kernel
    rw [this]
    rfl
theorem str_add {P : Program} {x y z : Str} (h : x.length + y.length ≤ 9223372036854775807) (hz : x ++ y = z) (wx : World) : (Op.stringOp .add (ofL x) (ofL y)).run P wx = .ok (.string (ofL z)) wx := by
  have h2 := run_string_add_sum (P := P) (w := wx) (ofL x) (ofL y) (by rw [ofL_size, ofL_size]; exact h)
  rw [add_two, hz] at h2
  exact h2
theorem join_eq (sep : Str) : ∀ l : List Str, Lib.join l sep = jn sep l
  | [] => rfl
  | [x] => by
    show sep.intercalate [x] = x
    simp [List.intercalate]
  | x :: y :: l => by
    have ih := join_eq sep (y :: l)
    have e : Lib.join (x :: y :: l) sep = x ++ (sep ++ Lib.join (y :: l) sep) := by
      show sep.intercalate (x :: y :: l) = x ++ (sep ++ sep.intercalate (y :: l))
      simp [List.intercalate]
    rw [e, ih, jn_cons sep x (by simp)]
set_option maxRecDepth 1000000 in
set_option maxHeartbeats 4000000 in
theorem spanText_any (o : Int) (s : Int × Int) (hs : okSp o s = true) (w : World) (E : Env w) :
    Calls Tryz.prog 77 #[.agg #[.int .i64 s.1, .int .i64 s.2]] w fun e w' => e = .returned (.string (ofL (spT s))) ∧ Below w.heap.size w w' := by
  obtain ⟨a0, ab, b1⟩ := okSp_le hs
  obtain ⟨a, b⟩ := s
  dsimp only at a0 ab b1
  obtain ⟨A, rfl⟩ : ∃ A : Nat, a = (A : Int) := ⟨a.toNat, by omega⟩
  obtain ⟨B, rfl⟩ : ∃ B : Nat, b = (B : Int) := ⟨b.toNat, by omega⟩
  have BA := (Below.refl w.heap.size w).alloc (Nat.le_refl _) (.cells #[.int .i64 A, .int .i64 B] 42)
  have E1 := Lib.hid (E.later BA)
  have K1 : Hid (Blk w.heap.size 42 #[.int .i64 A, .int .i64 B] (w.alloc (.cells #[.int .i64 A, .int .i64 B] 42))) := Lib.hid (heap_alloc_new w _)
  obtain ⟨g, hg⟩ : ∃ g, w.heap.size = g := ⟨_, rfl⟩
  rw [hg] at BA K1
  have HBA := Lib.hid BA
  have HG := Lib.hid hg
  clear BA hs E
  go_enter Tryz.func77, Tryz.ntmps77
  go_wp2_with fail
  refine (itoa_any A (by omega) _ E1.out).mono ?_
  rintro e w2 ⟨rfl, b2⟩
  have K2 : Hid (Blk g 42 #[.int .i64 A, .int .i64 B] w2) := Lib.hid (Blk.below K1.out b2)
  have E2 := Lib.hid (E1.out.later b2)
  have c0 : w2.cell? ⟨g, 0, none⟩ = some (.int .i64 A) := K2.out.cell 0
  have c1 : w2.cell? ⟨g, 1, none⟩ = some (.int .i64 B) := K2.out.cell 1
  have L2 : Hid (Below w.heap.size w w2) := Lib.hid (by rw [HG.out]; exact st HBA.out b2 (by rw [← HG.out]; exact (Below.refl w.heap.size w).alloc (Nat.le_refl _) _ |>.size))
  have hla := dtx_len A
  have hlb := dtx_len B
  clear b2
  by_cases e : (B : Int) = (A : Int)
  · have e1 : ((B : Int) != (A : Int)) = false := by rw [bne_eq_false_iff_eq]; exact e
    have HT : Hid (spT ((A : Int), (B : Int)) = dtx A) := Lib.hid (by unfold spT; dsimp only; rw [if_pos e, List.append_nil, Int.toNat_natCast])
    clear e hla hlb
    go_wp2
    go_ret
    rw [HT.out]
    exact ⟨rfl, L2.out⟩
  · have e1 : ((B : Int) != (A : Int)) = true := by rw [bne_iff_ne]; exact e
    have HT : Hid (spT ((A : Int), (B : Int)) = dtx A ++ ([46, 46] ++ dtx B)) := Lib.hid (by unfold spT; dsimp only; rw [if_neg e, Int.toNat_natCast, Int.toNat_natCast])
    obtain ⟨S1, hS1⟩ : ∃ S1, [46, 46] ++ dtx B = S1 := ⟨_, rfl⟩
    obtain ⟨S2, hS2⟩ : ∃ S2, dtx A ++ S1 = S2 := ⟨_, rfl⟩
    have q1 : ∀ wx, (Op.stringOp .add ⟨#[46, 46]⟩ (ofL (dtx B))).run Tryz.prog wx = .ok (.string (ofL S1)) wx := fun wx => str_add (x := [46, 46]) (by simp; omega) hS1 wx
    have q2 : ∀ wx, (Op.stringOp .add (ofL (dtx A)) (ofL S1)).run Tryz.prog wx = .ok (.string (ofL S2)) wx := fun wx => str_add (by rw [← hS1]; simp; omega) hS2 wx
    have HT2 : Hid (spT ((A : Int), (B : Int)) = S2) := Lib.hid (by rw [HT.out, ← hS2, ← hS1])
    clear e hla hlb hS1 hS2 HT
    go_wp2_with fail
    refine (itoa_any B (by omega) _ E2.out).mono ?_
    rintro e w3 ⟨rfl, b3⟩
    have L3 := Lib.hid (st L2.out b3 L2.out.size)
    clear b3
    go_wp2
    go_ret
    rw [HT2.out]
    exact ⟨rfl, L3.out⟩
/-! ### joining -/
theorem ofL_data (x : Str) : (ofL x).data.toList = x := rfl
theorem join_any (v : Value) (l : List Str) (sep : Str) (w : World) (h : Rd 1 encT w v l) (hs : sep.length ≤ 10) (hl : l.length ≤ 1000) (hx : ∀ x ∈ l, x.length ≤ 100000) :
    Calls Tryz.prog 46 #[v, .string (ofL sep)] w fun e w' => e = .returned (.string (ofL (jn sep l))) ∧ Below w.heap.size w w' := by
  obtain ⟨a, c, rfl, hc1, hc2⟩ := h.slice
  by_cases h0 : l = []
  · subst h0
    refine (Tryz.strings_Join_none a c (ofL sep) w).mono ?_
    rintro e w' ⟨rfl, hw⟩
    rw [hw]
    exact ⟨rfl, Below.refl _ _⟩
  · obtain ⟨b, off, ha, hlt, hcell⟩ := h.form.choose_spec.choose_spec.2.2.2 h0
    have ea : a = some ⟨b, off, none⟩ := by
      have e0 := h.form.choose_spec.choose_spec.1
      injection e0 with e1 _ _
      rw [e1]; exact ha
    subst ea
    have hcs : ∀ (j : Nat) (x : ByteArray), (l.map ofL)[j]? = some x → w.cell? ⟨b, off + j, none⟩ = some (.string x) := fun j x hj => by
      rw [List.getElem?_map] at hj
      obtain ⟨y, hy, rfl⟩ := Option.map_eq_some_iff.1 hj
      have := hcell j y hy 0 (.string (ofL y)) rfl
      rw [Nat.mul_one, Nat.add_zero] at this
      exact this
    have em : ((l.map ofL).map (·.data.toList)) = l := by
      rw [List.map_map]
      exact List.map_id' _ |>.trans rfl
    have h4 := jn_len sep 100000 l hx
    have hjl : (Lib.join ((l.map ofL).map (·.data.toList)) (ofL sep).data.toList).length ≤ 140737488355328 := by
      rw [em, ofL_data, join_eq]
      have h5 : l.length * (100000 + sep.length) ≤ 1000 * 100010 := Nat.mul_le_mul hl (by omega)
      omega
    have := Tryz.strings_Join b off c (l.map ofL) (ofL sep) w hcs hlt (by rw [List.length_map]; omega) (by rw [List.length_map]; exact hc1) hjl
    rw [List.length_map] at this
    refine this.mono ?_
    rintro e w' ⟨rfl, hb⟩
    rw [em, ofL_data, join_eq]
    exact ⟨rfl, hb⟩
set_option maxRecDepth 1000000 in
set_option maxHeartbeats 4000000 in
theorem joinSpan_any (v : Value) (l : List (Int × Int)) (tx : Int × Int → Str) (sep : Str) (g : Nat) (lb : Array Value) (eg : ∀ args w, (callFunc g args).run Tryz.prog w = .ok (.enter g args) w) (w : World) (hv : Rd 2 encP w v l) (hl : l.length ≤ 1000) (hs : sep.length ≤ 10) (hx : ∀ x ∈ l, (tx x).length ≤ 100000)
    (hF : ∀ (W : World) (s : Int × Int), s ∈ l → Below w.heap.size w W → Calls Tryz.prog g (#[.agg #[.int .i64 s.1, .int .i64 s.2]] ++ lb) W fun e w' => e = .returned (.string (ofL (tx s))) ∧ Below W.heap.size W w') :
    Calls Tryz.prog 76 #[v, .string (ofL sep), .func (.func g) #[] lb] w fun e w' => e = .returned (.string (ofL (jn sep (l.map tx)))) ∧ Below w.heap.size w w' := by
  obtain ⟨a, c, rfl, hc1, hc2⟩ := hv.slice
  have HU := Lib.hid hv
  have HF := Lib.hid hF
  have HX := Lib.hid hx
  obtain ⟨iT, hiT, hzT, hkT, hbT⟩ := info_parts Tryz.infoT
  clear hv hF hx
  go_enter Tryz.func76, Tryz.ntmps76
  go_wp2
  go_loopw [7, 12] (fun v7 v wr => ∃ ts : List Str, ts.length ≤ l.length ∧ v = .int .i64 (ts.length : Nat) ∧ Own1 1 encT wr w.heap.size 9 v7 ts ∧ ts = (l.take ts.length).map tx ∧ Below w.heap.size w wr) (fun _ v _ => l.length - (intOf v).toNat)
  case atStart => exact ⟨[], Nat.zero_le _, rfl, own1_nil _ _ _, rfl, Below.refl _ _⟩
  case round =>
    obtain ⟨ts, hk, rfl, own, hts, hb⟩ := hrel
    obtain ⟨va, vc, hva⟩ := own.slice
    subst hva
    have OW := Lib.hid own
    have HB := Lib.hid hb
    have HTS := Lib.hid hts
    have zr := hb.size
    clear own hb hts
    obtain ⟨k, hkk⟩ : ∃ k, ts.length = k := ⟨_, rfl⟩
    have HK := Lib.hid hkk
    rw [hkk] at OW HTS hk ⊢
    clear hkk
    by_cases hlt : k < l.length
    · obtain ⟨bk, off, rfl, h0, h1⟩ := (HU.out.below HB.out).span k hlt
      have h9 : (k : Int) < (l.length : Int) := by omega
      have zl : Hid (ts.length ≤ 1000000000) := Lib.hid (by rw [HK.out]; omega)
      have hlm : l[k] ∈ l := List.getElem_mem hlt
      have HNX : Hid (ts ++ [tx l[k]] = (l.take (k + 1)).map tx) := Lib.hid (by
        rw [List.take_succ_eq_append_getElem hlt, List.map_append, ← HTS.out]
        rfl)
      obtain ⟨s, hs2⟩ : ∃ s, l[k] = s := ⟨_, rfl⟩
      obtain ⟨sx, sy⟩ := s
      rw [hs2] at h0 h1 hlm HNX
      dsimp only at h0 h1
      obtain ⟨X, hX⟩ : ∃ X, tx (sx, sy) = X := ⟨_, rfl⟩
      have BA := HB.out.alloc zr (.cells #[.int .i64 sx, .int .i64 sy] 42)
      have HC := Lib.hid (HF.out _ (sx, sy) hlm BA)
      rw [hX] at HC HNX
      have HBA := Lib.hid BA
      have OA := Lib.hid (own_below OW.out ((Below.refl wr.heap.size wr).alloc (Nat.le_refl _) (.cells #[.int .i64 sx, .int .i64 sy] 42)))
      have HAK : Hid (wr.heap.size ≤ (wr.alloc (.cells #[.int .i64 sx, .int .i64 sy] 42)).heap.size) := Lib.hid ((Below.refl wr.heap.size wr).alloc (Nat.le_refl _) (.cells #[.int .i64 sx, .int .i64 sy] 42)).size
      clear BA hs2 hlm hX
      go_wp2_with fail
      refine HC.out.mono ?_
      rintro e w2 ⟨rfl, b2⟩
      have O2 : Hid (Own1 1 encT w2 w.heap.size 9 (.slice va k vc) ts) := Lib.hid (own_below OA.out b2)
      have B2 := Lib.hid (st HBA.out b2 (Nat.le_trans zr HAK.out))
      have hz : w.heap.size ≤ w2.heap.size := B2.out.size
      clear b2 HC OA HAK HBA
      go_wp2_with (first | (at_builtin; refine wpList_append_at (w0 := w2) (x := X) (N := w2.heap.size) rfl rfl _ _ 66 rfl w.heap.size iT _ 16 Tryz.underlying66 hiT hzT hkT hbT (by omega) rfl (by omega) encT_len encT_one _ ts rfl rfl O2.out rfl zl.out hz ?_; intro v9 w9 y1 y2 y3) | go_in)
      obtain ⟨a9, c9, hv9⟩ := y1.slice
      rw [List.length_append, List.length_singleton, HK.out] at hv9
      subst hv9
      have N1 := Lib.hid y1
      have B9 := Lib.hid (B2.out.trans y2)
      clear y1 y2 y3
      go_wp2
      go_roundw
      case measure => simp [intOf]; omega
      case rel => exact ⟨ts ++ [X], by rw [List.length_append, List.length_singleton, HK.out]; omega, by rw [List.length_append, List.length_singleton, HK.out]; go_num, N1.out, by rw [List.length_append, List.length_singleton, HK.out]; exact HNX.out, B9.out⟩
    · have hkl : k = l.length := by omega
      have HALL : Hid (ts = l.map tx) := Lib.hid (by rw [HTS.out, hkl, List.take_length])
      have HJ : Hid (∀ x ∈ ts, x.length ≤ 100000) := Lib.hid (fun x hx => by
        rw [HALL.out] at hx
        obtain ⟨y, hy, rfl⟩ := List.mem_map.1 hx
        exact HX.out y hy)
      have h9 : ¬ (k : Int) < (l.length : Int) := by omega
      clear hkl
      go_wp2_with fail
      refine (join_any _ ts sep _ (OW.out.rd encT_len) hs (by rw [HK.out]; omega) HJ.out).mono ?_
      rintro e w2 ⟨rfl, b2⟩
      have B2 := Lib.hid (st HB.out b2 zr)
      clear b2
      go_wp2
      go_ret
      exact ⟨by rw [← HALL.out]; rfl, B2.out⟩
end Go.Proofs.YtnabklhkalnpiaaGreatDoor

namespace Go.Proofs.YtnabklhkalnpiaaGreatDoor
open Go.RowKit
set_option linter.unusedVariables false

set_option maxRecDepth 1000000 in
set_option maxHeartbeats 4000000 in
theorem joinRel_any (v : Value) (l : List Rel) (tx : Rel → Str) (sep : Str) (g : Nat) (lb : Array Value) (eg : ∀ args w, (callFunc g args).run Tryz.prog w = .ok (.enter g args) w) (w : World) (hv : RdRels w v l) (hl : l.length ≤ 1000) (hs : sep.length ≤ 10) (hx : ∀ x ∈ l, (tx x).length ≤ 100000)
    (hF : ∀ (W : World) (s : Rel) (x1 : Option Addr) (x2 : Nat), s ∈ l → Below w.heap.size w W → Rd 2 encP W (.slice x1 s.sp.length x2) s.sp → Calls Tryz.prog g (#[.agg #[.int .i64 s.op, .int .i64 s.md, .bool s.nt, .slice x1 s.sp.length x2]] ++ lb) W fun e w' => e = .returned (.string (ofL (tx s))) ∧ Below W.heap.size W w') :
    Calls Tryz.prog 47 #[v, .string (ofL sep), .func (.func g) #[] lb] w fun e w' => e = .returned (.string (ofL (jn sep (l.map tx)))) ∧ Below w.heap.size w w' := by
  obtain ⟨a, c, rfl, hc1, hc2⟩ := hv.slice
  have HU := Lib.hid hv
  have HF := Lib.hid hF
  have HX := Lib.hid hx
  obtain ⟨iT, hiT, hzT, hkT, hbT⟩ := info_parts Tryz.infoT
  clear hv hF hx
  go_enter Tryz.func47, Tryz.ntmps47
  go_wp2
  go_loopw [7, 12] (fun v7 v wr => ∃ ts : List Str, ts.length ≤ l.length ∧ v = .int .i64 (ts.length : Nat) ∧ Own1 1 encT wr w.heap.size 9 v7 ts ∧ ts = (l.take ts.length).map tx ∧ Below w.heap.size w wr) (fun _ v _ => l.length - (intOf v).toNat)
  case atStart => exact ⟨[], Nat.zero_le _, rfl, own1_nil _ _ _, rfl, Below.refl _ _⟩
  case round =>
    obtain ⟨ts, hk, rfl, own, hts, hb⟩ := hrel
    obtain ⟨va, vc, hva⟩ := own.slice
    subst hva
    have OW := Lib.hid own
    have HB := Lib.hid hb
    have HTS := Lib.hid hts
    have zr := hb.size
    clear own hb hts
    obtain ⟨k, hkk⟩ : ∃ k, ts.length = k := ⟨_, rfl⟩
    have HK := Lib.hid hkk
    rw [hkk] at OW HTS hk ⊢
    clear hkk
    by_cases hlt : k < l.length
    · obtain ⟨bk, off, x1, x2, rfl, h0, h1, h2, h3, h4⟩ := (HU.out.below HB.out).at_ k hlt
      have H4 := Lib.hid h4
      clear h4
      have h9 : (k : Int) < (l.length : Int) := by omega
      have zl : Hid (ts.length ≤ 1000000000) := Lib.hid (by rw [HK.out]; omega)
      have hlm : l[k] ∈ l := List.getElem_mem hlt
      have HNX : Hid (ts ++ [tx l[k]] = (l.take (k + 1)).map tx) := Lib.hid (by
        rw [List.take_succ_eq_append_getElem hlt, List.map_append, ← HTS.out]
        rfl)
      obtain ⟨s, hs2⟩ : ∃ s, l[k] = s := ⟨_, rfl⟩
      rw [hs2] at h0 h1 h2 h3 hlm HNX H4
      obtain ⟨sn, hsn⟩ : ∃ sn, s.sp.length = sn := ⟨_, rfl⟩
      rw [hsn] at h3 H4
      obtain ⟨X, hX⟩ : ∃ X, tx s = X := ⟨_, rfl⟩
      have BA := HB.out.alloc zr (.cells #[.int .i64 s.op, .int .i64 s.md, .bool s.nt, .slice x1 sn x2] 38)
      have HC0 := HF.out _ s x1 x2 hlm BA (by rw [hsn]; exact H4.out.below ((Below.refl wr.heap.size wr).alloc (Nat.le_refl _) _))
      rw [hsn, hX] at HC0
      have HC := Lib.hid HC0
      rw [hX] at HNX
      have HBA := Lib.hid BA
      have OA := Lib.hid (own_below OW.out ((Below.refl wr.heap.size wr).alloc (Nat.le_refl _) (.cells #[.int .i64 s.op, .int .i64 s.md, .bool s.nt, .slice x1 sn x2] 38)))
      have HAK : Hid (wr.heap.size ≤ (wr.alloc (.cells #[.int .i64 s.op, .int .i64 s.md, .bool s.nt, .slice x1 sn x2] 38)).heap.size) := Lib.hid ((Below.refl wr.heap.size wr).alloc (Nat.le_refl _) (.cells #[.int .i64 s.op, .int .i64 s.md, .bool s.nt, .slice x1 sn x2] 38)).size
      clear BA hs2 hlm hX HC0 hsn
      go_wp2_with fail
      refine HC.out.mono ?_
      rintro e w2 ⟨rfl, b2⟩
      have O2 : Hid (Own1 1 encT w2 w.heap.size 9 (.slice va k vc) ts) := Lib.hid (own_below OA.out b2)
      have B2 := Lib.hid (st HBA.out b2 (Nat.le_trans zr HAK.out))
      have hz : w.heap.size ≤ w2.heap.size := B2.out.size
      clear b2 HC OA HAK HBA
      go_wp2_with (first | (at_builtin; refine wpList_append_at (w0 := w2) (x := X) (N := w2.heap.size) rfl rfl _ _ 66 rfl w.heap.size iT _ 16 Tryz.underlying66 hiT hzT hkT hbT (by omega) rfl (by omega) encT_len encT_one _ ts rfl rfl O2.out rfl zl.out hz ?_; intro v9 w9 y1 y2 y3) | go_in)
      obtain ⟨a9, c9, hv9⟩ := y1.slice
      rw [List.length_append, List.length_singleton, HK.out] at hv9
      subst hv9
      have N1 := Lib.hid y1
      have B9 := Lib.hid (B2.out.trans y2)
      clear y1 y2 y3
      go_wp2
      go_roundw
      case measure => simp [intOf]; omega
      case rel => exact ⟨ts ++ [X], by rw [List.length_append, List.length_singleton, HK.out]; omega, by rw [List.length_append, List.length_singleton, HK.out]; go_num, N1.out, by rw [List.length_append, List.length_singleton, HK.out]; exact HNX.out, B9.out⟩
    · have hkl : k = l.length := by omega
      have HALL : Hid (ts = l.map tx) := Lib.hid (by rw [HTS.out, hkl, List.take_length])
      have HJ : Hid (∀ x ∈ ts, x.length ≤ 100000) := Lib.hid (fun x hx => by
        rw [HALL.out] at hx
        obtain ⟨y, hy, rfl⟩ := List.mem_map.1 hx
        exact HX.out y hy)
      have h9 : ¬ (k : Int) < (l.length : Int) := by omega
      clear hkl
      go_wp2_with fail
      refine (join_any _ ts sep _ (OW.out.rd encT_len) hs (by rw [HK.out]; omega) HJ.out).mono ?_
      rintro e w2 ⟨rfl, b2⟩
      have B2 := Lib.hid (st HB.out b2 zr)
      clear b2
      go_wp2
      go_ret
      exact ⟨by rw [← HALL.out]; rfl, B2.out⟩
set_option maxRecDepth 1000000 in
set_option maxHeartbeats 4000000 in
theorem joinLst_any (v : Value) (l : Cnd) (tx : List Rel → Str) (sep : Str) (g : Nat) (lb : Array Value) (eg : ∀ args w, (callFunc g args).run Tryz.prog w = .ok (.enter g args) w) (w : World) (hv : RdC w v l) (hl : l.length ≤ 1000) (hs : sep.length ≤ 10) (hx : ∀ x ∈ l, (tx x).length ≤ 100000)
    (hF : ∀ (W : World) (s : List Rel) (x1 : Option Addr) (x2 : Nat), s ∈ l → Below w.heap.size w W → RdRels W (.slice x1 s.length x2) s → Calls Tryz.prog g (#[.slice x1 s.length x2] ++ lb) W fun e w' => e = .returned (.string (ofL (tx s))) ∧ Below W.heap.size W w') :
    Calls Tryz.prog 24 #[v, .string (ofL sep), .func (.func g) #[] lb] w fun e w' => e = .returned (.string (ofL (jn sep (l.map tx)))) ∧ Below w.heap.size w w' := by
  obtain ⟨a, c, rfl, hc1, hc2⟩ := hv.slice
  have HU := Lib.hid hv
  have HF := Lib.hid hF
  have HX := Lib.hid hx
  obtain ⟨iT, hiT, hzT, hkT, hbT⟩ := info_parts Tryz.infoT
  clear hv hF hx
  go_enter Tryz.func24, Tryz.ntmps24
  go_wp2
  go_loopw [7, 12] (fun v7 v wr => ∃ ts : List Str, ts.length ≤ l.length ∧ v = .int .i64 (ts.length : Nat) ∧ Own1 1 encT wr w.heap.size 9 v7 ts ∧ ts = (l.take ts.length).map tx ∧ Below w.heap.size w wr) (fun _ v _ => l.length - (intOf v).toNat)
  case atStart => exact ⟨[], Nat.zero_le _, rfl, own1_nil _ _ _, rfl, Below.refl _ _⟩
  case round =>
    obtain ⟨ts, hk, rfl, own, hts, hb⟩ := hrel
    obtain ⟨va, vc, hva⟩ := own.slice
    subst hva
    have OW := Lib.hid own
    have HB := Lib.hid hb
    have HTS := Lib.hid hts
    have zr := hb.size
    clear own hb hts
    obtain ⟨k, hkk⟩ : ∃ k, ts.length = k := ⟨_, rfl⟩
    have HK := Lib.hid hkk
    rw [hkk] at OW HTS hk ⊢
    clear hkk
    by_cases hlt : k < l.length
    · obtain ⟨bk, off, x1, x2, rfl, h0, h4⟩ := (HU.out.below HB.out).at_ k hlt
      have H4 := Lib.hid h4
      clear h4
      have h9 : (k : Int) < (l.length : Int) := by omega
      have zl : Hid (ts.length ≤ 1000000000) := Lib.hid (by rw [HK.out]; omega)
      have hlm : l[k] ∈ l := List.getElem_mem hlt
      have HNX : Hid (ts ++ [tx l[k]] = (l.take (k + 1)).map tx) := Lib.hid (by
        rw [List.take_succ_eq_append_getElem hlt, List.map_append, ← HTS.out]
        rfl)
      obtain ⟨s, hs2⟩ : ∃ s, l[k] = s := ⟨_, rfl⟩
      rw [hs2] at h0 hlm HNX H4
      obtain ⟨sn, hsn⟩ : ∃ sn, s.length = sn := ⟨_, rfl⟩
      rw [hsn] at h0 H4
      obtain ⟨X, hX⟩ : ∃ X, tx s = X := ⟨_, rfl⟩
      have HC0 := HF.out wr s x1 x2 hlm HB.out (by rw [hsn]; exact H4.out)
      rw [hsn, hX] at HC0
      have HC := Lib.hid HC0
      rw [hX] at HNX
      clear hs2 hlm hX HC0 hsn
      go_wp2_with fail
      refine HC.out.mono ?_
      rintro e w2 ⟨rfl, b2⟩
      have O2 : Hid (Own1 1 encT w2 w.heap.size 9 (.slice va k vc) ts) := Lib.hid (own_below OW.out b2)
      have B2 := Lib.hid (st HB.out b2 zr)
      have hz : w.heap.size ≤ w2.heap.size := B2.out.size
      clear b2 HC
      go_wp2_with (first | (at_builtin; refine wpList_append_at (w0 := w2) (x := X) (N := w2.heap.size) rfl rfl _ _ 66 rfl w.heap.size iT _ 16 Tryz.underlying66 hiT hzT hkT hbT (by omega) rfl (by omega) encT_len encT_one _ ts rfl rfl O2.out rfl zl.out hz ?_; intro v9 w9 y1 y2 y3) | go_in)
      obtain ⟨a9, c9, hv9⟩ := y1.slice
      rw [List.length_append, List.length_singleton, HK.out] at hv9
      subst hv9
      have N1 := Lib.hid y1
      have B9 := Lib.hid (B2.out.trans y2)
      clear y1 y2 y3
      go_wp2
      go_roundw
      case measure => simp [intOf]; omega
      case rel => exact ⟨ts ++ [X], by rw [List.length_append, List.length_singleton, HK.out]; omega, by rw [List.length_append, List.length_singleton, HK.out]; go_num, N1.out, by rw [List.length_append, List.length_singleton, HK.out]; exact HNX.out, B9.out⟩
    · have hkl : k = l.length := by omega
      have HALL : Hid (ts = l.map tx) := Lib.hid (by rw [HTS.out, hkl, List.take_length])
      have HJ : Hid (∀ x ∈ ts, x.length ≤ 100000) := Lib.hid (fun x hx => by
        rw [HALL.out] at hx
        obtain ⟨y, hy, rfl⟩ := List.mem_map.1 hx
        exact HX.out y hy)
      have h9 : ¬ (k : Int) < (l.length : Int) := by omega
      clear hkl
      go_wp2_with fail
      refine (join_any _ ts sep _ (OW.out.rd encT_len) hs (by rw [HK.out]; omega) HJ.out).mono ?_
      rintro e w2 ⟨rfl, b2⟩
      have B2 := Lib.hid (st HB.out b2 zr)
      clear b2
      go_wp2
      go_ret
      exact ⟨by rw [← HALL.out]; rfl, B2.out⟩
end Go.Proofs.YtnabklhkalnpiaaGreatDoor

namespace Go.Proofs.YtnabklhkalnpiaaGreatDoor
open Go.RowKit
set_option linter.unusedVariables false

theorem spsT_len (l : List (Int × Int)) (h : l.length ≤ 4) : (spsT l).length ≤ 36 := by
  unfold spsT
  have h1 := jn_len [44] 8 (l.map spT) (fun x hx => by
    obtain ⟨y, hy, rfl⟩ := List.mem_map.1 hx
    exact spT_len y)
  rw [List.length_map] at h1
  have h2 : l.length * (8 + ([44] : Str).length) ≤ 4 * 9 := Nat.mul_le_mul h (Nat.le_refl _)
  omega
theorem letr_cut : ∀ O : Fin 7, 1 ≤ O.val → (⟨#[110, 105, 118, 119, 102, 116]⟩ : ByteArray).extract (O.val - 1) O.val = ofL [letr (O.val : Int)] := by decide +kernel
def sgT (b : Bool) : ByteArray := if b = true then ⟨#[32, 33, 61, 32]⟩ else ⟨#[32, 61, 32]⟩
theorem relT_eq (r : Rel) : relT r = (relH r ++ sgnT r.nt) ++ spsT r.sp := rfl
set_option maxRecDepth 1000000 in
set_option maxHeartbeats 4000000 in
theorem relationText_any (r : Rel) (x1 : Option Addr) (x2 : Nat) (hr : okR r = true) (w : World) (E : Env w) (hv : Rd 2 encP w (.slice x1 r.sp.length x2) r.sp) :
    Calls Tryz.prog 48 #[.agg #[.int .i64 r.op, .int .i64 r.md, .bool r.nt, .slice x1 r.sp.length x2]] w fun e w' => e = .returned (.string (ofL (relT r))) ∧ Below w.heap.size w w' := by
  have hk := okR_iff.1 hr
  have hlo := hk.lo
  have hhi := hk.hi
  obtain ⟨d0, d1⟩ := okMod_le hk.md
  have HK := Lib.hid hk
  have HSL := Lib.hid (spsT_len r.sp hk.few)
  obtain ⟨o, d, b, l⟩ := r
  dsimp only at *
  obtain ⟨D, rfl⟩ : ∃ D : Nat, d = (D : Int) := ⟨d.toNat, by omega⟩
  obtain ⟨O, rfl⟩ : ∃ O : Nat, o = (O : Int) := ⟨o.toNat, by omega⟩
  have ecut := letr_cut ⟨O, by omega⟩ (by show 1 ≤ O; omega)
  dsimp only at ecut
  obtain ⟨LT, hLT⟩ : ∃ LT, letr (O : Int) = LT := ⟨_, rfl⟩
  rw [hLT] at ecut
  obtain ⟨J, hJ⟩ : ∃ J, spsT l = J := ⟨_, rfl⟩
  have HJ := Lib.hid hJ
  rw [hJ] at HSL
  have hld := dtx_len D
  have HR : Hid (relT ⟨(O : Int), (D : Int), b, l⟩ = ((if (D : Int) = 0 then [LT] else [LT] ++ ([32, 37, 32] ++ dtx D)) ++ sgnT b) ++ J) := Lib.hid (by
    rw [relT_eq]
    dsimp only
    rw [hJ]
    unfold relH
    dsimp only
    rw [hLT, Int.toNat_natCast]
    split <;> rfl)
  clear hLT hJ
  have BA := (Below.refl w.heap.size w).alloc (Nat.le_refl _) (.cells #[.int .i64 O, .int .i64 D, .bool b, .slice x1 l.length x2] 38)
  have E1 := Lib.hid (E.later BA)
  have V1 := Lib.hid (hv.below BA)
  have K1 : Hid (Blk w.heap.size 38 #[.int .i64 O, .int .i64 D, .bool b, .slice x1 l.length x2] (w.alloc (.cells #[.int .i64 O, .int .i64 D, .bool b, .slice x1 l.length x2] 38))) := Lib.hid (heap_alloc_new w _)
  obtain ⟨g, hg⟩ : ∃ g, w.heap.size = g := ⟨_, rfl⟩
  rw [hg] at K1
  have HBA := Lib.hid BA
  have HG := Lib.hid hg
  have w1 : IntKind.i64.wrap ((O : Int) - 1) = (O : Int) - 1 := wrap_fit (by omega) (by omega)
  clear BA hk hr E hv
  by_cases hD : (D : Int) = 0
  · have e1 : ((D : Int) != 0) = false := by rw [bne_eq_false_iff_eq]; exact hD
    rw [if_pos hD] at HR
    clear hD hld
    cases b with
    | true =>
      obtain ⟨S1, hS1⟩ : ∃ S1, [LT] ++ [32, 33, 61, 32] = S1 := ⟨_, rfl⟩
      obtain ⟨S2, hS2⟩ : ∃ S2, S1 ++ J = S2 := ⟨_, rfl⟩
      have q1 : ∀ wx, (Op.stringOp .add (ofL [LT]) ⟨#[32, 33, 61, 32]⟩).run Tryz.prog wx = .ok (.string (ofL S1)) wx := fun wx => str_add (y := [32, 33, 61, 32]) (by simp) hS1 wx
      have q2 : ∀ wx, (Op.stringOp .add (ofL S1) (ofL J)).run Tryz.prog wx = .ok (.string (ofL S2)) wx := fun wx => str_add (by have := HSL.out; rw [← hS1]; simp; omega) hS2 wx
      have HR2 : Hid (relT ⟨(O : Int), (D : Int), true, l⟩ = S2) := Lib.hid (by rw [HR.out, ← hS2, ← hS1]; rfl)
      clear hS1 hS2 HR
      go_enter Tryz.func48, Tryz.ntmps48
      go_wp2_with fail
      refine (joinSpan_any _ l spT [44] 77 #[] (enters_of Tryz.func77 (by kernel_rfl) rfl) _ V1.out (by have := HK.out.few; dsimp only at this; omega) (by decide) (fun x _ => by have := spT_len x; omega) (fun W s hs hb => spanText_any (O : Int) s (HK.out.sp s hs) W (E1.out.later hb))).mono ?_
      rintro e w9 ⟨rfl, b9⟩
      rw [show jn [44] (l.map spT) = J from HJ.out]
      have B9 := Lib.hid (st HBA.out b9 HBA.out.size)
      clear b9
      go_wp2
      go_ret
      rw [HR2.out]
      exact ⟨rfl, B9.out⟩
    | false =>
      obtain ⟨S1, hS1⟩ : ∃ S1, [LT] ++ [32, 61, 32] = S1 := ⟨_, rfl⟩
      obtain ⟨S2, hS2⟩ : ∃ S2, S1 ++ J = S2 := ⟨_, rfl⟩
      have q1 : ∀ wx, (Op.stringOp .add (ofL [LT]) ⟨#[32, 61, 32]⟩).run Tryz.prog wx = .ok (.string (ofL S1)) wx := fun wx => str_add (y := [32, 61, 32]) (by simp) hS1 wx
      have q2 : ∀ wx, (Op.stringOp .add (ofL S1) (ofL J)).run Tryz.prog wx = .ok (.string (ofL S2)) wx := fun wx => str_add (by have := HSL.out; rw [← hS1]; simp; omega) hS2 wx
      have HR2 : Hid (relT ⟨(O : Int), (D : Int), false, l⟩ = S2) := Lib.hid (by rw [HR.out, ← hS2, ← hS1]; rfl)
      clear hS1 hS2 HR
      go_enter Tryz.func48, Tryz.ntmps48
      go_wp2_with fail
      refine (joinSpan_any _ l spT [44] 77 #[] (enters_of Tryz.func77 (by kernel_rfl) rfl) _ V1.out (by have := HK.out.few; dsimp only at this; omega) (by decide) (fun x _ => by have := spT_len x; omega) (fun W s hs hb => spanText_any (O : Int) s (HK.out.sp s hs) W (E1.out.later hb))).mono ?_
      rintro e w9 ⟨rfl, b9⟩
      rw [show jn [44] (l.map spT) = J from HJ.out]
      have B9 := Lib.hid (st HBA.out b9 HBA.out.size)
      clear b9
      go_wp2
      go_ret
      rw [HR2.out]
      exact ⟨rfl, B9.out⟩
  · have e1 : ((D : Int) != 0) = true := by rw [bne_iff_ne]; exact hD
    rw [if_neg hD] at HR
    clear hD
    obtain ⟨M1, hM1⟩ : ∃ M1, [32, 37, 32] ++ dtx D = M1 := ⟨_, rfl⟩
    obtain ⟨M2, hM2⟩ : ∃ M2, [LT] ++ M1 = M2 := ⟨_, rfl⟩
    have p1 : ∀ wx, (Op.stringOp .add ⟨#[32, 37, 32]⟩ (ofL (dtx D))).run Tryz.prog wx = .ok (.string (ofL M1)) wx := fun wx => str_add (x := [32, 37, 32]) (by simp; omega) hM1 wx
    have p2 : ∀ wx, (Op.stringOp .add (ofL [LT]) (ofL M1)).run Tryz.prog wx = .ok (.string (ofL M2)) wx := fun wx => str_add (by rw [← hM1]; simp; omega) hM2 wx
    have hm2 : M2.length ≤ 10 := by rw [← hM2, ← hM1]; simp; omega
    rw [hM1, hM2] at HR
    clear hld hM1 hM2
    cases b with
    | true =>
      obtain ⟨S1, hS1⟩ : ∃ S1, M2 ++ [32, 33, 61, 32] = S1 := ⟨_, rfl⟩
      obtain ⟨S2, hS2⟩ : ∃ S2, S1 ++ J = S2 := ⟨_, rfl⟩
      have q1 : ∀ wx, (Op.stringOp .add (ofL M2) ⟨#[32, 33, 61, 32]⟩).run Tryz.prog wx = .ok (.string (ofL S1)) wx := fun wx => str_add (y := [32, 33, 61, 32]) (by simp; omega) hS1 wx
      have q2 : ∀ wx, (Op.stringOp .add (ofL S1) (ofL J)).run Tryz.prog wx = .ok (.string (ofL S2)) wx := fun wx => str_add (by have := HSL.out; rw [← hS1]; simp; omega) hS2 wx
      have HR2 : Hid (relT ⟨(O : Int), (D : Int), true, l⟩ = S2) := Lib.hid (by rw [HR.out, ← hS2, ← hS1]; rfl)
      clear hS1 hS2 HR hm2
      go_enter Tryz.func48, Tryz.ntmps48
      go_wp2_with fail
      refine (itoa_any D (by omega) _ E1.out).mono ?_
      rintro e w2 ⟨rfl, b2⟩
      have K2 : Hid (Blk g 38 #[.int .i64 O, .int .i64 D, .bool true, .slice x1 l.length x2] w2) := Lib.hid (Blk.below K1.out b2)
      have E2 := Lib.hid (E1.out.later b2)
      have V2 := Lib.hid (V1.out.below b2)
      have c2 : w2.cell? ⟨g, 2, none⟩ = some (.bool true) := K2.out.cell 2
      have c3 : w2.cell? ⟨g, 3, none⟩ = some (.slice x1 l.length x2) := K2.out.cell 3
      have B2 := Lib.hid (st HBA.out b2 HBA.out.size)
      clear b2
      go_wp2_with fail
      refine (joinSpan_any _ l spT [44] 77 #[] (enters_of Tryz.func77 (by kernel_rfl) rfl) _ V2.out (by have := HK.out.few; dsimp only at this; omega) (by decide) (fun x _ => by have := spT_len x; omega) (fun W s hs hb => spanText_any (O : Int) s (HK.out.sp s hs) W (E2.out.later hb))).mono ?_
      rintro e w9 ⟨rfl, b9⟩
      rw [show jn [44] (l.map spT) = J from HJ.out]
      have B9 := Lib.hid (st B2.out b9 B2.out.size)
      clear b9
      go_wp2
      go_ret
      rw [HR2.out]
      exact ⟨rfl, B9.out⟩
    | false =>
      obtain ⟨S1, hS1⟩ : ∃ S1, M2 ++ [32, 61, 32] = S1 := ⟨_, rfl⟩
      obtain ⟨S2, hS2⟩ : ∃ S2, S1 ++ J = S2 := ⟨_, rfl⟩
      have q1 : ∀ wx, (Op.stringOp .add (ofL M2) ⟨#[32, 61, 32]⟩).run Tryz.prog wx = .ok (.string (ofL S1)) wx := fun wx => str_add (y := [32, 61, 32]) (by simp; omega) hS1 wx
      have q2 : ∀ wx, (Op.stringOp .add (ofL S1) (ofL J)).run Tryz.prog wx = .ok (.string (ofL S2)) wx := fun wx => str_add (by have := HSL.out; rw [← hS1]; simp; omega) hS2 wx
      have HR2 : Hid (relT ⟨(O : Int), (D : Int), false, l⟩ = S2) := Lib.hid (by rw [HR.out, ← hS2, ← hS1]; rfl)
      clear hS1 hS2 HR hm2
      go_enter Tryz.func48, Tryz.ntmps48
      go_wp2_with fail
      refine (itoa_any D (by omega) _ E1.out).mono ?_
      rintro e w2 ⟨rfl, b2⟩
      have K2 : Hid (Blk g 38 #[.int .i64 O, .int .i64 D, .bool false, .slice x1 l.length x2] w2) := Lib.hid (Blk.below K1.out b2)
      have E2 := Lib.hid (E1.out.later b2)
      have V2 := Lib.hid (V1.out.below b2)
      have c2 : w2.cell? ⟨g, 2, none⟩ = some (.bool false) := K2.out.cell 2
      have c3 : w2.cell? ⟨g, 3, none⟩ = some (.slice x1 l.length x2) := K2.out.cell 3
      have B2 := Lib.hid (st HBA.out b2 HBA.out.size)
      clear b2
      go_wp2_with fail
      refine (joinSpan_any _ l spT [44] 77 #[] (enters_of Tryz.func77 (by kernel_rfl) rfl) _ V2.out (by have := HK.out.few; dsimp only at this; omega) (by decide) (fun x _ => by have := spT_len x; omega) (fun W s hs hb => spanText_any (O : Int) s (HK.out.sp s hs) W (E2.out.later hb))).mono ?_
      rintro e w9 ⟨rfl, b9⟩
      rw [show jn [44] (l.map spT) = J from HJ.out]
      have B9 := Lib.hid (st B2.out b9 B2.out.size)
      clear b9
      go_wp2
      go_ret
      rw [HR2.out]
      exact ⟨rfl, B9.out⟩
end Go.Proofs.YtnabklhkalnpiaaGreatDoor

namespace Go.Proofs.YtnabklhkalnpiaaGreatDoor
open Go.RowKit
set_option linter.unusedVariables false

theorem relT_le (r : Rel) (h : r.sp.length ≤ 4) : (relT r).length ≤ 50 := by
  rw [relT_eq, List.length_append, List.length_append]
  have h1 := spsT_len r.sp h
  have h2 : (relH r).length ≤ 7 := by
    unfold relH
    have := dtx_len r.md.toNat
    split <;> simp <;> omega
  have h3 : (sgnT r.nt).length ≤ 4 := by unfold sgnT; split <;> simp
  omega
theorem lstT_le (l : List Rel) (h : okL l = true) (hl : l.length ≤ 1000) : (lstT l).length ≤ 100000 := by
  unfold lstT
  have h1 := jn_len [32, 97, 110, 100, 32] 50 (l.map relT) (fun x hx => by
    obtain ⟨y, hy, rfl⟩ := List.mem_map.1 hx
    exact relT_le y (okR_iff.1 ((okL_iff.1 h).2 y hy)).few)
  rw [List.length_map] at h1
  have h2 : l.length * (50 + ([32, 97, 110, 100, 32] : Str).length) ≤ 1000 * 55 := Nat.mul_le_mul hl (Nat.le_refl _)
  omega
set_option maxRecDepth 1000000 in
set_option maxHeartbeats 4000000 in
theorem listText_any (l : List Rel) (x1 : Option Addr) (x2 : Nat) (hl : okL l = true) (hn : l.length ≤ 1000) (w : World) (E : Env w) (hv : RdRels w (.slice x1 l.length x2) l) :
    Calls Tryz.prog 25 #[.slice x1 l.length x2] w fun e w' => e = .returned (.string (ofL (lstT l))) ∧ Below w.heap.size w w' := by
  have HE := Lib.hid E
  have HV := Lib.hid hv
  have HL := Lib.hid ((okL_iff.1 hl).2)
  clear E hv hl
  go_enter Tryz.func25, Tryz.ntmps25
  go_wp2_with fail
  refine (joinRel_any _ l relT [32, 97, 110, 100, 32] 48 #[] (enters_of Tryz.func48 (by kernel_rfl) rfl) _ HV.out hn (by decide) (fun x hx => by have := relT_le x (okR_iff.1 (HL.out x hx)).few; omega) (fun W s a1 a2 hs hb hr => relationText_any s a1 a2 (HL.out s hs) W (HE.out.later hb) hr)).mono ?_
  rintro e w9 ⟨rfl, b9⟩
  have B9 := Lib.hid b9
  clear b9
  go_wp2
  go_ret
  exact ⟨rfl, B9.out⟩
def prtR (c : Cnd) : Str × Int := if okC c = true then (cndT c, 0) else ([], 1)
theorem mem_cnt : ∀ (c : Cnd) (l : List Rel), l ∈ c → l.length ≤ cnt c
  | [], _, h => by cases h
  | x :: c, l, h => by
    rw [cnt_cons]
    rcases List.mem_cons.1 h with e | h
    · rw [e]; omega
    · have := mem_cnt c l h
      omega
theorem len_le (c : Cnd) (h : okC c = true) : c.length ≤ 6 ∧ ∀ l ∈ c, l.length ≤ 6 := by
  obtain ⟨h0, h1, h2⟩ := okC_iff.1 h
  refine ⟨by have := len_cnt c h1; omega, fun l hl => ?_⟩
  have := mem_cnt c l hl
  omega
set_option maxRecDepth 1000000 in
set_option maxHeartbeats 4000000 in
theorem print_any (c : Cnd) (v : Value) (w : World) (E : Env w) (hv : RdC w v c) (hB : ∀ l ∈ c, l.length ≤ 4611686018427387904) :
    Calls Tryz.prog 11 #[v] w fun e w' => e = .returned (.tuple #[.string (ofL (prtR c).1), .int .i64 (prtR c).2]) ∧ Below w.heap.size w w' := by
  have HE := Lib.hid E
  have HV := Lib.hid hv
  have HB := Lib.hid hB
  obtain ⟨a, n, hva, _⟩ := hv.slice
  subst hva
  clear E hv hB
  obtain ⟨vb, hvb⟩ : ∃ vb, okC c = vb := ⟨_, rfl⟩
  have HVB := Lib.hid hvb
  have hval := valid_cond_any _ c w HV.out HB.out
  rw [hvb] at hval
  have HVA := Lib.hid hval
  clear hvb hval
  go_enter Tryz.func11, Tryz.ntmps11
  go_wp2_with fail
  refine HVA.out.mono ?_
  rintro e w2 ⟨rfl, b2⟩
  have B2 := Lib.hid b2
  have E2 := Lib.hid (HE.out.later b2)
  have V2 := Lib.hid (HV.out.below b2)
  clear b2
  cases vb with
  | false =>
    have HP : Hid (prtR c = ([], 1)) := Lib.hid (by unfold prtR; rw [HVB.out, if_neg (by simp)])
    go_wp2
    go_ret2
    rw [HP.out]
    exact ⟨rfl, B2.out⟩
  | true =>
    have HP : Hid (prtR c = (cndT c, 0)) := Lib.hid (by unfold prtR; rw [HVB.out, if_pos rfl])
    have HLE := Lib.hid (len_le c HVB.out)
    have HOK := Lib.hid (okC_iff.1 HVB.out).2.1
    go_wp2_with fail
    refine (joinLst_any _ c lstT [32, 111, 114, 32] 25 #[] (enters_of Tryz.func25 (by kernel_rfl) rfl) _ V2.out (by have := HLE.out.1; omega) (by decide) (fun x hx => lstT_le x (HOK.out x hx) (by have := HLE.out.2 x hx; omega)) (fun W s a1 a2 hs hb hr => listText_any s a1 a2 (HOK.out s hs) (by have := HLE.out.2 s hs; omega) W (E2.out.later hb) hr)).mono ?_
    rintro e w9 ⟨rfl, b9⟩
    have B9 := Lib.hid (st B2.out b9 B2.out.size)
    clear b9
    go_wp2
    go_ret2
    rw [HP.out]
    exact ⟨rfl, B9.out⟩
end Go.Proofs.YtnabklhkalnpiaaGreatDoor

namespace Go.Proofs.YtnabklhkalnpiaaGreatDoor
open Go.RowKit
set_option linter.unusedVariables false

def exT : ByteArray := ⟨#[105, 32, 61, 32, 49, 32, 97, 110, 100, 32, 118, 32, 61, 32, 48]⟩
def exC : Cnd := [[⟨2, 0, false, [(1, 1)]⟩, ⟨3, 0, false, [(0, 0)]⟩]]
theorem ex_prs : prsM exT.data.toList = some exC := by
  have h : exT.data.toList = cndT exC := by decide +kernel
  rw [h]
  exact prs_back exC (by decide)
theorem ex_one : holdR exC [49] = (true, 0) := by decide +kernel
theorem ex_two : holdR exC [49, 46, 48] = (false, 0) := by decide +kernel
def AwPost (w : World) (e : Ending) (w' : World) : Prop := e = .returned (.bool true) ∧ Below w.heap.size w w'
set_option maxRecDepth 1000000 in
set_option maxHeartbeats 4000000 in
theorem awake_any (w : World) (E : Env w) : Calls Tryz.prog 9 #[] w (AwPost w) := by
  have HE := Lib.hid E
  clear E
  go_enter Tryz.func9, Tryz.ntmps9
  go_wp2_with fail
  refine (parse_any _ HE.out exT (by decide)).mono ?_
  rintro e w1 ⟨⟨a, n, c, at_, er, rfl, h1⟩, b1⟩
  rw [ex_prs] at h1
  obtain ⟨hv, rfl, rfl⟩ := h1
  have HV := Lib.hid hv
  have B1 := Lib.hid b1
  clear hv b1
  go_wp2_with fail
  refine (holdsC_any _ exC ⟨#[49]⟩ (by decide) _ HV.out (by decide)).mono ?_
  rw [show (ByteArray.mk #[49]).data.toList = [49] from rfl, ex_one]
  rintro e w2 ⟨rfl, b2⟩
  have V2 := Lib.hid (HV.out.below b2)
  have B2 := Lib.hid (st B1.out b2 B1.out.size)
  clear b2
  go_wp2_with fail
  refine (holdsC_any _ exC ⟨#[49, 46, 48]⟩ (by decide) _ V2.out (by decide)).mono ?_
  rw [show (ByteArray.mk #[49, 46, 48]).data.toList = [49, 46, 48] from rfl, ex_two]
  rintro e w3 ⟨rfl, b3⟩
  have B3 := Lib.hid (st B2.out b3 B2.out.size)
  clear b3
  go_wp2
  go_ret
  exact ⟨rfl, B3.out⟩
end Go.Proofs.YtnabklhkalnpiaaGreatDoor
