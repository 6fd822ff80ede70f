/- Of the program of layer 15: Group. -/
import Derived.Test.YteofkofgdhmpjaaDoorNud
import Derived.Test.YteofkofgdhmpjaaDoorYsh
import Derived.Sort.OwnSorted
namespace Go.Proofs.YteofkofgdhmpjaaDoor
open Go.RowKit Go.Sort
set_option linter.unusedVariables false

theorem flat_str (l : List Str) : l.flatMap encT = l.map encStr := by
  induction l with
  | nil => rfl
  | cons x l ih => rw [List.flatMap_cons, ih]; rfl
theorem own_one (w : World) (x : Str) {N : Nat} (hN : w.heap.size = N) : Own1 1 encT (w.alloc (.cells #[.string (ofL x)] 9)) w.heap.size 9 (.slice (some ⟨N, 0, none⟩) 1 1) [x] := by
  subst hN
  exact ⟨rfl, .inr ⟨w.heap.size, 1, _, rfl, Nat.le_refl _, heap_alloc_new w _, Nat.le_refl _, by decide, rfl, rfl⟩⟩
theorem join_more {L : List Str} (h : L ≠ []) {g ch : Str} : Lib.join (L ++ [ch]).reverse g = ch ++ (g ++ Lib.join L.reverse g) := by
  rw [List.reverse_append, List.reverse_cons, List.reverse_nil, List.nil_append, List.singleton_append, Lib.join_cons]
  obtain ⟨a, r, hr⟩ : ∃ a r, L.reverse = a :: r := by
    cases hL : L.reverse with
    | nil => exact absurd (List.reverse_eq_nil_iff.1 hL) h
    | cons a r => exact ⟨a, r, rfl⟩
  rw [hr, Lib.join_cons]
  simp [Lib.joinTail]
theorem reverse_any {base : Nat} {w : World} {v : Value} {l : List Str} (h : Own1 1 encT w base 9 v l) (h0 : l ≠ []) (hl : l.length ≤ 100000) (hbase : base ≤ w.heap.size) : Calls Tryd.prog 43 #[v] w fun e w' => e = .returned (.tuple #[]) ∧ Own1 1 encT w' base 9 v l.reverse ∧ Below base w w' := by
  have h' := h
  unfold Own1 at h'
  rcases h'.2 with ⟨rfl, hn⟩ | ⟨g, cap, cur, rfl, hg, hb, h1, h2, h3, h4⟩
  · exact absurd (List.eq_nil_of_length_eq_zero hn) h0
  rw [flat_str, Nat.mul_one] at h4
  refine (Tryd.slices_Reverse_string g 0 cap l w (holds_of_block hb h4) (by omega)).mono ?_
  rintro e w' ⟨rfl, n, rfl⟩
  refine ⟨rfl, ?_, ?_⟩
  · unfold Own1
    rw [flat_str, List.length_reverse]
    have := ownsRow_sorted (os := #[]) (n := n) (ts := l.reverse) (by simp) hg hb h1 h2 h3
    rw [grow_empty] at this
    exact this
  · have := grownBy_sorted (w := w) (g := g) (n := n) (os := #[]) l.reverse.toArray
    rw [grow_empty] at this
    exact (Below.refl base w).grown this hbase (fun j e => by injection e with e; omega)
theorem joinT_any {base : Nat} {w : World} {v : Value} {l : List Str} (h : Own1 1 encT w base 9 v l) (h0 : l ≠ []) {g J : Str} (hJ : Lib.join l g = J) (hj : J.length ≤ 2000000) (hl : l.length ≤ 100000) : Calls Tryd.prog 44 #[v, .string (ofL g)] w fun e w' => e = .returned (.string (ofL J)) ∧ Below w.heap.size w w' := by
  subst hJ
  obtain ⟨a, c, rfl⟩ := h.slice
  have hr := h.rd encT_len
  obtain ⟨b, off, rfl, hlt, _⟩ := hr.some_ 0 (List.length_pos_iff.2 h0)
  have hm : (l.map ofL).map (·.data.toList) = l := by rw [List.map_map]; exact List.map_id _
  have hc : l.length ≤ c := by
    obtain ⟨a', c', e, h1, _⟩ := hr.slice
    injection e with _ _ e; omega
  have := Tryd.strings_Join b off c (l.map ofL) (ofL g) w (fun j x hx => by
    rw [List.getElem?_map] at hx
    obtain ⟨y, hy, rfl⟩ := Option.map_eq_some_iff.1 hx
    obtain ⟨hjl, rfl⟩ := List.getElem?_eq_some_iff.1 hy
    have := hr.at_ j hjl 0 _ rfl
    simpa using this) hlt (by simp; omega) (by simpa using hc) (by rw [hm]; exact Nat.le_trans hj (by omega))
  rw [hm, List.length_map] at this
  exact this
set_option maxRecDepth 1000000 in
set_option maxHeartbeats 8000000 in
theorem group_any (x : SyN) (d : Str) (hd : d.length ≤ 1000) (hg : x.gr.length ≤ 1000) (hp1 : -9223372036854775808 ≤ x.pr) (hp2 : x.pr ≤ 9223372036854775807) (hs1 : -9223372036854775808 ≤ x.se) (hs2 : x.se ≤ 9223372036854775807) (w : World) : Calls Tryd.prog 30 #[.agg #[.string (ofL x.de), .string (ofL x.gr), .string (ofL x.mi), .string (ofL x.pe), .int .i64 x.pr, .int .i64 x.se], .string (ofL d)] w fun e w' => e = .returned (.string (ofL (grpR x d))) ∧ Below w.heap.size w w' := by
  obtain ⟨iI, hiI, hzI, hkI, hbI⟩ := info_parts Tryd.infoT
  have HS := Lib.hid (@grp_small x d)
  have HB := Lib.hid (fun k h => @grp_big x d k h)
  have HGL : Hid ((grpR x d).length ≤ 2000000) := Lib.hid (by
    have := grp_len x d
    have : (x.gr.length + 1) * d.length ≤ 1001 * 1000 := Nat.mul_le_mul (by omega) hd
    omega)
  obtain ⟨G, hG⟩ : ∃ G, grpR x d = G := ⟨_, rfl⟩
  rw [hG] at HS HB HGL ⊢
  clear hG
  have HZ : Hid (∀ z, (if x.se < 1 then x.pr else x.se) = z → ¬ x.pr < 1 → (z = ((sizG x : Nat) : Int)) ∧ 0 < sizG x) := Lib.hid (fun z hz h => ⟨by rw [← hz]; unfold sizG; split <;> omega, sizG_pos h⟩)
  obtain ⟨S, hS⟩ : ∃ S, sizG x = S := ⟨_, rfl⟩
  rw [hS] at HZ HB
  clear hS
  obtain ⟨g, hgr⟩ : ∃ g, x.gr = g := ⟨_, rfl⟩
  rw [hgr] at hg HB ⊢
  clear hgr
  obtain ⟨A, hA⟩ : ∃ A, ofL x.de = A := ⟨_, rfl⟩
  obtain ⟨C, hC⟩ : ∃ C, ofL x.mi = C := ⟨_, rfl⟩
  obtain ⟨D, hD⟩ : ∃ D, ofL x.pe = D := ⟨_, rfl⟩
  obtain ⟨p, hp⟩ : ∃ p, x.pr = p := ⟨_, rfl⟩
  obtain ⟨q, hq⟩ : ∃ q, x.se = q := ⟨_, rfl⟩
  rw [hp] at HS HB HZ hp1 hp2
  rw [hq] at HZ hs1 hs2
  rw [hA, hC, hD, hp, hq]
  clear hA hC hD hp hq
  have HCU := Lib.hid (fun (a : Nat) (h : a ≤ d.length) (B : Int) (hB : B = (a : Int)) => cutY_from d h hB)
  have HCT := Lib.hid (fun (a : Nat) (h : a ≤ d.length) (B : Int) (hB : B = (a : Int)) => cutY_to d h hB)
  have HCM := Lib.hid (fun (a b : Nat) (h : a ≤ b) (h2 : b ≤ d.length) (A B : Int) (hA : A = (a : Int)) (hB : B = (b : Int)) => cutY_mid d h h2 hA hB)
  obtain ⟨n, en⟩ : ∃ n, d.length = n := ⟨_, rfl⟩
  have HT : Hid (ofL d = ofL d) := Lib.hid rfl
  obtain ⟨T, hT⟩ : ∃ T, ofL d = T := ⟨_, rfl⟩
  have hTn : T.size = n := by rw [← hT, ofL_size, en]
  have HTT := Lib.hid hT
  have HW := Lib.hid ((Below.refl w.heap.size w).alloc (Nat.le_refl _) (.cells #[.string A, .string (ofL g), .string C, .string D, .int .i64 p, .int .i64 q] 23))
  rw [en] at hd HS HCU HCT HCM
  rw [hT] at HCU HCT HCM ⊢
  have HEN := Lib.hid en
  clear hT en HT
  by_cases h1 : p < 1
  · have k1 : decide (p < 1) = true := decide_eq_true h1
    have HR := Lib.hid (HS.out (.inl h1))
    clear h1
    go_enter Tryd.func30, Tryd.ntmps30
    go_wp2
    go_ret
    exact ⟨by rw [HR.out, HTT.out]; rfl, HW.out⟩
  have k1 : decide (p < 1) = false := decide_eq_false h1
  by_cases h2 : (n : Int) ≤ p
  · have k2 : decide ((n : Int) ≤ p) = true := decide_eq_true h2
    have HR := Lib.hid (HS.out (.inr h2))
    clear h1 h2
    go_enter Tryd.func30, Tryd.ntmps30
    go_wp2
    go_ret
    exact ⟨by rw [HR.out, HTT.out]; rfl, HW.out⟩
  have k2 : decide ((n : Int) ≤ p) = false := decide_eq_false h2
  obtain ⟨z, hz⟩ : ∃ z, (if q < 1 then p else q) = z := ⟨_, rfl⟩
  obtain ⟨hzS, hS0⟩ := HZ.out z hz h1
  have hz2 : z ≤ 9223372036854775807 := by rw [← hz]; split <;> omega
  obtain ⟨k0, hk0⟩ : ∃ k0 : Nat, (n : Int) - p = (k0 : Int) := ⟨((n : Int) - p).toNat, by omega⟩
  have hk0n : k0 ≤ n := by omega
  have hG0 := HB.out k0 (by rw [HEN.out]; omega) (by rw [HEN.out]; omega)
  obtain ⟨t0, ht0⟩ : ∃ t0, d.drop k0 = t0 := ⟨_, rfl⟩
  have cu : ∀ wx, (Instr.slice 9 (.string T) (some (.int .i64 (k0 : Int))) none none).run Tryd.prog wx = .ok (.string (ofL t0)) wx := by rw [← ht0]; exact HCU.out k0 (by omega) _ rfl
  have ht0n : t0.length ≤ 1000 := by rw [← ht0, List.length_drop, HEN.out]; omega
  have HG0 : Hid (frG g S d k0 ++ (g ++ Lib.join [t0].reverse g) = G) := Lib.hid (by rw [hG0, ← ht0]; simp [Lib.join_one])
  have HzS := Lib.hid hzS
  have hz1 : 1 ≤ z := by omega
  clear HZ HS HB hG0 ht0 ht0n h1 h2 HCU hzS
  obtain ⟨W0, hW0⟩ : ∃ W0, w.alloc (.cells #[.string A, .string (ofL g), .string C, .string D, .int .i64 p, .int .i64 q] 23) = W0 := ⟨_, rfl⟩
  have K0 : Hid (Blk w.heap.size 23 #[.string A, .string (ofL g), .string C, .string D, .int .i64 p, .int .i64 q] W0) := Lib.hid (by rw [← hW0]; exact Blk.new _ _ _)
  rw [hW0] at HW
  have c1 : W0.cell? ⟨w.heap.size, 1, none⟩ = some (.string (ofL g)) := K0.out.cell 1
  have HW0 := Lib.hid hW0
  clear hW0
  by_cases hq : q < 1
  · have k3 : decide (q < 1) = true := decide_eq_true hq
    rw [if_pos hq] at hz
    clear hq
    subst hz
    go_enter Tryd.func30, Tryd.ntmps30
    go_wp2
    rw [HW0.out]
    go_wp2
    go_loopw [6, 7] (fun v6 v7 wr => ∃ (k : Nat) (L : List Str), k ≤ n ∧ v6 = .int .i64 k ∧ Own1 1 encT wr W0.heap.size 9 v7 L ∧ L ≠ [] ∧ L.length + k ≤ n + 1 ∧ frG g S d k ++ (g ++ Lib.join L.reverse g) = G ∧ Below W0.heap.size W0 wr) (fun v6 _ _ => (intOf v6).toNat)
    case atStart => exact ⟨k0, [t0], hk0n, by go_num, own_one W0 t0 (by rw [← HW0.out]; simp), by simp, by simp; omega, HG0.out, (Below.refl _ _).alloc (Nat.le_refl _) _⟩
    case round =>
      obtain ⟨k, L, hkn, rfl, hown, hne, hLn, hG, hbw⟩ := hrel
      have HG := Lib.hid hG
      have HX := Lib.hid hbw
      have HO := Lib.hid hown
      have HNE := Lib.hid hne
      have hWs : W0.heap.size ≤ wr.heap.size := hbw.size
      obtain ⟨av, cv, hav⟩ := hown.slice
      obtain ⟨n7, hn7⟩ : ∃ n7, L.length = n7 := ⟨_, rfl⟩
      rw [hn7] at hav hLn
      subst hav
      have HN7 := Lib.hid hn7
      have hn7b : n7 ≤ 2000 := by omega
      clear hG hbw hown hne hn7
      by_cases hlt : p < (k : Int)
      · have k4 : decide (p < (k : Int)) = true := decide_eq_true hlt
        obtain ⟨m, hm⟩ : ∃ m : Nat, (k : Int) - p = (m : Int) := ⟨((k : Int) - p).toNat, by omega⟩
        have hmk : m ≤ k := by omega
        have HZ2 := HzS.out
        obtain ⟨ch, hch⟩ : ∃ ch, (d.drop m).take (k - m) = ch := ⟨_, rfl⟩
        have cm : ∀ wx, (Instr.slice 9 (.string T) (some (.int .i64 (m : Int))) (some (.int .i64 (k : Int))) none).run Tryd.prog wx = .ok (.string (ofL ch)) wx := by rw [← hch]; exact HCM.out m k hmk hkn _ _ rfl rfl
        have HG2 : Hid (frG g S d m ++ (g ++ Lib.join (L ++ [ch]).reverse g) = G) := Lib.hid (by
          rw [← HG.out, join_more HNE.out, ← hch, frG_big (by omega) (show S < k by omega), show k - S = m by omega, show k - m = S by omega]
          simp only [List.append_assoc])
        have hw : IntKind.i64.wrap ((k : Int) - p) = (m : Int) := by rw [hm, IntKind.wrap_i64]; omega
        have HM := Lib.hid hm
        clear hch HZ2 hm hlt
        go_wp2_with (first | (at_builtin; refine wpList_append_at (w0 := wr) (x := ch) (N := wr.heap.size) rfl rfl _ _ 30 rfl W0.heap.size iI _ 16 Tryd.underlying30 hiI hzI hkI hbI (by omega) rfl (by omega) encT_len encT_one _ L rfl rfl HO.out rfl (by have := HN7.out; omega) (by omega) ?_; intro v' w' y1 y2 y3) | fail)
        have HY1 := Lib.hid y1
        have HY2 := Lib.hid (HX.out.trans y2)
        clear y1 y2 y3
        go_wp2
        go_roundw
        case rel => exact ⟨m, L ++ [ch], by omega, by go_num, HY1.out, by simp, by rw [List.length_append]; have := HN7.out; have := HM.out; simp; omega, HG2.out, HY2.out⟩
        case measure => simp [intOf]; have := HM.out; omega
      · have k4 : decide (p < (k : Int)) = false := decide_eq_false hlt
        have cm : ∀ wx, (Instr.slice 9 (.string T) none (some (.int .i64 (k : Int))) none).run Tryd.prog wx = .ok (.string (ofL (d.take k))) wx := HCT.out k hkn _ rfl
        obtain ⟨ch, hch⟩ : ∃ ch, d.take k = ch := ⟨_, rfl⟩
        rw [hch] at cm
        have HR : Hid (Lib.join (L ++ [ch]).reverse g = G) := Lib.hid (by rw [← HG.out, join_more HNE.out, frG_small (by have := HzS.out; omega), hch])
        clear hch hlt
        go_wp2_with (first | (at_builtin; refine wpList_append_at (w0 := wr) (x := ch) (N := wr.heap.size) rfl rfl _ _ 30 rfl W0.heap.size iI _ 16 Tryd.underlying30 hiI hzI hkI hbI (by omega) rfl (by omega) encT_len encT_one _ L rfl rfl HO.out rfl (by have := HN7.out; omega) (by omega) ?_; intro v' w' y1 y2 y3) | fail)
        have HY1 := Lib.hid y1
        have HY2 := Lib.hid (HX.out.trans y2)
        have hWs2 : W0.heap.size ≤ w'.heap.size := HY2.out.size
        clear y1 y2 y3
        go_wp2_with fail
        refine (reverse_any HY1.out (by simp) (by rw [List.length_append]; have := HN7.out; simp; omega) hWs2).mono ?_
        rintro e w5 ⟨rfl, o5, b5⟩
        have HB5 := Lib.hid (HY2.out.trans b5)
        have HO5 := Lib.hid o5
        have hWs5 : W0.heap.size ≤ w5.heap.size := HB5.out.size
        have c5 : w5.cell? ⟨w.heap.size, 1, none⟩ = some (.string (ofL g)) := (K0.out.belowAt HB5.out (K0.out.lt)).cell 1
        clear b5 o5
        go_wp2_with fail
        refine (joinT_any HO5.out (by simp) HR.out HGL.out (by rw [List.length_reverse, List.length_append]; have := HN7.out; simp; omega)).mono ?_
        rintro e w6 ⟨rfl, b6⟩
        have HB6 := Lib.hid (st HW.out (HB5.out.trans (b6.mono hWs5)) HW.out.size)
        clear b6
        go_wp2
        go_ret
        exact ⟨rfl, HB6.out⟩
  · have k3 : decide (q < 1) = false := decide_eq_false hq
    rw [if_neg hq] at hz
    clear hq
    subst hz
    go_enter Tryd.func30, Tryd.ntmps30
    go_wp2
    rw [HW0.out]
    go_wp2
    go_loopw [6, 7] (fun v6 v7 wr => ∃ (k : Nat) (L : List Str), k ≤ n ∧ v6 = .int .i64 k ∧ Own1 1 encT wr W0.heap.size 9 v7 L ∧ L ≠ [] ∧ L.length + k ≤ n + 1 ∧ frG g S d k ++ (g ++ Lib.join L.reverse g) = G ∧ Below W0.heap.size W0 wr) (fun v6 _ _ => (intOf v6).toNat)
    case atStart => exact ⟨k0, [t0], hk0n, by go_num, own_one W0 t0 (by rw [← HW0.out]; simp), by simp, by simp; omega, HG0.out, (Below.refl _ _).alloc (Nat.le_refl _) _⟩
    case round =>
      obtain ⟨k, L, hkn, rfl, hown, hne, hLn, hG, hbw⟩ := hrel
      have HG := Lib.hid hG
      have HX := Lib.hid hbw
      have HO := Lib.hid hown
      have HNE := Lib.hid hne
      have hWs : W0.heap.size ≤ wr.heap.size := hbw.size
      obtain ⟨av, cv, hav⟩ := hown.slice
      obtain ⟨n7, hn7⟩ : ∃ n7, L.length = n7 := ⟨_, rfl⟩
      rw [hn7] at hav hLn
      subst hav
      have HN7 := Lib.hid hn7
      have hn7b : n7 ≤ 2000 := by omega
      clear hG hbw hown hne hn7
      by_cases hlt : q < (k : Int)
      · have k4 : decide (q < (k : Int)) = true := decide_eq_true hlt
        obtain ⟨m, hm⟩ : ∃ m : Nat, (k : Int) - q = (m : Int) := ⟨((k : Int) - q).toNat, by omega⟩
        have hmk : m ≤ k := by omega
        have HZ2 := HzS.out
        obtain ⟨ch, hch⟩ : ∃ ch, (d.drop m).take (k - m) = ch := ⟨_, rfl⟩
        have cm : ∀ wx, (Instr.slice 9 (.string T) (some (.int .i64 (m : Int))) (some (.int .i64 (k : Int))) none).run Tryd.prog wx = .ok (.string (ofL ch)) wx := by rw [← hch]; exact HCM.out m k hmk hkn _ _ rfl rfl
        have HG2 : Hid (frG g S d m ++ (g ++ Lib.join (L ++ [ch]).reverse g) = G) := Lib.hid (by
          rw [← HG.out, join_more HNE.out, ← hch, frG_big (by omega) (show S < k by omega), show k - S = m by omega, show k - m = S by omega]
          simp only [List.append_assoc])
        have hw : IntKind.i64.wrap ((k : Int) - q) = (m : Int) := by rw [hm, IntKind.wrap_i64]; omega
        have HM := Lib.hid hm
        clear hch HZ2 hm hlt
        go_wp2_with (first | (at_builtin; refine wpList_append_at (w0 := wr) (x := ch) (N := wr.heap.size) rfl rfl _ _ 30 rfl W0.heap.size iI _ 16 Tryd.underlying30 hiI hzI hkI hbI (by omega) rfl (by omega) encT_len encT_one _ L rfl rfl HO.out rfl (by have := HN7.out; omega) (by omega) ?_; intro v' w' y1 y2 y3) | fail)
        have HY1 := Lib.hid y1
        have HY2 := Lib.hid (HX.out.trans y2)
        clear y1 y2 y3
        go_wp2
        go_roundw
        case rel => exact ⟨m, L ++ [ch], by omega, by go_num, HY1.out, by simp, by rw [List.length_append]; have := HN7.out; have := HM.out; simp; omega, HG2.out, HY2.out⟩
        case measure => simp [intOf]; have := HM.out; omega
      · have k4 : decide (q < (k : Int)) = false := decide_eq_false hlt
        have cm : ∀ wx, (Instr.slice 9 (.string T) none (some (.int .i64 (k : Int))) none).run Tryd.prog wx = .ok (.string (ofL (d.take k))) wx := HCT.out k hkn _ rfl
        obtain ⟨ch, hch⟩ : ∃ ch, d.take k = ch := ⟨_, rfl⟩
        rw [hch] at cm
        have HR : Hid (Lib.join (L ++ [ch]).reverse g = G) := Lib.hid (by rw [← HG.out, join_more HNE.out, frG_small (by have := HzS.out; omega), hch])
        clear hch hlt
        go_wp2_with (first | (at_builtin; refine wpList_append_at (w0 := wr) (x := ch) (N := wr.heap.size) rfl rfl _ _ 30 rfl W0.heap.size iI _ 16 Tryd.underlying30 hiI hzI hkI hbI (by omega) rfl (by omega) encT_len encT_one _ L rfl rfl HO.out rfl (by have := HN7.out; omega) (by omega) ?_; intro v' w' y1 y2 y3) | fail)
        have HY1 := Lib.hid y1
        have HY2 := Lib.hid (HX.out.trans y2)
        have hWs2 : W0.heap.size ≤ w'.heap.size := HY2.out.size
        clear y1 y2 y3
        go_wp2_with fail
        refine (reverse_any HY1.out (by simp) (by rw [List.length_append]; have := HN7.out; simp; omega) hWs2).mono ?_
        rintro e w5 ⟨rfl, o5, b5⟩
        have HB5 := Lib.hid (HY2.out.trans b5)
        have HO5 := Lib.hid o5
        have hWs5 : W0.heap.size ≤ w5.heap.size := HB5.out.size
        have c5 : w5.cell? ⟨w.heap.size, 1, none⟩ = some (.string (ofL g)) := (K0.out.belowAt HB5.out (K0.out.lt)).cell 1
        clear b5 o5
        go_wp2_with fail
        refine (joinT_any HO5.out (by simp) HR.out HGL.out (by rw [List.length_reverse, List.length_append]; have := HN7.out; simp; omega)).mono ?_
        rintro e w6 ⟨rfl, b6⟩
        have HB6 := Lib.hid (st HW.out (HB5.out.trans (b6.mono hWs5)) HW.out.size)
        clear b6
        go_wp2
        go_ret
        exact ⟨rfl, HB6.out⟩
end Go.Proofs.YteofkofgdhmpjaaDoor
