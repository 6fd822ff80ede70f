/- shared: the elements that both lists have. -/
import Derived.Test.YtcnjomkddbbopaaMj
import Derived.StringKeys
namespace Go.Proofs.Ytcnjomkddbbopaa
open Go.RowKit Go.Maps Go.WideMaps
set_option linter.unusedVariables false

theorem cut_run {P : Program} {T e : TypeId} {i : TypeInfo} (hT : P.underlying T = some (.slice e)) (he : P.info? e = some i) {k : Nat} (hi : i.size = k) (a : Option Addr) (n c m : Nat) (hm : m ≤ n) (w : World) :
    (Instr.slice T (.slice a n c) (some (.int .i64 (m : Int))) none none).run P w = .ok (cutV a m n c k) w ∧ (Instr.sliceAt T (.slice a n c) (some (.int .i64 (m : Int))) none none).run P w = .ok (cutV a m n c k) w := by
  have hE : P.elem T = e := by unfold Program.elem; rw [hT]
  have h1 : (Instr.slice T (.slice a n c) (some (.int .i64 (m : Int))) none none).run P w = .ok (cutV a m n c k) w := by
    rw [run_slice_l (P := P) (w := w) T a n c (by rw [hT, hE]) .i64 m (by omega) (by omega)]
    rw [hE]
    simp [sizeOf, typeInfo, he, hi, Result.andThen, cutV, sliced]
  refine ⟨h1, ?_⟩
  rw [run_sliceAt_slice (P := P) (w := w) T _ _ _ _ (by rw [hT, hE])]
  exact h1
/-- A list from one of its places on: the value, and what the model runs. -/
theorem Rd.from_ {P : Program} {α : Type} {k : Nat} {enc : α → List Value} {T e : TypeId} {i : TypeInfo} (hT : P.underlying T = some (.slice e)) (he : P.info? e = some i) (hi : i.size = k) {w : World} {a : Option Addr} {n c : Nat} {l : List α} (h : Rd k enc w (.slice a n c) l) (m : Nat) (hm : m ≤ l.length) :
    ∃ a2 c2, Rd k enc w (.slice a2 (l.drop m).length c2) (l.drop m) ∧ (∀ wx, (Instr.slice T (.slice a n c) (some (.int .i64 (m : Int))) none none).run P wx = .ok (.slice a2 (l.drop m).length c2) wx) ∧ (∀ wx, (Instr.sliceAt T (.slice a n c) (some (.int .i64 (m : Int))) none none).run P wx = .ok (.slice a2 (l.drop m).length c2) wx) := by
  have hc := h.cut m hm
  have hn := h.len
  obtain ⟨a2, c2, hv, _⟩ := hc.slice
  rw [hv] at hc
  refine ⟨a2, c2, hc, fun wx => ?_, fun wx => ?_⟩
  · rw [(cut_run hT he hi a n c m (by omega) wx).1, hv]
  · rw [(cut_run hT he hi a n c m (by omega) wx).2, hv]
theorem Try.infoBo : (Try.prog.info? 4).map (fun i => (i.zero, i.size, i.bytes)) = some (some (.bool false), 1, 1) := by kernel_rfl
theorem Try.lawS : Keyed Try.prog 9 := string_keyed Try.underlying9
theorem Try.zeroI (w : World) : (zeroValue 3).run Try.prog w = .ok (.int .i64 0) w := by kernel_rfl
theorem key_ok {s : Str} (h : s.length ≤ 1000) : keyOf Try.prog 9 (.string (ofL s)) = some (kS s) := by
  have := keyOf_string_mk (P := Try.prog) Try.underlying9 (s := ofL s) (by rw [ofL_size]; unfold maxLen; omega)
  rw [this]
  rfl
theorem lit_inj {a b : Int} (h : (DataW.lit (.int .i64 a) : DataW Unit) = .lit (.int .i64 b)) : b = a := by cases h; rfl
theorem take_next {l : List Str} {k : Nat} (h : k < l.length) : l.take (k + 1) = l.take k ++ [l[k]] := List.take_succ_eq_append_getElem h

section
variable {α : Type} {k : Nat} {enc : α → List Value}
variable {P : Program} {ops : Array Oper} {rest : List Oper} {o : Oper} {a : Act} {Q : Exit → Act → World → Prop}
/-- One element more, the new block's number under another name. -/
theorem wpList_append_at {w0 : World} {e : TypeId} {cs : Array Value} {x : α} {N : Nat} (hN : w0.heap.size = N) (hgd : o.guard = none) (s y : Operand) (t : TypeId)
    (ho : o.op = .call { callee := .builtin .append, args := #[s, y], argTypes := #[t, t] })
    (base : Nat) (i : TypeInfo) (z : Value) (by_ : Nat) (ht : P.underlying t = some (.slice e)) (hi : P.info? e = some i) (hz : i.zero = some z) (hsize : i.size = k) (hby : i.bytes = by_) (hb64 : by_ ≤ 64) (hzs : z.cells.size = k) (hk0 : 0 < k)
    (hk : ∀ x : α, (enc x).length = k) (h1c : ∀ x : α, ∀ u ∈ enc x, u.oneCell' = true)
    (v : Value) (l : List α) (hcs : cs.toList = enc x) (hs : a.eval s = v) (hown : Own1 k enc w0 base e v l) (hx : a.eval y = .slice (some ⟨N, 0, none⟩) 1 1)
    (hl : l.length ≤ 1000000000) (hbase : base ≤ N)
    (h : ∀ v' w', Own1 k enc w' base e v' (l ++ [x]) → Below base w0 w' → w0.grownBy w' v.ownBlock → wpList P ops Q rest (a.put o.dst v') w') : wpList P ops Q (o :: rest) a (w0.alloc (.cells cs e)) := by
  subst hN
  exact wpList_append_one (W := w0) hgd s y t ho base i z by_ ht hi hz hsize hby hb64 hzs hk0 hk h1c v l hcs hs hown hx hl hbase (Below.refl _ _) h
end
theorem own_far {α : Type} {k : Nat} {enc : α → List Value} {w w' : World} {base : Nat} {e : TypeId} {v : Value} {l : List α} (h : Own1 k enc w base e v l) (hf : ∀ g, base ≤ g → w'.heap[g]? = w.heap[g]?) : Own1 k enc w' base e v l := by
  refine ⟨h.1, ?_⟩
  rcases h.2 with h0 | ⟨g, cap, cur, hv, hB, hg, hr⟩
  · exact .inl h0
  · exact .inr ⟨g, cap, cur, hv, hB, (hf g hB).trans hg, hr⟩
theorem own_map_below {H : Type} {P : Program} {k : TypeId} {R : Value → Option (DataW H × List MemPlace)} {b n : Nat} {D : DataW H} {w w' : World} (h : w.ownsMap P k R b n D) (hb : Below w.heap.size w w') : w'.ownsMap P k R b n D :=
  h.kept (row := none) ⟨hb.os, hb.tape, hb.output, hb.size, fun j hj _ => hb.block j hj⟩ (by simp)
set_option maxRecDepth 1000000 in
set_option maxHeartbeats 1000000 in
theorem shared_any (va vb : Value) (a b : List Str) (p : Nat) (w : World) (ha : Rd 1 encT w va a) (hb : Rd 1 encT w vb b) (hpa : p ≤ a.length) (hpb : p ≤ b.length) (hla : a.length ≤ 200) (hlb : b.length ≤ 200) (hsa : ∀ s ∈ a, s.length ≤ 1000) (hsb : ∀ s ∈ b, s.length ≤ 1000) :
    Calls Try.prog 26 #[va, vb, .int .i64 p] w fun e w' => ∃ vx vy, e = .returned (.tuple #[vx, vy]) ∧ Own1 2 encP w' w.heap.size 69 vx (itemsOf (a.drop p) (b.drop p) p (a.drop p)) ∧ Own1 2 encP w' w.heap.size 69 vy (itemsOf (a.drop p) (a.drop p) p (b.drop p)) ∧ Below w.heap.size w w' := by
  obtain ⟨aa, ca, rfl, hca, hca2⟩ := ha.slice
  obtain ⟨ab, cb, rfl, hcb, hcb2⟩ := hb.slice
  obtain ⟨iS, hiS, hzS, hkS, hbS⟩ := info_parts Try.infoT
  obtain ⟨a2, c2, ha2, ra1, ra2⟩ := ha.from_ (P := Try.prog) (T := 22) rfl hiS hkS p hpa
  obtain ⟨b2, d2, hb2, rb1, rb2⟩ := hb.from_ (P := Try.prog) (T := 22) rfl hiS hkS p hpb
  obtain ⟨la, hlen⟩ : ∃ la, a.drop p = la := ⟨_, rfl⟩
  obtain ⟨lb, hlenb⟩ : ∃ lb, b.drop p = lb := ⟨_, rfl⟩
  have hna : la.length + p = a.length := by rw [← hlen, List.length_drop]; omega
  have hnb : lb.length + p = b.length := by rw [← hlenb, List.length_drop]; omega
  have hsla : ∀ s ∈ la, s.length ≤ 1000 := fun s hs => hsa s (by rw [← hlen] at hs; exact List.mem_of_mem_drop hs)
  have hslb : ∀ s ∈ lb, s.length ≤ 1000 := fun s hs => hsb s (by rw [← hlenb] at hs; exact List.mem_of_mem_drop hs)
  rw [hlen] at ha2 ra1 ra2 ⊢
  rw [hlenb] at hb2 rb1 rb2 ⊢
  have HA := Lib.hid ha2
  have HB := Lib.hid hb2
  have HSA := Lib.hid hsla
  have HSB := Lib.hid hslb
  clear ha hb hsa hsb hlen hlenb hsla hslb ha2 hb2 hca hca2 hcb hcb2
  have hmm := @run_makeMap Try.prog
  obtain ⟨iI, hiI, hzI, hkI, hbI⟩ := info_parts Try.infoIt
  have e2 : (a.length : Int) - (p : Int) = (la.length : Int) := by omega
  have m1 := fun wx => make_at (P := Try.prog) 66 4 _ _ rfl Try.infoBo (by omega) la.length (by omega) wx
  go_enter Try.func26, Try.ntmps26
  go_wp2
  go_loopw [24] (fun i wr => ∃ k : Nat, k ≤ la.length ∧ i = .int .i64 k ∧ wr.ownsMap Try.prog 9 (plainElem Try.prog 3) w.heap.size k (numD (la.take k)) ∧ Below w.heap.size w wr) (fun i _ => la.length - (intOf i).toNat)
  case atStart => exact ⟨0, Nat.zero_le _, rfl, World.ownsMap_made _ _ _ _, (Below.refl _ _).alloc (Nat.le_refl _) _⟩
  case round =>
    obtain ⟨k, hk, rfl, hown, hnx⟩ := hrel
    by_cases hlt : k < la.length
    · obtain ⟨ba, oa, rfl, h0⟩ := (HA.out.below hnx).str k hlt
      have hlt' : (k : Int) < (la.length : Int) := by omega
      have hkey := key_ok (HSA.out _ (List.getElem_mem hlt))
      have HT := Lib.hid (take_next hlt)
      obtain ⟨s, hs⟩ : ∃ s, la[k] = s := ⟨_, rfl⟩
      rw [hs] at h0 hkey HT
      clear hs
      go_wp2_with (first
        | (at_mapUpdate; refine wpList_mapUpdate_own _ rfl _ _ _ 65 rfl 9 3 Try.lawS Try.underlying65 _ w.heap.size k _ rfl hown (by unfold maxLen; omega) _ _ _ rfl rfl hkey _ [] (plainElem_int Try.underlying3 (WalkArith.wf_i64 (by omega))) ?_)
        | go_in)
      intro w1 hown1 hgrow1
      have R1 := Lib.hid hown1
      have R2 := Lib.hid (hnx.grown hgrow1 hnx.size (fun j hj => by cases hj; exact Nat.le_refl _))
      clear hown1 hgrow1 hown hnx h0
      go_wp2
      go_roundw
      case rel => exact ⟨k + 1, by omega, by go_num, by rw [HT.out, numD_snoc, List.length_take, Nat.min_eq_left hk]; exact R1.out, R2.out⟩
      case measure => simp [intOf]; omega
    · have hlt' : ¬ (k : Int) < (la.length : Int) := by omega
      obtain rfl : k = la.length := by omega
      rw [List.take_length] at hown
      go_wp2
      obtain ⟨Fb, hFb⟩ : ∃ Fb, wr.heap.size = Fb := ⟨_, rfl⟩
      obtain ⟨W1, hW1⟩ : ∃ W1, wr.alloc (.cells (madeCells #[.bool false] la.length) 4) = W1 := ⟨_, rfl⟩
      have f1 : Blk Fb 4 (madeCells #[.bool false] la.length) W1 := by rw [← hW1, ← hFb]; exact Blk.new _ _ _
      have hs1 : W1.heap.size = Fb + 1 := by rw [← hW1, ← hFb]; simp
      have hown1 := hown.alloc (.cells (madeCells #[.bool false] la.length) 4)
      rw [hW1] at hown1
      have hwF : w.heap.size < Fb := by rw [← hFb]; exact hown.lt
      have B1 : Below w.heap.size w W1 := by rw [← hW1]; exact hnx.alloc hnx.size _
      rw [hFb, hW1]
      clear m1 hown hnx hW1 hFb hmm rb1 rb2
      go_loopw [7, 42] (fun vy i wr => ∃ k : Nat, k ≤ lb.length ∧ i = .int .i64 k ∧ wr.ownsMap Try.prog 9 (plainElem Try.prog 3) w.heap.size la.length (numD la) ∧ (∃ cs, Blk Fb 4 cs wr ∧ cs.size = la.length ∧ ∀ j, j < la.length → cs[j]? = some (.bool (fnd la (lb.take k) j))) ∧ Own1 2 encP wr (Fb + 1) 69 vy (itemsOf la la p (lb.take k)) ∧ Below w.heap.size w wr) (fun _ i _ => lb.length - (intOf i).toNat)
      case atStart => exact ⟨0, Nat.zero_le _, rfl, hown1, ⟨_, f1, by simp [size_madeCells], fun j hj => made_get _ _ _ hj⟩, own1_nil _ _ _, B1⟩
      case round =>
        obtain ⟨k, hk, rfl, hown, ⟨cs, hcs, hcz, hfn⟩, hy, hnx⟩ := hrel
        by_cases hlt2 : k < lb.length
        · obtain ⟨bb, ob, rfl, h0⟩ := (HB.out.below hnx).str k hlt2
          have hlt2' : (k : Int) < (lb.length : Int) := by omega
          have hkey := key_ok (HSB.out _ (List.getElem_mem hlt2))
          have HT := Lib.hid (take_next hlt2)
          obtain ⟨s, hs⟩ : ∃ s, lb[k] = s := ⟨_, rfl⟩
          rw [hs] at h0 hkey HT
          clear hs
          have hhas := numD_has s _ la rfl
          have hat0 := numD_at s _ la rfl
          obtain ⟨c, hc⟩ : ∃ c, num la s = c := ⟨_, rfl⟩
          by_cases hm : s ∈ la
          · have hcl : c < la.length := by rw [← hc]; exact (num_get s _ la rfl hm).1
            rw [decide_eq_true hm] at hhas
            rw [hc] at hat0
            obtain ⟨ub, hub⟩ : ∃ ub, wr.cell? ⟨Fb, c, none⟩ = some ub := by rw [hcs.cell]; exact ⟨_, Array.getElem?_eq_getElem (by omega)⟩
            have hfz := hcs.frozen c
            have hcl' : (c : Int) < (la.length : Int) := by omega
            have HC := Lib.hid hc
            have HM := Lib.hid hm
            have HH := Lib.hid hhas
            have HD := Lib.hid hat0
            have HF := Lib.hid hfn
            have HCS := Lib.hid hcs
            have HY := Lib.hid hy
            have HN := Lib.hid hnx
            clear hc hm hhas hat0 hfn hcs hy hnx
            go_wp2_with (first
              | (at_lookup; refine wpList_lookup_own_ok_int _ rfl _ _ 65 rfl 9 3 .i64 Try.lawS Try.underlying65 Try.underlying3 (Try.zeroI _) w.heap.size la.length (numD la) rfl hown _ _ rfl hkey ?_; intro c' hat hwc; obtain rfl : c' = (c : Int) := lit_inj (HD.out.symm.trans hat); rw [HH.out]; clear hat hwc)
              | (at_builtin; refine wpList_append_at (w0 := wr.setCell ⟨Fb, c, none⟩ (.bool true)) (x := (p + k, c)) (N := wr.heap.size) (by simp) rfl _ _ 50 rfl (Fb + 1) iI _ 16 Try.underlying50 hiI hzI hkI hbI (by omega) rfl (by omega) encP_len encP_one _ _ (by simp [encP]) rfl (own_far HY.out (fun g hg => Below.heap_setCell _ _ _ _ (by show g ≠ Fb; omega))) rfl (by have := itemsOf_length la la p (lb.take k); rw [List.length_take] at this; omega) (by have := HCS.out.lt; omega) ?_; intro v' w1 y1 y2 y3)
              | go_in)
            have HM1 := Lib.hid ((hown.setCell (a := ⟨Fb, c, none⟩) (by show w.heap.size ≠ Fb; omega) (.bool true)).kept y3 (fun e => by have := (World.ownsRow.lt HY.out _ e.symm).1; omega))
            have HF1 := Lib.hid ((HCS.out.put c (.bool true)).belowAt y2 (by omega))
            have HY1 := Lib.hid y1
            have HN1 := Lib.hid ((HN.out.setCell (p := ⟨Fb, c, none⟩) (show w.heap.size ≤ Fb by omega) (.bool true)).trans (y2.mono (by omega)))
            clear y1 y2 y3 hown
            go_wp2
            go_roundw
            case rel =>
              refine ⟨k + 1, by omega, by go_num, HM1.out, ⟨_, HF1.out, by simp [hcz], fun j hj => ?_⟩, by rw [HT.out, itemsOf_snoc, if_pos HM.out, List.length_take, Nat.min_eq_left hk, HC.out]; exact HY1.out, HN1.out⟩
              rw [HT.out, fnd_snoc, decide_eq_true HM.out, HC.out, Array.getElem?_setIfInBounds]
              by_cases e : c = j
              · subst e
                rw [if_pos rfl, if_pos (by omega)]
                simp
              · rw [if_neg e, HF.out j hj]
                simp [e]
            case measure => simp [intOf]; omega
          · rw [decide_eq_false hm] at hhas
            rw [hc] at hat0
            have HH := Lib.hid hhas
            have HD := Lib.hid hat0
            have HM := Lib.hid hm
            have HF := Lib.hid hfn
            have HCS := Lib.hid hcs
            have HY := Lib.hid hy
            have HN := Lib.hid hnx
            clear hc hm hhas hat0 hfn hcs hy hnx
            go_wp2_with (first
              | (at_lookup; refine wpList_lookup_own_ok_int _ rfl _ _ 65 rfl 9 3 .i64 Try.lawS Try.underlying65 Try.underlying3 (Try.zeroI _) w.heap.size la.length (numD la) rfl hown _ _ rfl hkey ?_; intro c' hat hwc; rw [HH.out]; clear hat hwc)
              | go_in)
            go_roundw
            case rel => exact ⟨k + 1, by omega, by go_num, hown, ⟨cs, HCS.out, hcz, fun j hj => by rw [HF.out j hj, HT.out, fnd_snoc, decide_eq_false HM.out]; simp⟩, by rw [HT.out, itemsOf_snoc, if_neg HM.out, List.append_nil]; exact HY.out, HN.out⟩
            case measure => simp [intOf]; omega
        · have hlt2' : ¬ (k : Int) < (lb.length : Int) := by omega
          obtain rfl : k = lb.length := by omega
          rw [List.take_length] at hfn hy
          obtain ⟨vy, hvy⟩ : ∃ vy, u7 = vy := ⟨_, rfl⟩
          rw [hvy] at hy ⊢
          have HMp := Lib.hid hown
          have HF := Lib.hid hfn
          have HCS := Lib.hid hcs
          have HY := Lib.hid hy
          have HN := Lib.hid hnx
          obtain ⟨W3, hW3⟩ : ∃ W3, wr = W3 := ⟨_, rfl⟩
          rw [hW3] at HMp HCS HY HN
          clear hown hfn hcs hy hnx hvy
          go_wp2
          clear hW3
          go_loopw [6, 70] (fun vx i wr => ∃ k : Nat, k ≤ la.length ∧ i = .int .i64 k ∧ Own1 2 encP wr W3.heap.size 69 vx (itemsOf la lb p (la.take k)) ∧ Below W3.heap.size W3 wr) (fun _ i _ => la.length - (intOf i).toNat)
          case atStart => exact ⟨0, Nat.zero_le _, rfl, own1_nil _ _ _, Below.refl _ _⟩
          case round =>
            obtain ⟨k, hk, rfl, hx, hb3⟩ := hrel
            have hz3 := HN.out.size
            by_cases hlt3 : k < la.length
            · obtain ⟨ba, oa, rfl, h0⟩ := ((HA.out.below HN.out).below (hb3.mono (Nat.le_refl _))).str k hlt3
              have hlt3' : (k : Int) < (la.length : Int) := by omega
              have hkey := key_ok (HSA.out _ (List.getElem_mem hlt3))
              have HT := Lib.hid (take_next hlt3)
              have hm : la[k] ∈ la := List.getElem_mem hlt3
              obtain ⟨s, hs⟩ : ∃ s, la[k] = s := ⟨_, rfl⟩
              rw [hs] at h0 hkey HT hm
              clear hs
              have hat0 := numD_at s _ la rfl
              obtain ⟨c, hc⟩ : ∃ c, num la s = c := ⟨_, rfl⟩
              have hcl : c < la.length := by rw [← hc]; exact (num_get s _ la rfl hm).1
              rw [hc] at hat0
              have hcl' : (c : Int) < (la.length : Int) := by omega
              have hfc : wr.cell? ⟨Fb, c, none⟩ = some (.bool (fnd la lb c)) := by rw [(HCS.out.belowAt hb3 HCS.out.lt).cell, HF.out c hcl]
              rw [← hc, fnd_all hm, hc] at hfc
              have hown : wr.ownsMap Try.prog 9 (plainElem Try.prog 3) w.heap.size la.length (numD la) := own_map_below HMp.out hb3
              have HC := Lib.hid hc
              have HM := Lib.hid hm
              have HD := Lib.hid hat0
              have HX := Lib.hid hx
              have HB3 := Lib.hid hb3
              clear hc hm hat0 hx hb3
              by_cases hsb : s ∈ lb
              · rw [decide_eq_true hsb] at hfc
                have HSb := Lib.hid hsb
                clear hsb
                go_wp2_with (first
                  | (at_lookup; refine wpList_lookup_own_int _ rfl _ _ 65 rfl 9 3 .i64 Try.lawS Try.underlying65 Try.underlying3 (Try.zeroI _) w.heap.size la.length (numD la) rfl hown _ _ rfl hkey ?_; intro c' hat hwc; obtain rfl : c' = (c : Int) := lit_inj (HD.out.symm.trans hat); clear hat hwc)
                  | (at_builtin; refine wpList_append_at (w0 := wr) (x := (p + k, c)) (N := wr.heap.size) rfl rfl _ _ 50 rfl W3.heap.size iI _ 16 Try.underlying50 hiI hzI hkI hbI (by omega) rfl (by omega) encP_len encP_one _ _ (by simp [encP]) rfl HX.out rfl (by have := itemsOf_length la lb p (la.take k); rw [List.length_take] at this; omega) HB3.out.size ?_; intro v' w1 y1 y2 y3)
                  | go_in)
                have HY1 := Lib.hid y1
                have HN1 := Lib.hid (HB3.out.trans y2)
                clear y1 y2 y3 hown
                go_wp2
                go_roundw
                case rel => exact ⟨k + 1, by omega, by go_num, by rw [HT.out, itemsOf_snoc, if_pos HSb.out, List.length_take, Nat.min_eq_left hk, HC.out]; exact HY1.out, HN1.out⟩
                case measure => simp [intOf]; omega
              · rw [decide_eq_false hsb] at hfc
                have HSb := Lib.hid hsb
                clear hsb
                go_wp2_with (first
                  | (at_lookup; refine wpList_lookup_own_int _ rfl _ _ 65 rfl 9 3 .i64 Try.lawS Try.underlying65 Try.underlying3 (Try.zeroI _) w.heap.size la.length (numD la) rfl hown _ _ rfl hkey ?_; intro c' hat hwc; obtain rfl : c' = (c : Int) := lit_inj (HD.out.symm.trans hat); clear hat hwc)
                  | go_in)
                go_roundw
                case rel => exact ⟨k + 1, by omega, by go_num, by rw [HT.out, itemsOf_snoc, if_neg HSb.out, List.append_nil]; exact HX.out, HB3.out⟩
                case measure => simp [intOf]; omega
            · have hlt3' : ¬ (k : Int) < (la.length : Int) := by omega
              obtain rfl : k = la.length := by omega
              rw [List.take_length] at hx
              have HX := Lib.hid hx
              have HB3 := Lib.hid hb3
              clear hx hb3
              go_wp2
              go_ret2
              exact ⟨_, _, rfl, HX.out.base hz3, (HY.out.below HB3.out).base (by omega), HN.out.trans (HB3.out.mono hz3)⟩
end Go.Proofs.Ytcnjomkddbbopaa
