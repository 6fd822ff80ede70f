/- slices.IndexFunc, slices.ContainsFunc at spans, relations and lists of relations, at whatever function value. Of condition: all at spans and at relations, isValid, Valid. -/
import Derived.Test.YtnabklhkalnpiaaGreatDoorCc
namespace Go.Proofs.YtnabklhkalnpiaaGreatDoor
open Go.RowKit
set_option linter.unusedVariables false

theorem any_take_miss {α : Type} {l : List α} {q : α → Bool} (h : ∀ (j : Nat) (hj : j < l.length), j < l.length → q l[j] = false) : l.any q = false := by
  rw [List.any_eq_false]
  intro x hx
  obtain ⟨j, hj, rfl⟩ := List.getElem_of_mem hx
  rw [h j hj hj]; simp
theorem any_hit {α : Type} {l : List α} {q : α → Bool} {j : Nat} (hj : j < l.length) (h : q l[j] = true) : l.any q = true := List.any_eq_true.2 ⟨_, List.getElem_mem hj, h⟩

set_option maxRecDepth 1000000 in
set_option maxHeartbeats 1000000 in
theorem indexSpan_any (v : Value) (l : List (Int × Int)) (q : Int × Int → Bool) (g : Nat) (lb : Array Value) (eg : ∀ args w, (callFunc g args).run Tryz.prog w = .ok (.enter g args) w) (w : World) (hv : Rd 2 encP w v l)
    (hF : ∀ (W : World) (s : Int × Int), s ∈ l → Below w.heap.size w W → Calls Tryz.prog g (#[.agg #[.int .i64 s.1, .int .i64 s.2]] ++ lb) W fun e w' => e = .returned (.bool (q s)) ∧ Below W.heap.size W w') :
    Calls Tryz.prog 92 #[v, .func (.func g) #[] lb] w fun e w' => (∃ r : Int, e = .returned (.int .i64 r) ∧ decide (0 ≤ r) = l.any q) ∧ Below w.heap.size w w' := by
  obtain ⟨a, c, rfl, hc1, hc2⟩ := hv.slice
  have HU := Lib.hid hv
  have HF := Lib.hid hF
  clear hv hF
  go_enter Tryz.func92, Tryz.ntmps92
  go_wp2
  go_loopw [8] (fun v wr => ∃ k : Nat, k ≤ l.length ∧ v = .int .i64 k ∧ (∀ (j : Nat) (hj : j < l.length), j < k → q l[j] = false) ∧ Below w.heap.size w wr) (fun v _ => l.length - (intOf v).toNat)
  case atStart => exact ⟨0, Nat.zero_le _, rfl, fun j _ h => by omega, Below.refl _ _⟩
  case round =>
    obtain ⟨k, hk, rfl, hkd, hb⟩ := hrel
    have HK := Lib.hid hkd
    have HB := Lib.hid hb
    have zr := hb.size
    clear hkd hb
    by_cases hlt : k < l.length
    · obtain ⟨bk, off, rfl, h0, h1⟩ := (HU.out.below HB.out).span k hlt
      have h9 : (k : Int) < (l.length : Int) := by omega
      have hcall := HF.out wr l[k] (List.getElem_mem hlt) HB.out
      have HE : Hid (∀ b, q l[k] = b → l[k] = l[k]) := Lib.hid (fun _ _ => rfl)
      obtain ⟨qb, hqb⟩ : ∃ qb, q l[k] = qb := ⟨_, rfl⟩
      have HQ := Lib.hid hqb
      rw [hqb] at hcall
      have HC := Lib.hid hcall
      clear hqb hcall HE
      cases qb with
      | true =>
        go_wp2_with (go_at_fn g; refine (HC.out).mono ?_; rintro e w2 ⟨rfl, b2⟩)
        have HB2 := Lib.hid (st HB.out b2 zr)
        clear b2
        go_wp2
        go_ret
        refine ⟨⟨_, rfl, ?_⟩, HB2.out⟩
        rw [any_hit hlt HQ.out]
        simp
      | false =>
        go_wp2_with (go_at_fn g; refine (HC.out).mono ?_; rintro e w2 ⟨rfl, b2⟩)
        have HB2 := Lib.hid (st HB.out b2 zr)
        clear b2
        go_wp2
        go_roundw
        case measure => simp [intOf]; omega
        case rel => exact ⟨k + 1, by omega, by go_num, fun j hj hjk => by
          rcases Nat.lt_or_ge j k with h | h
          · exact HK.out j hj h
          · obtain rfl : j = k := by omega
            exact HQ.out, HB2.out⟩
    · obtain rfl : k = l.length := by omega
      have h3 : ¬ (l.length : Int) < (l.length : Int) := by omega
      go_wp2
      go_ret
      refine ⟨⟨_, rfl, ?_⟩, HB.out⟩
      rw [any_take_miss HK.out]
      rfl
set_option maxRecDepth 1000000 in
set_option maxHeartbeats 1000000 in
theorem containsSpan_any (v : Value) (l : List (Int × Int)) (q : Int × Int → Bool) (g : Nat) (lb : Array Value) (eg : ∀ args w, (callFunc g args).run Tryz.prog w = .ok (.enter g args) w) (w : World) (hv : Rd 2 encP w v l)
    (hF : ∀ (W : World) (s : Int × Int), s ∈ l → Below w.heap.size w W → Calls Tryz.prog g (#[.agg #[.int .i64 s.1, .int .i64 s.2]] ++ lb) W fun e w' => e = .returned (.bool (q s)) ∧ Below W.heap.size W w') :
    Calls Tryz.prog 68 #[v, .func (.func g) #[] lb] w fun e w' => e = .returned (.bool (l.any q)) ∧ Below w.heap.size w w' := by
  obtain ⟨a, c, rfl, hc1, hc2⟩ := hv.slice
  have HU := Lib.hid hv
  have HF := Lib.hid hF
  clear hv hF
  go_enter Tryz.func68, Tryz.ntmps68
  go_wp2_with fail
  refine (indexSpan_any _ l q g lb eg _ HU.out HF.out).mono ?_
  rintro e w2 ⟨⟨r, rfl, hr⟩, b2⟩
  have HB2 := Lib.hid b2
  have HR := Lib.hid hr
  clear b2 hr
  go_wp2
  go_ret
  exact ⟨by rw [← HR.out]; rfl, HB2.out⟩

set_option maxRecDepth 1000000 in
set_option maxHeartbeats 1000000 in
theorem indexRel_any (v : Value) (l : List Rel) (q : Rel → Bool) (g : Nat) (lb : Array Value) (eg : ∀ args w, (callFunc g args).run Tryz.prog w = .ok (.enter g args) w) (w : World) (hv : RdRels w v l)
    (hF : ∀ (W : World) (r : Rel) (a2 : Option Addr) (c2 : Nat), r ∈ l → Below w.heap.size w W → Rd 2 encP W (.slice a2 r.sp.length c2) r.sp → Calls Tryz.prog g (#[.agg #[.int .i64 r.op, .int .i64 r.md, .bool r.nt, .slice a2 r.sp.length c2]] ++ lb) W fun e w' => e = .returned (.bool (q r)) ∧ Below W.heap.size W w') :
    Calls Tryz.prog 78 #[v, .func (.func g) #[] lb] w fun e w' => (∃ r : Int, e = .returned (.int .i64 r) ∧ decide (0 ≤ r) = l.any q) ∧ Below w.heap.size w w' := by
  obtain ⟨a, c, rfl, hc1, hc2⟩ := hv.slice
  have HU := Lib.hid hv
  have HF := Lib.hid hF
  clear hv hF
  go_enter Tryz.func78, Tryz.ntmps78
  go_wp2
  go_loopw [8] (fun v wr => ∃ k : Nat, k ≤ l.length ∧ v = .int .i64 k ∧ (∀ (j : Nat) (hj : j < l.length), j < k → q l[j] = false) ∧ Below w.heap.size w wr) (fun v _ => l.length - (intOf v).toNat)
  case atStart => exact ⟨0, Nat.zero_le _, rfl, fun j _ h => by omega, Below.refl _ _⟩
  case round =>
    obtain ⟨k, hk, rfl, hkd, hb⟩ := hrel
    have HK := Lib.hid hkd
    have HB := Lib.hid hb
    have zr := hb.size
    clear hkd hb
    by_cases hlt : k < l.length
    · obtain ⟨bk, off, x1, x2, rfl, h0, h1, h2, h3, h4⟩ := (HU.out.below HB.out).at_ k hlt
      have h9 : (k : Int) < (l.length : Int) := by omega
      have hcall := HF.out wr l[k] x1 x2 (List.getElem_mem hlt) HB.out h4
      have HE : Hid (∀ b, q l[k] = b → l[k] = l[k]) := Lib.hid (fun _ _ => rfl)
      obtain ⟨qb, hqb⟩ : ∃ qb, q l[k] = qb := ⟨_, rfl⟩
      have HQ := Lib.hid hqb
      rw [hqb] at hcall
      have HC := Lib.hid hcall
      clear hqb hcall HE
      cases qb with
      | true =>
        go_wp2_with (go_at_fn g; refine (HC.out).mono ?_; rintro e w2 ⟨rfl, b2⟩)
        have HB2 := Lib.hid (st HB.out b2 zr)
        clear b2
        go_wp2
        go_ret
        refine ⟨⟨_, rfl, ?_⟩, HB2.out⟩
        rw [any_hit hlt HQ.out]
        simp
      | false =>
        go_wp2_with (go_at_fn g; refine (HC.out).mono ?_; rintro e w2 ⟨rfl, b2⟩)
        have HB2 := Lib.hid (st HB.out b2 zr)
        clear b2
        go_wp2
        go_roundw
        case measure => simp [intOf]; omega
        case rel => exact ⟨k + 1, by omega, by go_num, fun j hj hjk => by
          rcases Nat.lt_or_ge j k with h | h
          · exact HK.out j hj h
          · obtain rfl : j = k := by omega
            exact HQ.out, HB2.out⟩
    · obtain rfl : k = l.length := by omega
      have h3 : ¬ (l.length : Int) < (l.length : Int) := by omega
      go_wp2
      go_ret
      refine ⟨⟨_, rfl, ?_⟩, HB.out⟩
      rw [any_take_miss HK.out]
      rfl
set_option maxRecDepth 1000000 in
set_option maxHeartbeats 1000000 in
theorem containsRel_any (v : Value) (l : List Rel) (q : Rel → Bool) (g : Nat) (lb : Array Value) (eg : ∀ args w, (callFunc g args).run Tryz.prog w = .ok (.enter g args) w) (w : World) (hv : RdRels w v l)
    (hF : ∀ (W : World) (r : Rel) (a2 : Option Addr) (c2 : Nat), r ∈ l → Below w.heap.size w W → Rd 2 encP W (.slice a2 r.sp.length c2) r.sp → Calls Tryz.prog g (#[.agg #[.int .i64 r.op, .int .i64 r.md, .bool r.nt, .slice a2 r.sp.length c2]] ++ lb) W fun e w' => e = .returned (.bool (q r)) ∧ Below W.heap.size W w') :
    Calls Tryz.prog 50 #[v, .func (.func g) #[] lb] w fun e w' => e = .returned (.bool (l.any q)) ∧ Below w.heap.size w w' := by
  obtain ⟨a, c, rfl, hc1, hc2⟩ := hv.slice
  have HU := Lib.hid hv
  have HF := Lib.hid hF
  clear hv hF
  go_enter Tryz.func50, Tryz.ntmps50
  go_wp2_with fail
  refine (indexRel_any _ l q g lb eg _ HU.out HF.out).mono ?_
  rintro e w2 ⟨⟨r, rfl, hr⟩, b2⟩
  have HB2 := Lib.hid b2
  have HR := Lib.hid hr
  clear b2 hr
  go_wp2
  go_ret
  exact ⟨by rw [← HR.out]; rfl, HB2.out⟩

set_option maxRecDepth 1000000 in
set_option maxHeartbeats 1000000 in
theorem indexLst_any (v : Value) (l : Cnd) (q : List Rel → Bool) (g : Nat) (lb : Array Value) (eg : ∀ args w, (callFunc g args).run Tryz.prog w = .ok (.enter g args) w) (w : World) (hv : RdC w v l)
    (hF : ∀ (W : World) (m : List Rel) (a2 : Option Addr) (c2 : Nat), m ∈ l → Below w.heap.size w W → RdRels W (.slice a2 m.length c2) m → Calls Tryz.prog g (#[.slice a2 m.length c2] ++ lb) W fun e w' => e = .returned (.bool (q m)) ∧ Below W.heap.size W w') :
    Calls Tryz.prog 66 #[v, .func (.func g) #[] lb] w fun e w' => (∃ r : Int, e = .returned (.int .i64 r) ∧ decide (0 ≤ r) = l.any q) ∧ Below w.heap.size w w' := by
  obtain ⟨a, c, rfl, hc1, hc2⟩ := hv.slice
  have HU := Lib.hid hv
  have HF := Lib.hid hF
  clear hv hF
  go_enter Tryz.func66, Tryz.ntmps66
  go_wp2
  go_loopw [8] (fun v wr => ∃ k : Nat, k ≤ l.length ∧ v = .int .i64 k ∧ (∀ (j : Nat) (hj : j < l.length), j < k → q l[j] = false) ∧ Below w.heap.size w wr) (fun v _ => l.length - (intOf v).toNat)
  case atStart => exact ⟨0, Nat.zero_le _, rfl, fun j _ h => by omega, Below.refl _ _⟩
  case round =>
    obtain ⟨k, hk, rfl, hkd, hb⟩ := hrel
    have HK := Lib.hid hkd
    have HB := Lib.hid hb
    have zr := hb.size
    clear hkd hb
    by_cases hlt : k < l.length
    · obtain ⟨bk, off, x1, x2, rfl, h0, h4⟩ := (HU.out.below HB.out).at_ k hlt
      have h9 : (k : Int) < (l.length : Int) := by omega
      have hcall := HF.out wr l[k] x1 x2 (List.getElem_mem hlt) HB.out h4
      have HE : Hid (∀ b, q l[k] = b → l[k] = l[k]) := Lib.hid (fun _ _ => rfl)
      obtain ⟨qb, hqb⟩ : ∃ qb, q l[k] = qb := ⟨_, rfl⟩
      have HQ := Lib.hid hqb
      rw [hqb] at hcall
      have HC := Lib.hid hcall
      clear hqb hcall HE
      cases qb with
      | true =>
        go_wp2_with (go_at_fn g; refine (HC.out).mono ?_; rintro e w2 ⟨rfl, b2⟩)
        have HB2 := Lib.hid (st HB.out b2 zr)
        clear b2
        go_wp2
        go_ret
        refine ⟨⟨_, rfl, ?_⟩, HB2.out⟩
        rw [any_hit hlt HQ.out]
        simp
      | false =>
        go_wp2_with (go_at_fn g; refine (HC.out).mono ?_; rintro e w2 ⟨rfl, b2⟩)
        have HB2 := Lib.hid (st HB.out b2 zr)
        clear b2
        go_wp2
        go_roundw
        case measure => simp [intOf]; omega
        case rel => exact ⟨k + 1, by omega, by go_num, fun j hj hjk => by
          rcases Nat.lt_or_ge j k with h | h
          · exact HK.out j hj h
          · obtain rfl : j = k := by omega
            exact HQ.out, HB2.out⟩
    · obtain rfl : k = l.length := by omega
      have h3 : ¬ (l.length : Int) < (l.length : Int) := by omega
      go_wp2
      go_ret
      refine ⟨⟨_, rfl, ?_⟩, HB.out⟩
      rw [any_take_miss HK.out]
      rfl
set_option maxRecDepth 1000000 in
set_option maxHeartbeats 1000000 in
theorem containsLst_any (v : Value) (l : Cnd) (q : List Rel → Bool) (g : Nat) (lb : Array Value) (eg : ∀ args w, (callFunc g args).run Tryz.prog w = .ok (.enter g args) w) (w : World) (hv : RdC w v l)
    (hF : ∀ (W : World) (m : List Rel) (a2 : Option Addr) (c2 : Nat), m ∈ l → Below w.heap.size w W → RdRels W (.slice a2 m.length c2) m → Calls Tryz.prog g (#[.slice a2 m.length c2] ++ lb) W fun e w' => e = .returned (.bool (q m)) ∧ Below W.heap.size W w') :
    Calls Tryz.prog 38 #[v, .func (.func g) #[] lb] w fun e w' => e = .returned (.bool (l.any q)) ∧ Below w.heap.size w w' := by
  obtain ⟨a, c, rfl, hc1, hc2⟩ := hv.slice
  have HU := Lib.hid hv
  have HF := Lib.hid hF
  clear hv hF
  go_enter Tryz.func38, Tryz.ntmps38
  go_wp2_with fail
  refine (indexLst_any _ l q g lb eg _ HU.out HF.out).mono ?_
  rintro e w2 ⟨⟨r, rfl, hr⟩, b2⟩
  have HB2 := Lib.hid b2
  have HR := Lib.hid hr
  clear b2 hr
  go_wp2
  go_ret
  exact ⟨by rw [← HR.out]; rfl, HB2.out⟩

end Go.Proofs.YtnabklhkalnpiaaGreatDoor

namespace Go.Proofs.YtnabklhkalnpiaaGreatDoor
open Go.RowKit
set_option linter.unusedVariables false

theorem not_any_not {α : Type} (l : List α) (q : α → Bool) : (!l.any fun x => !q x) = l.all q := by
  induction l with
  | nil => rfl
  | cons x l ih => simp only [List.any_cons, List.all_cons]; rw [← ih]; cases q x <;> simp

set_option maxRecDepth 1000000 in
set_option maxHeartbeats 1000000 in
theorem allSpan1_any (s : Int × Int) (b : Bool) (B : Nat) (g : Nat) (lb : Array Value) (eg : ∀ args w, (callFunc g args).run Tryz.prog w = .ok (.enter g args) w) (W : World) (hc : W.cell? ⟨B, 0, none⟩ = some (.func (.func g) #[] lb)) (hB : B < W.heap.size)
    (hF : ∀ W1, Below W.heap.size W W1 → Calls Tryz.prog g (#[.agg #[.int .i64 s.1, .int .i64 s.2]] ++ lb) W1 fun e w' => e = .returned (.bool b) ∧ Below W1.heap.size W1 w') :
    Calls Tryz.prog 80 (#[.agg #[.int .i64 s.1, .int .i64 s.2]] ++ #[.pointer (some ⟨B, 0, none⟩)]) W fun e w' => e = .returned (.bool (!b)) ∧ Below W.heap.size W w' := by
  have K := Lib.hid ((Below.refl W.heap.size W).alloc (Nat.le_refl _) (.cells #[.int .i64 s.1, .int .i64 s.2] 42))
  have HF := Lib.hid (hF _ K.out)
  have hc2 : (W.alloc (.cells #[.int .i64 s.1, .int .i64 s.2] 42)).cell? ⟨B, 0, none⟩ = some (.func (.func g) #[] lb) := (K.out.cell (p := ⟨B, 0, none⟩) hB).trans hc
  clear hF
  go_enter Tryz.func80, Tryz.ntmps80
  go_wp2_with (go_at_fn g; refine (HF.out).mono ?_; rintro e w2 ⟨rfl, b2⟩)
  have HB2 := Lib.hid (st K.out b2 K.out.size)
  clear b2
  go_wp2
  go_ret
  exact ⟨rfl, HB2.out⟩
set_option maxRecDepth 1000000 in
set_option maxHeartbeats 1000000 in
theorem allSpan_any (v : Value) (l : List (Int × Int)) (q : Int × Int → Bool) (g : Nat) (lb : Array Value) (eg : ∀ args w, (callFunc g args).run Tryz.prog w = .ok (.enter g args) w) (w : World) (hv : Rd 2 encP w v l)
    (hF : ∀ (W : World) (s : Int × Int), s ∈ l → Below w.heap.size w W → Calls Tryz.prog g (#[.agg #[.int .i64 s.1, .int .i64 s.2]] ++ lb) W fun e w' => e = .returned (.bool (q s)) ∧ Below W.heap.size W w') :
    Calls Tryz.prog 53 #[v, .func (.func g) #[] lb] w fun e w' => e = .returned (.bool (l.all q)) ∧ Below w.heap.size w w' := by
  obtain ⟨a, c, rfl, hc1, hc2⟩ := hv.slice
  have K := Lib.hid ((Below.refl w.heap.size w).alloc (Nat.le_refl _) (.cells #[.func (.func g) #[] lb] 72))
  have HU := Lib.hid (hv.below K.out)
  have HF := Lib.hid hF
  have KB := Lib.hid (Blk.new w 72 #[.func (.func g) #[] lb])
  have HL := Lib.hid (not_any_not l q)
  clear hv hF
  have zz : (w.alloc (.cells #[.func (.func g) #[] lb] 72)).heap.size = w.heap.size + 1 := by simp
  have HG : Hid (∀ (W : World) (s : Int × Int), s ∈ l → Below (w.alloc (.cells #[.func (.func g) #[] lb] 72)).heap.size (w.alloc (.cells #[.func (.func g) #[] lb] 72)) W → Calls Tryz.prog 80 (#[.agg #[.int .i64 s.1, .int .i64 s.2]] ++ #[.pointer (some ⟨w.heap.size, 0, none⟩)]) W fun e w' => e = .returned (.bool (!q s)) ∧ Below W.heap.size W w') := Lib.hid (fun W s hs hb => by
    have hb0 : Below w.heap.size w W := K.out.trans (hb.mono (by omega))
    have kb : Blk w.heap.size 72 #[.func (.func g) #[] lb] W := KB.out.below hb
    have hz := hb0.size
    exact allSpan1_any s (q s) w.heap.size g lb eg W (kb.cell 0) kb.lt (fun W1 hbb => HF.out W1 s hs (hb0.trans (hbb.mono (by omega)))))
  clear zz
  go_enter Tryz.func53, Tryz.ntmps53
  go_wp2_with fail
  refine (containsSpan_any _ l (fun x => !q x) 80 _ (enters_of Tryz.func80 (by kernel_rfl) rfl) _ HU.out HG.out).mono ?_
  rintro e w2 ⟨rfl, b2⟩
  have HB2 := Lib.hid (st K.out b2 K.out.size)
  clear b2
  go_wp2
  go_ret
  exact ⟨by rw [← HL.out]; rfl, HB2.out⟩

set_option maxRecDepth 1000000 in
set_option maxHeartbeats 1000000 in
theorem allRel1_any (r : Rel) (a2 : Option Addr) (c2 : Nat) (b : Bool) (B : Nat) (g : Nat) (lb : Array Value) (eg : ∀ args w, (callFunc g args).run Tryz.prog w = .ok (.enter g args) w) (W : World) (hc : W.cell? ⟨B, 0, none⟩ = some (.func (.func g) #[] lb)) (hB : B < W.heap.size)
    (hF : ∀ W1, Below W.heap.size W W1 → Calls Tryz.prog g (#[.agg #[.int .i64 r.op, .int .i64 r.md, .bool r.nt, .slice a2 r.sp.length c2]] ++ lb) W1 fun e w' => e = .returned (.bool b) ∧ Below W1.heap.size W1 w') :
    Calls Tryz.prog 51 (#[.agg #[.int .i64 r.op, .int .i64 r.md, .bool r.nt, .slice a2 r.sp.length c2]] ++ #[.pointer (some ⟨B, 0, none⟩)]) W fun e w' => e = .returned (.bool (!b)) ∧ Below W.heap.size W w' := by
  have K := Lib.hid ((Below.refl W.heap.size W).alloc (Nat.le_refl _) (.cells #[.int .i64 r.op, .int .i64 r.md, .bool r.nt, .slice a2 r.sp.length c2] 38))
  have HF := Lib.hid (hF _ K.out)
  have hc2 : (W.alloc (.cells #[.int .i64 r.op, .int .i64 r.md, .bool r.nt, .slice a2 r.sp.length c2] 38)).cell? ⟨B, 0, none⟩ = some (.func (.func g) #[] lb) := (K.out.cell (p := ⟨B, 0, none⟩) hB).trans hc
  clear hF
  go_enter Tryz.func51, Tryz.ntmps51
  go_wp2_with (go_at_fn g; refine (HF.out).mono ?_; rintro e w2 ⟨rfl, b2⟩)
  have HB2 := Lib.hid (st K.out b2 K.out.size)
  clear b2
  go_wp2
  go_ret
  exact ⟨rfl, HB2.out⟩
set_option maxRecDepth 1000000 in
set_option maxHeartbeats 1000000 in
theorem allRel_any (v : Value) (l : List Rel) (q : Rel → Bool) (g : Nat) (lb : Array Value) (eg : ∀ args w, (callFunc g args).run Tryz.prog w = .ok (.enter g args) w) (w : World) (hv : RdRels w v l)
    (hF : ∀ (W : World) (r : Rel) (a2 : Option Addr) (c2 : Nat), r ∈ l → Below w.heap.size w W → Rd 2 encP W (.slice a2 r.sp.length c2) r.sp → Calls Tryz.prog g (#[.agg #[.int .i64 r.op, .int .i64 r.md, .bool r.nt, .slice a2 r.sp.length c2]] ++ lb) W fun e w' => e = .returned (.bool (q r)) ∧ Below W.heap.size W w') :
    Calls Tryz.prog 27 #[v, .func (.func g) #[] lb] w fun e w' => e = .returned (.bool (l.all q)) ∧ Below w.heap.size w w' := by
  obtain ⟨a, c, rfl, hc1, hc2⟩ := hv.slice
  have K := Lib.hid ((Below.refl w.heap.size w).alloc (Nat.le_refl _) (.cells #[.func (.func g) #[] lb] 54))
  have HU := Lib.hid (hv.below K.out)
  have HF := Lib.hid hF
  have KB := Lib.hid (Blk.new w 54 #[.func (.func g) #[] lb])
  have HL := Lib.hid (not_any_not l q)
  clear hv hF
  have zz : (w.alloc (.cells #[.func (.func g) #[] lb] 54)).heap.size = w.heap.size + 1 := by simp
  have HG : Hid (∀ (W : World) (r : Rel) (a2 : Option Addr) (c2 : Nat), r ∈ l → Below (w.alloc (.cells #[.func (.func g) #[] lb] 54)).heap.size (w.alloc (.cells #[.func (.func g) #[] lb] 54)) W → Rd 2 encP W (.slice a2 r.sp.length c2) r.sp → Calls Tryz.prog 51 (#[.agg #[.int .i64 r.op, .int .i64 r.md, .bool r.nt, .slice a2 r.sp.length c2]] ++ #[.pointer (some ⟨w.heap.size, 0, none⟩)]) W fun e w' => e = .returned (.bool (!q r)) ∧ Below W.heap.size W w') := Lib.hid (fun W r a2 c2 hs hb hrd => by
    have hb0 : Below w.heap.size w W := K.out.trans (hb.mono (by omega))
    have kb : Blk w.heap.size 54 #[.func (.func g) #[] lb] W := KB.out.below hb
    have hz := hb0.size
    exact allRel1_any r a2 c2 (q r) w.heap.size g lb eg W (kb.cell 0) kb.lt (fun W1 hbb => HF.out W1 r a2 c2 hs (hb0.trans (hbb.mono (by omega))) (hrd.below hbb)))
  clear zz
  go_enter Tryz.func27, Tryz.ntmps27
  go_wp2_with fail
  refine (containsRel_any _ l (fun x => !q x) 51 _ (enters_of Tryz.func51 (by kernel_rfl) rfl) _ HU.out HG.out).mono ?_
  rintro e w2 ⟨rfl, b2⟩
  have HB2 := Lib.hid (st K.out b2 K.out.size)
  clear b2
  go_wp2
  go_ret
  exact ⟨by rw [← HL.out]; rfl, HB2.out⟩


def spV (s : Int × Int) : Value := .agg #[.int .i64 s.1, .int .i64 s.2]
set_option maxRecDepth 1000000 in
set_option maxHeartbeats 2000000 in
theorem isValid1_any (o : Int) (s : Int × Int) (B : Nat) (W : World) (hc : W.cell? ⟨B, 0, none⟩ = some (.int .i64 o)) (hB : B < W.heap.size) :
    Calls Tryz.prog 54 (#[.agg #[.int .i64 s.1, .int .i64 s.2]] ++ #[.pointer (some ⟨B, 0, none⟩)]) W fun e w' => e = .returned (.bool (okSp o s)) ∧ Below W.heap.size W w' := by
  obtain ⟨s1, s2⟩ := s
  have K := Lib.hid ((Below.refl W.heap.size W).alloc (Nat.le_refl _) (.cells #[.int .i64 s1, .int .i64 s2] 42))
  have hc2 : (W.alloc (.cells #[.int .i64 s1, .int .i64 s2] 42)).cell? ⟨B, 0, none⟩ = some (.int .i64 o) := (K.out.cell (p := ⟨B, 0, none⟩) hB).trans hc
  have HX : Hid (okSp o (s1, s2) = (okEnd o s1 && okEnd o s2 && decide (s1 ≤ s2))) := Lib.hid rfl
  clear hc
  go_enter Tryz.func54, Tryz.ntmps54
  go_wp2_with fail
  refine (isEnd_any o s1 _).mono ?_
  rintro e w' ⟨rfl, hw'⟩
  obtain rfl := hw'.symm
  obtain ⟨b1, hb1⟩ : ∃ b, okEnd o s1 = b := ⟨_, rfl⟩
  rw [hb1] at HX ⊢
  clear hb1
  cases b1 with
  | false =>
    go_wp2
    go_ret
    exact ⟨by rw [HX.out]; rfl, K.out⟩
  | true =>
    go_wp2_with fail
    refine (isEnd_any o s2 _).mono ?_
    rintro e w' ⟨rfl, hw'⟩
    obtain rfl := hw'.symm
    obtain ⟨b2, hb2⟩ : ∃ b, okEnd o s2 = b := ⟨_, rfl⟩
    rw [hb2] at HX ⊢
    clear hb2
    cases b2 with
    | false =>
      go_wp2
      go_ret
      exact ⟨by rw [HX.out]; rfl, K.out⟩
    | true =>
      go_wp2
      go_ret
      exact ⟨by rw [HX.out]; rfl, K.out⟩
set_option maxRecDepth 1000000 in
set_option maxHeartbeats 4000000 in
theorem isValid_any (r : Rel) (a2 : Option Addr) (c2 : Nat) (w : World) (hr : Rd 2 encP w (.slice a2 r.sp.length c2) r.sp) :
    Calls Tryz.prog 28 #[.agg #[.int .i64 r.op, .int .i64 r.md, .bool r.nt, .slice a2 r.sp.length c2]] w fun e w' => e = .returned (.bool (okR r)) ∧ Below w.heap.size w w' := by
  obtain ⟨o, m, nt, sp⟩ := r
  dsimp only at hr ⊢
  have HX : Hid (okR ⟨o, m, nt, sp⟩ = (decide (1 ≤ o) && decide (o ≤ 6) && okMod o m && decide (0 < sp.length) && decide (sp.length ≤ 4) && sp.all (okSp o))) := Lib.hid rfl
  have K := Lib.hid ((Below.refl w.heap.size w).alloc (Nat.le_refl _) (.cells #[.int .i64 o, .int .i64 m, .bool nt, .slice a2 sp.length c2] 38))
  have KB := Lib.hid (Blk.new w 38 #[.int .i64 o, .int .i64 m, .bool nt, .slice a2 sp.length c2])
  have HR := Lib.hid (hr.below K.out)
  clear hr
  by_cases h1 : o < 1
  · have HY : Hid (okR ⟨o, m, nt, sp⟩ = false) := Lib.hid (by rw [HX.out, decide_eq_false (by omega)]; rfl)
    clear HX
    go_enter Tryz.func28, Tryz.ntmps28
    go_wp2
    go_ret
    exact ⟨by rw [HY.out]; rfl, K.out⟩
  have h1' : decide (1 ≤ o) = true := decide_eq_true (by omega)
  by_cases h2 : 6 < o
  · have HY : Hid (okR ⟨o, m, nt, sp⟩ = false) := Lib.hid (by rw [HX.out, h1', decide_eq_false (by omega)]; rfl)
    clear HX h1'
    go_enter Tryz.func28, Tryz.ntmps28
    go_wp2
    go_ret
    exact ⟨by rw [HY.out]; rfl, K.out⟩
  have h2' : decide (o ≤ 6) = true := decide_eq_true (by omega)
  rw [h1', h2'] at HX
  clear h1' h2'
  go_enter Tryz.func28, Tryz.ntmps28
  go_wp2_with fail
  refine (isMod_any o m _).mono ?_
  rintro e w' ⟨rfl, hw'⟩
  obtain rfl := hw'.symm
  clear h1 h2
  obtain ⟨b1, hb1⟩ : ∃ b, okMod o m = b := ⟨_, rfl⟩
  rw [hb1] at HX ⊢
  clear hb1
  cases b1 with
  | false =>
    have HY : Hid (okR ⟨o, m, nt, sp⟩ = false) := Lib.hid (by rw [HX.out]; rfl)
    clear HX
    go_wp2
    go_ret
    exact ⟨by rw [HY.out]; rfl, K.out⟩
  | true =>
    by_cases h3 : sp.length = 0
    · have HY : Hid (okR ⟨o, m, nt, sp⟩ = false) := Lib.hid (by rw [HX.out, decide_eq_false (by omega : ¬ 0 < sp.length)]; rfl)
      have t3 : ((sp.length : Int) == 0) = true := by rw [beq_iff_eq]; omega
      clear HX h3
      go_wp2
      go_ret
      exact ⟨by rw [HY.out]; rfl, K.out⟩
    have t3 : ((sp.length : Int) == 0) = false := by rw [beq_eq_false_iff_ne]; omega
    have t3' : (sp.length == 0) = false := by rw [beq_eq_false_iff_ne]; omega
    by_cases h4 : 4 < sp.length
    · have HY : Hid (okR ⟨o, m, nt, sp⟩ = false) := Lib.hid (by rw [HX.out, decide_eq_true (by omega : 0 < sp.length), decide_eq_false (by omega : ¬ sp.length ≤ 4)]; rfl)
      have t4 : (4 : Int) < (sp.length : Int) := by omega
      clear HX h3
      go_wp2
      go_ret
      exact ⟨by rw [HY.out]; rfl, K.out⟩
    have t4 : ¬ (4 : Int) < (sp.length : Int) := by omega
    have HY : Hid (okR ⟨o, m, nt, sp⟩ = sp.all (okSp o)) := Lib.hid (by rw [HX.out, decide_eq_true (by omega : 0 < sp.length), decide_eq_true (by omega : sp.length ≤ 4)]; simp)
    have HG : Hid (∀ (W : World) (s : Int × Int), s ∈ sp → Below (w.alloc (.cells #[.int .i64 o, .int .i64 m, .bool nt, .slice a2 sp.length c2] 38)).heap.size (w.alloc (.cells #[.int .i64 o, .int .i64 m, .bool nt, .slice a2 sp.length c2] 38)) W → Calls Tryz.prog 54 (#[.agg #[.int .i64 s.1, .int .i64 s.2]] ++ #[.pointer (some ⟨w.heap.size, 0, none⟩)]) W fun e w' => e = .returned (.bool (okSp o s)) ∧ Below W.heap.size W w') := Lib.hid (fun W s _ hb => by
      have kb := KB.out.below hb
      exact isValid1_any o s w.heap.size W (kb.cell 0) kb.lt)
    clear HX h3 h4 KB
    go_wp2_with fail
    refine (allSpan_any _ sp (okSp o) 54 _ (enters_of Tryz.func54 (by kernel_rfl) rfl) _ HR.out HG.out).mono ?_
    rintro e w2 ⟨rfl, b2⟩
    have HB2 := Lib.hid (st K.out b2 K.out.size)
    clear b2
    rw [← HY.out]
    go_wp2
    go_ret
    exact ⟨rfl, HB2.out⟩
end Go.Proofs.YtnabklhkalnpiaaGreatDoor
