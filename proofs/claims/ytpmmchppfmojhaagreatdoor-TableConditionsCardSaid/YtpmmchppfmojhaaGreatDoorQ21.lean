/- What the row stands on, part 21. -/
import Derived.Test.YtpmmchppfmojhaaGreatDoorQ20

/- slices.IndexFunc, slices.ContainsFunc at the elements of tables, at whatever function value. -/
namespace Go.Proofs.YtpmmchppfmojhaaGreatDoor
open Go.RowKit
set_option linter.unusedVariables false

/-- The first index at which q holds, or -1. -/
def IdxP {α : Type} (l : List α) (q : α → Bool) (r : Int) : Prop := (∃ (i : Nat) (h : i < l.length), r = (i : Int) ∧ q l[i] = true ∧ ∀ (j : Nat) (hj : j < l.length), j < i → q l[j] = false) ∨ (r = -1 ∧ ∀ (j : Nat) (hj : j < l.length), q l[j] = false)
theorem IdxP.any {α : Type} {l : List α} {q : α → Bool} {r : Int} (h : IdxP l q r) : decide (0 ≤ r) = l.any q := by
  rcases h with ⟨i, hi, rfl, h1, _⟩ | ⟨rfl, h⟩
  · rw [any_hit hi h1]; simp
  · rw [any_take_miss (fun j hj _ => h j hj)]; rfl
def encSm (x : Str × Nat) : List Value := [.string (ofL x.1), .func (.func x.2) #[] #[]]
set_option maxRecDepth 1000000 in
set_option maxHeartbeats 2000000 in
theorem indexRu_any (v : Value) (l : List (Str × RawS)) (q : Str × RawS → Bool) (g : Nat) (lb : Array Value) (eg : ∀ args w, (callFunc g args).run Tryz.prog w = .ok (.enter g args) w) (w : World) (hv : Rd 2 encRl w v l)
    (hF : ∀ (W : World) (s : Str × RawS), s ∈ l → Below w.heap.size w W → Calls Tryz.prog g (#[.agg #[.string (ofL s.1), .slice s.2.a s.2.n s.2.c]] ++ lb) W fun e w' => e = .returned (.bool (q s)) ∧ Below W.heap.size W w') :
    Calls Tryz.prog 238 #[v, .func (.func g) #[] lb] w fun e w' => (∃ r : Int, e = .returned (.int .i64 r) ∧ IdxP l q r) ∧ Below w.heap.size w w' := by
  obtain ⟨a, c, rfl, hc1, hc2⟩ := hv.slice
  have HU := Lib.hid hv
  have HF := Lib.hid hF
  obtain ⟨LN, hLN⟩ : ∃ LN, l.length = LN := ⟨_, rfl⟩
  have HLN := Lib.hid hLN
  rw [hLN] at HU hc1 ⊢
  clear hv hF hLN
  go_enter Tryz.func238, Tryz.ntmps238
  go_wp2
  go_loopw [8] (fun v wr => ∃ k : Nat, k ≤ LN ∧ v = .int .i64 k ∧ (∀ (j : Nat) (hj : j < l.length), j < k → q l[j] = false) ∧ Below w.heap.size w wr) (fun v _ => LN - (intOf v).toNat)
  case atStart => exact ⟨0, Nat.zero_le _, rfl, fun j _ h => by omega, Below.refl _ _⟩
  case round =>
    obtain ⟨k, hk, rfl, hkd, hb⟩ := hrel
    have HK := Lib.hid hkd
    have HB := Lib.hid hb
    have zr := hb.size
    clear hkd hb
    by_cases hlt' : k < LN
    · have hlt : k < l.length := by rw [HLN.out]; exact hlt'
      obtain ⟨bk, off, rfl, h00, hx⟩ := (HU.out.below HB.out).some_ k hlt
      have c0 : wr.cell? ⟨bk, off + k * 2, none⟩ = some (.string (ofL (l[k]'hlt).1)) := hx 0 _ rfl
      have c1 : wr.cell? ⟨bk, off + k * 2 + 1, none⟩ = some (.slice (l[k]'hlt).2.a (l[k]'hlt).2.n (l[k]'hlt).2.c) := hx 1 _ rfl
      have h9 : (k : Int) < (LN : Int) := by omega
      have hcall := HF.out wr l[k] (List.getElem_mem hlt) HB.out
      have HE : Hid (∀ b, q (l[k]'hlt) = b → q (l[k]'hlt) = b) := Lib.hid (fun _ h => h)
      obtain ⟨qb, hqb⟩ : ∃ qb, q (l[k]'hlt) = qb := ⟨_, rfl⟩
      have HQ := Lib.hid hqb
      rw [hqb] at hcall
      have HLT := Lib.hid hlt
      obtain ⟨x, hx0⟩ : ∃ x, l[k]'hlt = x := ⟨_, rfl⟩
      rw [hx0] at hcall c0 c1
      have HC := Lib.hid hcall
      clear hqb hcall HE hx hx0
      cases qb with
      | true =>
        go_wp2_with (go_at_fn g; refine (HC.out).mono ?_; rintro e w2 ⟨rfl, b2⟩)
        have HB2 := Lib.hid (st HB.out b2 zr)
        clear b2
        go_wp2
        go_ret
        exact ⟨⟨_, rfl, .inl ⟨k, HLT.out, rfl, HQ.out, HK.out⟩⟩, HB2.out⟩
      | false =>
        go_wp2_with (go_at_fn g; refine (HC.out).mono ?_; rintro e w2 ⟨rfl, b2⟩)
        have HB2 := Lib.hid (st HB.out b2 zr)
        clear b2
        go_wp2
        go_roundw
        case measure => simp [intOf]; omega
        case rel => exact ⟨k + 1, by omega, by go_num, fun j hj hjk => by
          rcases Nat.lt_or_ge j k with h | h
          · exact HK.out j hj h
          · obtain rfl : j = k := by omega
            exact HQ.out, HB2.out⟩
    · obtain rfl : k = LN := by omega
      have h3 : ¬ (k : Int) < (k : Int) := by omega
      go_wp2
      go_ret
      exact ⟨⟨_, rfl, .inr ⟨rfl, fun j hj => HK.out j hj (by rw [← HLN.out]; exact hj)⟩⟩, HB.out⟩
set_option maxRecDepth 1000000 in
set_option maxHeartbeats 1000000 in
theorem containsRu_any (v : Value) (l : List (Str × RawS)) (q : Str × RawS → Bool) (g : Nat) (lb : Array Value) (eg : ∀ args w, (callFunc g args).run Tryz.prog w = .ok (.enter g args) w) (w : World) (hv : Rd 2 encRl w v l)
    (hF : ∀ (W : World) (s : Str × RawS), s ∈ l → Below w.heap.size w W → Calls Tryz.prog g (#[.agg #[.string (ofL s.1), .slice s.2.a s.2.n s.2.c]] ++ lb) W fun e w' => e = .returned (.bool (q s)) ∧ Below W.heap.size W w') :
    Calls Tryz.prog 193 #[v, .func (.func g) #[] lb] w fun e w' => e = .returned (.bool (l.any q)) ∧ Below w.heap.size w w' := by
  obtain ⟨a, c, rfl, hc1, hc2⟩ := hv.slice
  have HU := Lib.hid hv
  have HF := Lib.hid hF
  clear hv hF
  go_enter Tryz.func193, Tryz.ntmps193
  go_wp2_with fail
  refine (indexRu_any _ l q g lb eg _ HU.out HF.out).mono ?_
  rintro e w2 ⟨⟨r, rfl, hr⟩, b2⟩
  have HB2 := Lib.hid b2
  have HR := Lib.hid hr.any
  clear b2 hr
  go_wp2
  go_ret
  exact ⟨by rw [← HR.out]; rfl, HB2.out⟩
set_option maxRecDepth 1000000 in
set_option maxHeartbeats 2000000 in
theorem indexAl_any (v : Value) (l : List (Str × Str)) (q : Str × Str → Bool) (g : Nat) (lb : Array Value) (eg : ∀ args w, (callFunc g args).run Tryz.prog w = .ok (.enter g args) w) (w : World) (hv : Rd 2 encDu w v l)
    (hF : ∀ (W : World) (s : Str × Str), s ∈ l → Below w.heap.size w W → Calls Tryz.prog g (#[.agg #[.string (ofL s.1), .string (ofL s.2)]] ++ lb) W fun e w' => e = .returned (.bool (q s)) ∧ Below W.heap.size W w') :
    Calls Tryz.prog 206 #[v, .func (.func g) #[] lb] w fun e w' => (∃ r : Int, e = .returned (.int .i64 r) ∧ IdxP l q r) ∧ Below w.heap.size w w' := by
  obtain ⟨a, c, rfl, hc1, hc2⟩ := hv.slice
  have HU := Lib.hid hv
  have HF := Lib.hid hF
  obtain ⟨LN, hLN⟩ : ∃ LN, l.length = LN := ⟨_, rfl⟩
  have HLN := Lib.hid hLN
  rw [hLN] at HU hc1 ⊢
  clear hv hF hLN
  go_enter Tryz.func206, Tryz.ntmps206
  go_wp2
  go_loopw [8] (fun v wr => ∃ k : Nat, k ≤ LN ∧ v = .int .i64 k ∧ (∀ (j : Nat) (hj : j < l.length), j < k → q l[j] = false) ∧ Below w.heap.size w wr) (fun v _ => LN - (intOf v).toNat)
  case atStart => exact ⟨0, Nat.zero_le _, rfl, fun j _ h => by omega, Below.refl _ _⟩
  case round =>
    obtain ⟨k, hk, rfl, hkd, hb⟩ := hrel
    have HK := Lib.hid hkd
    have HB := Lib.hid hb
    have zr := hb.size
    clear hkd hb
    by_cases hlt' : k < LN
    · have hlt : k < l.length := by rw [HLN.out]; exact hlt'
      obtain ⟨bk, off, rfl, h00, hx⟩ := (HU.out.below HB.out).some_ k hlt
      have c0 : wr.cell? ⟨bk, off + k * 2, none⟩ = some (.string (ofL (l[k]'hlt).1)) := hx 0 _ rfl
      have c1 : wr.cell? ⟨bk, off + k * 2 + 1, none⟩ = some (.string (ofL (l[k]'hlt).2)) := hx 1 _ rfl
      have h9 : (k : Int) < (LN : Int) := by omega
      have hcall := HF.out wr l[k] (List.getElem_mem hlt) HB.out
      have HE : Hid (∀ b, q (l[k]'hlt) = b → q (l[k]'hlt) = b) := Lib.hid (fun _ h => h)
      obtain ⟨qb, hqb⟩ : ∃ qb, q (l[k]'hlt) = qb := ⟨_, rfl⟩
      have HQ := Lib.hid hqb
      rw [hqb] at hcall
      have HLT := Lib.hid hlt
      obtain ⟨x, hx0⟩ : ∃ x, l[k]'hlt = x := ⟨_, rfl⟩
      rw [hx0] at hcall c0 c1
      have HC := Lib.hid hcall
      clear hqb hcall HE hx hx0
      cases qb with
      | true =>
        go_wp2_with (go_at_fn g; refine (HC.out).mono ?_; rintro e w2 ⟨rfl, b2⟩)
        have HB2 := Lib.hid (st HB.out b2 zr)
        clear b2
        go_wp2
        go_ret
        exact ⟨⟨_, rfl, .inl ⟨k, HLT.out, rfl, HQ.out, HK.out⟩⟩, HB2.out⟩
      | false =>
        go_wp2_with (go_at_fn g; refine (HC.out).mono ?_; rintro e w2 ⟨rfl, b2⟩)
        have HB2 := Lib.hid (st HB.out b2 zr)
        clear b2
        go_wp2
        go_roundw
        case measure => simp [intOf]; omega
        case rel => exact ⟨k + 1, by omega, by go_num, fun j hj hjk => by
          rcases Nat.lt_or_ge j k with h | h
          · exact HK.out j hj h
          · obtain rfl : j = k := by omega
            exact HQ.out, HB2.out⟩
    · obtain rfl : k = LN := by omega
      have h3 : ¬ (k : Int) < (k : Int) := by omega
      go_wp2
      go_ret
      exact ⟨⟨_, rfl, .inr ⟨rfl, fun j hj => HK.out j hj (by rw [← HLN.out]; exact hj)⟩⟩, HB.out⟩
set_option maxRecDepth 1000000 in
set_option maxHeartbeats 1000000 in
theorem containsAl_any (v : Value) (l : List (Str × Str)) (q : Str × Str → Bool) (g : Nat) (lb : Array Value) (eg : ∀ args w, (callFunc g args).run Tryz.prog w = .ok (.enter g args) w) (w : World) (hv : Rd 2 encDu w v l)
    (hF : ∀ (W : World) (s : Str × Str), s ∈ l → Below w.heap.size w W → Calls Tryz.prog g (#[.agg #[.string (ofL s.1), .string (ofL s.2)]] ++ lb) W fun e w' => e = .returned (.bool (q s)) ∧ Below W.heap.size W w') :
    Calls Tryz.prog 149 #[v, .func (.func g) #[] lb] w fun e w' => e = .returned (.bool (l.any q)) ∧ Below w.heap.size w w' := by
  obtain ⟨a, c, rfl, hc1, hc2⟩ := hv.slice
  have HU := Lib.hid hv
  have HF := Lib.hid hF
  clear hv hF
  go_enter Tryz.func149, Tryz.ntmps149
  go_wp2_with fail
  refine (indexAl_any _ l q g lb eg _ HU.out HF.out).mono ?_
  rintro e w2 ⟨⟨r, rfl, hr⟩, b2⟩
  have HB2 := Lib.hid b2
  have HR := Lib.hid hr.any
  clear b2 hr
  go_wp2
  go_ret
  exact ⟨by rw [← HR.out]; rfl, HB2.out⟩
set_option maxRecDepth 1000000 in
set_option maxHeartbeats 2000000 in
theorem indexDa_any (v : Value) (l : List (Str × Str)) (q : Str × Str → Bool) (g : Nat) (lb : Array Value) (eg : ∀ args w, (callFunc g args).run Tryz.prog w = .ok (.enter g args) w) (w : World) (hv : Rd 2 encDu w v l)
    (hF : ∀ (W : World) (s : Str × Str), s ∈ l → Below w.heap.size w W → Calls Tryz.prog g (#[.agg #[.string (ofL s.1), .string (ofL s.2)]] ++ lb) W fun e w' => e = .returned (.bool (q s)) ∧ Below W.heap.size W w') :
    Calls Tryz.prog 249 #[v, .func (.func g) #[] lb] w fun e w' => (∃ r : Int, e = .returned (.int .i64 r) ∧ IdxP l q r) ∧ Below w.heap.size w w' := by
  obtain ⟨a, c, rfl, hc1, hc2⟩ := hv.slice
  have HU := Lib.hid hv
  have HF := Lib.hid hF
  obtain ⟨LN, hLN⟩ : ∃ LN, l.length = LN := ⟨_, rfl⟩
  have HLN := Lib.hid hLN
  rw [hLN] at HU hc1 ⊢
  clear hv hF hLN
  go_enter Tryz.func249, Tryz.ntmps249
  go_wp2
  go_loopw [8] (fun v wr => ∃ k : Nat, k ≤ LN ∧ v = .int .i64 k ∧ (∀ (j : Nat) (hj : j < l.length), j < k → q l[j] = false) ∧ Below w.heap.size w wr) (fun v _ => LN - (intOf v).toNat)
  case atStart => exact ⟨0, Nat.zero_le _, rfl, fun j _ h => by omega, Below.refl _ _⟩
  case round =>
    obtain ⟨k, hk, rfl, hkd, hb⟩ := hrel
    have HK := Lib.hid hkd
    have HB := Lib.hid hb
    have zr := hb.size
    clear hkd hb
    by_cases hlt' : k < LN
    · have hlt : k < l.length := by rw [HLN.out]; exact hlt'
      obtain ⟨bk, off, rfl, h00, hx⟩ := (HU.out.below HB.out).some_ k hlt
      have c0 : wr.cell? ⟨bk, off + k * 2, none⟩ = some (.string (ofL (l[k]'hlt).1)) := hx 0 _ rfl
      have c1 : wr.cell? ⟨bk, off + k * 2 + 1, none⟩ = some (.string (ofL (l[k]'hlt).2)) := hx 1 _ rfl
      have h9 : (k : Int) < (LN : Int) := by omega
      have hcall := HF.out wr l[k] (List.getElem_mem hlt) HB.out
      have HE : Hid (∀ b, q (l[k]'hlt) = b → q (l[k]'hlt) = b) := Lib.hid (fun _ h => h)
      obtain ⟨qb, hqb⟩ : ∃ qb, q (l[k]'hlt) = qb := ⟨_, rfl⟩
      have HQ := Lib.hid hqb
      rw [hqb] at hcall
      have HLT := Lib.hid hlt
      obtain ⟨x, hx0⟩ : ∃ x, l[k]'hlt = x := ⟨_, rfl⟩
      rw [hx0] at hcall c0 c1
      have HC := Lib.hid hcall
      clear hqb hcall HE hx hx0
      cases qb with
      | true =>
        go_wp2_with (go_at_fn g; refine (HC.out).mono ?_; rintro e w2 ⟨rfl, b2⟩)
        have HB2 := Lib.hid (st HB.out b2 zr)
        clear b2
        go_wp2
        go_ret
        exact ⟨⟨_, rfl, .inl ⟨k, HLT.out, rfl, HQ.out, HK.out⟩⟩, HB2.out⟩
      | false =>
        go_wp2_with (go_at_fn g; refine (HC.out).mono ?_; rintro e w2 ⟨rfl, b2⟩)
        have HB2 := Lib.hid (st HB.out b2 zr)
        clear b2
        go_wp2
        go_roundw
        case measure => simp [intOf]; omega
        case rel => exact ⟨k + 1, by omega, by go_num, fun j hj hjk => by
          rcases Nat.lt_or_ge j k with h | h
          · exact HK.out j hj h
          · obtain rfl : j = k := by omega
            exact HQ.out, HB2.out⟩
    · obtain rfl : k = LN := by omega
      have h3 : ¬ (k : Int) < (k : Int) := by omega
      go_wp2
      go_ret
      exact ⟨⟨_, rfl, .inr ⟨rfl, fun j hj => HK.out j hj (by rw [← HLN.out]; exact hj)⟩⟩, HB.out⟩
set_option maxRecDepth 1000000 in
set_option maxHeartbeats 1000000 in
theorem containsDa_any (v : Value) (l : List (Str × Str)) (q : Str × Str → Bool) (g : Nat) (lb : Array Value) (eg : ∀ args w, (callFunc g args).run Tryz.prog w = .ok (.enter g args) w) (w : World) (hv : Rd 2 encDu w v l)
    (hF : ∀ (W : World) (s : Str × Str), s ∈ l → Below w.heap.size w W → Calls Tryz.prog g (#[.agg #[.string (ofL s.1), .string (ofL s.2)]] ++ lb) W fun e w' => e = .returned (.bool (q s)) ∧ Below W.heap.size W w') :
    Calls Tryz.prog 204 #[v, .func (.func g) #[] lb] w fun e w' => e = .returned (.bool (l.any q)) ∧ Below w.heap.size w w' := by
  obtain ⟨a, c, rfl, hc1, hc2⟩ := hv.slice
  have HU := Lib.hid hv
  have HF := Lib.hid hF
  clear hv hF
  go_enter Tryz.func204, Tryz.ntmps204
  go_wp2_with fail
  refine (indexDa_any _ l q g lb eg _ HU.out HF.out).mono ?_
  rintro e w2 ⟨⟨r, rfl, hr⟩, b2⟩
  have HB2 := Lib.hid b2
  have HR := Lib.hid hr.any
  clear b2 hr
  go_wp2
  go_ret
  exact ⟨by rw [← HR.out]; rfl, HB2.out⟩
set_option maxRecDepth 1000000 in
set_option maxHeartbeats 2000000 in
theorem indexNe_any (v : Value) (l : List (Nea)) (q : Nea → Bool) (g : Nat) (lb : Array Value) (eg : ∀ args w, (callFunc g args).run Tryz.prog w = .ok (.enter g args) w) (w : World) (hv : Rd 3 encNe w v l)
    (hF : ∀ (W : World) (s : Nea), s ∈ l → Below w.heap.size w W → Calls Tryz.prog g (#[.agg #[.string (ofL s.fr), .string (ofL s.to_), .int .i64 s.co]] ++ lb) W fun e w' => e = .returned (.bool (q s)) ∧ Below W.heap.size W w') :
    Calls Tryz.prog 207 #[v, .func (.func g) #[] lb] w fun e w' => (∃ r : Int, e = .returned (.int .i64 r) ∧ IdxP l q r) ∧ Below w.heap.size w w' := by
  obtain ⟨a, c, rfl, hc1, hc2⟩ := hv.slice
  have HU := Lib.hid hv
  have HF := Lib.hid hF
  obtain ⟨LN, hLN⟩ : ∃ LN, l.length = LN := ⟨_, rfl⟩
  have HLN := Lib.hid hLN
  rw [hLN] at HU hc1 ⊢
  clear hv hF hLN
  go_enter Tryz.func207, Tryz.ntmps207
  go_wp2
  go_loopw [8] (fun v wr => ∃ k : Nat, k ≤ LN ∧ v = .int .i64 k ∧ (∀ (j : Nat) (hj : j < l.length), j < k → q l[j] = false) ∧ Below w.heap.size w wr) (fun v _ => LN - (intOf v).toNat)
  case atStart => exact ⟨0, Nat.zero_le _, rfl, fun j _ h => by omega, Below.refl _ _⟩
  case round =>
    obtain ⟨k, hk, rfl, hkd, hb⟩ := hrel
    have HK := Lib.hid hkd
    have HB := Lib.hid hb
    have zr := hb.size
    clear hkd hb
    by_cases hlt' : k < LN
    · have hlt : k < l.length := by rw [HLN.out]; exact hlt'
      obtain ⟨bk, off, rfl, h00, hx⟩ := (HU.out.below HB.out).some_ k hlt
      have c0 : wr.cell? ⟨bk, off + k * 3, none⟩ = some (.string (ofL (l[k]'hlt).fr)) := hx 0 _ rfl
      have c1 : wr.cell? ⟨bk, off + k * 3 + 1, none⟩ = some (.string (ofL (l[k]'hlt).to_)) := hx 1 _ rfl
      have c2 : wr.cell? ⟨bk, off + k * 3 + 2, none⟩ = some (.int .i64 (l[k]'hlt).co) := hx 2 _ rfl
      have h9 : (k : Int) < (LN : Int) := by omega
      have hcall := HF.out wr l[k] (List.getElem_mem hlt) HB.out
      have HE : Hid (∀ b, q (l[k]'hlt) = b → q (l[k]'hlt) = b) := Lib.hid (fun _ h => h)
      obtain ⟨qb, hqb⟩ : ∃ qb, q (l[k]'hlt) = qb := ⟨_, rfl⟩
      have HQ := Lib.hid hqb
      rw [hqb] at hcall
      have HLT := Lib.hid hlt
      obtain ⟨x, hx0⟩ : ∃ x, l[k]'hlt = x := ⟨_, rfl⟩
      rw [hx0] at hcall c0 c1 c2
      have HC := Lib.hid hcall
      clear hqb hcall HE hx hx0
      cases qb with
      | true =>
        go_wp2_with (go_at_fn g; refine (HC.out).mono ?_; rintro e w2 ⟨rfl, b2⟩)
        have HB2 := Lib.hid (st HB.out b2 zr)
        clear b2
        go_wp2
        go_ret
        exact ⟨⟨_, rfl, .inl ⟨k, HLT.out, rfl, HQ.out, HK.out⟩⟩, HB2.out⟩
      | false =>
        go_wp2_with (go_at_fn g; refine (HC.out).mono ?_; rintro e w2 ⟨rfl, b2⟩)
        have HB2 := Lib.hid (st HB.out b2 zr)
        clear b2
        go_wp2
        go_roundw
        case measure => simp [intOf]; omega
        case rel => exact ⟨k + 1, by omega, by go_num, fun j hj hjk => by
          rcases Nat.lt_or_ge j k with h | h
          · exact HK.out j hj h
          · obtain rfl : j = k := by omega
            exact HQ.out, HB2.out⟩
    · obtain rfl : k = LN := by omega
      have h3 : ¬ (k : Int) < (k : Int) := by omega
      go_wp2
      go_ret
      exact ⟨⟨_, rfl, .inr ⟨rfl, fun j hj => HK.out j hj (by rw [← HLN.out]; exact hj)⟩⟩, HB.out⟩
set_option maxRecDepth 1000000 in
set_option maxHeartbeats 1000000 in
theorem containsNe_any (v : Value) (l : List (Nea)) (q : Nea → Bool) (g : Nat) (lb : Array Value) (eg : ∀ args w, (callFunc g args).run Tryz.prog w = .ok (.enter g args) w) (w : World) (hv : Rd 3 encNe w v l)
    (hF : ∀ (W : World) (s : Nea), s ∈ l → Below w.heap.size w W → Calls Tryz.prog g (#[.agg #[.string (ofL s.fr), .string (ofL s.to_), .int .i64 s.co]] ++ lb) W fun e w' => e = .returned (.bool (q s)) ∧ Below W.heap.size W w') :
    Calls Tryz.prog 151 #[v, .func (.func g) #[] lb] w fun e w' => e = .returned (.bool (l.any q)) ∧ Below w.heap.size w w' := by
  obtain ⟨a, c, rfl, hc1, hc2⟩ := hv.slice
  have HU := Lib.hid hv
  have HF := Lib.hid hF
  clear hv hF
  go_enter Tryz.func151, Tryz.ntmps151
  go_wp2_with fail
  refine (indexNe_any _ l q g lb eg _ HU.out HF.out).mono ?_
  rintro e w2 ⟨⟨r, rfl, hr⟩, b2⟩
  have HB2 := Lib.hid b2
  have HR := Lib.hid hr.any
  clear b2 hr
  go_wp2
  go_ret
  exact ⟨by rw [← HR.out]; rfl, HB2.out⟩
set_option maxRecDepth 1000000 in
set_option maxHeartbeats 2000000 in
theorem indexLi_any (v : Value) (l : List (Lis)) (q : Lis → Bool) (g : Nat) (lb : Array Value) (eg : ∀ args w, (callFunc g args).run Tryz.prog w = .ok (.enter g args) w) (w : World) (hv : Rd 5 encLi w v l)
    (hF : ∀ (W : World) (s : Lis), s ∈ l → Below w.heap.size w W → Calls Tryz.prog g (#[.agg #[.string (ofL s.st), .string (ofL s.two), .string (ofL s.sa), .string (ofL s.md), .string (ofL s.en)]] ++ lb) W fun e w' => e = .returned (.bool (q s)) ∧ Below W.heap.size W w') :
    Calls Tryz.prog 247 #[v, .func (.func g) #[] lb] w fun e w' => (∃ r : Int, e = .returned (.int .i64 r) ∧ IdxP l q r) ∧ Below w.heap.size w w' := by
  obtain ⟨a, c, rfl, hc1, hc2⟩ := hv.slice
  have HU := Lib.hid hv
  have HF := Lib.hid hF
  obtain ⟨LN, hLN⟩ : ∃ LN, l.length = LN := ⟨_, rfl⟩
  have HLN := Lib.hid hLN
  rw [hLN] at HU hc1 ⊢
  clear hv hF hLN
  go_enter Tryz.func247, Tryz.ntmps247
  go_wp2
  go_loopw [8] (fun v wr => ∃ k : Nat, k ≤ LN ∧ v = .int .i64 k ∧ (∀ (j : Nat) (hj : j < l.length), j < k → q l[j] = false) ∧ Below w.heap.size w wr) (fun v _ => LN - (intOf v).toNat)
  case atStart => exact ⟨0, Nat.zero_le _, rfl, fun j _ h => by omega, Below.refl _ _⟩
  case round =>
    obtain ⟨k, hk, rfl, hkd, hb⟩ := hrel
    have HK := Lib.hid hkd
    have HB := Lib.hid hb
    have zr := hb.size
    clear hkd hb
    by_cases hlt' : k < LN
    · have hlt : k < l.length := by rw [HLN.out]; exact hlt'
      obtain ⟨bk, off, rfl, h00, hx⟩ := (HU.out.below HB.out).some_ k hlt
      have c0 : wr.cell? ⟨bk, off + k * 5, none⟩ = some (.string (ofL (l[k]'hlt).st)) := hx 0 _ rfl
      have c1 : wr.cell? ⟨bk, off + k * 5 + 1, none⟩ = some (.string (ofL (l[k]'hlt).two)) := hx 1 _ rfl
      have c2 : wr.cell? ⟨bk, off + k * 5 + 2, none⟩ = some (.string (ofL (l[k]'hlt).sa)) := hx 2 _ rfl
      have c3 : wr.cell? ⟨bk, off + k * 5 + 3, none⟩ = some (.string (ofL (l[k]'hlt).md)) := hx 3 _ rfl
      have c4 : wr.cell? ⟨bk, off + k * 5 + 4, none⟩ = some (.string (ofL (l[k]'hlt).en)) := hx 4 _ rfl
      have h9 : (k : Int) < (LN : Int) := by omega
      have hcall := HF.out wr l[k] (List.getElem_mem hlt) HB.out
      have HE : Hid (∀ b, q (l[k]'hlt) = b → q (l[k]'hlt) = b) := Lib.hid (fun _ h => h)
      obtain ⟨qb, hqb⟩ : ∃ qb, q (l[k]'hlt) = qb := ⟨_, rfl⟩
      have HQ := Lib.hid hqb
      rw [hqb] at hcall
      have HLT := Lib.hid hlt
      obtain ⟨x, hx0⟩ : ∃ x, l[k]'hlt = x := ⟨_, rfl⟩
      rw [hx0] at hcall c0 c1 c2 c3 c4
      have HC := Lib.hid hcall
      clear hqb hcall HE hx hx0
      cases qb with
      | true =>
        go_wp2_with (go_at_fn g; refine (HC.out).mono ?_; rintro e w2 ⟨rfl, b2⟩)
        have HB2 := Lib.hid (st HB.out b2 zr)
        clear b2
        go_wp2
        go_ret
        exact ⟨⟨_, rfl, .inl ⟨k, HLT.out, rfl, HQ.out, HK.out⟩⟩, HB2.out⟩
      | false =>
        go_wp2_with (go_at_fn g; refine (HC.out).mono ?_; rintro e w2 ⟨rfl, b2⟩)
        have HB2 := Lib.hid (st HB.out b2 zr)
        clear b2
        go_wp2
        go_roundw
        case measure => simp [intOf]; omega
        case rel => exact ⟨k + 1, by omega, by go_num, fun j hj hjk => by
          rcases Nat.lt_or_ge j k with h | h
          · exact HK.out j hj h
          · obtain rfl : j = k := by omega
            exact HQ.out, HB2.out⟩
    · obtain rfl : k = LN := by omega
      have h3 : ¬ (k : Int) < (k : Int) := by omega
      go_wp2
      go_ret
      exact ⟨⟨_, rfl, .inr ⟨rfl, fun j hj => HK.out j hj (by rw [← HLN.out]; exact hj)⟩⟩, HB.out⟩
set_option maxRecDepth 1000000 in
set_option maxHeartbeats 1000000 in
theorem containsLi_any (v : Value) (l : List (Lis)) (q : Lis → Bool) (g : Nat) (lb : Array Value) (eg : ∀ args w, (callFunc g args).run Tryz.prog w = .ok (.enter g args) w) (w : World) (hv : Rd 5 encLi w v l)
    (hF : ∀ (W : World) (s : Lis), s ∈ l → Below w.heap.size w W → Calls Tryz.prog g (#[.agg #[.string (ofL s.st), .string (ofL s.two), .string (ofL s.sa), .string (ofL s.md), .string (ofL s.en)]] ++ lb) W fun e w' => e = .returned (.bool (q s)) ∧ Below W.heap.size W w') :
    Calls Tryz.prog 200 #[v, .func (.func g) #[] lb] w fun e w' => e = .returned (.bool (l.any q)) ∧ Below w.heap.size w w' := by
  obtain ⟨a, c, rfl, hc1, hc2⟩ := hv.slice
  have HU := Lib.hid hv
  have HF := Lib.hid hF
  clear hv hF
  go_enter Tryz.func200, Tryz.ntmps200
  go_wp2_with fail
  refine (indexLi_any _ l q g lb eg _ HU.out HF.out).mono ?_
  rintro e w2 ⟨⟨r, rfl, hr⟩, b2⟩
  have HB2 := Lib.hid b2
  have HR := Lib.hid hr.any
  clear b2 hr
  go_wp2
  go_ret
  exact ⟨by rw [← HR.out]; rfl, HB2.out⟩
set_option maxRecDepth 1000000 in
set_option maxHeartbeats 2000000 in
theorem indexUn_any (v : Value) (l : List (Uni)) (q : Uni → Bool) (g : Nat) (lb : Array Value) (eg : ∀ args w, (callFunc g args).run Tryz.prog w = .ok (.enter g args) w) (w : World) (hv : Rd 3 encUn w v l)
    (hF : ∀ (W : World) (s : Uni), s ∈ l → Below w.heap.size w W → Calls Tryz.prog g (#[.agg #[.string (ofL s.un), .string (ofL s.cl), .string (ofL s.pt)]] ++ lb) W fun e w' => e = .returned (.bool (q s)) ∧ Below W.heap.size W w') :
    Calls Tryz.prog 248 #[v, .func (.func g) #[] lb] w fun e w' => (∃ r : Int, e = .returned (.int .i64 r) ∧ IdxP l q r) ∧ Below w.heap.size w w' := by
  obtain ⟨a, c, rfl, hc1, hc2⟩ := hv.slice
  have HU := Lib.hid hv
  have HF := Lib.hid hF
  obtain ⟨LN, hLN⟩ : ∃ LN, l.length = LN := ⟨_, rfl⟩
  have HLN := Lib.hid hLN
  rw [hLN] at HU hc1 ⊢
  clear hv hF hLN
  go_enter Tryz.func248, Tryz.ntmps248
  go_wp2
  go_loopw [8] (fun v wr => ∃ k : Nat, k ≤ LN ∧ v = .int .i64 k ∧ (∀ (j : Nat) (hj : j < l.length), j < k → q l[j] = false) ∧ Below w.heap.size w wr) (fun v _ => LN - (intOf v).toNat)
  case atStart => exact ⟨0, Nat.zero_le _, rfl, fun j _ h => by omega, Below.refl _ _⟩
  case round =>
    obtain ⟨k, hk, rfl, hkd, hb⟩ := hrel
    have HK := Lib.hid hkd
    have HB := Lib.hid hb
    have zr := hb.size
    clear hkd hb
    by_cases hlt' : k < LN
    · have hlt : k < l.length := by rw [HLN.out]; exact hlt'
      obtain ⟨bk, off, rfl, h00, hx⟩ := (HU.out.below HB.out).some_ k hlt
      have c0 : wr.cell? ⟨bk, off + k * 3, none⟩ = some (.string (ofL (l[k]'hlt).un)) := hx 0 _ rfl
      have c1 : wr.cell? ⟨bk, off + k * 3 + 1, none⟩ = some (.string (ofL (l[k]'hlt).cl)) := hx 1 _ rfl
      have c2 : wr.cell? ⟨bk, off + k * 3 + 2, none⟩ = some (.string (ofL (l[k]'hlt).pt)) := hx 2 _ rfl
      have h9 : (k : Int) < (LN : Int) := by omega
      have hcall := HF.out wr l[k] (List.getElem_mem hlt) HB.out
      have HE : Hid (∀ b, q (l[k]'hlt) = b → q (l[k]'hlt) = b) := Lib.hid (fun _ h => h)
      obtain ⟨qb, hqb⟩ : ∃ qb, q (l[k]'hlt) = qb := ⟨_, rfl⟩
      have HQ := Lib.hid hqb
      rw [hqb] at hcall
      have HLT := Lib.hid hlt
      obtain ⟨x, hx0⟩ : ∃ x, l[k]'hlt = x := ⟨_, rfl⟩
      rw [hx0] at hcall c0 c1 c2
      have HC := Lib.hid hcall
      clear hqb hcall HE hx hx0
      cases qb with
      | true =>
        go_wp2_with (go_at_fn g; refine (HC.out).mono ?_; rintro e w2 ⟨rfl, b2⟩)
        have HB2 := Lib.hid (st HB.out b2 zr)
        clear b2
        go_wp2
        go_ret
        exact ⟨⟨_, rfl, .inl ⟨k, HLT.out, rfl, HQ.out, HK.out⟩⟩, HB2.out⟩
      | false =>
        go_wp2_with (go_at_fn g; refine (HC.out).mono ?_; rintro e w2 ⟨rfl, b2⟩)
        have HB2 := Lib.hid (st HB.out b2 zr)
        clear b2
        go_wp2
        go_roundw
        case measure => simp [intOf]; omega
        case rel => exact ⟨k + 1, by omega, by go_num, fun j hj hjk => by
          rcases Nat.lt_or_ge j k with h | h
          · exact HK.out j hj h
          · obtain rfl : j = k := by omega
            exact HQ.out, HB2.out⟩
    · obtain rfl : k = LN := by omega
      have h3 : ¬ (k : Int) < (k : Int) := by omega
      go_wp2
      go_ret
      exact ⟨⟨_, rfl, .inr ⟨rfl, fun j hj => HK.out j hj (by rw [← HLN.out]; exact hj)⟩⟩, HB.out⟩
set_option maxRecDepth 1000000 in
set_option maxHeartbeats 1000000 in
theorem containsUn_any (v : Value) (l : List (Uni)) (q : Uni → Bool) (g : Nat) (lb : Array Value) (eg : ∀ args w, (callFunc g args).run Tryz.prog w = .ok (.enter g args) w) (w : World) (hv : Rd 3 encUn w v l)
    (hF : ∀ (W : World) (s : Uni), s ∈ l → Below w.heap.size w W → Calls Tryz.prog g (#[.agg #[.string (ofL s.un), .string (ofL s.cl), .string (ofL s.pt)]] ++ lb) W fun e w' => e = .returned (.bool (q s)) ∧ Below W.heap.size W w') :
    Calls Tryz.prog 202 #[v, .func (.func g) #[] lb] w fun e w' => e = .returned (.bool (l.any q)) ∧ Below w.heap.size w w' := by
  obtain ⟨a, c, rfl, hc1, hc2⟩ := hv.slice
  have HU := Lib.hid hv
  have HF := Lib.hid hF
  clear hv hF
  go_enter Tryz.func202, Tryz.ntmps202
  go_wp2_with fail
  refine (indexUn_any _ l q g lb eg _ HU.out HF.out).mono ?_
  rintro e w2 ⟨⟨r, rfl, hr⟩, b2⟩
  have HB2 := Lib.hid b2
  have HR := Lib.hid hr.any
  clear b2 hr
  go_wp2
  go_ret
  exact ⟨by rw [← HR.out]; rfl, HB2.out⟩
set_option maxRecDepth 1000000 in
set_option maxHeartbeats 2000000 in
theorem indexLo_any (v : Value) (l : List (RawLo)) (q : RawLo → Bool) (g : Nat) (lb : Array Value) (eg : ∀ args w, (callFunc g args).run Tryz.prog w = .ok (.enter g args) w) (w : World) (hv : Rd 16 encLo w v l)
    (hF : ∀ (W : World) (s : RawLo), s ∈ l → Below w.heap.size w W → Calls Tryz.prog g (#[.agg #[.string (ofL s.tag), .string (ofL s.par), .string (ofL s.dir), .slice s.ca.a s.ca.n s.ca.c, .slice s.oc.a s.oc.n s.oc.c, .string (ofL s.sy.de), .string (ofL s.sy.gr), .string (ofL s.sy.mi), .string (ofL s.sy.pe), .int .i64 s.sy.pr, .int .i64 s.sy.se, .slice s.li.a s.li.n s.li.c, .slice s.un.a s.un.n s.un.c, .slice s.da.a s.da.n s.da.c, .slice s.mo.a s.mo.n s.mo.c, .slice s.dy.a s.dy.n s.dy.c]] ++ lb) W fun e w' => e = .returned (.bool (q s)) ∧ Below W.heap.size W w') :
    Calls Tryz.prog 191 #[v, .func (.func g) #[] lb] w fun e w' => (∃ r : Int, e = .returned (.int .i64 r) ∧ IdxP l q r) ∧ Below w.heap.size w w' := by
  obtain ⟨a, c, rfl, hc1, hc2⟩ := hv.slice
  have HU := Lib.hid hv
  have HF := Lib.hid hF
  obtain ⟨LN, hLN⟩ : ∃ LN, l.length = LN := ⟨_, rfl⟩
  have HLN := Lib.hid hLN
  rw [hLN] at HU hc1 ⊢
  clear hv hF hLN
  go_enter Tryz.func191, Tryz.ntmps191
  go_wp2
  go_loopw [8] (fun v wr => ∃ k : Nat, k ≤ LN ∧ v = .int .i64 k ∧ (∀ (j : Nat) (hj : j < l.length), j < k → q l[j] = false) ∧ Below w.heap.size w wr) (fun v _ => LN - (intOf v).toNat)
  case atStart => exact ⟨0, Nat.zero_le _, rfl, fun j _ h => by omega, Below.refl _ _⟩
  case round =>
    obtain ⟨k, hk, rfl, hkd, hb⟩ := hrel
    have HK := Lib.hid hkd
    have HB := Lib.hid hb
    have zr := hb.size
    clear hkd hb
    by_cases hlt' : k < LN
    · have hlt : k < l.length := by rw [HLN.out]; exact hlt'
      obtain ⟨bk, off, rfl, h00, hx⟩ := (HU.out.below HB.out).some_ k hlt
      have c0 : wr.cell? ⟨bk, off + k * 16, none⟩ = some (.string (ofL (l[k]'hlt).tag)) := hx 0 _ rfl
      have c1 : wr.cell? ⟨bk, off + k * 16 + 1, none⟩ = some (.string (ofL (l[k]'hlt).par)) := hx 1 _ rfl
      have c2 : wr.cell? ⟨bk, off + k * 16 + 2, none⟩ = some (.string (ofL (l[k]'hlt).dir)) := hx 2 _ rfl
      have c3 : wr.cell? ⟨bk, off + k * 16 + 3, none⟩ = some (.slice (l[k]'hlt).ca.a (l[k]'hlt).ca.n (l[k]'hlt).ca.c) := hx 3 _ rfl
      have c4 : wr.cell? ⟨bk, off + k * 16 + 4, none⟩ = some (.slice (l[k]'hlt).oc.a (l[k]'hlt).oc.n (l[k]'hlt).oc.c) := hx 4 _ rfl
      have c5 : wr.cell? ⟨bk, off + k * 16 + 5, none⟩ = some (.string (ofL (l[k]'hlt).sy.de)) := hx 5 _ rfl
      have c6 : wr.cell? ⟨bk, off + k * 16 + 6, none⟩ = some (.string (ofL (l[k]'hlt).sy.gr)) := hx 6 _ rfl
      have c7 : wr.cell? ⟨bk, off + k * 16 + 7, none⟩ = some (.string (ofL (l[k]'hlt).sy.mi)) := hx 7 _ rfl
      have c8 : wr.cell? ⟨bk, off + k * 16 + 8, none⟩ = some (.string (ofL (l[k]'hlt).sy.pe)) := hx 8 _ rfl
      have c9 : wr.cell? ⟨bk, off + k * 16 + 9, none⟩ = some (.int .i64 (l[k]'hlt).sy.pr) := hx 9 _ rfl
      have c10 : wr.cell? ⟨bk, off + k * 16 + 10, none⟩ = some (.int .i64 (l[k]'hlt).sy.se) := hx 10 _ rfl
      have c11 : wr.cell? ⟨bk, off + k * 16 + 11, none⟩ = some (.slice (l[k]'hlt).li.a (l[k]'hlt).li.n (l[k]'hlt).li.c) := hx 11 _ rfl
      have c12 : wr.cell? ⟨bk, off + k * 16 + 12, none⟩ = some (.slice (l[k]'hlt).un.a (l[k]'hlt).un.n (l[k]'hlt).un.c) := hx 12 _ rfl
      have c13 : wr.cell? ⟨bk, off + k * 16 + 13, none⟩ = some (.slice (l[k]'hlt).da.a (l[k]'hlt).da.n (l[k]'hlt).da.c) := hx 13 _ rfl
      have c14 : wr.cell? ⟨bk, off + k * 16 + 14, none⟩ = some (.slice (l[k]'hlt).mo.a (l[k]'hlt).mo.n (l[k]'hlt).mo.c) := hx 14 _ rfl
      have c15 : wr.cell? ⟨bk, off + k * 16 + 15, none⟩ = some (.slice (l[k]'hlt).dy.a (l[k]'hlt).dy.n (l[k]'hlt).dy.c) := hx 15 _ rfl
      have h9 : (k : Int) < (LN : Int) := by omega
      have hcall := HF.out wr l[k] (List.getElem_mem hlt) HB.out
      have HE : Hid (∀ b, q (l[k]'hlt) = b → q (l[k]'hlt) = b) := Lib.hid (fun _ h => h)
      obtain ⟨qb, hqb⟩ : ∃ qb, q (l[k]'hlt) = qb := ⟨_, rfl⟩
      have HQ := Lib.hid hqb
      rw [hqb] at hcall
      have HLT := Lib.hid hlt
      obtain ⟨x, hx0⟩ : ∃ x, l[k]'hlt = x := ⟨_, rfl⟩
      rw [hx0] at hcall c0 c1 c2 c3 c4 c5 c6 c7 c8 c9 c10 c11 c12 c13 c14 c15
      have HC := Lib.hid hcall
      clear hqb hcall HE hx hx0
      cases qb with
      | true =>
        go_wp2_with (go_at_fn g; refine (HC.out).mono ?_; rintro e w2 ⟨rfl, b2⟩)
        have HB2 := Lib.hid (st HB.out b2 zr)
        clear b2
        go_wp2
        go_ret
        exact ⟨⟨_, rfl, .inl ⟨k, HLT.out, rfl, HQ.out, HK.out⟩⟩, HB2.out⟩
      | false =>
        go_wp2_with (go_at_fn g; refine (HC.out).mono ?_; rintro e w2 ⟨rfl, b2⟩)
        have HB2 := Lib.hid (st HB.out b2 zr)
        clear b2
        go_wp2
        go_roundw
        case measure => simp [intOf]; omega
        case rel => exact ⟨k + 1, by omega, by go_num, fun j hj hjk => by
          rcases Nat.lt_or_ge j k with h | h
          · exact HK.out j hj h
          · obtain rfl : j = k := by omega
            exact HQ.out, HB2.out⟩
    · obtain rfl : k = LN := by omega
      have h3 : ¬ (k : Int) < (k : Int) := by omega
      go_wp2
      go_ret
      exact ⟨⟨_, rfl, .inr ⟨rfl, fun j hj => HK.out j hj (by rw [← HLN.out]; exact hj)⟩⟩, HB.out⟩
set_option maxRecDepth 1000000 in
set_option maxHeartbeats 1000000 in
theorem containsLo_any (v : Value) (l : List (RawLo)) (q : RawLo → Bool) (g : Nat) (lb : Array Value) (eg : ∀ args w, (callFunc g args).run Tryz.prog w = .ok (.enter g args) w) (w : World) (hv : Rd 16 encLo w v l)
    (hF : ∀ (W : World) (s : RawLo), s ∈ l → Below w.heap.size w W → Calls Tryz.prog g (#[.agg #[.string (ofL s.tag), .string (ofL s.par), .string (ofL s.dir), .slice s.ca.a s.ca.n s.ca.c, .slice s.oc.a s.oc.n s.oc.c, .string (ofL s.sy.de), .string (ofL s.sy.gr), .string (ofL s.sy.mi), .string (ofL s.sy.pe), .int .i64 s.sy.pr, .int .i64 s.sy.se, .slice s.li.a s.li.n s.li.c, .slice s.un.a s.un.n s.un.c, .slice s.da.a s.da.n s.da.c, .slice s.mo.a s.mo.n s.mo.c, .slice s.dy.a s.dy.n s.dy.c]] ++ lb) W fun e w' => e = .returned (.bool (q s)) ∧ Below W.heap.size W w') :
    Calls Tryz.prog 138 #[v, .func (.func g) #[] lb] w fun e w' => e = .returned (.bool (l.any q)) ∧ Below w.heap.size w w' := by
  obtain ⟨a, c, rfl, hc1, hc2⟩ := hv.slice
  have HU := Lib.hid hv
  have HF := Lib.hid hF
  clear hv hF
  go_enter Tryz.func138, Tryz.ntmps138
  go_wp2_with fail
  refine (indexLo_any _ l q g lb eg _ HU.out HF.out).mono ?_
  rintro e w2 ⟨⟨r, rfl, hr⟩, b2⟩
  have HB2 := Lib.hid b2
  have HR := Lib.hid hr.any
  clear b2 hr
  go_wp2
  go_ret
  exact ⟨by rw [← HR.out]; rfl, HB2.out⟩
set_option maxRecDepth 1000000 in
set_option maxHeartbeats 2000000 in
theorem indexSt_any (v : Value) (l : List (Str × Nat)) (q : Str × Nat → Bool) (g : Nat) (lb : Array Value) (eg : ∀ args w, (callFunc g args).run Tryz.prog w = .ok (.enter g args) w) (w : World) (hv : Rd 2 encSm w v l)
    (hF : ∀ (W : World) (s : Str × Nat), s ∈ l → Below w.heap.size w W → Calls Tryz.prog g (#[.agg #[.string (ofL s.1), .func (.func s.2) #[] #[]]] ++ lb) W fun e w' => e = .returned (.bool (q s)) ∧ Below W.heap.size W w') :
    Calls Tryz.prog 161 #[v, .func (.func g) #[] lb] w fun e w' => (∃ r : Int, e = .returned (.int .i64 r) ∧ IdxP l q r) ∧ Below w.heap.size w w' := by
  obtain ⟨a, c, rfl, hc1, hc2⟩ := hv.slice
  have HU := Lib.hid hv
  have HF := Lib.hid hF
  obtain ⟨LN, hLN⟩ : ∃ LN, l.length = LN := ⟨_, rfl⟩
  have HLN := Lib.hid hLN
  rw [hLN] at HU hc1 ⊢
  clear hv hF hLN
  go_enter Tryz.func161, Tryz.ntmps161
  go_wp2
  go_loopw [8] (fun v wr => ∃ k : Nat, k ≤ LN ∧ v = .int .i64 k ∧ (∀ (j : Nat) (hj : j < l.length), j < k → q l[j] = false) ∧ Below w.heap.size w wr) (fun v _ => LN - (intOf v).toNat)
  case atStart => exact ⟨0, Nat.zero_le _, rfl, fun j _ h => by omega, Below.refl _ _⟩
  case round =>
    obtain ⟨k, hk, rfl, hkd, hb⟩ := hrel
    have HK := Lib.hid hkd
    have HB := Lib.hid hb
    have zr := hb.size
    clear hkd hb
    by_cases hlt' : k < LN
    · have hlt : k < l.length := by rw [HLN.out]; exact hlt'
      obtain ⟨bk, off, rfl, h00, hx⟩ := (HU.out.below HB.out).some_ k hlt
      have c0 : wr.cell? ⟨bk, off + k * 2, none⟩ = some (.string (ofL (l[k]'hlt).1)) := hx 0 _ rfl
      have c1 : wr.cell? ⟨bk, off + k * 2 + 1, none⟩ = some (.func (.func (l[k]'hlt).2) #[] #[]) := hx 1 _ rfl
      have h9 : (k : Int) < (LN : Int) := by omega
      have hcall := HF.out wr l[k] (List.getElem_mem hlt) HB.out
      have HE : Hid (∀ b, q (l[k]'hlt) = b → q (l[k]'hlt) = b) := Lib.hid (fun _ h => h)
      obtain ⟨qb, hqb⟩ : ∃ qb, q (l[k]'hlt) = qb := ⟨_, rfl⟩
      have HQ := Lib.hid hqb
      rw [hqb] at hcall
      have HLT := Lib.hid hlt
      obtain ⟨x, hx0⟩ : ∃ x, l[k]'hlt = x := ⟨_, rfl⟩
      rw [hx0] at hcall c0 c1
      have HC := Lib.hid hcall
      clear hqb hcall HE hx hx0
      cases qb with
      | true =>
        go_wp2_with (go_at_fn g; refine (HC.out).mono ?_; rintro e w2 ⟨rfl, b2⟩)
        have HB2 := Lib.hid (st HB.out b2 zr)
        clear b2
        go_wp2
        go_ret
        exact ⟨⟨_, rfl, .inl ⟨k, HLT.out, rfl, HQ.out, HK.out⟩⟩, HB2.out⟩
      | false =>
        go_wp2_with (go_at_fn g; refine (HC.out).mono ?_; rintro e w2 ⟨rfl, b2⟩)
        have HB2 := Lib.hid (st HB.out b2 zr)
        clear b2
        go_wp2
        go_roundw
        case measure => simp [intOf]; omega
        case rel => exact ⟨k + 1, by omega, by go_num, fun j hj hjk => by
          rcases Nat.lt_or_ge j k with h | h
          · exact HK.out j hj h
          · obtain rfl : j = k := by omega
            exact HQ.out, HB2.out⟩
    · obtain rfl : k = LN := by omega
      have h3 : ¬ (k : Int) < (k : Int) := by omega
      go_wp2
      go_ret
      exact ⟨⟨_, rfl, .inr ⟨rfl, fun j hj => HK.out j hj (by rw [← HLN.out]; exact hj)⟩⟩, HB.out⟩
set_option maxRecDepth 1000000 in
set_option maxHeartbeats 2000000 in
theorem indexSx_any (v : Value) (l : List (Str)) (q : Str → Bool) (g : Nat) (lb : Array Value) (eg : ∀ args w, (callFunc g args).run Tryz.prog w = .ok (.enter g args) w) (w : World) (hv : Rd 1 encT w v l)
    (hF : ∀ (W : World) (s : Str), s ∈ l → Below w.heap.size w W → Calls Tryz.prog g (#[.string (ofL s)] ++ lb) W fun e w' => e = .returned (.bool (q s)) ∧ Below W.heap.size W w') :
    Calls Tryz.prog 245 #[v, .func (.func g) #[] lb] w fun e w' => (∃ r : Int, e = .returned (.int .i64 r) ∧ IdxP l q r) ∧ Below w.heap.size w w' := by
  obtain ⟨a, c, rfl, hc1, hc2⟩ := hv.slice
  have HU := Lib.hid hv
  have HF := Lib.hid hF
  obtain ⟨LN, hLN⟩ : ∃ LN, l.length = LN := ⟨_, rfl⟩
  have HLN := Lib.hid hLN
  rw [hLN] at HU hc1 ⊢
  clear hv hF hLN
  go_enter Tryz.func245, Tryz.ntmps245
  go_wp2
  go_loopw [8] (fun v wr => ∃ k : Nat, k ≤ LN ∧ v = .int .i64 k ∧ (∀ (j : Nat) (hj : j < l.length), j < k → q l[j] = false) ∧ Below w.heap.size w wr) (fun v _ => LN - (intOf v).toNat)
  case atStart => exact ⟨0, Nat.zero_le _, rfl, fun j _ h => by omega, Below.refl _ _⟩
  case round =>
    obtain ⟨k, hk, rfl, hkd, hb⟩ := hrel
    have HK := Lib.hid hkd
    have HB := Lib.hid hb
    have zr := hb.size
    clear hkd hb
    by_cases hlt' : k < LN
    · have hlt : k < l.length := by rw [HLN.out]; exact hlt'
      obtain ⟨bk, off, rfl, h00, hx⟩ := (HU.out.below HB.out).some_ k hlt
      have c0 : wr.cell? ⟨bk, off + k, none⟩ = some (.string (ofL (l[k]'hlt))) := by have := hx 0 _ rfl; rw [Nat.mul_one, Nat.add_zero] at this; exact this
      have h9 : (k : Int) < (LN : Int) := by omega
      have hcall := HF.out wr l[k] (List.getElem_mem hlt) HB.out
      have HE : Hid (∀ b, q (l[k]'hlt) = b → q (l[k]'hlt) = b) := Lib.hid (fun _ h => h)
      obtain ⟨qb, hqb⟩ : ∃ qb, q (l[k]'hlt) = qb := ⟨_, rfl⟩
      have HQ := Lib.hid hqb
      rw [hqb] at hcall
      have HLT := Lib.hid hlt
      obtain ⟨x, hx0⟩ : ∃ x, l[k]'hlt = x := ⟨_, rfl⟩
      rw [hx0] at hcall c0
      have HC := Lib.hid hcall
      clear hqb hcall HE hx hx0
      cases qb with
      | true =>
        go_wp2_with (go_at_fn g; refine (HC.out).mono ?_; rintro e w2 ⟨rfl, b2⟩)
        have HB2 := Lib.hid (st HB.out b2 zr)
        clear b2
        go_wp2
        go_ret
        exact ⟨⟨_, rfl, .inl ⟨k, HLT.out, rfl, HQ.out, HK.out⟩⟩, HB2.out⟩
      | false =>
        go_wp2_with (go_at_fn g; refine (HC.out).mono ?_; rintro e w2 ⟨rfl, b2⟩)
        have HB2 := Lib.hid (st HB.out b2 zr)
        clear b2
        go_wp2
        go_roundw
        case measure => simp [intOf]; omega
        case rel => exact ⟨k + 1, by omega, by go_num, fun j hj hjk => by
          rcases Nat.lt_or_ge j k with h | h
          · exact HK.out j hj h
          · obtain rfl : j = k := by omega
            exact HQ.out, HB2.out⟩
    · obtain rfl : k = LN := by omega
      have h3 : ¬ (k : Int) < (k : Int) := by omega
      go_wp2
      go_ret
      exact ⟨⟨_, rfl, .inr ⟨rfl, fun j hj => HK.out j hj (by rw [← HLN.out]; exact hj)⟩⟩, HB.out⟩
set_option maxRecDepth 1000000 in
set_option maxHeartbeats 1000000 in
theorem containsSx_any (v : Value) (l : List (Str)) (q : Str → Bool) (g : Nat) (lb : Array Value) (eg : ∀ args w, (callFunc g args).run Tryz.prog w = .ok (.enter g args) w) (w : World) (hv : Rd 1 encT w v l)
    (hF : ∀ (W : World) (s : Str), s ∈ l → Below w.heap.size w W → Calls Tryz.prog g (#[.string (ofL s)] ++ lb) W fun e w' => e = .returned (.bool (q s)) ∧ Below W.heap.size W w') :
    Calls Tryz.prog 197 #[v, .func (.func g) #[] lb] w fun e w' => e = .returned (.bool (l.any q)) ∧ Below w.heap.size w w' := by
  obtain ⟨a, c, rfl, hc1, hc2⟩ := hv.slice
  have HU := Lib.hid hv
  have HF := Lib.hid hF
  clear hv hF
  go_enter Tryz.func197, Tryz.ntmps197
  go_wp2_with fail
  refine (indexSx_any _ l q g lb eg _ HU.out HF.out).mono ?_
  rintro e w2 ⟨⟨r, rfl, hr⟩, b2⟩
  have HB2 := Lib.hid b2
  have HR := Lib.hid hr.any
  clear b2 hr
  go_wp2
  go_ret
  exact ⟨by rw [← HR.out]; rfl, HB2.out⟩
end Go.Proofs.YtpmmchppfmojhaaGreatDoor


