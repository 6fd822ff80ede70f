/- The law DiffLongest. -/
import Derived.Test.YtcnjomkddbbopaaMq
import Derived.IntWalk
namespace Go.Proofs.Ytcnjomkddbbopaa
open Go.RowKit
set_option linter.unusedVariables false

theorem sub_both {a b c : List Str} {i j k : Nat} (h1 : c.Sublist (a.take i)) (h2 : c.Sublist (b.take j)) (hi : i < a.length) (hj : j ≤ k) (hk : k < b.length) (h : a[i] = b[k]) : (c ++ [a[i]]).Sublist (a.take (i + 1)) ∧ (c ++ [a[i]]).Sublist (b.take (k + 1)) := by
  constructor
  · rw [takeT_snoc a i hi]
    exact List.Sublist.append h1 (List.Sublist.refl _)
  · rw [takeT_snoc b k hk, h]
    refine List.Sublist.append (h2.trans ?_) (List.Sublist.refl _)
    exact (List.take_prefix_take_left hj).sublist
theorem sub_next {a c : List Str} {i : Nat} (h1 : c.Sublist (a.take i)) : c.Sublist (a.take (i + 1)) := h1.trans (List.take_prefix_take_left (Nat.le_succ i)).sublist
theorem goes_get {a b : List Str} : ∀ {L : List (Nat × Nat)} {i j : Nat}, Goes a b i j L → ∀ x (hx : x < L.length), i ≤ L[x].1 ∧ j ≤ L[x].2 ∧ ∃ u, a[L[x].1]? = some u ∧ b[L[x].2]? = some u := by
  intro L i j h
  induction h with
  | nil i j => intro x hx; simp at hx
  | cons hx hy h1 h2 h ih =>
    intro x hxx
    rcases x with _ | x
    · exact ⟨hx, hy, _, h1, h2⟩
    · obtain ⟨q1, q2, q3⟩ := ih x (by simpa using hxx)
      refine ⟨?_, ?_, by simpa using q3⟩
      · simp only [List.getElem_cons_succ]; omega
      · simp only [List.getElem_cons_succ]; omega
theorem goes_next {a b : List Str} : ∀ {L : List (Nat × Nat)} {i j : Nat}, Goes a b i j L → ∀ x (hx : x + 1 < L.length), L[x].1 < L[x + 1].1 ∧ L[x].2 < L[x + 1].2 := by
  intro L i j h
  induction h with
  | nil i j => intro x hx; simp at hx
  | cons hx hy h1 h2 h ih =>
    intro x hxx
    rcases x with _ | x
    · have := goes_get h 0 (by simpa using hxx)
      simp only [List.getElem_cons_zero, List.getElem_cons_succ]
      omega
    · simpa using ih x (by simpa using hxx)
/-- The greedy way. -/
def LgRel (w : World) (a b : List Str) (v7 v8 v9 : Value) (wr : World) : Prop := ∃ (c : List Str) (i j m : Nat), c.Sublist (a.take i) ∧ c.Sublist (b.take j) ∧ v7 = .int .i64 c.length ∧ v8 = .int .i64 j ∧ v9 = .int .i64 i ∧ i ≤ a.length ∧ j ≤ b.length ∧ wr = w.drewN m

set_option maxRecDepth 1000000 in
set_option maxHeartbeats 2000000 in
theorem diffLongest_walk (a1 : Option Addr) (n1 c1 : Nat) (a : List Str) (a2 : Option Addr) (n2 c2 : Nat) (b : List Str) (A : Int) (w : World)
    (hs1 : IsStrs w a1 n1 c1 a) (hs2 : IsStrs w a2 n2 c2 b) (hA : (Lit.int .u32 A).wf = true) :
    Calls Try.prog 7 #[.slice a1 n1 c1, .slice a2 n2 c2, .int .u32 A] w fun e w' => e = .returned (.bool true) ∧ Below w.heap.size w w' := by
  obtain ⟨rfl, hr1⟩ := hs1
  obtain ⟨rfl, hr2⟩ := hs2
  have H1 := Lib.hid hr1; clear hr1
  have H2 := Lib.hid hr2; clear hr2
  clear hA
  go_enter Try.func7, Try.ntmps7
  go_wp2_with fail
  refine (awake_any _).mono ?_
  rintro e w1 ⟨rfl, B1⟩
  have R1 := Lib.hid (H1.out.below B1)
  have R2 := Lib.hid (H2.out.below B1)
  have HB := Lib.hid B1
  have z1 := B1.size
  clear B1 H1 H2
  by_cases f1 : Few a
  case neg =>
    go_wp2_with fail
    refine (few_no _ _ _ R1.out f1).mono ?_
    rintro e w' ⟨rfl, h⟩
    obtain rfl := h.symm
    go_wp2
    go_ret
    exact ⟨rfl, HB.out⟩
  go_wp2_with fail
  refine (few_yes _ _ _ R1.out f1).mono ?_
  rintro e w' ⟨rfl, h⟩
  obtain rfl := h.symm
  by_cases f2 : Few b
  case neg =>
    go_wp2_with fail
    refine (few_no _ _ _ R2.out f2).mono ?_
    rintro e w' ⟨rfl, h⟩
    obtain rfl := h.symm
    go_wp2
    go_ret
    exact ⟨rfl, HB.out⟩
  go_wp2_with fail
  refine (few_yes _ _ _ R2.out f2).mono ?_
  rintro e w' ⟨rfl, h⟩
  obtain rfl := h.symm
  have F1 := Lib.hid f1
  have F2 := Lib.hid f2
  have l1 := f1.1
  have l2 := f2.1
  clear f1 f2
  go_wp2
  go_loopw [7, 8, 9] (fun v7 v8 v9 wr => LgRel w1 a b v7 v8 v9 wr) (fun _ _ v9 _ => a.length - (intOf v9).toNat)
  case atStart => exact ⟨[], 0, 0, 0, by simp, by simp, rfl, rfl, rfl, by omega, by omega, rfl⟩
  case round =>
    obtain ⟨c, i, j, m, hc1, hc2, rfl, rfl, rfl, hi, hj, rfl⟩ := hrel
    have hcl : c.length ≤ i := by have := hc1.length_le; rw [List.length_take] at this; omega
    have C1 := Lib.hid hc1
    have C2 := Lib.hid hc2
    clear hc1 hc2
    by_cases hlt : i < a.length
    · have h3 : (i : Int) < (a.length : Int) := by omega
      have h4 : (0 : Int) ≤ (i : Int) := by omega
      have hci : c.length ≤ 30 := by omega
      obtain ⟨bt, hbt⟩ : ∃ bt, (bits BinOp.and IntKind.u32 (A / 2 ^ i) 1 == 0) = bt := ⟨_, rfl⟩
      cases bt with
      | true =>
        go_wp2
        go_roundw
        case rel => exact ⟨c, i + 1, j, m, sub_next C1.out, C2.out, rfl, rfl, by go_num, by omega, hj, rfl⟩
        case measure => simp [intOf]; omega
      | false =>
        go_wp2
        go_loopw [10] (fun v10 wx => ∃ k m2 : Nat, j ≤ k ∧ k ≤ b.length ∧ v10 = .int .i64 k ∧ wx = w1.drewN m2) (fun v10 _ => b.length - (intOf v10).toNat)
        case atStart => exact ⟨j, m, Nat.le_refl _, hj, rfl, rfl⟩
        case round =>
          obtain ⟨k, m2, hjk, hk, rfl, rfl⟩ := hrel
          by_cases hkb : k < b.length
          · have g3 : (k : Int) < (b.length : Int) := by omega
            have g4 : (0 : Int) ≤ (k : Int) := by omega
            obtain ⟨ba, oa, rfl, x1⟩ := R1.out.str i hlt
            obtain ⟨bb, ob, rfl, x2⟩ := R2.out.str k hkb
            have HS := Lib.hid (fun h => sub_both C1.out C2.out hlt hjk hkb h)
            obtain ⟨s, hs⟩ : ∃ s, a[i] = s := ⟨_, rfl⟩
            obtain ⟨t, ht⟩ : ∃ t, b[k] = t := ⟨_, rfl⟩
            rw [hs] at x1 HS
            rw [ht] at x2 HS
            clear hs ht
            by_cases hst : s = t
            · have HSS := Lib.hid (HS.out hst)
              subst hst
              clear HS
              go_wp2
              go_quiet (fail)
              clear x1 x2
              go_wp2
              go_roundw
              case rel => exact ⟨c ++ [s], i + 1, k + 1, _, HSS.out.1, HSS.out.2, by first | (go_num; done) | exact val_int (by simp), by go_num, by go_num, by omega, by omega, by first | rfl | (simp only [World.drewN_drewN]; rfl) | simp only [World.drewN_drewN]⟩
              case measure => simp [intOf]; omega
            · obtain ⟨q1, q2⟩ := str_ne (fun h => hst h.symm)
              clear HS hst
              go_wp2
              go_quiet (fail)
              clear x1 x2
              go_wp2
              go_roundw
              case rel => exact ⟨k + 1, _, by omega, by omega, by go_num, by first | rfl | (simp only [World.drewN_drewN]; rfl) | simp only [World.drewN_drewN]⟩
              case measure => simp [intOf]; omega
          · obtain rfl : k = b.length := by omega
            have g3 : ¬ (b.length : Int) < (b.length : Int) := by omega
            go_wp2
            go_quiet (fail)
            go_wp2
            go_roundw
            case rel => exact ⟨c, i + 1, j, _, sub_next C1.out, C2.out, rfl, rfl, by go_num, by omega, hj, by first | rfl | (simp only [World.drewN_drewN]; rfl) | simp only [World.drewN_drewN]⟩
            case measure => simp [intOf]; omega
    · obtain rfl : i = a.length := by omega
      have h3 : ¬ (a.length : Int) < (a.length : Int) := by omega
      have hcm := lcs_most a b c (by have := C1.out; rwa [List.take_length] at this) (C2.out.trans (List.take_sublist _ _))
      have HC := Lib.hid hcm
      have hcl2 := lcs_le_left a b
      have hci : c.length ≤ 30 := by omega
      clear hcm hcl2
      have R3 := Lib.hid (R1.out.drewN m)
      have R4 := Lib.hid (R2.out.drewN m)
      have HB2 := Lib.hid (below_drewN HB.out m)
      have z2 := HB2.out.size
      go_wp2_with fail
      refine (common_any _ _ a b _ R3.out R4.out (by omega) (by omega) F1.out.sizes.2 F2.out.sizes.2).mono ?_
      rintro e w2 ⟨v, rfl, ov, b2⟩
      have RL := Lib.hid (ov.rd encP_len)
      have S1 := Lib.hid (R3.out.below b2)
      have S2 := Lib.hid (R4.out.below b2)
      have HB3 := Lib.hid (st HB2.out b2 z2)
      have hg := Lib.hid (goes_comm a b _ 0 0 rfl)
      have hll := comm0_length a b
      have HC2 : c.length ≤ (comm a b 0 0).length := by rw [hll]; exact HC.out
      have hlb2 := lcs_le_right a b
      obtain ⟨L, hL⟩ : ∃ L, comm a b 0 0 = L := ⟨_, rfl⟩
      rw [hL] at RL hg hll HC2
      have hL30 : L.length ≤ 30 := by omega
      clear hL hll hlb2 ov b2 R3 R4 HB2 z2 C1 C2 HC R1 R2 HB z1
      obtain ⟨al, cl, rfl, hcl1, hcl2⟩ := RL.out.slice
      clear hcl1 hcl2
      go_wp2
      go_loopw [12] (fun v12 wx => ∃ x m2 : Nat, x ≤ L.length ∧ v12 = .int .i64 x ∧ wx = w2.drewN m2) (fun v12 _ => L.length - (intOf v12).toNat)
      case atStart => exact ⟨0, 0, Nat.zero_le _, rfl, rfl⟩
      case round =>
        obtain ⟨x, m2, hx, rfl, rfl⟩ := hrel
        by_cases hxl : x < L.length
        · have g3 : (x : Int) < (L.length : Int) := by omega
          obtain ⟨bl, ol, rfl, y1, y2⟩ := RL.out.pair x hxl
          obtain ⟨_, _, s, e1, e2⟩ := goes_get hg.out x hxl
          have HN := Lib.hid (goes_next hg.out)
          have HRL := Lib.hid RL.out.pair
          obtain ⟨p1, hp1⟩ : ∃ p1, (L[x]).1 = p1 := ⟨_, rfl⟩
          obtain ⟨p2, hp2⟩ : ∃ p2, (L[x]).2 = p2 := ⟨_, rfl⟩
          rw [hp1] at y1 e1
          rw [hp2] at y2 e2
          have hpa := (List.getElem?_eq_some_iff.1 e1).1
          have hpb := (List.getElem?_eq_some_iff.1 e2).1
          obtain ⟨ba, oa, rfl, x1⟩ := S1.out.str p1 hpa
          obtain ⟨bb, ob, rfl, x2⟩ := S2.out.str p2 hpb
          rw [(List.getElem?_eq_some_iff.1 e1).2] at x1
          rw [(List.getElem?_eq_some_iff.1 e2).2] at x2
          have g4 : ¬ (p1 : Int) < 0 := by omega
          have g5 : ¬ (a.length : Int) ≤ (p1 : Int) := by omega
          have g6 : ¬ (p2 : Int) < 0 := by omega
          have g7 : ¬ (b.length : Int) ≤ (p2 : Int) := by omega
          have g8 : (p1 : Int) < (a.length : Int) := by omega
          have g9 : (p2 : Int) < (b.length : Int) := by omega
          have k1 : p1 ≤ 30 := by omega
          have k2 : p2 ≤ 30 := by omega
          have d4 := decide_eq_false g4
          have d5 := decide_eq_false g5
          have d6 := decide_eq_false g6
          have d7 := decide_eq_false g7
          have n5 := decide_eq_false (show ¬ a.length ≤ p1 by omega)
          have n7 := decide_eq_false (show ¬ b.length ≤ p2 by omega)
          clear e1 e2
          rcases x with _ | x
          · clear HN HRL hp1 hp2
            rw [Nat.zero_mul, Nat.add_zero] at y1 y2
            go_wp2_with fail
            go_big_quiet (fail)
            clear y1 y2 x1 x2
            go_wp2
            go_roundw
            case rel => exact ⟨1, _, by omega, by go_num, by first | rfl | (simp only [World.drewN_drewN]; rfl) | simp only [World.drewN_drewN]⟩
            case measure => simp [intOf]; omega
          · have hn := HN.out x hxl
            obtain ⟨_, _, e0, y3, y4⟩ := HRL.out x (by omega)
            cases e0
            rw [hp1, hp2] at hn
            obtain ⟨q1, hq1⟩ : ∃ q1, (L[x]).1 = q1 := ⟨_, rfl⟩
            obtain ⟨q2, hq2⟩ : ∃ q2, (L[x]).2 = q2 := ⟨_, rfl⟩
            rw [hq1] at y3 hn
            rw [hq2] at y4 hn
            have g10 : ¬ (p1 : Int) ≤ (q1 : Int) := by omega
            have g11 : ¬ (p2 : Int) ≤ (q2 : Int) := by omega
            have g12 : (0 : Int) < (x : Int) + 1 := by omega
            have g13 : (x : Int) < (L.length : Int) := by omega
            have g14 : (x : Int) + 1 < (L.length : Int) := by omega
            have g15 : (0 : Int) ≤ (x : Int) + 1 := by omega
            have g16 : ((x : Int) + 1).toNat = x + 1 := by omega
            have d10 := decide_eq_false g10
            have d11 := decide_eq_false g11
            have n10 := decide_eq_false (show ¬ p1 ≤ q1 by omega)
            have n11 := decide_eq_false (show ¬ p2 ≤ q2 by omega)
            have n12 := decide_eq_true (show 0 < x + 1 by omega)
            have d12 := decide_eq_true g12
            clear HN HRL hp1 hp2 hq1 hq2
            go_wp2_with fail
            go_big_quiet (fail)
            clear y1 y2 y3 y4 x1 x2
            go_wp2
            go_roundw
            case rel => exact ⟨x + 1 + 1, _, by omega, by go_num, by first | rfl | (simp only [World.drewN_drewN]; rfl) | simp only [World.drewN_drewN]⟩
            case measure => simp [intOf]; omega
        · obtain rfl : x = L.length := by omega
          have g3 : ¬ (L.length : Int) < (L.length : Int) := by omega
          have g4 : (c.length : Int) ≤ (L.length : Int) := by omega
          go_wp2
          go_ret
          exact ⟨rfl, below_drewN HB3.out _⟩
end Go.Proofs.Ytcnjomkddbbopaa
