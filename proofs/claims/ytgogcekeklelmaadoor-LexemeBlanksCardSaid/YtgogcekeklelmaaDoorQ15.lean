/- What the row stands on, part 15. -/
import Derived.Test.YtgogcekeklelmaaDoorQ14

/- Of the reference of layer 11: tokens with any kinds and offsets; Same. -/
namespace Go.Proofs.YtgogcekeklelmaaDoor
open Go.RowKit
set_option linter.unusedVariables false

structure TkZ where
  kd : Int
  tx : List UInt8
  at_ : Int
def encZ (t : TkZ) : List Value := [.int .i64 t.kd, .string (ofL t.tx), .int .i64 t.at_]
theorem encZ_len (t : TkZ) : (encZ t).length = 3 := rfl
theorem encZ_one (t : TkZ) : ∀ u ∈ encZ t, u.oneCell' = true := by
  intro u hu
  simp [encZ] at hu
  rcases hu with rfl | rfl | rfl <;> rfl
def Tok.z (t : Tok) : TkZ := ⟨t.kd, t.tx, t.at_⟩
theorem rdZ {w : World} {v : Value} {l : List Tok} (h : Rd 3 encTk w v l) : Rd 3 encZ w v (l.map Tok.z) := by
  obtain ⟨⟨a, c, rfl, h1, h2, hx⟩, hn⟩ := h
  refine ⟨⟨a, c, by rw [List.length_map], by rw [List.length_map]; exact h1, h2, fun hl => ?_⟩, hn⟩
  obtain ⟨b, off, ha, hb, hc⟩ := hx (by intro e; rw [e] at hl; exact hl rfl)
  refine ⟨b, off, ha, hb, fun i x hi j u hu => ?_⟩
  rw [List.getElem?_map] at hi
  cases hli : l[i]? with
  | none => rw [hli] at hi; cases hi
  | some t =>
    rw [hli] at hi
    injection hi with hi
    subst hi
    exact hc i t hli j u hu
theorem Rd.tkZ {w : World} {a : Option Addr} {n c : Nat} {l : List TkZ} (h : Rd 3 encZ w (.slice a n c) l) (i : Nat) (hi : i < l.length) : ∃ b off, a = some ⟨b, off, none⟩ ∧ b < w.heap.size ∧ w.cell? ⟨b, off + i * 3, none⟩ = some (.int .i64 (l[i]'hi).kd) ∧ w.cell? ⟨b, off + i * 3 + 1, none⟩ = some (.string (ofL (l[i]'hi).tx)) ∧ w.cell? ⟨b, off + i * 3 + 2, none⟩ = some (.int .i64 (l[i]'hi).at_) := by
  obtain ⟨b, off, e, hb, hc⟩ := h.some_ i hi
  exact ⟨b, off, e, hb, hc 0 _ rfl, hc 1 _ rfl, hc 2 _ rfl⟩
def tkq (p : Bool) (x y : TkZ) : Bool := decide (x.kd = y.kd) && decide (x.tx = y.tx) && (!p || decide (x.at_ = y.at_))
/-- Two lists of tokens are equal, with or without their offsets. -/
def sameZ (p : Bool) : List TkZ → List TkZ → Bool
  | [], [] => true
  | x :: l, y :: r => tkq p x y && sameZ p l r
  | _, _ => false
theorem sameZ_len {p : Bool} : ∀ {l r : List TkZ}, l.length ≠ r.length → sameZ p l r = false
  | [], [], h => absurd rfl h
  | [], y :: r, h => rfl
  | x :: l, [], h => rfl
  | x :: l, y :: r, h => by
    rw [sameZ, sameZ_len (fun e => h (by rw [List.length_cons, List.length_cons, e])), Bool.and_false]
theorem sameZ_drop {p : Bool} {l r : List TkZ} {k : Nat} (h : k < l.length) (h' : k < r.length) : sameZ p (l.drop k) (r.drop k) = (tkq p (l[k]'h) (r[k]'h') && sameZ p (l.drop (k + 1)) (r.drop (k + 1))) := by
  rw [List.drop_eq_getElem_cons h, List.drop_eq_getElem_cons h', sameZ]
def SamI (w : World) (S : Bool) (p : Bool) (l r : List TkZ) (v7 : Value) (wr : World) : Prop := ∃ k : Nat, k ≤ l.length ∧ v7 = .int .i64 k ∧ S = sameZ p (l.drop k) (r.drop k) ∧ Below w.heap.size w wr
set_option maxRecDepth 1000000 in
set_option maxHeartbeats 16000000 in
theorem same_any (p : Bool) (u v : Value) (l r : List TkZ) (w : World) (hu : Rd 3 encZ w u l) (hv : Rd 3 encZ w v r) :
    Calls Tryd.prog 10 #[u, v, .bool p] w fun e w' => e = .returned (.bool (sameZ p l r)) ∧ Below w.heap.size w w' := by
  obtain ⟨a1, c1, rfl, q1, q2⟩ := hu.slice
  obtain ⟨a2, c2, rfl, q3, q4⟩ := hv.slice
  have HU := Lib.hid hu
  have HV := Lib.hid hv
  clear hu hv
  by_cases hln : l.length = r.length
  case neg =>
    have e1 : ((l.length : Int) != (r.length : Int)) = true := by rw [bne_iff_ne]; omega
    have e2 : (l.length != r.length) = true := by rw [bne_iff_ne]; exact hln
    have HX := Lib.hid (sameZ_len (p := p) hln)
    clear hln
    go_enter Tryd.func10, Tryd.ntmps10
    go_wp2
    go_ret
    exact ⟨by rw [HX.out]; rfl, Below.refl _ _⟩
  have HLN := Lib.hid hln
  have t0 : ((l.length : Int) != (r.length : Int)) = false := by rw [bne_eq_false_iff_eq]; omega
  have t0' : (l.length != r.length) = false := by rw [bne_eq_false_iff_eq]; exact hln
  obtain ⟨S, hS⟩ : ∃ S, sameZ p l r = S := ⟨_, rfl⟩
  have HS := Lib.hid hS
  rw [hS]
  have hlb : (l.length : Int) ≤ 9223372036854775807 := by omega
  have hrb : (r.length : Int) ≤ 9223372036854775807 := by omega
  clear hln hS q1 q2 q3 q4
  go_enter Tryd.func10, Tryd.ntmps10
  go_wp2
  go_loopw [7] (fun v7 wr => SamI w S p l r v7 wr) (fun v7 _ => l.length - (intOf v7).toNat)
  case atStart => exact ⟨0, Nat.zero_le _, rfl, by rw [List.drop_zero, List.drop_zero, HS.out], Below.refl _ _⟩
  case round =>
    obtain ⟨k, hk, rfl, hS, hb⟩ := hrel
    have HBW := Lib.hid hb
    have HSS := Lib.hid hS
    clear hb hS HS t0 t0'
    by_cases hlt : k < l.length
    · have hlt' : k < r.length := by rw [← HLN.out]; exact hlt
      obtain ⟨b1, o1, rfl, g1, x0, x1, x2⟩ := (HU.out.below HBW.out).tkZ k hlt
      obtain ⟨b2, o2, rfl, g2, y0, y1, y2⟩ := (HV.out.below HBW.out).tkZ k hlt'
      have h9 : (k : Int) < (l.length : Int) := by omega
      have h9' : (k : Int) < (r.length : Int) := by omega
      have h4 : (0 : Int) ≤ (k : Int) := by omega
      have HD := Lib.hid (sameZ_drop (p := p) hlt hlt')
      obtain ⟨x, hx⟩ : ∃ x, l[k]'hlt = x := ⟨_, rfl⟩
      obtain ⟨y, hy⟩ : ∃ y, r[k]'hlt' = y := ⟨_, rfl⟩
      rw [hx, hy] at HD
      rw [hx] at x0 x1 x2
      rw [hy] at y0 y1 y2
      obtain ⟨xk, xt, xa⟩ := x
      obtain ⟨yk, yt, ya⟩ := y
      dsimp only at x0 x1 x2 y0 y1 y2
      have d0 : wr.drew.cell? ⟨b1, o1 + k * 3, none⟩ = some (.int .i64 xk) := x0
      have d1 : wr.drew.cell? ⟨b1, o1 + k * 3 + 1, none⟩ = some (.string (ofL xt)) := x1
      have d2 : wr.drew.cell? ⟨b1, o1 + k * 3 + 2, none⟩ = some (.int .i64 xa) := x2
      have f0 : wr.drew.cell? ⟨b2, o2 + k * 3, none⟩ = some (.int .i64 yk) := y0
      have f1 : wr.drew.cell? ⟨b2, o2 + k * 3 + 1, none⟩ = some (.string (ofL yt)) := y1
      have f2 : wr.drew.cell? ⟨b2, o2 + k * 3 + 2, none⟩ = some (.int .i64 ya) := y2
      clear hx hy g1 g2
      by_cases ck : xk = yk
      case neg =>
        have e1 : (xk != yk) = true := by rw [bne_iff_ne]; exact ck
        have e1' : (xk == yk) = false := by rw [beq_eq_false_iff_ne]; exact ck
        have HX : Hid (S = false) := Lib.hid (by rw [HSS.out, HD.out, show tkq p ⟨xk, xt, xa⟩ ⟨yk, yt, ya⟩ = false by unfold tkq; rw [decide_eq_false ck, Bool.false_and, Bool.false_and], Bool.false_and])
        clear HD HSS ck
        go_wp2_with fail
        go_quiet (fail)
        go_wp2
        go_ret
        exact ⟨by rw [HX.out]; rfl, below_drewN HBW.out _⟩
      subst ck
      have e1 : (xk != xk) = false := by rw [bne_eq_false_iff_eq]
      have e1' : (xk == xk) = true := by rw [beq_iff_eq]
      by_cases ct : xt = yt
      case neg =>
        obtain ⟨e2, e2'⟩ := str_ne ct
        have HX : Hid (S = false) := Lib.hid (by rw [HSS.out, HD.out, show tkq p ⟨xk, xt, xa⟩ ⟨xk, yt, ya⟩ = false by unfold tkq; rw [decide_eq_false ct, Bool.and_false, Bool.false_and], Bool.false_and])
        clear HD HSS ct
        go_wp2_with fail
        go_quiet (fail)
        go_wp2
        go_ret
        exact ⟨by rw [HX.out]; rfl, below_drewN HBW.out _⟩
      subst ct
      have e2 : ((ofL xt).toList == (ofL xt).toList) = true := by rw [beq_iff_eq]
      have e2' : ((ofL xt).toList != (ofL xt).toList) = false := by rw [bne_eq_false_iff_eq]
      cases p with
      | false =>
        have HX : Hid (S = sameZ false (l.drop (k + 1)) (r.drop (k + 1))) := Lib.hid (by rw [HSS.out, HD.out, show tkq false ⟨xk, xt, xa⟩ ⟨xk, xt, ya⟩ = true by unfold tkq; rw [decide_eq_true rfl, decide_eq_true rfl]; rfl, Bool.true_and])
        clear HD HSS 
        go_wp2_with fail
        go_quiet (fail)
        go_wp2
        go_roundw
        case measure => simp [intOf]; omega
        case rel => exact ⟨k + 1, by omega, by go_num, HX.out, below_drewN HBW.out _⟩
      | true =>
        by_cases ca : xa = ya
        case neg =>
          have e3 : (xa != ya) = true := by rw [bne_iff_ne]; exact ca
          have e3' : (xa == ya) = false := by rw [beq_eq_false_iff_ne]; exact ca
          have HX : Hid (S = false) := Lib.hid (by rw [HSS.out, HD.out, show tkq true ⟨xk, xt, xa⟩ ⟨xk, xt, ya⟩ = false by unfold tkq; rw [decide_eq_false ca]; simp, Bool.false_and])
          clear HD HSS ca
          go_wp2_with fail
          go_quiet (fail)
          go_wp2
          go_ret
          exact ⟨by rw [HX.out]; rfl, below_drewN HBW.out _⟩
        subst ca
        have e3 : (xa != xa) = false := by rw [bne_eq_false_iff_eq]
        have e3' : (xa == xa) = true := by rw [beq_iff_eq]
        have HX : Hid (S = sameZ true (l.drop (k + 1)) (r.drop (k + 1))) := Lib.hid (by rw [HSS.out, HD.out, show tkq true ⟨xk, xt, xa⟩ ⟨xk, xt, xa⟩ = true by unfold tkq; simp, Bool.true_and])
        clear HD HSS 
        go_wp2_with fail
        go_quiet (fail)
        go_wp2
        go_roundw
        case measure => simp [intOf]; omega
        case rel => exact ⟨k + 1, by omega, by go_num, HX.out, below_drewN HBW.out _⟩
    · obtain rfl : k = l.length := by omega
      have h3 : ¬ (l.length : Int) < (l.length : Int) := by omega
      have HX : Hid (S = true) := Lib.hid (by rw [HSS.out, List.drop_of_length_le (Nat.le_refl _), List.drop_of_length_le (by rw [HLN.out]; exact Nat.le_refl _)]; rfl)
      go_wp2
      go_ret
      exact ⟨by rw [HX.out]; rfl, HBW.out⟩
end Go.Proofs.YtgogcekeklelmaaDoor


/- Of the reference of layer 11: Spell. -/
namespace Go.Proofs.YtgogcekeklelmaaDoor
open Go.RowKit
set_option linter.unusedVariables false

def isMk1 : List UInt8 → Bool
  | [c] => isMk c
  | _ => false
def okZ (t : TkZ) : Bool := if t.kd = 1 then isWordB t.tx else if t.kd = 3 then isMk1 t.tx else if t.kd = 2 then isTextB t.tx else false
def ktZ (t : TkZ) : KT := (t.kd.toNat, t.tx)
/-- The line of tokens, and whether there is one. -/
def spellR (l : List TkZ) : List UInt8 × Nat := if l.all okZ = true then (lineS (l.map ktZ), 0) else ([], 1)
theorem spR_len (k : Nat) (t : List UInt8) : (spR k t).length ≤ 6 * t.length + 2 := by
  unfold spR
  have := escL_len 2 t
  split
  · simp only [List.length_cons, List.length_append, List.length_nil]; omega
  · omega
theorem lineF_len : ∀ l : List KT, (∀ t ∈ l, t.2.length ≤ 500) → (lineF l).length ≤ 3003 * l.length
  | [], _ => Nat.le_refl _
  | t :: l, h => by
    have ih := lineF_len l (fun x hx => h x (by simp [hx]))
    have h1 := h t (by simp)
    have h2 := spR_len t.1 t.2
    have e : lineF (t :: l) = (32 :: spR t.1 t.2) ++ lineF l := rfl
    rw [e, List.length_append, List.length_cons, List.length_cons]
    omega
theorem lineS_len (l : List KT) (h : ∀ t ∈ l, t.2.length ≤ 500) : (lineS l).length ≤ 3003 * l.length := by
  unfold lineS
  rw [List.length_drop]
  have := lineF_len l h
  omega
theorem all_bad {l : List TkZ} {k : Nat} (h : k < l.length) (hb : okZ (l[k]'h) = false) : spellR l = ([], 1) := by
  unfold spellR
  rw [if_neg]
  intro e
  have := List.all_eq_true.1 e _ (List.getElem_mem h)
  rw [hb] at this
  cases this
theorem all_snoc {l : List TkZ} {k : Nat} (h : k < l.length) (ha : (l.take k).all okZ = true) (hb : okZ (l[k]'h) = true) : (l.take (k + 1)).all okZ = true := by
  rw [List.take_succ_eq_append_getElem h, List.all_append, ha, List.all_cons, hb]
  rfl
theorem of_ext {a b : ByteArray} (h : a.data.toList = b.data.toList) : a = b := by rw [← of_data a, ← of_data b, h]
theorem add_of (x y : List UInt8) : ofL x ++ ofL y = ofL (x ++ y) := of_ext (by simp [ofL_list])
theorem mk1_data {X : ByteArray} (h : X.size = 1) : isMk1 X.data.toList = mkN (X[0]'(by omega)).toNat := by
  have h1 : X.data.toList = [X[0]'(by omega)] := by
    have e := data_drop (s := X) (k := 0) (by omega)
    rw [List.drop_zero, data_end (by omega)] at e
    exact e
  rw [h1]
  rfl
theorem mk1_no {X : ByteArray} (h : X.size ≠ 1) : isMk1 X.data.toList = false := by
  have h2 := len_data X
  match X.data.toList, h2 with
  | [], _ => rfl
  | [c], h2 => exact absurd (by rw [← h2]; rfl) h
  | a :: b :: l, _ => rfl
end Go.Proofs.YtgogcekeklelmaaDoor


/- The law's own functions of layer 11: from, to, few. -/
namespace Go.Proofs.YtgogcekeklelmaaDoor
open Go.RowKit
set_option linter.unusedVariables false

theorem Tryd.infoTl : (Tryd.prog.info? 39).map (fun i => (i.zero, i.size, i.bytes)) = some (some (.agg #[.int .i64 0, .string ⟨#[]⟩, .int .i64 0]), 3, 32) := by kernel_rfl
def OwnP (t : TypeId) (l : List TkZ) (w : World) (e : Ending) (w' : World) : Prop := ∃ u, e = .returned u ∧ Own1 3 encZ w' w.heap.size t u l ∧ Below w.heap.size w w'
def CopI (t : TypeId) (l : List TkZ) (w : World) (v3 v8 : Value) (wr : World) : Prop := ∃ k : Nat, k ≤ l.length ∧ v8 = .int .i64 k ∧ Own1 3 encZ wr w.heap.size t v3 (l.take k) ∧ Below w.heap.size w wr
set_option maxRecDepth 1000000 in
set_option maxHeartbeats 8000000 in
theorem from_any (v : Value) (l : List TkZ) (w : World) (hv : Rd 3 encZ w v l) (hl : l.length ≤ 10000000) :
    Calls Tryd.prog 11 #[v] w (OwnP 48 l w) := by
  obtain ⟨a1, c1, rfl, q1, q2⟩ := hv.slice
  obtain ⟨iT, hiT, hzT, hkT, hbT⟩ := info_partsT Tryd.infoTk
  have HV := Lib.hid hv
  have HL := Lib.hid hl
  have hlb : (l.length : Int) ≤ 10000000 := by omega
  clear hv hl q1 q2
  go_enter Tryd.func11, Tryd.ntmps11
  go_wp2
  go_loopw [3, 8] (fun v3 v8 wr => CopI 48 l w v3 v8 wr) (fun _ v8 _ => l.length - (intOf v8).toNat)
  case atStart => exact ⟨0, Nat.zero_le _, rfl, own1_nil _ _ _, Below.refl _ _⟩
  case round =>
    obtain ⟨k, hk, rfl, hown, hb⟩ := hrel
    have HBW := Lib.hid hb
    have HO := Lib.hid hown
    clear hb hown
    by_cases hlt : k < l.length
    · obtain ⟨b1, o1, rfl, g1, x0, x1, x2⟩ := (HV.out.below HBW.out).tkZ k hlt
      have h9 : (k : Int) < (l.length : Int) := by omega
      have h4 : (0 : Int) ≤ (k : Int) := by omega
      have HTK := Lib.hid (List.take_succ_eq_append_getElem hlt)
      have HLE : Hid ((l.take k).length ≤ 1000000000) := Lib.hid (by rw [List.length_take]; have := HL.out; omega)
      obtain ⟨x, hx⟩ : ∃ x, l[k]'hlt = x := ⟨_, rfl⟩
      rw [hx] at HTK x0 x1 x2
      obtain ⟨kd, tx, ta⟩ := x
      dsimp only at x0 x1 x2
      obtain ⟨X, hX⟩ : ∃ X, ofL tx = X := ⟨_, rfl⟩
      rw [hX] at x1
      have b3 : Below wr.heap.size wr (wr.alloc (.cells #[.int .i64 kd, .string X, .int .i64 ta] 39)) := (Below.refl _ _).alloc (Nat.le_refl _) _
      have HO2 := Lib.hid (Own1.below HO.out b3)
      have HZ2 : Hid (w.heap.size ≤ wr.heap.size + 1) := Lib.hid (Nat.le_succ_of_le HBW.out.size)
      have HBB := Lib.hid (HBW.out.trans (b3.mono HBW.out.size))
      have HEC : Hid (encZ ⟨kd, tx, ta⟩ = [.int .i64 kd, .string X, .int .i64 ta]) := Lib.hid (by rw [← hX]; rfl)
      clear hx hX b3 g1
      go_wp2_with (first | (at_builtin; go_loud (refine wpList_append_at (w0 := wr.alloc (.cells #[.int .i64 kd, .string X, .int .i64 ta] 39)) (x := (⟨kd, tx, ta⟩ : TkZ)) (N := wr.heap.size + 1) (alloc_sz _ _) rfl _ _ 27 rfl w.heap.size iT _ 32 Tryd.underlying27 hiT hzT hkT hbT (by omega) rfl (by omega) encZ_len encZ_one _ (l.take k) HEC.out.symm rfl HO2.out rfl HLE.out HZ2.out ?_; intro v9 w9 y9 b9 g9; have Y9 := Lib.hid y9; have B9 := Lib.hid b9; clear y9 b9 g9)) | fail)
      go_wp2
      go_roundw
      case measure => simp [intOf]; omega
      case rel => exact ⟨k + 1, by omega, by go_num, by rw [HTK.out]; exact Y9.out, HBB.out.trans B9.out⟩
    · obtain rfl : k = l.length := by omega
      have h3 : ¬ (l.length : Int) < (l.length : Int) := by omega
      rw [List.take_length] at HO
      go_wp2
      go_ret
      exact ⟨_, rfl, HO.out, HBW.out⟩
set_option maxRecDepth 1000000 in
set_option maxHeartbeats 8000000 in
theorem to_any (v : Value) (l : List TkZ) (w : World) (hv : Rd 3 encZ w v l) (hl : l.length ≤ 10000000) :
    Calls Tryd.prog 14 #[v] w (OwnP 39 l w) := by
  obtain ⟨a1, c1, rfl, q1, q2⟩ := hv.slice
  obtain ⟨iT, hiT, hzT, hkT, hbT⟩ := info_partsT Tryd.infoTl
  have HV := Lib.hid hv
  have HL := Lib.hid hl
  have hlb : (l.length : Int) ≤ 10000000 := by omega
  clear hv hl q1 q2
  go_enter Tryd.func14, Tryd.ntmps14
  go_wp2
  go_loopw [3, 8] (fun v3 v8 wr => CopI 39 l w v3 v8 wr) (fun _ v8 _ => l.length - (intOf v8).toNat)
  case atStart => exact ⟨0, Nat.zero_le _, rfl, own1_nil _ _ _, Below.refl _ _⟩
  case round =>
    obtain ⟨k, hk, rfl, hown, hb⟩ := hrel
    have HBW := Lib.hid hb
    have HO := Lib.hid hown
    clear hb hown
    by_cases hlt : k < l.length
    · obtain ⟨b1, o1, rfl, g1, x0, x1, x2⟩ := (HV.out.below HBW.out).tkZ k hlt
      have h9 : (k : Int) < (l.length : Int) := by omega
      have h4 : (0 : Int) ≤ (k : Int) := by omega
      have HTK := Lib.hid (List.take_succ_eq_append_getElem hlt)
      have HLE : Hid ((l.take k).length ≤ 1000000000) := Lib.hid (by rw [List.length_take]; have := HL.out; omega)
      obtain ⟨x, hx⟩ : ∃ x, l[k]'hlt = x := ⟨_, rfl⟩
      rw [hx] at HTK x0 x1 x2
      obtain ⟨kd, tx, ta⟩ := x
      dsimp only at x0 x1 x2
      obtain ⟨X, hX⟩ : ∃ X, ofL tx = X := ⟨_, rfl⟩
      rw [hX] at x1
      have b3 : Below wr.heap.size wr (wr.alloc (.cells #[.int .i64 kd, .string X, .int .i64 ta] 48)) := (Below.refl _ _).alloc (Nat.le_refl _) _
      have HO2 := Lib.hid (Own1.below HO.out b3)
      have HZ2 : Hid (w.heap.size ≤ wr.heap.size + 1) := Lib.hid (Nat.le_succ_of_le HBW.out.size)
      have HBB := Lib.hid (HBW.out.trans (b3.mono HBW.out.size))
      have HEC : Hid (encZ ⟨kd, tx, ta⟩ = [.int .i64 kd, .string X, .int .i64 ta]) := Lib.hid (by rw [← hX]; rfl)
      clear hx hX b3 g1
      go_wp2_with (first | (at_builtin; go_loud (refine wpList_append_at (w0 := wr.alloc (.cells #[.int .i64 kd, .string X, .int .i64 ta] 48)) (x := (⟨kd, tx, ta⟩ : TkZ)) (N := wr.heap.size + 1) (alloc_sz _ _) rfl _ _ 23 rfl w.heap.size iT _ 32 Tryd.underlying23 hiT hzT hkT hbT (by omega) rfl (by omega) encZ_len encZ_one _ (l.take k) HEC.out.symm rfl HO2.out rfl HLE.out HZ2.out ?_; intro v9 w9 y9 b9 g9; have Y9 := Lib.hid y9; have B9 := Lib.hid b9; clear y9 b9 g9)) | fail)
      go_wp2
      go_roundw
      case measure => simp [intOf]; omega
      case rel => exact ⟨k + 1, by omega, by go_num, by rw [HTK.out]; exact Y9.out, HBB.out.trans B9.out⟩
    · obtain rfl : k = l.length := by omega
      have h3 : ¬ (l.length : Int) < (l.length : Int) := by omega
      rw [List.take_length] at HO
      go_wp2
      go_ret
      exact ⟨_, rfl, HO.out, HBW.out⟩
def fewB (l : List TkZ) : Bool := l.all (fun t => decide (t.tx.length ≤ 500)) && decide (l.length ≤ 60)
def FewI (l : List TkZ) (w : World) (v6 : Value) (wr : World) : Prop := ∃ k : Nat, k ≤ l.length ∧ v6 = .int .i64 k ∧ (∀ (j : Nat) (h : j < l.length), j < k → (l[j]'h).tx.length ≤ 500) ∧ wr = w
set_option maxRecDepth 1000000 in
set_option maxHeartbeats 8000000 in
theorem few_any (v : Value) (l : List TkZ) (w : World) (hv : Rd 3 encZ w v l) :
    Calls Tryd.prog 12 #[v] w fun e w' => e = .returned (.bool (fewB l)) ∧ w' = w := by
  obtain ⟨a1, c1, rfl, q1, q2⟩ := hv.slice
  have HV := Lib.hid hv
  have hlb : (l.length : Int) ≤ 9223372036854775807 := by omega
  obtain ⟨R, hR⟩ : ∃ R, fewB l = R := ⟨_, rfl⟩
  have HR := Lib.hid hR
  rw [hR]
  clear hv q1 q2 hR
  go_enter Tryd.func12, Tryd.ntmps12
  go_wp2
  go_loopw [6] (fun v6 wr => FewI l w v6 wr) (fun v6 _ => l.length - (intOf v6).toNat)
  case atStart => exact ⟨0, Nat.zero_le _, rfl, fun j h h1 => by omega, rfl⟩
  case round =>
    obtain ⟨k, hk, rfl, hall, hwr⟩ := hrel
    obtain rfl := hwr.symm
    have HA := Lib.hid hall
    clear hall hwr
    by_cases hlt : k < l.length
    · obtain ⟨b1, o1, rfl, g1, x0, x1, x2⟩ := HV.out.tkZ k hlt
      have h9 : (k : Int) < (l.length : Int) := by omega
      have h4 : (0 : Int) ≤ (k : Int) := by omega
      obtain ⟨X, hX⟩ : ∃ X, ofL (l[k]'hlt).tx = X := ⟨_, rfl⟩
      have HXZ : Hid (X.size = (l[k]'hlt).tx.length) := Lib.hid (by rw [← hX, ofL_size])
      rw [hX] at x1
      clear hX g1 x0 x2
      by_cases h5 : X.size ≤ 500
      · have z1 : decide ((500 : Int) < (X.size : Int)) = false := decide_eq_false (by omega)
        have HA2 : Hid (∀ (j : Nat) (h : j < l.length), j < k + 1 → (l[j]'h).tx.length ≤ 500) := Lib.hid (fun j h h1 => by
          rcases Nat.lt_or_ge j k with h2 | h2
          · exact HA.out j h h2
          · obtain rfl : j = k := by omega
            have := HXZ.out
            omega)
        clear h5
        go_wp2
        go_roundw
        case measure => simp [intOf]; omega
        case rel => exact ⟨k + 1, by omega, by go_num, HA2.out, rfl⟩
      · have z1 : decide ((500 : Int) < (X.size : Int)) = true := decide_eq_true (by omega)
        have HF : Hid (R = false) := Lib.hid (by
          rw [← HR.out]
          unfold fewB
          rw [Bool.and_eq_false_iff]
          left
          rw [List.all_eq_false]
          exact ⟨_, List.getElem_mem hlt, by have := HXZ.out; simp; omega⟩)
        clear h5 HXZ
        go_wp2
        go_ret
        exact ⟨by rw [HF.out]; rfl, rfl⟩
    · obtain rfl : k = l.length := by omega
      have h3 : ¬ (l.length : Int) < (l.length : Int) := by omega
      have HF : Hid (R = decide ((l.length : Int) ≤ 60)) := Lib.hid (by
        rw [← HR.out]
        unfold fewB
        rw [List.all_eq_true.2 (fun t ht => by
          obtain ⟨j, h, rfl⟩ := List.mem_iff_getElem.1 ht
          exact decide_eq_true (HA.out j h h)), Bool.true_and]
        by_cases h : l.length ≤ 60
        · rw [decide_eq_true h, decide_eq_true (by omega)]
        · rw [decide_eq_false h, decide_eq_false (by omega)])
      by_cases h60 : l.length ≤ 60
      · have z1 : (l.length : Int) ≤ 60 := by omega
        have HF2 : Hid (R = true) := Lib.hid (by rw [HF.out, decide_eq_true z1])
        clear h60
        go_wp2
        go_ret
        exact ⟨by rw [HF2.out]; rfl, rfl⟩
      · have z1 : ¬ (l.length : Int) ≤ 60 := by omega
        have HF2 : Hid (R = false) := Lib.hid (by rw [HF.out, decide_eq_false z1])
        clear h60
        go_wp2
        go_ret
        exact ⟨by rw [HF2.out]; rfl, rfl⟩
end Go.Proofs.YtgogcekeklelmaaDoor


