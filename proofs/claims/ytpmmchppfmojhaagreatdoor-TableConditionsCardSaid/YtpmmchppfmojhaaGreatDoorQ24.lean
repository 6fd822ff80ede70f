/- What the row stands on, part 24. -/
import Derived.Test.YtpmmchppfmojhaaGreatDoorQ23

/- What areValid answers, plain. -/
namespace Go.Proofs.YtpmmchppfmojhaaGreatDoor
open Go.RowKit
set_option linter.unusedVariables false

theorem nodup_any {α β : Type} (f : α → β) (q : α → α → Bool) (hq : ∀ x y, q x y = true ↔ f x = f y) (l : List α) : (l.map f).Nodup ↔ ∀ (i : Nat) (hi : i < l.length), (l.take i).any (q l[i]) = false := by
  unfold List.Nodup
  rw [List.pairwise_iff_getElem]
  constructor
  · intro h i hi
    rw [List.any_eq_false]
    intro y hy e
    obtain ⟨j, hj, rfl⟩ := List.getElem_of_mem hy
    rw [List.length_take] at hj
    have := h j i (by rw [List.length_map]; omega) (by rw [List.length_map]; exact hi) (by omega)
    rw [List.getElem_map, List.getElem_map] at this
    refine this ?_
    rw [List.getElem_take] at e
    exact ((hq _ _).1 e).symm
  · intro h i j hi hj hij
    rw [List.length_map] at hi hj
    rw [List.getElem_map, List.getElem_map]
    intro e
    have h1 := h j hj
    rw [List.any_eq_false] at h1
    refine h1 l[i] ?_ ((hq _ _).2 e.symm)
    exact List.mem_take_iff_getElem.2 ⟨i, by omega, rfl⟩
theorem allV_iff {α β : Type} (f : α → β) (q : α → α → Bool) (hq : ∀ x y, q x y = true ↔ f x = f y) {l : List α} {most : Int} {V : Nat → Prop} : AllV l most V q ↔ (l.length : Int) ≤ most ∧ (∀ i, i < l.length → V i) ∧ (l.map f).Nodup := by
  rw [nodup_any f q hq]
  constructor
  · rintro ⟨h1, h2, h3⟩
    exact ⟨h1, h2, fun i hi => h3 i hi hi⟩
  · rintro ⟨h1, h2, h3⟩
    exact ⟨h1, h2, fun i hi _ => h3 i hi⟩
theorem allV_never {α : Type} {q : α → α → Bool} (hq : ∀ x y, q x y = false) {l : List α} {most : Int} {V : Nat → Prop} : AllV l most V q ↔ (l.length : Int) ≤ most ∧ (∀ i, i < l.length → V i) := by
  constructor
  · rintro ⟨h1, h2, h3⟩
    exact ⟨h1, h2⟩
  · rintro ⟨h1, h2⟩
    refine ⟨h1, h2, fun i hi _ => ?_⟩
    rw [List.any_eq_false]
    intro y _ e
    rw [hq] at e
    cases e
/-- By the elements. -/
theorem all_getElem {α : Type} {l : List α} {P : α → Prop} : (∀ y ∈ l, P y) ↔ ∀ i, i < l.length → ∀ h : i < l.length, P (l[i]'h) := by
  constructor
  · intro h i _ hi; exact h _ (List.getElem_mem hi)
  · intro h y hy
    obtain ⟨i, hi, rfl⟩ := List.getElem_of_mem hy
    exact h i hi hi
theorem rules_all {raws : List (Str × RawS)} {l : List Rul} (hl : raws.length = l.length) (h : ∀ (i : Nat) (h : i < raws.length) (h' : i < l.length), raws[i].1 = l[i].1) :
    AllV raws 5 (fun i => ∀ h : i < l.length, (l[i]'h).1 ∈ clsL ∧ okC (l[i]'h).2 = true) qRu ↔ rulesOk l := by
  rw [allV_iff Prod.fst qRu (fun x y => by unfold qRu; rw [decide_eq_true_eq])]
  have e : raws.map Prod.fst = l.map Prod.fst := List.ext_getElem (by rw [List.length_map, List.length_map, hl]) (fun i a b => by
    rw [List.length_map] at a b
    rw [List.getElem_map, List.getElem_map]; exact h i a b)
  rw [e]
  constructor
  · rintro ⟨h1, h2, h3⟩
    refine ⟨?_, h3⟩
    intro r hr
    obtain ⟨i, hi, rfl⟩ := List.getElem_of_mem hr
    exact h2 i (by omega) hi
  · intro h0
    refine ⟨?_, fun i hi hi' => h0.1 _ (List.getElem_mem hi'), h0.2⟩
    have := (rules_sm h0).2.1
    omega
theorem lis_all {l : List Lis} : AllV l 10 (fun i => ∀ h : i < l.length, okW (l[i]'h).st ∧ okX (l[i]'h).two ∧ okX (l[i]'h).sa ∧ okX (l[i]'h).md ∧ okX (l[i]'h).en) qLi ↔ (∀ y ∈ l, okW y.st ∧ okX y.two ∧ okX y.sa ∧ okX y.md ∧ okX y.en) ∧ (l.map Lis.st).Nodup ∧ l.length ≤ 10 := by
  rw [allV_iff Lis.st qLi (fun x y => by unfold qLi; rw [decide_eq_true_eq]), all_getElem]
  constructor
  · rintro ⟨h1, h2, h3⟩; exact ⟨h2, h3, by omega⟩
  · rintro ⟨h1, h2, h3⟩; exact ⟨by omega, h1, h2⟩
theorem uni_all {l : List Uni} : AllV l 100 (fun i => ∀ h : i < l.length, okW (l[i]'h).un ∧ (l[i]'h).cl ∈ cls6 ∧ okX (l[i]'h).pt) qUn ↔ (∀ y ∈ l, okW y.un ∧ y.cl ∈ cls6 ∧ okX y.pt) ∧ (l.map (fun y => (y.un, y.cl))).Nodup ∧ l.length ≤ 100 := by
  rw [allV_iff (fun y : Uni => (y.un, y.cl)) qUn (fun x y => by unfold qUn; rw [Bool.and_eq_true, decide_eq_true_eq, decide_eq_true_eq, Prod.mk.injEq]), all_getElem]
  constructor
  · rintro ⟨h1, h2, h3⟩; exact ⟨h2, h3, by omega⟩
  · rintro ⟨h1, h2, h3⟩; exact ⟨by omega, h1, h2⟩
theorem dat_all {l : List (Str × Str)} : AllV l 30 (fun i => ∀ h : i < l.length, okW (l[i]'h).1 ∧ okX (l[i]'h).2) qDa ↔ (∀ y ∈ l, okW y.1 ∧ okX y.2) ∧ (l.map Prod.fst).Nodup ∧ l.length ≤ 30 := by
  rw [allV_iff Prod.fst qDa (fun x y => by unfold qDa; rw [decide_eq_true_eq]), all_getElem]
  constructor
  · rintro ⟨h1, h2, h3⟩; exact ⟨h2, h3, by omega⟩
  · rintro ⟨h1, h2, h3⟩; exact ⟨by omega, h1, h2⟩
theorem ali_all {l : List (Str × Str)} : AllV l 200 (fun i => ∀ h : i < l.length, okW (l[i]'h).1 ∧ okW (l[i]'h).2) qAl ↔ (∀ y ∈ l, okW y.1 ∧ okW y.2) ∧ l.length ≤ 200 := by
  rw [allV_never (q := qAl) (fun x y => rfl), all_getElem]
  constructor
  · rintro ⟨h1, h2⟩; exact ⟨h2, by omega⟩
  · rintro ⟨h1, h2⟩; exact ⟨by omega, h1⟩
theorem nea_all {l : List Nea} : AllV l 200 (fun i => ∀ h : i < l.length, okW (l[i]'h).fr ∧ okW (l[i]'h).to_ ∧ 0 ≤ (l[i]'h).co ∧ (l[i]'h).co ≤ 1000) qNe ↔ (∀ y ∈ l, okW y.fr ∧ okW y.to_ ∧ 0 ≤ y.co ∧ y.co ≤ 1000) ∧ l.length ≤ 200 := by
  rw [allV_never (q := qNe) (fun x y => rfl), all_getElem]
  constructor
  · rintro ⟨h1, h2⟩; exact ⟨h2, by omega⟩
  · rintro ⟨h1, h2⟩; exact ⟨by omega, h1⟩
theorem loc_all {raws : List RawLo} {l : List Loc} (hl : raws.length = l.length) : AllV raws 60 (fun i => ∀ h : i < l.length, LocV (l[i]'h)) qLo ↔ (∀ y ∈ l, LocV y) ∧ l.length ≤ 60 := by
  rw [allV_never (q := qLo) (fun x y => rfl), all_getElem, hl]
  constructor
  · rintro ⟨h1, h2⟩; exact ⟨h2, by omega⟩
  · rintro ⟨h1, h2⟩; exact ⟨by omega, h1⟩
end Go.Proofs.YtpmmchppfmojhaaGreatDoor


/- Of the program's table parser: word, text, mark, choice, number, condition. -/
namespace Go.Proofs.YtpmmchppfmojhaaGreatDoor
open Go.RowKit
set_option linter.unusedVariables false

theorem PLn.step {g B0 : Nat} {m m1 : PMem} {q : Bool × List KT} {w w1 w' : World} (hs : sameM m m1) (hb : But g w w1) (h : PLn g B0 m1 q w1 w') : PLn g B0 m q w w' := by
  obtain ⟨m2, h1, h2, h3⟩ := h
  exact ⟨m2, hs.trans h1, h2, hb.trans h3⟩
theorem exp_ne {kd : Nat} {q : Bool × List KT} (hk : kd ≠ 0) (h : (expS kd q).1 = true) : q.2 ≠ [] := fun e => by
  unfold expS reqS at h
  rw [e] at h
  simp [hdK] at h
  exact hk h.2.symm
theorem req_ne {b : Bool} {q : Bool × List KT} (h : (reqS b q).1 = true) : q.1 = true := by
  unfold reqS at h
  simp at h
  exact h.1
set_option maxRecDepth 1000000 in
set_option maxHeartbeats 2000000 in
theorem word_z (g B0 : Nat) (m : PMem) (ok : Bool) (ts : List KT) (w : World) (h : PL g B0 m ok ts w) :
    Calls Tryz.prog 217 #[.pointer (some ⟨g, 0, none⟩)] w fun e w' => e = .returned (.string (ofL (hdK ts).2)) ∧ PLn g B0 m (rdS 1 (ok, ts)) w w' := by
  have H := Lib.hid h
  have HR : Hid (rdS 1 (ok, ts) = nxS (expS 1 (ok, ts))) := Lib.hid rfl
  have HN := Lib.hid (fun h => exp_ne (kd := 1) (q := (ok, ts)) (by decide) h)
  rw [HR.out]
  clear h HR
  go_enter Tryz.func217, Tryz.ntmps217
  go_wp2_with fail
  refine (expect_z g B0 m ok ts 1 _ H.out).mono ?_
  rintro e w2 ⟨rfl, m', hs, p2, b2⟩
  have P2 := Lib.hid p2
  have B2 := Lib.hid b2
  have HS := Lib.hid hs
  clear p2 b2 hs
  go_wp2_with fail
  refine (next_z g B0 m' _ _ HN.out _ P2.out).mono ?_
  rintro e w3 ⟨rfl, p3⟩
  have P3 := Lib.hid (PLn.step HS.out B2.out p3)
  clear p3
  go_wp2
  go_ret
  exact ⟨rfl, P3.out⟩
set_option maxRecDepth 1000000 in
set_option maxHeartbeats 2000000 in
theorem mark_z (g B0 : Nat) (m : PMem) (ok : Bool) (ts : List KT) (t : ByteArray) (w : World) (h : PL g B0 m ok ts w) :
    Calls Tryz.prog 218 #[.pointer (some ⟨g, 0, none⟩), .string t] w fun e w' => e = .returned (.tuple #[]) ∧ PLn g B0 m (mkS t.data.toList (ok, ts)) w w' := by
  have H := Lib.hid h
  obtain ⟨b, hb⟩ : ∃ b, decide ((hdK ts).2 = t.data.toList) = b := ⟨_, rfl⟩
  have e1 : ((ofL (hdK ts).2).toList == t.toList) = b := by
    rw [← hb, ByteArray.toList_eq, ByteArray.toList_eq]
    by_cases h1 : (hdK ts).2 = t.data.toList
    · rw [decide_eq_true h1, beq_iff_eq]; exact h1
    · rw [decide_eq_false h1, beq_eq_false_iff_ne]; exact h1
  have HR : Hid (mkS t.data.toList (ok, ts) = nxS (reqS b (expS 3 (ok, ts)))) := Lib.hid (by rw [← hb]; rfl)
  have HN := Lib.hid (fun h => exp_ne (kd := 3) (q := (ok, ts)) (by decide) (req_ne (b := b) h))
  rw [HR.out]
  clear h HR hb
  go_enter Tryz.func218, Tryz.ntmps218
  go_wp2_with fail
  refine (expect_z g B0 m ok ts 3 _ H.out).mono ?_
  rintro e w2 ⟨rfl, m', hs, p2, b2⟩
  have P2 := Lib.hid p2
  have B2 := Lib.hid b2
  have HS := Lib.hid hs
  clear p2 b2 hs
  go_wp2_with fail
  refine (require_z g B0 m' _ _ b 3 (by decide) _ P2.out).mono ?_
  rintro e w3 ⟨rfl, m3, hs3, p3, b3⟩
  have P3 := Lib.hid p3
  have B3 := Lib.hid (B2.out.trans b3)
  have HS3 := Lib.hid (HS.out.trans hs3)
  clear p3 b3 hs3
  go_wp2_with fail
  refine (next_z g B0 m3 _ _ HN.out _ P3.out).mono ?_
  rintro e w4 ⟨rfl, p4⟩
  have P4 := Lib.hid (PLn.step HS3.out B3.out p4)
  clear p4
  go_wp2
  go_end0
  exact ⟨rfl, P4.out⟩
/-- A condition whose blocks all lie at n or above. -/
def RdCG (n : Nat) (w : World) (v : Value) (c : Cnd) : Prop := ∀ w', (∀ b, n ≤ b → b < w.heap.size → w'.heap[b]? = w.heap[b]?) → RdC w' v c
theorem rdC_nilZ (w : World) : RdC w (.slice none 0 0) [] := ⟨[], rd_nil w, rfl, fun i h _ => by simp at h⟩
theorem RdCG.nil (n : Nat) (w : World) : RdCG n w (.slice none 0 0) [] := fun w' _ => rdC_nilZ w'
theorem RdCG.step {n : Nat} {w w' : World} {v : Value} {c : Cnd} (h : RdCG n w v c) (hb : ∀ b, n ≤ b → b < w.heap.size → w'.heap[b]? = w.heap[b]?) (hs : w.heap.size ≤ w'.heap.size) : RdCG n w' v c := fun w'' h' => h w'' (fun b h1 h2 => (h' b h1 (by omega)).trans (hb b h1 h2))
theorem RdCG.but {n g : Nat} {w w' : World} {v : Value} {c : Cnd} (h : RdCG n w v c) (hb : But g w w') (hg : g < n) : RdCG n w' v c := h.step (fun b h1 h2 => hb.block b h2 (by omega)) hb.size
theorem RdCG.below {n : Nat} {w w' : World} {v : Value} {c : Cnd} (h : RdCG n w v c) (hb : Below w.heap.size w w') : RdCG n w' v c := h.step (fun b _ h2 => hb.block b h2) hb.size
end Go.Proofs.YtpmmchppfmojhaaGreatDoor


/- Of the program's table parser: texts, classes and directions, the tables of statements. -/
namespace Go.Proofs.YtpmmchppfmojhaaGreatDoor
open Go.RowKit
set_option linter.unusedVariables false

theorem beq_str (x : ByteArray) (a : Str) (y : ByteArray) (hy : y.data.toList = a) : (x.toList == y.toList) = decide (x.data.toList = a) := by
  rw [ByteArray.toList_eq, ByteArray.toList_eq, hy]
  by_cases h : x.data.toList = a
  · rw [h, decide_eq_true rfl, beq_iff_eq]
  · rw [decide_eq_false h, beq_eq_false_iff_ne]; exact h
set_option maxRecDepth 1000000 in
set_option maxHeartbeats 2000000 in
theorem isDirection_any (t : ByteArray) (w : World) : Calls Tryz.prog 77 #[.string t] w fun e w' => e = .returned (.bool (decide (t.data.toList ∈ dirL))) ∧ w' = w := by
  have h1 := beq_str t [108, 116, 114] ⟨#[108, 116, 114]⟩ rfl
  have h2 := beq_str t [114, 116, 108] ⟨#[114, 116, 108]⟩ rfl
  obtain ⟨b1, hb1⟩ : ∃ b, decide (t.data.toList = [108, 116, 114]) = b := ⟨_, rfl⟩
  obtain ⟨b2, hb2⟩ : ∃ b, decide (t.data.toList = [114, 116, 108]) = b := ⟨_, rfl⟩
  have HV : Hid (decide (t.data.toList ∈ dirL) = (b1 || b2)) := Lib.hid (by rw [← hb1, ← hb2, ← Bool.decide_or]; exact decide_eq_decide.2 (by unfold dirL; simp))
  rw [hb1] at h1
  rw [hb2] at h2
  have h1' : (t.toList == [108, 116, 114]) = b1 := by rw [← h1, ByteArray.toList_eq ⟨#[108, 116, 114]⟩]
  have h2' : (t.toList == [114, 116, 108]) = b2 := by rw [← h2, ByteArray.toList_eq ⟨#[114, 116, 108]⟩]
  rw [HV.out]
  clear hb1 hb2 h1 h2
  cases b1 with
  | true =>
    go_enter Tryz.func77, Tryz.ntmps77
    go_wp2
    go_ret
    exact ⟨rfl, rfl⟩
  | false =>
    go_enter Tryz.func77, Tryz.ntmps77
    go_wp2
    go_ret
    exact ⟨by simp, rfl⟩
set_option maxRecDepth 1000000 in
set_option maxHeartbeats 4000000 in
theorem isRuleClass_any (t : ByteArray) (w : World) : Calls Tryz.prog 142 #[.string t] w fun e w' => e = .returned (.bool (decide (t.data.toList ∈ clsL))) ∧ w' = w := by
  have k1 := beq_str t [122, 101, 114, 111] ⟨#[122, 101, 114, 111]⟩ rfl
  have k2 := beq_str t [111, 110, 101] ⟨#[111, 110, 101]⟩ rfl
  have k3 := beq_str t [116, 119, 111] ⟨#[116, 119, 111]⟩ rfl
  have k4 := beq_str t [102, 101, 119] ⟨#[102, 101, 119]⟩ rfl
  have k5 := beq_str t [109, 97, 110, 121] ⟨#[109, 97, 110, 121]⟩ rfl
  obtain ⟨b1, hb1⟩ : ∃ b, decide (t.data.toList = [122, 101, 114, 111]) = b := ⟨_, rfl⟩
  obtain ⟨b2, hb2⟩ : ∃ b, decide (t.data.toList = [111, 110, 101]) = b := ⟨_, rfl⟩
  obtain ⟨b3, hb3⟩ : ∃ b, decide (t.data.toList = [116, 119, 111]) = b := ⟨_, rfl⟩
  obtain ⟨b4, hb4⟩ : ∃ b, decide (t.data.toList = [102, 101, 119]) = b := ⟨_, rfl⟩
  obtain ⟨b5, hb5⟩ : ∃ b, decide (t.data.toList = [109, 97, 110, 121]) = b := ⟨_, rfl⟩
  have HV : Hid (decide (t.data.toList ∈ clsL) = (b1 || (b2 || (b3 || (b4 || b5))))) := Lib.hid (by rw [← hb1, ← hb2, ← hb3, ← hb4, ← hb5, ← Bool.decide_or, ← Bool.decide_or, ← Bool.decide_or, ← Bool.decide_or]; exact decide_eq_decide.2 (by unfold clsL; simp))
  rw [hb1] at k1
  rw [hb2] at k2
  rw [hb3] at k3
  rw [hb4] at k4
  rw [hb5] at k5
  have h1 : (t.toList == [122, 101, 114, 111]) = b1 := by rw [← k1, ByteArray.toList_eq ⟨#[122, 101, 114, 111]⟩]
  have h2 : (t.toList == [111, 110, 101]) = b2 := by rw [← k2, ByteArray.toList_eq ⟨#[111, 110, 101]⟩]
  have h3 : (t.toList == [116, 119, 111]) = b3 := by rw [← k3, ByteArray.toList_eq ⟨#[116, 119, 111]⟩]
  have h4 : (t.toList == [102, 101, 119]) = b4 := by rw [← k4, ByteArray.toList_eq ⟨#[102, 101, 119]⟩]
  have h5 : (t.toList == [109, 97, 110, 121]) = b5 := by rw [← k5, ByteArray.toList_eq ⟨#[109, 97, 110, 121]⟩]
  rw [HV.out]
  clear hb1 hb2 hb3 hb4 hb5 k1 k2 k3 k4 k5
  go_enter Tryz.func142, Tryz.ntmps142
  cases b1 with
  | true => (go_wp2; go_ret; exact ⟨rfl, rfl⟩)
  | false =>
  cases b2 with
  | true => (go_wp2; go_ret; exact ⟨rfl, rfl⟩)
  | false =>
  cases b3 with
  | true => (go_wp2; go_ret; exact ⟨rfl, rfl⟩)
  | false =>
  cases b4 with
  | true => (go_wp2; go_ret; exact ⟨rfl, rfl⟩)
  | false =>
  cases b5 with
  | true => (go_wp2; go_ret; exact ⟨rfl, rfl⟩)
  | false => (go_wp2; go_ret; exact ⟨rfl, rfl⟩)
set_option maxRecDepth 1000000 in
set_option maxHeartbeats 2000000 in
theorem isClass_any (t : ByteArray) (w : World) : Calls Tryz.prog 147 #[.string t] w fun e w' => e = .returned (.bool (decide (t.data.toList ∈ cls6))) ∧ w' = w := by
  have k1 := beq_str t [111, 116, 104, 101, 114] ⟨#[111, 116, 104, 101, 114]⟩ rfl
  obtain ⟨b1, hb1⟩ : ∃ b, decide (t.data.toList = [111, 116, 104, 101, 114]) = b := ⟨_, rfl⟩
  obtain ⟨b2, hb2⟩ : ∃ b, decide (t.data.toList ∈ clsL) = b := ⟨_, rfl⟩
  have HV : Hid (decide (t.data.toList ∈ cls6) = (b1 || b2)) := Lib.hid (by rw [← hb1, ← hb2, ← Bool.decide_or]; exact decide_eq_decide.2 (by unfold cls6; simp only [List.mem_append, List.mem_singleton]; exact Or.comm))
  rw [hb1] at k1
  have h1 : (t.toList == [111, 116, 104, 101, 114]) = b1 := by rw [← k1, ByteArray.toList_eq ⟨#[111, 116, 104, 101, 114]⟩]
  have HC := Lib.hid (fun w => isRuleClass_any t w)
  rw [hb2] at HC
  rw [HV.out]
  clear hb1 hb2 k1
  go_enter Tryz.func147, Tryz.ntmps147
  cases b1 with
  | true => (go_wp2; go_ret; exact ⟨rfl, rfl⟩)
  | false =>
    go_wp2_with fail
    refine (HC.out _).mono ?_
    rintro e w2 ⟨rfl, hw⟩
    obtain rfl := hw.symm
    go_wp2
    go_ret
    exact ⟨rfl, rfl⟩
theorem PL.far {g B0 D k : Nat} {m : PMem} {ok : Bool} {ts : List KT} {w : World} (h : PL g B0 m ok ts w) (hg : D ≠ g) (hB : D ≠ B0) (u : Value) : PL g B0 m ok ts (w.setCell ⟨D, k, none⟩ u) :=
  ⟨(Below.heap_setCell _ _ _ g (by show g ≠ D; omega)).trans h.blk, h.tk.keep (Below.heap_setCell _ _ _ B0 (by show B0 ≠ D; omega)), h.f⟩
theorem But.far {g D k : Nat} {w w' : World} (h : But g w w') (hD : w.heap.size ≤ D) (u : Value) : But g w (w'.setCell ⟨D, k, none⟩ u) :=
  ⟨h.os, h.tape, h.output, by have := h.size; simpa [World.setCell] using this, fun i hi hn => (Below.heap_setCell _ _ _ i (by show i ≠ D; omega)).trans (h.block i hi hn)⟩
theorem PL.b0lt {g B0 : Nat} {m : PMem} {ok : Bool} {ts : List KT} {w : World} (h : PL g B0 m ok ts w) : B0 < w.heap.size := by
  obtain ⟨cs, hc⟩ := h.tk.ty
  exact hc.lt
end Go.Proofs.YtpmmchppfmojhaaGreatDoor


/- Of the program's table package: what is valid, element by element. -/
namespace Go.Proofs.YtpmmchppfmojhaaGreatDoor
open Go.RowKit
set_option linter.unusedVariables false

theorem says_dec {Q : Prop} [Decidable Q] {w : World} {n : Nat} {args : Array Value} (h : Calls Tryz.prog n args w fun e w' => e = .returned (.bool (decide Q)) ∧ w' = w) : Calls Tryz.prog n args w (Says Q w) := by
  refine h.mono ?_
  rintro e w' ⟨rfl, rfl⟩
  exact ⟨⟨_, rfl, decide_eq_true_iff⟩, Below.refl _ _⟩
theorem isDirectionS (t : Str) (w : World) : Calls Tryz.prog 77 #[.string (ofL t)] w (Says (t ∈ dirL) w) := says_dec (isDirection_any (ofL t) w)
theorem isRuleClassS (t : Str) (w : World) : Calls Tryz.prog 142 #[.string (ofL t)] w (Says (t ∈ clsL) w) := says_dec (isRuleClass_any (ofL t) w)
theorem isClassS (t : Str) (w : World) : Calls Tryz.prog 147 #[.string (ofL t)] w (Says (t ∈ cls6) w) := says_dec (isClass_any (ofL t) w)
theorem condValidS (v : Value) (c : Cnd) (w : World) (hv : RdC w v c) (hl : CndR c) : Calls Tryz.prog 143 #[v] w (Says (okC c = true) w) := by
  refine (valid_cond_any v c w hv (fun l h => by have := hl l h; omega)).mono ?_
  rintro e w' ⟨rfl, hb⟩
  exact ⟨⟨_, rfl, Iff.rfl⟩, hb⟩
set_option maxRecDepth 1000000 in
set_option maxHeartbeats 2000000 in
theorem isNumberS (n most : Int) (w : World) : Calls Tryz.prog 94 #[.int .i64 n, .int .i64 most] w (Says (0 ≤ n ∧ n ≤ most) w) := by
  have HY : Hid (0 ≤ n → n ≤ most → (0 ≤ n ∧ n ≤ most)) := Lib.hid (fun a b => ⟨a, b⟩)
  have HN : Hid (¬ (0 ≤ n) → ¬ (0 ≤ n ∧ n ≤ most)) := Lib.hid (fun a b => a b.1)
  have HN2 : Hid (¬ (n ≤ most) → ¬ (0 ≤ n ∧ n ≤ most)) := Lib.hid (fun a b => a b.2)
  obtain ⟨Q, hQ⟩ : ∃ Q, (0 ≤ n ∧ n ≤ most) = Q := ⟨_, rfl⟩
  rw [hQ] at HY HN HN2 ⊢
  clear hQ
  by_cases h : 0 ≤ n
  · by_cases h2 : n ≤ most
    · have HQ := Lib.hid (HY.out h h2)
      go_enter Tryz.func94, Tryz.ntmps94
      go_wp2
      go_ret
      exact ⟨⟨_, rfl, ⟨fun _ => HQ.out, fun _ => rfl⟩⟩, Below.refl _ _⟩
    · have HQ := Lib.hid (HN2.out h2)
      go_enter Tryz.func94, Tryz.ntmps94
      go_wp2
      go_ret
      exact ⟨⟨_, rfl, ⟨fun h => (by cases h), fun h => absurd h HQ.out⟩⟩, Below.refl _ _⟩
  · have HQ := Lib.hid (HN.out h)
    go_enter Tryz.func94, Tryz.ntmps94
    go_wp2
    go_ret
    exact ⟨⟨_, rfl, ⟨fun h => (by cases h), fun h' => absurd h' HQ.out⟩⟩, Below.refl _ _⟩
/-! ### Texts -/
theorem own_strs1 (w : World) (a : Str) : Rd 1 encT (w.alloc (.cells #[.string (ofL a)] 9)) (.slice (some ⟨w.heap.size, 0, none⟩) 1 1) [a] := by
  have o : Own1 1 encT (w.alloc (.cells #[.string (ofL a)] 9)) w.heap.size 9 (.slice (some ⟨w.heap.size, 0, none⟩) 1 1) ([a] : List Str) := ⟨by rfl, .inr ⟨w.heap.size, 1, #[.string (ofL a)], rfl, Nat.le_refl _, heap_alloc_new w _, Nat.le_refl _, by decide, rfl, rfl⟩⟩
  exact o.rd (fun _ => rfl)
theorem own_strs4 (w : World) (a b c d : Str) : Rd 1 encT (w.alloc (.cells #[.string (ofL a), .string (ofL b), .string (ofL c), .string (ofL d)] 9)) (.slice (some ⟨w.heap.size, 0, none⟩) 4 4) [a, b, c, d] := by
  have o : Own1 1 encT (w.alloc (.cells #[.string (ofL a), .string (ofL b), .string (ofL c), .string (ofL d)] 9)) w.heap.size 9 (.slice (some ⟨w.heap.size, 0, none⟩) 4 4) ([a, b, c, d] : List Str) := ⟨by rfl, .inr ⟨w.heap.size, 4, #[.string (ofL a), .string (ofL b), .string (ofL c), .string (ofL d)], rfl, Nat.le_refl _, heap_alloc_new w _, Nat.le_refl _, by decide, rfl, rfl⟩⟩
  exact o.rd (fun _ => rfl)
set_option maxRecDepth 1000000 in
set_option maxHeartbeats 2000000 in
theorem areTexts1_any (t : Str) (h : Sm t) (w : World) : Calls Tryz.prog 198 (#[.string (ofL t)] ++ #[]) w fun e w' => e = .returned (.bool (!(isTextB t))) ∧ Below w.heap.size w w' := by
  have H := Lib.hid (isTextQ_any (ofL t) w (by rw [ofL_size]; exact h))
  rw [show (ofL t).data.toList = t from rfl] at H
  go_enter Tryz.func198, Tryz.ntmps198
  go_wp2_with fail
  refine H.out.mono ?_
  rintro e w2 ⟨rfl, b2⟩
  have B2 := Lib.hid b2
  clear b2
  go_wp2
  go_ret
  exact ⟨rfl, B2.out⟩
set_option maxRecDepth 1000000 in
set_option maxHeartbeats 2000000 in
theorem areTextsS (v : Value) (l : List Str) (w : World) (hv : Rd 1 encT w v l) (hs : ∀ s ∈ l, Sm s) : Calls Tryz.prog 144 #[v] w (Says (∀ s ∈ l, okX s) w) := by
  have HC := Lib.hid (containsSx_any v l (fun s => !(isTextB s)) 198 #[] (enters_of Tryz.func198 (by kernel_rfl) rfl) w hv (fun W s h _ => areTexts1_any s (hs s h) W))
  have HI : Hid ((!(l.any (fun s => !(isTextB s)))) = true ↔ ∀ s ∈ l, okX s) := Lib.hid (by
    rw [Bool.not_eq_true', List.any_eq_false]
    constructor
    · intro h s m
      have := h s m
      rw [Bool.not_eq_true, Bool.not_eq_false'] at this
      exact textB_iff.1 this
    · intro h s m
      rw [Bool.not_eq_true, Bool.not_eq_false']
      exact textB_iff.2 (h s m))
  obtain ⟨a, c, rfl, q1, q2⟩ := hv.slice
  obtain ⟨b, hb⟩ : ∃ b, l.any (fun s => !(isTextB s)) = b := ⟨_, rfl⟩
  rw [hb] at HC HI
  clear hb hv hs
  go_enter Tryz.func144, Tryz.ntmps144
  go_wp2_with fail
  refine HC.out.mono ?_
  rintro e w2 ⟨rfl, b2⟩
  have B2 := Lib.hid b2
  clear b2
  go_wp2
  go_ret
  exact ⟨⟨_, rfl, HI.out⟩, B2.out⟩
theorem one_text {a : Str} {Q : Prop} : ((∀ s ∈ [a], okX s) ↔ okX a) := by simp
theorem four_texts {a b c d : Str} : ((∀ s ∈ [a, b, c, d], okX s) ↔ okX a ∧ okX b ∧ okX c ∧ okX d) := by simp
theorem Says.iff {Q R : Prop} {w : World} {n : Nat} {args : Array Value} (h : Calls Tryz.prog n args w (Says Q w)) (hi : Q ↔ R) : Calls Tryz.prog n args w (Says R w) := by
  refine h.mono ?_
  rintro e w' ⟨⟨b, rfl, hb⟩, hw⟩
  exact ⟨⟨b, rfl, hb.trans hi⟩, hw⟩
theorem areTexts_one (a : Str) (h : Sm a) (w : World) {B : Nat} (hB : B = w.heap.size) : Calls Tryz.prog 144 #[.slice (some ⟨B, 0, none⟩) 1 1] (w.alloc (.cells #[.string (ofL a)] 9)) (Says (okX a) (w.alloc (.cells #[.string (ofL a)] 9))) :=
  Says.iff (areTextsS _ [a] _ (by rw [hB]; exact own_strs1 w a) (fun s hs => by rw [List.mem_singleton] at hs; rw [hs]; exact h)) (one_text (Q := True))
theorem areTexts_four (a b c d : Str) (ha : Sm a) (hb : Sm b) (hc : Sm c) (hd : Sm d) (w : World) {B : Nat} (hB : B = w.heap.size) : Calls Tryz.prog 144 #[.slice (some ⟨B, 0, none⟩) 4 4] (w.alloc (.cells #[.string (ofL a), .string (ofL b), .string (ofL c), .string (ofL d)] 9)) (Says (okX a ∧ okX b ∧ okX c ∧ okX d) (w.alloc (.cells #[.string (ofL a), .string (ofL b), .string (ofL c), .string (ofL d)] 9))) :=
  Says.iff (areTextsS _ [a, b, c, d] _ (by rw [hB]; exact own_strs4 w a b c d) (fun s hs => by
    simp only [List.mem_cons, List.not_mem_nil, or_false] at hs
    rcases hs with rfl | rfl | rfl | rfl <;> assumption)) four_texts
set_option maxRecDepth 1000000 in
set_option maxHeartbeats 4000000 in
theorem isAliasS (x : Str × Str) (h1 : Sm x.1) (h2 : Sm x.2) (w : World) : Calls Tryz.prog 36 #[.agg #[.string (ofL x.1), .string (ofL x.2)]] w (Says (okW x.1 ∧ okW x.2) w) := by
  have B0 := Lib.hid ((Below.refl w.heap.size w).alloc (Nat.le_refl _) (.cells #[.string (ofL x.1), .string (ofL x.2)] 61))
  have K0 := Lib.hid (Blk.new w 61 #[.string (ofL x.1), .string (ofL x.2)])
  have Z0 : Hid (w.heap.size ≤ (w.alloc (.cells #[.string (ofL x.1), .string (ofL x.2)] 61)).heap.size) := Lib.hid B0.out.size
  have Y0 := Lib.hid (Below.refl w.heap.size w)
  go_enter Tryz.func36, Tryz.ntmps36
  go_wp2_with fail
  refine (isWordS x.1 h1 _).mono ?_
  rintro e w1 ⟨⟨v1, rfl, q1⟩, b1⟩
  have B1 := Lib.hid (st B0.out b1 B0.out.size)
  have K1 := Lib.hid (Blk.below K0.out b1)
  have Q1 := Lib.hid q1
  have c1_1 : w1.cell? ⟨w.heap.size, 1, none⟩ = some (.string (ofL x.2)) := K1.out.cell 1
  clear b1 q1
  cases v1 with
  | false =>
    go_wp2_with fail
    go_ret
    exact ⟨⟨_, rfl, ⟨fun h => (by cases h), fun h => absurd (Q1.out.2 (h.1)) (by decide)⟩⟩, B1.out⟩
  | true =>
  go_wp2_with fail
  refine (isWordS x.2 h2 _).mono ?_
  rintro e w2 ⟨⟨v2, rfl, q2⟩, b2⟩
  have B2 := Lib.hid (st B1.out b2 B1.out.size)
  have K2 := Lib.hid (Blk.below K1.out b2)
  have Q2 := Lib.hid q2
  clear b2 q2 c1_1
  cases v2 with
  | false =>
    go_wp2_with fail
    go_ret
    exact ⟨⟨_, rfl, ⟨fun h => (by cases h), fun h => absurd (Q2.out.2 (h.2)) (by decide)⟩⟩, B2.out⟩
  | true =>
  go_wp2_with fail
  go_ret
  exact ⟨⟨_, rfl, ⟨fun _ => ⟨Q1.out.1 (by trivial), Q2.out.1 (by trivial)⟩, fun _ => rfl⟩⟩, B2.out⟩
set_option maxRecDepth 1000000 in
set_option maxHeartbeats 4000000 in
theorem isNearS (x : Nea) (h1 : Sm x.fr) (h2 : Sm x.to_) (w : World) : Calls Tryz.prog 39 #[.agg #[.string (ofL x.fr), .string (ofL x.to_), .int .i64 x.co]] w (Says (okW x.fr ∧ okW x.to_ ∧ (0 ≤ x.co ∧ x.co ≤ 1000)) w) := by
  have B0 := Lib.hid ((Below.refl w.heap.size w).alloc (Nat.le_refl _) (.cells #[.string (ofL x.fr), .string (ofL x.to_), .int .i64 x.co] 36))
  have K0 := Lib.hid (Blk.new w 36 #[.string (ofL x.fr), .string (ofL x.to_), .int .i64 x.co])
  have Z0 : Hid (w.heap.size ≤ (w.alloc (.cells #[.string (ofL x.fr), .string (ofL x.to_), .int .i64 x.co] 36)).heap.size) := Lib.hid B0.out.size
  have Y0 := Lib.hid (Below.refl w.heap.size w)
  go_enter Tryz.func39, Tryz.ntmps39
  go_wp2_with fail
  refine (isWordS x.fr h1 _).mono ?_
  rintro e w1 ⟨⟨v1, rfl, q1⟩, b1⟩
  have B1 := Lib.hid (st B0.out b1 B0.out.size)
  have K1 := Lib.hid (Blk.below K0.out b1)
  have Q1 := Lib.hid q1
  have c1_1 : w1.cell? ⟨w.heap.size, 1, none⟩ = some (.string (ofL x.to_)) := K1.out.cell 1
  have c1_2 : w1.cell? ⟨w.heap.size, 2, none⟩ = some (.int .i64 x.co) := K1.out.cell 2
  clear b1 q1
  cases v1 with
  | false =>
    go_wp2_with fail
    go_ret
    exact ⟨⟨_, rfl, ⟨fun h => (by cases h), fun h => absurd (Q1.out.2 (h.1)) (by decide)⟩⟩, B1.out⟩
  | true =>
  go_wp2_with fail
  refine (isWordS x.to_ h2 _).mono ?_
  rintro e w2 ⟨⟨v2, rfl, q2⟩, b2⟩
  have B2 := Lib.hid (st B1.out b2 B1.out.size)
  have K2 := Lib.hid (Blk.below K1.out b2)
  have Q2 := Lib.hid q2
  have c2_2 : w2.cell? ⟨w.heap.size, 2, none⟩ = some (.int .i64 x.co) := K2.out.cell 2
  clear b2 q2 c1_1 c1_2
  cases v2 with
  | false =>
    go_wp2_with fail
    go_ret
    exact ⟨⟨_, rfl, ⟨fun h => (by cases h), fun h => absurd (Q2.out.2 (h.2.1)) (by decide)⟩⟩, B2.out⟩
  | true =>
  go_wp2_with fail
  refine (isNumberS x.co 1000 _).mono ?_
  rintro e w3 ⟨⟨v3, rfl, q3⟩, b3⟩
  have B3 := Lib.hid (st B2.out b3 B2.out.size)
  have K3 := Lib.hid (Blk.below K2.out b3)
  have Q3 := Lib.hid q3
  clear b3 q3 c2_2
  cases v3 with
  | false =>
    go_wp2_with fail
    go_ret
    exact ⟨⟨_, rfl, ⟨fun h => (by cases h), fun h => absurd (Q3.out.2 (h.2.2)) (by decide)⟩⟩, B3.out⟩
  | true =>
  go_wp2_with fail
  go_ret
  exact ⟨⟨_, rfl, ⟨fun _ => ⟨Q1.out.1 (by trivial), Q2.out.1 (by trivial), Q3.out.1 (by trivial)⟩, fun _ => rfl⟩⟩, B3.out⟩
set_option maxRecDepth 1000000 in
set_option maxHeartbeats 4000000 in
theorem isDateS (x : Str × Str) (h1 : Sm x.1) (h2 : Sm x.2) (w : World) : Calls Tryz.prog 89 #[.agg #[.string (ofL x.1), .string (ofL x.2)]] w (Says (okW x.1 ∧ okX x.2) w) := by
  have B0 := Lib.hid ((Below.refl w.heap.size w).alloc (Nat.le_refl _) (.cells #[.string (ofL x.1), .string (ofL x.2)] 124))
  have K0 := Lib.hid (Blk.new w 124 #[.string (ofL x.1), .string (ofL x.2)])
  have Z0 : Hid (w.heap.size ≤ (w.alloc (.cells #[.string (ofL x.1), .string (ofL x.2)] 124)).heap.size) := Lib.hid B0.out.size
  have Y0 := Lib.hid (Below.refl w.heap.size w)
  go_enter Tryz.func89, Tryz.ntmps89
  go_wp2_with fail
  refine (isWordS x.1 h1 _).mono ?_
  rintro e w1 ⟨⟨v1, rfl, q1⟩, b1⟩
  have B1 := Lib.hid (st B0.out b1 B0.out.size)
  have K1 := Lib.hid (Blk.below K0.out b1)
  have Q1 := Lib.hid q1
  have c1_1 : w1.cell? ⟨w.heap.size, 1, none⟩ = some (.string (ofL x.2)) := K1.out.cell 1
  clear b1 q1
  cases v1 with
  | false =>
    go_wp2_with fail
    go_ret
    exact ⟨⟨_, rfl, ⟨fun h => (by cases h), fun h => absurd (Q1.out.2 (h.1)) (by decide)⟩⟩, B1.out⟩
  | true =>
  go_wp2_with fail
  refine (areTexts_one x.2 h2 w1 (by first | rfl | simp)).mono ?_
  rintro e w2 ⟨⟨v2, rfl, q2⟩, b2⟩
  have B2 := Lib.hid (st (B1.out.alloc B1.out.size (.cells #[.string (ofL x.2)] 9)) b2 (B1.out.alloc B1.out.size (.cells #[.string (ofL x.2)] 9)).size)
  have K2 := Lib.hid (Blk.below (Blk.alloc K1.out (.cells #[.string (ofL x.2)] 9)) b2)
  have Q2 := Lib.hid q2
  clear b2 q2 c1_1
  cases v2 with
  | false =>
    go_wp2_with fail
    go_ret
    exact ⟨⟨_, rfl, ⟨fun h => (by cases h), fun h => absurd (Q2.out.2 (h.2)) (by decide)⟩⟩, B2.out⟩
  | true =>
  go_wp2_with fail
  go_ret
  exact ⟨⟨_, rfl, ⟨fun _ => ⟨Q1.out.1 (by trivial), Q2.out.1 (by trivial)⟩, fun _ => rfl⟩⟩, B2.out⟩
set_option maxRecDepth 1000000 in
set_option maxHeartbeats 4000000 in
theorem isUnitS (x : Uni) (h1 : Sm x.un) (h2 : Sm x.pt) (w : World) : Calls Tryz.prog 86 #[.agg #[.string (ofL x.un), .string (ofL x.cl), .string (ofL x.pt)]] w (Says (okW x.un ∧ x.cl ∈ cls6 ∧ okX x.pt) w) := by
  have B0 := Lib.hid ((Below.refl w.heap.size w).alloc (Nat.le_refl _) (.cells #[.string (ofL x.un), .string (ofL x.cl), .string (ofL x.pt)] 120))
  have K0 := Lib.hid (Blk.new w 120 #[.string (ofL x.un), .string (ofL x.cl), .string (ofL x.pt)])
  have Z0 : Hid (w.heap.size ≤ (w.alloc (.cells #[.string (ofL x.un), .string (ofL x.cl), .string (ofL x.pt)] 120)).heap.size) := Lib.hid B0.out.size
  have Y0 := Lib.hid (Below.refl w.heap.size w)
  go_enter Tryz.func86, Tryz.ntmps86
  go_wp2_with fail
  refine (isWordS x.un h1 _).mono ?_
  rintro e w1 ⟨⟨v1, rfl, q1⟩, b1⟩
  have B1 := Lib.hid (st B0.out b1 B0.out.size)
  have K1 := Lib.hid (Blk.below K0.out b1)
  have Q1 := Lib.hid q1
  have c1_1 : w1.cell? ⟨w.heap.size, 1, none⟩ = some (.string (ofL x.cl)) := K1.out.cell 1
  have c1_2 : w1.cell? ⟨w.heap.size, 2, none⟩ = some (.string (ofL x.pt)) := K1.out.cell 2
  clear b1 q1
  cases v1 with
  | false =>
    go_wp2_with fail
    go_ret
    exact ⟨⟨_, rfl, ⟨fun h => (by cases h), fun h => absurd (Q1.out.2 (h.1)) (by decide)⟩⟩, B1.out⟩
  | true =>
  go_wp2_with fail
  refine (isClassS x.cl _).mono ?_
  rintro e w2 ⟨⟨v2, rfl, q2⟩, b2⟩
  have B2 := Lib.hid (st B1.out b2 B1.out.size)
  have K2 := Lib.hid (Blk.below K1.out b2)
  have Q2 := Lib.hid q2
  have c2_2 : w2.cell? ⟨w.heap.size, 2, none⟩ = some (.string (ofL x.pt)) := K2.out.cell 2
  clear b2 q2 c1_1 c1_2
  cases v2 with
  | false =>
    go_wp2_with fail
    go_ret
    exact ⟨⟨_, rfl, ⟨fun h => (by cases h), fun h => absurd (Q2.out.2 (h.2.1)) (by decide)⟩⟩, B2.out⟩
  | true =>
  go_wp2_with fail
  refine (areTexts_one x.pt h2 w2 (by first | rfl | simp)).mono ?_
  rintro e w3 ⟨⟨v3, rfl, q3⟩, b3⟩
  have B3 := Lib.hid (st (B2.out.alloc B2.out.size (.cells #[.string (ofL x.pt)] 9)) b3 (B2.out.alloc B2.out.size (.cells #[.string (ofL x.pt)] 9)).size)
  have K3 := Lib.hid (Blk.below (Blk.alloc K2.out (.cells #[.string (ofL x.pt)] 9)) b3)
  have Q3 := Lib.hid q3
  clear b3 q3 c2_2
  cases v3 with
  | false =>
    go_wp2_with fail
    go_ret
    exact ⟨⟨_, rfl, ⟨fun h => (by cases h), fun h => absurd (Q3.out.2 (h.2.2)) (by decide)⟩⟩, B3.out⟩
  | true =>
  go_wp2_with fail
  go_ret
  exact ⟨⟨_, rfl, ⟨fun _ => ⟨Q1.out.1 (by trivial), Q2.out.1 (by trivial), Q3.out.1 (by trivial)⟩, fun _ => rfl⟩⟩, B3.out⟩
set_option maxRecDepth 1000000 in
set_option maxHeartbeats 4000000 in
theorem isListS (x : Lis) (h1 : Sm x.st) (h2 : Sm x.two) (h3 : Sm x.sa) (h4 : Sm x.md) (h5 : Sm x.en) (w : World) : Calls Tryz.prog 83 #[.agg #[.string (ofL x.st), .string (ofL x.two), .string (ofL x.sa), .string (ofL x.md), .string (ofL x.en)]] w (Says (okW x.st ∧ (okX x.two ∧ okX x.sa ∧ okX x.md ∧ okX x.en)) w) := by
  have B0 := Lib.hid ((Below.refl w.heap.size w).alloc (Nat.le_refl _) (.cells #[.string (ofL x.st), .string (ofL x.two), .string (ofL x.sa), .string (ofL x.md), .string (ofL x.en)] 116))
  have K0 := Lib.hid (Blk.new w 116 #[.string (ofL x.st), .string (ofL x.two), .string (ofL x.sa), .string (ofL x.md), .string (ofL x.en)])
  have Z0 : Hid (w.heap.size ≤ (w.alloc (.cells #[.string (ofL x.st), .string (ofL x.two), .string (ofL x.sa), .string (ofL x.md), .string (ofL x.en)] 116)).heap.size) := Lib.hid B0.out.size
  have Y0 := Lib.hid (Below.refl w.heap.size w)
  go_enter Tryz.func83, Tryz.ntmps83
  go_wp2_with fail
  refine (isWordS x.st h1 _).mono ?_
  rintro e w1 ⟨⟨v1, rfl, q1⟩, b1⟩
  have B1 := Lib.hid (st B0.out b1 B0.out.size)
  have K1 := Lib.hid (Blk.below K0.out b1)
  have Q1 := Lib.hid q1
  have c1_1 : w1.cell? ⟨w.heap.size, 1, none⟩ = some (.string (ofL x.two)) := K1.out.cell 1
  have c1_2 : w1.cell? ⟨w.heap.size, 2, none⟩ = some (.string (ofL x.sa)) := K1.out.cell 2
  have c1_3 : w1.cell? ⟨w.heap.size, 3, none⟩ = some (.string (ofL x.md)) := K1.out.cell 3
  have c1_4 : w1.cell? ⟨w.heap.size, 4, none⟩ = some (.string (ofL x.en)) := K1.out.cell 4
  clear b1 q1
  cases v1 with
  | false =>
    go_wp2_with fail
    go_ret
    exact ⟨⟨_, rfl, ⟨fun h => (by cases h), fun h => absurd (Q1.out.2 (h.1)) (by decide)⟩⟩, B1.out⟩
  | true =>
  go_wp2_with fail
  refine (areTexts_four x.two x.sa x.md x.en h2 h3 h4 h5 w1 (by first | rfl | simp)).mono ?_
  rintro e w2 ⟨⟨v2, rfl, q2⟩, b2⟩
  have B2 := Lib.hid (st (B1.out.alloc B1.out.size (.cells #[.string (ofL x.two), .string (ofL x.sa), .string (ofL x.md), .string (ofL x.en)] 9)) b2 (B1.out.alloc B1.out.size (.cells #[.string (ofL x.two), .string (ofL x.sa), .string (ofL x.md), .string (ofL x.en)] 9)).size)
  have K2 := Lib.hid (Blk.below (Blk.alloc K1.out (.cells #[.string (ofL x.two), .string (ofL x.sa), .string (ofL x.md), .string (ofL x.en)] 9)) b2)
  have Q2 := Lib.hid q2
  clear b2 q2 c1_1 c1_2 c1_3 c1_4
  cases v2 with
  | false =>
    go_wp2_with fail
    go_ret
    exact ⟨⟨_, rfl, ⟨fun h => (by cases h), fun h => absurd (Q2.out.2 (h.2)) (by decide)⟩⟩, B2.out⟩
  | true =>
  go_wp2_with fail
  go_ret
  exact ⟨⟨_, rfl, ⟨fun _ => ⟨Q1.out.1 (by trivial), Q2.out.1 (by trivial)⟩, fun _ => rfl⟩⟩, B2.out⟩
set_option maxRecDepth 1000000 in
set_option maxHeartbeats 4000000 in
theorem isRuleS (x : Str × RawS) (c : Cnd) (w : World) (hr : RdC w (.slice x.2.a x.2.n x.2.c) c) (hl : CndR c) : Calls Tryz.prog 79 #[.agg #[.string (ofL x.1), .slice x.2.a x.2.n x.2.c]] w (Says (x.1 ∈ clsL ∧ okC c = true) w) := by
  have B0 := Lib.hid ((Below.refl w.heap.size w).alloc (Nat.le_refl _) (.cells #[.string (ofL x.1), .slice x.2.a x.2.n x.2.c] 56))
  have K0 := Lib.hid (Blk.new w 56 #[.string (ofL x.1), .slice x.2.a x.2.n x.2.c])
  have Z0 : Hid (w.heap.size ≤ (w.alloc (.cells #[.string (ofL x.1), .slice x.2.a x.2.n x.2.c] 56)).heap.size) := Lib.hid B0.out.size
  have Y0 := Lib.hid (Below.refl w.heap.size w)
  have HR := Lib.hid hr
  go_enter Tryz.func79, Tryz.ntmps79
  go_wp2_with fail
  refine (isRuleClassS x.1 _).mono ?_
  rintro e w1 ⟨⟨v1, rfl, q1⟩, b1⟩
  have B1 := Lib.hid (st B0.out b1 B0.out.size)
  have K1 := Lib.hid (Blk.below K0.out b1)
  have Q1 := Lib.hid q1
  have c1_1 : w1.cell? ⟨w.heap.size, 1, none⟩ = some (.slice x.2.a x.2.n x.2.c) := K1.out.cell 1
  clear b1 q1
  cases v1 with
  | false =>
    go_wp2_with fail
    go_ret
    exact ⟨⟨_, rfl, ⟨fun h => (by cases h), fun h => absurd (Q1.out.2 (h.1)) (by decide)⟩⟩, B1.out⟩
  | true =>
  go_wp2_with fail
  refine (condValidS _ c _ (HR.out.below B1.out) hl).mono ?_
  rintro e w2 ⟨⟨v2, rfl, q2⟩, b2⟩
  have B2 := Lib.hid (st B1.out b2 B1.out.size)
  have K2 := Lib.hid (Blk.below K1.out b2)
  have Q2 := Lib.hid q2
  clear b2 q2 c1_1
  cases v2 with
  | false =>
    go_wp2_with fail
    go_ret
    exact ⟨⟨_, rfl, ⟨fun h => (by cases h), fun h => absurd (Q2.out.2 (h.2)) (by decide)⟩⟩, B2.out⟩
  | true =>
  go_wp2_with fail
  go_ret
  exact ⟨⟨_, rfl, ⟨fun _ => ⟨Q1.out.1 (by trivial), Q2.out.1 (by trivial)⟩, fun _ => rfl⟩⟩, B2.out⟩
end Go.Proofs.YtpmmchppfmojhaaGreatDoor


/- Of the program's table package: lists of valid elements, names, symbols. -/
namespace Go.Proofs.YtpmmchppfmojhaaGreatDoor
open Go.RowKit
set_option linter.unusedVariables false

/-- That what a position holds is as asked, if there is such a position. -/
theorem Says.pos {n : Nat} {args : Array Value} {W : World} {i m : Nat} {Q : i < m → Prop} (h : i < m) (H : Calls Tryz.prog n args W (Says (Q h) W)) : Calls Tryz.prog n args W (Says (∀ h : i < m, Q h) W) := Says.iff H ⟨fun q _ => q, fun q => q h⟩
theorem areLists (v : Value) (l : List Lis) (w : World) (hv : Rd 5 encLi w v l) (hs : ∀ u ∈ l, Sm u.st ∧ Sm u.two ∧ Sm u.sa ∧ Sm u.md ∧ Sm u.en) : Calls Tryz.prog 82 #[v, .int .i64 10, .func (.func 83) #[] #[], .func (.func 84) #[] #[]] w (Says ((∀ y ∈ l, okW y.st ∧ okX y.two ∧ okX y.sa ∧ okX y.md ∧ okX y.en) ∧ (l.map Lis.st).Nodup ∧ l.length ≤ 10) w) := by
  exact Says.iff (areVLi_any v l 10 83 84 (enters_of Tryz.func83 (by kernel_rfl) rfl) (enters_of Tryz.func84 (by kernel_rfl) rfl) (fun i => ∀ h : i < l.length, okW (l[i]'h).st ∧ okX (l[i]'h).two ∧ okX (l[i]'h).sa ∧ okX (l[i]'h).md ∧ okX (l[i]'h).en) qLi w hv (fun W1 _ i h => Says.pos h (by obtain ⟨a, b, c, d, e⟩ := hs _ (List.getElem_mem h); exact isListS _ a b c d e W1)) (fun W1 x y => alikeLi_any x y W1)) lis_all
theorem areUnits (v : Value) (l : List Uni) (w : World) (hv : Rd 3 encUn w v l) (hs : ∀ u ∈ l, Sm u.un ∧ Sm u.cl ∧ Sm u.pt) : Calls Tryz.prog 85 #[v, .int .i64 100, .func (.func 86) #[] #[], .func (.func 87) #[] #[]] w (Says ((∀ y ∈ l, okW y.un ∧ y.cl ∈ cls6 ∧ okX y.pt) ∧ (l.map (fun y => (y.un, y.cl))).Nodup ∧ l.length ≤ 100) w) := by
  exact Says.iff (areVUn_any v l 100 86 87 (enters_of Tryz.func86 (by kernel_rfl) rfl) (enters_of Tryz.func87 (by kernel_rfl) rfl) (fun i => ∀ h : i < l.length, okW (l[i]'h).un ∧ (l[i]'h).cl ∈ cls6 ∧ okX (l[i]'h).pt) qUn w hv (fun W1 _ i h => Says.pos h (by obtain ⟨a, b, c⟩ := hs _ (List.getElem_mem h); exact isUnitS _ a c W1)) (fun W1 x y => alikeUn_any x y W1)) uni_all
theorem areDates (v : Value) (l : List (Str × Str)) (w : World) (hv : Rd 2 encDu w v l) (hs : ∀ u ∈ l, Sm u.1 ∧ Sm u.2) : Calls Tryz.prog 88 #[v, .int .i64 30, .func (.func 89) #[] #[], .func (.func 90) #[] #[]] w (Says ((∀ y ∈ l, okW y.1 ∧ okX y.2) ∧ (l.map Prod.fst).Nodup ∧ l.length ≤ 30) w) := by
  exact Says.iff (areVDa_any v l 30 89 90 (enters_of Tryz.func89 (by kernel_rfl) rfl) (enters_of Tryz.func90 (by kernel_rfl) rfl) (fun i => ∀ h : i < l.length, okW (l[i]'h).1 ∧ okX (l[i]'h).2) qDa w hv (fun W1 _ i h => Says.pos h (by obtain ⟨a, b⟩ := hs _ (List.getElem_mem h); exact isDateS _ a b W1)) (fun W1 x y => alikeDa_any x y W1)) dat_all
theorem areAliases (v : Value) (l : List (Str × Str)) (w : World) (hv : Rd 2 encDu w v l) (hs : ∀ u ∈ l, Sm u.1 ∧ Sm u.2) : Calls Tryz.prog 35 #[v, .int .i64 200, .func (.func 36) #[] #[], .func (.func 37) #[] #[]] w (Says ((∀ y ∈ l, okW y.1 ∧ okW y.2) ∧ l.length ≤ 200) w) := by
  exact Says.iff (areVAl_any v l 200 36 37 (enters_of Tryz.func36 (by kernel_rfl) rfl) (enters_of Tryz.func37 (by kernel_rfl) rfl) (fun i => ∀ h : i < l.length, okW (l[i]'h).1 ∧ okW (l[i]'h).2) qAl w hv (fun W1 _ i h => Says.pos h (by obtain ⟨a, b⟩ := hs _ (List.getElem_mem h); exact isAliasS _ a b W1)) (fun W1 x y => alikeAl_any x y W1)) ali_all
theorem areNears (v : Value) (l : List Nea) (w : World) (hv : Rd 3 encNe w v l) (hs : ∀ u ∈ l, Sm u.fr ∧ Sm u.to_) : Calls Tryz.prog 38 #[v, .int .i64 200, .func (.func 39) #[] #[], .func (.func 40) #[] #[]] w (Says ((∀ y ∈ l, okW y.fr ∧ okW y.to_ ∧ 0 ≤ y.co ∧ y.co ≤ 1000) ∧ l.length ≤ 200) w) := by
  exact Says.iff (areVNe_any v l 200 39 40 (enters_of Tryz.func39 (by kernel_rfl) rfl) (enters_of Tryz.func40 (by kernel_rfl) rfl) (fun i => ∀ h : i < l.length, okW (l[i]'h).fr ∧ okW (l[i]'h).to_ ∧ 0 ≤ (l[i]'h).co ∧ (l[i]'h).co ≤ 1000) qNe w hv (fun W1 _ i h => Says.pos h (by obtain ⟨a, b⟩ := hs _ (List.getElem_mem h); exact isNearS _ a b W1)) (fun W1 x y => alikeNe_any x y W1)) nea_all
theorem areRules (v : Value) (l : List Rul) (w : World) (hr : RdRul w v l) (hs : RulR l) : Calls Tryz.prog 78 #[v, .int .i64 5, .func (.func 79) #[] #[], .func (.func 80) #[] #[]] w (Says (rulesOk l) w) := by
  obtain ⟨raws, hv, hl, hx⟩ := hr
  exact Says.iff (areVRu_any v raws 5 79 80 (enters_of Tryz.func79 (by kernel_rfl) rfl) (enters_of Tryz.func80 (by kernel_rfl) rfl) (fun i => ∀ h : i < l.length, (l[i]'h).1 ∈ clsL ∧ okC (l[i]'h).2 = true) qRu w hv (fun W1 hb i h => Says.pos (show i < l.length by omega) (by have h3 := hx i h (by omega); rw [← h3.1]; exact isRuleS raws[i] l[i].2 W1 (h3.2.below hb) (hs _ (List.getElem_mem (by omega))).2)) (fun W1 x y => alikeRu_any x y W1)) (rules_all hl (fun i a b => (hx i a b).1))
theorem emp_yes {s : Str} (h : s = []) : ((ofL s).toList == ([] : List UInt8)) = true ∧ ((ofL s).toList != ([] : List UInt8)) = false ∧ (ofL s).toList.isEmpty = true := by
  rw [show (ofL s).toList = s from ByteArray.toList_eq _, h]; exact ⟨rfl, rfl, rfl⟩
theorem emp_no {s : Str} (h : ¬ s = []) : ((ofL s).toList == ([] : List UInt8)) = false ∧ ((ofL s).toList != ([] : List UInt8)) = true ∧ (ofL s).toList.isEmpty = false := by
  rw [show (ofL s).toList = s from ByteArray.toList_eq _]
  cases s with
  | nil => exact absurd rfl h
  | cons a b => exact ⟨rfl, rfl, rfl⟩
set_option maxRecDepth 1000000 in
set_option maxHeartbeats 2000000 in
theorem areNamesS (v : Value) (l : List Str) (n : Nat) (hn : n ≤ 100) (w : World) (hv : Rd 1 encT w v l) (hs : ∀ s ∈ l, Sm s) : Calls Tryz.prog 91 #[v, .int .i64 n] w (Says ((∀ y ∈ l, okX y) ∧ (l.length = 0 ∨ l.length = n)) w) := by
  have HT := Lib.hid (areTextsS v l w hv hs)
  obtain ⟨a, c, rfl, q1, q2⟩ := hv.slice
  have HE : Hid (l.length = 0 → ((∀ y ∈ l, okX y) ∧ (l.length = 0 ∨ l.length = n))) := Lib.hid (fun h => ⟨fun y hy => (by rw [List.length_eq_zero_iff.1 h] at hy; cases hy), .inl h⟩)
  have HZ : Hid (¬ l.length = 0 → ¬ l.length = n → ¬ ((∀ y ∈ l, okX y) ∧ (l.length = 0 ∨ l.length = n))) := Lib.hid (fun h h' k => k.2.elim h h')
  have HK : Hid (¬ l.length = 0 → l.length = n → ((∀ y ∈ l, okX y) ↔ ((∀ y ∈ l, okX y) ∧ (l.length = 0 ∨ l.length = n)))) := Lib.hid (fun _ h => ⟨fun q => ⟨q, .inr h⟩, fun q => q.1⟩)
  obtain ⟨Q, hQ⟩ : ∃ Q, ((∀ y ∈ l, okX y) ∧ (l.length = 0 ∨ l.length = n)) = Q := ⟨_, rfl⟩
  rw [hQ] at HE HZ HK ⊢
  obtain ⟨LN, hLN⟩ : ∃ LN, l.length = LN := ⟨_, rfl⟩
  rw [hLN] at HE HZ HK HT ⊢
  clear hv hs q1 q2 hLN hQ
  by_cases h0 : LN = 0
  · have t0 : ((LN : Int) == 0) = true := by rw [beq_iff_eq]; omega
    have t1 : (LN == 0) = true := by rw [beq_iff_eq]; omega
    have HQ := Lib.hid (HE.out h0)
    clear HE HZ HK HT
    subst h0
    go_enter Tryz.func91, Tryz.ntmps91
    go_wp2
    go_ret
    exact ⟨⟨_, rfl, ⟨fun _ => HQ.out, fun _ => rfl⟩⟩, Below.refl _ _⟩
  · have t0 : ((LN : Int) == 0) = false := by rw [beq_eq_false_iff_ne]; omega
    have t1 : (LN == 0) = false := by rw [beq_eq_false_iff_ne]; omega
    by_cases h1 : LN = n
    · have t2 : ((LN : Int) == (n : Int)) = true := by rw [beq_iff_eq]; omega
      have t3 : (LN == n) = true := by rw [beq_iff_eq]; omega
      have HQ := Lib.hid (HK.out h0 h1)
      clear HE HZ HK h0 h1
      go_enter Tryz.func91, Tryz.ntmps91
      go_wp2_with fail
      refine HT.out.mono ?_
      rintro e w2 ⟨⟨b, rfl, hb⟩, b2⟩
      have B2 := Lib.hid b2
      have HB := Lib.hid (hb.trans HQ.out)
      clear b2 hb
      go_wp2
      go_ret
      exact ⟨⟨_, rfl, HB.out⟩, B2.out⟩
    · have t2 : ((LN : Int) == (n : Int)) = false := by rw [beq_eq_false_iff_ne]; omega
      have t3 : (LN == n) = false := by rw [beq_eq_false_iff_ne]; omega
      have HQ := Lib.hid (HZ.out h0 h1)
      clear HE HZ HK HT h0 h1
      go_enter Tryz.func91, Tryz.ntmps91
      go_wp2
      go_ret
      exact ⟨⟨_, rfl, ⟨fun h => (by cases h), fun h => absurd h HQ.out⟩⟩, Below.refl _ _⟩
/-! ### Symbols -/
set_option maxRecDepth 1000000 in
set_option maxHeartbeats 4000000 in
theorem areSymbolsZ (s : Sym) (w : World) (h0 : s = sym0 ∨ s.de = []) : Calls Tryz.prog 81 #[.agg #[.string (ofL s.de), .string (ofL s.gr), .string (ofL s.mi), .string (ofL s.pe), .int .i64 s.pr, .int .i64 s.se]] w (Says (symOk s) w) := by
  have B0 := Lib.hid ((Below.refl w.heap.size w).alloc (Nat.le_refl _) (.cells #[.string (ofL s.de), .string (ofL s.gr), .string (ofL s.mi), .string (ofL s.pe), .int .i64 s.pr, .int .i64 s.se] 45))
  have n1 := fun wx => eqSy s sym0 wx
  rw [show (ofL sym0.de) = ⟨#[]⟩ from rfl, show (ofL sym0.gr) = ⟨#[]⟩ from rfl, show (ofL sym0.mi) = ⟨#[]⟩ from rfl, show (ofL sym0.pe) = ⟨#[]⟩ from rfl, show sym0.pr = 0 from rfl, show sym0.se = 0 from rfl] at n1
  by_cases h : s = sym0
  · have HQ : Hid (symOk s) := Lib.hid (.inl h)
    rw [decide_eq_true h] at n1
    clear h h0
    go_enter Tryz.func81, Tryz.ntmps81
    go_wp2
    go_ret
    exact ⟨⟨_, rfl, ⟨fun _ => HQ.out, fun _ => rfl⟩⟩, B0.out⟩
  · have hd : s.de = [] := h0.resolve_left h
    have HQ : Hid (¬ symOk s) := Lib.hid (fun k => k.elim h (fun k => k.1 hd))
    rw [decide_eq_false h] at n1
    obtain ⟨t0, t1, t2⟩ := emp_yes hd
    clear h h0 hd
    go_enter Tryz.func81, Tryz.ntmps81
    go_wp2
    go_ret
    exact ⟨⟨_, rfl, ⟨fun h => (by cases h), fun h => absurd h HQ.out⟩⟩, B0.out⟩
set_option maxRecDepth 1000000 in
set_option maxHeartbeats 4000000 in
theorem areSymbolsN (s : Sym) (h1 : Sm s.de) (h2 : Sm s.gr) (h3 : Sm s.mi) (h4 : Sm s.pe) (hn : ¬ s = sym0) (hd : s.de ≠ []) (w : World) : Calls Tryz.prog 81 #[.agg #[.string (ofL s.de), .string (ofL s.gr), .string (ofL s.mi), .string (ofL s.pe), .int .i64 s.pr, .int .i64 s.se]] w (Says (symOk s) w) := by
  have B0 := Lib.hid ((Below.refl w.heap.size w).alloc (Nat.le_refl _) (.cells #[.string (ofL s.de), .string (ofL s.gr), .string (ofL s.mi), .string (ofL s.pe), .int .i64 s.pr, .int .i64 s.se] 45))
  have K0 := Lib.hid (Blk.new w 45 #[.string (ofL s.de), .string (ofL s.gr), .string (ofL s.mi), .string (ofL s.pe), .int .i64 s.pr, .int .i64 s.se])
  have Z0 : Hid (w.heap.size ≤ (w.alloc (.cells #[.string (ofL s.de), .string (ofL s.gr), .string (ofL s.mi), .string (ofL s.pe), .int .i64 s.pr, .int .i64 s.se] 45)).heap.size) := Lib.hid B0.out.size
  have Y0 := Lib.hid (Below.refl w.heap.size w)
  have n1 := fun wx => eqSy s sym0 wx
  rw [show (ofL sym0.de) = ⟨#[]⟩ from rfl, show (ofL sym0.gr) = ⟨#[]⟩ from rfl, show (ofL sym0.mi) = ⟨#[]⟩ from rfl, show (ofL sym0.pe) = ⟨#[]⟩ from rfl, show sym0.pr = 0 from rfl, show sym0.se = 0 from rfl] at n1
  rw [decide_eq_false hn] at n1
  obtain ⟨t0, t1, t2⟩ := emp_no hd
  have HS : Hid (symOk s ↔ (okX s.de ∧ okX s.gr ∧ okX s.mi ∧ okX s.pe) ∧ (0 ≤ s.pr ∧ s.pr ≤ 9) ∧ (0 ≤ s.se ∧ s.se ≤ 9)) := Lib.hid ⟨fun k => (k.resolve_left hn).elim (fun _ k => ⟨⟨k.1, k.2.1, k.2.2.1, k.2.2.2.1⟩, ⟨k.2.2.2.2.1, k.2.2.2.2.2.1⟩, k.2.2.2.2.2.2⟩), fun k => .inr ⟨hd, k.1.1, k.1.2.1, k.1.2.2.1, k.1.2.2.2, k.2.1.1, k.2.1.2, k.2.2⟩⟩
  clear hn hd
  go_enter Tryz.func81, Tryz.ntmps81
  go_wp2_with fail
  refine (areTexts_four s.de s.gr s.mi s.pe h1 h2 h3 h4 (w.alloc (.cells #[.string (ofL s.de), .string (ofL s.gr), .string (ofL s.mi), .string (ofL s.pe), .int .i64 s.pr, .int .i64 s.se] 45)) (by first | rfl | simp)).mono ?_
  rintro e w1 ⟨⟨v1, rfl, q1⟩, b1⟩
  have B1 := Lib.hid (st (B0.out.alloc B0.out.size (.cells #[.string (ofL s.de), .string (ofL s.gr), .string (ofL s.mi), .string (ofL s.pe)] 9)) b1 (B0.out.alloc B0.out.size (.cells #[.string (ofL s.de), .string (ofL s.gr), .string (ofL s.mi), .string (ofL s.pe)] 9)).size)
  have K1 := Lib.hid (Blk.below (Blk.alloc K0.out (.cells #[.string (ofL s.de), .string (ofL s.gr), .string (ofL s.mi), .string (ofL s.pe)] 9)) b1)
  have Q1 := Lib.hid q1
  have c1_4 : w1.cell? ⟨w.heap.size, 4, none⟩ = some (.int .i64 s.pr) := K1.out.cell 4
  have c1_5 : w1.cell? ⟨w.heap.size, 5, none⟩ = some (.int .i64 s.se) := K1.out.cell 5
  clear b1 q1
  cases v1 with
  | false =>
    go_wp2_with fail
    go_ret
    exact ⟨⟨_, rfl, ⟨fun h => (by cases h), fun h => absurd (Q1.out.2 ((HS.out.1 h).1)) (by decide)⟩⟩, B1.out⟩
  | true =>
  go_wp2_with fail
  refine (isNumberS s.pr 9 _).mono ?_
  rintro e w2 ⟨⟨v2, rfl, q2⟩, b2⟩
  have B2 := Lib.hid (st B1.out b2 B1.out.size)
  have K2 := Lib.hid (Blk.below K1.out b2)
  have Q2 := Lib.hid q2
  have c2_5 : w2.cell? ⟨w.heap.size, 5, none⟩ = some (.int .i64 s.se) := K2.out.cell 5
  clear b2 q2 c1_4 c1_5
  cases v2 with
  | false =>
    go_wp2_with fail
    go_ret
    exact ⟨⟨_, rfl, ⟨fun h => (by cases h), fun h => absurd (Q2.out.2 ((HS.out.1 h).2.1)) (by decide)⟩⟩, B2.out⟩
  | true =>
  go_wp2_with fail
  refine (isNumberS s.se 9 _).mono ?_
  rintro e w3 ⟨⟨v3, rfl, q3⟩, b3⟩
  have B3 := Lib.hid (st B2.out b3 B2.out.size)
  have K3 := Lib.hid (Blk.below K2.out b3)
  have Q3 := Lib.hid q3
  clear b3 q3 c2_5
  cases v3 with
  | false =>
    go_wp2_with fail
    go_ret
    exact ⟨⟨_, rfl, ⟨fun h => (by cases h), fun h => absurd (Q3.out.2 ((HS.out.1 h).2.2)) (by decide)⟩⟩, B3.out⟩
  | true =>
  go_wp2_with fail
  go_ret
  exact ⟨⟨_, rfl, ⟨fun _ => HS.out.2 (⟨Q1.out.1 (by trivial), Q2.out.1 (by trivial), Q3.out.1 (by trivial)⟩), fun _ => rfl⟩⟩, B3.out⟩
theorem areSymbolsS (s : Sym) (h1 : Sm s.de) (h2 : Sm s.gr) (h3 : Sm s.mi) (h4 : Sm s.pe) (w : World) : Calls Tryz.prog 81 #[.agg #[.string (ofL s.de), .string (ofL s.gr), .string (ofL s.mi), .string (ofL s.pe), .int .i64 s.pr, .int .i64 s.se]] w (Says (symOk s) w) := by
  by_cases hn : s = sym0
  · exact areSymbolsZ s w (.inl hn)
  · by_cases hd : s.de = []
    · exact areSymbolsZ s w (.inr hd)
    · exact areSymbolsN s h1 h2 h3 h4 hn hd w
end Go.Proofs.YtpmmchppfmojhaaGreatDoor


/- Of the program of layer 11: the iterator over the tokens of a string; Tokens. -/
namespace Go.Proofs.YtpmmchppfmojhaaGreatDoor
open Go.RowKit Go.Shelf
set_option linter.unusedVariables false
attribute [local go_sem] Oper.semAt_some

/-- What is handed to the loop: a token, with an error. -/
structure Yd where
  kd : Int
  X : ByteArray
  a : Int
  e : Int
def Yd.tk (x : Yd) : Tok := ⟨x.kd.toNat, x.X.data.toList, x.a.toNat⟩
def ydV (x : Yd) : Array Value := #[.agg #[.int .i64 x.kd, .string x.X, .int .i64 x.a], .int .i64 x.e]
def encY (x : Yd) : List Value := [.int .i64 x.kd, .string x.X, .int .i64 x.a]
def goodY (pre : List Yd) : Prop := ∀ y ∈ pre, y.e = 0
def nnY (pre : List Yd) : Prop := ∀ y ∈ pre, 0 ≤ y.kd ∧ 0 ≤ y.a
abbrev TkR := (Nat × Nat) ⊕ List Tok
def SY (T : TkR) (ys : List Yd) : Prop := goodY ys → T = .inr (ys.map Yd.tk) ∧ nnY ys
def SpY (T : TkR) (pre : List Yd) : Prop := ∀ q x, pre = q ++ [x] → goodY q → x.e ≠ 0 → T = .inl (x.a.toNat, x.e.toNat) ∧ 0 ≤ x.a ∧ 0 ≤ x.e
/-- What a read hands out, in one form. -/
def GenR (o : Nat) (R : TRes) (kd : Int) (X : ByteArray) (a u er : Int) : Prop := match R with
  | .bad d e => a = ((o + d : Nat) : Int) ∧ er = (e : Int) ∧ kd = 0
  | .tok k tx n => kd = (k : Int) ∧ X = ofL tx ∧ a = (o : Int) ∧ u = ((o + n : Nat) : Int) ∧ er = 0
theorem ReadP.gen {o : Nat} {R : TRes} {w w' : World} {e : Ending} (h : ReadP o R w e w') : ∃ kd X a u er, e = .returned (.tuple #[.agg #[.int .i64 kd, .string X, .int .i64 a], .int .i64 u, .int .i64 er]) ∧ GenR o R kd X a u er ∧ Below w.heap.size w w' := by
  obtain ⟨h1, h2⟩ := h
  cases R with
  | bad d er => exact ⟨_, _, _, _, _, h1, ⟨rfl, rfl, rfl⟩, h2⟩
  | tok kd tx n => exact ⟨_, _, _, _, _, h1, ⟨rfl, rfl, rfl, rfl, rfl⟩, h2⟩
theorem oneR_errP {l : List UInt8} {d e : Nat} (hl : l ≠ []) (h : oneR l = .bad d e) : 0 < e := by
  cases l with
  | nil => exact absurd rfl hl
  | cons c l =>
    rw [oneR_cons] at h
    split at h
    · injection h with e1 e2; omega
    · split at h
      · cases h
      · split at h
        · exact quoR_err h
        · split at h
          · cases h
          · injection h with e1 e2; omega
/-- One more token, or the error. -/
theorem it_step {s : List UInt8} {T : TkR} {o : Nat} {pre : List Yd} {kd a u er : Int} {X : ByteArray} (ho : o < s.length) (hz : skN false (s.drop o) = 0) (hT : T = catT (pre.map Yd.tk) (toksN o (s.drop o))) (hg : GenR o (oneR (s.drop o)) kd X a u er) :
    (0 ≤ kd ∧ 0 ≤ a ∧ 0 ≤ er) ∧ (er ≠ 0 → T = .inl (a.toNat, er.toNat)) ∧
    (er = 0 → ∃ on : Nat, u = (on : Int) ∧ on ≤ s.length ∧ o < on ∧ on + skN false (s.drop on) ≤ s.length ∧ skN false (s.drop (on + skN false (s.drop on))) = 0 ∧
      T = catT ((pre ++ [(⟨kd, X, a, er⟩ : Yd)]).map Yd.tk) (toksN (on + skN false (s.drop on)) (s.drop (on + skN false (s.drop on))))) := by
  have hne : s.drop o ≠ [] := by
    intro e
    have := congrArg List.length e
    rw [List.length_drop, List.length_nil] at this
    omega
  cases hR : oneR (s.drop o) with
  | bad d e =>
    rw [hR] at hg
    obtain ⟨h1, h2, h3⟩ := hg
    have he := oneR_errP hne hR
    refine ⟨by omega, fun _ => ?_, fun h => by omega⟩
    rw [hT, at_bad hz hR hne]
    show Sum.inl _ = Sum.inl _
    rw [h1, h2, Int.toNat_natCast, Int.toNat_natCast]
  | tok k tx n =>
    rw [hR] at hg
    obtain ⟨h1, h2, h3, h4, h5⟩ := hg
    refine ⟨by omega, fun h => absurd h5 h, fun _ => ⟨o + n, h4, ?_⟩⟩
    obtain ⟨q1, q2, q3, q4, q5⟩ := tk_next ho hz hT hR
    refine ⟨q5, by omega, q1, q2, ?_⟩
    rw [q3, List.map_append, List.map_singleton]
    congr 3
    show _ = Tok.mk kd.toNat X.data.toList a.toNat
    rw [h1, h2, h3, Int.toNat_natCast, Int.toNat_natCast]
    rfl
theorem grown_of {w w' : World} (h : Below w.heap.size w w') : w.grownBy w' none := ⟨h.os, h.tape, h.output, h.size, fun k hk _ => h.block k hk⟩
theorem bt_alloc {n C : Nat} {w w' : World} (h : Bt n C w w') (hn : n ≤ w.heap.size) (o : Obj) : Bt n C w (w'.alloc o) :=
  h.trans (Bt.of_below ((Below.refl n w').alloc (Nat.le_trans hn h.size) o))
theorem bt_below {n C : Nat} {w w' w2 : World} (h : Bt n C w w') (hn : n ≤ w.heap.size) (hb : Below w'.heap.size w' w2) : Bt n C w w2 :=
  h.trans (Bt.of_below (hb.mono (Nat.le_trans hn h.size)))
theorem below_bt {n C b : Nat} {w w' : World} (h : Bt n C w w') (hb : b ≤ n) (hc : b ≤ C) : Below b w w' := ⟨h.os, h.tape, h.output, h.size, fun k hk => h.block k (by omega) (by omega)⟩

structure ItT (s : ByteArray) (T : TkR) (n₀ C : Nat) (W0 : World) (J : List Yd → World → Prop) (pre : List Yd) (o : Nat) (W : World) : Prop where
  le : o ≤ s.size
  z : skN false (s.data.toList.drop o) = 0
  eq : T = catT (pre.map Yd.tk) (toksN o (s.data.toList.drop o))
  len : pre.length ≤ o
  good : goodY pre
  nn : nnY pre
  bt : Bt n₀ C W0 W
  inv : J pre W
set_option maxRecDepth 1000000 in
set_option maxHeartbeats 4000000 in
theorem tokens1_in (n : Nat) (hn : 2 ≤ n) (l Bn n₀ C : Nat) (s : ByteArray) (hs : s.size ≤ 10000000) (T : TkR) (hT : toks s.data.toList = T) (J Jx : List Yd → World → Prop) (W : World)
    (hJ : AbidesFrom W.heap.size J) (hB0 : Bn < n₀) (hBC : Bn ≠ C) (hn0 : n₀ ≤ W.heap.size) (henv : ∀ W', Bt n₀ C W W' → Env W')
    (hY : ∀ pre x W1, J pre W1 → pre.length < s.size → YieldAt Fence.wide (n - 1) Tryz.prog l (ydV x) W1 fun e W' =>
      (e = .returned (.bool true) ∧ J (pre ++ [x]) W' ∧ Bt n₀ C W1 W') ∨ (e = .returned (.bool false) ∧ Jx (pre ++ [x]) W'))
    (hBn : Blk Bn 9 #[.string s] W) (h0 : J [] W) :
    CallsIn Fence.wide n Tryz.prog 155 #[.func (.yield l) #[] #[], .pointer (some ⟨Bn, 0, none⟩)] W fun e W' => (∃ v, e = .returned v) ∧
      ((∃ ys, SY T ys ∧ J ys W') ∨ (∃ pre, SpY T pre ∧ Jx pre W')) := by
  have hf : Fence.wide.fn 155 := trivial
  have hfA : Fence.wide.fn 156 := trivial
  have hfB : Fence.wide.fn 157 := trivial
  have hro : Fence.wide.round = none := rfl
  have h1n : 1 ≤ n := by omega
  have hsi : (s.size : Int) ≤ 10000000 := by omega
  have HSK := Lib.hid (fun o (ho : o ≤ s.size) w => skip_p s o ho hs w)
  have HS0 := Lib.hid (skip_p s 0 (Nat.zero_le _) hs W)
  rw [List.drop_zero, Nat.zero_add, show ((0 : Nat) : Int) = 0 from rfl] at HS0
  have HLE0 := Lib.hid (skN_le false s.data.toList)
  have HI0 := Lib.hid (sk_idem s.data.toList)
  have HT0 := Lib.hid (toks_N s.data.toList)
  rw [hT] at HT0
  have hLD := len_data s
  obtain ⟨o0, ho0⟩ : ∃ o, skN false s.data.toList = o := ⟨_, rfl⟩
  rw [ho0] at HT0 HI0 HLE0 HS0
  have HJA := Lib.hid hJ
  have HEN := Lib.hid henv
  have HYY := Lib.hid hY
  have HBL := Lib.hid hBn
  have H00 := Lib.hid h0
  have b0 : W.cell? ⟨Bn, 0, none⟩ = some (.string s) := hBn.cell 0
  have HLD := Lib.hid hLD
  clear hT ho0 hJ henv hY hBn h0 hLD
  refine callsIn_of_wp Tryz.func155 rfl hf ?_ hro
  simp only [Tryz.ntmps155, List.size_toArray, List.length_cons, List.length_nil, Nat.reduceAdd, Nat.reduceSub, Array.replicate_succ, Array.replicate_zero, List.push_toArray, List.append_toArray, List.nil_append, List.cons_append]
  gi_wp2_with fail
  refine (callsIn_wide.2 HS0.out).mono ?_
  rintro e w1 ⟨rfl, b1⟩
  have HB1 := Lib.hid b1
  clear b1 HS0
  gi_wp2_with fail
  gi_loopw [3] (fun v3 wr => ∃ (pre : List Yd) (o : Nat), v3 = .int .i64 (o : Int) ∧ ItT s T n₀ C W J pre o wr) (fun v3 _ => s.size - (intOf v3).toNat)
  case atStart =>
    refine ⟨[], o0, rfl, by have := HLE0.out; have := HLD.out; omega, HI0.out, ?_, Nat.zero_le _, (fun y h => by cases h), (fun y h => by cases h), bt_below (Bt.refl _ _ _) hn0 HB1.out, HJA.out _ _ _ none H00.out (grown_of HB1.out) (fun r e => by cases e)⟩
    rw [List.map_nil, catT_nil]; exact HT0.out
  case round =>
    obtain ⟨pre, o, rfl, hrel⟩ := hrel
    have HR := Lib.hid hrel
    have hle := hrel.le
    have b2 : wr.cell? ⟨Bn, 0, none⟩ = some (.string s) := (Blk.bt HBL.out hrel.bt hB0 hBC).cell 0
    clear hrel HT0 HI0 HLE0 b0 HB1 H00
    by_cases hlt : o < s.size
    · have h9 : (o : Int) < (s.size : Int) := by omega
      have HRD := Lib.hid (readP_any s o hlt hs wr (HEN.out wr HR.out.bt))
      have HST := Lib.hid (fun kd X a u er h => @it_step s.data.toList T o pre kd a u er X (by have := HLD.out; omega) HR.out.z HR.out.eq h)
      gi_wp2_with fail
      refine (callsIn_wide.2 HRD.out).mono ?_
      rintro e w2 hrd
      obtain ⟨kd, X, a, u, er, rfl, hg, bw⟩ := hrd.gen
      obtain ⟨hnn, hbad, hok⟩ := HST.out kd X a u er hg
      have HNN := Lib.hid hnn
      have HBAD := Lib.hid hbad
      have HOK := Lib.hid hok
      have hJ2 : J pre w2 := HJA.out _ _ _ none HR.out.inv (by exact grown_of bw) (fun r e => by cases e)
      have hJ3 : J pre (w2.alloc (.cells #[.int .i64 kd, .string X, .int .i64 a] 84)) := HJA.out _ _ _ none hJ2 (World.grownBy_alloc _ _ _) (fun r e => by cases e)
      have HBT : Hid (Bt n₀ C W (w2.alloc (.cells #[.int .i64 kd, .string X, .int .i64 a] 84))) := Lib.hid (bt_alloc (bt_below HR.out.bt hn0 bw) hn0 _)
      obtain ⟨fn, tmps, assign, body, hy, hRR⟩ := HYY.out pre ⟨kd, X, a, er⟩ _ hJ3 (by have := HR.out.len; omega)
      dsimp only [ydV] at hy
      clear hrd hg bw hnn hbad hok hJ2 hJ3 HRD HST
      by_cases her : er = 0
      · have z1 : (er != 0) = false := by rw [her]; rfl
        have z2 : (er == 0) = true := by rw [her]; rfl
        obtain ⟨on, hu, hon, hoo, hk1, hk2, hk3⟩ := HOK.out her
        subst hu
        have HSN := Lib.hid (fun w => HSK.out on (by have := HLD.out; omega) w)
        obtain ⟨o', ho'⟩ : ∃ o', on + skN false (s.data.toList.drop on) = o' := ⟨_, rfl⟩
        rw [ho'] at HSN hk1 hk2 hk3
        have HK1 := Lib.hid hk1
        have HK2 := Lib.hid hk2
        have HK3 := Lib.hid hk3
        have HOO : Hid (o < o') := Lib.hid (by omega)
        have HER := Lib.hid her
        clear ho' hk1 hk2 hk3 hoo her hon
        gi_wp2_with fail
        refine hRR.mono ?_
        rintro e W4 (⟨rfl, hJ4, hk4⟩ | ⟨rfl, hJx4⟩)
        · have HJ4 := Lib.hid hJ4
          have HBT4 := Lib.hid (HBT.out.trans hk4)
          have b4 : W4.cell? ⟨Bn, 0, none⟩ = some (.string s) := (Blk.bt HBL.out HBT4.out hB0 hBC).cell 0
          clear hJ4 hk4
          gi_wp2_with fail
          refine (callsIn_wide.2 (HSN.out _)).mono ?_
          rintro e w5 ⟨rfl, b5⟩
          have HB5 := Lib.hid b5
          clear b5
          gi_wp2
          go_roundw
          case rel =>
            refine ⟨pre ++ [⟨kd, X, a, er⟩], o', rfl, by have := HK1.out; have := HLD.out; omega, HK2.out, HK3.out, ?_, ?_, ?_, bt_below HBT4.out hn0 HB5.out, HJA.out _ _ _ none HJ4.out (by exact grown_of HB5.out) (fun r e => by cases e)⟩
            · rw [List.length_append, List.length_singleton]; have := HR.out.len; have := HOO.out; omega
            · intro y hy
              rcases List.mem_append.1 hy with h | h
              · exact HR.out.good y h
              · obtain rfl := List.mem_singleton.1 h; exact HER.out
            · intro y hy
              rcases List.mem_append.1 hy with h | h
              · exact HR.out.nn y h
              · obtain rfl := List.mem_singleton.1 h; exact ⟨HNN.out.1, HNN.out.2.1⟩
          case measure => (have := HOO.out; have := HK1.out; have := HLD.out; simp [intOf]; omega)
        · have HJX := Lib.hid hJx4
          clear hJx4
          gi_wp2
          refine bodyPost_ret (results_none rfl _ _ _) rfl ?_
          refine ⟨⟨_, rfl⟩, .inr ⟨_, ?_, HJX.out⟩⟩
          intro q x hq _ hx
          obtain ⟨_, h2⟩ := List.append_inj' hq rfl
          injection h2 with h2
          subst h2
          exact absurd HER.out hx
      · have z1 : (er != 0) = true := by rw [bne_iff_ne]; exact her
        have z2 : (er == 0) = false := by rw [beq_eq_false_iff_ne]; exact her
        have HER := Lib.hid her
        clear her
        gi_wp2_with fail
        refine hRR.mono ?_
        rintro e W4 (⟨rfl, hJ4, hk4⟩ | ⟨rfl, hJx4⟩)
        · have HJ4 := Lib.hid hJ4
          clear hJ4 hk4
          gi_wp2
          refine bodyPost_ret (results_none rfl _ _ _) rfl ?_
          refine ⟨⟨_, rfl⟩, .inl ⟨_, ?_, HJ4.out⟩⟩
          intro hgd
          exact absurd (hgd ⟨kd, X, a, er⟩ (List.mem_append_right _ (List.mem_singleton.2 rfl))) HER.out
        · have HJX := Lib.hid hJx4
          clear hJx4
          gi_wp2
          refine bodyPost_ret (results_none rfl _ _ _) rfl ?_
          refine ⟨⟨_, rfl⟩, .inr ⟨_, ?_, HJX.out⟩⟩
          intro q x hq _ hx
          obtain ⟨_, h2⟩ := List.append_inj' hq rfl
          injection h2 with h2
          subst h2
          exact ⟨HBAD.out hx, HNN.out.2.1, HNN.out.2.2⟩
    · have h9 : ¬ (o : Int) < (s.size : Int) := by omega
      have HTE : Hid (T = .inr (pre.map Yd.tk)) := Lib.hid (by
        rw [HR.out.eq, data_end (by omega)]
        show catT _ (.inr []) = _
        show Sum.inr _ = Sum.inr _
        rw [List.append_nil])
      gi_wp2
      go_end0
      exact ⟨⟨_, rfl⟩, .inl ⟨pre, fun _ => ⟨HTE.out, HR.out.nn⟩, HR.out.inv⟩⟩
theorem tokensF_any (s : ByteArray) (w : World) :
    Calls Tryz.prog 103 #[.string s] w fun e w' => e = .returned (.func (.func 155) #[] #[.pointer (some ⟨w.heap.size, 0, none⟩)]) ∧ w' = w.alloc (.cells #[.string s] 9) := by
  go_enter Tryz.func103, Tryz.ntmps103
  go_wp2
  go_ret
  exact ⟨rfl, rfl⟩
theorem tokens_stops (n : Nat) (hn : 2 ≤ n) (Bn n₀ C : Nat) (s : ByteArray) (hs : s.size ≤ 10000000) (w : World) (hB0 : Bn < n₀) (hBC : Bn ≠ C) (hn0 : n₀ ≤ w.heap.size) (henv : ∀ W', Bt n₀ C w W' → Env W')
    (hBn : Blk Bn 9 #[.string s] w) :
    SeqStopsK Fence.wide n Tryz.prog 155 #[.pointer (some ⟨Bn, 0, none⟩)] ydV (Bt n₀ C) (SY (toks s.data.toList)) (SpY (toks s.data.toList)) s.size w := fun l J Jx W hW hJ hJx hY h0 =>
  tokens1_in n hn l Bn n₀ C s hs _ rfl J Jx W hJ hB0 hBC (Nat.le_trans hn0 hW.size) (fun W' h => henv W' ((Bt.of_below (hW.mono hn0)).trans h)) hY (hBn.below hW) h0
end Go.Proofs.YtpmmchppfmojhaaGreatDoor


/- Of the program of layer 11: Tokens. -/
namespace Go.Proofs.YtpmmchppfmojhaaGreatDoor
open Go.RowKit Go.Shelf
set_option linter.unusedVariables false
attribute [local go_sem] Oper.semAt_some

theorem res_Tokens {W : World} {tm : Array Value} {B B' B'' : Nat} {a b c : Value} (t2 : tm[2]?.getD undef = .pointer (some ⟨B, 0, none⟩)) (t3 : tm[3]?.getD undef = .pointer (some ⟨B', 0, none⟩)) (t4 : tm[4]?.getD undef = .pointer (some ⟨B'', 0, none⟩))
    (a0 : W.cell? ⟨B, 0, none⟩ = some a) (a1 : W.cell? ⟨B', 0, none⟩ = some b) (a2 : W.cell? ⟨B'', 0, none⟩ = some c) :
    (results Tryz.f46 tm).run Tryz.prog W = .ok (.tuple #[a, b, c]) W := by
  simp [results, Tryz.f46, go_sem, t2, t3, t4, a0, a1, a2]
theorem Tryz.infoTP : (Tryz.prog.info? 84).map (fun i => (i.zero, i.size, i.bytes)) = some (some (.agg #[.int .i64 0, .string ⟨#[]⟩, .int .i64 0]), 3, 32) := by kernel_rfl
/-- 'out = append(out, t)' in a loop over an iterator: the box lies below what the iterator keeps, the list above. -/
theorem boxed_appended {W w1 : World} {n₀ B : Nat} {t e : TypeId} {size : Nat} {v v' : Value} {k m : Nat} {xs ys : List Value} {tmp : Obj}
    (hv : Boxed W B t v) (hte : t ≠ e) (hrow : W.ownsRow n₀ e size v k xs) (hn₀ : n₀ ≤ W.heap.size) (hown' : w1.ownsRow n₀ e size v' m ys) (hgrow : (W.alloc tmp).grownBy w1 v.ownBlock) :
    Boxed w1 B t v ∧ Boxed (w1.setCell ⟨B, 0, none⟩ v') B t v' ∧ (w1.setCell ⟨B, 0, none⟩ v').ownsRow n₀ e size v' m ys ∧ KeepsOthers W (w1.setCell ⟨B, 0, none⟩ v') ∧ Bt n₀ B W (w1.setCell ⟨B, 0, none⟩ v') := by
  have hv1 : Boxed w1 B t v := (hv.alloc tmp).kept hgrow (hv.not_row hte hrow)
  refine ⟨hv1, hv1.set v', hown'.kept (grownBy_setCell' w1 B v') (.inr (hv1.not_row hte hown').symm), ?_, ?_⟩
  · refine ((KeepsOthers.alloc W tmp).trans (KeepsOthers.of_grownBy hgrow fun j o ej hj => ?_)).trans (KeepsOthers.setCell _ _ _)
    rcases (hrow.alloc tmp).2 with ⟨rfl, _⟩ | ⟨g, cap, cur, rfl, _, hgb, _⟩
    · simp [Value.ownBlock] at ej
    · obtain rfl : g = j := by simpa [Value.ownBlock] using ej
      rw [hgb] at hj; cases hj; rfl
  · refine (Bt.of_below (((Below.refl n₀ W).alloc hn₀ tmp).grown hgrow (by simp; omega) fun j ej => ?_)).trans (Bt.setCell n₀ B w1 0 v')
    rcases hrow.2 with ⟨rfl, _⟩ | ⟨g, cap, cur, rfl, hb, _, _⟩
    · simp [Value.ownBlock] at ej
    · obtain rfl : g = j := by simpa [Value.ownBlock] using ej
      exact hb
theorem yblk_own {β : Type} (B : Nat) (t : TypeId) (f : β → Array Value) : Own (fun s W => Blk B t (f s) W) := fun s W W' row hs hg hr => by
  refine (hg.block B (Blk.lt hs) (fun e => ?_)).trans hs
  obtain ⟨o, ho, hc⟩ := hr B e.symm
  rw [show W.heap[B]? = _ from hs] at ho
  cases ho
  cases hc
theorem yblk_putObj {B : Nat} {t : TypeId} {cs : Array Value} {W : World} (h : Blk B t cs W) {D : Nat} {o : Obj} (hD : W.heap[D]? = some o) (hc : o.isCells = false) (o' : Obj) : Blk B t cs (W.putObj D o') := by
  refine (World.putObj_heap_other (fun e => ?_)).trans h
  subst e
  rw [show W.heap[B]? = _ from h] at hD
  cases hD
  cases hc
def TkIn (s : ByteArray) (g n₀ : Nat) (w : World) (pre : List Yd) (W : World) : Prop :=
  (goodY pre ∧ (∃ v, Boxed W g 80 v ∧ W.ownsRow n₀ 84 3 v pre.length (pre.flatMap encY) ∧ True) ∧ Blk (g + 1) 3 #[.int .i64 0] W ∧ Blk (g + 2) 29 #[.int .i64 0] W ∧ Blk (g + 3) 9 #[.string s] W) ∧ Below g w W
def TkEx (g : Nat) (w : World) (c : Code) (pre : List Yd) (W : World) : Prop :=
  (c = .ret ∧ ∃ q x, pre = q ++ [x] ∧ goodY q ∧ x.e ≠ 0 ∧ Blk g 80 #[.slice none 0 0] W ∧ Blk (g + 1) 3 #[.int .i64 x.a] W ∧ Blk (g + 2) 29 #[.int .i64 x.e] W) ∧ Below g w W
def set3 (W : World) (g : Nat) (a b c : Value) : World := ((W.setCell ⟨g, 0, none⟩ a).setCell ⟨g + 1, 0, none⟩ b).setCell ⟨g + 2, 0, none⟩ c
theorem set3_ok {W : World} {g : Nat} {t0 t1 t2 : TypeId} {a0 b0 c0 a b c : Value} (h0 : Boxed W g t0 a0) (h1 : Blk (g + 1) t1 #[b0] W) (h2 : Blk (g + 2) t2 #[c0] W) :
    Blk g t0 #[a] (set3 W g a b c) ∧ Blk (g + 1) t1 #[b] (set3 W g a b c) ∧ Blk (g + 2) t2 #[c] (set3 W g a b c) ∧ KeepsOthers W (set3 W g a b c) ∧ Below g W (set3 W g a b c) ∧ (∀ k, g + 2 < k → (set3 W g a b c).heap[k]? = W.heap[k]?) := by
  have h0' : Blk g t0 #[a0] W := h0
  refine ⟨?_, ?_, ?_, ?_, ?_, ?_⟩
  · exact ((h0'.put 0 a).far (p := ⟨g + 1, 0, none⟩) (by show g ≠ g + 1; omega) b).far (p := ⟨g + 2, 0, none⟩) (by show g ≠ g + 2; omega) c
  · exact ((h1.far (p := ⟨g, 0, none⟩) (by show g + 1 ≠ g; omega) a).put 0 b).far (p := ⟨g + 2, 0, none⟩) (by show g + 1 ≠ g + 2; omega) c
  · exact ((h2.far (p := ⟨g, 0, none⟩) (by show g + 2 ≠ g; omega) a).far (p := ⟨g + 1, 0, none⟩) (by show g + 2 ≠ g + 1; omega) b).put 0 c
  · exact ((KeepsOthers.setCell _ _ _).trans (KeepsOthers.setCell _ _ _)).trans (KeepsOthers.setCell _ _ _)
  · exact (((Below.refl g W).setCell (p := ⟨g, 0, none⟩) (Nat.le_refl _) _).setCell (p := ⟨g + 1, 0, none⟩) (by show g ≤ g + 1; omega) _).setCell (p := ⟨g + 2, 0, none⟩) (by show g ≤ g + 2; omega) _
  · intro k hk
    exact ((Below.heap_setCell _ _ _ k (by show k ≠ g + 2; omega)).trans (Below.heap_setCell _ _ _ k (by show k ≠ g + 1; omega))).trans (Below.heap_setCell _ _ _ k (by show k ≠ g; omega))
theorem flat_enc : ∀ ys : List Yd, nnY ys → ys.flatMap encY = (ys.map Yd.tk).flatMap encTk
  | [], _ => rfl
  | y :: ys, h => by
    obtain ⟨h1, h2⟩ := h y (by simp)
    rw [List.flatMap_cons, List.map_cons, List.flatMap_cons, flat_enc ys (fun z hz => h z (by simp [hz]))]
    congr 1
    show [Value.int .i64 y.kd, .string y.X, .int .i64 y.a] = [.int .i64 ((y.kd.toNat : Nat) : Int), .string (ofL y.X.data.toList), .int .i64 ((y.a.toNat : Nat) : Int)]
    rw [of_data, Int.toNat_of_nonneg h1, Int.toNat_of_nonneg h2]
end Go.Proofs.YtpmmchppfmojhaaGreatDoor


