/- What the row stands on, part 22. -/
import Derived.Test.YtpmmchppfmojhaaGreatDoorQ21

/- Of the program of layer 11: failure, readWord, readString, read. -/
namespace Go.Proofs.YtpmmchppfmojhaaGreatDoor
open Go.RowKit
set_option linter.unusedVariables false

def ReadP (o : Nat) (r : TRes) (w : World) (e : Ending) (w' : World) : Prop :=
  (match r with
    | .bad d er => e = .returned (.tuple #[.agg #[.int .i64 0, .string ⟨#[]⟩, .int .i64 ((o + d : Nat) : Int)], .int .i64 0, .int .i64 (er : Int)])
    | .tok kd tx n => e = .returned (.tuple #[.agg #[.int .i64 (kd : Int), .string (ofL tx), .int .i64 (o : Int)], .int .i64 ((o + n : Nat) : Int), .int .i64 0])) ∧ Below w.heap.size w w'

theorem ret_read {a c u e a' c' u' e' : Int} {x x' : ByteArray} (h1 : a = a') (h2 : x = x') (h3 : c = c') (h4 : u = u') (h5 : e = e') : Ending.returned (.tuple #[.agg #[.int .i64 a, .string x, .int .i64 c], .int .i64 u, .int .i64 e]) = Ending.returned (.tuple #[.agg #[.int .i64 a', .string x', .int .i64 c'], .int .i64 u', .int .i64 e']) := by
  subst h1 h2 h3 h4 h5; rfl
theorem res_failure {W : World} {tm : Array Value} {B : Nat} {t : TypeId} {a b c v u : Value} (t2 : tm[4]?.getD undef = .pointer (some ⟨B, 0, none⟩)) (t3 : tm[5]?.getD undef = v) (t4 : tm[6]?.getD undef = u) (h : Blk B t #[a, b, c] W) :
    (results Tryz.f216 tm).run Tryz.prog W = .ok (.tuple #[.agg #[a, b, c], v, u]) W := by
  have a0 : W.cell? ⟨B, 0, none⟩ = some a := h.cell 0
  have a1 : W.cell? ⟨B, 1, none⟩ = some b := h.cell 1
  have a2 : W.cell? ⟨B, 2, none⟩ = some c := h.cell 2
  simp [results, Tryz.f216, go_sem, t2, t3, t4, a0, a1, a2]
theorem res_readWord {W : World} {tm : Array Value} {B : Nat} {t : TypeId} {a b c v u : Value} (t2 : tm[4]?.getD undef = .pointer (some ⟨B, 0, none⟩)) (t3 : tm[5]?.getD undef = v) (t4 : tm[6]?.getD undef = u) (h : Blk B t #[a, b, c] W) :
    (results Tryz.f214 tm).run Tryz.prog W = .ok (.tuple #[.agg #[a, b, c], v, u]) W := by
  have a0 : W.cell? ⟨B, 0, none⟩ = some a := h.cell 0
  have a1 : W.cell? ⟨B, 1, none⟩ = some b := h.cell 1
  have a2 : W.cell? ⟨B, 2, none⟩ = some c := h.cell 2
  simp [results, Tryz.f214, go_sem, t2, t3, t4, a0, a1, a2]
theorem res_readString {W : World} {tm : Array Value} {B : Nat} {t : TypeId} {a b c v u : Value} (t2 : tm[4]?.getD undef = .pointer (some ⟨B, 0, none⟩)) (t3 : tm[5]?.getD undef = v) (t4 : tm[6]?.getD undef = u) (h : Blk B t #[a, b, c] W) :
    (results Tryz.f215 tm).run Tryz.prog W = .ok (.tuple #[.agg #[a, b, c], v, u]) W := by
  have a0 : W.cell? ⟨B, 0, none⟩ = some a := h.cell 0
  have a1 : W.cell? ⟨B, 1, none⟩ = some b := h.cell 1
  have a2 : W.cell? ⟨B, 2, none⟩ = some c := h.cell 2
  simp [results, Tryz.f215, go_sem, t2, t3, t4, a0, a1, a2]
theorem res_read {W : World} {tm : Array Value} {B : Nat} {t : TypeId} {a b c v u : Value} (t2 : tm[4]?.getD undef = .pointer (some ⟨B, 0, none⟩)) (t3 : tm[5]?.getD undef = v) (t4 : tm[6]?.getD undef = u) (h : Blk B t #[a, b, c] W) :
    (results Tryz.f157 tm).run Tryz.prog W = .ok (.tuple #[.agg #[a, b, c], v, u]) W := by
  have a0 : W.cell? ⟨B, 0, none⟩ = some a := h.cell 0
  have a1 : W.cell? ⟨B, 1, none⟩ = some b := h.cell 1
  have a2 : W.cell? ⟨B, 2, none⟩ = some c := h.cell 2
  simp [results, Tryz.f157, go_sem, t2, t3, t4, a0, a1, a2]
theorem failure_any (o er : Int) (w : World) :
    Calls Tryz.prog 216 #[.int .i64 o, .int .i64 er] w fun e w' => e = .returned (.tuple #[.agg #[.int .i64 0, .string ⟨#[]⟩, .int .i64 o], .int .i64 0, .int .i64 er]) ∧ Below w.heap.size w w' := by
  have HK := Blk.new w 84 #[.int .i64 0, .string ⟨#[]⟩, .int .i64 0]
  have HFB := Lib.hid (put3_blk (n := w.heap.size) (a' := .int .i64 0) (b' := .string ⟨#[]⟩) (c' := .int .i64 o) HK (Nat.le_refl _))
  have HW1 : Hid (Below w.heap.size w (w.alloc (.cells #[.int .i64 0, .string ⟨#[]⟩, .int .i64 0] 84))) := Lib.hid ((Below.refl _ _).alloc (Nat.le_refl _) _)
  have xf := HK.frozen
  have y0 : (w.alloc (.cells #[.int .i64 0, .string ⟨#[]⟩, .int .i64 0] 84)).cell? ⟨w.heap.size, 0, none⟩ = some (.int .i64 0) := HK.cell 0
  have y1 : (w.alloc (.cells #[.int .i64 0, .string ⟨#[]⟩, .int .i64 0] 84)).cell? ⟨w.heap.size, 1, none⟩ = some (.string ⟨#[]⟩) := HK.cell 1
  have y2 : (w.alloc (.cells #[.int .i64 0, .string ⟨#[]⟩, .int .i64 0] 84)).cell? ⟨w.heap.size, 2, none⟩ = some (.int .i64 0) := HK.cell 2
  obtain ⟨W1, hW1⟩ : ∃ W1, w.alloc (.cells #[.int .i64 0, .string ⟨#[]⟩, .int .i64 0] 84) = W1 := ⟨_, rfl⟩
  rw [hW1] at HFB HW1 xf y0 y1 y2
  have HW := Lib.hid hW1
  clear hW1 HK
  go_enter Tryz.func216, Tryz.ntmps216
  go_upto_region 1 with fail
  rw [HW.out]
  clear HW
  go_wp2
  exact bodyPost_ret (res_failure rfl rfl rfl HFB.out.1) rfl ⟨rfl, HW1.out.trans HFB.out.2⟩
/-- What the callee's own results look like behind a store of them. -/
theorem put_after {w W1 w2 : World} {g : Nat} {t : TypeId} {a b c a' b' c' : Value} (h1 : Below w.heap.size w W1) (hk : Blk g t #[a, b, c] W1) (hg : w.heap.size = g) (h2 : Below W1.heap.size W1 w2) :
    Blk g t #[a', b', c'] (put3 w2 g a' b' c') ∧ Below w.heap.size w (put3 w2 g a' b' c') := by
  obtain ⟨p1, p2⟩ := put3_blk (n := w.heap.size) (a' := a') (b' := b') (c' := c') (Blk.below hk h2) (by omega)
  exact ⟨p1, (h1.trans (h2.mono h1.size)).trans p2⟩
theorem pass_word (s : ByteArray) (o : Nat) (ho : o ≤ s.size) (hs : s.size ≤ 9223372036854775807) (w : World) :
    Calls Tryz.prog 140 #[.string s, .int .i64 o, .string (⟨#[65, 66, 67, 68, 69, 70, 71, 72, 73, 74, 75, 76, 77, 78, 79, 80, 81, 82, 83, 84, 85, 86, 87, 88, 89, 90, 97, 98, 99, 100, 101, 102, 103, 104, 105, 106, 107, 108, 109, 110, 111, 112, 113, 114, 115, 116, 117, 118, 119, 120, 121, 122, 48, 49, 50, 51, 52, 53, 54, 55, 56, 57, 45, 95]⟩ : ByteArray)] w fun e w' => e = .returned (.int .i64 ((o + wordN (s.data.toList.drop o) : Nat) : Int)) ∧ w' = w := by
  rw [wordN_run]
  exact pass_any inWordsL isPart run_word s o ho hs w
theorem oneOf_part (c : UInt8) (w : World) : Calls Tryz.prog 192 #[.string (⟨#[65, 66, 67, 68, 69, 70, 71, 72, 73, 74, 75, 76, 77, 78, 79, 80, 81, 82, 83, 84, 85, 86, 87, 88, 89, 90, 97, 98, 99, 100, 101, 102, 103, 104, 105, 106, 107, 108, 109, 110, 111, 112, 113, 114, 115, 116, 117, 118, 119, 120, 121, 122, 48, 49, 50, 51, 52, 53, 54, 55, 56, 57, 45, 95]⟩ : ByteArray), .int .u8 (c.toNat : Int)] w fun e w' => e = .returned (.bool (isPart c)) ∧ w' = w := by
  rw [← oneOf_word]
  exact isOneOf_any (ofL inWordsL) c w
theorem oneOf_mk (c : UInt8) (w : World) : Calls Tryz.prog 192 #[.string ⟨#[123, 125, 59]⟩, .int .u8 (c.toNat : Int)] w fun e w' => e = .returned (.bool (isMk c)) ∧ w' = w := by
  rw [← oneOf_mark]
  exact isOneOf_any (ofL marksL) c w
set_option maxRecDepth 1000000 in
set_option maxHeartbeats 4000000 in
theorem readWord_any (s : ByteArray) (o : Nat) (ho : o ≤ s.size) (hs : s.size ≤ 10000000) (w : World) :
    Calls Tryz.prog 214 #[.string s, .int .i64 o] w (ReadP o (if 40 < wordN (s.data.toList.drop o) then .bad 0 6 else .tok 1 ((s.data.toList.drop o).take (wordN (s.data.toList.drop o))) (wordN (s.data.toList.drop o))) w) := by
  have hsi : (s.size : Int) ≤ 10000000 := by omega
  have HP := Lib.hid (pass_word s o ho (by omega))
  have hl := wordN_le (s.data.toList.drop o)
  rw [List.length_drop, len_data] at hl
  have HEX := Lib.hid (ext_of s o (o + wordN (s.data.toList.drop o)))
  obtain ⟨n, hn⟩ : ∃ n, wordN (s.data.toList.drop o) = n := ⟨_, rfl⟩
  rw [hn] at HP hl HEX ⊢
  have hex := HEX.out
  rw [show o + n - o = n by omega] at hex
  have cm := cut_mid s (show o ≤ o + n by omega) (show o + n ≤ s.size by omega) (show (o : Int) = ((o : Nat) : Int) from rfl) (show ((o + n : Nat) : Int) = ((o + n : Nat) : Int) from rfl)
  rw [hex] at cm
  obtain ⟨X, hX⟩ : ∃ X, (s.data.toList.drop o).take n = X := ⟨_, rfl⟩
  rw [hX] at cm ⊢
  obtain ⟨Y, hY⟩ : ∃ Y, ofL X = Y := ⟨_, rfl⟩
  rw [hY] at cm
  have HY := Lib.hid hY
  obtain ⟨on, hon⟩ : ∃ x, o + n = x := ⟨_, rfl⟩
  rw [hon] at HP cm
  have HON := Lib.hid hon
  have q1 : (on : Int) - (o : Int) = (n : Int) := by omega
  have q2 : (on : Int) ≤ 10000000 := by omega
  have q3 : (o : Int) ≤ (on : Int) := by omega
  obtain ⟨W1, hW1⟩ : ∃ W1, w.alloc (.cells #[.int .i64 0, .string ⟨#[]⟩, .int .i64 0] 84) = W1 := ⟨_, rfl⟩
  have HK : Hid (Blk w.heap.size 84 #[.int .i64 0, .string ⟨#[]⟩, .int .i64 0] W1) := Lib.hid (by rw [← hW1]; exact Blk.new _ _ _)
  have HW1 : Hid (Below w.heap.size w W1) := Lib.hid (by rw [← hW1]; exact (Below.refl _ _).alloc (Nat.le_refl _) _)
  have HW := Lib.hid hW1
  obtain ⟨g, hg⟩ : ∃ g, w.heap.size = g := ⟨_, rfl⟩
  have HG := Lib.hid hg
  rw [hg] at HK
  clear hW1 hg
  clear hn hX hY hex HEX hon hl
  by_cases h40 : 40 < n
  · rw [if_pos h40]
    have z1 : decide ((40 : Int) < (n : Int)) = true := decide_eq_true (by omega)
    have z2 : decide (40 < n) = true := decide_eq_true h40
    clear h40 cm
    go_enter Tryz.func214, Tryz.ntmps214
    go_upto_region 1 with fail
    rw [HW.out, HG.out]
    clear HW
    go_wp2_with fail
    refine (HP.out _).mono ?_
    rintro e w2 ⟨rfl, hw2⟩
    obtain rfl := hw2.symm
    clear hw2 HP
    go_wp2_with fail
    refine (failure_any _ _ _).mono ?_
    rintro e w3 ⟨rfl, b3⟩
    have HFB := Lib.hid (put_after (a' := .int .i64 0) (b' := .string ⟨#[]⟩) (c' := .int .i64 (o : Int)) HW1.out HK.out HG.out b3)
    have KR := Lib.hid (Blk.below HK.out b3)
    have xf := KR.out.frozen
    have y0 : w3.cell? ⟨g, 0, none⟩ = some (.int .i64 0) := KR.out.cell 0
    have y1 : w3.cell? ⟨g, 1, none⟩ = some (.string ⟨#[]⟩) := KR.out.cell 1
    have y2 : w3.cell? ⟨g, 2, none⟩ = some (.int .i64 0) := KR.out.cell 2
    clear b3
    go_wp2
    exact bodyPost_ret (res_readWord rfl rfl rfl HFB.out.1) rfl ⟨rfl, HFB.out.2⟩
  · rw [if_neg h40]
    have z1 : decide ((40 : Int) < (n : Int)) = false := decide_eq_false (by omega)
    have z2 : decide (40 < n) = false := decide_eq_false h40
    have HFB := Lib.hid (put_after (a' := .int .i64 1) (b' := .string Y) (c' := .int .i64 (o : Int)) HW1.out HK.out HG.out (Below.refl _ _))
    have xf := HK.out.frozen
    have y0 : W1.cell? ⟨g, 0, none⟩ = some (.int .i64 0) := HK.out.cell 0
    have y1 : W1.cell? ⟨g, 1, none⟩ = some (.string ⟨#[]⟩) := HK.out.cell 1
    have y2 : W1.cell? ⟨g, 2, none⟩ = some (.int .i64 0) := HK.out.cell 2
    clear h40
    go_enter Tryz.func214, Tryz.ntmps214
    go_upto_region 1 with fail
    rw [HW.out, HG.out]
    clear HW
    go_wp2_with fail
    refine (HP.out _).mono ?_
    rintro e w2 ⟨rfl, hw2⟩
    obtain rfl := hw2.symm
    clear hw2 HP
    go_wp2
    exact bodyPost_ret (res_readWord rfl rfl rfl HFB.out.1) rfl (by show ReadP o _ w _ _; exact ⟨ret_read rfl HY.out.symm rfl (by have := HON.out; omega) rfl, HFB.out.2⟩)
set_option maxRecDepth 1000000 in
set_option maxHeartbeats 8000000 in
theorem readString_any (s : ByteArray) (o : Nat) (ho : o < s.size) (hs : s.size ≤ 10000000) (w : World) (E : Env w) :
    Calls Tryz.prog 215 #[.string s, .int .i64 o] w (ReadP o (quoR (s.data.toList.drop (o + 1))) w) := by
  have hsi : (s.size : Int) ≤ 10000000 := by omega
  have e1 : (o : Int) + 1 = ((o + 1 : Nat) : Int) := by omega
  have cf := cut_from s (show o + 1 ≤ s.size by omega) (show ((o : Int) + 1) = ((o + 1 : Nat) : Int) by omega)
  have hdl : (s.data.toList.drop (o + 1)).length = s.size - (o + 1) := by rw [List.length_drop, len_data]
  have HMID := Lib.hid (fun k (hk : o + 1 + k ≤ s.size) => cut_mid s (show o + 1 ≤ o + 1 + k by omega) hk (show ((o : Int) + 1) = ((o + 1 : Nat) : Int) by omega) (show ((o : Int) + 1 + (k : Int)) = ((o + 1 + k : Nat) : Int) by omega))
  have HEX := Lib.hid (fun k => ext_of s (o + 1) (o + 1 + k))
  rw [ext_end] at cf
  obtain ⟨l, hl⟩ : ∃ l, s.data.toList.drop (o + 1) = l := ⟨_, rfl⟩
  rw [hl] at cf hdl HEX ⊢
  have HLT := Lib.hid (fun k => @endF_lt 2 34 l.length l k (Nat.le_refl _))
  have HLN := Lib.hid hdl
  have HEND := Lib.hid (fun w => end_st 2 (ofL l) 34 w (by rw [ofL_size]; omega) (.inr (.inl rfl)))
  rw [show (ofL l).data.toList = l from rfl] at HEND
  obtain ⟨EN, hEN⟩ : ∃ o, endF 2 34 l = o := ⟨_, rfl⟩
  rw [hEN] at HEND HLT
  have HENE := Lib.hid hEN
  have HE1 := Lib.hid E
  obtain ⟨W1, hW1⟩ : ∃ W1, w.alloc (.cells #[.int .i64 0, .string ⟨#[]⟩, .int .i64 0] 84) = W1 := ⟨_, rfl⟩
  have HK : Hid (Blk w.heap.size 84 #[.int .i64 0, .string ⟨#[]⟩, .int .i64 0] W1) := Lib.hid (by rw [← hW1]; exact Blk.new _ _ _)
  have HW1 : Hid (Below w.heap.size w W1) := Lib.hid (by rw [← hW1]; exact (Below.refl _ _).alloc (Nat.le_refl _) _)
  have HW := Lib.hid hW1
  obtain ⟨g, hg⟩ : ∃ g, w.heap.size = g := ⟨_, rfl⟩
  have HG := Lib.hid hg
  rw [hg] at HK
  clear hW1 hg
  clear hl hdl hEN e1 E
  cases EN with
  | none =>
    have HR : Hid (quoR l = .bad 0 3) := Lib.hid (by unfold quoR; rw [HENE.out])
    go_enter Tryz.func215, Tryz.ntmps215
    go_upto_region 1 with fail
    rw [HW.out, HG.out]
    clear HW
    go_wp2_with fail
    refine (HEND.out _).mono ?_
    rintro e w2 ⟨rfl, hw2⟩
    obtain rfl := hw2.symm
    clear hw2
    go_wp2_with fail
    refine (failure_any _ _ _).mono ?_
    rintro e w9 ⟨rfl, b9⟩
    have HFB := Lib.hid (put_after (a' := .int .i64 0) (b' := .string ⟨#[]⟩) (c' := .int .i64 ((o : Int))) HW1.out HK.out HG.out b9)
    have KR := Lib.hid (Blk.below HK.out b9)
    have xf := KR.out.frozen
    have y0 : w9.cell? ⟨g, 0, none⟩ = some (.int .i64 0) := KR.out.cell 0
    have y1 : w9.cell? ⟨g, 1, none⟩ = some (.string ⟨#[]⟩) := KR.out.cell 1
    have y2 : w9.cell? ⟨g, 2, none⟩ = some (.int .i64 0) := KR.out.cell 2
    clear b9
    go_wp2
    exact bodyPost_ret (res_readString rfl rfl rfl HFB.out.1) rfl (by show ReadP o (quoR l) w _ _; rw [HR.out]; exact ⟨ret_read rfl rfl (by omega) rfl rfl, HFB.out.2⟩)
  | some k =>
    have hk : k < l.length := endF_lt l.length l k (Nat.le_refl _) HENE.out
    have hks : o + 1 + k ≤ s.size := by have := HLN.out; omega
    have cm := HMID.out k hks
    have hex := HEX.out k
    rw [show o + 1 + k - (o + 1) = k by omega] at hex
    rw [hex] at cm
    have hml : (l.take k).length ≤ 10000000 := by rw [List.length_take]; omega
    have HR0 : Hid (quoR l = if (un 2 (l.take k)).1 = false then .bad (1 + (un 2 (l.take k)).2.2) 3 else if 400 < (un 2 (l.take k)).2.1.length then .bad 0 6 else if vld (un 2 (l.take k)).2.1 = false then .bad 0 4 else .tok 2 (un 2 (l.take k)).2.1 (k + 2)) := Lib.hid (by unfold quoR; rw [HENE.out])
    have HUB := Lib.hid (un_le 2 (l.take k).length (l.take k) (Nat.le_refl _))
    obtain ⟨m, hm⟩ : ∃ m, l.take k = m := ⟨_, rfl⟩
    rw [hm] at cm hml HR0 HUB
    have HUN := Lib.hid (fun w E => unescape_st 2 (ofL m) w E (by rw [ofL_size]; omega) (.inr (.inl rfl)))
    rw [show (ofL m).data.toList = m from rfl] at HUN
    obtain ⟨U, hU⟩ : ∃ u, un 2 m = u := ⟨_, rfl⟩
    rw [hU] at HUN HR0 HUB
    obtain ⟨ub, ut, uk⟩ := U
    have hut : ut.length ≤ 40000000 := by have := HUB.out.1; dsimp only at this; omega
    have huk : uk ≤ 10000000 := by have := HUB.out.2; dsimp only at this; omega
    have HVA := Lib.hid (fun w => valid_any (ofL ut) w (by rw [ofL_size]; omega))
    rw [show (ofL ut).data.toList = ut from rfl] at HVA
    have huz : (ofL ut).size = ut.length := ofL_size ut
    have ez : ((endV 0 (some k) : Int)) = (k : Int) := by simp [endV]
    rw [ez] at HEND
    have z0 := HK.out.lt
    have HEW : Hid (Env W1) := Lib.hid (HE1.out.below HW1.out)
    have hki : (k : Int) ≤ 10000000 := by omega
    clear hU hm hex HMID HEX HLT HLN HENE hk HUB hml ez HE1
    go_enter Tryz.func215, Tryz.ntmps215
    go_upto_region 1 with fail
    rw [HW.out, HG.out]
    clear HW
    go_wp2_with fail
    refine (HEND.out _).mono ?_
    rintro e w2 ⟨rfl, hw2⟩
    obtain rfl := hw2.symm
    clear hw2
    go_wp2_with fail
    refine (HUN.out _ HEW.out).mono ?_
    rintro e w2 ⟨rfl, b2⟩
    have HB2 : Hid (Below w.heap.size w w2) := Lib.hid (HW1.out.trans (b2.mono HW1.out.size))
    have KR2 := Lib.hid (Blk.below HK.out b2)
    clear b2 HK HW1 HEW
    cases ub with
    | false =>
      have HR : Hid (quoR l = .bad (1 + uk) 3) := Lib.hid (by rw [HR0.out, if_pos rfl])
      clear HR0
      go_wp2_with fail
      refine (failure_any _ _ _).mono ?_
      rintro e w9 ⟨rfl, b9⟩
      have HFB := Lib.hid (put_after (a' := .int .i64 0) (b' := .string ⟨#[]⟩) (c' := .int .i64 ((o : Int) + 1 + (uk : Int))) HB2.out KR2.out HG.out b9)
      have KR := Lib.hid (Blk.below KR2.out b9)
      have xf := KR.out.frozen
      have y0 : w9.cell? ⟨g, 0, none⟩ = some (.int .i64 0) := KR.out.cell 0
      have y1 : w9.cell? ⟨g, 1, none⟩ = some (.string ⟨#[]⟩) := KR.out.cell 1
      have y2 : w9.cell? ⟨g, 2, none⟩ = some (.int .i64 0) := KR.out.cell 2
      clear b9
      go_wp2
      exact bodyPost_ret (res_readString rfl rfl rfl HFB.out.1) rfl (by show ReadP o (quoR l) w _ _; rw [HR.out]; exact ⟨ret_read rfl rfl (by omega) rfl rfl, HFB.out.2⟩)
    | true =>
      have HR1 : Hid (quoR l = if 400 < ut.length then .bad 0 6 else if vld ut = false then .bad 0 4 else .tok 2 ut (k + 2)) := Lib.hid (by rw [HR0.out, if_neg (by decide)])
      clear HR0
      by_cases h400 : 400 < ut.length
      · have HR : Hid (quoR l = .bad 0 6) := Lib.hid (by rw [HR1.out, if_pos h400])
        have z1 : decide ((400 : Int) < (ut.length : Int)) = true := decide_eq_true (by omega)
        have z2 : decide (400 < ut.length) = true := decide_eq_true (by omega)
        clear HR1 h400 huz
        go_wp2_with fail
        refine (failure_any _ _ _).mono ?_
        rintro e w9 ⟨rfl, b9⟩
        have HFB := Lib.hid (put_after (a' := .int .i64 0) (b' := .string ⟨#[]⟩) (c' := .int .i64 ((o : Int))) HB2.out KR2.out HG.out b9)
        have KR := Lib.hid (Blk.below KR2.out b9)
        have xf := KR.out.frozen
        have y0 : w9.cell? ⟨g, 0, none⟩ = some (.int .i64 0) := KR.out.cell 0
        have y1 : w9.cell? ⟨g, 1, none⟩ = some (.string ⟨#[]⟩) := KR.out.cell 1
        have y2 : w9.cell? ⟨g, 2, none⟩ = some (.int .i64 0) := KR.out.cell 2
        clear b9
        go_wp2
        exact bodyPost_ret (res_readString rfl rfl rfl HFB.out.1) rfl (by show ReadP o (quoR l) w _ _; rw [HR.out]; exact ⟨ret_read rfl rfl (by omega) rfl rfl, HFB.out.2⟩)
      · have z1 : decide ((400 : Int) < (ut.length : Int)) = false := decide_eq_false (by omega)
        have z2 : decide (400 < ut.length) = false := decide_eq_false (by omega)
        have HR2 : Hid (quoR l = if vld ut = false then .bad 0 4 else .tok 2 ut (k + 2)) := Lib.hid (by rw [HR1.out, if_neg h400])
        clear HR1 h400 huz
        obtain ⟨vb, hvb⟩ : ∃ b, vld ut = b := ⟨_, rfl⟩
        rw [hvb] at HVA HR2
        clear hvb
        go_wp2_with fail
        refine (HVA.out _).mono ?_
        rintro e w3 ⟨rfl, b3⟩
        have KR3 := Lib.hid (Blk.below KR2.out b3)
        have HB3 : Hid (Below w.heap.size w w3) := Lib.hid (HB2.out.trans (b3.mono HB2.out.size))
        clear b3 KR2 HB2
        cases vb with
        | false =>
          have HR : Hid (quoR l = .bad 0 4) := Lib.hid (by rw [HR2.out, if_pos rfl])
          clear HR2
          go_wp2_with fail
          refine (failure_any _ _ _).mono ?_
          rintro e w9 ⟨rfl, b9⟩
          have HFB := Lib.hid (put_after (a' := .int .i64 0) (b' := .string ⟨#[]⟩) (c' := .int .i64 ((o : Int))) HB3.out KR3.out HG.out b9)
          have KR := Lib.hid (Blk.below KR3.out b9)
          have xf := KR.out.frozen
          have y0 : w9.cell? ⟨g, 0, none⟩ = some (.int .i64 0) := KR.out.cell 0
          have y1 : w9.cell? ⟨g, 1, none⟩ = some (.string ⟨#[]⟩) := KR.out.cell 1
          have y2 : w9.cell? ⟨g, 2, none⟩ = some (.int .i64 0) := KR.out.cell 2
          clear b9
          go_wp2
          exact bodyPost_ret (res_readString rfl rfl rfl HFB.out.1) rfl (by show ReadP o (quoR l) w _ _; rw [HR.out]; exact ⟨ret_read rfl rfl (by omega) rfl rfl, HFB.out.2⟩)
        | true =>
          have HR : Hid (quoR l = .tok 2 ut (k + 2)) := Lib.hid (by rw [HR2.out, if_neg (by decide)])
          have xf := KR3.out.frozen
          have y0 : w3.cell? ⟨g, 0, none⟩ = some (.int .i64 0) := KR3.out.cell 0
          have y1 : w3.cell? ⟨g, 1, none⟩ = some (.string ⟨#[]⟩) := KR3.out.cell 1
          have y2 : w3.cell? ⟨g, 2, none⟩ = some (.int .i64 0) := KR3.out.cell 2
          have HFB := Lib.hid (put_after (a' := .int .i64 2) (b' := .string (ofL ut)) (c' := .int .i64 (o : Int)) HB3.out KR3.out HG.out (Below.refl _ _))
          clear HR2
          go_wp2
          exact bodyPost_ret (res_readString rfl rfl rfl HFB.out.1) rfl (by show ReadP o (quoR l) w _ _; rw [HR.out]; exact ⟨ret_read rfl rfl rfl (by omega) rfl, HFB.out.2⟩)
set_option maxRecDepth 1000000 in
set_option maxHeartbeats 8000000 in
theorem readP_any (s : ByteArray) (o : Nat) (ho : o < s.size) (hs : s.size ≤ 10000000) (w : World) (E : Env w) :
    Calls Tryz.prog 157 #[.string s, .int .i64 o] w (ReadP o (oneR (s.data.toList.drop o)) w) := by
  have hsi : (s.size : Int) ≤ 10000000 := by omega
  have hoi : (o : Int) < (s.size : Int) := by omega
  have HD := data_drop ho
  have HRW := Lib.hid (fun w => readWord_any s o (by omega) hs w)
  have HRS := Lib.hid (fun w E => readString_any s o ho hs w E)
  have HO1 := Lib.hid (fun w => oneOf_part (s[o]'ho) w)
  have HO2 := Lib.hid (fun w => oneOf_mk (s[o]'ho) w)
  have cm := cut_mid s (show o ≤ o + 1 by omega) (show o + 1 ≤ s.size by omega) (show (o : Int) = ((o : Nat) : Int) from rfl) (show ((o : Int) + 1) = ((o + 1 : Nat) : Int) by omega)
  have hex := ext_of s o (o + 1)
  rw [show o + 1 - o = 1 by omega, HD] at hex
  rw [hex, show ((s[o]'ho) :: s.data.toList.drop (o + 1)).take 1 = [s[o]'ho] from rfl] at cm
  have HON : Hid (oneR (s.data.toList.drop o) = if isPart (s[o]'ho) = true then (if 40 < wordN (s.data.toList.drop o) then .bad 0 6 else .tok 1 ((s.data.toList.drop o).take (wordN (s.data.toList.drop o))) (wordN (s.data.toList.drop o))) else if (s[o]'ho).toNat = 34 then quoR (s.data.toList.drop (o + 1)) else if isMk (s[o]'ho) = true then .tok 3 [s[o]'ho] 1 else .bad 0 3) := Lib.hid (by
    rw [HD, oneR_cons]
    by_cases hp : isPart (s[o]'ho) = true
    · rw [if_pos hp]
      have h0 : 0 < wordN ((s[o]'ho) :: s.data.toList.drop (o + 1)) := by rw [wordN, if_pos hp]; omega
      rw [if_pos h0]
    · rw [if_neg hp]
      have h0 : wordN ((s[o]'ho) :: s.data.toList.drop (o + 1)) = 0 := by rw [wordN, if_neg hp]
      rw [h0, if_neg (by omega), if_neg (by omega)])
  obtain ⟨R0, hR0⟩ : ∃ R, (if 40 < wordN (s.data.toList.drop o) then TRes.bad 0 6 else .tok 1 ((s.data.toList.drop o).take (wordN (s.data.toList.drop o))) (wordN (s.data.toList.drop o))) = R := ⟨_, rfl⟩
  rw [hR0] at HON HRW
  obtain ⟨Q, hQ⟩ : ∃ R, quoR (s.data.toList.drop (o + 1)) = R := ⟨_, rfl⟩
  rw [hQ] at HON HRS
  obtain ⟨R, hR⟩ : ∃ R, oneR (s.data.toList.drop o) = R := ⟨_, rfl⟩
  rw [hR] at HON ⊢
  obtain ⟨pb, hpb⟩ : ∃ b, isPart (s[o]'ho) = b := ⟨_, rfl⟩
  rw [hpb] at HON HO1
  obtain ⟨mb, hmb⟩ : ∃ b, isMk (s[o]'ho) = b := ⟨_, rfl⟩
  rw [hmb] at HON HO2
  have HE1 := Lib.hid E
  obtain ⟨W1, hW1⟩ : ∃ W1, w.alloc (.cells #[.int .i64 0, .string ⟨#[]⟩, .int .i64 0] 84) = W1 := ⟨_, rfl⟩
  have HK : Hid (Blk w.heap.size 84 #[.int .i64 0, .string ⟨#[]⟩, .int .i64 0] W1) := Lib.hid (by rw [← hW1]; exact Blk.new _ _ _)
  have HW1 : Hid (Below w.heap.size w W1) := Lib.hid (by rw [← hW1]; exact (Below.refl _ _).alloc (Nat.le_refl _) _)
  have HW := Lib.hid hW1
  obtain ⟨g, hg⟩ : ∃ g, w.heap.size = g := ⟨_, rfl⟩
  have HG := Lib.hid hg
  rw [hg] at HK
  clear hW1 hg
  have HEW : Hid (Env W1) := Lib.hid (HE1.out.below HW1.out)
  clear HD hex hR0 hQ hR hpb hmb E HE1
  cases pb with
  | true =>
    have HRR : R = R0 := by rw [HON.out, if_pos rfl]
    rw [← HRR] at HRW
    clear HRR HON HRS HO2
    go_enter Tryz.func157, Tryz.ntmps157
    go_upto_region 1 with fail
    rw [HW.out, HG.out]
    clear HW
    go_wp2_with fail
    refine (HO1.out _).mono ?_
    rintro e w2 ⟨rfl, hw2⟩
    obtain rfl := hw2.symm
    clear hw2
    go_wp2_with fail
    refine (HRW.out _).mono ?_
    rintro e w9 ⟨h9, b9⟩
    have KR := Lib.hid (Blk.below HK.out b9)
    have xf := KR.out.frozen
    have y0 : w9.cell? ⟨g, 0, none⟩ = some (.int .i64 0) := KR.out.cell 0
    have y1 : w9.cell? ⟨g, 1, none⟩ = some (.string ⟨#[]⟩) := KR.out.cell 1
    have y2 : w9.cell? ⟨g, 2, none⟩ = some (.int .i64 0) := KR.out.cell 2
    cases R with
    | bad d er =>
      dsimp only at h9
      subst h9
      have HFB := Lib.hid (put_after (a' := .int .i64 0) (b' := .string ⟨#[]⟩) (c' := .int .i64 ((o + d : Nat) : Int)) HW1.out HK.out HG.out b9)
      obtain ⟨od, hod⟩ : ∃ x, o + d = x := ⟨_, rfl⟩
      rw [hod] at HFB ⊢
      have HOD := Lib.hid hod
      clear b9 hod
      go_wp2
      exact bodyPost_ret (res_read rfl rfl rfl HFB.out.1) rfl (by show ReadP o (.bad d er) w _ _; exact ⟨ret_read rfl rfl (by have := HOD.out; omega) rfl rfl, HFB.out.2⟩)
    | tok kd tx n =>
      dsimp only at h9
      subst h9
      have HFB := Lib.hid (put_after (a' := .int .i64 (kd : Int)) (b' := .string (ofL tx)) (c' := .int .i64 (o : Int)) HW1.out HK.out HG.out b9)
      obtain ⟨od, hod⟩ : ∃ x, o + n = x := ⟨_, rfl⟩
      rw [hod]
      have HOD := Lib.hid hod
      obtain ⟨Y, hY⟩ : ∃ Y, ofL tx = Y := ⟨_, rfl⟩
      rw [hY] at HFB ⊢
      have HY := Lib.hid hY
      clear b9 hod hY
      go_wp2
      exact bodyPost_ret (res_read rfl rfl rfl HFB.out.1) rfl (by show ReadP o (.tok kd tx n) w _ _; exact ⟨ret_read rfl HY.out.symm rfl (by have := HOD.out; omega) rfl, HFB.out.2⟩)
  | false =>
    by_cases h34 : (s[o]'ho).toNat = 34
    · have HRR : R = Q := by rw [HON.out, if_neg (by decide), if_pos h34]
      rw [← HRR] at HRS
      have z1 : ((((s[o]'ho).toNat : Nat) : Int) == 34) = true := by rw [beq_iff_eq]; omega
      clear HRR HON HRW HO2 h34
      go_enter Tryz.func157, Tryz.ntmps157
      go_upto_region 1 with fail
      rw [HW.out, HG.out]
      clear HW
      go_wp2_with fail
      refine (HO1.out _).mono ?_
      rintro e w2 ⟨rfl, hw2⟩
      obtain rfl := hw2.symm
      clear hw2
      go_wp2_with fail
      refine (HRS.out _ HEW.out).mono ?_
      rintro e w9 ⟨h9, b9⟩
      have KR := Lib.hid (Blk.below HK.out b9)
      have xf := KR.out.frozen
      have y0 : w9.cell? ⟨g, 0, none⟩ = some (.int .i64 0) := KR.out.cell 0
      have y1 : w9.cell? ⟨g, 1, none⟩ = some (.string ⟨#[]⟩) := KR.out.cell 1
      have y2 : w9.cell? ⟨g, 2, none⟩ = some (.int .i64 0) := KR.out.cell 2
      cases R with
      | bad d er =>
        dsimp only at h9
        subst h9
        have HFB := Lib.hid (put_after (a' := .int .i64 0) (b' := .string ⟨#[]⟩) (c' := .int .i64 ((o + d : Nat) : Int)) HW1.out HK.out HG.out b9)
        obtain ⟨od, hod⟩ : ∃ x, o + d = x := ⟨_, rfl⟩
        rw [hod] at HFB ⊢
        have HOD := Lib.hid hod
        clear b9 hod
        go_wp2
        exact bodyPost_ret (res_read rfl rfl rfl HFB.out.1) rfl (by show ReadP o (.bad d er) w _ _; exact ⟨ret_read rfl rfl (by have := HOD.out; omega) rfl rfl, HFB.out.2⟩)
      | tok kd tx n =>
        dsimp only at h9
        subst h9
        have HFB := Lib.hid (put_after (a' := .int .i64 (kd : Int)) (b' := .string (ofL tx)) (c' := .int .i64 (o : Int)) HW1.out HK.out HG.out b9)
        obtain ⟨od, hod⟩ : ∃ x, o + n = x := ⟨_, rfl⟩
        rw [hod]
        have HOD := Lib.hid hod
        obtain ⟨Y, hY⟩ : ∃ Y, ofL tx = Y := ⟨_, rfl⟩
        rw [hY] at HFB ⊢
        have HY := Lib.hid hY
        clear b9 hod hY
        go_wp2
        exact bodyPost_ret (res_read rfl rfl rfl HFB.out.1) rfl (by show ReadP o (.tok kd tx n) w _ _; exact ⟨ret_read rfl HY.out.symm rfl (by have := HOD.out; omega) rfl, HFB.out.2⟩)
    · have z1 : ((((s[o]'ho).toNat : Nat) : Int) == 34) = false := by rw [beq_eq_false_iff_ne]; omega
      cases mb with
      | true =>
        have HR : Hid (R = .tok 3 [s[o]'ho] 1) := Lib.hid (by rw [HON.out, if_neg (by decide), if_neg h34, if_pos rfl])
        clear HON HRW HRS h34
        obtain ⟨Y, hY⟩ : ∃ Y, ofL [s[o]'ho] = Y := ⟨_, rfl⟩
        rw [hY] at cm
        have HY := Lib.hid hY
        clear hY
        have KR := HK
        have xf := KR.out.frozen
        have y0 : W1.cell? ⟨g, 0, none⟩ = some (.int .i64 0) := KR.out.cell 0
        have y1 : W1.cell? ⟨g, 1, none⟩ = some (.string ⟨#[]⟩) := KR.out.cell 1
        have y2 : W1.cell? ⟨g, 2, none⟩ = some (.int .i64 0) := KR.out.cell 2
        have HFB := Lib.hid (put_after (a' := .int .i64 3) (b' := .string Y) (c' := .int .i64 (o : Int)) HW1.out HK.out HG.out (Below.refl _ _))
        go_enter Tryz.func157, Tryz.ntmps157
        go_upto_region 1 with fail
        rw [HW.out, HG.out]
        clear HW
        go_wp2_with fail
        refine (HO1.out _).mono ?_
        rintro e w2 ⟨rfl, hw2⟩
        obtain rfl := hw2.symm
        clear hw2
        go_wp2_with fail
        refine (HO2.out _).mono ?_
        rintro e w2 ⟨rfl, hw2⟩
        obtain rfl := hw2.symm
        clear hw2
        go_wp2
        exact bodyPost_ret (res_read rfl rfl rfl HFB.out.1) rfl (by show ReadP o R w _ _; rw [HR.out]; exact ⟨ret_read rfl HY.out.symm rfl (by omega) rfl, HFB.out.2⟩)
      | false =>
        have HR : Hid (R = .bad 0 3) := Lib.hid (by rw [HON.out, if_neg (by decide), if_neg h34, if_neg (by decide)])
        clear HON HRW HRS h34 cm
        go_enter Tryz.func157, Tryz.ntmps157
        go_upto_region 1 with fail
        rw [HW.out, HG.out]
        clear HW
        go_wp2_with fail
        refine (HO1.out _).mono ?_
        rintro e w2 ⟨rfl, hw2⟩
        obtain rfl := hw2.symm
        clear hw2
        go_wp2_with fail
        refine (HO2.out _).mono ?_
        rintro e w2 ⟨rfl, hw2⟩
        obtain rfl := hw2.symm
        clear hw2
        go_wp2_with fail
        refine (failure_any _ _ _).mono ?_
        rintro e w9 ⟨rfl, b9⟩
        have HFB := Lib.hid (put_after (a' := .int .i64 0) (b' := .string ⟨#[]⟩) (c' := .int .i64 ((o : Int))) HW1.out HK.out HG.out b9)
        have KR := Lib.hid (Blk.below HK.out b9)
        have xf := KR.out.frozen
        have y0 : w9.cell? ⟨g, 0, none⟩ = some (.int .i64 0) := KR.out.cell 0
        have y1 : w9.cell? ⟨g, 1, none⟩ = some (.string ⟨#[]⟩) := KR.out.cell 1
        have y2 : w9.cell? ⟨g, 2, none⟩ = some (.int .i64 0) := KR.out.cell 2
        clear b9
        go_wp2
        exact bodyPost_ret (res_read rfl rfl rfl HFB.out.1) rfl (by show ReadP o R w _ _; rw [HR.out]; exact ⟨ret_read rfl rfl (by omega) rfl rfl, HFB.out.2⟩)
end Go.Proofs.YtpmmchppfmojhaaGreatDoor


/- Of the program of layer 11: Number. -/
namespace Go.Proofs.YtpmmchppfmojhaaGreatDoor
open Go.RowKit
set_option linter.unusedVariables false

theorem runN_all (p : UInt8 → Bool) : ∀ l : List UInt8, (runN p l = l.length) = (l.all p = true)
  | [] => by simp [runN]
  | c :: l => by
    have ih := runN_all p l
    rw [runN, List.all_cons, List.length_cons]
    by_cases h : p c = true
    · rw [if_pos h, h, Bool.true_and, ← ih]
      exact propext ⟨fun e => by omega, fun e => by omega⟩
    · rw [if_neg h, Bool.eq_false_iff.2 h, Bool.false_and]
      exact propext ⟨fun e => by omega, fun e => by cases e⟩
theorem parse_ok : ∀ (l : List UInt8) (acc k : Nat), l.all digB = true → acc + 1 ≤ 10 ^ k → k + l.length ≤ 12 → Lib.parseUint10 acc l = .ok (valN acc l) ∧ valN acc l + 1 ≤ 10 ^ (k + l.length)
  | [], acc, k, _, h, _ => ⟨rfl, h⟩
  | c :: l, acc, k, ha, h, hk => by
    rw [List.all_cons, Bool.and_eq_true] at ha
    obtain ⟨hc, hl⟩ := ha
    unfold digB at hc
    simp only [Bool.and_eq_true, decide_eq_true_eq] at hc
    rw [List.length_cons] at hk
    have hp : 10 ^ k ≤ 10 ^ 12 := Nat.pow_le_pow_right (by omega) (by omega)
    have hp12 : (10 : Nat) ^ 12 = 1000000000000 := by decide
    have hs : (10 : Nat) ^ (k + 1) = 10 * 10 ^ k := by rw [Nat.pow_succ, Nat.mul_comm]
    have e1 : acc * 10 + (c.toNat - 48) = 10 * acc + (c.toNat - 48) := by omega
    have ih := parse_ok l (10 * acc + (c.toNat - 48)) (k + 1) hl (by omega) (by omega)
    rw [Lib.parseUint10, if_pos hc, if_neg (by omega), if_neg (by omega), e1, List.length_cons, show k + (l.length + 1) = k + 1 + l.length by omega]
    exact ih
theorem atoi_ok {l : List UInt8} (h : l.all digB = true) (h0 : l ≠ []) (h6 : l.length ≤ 6) : Lib.atoiAll l = .ok (valN 0 l : Int) := by
  obtain ⟨h1, h2⟩ := parse_ok l 0 0 h (by decide) (by omega)
  have hp : (10 : Nat) ^ (0 + l.length) ≤ 10 ^ 12 := Nat.pow_le_pow_right (by omega) (by omega)
  have hp12 : (10 : Nat) ^ 12 = 1000000000000 := by decide
  cases l with
  | nil => exact absurd rfl h0
  | cons c r =>
    have hc : digB c = true := by rw [List.all_cons, Bool.and_eq_true] at h; exact h.1
    unfold digB at hc
    simp only [Bool.and_eq_true, decide_eq_true_eq] at hc
    rw [Lib.atoiAll_plain c r (by omega) (by omega)]
    have hm : Lib.parseMag (c :: r) = .ok (valN 0 (c :: r)) := by
      unfold Lib.parseMag
      rw [if_neg (by simp)]
      exact h1
    rw [hm]
    unfold Lib.signless
    dsimp only
    rw [if_neg (by omega)]
theorem dig_eq : isDgt = digB := rfl
theorem atoiP_any (s : ByteArray) (h : s.data.toList.all digB = true) (h0 : s.size ≠ 0) (h6 : s.size ≤ 6) (w : World) :
    Calls Tryz.prog 308 #[.string s] w fun e w' => e = .returned (.tuple #[.int .i64 (valN 0 s.data.toList : Nat), .nilIface]) ∧ Below w.heap.size w w' := by
  refine (Tryz.strconv_Atoi_ok s (by omega) _ (atoi_ok h (fun e => h0 (by rw [← len_data, e]; rfl)) (by rw [len_data]; exact h6)) w).mono ?_
  rintro e w' ⟨h1, h2⟩
  refine ⟨h1, ?_⟩
  rcases h2 with rfl | ⟨t, rfl⟩
  · exact Below.refl _ _
  · exact Lib.bytesWorld_below _ _ _
set_option maxRecDepth 1000000 in
set_option maxHeartbeats 8000000 in
theorem numberP_any (s : ByteArray) (w : World) (hs : s.size ≤ 10000000) :
    Calls Tryz.prog 265 #[.string s] w fun e w' => e = .returned (.tuple #[.int .i64 ((numR s.data.toList).1 : Int), .bool (numR s.data.toList).2]) ∧ Below w.heap.size w w' := by
  have hsi : (s.size : Int) ≤ 10000000 := by omega
  have HN : Hid (numR s.data.toList = if s.size < 1 ∨ 6 < s.size ∨ (1 < s.size ∧ s.data.toList.head? = some 48) then (0, false) else numE 0 s.data.toList) := Lib.hid (by unfold numR; rw [len_data])
  obtain ⟨N, hN⟩ : ∃ N, numR s.data.toList = N := ⟨_, rfl⟩
  rw [hN] at HN ⊢
  clear hN
  by_cases h0 : s.size = 0
  · have e0 : s.data.toList = [] := List.eq_nil_of_length_eq_zero (by rw [len_data]; exact h0)
    have HF : Hid (N = (0, false)) := Lib.hid (by rw [HN.out, if_pos (.inl (by omega))])
    have e1 : s.toList = [] := by rw [ByteArray.toList_eq]; exact e0
    have z1 : (s.toList == ([] : List UInt8)) = true := by rw [e1]; rfl
    have z2 : s.toList.isEmpty = true := by rw [e1]; rfl
    clear h0 e0 e1 HN
    go_enter Tryz.func265, Tryz.ntmps265
    go_wp2
    go_ret2
    rw [HF.out]
    exact ⟨rfl, Below.refl _ _⟩
  have e0 : s.data.toList ≠ [] := fun e => h0 (by rw [← len_data, e]; rfl)
  have z1 : (s.toList == ([] : List UInt8)) = false := by rw [beq_eq_false_iff_ne, ByteArray.toList_eq]; exact e0
  have z2 : s.toList.isEmpty = false := by rw [ByteArray.toList_eq]; cases h : s.data.toList with | nil => exact absurd h e0 | cons _ _ => rfl
  by_cases h6 : 6 < s.size
  · have HF : Hid (N = (0, false)) := Lib.hid (by rw [HN.out, if_pos (.inr (.inl h6))])
    have z3 : decide ((6 : Int) < (s.size : Int)) = true := decide_eq_true (by omega)
    have z4 : decide (6 < s.size) = true := decide_eq_true h6
    clear h0 h6 e0 HN
    go_enter Tryz.func265, Tryz.ntmps265
    go_wp2
    go_ret2
    rw [HF.out]
    exact ⟨rfl, Below.refl _ _⟩
  have z3 : decide ((6 : Int) < (s.size : Int)) = false := decide_eq_false (by omega)
  have z4 : decide (6 < s.size) = false := decide_eq_false h6
  have hp : 0 < s.size := by omega
  have hpi : (0 : Int) < (s.size : Int) := by omega
  have hhd := head_data hp
  have HP := Lib.hid (fun w => show Calls Tryz.prog 140 #[.string s, .int .i64 0, .string ⟨#[48, 49, 50, 51, 52, 53, 54, 55, 56, 57]⟩] w _ from pass_any digitsL isDgt run_digit s 0 (Nat.zero_le _) (by omega) w)
  rw [List.drop_zero, Nat.zero_add] at HP
  have hra := runN_all isDgt s.data.toList
  rw [len_data, dig_eq] at hra
  have hrl := runN_le isDgt s.data.toList
  rw [len_data] at hrl
  by_cases hall : s.data.toList.all digB = true
  case neg =>
    have hlt : runN isDgt s.data.toList < s.size := by
      rcases Nat.lt_or_ge (runN isDgt s.data.toList) s.size with h | h
      · exact h
      · exact absurd (by rw [← hra]; rw [dig_eq] at h hrl; omega) hall
    have HF : Hid (N = (0, false)) := Lib.hid (by
      rw [HN.out]
      split
      · rfl
      · unfold numE; rw [if_neg hall])
    obtain ⟨n, hn⟩ : ∃ n, runN isDgt s.data.toList = n := ⟨_, rfl⟩
    rw [hn] at HP hlt
    have z5 : (n : Int) < (s.size : Int) := by omega
    clear h0 h6 e0 HN hra hrl hall hn hhd
    go_enter Tryz.func265, Tryz.ntmps265
    go_wp2_with fail
    refine (HP.out _).mono ?_
    rintro e w2 ⟨rfl, hw2⟩
    obtain rfl := hw2.symm
    clear hw2
    go_wp2
    go_ret2
    rw [HF.out]
    exact ⟨rfl, Below.refl _ _⟩
  have hrs : runN isDgt s.data.toList = s.size := by rw [dig_eq, hra]; exact hall
  rw [hrs] at HP
  have z5 : ¬ (s.size : Int) < (s.size : Int) := by omega
  have HAT := Lib.hid (atoiP_any s hall h0 (by omega))
  by_cases hc : (s[0]'hp).toNat = 48
  · have y1 : ((((s[0]'hp).toNat : Nat) : Int) == 48) = true := by rw [beq_iff_eq]; omega
    by_cases hs1 : s.size = 1
    · have e1 : s.data.toList = [48] := by
        have e := data_drop (s := s) (k := 0) hp
        rw [List.drop_zero, data_end (by omega)] at e
        rw [e, u8_48.2 hc]
      have z6 : (s.toList == ([48] : List UInt8)) = true := by rw [ByteArray.toList_eq, e1]; rfl
      have z7 : (s.toList != ([48] : List UInt8)) = false := by rw [bne, z6]; rfl
      have HF : Hid (N = (valN 0 s.data.toList, true)) := Lib.hid (by rw [HN.out, if_neg (by rintro (h | h | ⟨h, _⟩) <;> omega)]; unfold numE; rw [if_pos hall])
      obtain ⟨V, hV⟩ : ∃ V, valN 0 s.data.toList = V := ⟨_, rfl⟩
      rw [hV] at HF HAT
      clear h0 h6 e0 HN hra hrl hall hhd hrs hc hs1 e1 hV
      go_enter Tryz.func265, Tryz.ntmps265
      go_wp2_with fail
      refine (HP.out _).mono ?_
      rintro e w2 ⟨rfl, hw2⟩
      obtain rfl := hw2.symm
      clear hw2
      go_wp2_with fail
      refine (HAT.out _).mono ?_
      rintro e w2 ⟨rfl, b2⟩
      have HB2 := Lib.hid b2
      clear b2
      go_wp2_with fail
      go_quiet (fail)
      go_wp2
      go_ret2
      rw [HF.out]
      exact ⟨rfl, below_drewN HB2.out _⟩
    · have hne : s.data.toList ≠ [48] := fun e => hs1 (by rw [← len_data, e]; rfl)
      have z6 : (s.toList == ([48] : List UInt8)) = false := by rw [beq_eq_false_iff_ne, ByteArray.toList_eq]; exact hne
      have z7 : (s.toList != ([48] : List UInt8)) = true := by rw [bne, z6]; rfl
      have HF : Hid (N = (0, false)) := Lib.hid (by rw [HN.out, if_pos (.inr (.inr ⟨by omega, by rw [hhd, u8_48.2 hc]⟩))])
      clear h0 h6 e0 HN hra hrl hall hhd hrs hc hs1 hne
      go_enter Tryz.func265, Tryz.ntmps265
      go_wp2_with fail
      refine (HP.out _).mono ?_
      rintro e w2 ⟨rfl, hw2⟩
      obtain rfl := hw2.symm
      clear hw2
      go_wp2
      go_ret2
      rw [HF.out]
      exact ⟨rfl, Below.refl _ _⟩
  · have y1 : ((((s[0]'hp).toNat : Nat) : Int) == 48) = false := by rw [beq_eq_false_iff_ne]; omega
    have HF : Hid (N = (valN 0 s.data.toList, true)) := Lib.hid (by
      rw [HN.out, if_neg (by
        rintro (h | h | ⟨_, h⟩)
        · omega
        · omega
        · rw [hhd] at h
          injection h with h
          exact hc (u8_48.1 h))]
      unfold numE
      rw [if_pos hall])
    obtain ⟨V, hV⟩ : ∃ V, valN 0 s.data.toList = V := ⟨_, rfl⟩
    rw [hV] at HF HAT
    clear h0 h6 e0 HN hra hrl hall hhd hrs hc hV
    go_enter Tryz.func265, Tryz.ntmps265
    go_wp2_with fail
    refine (HP.out _).mono ?_
    rintro e w2 ⟨rfl, hw2⟩
    obtain rfl := hw2.symm
    clear hw2
    go_wp2_with fail
    refine (HAT.out _).mono ?_
    rintro e w2 ⟨rfl, b2⟩
    have HB2 := Lib.hid b2
    clear b2
    go_wp2_with fail
    go_quiet (fail)
    go_wp2
    go_ret2
    rw [HF.out]
    exact ⟨rfl, below_drewN HB2.out _⟩
end Go.Proofs.YtpmmchppfmojhaaGreatDoor


/- Of the program's table parser: word, text, mark, choice, number, condition. -/
namespace Go.Proofs.YtpmmchppfmojhaaGreatDoor
open Go.RowKit
set_option linter.unusedVariables false

theorem PLn.step {g B0 : Nat} {m m1 : PMem} {q : Bool × List KT} {w w1 w' : World} (hs : sameM m m1) (hb : But g w w1) (h : PLn g B0 m1 q w1 w') : PLn g B0 m q w w' := by
  obtain ⟨m2, h1, h2, h3⟩ := h
  exact ⟨m2, hs.trans h1, h2, hb.trans h3⟩
theorem exp_ne {kd : Nat} {q : Bool × List KT} (hk : kd ≠ 0) (h : (expS kd q).1 = true) : q.2 ≠ [] := fun e => by
  unfold expS reqS at h
  rw [e] at h
  simp [hdK] at h
  exact hk h.2.symm
theorem req_ne {b : Bool} {q : Bool × List KT} (h : (reqS b q).1 = true) : q.1 = true := by
  unfold reqS at h
  simp at h
  exact h.1
set_option maxRecDepth 1000000 in
set_option maxHeartbeats 2000000 in
theorem word_z (g B0 : Nat) (m : PMem) (ok : Bool) (ts : List KT) (w : World) (h : PL g B0 m ok ts w) :
    Calls Tryz.prog 217 #[.pointer (some ⟨g, 0, none⟩)] w fun e w' => e = .returned (.string (ofL (hdK ts).2)) ∧ PLn g B0 m (rdS 1 (ok, ts)) w w' := by
  have H := Lib.hid h
  have HR : Hid (rdS 1 (ok, ts) = nxS (expS 1 (ok, ts))) := Lib.hid rfl
  have HN := Lib.hid (fun h => exp_ne (kd := 1) (q := (ok, ts)) (by decide) h)
  rw [HR.out]
  clear h HR
  go_enter Tryz.func217, Tryz.ntmps217
  go_wp2_with fail
  refine (expect_z g B0 m ok ts 1 _ H.out).mono ?_
  rintro e w2 ⟨rfl, m', hs, p2, b2⟩
  have P2 := Lib.hid p2
  have B2 := Lib.hid b2
  have HS := Lib.hid hs
  clear p2 b2 hs
  go_wp2_with fail
  refine (next_z g B0 m' _ _ HN.out _ P2.out).mono ?_
  rintro e w3 ⟨rfl, p3⟩
  have P3 := Lib.hid (PLn.step HS.out B2.out p3)
  clear p3
  go_wp2
  go_ret
  exact ⟨rfl, P3.out⟩
set_option maxRecDepth 1000000 in
set_option maxHeartbeats 2000000 in
theorem text_z (g B0 : Nat) (m : PMem) (ok : Bool) (ts : List KT) (w : World) (h : PL g B0 m ok ts w) :
    Calls Tryz.prog 303 #[.pointer (some ⟨g, 0, none⟩)] w fun e w' => e = .returned (.string (ofL (hdK ts).2)) ∧ PLn g B0 m (rdS 2 (ok, ts)) w w' := by
  have H := Lib.hid h
  have HR : Hid (rdS 2 (ok, ts) = nxS (expS 2 (ok, ts))) := Lib.hid rfl
  have HN := Lib.hid (fun h => exp_ne (kd := 2) (q := (ok, ts)) (by decide) h)
  rw [HR.out]
  clear h HR
  go_enter Tryz.func303, Tryz.ntmps303
  go_wp2_with fail
  refine (expect_z g B0 m ok ts 2 _ H.out).mono ?_
  rintro e w2 ⟨rfl, m', hs, p2, b2⟩
  have P2 := Lib.hid p2
  have B2 := Lib.hid b2
  have HS := Lib.hid hs
  clear p2 b2 hs
  go_wp2_with fail
  refine (next_z g B0 m' _ _ HN.out _ P2.out).mono ?_
  rintro e w3 ⟨rfl, p3⟩
  have P3 := Lib.hid (PLn.step HS.out B2.out p3)
  clear p3
  go_wp2
  go_ret
  exact ⟨rfl, P3.out⟩
set_option maxRecDepth 1000000 in
set_option maxHeartbeats 2000000 in
theorem mark_z (g B0 : Nat) (m : PMem) (ok : Bool) (ts : List KT) (t : ByteArray) (w : World) (h : PL g B0 m ok ts w) :
    Calls Tryz.prog 218 #[.pointer (some ⟨g, 0, none⟩), .string t] w fun e w' => e = .returned (.tuple #[]) ∧ PLn g B0 m (mkS t.data.toList (ok, ts)) w w' := by
  have H := Lib.hid h
  obtain ⟨b, hb⟩ : ∃ b, decide ((hdK ts).2 = t.data.toList) = b := ⟨_, rfl⟩
  have e1 : ((ofL (hdK ts).2).toList == t.toList) = b := by
    rw [← hb, ByteArray.toList_eq, ByteArray.toList_eq]
    by_cases h1 : (hdK ts).2 = t.data.toList
    · rw [decide_eq_true h1, beq_iff_eq]; exact h1
    · rw [decide_eq_false h1, beq_eq_false_iff_ne]; exact h1
  have HR : Hid (mkS t.data.toList (ok, ts) = nxS (reqS b (expS 3 (ok, ts)))) := Lib.hid (by rw [← hb]; rfl)
  have HN := Lib.hid (fun h => exp_ne (kd := 3) (q := (ok, ts)) (by decide) (req_ne (b := b) h))
  rw [HR.out]
  clear h HR hb
  go_enter Tryz.func218, Tryz.ntmps218
  go_wp2_with fail
  refine (expect_z g B0 m ok ts 3 _ H.out).mono ?_
  rintro e w2 ⟨rfl, m', hs, p2, b2⟩
  have P2 := Lib.hid p2
  have B2 := Lib.hid b2
  have HS := Lib.hid hs
  clear p2 b2 hs
  go_wp2_with fail
  refine (require_z g B0 m' _ _ b 3 (by decide) _ P2.out).mono ?_
  rintro e w3 ⟨rfl, m3, hs3, p3, b3⟩
  have P3 := Lib.hid p3
  have B3 := Lib.hid (B2.out.trans b3)
  have HS3 := Lib.hid (HS.out.trans hs3)
  clear p3 b3 hs3
  go_wp2_with fail
  refine (next_z g B0 m3 _ _ HN.out _ P3.out).mono ?_
  rintro e w4 ⟨rfl, p4⟩
  have P4 := Lib.hid (PLn.step HS3.out B3.out p4)
  clear p4
  go_wp2
  go_end0
  exact ⟨rfl, P4.out⟩
set_option maxRecDepth 1000000 in
set_option maxHeartbeats 2000000 in
theorem choice_z (g B0 : Nat) (m : PMem) (ok : Bool) (ts : List KT) (n : Nat) (eg : ∀ args w, (callFunc n args).run Tryz.prog w = .ok (.enter n args) w) (L : List (List UInt8)) (hF : ∀ (W : World) (t : ByteArray), Calls Tryz.prog n #[.string t] W fun e w' => e = .returned (.bool (decide (t.data.toList ∈ L))) ∧ w' = W) (w : World) (h : PL g B0 m ok ts w) :
    Calls Tryz.prog 300 #[.pointer (some ⟨g, 0, none⟩), .func (.func n) #[] #[]] w fun e w' => e = .returned (.string (ofL (hdK ts).2)) ∧ PLn g B0 m (chS L (ok, ts)) w w' := by
  have H := Lib.hid h
  have HF := Lib.hid (fun W => hF W (ofL (hdK ts).2))
  obtain ⟨b, hb⟩ : ∃ b, decide ((hdK ts).2 ∈ L) = b := ⟨_, rfl⟩
  have HB : Hid (decide ((ofL (hdK ts).2).data.toList ∈ L) = b) := Lib.hid hb
  have HR : Hid (chS L (ok, ts) = nxS (reqS b (expS 1 (ok, ts)))) := Lib.hid (by rw [← hb]; rfl)
  have HN := Lib.hid (fun h => exp_ne (kd := 1) (q := (ok, ts)) (by decide) (req_ne (b := b) h))
  rw [HR.out]
  clear h HR hb hF
  go_enter Tryz.func300, Tryz.ntmps300
  go_wp2_with fail
  refine (expect_z g B0 m ok ts 1 _ H.out).mono ?_
  rintro e w2 ⟨rfl, m', hs, p2, b2⟩
  have P2 := Lib.hid p2
  have B2 := Lib.hid b2
  have HS := Lib.hid hs
  clear p2 b2 hs
  go_wp2_with (go_at_fn n; refine (HF.out _).mono ?_; rw [HB.out]; rintro e w' ⟨rfl, hw'⟩; obtain rfl := hw'.symm)
  refine (require_z g B0 m' _ _ b 10 (by decide) _ P2.out).mono ?_
  rintro e w3 ⟨rfl, m3, hs3, p3, b3⟩
  have P3 := Lib.hid p3
  have B3 := Lib.hid (B2.out.trans b3)
  have HS3 := Lib.hid (HS.out.trans hs3)
  clear p3 b3 hs3
  go_wp2_with fail
  refine (next_z g B0 m3 _ _ HN.out _ P3.out).mono ?_
  rintro e w4 ⟨rfl, p4⟩
  have P4 := Lib.hid (PLn.step HS3.out B3.out p4)
  clear p4
  go_wp2
  go_ret
  exact ⟨rfl, P4.out⟩
theorem number_call (t : Str) (h : t.length ≤ 300000) (W : World) : Calls Tryz.prog 265 #[.string (ofL t)] W fun e w' => e = .returned (.tuple #[.int .i64 ((numR t).1 : Int), .bool (numR t).2]) ∧ Below W.heap.size W w' := by
  have hs := ofL_size t
  obtain ⟨s, hs2⟩ : ∃ s, ofL t = s := ⟨_, rfl⟩
  have hd : s.data.toList = t := by rw [← hs2]; rfl
  have h1 := numberP_any s W (by rw [← hs2]; omega)
  rw [hd] at h1
  rw [hs2]
  exact h1
set_option maxRecDepth 1000000 in
set_option maxHeartbeats 2000000 in
theorem number_z (g B0 : Nat) (m : PMem) (ok : Bool) (ts : List KT) (mx : Nat) (w : World) (h : PL g B0 m ok ts w) :
    Calls Tryz.prog 222 #[.pointer (some ⟨g, 0, none⟩), .int .i64 mx] w fun e w' => e = .returned (.int .i64 ((numR (hdK ts).2).1 : Int)) ∧ PLn g B0 m (nuS mx (ok, ts)) w w' := by
  have H := Lib.hid h
  obtain ⟨_, _, _, _, _, _, _, hlen, _⟩ := h.facts
  have HX : Hid (∀ W, Calls Tryz.prog 265 #[.string (ofL (hdK ts).2)] W fun e w' => e = .returned (.tuple #[.int .i64 ((numR (hdK ts).2).1 : Int), .bool (numR (hdK ts).2).2]) ∧ Below W.heap.size W w') := Lib.hid (fun W => number_call _ hlen W)
  have HR : Hid (nuS mx (ok, ts) = nxS (reqS (decide ((numR (hdK ts).2).1 ≤ mx)) (reqS (numR (hdK ts).2).2 (expS 1 (ok, ts))))) := Lib.hid (by unfold nuS; dsimp only)
  rw [HR.out]
  clear HR
  obtain ⟨N, hN⟩ : ∃ N, numR (hdK ts).2 = N := ⟨_, rfl⟩
  rw [hN] at HX ⊢
  clear hN
  obtain ⟨v, b1⟩ := N
  dsimp only at HX ⊢
  obtain ⟨b2, hb2⟩ : ∃ b, decide (v ≤ mx) = b := ⟨_, rfl⟩
  have e2 : decide ((v : Int) ≤ (mx : Int)) = b2 := by
    rw [← hb2]
    by_cases h1 : v ≤ mx
    · rw [decide_eq_true h1, decide_eq_true (by omega)]
    · rw [decide_eq_false h1, decide_eq_false (by omega)]
  rw [hb2]
  have HN := Lib.hid (fun h => exp_ne (kd := 1) (q := (ok, ts)) (by decide) (req_ne (b := b1) (req_ne (b := b2) h)))
  clear h hlen
  go_enter Tryz.func222, Tryz.ntmps222
  go_wp2_with fail
  refine (expect_z g B0 m ok ts 1 _ H.out).mono ?_
  rintro e w2 ⟨rfl, m', hs, p2, b2'⟩
  have P2 := Lib.hid p2
  have B2 := Lib.hid b2'
  have HS := Lib.hid hs
  clear p2 b2' hs
  go_wp2_with fail
  refine (HX.out _).mono ?_
  rintro e w3 ⟨rfl, b3⟩
  have P3 := Lib.hid (P2.out.below b3)
  have B3 := Lib.hid (B2.out.then_ (b3.mono B2.out.size))
  clear b3
  go_wp2_with fail
  refine (require_z g B0 m' _ _ b1 3 (by decide) _ P3.out).mono ?_
  rintro e w4 ⟨rfl, m4, hs4, p4, b4⟩
  have P4 := Lib.hid p4
  have B4 := Lib.hid (B3.out.trans b4)
  have HS4 := Lib.hid (HS.out.trans hs4)
  clear p4 b4 hs4
  go_wp2_with fail
  refine (require_z g B0 m4 _ _ b2 2 (by decide) _ P4.out).mono ?_
  rintro e w5 ⟨rfl, m5, hs5, p5, b5⟩
  have P5 := Lib.hid p5
  have B5 := Lib.hid (B4.out.trans b5)
  have HS5 := Lib.hid (HS4.out.trans hs5)
  clear p5 b5 hs5
  go_wp2_with fail
  refine (next_z g B0 m5 _ _ HN.out _ P5.out).mono ?_
  rintro e w6 ⟨rfl, p6⟩
  have P6 := Lib.hid (PLn.step HS5.out B5.out p6)
  clear p6
  go_wp2
  go_ret
  exact ⟨rfl, P6.out⟩
/-- A condition whose blocks all lie at n or above. -/
def RdCG (n : Nat) (w : World) (v : Value) (c : Cnd) : Prop := ∀ w', (∀ b, n ≤ b → b < w.heap.size → w'.heap[b]? = w.heap[b]?) → RdC w' v c
theorem rdC_nilZ (w : World) : RdC w (.slice none 0 0) [] := ⟨[], rd_nil w, rfl, fun i h _ => by simp at h⟩
theorem RdCG.nil (n : Nat) (w : World) : RdCG n w (.slice none 0 0) [] := fun w' _ => rdC_nilZ w'
theorem RdCG.of_f {g n : Nat} {w : World} {v : Value} {c : Cnd} (h : RdCF g w v c) (hn : n ≤ g) : RdCG n w v c := fun w' hb => h w' (fun b h1 h2 => hb b (by omega) h2)
theorem RdCG.step {n : Nat} {w w' : World} {v : Value} {c : Cnd} (h : RdCG n w v c) (hb : ∀ b, n ≤ b → b < w.heap.size → w'.heap[b]? = w.heap[b]?) (hs : w.heap.size ≤ w'.heap.size) : RdCG n w' v c := fun w'' h' => h w'' (fun b h1 h2 => (h' b h1 (by omega)).trans (hb b h1 h2))
theorem RdCG.but {n g : Nat} {w w' : World} {v : Value} {c : Cnd} (h : RdCG n w v c) (hb : But g w w') (hg : g < n) : RdCG n w' v c := h.step (fun b h1 h2 => hb.block b h2 (by omega)) hb.size
theorem RdCG.below {n : Nat} {w w' : World} {v : Value} {c : Cnd} (h : RdCG n w v c) (hb : Below w.heap.size w w') : RdCG n w' v c := h.step (fun b _ h2 => hb.block b h2) hb.size
theorem kp_condG {S : Nat → Prop} {n : Nat} {w : World} {v : Value} {c : Cnd} (h : RdCG n w v c) (hs : ∀ b, S b → b < n) : Kp S w (fun w => RdC w v c) := fun w' hw =>
  h w' (fun b hb hl => hw.block b hl (fun e => by have := hs b e; omega))
/-- A condition's text. -/
def coS (q : Bool × List KT) : Bool × List KT := nxS (reqS (prsM (hdK q.2).2).isSome (expS 2 q))
def coD (ts : List KT) : Cnd := ((prsM (hdK ts).2).getD [])
set_option maxRecDepth 1000000 in
set_option maxHeartbeats 2000000 in
theorem condition_z (g B0 : Nat) (m : PMem) (ok : Bool) (ts : List KT) (w : World) (E : ∀ W, Below g w W → EnvOf8 W) (h : PL g B0 m ok ts w) :
    Calls Tryz.prog 329 #[.pointer (some ⟨g, 0, none⟩)] w fun e w' => (∃ (a : Option Addr) (n c : Nat), e = .returned (.slice a n c) ∧ RdCG w.heap.size w' (.slice a n c) (coD ts)) ∧ PLn g B0 m (coS (ok, ts)) w w' := by
  have H := Lib.hid h
  have hlt : g < w.heap.size := h.blk.lt
  obtain ⟨_, _, _, _, _, _, _, hlen, _⟩ := h.facts
  have HX : Hid (∀ W, Below g w W → Calls Tryz.prog 338 #[.string (ofL (hdK ts).2)] W (PaPF (ofL (hdK ts).2) W)) := Lib.hid (fun W hb => parseF_any W (E W hb) (ofL (hdK ts).2) (by rw [ofL_size]; omega))
  have HR : Hid (coS (ok, ts) = nxS (reqS (prsM (hdK ts).2).isSome (expS 2 (ok, ts)))) := Lib.hid (by unfold coS; dsimp only)
  have HD : Hid (coD ts = ((prsM (hdK ts).2).getD [])) := Lib.hid (by unfold coD; dsimp only)
  rw [HR.out, HD.out]
  have HN := Lib.hid (fun h => exp_ne (kd := 2) (q := (ok, ts)) (by decide) (req_ne (b := (prsM (hdK ts).2).isSome) h))
  clear h HR HD hlen E
  go_enter Tryz.func329, Tryz.ntmps329
  go_wp2_with fail
  refine (expect_z g B0 m ok ts 2 _ H.out).mono ?_
  rintro e w2 ⟨rfl, m', hs, p2, b2⟩
  have P2 := Lib.hid p2
  have B2 := Lib.hid b2
  have HS := Lib.hid hs
  clear p2 b2 hs
  go_wp2_with fail
  refine (HX.out _ (B2.out.below (Nat.le_refl _) (by omega))).mono ?_
  rintro e w3 ⟨⟨a, n, c, at_, er, rfl, hm⟩, b3⟩
  have P3 := Lib.hid (P2.out.below b3)
  have B3 := Lib.hid (B2.out.then_ (b3.mono B2.out.size))
  have hq : (er == 0) = (prsM (hdK ts).2).isSome ∧ RdCG w.heap.size w3 (.slice a n c) ((prsM (hdK ts).2).getD []) := by
    have hm' : (match prsM (hdK ts).2 with
      | some x => RdCF w2.heap.size w3 (.slice a n c) x ∧ at_ = 0 ∧ er = 0
      | none => a = none ∧ n = 0 ∧ c = 0 ∧ er ≠ 0) := hm
    cases hp : prsM (hdK ts).2 with
    | some x =>
      rw [hp] at hm'
      obtain ⟨h1, _, h2⟩ := hm'
      exact ⟨by rw [h2]; rfl, RdCG.of_f h1 B2.out.size⟩
    | none =>
      rw [hp] at hm'
      obtain ⟨rfl, rfl, rfl, h2⟩ := hm'
      exact ⟨by rw [beq_eq_false_iff_ne.2 h2]; rfl, RdCG.nil _ _⟩
  have HQ := Lib.hid hq
  obtain ⟨off, fr, c0, hn, t0, t1, t2, _, cf⟩ := P3.out.facts
  clear b3 hm hq cf t0 t1
  go_wp2_with fail
  refine (fail_z g B0 m' _ _ fr er _ P3.out).mono ?_
  rw [HQ.out.1]
  rintro e w4 ⟨rfl, m4, hs4, p4, b4⟩
  have P4 := Lib.hid p4
  have B4 := Lib.hid (B3.out.trans b4)
  have HS4 := Lib.hid (HS.out.trans hs4)
  have R4 := Lib.hid (HQ.out.2.but b4 hlt)
  clear p4 b4 hs4 c0 t2 hn
  go_wp2_with fail
  refine (next_z g B0 m4 _ _ HN.out _ P4.out).mono ?_
  rintro e w5 ⟨rfl, p5⟩
  have P5 := Lib.hid (PLn.step HS4.out B4.out p5)
  have R5 := Lib.hid (by obtain ⟨_, _, _, b5⟩ := p5; exact R4.out.but b5 hlt)
  clear p5
  go_wp2
  go_ret
  exact ⟨⟨a, n, c, rfl, R5.out⟩, P5.out⟩
end Go.Proofs.YtpmmchppfmojhaaGreatDoor


/- Of the program of layer 11: Spell. -/
namespace Go.Proofs.YtpmmchppfmojhaaGreatDoor
open Go.RowKit
set_option linter.unusedVariables false

/-- The strings so far, the others empty. -/
def cellsA (xs : List (List UInt8)) (n : Nat) : Array Value := (xs.map (fun x => Value.string (ofL x)) ++ List.replicate (n - xs.length) (Value.string ⟨#[]⟩)).toArray
theorem made_cells (n : Nat) : madeCells (Value.string ByteArray.empty).cells n = cellsA [] n := by
  apply Array.toList_inj.1
  have := toList_madeCells_one (Value.string ByteArray.empty) n
  rw [show (Value.string ByteArray.empty).cells = #[Value.string ByteArray.empty] from rfl, this]
  rfl
theorem cells_at {xs : List (List UInt8)} {n : Nat} (h : xs.length < n) : (cellsA xs n)[xs.length]? = some (.string ⟨#[]⟩) := by
  unfold cellsA
  rw [List.getElem?_toArray, List.getElem?_append_right (by rw [List.length_map]; exact Nat.le_refl _), List.length_map, Nat.sub_self, List.getElem?_replicate, if_pos (by omega)]
theorem cells_set {xs : List (List UInt8)} {n : Nat} (h : xs.length < n) (y : List UInt8) : (cellsA xs n).setIfInBounds xs.length (.string (ofL y)) = cellsA (xs ++ [y]) n := by
  unfold cellsA
  apply Array.toList_inj.1
  rw [Array.toList_setIfInBounds]
  show List.set (List.map (fun x => Value.string (ofL x)) xs ++ List.replicate (n - xs.length) (Value.string ⟨#[]⟩)) xs.length (.string (ofL y)) = List.map (fun x => Value.string (ofL x)) (xs ++ [y]) ++ List.replicate (n - (xs ++ [y]).length) (Value.string ⟨#[]⟩)
  obtain ⟨m, hm⟩ : ∃ m, n - xs.length = m + 1 := ⟨n - xs.length - 1, by omega⟩
  rw [hm, List.replicate_succ, List.set_append_right _ _ (by rw [List.length_map]; exact Nat.le_refl _), List.length_map, Nat.sub_self, List.set_cons_zero, List.map_append, List.length_append, List.append_assoc]
  simp only [List.map_cons, List.map_nil, List.length_cons, List.length_nil, Nat.zero_add, List.cons_append, List.nil_append]
  rw [show n - (xs.length + 1) = m by omega]
theorem cells_all {xs : List (List UInt8)} : cellsA xs xs.length = (xs.map (fun x => Value.string (ofL x))).toArray := by
  unfold cellsA
  rw [Nat.sub_self, List.replicate_zero, List.append_nil]
end Go.Proofs.YtpmmchppfmojhaaGreatDoor


/- Of the program's table parser: texts, classes and directions, the tables of statements. -/
namespace Go.Proofs.YtpmmchppfmojhaaGreatDoor
open Go.RowKit
set_option linter.unusedVariables false

theorem beq_str (x : ByteArray) (a : Str) (y : ByteArray) (hy : y.data.toList = a) : (x.toList == y.toList) = decide (x.data.toList = a) := by
  rw [ByteArray.toList_eq, ByteArray.toList_eq, hy]
  by_cases h : x.data.toList = a
  · rw [h, decide_eq_true rfl, beq_iff_eq]
  · rw [decide_eq_false h, beq_eq_false_iff_ne]; exact h
set_option maxRecDepth 1000000 in
set_option maxHeartbeats 2000000 in
theorem isDirection_any (t : ByteArray) (w : World) : Calls Tryz.prog 77 #[.string t] w fun e w' => e = .returned (.bool (decide (t.data.toList ∈ dirL))) ∧ w' = w := by
  have h1 := beq_str t [108, 116, 114] ⟨#[108, 116, 114]⟩ rfl
  have h2 := beq_str t [114, 116, 108] ⟨#[114, 116, 108]⟩ rfl
  obtain ⟨b1, hb1⟩ : ∃ b, decide (t.data.toList = [108, 116, 114]) = b := ⟨_, rfl⟩
  obtain ⟨b2, hb2⟩ : ∃ b, decide (t.data.toList = [114, 116, 108]) = b := ⟨_, rfl⟩
  have HV : Hid (decide (t.data.toList ∈ dirL) = (b1 || b2)) := Lib.hid (by rw [← hb1, ← hb2, ← Bool.decide_or]; exact decide_eq_decide.2 (by unfold dirL; simp))
  rw [hb1] at h1
  rw [hb2] at h2
  have h1' : (t.toList == [108, 116, 114]) = b1 := by rw [← h1, ByteArray.toList_eq ⟨#[108, 116, 114]⟩]
  have h2' : (t.toList == [114, 116, 108]) = b2 := by rw [← h2, ByteArray.toList_eq ⟨#[114, 116, 108]⟩]
  rw [HV.out]
  clear hb1 hb2 h1 h2
  cases b1 with
  | true =>
    go_enter Tryz.func77, Tryz.ntmps77
    go_wp2
    go_ret
    exact ⟨rfl, rfl⟩
  | false =>
    go_enter Tryz.func77, Tryz.ntmps77
    go_wp2
    go_ret
    exact ⟨by simp, rfl⟩
set_option maxRecDepth 1000000 in
set_option maxHeartbeats 4000000 in
theorem isRuleClass_any (t : ByteArray) (w : World) : Calls Tryz.prog 142 #[.string t] w fun e w' => e = .returned (.bool (decide (t.data.toList ∈ clsL))) ∧ w' = w := by
  have k1 := beq_str t [122, 101, 114, 111] ⟨#[122, 101, 114, 111]⟩ rfl
  have k2 := beq_str t [111, 110, 101] ⟨#[111, 110, 101]⟩ rfl
  have k3 := beq_str t [116, 119, 111] ⟨#[116, 119, 111]⟩ rfl
  have k4 := beq_str t [102, 101, 119] ⟨#[102, 101, 119]⟩ rfl
  have k5 := beq_str t [109, 97, 110, 121] ⟨#[109, 97, 110, 121]⟩ rfl
  obtain ⟨b1, hb1⟩ : ∃ b, decide (t.data.toList = [122, 101, 114, 111]) = b := ⟨_, rfl⟩
  obtain ⟨b2, hb2⟩ : ∃ b, decide (t.data.toList = [111, 110, 101]) = b := ⟨_, rfl⟩
  obtain ⟨b3, hb3⟩ : ∃ b, decide (t.data.toList = [116, 119, 111]) = b := ⟨_, rfl⟩
  obtain ⟨b4, hb4⟩ : ∃ b, decide (t.data.toList = [102, 101, 119]) = b := ⟨_, rfl⟩
  obtain ⟨b5, hb5⟩ : ∃ b, decide (t.data.toList = [109, 97, 110, 121]) = b := ⟨_, rfl⟩
  have HV : Hid (decide (t.data.toList ∈ clsL) = (b1 || (b2 || (b3 || (b4 || b5))))) := Lib.hid (by rw [← hb1, ← hb2, ← hb3, ← hb4, ← hb5, ← Bool.decide_or, ← Bool.decide_or, ← Bool.decide_or, ← Bool.decide_or]; exact decide_eq_decide.2 (by unfold clsL; simp))
  rw [hb1] at k1
  rw [hb2] at k2
  rw [hb3] at k3
  rw [hb4] at k4
  rw [hb5] at k5
  have h1 : (t.toList == [122, 101, 114, 111]) = b1 := by rw [← k1, ByteArray.toList_eq ⟨#[122, 101, 114, 111]⟩]
  have h2 : (t.toList == [111, 110, 101]) = b2 := by rw [← k2, ByteArray.toList_eq ⟨#[111, 110, 101]⟩]
  have h3 : (t.toList == [116, 119, 111]) = b3 := by rw [← k3, ByteArray.toList_eq ⟨#[116, 119, 111]⟩]
  have h4 : (t.toList == [102, 101, 119]) = b4 := by rw [← k4, ByteArray.toList_eq ⟨#[102, 101, 119]⟩]
  have h5 : (t.toList == [109, 97, 110, 121]) = b5 := by rw [← k5, ByteArray.toList_eq ⟨#[109, 97, 110, 121]⟩]
  rw [HV.out]
  clear hb1 hb2 hb3 hb4 hb5 k1 k2 k3 k4 k5
  go_enter Tryz.func142, Tryz.ntmps142
  cases b1 with
  | true => (go_wp2; go_ret; exact ⟨rfl, rfl⟩)
  | false =>
  cases b2 with
  | true => (go_wp2; go_ret; exact ⟨rfl, rfl⟩)
  | false =>
  cases b3 with
  | true => (go_wp2; go_ret; exact ⟨rfl, rfl⟩)
  | false =>
  cases b4 with
  | true => (go_wp2; go_ret; exact ⟨rfl, rfl⟩)
  | false =>
  cases b5 with
  | true => (go_wp2; go_ret; exact ⟨rfl, rfl⟩)
  | false => (go_wp2; go_ret; exact ⟨rfl, rfl⟩)
set_option maxRecDepth 1000000 in
set_option maxHeartbeats 2000000 in
theorem isClass_any (t : ByteArray) (w : World) : Calls Tryz.prog 147 #[.string t] w fun e w' => e = .returned (.bool (decide (t.data.toList ∈ cls6))) ∧ w' = w := by
  have k1 := beq_str t [111, 116, 104, 101, 114] ⟨#[111, 116, 104, 101, 114]⟩ rfl
  obtain ⟨b1, hb1⟩ : ∃ b, decide (t.data.toList = [111, 116, 104, 101, 114]) = b := ⟨_, rfl⟩
  obtain ⟨b2, hb2⟩ : ∃ b, decide (t.data.toList ∈ clsL) = b := ⟨_, rfl⟩
  have HV : Hid (decide (t.data.toList ∈ cls6) = (b1 || b2)) := Lib.hid (by rw [← hb1, ← hb2, ← Bool.decide_or]; exact decide_eq_decide.2 (by unfold cls6; simp only [List.mem_append, List.mem_singleton]; exact Or.comm))
  rw [hb1] at k1
  have h1 : (t.toList == [111, 116, 104, 101, 114]) = b1 := by rw [← k1, ByteArray.toList_eq ⟨#[111, 116, 104, 101, 114]⟩]
  have HC := Lib.hid (fun w => isRuleClass_any t w)
  rw [hb2] at HC
  rw [HV.out]
  clear hb1 hb2 k1
  go_enter Tryz.func147, Tryz.ntmps147
  cases b1 with
  | true => (go_wp2; go_ret; exact ⟨rfl, rfl⟩)
  | false =>
    go_wp2_with fail
    refine (HC.out _).mono ?_
    rintro e w2 ⟨rfl, hw⟩
    obtain rfl := hw.symm
    go_wp2
    go_ret
    exact ⟨rfl, rfl⟩
set_option maxRecDepth 1000000 in
theorem once_any (b : Bool) (w : World) : Calls Tryz.prog 299 #[.bool b] w fun e w' => e = .returned (.int .i64 (if b = true then 9 else 0)) ∧ w' = w := by
  cases b with
  | true =>
    go_enter Tryz.func299, Tryz.ntmps299
    go_wp2
    go_ret
    exact ⟨rfl, rfl⟩
  | false =>
    go_enter Tryz.func299, Tryz.ntmps299
    go_wp2
    go_ret
    exact ⟨rfl, rfl⟩
/-! ### Several texts -/
def txS : Nat → Bool × List KT → Bool × List KT
  | 0, q => q
  | n + 1, q => txS n (rdS 2 q)
/-- Their texts. -/
def txL : Nat → Bool × List KT → List Str
  | 0, _ => []
  | n + 1, q => (hdK q.2).2 :: txL n (rdS 2 q)
theorem txS_succ : ∀ (n : Nat) (q : Bool × List KT), txS (n + 1) q = rdS 2 (txS n q)
  | 0, q => rfl
  | n + 1, q => by
    show txS (n + 1) (rdS 2 q) = _
    rw [txS_succ n]
    rfl
theorem txL_succ : ∀ (n : Nat) (q : Bool × List KT), txL (n + 1) q = txL n q ++ [(hdK (txS n q).2).2]
  | 0, q => rfl
  | n + 1, q => by
    show (hdK q.2).2 :: txL (n + 1) (rdS 2 q) = _
    rw [txL_succ n]
    rfl
theorem txL_len : ∀ (n : Nat) (q : Bool × List KT), (txL n q).length = n
  | 0, _ => rfl
  | n + 1, q => by
    show (txL n (rdS 2 q)).length + 1 = _
    rw [txL_len n]
theorem PL.far {g B0 D k : Nat} {m : PMem} {ok : Bool} {ts : List KT} {w : World} (h : PL g B0 m ok ts w) (hg : D ≠ g) (hB : D ≠ B0) (u : Value) : PL g B0 m ok ts (w.setCell ⟨D, k, none⟩ u) :=
  ⟨(Below.heap_setCell _ _ _ g (by show g ≠ D; omega)).trans h.blk, h.tk.keep (Below.heap_setCell _ _ _ B0 (by show B0 ≠ D; omega)), h.f⟩
theorem But.far {g D k : Nat} {w w' : World} (h : But g w w') (hD : w.heap.size ≤ D) (u : Value) : But g w (w'.setCell ⟨D, k, none⟩ u) :=
  ⟨h.os, h.tape, h.output, by have := h.size; simpa [World.setCell] using this, fun i hi hn => (Below.heap_setCell _ _ _ i (by show i ≠ D; omega)).trans (h.block i hi hn)⟩
theorem PL.b0lt {g B0 : Nat} {m : PMem} {ok : Bool} {ts : List KT} {w : World} (h : PL g B0 m ok ts w) : B0 < w.heap.size := by
  obtain ⟨cs, hc⟩ := h.tk.ty
  exact hc.lt
def TxI (g B0 : Nat) (m : PMem) (q : Bool × List KT) (D n : Nat) (w : World) (v : Value) (wr : World) : Prop :=
  ∃ k : Nat, k ≤ n ∧ v = .int .i64 k ∧ Blk D 9 (cellsA (txL k q) n) wr ∧ PLn g B0 m (txS k q) w wr
def TxP (g B0 : Nat) (m : PMem) (q : Bool × List KT) (n : Nat) (w : World) (e : Ending) (w' : World) : Prop :=
  (∃ D, e = .returned (.slice (some ⟨D, 0, none⟩) n n) ∧ w.heap.size ≤ D ∧ Blk D 9 (cellsA (txL n q) n) w') ∧ PLn g B0 m (txS n q) w w'
set_option maxRecDepth 1000000 in
set_option maxHeartbeats 8000000 in
theorem texts_z (g B0 : Nat) (m : PMem) (ok : Bool) (ts : List KT) (n : Nat) (hn : n ≤ 1000) (w : World) (h : PL g B0 m ok ts w) :
    Calls Tryz.prog 307 #[.pointer (some ⟨g, 0, none⟩), .int .i64 n] w (TxP g B0 m (ok, ts) n w) := by
  have hlt := h.blk.lt
  have hBlt := h.b0lt
  have m1 := fun wx => make_at (P := Tryz.prog) 49 9 _ _ rfl Tryz.infoT (by omega) n (by omega) wx
  simp only [made_cells] at m1
  have HK0 : Hid (Blk w.heap.size 9 (cellsA [] n) (w.alloc (.cells (cellsA [] n) 9))) := Lib.hid (Blk.new _ _ _)
  have HP0 : Hid (PLn g B0 m (ok, ts) w (w.alloc (.cells (cellsA [] n) 9))) := Lib.hid ((pl_same h).then_ ((Below.refl _ _).alloc (Nat.le_refl _) _))
  obtain ⟨W0, hW0⟩ : ∃ W0, w.alloc (.cells (cellsA [] n) 9) = W0 := ⟨_, rfl⟩
  rw [hW0] at HK0 HP0
  have HW0 := Lib.hid hW0
  obtain ⟨D, hD⟩ : ∃ D, w.heap.size = D := ⟨_, rfl⟩
  have HD := Lib.hid hD
  rw [hD] at HK0
  have hDg : D ≠ g := by omega
  have hDB : D ≠ B0 := by omega
  have hni : (n : Int) ≤ 1000 := by omega
  clear hW0 hD h hlt hBlt
  go_enter Tryz.func307, Tryz.ntmps307
  go_upto_region 2 with fail
  rw [HW0.out, HD.out]
  clear HW0 m1
  go_wp2_with fail
  go_loopw [11] (fun v11 wr => TxI g B0 m (ok, ts) D n w v11 wr) (fun v11 _ => n - (intOf v11).toNat)
  case atStart => exact ⟨0, Nat.zero_le _, rfl, HK0.out, HP0.out⟩
  case round =>
    rename World => wr
    obtain ⟨k, hk, rfl, hblk, m2, hs2, p2, b2⟩ := hrel
    have HBK := Lib.hid hblk
    have HS2 := Lib.hid hs2
    have P2 := Lib.hid p2
    have B2 := Lib.hid b2
    clear hblk hs2 p2 b2 HK0 HP0
    by_cases hlt : k < n
    · have h9 : (k : Int) < (n : Int) := by omega
      have hlen := txL_len k (ok, ts)
      have HKA := Lib.hid (show (cellsA (txL k (ok, ts)) n)[k]? = some (.string ⟨#[]⟩) by have := cells_at (xs := txL k (ok, ts)) (n := n) (by omega); rw [hlen] at this; exact this)
      have HKS := Lib.hid (show (cellsA (txL k (ok, ts)) n).setIfInBounds k (.string (ofL (hdK (txS k (ok, ts)).2).2)) = cellsA (txL (k + 1) (ok, ts)) n by
        have := cells_set (xs := txL k (ok, ts)) (n := n) (by omega) (hdK (txS k (ok, ts)).2).2
        rw [hlen] at this
        rw [txL_succ]
        exact this)
      clear hlen
      go_wp2_with fail
      refine (text_z g B0 m2 _ _ _ P2.out).mono ?_
      rintro e w3 ⟨rfl, m3, hs3, p3, b3⟩
      have P3 := Lib.hid p3
      have HS3 := Lib.hid (HS2.out.trans hs3)
      have B3 := Lib.hid (B2.out.trans b3)
      have HBK3 := Lib.hid (HBK.out.but b3 hDg)
      obtain ⟨Y, hY⟩ : ∃ Y, ofL (hdK (txS k (ok, ts)).2).2 = Y := ⟨_, rfl⟩
      rw [hY] at HKS ⊢
      have r0 : w3.cell? ⟨D, k, none⟩ = some (.string ⟨#[]⟩) := (HBK3.out.cell k).trans HKA.out
      have f0 := HBK3.out.frozen k
      have HPUT := Lib.hid (HBK3.out.put k (.string Y))
      rw [HKS.out] at HPUT
      have HPL := Lib.hid (p3.far (k := k) hDg hDB (.string Y))
      have HBF := Lib.hid (B3.out.far (k := k) (by have := HD.out; omega) (.string Y) (D := D))
      clear p3 b3 hs3 hY
      go_wp2
      go_roundw
      case measure => simp [intOf]; omega
      case rel => exact ⟨k + 1, by omega, by go_num, HPUT.out, m3, HS3.out, by rw [txS_succ]; exact HPL.out, HBF.out⟩
    · have h9 : ¬ (k : Int) < (n : Int) := by omega
      obtain rfl : k = n := by omega
      go_wp2
      go_ret
      exact ⟨⟨D, rfl, by have := HD.out; omega, HBK.out⟩, m2, HS2.out, P2.out, B2.out⟩
end Go.Proofs.YtpmmchppfmojhaaGreatDoor


