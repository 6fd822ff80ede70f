/- Of condition: countFrom, tokenSize; the library's TrimLeft, HasPrefix, Index and Atoi as the parser calls them; what the listed variables hold. -/
import Derived.Test.YtnabklhkalnpiaaGreatDoorCzs
import Derived.Test.YtnabklhkalnpiaaGreatDoorCza
import Derived.Test.YtnabklhkalnpiaaGreatDoorCy
import Derived.Lib.AtoiAllCases
import Derived.Lib.AtoiErrMem
namespace Go.Proofs.YtnabklhkalnpiaaGreatDoor
open Go.RowKit
set_option linter.unusedVariables false

structure Env (w : World) : Prop where
  pow : Lib.TabIs Tryz.prog w "internal/strconv.uint64pow10" .u64 Lib.pow10Tab
  serr : ∃ te pe, w.cell? ⟨4, 0, none⟩ = some (.iface te pe)
  rerr : ∃ te pe, w.cell? ⟨5, 0, none⟩ = some (.iface te pe)
theorem Env.cells {w w' : World} (h : Env w) (hb : Below w.heap.size w w') : (∃ te pe, w'.cell? ⟨4, 0, none⟩ = some (.iface te pe)) ∧ (∃ te pe, w'.cell? ⟨5, 0, none⟩ = some (.iface te pe)) := by
  obtain ⟨_, ⟨t1, p1, h1⟩, ⟨t2, p2, h2⟩⟩ := h
  exact ⟨⟨t1, p1, cell_later h1 hb⟩, ⟨t2, p2, cell_later h2 hb⟩⟩
theorem trimLeft_any (s : ByteArray) (w : World) : Calls Tryz.prog 60 #[.string s, .string ⟨#[32, 9, 10]⟩] w fun e w' => e = .returned (.string (ofL (s.data.toList.dropWhile isW))) ∧ Below w.heap.size w w' := by
  have h : Calls Tryz.prog 60 #[.string s, .string ⟨#[32, 9, 10]⟩] w _ := Any.strings_TrimLeft_laid Tryz.lays161 (by kernel_rfl) s ⟨#[32, 9, 10]⟩ w (by decide) (ascii_of_all (by decide))
  refine h.mono ?_
  rintro e w' ⟨rfl, b⟩
  refine ⟨?_, b⟩
  have e1 : Lib.trimLeftS s.data.toList [32, 9, 10] = s.data.toList.dropWhile isW := by
    unfold Lib.trimLeftS
    congr 1
    funext c
    simp [isW, List.contains, List.elem, Bool.or_assoc]
    rcases h1 : (c == 32) <;> rcases h2 : (c == 9) <;> rcases h3 : (c == 10) <;> simp_all
  exact congrArg (fun l => Ending.returned (.string (ofL l))) e1
theorem pre_two (s : Str) (a b : UInt8) : Lib.hasPrefix s [a, b] = decide (s.take 2 = [a, b]) := by
  unfold Lib.hasPrefix
  rw [Bool.eq_iff_iff, List.isPrefixOf_iff_prefix, decide_eq_true_eq]
  constructor
  · intro h
    have := List.prefix_iff_eq_take.1 h
    exact this.symm
  · intro h
    rw [← h]
    exact List.take_prefix _ _
theorem valA_ge (l : Str) (n : Nat) : n ≤ valA n l := by
  rw [valA_eq]
  have h1 : 1 ≤ 10 ^ l.length := Nat.pow_pos (by omega)
  have := Nat.mul_le_mul_left n h1
  omega
theorem atoi_dig : ∀ (l : Str) (acc : Nat), allD l → valA acc l < 1000000000000000 → Lib.parseUint10 acc l = .ok (valA acc l)
  | [], acc, _, _ => rfl
  | c :: l, acc, hd, hv => by
    rw [allD_cons] at hd
    have hc := isD_iff.1 hd.1
    rw [valA_cons] at hv ⊢
    have h1 := valA_ge l (stp acc c)
    have e := stp_eq acc c
    have hdd : c.toNat - 48 = dg c := rfl
    rw [Lib.parseUint10, if_pos hc, if_neg (by omega), hdd, ← e, if_neg (by omega)]
    exact atoi_dig l (stp acc c) hd.2 hv
theorem atoi_num {l : Str} (hd : allD l) (h0 : l ≠ []) (h3 : l.length ≤ 3) : Lib.atoiAll l = .ok (val l : Int) := by
  have hv := val_lt hd
  have hp : 10 ^ l.length ≤ 10 ^ 3 := Nat.pow_le_pow_right (by omega) h3
  have h9 : (10 : Nat) ^ 3 = 1000 := by decide
  cases l with
  | nil => exact absurd rfl h0
  | cons c r =>
    have hc := isD_iff.1 (allD_cons.1 hd).1
    rw [Lib.atoiAll_plain c r (by omega) (by omega)]
    have hm : Lib.parseMag (c :: r) = .ok (val (c :: r)) := by
      unfold Lib.parseMag
      rw [if_neg (by simp)]
      exact atoi_dig (c :: r) 0 hd (by show val (c :: r) < _; omega)
    rw [hm]
    unfold Lib.signless
    dsimp only
    rw [if_neg (by omega)]
theorem cF_all : ∀ {l : Str}, cF isD l = l.length → allD l
  | [], _ => allD_nil
  | c :: l, h => by
    unfold cF at h
    rw [List.takeWhile_cons] at h
    split at h
    · rename_i hc
      rw [List.length_cons, List.length_cons] at h
      exact allD_cons.2 ⟨hc, cF_all (l := l) (by unfold cF; omega)⟩
    · simp at h
theorem isNum_all {t : Str} (h : isNum t = true) : allD t ∧ t ≠ [] ∧ t.length ≤ 3 := by
  unfold isNum at h
  simp only [Bool.and_eq_true, decide_eq_true_eq] at h
  exact ⟨cF_all h.1.2, List.ne_nil_of_length_pos h.1.1.1, h.1.1.2⟩
/-- What Atoi does to a token: some number, the token's own if it is one. -/
def AtPost (t : Str) (w : World) (e : Ending) (w' : World) : Prop := (∃ (n : Int) (er : Value), e = .returned (.tuple #[.int .i64 n, er]) ∧ (isNum t = true → n = (val t : Int))) ∧ Below w.heap.size w w'
theorem bytesWorld_below (w : World) (t : TypeId) (s : ByteArray) : Below w.heap.size w (Lib.bytesWorld w t s) := Lib.bytesWorld_below w t s
theorem atoi_any (s : ByteArray) (hs : s.size ≤ 1000000) (w : World) (h1 : ∃ te pe, w.cell? ⟨4, 0, none⟩ = some (.iface te pe)) (h2 : ∃ te pe, w.cell? ⟨5, 0, none⟩ = some (.iface te pe)) :
    Calls Tryz.prog 110 #[.string s] w (AtPost s.data.toList w) := by
  obtain ⟨t1, p1, h1⟩ := h1
  obtain ⟨t2, p2, h2⟩ := h2
  cases h : Lib.atoiAll s.data.toList
  case ok v =>
    refine (Tryz.strconv_Atoi_ok s (by omega) v h w).mono ?_
    rintro e w' ⟨rfl, hw⟩
    refine ⟨⟨v, _, rfl, fun hn => ?_⟩, ?_⟩
    · obtain ⟨a, b, c⟩ := isNum_all hn
      rw [atoi_num a b c] at h
      injection h with h
      exact h.symm
    · rcases hw with rfl | ⟨t, rfl⟩
      · exact Below.refl _ _
      · exact bytesWorld_below _ _ _
  case range =>
    refine (Tryz.strconv_Atoi_range s (by omega) h _ w h2 (.inr ⟨_, _, rfl⟩)).mono ?_
    rintro e w' ⟨N, rfl, _, _, b⟩
    refine ⟨⟨_, _, rfl, fun hn => ?_⟩, b⟩
    obtain ⟨a, b, c⟩ := isNum_all hn
    rw [atoi_num a b c] at h
    cases h
  case _ =>
    refine (Tryz.strconv_Atoi_syntax s (by omega) h _ w h1 (.inr ⟨_, _, rfl⟩)).mono ?_
    rintro e w' ⟨N, rfl, _, _, b⟩
    refine ⟨⟨_, _, rfl, fun hn => ?_⟩, b⟩
    obtain ⟨a, b, c⟩ := isNum_all hn
    rw [atoi_num a b c] at h
    cases h
theorem opI_eq (c : UInt8) : Lib.indexByte [110, 105, 118, 119, 102, 116] c + 1 = opC c := by
  unfold opC
  simp only [Lib.indexByte]
  by_cases h1 : c = 110
  · subst h1; decide
  by_cases h2 : c = 105
  · subst h2; decide
  by_cases h3 : c = 118
  · subst h3; decide
  by_cases h4 : c = 119
  · subst h4; decide
  by_cases h5 : c = 102
  · subst h5; decide
  by_cases h6 : c = 116
  · subst h6; decide
  rw [if_neg h1, if_neg h2, if_neg h3, if_neg h4, if_neg h5, if_neg h6]
  have q : ∀ a : UInt8, c ≠ a → (a == c) = false := fun a h => by rw [beq_eq_false_iff_ne]; exact fun e => h e.symm
  simp [q 110 h1, q 105 h2, q 118 h3, q 119 h4, q 102 h5, q 116 h6]
/-! ### countFrom, tokenSize -/
theorem cF_drop {p : UInt8 → Bool} {l : Str} {k : Nat} (h : k < l.length) (hp : p l[k] = true) : cF p (l.drop k) = cF p (l.drop (k + 1)) + 1 := by
  rw [List.drop_eq_getElem_cons h]
  unfold cF
  rw [List.takeWhile_cons, if_pos hp, List.length_cons]
theorem cF_stop {p : UInt8 → Bool} {l : Str} {k : Nat} (h : ∀ h : k < l.length, p l[k] = false) : cF p (l.drop k) = 0 := by
  unfold cF
  rcases Nat.lt_or_ge k l.length with hk | hk
  · rw [List.drop_eq_getElem_cons hk, List.takeWhile_cons, h hk]; rfl
  · rw [List.drop_eq_nil_of_le hk]; rfl
def rng (lo hi : Nat) (c : UInt8) : Bool := decide (lo ≤ c.toNat) && decide (c.toNat ≤ hi)
theorem cF_A (s : Str) : cF (rng 97 122) s = cF isA s := rfl
theorem cF_D (s : Str) : cF (rng 48 57) s = cF isD s := rfl
set_option maxRecDepth 1000000 in
set_option maxHeartbeats 2000000 in
theorem countFrom_any (s : ByteArray) (hs : s.size ≤ 1000000) (lo hi : Nat) (hlo : lo < 256) (hhi : hi < 256) (w : World) :
    Calls Tryz.prog 86 #[.string s, .int .u8 (lo : Int), .int .u8 (hi : Int)] w fun e w' => e = .returned (.int .i64 (cF (rng lo hi) s.data.toList : Nat)) ∧ w' = w := by
  obtain ⟨R, hR⟩ : ∃ R, cF (rng lo hi) s.data.toList = R := ⟨_, rfl⟩
  have HR := Lib.hid hR
  rw [hR]
  clear hR
  have hl := len_data s
  go_enter Tryz.func86, Tryz.ntmps86
  go_wp2
  go_loopw [7] (fun v wr => ∃ k : Nat, k ≤ s.size ∧ v = .int .i64 k ∧ cF (rng lo hi) (s.data.toList.drop k) + k = R ∧ wr = w) (fun v _ => s.size - (intOf v).toNat)
  case atStart => exact ⟨0, Nat.zero_le _, rfl, HR.out, rfl⟩
  case round =>
    obtain ⟨k, hk, rfl, hkd, hw⟩ := hrel
    obtain rfl := hw.symm
    have HK := Lib.hid hkd
    clear hkd
    by_cases hlt : k < s.size
    · have h9 : (k : Int) < (s.size : Int) := by omega
      have hkl : k < s.data.toList.length := by rw [hl]; exact hlt
      have HG : Hid (s.data.toList[k] = s[k]) := Lib.hid rfl
      have HD := Lib.hid (cF_drop (p := rng lo hi) hkl)
      have HSt := Lib.hid (cF_stop (p := rng lo hi) (l := s.data.toList) (k := k))
      obtain ⟨b, hb⟩ : ∃ b, s[k] = b := ⟨_, rfl⟩
      have HBB : Hid (s.data.toList[k] = b) := Lib.hid (by rw [HG.out, hb])
      have hn := u8_lt b
      by_cases q1 : lo ≤ b.toNat
      · have e1 : (lo : Int) ≤ (b.toNat : Int) := by omega
        by_cases q2 : b.toNat ≤ hi
        · have e2 : (b.toNat : Int) ≤ (hi : Int) := by omega
          have HN : Hid (cF (rng lo hi) (s.data.toList.drop (k + 1)) + (k + 1) = R) := Lib.hid (by
            have := HD.out (by rw [HBB.out]; unfold rng; rw [decide_eq_true q1, decide_eq_true q2]; rfl)
            have := HK.out
            omega)
          clear HG HBB q1 q2
          go_wp2
          go_roundw
          case measure => simp [intOf]; omega
          case rel => exact ⟨k + 1, by omega, by go_num, HN.out, (by first | rfl | trivial)⟩
        · have e2 : ¬ (b.toNat : Int) ≤ (hi : Int) := by omega
          have HN : Hid (k = R) := Lib.hid (by
            have := HSt.out (fun _ => by rw [HBB.out]; unfold rng; rw [decide_eq_false q2]; simp)
            have := HK.out
            omega)
          clear HG HBB q1 q2
          go_wp2
          go_ret
          exact ⟨by rw [← HN.out]; rfl, rfl⟩
      · have e1 : ¬ (lo : Int) ≤ (b.toNat : Int) := by omega
        have HN : Hid (k = R) := Lib.hid (by
          have := HSt.out (fun _ => by rw [HBB.out]; unfold rng; rw [decide_eq_false q1]; rfl)
          have := HK.out
          omega)
        clear HG HBB q1
        go_wp2
        go_ret
        exact ⟨by rw [← HN.out]; rfl, rfl⟩
    · obtain rfl : k = s.size := by omega
      have h3 : ¬ (s.size : Int) < (s.size : Int) := by omega
      have HN : Hid (s.size = R) := Lib.hid (by
        have := HK.out
        rw [cF_stop (fun h => absurd h (by rw [hl]; omega))] at this
        omega)
      go_wp2
      go_ret
      exact ⟨by rw [← HN.out]; rfl, rfl⟩
theorem mx3 {P : Program} (a b : Int) (ts : Array TypeId) (t : TypeId) (wz : World) : (Builtin.max_ ts t #[.int .i64 1, .int .i64 a, .int .i64 b]).run P wz = .ok (.int .i64 (max (max 1 a) b)) wz := by
  have h : (Builtin.max_ ts t #[.int .i64 1, .int .i64 a, .int .i64 b]).run P wz = .ok (.int .i64 (if b > (if a > 1 then a else 1) then b else (if a > 1 then a else 1))) wz := by
    simp [Builtin.max_, Builtin.max2]
  rw [h]
  congr 2
  split <;> split <;> omega
theorem tokN_nil : tokN [] = 0 := rfl
theorem tokN_le (s : Str) : tokN s ≤ s.length := by
  unfold tokN
  have hA : ∀ p : UInt8 → Bool, cF p s ≤ s.length := fun p => by
    unfold cF
    exact (List.takeWhile_sublist p).length_le
  split
  · omega
  · rename_i h0
    have hp := List.length_pos_iff.2 h0
    split
    · rename_i h
      rcases h with h | h
      · have := congrArg List.length h
        rw [List.length_take] at this
        simp at this
        omega
      · have := congrArg List.length h
        rw [List.length_take] at this
        simp at this
        omega
    · have := hA isA
      have := hA isD
      omega
set_option maxRecDepth 1000000 in
set_option maxHeartbeats 2000000 in
theorem tokenSize_any (s : ByteArray) (hs : s.size ≤ 1000000) (w : World) :
    Calls Tryz.prog 61 #[.string s] w fun e w' => e = .returned (.int .i64 (tokN s.data.toList : Nat)) ∧ w' = w := by
  obtain ⟨R, hR⟩ : ∃ R, tokN s.data.toList = R := ⟨_, rfl⟩
  have HR := Lib.hid hR
  rw [hR]
  clear hR
  have hl := len_data s
  have HTN : Hid (tokN s.data.toList = if s.data.toList = [] then 0 else if s.data.toList.take 2 = [33, 61] ∨ s.data.toList.take 2 = [46, 46] then 2 else max 1 (max (cF isA s.data.toList) (cF isD s.data.toList))) := Lib.hid rfl
  have HP : Hid (∀ a b, Lib.hasPrefix s.data.toList [a, b] = decide (s.data.toList.take 2 = [a, b])) := Lib.hid (pre_two s.data.toList)
  by_cases h0 : s.size = 0
  · have e1 : (s.toList == ([] : List UInt8)) = true := by rw [ByteArray.toList_eq, data_nil h0]; rfl
    have HX : Hid (R = 0) := Lib.hid (by rw [← HR.out, data_nil h0]; rfl)
    clear h0 hl
    go_enter Tryz.func61, Tryz.ntmps61
    go_wp2
    go_ret
    exact ⟨by rw [HX.out]; rfl, rfl⟩
  have hne : s.data.toList ≠ [] := fun h => h0 (by rw [← hl, h]; rfl)
  have e1 : (s.toList == ([] : List UInt8)) = false := by rw [ByteArray.toList_eq, beq_eq_false_iff_ne]; exact hne
  have HT2 : Hid (R = if s.data.toList.take 2 = [33, 61] ∨ s.data.toList.take 2 = [46, 46] then 2 else max 1 (max (cF isA s.data.toList) (cF isD s.data.toList))) := Lib.hid (by rw [← HR.out, HTN.out, if_neg hne])
  clear h0 hne hl HTN
  go_enter Tryz.func61, Tryz.ntmps61
  go_wp2_with fail
  refine (Tryz.strings_HasPrefix s ⟨#[33, 61]⟩ _).mono ?_
  rintro e w' ⟨rfl, hw'⟩
  obtain rfl := hw'.symm
  rw [show (ByteArray.mk #[33, 61]).data.toList = [33, 61] from rfl, HP.out]
  obtain ⟨b1, hb1⟩ : ∃ b, decide (s.data.toList.take 2 = [33, 61]) = b := ⟨_, rfl⟩
  have HB1 := Lib.hid hb1
  rw [hb1]
  clear hb1
  cases b1 with
  | true =>
    have HX : Hid (R = 2) := Lib.hid (by rw [HT2.out, if_pos (.inl (of_decide_eq_true HB1.out))])
    go_wp2
    go_ret
    exact ⟨by rw [HX.out]; rfl, rfl⟩
  | false =>
    go_wp2_with fail
    refine (Tryz.strings_HasPrefix s ⟨#[46, 46]⟩ _).mono ?_
    rintro e w' ⟨rfl, hw'⟩
    obtain rfl := hw'.symm
    rw [show (ByteArray.mk #[46, 46]).data.toList = [46, 46] from rfl, HP.out]
    obtain ⟨b2, hb2⟩ : ∃ b, decide (s.data.toList.take 2 = [46, 46]) = b := ⟨_, rfl⟩
    have HB2 := Lib.hid hb2
    rw [hb2]
    clear hb2
    cases b2 with
    | true =>
      have HX : Hid (R = 2) := Lib.hid (by rw [HT2.out, if_pos (.inr (of_decide_eq_true HB2.out))])
      go_wp2
      go_ret
      exact ⟨by rw [HX.out]; rfl, rfl⟩
    | false =>
      have HX : Hid (R = max 1 (max (cF isA s.data.toList) (cF isD s.data.toList))) := Lib.hid (by
        rw [HT2.out, if_neg]
        rintro (h | h)
        · exact of_decide_eq_false HB1.out h
        · exact of_decide_eq_false HB2.out h)
      have HCA := Lib.hid (cF_A s.data.toList)
      have HCD := Lib.hid (cF_D s.data.toList)
      go_wp2_with fail
      refine (countFrom_any s hs 97 122 (by omega) (by omega) _).mono ?_
      rintro e w' ⟨rfl, hw'⟩
      obtain rfl := hw'.symm
      rw [HCA.out]
      go_wp2_with fail
      refine (countFrom_any s hs 48 57 (by omega) (by omega) _).mono ?_
      rintro e w' ⟨rfl, hw'⟩
      obtain rfl := hw'.symm
      rw [HCD.out]
      obtain ⟨a, ha⟩ : ∃ a, cF isA s.data.toList = a := ⟨_, rfl⟩
      obtain ⟨d, hd⟩ : ∃ d, cF isD s.data.toList = d := ⟨_, rfl⟩
      rw [ha, hd] at HX
      rw [ha, hd]
      have HM : Hid (max (max 1 (a : Int)) (d : Int) = (R : Int)) := Lib.hid (by rw [HX.out]; omega)
      have hmx : ∀ ts t wz, (Builtin.max_ ts t #[.int .i64 1, .int .i64 (a : Int), .int .i64 (d : Int)]).run Tryz.prog wz = .ok (.int .i64 (R : Int)) wz := fun ts t wz => by rw [mx3, HM.out]
      clear ha hd HCA HCD HP
      go_wp2
      go_ret
      exact ⟨rfl, rfl⟩
end Go.Proofs.YtnabklhkalnpiaaGreatDoor
