/- What the row stands on, part 21. -/
import Derived.Shelf.Strings.SlTrimAscii
import Derived.Shelf.Strings.Prefix
import Derived.Shelf.Strings.Search3
import Derived.Shelf.Strconv.AtoiAll
import Derived.Lib.AtoiAllCases
import Derived.Lib.AtoiErrMem
import Derived.Test.YtmnclnpbmgomgaaGreatDoorZysh
import Derived.Test.YtmnclnpbmgomgaaGreatDoorQ20

/- Of condition: countFrom, tokenSize; the library's TrimLeft, HasPrefix, Index and Atoi as the parser calls them; what the listed variables hold. -/
namespace Go.Proofs.YtmnclnpbmgomgaaGreatDoor
open Go.RowKit
set_option linter.unusedVariables false

structure Env (w : World) : Prop where
  serr : ∃ te pe, w.cell? ⟨4, 0, none⟩ = some (.iface te pe)
  rerr : ∃ te pe, w.cell? ⟨5, 0, none⟩ = some (.iface te pe)
theorem Env.cells {w w' : World} (h : Env w) (hb : Below w.heap.size w w') : (∃ te pe, w'.cell? ⟨4, 0, none⟩ = some (.iface te pe)) ∧ (∃ te pe, w'.cell? ⟨5, 0, none⟩ = some (.iface te pe)) := by
  obtain ⟨⟨t1, p1, h1⟩, ⟨t2, p2, h2⟩⟩ := h
  exact ⟨⟨t1, p1, cell_later h1 hb⟩, ⟨t2, p2, cell_later h2 hb⟩⟩
theorem trimLeft_any (s : ByteArray) (w : World) : Calls Tryz.prog 134 #[.string s, .string ⟨#[32, 9, 10]⟩] w fun e w' => e = .returned (.string (ofL (s.data.toList.dropWhile isW))) ∧ Below w.heap.size w w' := by
  have h : Calls Tryz.prog 134 #[.string s, .string ⟨#[32, 9, 10]⟩] w _ := Any.strings_TrimLeft_laid Tryz.lays161 (by kernel_rfl) s ⟨#[32, 9, 10]⟩ w (by decide) (ascii_of_all (by decide))
  refine h.mono ?_
  rintro e w' ⟨rfl, b⟩
  refine ⟨?_, b⟩
  have e1 : Lib.trimLeftS s.data.toList [32, 9, 10] = s.data.toList.dropWhile isW := by
    unfold Lib.trimLeftS
    congr 1
    funext c
    simp [isW, List.contains, List.elem, Bool.or_assoc]
    rcases h1 : (c == 32) <;> rcases h2 : (c == 9) <;> rcases h3 : (c == 10) <;> simp_all
  exact congrArg (fun l => Ending.returned (.string (ofL l))) e1
theorem pre_two (s : Str) (a b : UInt8) : Lib.hasPrefix s [a, b] = decide (s.take 2 = [a, b]) := by
  unfold Lib.hasPrefix
  rw [Bool.eq_iff_iff, List.isPrefixOf_iff_prefix, decide_eq_true_eq]
  constructor
  · intro h
    have := List.prefix_iff_eq_take.1 h
    exact this.symm
  · intro h
    rw [← h]
    exact List.take_prefix _ _
theorem valA_ge (l : Str) (n : Nat) : n ≤ valA n l := by
  rw [valA_eq]
  have h1 : 1 ≤ 10 ^ l.length := Nat.pow_pos (by omega)
  have := Nat.mul_le_mul_left n h1
  omega
theorem atoi_dig : ∀ (l : Str) (acc : Nat), allD l → valA acc l < 1000000000000000 → Lib.parseUint10 acc l = .ok (valA acc l)
  | [], acc, _, _ => rfl
  | c :: l, acc, hd, hv => by
    rw [allD_cons] at hd
    have hc := isD_iff.1 hd.1
    rw [valA_cons] at hv ⊢
    have h1 := valA_ge l (stp acc c)
    have e := stp_eq acc c
    have hdd : c.toNat - 48 = dg c := rfl
    rw [Lib.parseUint10, if_pos hc, if_neg (by omega), hdd, ← e, if_neg (by omega)]
    exact atoi_dig l (stp acc c) hd.2 hv
theorem atoi_num {l : Str} (hd : allD l) (h0 : l ≠ []) (h3 : l.length ≤ 3) : Lib.atoiAll l = .ok (val l : Int) := by
  have hv := val_lt hd
  have hp : 10 ^ l.length ≤ 10 ^ 3 := Nat.pow_le_pow_right (by omega) h3
  have h9 : (10 : Nat) ^ 3 = 1000 := by decide
  cases l with
  | nil => exact absurd rfl h0
  | cons c r =>
    have hc := isD_iff.1 (allD_cons.1 hd).1
    rw [Lib.atoiAll_plain c r (by omega) (by omega)]
    have hm : Lib.parseMag (c :: r) = .ok (val (c :: r)) := by
      unfold Lib.parseMag
      rw [if_neg (by simp)]
      exact atoi_dig (c :: r) 0 hd (by show val (c :: r) < _; omega)
    rw [hm]
    unfold Lib.signless
    dsimp only
    rw [if_neg (by omega)]
theorem cF_all : ∀ {l : Str}, cF isD l = l.length → allD l
  | [], _ => allD_nil
  | c :: l, h => by
    unfold cF at h
    rw [List.takeWhile_cons] at h
    split at h
    · rename_i hc
      rw [List.length_cons, List.length_cons] at h
      exact allD_cons.2 ⟨hc, cF_all (l := l) (by unfold cF; omega)⟩
    · simp at h
theorem isNum_all {t : Str} (h : isNum t = true) : allD t ∧ t ≠ [] ∧ t.length ≤ 3 := by
  unfold isNum at h
  simp only [Bool.and_eq_true, decide_eq_true_eq] at h
  exact ⟨cF_all h.1.2, List.ne_nil_of_length_pos h.1.1.1, h.1.1.2⟩
/-- What Atoi does to a token: some number, the token's own if it is one. -/
def AtPost (t : Str) (w : World) (e : Ending) (w' : World) : Prop := (∃ (n : Int) (er : Value), e = .returned (.tuple #[.int .i64 n, er]) ∧ (isNum t = true → n = (val t : Int))) ∧ Below w.heap.size w w'
theorem bytesWorld_below (w : World) (t : TypeId) (s : ByteArray) : Below w.heap.size w (Lib.bytesWorld w t s) := Lib.bytesWorld_below w t s
theorem atoi_any (s : ByteArray) (hs : s.size ≤ 1000000) (w : World) (h1 : ∃ te pe, w.cell? ⟨4, 0, none⟩ = some (.iface te pe)) (h2 : ∃ te pe, w.cell? ⟨5, 0, none⟩ = some (.iface te pe)) :
    Calls Tryz.prog 200 #[.string s] w (AtPost s.data.toList w) := by
  obtain ⟨t1, p1, h1⟩ := h1
  obtain ⟨t2, p2, h2⟩ := h2
  cases h : Lib.atoiAll s.data.toList
  case ok v =>
    refine (Tryz.strconv_Atoi_ok s (by omega) v h w).mono ?_
    rintro e w' ⟨rfl, hw⟩
    refine ⟨⟨v, _, rfl, fun hn => ?_⟩, ?_⟩
    · obtain ⟨a, b, c⟩ := isNum_all hn
      rw [atoi_num a b c] at h
      injection h with h
      exact h.symm
    · rcases hw with rfl | ⟨t, rfl⟩
      · exact Below.refl _ _
      · exact bytesWorld_below _ _ _
  case range =>
    refine (Tryz.strconv_Atoi_range s (by omega) h _ w h2 (.inr ⟨_, _, rfl⟩)).mono ?_
    rintro e w' ⟨N, rfl, _, _, b⟩
    refine ⟨⟨_, _, rfl, fun hn => ?_⟩, b⟩
    obtain ⟨a, b, c⟩ := isNum_all hn
    rw [atoi_num a b c] at h
    cases h
  case _ =>
    refine (Tryz.strconv_Atoi_syntax s (by omega) h _ w h1 (.inr ⟨_, _, rfl⟩)).mono ?_
    rintro e w' ⟨N, rfl, _, _, b⟩
    refine ⟨⟨_, _, rfl, fun hn => ?_⟩, b⟩
    obtain ⟨a, b, c⟩ := isNum_all hn
    rw [atoi_num a b c] at h
    cases h
theorem opI_eq (c : UInt8) : Lib.indexByte [110, 105, 118, 119, 102, 116] c + 1 = opC c := by
  unfold opC
  simp only [Lib.indexByte]
  by_cases h1 : c = 110
  · subst h1; decide
  by_cases h2 : c = 105
  · subst h2; decide
  by_cases h3 : c = 118
  · subst h3; decide
  by_cases h4 : c = 119
  · subst h4; decide
  by_cases h5 : c = 102
  · subst h5; decide
  by_cases h6 : c = 116
  · subst h6; decide
  rw [if_neg h1, if_neg h2, if_neg h3, if_neg h4, if_neg h5, if_neg h6]
  have q : ∀ a : UInt8, c ≠ a → (a == c) = false := fun a h => by rw [beq_eq_false_iff_ne]; exact fun e => h e.symm
  simp [q 110 h1, q 105 h2, q 118 h3, q 119 h4, q 102 h5, q 116 h6]
/-! ### countFrom, tokenSize -/
theorem cF_drop {p : UInt8 → Bool} {l : Str} {k : Nat} (h : k < l.length) (hp : p l[k] = true) : cF p (l.drop k) = cF p (l.drop (k + 1)) + 1 := by
  rw [List.drop_eq_getElem_cons h]
  unfold cF
  rw [List.takeWhile_cons, if_pos hp, List.length_cons]
theorem cF_stop {p : UInt8 → Bool} {l : Str} {k : Nat} (h : ∀ h : k < l.length, p l[k] = false) : cF p (l.drop k) = 0 := by
  unfold cF
  rcases Nat.lt_or_ge k l.length with hk | hk
  · rw [List.drop_eq_getElem_cons hk, List.takeWhile_cons, h hk]; rfl
  · rw [List.drop_eq_nil_of_le hk]; rfl
def rng (lo hi : Nat) (c : UInt8) : Bool := decide (lo ≤ c.toNat) && decide (c.toNat ≤ hi)
theorem cF_A (s : Str) : cF (rng 97 122) s = cF isA s := rfl
theorem cF_D (s : Str) : cF (rng 48 57) s = cF isD s := rfl
set_option maxRecDepth 1000000 in
set_option maxHeartbeats 2000000 in
theorem countFrom_any (s : ByteArray) (hs : s.size ≤ 1000000) (lo hi : Nat) (hlo : lo < 256) (hhi : hi < 256) (w : World) :
    Calls Tryz.prog 171 #[.string s, .int .u8 (lo : Int), .int .u8 (hi : Int)] w fun e w' => e = .returned (.int .i64 (cF (rng lo hi) s.data.toList : Nat)) ∧ w' = w := by
  obtain ⟨R, hR⟩ : ∃ R, cF (rng lo hi) s.data.toList = R := ⟨_, rfl⟩
  have HR := Lib.hid hR
  rw [hR]
  clear hR
  have hl := len_data s
  go_enter Tryz.func171, Tryz.ntmps171
  go_wp2
  go_loopw [7] (fun v wr => ∃ k : Nat, k ≤ s.size ∧ v = .int .i64 k ∧ cF (rng lo hi) (s.data.toList.drop k) + k = R ∧ wr = w) (fun v _ => s.size - (intOf v).toNat)
  case atStart => exact ⟨0, Nat.zero_le _, rfl, HR.out, rfl⟩
  case round =>
    obtain ⟨k, hk, rfl, hkd, hw⟩ := hrel
    obtain rfl := hw.symm
    have HK := Lib.hid hkd
    clear hkd
    by_cases hlt : k < s.size
    · have h9 : (k : Int) < (s.size : Int) := by omega
      have hkl : k < s.data.toList.length := by rw [hl]; exact hlt
      have HG : Hid (s.data.toList[k] = s[k]) := Lib.hid rfl
      have HD := Lib.hid (cF_drop (p := rng lo hi) hkl)
      have HSt := Lib.hid (cF_stop (p := rng lo hi) (l := s.data.toList) (k := k))
      obtain ⟨b, hb⟩ : ∃ b, s[k] = b := ⟨_, rfl⟩
      have HBB : Hid (s.data.toList[k] = b) := Lib.hid (by rw [HG.out, hb])
      have hn := u8_lt b
      by_cases q1 : lo ≤ b.toNat
      · have e1 : (lo : Int) ≤ (b.toNat : Int) := by omega
        by_cases q2 : b.toNat ≤ hi
        · have e2 : (b.toNat : Int) ≤ (hi : Int) := by omega
          have HN : Hid (cF (rng lo hi) (s.data.toList.drop (k + 1)) + (k + 1) = R) := Lib.hid (by
            have := HD.out (by rw [HBB.out]; unfold rng; rw [decide_eq_true q1, decide_eq_true q2]; rfl)
            have := HK.out
            omega)
          clear HG HBB q1 q2
          go_wp2
          go_roundw
          case measure => simp [intOf]; omega
          case rel => exact ⟨k + 1, by omega, by go_num, HN.out, (by first | rfl | trivial)⟩
        · have e2 : ¬ (b.toNat : Int) ≤ (hi : Int) := by omega
          have HN : Hid (k = R) := Lib.hid (by
            have := HSt.out (fun _ => by rw [HBB.out]; unfold rng; rw [decide_eq_false q2]; simp)
            have := HK.out
            omega)
          clear HG HBB q1 q2
          go_wp2
          go_ret
          exact ⟨by rw [← HN.out]; rfl, rfl⟩
      · have e1 : ¬ (lo : Int) ≤ (b.toNat : Int) := by omega
        have HN : Hid (k = R) := Lib.hid (by
          have := HSt.out (fun _ => by rw [HBB.out]; unfold rng; rw [decide_eq_false q1]; rfl)
          have := HK.out
          omega)
        clear HG HBB q1
        go_wp2
        go_ret
        exact ⟨by rw [← HN.out]; rfl, rfl⟩
    · obtain rfl : k = s.size := by omega
      have h3 : ¬ (s.size : Int) < (s.size : Int) := by omega
      have HN : Hid (s.size = R) := Lib.hid (by
        have := HK.out
        rw [cF_stop (fun h => absurd h (by rw [hl]; omega))] at this
        omega)
      go_wp2
      go_ret
      exact ⟨by rw [← HN.out]; rfl, rfl⟩
theorem mx3 {P : Program} (a b : Int) (ts : Array TypeId) (t : TypeId) (wz : World) : (Builtin.max_ ts t #[.int .i64 1, .int .i64 a, .int .i64 b]).run P wz = .ok (.int .i64 (max (max 1 a) b)) wz := by
  have h : (Builtin.max_ ts t #[.int .i64 1, .int .i64 a, .int .i64 b]).run P wz = .ok (.int .i64 (if b > (if a > 1 then a else 1) then b else (if a > 1 then a else 1))) wz := by
    simp [Builtin.max_, Builtin.max2]
  rw [h]
  congr 2
  split <;> split <;> omega
theorem tokN_le (s : Str) : tokN s ≤ s.length := by
  unfold tokN
  have hA : ∀ p : UInt8 → Bool, cF p s ≤ s.length := fun p => by
    unfold cF
    exact (List.takeWhile_sublist p).length_le
  split
  · omega
  · rename_i h0
    have hp := List.length_pos_iff.2 h0
    split
    · rename_i h
      rcases h with h | h
      · have := congrArg List.length h
        rw [List.length_take] at this
        simp at this
        omega
      · have := congrArg List.length h
        rw [List.length_take] at this
        simp at this
        omega
    · have := hA isA
      have := hA isD
      omega
set_option maxRecDepth 1000000 in
set_option maxHeartbeats 2000000 in
theorem tokenSize_any (s : ByteArray) (hs : s.size ≤ 1000000) (w : World) :
    Calls Tryz.prog 135 #[.string s] w fun e w' => e = .returned (.int .i64 (tokN s.data.toList : Nat)) ∧ w' = w := by
  obtain ⟨R, hR⟩ : ∃ R, tokN s.data.toList = R := ⟨_, rfl⟩
  have HR := Lib.hid hR
  rw [hR]
  clear hR
  have hl := len_data s
  have HTN : Hid (tokN s.data.toList = if s.data.toList = [] then 0 else if s.data.toList.take 2 = [33, 61] ∨ s.data.toList.take 2 = [46, 46] then 2 else max 1 (max (cF isA s.data.toList) (cF isD s.data.toList))) := Lib.hid rfl
  have HP : Hid (∀ a b, Lib.hasPrefix s.data.toList [a, b] = decide (s.data.toList.take 2 = [a, b])) := Lib.hid (pre_two s.data.toList)
  by_cases h0 : s.size = 0
  · have e1 : (s.toList == ([] : List UInt8)) = true := by rw [ByteArray.toList_eq, data_nil h0]; rfl
    have HX : Hid (R = 0) := Lib.hid (by rw [← HR.out, data_nil h0]; rfl)
    clear h0 hl
    go_enter Tryz.func135, Tryz.ntmps135
    go_wp2
    go_ret
    exact ⟨by rw [HX.out]; rfl, rfl⟩
  have hne : s.data.toList ≠ [] := fun h => h0 (by rw [← hl, h]; rfl)
  have e1 : (s.toList == ([] : List UInt8)) = false := by rw [ByteArray.toList_eq, beq_eq_false_iff_ne]; exact hne
  have HT2 : Hid (R = if s.data.toList.take 2 = [33, 61] ∨ s.data.toList.take 2 = [46, 46] then 2 else max 1 (max (cF isA s.data.toList) (cF isD s.data.toList))) := Lib.hid (by rw [← HR.out, HTN.out, if_neg hne])
  clear h0 hne hl HTN
  go_enter Tryz.func135, Tryz.ntmps135
  go_wp2_with fail
  refine (Tryz.strings_HasPrefix s ⟨#[33, 61]⟩ _).mono ?_
  rintro e w' ⟨rfl, hw'⟩
  obtain rfl := hw'.symm
  rw [show (ByteArray.mk #[33, 61]).data.toList = [33, 61] from rfl, HP.out]
  obtain ⟨b1, hb1⟩ : ∃ b, decide (s.data.toList.take 2 = [33, 61]) = b := ⟨_, rfl⟩
  have HB1 := Lib.hid hb1
  rw [hb1]
  clear hb1
  cases b1 with
  | true =>
    have HX : Hid (R = 2) := Lib.hid (by rw [HT2.out, if_pos (.inl (of_decide_eq_true HB1.out))])
    go_wp2
    go_ret
    exact ⟨by rw [HX.out]; rfl, rfl⟩
  | false =>
    go_wp2_with fail
    refine (Tryz.strings_HasPrefix s ⟨#[46, 46]⟩ _).mono ?_
    rintro e w' ⟨rfl, hw'⟩
    obtain rfl := hw'.symm
    rw [show (ByteArray.mk #[46, 46]).data.toList = [46, 46] from rfl, HP.out]
    obtain ⟨b2, hb2⟩ : ∃ b, decide (s.data.toList.take 2 = [46, 46]) = b := ⟨_, rfl⟩
    have HB2 := Lib.hid hb2
    rw [hb2]
    clear hb2
    cases b2 with
    | true =>
      have HX : Hid (R = 2) := Lib.hid (by rw [HT2.out, if_pos (.inr (of_decide_eq_true HB2.out))])
      go_wp2
      go_ret
      exact ⟨by rw [HX.out]; rfl, rfl⟩
    | false =>
      have HX : Hid (R = max 1 (max (cF isA s.data.toList) (cF isD s.data.toList))) := Lib.hid (by
        rw [HT2.out, if_neg]
        rintro (h | h)
        · exact of_decide_eq_false HB1.out h
        · exact of_decide_eq_false HB2.out h)
      have HCA := Lib.hid (cF_A s.data.toList)
      have HCD := Lib.hid (cF_D s.data.toList)
      go_wp2_with fail
      refine (countFrom_any s hs 97 122 (by omega) (by omega) _).mono ?_
      rintro e w' ⟨rfl, hw'⟩
      obtain rfl := hw'.symm
      rw [HCA.out]
      go_wp2_with fail
      refine (countFrom_any s hs 48 57 (by omega) (by omega) _).mono ?_
      rintro e w' ⟨rfl, hw'⟩
      obtain rfl := hw'.symm
      rw [HCD.out]
      obtain ⟨a, ha⟩ : ∃ a, cF isA s.data.toList = a := ⟨_, rfl⟩
      obtain ⟨d, hd⟩ : ∃ d, cF isD s.data.toList = d := ⟨_, rfl⟩
      rw [ha, hd] at HX
      rw [ha, hd]
      have HM : Hid (max (max 1 (a : Int)) (d : Int) = (R : Int)) := Lib.hid (by rw [HX.out]; omega)
      have hmx : ∀ ts t wz, (Builtin.max_ ts t #[.int .i64 1, .int .i64 (a : Int), .int .i64 (d : Int)]).run Tryz.prog wz = .ok (.int .i64 (R : Int)) wz := fun ts t wz => by rw [mx3, HM.out]
      clear ha hd HCA HCD HP
      go_wp2
      go_ret
      exact ⟨rfl, rfl⟩
end Go.Proofs.YtmnclnpbmgomgaaGreatDoor


/- Of condition: the parser in memory; next, require, accept. Of condition: the parser's require, accept, number. Of condition: the parser's operand, span. -/
namespace Go.Proofs.YtmnclnpbmgomgaaGreatDoor
open Go.RowKit
set_option linter.unusedVariables false

theorem wrap_fit {x : Int} (h0 : -9223372036854775808 ≤ x) (h1 : x ≤ 9223372036854775807) : IntKind.i64.wrap x = x := by
  rw [IntKind.wrap_i64]; omega
theorem region_stail {P : Program} {w : World} {id : Nat} {Q : Exit → Act → World → Prop} {a : Act} {l : List Oper} (k : Nat) (hm : P.follows .mixedOrders = true) (hB : Region.lexTailB .any l.toArray k = true)
    (h : wpStill P l.toArray (w.drewN 1) (fun a' => wpList P l.toArray Q (l.drop k) a' (w.drewN 1)) (l.take k) a) : (Code.region id l.toArray true).wp P Q a w := wp_region_still_tail k hm hB h
/-- The parser, behind a pointer: good, in a state; or failed. -/
structure PS (w0 : World) (g : Nat) (text : ByteArray) (o : Option Pst) (w : World) : Prop where
  base : w0.heap.size ≤ g
  low : Below w0.heap.size w0 w
  st : ∃ (tok rest pre : Str) (rel f : Int), Blk g 143 #[.string text, .string (ofL tok), .int .i64 (pre.length : Nat), .int .i64 rel, .int .i64 f] w ∧ text.data.toList = pre ++ (tok ++ rest) ∧ (match o with
    | none => f ≠ 0
    | some p => f = 0 ∧ tok = p.tok ∧ rest = p.rest ∧ rel = (p.n : Int))
theorem PS.lt {w0 : World} {g : Nat} {text : ByteArray} {o : Option Pst} {w : World} (h : PS w0 g text o w) : g < w.heap.size := by
  obtain ⟨_, _, _, _, _, hb, _⟩ := h.st
  exact hb.lt
theorem PS.same {w0 : World} {g : Nat} {text : ByteArray} {o : Option Pst} {w w' : World} (h : PS w0 g text o w) (hg : w'.heap[g]? = w.heap[g]?) (hl : Below w0.heap.size w0 w') : PS w0 g text o w' := by
  obtain ⟨tok, rest, pre, rel, f, hb, h1, h2⟩ := h.st
  exact ⟨h.base, hl, tok, rest, pre, rel, f, hg.trans hb, h1, h2⟩
theorem PS.below {w0 : World} {g : Nat} {text : ByteArray} {o : Option Pst} {w w' : World} (h : PS w0 g text o w) (hb : Below w.heap.size w w') : PS w0 g text o w' :=
  h.same (hb.block g h.lt) (h.low.trans (hb.mono h.low.size))
theorem PS.good {w0 : World} {g : Nat} {text : ByteArray} {p : Pst} {w : World} (h : PS w0 g text (some p) w) : ∃ pre : Str, Blk g 143 #[.string text, .string (ofL p.tok), .int .i64 (pre.length : Nat), .int .i64 (p.n : Nat), .int .i64 0] w ∧ text.data.toList = pre ++ (p.tok ++ p.rest) := by
  obtain ⟨tok, rest, pre, rel, f, hb, h1, rfl, rfl, rfl, rfl⟩ := h.st
  exact ⟨pre, hb, h1⟩
theorem PS.bad {w0 : World} {g : Nat} {text : ByteArray} {w : World} (h : PS w0 g text none w) : ∃ (tok rest pre : Str) (rel f : Int), Blk g 143 #[.string text, .string (ofL tok), .int .i64 (pre.length : Nat), .int .i64 rel, .int .i64 f] w ∧ text.data.toList = pre ++ (tok ++ rest) ∧ f ≠ 0 := h.st
theorem PS.mk_good {w0 : World} {g : Nat} {text : ByteArray} {p : Pst} {w : World} {pre : Str} (hb : w0.heap.size ≤ g) (hl : Below w0.heap.size w0 w) (hk : Blk g 143 #[.string text, .string (ofL p.tok), .int .i64 (pre.length : Nat), .int .i64 (p.n : Nat), .int .i64 0] w) (ht : text.data.toList = pre ++ (p.tok ++ p.rest)) : PS w0 g text (some p) w :=
  ⟨hb, hl, _, _, pre, _, _, hk, ht, rfl, rfl, rfl, rfl⟩
theorem PS.mk_bad {w0 : World} {g : Nat} {text : ByteArray} {w : World} {tok rest pre : Str} {rel f : Int} (hb : w0.heap.size ≤ g) (hl : Below w0.heap.size w0 w) (hk : Blk g 143 #[.string text, .string (ofL tok), .int .i64 (pre.length : Nat), .int .i64 rel, .int .i64 f] w) (ht : text.data.toList = pre ++ (tok ++ rest)) (hf : f ≠ 0) : PS w0 g text none w :=
  ⟨hb, hl, tok, rest, pre, rel, f, hk, ht, hf⟩
/-- The current token, whether the parser is good or not. -/
theorem PS.tok {w0 : World} {g : Nat} {text : ByteArray} {o : Option Pst} {w : World} (h : PS w0 g text o w) : ∃ (tok : Str) (f : Int), w.cell? ⟨g, 1, none⟩ = some (.string (ofL tok)) ∧ w.cell? ⟨g, 4, none⟩ = some (.int .i64 f) ∧ tok.length ≤ text.size ∧ (f = 0 ↔ o.isSome = true) ∧ ∀ p, o = some p → p.tok = tok := by
  obtain ⟨tok, rest, pre, rel, f, hb, h1, h2⟩ := h.st
  refine ⟨tok, f, hb.cell 1, hb.cell 4, ?_, ?_, ?_⟩
  · have := congrArg List.length h1
    rw [len_data, List.length_append, List.length_append] at this
    omega
  · cases o with
    | none => simp; exact h2
    | some p => simp; exact h2.1
  · intro p hp
    subst hp
    exact h2.2.1.symm
theorem But.lowB {w0 w w' : World} {g : Nat} (h : But g w w') (hb : w0.heap.size ≤ g) (hl : Below w0.heap.size w0 w) : Below w0.heap.size w0 w' := hl.trans (h.below hb hl.size)
theorem keep_store {g : Nat} {text : ByteArray} {wx : World} (i : Nat) (hi : i ≠ 0) (u : Value) (h : wx.cell? ⟨g, 0, none⟩ = some (.string text) ∧ wx.frozen? ⟨g, 1, none⟩ = false ∧ wx.frozen? ⟨g, 2, none⟩ = false) :
    (wx.setCell ⟨g, i, none⟩ u).cell? ⟨g, 0, none⟩ = some (.string text) ∧ (wx.setCell ⟨g, i, none⟩ u).frozen? ⟨g, 1, none⟩ = false ∧ (wx.setCell ⟨g, i, none⟩ u).frozen? ⟨g, 2, none⟩ = false := by
  refine ⟨?_, ?_, ?_⟩
  · rw [World.cell?_setCell_other _ _ _ _ (by intro e; injection e with _ e2 _; first | exact hi e2 | exact hi e2.symm)]
    exact h.1
  · rw [World.frozen?_setCell]; exact h.2.1
  · rw [World.frozen?_setCell]; exact h.2.2
def NxPost (w0 : World) (g : Nat) (text : ByteArray) (o : Option Pst) (w : World) (e : Ending) (w' : World) : Prop := e = .returned (.tuple #[]) ∧ PS w0 g text o w' ∧ But g w w'
theorem skip_split (r : Str) : r = r.takeWhile isW ++ r.dropWhile isW := (List.takeWhile_append_dropWhile).symm
set_option maxRecDepth 1000000 in
set_option maxHeartbeats 4000000 in
theorem next_any (w0 : World) (g : Nat) (text : ByteArray) (hT : text.size ≤ 1000000) (o : Option Pst) (w : World) (h : PS w0 g text o w) :
    Calls Tryz.prog 97 #[.pointer (some ⟨g, 0, none⟩)] w (NxPost w0 g text (o.map nxt) w) := by
  cases o with
  | none =>
    have H := Lib.hid h
    obtain ⟨tok, rest, pre, rel, f, hb, h1, hf⟩ := h.bad
    have c4 : w.cell? ⟨g, 4, none⟩ = some (.int .i64 f) := hb.cell 4
    have e1 : (f == 0) = false := by rw [beq_eq_false_iff_ne]; exact hf
    have e2 : (f != 0) = true := by rw [bne_iff_ne]; exact hf
    clear h hb h1 hf
    go_enter Tryz.func97, Tryz.ntmps97
    go_wp2
    go_end0
    exact ⟨rfl, H.out, But.refl _ _⟩
  | some p =>
    obtain ⟨pre, hb, h1⟩ := h.good
    have HB := Lib.hid hb
    have H1 := Lib.hid h1
    have HBS := Lib.hid h.base
    have HLW := Lib.hid h.low
    have hlen := congrArg List.length h1
    rw [len_data, List.length_append, List.length_append] at hlen
    have c0 : w.cell? ⟨g, 0, none⟩ = some (.string text) := hb.cell 0
    have c1 : w.cell? ⟨g, 1, none⟩ = some (.string (ofL p.tok)) := hb.cell 1
    have c2 : w.cell? ⟨g, 2, none⟩ = some (.int .i64 (pre.length : Nat)) := hb.cell 2
    have c4 : w.cell? ⟨g, 4, none⟩ = some (.int .i64 0) := hb.cell 4
    have hsz := ofL_size p.tok
    have HX : Hid ((text.extract (pre.length + p.tok.length) text.size).data.toList = p.rest) := Lib.hid (by
      rw [ext_of, ofL_list, h1, List.drop_append, List.drop_eq_nil_of_le (by omega), List.nil_append, show pre.length + p.tok.length - pre.length = p.tok.length by omega, List.drop_left]
      exact List.take_of_length_le (by omega))
    obtain ⟨L, hL⟩ : ∃ L, pre.length = L := ⟨_, rfl⟩
    have HL := Lib.hid hL
    rw [hL] at c2 hlen HX
    obtain ⟨M, hM⟩ : ∃ M, p.tok.length = M := ⟨_, rfl⟩
    rw [hM] at hlen HX hsz
    clear h hb h1 hL hM
    obtain ⟨tk, htk⟩ : ∃ tk, ofL p.tok = tk := ⟨_, rfl⟩
    rw [htk] at c1 hsz
    clear htk
    obtain ⟨C, hC⟩ : ∃ C, L + M = C := ⟨_, rfl⟩
    have hK : (L : Int) + (M : Int) = (C : Int) := by omega
    have q0 : IntKind.i64.wrap (C : Int) = (C : Int) := wrap_fit (by omega) (by omega)
    have q1 : (C : Int) ≤ (text.size : Int) := by omega
    have q2 : C ≤ text.size := by omega
    rw [hC] at HX
    have HC := Lib.hid hC
    have HLEN := Lib.hid hlen
    clear hC hlen
    go_enter Tryz.func97, Tryz.ntmps97
    go_wp2_with fail
    have d0 : w.drew.cell? ⟨g, 0, none⟩ = some (.string text) := c0
    have d1 : w.drew.cell? ⟨g, 1, none⟩ = some (.string tk) := c1
    have d2 : w.drew.cell? ⟨g, 2, none⟩ = some (.int .i64 (L : Int)) := c2
    refine region_stail 15 (by kernel_rfl) (by decide +kernel) ?_
    simp only [List.take_succ_cons, List.take_zero, List.drop_succ_cons, List.drop_zero]
    iterate 15 still_step
    refine wpStill_nil ?_
    go_wp2_with fail
    refine (trimLeft_any _ _).mono ?_
    rintro e w5 ⟨rfl, b5⟩
    have B5 : Below w.heap.size w w5 := (below_drewN (Below.refl _ w) 1).trans b5
    have y0 := cell_later c0 B5
    clear b5 d0 d1 d2
    obtain ⟨T2, hT2⟩ : ∃ T2, ofL ((text.extract C text.size).data.toList.dropWhile isW) = T2 := ⟨_, rfl⟩
    have HT2 : Hid (T2.data.toList = p.rest.dropWhile isW) := Lib.hid (by rw [← hT2, ofL_list, HX.out])
    rw [hT2]
    clear hT2
    have hlen := HLEN.out
    have hskip := congrArg List.length (skip_split p.rest)
    rw [List.length_append, ← HT2.out, len_data] at hskip
    obtain ⟨A, hA⟩ : ∃ A, text.size - T2.size = A := ⟨_, rfl⟩
    have HA := Lib.hid hA
    have q3 : IntKind.i64.wrap (A : Int) = (A : Int) := wrap_fit (by omega) (by omega)
    have hk2 : (text.size : Int) - (T2.size : Int) = (A : Int) := by omega
    have hT3 : T2.size ≤ 1000000 := by omega
    have hn := tokN_le T2.data.toList
    rw [len_data] at hn
    obtain ⟨n, hnn⟩ : ∃ n, tokN T2.data.toList = n := ⟨_, rfl⟩
    have HTS : Hid (∀ wx, Calls Tryz.prog 135 #[.string T2] wx fun e w' => e = .returned (.int .i64 (n : Int)) ∧ w' = wx) := Lib.hid (fun wx => by rw [← hnn]; exact tokenSize_any T2 hT3 wx)
    rw [hnn] at hn
    have HN := Lib.hid hnn
    have q4 : (n : Int) ≤ (T2.size : Int) := by omega
    clear hnn hskip hA hlen
    have y4 := HB.out.frozen
    have KB5 := Lib.hid (HB.out.below B5)
    have HB5 := Lib.hid B5
    have z1 : w5.frozen? ⟨g, 1, none⟩ = false := KB5.out.frozen 1
    have z2 : w5.frozen? ⟨g, 2, none⟩ = false := KB5.out.frozen 2
    clear y4 B5 c0 c1 c2 c4
    go_upto_region 2 with fail
    obtain ⟨T3, hT3e⟩ : ∃ T3, T2.extract 0 n = T3 := ⟨_, rfl⟩
    have HT3 := Lib.hid hT3e
    have g2 : w5.drew.cell? ⟨g, 2, none⟩ = some (.int .i64 ((pre.length : Nat) : Int)) := KB5.out.cell 2
    have g1 : (w5.drew.setCell ⟨g, 2, none⟩ (.int .i64 (A : Int))).cell? ⟨g, 1, none⟩ = some (.string (ofL p.tok)) := (Blk.put (W := w5.drew) KB5.out 2 (.int .i64 (A : Int))).cell 1
    have g3 : w5.drew.frozen? ⟨g, 2, none⟩ = false := z2
    have g4 : (w5.drew.setCell ⟨g, 2, none⟩ (.int .i64 (A : Int))).frozen? ⟨g, 1, none⟩ = false := by rw [World.frozen?_setCell]; exact z1
    have g5 : ((w5.setCell ⟨g, 2, none⟩ (.int .i64 (A : Int))).drew).cell? ⟨g, 1, none⟩ = some (.string (ofL p.tok)) := (Blk.put (W := w5) KB5.out 2 (.int .i64 (A : Int))).cell 1
    have g6 : (w5.setCell ⟨g, 2, none⟩ (.int .i64 (A : Int))).drew.frozen? ⟨g, 1, none⟩ = false := (Blk.put (W := w5) KB5.out 2 (.int .i64 (A : Int))).frozen 1
    have g7 : (w5.setCell ⟨g, 2, none⟩ (.int .i64 (A : Int))).cell? ⟨g, 1, none⟩ = some (.string (ofL p.tok)) := (Blk.put (W := w5) KB5.out 2 (.int .i64 (A : Int))).cell 1
    go_region_held3 (fun wx => wx.cell? ⟨g, 0, none⟩ = some (.string text) ∧ wx.frozen? ⟨g, 1, none⟩ = false ∧ wx.frozen? ⟨g, 2, none⟩ = false) (first | exact ⟨y0, z1, z2⟩ | (refine keep_store 1 (by decide) _ ?_; assumption) | (refine keep_store 2 (by decide) _ ?_; assumption) | assumption) (first | (go_at_call 135; refine (HTS.out _).mono ?_; rintro e w' ⟨rfl, hw'⟩; obtain rfl := hw'.symm))
    go_wp2
    go_end0
    have K7 : Blk g 143 #[.string text, .string T3, .int .i64 (A : Int), .int .i64 (p.n : Int), .int .i64 0] (((w5.setCell ⟨g, 2, none⟩ (.int .i64 (A : Int))).setCell ⟨g, 1, none⟩ (.string T3)).drew) := (Blk.put (W := w5) KB5.out 2 (.int .i64 (A : Int))).put 1 (.string T3)
    have BU : But g w (((w5.setCell ⟨g, 2, none⟩ (.int .i64 (A : Int))).setCell ⟨g, 1, none⟩ (.string T3)).drew) := (((But.of_below (g := g) HB5.out).trans (But.setCell g _ 2 _)).trans (But.setCell g _ 1 _)).trans (But.of_below (Below.refl _ _).drew)
    refine ⟨rfl, ?_, BU⟩
    have e1 : T3 = ofL (nxt p).tok := by
      rw [← HT3.out, ext_of, HT2.out, List.drop_zero, Nat.sub_zero, ← HN.out, HT2.out]
      rfl
    have e2 : (nxt p).rest = (p.rest.dropWhile isW).drop n := by rw [← HN.out, HT2.out]; rfl
    have e3 : text.data.toList = (pre ++ (p.tok ++ p.rest.takeWhile isW)) ++ ((nxt p).tok ++ (nxt p).rest) := by
      have e4 : (nxt p).tok ++ (nxt p).rest = p.rest.dropWhile isW := List.take_append_drop _ _
      rw [e4, H1.out]
      conv => lhs; arg 2; arg 2; rw [skip_split p.rest]
      simp [List.append_assoc]
    have e5 : A = (pre ++ (p.tok ++ p.rest.takeWhile isW)).length := by
      have h1 := congrArg List.length e3
      have e4 : (nxt p).tok ++ (nxt p).rest = T2.data.toList := by rw [HT2.out]; exact List.take_append_drop _ _
      rw [List.length_append, e4, len_data, len_data] at h1
      have := HA.out
      omega
    refine PS.mk_good HBS.out (BU.lowB HBS.out HLW.out) ?_ e3
    rw [← e1, ← e5]
    exact K7
end Go.Proofs.YtmnclnpbmgomgaaGreatDoor

namespace Go.Proofs.YtmnclnpbmgomgaaGreatDoor
open Go.RowKit
set_option linter.unusedVariables false

def reqO (b : Bool) (o : Option Pst) : Option Pst := if b = true then o else none
theorem reqO_true (o : Option Pst) : reqO true o = o := rfl
theorem reqO_false (o : Option Pst) : reqO false o = none := rfl
theorem reqO_none (b : Bool) : reqO b none = none := by unfold reqO; split <;> rfl
def RqPost (w0 : World) (g : Nat) (text : ByteArray) (o : Option Pst) (w : World) (e : Ending) (w' : World) : Prop := NxPost w0 g text o w e w' ∧ ∀ i, i ≠ 4 → w'.cell? ⟨g, i, none⟩ = w.cell? ⟨g, i, none⟩
set_option maxRecDepth 1000000 in
set_option maxHeartbeats 2000000 in
theorem require_any (w0 : World) (g : Nat) (text : ByteArray) (o : Option Pst) (b : Bool) (ec : Int) (hec : ec ≠ 0) (w : World) (h : PS w0 g text o w) :
    Calls Tryz.prog 138 #[.pointer (some ⟨g, 0, none⟩), .bool b, .int .i64 ec] w (RqPost w0 g text (reqO b o) w) := by
  have H := Lib.hid h
  cases b with
  | true =>
    clear h
    go_enter Tryz.func138, Tryz.ntmps138
    go_wp2
    go_end0
    exact ⟨⟨rfl, H.out, But.refl _ _⟩, fun i _ => rfl⟩
  | false =>
    cases o with
    | none =>
      obtain ⟨tok, rest, pre, rel, f, hb, h1, hf⟩ := h.bad
      have c4 : w.cell? ⟨g, 4, none⟩ = some (.int .i64 f) := hb.cell 4
      have e1 : (f == 0) = false := by rw [beq_eq_false_iff_ne]; exact hf
      clear h hb h1 hf
      go_enter Tryz.func138, Tryz.ntmps138
      go_wp2
      go_end0
      exact ⟨⟨rfl, H.out, But.refl _ _⟩, fun i _ => rfl⟩
    | some p =>
      obtain ⟨pre, hb, h1⟩ := h.good
      have HB := Lib.hid hb
      have H1 := Lib.hid h1
      have c4 : w.cell? ⟨g, 4, none⟩ = some (.int .i64 0) := hb.cell 4
      have f4 : w.frozen? ⟨g, 4, none⟩ = false := hb.frozen 4
      have HEC := Lib.hid hec
      clear h hb h1 hec
      go_enter Tryz.func138, Tryz.ntmps138
      go_wp2
      go_end0
      have BU : But g w (w.setCell ⟨g, 4, none⟩ (.int .i64 ec)) := But.setCell g _ 4 _
      exact ⟨⟨rfl, PS.mk_bad H.out.base (BU.lowB H.out.base H.out.low) (HB.out.put 4 (.int .i64 ec)) H1.out HEC.out, BU⟩, fun i hi => World.cell?_setCell_other _ _ _ _ (by intro e; injection e with _ e2 _; first | exact hi e2 | exact hi e2.symm)⟩
def isTok (t : Str) (o : Option Pst) : Bool := match o with
  | some p => decide (p.tok = t)
  | none => false
def accO (t : Str) (o : Option Pst) : Option Pst := if isTok t o = true then o.map nxt else o
def AcPost (w0 : World) (g : Nat) (text : ByteArray) (t : Str) (o : Option Pst) (w : World) (e : Ending) (w' : World) : Prop := e = .returned (.bool (isTok t o)) ∧ PS w0 g text (accO t o) w' ∧ But g w w'
set_option maxRecDepth 1000000 in
set_option maxHeartbeats 2000000 in
theorem accept_any (w0 : World) (g : Nat) (text : ByteArray) (hT : text.size ≤ 1000000) (o : Option Pst) (t : ByteArray) (w : World) (h : PS w0 g text o w) :
    Calls Tryz.prog 137 #[.pointer (some ⟨g, 0, none⟩), .string t] w (AcPost w0 g text t.data.toList o w) := by
  have H := Lib.hid h
  cases o with
  | none =>
    obtain ⟨tok, rest, pre, rel, f, hb, h1, hf⟩ := h.bad
    have c4 : w.cell? ⟨g, 4, none⟩ = some (.int .i64 f) := hb.cell 4
    have e1 : (f == 0) = false := by rw [beq_eq_false_iff_ne]; exact hf
    have e2 : (f != 0) = true := by rw [bne_iff_ne]; exact hf
    clear h hb h1 hf
    go_enter Tryz.func137, Tryz.ntmps137
    go_wp2
    go_ret
    exact ⟨rfl, H.out, But.refl _ _⟩
  | some p =>
    obtain ⟨pre, hb, h1⟩ := h.good
    have c4 : w.cell? ⟨g, 4, none⟩ = some (.int .i64 0) := hb.cell 4
    have c1 : w.cell? ⟨g, 1, none⟩ = some (.string (ofL p.tok)) := hb.cell 1
    have HI : Hid (isTok t.data.toList (some p) = decide (p.tok = t.data.toList)) := Lib.hid rfl
    clear h hb h1
    by_cases ht : p.tok = t.data.toList
    · have e1 : ((ofL p.tok).toList == t.toList) = true := by rw [beq_iff_eq, ByteArray.toList_eq, ByteArray.toList_eq]; exact ht
      have e2 : ((ofL p.tok).toList != t.toList) = false := by rw [bne_eq_false_iff_eq, ByteArray.toList_eq, ByteArray.toList_eq]; exact ht
      have HV : Hid (isTok t.data.toList (some p) = true) := Lib.hid (by rw [HI.out, decide_eq_true ht])
      clear ht HI
      go_enter Tryz.func137, Tryz.ntmps137
      go_wp2_with fail
      refine (next_any w0 g text hT (some p) _ H.out).mono ?_
      rintro e w2 ⟨rfl, p2, b2⟩
      have P2 := Lib.hid p2
      have B2 := Lib.hid b2
      clear p2 b2
      go_wp2
      go_ret
      exact ⟨by rw [HV.out]; rfl, by unfold accO; rw [if_pos HV.out]; exact P2.out, B2.out⟩
    · have e1 : ((ofL p.tok).toList == t.toList) = false := by rw [beq_eq_false_iff_ne, ByteArray.toList_eq, ByteArray.toList_eq]; exact ht
      have e2 : ((ofL p.tok).toList != t.toList) = true := by rw [bne_iff_ne, ByteArray.toList_eq, ByteArray.toList_eq]; exact ht
      have HV : Hid (isTok t.data.toList (some p) = false) := Lib.hid (by rw [HI.out, decide_eq_false ht])
      clear ht HI
      go_enter Tryz.func137, Tryz.ntmps137
      go_wp2
      go_ret
      exact ⟨by rw [HV.out]; rfl, by unfold accO; rw [if_neg (by rw [HV.out]; simp)]; exact H.out, But.refl _ _⟩
/-! ### number -/
def numO (o : Option Pst) : Option Pst := match o with
  | some p => if isNum p.tok = true then some p else none
  | none => none
theorem numO_req (o : Option Pst) {t : Str} (ht : ∀ p, o = some p → p.tok = t) : reqO (isNum t) o = numO o := by
  cases o with
  | none => rw [reqO_none]; rfl
  | some p =>
    show (if isNum t = true then some p else none) = if isNum p.tok = true then some p else none
    rw [ht p rfl]
def NuPost (w0 : World) (g : Nat) (text : ByteArray) (o : Option Pst) (w : World) (e : Ending) (w' : World) : Prop := (∃ n : Int, e = .returned (.int .i64 n) ∧ ∀ p, numO o = some p → n = (val p.tok : Int)) ∧ PS w0 g text (numO o) w' ∧ But g w w'
theorem numO_some {o : Option Pst} {p : Pst} (h : numO o = some p) : o = some p ∧ isNum p.tok = true := by
  cases o with
  | none => cases h
  | some q =>
    unfold numO at h
    dsimp only at h
    split at h
    · rename_i hq
      injection h with h
      subst h
      exact ⟨rfl, hq⟩
    · cases h
theorem But.thenB {g : Nat} {w W W' : World} (h : But g w W) (b : Below W.heap.size W W') : But g w W' := h.trans (But.of_below b)
def nm1 (t : Str) : Bool := decide (0 < t.length) && decide (t.length ≤ 3) && decide (cF isD t = t.length)
theorem isNum_eq (t : Str) : isNum t = (nm1 t && (decide (t.length = 1) || decide (t.head? ≠ some 48))) := rfl
set_option maxRecDepth 1000000 in
set_option maxHeartbeats 8000000 in
theorem number_any (w0 : World) (E : Env w0) (g : Nat) (text : ByteArray) (hT : text.size ≤ 1000000) (o : Option Pst) (w : World) (h : PS w0 g text o w) :
    Calls Tryz.prog 190 #[.pointer (some ⟨g, 0, none⟩)] w (NuPost w0 g text o w) := by
  have H := Lib.hid h
  have HE := Lib.hid E
  obtain ⟨t, f, c1, c4, htl, hf, hp⟩ := h.tok
  have HP := Lib.hid hp
  have hsz := ofL_size t
  have HIN := Lib.hid (isNum_eq t)
  have HRQ := Lib.hid (numO_req o hp)
  have HDT : Hid ((ofL t).data.toList = t) := Lib.hid rfl
  obtain ⟨T, hTT⟩ : ∃ T, ofL t = T := ⟨_, rfl⟩
  have HTT := Lib.hid hTT
  rw [hTT] at c1 hsz HDT
  have hT2 : T.size ≤ 1000000 := by omega
  obtain ⟨D, hD⟩ : ∃ D, t.length = D := ⟨_, rfl⟩
  have HD := Lib.hid hD
  rw [hD] at hsz htl
  have hTD : Hid ((T.size : Int) = (D : Int)) := Lib.hid (by rw [hsz])
  have hcf : Hid (cF (rng 48 57) T.data.toList = cF isD t) := Lib.hid (by rw [HDT.out]; rfl)
  obtain ⟨C, hC⟩ : ∃ C, cF isD t = C := ⟨_, rfl⟩
  rw [hC] at hcf
  have HN1 : Hid (nm1 t = (decide (0 < D) && decide (D ≤ 3) && decide (C = D))) := Lib.hid (by rw [← hD, ← hC]; rfl)
  have HAT : Hid (∀ wx, But g w wx → Calls Tryz.prog 200 #[.string T] wx (AtPost t wx)) := Lib.hid (fun wx hb => by
    have hlow := hb.lowB H.out.base H.out.low
    obtain ⟨q1, q2⟩ := HE.out.cells hlow
    have := atoi_any T hT2 wx q1 q2
    rw [HDT.out] at this
    exact this)
  clear h c4 hf hp hTT hD hC E
  go_enter Tryz.func190, Tryz.ntmps190

  by_cases h0 : D = 0
  · have u0 : ¬ (0 : Int) < (D : Int) := by omega
    have HV : Hid (isNum t = false) := Lib.hid (by rw [HIN.out, HN1.out, decide_eq_false (by omega : ¬ 0 < D)]; rfl)
    clear h0
    go_wp2_with fail
    refine (require_any w0 g text o false 3 (by decide) _ H.out).mono ?_
    rintro e w2 ⟨⟨rfl, p2, b2⟩, k2⟩
    have P2 : Hid (PS w0 g text (numO o) w2) := Lib.hid (by rw [← HRQ.out, HV.out]; exact p2)
    have B2 := Lib.hid b2
    have d1 : w2.cell? ⟨g, 1, none⟩ = some (.string T) := (k2 1 (by decide)).trans c1
    clear p2 b2 k2
    go_wp2_with fail
    refine (HAT.out _ B2.out).mono ?_
    rintro e w3 ⟨⟨n, er, rfl, hn⟩, b3⟩
    have B3 := Lib.hid (B2.out.thenB b3)
    have P3 := Lib.hid (P2.out.below b3)
    have HNN := Lib.hid hn
    clear b3 hn
    go_wp2
    go_ret
    exact ⟨⟨n, rfl, fun p hp => by
      obtain ⟨h1, h2⟩ := numO_some hp
      have h3 := HP.out p h1
      rw [h3] at h2 ⊢
      exact HNN.out h2⟩, P3.out, B3.out⟩
  have u0 : (0 : Int) < (D : Int) := by omega
  by_cases h3 : 3 < D
  · have u1 : ¬ (D : Int) ≤ 3 := by omega
    have HV : Hid (isNum t = false) := Lib.hid (by rw [HIN.out, HN1.out, decide_eq_false (by omega : ¬ D ≤ 3)]; simp)
    clear h0 h3
    go_wp2_with fail
    refine (require_any w0 g text o false 3 (by decide) _ H.out).mono ?_
    rintro e w2 ⟨⟨rfl, p2, b2⟩, k2⟩
    have P2 : Hid (PS w0 g text (numO o) w2) := Lib.hid (by rw [← HRQ.out, HV.out]; exact p2)
    have B2 := Lib.hid b2
    have d1 : w2.cell? ⟨g, 1, none⟩ = some (.string T) := (k2 1 (by decide)).trans c1
    clear p2 b2 k2
    go_wp2_with fail
    refine (HAT.out _ B2.out).mono ?_
    rintro e w3 ⟨⟨n, er, rfl, hn⟩, b3⟩
    have B3 := Lib.hid (B2.out.thenB b3)
    have P3 := Lib.hid (P2.out.below b3)
    have HNN := Lib.hid hn
    clear b3 hn
    go_wp2
    go_ret
    exact ⟨⟨n, rfl, fun p hp => by
      obtain ⟨h1, h2⟩ := numO_some hp
      have h3 := HP.out p h1
      rw [h3] at h2 ⊢
      exact HNN.out h2⟩, P3.out, B3.out⟩
  have u1 : (D : Int) ≤ 3 := by omega
  go_wp2_with fail
  refine (countFrom_any T hT2 48 57 (by omega) (by omega) _).mono ?_
  rintro e w' ⟨rfl, hw'⟩
  obtain rfl := hw'.symm
  rw [hcf.out]
  by_cases hc : C = D
  case neg =>
    have u2 : ((C : Int) == (D : Int)) = false := by rw [beq_eq_false_iff_ne]; omega
    have u2' : (C == D) = false := by rw [beq_eq_false_iff_ne]; omega
    have HV : Hid (isNum t = false) := Lib.hid (by rw [HIN.out, HN1.out, decide_eq_false hc]; simp)
    clear h0 h3 hc
    go_wp2_with fail
    refine (require_any w0 g text o false 3 (by decide) _ H.out).mono ?_
    rintro e w2 ⟨⟨rfl, p2, b2⟩, k2⟩
    have P2 : Hid (PS w0 g text (numO o) w2) := Lib.hid (by rw [← HRQ.out, HV.out]; exact p2)
    have B2 := Lib.hid b2
    have d1 : w2.cell? ⟨g, 1, none⟩ = some (.string T) := (k2 1 (by decide)).trans c1
    clear p2 b2 k2
    go_wp2_with fail
    refine (HAT.out _ B2.out).mono ?_
    rintro e w3 ⟨⟨n, er, rfl, hn⟩, b3⟩
    have B3 := Lib.hid (B2.out.thenB b3)
    have P3 := Lib.hid (P2.out.below b3)
    have HNN := Lib.hid hn
    clear b3 hn
    go_wp2
    go_ret
    exact ⟨⟨n, rfl, fun p hp => by
      obtain ⟨h1, h2⟩ := numO_some hp
      have h3 := HP.out p h1
      rw [h3] at h2 ⊢
      exact HNN.out h2⟩, P3.out, B3.out⟩
  have u2 : ((C : Int) == (D : Int)) = true := by rw [beq_iff_eq]; omega
  have u2' : (C == D) = true := by rw [beq_iff_eq]; omega
  have HN2 : Hid (isNum t = (decide (D = 1) || decide (t.head? ≠ some 48))) := Lib.hid (by rw [HIN.out, HN1.out, decide_eq_true (by omega : 0 < D), decide_eq_true (by omega : D ≤ 3), decide_eq_true hc, HD.out]; rfl)
  by_cases h1 : D = 1
  · have u3 : ((D : Int) == 1) = true := by rw [beq_iff_eq]; omega
    have u3' : (D == 1) = true := by rw [beq_iff_eq]; omega
    have HV : Hid (isNum t = true) := Lib.hid (by rw [HN2.out, decide_eq_true h1]; rfl)
    clear h0 h3 hc h1
    go_wp2_with fail
    refine (require_any w0 g text o true 3 (by decide) _ H.out).mono ?_
    rintro e w2 ⟨⟨rfl, p2, b2⟩, k2⟩
    have P2 : Hid (PS w0 g text (numO o) w2) := Lib.hid (by rw [← HRQ.out, HV.out]; exact p2)
    have B2 := Lib.hid b2
    have d1 : w2.cell? ⟨g, 1, none⟩ = some (.string T) := (k2 1 (by decide)).trans c1
    clear p2 b2 k2
    go_wp2_with fail
    refine (HAT.out _ B2.out).mono ?_
    rintro e w3 ⟨⟨n, er, rfl, hn⟩, b3⟩
    have B3 := Lib.hid (B2.out.thenB b3)
    have P3 := Lib.hid (P2.out.below b3)
    have HNN := Lib.hid hn
    clear b3 hn
    go_wp2
    go_ret
    exact ⟨⟨n, rfl, fun p hp => by
      obtain ⟨h1, h2⟩ := numO_some hp
      have h3 := HP.out p h1
      rw [h3] at h2 ⊢
      exact HNN.out h2⟩, P3.out, B3.out⟩
  have u3 : ((D : Int) == 1) = false := by rw [beq_eq_false_iff_ne]; omega
  have u3' : (D == 1) = false := by rw [beq_eq_false_iff_ne]; omega
  have hpos : 0 < T.size := by omega
  have HH : Hid (t.head? = some (T[0]'hpos)) := Lib.hid (by rw [← HDT.out]; exact head_data hpos)
  have u4 : (0 : Int) < (T.size : Int) := by omega
  obtain ⟨cc, hcc⟩ : ∃ cc, T[0]'hpos = cc := ⟨_, rfl⟩
  have hcn := u8_lt cc
  rw [hcc] at HH
  by_cases h48 : cc = 48
  · have u5 : ((cc.toNat : Int) == 48) = true := by rw [beq_iff_eq, h48]; rfl
    have u5' : ((cc.toNat : Int) != 48) = false := by rw [bne_eq_false_iff_eq, h48]; rfl
    have HV : Hid (isNum t = false) := Lib.hid (by rw [HN2.out, decide_eq_false h1, HH.out, h48]; simp)
    clear h0 h3 hc h1 h48
    go_wp2_with fail
    refine (require_any w0 g text o false 3 (by decide) _ H.out).mono ?_
    rintro e w2 ⟨⟨rfl, p2, b2⟩, k2⟩
    have P2 : Hid (PS w0 g text (numO o) w2) := Lib.hid (by rw [← HRQ.out, HV.out]; exact p2)
    have B2 := Lib.hid b2
    have d1 : w2.cell? ⟨g, 1, none⟩ = some (.string T) := (k2 1 (by decide)).trans c1
    clear p2 b2 k2
    go_wp2_with fail
    refine (HAT.out _ B2.out).mono ?_
    rintro e w3 ⟨⟨n, er, rfl, hn⟩, b3⟩
    have B3 := Lib.hid (B2.out.thenB b3)
    have P3 := Lib.hid (P2.out.below b3)
    have HNN := Lib.hid hn
    clear b3 hn
    go_wp2
    go_ret
    exact ⟨⟨n, rfl, fun p hp => by
      obtain ⟨h1, h2⟩ := numO_some hp
      have h3 := HP.out p h1
      rw [h3] at h2 ⊢
      exact HNN.out h2⟩, P3.out, B3.out⟩
  · have u5 : ((cc.toNat : Int) == 48) = false := by
      rw [beq_eq_false_iff_ne]
      intro e
      exact h48 (u8_ext (by show cc.toNat = 48; omega))
    have u5' : ((cc.toNat : Int) != 48) = true := by
      rw [bne_iff_ne]
      intro e
      exact h48 (u8_ext (by show cc.toNat = 48; omega))
    have HV : Hid (isNum t = true) := Lib.hid (by rw [HN2.out, HH.out, decide_eq_true (by intro e; injection e with e; exact h48 e : some cc ≠ some 48)]; simp)
    clear h0 h3 hc h1 h48
    go_wp2_with fail
    refine (require_any w0 g text o true 3 (by decide) _ H.out).mono ?_
    rintro e w2 ⟨⟨rfl, p2, b2⟩, k2⟩
    have P2 : Hid (PS w0 g text (numO o) w2) := Lib.hid (by rw [← HRQ.out, HV.out]; exact p2)
    have B2 := Lib.hid b2
    have d1 : w2.cell? ⟨g, 1, none⟩ = some (.string T) := (k2 1 (by decide)).trans c1
    clear p2 b2 k2
    go_wp2_with fail
    refine (HAT.out _ B2.out).mono ?_
    rintro e w3 ⟨⟨n, er, rfl, hn⟩, b3⟩
    have B3 := Lib.hid (B2.out.thenB b3)
    have P3 := Lib.hid (P2.out.below b3)
    have HNN := Lib.hid hn
    clear b3 hn
    go_wp2
    go_ret
    exact ⟨⟨n, rfl, fun p hp => by
      obtain ⟨h1, h2⟩ := numO_some hp
      have h3 := HP.out p h1
      rw [h3] at h2 ⊢
      exact HNN.out h2⟩, P3.out, B3.out⟩
end Go.Proofs.YtmnclnpbmgomgaaGreatDoor

namespace Go.Proofs.YtmnclnpbmgomgaaGreatDoor
open Go.RowKit
set_option linter.unusedVariables false

theorem PS.setRel {w0 : World} {g : Nat} {text : ByteArray} {o : Option Pst} {w : World} (h : PS w0 g text o w) (r : Nat) : PS w0 g text (o.map fun p => ⟨p.tok, p.rest, r⟩) (w.setCell ⟨g, 3, none⟩ (.int .i64 (r : Int))) := by
  have BU : But g w (w.setCell ⟨g, 3, none⟩ (.int .i64 (r : Int))) := But.setCell g _ 3 _
  obtain ⟨tok, rest, pre, rel, f, hb, h1, h2⟩ := h.st
  refine ⟨h.base, BU.lowB h.base h.low, tok, rest, pre, r, f, hb.put 3 (.int .i64 (r : Int)), h1, ?_⟩
  cases o with
  | none => exact h2
  | some p => exact ⟨h2.1, h2.2.1, h2.2.2.1, rfl⟩
theorem nxt_mk (t rest : Str) (m : Nat) : nxt ⟨t, rest, m⟩ = N rest m := by unfold nxt; with_reducible rfl
theorem opS_tt (t rest : Str) (n m : Nat) : (reqO true ((reqO true (some (⟨t, rest, n⟩ : Pst))).map fun p => (⟨p.tok, p.rest, m⟩ : Pst))).map nxt = some (N rest m) := by
  rw [reqO_true, reqO_true, Option.map_some, Option.map_some, nxt_mk]
theorem opS_ft (x : Option Pst) (b : Bool) (f : Pst → Pst) : (reqO b ((reqO false x).map f)).map nxt = none := by
  rw [reqO_false, Option.map_none, reqO_none, Option.map_none]
theorem opS_tf (x : Option Pst) : (reqO false x).map nxt = none := by rw [reqO_false, Option.map_none]
def opO (p : Pst) : Option Pst := if 0 < opM p.tok ∧ p.n < 6 then some (N p.rest (p.n + 1)) else none
theorem opO_many {p : Pst} {m : Nat} (h : p.n + 1 = m) (h6 : ¬ m ≤ 6) : opO p = none := by
  unfold opO
  rw [if_neg]
  intro h1
  omega
theorem opO_no {p : Pst} (h : ¬ 0 < opM p.tok) : opO p = none := by
  unfold opO
  rw [if_neg]
  intro h1
  exact h h1.1
theorem opO_yes {p : Pst} {m : Nat} (h : p.n + 1 = m) (h6 : m ≤ 6) (hk : 0 < opM p.tok) : opO p = some (N p.rest m) := by
  unfold opO
  rw [if_pos ⟨hk, by omega⟩, h]
def OpP (w0 : World) (g : Nat) (text : ByteArray) (p : Pst) (w : World) (e : Ending) (w' : World) : Prop := (∃ k : Int, e = .returned (.int .i64 k) ∧ ((opO p).isSome = true → k = opM p.tok)) ∧ PS w0 g text (opO p) w' ∧ But g w w'
theorem opM_one {t : Str} (h : t.length ≠ 1) : opM t = 0 := by
  match t, h with
  | [], _ => rfl
  | [c], h => exact absurd rfl h
  | _ :: _ :: _, _ => rfl
set_option maxRecDepth 1000000 in
set_option maxHeartbeats 8000000 in
theorem poperand_any (w0 : World) (g : Nat) (text : ByteArray) (hT : text.size ≤ 1000000) (p : Pst) (hn6 : p.n ≤ 6) (w : World) (h : PS w0 g text (some p) w) :
    Calls Tryz.prog 189 #[.pointer (some ⟨g, 0, none⟩)] w (OpP w0 g text p w) := by
  have H := Lib.hid h
  obtain ⟨pre, hb, h1⟩ := h.good
  have c1 : w.cell? ⟨g, 1, none⟩ = some (.string (ofL p.tok)) := hb.cell 1
  have c3 : w.cell? ⟨g, 3, none⟩ = some (.int .i64 (p.n : Int)) := hb.cell 3
  have HO : Hid (opO p = if 0 < opM p.tok ∧ p.n < 6 then some (N p.rest (p.n + 1)) else none) := Lib.hid rfl
  obtain ⟨tok, rest, n⟩ := p
  dsimp only at hn6 c1 c3 HO ⊢
  have hsz := ofL_size tok
  obtain ⟨K, hK⟩ : ∃ K, opM tok = K := ⟨_, rfl⟩
  have HK := Lib.hid hK
  clear h hb h1
  by_cases hl : tok.length = 1
  · obtain ⟨c, hc⟩ : ∃ c, tok = [c] := by
      match tok, hl with
      | [c], _ => exact ⟨c, rfl⟩
    subst hc
    have e1 : (((ofL [c]).size : Int) == 1) = true := rfl
    have hok : Lib.indexByte [110, 105, 118, 119, 102, 116] c + 1 = K := by rw [opI_eq, ← hK]; rfl
    have hkr := opM_range [c]
    rw [hK] at hkr
    have HRG := Lib.hid hkr
    obtain ⟨I, hI⟩ : ∃ I, Lib.indexByte [110, 105, 118, 119, 102, 116] c = I := ⟨_, rfl⟩
    have HI := Lib.hid hI
    rw [hI] at hok
    have e2 : IntKind.i64.wrap K = K := wrap_fit (by omega) (by omega)
    have HRI : Hid (-1 ≤ I ∧ I ≤ 5) := Lib.hid (by omega)
    clear hI hl hK hkr
    go_enter Tryz.func189, Tryz.ntmps189
    go_wp2_with fail
    refine (Tryz.strings_Index_one ⟨#[110, 105, 118, 119, 102, 116]⟩ c _).mono ?_
    rintro e w' ⟨rfl, hw'⟩
    obtain rfl := hw'.symm
    rw [show (ByteArray.mk #[110, 105, 118, 119, 102, 116]).data.toList = [110, 105, 118, 119, 102, 116] from rfl, HI.out]
    by_cases hK0 : 0 < K
    · have u0 : decide ((0 : Int) < K) = true := decide_eq_true hK0
      have HPOS := Lib.hid hK0
      clear hK0
      have f3 : ∀ wx o, PS w0 g text o wx → wx.frozen? ⟨g, 3, none⟩ = false := fun wx o hx => by obtain ⟨_, _, _, _, _, hbl, _⟩ := hx.st; exact hbl.frozen 3
      have HF3 := Lib.hid f3
      clear f3
      go_wp2_with fail
      refine (require_any w0 g text (some ⟨[c], rest, n⟩) true 3 (by decide) _ H.out).mono ?_
      rintro e w2 ⟨⟨rfl, p2, b2⟩, k2⟩
      have d3 : w2.cell? ⟨g, 3, none⟩ = some (.int .i64 (n : Int)) := (k2 3 (by decide)).trans c3
      have d4 := HF3.out _ _ p2
      have P3 := Lib.hid (p2.setRel (n + 1))
      have B3 := Lib.hid (b2.trans (But.setCell g w2 3 (.int .i64 ((n + 1 : Nat) : Int))))
      have hpc : (n : Int) + 1 = ((n + 1 : Nat) : Int) := by omega
      have q1 : IntKind.i64.wrap ((n + 1 : Nat) : Int) = ((n + 1 : Nat) : Int) := wrap_fit (by omega) (by omega)
      obtain ⟨m, hm⟩ : ∃ m, n + 1 = m := ⟨_, rfl⟩
      have HM := Lib.hid hm
      rw [hm] at P3 B3 hpc q1
      have d5 : (w2.setCell ⟨g, 3, none⟩ (.int .i64 (m : Int))).cell? ⟨g, 3, none⟩ = some (.int .i64 (m : Int)) := by obtain ⟨_, _, _, _, _, hbl, _⟩ := p2.st; exact (hbl.put 3 (.int .i64 (m : Int))).cell 3
      clear p2 b2 k2 hm
      by_cases h6 : m ≤ 6
      · have u6 : decide ((m : Int) ≤ 6) = true := decide_eq_true (Int.ofNat_le.2 h6)
        have u6' : decide (m ≤ 6) = true := decide_eq_true h6
        have HV : Hid (opO ⟨[c], rest, n⟩ = some (N rest m)) := Lib.hid (opO_yes (p := ⟨[c], rest, n⟩) HM.out h6 (by rw [HK.out]; first | exact HPOS.out | exact Int.not_lt.2 HPOS.out))
        go_wp2_with fail
        refine (require_any w0 g text _ true 6 (by decide) _ P3.out).mono ?_
        rintro e w4 ⟨⟨rfl, p4, b4⟩, _⟩
        have P4 := Lib.hid p4
        have B4 := Lib.hid (B3.out.trans b4)
        clear p4 b4
        go_wp2_with fail
        refine (next_any w0 g text hT _ _ P4.out).mono ?_
        rintro e w5 ⟨rfl, p5, b5⟩
        rw [opS_tt] at p5
        have P5 := Lib.hid p5
        have B5 := Lib.hid (B4.out.trans b5)
        clear p5 b5
        go_wp2
        go_ret
        exact ⟨⟨_, rfl, fun _ => by first | rfl | exact HK.out.symm⟩, by rw [HV.out]; exact P5.out, B5.out⟩
      · have u6 : decide ((m : Int) ≤ 6) = false := decide_eq_false (fun h => h6 (Int.ofNat_le.1 h))
        have u6' : decide (m ≤ 6) = false := decide_eq_false h6
        have HV : Hid (opO ⟨[c], rest, n⟩ = none) := Lib.hid (opO_many (p := ⟨[c], rest, n⟩) HM.out h6)
        go_wp2_with fail
        refine (require_any w0 g text _ false 6 (by decide) _ P3.out).mono ?_
        rintro e w4 ⟨⟨rfl, p4, b4⟩, _⟩
        have P4 := Lib.hid p4
        have B4 := Lib.hid (B3.out.trans b4)
        clear p4 b4
        go_wp2_with fail
        refine (next_any w0 g text hT _ _ P4.out).mono ?_
        rintro e w5 ⟨rfl, p5, b5⟩
        rw [opS_tf] at p5
        have P5 := Lib.hid p5
        have B5 := Lib.hid (B4.out.trans b5)
        clear p5 b5
        go_wp2
        go_ret
        exact ⟨⟨_, rfl, fun hh => by rw [HV.out] at hh; cases hh⟩, by rw [HV.out]; exact P5.out, B5.out⟩
    · have u0 : decide ((0 : Int) < K) = false := decide_eq_false hK0
      have HPOS := Lib.hid hK0
      clear hK0
      have f3 : ∀ wx o, PS w0 g text o wx → wx.frozen? ⟨g, 3, none⟩ = false := fun wx o hx => by obtain ⟨_, _, _, _, _, hbl, _⟩ := hx.st; exact hbl.frozen 3
      have HF3 := Lib.hid f3
      clear f3
      go_wp2_with fail
      refine (require_any w0 g text (some ⟨[c], rest, n⟩) false 3 (by decide) _ H.out).mono ?_
      rintro e w2 ⟨⟨rfl, p2, b2⟩, k2⟩
      have d3 : w2.cell? ⟨g, 3, none⟩ = some (.int .i64 (n : Int)) := (k2 3 (by decide)).trans c3
      have d4 := HF3.out _ _ p2
      have P3 := Lib.hid (p2.setRel (n + 1))
      have B3 := Lib.hid (b2.trans (But.setCell g w2 3 (.int .i64 ((n + 1 : Nat) : Int))))
      have hpc : (n : Int) + 1 = ((n + 1 : Nat) : Int) := by omega
      have q1 : IntKind.i64.wrap ((n + 1 : Nat) : Int) = ((n + 1 : Nat) : Int) := wrap_fit (by omega) (by omega)
      obtain ⟨m, hm⟩ : ∃ m, n + 1 = m := ⟨_, rfl⟩
      have HM := Lib.hid hm
      rw [hm] at P3 B3 hpc q1
      have d5 : (w2.setCell ⟨g, 3, none⟩ (.int .i64 (m : Int))).cell? ⟨g, 3, none⟩ = some (.int .i64 (m : Int)) := by obtain ⟨_, _, _, _, _, hbl, _⟩ := p2.st; exact (hbl.put 3 (.int .i64 (m : Int))).cell 3
      clear p2 b2 k2 hm
      by_cases h6 : m ≤ 6
      · have u6 : decide ((m : Int) ≤ 6) = true := decide_eq_true (Int.ofNat_le.2 h6)
        have u6' : decide (m ≤ 6) = true := decide_eq_true h6
        have HV : Hid (opO ⟨[c], rest, n⟩ = none) := Lib.hid (opO_no (p := ⟨[c], rest, n⟩) (by rw [HK.out]; first | exact HPOS.out | exact Int.not_lt.2 HPOS.out))
        go_wp2_with fail
        refine (require_any w0 g text _ true 6 (by decide) _ P3.out).mono ?_
        rintro e w4 ⟨⟨rfl, p4, b4⟩, _⟩
        have P4 := Lib.hid p4
        have B4 := Lib.hid (B3.out.trans b4)
        clear p4 b4
        go_wp2_with fail
        refine (next_any w0 g text hT _ _ P4.out).mono ?_
        rintro e w5 ⟨rfl, p5, b5⟩
        rw [opS_ft] at p5
        have P5 := Lib.hid p5
        have B5 := Lib.hid (B4.out.trans b5)
        clear p5 b5
        go_wp2
        go_ret
        exact ⟨⟨_, rfl, fun hh => by rw [HV.out] at hh; cases hh⟩, by rw [HV.out]; exact P5.out, B5.out⟩
      · have u6 : decide ((m : Int) ≤ 6) = false := decide_eq_false (fun h => h6 (Int.ofNat_le.1 h))
        have u6' : decide (m ≤ 6) = false := decide_eq_false h6
        have HV : Hid (opO ⟨[c], rest, n⟩ = none) := Lib.hid (opO_no (p := ⟨[c], rest, n⟩) (by rw [HK.out]; first | exact HPOS.out | exact Int.not_lt.2 HPOS.out))
        go_wp2_with fail
        refine (require_any w0 g text _ false 6 (by decide) _ P3.out).mono ?_
        rintro e w4 ⟨⟨rfl, p4, b4⟩, _⟩
        have P4 := Lib.hid p4
        have B4 := Lib.hid (B3.out.trans b4)
        clear p4 b4
        go_wp2_with fail
        refine (next_any w0 g text hT _ _ P4.out).mono ?_
        rintro e w5 ⟨rfl, p5, b5⟩
        rw [opS_ft] at p5
        have P5 := Lib.hid p5
        have B5 := Lib.hid (B4.out.trans b5)
        clear p5 b5
        go_wp2
        go_ret
        exact ⟨⟨_, rfl, fun hh => by rw [HV.out] at hh; cases hh⟩, by rw [HV.out]; exact P5.out, B5.out⟩
  · have e1 : (((ofL tok).size : Int) == 1) = false := by rw [beq_eq_false_iff_ne, hsz]; omega
    have e1' : ((tok.length : Int) == 1) = false := by rw [beq_eq_false_iff_ne]; omega
    have e1'' : (tok.length == 1) = false := by rw [beq_eq_false_iff_ne]; exact hl
    have HPOS : Hid (¬ (0 : Int) < opM tok) := Lib.hid (by rw [opM_one hl]; omega)
    clear hl hK
    go_enter Tryz.func189, Tryz.ntmps189
    have f3 : ∀ wx o, PS w0 g text o wx → wx.frozen? ⟨g, 3, none⟩ = false := fun wx o hx => by obtain ⟨_, _, _, _, _, hbl, _⟩ := hx.st; exact hbl.frozen 3
    have HF3 := Lib.hid f3
    clear f3
    go_wp2_with fail
    refine (require_any w0 g text (some ⟨tok, rest, n⟩) false 3 (by decide) _ H.out).mono ?_
    rintro e w2 ⟨⟨rfl, p2, b2⟩, k2⟩
    have d3 : w2.cell? ⟨g, 3, none⟩ = some (.int .i64 (n : Int)) := (k2 3 (by decide)).trans c3
    have d4 := HF3.out _ _ p2
    have P3 := Lib.hid (p2.setRel (n + 1))
    have B3 := Lib.hid (b2.trans (But.setCell g w2 3 (.int .i64 ((n + 1 : Nat) : Int))))
    have hpc : (n : Int) + 1 = ((n + 1 : Nat) : Int) := by omega
    have q1 : IntKind.i64.wrap ((n + 1 : Nat) : Int) = ((n + 1 : Nat) : Int) := wrap_fit (by omega) (by omega)
    obtain ⟨m, hm⟩ : ∃ m, n + 1 = m := ⟨_, rfl⟩
    have HM := Lib.hid hm
    rw [hm] at P3 B3 hpc q1
    have d5 : (w2.setCell ⟨g, 3, none⟩ (.int .i64 (m : Int))).cell? ⟨g, 3, none⟩ = some (.int .i64 (m : Int)) := by obtain ⟨_, _, _, _, _, hbl, _⟩ := p2.st; exact (hbl.put 3 (.int .i64 (m : Int))).cell 3
    clear p2 b2 k2 hm
    by_cases h6 : m ≤ 6
    · have u6 : decide ((m : Int) ≤ 6) = true := decide_eq_true (Int.ofNat_le.2 h6)
      have u6' : decide (m ≤ 6) = true := decide_eq_true h6
      have HV : Hid (opO ⟨tok, rest, n⟩ = none) := Lib.hid (opO_no (p := ⟨tok, rest, n⟩) (by first | exact HPOS.out | exact Int.not_lt.2 HPOS.out))
      go_wp2_with fail
      refine (require_any w0 g text _ true 6 (by decide) _ P3.out).mono ?_
      rintro e w4 ⟨⟨rfl, p4, b4⟩, _⟩
      have P4 := Lib.hid p4
      have B4 := Lib.hid (B3.out.trans b4)
      clear p4 b4
      go_wp2_with fail
      refine (next_any w0 g text hT _ _ P4.out).mono ?_
      rintro e w5 ⟨rfl, p5, b5⟩
      rw [opS_ft] at p5
      have P5 := Lib.hid p5
      have B5 := Lib.hid (B4.out.trans b5)
      clear p5 b5
      go_wp2
      go_ret
      exact ⟨⟨_, rfl, fun hh => by rw [HV.out] at hh; cases hh⟩, by rw [HV.out]; exact P5.out, B5.out⟩
    · have u6 : decide ((m : Int) ≤ 6) = false := decide_eq_false (fun h => h6 (Int.ofNat_le.1 h))
      have u6' : decide (m ≤ 6) = false := decide_eq_false h6
      have HV : Hid (opO ⟨tok, rest, n⟩ = none) := Lib.hid (opO_no (p := ⟨tok, rest, n⟩) (by first | exact HPOS.out | exact Int.not_lt.2 HPOS.out))
      go_wp2_with fail
      refine (require_any w0 g text _ false 6 (by decide) _ P3.out).mono ?_
      rintro e w4 ⟨⟨rfl, p4, b4⟩, _⟩
      have P4 := Lib.hid p4
      have B4 := Lib.hid (B3.out.trans b4)
      clear p4 b4
      go_wp2_with fail
      refine (next_any w0 g text hT _ _ P4.out).mono ?_
      rintro e w5 ⟨rfl, p5, b5⟩
      rw [opS_ft] at p5
      have P5 := Lib.hid p5
      have B5 := Lib.hid (B4.out.trans b5)
      clear p5 b5
      go_wp2
      go_ret
      exact ⟨⟨_, rfl, fun hh => by rw [HV.out] at hh; cases hh⟩, by rw [HV.out]; exact P5.out, B5.out⟩
end Go.Proofs.YtmnclnpbmgomgaaGreatDoor


/- Of condition: the parser's span. -/
namespace Go.Proofs.YtmnclnpbmgomgaaGreatDoor
open Go.RowKit
set_option linter.unusedVariables false

def stA (op : Int) (k : Nat) (n : Int) (o : Option Pst) : Option Pst := (reqO (decide (k < 4)) (reqO (okEnd op n) (numO o))).map nxt
theorem numO_yes {p : Pst} (h : isNum p.tok = true) : numO (some p) = some p := by
  show (if isNum p.tok = true then some p else none) = some p
  rw [if_pos h]
theorem numO_no {p : Pst} (h : isNum p.tok ≠ true) : numO (some p) = none := by
  show (if isNum p.tok = true then some p else none) = none
  rw [if_neg h]
theorem stA_cases {op : Int} {k : Nat} {n : Int} {p : Pst} (hn : ∀ q, numO (some p) = some q → n = (val q.tok : Int)) :
    (isNum p.tok = true ∧ okEnd op (val p.tok) = true ∧ k < 4 ∧ n = (val p.tok : Int) ∧ stA op k n (some p) = some (nxt p)) ∨ (¬ (isNum p.tok = true ∧ okEnd op (val p.tok) = true ∧ k < 4) ∧ stA op k n (some p) = none) := by
  unfold stA
  by_cases h1 : isNum p.tok = true
  · have e := hn p (numO_yes h1)
    rw [numO_yes h1, e]
    by_cases h2 : okEnd op (val p.tok) = true
    · have hr : reqO (okEnd op (val p.tok)) (some p) = some p := by rw [h2, reqO_true]
      rw [hr]
      by_cases h3 : k < 4
      · rw [decide_eq_true h3, reqO_true]
        exact .inl ⟨h1, h2, h3, rfl, rfl⟩
      · rw [decide_eq_false h3, reqO_false]
        exact .inr ⟨fun h => h3 h.2.2, rfl⟩
    · have h2' : okEnd op (val p.tok) = false := by cases h : okEnd op (val p.tok) with | false => rfl | true => exact absurd h h2
      have hr : reqO (okEnd op (val p.tok)) (some p) = none := by rw [h2', reqO_false]
      rw [hr, reqO_none]
      exact .inr ⟨fun h => h2 h.2.1, rfl⟩
  · rw [numO_no h1, reqO_none, reqO_none]
    exact .inr ⟨fun h => h1 h.1, rfl⟩
theorem stA_none (op : Int) (k : Nat) (n : Int) : stA op k n none = none := by
  unfold stA
  rw [show numO none = none from rfl, reqO_none, reqO_none, Option.map_none]
theorem spanA {op : Int} {k : Nat} {n : Int} {o : Option Pst} (hn : ∀ q, numO o = some q → n = (val q.tok : Int)) (ht : isTok [46, 46] (stA op k n o) = false) :
    (o.bind (spanM op k)).map (·.2) = stA op k n o ∧ ∀ s q, o.bind (spanM op k) = some (s, q) → n = s.1 ∧ n = s.2 := by
  cases o with
  | none =>
    rw [stA_none]
    exact ⟨rfl, fun s q h => by cases h⟩
  | some p =>
    rw [Option.bind_some]
    rcases stA_cases hn with ⟨h1, h2, h3, h4, h5⟩ | ⟨h1, h5⟩
    · rw [h5] at ht ⊢
      have ht2 : ¬ (nxt p).tok = [46, 46] := of_decide_eq_false ht
      unfold spanM
      rw [if_pos ⟨h1, h2, h3⟩, if_neg ht2]
      refine ⟨rfl, fun s q h => ?_⟩
      injection h with h
      injection h with e1 e2
      subst e1
      exact ⟨h4, h4⟩
    · rw [h5]
      unfold spanM
      rw [if_neg h1]
      exact ⟨rfl, fun s q h => by cases h⟩
theorem spanB {op : Int} {k : Nat} {n n2 : Int} {o : Option Pst} (hn : ∀ q, numO o = some q → n = (val q.tok : Int)) (ht : isTok [46, 46] (stA op k n o) = true) (hn2 : ∀ q, numO ((stA op k n o).map nxt) = some q → n2 = (val q.tok : Int)) :
    (o.bind (spanM op k)).map (·.2) = (reqO (okEnd op n2 && decide (n ≤ n2)) (numO ((stA op k n o).map nxt))).map nxt ∧ ∀ s q, o.bind (spanM op k) = some (s, q) → n = s.1 ∧ n2 = s.2 := by
  cases o with
  | none =>
    rw [stA_none] at ht
    cases ht
  | some p =>
    rw [Option.bind_some]
    rcases stA_cases hn with ⟨h1, h2, h3, h4, h5⟩ | ⟨h1, h5⟩
    · rw [h5] at ht hn2 ⊢
      have ht2 : (nxt p).tok = [46, 46] := of_decide_eq_true ht
      rw [Option.map_some] at hn2 ⊢
      unfold spanM
      rw [if_pos ⟨h1, h2, h3⟩, if_pos ht2]
      by_cases g1 : isNum (nxt (nxt p)).tok = true
      · have e := hn2 _ (numO_yes g1)
        rw [numO_yes g1, e]
        by_cases g2 : okEnd op (val (nxt (nxt p)).tok) = true
        · by_cases g3 : val p.tok ≤ val (nxt (nxt p)).tok
          · rw [if_pos ⟨g1, g2, g3⟩, g2, decide_eq_true (by omega : n ≤ (val (nxt (nxt p)).tok : Int))]
            refine ⟨rfl, fun s q h => ?_⟩
            injection h with h
            injection h with e1 e2
            subst e1
            exact ⟨h4, rfl⟩
          · rw [if_neg (fun h => g3 h.2.2), decide_eq_false (by omega : ¬ n ≤ (val (nxt (nxt p)).tok : Int)), Bool.and_false, reqO_false]
            exact ⟨rfl, fun s q h => by cases h⟩
        · have g2' : okEnd op (val (nxt (nxt p)).tok) = false := by cases h : okEnd op (val (nxt (nxt p)).tok) with | false => rfl | true => exact absurd h g2
          rw [if_neg (fun h => g2 h.2.1), g2', Bool.false_and, reqO_false]
          exact ⟨rfl, fun s q h => by cases h⟩
      · rw [if_neg (fun h => g1 h.1), numO_no g1, reqO_none]
        exact ⟨rfl, fun s q h => by cases h⟩
    · rw [h5] at ht
      cases ht
theorem But.setNew {g B i : Nat} {w w9 : World} (h : But g w w9) (hB : w.heap.size ≤ B) (u : Value) : But g w (w9.setCell ⟨B, i, none⟩ u) :=
  ⟨h.os, h.tape, h.output, by simp [World.setCell]; exact h.size, fun k hk hg => (Below.heap_setCell w9 ⟨B, i, none⟩ u k (by show k ≠ B; omega)).trans (h.block k hk hg)⟩
theorem PS.setNew {w0 : World} {g B i : Nat} {text : ByteArray} {o : Option Pst} {w : World} (h : PS w0 g text o w) (hB : B ≠ g) (hB0 : w0.heap.size ≤ B) (u : Value) : PS w0 g text o (w.setCell ⟨B, i, none⟩ u) :=
  h.same (Below.heap_setCell w ⟨B, i, none⟩ u g (by show g ≠ B; exact fun e => hB e.symm)) (h.low.setCell (p := ⟨B, i, none⟩) hB0 u)
def SpP (w0 : World) (g : Nat) (text : ByteArray) (R : Option ((Int × Int) × Pst)) (w : World) (e : Ending) (w' : World) : Prop := (∃ x y : Int, e = .returned (.agg #[.int .i64 x, .int .i64 y]) ∧ ∀ s q, R = some (s, q) → x = s.1 ∧ y = s.2) ∧ PS w0 g text (R.map (·.2)) w' ∧ But g w w'
theorem resSp {W : World} {tm : Array Value} {B : Nat} {t : TypeId} {a b : Value} (t4 : tm[4]?.getD undef = .pointer (some ⟨B, 0, none⟩)) (h : Blk B t #[a, b] W) :
    (results Tryz.f191 tm).run Tryz.prog W = .ok (.agg #[a, b]) W := by
  have a0 : W.cell? ⟨B, 0, none⟩ = some a := h.cell 0
  have a1 : W.cell? ⟨B, 1, none⟩ = some b := h.cell 1
  simp [results, Tryz.f191, go_sem, t4, a0, a1]
set_option maxRecDepth 1000000 in
set_option maxHeartbeats 8000000 in
theorem span_any (w0 : World) (E : Env w0) (g : Nat) (text : ByteArray) (hT : text.size ≤ 1000000) (o : Option Pst) (op md : Int) (nt : Bool) (a : Option Addr) (k c : Nat) (w : World) (h : PS w0 g text o w) :
    Calls Tryz.prog 191 #[.pointer (some ⟨g, 0, none⟩), .agg #[.int .i64 op, .int .i64 md, .bool nt, .slice a k c]] w (SpP w0 g text (o.bind (spanM op k)) w) := by
  have hlt := h.lt
  have hbs := h.base
  have BA := ((Below.refl w.heap.size w).alloc (Nat.le_refl _) (.cells #[.int .i64 op, .int .i64 md, .bool nt, .slice a k c] 77)).alloc (by simp) (.cells #[.int .i64 0, .int .i64 0] 115)
  have KR := (Blk.new w 77 #[.int .i64 op, .int .i64 md, .bool nt, .slice a k c]).alloc (.cells #[.int .i64 0, .int .i64 0] 115)
  have KS := Blk.new (w.alloc (.cells #[.int .i64 op, .int .i64 md, .bool nt, .slice a k c] 77)) 115 #[.int .i64 0, .int .i64 0]
  rw [World.size_alloc] at KS
  have PA := h.below BA
  obtain ⟨wa, hwa⟩ : ∃ wa, (w.alloc (.cells #[.int .i64 op, .int .i64 md, .bool nt, .slice a k c] 77)).alloc (.cells #[.int .i64 0, .int .i64 0] 115) = wa := ⟨_, rfl⟩
  rw [hwa] at BA KR KS PA
  have HBA := Lib.hid BA
  have HKR := Lib.hid KR
  have HKS := Lib.hid KS
  have HPA := Lib.hid PA
  have HCELL : Hid (∀ wx, But g wa wx → wx.cell? ⟨w.heap.size, 0, none⟩ = some (.int .i64 op) ∧ wx.cell? ⟨w.heap.size, 3, none⟩ = some (.slice a k c)) := Lib.hid (fun wx hb => ⟨(KR.but hb (by omega)).cell 0, (KR.but hb (by omega)).cell 3⟩)
  have HFIN : Hid (∀ (R : Option ((Int × Int) × Pst)) (wx : World) (x y : Int), PS w0 g text (R.map (·.2)) wx → But g wa wx → (∀ s q, R = some (s, q) → x = s.1 ∧ y = s.2) → SpP w0 g text R w (.returned (.agg #[.int .i64 x, .int .i64 y])) ((wx.setCell ⟨w.heap.size + 1, 0, none⟩ (.int .i64 x)).setCell ⟨w.heap.size + 1, 1, none⟩ (.int .i64 y)) ∧ Blk (w.heap.size + 1) 115 #[.int .i64 x, .int .i64 y] ((wx.setCell ⟨w.heap.size + 1, 0, none⟩ (.int .i64 x)).setCell ⟨w.heap.size + 1, 1, none⟩ (.int .i64 y))) := Lib.hid (fun R wx x y hp hb hv => by
    have hb2 : But g w wx := (But.of_below (g := g) BA).trans hb
    refine ⟨⟨⟨x, y, rfl, hv⟩, (hp.setNew (by omega) (by omega) _).setNew (by omega) (by omega) _, (hb2.setNew (by omega) _).setNew (by omega) _⟩, ?_⟩
    exact ((KS.but hb (by omega)).put 0 (.int .i64 x)).put 1 (.int .i64 y))
  have HFZ : Hid (∀ wx, But g wa wx → ∀ i, wx.frozen? ⟨w.heap.size + 1, i, none⟩ = false) := Lib.hid (fun wx hb i => (KS.but hb (by omega)).frozen i)
  have HSC : Hid (∀ wx, But g wa wx → wx.cell? ⟨w.heap.size + 1, 0, none⟩ = some (.int .i64 0) ∧ wx.cell? ⟨w.heap.size + 1, 1, none⟩ = some (.int .i64 0)) := Lib.hid (fun wx hb => ⟨(KS.but hb (by omega)).cell 0, (KS.but hb (by omega)).cell 1⟩)
  clear h hbs BA KR KS PA
  go_enter Tryz.func191, Tryz.ntmps191
  go_wp2_with fail
  try rw [hwa]
  refine (number_any w0 E g text hT o _ HPA.out).mono ?_
  rintro e w1 ⟨⟨n, rfl, hn⟩, p1, b1⟩
  have P1 := Lib.hid p1
  have B1 := Lib.hid b1
  have HN := Lib.hid hn
  obtain ⟨c0, c3⟩ := HCELL.out _ b1
  clear p1 b1 hn hwa
  go_wp2_with fail
  refine (isEnd_any op n _).mono ?_
  rintro e w' ⟨rfl, hw'⟩
  obtain rfl := hw'.symm
  go_wp2_with fail
  refine (require_any w0 g text _ (okEnd op n) 2 (by decide) _ P1.out).mono ?_
  rintro e w2 ⟨⟨rfl, p2, b2⟩, _⟩
  have P2 := Lib.hid p2
  have B2 := Lib.hid (B1.out.trans b2)
  obtain ⟨d0, d3⟩ := HCELL.out _ B2.out
  clear p2 b2 c0 c3
  have HK4 : Hid (decide ((k : Int) < 4) = decide (k < 4)) := Lib.hid (by rw [Bool.eq_iff_iff, decide_eq_true_eq, decide_eq_true_eq]; omega)
  obtain ⟨bk, hbk⟩ : ∃ bk, decide (k < 4) = bk := ⟨_, rfl⟩
  have HBK := Lib.hid hbk
  have u4 : decide ((k : Int) < 4) = bk := by rw [HK4.out]; exact hbk
  clear hbk
  go_wp2_with fail
  refine (require_any w0 g text _ bk 6 (by decide) _ P2.out).mono ?_
  rintro e w3 ⟨⟨rfl, p3, b3⟩, _⟩
  have P3 := Lib.hid p3
  have B3 := Lib.hid (B2.out.trans b3)
  clear p3 b3 d0 d3 u4
  go_wp2_with fail
  refine (next_any w0 g text hT _ _ P3.out).mono ?_
  rintro e w4 ⟨rfl, p4, b4⟩
  have P4 : Hid (PS w0 g text (stA op k n o) w4) := Lib.hid (by unfold stA; rw [HBK.out]; exact p4)
  have B4 := Lib.hid (B3.out.trans b4)
  clear p4 b4
  go_wp2_with fail
  refine (accept_any w0 g text hT _ ⟨#[46, 46]⟩ _ P4.out).mono ?_
  rintro e w5 ⟨rfl, p5, b5⟩
  rw [show (ByteArray.mk #[46, 46]).data.toList = [46, 46] from rfl] at p5 ⊢
  have B5 := Lib.hid (B4.out.trans b5)
  obtain ⟨bt, hbt⟩ : ∃ bt, isTok [46, 46] (stA op k n o) = bt := ⟨_, rfl⟩
  have HBT := Lib.hid hbt
  rw [hbt]
  cases bt with
  | false =>
    have P5 : Hid (PS w0 g text (stA op k n o) w5) := Lib.hid (by unfold accO at p5; rw [if_neg (by rw [hbt]; simp)] at p5; exact p5)
    obtain ⟨e1, e2⟩ := spanA HN.out HBT.out
    have HE1 := Lib.hid e1
    have HE2 := Lib.hid e2
    obtain ⟨s0, s1⟩ := HSC.out _ B5.out
    have fz := HFZ.out _ B5.out
    clear p5 b5 hbt e1 e2
    go_wp2
    obtain ⟨f1, f2⟩ := HFIN.out (o.bind (spanM op k)) w5 n n (by rw [HE1.out]; exact P5.out) B5.out HE2.out
    exact bodyPost_ret (v := .agg #[.int .i64 n, .int .i64 n]) (resSp rfl f2) rfl f1
  | true =>
    have P5 : Hid (PS w0 g text ((stA op k n o).map nxt) w5) := Lib.hid (by unfold accO at p5; rw [if_pos hbt] at p5; exact p5)
    clear p5 b5 hbt
    go_wp2_with fail
    refine (number_any w0 E g text hT _ _ P5.out).mono ?_
    rintro e w6 ⟨⟨n2, rfl, hn2⟩, p6, b6⟩
    have P6 := Lib.hid p6
    have B6 := Lib.hid (B5.out.trans b6)
    obtain ⟨e1, e2⟩ := spanB HN.out HBT.out hn2
    have HE1 := Lib.hid e1
    have HE2 := Lib.hid e2
    obtain ⟨c0, c3⟩ := HCELL.out _ B6.out
    clear p6 b6 hn2 e1 e2
    go_wp2_with fail
    refine (isEnd_any op n2 _).mono ?_
    rintro e w' ⟨rfl, hw'⟩
    obtain rfl := hw'.symm
    obtain ⟨be, hbe⟩ : ∃ be, okEnd op n2 = be := ⟨_, rfl⟩
    rw [hbe] at HE1 ⊢
    clear hbe

    cases be with
    | false =>
      have HEF : Hid ((o.bind (spanM op k)).map (·.2) = (reqO false (numO ((stA op k n o).map nxt))).map nxt) := Lib.hid HE1.out
      go_wp2_with fail
      refine (require_any w0 g text _ false 2 (by decide) _ P6.out).mono ?_
      rintro e w7 ⟨⟨rfl, p7, b7⟩, _⟩
      have P7 := Lib.hid p7
      have B7 := Lib.hid (B6.out.trans b7)
      clear p7 b7 c0 c3
      go_wp2_with fail
      refine (next_any w0 g text hT _ _ P7.out).mono ?_
      rintro e w8 ⟨rfl, p8, b8⟩
      have P8 := Lib.hid p8
      have B8 := Lib.hid (B7.out.trans b8)
      obtain ⟨s0, s1⟩ := HSC.out _ B8.out
      have fz := HFZ.out _ B8.out
      clear p8 b8
      go_wp2
      obtain ⟨f1, f2⟩ := HFIN.out (o.bind (spanM op k)) w8 n n2 (by rw [HEF.out]; exact P8.out) B8.out HE2.out
      exact bodyPost_ret (v := .agg #[.int .i64 n, .int .i64 n2]) (resSp rfl f2) rfl f1
    | true =>
      obtain ⟨bl, hbl⟩ : ∃ bl, decide (n ≤ n2) = bl := ⟨_, rfl⟩
      have HEF : Hid ((o.bind (spanM op k)).map (·.2) = (reqO bl (numO ((stA op k n o).map nxt))).map nxt) := Lib.hid (by rw [HE1.out, hbl]; rfl)
      go_wp2_with fail
      refine (require_any w0 g text _ bl 2 (by decide) _ P6.out).mono ?_
      rintro e w7 ⟨⟨rfl, p7, b7⟩, _⟩
      have P7 := Lib.hid p7
      have B7 := Lib.hid (B6.out.trans b7)
      clear p7 b7 c0 c3
      go_wp2_with fail
      refine (next_any w0 g text hT _ _ P7.out).mono ?_
      rintro e w8 ⟨rfl, p8, b8⟩
      have P8 := Lib.hid p8
      have B8 := Lib.hid (B7.out.trans b8)
      obtain ⟨s0, s1⟩ := HSC.out _ B8.out
      have fz := HFZ.out _ B8.out
      clear p8 b8
      go_wp2
      obtain ⟨f1, f2⟩ := HFIN.out (o.bind (spanM op k)) w8 n n2 (by rw [HEF.out]; exact P8.out) B8.out HE2.out
      exact bodyPost_ret (v := .agg #[.int .i64 n, .int .i64 n2]) (resSp rfl f2) rfl f1
end Go.Proofs.YtmnclnpbmgomgaaGreatDoor


/- Of condition: the parser's relation (its state; ahead of the loop). -/
namespace Go.Proofs.YtmnclnpbmgomgaaGreatDoor
open Go.RowKit
set_option linter.unusedVariables false

abbrev zeroR : Array Value := #[.int .i64 0, .int .i64 0, .bool false, .slice none 0 0]
structure RSt (w0 w : World) (g : Nat) (text : ByteArray) (B2 B3 : Nat) (o : Option Pst) (K M : Int) (b : Bool) (v : Value) (wx : World) : Prop where
  lt : g < B2 ∧ B2 < B3 ∧ w.heap.size ≤ B2
  ps : PS w0 g text o wx
  but : But g w wx
  k2 : Blk B2 77 zeroR wx
  k3 : Blk B3 77 #[.int .i64 K, .int .i64 M, .bool b, v] wx
section
variable {w0 w : World} {g : Nat} {text : ByteArray} {B2 B3 : Nat} {o : Option Pst} {K M : Int} {b : Bool} {v : Value} {wx : World}
theorem RSt.call (h : RSt w0 w g text B2 B3 o K M b v wx) {o' : Option Pst} {wy : World} (hp : PS w0 g text o' wy) (hb : But g wx wy) : RSt w0 w g text B2 B3 o' K M b v wy := by
  obtain ⟨h1, h2, h3⟩ := h.lt
  exact ⟨h.lt, hp, h.but.trans hb, h.k2.but hb (by omega), h.k3.but hb (by omega)⟩
theorem RSt.below (h : RSt w0 w g text B2 B3 o K M b v wx) {wy : World} (hb : Below wx.heap.size wx wy) : RSt w0 w g text B2 B3 o K M b v wy :=
  h.call (h.ps.below hb) (But.of_below hb)
theorem RSt.store (h : RSt w0 w g text B2 B3 o K M b v wx) (i : Nat) (u : Value) {K' M' : Int} {b' : Bool} {v' : Value} (he : (#[.int .i64 K, .int .i64 M, .bool b, v] : Array Value).setIfInBounds i u = #[.int .i64 K', .int .i64 M', .bool b', v']) : RSt w0 w g text B2 B3 o K' M' b' v' (wx.setCell ⟨B3, i, none⟩ u) := by
  obtain ⟨h1, h2, h3⟩ := h.lt
  have hb := h.ps.base
  refine ⟨h.lt, h.ps.setNew (by omega) (by omega) u, h.but.setNew (by omega) u, h.k2.far (p := ⟨B3, i, none⟩) (by show B2 ≠ B3; omega) u, ?_⟩
  have := h.k3.put i u
  rw [he] at this
  exact this
theorem RSt.cells (h : RSt w0 w g text B2 B3 o K M b v wx) : wx.cell? ⟨B3, 0, none⟩ = some (.int .i64 K) ∧ wx.cell? ⟨B3, 1, none⟩ = some (.int .i64 M) ∧ wx.cell? ⟨B3, 2, none⟩ = some (.bool b) ∧ wx.cell? ⟨B3, 3, none⟩ = some v := ⟨h.k3.cell 0, h.k3.cell 1, h.k3.cell 2, h.k3.cell 3⟩
end
def relS (K M : Int) (b : Bool) (f : Nat) (acc : List (Int × Int)) (q : Pst) : Option (Rel × Pst) := match spansM f K acc q with
  | none => none
  | some (sp, z) => some (⟨K, M, b, sp⟩, z)
theorem relM_op {p : Pst} {K : Int} (hK : (opO p).isSome = true → K = opM p.tok) : relM p = (opO p).bind (relO K) := by
  unfold relM
  by_cases h : 0 < opM p.tok ∧ p.n < 6
  · have e : opO p = some (N p.rest (p.n + 1)) := by unfold opO; rw [if_pos h]
    rw [if_pos h, e, Option.bind_some, hK (by rw [e]; rfl)]
  · have e : opO p = none := by unfold opO; rw [if_neg h]
    rw [if_neg h, e]; rfl
theorem relO_no {K : Int} {o : Option Pst} (h : isTok [37] o = false) : o.bind (relO K) = o.bind (relA K 0) := by
  cases o with
  | none => rfl
  | some p =>
    have h1 : ¬ p.tok = [37] := of_decide_eq_false h
    rw [Option.bind_some, Option.bind_some]
    unfold relO modM
    rw [if_neg h1]
theorem relO_yes {K n : Int} {o : Option Pst} (h : isTok [37] o = true) (hn : ∀ q, numO (o.map nxt) = some q → n = (val q.tok : Int)) : o.bind (relO K) = ((reqO (okMod K n) (numO (o.map nxt))).map nxt).bind (relA K n) := by
  cases o with
  | none => cases h
  | some p =>
    have h1 : p.tok = [37] := of_decide_eq_true h
    rw [Option.map_some] at hn ⊢
    rw [Option.bind_some]
    unfold relO modM
    rw [if_pos h1]
    by_cases h2 : isNum (nxt p).tok = true
    · have e := hn _ (numO_yes h2)
      rw [numO_yes h2, e]
      by_cases h3 : okMod K (val (nxt p).tok) = true
      · rw [if_pos ⟨h2, h3⟩, h3, reqO_true, Option.map_some, Option.bind_some]
      · have h3' : okMod K (val (nxt p).tok) = false := by cases h : okMod K (val (nxt p).tok) with | false => rfl | true => exact absurd h h3
        rw [if_neg (fun h => h3 h.2), h3', reqO_false]; rfl
    · rw [if_neg (fun h => h2 h.1), numO_no h2, reqO_none]; rfl
theorem relA_ne {K M : Int} {o : Option Pst} (h : isTok [33, 61] o = true) : o.bind (relA K M) = (o.map nxt).bind (relB K M true) := by
  cases o with
  | none => cases h
  | some p =>
    have h1 : p.tok = [33, 61] := of_decide_eq_true h
    rw [Option.map_some, Option.bind_some, Option.bind_some]
    unfold relA sgnM
    rw [if_pos h1]
theorem relA_eq {K M : Int} {o : Option Pst} (h : isTok [33, 61] o = false) {e : Bool} (he : ∀ p, o = some p → e = decide (p.tok = [61])) : o.bind (relA K M) = ((reqO e o).map nxt).bind (relB K M false) := by
  cases o with
  | none => rw [reqO_none]; rfl
  | some p =>
    have h1 : ¬ p.tok = [33, 61] := of_decide_eq_false h
    have h2 := he p rfl
    rw [Option.bind_some]
    unfold relA sgnM
    rw [if_neg h1]
    by_cases h3 : p.tok = [61]
    · rw [if_pos h3, h2, decide_eq_true h3, reqO_true, Option.map_some, Option.bind_some]
    · rw [if_neg h3, h2, decide_eq_false h3, reqO_false]; rfl
theorem relB_span {K M : Int} {b : Bool} {o : Option Pst} {x y : Int} (h : ∀ s q, o.bind (spanM K 0) = some (s, q) → x = s.1 ∧ y = s.2) : o.bind (relB K M b) = ((o.bind (spanM K 0)).map (·.2)).bind (relS K M b 4 [(x, y)]) := by
  cases o with
  | none => rfl
  | some p =>
    rw [Option.bind_some] at h ⊢
    rw [Option.bind_some]
    unfold relB
    cases hs : spanM K 0 p with
    | none => rfl
    | some sq =>
      obtain ⟨s, q⟩ := sq
      obtain ⟨e1, e2⟩ := h s q hs
      have e : (x, y) = s := by rw [e1, e2]
      rw [Option.map_some, Option.bind_some, e]
      rfl
theorem relS_end {K M : Int} {b : Bool} {f : Nat} {acc : List (Int × Int)} {o : Option Pst} (h : isTok [44] o = false) : o.bind (relS K M b (f + 1) acc) = o.map fun q => (⟨K, M, b, acc⟩, q) := by
  cases o with
  | none => rfl
  | some p =>
    have h1 : ¬ p.tok = [44] := of_decide_eq_false h
    rw [Option.bind_some, Option.map_some]
    unfold relS
    rw [spansM, if_neg h1]
theorem relS_go {K M : Int} {b : Bool} {f : Nat} {acc : List (Int × Int)} {o : Option Pst} {x y : Int} (h : isTok [44] o = true) (hv : ∀ s q, (o.map nxt).bind (spanM K acc.length) = some (s, q) → x = s.1 ∧ y = s.2) : o.bind (relS K M b (f + 1) acc) = (((o.map nxt).bind (spanM K acc.length)).map (·.2)).bind (relS K M b f (acc ++ [(x, y)])) := by
  cases o with
  | none => cases h
  | some p =>
    have h1 : p.tok = [44] := of_decide_eq_true h
    rw [Option.map_some, Option.bind_some] at hv ⊢
    rw [Option.bind_some]
    unfold relS
    rw [spansM, if_pos h1]
    cases hs : spanM K acc.length (nxt p) with
    | none => rfl
    | some sq =>
      obtain ⟨s, q⟩ := sq
      obtain ⟨e1, e2⟩ := hv s q hs
      have e : (x, y) = s := by rw [e1, e2]
      rw [Option.map_some, Option.bind_some, e]
end Go.Proofs.YtmnclnpbmgomgaaGreatDoor


