/- Of the library: strings.IndexAny, strings.ContainsAny of any string and the ten digits; hasDigit. -/
import Derived.Test.YteofkofgdhmpjaaDoorNwb
namespace Go.Proofs.YteofkofgdhmpjaaDoor
open Go.RowKit
set_option linter.unusedVariables false

theorem com_nil (t : Str) : comB [] t = false := rfl
theorem com_app (a b t : Str) : comB (a ++ b) t = (comB a t || comB b t) := by unfold comB; rw [List.any_append]
theorem com_one (c : UInt8) : comB [c] digT = digT.contains c := by
  unfold comB
  rw [List.any_cons, List.any_nil, Bool.or_false, Bool.eq_iff_iff, List.any_eq_true, List.contains_iff_mem]
  constructor
  · rintro ⟨d, hd, h⟩
    rw [of_decide_eq_true h]; exact hd
  · exact fun h => ⟨c, h, decide_eq_true rfl⟩
theorem com_cons (c : UInt8) (s : Str) : comB (c :: s) digT = (digT.contains c || comB s digT) := by
  rw [← com_one, ← com_app]; rfl
theorem idxAny_com : ∀ s : Str, decide (0 ≤ Lib.indexAny s digT) = comB s digT
  | [] => rfl
  | c :: s => by
    have ih := idxAny_com s
    have hg := Lib.indexAny_ge digT s
    rw [com_cons, Lib.indexAny]
    cases h : digT.contains c with
    | true => rw [if_pos rfl]; rfl
    | false =>
      rw [if_neg (by decide), Bool.false_or, ← ih]
      by_cases h1 : Lib.indexAny s digT = -1
      · rw [if_pos (by rw [h1]; rfl), h1]
      · rw [if_neg (by rw [beq_iff_eq]; exact h1), decide_eq_true (by omega), decide_eq_true (by omega)]
theorem dig_low : ∀ c ∈ digT, c.toNat < 128 := by decide
theorem com_high {s : Str} (h : ∀ k, k < s.length → 128 ≤ byt s k) : comB s digT = false := by
  rw [comB_iff]
  intro c hc hd
  obtain ⟨k, hk, e⟩ := List.mem_iff_getElem.1 hc
  have h1 := h k hk
  have h2 := dig_low c hd
  unfold byt at h1
  rw [List.getElem?_eq_getElem hk, e] at h1
  simp at h1
  omega
theorem byt_take {s : Str} {n k : Nat} (h : k < n) : byt (s.take n) k = byt s k := by unfold byt; rw [List.getElem?_take_of_lt h]
theorem next_atN {P : Program} (w : World) (k : Nat) (s : ByteArray) (pos : Nat) (ty : TypeId) (hk : w.heap[k]? = some (.stringIter s pos)) (h : pos < s.size) :
    (Instr.next (.pointer (some ⟨k, 0, none⟩)) true ty).run P w =
      .ok (.tuple #[.bool true, .int .i64 pos, .int .i32 (dl (s.data.toList.drop pos)).1]) (w.iterAt k s (pos + (dl (s.data.toList.drop pos)).2)) := by
  rw [← decode_dl]; exact Lib.run_next_any_at w k s pos ty hk h
/-- What the search answers. -/
def IaPost (b : Bool) (w : World) (e : Ending) (w' : World) : Prop := (∃ z : Int, e = .returned (.int .i64 z) ∧ decide (0 ≤ z) = b) ∧ Below w.heap.size w w'
set_option maxRecDepth 1000000 in
set_option maxHeartbeats 8000000 in
theorem idxAny_short (s : Str) (h8 : s.length ≤ 8) (w : World) : Calls Tryd.prog 50 #[.string (ofL s), .string ⟨#[48, 49, 50, 51, 52, 53, 54, 55, 56, 57]⟩] w (IaPost (comB s digT) w) := by
  have HDG : Hid (∀ c ∈ (⟨#[48, 49, 50, 51, 52, 53, 54, 55, 56, 57]⟩ : ByteArray).data.toList, c.toNat < 128) := Lib.hid dig_low
  have HCT : Hid (∀ c, (⟨#[48, 49, 50, 51, 52, 53, 54, 55, 56, 57]⟩ : ByteArray).data.toList.contains c = digT.contains c) := Lib.hid (fun _ => rfl)
  have k1 : ((⟨#[48, 49, 50, 51, 52, 53, 54, 55, 56, 57]⟩ : ByteArray).toList == ([] : List UInt8)) = false := by rw [ByteArray.toList_eq]; rfl
  have k1' : (⟨#[48, 49, 50, 51, 52, 53, 54, 55, 56, 57]⟩ : ByteArray).toList.isEmpty = false := by rw [ByteArray.toList_eq]; rfl
  obtain ⟨T, hT⟩ : ∃ T, (⟨#[48, 49, 50, 51, 52, 53, 54, 55, 56, 57]⟩ : ByteArray) = T := ⟨_, rfl⟩
  rw [hT] at HDG HCT k1 k1' ⊢
  have hTn : T.size = 10 := by rw [← hT]; rfl
  clear hT
  obtain ⟨S, hS⟩ : ∃ S, ofL s = S := ⟨_, rfl⟩
  have hSn : S.size = s.length := by rw [← hS, ofL_size]
  have HSD : Hid (S.data.toList = s) := Lib.hid (by rw [← hS]; rfl)
  have HSU := Lib.hid (fun w => Tryd.strings_shouldUseASCIISet (s.length : Int) w)
  rw [show decide ((8 : Int) < (s.length : Int)) = false from decide_eq_false (by omega)] at HSU
  rw [hS]
  clear hS
  obtain ⟨E, hE⟩ : ∃ E : Ending → World → Prop, IaPost (comB s digT) w = E := ⟨_, rfl⟩
  have HE : Hid (∀ (z : Int) (w' : World), decide (0 ≤ z) = comB s digT → Below w.heap.size w w' → E (.returned (.int .i64 z)) w') := Lib.hid (fun z w' h hb => by rw [← hE]; exact ⟨⟨z, rfl, h⟩, hb⟩)
  rw [hE]
  clear hE
  go_enter Tryd.func50, Tryd.ntmps50
  go_wp2_with fail
  refine (HSU.out _).mono ?_
  rintro e w1 ⟨rfl, hw1⟩
  obtain rfl := hw1.symm
  clear hw1
  go_wp2
  go_loopw [9] (fun v wr => ∃ pos, pos ≤ s.length ∧ wr.heap[w.heap.size]? = some (.stringIter S pos) ∧ comB (s.take pos) digT = false ∧ Below w.heap.size w wr) (fun _ wr => s.length - wr.iterPos w.heap.size)
  case atStart => exact ⟨0, by omega, heap_alloc_new w _, rfl, (Below.refl _ _).alloc (Nat.le_refl _) _⟩
  case round =>
    obtain ⟨pos, hpl, hk, hno, hB⟩ := hrel
    have HB := Lib.hid hB
    have HK := Lib.hid hk
    have HN := Lib.hid hno
    have hm : Hid (wr.iterPos w.heap.size = pos) := Lib.hid (iterPos_ofN hk)
    clear hB hno
    by_cases hp : pos < s.length
    · have hp2 : pos < S.size := by omega
      have hnx := fun ty => next_atN (P := Tryd.prog) wr _ S pos ty hk hp2
      rw [HSD.out] at hnx
      have hne : s.drop pos ≠ [] := by rw [← List.length_pos_iff, List.length_drop]; omega
      have hw1 := dl_width (s.drop pos)
      have hw2 := dl_width_le (s.drop pos) hne
      rw [List.length_drop] at hw2
      have hdv := dl_valid (s.drop pos)
      have HTA : Hid (s.take (pos + (dl (s.drop pos)).2) = s.take pos ++ (s.drop pos).take (dl (s.drop pos)).2) := Lib.hid (by rw [List.take_add])
      have HLO := Lib.hid (dl_low (s.drop pos))
      have HHI := Lib.hid (dl_high (s.drop pos))
      have hc0 : (s.drop pos).take 1 = [s[pos]'hp] := by rw [List.drop_eq_getElem_cons hp]; rfl
      have hb0 : byt (s.drop pos) 0 = (s[pos]'hp).toNat := by rw [List.drop_eq_getElem_cons hp]; rfl
      obtain ⟨x, hx⟩ : ∃ x, s[pos]'hp = x := ⟨_, rfl⟩
      rw [hx] at hc0 hb0
      rw [hb0] at HLO HHI
      obtain ⟨r, hr⟩ : ∃ r, (dl (s.drop pos)).1 = r := ⟨_, rfl⟩
      obtain ⟨wd, hwd⟩ : ∃ wd, (dl (s.drop pos)).2 = wd := ⟨_, rfl⟩
      rw [hr, hwd] at hnx
      rw [hwd] at hw1 hw2 HTA
      rw [hr] at hdv
      have HK2 : Hid ((wr.iterAt w.heap.size S (pos + wd)).heap[w.heap.size]? = some (.stringIter S (pos + wd))) := Lib.hid (Lib.iterAt_heap _ _ _ _ _ hk)
      have HB2 := Lib.hid (Lib.below_iterAt HB.out (Nat.le_refl _) S (pos + wd))
      obtain ⟨w2, hw⟩ : ∃ w2, wr.iterAt w.heap.size S (pos + wd) = w2 := ⟨_, rfl⟩
      rw [hw] at hnx HK2 HB2
      by_cases hlo : x.toNat < 128
      · have hdl := HLO.out hlo
        have hr1 : r = x.toNat := by rw [← hr, hdl]
        have hwd1 : wd = 1 := by rw [← hwd, hdl]
        have HIA := Lib.hid (fun wx => Tryd.strings_IndexRune_ascii T (r : Int) wx (by omega) (by omega))
        obtain ⟨z, hz⟩ : ∃ z, Lib.indexByte T.data.toList ((r : Int)).toNat.toUInt8 = z := ⟨_, rfl⟩
        rw [hz] at HIA
        have hzc : decide (0 ≤ z) = digT.contains x := by
          rw [← hz, hr1, show ((x.toNat : Int)).toNat.toUInt8 = x by simp, ← Lib.contains_iff_indexByte, HCT.out]
        have HCM : Hid (comB (s.take (pos + wd)) digT = digT.contains x) := Lib.hid (by rw [HTA.out, com_app, HN.out, hwd1, hc0, com_one, Bool.false_or])
        obtain ⟨bc, hbc⟩ : ∃ bc, digT.contains x = bc := ⟨_, rfl⟩
        rw [hbc] at hzc HCM
        clear hk hx hb0 hc0 hdl hr1 hr hwd hw hz hbc hlo hdv hne
        cases bc with
        | true =>
          have HR : Hid (decide (0 ≤ (pos : Int)) = comB s digT) := Lib.hid (by
            rw [decide_eq_true (by omega), ← List.take_append_drop (pos + wd) s, com_app, HCM.out, Bool.true_or])
          go_wp2_with fail
          refine (HIA.out _).mono ?_
          rintro e w3 ⟨rfl, hw3⟩
          obtain rfl := hw3.symm
          clear hw3
          go_wp2
          skip
          exact HE.out _ _ HR.out HB2.out
        | false =>
          go_wp2_with fail
          refine (HIA.out _).mono ?_
          rintro e w3 ⟨rfl, hw3⟩
          obtain rfl := hw3.symm
          clear hw3
          have hm2 := Lib.hid (iterPos_ofN HK2.out)
          go_wp2
          go_roundw
          case rel => exact ⟨pos + wd, by omega, HK2.out, HCM.out, HB2.out⟩
          case measure => rw [hm2.out, hm.out]; omega
      · obtain ⟨hr128, hall⟩ := HHI.out (by omega)
        rw [hr] at hr128
        have HIA := Lib.hid (fun wx => idxRune_high T HDG.out hTn (r : Int) (by omega) hdv wx)
        have HCM : Hid (comB (s.take (pos + wd)) digT = false) := Lib.hid (by
          rw [HTA.out, com_app, HN.out, Bool.false_or]
          exact com_high (fun k hk => by
            rw [List.length_take] at hk
            rw [byt_take (by omega)]
            exact hall k (by omega)))
        clear hk hx hb0 hc0 hr hwd hw hlo hdv hne hall
        go_wp2_with fail
        refine (HIA.out _).mono ?_
        rintro e w3 ⟨rfl, b3⟩
        have hlt : w.heap.size < w2.heap.size := (Array.getElem?_eq_some_iff.1 HK2.out).1
        have HK3 : Hid (w3.heap[w.heap.size]? = some (.stringIter S (pos + wd))) := Lib.hid ((b3.block _ hlt).trans HK2.out)
        have HB3 := Lib.hid (HB2.out.trans (b3.mono HB2.out.size))
        have hm2 := Lib.hid (iterPos_ofN HK3.out)
        clear b3
        go_wp2
        go_roundw
        case rel => exact ⟨pos + wd, by omega, HK3.out, HCM.out, HB3.out⟩
        case measure => rw [hm2.out, hm.out]; omega
    · have hnx := fun ty => Lib.run_next_end_at (P := Tryd.prog) wr _ S pos ty hk (by omega)
      have HR : Hid (decide (0 ≤ (-1 : Int)) = comB s digT) := Lib.hid (by
        have := HN.out
        rw [List.take_of_length_le (by omega)] at this
        rw [this]; rfl)
      go_wp2
      skip
      exact HE.out _ _ HR.out HB.out
set_option maxRecDepth 1000000 in
theorem idxAny_any (s : Str) (hs : s.length ≤ 1000000) (w : World) : Calls Tryd.prog 50 #[.string (ofL s), .string ⟨#[48, 49, 50, 51, 52, 53, 54, 55, 56, 57]⟩] w (IaPost (comB s digT) w) := by
  by_cases h8 : s.length ≤ 8
  · exact idxAny_short s h8 w
  refine (Tryd.strings_IndexAny_long (zero_of_info (n := 256) (by kernel_rfl)).1 (ofL s) ⟨#[48, 49, 50, 51, 52, 53, 54, 55, 56, 57]⟩ w (by decide) (by rw [ofL_size]; omega) (by rw [ofL_size]; omega) (by decide) (fun j b hb => dig_low b (List.mem_of_getElem? hb))).mono ?_
  rintro e w' ⟨rfl, rfl⟩
  exact ⟨⟨_, rfl, idxAny_com s⟩, ((Below.refl _ _).alloc (Nat.le_refl _) _).alloc (by simp) _⟩
set_option maxRecDepth 1000000 in
set_option maxHeartbeats 4000000 in
theorem contAny_any (s : Str) (hs : s.length ≤ 1000000) (w : World) : Calls Tryd.prog 36 #[.string (ofL s), .string ⟨#[48, 49, 50, 51, 52, 53, 54, 55, 56, 57]⟩] w fun e w' => e = .returned (.bool (comB s digT)) ∧ Below w.heap.size w w' := by
  have HI := Lib.hid (fun w => idxAny_any s hs w)
  obtain ⟨S, hS⟩ : ∃ S, ofL s = S := ⟨_, rfl⟩
  obtain ⟨b, hb⟩ : ∃ b, comB s digT = b := ⟨_, rfl⟩
  rw [hS, hb] at HI
  rw [hS, hb]
  clear hS hb
  go_enter Tryd.func36, Tryd.ntmps36
  go_wp2_with fail
  refine (HI.out _).mono ?_
  rintro e w1 ⟨⟨z, rfl, hz⟩, b1⟩
  have HB := Lib.hid b1
  clear b1
  go_wp2
  go_ret
  exact ⟨rfl, HB.out⟩
set_option maxRecDepth 1000000 in
set_option maxHeartbeats 4000000 in
theorem hasDigit_any (s : Str) (hs : s.length ≤ 1000000) (w : World) : Calls Tryd.prog 22 #[.string (ofL s)] w fun e w' => e = .returned (.bool (comB s digT)) ∧ Below w.heap.size w w' := by
  have HI := Lib.hid (fun w => contAny_any s hs w)
  obtain ⟨S, hS⟩ : ∃ S, ofL s = S := ⟨_, rfl⟩
  obtain ⟨b, hb⟩ : ∃ b, comB s digT = b := ⟨_, rfl⟩
  rw [hS, hb] at HI
  rw [hS, hb]
  clear hS hb
  go_enter Tryd.func22, Tryd.ntmps22
  go_wp2_with fail
  refine (HI.out _).mono ?_
  rintro e w1 ⟨rfl, b1⟩
  have HB := Lib.hid b1
  clear b1
  go_wp2
  go_ret
  exact ⟨rfl, HB.out⟩
end Go.Proofs.YteofkofgdhmpjaaDoor
