/- The walk of Utf8Joins. -/
import Derived.Test.YtndicgjlmhnkbaaV2
import Derived.Laws.AppendOwnNone
namespace Go.Proofs.Ytndicgjlmhnkbaa
open Go.RowKit
set_option linter.unusedVariables false

/-- An append of a list of ints, nil or not, onto one of the call's own. -/
theorem wpList_append_rd {P : Program} {w : World} {ops : Array Oper} {rest : List Oper} {o : Oper} {a : Act} {Q : Exit → Act → World → Prop} (hgd : o.guard = none) (s x : Operand) (t : TypeId)
    (ho : o.op = .call { callee := .builtin .append, args := #[s, x], argTypes := #[t, t] })
    (base : Nat) (e : TypeId) (i : TypeInfo) (ht : P.underlying t = some (.slice e)) (hi : P.info? e = some i) (hz : i.zero = some (.int .i64 0)) (hsize : i.size = 1) (hby : i.bytes = 8)
    (v : Value) (n : Nat) (xs ys : List Int) (u : Value) (hs : a.eval s = v) (hown : w.ownsRow base e 1 v n (xs.map (Value.int .i64))) (hx : a.eval x = u) (hu : RdI w u ys)
    (h63 : (n + ys.length) * 8 ≤ 140737488355328) (hbase : base ≤ w.heap.size)
    (h : ∀ v' w', w'.ownsRow base e 1 v' (n + ys.length) ((xs ++ ys).map (Value.int .i64)) → w.grownBy w' v.ownBlock → wpList P ops Q rest (a.put o.dst v') w') : wpList P ops Q (o :: rest) a w := by
  obtain ⟨hl, ⟨ad, c, rfl, hc⟩, hn⟩ := hu
  rcases ad with _ | ad
  · have hys : ys = [] := by
      rcases Classical.em (ys = []) with h0 | h0
      · exact h0
      · obtain ⟨b, off, hb, _⟩ := hc h0
        cases hb
    subst hys
    have hc0 := hn _ _ rfl
    subst hc0
    refine wpList_append_own_none hgd s x t ho base e i 1 ht hi v n (xs.map (Value.int .i64)) hs hown hx ?_
    exact h v w (by simpa using hown) (World.grownBy.refl w _)
  · refine wpList_append_own w hgd s x t ho base e i (.int .i64 0) 1 8 ht hi hz hsize hby rfl (by decide) v n (xs.map (Value.int .i64)) hs hown ad ys.length c (ys.map (Value.int .i64)) hx (by simp) ?_ ?_ (by unfold maxLen; omega) (by omega) hbase ?_
    · intro j u hj
      have hjl : j < ys.length := by
        rcases Nat.lt_or_ge j ys.length with h0 | h0
        · exact h0
        · simp [List.getElem?_eq_none (show (ys.map (Value.int .i64)).length ≤ j by simpa using h0)] at hj
      obtain ⟨b, off, hb, _, hcc⟩ := hc (List.ne_nil_of_length_pos (by omega))
      cases hb
      have hp : (⟨b, off, none⟩ : Addr).add j = ⟨b, off + j, none⟩ := by unfold Addr.add; split <;> simp_all
      rw [hp, hcc j hjl]
      simp [List.getElem?_eq_getElem hjl] at hj
      rw [← hj]
      simp [List.getD, List.getElem?_eq_getElem hjl]
    · intro u hu
      simp only [List.mem_map] at hu
      obtain ⟨y, _, rfl⟩ := hu
      rfl
    · intro v' w' h2 h3 _
      exact h v' w' (by rw [List.map_append]; exact h2) h3

/-! ### Two strings -/
theorem dl_app (l r : List UInt8) (hne : l ≠ []) (h : dl l ≠ (0xFFFD, 1)) : dl (l ++ r) = dl l := by
  have he := enc_dl l hne h
  have hw := dl_width_le l hne
  have h2 := dl_enc (dl l).1 (dl_valid l) (l.drop (dl l).2 ++ r)
  rw [← List.append_assoc, he, List.take_append_drop, List.length_take, Nat.min_eq_left hw, Int.toNat_natCast] at h2
  exact h2
theorem els_app (l r : List UInt8) (h : vld l = true) : elI (l ++ r) = elI l ++ elI r ∧ vld (l ++ r) = vld r := by
  generalize hn : l.length = n
  induction n using Nat.strongRecOn generalizing l with
  | ind n ih =>
    by_cases hne : l = []
    · subst hne; simp [elI_nil]
    · have h0 : 0 < l.length := List.length_pos_iff.2 hne
      have hw := dl_width l
      have hw2 := dl_width_le l hne
      rw [vld_cons l hne, Bool.and_eq_true, bne_iff_ne] at h
      have hl : (l.drop (dl l).2).length < n := by rw [List.length_drop]; omega
      have hi := ih _ hl (l.drop (dl l).2) h.2 rfl
      have hd := dl_app l r hne h.1
      have hne2 : l ++ r ≠ [] := fun h' => hne (List.append_eq_nil_iff.1 h').1
      have hdr : (l ++ r).drop (dl l).2 = l.drop (dl l).2 ++ r := List.drop_append_of_le_length hw2
      rw [elI_cons _ hne2, elI_cons l hne, vld_cons _ hne2, hd, hdr, hi.1, hi.2]
      refine ⟨rfl, ?_⟩
      have : (dl l != (0xFFFD, 1)) = true := by rw [bne_iff_ne]; exact h.1
      rw [this, Bool.true_and]

set_option maxRecDepth 100000 in
set_option maxHeartbeats 2000000 in
theorem utf8Joins_walk (s t : ByteArray) (hs : s.size ≤ maxLen) (ht : t.size ≤ maxLen) (w : World) : Calls Try.prog 6 #[.string s, .string t] w fun e w' => e = .returned (.bool true) ∧ Below w.heap.size w w' := by
  show Calls _ _ _ _ (AwPost w)
  unfold maxLen at hs ht
  by_cases hl : 300 < s.size
  · go_enter Try.func6, Try.ntmps6
    go_wp2_with fail
    refine (awake_any _).mono ?_
    rintro e w1 ⟨rfl, hb1⟩
    go_wp2_with fail
    refine (awake_any _).mono ?_
    rintro e w2 ⟨rfl, hb2⟩
    go_wp2
    go_ret
    exact ⟨rfl, bthen hb1 hb2⟩
  by_cases hl2 : 300 < t.size
  · go_enter Try.func6, Try.ntmps6
    go_wp2_with fail
    refine (awake_any _).mono ?_
    rintro e w1 ⟨rfl, hb1⟩
    go_wp2_with fail
    refine (awake_any _).mono ?_
    rintro e w2 ⟨rfl, hb2⟩
    go_wp2
    go_ret
    exact ⟨rfl, bthen hb1 hb2⟩
  by_cases hv : vld s.data.toList = true
  · obtain ⟨i0, hi, hz0, hz1, hz2⟩ := info_parts Try.infoI
    have hle := elI_length s.data.toList
    have hlt := elI_length t.data.toList
    rw [len_data] at hle hlt
    have Hj := Lib.hid (els_app s.data.toList t.data.toList hv)
    have Hv := Lib.hid hv; clear hv
    go_enter Try.func6, Try.ntmps6
    go_wp2_with fail
    refine (awake_any _).mono ?_
    rintro e w1 ⟨rfl, hb1⟩
    go_wp2_with fail
    refine (refValid_any s _ (by omega)).mono ?_
    rw [Hv.out]
    rintro e w2 ⟨rfl, hb2⟩
    go_wp2_with fail
    refine (decode_any (s ++ t) _ (by rw [ByteArray.size_append]; omega)).mono ?_
    rintro e w3 ⟨u, rfl, hu, hb3⟩
    rw [data_append, Hj.out.1] at hu
    have Hu := Lib.hid hu; clear hu
    go_wp2_with fail
    refine (decode_any s _ (by omega)).mono ?_
    rintro e w4 ⟨v, rfl, hv, hb4⟩
    have Hw := Lib.hid hv; clear hv
    have o3 : (w3.alloc (.cells #[] 3)).ownsRow w3.heap.size 3 1 (.slice (some ⟨w3.heap.size, 0, none⟩) 0 0) 0 (([] : List Int).map (Value.int .i64)) := World.ownsRow_made w3 #[] 0 (Nat.le_refl _) (by unfold maxLen; omega) rfl
    have o4 := own_below o3 hb4
    have b4 : Below w3.heap.size w3 w4 := bthen ((Below.refl _ w3).alloc (Nat.le_refl _) _) hb4
    have hz4 := b4.size
    clear o3 hb4
    go_wp2_with (at_builtin; go_loud (refine wpList_append_rd rfl _ _ 23 rfl w3.heap.size 3 i0 Try.underlying23 hi hz0 hz1 hz2 _ 0 [] (elI s.data.toList) v rfl o4 rfl Hw.out ?c1 ?c2 ?_))
    case c1 => omega
    case c2 => exact hz4
    · intro v5 w5 o5 hg5
      have b5 : Below w3.heap.size w3 w5 := b4.grown hg5 hz4 (fun k e => by simp [Value.ownBlock] at e; omega)
      have hz5 := b5.size
      clear hg5 o4 b4
      go_wp2_with fail
      refine (decode_any t _ (by omega)).mono ?_
      rintro e w6 ⟨v6, rfl, hv6, hb6⟩
      have H6 := Lib.hid hv6; clear hv6
      have o6 := own_below o5 hb6
      have b6 := bthen b5 hb6
      have hz6 := b6.size
      clear o5 hb6 b5
      go_wp2_with (at_builtin; go_loud (refine wpList_append_rd rfl _ _ 23 rfl w3.heap.size 3 i0 Try.underlying23 hi hz0 hz1 hz2 _ _ _ (elI t.data.toList) v6 rfl o6 rfl H6.out ?d1 ?d2 ?_))
      case d1 => omega
      case d2 => exact hz6
      · intro v7 w7 o7 hg7
        have b7 : Below w3.heap.size w3 w7 := b6.grown hg7 hz6 (fun k e => (o6.lt k e).1)
        have H7 := Lib.hid (RdI.of_own (xs := elI s.data.toList ++ elI t.data.toList) (by rw [List.map_append]; exact o7) (by rw [List.length_append]; omega))
        clear hg7 o6 b6 o7
        go_wp2_with fail
        refine (same_yes u v7 _ _ (Hu.out.below b7) H7.out).mono ?_
        rintro e w8 ⟨rfl, n, rfl⟩
        go_wp2_with fail
        refine (valid_any (s ++ t) _ (by rw [ByteArray.size_append]; omega)).mono ?_
        rw [data_append, Hj.out.2]
        rintro e w9 ⟨rfl, hb9⟩
        go_wp2_with fail
        refine (valid_any t _ (by omega)).mono ?_
        rintro e w10 ⟨rfl, hb10⟩
        go_wp2
        go_ret
        exact ⟨rfl, bthen (bthen (bdrewN (bthen (bthen (bthen hb1 hb2) hb3) b7) n) hb9) hb10⟩
  · have hv' : vld s.data.toList = false := by simpa using hv
    have Hv := Lib.hid hv'; clear hv hv'
    go_enter Try.func6, Try.ntmps6
    go_wp2_with fail
    refine (awake_any _).mono ?_
    rintro e w1 ⟨rfl, hb1⟩
    go_wp2_with fail
    refine (refValid_any s _ (by omega)).mono ?_
    rw [Hv.out]
    rintro e w2 ⟨rfl, hb2⟩
    go_wp2_with fail
    refine (awake_any _).mono ?_
    rintro e w3 ⟨rfl, hb3⟩
    go_wp2
    go_ret
    exact ⟨rfl, bthen (bthen hb1 hb2) hb3⟩
end Go.Proofs.Ytndicgjlmhnkbaa
