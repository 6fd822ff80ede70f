/- The reference's parts. -/
import Derived.Test.YtcnjomkddbbopaaMx
namespace Go.Proofs.Ytcnjomkddbbopaa
open Go.RowKit
set_option linter.unusedVariables false

theorem tagT_snoc (k : Int) (l : List Str) (i : Nat) (h : i < l.length) : (l.take (i + 1)).map (fun u => (k, u)) = (l.take i).map (fun u => (k, u)) ++ [(k, l[i])] := by
  rw [List.take_succ_eq_append_getElem h, List.map_append]
  rfl
theorem rd_belowAt {α : Type} {k : Nat} {enc : α → List Value} {n : Nat} {w w' : World} {v : Value} {l : List α} (h : Rd k enc w v l) (hb : Below n w w') (hne : l ≠ [] → ∀ b, v.ownBlock = some b → b < n) : Rd k enc w' v l := by
  rcases Classical.em (l = []) with h0 | h0
  · subst h0
    obtain ⟨⟨a, c, hv, h1, h2, _⟩, hn⟩ := h
    exact ⟨⟨a, c, hv, h1, h2, fun h => absurd rfl h⟩, hn⟩
  · exact h.belowAt hb (hne h0)
set_option maxRecDepth 1000000 in
set_option maxHeartbeats 1000000 in
theorem parts_any (vo vg va : Value) (out : List Ed) (gone added : List Str) (base : Nat) (w : World) (ho : Own1 2 encE w base 59 vo out) (hg : Rd 1 encT w vg gone) (ha : Rd 1 encT w va added) (hbw : base ≤ w.heap.size)
    (hgo : gone ≠ [] → ∀ b, vg.ownBlock = some b → b < base) (hao : added ≠ [] → ∀ b, va.ownBlock = some b → b < base) (hol : out.length ≤ 1000000) (hgl : gone.length ≤ 1000) (hal : added.length ≤ 1000) :
    Calls Try.prog 31 #[vo, vg, va] w fun e w' => ∃ v, e = .returned v ∧ Own1 2 encE w' base 59 v (out ++ gone.map (fun u => ((2 : Int), u)) ++ added.map (fun u => ((3 : Int), u))) ∧ Below base w w' := by
  obtain ⟨ag, cg, rfl, _, _⟩ := hg.slice
  obtain ⟨aa, ca, rfl, _, _⟩ := ha.slice
  obtain ⟨ax, cx, rfl⟩ := ho.slice
  obtain ⟨iI, hiI, hzI, hkI, hbI⟩ := info_parts Try.infoEr
  obtain ⟨no, hno⟩ : ∃ no, out.length = no := ⟨_, rfl⟩
  rw [hno] at ho ⊢
  have HNO := Lib.hid hno
  have HO := Lib.hid ho
  have HG := Lib.hid hg
  have HA := Lib.hid ha
  have HGO := Lib.hid hgo
  have HAO := Lib.hid hao
  clear ho hg ha hgo hao hno
  go_enter Try.func31, Try.ntmps31
  go_wp2
  go_loopw [0, 7] (fun v0 v7 wr => ∃ i : Nat, i ≤ gone.length ∧ v7 = .int .i64 i ∧ Own1 2 encE wr base 59 v0 (out ++ (gone.take i).map (fun u => ((2 : Int), u))) ∧ Below base w wr) (fun _ v7 _ => gone.length - (intOf v7).toNat)
  case atStart => exact ⟨0, Nat.zero_le _, rfl, by simpa using HO.out, Below.refl _ _⟩
  case round =>
    obtain ⟨i, hi, rfl, hown, hb⟩ := hrel
    have HOO := Lib.hid hown
    have HB := Lib.hid hb
    have zr := hb.size
    obtain ⟨av, cv, hav⟩ := hown.slice
    obtain ⟨n, hn⟩ : ∃ n, (out ++ (gone.take i).map (fun u => ((2 : Int), u))).length = n := ⟨_, rfl⟩
    have hnl : n ≤ 2000000 := by rw [← hn, List.length_append, List.length_map, List.length_take]; omega
    rw [hn] at hav
    subst hav
    have HN := Lib.hid hn
    clear hown hb hn
    by_cases hlt : i < gone.length
    · obtain ⟨b, off, rfl, x1⟩ := (rd_belowAt HG.out HB.out HGO.out).str i hlt
      have h3 : (i : Int) < (gone.length : Int) := by omega
      have HT := Lib.hid (tagT_snoc 2 gone i hlt)
      obtain ⟨t, ht⟩ : ∃ t, gone[i] = t := ⟨_, rfl⟩
      rw [ht] at x1 HT
      clear ht
      go_wp2_with (first | (at_builtin; refine wpList_append_at (w0 := wr) (x := ((2 : Int), t)) (N := wr.heap.size) rfl rfl _ _ 30 rfl base iI _ 24 Try.underlying30 hiI hzI hkI hbI (by omega) rfl (by omega) encE_len encE_one _ (out ++ (gone.take i).map (fun u => ((2 : Int), u))) rfl rfl HOO.out rfl (by rw [HN.out]; omega) (by omega) ?_; intro v9 w9 y1 y2 y3) | go_in)
      have HY1 := Lib.hid y1
      have HY2 := Lib.hid y2
      clear y1 y2 y3
      go_wp2
      go_roundw
      case measure => simp [intOf]; omega
      case rel => exact ⟨i + 1, by omega, by go_num, by rw [HT.out, ← List.append_assoc]; exact HY1.out, HB.out.trans HY2.out⟩
    · obtain rfl : i = gone.length := by omega
      have h3 : ¬ (gone.length : Int) < (gone.length : Int) := by omega
      obtain ⟨o2, ho2⟩ : ∃ o2, out ++ gone.map (fun u => ((2 : Int), u)) = o2 := ⟨_, rfl⟩
      have HO2 : Hid (Own1 2 encE wr base 59 (.slice av n cv) o2) := Lib.hid (by rw [← ho2]; have h := HOO.out; rwa [List.take_length] at h)
      have hl2 : o2.length ≤ 2000000 := by rw [← ho2, List.length_append, List.length_map]; omega
      have HO2E := Lib.hid ho2
      clear HOO HN ho2
      go_wp2
      go_loopw [0, 8] (fun v0 v8 wx => ∃ i : Nat, i ≤ added.length ∧ v8 = .int .i64 i ∧ Own1 2 encE wx base 59 v0 (o2 ++ (added.take i).map (fun u => ((3 : Int), u))) ∧ Below base w wx) (fun _ v8 _ => added.length - (intOf v8).toNat)
      case atStart => exact ⟨0, Nat.zero_le _, rfl, by simpa using HO2.out, HB.out⟩
      case round =>
        obtain ⟨i, hi, rfl, hown, hb⟩ := hrel
        rename World => wx
        have HOO := Lib.hid hown
        have HBX := Lib.hid hb
        have zx := hb.size
        obtain ⟨av, cv, hav⟩ := hown.slice
        obtain ⟨n, hn⟩ : ∃ n, (o2 ++ (added.take i).map (fun u => ((3 : Int), u))).length = n := ⟨_, rfl⟩
        have hnl : n ≤ 4000000 := by rw [← hn, List.length_append, List.length_map, List.length_take]; omega
        rw [hn] at hav
        subst hav
        have HN := Lib.hid hn
        clear hown hb hn
        by_cases hlt : i < added.length
        · obtain ⟨b, off, rfl, x1⟩ := (rd_belowAt HA.out HBX.out HAO.out).str i hlt
          have h3 : (i : Int) < (added.length : Int) := by omega
          have HT := Lib.hid (tagT_snoc 3 added i hlt)
          obtain ⟨t, ht⟩ : ∃ t, added[i] = t := ⟨_, rfl⟩
          rw [ht] at x1 HT
          clear ht
          go_wp2_with (first | (at_builtin; refine wpList_append_at (w0 := wx) (x := ((3 : Int), t)) (N := wx.heap.size) rfl rfl _ _ 30 rfl base iI _ 24 Try.underlying30 hiI hzI hkI hbI (by omega) rfl (by omega) encE_len encE_one _ (o2 ++ (added.take i).map (fun u => ((3 : Int), u))) rfl rfl HOO.out rfl (by rw [HN.out]; omega) (by omega) ?_; intro v9 w9 y1 y2 y3) | go_in)
          have HY1 := Lib.hid y1
          have HY2 := Lib.hid y2
          clear y1 y2 y3
          go_wp2
          go_roundw
          case measure => simp [intOf]; omega
          case rel => exact ⟨i + 1, by omega, by go_num, by rw [HT.out, ← List.append_assoc]; exact HY1.out, HBX.out.trans HY2.out⟩
        · obtain rfl : i = added.length := by omega
          have h3 : ¬ (added.length : Int) < (added.length : Int) := by omega
          go_wp2
          go_ret
          exact ⟨_, rfl, by have h := HOO.out; rw [List.take_length] at h; rw [← List.append_assoc, HO2E.out]; exact h, HBX.out⟩
end Go.Proofs.Ytcnjomkddbbopaa
