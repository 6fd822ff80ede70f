/- Script's closure, which appends edits to the script that it captures. -/
import Derived.Test.YtcnjomkddbbopaaMx
namespace Go.Proofs.Ytcnjomkddbbopaa
open Go.RowKit
set_option linter.unusedVariables false

def tag (k : Int) (l : List Str) : List Ed := l.map fun u => (k, u)
theorem tag_snoc (k : Int) (l : List Str) (i : Nat) (h : i < l.length) : tag k (l.take (i + 1)) = tag k (l.take i) ++ [(k, l[i])] := by
  unfold tag
  rw [List.take_succ_eq_append_getElem h, List.map_append]
  rfl
theorem rd_bt {α : Type} {k : Nat} {enc : α → List Value} {n C : Nat} {w w' : World} {v : Value} {l : List α} (h : Rd k enc w v l) (hb : Bt n C w w') (hne : l ≠ [] → ∀ b, v.ownBlock = some b → b < n ∧ b ≠ C) : Rd k enc w' v l := by
  rcases Classical.em (l = []) with h0 | h0
  · subst h0
    obtain ⟨⟨a, c, hv, h1, h2, _⟩, hn⟩ := h
    exact ⟨⟨a, c, hv, h1, h2, fun h => absurd rfl h⟩, hn⟩
  · exact h.bt hb (hne h0)
theorem rd_lt {α : Type} {k : Nat} {enc : α → List Value} {w : World} {v : Value} {l : List α} (h : Rd k enc w v l) (h0 : l ≠ []) : ∀ b, v.ownBlock = some b → b < w.heap.size := by
  obtain ⟨⟨a, c, rfl, _, _, hx⟩, _⟩ := h
  obtain ⟨b', off, rfl, hlt, _⟩ := hx h0
  intro b hb
  cases hb
  exact hlt
theorem own_type {α : Type} {k : Nat} {enc : α → List Value} {w : World} {base B : Nat} {e t : TypeId} {v : Value} {l : List α} {cs : Array Value} (h : Own1 k enc w base e v l) (hb : Blk B t cs w) (hne : t ≠ e) : some B ≠ v.ownBlock := by
  intro hv
  rcases h.2 with ⟨rfl, _⟩ | ⟨g, cap, cur, rfl, _, hg, _⟩
  · cases hv
  · injection hv with hv
    subst hv
    have hb' := hb
    unfold Blk at hb'
    rw [hb'] at hg
    injection hg with hg
    injection hg with _ h2 _
    exact hne h2
set_option maxRecDepth 1000000 in
set_option maxHeartbeats 1000000 in
theorem add_any (k : Int) (vt v0 : Value) (l : List Str) (P : List Ed) (G base : Nat) (w : World) (hl : Rd 1 encT w vt l) (hG : Blk G 33 #[v0] w) (ho : Own1 2 encE w base 60 v0 P) (hGb : G < base) (hbw : base ≤ w.heap.size)
    (hlo : l ≠ [] → ∀ b, vt.ownBlock = some b → b < base ∧ b ≠ G) (hll : l.length ≤ 1000) (hpl : P.length ≤ 1000000) :
    Calls Try.prog 30 #[.int .i64 k, vt, .pointer (some ⟨G, 0, none⟩)] w fun e w' => (∃ v, e = .returned v) ∧ (∃ v', Blk G 33 #[v'] w' ∧ Own1 2 encE w' base 60 v' (P ++ tag k l)) ∧ Bt base G w w' ∧ (∀ Bx cs0, Bx ≠ G → Blk Bx 28 cs0 w → Blk Bx 28 cs0 w') := by
  obtain ⟨al, cl, rfl, hcl, hcl2⟩ := hl.slice
  obtain ⟨iI, hiI, hzI, hkI, hbI⟩ := info_parts Try.infoEd
  have HL := Lib.hid hl
  have HG := Lib.hid hG
  have HO := Lib.hid ho
  have HLO := Lib.hid hlo
  clear hl hG ho hlo hcl hcl2
  go_enter Try.func30, Try.ntmps30
  go_wp2
  go_loopw [9] (fun v9 wr => ∃ (i : Nat) (v : Value), i ≤ l.length ∧ v9 = .int .i64 i ∧ Blk G 33 #[v] wr ∧ Own1 2 encE wr base 60 v (P ++ tag k (l.take i)) ∧ Bt base G w wr ∧ (∀ Bx cs0, Bx ≠ G → Blk Bx 28 cs0 w → Blk Bx 28 cs0 wr)) (fun v9 _ => l.length - (intOf v9).toNat)
  case atStart => exact ⟨0, v0, Nat.zero_le _, rfl, HG.out, by simpa [tag] using HO.out, Bt.refl _ _ _, fun _ _ _ h => h⟩
  case round =>
    obtain ⟨i, v, hi, rfl, hg, hown, hbt, hbx⟩ := hrel
    have HBX := Lib.hid hbx
    clear hbx
    have HGG := Lib.hid hg
    have HOO := Lib.hid hown
    have HBT := Lib.hid hbt
    have zr := hbt.size
    obtain ⟨av, cv, hav⟩ := hown.slice
    rw [hav] at hg HGG HOO
    have g0 : wr.cell? ⟨G, 0, none⟩ = some (.slice av (P ++ tag k (l.take i)).length cv) := hg.cell 0
    clear hown hbt hg hav
    have hlen : (P ++ tag k (l.take i)).length ≤ 2000000 := by unfold tag; rw [List.length_append, List.length_map, List.length_take]; omega
    obtain ⟨n, hn⟩ : ∃ n, (P ++ tag k (l.take i)).length = n := ⟨_, rfl⟩
    rw [hn] at g0 HGG HOO hlen
    have HN := Lib.hid hn
    clear hn
    by_cases hlt : i < l.length
    · obtain ⟨b, off, rfl, x1⟩ := (rd_bt HL.out HBT.out HLO.out).str i hlt
      have h3 : (i : Int) < (l.length : Int) := by omega
      have HT := Lib.hid (tag_snoc k l i hlt)
      obtain ⟨t, ht⟩ : ∃ t, l[i] = t := ⟨_, rfl⟩
      rw [ht] at x1 HT
      clear ht
      have f0 := HGG.out.frozen 0
      go_wp2_with (first | (at_builtin; refine wpList_append_at (w0 := wr) (x := (k, t)) (N := wr.heap.size) rfl rfl _ _ 33 rfl base iI _ 24 Try.underlying33 hiI hzI hkI hbI (by omega) rfl (by omega) encE_len encE_one _ (P ++ tag k (l.take i)) rfl rfl HOO.out rfl (by rw [HN.out]; omega) (by omega) ?_; intro v9 w9 y1 y2 y3; obtain ⟨a9, k9, h9⟩ := y1.slice; rw [List.length_append, List.length_singleton, HN.out] at h9; subst h9; have HY1 := Lib.hid y1; have HY2 := Lib.hid y2; have HK9 := Lib.hid (HGG.out.belowAt y2 hGb); have c9 := HK9.out.cell 0; have f9 := HK9.out.frozen 0; have HY3 := Lib.hid y3; clear y1 y2 y3) | go_in)
      go_wp2
      go_roundw
      case measure => simp [intOf]; omega
      case rel =>
        have hbut : But G w9 (w9.setCell ⟨G, 0, none⟩ (.slice a9 (n + 1) k9)) := But.setCell _ _ _ _
        refine ⟨i + 1, .slice a9 (n + 1) k9, by omega, by go_num, by simpa using HK9.out.put 0 (.slice a9 (n + 1) k9), ?_, (HBT.out.trans (Bt.of_below HY2.out)).trans (Bt.setCell _ _ _ _ _), fun Bx cs0 h1 h2 => ?_⟩
        · rw [HT.out, ← List.append_assoc]
          exact own_but HY1.out hbut hGb
        · have hb0 := HBX.out Bx cs0 h1 h2
          have hb1 : Blk Bx 28 cs0 w9 := (HY3.out.block Bx hb0.lt (own_type HOO.out hb0 (by decide))).trans hb0
          exact hb1.but hbut h1
    · obtain rfl : i = l.length := by omega
      have h3 : ¬ (l.length : Int) < (l.length : Int) := by omega
      have hT : l.take l.length = l := List.take_length
      go_wp2
      go_end0
      refine ⟨⟨_, rfl⟩, ⟨_, HGG.out, ?_⟩, HBT.out, HBX.out⟩
      have h := HOO.out
      rwa [hT] at h
end Go.Proofs.Ytcnjomkddbbopaa
