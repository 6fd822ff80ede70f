/- Automata in memory: rows of numbers, slices of rows, bools; valid automata; of the reference: index, Symbol, Character, Few, Valid. -/
import Derived.Test.YtiljagfjgefnnaaAc
namespace Go.Proofs.Ytiljagfjgefnnaa
open Go.RowKit
set_option linter.unusedVariables false

def encI (x : Int) : List Value := [.int .i64 x]
theorem encI_len (x : Int) : (encI x).length = 1 := rfl
theorem encI_one (x : Int) : ∀ u ∈ encI x, u.oneCell' = true := by intro u hu; simp [encI] at hu; subst hu; rfl
def encN (x : Nat) : List Value := [.int .i64 (x : Int)]
theorem encN_len (x : Nat) : (encN x).length = 1 := rfl
theorem encN_one (x : Nat) : ∀ u ∈ encN x, u.oneCell' = true := by intro u hu; simp [encN] at hu; subst hu; rfl
def encO (x : Bool) : List Value := [.bool x]
theorem encO_len (x : Bool) : (encO x).length = 1 := rfl
theorem encO_one (x : Bool) : ∀ u ∈ encO x, u.oneCell' = true := by intro u hu; simp [encO] at hu; subst hu; rfl
structure RawS where
  a : Option Addr
  n : Nat
  c : Nat
def encS (x : RawS) : List Value := [.slice x.a x.n x.c]
theorem encS_len (x : RawS) : (encS x).length = 1 := rfl
theorem encS_one (x : RawS) : ∀ u ∈ encS x, u.oneCell' = true := by intro u hu; simp [encS] at hu; subst hu; rfl
theorem Try.infoI : (Try.prog.info? 3).map (fun i => (i.zero, i.size, i.bytes)) = some (some (.int .i64 0), 1, 8) := by kernel_rfl
theorem Try.infoO : (Try.prog.info? 4).map (fun i => (i.zero, i.size, i.bytes)) = some (some (.bool false), 1, 1) := by kernel_rfl
theorem Try.infoRow : (Try.prog.info? 56).map (fun i => (i.zero, i.size, i.bytes)) = some (some (.slice none 0 0), 1, 24) := by kernel_rfl
section
variable {α : Type} {enc : α → List Value}
theorem Rd.one {w : World} {a : Option Addr} {n c : Nat} {l : List α} (h : Rd 1 enc w (.slice a n c) l) (i : Nat) (hi : i < l.length) {u : Value} (hu : (enc l[i])[0]? = some u) : ∃ b off, a = some ⟨b, off, none⟩ ∧ w.cell? ⟨b, off + i, none⟩ = some u := by
  obtain ⟨b, off, ha, _, hx⟩ := h.some_ i hi
  have := hx 0 u hu
  rw [Nat.mul_one, Nat.add_zero] at this
  exact ⟨b, off, ha, this⟩
end
theorem Rd.num {w : World} {a : Option Addr} {n c : Nat} {l : List Int} (h : Rd 1 encI w (.slice a n c) l) (i : Nat) (hi : i < l.length) : ∃ b off, a = some ⟨b, off, none⟩ ∧ w.cell? ⟨b, off + i, none⟩ = some (.int .i64 l[i]) := h.one i hi rfl
theorem Rd.nat {w : World} {a : Option Addr} {n c : Nat} {l : List Nat} (h : Rd 1 encN w (.slice a n c) l) (i : Nat) (hi : i < l.length) : ∃ b off, a = some ⟨b, off, none⟩ ∧ w.cell? ⟨b, off + i, none⟩ = some (.int .i64 (l.getD i 0 : Nat)) := by
  obtain ⟨b, off, h1, h2⟩ := h.one i hi rfl
  rw [getD_get hi]
  exact ⟨b, off, h1, h2⟩
theorem Rd.boo {w : World} {a : Option Addr} {n c : Nat} {l : List Bool} (h : Rd 1 encO w (.slice a n c) l) (i : Nat) (hi : i < l.length) : ∃ b off, a = some ⟨b, off, none⟩ ∧ w.cell? ⟨b, off + i, none⟩ = some (.bool (l.getD i false)) := by
  obtain ⟨b, off, h1, h2⟩ := h.one i hi rfl
  refine ⟨b, off, h1, ?_⟩
  rw [List.getD_eq_getElem?_getD, List.getElem?_eq_getElem hi]
  exact h2
/-- Slices of rows. -/
def RdRows (w : World) (v : Value) (l : List (List Int)) : Prop := ∃ raws : List RawS, Rd 1 encS w v raws ∧ raws.length = l.length ∧ ∀ (i : Nat) (h : i < raws.length) (h' : i < l.length), Rd 1 encI w (.slice raws[i].a raws[i].n raws[i].c) l[i]
theorem RdRows.below {w w' : World} {v : Value} {l : List (List Int)} (h : RdRows w v l) (hb : Below w.heap.size w w') : RdRows w' v l := by
  obtain ⟨raws, h1, h2, h3⟩ := h
  exact ⟨raws, h1.below hb, h2, fun i a b => (h3 i a b).below hb⟩
theorem RdRows.slice {w : World} {v : Value} {l : List (List Int)} (h : RdRows w v l) : ∃ a c, v = .slice a l.length c ∧ l.length ≤ c ∧ c ≤ 9223372036854775807 := by
  obtain ⟨raws, h1, h2, h3⟩ := h
  rw [← h2]
  exact h1.slice
theorem rdRows_nil (w : World) : RdRows w (.slice none 0 0) [] := ⟨[], rd_nil w, rfl, fun i h _ => by simp at h⟩
theorem RdRows.at_ {w : World} {a : Option Addr} {n c : Nat} {l : List (List Int)} (h : RdRows w (.slice a n c) l) (i : Nat) (hi : i < l.length) :
    ∃ b off x1 x2, a = some ⟨b, off, none⟩ ∧ w.cell? ⟨b, off + i, none⟩ = some (.slice x1 l[i].length x2) ∧ Rd 1 encI w (.slice x1 l[i].length x2) l[i] := by
  obtain ⟨raws, h1, h2, h3⟩ := h
  have hi' : i < raws.length := by omega
  obtain ⟨b, off, ha, hx⟩ := h1.one i hi' rfl
  have hr := h3 i hi' hi
  obtain ⟨a2, c2, hv, _⟩ := hr.slice
  injection hv with e1 e2 e3
  rw [e2] at hx hr
  exact ⟨b, off, raws[i].a, raws[i].c, ha, hx, hr⟩
/-- An automaton as it lies in memory. -/
structure RawD where
  st : Int
  nx : List (List Int)
  ac : List Bool
/-- Sound: but for the greatest number of states. -/
structure DOk (r : RawD) : Prop where
  some_ : 0 < r.nx.length
  most : r.nx.length ≤ 1000000
  ac : r.ac.length = r.nx.length
  st0 : 0 ≤ r.st
  st1 : r.st < r.nx.length
  row : ∀ l ∈ r.nx, l.length = 11
  num : ∀ l ∈ r.nx, ∀ x ∈ l, 0 ≤ x ∧ x < r.nx.length
def okRow (n : Nat) (l : List Int) : Bool := decide (l.length = 11) && l.all fun x => decide (0 ≤ x) && decide (x < n)
def okD (r : RawD) : Bool := decide (0 < r.nx.length) && decide (r.nx.length ≤ 2000) && decide (r.ac.length = r.nx.length) && decide (0 ≤ r.st) && decide (r.st < r.nx.length) && r.nx.all (okRow r.nx.length)
theorem okD_iff {r : RawD} : okD r = true ↔ DOk r ∧ r.nx.length ≤ 2000 := by
  unfold okD okRow
  simp only [Bool.and_eq_true, decide_eq_true_eq, List.all_eq_true]
  exact ⟨fun h => ⟨⟨h.1.1.1.1.1, by omega, h.1.1.1.2, h.1.1.2, h.1.2, fun l hl => (h.2 l hl).1, fun l hl x hx => (h.2 l hl).2 x hx⟩, h.1.1.1.1.2⟩, fun ⟨h, h2⟩ => ⟨⟨⟨⟨⟨h.some_, h2⟩, h.ac⟩, h.st0⟩, h.st1⟩, fun l hl => ⟨h.row l hl, fun x hx => h.num l hl x hx⟩⟩⟩
def toA (r : RawD) : Aut := ⟨r.nx.length, r.st.toNat, fun s c => ((r.nx.getD s []).getD c 0).toNat, fun s => r.ac.getD s false⟩
theorem getD_getL {l : List (List Int)} {i : Nat} (h : i < l.length) : l.getD i [] = l[i] := by
  rw [List.getD_eq_getElem?_getD, List.getElem?_eq_getElem h]
  rfl
theorem getD_getI {l : List Int} {i : Nat} (h : i < l.length) : l.getD i 0 = l[i] := by
  rw [List.getD_eq_getElem?_getD, List.getElem?_eq_getElem h]
  rfl
theorem DOk.entry {r : RawD} (h : DOk r) {s c : Nat} (hs : s < r.nx.length) (hc : c < 11) : ∃ h1 : c < (r.nx[s]).length, (r.nx[s])[c] = ((toA r).d s c : Int) ∧ (toA r).d s c < r.nx.length := by
  have hr := h.row _ (List.getElem_mem hs)
  have h1 : c < (r.nx[s]).length := by omega
  have h2 := h.num _ (List.getElem_mem hs) _ (List.getElem_mem h1)
  have e : (toA r).d s c = ((r.nx[s])[c]).toNat := by
    show ((r.nx.getD s []).getD c 0).toNat = _
    rw [getD_getL hs, getD_getI h1]
  exact ⟨h1, by omega, by omega⟩
theorem DOk.ok {r : RawD} (h : DOk r) : (toA r).Ok :=
  ⟨by show r.st.toNat < r.nx.length; have := h.st0; have := h.st1; omega, fun s c hs hc => by
    obtain ⟨_, _, h3⟩ := h.entry (show s < r.nx.length from hs) hc
    exact h3⟩
/-- A step of a sound automaton, in memory. -/
theorem DOk.cells {r : RawD} (h : DOk r) {w : World} {a : Option Addr} {n c : Nat} (hr : RdRows w (.slice a n c) r.nx) {s k : Nat} (hs : s < r.nx.length) (hk : k < 11) :
    ∃ b off b' off' x2, a = some ⟨b, off, none⟩ ∧ w.cell? ⟨b, off + s, none⟩ = some (.slice (some ⟨b', off', none⟩) 11 x2) ∧ w.cell? ⟨b', off' + k, none⟩ = some (.int .i64 ((toA r).d s k : Nat)) := by
  obtain ⟨b, off, x1, x2, ha, h0, h4⟩ := hr.at_ s hs
  obtain ⟨h1, e, _⟩ := h.entry hs hk
  obtain ⟨b', off', rfl, h5⟩ := h4.num k h1
  rw [h.row _ (List.getElem_mem hs)] at h0
  rw [e] at h5
  exact ⟨b, off, b', off', x2, ha, h0, h5⟩

/-! ### index -/
def idxV (l : List Nat) (x : Nat) : Int := if idx l x < l.length then (idx l x : Int) else -1
set_option maxRecDepth 1000000 in
set_option maxHeartbeats 1000000 in
theorem index_any (a : Option Addr) (cp : Nat) (l : List Nat) (x : Nat) (w : World) (hv : Rd 1 encN w (.slice a l.length cp) l) : Calls Try.prog 48 #[.slice a l.length cp, .int .i64 (x : Int)] w fun e w' => e = .returned (.int .i64 (idxV l x)) ∧ w' = w := by
  obtain ⟨_, _, _, hc1, hc2⟩ := hv.slice
  have HU := Lib.hid hv
  have hlb : l.length ≤ 9223372036854775807 := by
    obtain ⟨_, _, e, q1, q2⟩ := hv.slice
    omega
  clear hv
  go_enter Try.func48, Try.ntmps48
  go_wp2
  go_loopw [5] (fun v wr => ∃ k : Nat, k ≤ l.length ∧ v = .int .i64 k ∧ (∀ (j : Nat) (hj : j < l.length), j < k → l[j] ≠ x) ∧ wr = w) (fun v _ => l.length - (intOf v).toNat)
  case atStart => exact ⟨0, Nat.zero_le _, rfl, fun j _ h => by omega, rfl⟩
  case round =>
    obtain ⟨k, hk, rfl, hkd, hw⟩ := hrel
    obtain rfl := hw.symm
    have HK := Lib.hid hkd
    clear hkd
    by_cases hlt : k < l.length
    · obtain ⟨bk, off, rfl, h0⟩ := HU.out.nat k hlt
      have h9 : (k : Int) < (l.length : Int) := by omega
      have hg := getD_get hlt
      obtain ⟨y, hy⟩ : ∃ y, l.getD k 0 = y := ⟨_, rfl⟩
      rw [hy] at h0 hg
      have HG := Lib.hid hg
      clear hy hg
      by_cases hyx : y = x
      · have t : ((y : Int) == (x : Int)) = true := by rw [beq_iff_eq]; omega
        have t' : (y == x) = true := by rw [beq_iff_eq]; exact hyx
        have HV : Hid (idxV l x = (k : Int)) := Lib.hid (by
          have := idx_first hlt (by rw [← HG.out]; exact hyx) HK.out
          unfold idxV
          rw [this, if_pos hlt])
        clear hyx
        go_wp2
        go_ret
        exact ⟨by rw [HV.out]; rfl, rfl⟩
      · have t : ((y : Int) == (x : Int)) = false := by rw [beq_eq_false_iff_ne]; omega
        have t' : (y == x) = false := by rw [beq_eq_false_iff_ne]; exact hyx
        have HN := Lib.hid hyx
        clear hyx
        go_wp2
        go_roundw
        case measure => simp [intOf]; omega
        case rel => exact ⟨k + 1, by omega, by go_num, fun j hj hjk => by
          rcases Nat.lt_or_ge j k with h | h
          · exact HK.out j hj h
          · obtain rfl : j = k := by omega
            rw [← HG.out]; exact HN.out, (by first | rfl | trivial)⟩
    · obtain rfl : k = l.length := by omega
      have h3 : ¬ (l.length : Int) < (l.length : Int) := by omega
      have HV : Hid (idxV l x = -1) := Lib.hid (by
        unfold idxV
        rw [if_neg (fun h => by
          have := idx_lt.1 h
          obtain ⟨j, hj, e⟩ := List.getElem_of_mem this
          exact HK.out j hj hj e)])
      go_wp2
      go_ret
      exact ⟨by rw [HV.out]; rfl, rfl⟩

/-! ### Symbols -/
def symI (c : Nat) : Int := if c = 46 then 10 else if c < 48 ∨ 57 < c then -1 else (c : Int) - 48
set_option maxRecDepth 1000000 in
theorem symbol_any (c : Nat) (hc : c ≤ 255) (w : World) : Calls Try.prog 28 #[.int .u8 (c : Int)] w fun e w' => e = .returned (.int .i64 (symI c)) ∧ w' = w := by
  by_cases h46 : c = 46
  · subst h46
    go_enter Try.func28, Try.ntmps28
    go_wp2
    go_ret
    exact ⟨rfl, rfl⟩
  have t : ((c : Int) == 46) = false := by rw [beq_eq_false_iff_ne]; omega
  have t' : (c == 46) = false := by rw [beq_eq_false_iff_ne]; exact h46
  by_cases h1 : c < 48
  · have HV : Hid (symI c = -1) := Lib.hid (by unfold symI; rw [if_neg h46, if_pos (.inl h1)])
    have q : (c : Int) < 48 := by omega
    clear h46
    go_enter Try.func28, Try.ntmps28
    go_wp2
    go_ret
    exact ⟨by rw [HV.out]; rfl, rfl⟩
  have q : ¬ (c : Int) < 48 := by omega
  by_cases h2 : 57 < c
  · have HV : Hid (symI c = -1) := Lib.hid (by unfold symI; rw [if_neg h46, if_pos (.inr h2)])
    have q2 : (57 : Int) < (c : Int) := by omega
    clear h46
    go_enter Try.func28, Try.ntmps28
    go_wp2
    go_ret
    exact ⟨by rw [HV.out]; rfl, rfl⟩
  have q2 : ¬ (57 : Int) < (c : Int) := by omega
  have HV : Hid (symI c = (c : Int) - 48) := Lib.hid (by unfold symI; rw [if_neg h46, if_neg (by omega)])
  have d1 : IntKind.u8.wrap ((c : Int) - 48) = (c : Int) - 48 := by rw [IntKind.wrap_u8]; omega
  have d2 : IntKind.i64.wrap ((c : Int) - 48) = (c : Int) - 48 := by rw [IntKind.wrap_i64]; omega
  clear h46 h1 h2
  go_enter Try.func28, Try.ntmps28
  go_wp2
  go_ret
  exact ⟨by rw [HV.out]; rfl, rfl⟩
def chrs : Str := [48, 49, 50, 51, 52, 53, 54, 55, 56, 57, 46]
def chrN (c : Nat) : UInt8 := chrs.getD c 0
theorem chr_cut : ∀ c : Fin 11, (⟨#[48, 49, 50, 51, 52, 53, 54, 55, 56, 57, 46]⟩ : ByteArray).extract c.val (c.val + 1) = ofL [chrN c.val] := by decide +kernel
set_option maxRecDepth 1000000 in
theorem character_any (c : Nat) (hc : c < 11) (w : World) : Calls Try.prog 49 #[.int .i64 (c : Int)] w fun e w' => e = .returned (.string (ofL [chrN c])) ∧ w' = w := by
  have h := chr_cut ⟨c, hc⟩
  dsimp only at h
  go_enter Try.func49, Try.ntmps49
  go_wp2
  go_ret
  exact ⟨rfl, rfl⟩
end Go.Proofs.Ytiljagfjgefnnaa
