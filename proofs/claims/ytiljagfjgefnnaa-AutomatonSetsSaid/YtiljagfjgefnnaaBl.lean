/- The document's example: odd, awake. -/
import Derived.Test.YtiljagfjgefnnaaBi
import Derived.Test.YtiljagfjgefnnaaBk
namespace Go.Proofs.Ytiljagfjgefnnaa
open Go.RowKit
set_option linter.unusedVariables false

def oddRow : List Int := [0, 1, 0, 1, 0, 1, 0, 1, 0, 1, 0]
def oddR : RawD := ⟨0, [oddRow, oddRow], [false, true]⟩
theorem odd_ok : okD oddR = true := by decide +kernel
theorem odd_first : First (toA oddR) [1] := by
  refine ⟨by intro c hc; rw [List.mem_singleton] at hc; omega, by decide +kernel, fun v hv hb => ?_⟩
  rcases hb with hb | ⟨hl, hb⟩
  · obtain rfl : v = [] := List.eq_nil_of_length_eq_zero (by simpa using hb)
    decide +kernel
  · match v, hl, hb with
    | [a], _, hb =>
      rcases hb with hb | ⟨_, hb⟩
      · obtain rfl : a = 0 := by omega
        decide +kernel
      · exact hb.elim
theorem odd_cnt : cntR oddR 2 = (55, 0) := by decide +kernel
theorem odd_run : runP oddR [50, 46, 55] = true := by decide +kernel
theorem resOD {W : World} {tm : Array Value} {B : Nat} {t : TypeId} {a b c : Value} (t2 : tm[0]?.getD undef = .pointer (some ⟨B, 0, none⟩)) (h : Blk B t #[a, b, c] W) :
    (results Try.f36 tm).run Try.prog W = .ok (.agg #[a, b, c]) W := by
  have a0 : W.cell? ⟨B, 0, none⟩ = some a := h.cell 0
  have a1 : W.cell? ⟨B, 1, none⟩ = some b := h.cell 1
  have a2 : W.cell? ⟨B, 2, none⟩ = some c := h.cell 2
  simp [results, Try.f36, go_sem, t2, a0, a1, a2]
theorem rd_blk {α : Type} {k : Nat} {enc : α → List Value} (hk : ∀ x : α, (enc x).length = k) {B : Nat} {t : TypeId} {l : List α} {w : World} (h : Blk B t (l.flatMap enc).toArray w) (hl : l.length ≤ 9223372036854775807) : Rd k enc w (.slice (some ⟨B, 0, none⟩) l.length l.length) l :=
  ⟨⟨_, l.length, rfl, Nat.le_refl _, hl, fun _ => ⟨B, 0, rfl, h.lt, fun i x hi j u hu => by
    rw [h.cell, List.getElem?_toArray, Nat.zero_add]
    exact flat_get hk l i x hi j u hu⟩⟩, fun n c hc => by cases hc⟩
set_option maxRecDepth 1000000 in
set_option maxHeartbeats 4000000 in
theorem odd_any (w : World) : Calls Try.prog 36 #[] w fun e w' => ∃ a1 c1 a2 c2, e = .returned (.agg #[.int .i64 oddR.st, .slice a1 oddR.nx.length c1, .slice a2 oddR.ac.length c2]) ∧ RdRows w' (.slice a1 oddR.nx.length c1) oddR.nx ∧ Rd 1 encO w' (.slice a2 oddR.ac.length c2) oddR.ac ∧ Below w.heap.size w w' := by
  go_enter Try.func36, Try.ntmps36
  go_wp2_with fail
  have A0 := (Below.refl w.heap.size w).alloc (Nat.le_refl _) (.cells #[.int .i64 0, .slice (some ⟨w.heap.size + 1 + 1, 0, none⟩) 2 2, .slice (some ⟨w.heap.size + 1 + 1 + 1, 0, none⟩) 2 2] 29)
  have A1 := A0.alloc A0.size (.cells #[.int .i64 0, .int .i64 1, .int .i64 0, .int .i64 1, .int .i64 0, .int .i64 1, .int .i64 0, .int .i64 1, .int .i64 0, .int .i64 1, .int .i64 0] 3)
  have A2 := A1.alloc A1.size (.cells #[.slice (some ⟨w.heap.size + 1, 0, none⟩) 11 11, .slice (some ⟨w.heap.size + 1, 0, none⟩) 11 11] 56)
  have A3 := A2.alloc A2.size (.cells #[.bool false, .bool true] 4)
  have k0 := (((Blk.new w 29 #[.int .i64 0, .slice (some ⟨w.heap.size + 1 + 1, 0, none⟩) 2 2, .slice (some ⟨w.heap.size + 1 + 1 + 1, 0, none⟩) 2 2]).alloc (.cells #[.int .i64 0, .int .i64 1, .int .i64 0, .int .i64 1, .int .i64 0, .int .i64 1, .int .i64 0, .int .i64 1, .int .i64 0, .int .i64 1, .int .i64 0] 3)).alloc (.cells #[.slice (some ⟨w.heap.size + 1, 0, none⟩) 11 11, .slice (some ⟨w.heap.size + 1, 0, none⟩) 11 11] 56)).alloc (.cells #[.bool false, .bool true] 4)
  have k1 := ((Blk.new (w.alloc (.cells #[.int .i64 0, .slice (some ⟨w.heap.size + 1 + 1, 0, none⟩) 2 2, .slice (some ⟨w.heap.size + 1 + 1 + 1, 0, none⟩) 2 2] 29)) 3 #[.int .i64 0, .int .i64 1, .int .i64 0, .int .i64 1, .int .i64 0, .int .i64 1, .int .i64 0, .int .i64 1, .int .i64 0, .int .i64 1, .int .i64 0]).alloc (.cells #[.slice (some ⟨w.heap.size + 1, 0, none⟩) 11 11, .slice (some ⟨w.heap.size + 1, 0, none⟩) 11 11] 56)).alloc (.cells #[.bool false, .bool true] 4)
  have k2 := (Blk.new ((w.alloc (.cells #[.int .i64 0, .slice (some ⟨w.heap.size + 1 + 1, 0, none⟩) 2 2, .slice (some ⟨w.heap.size + 1 + 1 + 1, 0, none⟩) 2 2] 29)).alloc (.cells #[.int .i64 0, .int .i64 1, .int .i64 0, .int .i64 1, .int .i64 0, .int .i64 1, .int .i64 0, .int .i64 1, .int .i64 0, .int .i64 1, .int .i64 0] 3)) 56 #[.slice (some ⟨w.heap.size + 1, 0, none⟩) 11 11, .slice (some ⟨w.heap.size + 1, 0, none⟩) 11 11]).alloc (.cells #[.bool false, .bool true] 4)
  have k3 := Blk.new (((w.alloc (.cells #[.int .i64 0, .slice (some ⟨w.heap.size + 1 + 1, 0, none⟩) 2 2, .slice (some ⟨w.heap.size + 1 + 1 + 1, 0, none⟩) 2 2] 29)).alloc (.cells #[.int .i64 0, .int .i64 1, .int .i64 0, .int .i64 1, .int .i64 0, .int .i64 1, .int .i64 0, .int .i64 1, .int .i64 0, .int .i64 1, .int .i64 0] 3)).alloc (.cells #[.slice (some ⟨w.heap.size + 1, 0, none⟩) 11 11, .slice (some ⟨w.heap.size + 1, 0, none⟩) 11 11] 56)) 4 #[.bool false, .bool true]
  simp only [World.size_alloc] at k1 k2 k3
  have r1 := rd_blk encI_len (l := oddRow) k1 (by decide)
  have r2 := rd_blk encS_len (l := [(⟨some ⟨w.heap.size + 1, 0, none⟩, 11, 11⟩ : RawS), ⟨some ⟨w.heap.size + 1, 0, none⟩, 11, 11⟩]) k2 (by simp)
  have r3 := rd_blk encO_len (l := [false, true]) k3 (by decide)
  refine bodyPost_ret (v := .agg #[.int .i64 0, .slice (some ⟨w.heap.size + 1 + 1, 0, none⟩) 2 2, .slice (some ⟨w.heap.size + 1 + 1 + 1, 0, none⟩) 2 2]) (resOD rfl k0) rfl ⟨_, _, _, _, rfl, ⟨_, r2, rfl, fun i h h' => ?_⟩, r3, A3⟩
  have hi : i < 2 := h
  obtain rfl | rfl : i = 0 ∨ i = 1 := by omega
  · exact r1
  · exact r1
def StrE (v : List Nat) : Str := strW v
set_option maxRecDepth 1000000 in
set_option maxHeartbeats 8000000 in
theorem awake_any (w : World) : Calls Try.prog 11 #[] w fun e w' => e = .returned (.bool true) ∧ Below w.heap.size w w' := by
  go_enter Try.func11, Try.ntmps11
  go_wp2_with fail
  refine (odd_any w).mono ?_
  rintro e w1 ⟨a1, c1, a2, c2, rfl, hn1, hf1, hb1⟩
  have HB1 := Lib.hid hb1
  have HS1 := Lib.hid (shortestP_any oddR a1 c1 a2 c2 w1 hn1 hf1)
  clear hn1 hf1 hb1
  go_wp2_with fail
  refine HS1.out.mono ?_
  rintro e w2 ⟨h2, hb2⟩
  have HB2 := Lib.hid (HB1.out.trans (hb2.mono HB1.out.size))
  have h3 : e = .returned (.tuple #[.string ⟨#[49]⟩, .bool true, .int .i64 0]) := by
    rcases h2 with ⟨h, _⟩ | ⟨_, ⟨v, h4, rfl⟩ | ⟨h4, _⟩⟩
    · rw [odd_ok] at h; cases h
    · rw [First.uniq h4 odd_first]
      rfl
    · exact (First.never odd_first h4).elim
  subst h3
  clear h2 hb2 HS1
  go_wp2_with fail
  refine (odd_any w2).mono ?_
  rintro e w3 ⟨a1, c1, a2, c2, rfl, hn1, hf1, hb1⟩
  have HB3 := Lib.hid (HB2.out.trans (hb1.mono HB2.out.size))
  have HS1 := Lib.hid (countP_any oddR 2 a1 c1 a2 c2 w3 hn1 hf1)
  clear hn1 hf1 hb1
  go_wp2_with fail
  refine HS1.out.mono ?_
  rintro e w4 ⟨h4, hb4⟩
  rw [odd_cnt] at h4
  subst h4
  have HB4 := Lib.hid (HB3.out.trans (hb4.mono HB3.out.size))
  clear hb4 HS1
  go_wp2_with fail
  refine (odd_any w4).mono ?_
  rintro e w5 ⟨a1, c1, a2, c2, rfl, hn1, hf1, hb1⟩
  have HB5 := Lib.hid (HB4.out.trans (hb1.mono HB4.out.size))
  have HS1 := Lib.hid (runP_any oddR a1 c1 a2 c2 ⟨#[50, 46, 55]⟩ (by decide) w5 hn1 hf1)
  clear hn1 hf1 hb1
  go_wp2_with fail
  refine HS1.out.mono ?_
  rintro e w6 ⟨rfl, hb6⟩
  have HB6 := Lib.hid (HB5.out.trans (hb6.mono HB5.out.size))
  have e6 : runP oddR (⟨#[50, 46, 55]⟩ : ByteArray).data.toList = true := odd_run
  rw [e6]
  clear hb6 HS1 e6
  go_wp2_with fail
  go_ret
  exact ⟨rfl, HB6.out⟩
end Go.Proofs.Ytiljagfjgefnnaa
