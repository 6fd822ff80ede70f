/- Of the reference: Run, alike. -/
import Derived.Test.YtiljagfjgefnnaaAe
namespace Go.Proofs.Ytiljagfjgefnnaa
open Go.RowKit
set_option linter.unusedVariables false

def sy (c : UInt8) : Nat := (symI c.toNat).toNat
def okc (c : UInt8) : Bool := decide (0 ≤ symI c.toNat)
def isW (s : Str) : Bool := s.all okc
def wdN (s : Str) : List Nat := s.map sy
theorem symI_le (c : Nat) (hc : c ≤ 255) : -1 ≤ symI c ∧ symI c < 11 := by
  unfold symI
  split
  · omega
  · split <;> omega
theorem sy_lt (c : UInt8) : sy c < 11 := by
  have := symI_le c.toNat (by have := c.toNat_lt; omega)
  unfold sy
  omega
theorem word_wdN (s : Str) : word (wdN s) := fun c hc => by
  obtain ⟨x, _, rfl⟩ := List.mem_map.1 hc
  exact sy_lt x
def runP (r : RawD) (s : Str) : Bool := okD r && isW s && (toA r).acc (toA r).s0 (wdN s)
theorem len_data (s : ByteArray) : s.data.toList.length = s.size := Array.length_toList
theorem byte_at (s : ByteArray) {k : Nat} (h : k < s.size) : s.data.toList[k]'(by rw [len_data]; exact h) = s[k] := Array.getElem_toList ..
theorem isW_bad {s : Str} {k : Nat} (h : k < s.length) (hb : okc s[k] = false) : isW s = false := all_bad h hb
theorem isW_all {s : Str} (h : ∀ (j : Nat) (hj : j < s.length), okc s[j] = true) : isW s = true := all_good fun j hj _ => h j hj
theorem run_snoc (A : Aut) (s : Str) (q : Nat) {k : Nat} (h : k < s.length) : A.run q (wdN (s.take (k + 1))) = A.d (A.run q (wdN (s.take k))) (sy s[k]) := by
  unfold wdN
  rw [List.take_succ_eq_append_getElem h, List.map_append, Aut.run_app]
  rfl
set_option maxRecDepth 1000000 in
set_option maxHeartbeats 8000000 in
theorem run_any (r : RawD) (a1 : Option Addr) (c1 : Nat) (a2 : Option Addr) (c2 : Nat) (s : ByteArray) (hs : s.size ≤ 9223372036854775807) (w : World) (hN : RdRows w (.slice a1 r.nx.length c1) r.nx) (hF : Rd 1 encO w (.slice a2 r.ac.length c2) r.ac) :
    Calls Try.prog 17 #[.agg #[.int .i64 r.st, .slice a1 r.nx.length c1, .slice a2 r.ac.length c2], .string s] w fun e w' => e = .returned (.bool (runP r s.data.toList)) ∧ Below w.heap.size w w' := by
  have BA := (Below.refl w.heap.size w).alloc (Nat.le_refl _) (.cells #[.int .i64 r.st, .slice a1 r.nx.length c1, .slice a2 r.ac.length c2] 25)
  have k0 := Blk.new w 25 #[.int .i64 r.st, .slice a1 r.nx.length c1, .slice a2 r.ac.length c2]
  obtain ⟨W0, hW0⟩ : ∃ W0, w.alloc (.cells #[.int .i64 r.st, .slice a1 r.nx.length c1, .slice a2 r.ac.length c2] 25) = W0 := ⟨_, rfl⟩
  have HN := Lib.hid (hN.below BA)
  have HF := Lib.hid (hF.below BA)
  have HBA := Lib.hid BA
  have K0 := Lib.hid k0
  rw [hW0] at HN HF HBA K0
  obtain ⟨g, hg⟩ : ∃ g, w.heap.size = g := ⟨_, rfl⟩
  have HG := Lib.hid hg
  have HW0 := Lib.hid hW0
  rw [hg] at K0
  have f0 : W0.cell? ⟨g, 0, none⟩ = some (.int .i64 r.st) := K0.out.cell 0
  have f1 : W0.cell? ⟨g, 1, none⟩ = some (.slice a1 r.nx.length c1) := K0.out.cell 1
  have f2 : W0.cell? ⟨g, 2, none⟩ = some (.slice a2 r.ac.length c2) := K0.out.cell 2
  have HV0 := Lib.hid (valid_any r a1 c1 a2 c2 W0 HN.out HF.out)
  clear hN hF BA k0 hW0 hg
  go_enter Try.func17, Try.ntmps17
  go_upto_region 1 with fail
  rw [HW0.out, HG.out]
  clear HW0
  go_wp2_with fail
  refine HV0.out.mono ?_
  obtain ⟨ok, hok⟩ : ∃ ok, okD r = ok := ⟨_, rfl⟩
  have HOK := Lib.hid hok
  rw [hok]
  rintro e w2 ⟨rfl, b2⟩
  have B2 := Lib.hid (st HBA.out b2 HBA.out.size)
  have N2 := Lib.hid (HN.out.below b2)
  have F2 := Lib.hid (HF.out.below b2)
  have K2 : Hid (Blk g 25 #[.int .i64 r.st, .slice a1 r.nx.length c1, .slice a2 r.ac.length c2] w2) := Lib.hid (Blk.below K0.out b2)
  clear f0 f1 f2 b2 hok HV0
  cases ok with
  | false =>
    have HR : Hid (runP r s.data.toList = false) := Lib.hid (by unfold runP; rw [HOK.out]; rfl)
    go_wp2_with fail
    go_ret
    exact ⟨by rw [HR.out]; rfl, B2.out⟩
  | true =>
    have HD := Lib.hid (okD_iff.1 HOK.out).1
    have HA := Lib.hid HD.out.ok
    have HR : Hid (runP r s.data.toList = (isW s.data.toList && (toA r).acc (toA r).s0 (wdN s.data.toList))) := Lib.hid (by unfold runP; rw [HOK.out]; rfl)
    have f0 : w2.cell? ⟨g, 0, none⟩ = some (.int .i64 r.st) := K2.out.cell 0
    have f1 : w2.cell? ⟨g, 1, none⟩ = some (.slice a1 r.nx.length c1) := K2.out.cell 1
    have f2 : w2.cell? ⟨g, 2, none⟩ = some (.slice a2 r.ac.length c2) := K2.out.cell 2
    have HS0 : Hid (r.st = ((toA r).s0 : Int)) := Lib.hid (by show r.st = ((r.st.toNat : Nat) : Int); have := HD.out.st0; omega)
    go_wp2_with fail
    go_loopw [5, 6] (fun v5 v6 wr => ∃ k : Nat, k ≤ s.size ∧ v6 = .int .i64 k ∧ v5 = .int .i64 ((toA r).run (toA r).s0 (wdN (s.data.toList.take k)) : Nat) ∧ (∀ (j : Nat) (hj : j < s.data.toList.length), j < k → okc s.data.toList[j] = true) ∧ wr = w2) (fun _ v6 _ => s.size - (intOf v6).toNat)
    case atStart => exact ⟨0, Nat.zero_le _, rfl, by rw [HS0.out]; rfl, fun j _ h => by omega, rfl⟩
    case round =>
      obtain ⟨k, hk, rfl, rfl, hkd, hw⟩ := hrel
      obtain rfl := hw.symm
      have HK := Lib.hid hkd
      clear hkd
      have hq := HA.out.run_lt (wdN (s.data.toList.take k)) _ HA.out.st (word_wdN _)
      obtain ⟨q, hqq⟩ : ∃ q, (toA r).run (toA r).s0 (wdN (s.data.toList.take k)) = q := ⟨_, rfl⟩
      have HQ := Lib.hid hqq
      rw [hqq] at hq ⊢
      have hq' : q < r.nx.length := hq
      clear hqq hq
      by_cases hlt : k < s.size
      · have hlt2 : k < s.data.toList.length := by rw [len_data]; exact hlt
        have h9 : (k : Int) < (s.size : Int) := by omega
        have HSN := Lib.hid (run_snoc (toA r) s.data.toList (toA r).s0 hlt2)
        have HBD := Lib.hid (isW_bad (s := s.data.toList) hlt2)
        have hby := byte_at s hlt
        obtain ⟨c, hc⟩ : ∃ c, s.data.toList[k] = c := ⟨_, rfl⟩
        have HC := Lib.hid hc
        rw [hc] at HSN HBD hby
        have hcn := c.toNat_lt
        have hsc := symbol_any c.toNat (by omega)
        have hle := symI_le c.toNat (by omega)
        rw [hby] at hsc hle hcn
        have HSC := Lib.hid hsc
        have HBY := Lib.hid hby
        clear hc hby hsc
        go_wp2_with fail
        refine (HSC.out _).mono ?_
        rintro e w3 ⟨rfl, hw3⟩
        obtain rfl := hw3.symm
        rw [← HBY.out] at hle ⊢
        obtain ⟨y, hy⟩ : ∃ y, symI c.toNat = y := ⟨_, rfl⟩
        have HY := Lib.hid hy
        rw [hy] at hle ⊢
        clear hy
        by_cases hneg : y < 0
        · have HV : Hid (runP r s.data.toList = false) := Lib.hid (by
            rw [HR.out, HBD.out (by unfold okc; rw [HY.out, decide_eq_false (by omega)])]
            rfl)
          go_wp2_with fail
          go_ret
          exact ⟨by rw [HV.out]; rfl, B2.out⟩
        · obtain ⟨z, rfl⟩ : ∃ z : Nat, y = (z : Int) := ⟨y.toNat, by omega⟩
          have hz : z < 11 := by omega
          have HSY : Hid (sy c = z) := Lib.hid (by unfold sy; rw [HY.out]; rfl)
          have HOC : Hid (okc c = true) := Lib.hid (by unfold okc; rw [HY.out, decide_eq_true (by omega)])
          obtain ⟨b, off, b', off', x2, rfl, g0, g1⟩ := HD.out.cells N2.out hq' hz
          have h8 : (z : Int) < 11 := by omega
          have h7 : (q : Int) < (r.nx.length : Int) := by omega
          go_wp2_with fail
          go_roundw
          case measure => simp [intOf]; omega
          case rel => exact ⟨k + 1, by omega, by go_num, by rw [HSN.out, HQ.out, HSY.out], fun j hj hjk => by
            rcases Nat.lt_or_ge j k with h | h
            · exact HK.out j hj h
            · obtain rfl : j = k := by omega
              rw [HC.out]; exact HOC.out, (by first | rfl | trivial)⟩
      · obtain rfl : k = s.size := by omega
        have h3 : ¬ (s.size : Int) < (s.size : Int) := by omega
        have hqa : q < r.ac.length := by rw [HD.out.ac]; exact hq'
        have h7 : (q : Int) < (r.ac.length : Int) := by omega
        obtain ⟨b, off, rfl, g0⟩ := F2.out.boo q hqa
        have HV : Hid (runP r s.data.toList = r.ac.getD q false) := Lib.hid (by
          have e1 : s.data.toList.take s.size = s.data.toList := by rw [← len_data, List.take_length]
          rw [HR.out, isW_all (fun j hj => HK.out j hj (by rw [← len_data]; exact hj)), ← HQ.out, e1]
          rfl)
        obtain ⟨z, hz⟩ : ∃ z, r.ac.getD q false = z := ⟨_, rfl⟩
        rw [hz] at g0 HV
        clear hz
        go_wp2_with fail
        go_ret
        exact ⟨by rw [HV.out]; rfl, B2.out⟩
end Go.Proofs.Ytiljagfjgefnnaa
