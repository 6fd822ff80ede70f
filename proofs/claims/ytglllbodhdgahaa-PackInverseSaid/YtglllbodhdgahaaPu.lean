/- The walk of PackInverse. -/
import Derived.Test.YtglllbodhdgahaaPr
namespace Go.Proofs.Ytglllbodhdgahaa
open Go.RowKit
set_option linter.unusedVariables false

/-- Integers, a list and its strings, one after another. -/
def encQ (n : Int) (l : List (List UInt8)) (k : Nat) : List UInt8 := enc n ++ (encL l ++ ((l.take k).map encS).flatten)
theorem encQ_zero (n : Int) (l : List (List UInt8)) : encQ n l 0 = enc n ++ encL l := by simp [encQ]
theorem encQ_step (n : Int) (l : List (List UInt8)) (k : Nat) (hk : k < l.length) : encQ n l (k + 1) = encQ n l k ++ encS (l.getD k []) := by
  unfold encQ
  rw [takeT_snoc l k hk]
  simp
theorem Few.encQ {n : Int} {l : List (List UInt8)} (h : Few l) : ∀ k, k ≤ l.length → (encQ n l k).length ≤ 11000 + 209 * k := by
  intro k
  induction k with
  | zero => intro _; rw [encQ_zero, List.length_append]; have := enc_len_le n; have := h.enc; omega
  | succ k ih =>
    intro hk
    rw [encQ_step n l k (by omega), List.length_append, encS_length]
    have := ih (by omega)
    have := h.2 k (by omega)
    have := enc_len_le ((l.getD k []).length : Int)
    omega
def EncRel (w : World) (n : Int) (l : List (List UInt8)) (v7 v10 : Value) (wr : World) : Prop :=
  ∃ k : Nat, k ≤ l.length ∧ v10 = .int .i64 k ∧ OwnB wr w.heap.size 5 v7 (encQ n l k) ∧ Below w.heap.size w wr
def DecRel2 (w : World) (g : Nat) (u : Value) (n : Int) (l : List (List UInt8)) (rest : List UInt8) (v12 : Value) (wr : World) : Prop :=
  ∃ k : Nat, k ≤ l.length ∧ v12 = .int .i64 k ∧ PR wr g u (encQ n l l.length ++ rest) (encQ n l k).length false ∧ Below w.heap.size w wr
theorem encQ_split (n : Int) (l : List (List UInt8)) : ∀ k, k ≤ l.length → ∃ r, encQ n l l.length = encQ n l k ++ r ∧ (k < l.length → ∃ r', r = encS (l.getD k []) ++ r') := by
  intro k hk
  refine ⟨((l.drop k).map encS).flatten, ?_, fun hlt => ?_⟩
  · unfold encQ
    rw [List.take_length]
    simp only [List.append_assoc]
    rw [← List.flatten_append, ← List.map_append, List.take_append_drop]
  · refine ⟨((l.drop (k + 1)).map encS).flatten, ?_⟩
    have e : l.getD k [] = l[k] := by simp [List.getD, List.getElem?_eq_getElem hlt]
    rw [List.drop_eq_getElem_cons hlt, List.map_cons, List.flatten_cons, e]
/-- What is read at the place of the k-th string. -/
theorem rd_at {n : Int} {l : List (List UInt8)} {rest : List UInt8} (h : Few l) {k : Nat} (hk : k < l.length) :
    rdS (restOf (encQ n l l.length ++ rest) (encQ n l k).length false) = (l.getD k [], (encS (l.getD k [])).length) := by
  obtain ⟨r, h1, h2⟩ := encQ_split n l k (by omega)
  obtain ⟨r', rfl⟩ := h2 hk
  show rdS (List.drop _ _) = _
  rw [h1, List.append_assoc, List.drop_left, List.append_assoc]
  exact rdS_enc _ _ (by have := h.2 k hk; omega)
theorem rd_int {n : Int} (hn : I64 n) (l : List (List UInt8)) (rest : List UInt8) : rdI (restOf (encQ n l l.length ++ rest) 0 false) = (n, (enc n).length) := by
  show rdI (List.drop 0 _) = _
  rw [List.drop_zero]
  unfold encQ
  rw [List.append_assoc]
  exact rdI_enc hn _
theorem rd_list {n : Int} {l : List (List UInt8)} {rest : List UInt8} (h : Few l) : rdL (restOf (encQ n l l.length ++ rest) (enc n).length false) (l.length : Int) = (l, (encL l).length) := by
  show rdL (List.drop _ _) _ = _
  unfold encQ
  rw [List.append_assoc, List.drop_left, List.append_assoc]
  exact rdL_enc l _ _ (by omega) (by have := h.1; omega) h.mem

theorem cell_of {w : World} {m c b off k : Nat} {l : List (List UInt8)} {s : List UInt8} (h : RdT w (.slice (some ⟨b, off, none⟩) m c) l) (hk : k < l.length) (hs : l.getD k [] = s) : w.cell? ⟨b, off + k, none⟩ = some (.string (ofL s)) := by
  obtain ⟨b', off', ha, hc⟩ := h.at k hk
  cases ha
  rw [← hs]
  exact hc
theorem next_of {w : World} {g : Nat} {u : Value} {n : Int} {zs : List (List UInt8)} {all s : List UInt8} {k : Nat} (h : encQ n zs (k + 1) = encQ n zs k ++ encS s) (hp : PR w g u all ((encQ n zs k).length + (encS s).length) (false || decide ((encS s).length = 0))) : PR w g u all (encQ n zs (k + 1)).length false := by
  have h1 : (false || decide ((encS s).length = 0)) = false := bad_pos (by rw [encS_length]; have := enc_len_le (s.length : Int); omega)
  rw [h1] at hp
  rw [h, List.length_append]
  exact hp

set_option maxRecDepth 1000000 in
set_option maxHeartbeats 4000000 in
theorem packInverse_walk (n : Int) (a : Option Addr) (len cap : Nat) (zs : List (List UInt8)) (a' : Option Addr) (len' cap' : Nat) (rs : List Int) (w : World) (hn : (Lit.int .i64 n).wf = true) (hr : IsStrs w a len cap zs) (hr' : IsRow .u8 w a' len' cap' rs) :
    Calls Try.prog 5 #[.int .i64 n, .slice a len cap, .slice a' len' cap'] w fun e w' => e = .returned (.bool true) ∧ Below w.heap.size w w' := by
  show Calls _ _ _ _ (AwPost w)
  have HI := Lib.hid (i64_of_wf hn)
  obtain ⟨rfl, hlen, hv⟩ := hr
  have HV := Lib.hid hv
  clear hn hv
  by_cases hf : Few zs
  · have HF := Lib.hid hf
    by_cases hl : 300 < len'
    · clear hf hr'
      go_enter Try.func5, Try.ntmps5
      go_wp2_with fail
      refine (awake_any _).mono ?_
      rintro e w1 ⟨rfl, b1⟩
      have V1 := Lib.hid (HV.out.below b1)
      go_wp2_with fail
      refine (few_yes _ zs _ V1.out hlen HF.out).mono ?_
      rintro e w' ⟨rfl, m, rfl⟩
      have B2 := below_drewN b1 m
      go_wp2_with fail
      refine (awake_any _).mono ?_
      rintro e w2 ⟨rfl, b2⟩
      have B := Lib.hid (st B2 b2 B2.size)
      clear b1 b2 B2
      go_wp2
      go_ret
      exact ⟨rfl, B.out⟩
    · obtain ⟨rest, rfl, hv2⟩ := rdB_of_row hr' (by omega)
      have HR := Lib.hid hv2
      have hrest : rest.length ≤ 300 := by omega
      have hl30 := hf.1
      have hQ := hf.encQ (n := n)
      have HQ := Lib.hid hQ
      have HQL := Lib.hid (hf.enc)
      have HEL := Lib.hid (enc_len_le n)
      obtain ⟨i0, hi, hz0, hz1, hz2⟩ := info_parts Try.infoB
      clear hf hr' hv2 hl hQ
      go_enter Try.func5, Try.ntmps5
      go_wp2_with fail
      refine (awake_any _).mono ?_
      rintro e w1 ⟨rfl, b1⟩
      have V1 := Lib.hid (HV.out.below b1)
      go_wp2_with fail
      refine (few_yes _ zs _ V1.out hlen HF.out).mono ?_
      rintro e w' ⟨rfl, m, rfl⟩
      have B2 := below_drewN b1 m
      have z2 := B2.size
      obtain ⟨w2, hw2⟩ : ∃ w2, w1.drewN m = w2 := ⟨_, rfl⟩
      rw [hw2] at B2 z2 ⊢
      have V2 := Lib.hid (HV.out.below B2)
      clear hw2 b1 V1
      go_wp2_with fail
      refine (int_any _ [] n _ (rdB_nil _) HI.out (by decide)).mono ?_
      rw [List.nil_append]
      rintro e w3 ⟨v3, rfl, o3, b3⟩
      have B3 := st B2 b3 z2
      have z3 := B3.size
      have V3 := Lib.hid (HV.out.below B3)
      have R3 := Lib.hid (o3.rd (by have := HEL.out; omega))
      obtain ⟨a3, c3, rfl⟩ := R3.out.slice
      clear o3 b3 B2 V2
      go_wp2_with fail
      refine (strings_any _ _ (enc n) zs _ R3.out V3.out (by have := HEL.out; have := HQL.out; omega)).mono ?_
      rintro e w4 ⟨v4, rfl, o4, b4⟩
      have B4 := Lib.hid (st B3 b4 z3)
      have z4 := B4.out.size
      have O4 : Hid (OwnB w4 w.heap.size 5 v4 (encQ n zs 0)) := Lib.hid (by rw [encQ_zero]; exact o4.base z3)
      have R4 := Lib.hid (O4.out.rd (by have := HQ.out 0 (by omega); omega))
      obtain ⟨a4, c4, rfl⟩ := R4.out.slice
      clear o4 b4 B3 V3 R3
      go_wp2
      go_loopw [7, 10] (fun v7 v10 wr => EncRel w n zs v7 v10 wr) (fun _ v10 _ => zs.length - (intOf v10).toNat)
      case atStart => exact ⟨0, Nat.zero_le _, rfl, O4.out, B4.out⟩
      case round =>
        obtain ⟨k, hk, rfl, hown, hB⟩ := hrel
        have HO := Lib.hid hown
        have HB := Lib.hid hB
        have zr := hB.size
        clear O4 B4 R4
        by_cases hlt : k < zs.length
        · obtain ⟨bk, off, rfl, hc⟩ := ((HV.out.below hB).at k hlt)
          have HS := Lib.hid (encQ_step n zs k hlt)
          have hs200 := HF.out.2 k hlt
          obtain ⟨s, hs⟩ : ∃ s, zs.getD k [] = s := ⟨_, rfl⟩
          rw [hs] at hc HS hs200
          have q1 : (k : Int) < (zs.length : Int) := by omega
          have RO := Lib.hid (hown.rd (by have := HQ.out k hk; omega))
          clear hs hown hB
          go_wp2_with fail
          refine (string_any _ _ s _ RO.out (by have := HQ.out k hk; omega)).mono ?_
          rintro e w5 ⟨v5, rfl, o5, b5⟩
          have R5 := Lib.hid (show OwnB w5 w.heap.size 5 v5 (encQ n zs (k + 1)) ∧ Below w.heap.size w w5 from ⟨by rw [HS.out]; exact o5.base zr, st HB.out b5 zr⟩)
          clear o5 b5
          go_wp2
          go_roundw
          case rel => exact ⟨k + 1, by omega, by go_num, R5.out.1, R5.out.2⟩
          case measure => simp [intOf]; omega
        · obtain rfl : k = zs.length := by omega
          have q1 : ¬ (zs.length : Int) < (zs.length : Int) := by omega
          have VR := Lib.hid (HV.out.below hB)
          have RR := Lib.hid (HR.out.below hB)
          have HO2 := Lib.hid (HO.out.rd (by have := HQ.out zs.length (by omega); omega))
          obtain ⟨a7, c7, rfl⟩ := HO2.out.slice
          have hql := HQ.out zs.length (by omega)
          have HQ2 : Hid ((encQ n zs zs.length).length + rest.length ≤ 140737488355328) := Lib.hid (by omega)
          clear hown hB hlt hk
          go_wp2_with (at_builtin; go_loud (refine wpList_append_many rfl _ _ 22 rfl w.heap.size 5 i0 Try.underlying22 hi hz0 hz1 hz2 _ (encQ n zs zs.length) rest _ rfl HO.out rfl RR.out HQ2.out zr HB.out ?_))
          · intro v6 w6 o6 b6
            have z6 := b6.size
            have B6 := Lib.hid b6
            have R6 := Lib.hid (o6.rd (by rw [List.length_append]; omega))
            clear o6 b6
            go_wp2_with fail
            refine (read_any _ (encQ n zs zs.length ++ rest) _ R6.out (by rw [List.length_append]; omega)).mono ?_
            rintro e w7 ⟨g, u, rfl, p7, b7, hg⟩
            have hg' : w.heap.size ≤ g := Nat.le_trans z6 hg
            have B7 := st B6.out b7 z6
            have z7 := B7.size
            have P7 := Lib.hid p7
            clear p7 b7 R6
            go_wp2_with fail
            refine (rint_any _ g u _ 0 false P7.out).mono ?_
            rw [rd_int HI.out]
            rintro e w8 ⟨rfl, p8, b8⟩
            have B8 := B7.trans (b8.below hg' z7)
            have z8 := B8.size
            have P8 : Hid (PR w8 g u (encQ n zs zs.length ++ rest) (enc n).length false) := Lib.hid (by
              have h : (false || decide ((enc n).length = 0)) = false := bad_pos (by have := HEL.out; omega)
              rw [← h]
              simpa using p8)
            clear p8 b8 B7
            go_wp2_with fail
            refine (offset_any _ g u _ _ false P8.out).mono ?_
            rintro e w' ⟨rfl, m1, rfl⟩
            have P9 := Lib.hid (P8.out.drewN m1)
            have B9 := below_drewN B8 m1
            have z9 := B9.size
            go_wp2_with fail
            refine (rstrings_any _ g u _ (enc n).length false (zs.length : Int) P9.out (by rw [List.length_append]; omega)).mono ?_
            rw [rd_list HF.out]
            rintro e w10 ⟨x, rfl, ht, p10, b10⟩
            have B10 := B9.trans (b10.below hg' z9)
            have z10 := B10.size
            have P10 : Hid (PR w10 g u (encQ n zs zs.length ++ rest) (encQ n zs 0).length false) := Lib.hid (by
              have h : (false || decide ((encL zs).length = 0)) = false := bad_pos (by have := encL_len zs; have := enc_len_le (zs.length : Int); unfold encL; rw [List.length_append]; omega)
              rw [encQ_zero, List.length_append, ← h]
              exact p10)
            have T10 := Lib.hid ht
            have V10 := Lib.hid (HV.out.below B10)
            clear ht p10 b10 B9 B8
            go_wp2_with fail
            refine (sameStrings_any _ _ zs zs _ T10.out V10.out (by omega) (by omega)).mono ?_
            rw [decide_eq_true rfl]
            rintro e w' ⟨rfl, m2, rfl⟩
            have P11 := Lib.hid (P10.out.drewN m2)
            have B11 := below_drewN B10 m2
            go_wp2_with fail
            refine (offset_any _ g u _ _ false P11.out).mono ?_
            rintro e w' ⟨rfl, m3, rfl⟩
            have P12 := Lib.hid (P10.out.drewN (m2 + m3))
            have B12 := Lib.hid (below_drewN B10 (m2 + m3))
            clear B10 B11 P11 P10
            clear VR RR HO2 HO HB V10 T10
            go_wp2
            go_loopw [12] (fun v12 wr => DecRel2 w g u n zs rest v12 wr) (fun v12 _ => zs.length - (intOf v12).toNat)
            case atStart => exact ⟨0, Nat.zero_le _, rfl, P12.out, B12.out⟩
            case round =>
              obtain ⟨k, hk, rfl, hp, hB⟩ := hrel
              have HP := Lib.hid hp
              have HB := Lib.hid hB
              have zr := hB.size
              clear hp P12 B12
              by_cases hlt : k < zs.length
              · have VK := Lib.hid (HV.out.below hB)
                obtain ⟨bk, off, hab, hc⟩ := VK.out.at k hlt
                have HRD := Lib.hid (rd_at (n := n) (rest := rest) HF.out hlt)
                have HST := Lib.hid (encQ_step n zs k hlt)
                obtain ⟨s, hs⟩ : ∃ s, zs.getD k [] = s := ⟨_, rfl⟩
                rw [hs] at hc HRD HST
                subst hab
                have q1 : (k : Int) < (zs.length : Int) := by omega
                have q2 : (0 : Int) ≤ (k : Int) := by omega
                have HSS := Lib.hid hs
                clear hB hs
                go_wp2_with fail
                go_region_held3 (fun w' => w'.cell? ⟨bk, off + k, none⟩ = some (.string (ofL s))) (first | exact t1 | exact hc) (first | (go_at_call 24; refine (rstring_any _ g u _ (encQ n zs k).length false (HP.out.drewN 1)).mono ?_; rw [HRD.out]; rintro e w13 ⟨rfl, p13, b13⟩; have B13 := Lib.hid ((below_drewN HB.out 1).trans (b13.below hg' zr)); have t1 : w13.cell? ⟨bk, off + k, none⟩ = some (.string (ofL s)) := cell_of (HV.out.below B13.out) hlt HSS.out; have P13 := Lib.hid (next_of HST.out p13); clear p13 b13))
                all_goals
                  go_wp2
                  go_roundw
                  case rel => exact ⟨k + 1, by omega, by go_num, P13.out, B13.out⟩
                  case measure => simp [intOf]; omega
              · obtain rfl : k = zs.length := by omega
                have q3 : ¬ (zs.length : Int) < (zs.length : Int) := by omega
                clear hB hlt hk
                by_cases hrn : rest = []
                · subst hrn
                  have HE := Lib.hid (show endV (encQ n zs zs.length ++ []) (encQ n zs zs.length).length false = 0 by rw [List.append_nil]; exact endV_ok)
                  go_wp2_with fail
                  refine (offset_any _ g u _ _ false HP.out).mono ?_
                  rintro e w' ⟨rfl, m5, rfl⟩
                  go_wp2_with fail
                  refine (end_any _ g u _ _ false (HP.out.drewN m5)).mono ?_
                  rw [HE.out]
                  rintro e w' ⟨rfl, m6, rfl⟩
                  have BB := Lib.hid (below_drewN HB.out (m5 + m6))
                  go_wp2
                  go_ret
                  exact ⟨rfl, by simpa using BB.out⟩
                · have hrl : 0 < rest.length := List.length_pos_iff.2 hrn
                  have HE := Lib.hid (show endV (encQ n zs zs.length ++ rest) (encQ n zs zs.length).length false = 4 from endV_short (by rw [List.length_append]; omega))
                  have q4 : ((rest.length : Int) == 0) = false := by rw [beq_eq_false_iff_ne]; omega
                  clear hrn
                  go_wp2_with fail
                  refine (offset_any _ g u _ _ false HP.out).mono ?_
                  rintro e w' ⟨rfl, m5, rfl⟩
                  go_wp2_with fail
                  refine (end_any _ g u _ _ false (HP.out.drewN m5)).mono ?_
                  rw [HE.out]
                  rintro e w' ⟨rfl, m6, rfl⟩
                  have BB := Lib.hid (below_drewN HB.out (m5 + m6))
                  go_wp2
                  go_ret
                  exact ⟨rfl, by simpa using BB.out⟩
  · have HF := Lib.hid hf
    clear hf hr'
    go_enter Try.func5, Try.ntmps5
    go_wp2_with fail
    refine (awake_any _).mono ?_
    rintro e w1 ⟨rfl, b1⟩
    have V1 := Lib.hid (HV.out.below b1)
    go_wp2_with fail
    refine (few_no _ zs _ V1.out hlen HF.out).mono ?_
    rintro e w' ⟨rfl, m, rfl⟩
    have B2 := below_drewN b1 m
    go_wp2_with fail
    refine (awake_any _).mono ?_
    rintro e w2 ⟨rfl, b2⟩
    have B := Lib.hid (st B2 b2 B2.size)
    clear b1 b2 B2
    go_wp2
    go_ret
    exact ⟨rfl, B.out⟩
end Go.Proofs.Ytglllbodhdgahaa
