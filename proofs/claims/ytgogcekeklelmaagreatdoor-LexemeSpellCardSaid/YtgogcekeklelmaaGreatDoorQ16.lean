/- What the row stands on, part 16. -/
import Derived.ChangeSame
import Derived.Deep.Strs
import Derived.SizedLaws
import Derived.Test.YtgogcekeklelmaaGreatDoorZysh
import Derived.Test.YtgogcekeklelmaaGreatDoorQ15

/- What comes in: tokens of any kinds, rows of bytes. -/
namespace Go.Proofs.YtgogcekeklelmaaGreatDoor
open Go.RowKit
set_option linter.unusedVariables false

theorem one_of {α : Type} {l : List α} {n i : Nat} {v : α} (h : (l.drop i).take 1 = [v]) : l[i]? = some v := by
  have := congrArg (fun r : List α => r[0]?) h
  simpa [List.getElem?_take, List.getElem?_drop] using this
/-- A row of equal cells reads as a list. -/
theorem rd_of_row {α : Type} {k : Nat} {enc : α → List Value} {w : World} {a : Addr} {len cap : Nat} (Z : Nat → α) (hk : 0 < k) (henc : ∀ x, (enc x).length = k) (hl : len ≤ cap) (hc : cap ≤ maxLen)
    (h : ∀ i, i < len → ∀ (j : Nat) (v : Value), (enc (Z i))[j]? = some v → w.cell? (a.add (i * k + j)) = some v) :
    Rd k enc w (.slice (some a) len cap) ((List.range len).map Z) := by
  have hM : maxLen = 9223372036854775807 := by decide
  have hlen : ((List.range len).map Z).length = len := by simp
  refine ⟨⟨_, cap, by rw [hlen], by omega, by omega, fun hne => ?_⟩, fun n c hc => by cases hc⟩
  have hpos : 0 < len := by rw [← hlen]; exact List.length_pos_iff.2 hne
  have h00 := h 0 hpos 0 _ (List.getElem?_eq_getElem (by rw [henc]; exact hk))
  obtain ⟨b, off, sp⟩ := a
  have hspot : sp = none := by simpa [Addr.add] using World.cell?_spot h00
  subst hspot
  refine ⟨b, off, rfl, ?_, fun i u hi j v hv => ?_⟩
  · rw [add_off] at h00
    exact World.block_lt_of_cell? w _ h00
  · have hil := (List.getElem?_eq_some_iff.1 hi).1
    rw [hlen] at hil
    simp [List.getElem?_range hil] at hi
    subst hi
    have q := h i hil j v hv
    rw [add_off, ← Nat.add_assoc] at q
    exact q
instance : Inhabited TkZ := ⟨⟨0, [], 0⟩⟩
/-- What is known of a list of tokens that came in. -/
def IsTkz (w : World) (a : Option Addr) (len cap : Nat) (zs : List TkZ) : Prop := zs.length = len ∧ Rd 3 encZ w (.slice a len cap) zs
theorem isTkz_nil (w : World) : IsTkz w none 0 0 [] := ⟨rfl, rd_nil w⟩
theorem isTkz_of {H : Type} {enc : TypeId × Value → H} {P : Program} {w : World} {base : Nat} {spare : Nat → Bool} {held : Bool} {t e : TypeId} {f0 f1 f2 : Field} {fuel : Nat} {cs : List Value} {x : DataW H × List MemPlace}
    (ht : P.underlying t = some (.slice e)) (he : P.underlying e = some (.struct #[f0, f1, f2])) (hce : P.cellsOf e = 3) (o0 : f0.offset = 0) (o1 : f1.offset = 1) (o2 : f2.offset = 2)
    (c0 : P.cellsOf f0.type = 1) (c1 : P.cellsOf f1.type = 1) (c2 : P.cellsOf f2.type = 1) (k0 : P.underlying f0.type = some (.int .i64)) (k1 : P.underlying f1.type = some .string) (k2 : P.underlying f2.type = some (.int .i64))
    (h : DataW.trod enc P w base spare held fuel t cs = some x) : cs = [.slice none 0 0] ∨ ∃ a len cap zs, cs = [.slice (some a) len cap] ∧ IsTkz w (some a) len cap zs := by
  rcases Go.Deep.open_slice ht h with ⟨h0, _⟩ | ⟨a, len, cap, m, n, D, Pl, hcs, hb, hl, hm, hmm, _, hx⟩
  · exact .inl h0
  right
  have hlm : len ≤ m := by rw [hmm]; split <;> omega
  have each : ∀ i, i < m → ∃ z : TkZ, w.cell? (a.add (i * 3)) = some (.int .i64 z.kd) ∧ w.cell? (a.add (i * 3 + 1)) = some (.string (ofL z.tx)) ∧ w.cell? (a.add (i * 3 + 2)) = some (.int .i64 z.at_) := fun i hi => by
    obtain ⟨cs', hc, htr⟩ := hx i hi
    rw [hce] at hc
    obtain ⟨_, hcl, hat⟩ := World.cells?_some hc
    obtain ⟨y0, y1, y2, n2, _, _, h0, h1, h2⟩ := Go.Deep.trod_struct3 he htr
    rw [o0, c0] at h0
    rw [o1, c1] at h1
    rw [o2, c2] at h2
    obtain ⟨z0, e0, _, w0⟩ := DataW.trod_int k0 h0
    obtain ⟨z1, e1, _, w1⟩ := DataW.trod_string k1 h1
    obtain ⟨z2, e2, _, w2⟩ := DataW.trod_int k2 h2
    have g0 := hat 0 (by omega)
    have g1 := hat 1 (by omega)
    have g2 := hat 2 (by omega)
    rw [Go.Deep.add_add, one_of (n := 0) e0] at g0
    rw [Go.Deep.add_add, one_of (n := 0) e1] at g1
    rw [Go.Deep.add_add, one_of (n := 0) e2] at g2
    exact ⟨⟨z0, z1.data.toList, z2⟩, g0, by rw [of_data]; exact g1, g2⟩
  obtain ⟨Z, hZ⟩ := Go.Deep.choose_lt each
  refine ⟨a, len, cap, (List.range len).map Z, hcs, by simp, rd_of_row Z (by omega) encZ_len hl hm fun i hi j v hv => ?_⟩
  obtain ⟨q0, q1, q2⟩ := hZ i (by omega)
  have hj : j < 3 := by have := (List.getElem?_eq_some_iff.1 hv).1; simpa [encZ] using this
  rcases (by omega : j = 0 ∨ j = 1 ∨ j = 2) with rfl | rfl | rfl
  · simp [encZ] at hv; subst hv; exact q0
  · simp [encZ] at hv; subst hv; exact q1
  · simp [encZ] at hv; subst hv; exact q2
end Go.Proofs.YtgogcekeklelmaaGreatDoor


/- The laws of layer 11 as the rows take them, given the program's functions. In the true seat: prove LexC, then the five '.._walk' are one line each. -/
namespace Go.Proofs.YtgogcekeklelmaaGreatDoor
open Go.RowKit
set_option linter.unusedVariables false

section
variable {EV : World → Prop} (C : LexC EV)
include C
theorem lexemeSpell_in (CN : NumC EV) (g : Option Addr) (n c : Nat) (z : List TkZ) (a : ByteArray) (w : World) (h3 : IsTkz w g n c z) (h1 : a.size ≤ maxLen) (E : EV w) :
    Calls Tryz.prog 3 #[.slice g n c, .string a] w fun e w' => e = .returned (.bool true) ∧ Below w.heap.size w w' :=
  lexemeSpell_law C CN _ z a w h3.2 h1 E
end
end Go.Proofs.YtgogcekeklelmaaGreatDoor


/- Of the program of layer 11: isOneOf, pass, Cut at a line feed, skip. -/
namespace Go.Proofs.YtgogcekeklelmaaGreatDoor
open Go.RowKit
set_option linter.unusedVariables false

theorem isOneOf_any (L : ByteArray) (c : UInt8) (w : World) : Calls Tryz.prog 27 #[.string L, .int .u8 (c.toNat : Int)] w fun e w' => e = .returned (.bool (oneOf L.data.toList c)) ∧ w' = w := by
  have HC := Lib.hid (Tryz.strings_IndexByte L (c.toNat : Int) w)
  rw [show ((c.toNat : Int).toNat.toUInt8) = c by simp] at HC
  obtain ⟨b, hb⟩ : ∃ b, oneOf L.data.toList c = b := ⟨_, rfl⟩
  have HB := Lib.hid hb
  unfold oneOf at hb
  obtain ⟨k, hk⟩ : ∃ k, Lib.indexByte L.data.toList c = k := ⟨_, rfl⟩
  rw [hk] at HC hb
  clear hk
  go_enter Tryz.func27, Tryz.ntmps27
  go_wp2_with fail
  refine HC.out.mono ?_
  rintro e w2 ⟨rfl, hw2⟩
  obtain rfl := hw2.symm
  clear hw2
  go_wp2
  go_ret
  exact ⟨by rw [HB.out]; rfl, rfl⟩
def PaRel (s : ByteArray) (w : World) (K : Nat) (p : UInt8 → Bool) (v1 : Value) (wr : World) : Prop := ∃ k : Nat, v1 = .int .i64 k ∧ k ≤ s.size ∧ Hid (K = k + runN p (s.data.toList.drop k)) ∧ wr = w
set_option maxRecDepth 1000000 in
set_option maxHeartbeats 4000000 in
theorem pass_any (L : List UInt8) (p : UInt8 → Bool) (hp : oneOf L = p) (s : ByteArray) (o : Nat) (ho : o ≤ s.size) (hs : s.size ≤ 9223372036854775807) (w : World) :
    Calls Tryz.prog 21 #[.string s, .int .i64 o, .string (ofL L)] w fun e w' => e = .returned (.int .i64 ((o + runN p (s.data.toList.drop o) : Nat) : Int)) ∧ w' = w := by
  obtain ⟨K, hK⟩ : ∃ K, o + runN p (s.data.toList.drop o) = K := ⟨_, rfl⟩
  rw [hK]
  have HK := Lib.hid hK
  have HONE := Lib.hid (fun c => isOneOf_any (ofL L) c w)
  rw [show (ofL L).data.toList = L from rfl, hp] at HONE
  obtain ⟨X, hX⟩ : ∃ X, ofL L = X := ⟨_, rfl⟩
  rw [hX] at HONE ⊢
  clear hK hp hX
  go_enter Tryz.func21, Tryz.ntmps21
  go_wp2
  go_loopw [1] (fun v1 wr => PaRel s w K p v1 wr) (fun v1 _ => s.size - (intOf v1).toNat)
  case atStart => exact ⟨o, rfl, ho, Lib.hid HK.out.symm, rfl⟩
  case round =>
    rename World => wr
    obtain ⟨k, rfl, hk, HW, hwr⟩ := hrel
    obtain rfl : w = wr := hwr.symm
    clear hwr
    by_cases hlt : k < s.size
    · have HD := Lib.hid (data_drop hlt)
      have h9 : (k : Int) < (s.size : Int) := by omega
      have HO := Lib.hid (HONE.out (s[k]'hlt))
      obtain ⟨b, hb⟩ : ∃ b, p (s[k]'hlt) = b := ⟨_, rfl⟩
      have HB := Lib.hid hb
      rw [hb] at HO
      clear hb
      cases b with
      | true =>
        have HN : Hid (K = (k + 1) + runN p (s.data.toList.drop (k + 1))) := Lib.hid (by rw [HW.out, HD.out, runN, if_pos HB.out]; omega)
        clear HW HD
        go_wp2_with fail
        refine HO.out.mono ?_
        rintro e w2 ⟨rfl, hw2⟩
        obtain rfl := hw2.symm
        clear hw2
        go_wp2
        go_roundw
        case measure => simp [intOf]; omega
        case rel => exact ⟨k + 1, by go_num, by omega, HN, rfl⟩
      | false =>
        have HN : Hid (K = k) := Lib.hid (by rw [HW.out, HD.out, runN, if_neg (by rw [HB.out]; decide)]; rfl)
        clear HW HD
        go_wp2_with fail
        refine HO.out.mono ?_
        rintro e w2 ⟨rfl, hw2⟩
        obtain rfl := hw2.symm
        clear hw2
        go_wp2
        go_ret
        exact ⟨by rw [HN.out]; rfl, rfl⟩
    · have h9 : ¬ (k : Int) < (s.size : Int) := by omega
      have HN : Hid (K = k) := Lib.hid (by rw [HW.out, data_end (by omega)]; rfl)
      clear HW
      go_wp2
      go_ret
      exact ⟨by rw [HN.out]; rfl, rfl⟩
/-! ### Cut at a line feed -/
def CutPost10 (w : World) (s : ByteArray) (e : Ending) (w' : World) : Prop :=
  (∃ B : Value, ∃ b : Bool, e = .returned (.tuple #[.string (ofL (s.data.toList.take (runN noNl s.data.toList))), B, .bool b])) ∧ Below w.heap.size w w'
set_option maxRecDepth 1000000 in
theorem cutIn10_any (s : ByteArray) (hs : s.size ≤ 1099511627776) (w : World) : Calls Tryz.prog 76 #[.string s, .string ⟨#[10]⟩] w (CutPost10 w s) := by
  rcases index_run s.data.toList with ⟨h, hk⟩ | ⟨h, hk⟩
  · have H : Hid (.string s = Value.string (ofL (s.data.toList.take (runN noNl s.data.toList)))) := Lib.hid (by rw [hk, List.take_length, of_data])
    clear hk
    go_enter Tryz.func76, Tryz.ntmps76
    go_wp2_with fail
    refine (Tryz.stringslite_Index_one s 10 _).mono ?_
    rintro e w' ⟨rfl, rfl⟩
    rw [h]
    clear h
    go_wp2
    go_ret3
    exact ⟨⟨_, _, congrArg (fun z => Ending.returned (.tuple #[z, .string ⟨#[]⟩, .bool false])) H.out⟩, Below.refl _ _⟩
  · rw [len_data] at hk
    have H : Hid (s.extract 0 (runN noNl s.data.toList) = (ofL (s.data.toList.take (runN noNl s.data.toList)))) := Lib.hid (by rw [ext_of, List.drop_zero, Nat.sub_zero])
    unfold CutPost10
    obtain ⟨X, hX⟩ : ∃ X, (ofL (s.data.toList.take (runN noNl s.data.toList))) = X := ⟨_, rfl⟩
    rw [hX] at H ⊢
    obtain ⟨k, hk2⟩ : ∃ k, runN noNl s.data.toList = k := ⟨_, rfl⟩
    rw [hk2] at H h hk
    clear hX hk2
    go_enter Tryz.func76, Tryz.ntmps76
    go_wp2_with fail
    refine (Tryz.stringslite_Index_one s 10 _).mono ?_
    rintro e w' ⟨rfl, rfl⟩
    rw [h]
    clear h
    go_wp2_with fail
    go_quiet (fail)
    go_wp2
    go_ret3
    exact ⟨⟨_, _, congrArg (fun z => Ending.returned (.tuple #[.string z, .string (s.extract (k + 1) s.size), .bool true])) H.out⟩, below_drewN (Below.refl _ _) _⟩
theorem cut10_any (s : ByteArray) (hs : s.size ≤ 1099511627776) (w : World) : Calls Tryz.prog 64 #[.string s, .string ⟨#[10]⟩] w (CutPost10 w s) := by
  unfold CutPost10
  have HC := Lib.hid (cutIn10_any s hs)
  unfold CutPost10 at HC
  obtain ⟨X, hX⟩ : ∃ X, (ofL (s.data.toList.take (runN noNl s.data.toList))) = X := ⟨_, rfl⟩
  rw [hX] at HC ⊢
  clear hX
  go_enter Tryz.func64, Tryz.ntmps64
  go_wp2_with fail
  refine (HC.out _).mono ?_
  rintro e w1 ⟨⟨B, b, rfl⟩, D⟩
  have HDD := Lib.hid D
  clear D
  go_wp2
  go_ret3
  exact ⟨⟨_, _, rfl⟩, HDD.out⟩
/-! ### skip -/
def SkpI (s : ByteArray) (w : World) (K : Nat) (v1 : Value) (wr : World) : Prop := ∃ k : Nat, v1 = .int .i64 k ∧ k ≤ s.size ∧ Hid (K = k + skN false (s.data.toList.drop k)) ∧ Hid (∀ c r, s.data.toList.drop k = c :: r → isBlk c = false) ∧ Below w.heap.size w wr
set_option maxRecDepth 1000000 in
set_option maxHeartbeats 4000000 in
theorem skip_p (s : ByteArray) (o : Nat) (ho : o ≤ s.size) (hs : s.size ≤ 10000000) (w : World) :
    Calls Tryz.prog 41 #[.string s, .int .i64 o] w fun e w' => e = .returned (.int .i64 ((o + skN false (s.data.toList.drop o) : Nat) : Int)) ∧ Below w.heap.size w w' := by
  have hsi : (s.size : Int) ≤ 10000000 := by omega
  obtain ⟨K, hK⟩ : ∃ K, o + skN false (s.data.toList.drop o) = K := ⟨_, rfl⟩
  rw [hK]
  have HP := Lib.hid (fun o (ho : o ≤ s.size) w => pass_any blanksL isBlk run_blank s o ho (by omega) w)
  have HPL := Lib.hid (fun (o : Nat) (ho : o ≤ s.size) => show o + runN isBlk (s.data.toList.drop o) ≤ s.size by have := runN_le isBlk (s.data.toList.drop o); rw [List.length_drop, len_data] at this; omega)
  have HP0 := Lib.hid (HP.out o ho w)
  have HK0 : Hid (K = (o + runN isBlk (s.data.toList.drop o)) + skN false (s.data.toList.drop (o + runN isBlk (s.data.toList.drop o)))) := Lib.hid (by have := sk_run (s.data.toList.drop o); rw [List.drop_drop] at this; omega)
  have HH0 : Hid (∀ c r, s.data.toList.drop (o + runN isBlk (s.data.toList.drop o)) = c :: r → isBlk c = false) := Lib.hid (fun c r h => runN_head isBlk (s.data.toList.drop o) c r (by rw [List.drop_drop]; exact h))
  have HL0 := Lib.hid (HPL.out o ho)
  obtain ⟨o1, ho1⟩ : ∃ o1, o + runN isBlk (s.data.toList.drop o) = o1 := ⟨_, rfl⟩
  rw [ho1] at HP0 HK0 HH0 HL0
  clear hK ho1
  go_enter Tryz.func41, Tryz.ntmps41
  go_wp2_with fail
  refine HP0.out.mono ?_
  rintro e w1 ⟨rfl, hw1⟩
  obtain rfl := hw1.symm
  clear hw1 HP0
  go_wp2_with fail
  go_loopw [1] (fun v1 wr => SkpI s w K v1 wr) (fun v1 _ => s.size - (intOf v1).toNat)
  case atStart => exact ⟨o1, rfl, HL0.out, HK0, HH0, Below.refl _ _⟩
  case round =>
    rename World => wr
    obtain ⟨k, rfl, hk, HW, HHD, hb⟩ := hrel
    have HB := Lib.hid hb
    clear hb HK0 HH0 HL0
    by_cases hlt : k < s.size
    · have HD := Lib.hid (data_drop hlt)
      have h9 : (k : Int) < (s.size : Int) := by omega
      obtain ⟨c, hc⟩ : ∃ c, s[k]'hlt = c := ⟨_, rfl⟩
      rw [hc] at HD
      have hcb : (s[k]'hlt).toNat = c.toNat := by rw [hc]
      clear hc
      by_cases h35 : c.toNat = 35
      · have t1 : ((((s[k]'hlt).toNat : Nat) : Int) == 35) = true := by rw [beq_iff_eq]; omega
        have cf := cut_from s (show k ≤ s.size by omega) (show (k : Int) = ((k : Nat) : Int) from rfl)
        rw [ext_end] at cf
        have HSK := Lib.hid (@sk_hash c (s.data.toList.drop (k + 1)) h35)
        rw [← HD.out] at HSK
        have hrl : (s.data.toList.drop k).length = s.size - k := by rw [List.length_drop, len_data]
        have hr1 : 1 ≤ runN noNl (s.data.toList.drop k) := by rw [HD.out, runN, if_pos (by unfold noNl; simp [h35])]; omega
        have hr2 := runN_le noNl (s.data.toList.drop k)
        have HCU := Lib.hid (fun w => cut10_any (ofL (s.data.toList.drop k)) (by rw [ofL_size, hrl]; omega) w)
        unfold CutPost10 at HCU
        rw [show (ofL (s.data.toList.drop k)).data.toList = s.data.toList.drop k from rfl] at HCU
        have HHN := Lib.hid (fun c r => runN_head isBlk (s.data.toList.drop (k + runN noNl (s.data.toList.drop k))) c r)
        simp only [List.drop_drop] at HSK HHN
        have hz0 : (ofL ((s.data.toList.drop k).take (runN noNl (s.data.toList.drop k)))).size = runN noNl (s.data.toList.drop k) := by rw [ofL_size, List.length_take]; omega
        obtain ⟨X, hX⟩ : ∃ X, ofL ((s.data.toList.drop k).take (runN noNl (s.data.toList.drop k))) = X := ⟨_, rfl⟩
        rw [hX] at HCU hz0
        obtain ⟨n, hn⟩ : ∃ n, runN noNl (s.data.toList.drop k) = n := ⟨_, rfl⟩
        rw [hn] at hr1 hr2 HSK HHN hz0
        obtain ⟨R, hR⟩ : ∃ R, ofL (s.data.toList.drop k) = R := ⟨_, rfl⟩
        rw [hR] at cf HCU
        have hkn : k + n ≤ s.size := by omega
        have HP1 := Lib.hid (fun w => HP.out (k + n) hkn w)
        have HPL1 := Lib.hid (HPL.out (k + n) hkn)
        have HSZ : Hid (X.size = n) := Lib.hid hz0
        have q1 : (k : Int) + (X.size : Int) = ((k + n : Nat) : Int) := by rw [hz0]; omega
        have HW2 : Hid (K = (k + n + runN isBlk (s.data.toList.drop (k + n))) + skN false (s.data.toList.drop (k + n + runN isBlk (s.data.toList.drop (k + n))))) := Lib.hid (by
          rw [HW.out, HSK.out, show k + (n + runN isBlk (s.data.toList.drop (k + n))) = k + n + runN isBlk (s.data.toList.drop (k + n)) by omega]; omega)
        obtain ⟨o', ho'⟩ : ∃ o', k + n + runN isBlk (s.data.toList.drop (k + n)) = o' := ⟨_, rfl⟩
        have HOO : Hid (k + 1 ≤ o') := Lib.hid (by omega)
        rw [ho'] at HP1 HPL1 HW2
        have HHN2 : Hid (∀ c r, s.data.toList.drop o' = c :: r → isBlk c = false) := Lib.hid (by rw [← ho']; exact HHN.out)
        obtain ⟨kn, hkn2⟩ : ∃ kn, k + n = kn := ⟨_, rfl⟩
        rw [hkn2] at HP1 q1
        have q2 : (X.size : Int) ≤ 10000000 := by omega
        clear hX hn hR ho' HHN HSK hz0 hkn hr1 hr2 hrl HD HW HHD hcb h35 hkn2
        go_wp2_with fail
        refine (HCU.out _).mono ?_
        rintro e w2 ⟨⟨B, b, rfl⟩, b2⟩
        have HB2 := Lib.hid b2
        clear b2
        go_wp2_with fail
        refine (HP1.out _).mono ?_
        rintro e w3 ⟨rfl, hw3⟩
        obtain rfl := hw3.symm
        clear hw3
        go_wp2
        go_roundw
        case measure => (have := HOO.out; have := HPL1.out; simp [intOf]; omega)
        case rel => exact ⟨o', rfl, HPL1.out, HW2, HHN2, HB.out.trans (HB2.out.mono HB.out.size)⟩
      · have t1 : ((((s[k]'hlt).toNat : Nat) : Int) == 35) = false := by rw [beq_eq_false_iff_ne]; omega
        have HN : Hid (K = k) := Lib.hid (by rw [HW.out, HD.out, sk_none (HHD.out _ _ HD.out) h35]; rfl)
        clear HW HD HHD hcb h35
        go_wp2
        go_ret
        exact ⟨by rw [HN.out]; rfl, HB.out⟩
    · have h9 : ¬ (k : Int) < (s.size : Int) := by omega
      have HN : Hid (K = k) := Lib.hid (by rw [HW.out, data_end (by omega)]; rfl)
      clear HW
      go_wp2
      go_ret
      exact ⟨by rw [HN.out]; rfl, HB.out⟩
end Go.Proofs.YtgogcekeklelmaaGreatDoor


/- Of the program of layer 11: failure, readWord, readString, read. -/
namespace Go.Proofs.YtgogcekeklelmaaGreatDoor
open Go.RowKit
set_option linter.unusedVariables false

def ReadP (o : Nat) (r : TRes) (w : World) (e : Ending) (w' : World) : Prop :=
  (match r with
    | .bad d er => e = .returned (.tuple #[.agg #[.int .i64 0, .string ⟨#[]⟩, .int .i64 ((o + d : Nat) : Int)], .int .i64 0, .int .i64 (er : Int)])
    | .tok kd tx n => e = .returned (.tuple #[.agg #[.int .i64 (kd : Int), .string (ofL tx), .int .i64 (o : Int)], .int .i64 ((o + n : Nat) : Int), .int .i64 0])) ∧ Below w.heap.size w w'

theorem ret_read {a c u e a' c' u' e' : Int} {x x' : ByteArray} (h1 : a = a') (h2 : x = x') (h3 : c = c') (h4 : u = u') (h5 : e = e') : Ending.returned (.tuple #[.agg #[.int .i64 a, .string x, .int .i64 c], .int .i64 u, .int .i64 e]) = Ending.returned (.tuple #[.agg #[.int .i64 a', .string x', .int .i64 c'], .int .i64 u', .int .i64 e']) := by
  subst h1 h2 h3 h4 h5; rfl
theorem res_failure {W : World} {tm : Array Value} {B : Nat} {t : TypeId} {a b c v u : Value} (t2 : tm[4]?.getD undef = .pointer (some ⟨B, 0, none⟩)) (t3 : tm[5]?.getD undef = v) (t4 : tm[6]?.getD undef = u) (h : Blk B t #[a, b, c] W) :
    (results Tryz.f67 tm).run Tryz.prog W = .ok (.tuple #[.agg #[a, b, c], v, u]) W := by
  have a0 : W.cell? ⟨B, 0, none⟩ = some a := h.cell 0
  have a1 : W.cell? ⟨B, 1, none⟩ = some b := h.cell 1
  have a2 : W.cell? ⟨B, 2, none⟩ = some c := h.cell 2
  simp [results, Tryz.f67, go_sem, t2, t3, t4, a0, a1, a2]
theorem res_readWord {W : World} {tm : Array Value} {B : Nat} {t : TypeId} {a b c v u : Value} (t2 : tm[4]?.getD undef = .pointer (some ⟨B, 0, none⟩)) (t3 : tm[5]?.getD undef = v) (t4 : tm[6]?.getD undef = u) (h : Blk B t #[a, b, c] W) :
    (results Tryz.f65 tm).run Tryz.prog W = .ok (.tuple #[.agg #[a, b, c], v, u]) W := by
  have a0 : W.cell? ⟨B, 0, none⟩ = some a := h.cell 0
  have a1 : W.cell? ⟨B, 1, none⟩ = some b := h.cell 1
  have a2 : W.cell? ⟨B, 2, none⟩ = some c := h.cell 2
  simp [results, Tryz.f65, go_sem, t2, t3, t4, a0, a1, a2]
theorem res_readString {W : World} {tm : Array Value} {B : Nat} {t : TypeId} {a b c v u : Value} (t2 : tm[4]?.getD undef = .pointer (some ⟨B, 0, none⟩)) (t3 : tm[5]?.getD undef = v) (t4 : tm[6]?.getD undef = u) (h : Blk B t #[a, b, c] W) :
    (results Tryz.f66 tm).run Tryz.prog W = .ok (.tuple #[.agg #[a, b, c], v, u]) W := by
  have a0 : W.cell? ⟨B, 0, none⟩ = some a := h.cell 0
  have a1 : W.cell? ⟨B, 1, none⟩ = some b := h.cell 1
  have a2 : W.cell? ⟨B, 2, none⟩ = some c := h.cell 2
  simp [results, Tryz.f66, go_sem, t2, t3, t4, a0, a1, a2]
theorem res_read {W : World} {tm : Array Value} {B : Nat} {t : TypeId} {a b c v u : Value} (t2 : tm[4]?.getD undef = .pointer (some ⟨B, 0, none⟩)) (t3 : tm[5]?.getD undef = v) (t4 : tm[6]?.getD undef = u) (h : Blk B t #[a, b, c] W) :
    (results Tryz.f42 tm).run Tryz.prog W = .ok (.tuple #[.agg #[a, b, c], v, u]) W := by
  have a0 : W.cell? ⟨B, 0, none⟩ = some a := h.cell 0
  have a1 : W.cell? ⟨B, 1, none⟩ = some b := h.cell 1
  have a2 : W.cell? ⟨B, 2, none⟩ = some c := h.cell 2
  simp [results, Tryz.f42, go_sem, t2, t3, t4, a0, a1, a2]
theorem failure_any (o er : Int) (w : World) :
    Calls Tryz.prog 67 #[.int .i64 o, .int .i64 er] w fun e w' => e = .returned (.tuple #[.agg #[.int .i64 0, .string ⟨#[]⟩, .int .i64 o], .int .i64 0, .int .i64 er]) ∧ Below w.heap.size w w' := by
  have HK := Blk.new w 38 #[.int .i64 0, .string ⟨#[]⟩, .int .i64 0]
  have HFB := Lib.hid (put3_blk (n := w.heap.size) (a' := .int .i64 0) (b' := .string ⟨#[]⟩) (c' := .int .i64 o) HK (Nat.le_refl _))
  have HW1 : Hid (Below w.heap.size w (w.alloc (.cells #[.int .i64 0, .string ⟨#[]⟩, .int .i64 0] 38))) := Lib.hid ((Below.refl _ _).alloc (Nat.le_refl _) _)
  have xf := HK.frozen
  have y0 : (w.alloc (.cells #[.int .i64 0, .string ⟨#[]⟩, .int .i64 0] 38)).cell? ⟨w.heap.size, 0, none⟩ = some (.int .i64 0) := HK.cell 0
  have y1 : (w.alloc (.cells #[.int .i64 0, .string ⟨#[]⟩, .int .i64 0] 38)).cell? ⟨w.heap.size, 1, none⟩ = some (.string ⟨#[]⟩) := HK.cell 1
  have y2 : (w.alloc (.cells #[.int .i64 0, .string ⟨#[]⟩, .int .i64 0] 38)).cell? ⟨w.heap.size, 2, none⟩ = some (.int .i64 0) := HK.cell 2
  obtain ⟨W1, hW1⟩ : ∃ W1, w.alloc (.cells #[.int .i64 0, .string ⟨#[]⟩, .int .i64 0] 38) = W1 := ⟨_, rfl⟩
  rw [hW1] at HFB HW1 xf y0 y1 y2
  have HW := Lib.hid hW1
  clear hW1 HK
  go_enter Tryz.func67, Tryz.ntmps67
  go_upto_region 1 with fail
  rw [HW.out]
  clear HW
  go_wp2
  exact bodyPost_ret (res_failure rfl rfl rfl HFB.out.1) rfl ⟨rfl, HW1.out.trans HFB.out.2⟩
/-- What the callee's own results look like behind a store of them. -/
theorem put_after {w W1 w2 : World} {g : Nat} {t : TypeId} {a b c a' b' c' : Value} (h1 : Below w.heap.size w W1) (hk : Blk g t #[a, b, c] W1) (hg : w.heap.size = g) (h2 : Below W1.heap.size W1 w2) :
    Blk g t #[a', b', c'] (put3 w2 g a' b' c') ∧ Below w.heap.size w (put3 w2 g a' b' c') := by
  obtain ⟨p1, p2⟩ := put3_blk (n := w.heap.size) (a' := a') (b' := b') (c' := c') (Blk.below hk h2) (by omega)
  exact ⟨p1, (h1.trans (h2.mono h1.size)).trans p2⟩
theorem pass_word (s : ByteArray) (o : Nat) (ho : o ≤ s.size) (hs : s.size ≤ 9223372036854775807) (w : World) :
    Calls Tryz.prog 21 #[.string s, .int .i64 o, .string (⟨#[65, 66, 67, 68, 69, 70, 71, 72, 73, 74, 75, 76, 77, 78, 79, 80, 81, 82, 83, 84, 85, 86, 87, 88, 89, 90, 97, 98, 99, 100, 101, 102, 103, 104, 105, 106, 107, 108, 109, 110, 111, 112, 113, 114, 115, 116, 117, 118, 119, 120, 121, 122, 48, 49, 50, 51, 52, 53, 54, 55, 56, 57, 45, 95]⟩ : ByteArray)] w fun e w' => e = .returned (.int .i64 ((o + wordN (s.data.toList.drop o) : Nat) : Int)) ∧ w' = w := by
  rw [wordN_run]
  exact pass_any inWordsL isPart run_word s o ho hs w
theorem oneOf_part (c : UInt8) (w : World) : Calls Tryz.prog 27 #[.string (⟨#[65, 66, 67, 68, 69, 70, 71, 72, 73, 74, 75, 76, 77, 78, 79, 80, 81, 82, 83, 84, 85, 86, 87, 88, 89, 90, 97, 98, 99, 100, 101, 102, 103, 104, 105, 106, 107, 108, 109, 110, 111, 112, 113, 114, 115, 116, 117, 118, 119, 120, 121, 122, 48, 49, 50, 51, 52, 53, 54, 55, 56, 57, 45, 95]⟩ : ByteArray), .int .u8 (c.toNat : Int)] w fun e w' => e = .returned (.bool (isPart c)) ∧ w' = w := by
  rw [← oneOf_word]
  exact isOneOf_any (ofL inWordsL) c w
theorem oneOf_mk (c : UInt8) (w : World) : Calls Tryz.prog 27 #[.string ⟨#[123, 125, 59]⟩, .int .u8 (c.toNat : Int)] w fun e w' => e = .returned (.bool (isMk c)) ∧ w' = w := by
  rw [← oneOf_mark]
  exact isOneOf_any (ofL marksL) c w
set_option maxRecDepth 1000000 in
set_option maxHeartbeats 4000000 in
theorem readWord_any (s : ByteArray) (o : Nat) (ho : o ≤ s.size) (hs : s.size ≤ 10000000) (w : World) :
    Calls Tryz.prog 65 #[.string s, .int .i64 o] w (ReadP o (if 40 < wordN (s.data.toList.drop o) then .bad 0 6 else .tok 1 ((s.data.toList.drop o).take (wordN (s.data.toList.drop o))) (wordN (s.data.toList.drop o))) w) := by
  have hsi : (s.size : Int) ≤ 10000000 := by omega
  have HP := Lib.hid (pass_word s o ho (by omega))
  have hl := wordN_le (s.data.toList.drop o)
  rw [List.length_drop, len_data] at hl
  have HEX := Lib.hid (ext_of s o (o + wordN (s.data.toList.drop o)))
  obtain ⟨n, hn⟩ : ∃ n, wordN (s.data.toList.drop o) = n := ⟨_, rfl⟩
  rw [hn] at HP hl HEX ⊢
  have hex := HEX.out
  rw [show o + n - o = n by omega] at hex
  have cm := cut_mid s (show o ≤ o + n by omega) (show o + n ≤ s.size by omega) (show (o : Int) = ((o : Nat) : Int) from rfl) (show ((o + n : Nat) : Int) = ((o + n : Nat) : Int) from rfl)
  rw [hex] at cm
  obtain ⟨X, hX⟩ : ∃ X, (s.data.toList.drop o).take n = X := ⟨_, rfl⟩
  rw [hX] at cm ⊢
  obtain ⟨Y, hY⟩ : ∃ Y, ofL X = Y := ⟨_, rfl⟩
  rw [hY] at cm
  have HY := Lib.hid hY
  obtain ⟨on, hon⟩ : ∃ x, o + n = x := ⟨_, rfl⟩
  rw [hon] at HP cm
  have HON := Lib.hid hon
  have q1 : (on : Int) - (o : Int) = (n : Int) := by omega
  have q2 : (on : Int) ≤ 10000000 := by omega
  have q3 : (o : Int) ≤ (on : Int) := by omega
  obtain ⟨W1, hW1⟩ : ∃ W1, w.alloc (.cells #[.int .i64 0, .string ⟨#[]⟩, .int .i64 0] 38) = W1 := ⟨_, rfl⟩
  have HK : Hid (Blk w.heap.size 38 #[.int .i64 0, .string ⟨#[]⟩, .int .i64 0] W1) := Lib.hid (by rw [← hW1]; exact Blk.new _ _ _)
  have HW1 : Hid (Below w.heap.size w W1) := Lib.hid (by rw [← hW1]; exact (Below.refl _ _).alloc (Nat.le_refl _) _)
  have HW := Lib.hid hW1
  obtain ⟨g, hg⟩ : ∃ g, w.heap.size = g := ⟨_, rfl⟩
  have HG := Lib.hid hg
  rw [hg] at HK
  clear hW1 hg
  clear hn hX hY hex HEX hon hl
  by_cases h40 : 40 < n
  · rw [if_pos h40]
    have z1 : decide ((40 : Int) < (n : Int)) = true := decide_eq_true (by omega)
    have z2 : decide (40 < n) = true := decide_eq_true h40
    clear h40 cm
    go_enter Tryz.func65, Tryz.ntmps65
    go_upto_region 1 with fail
    rw [HW.out, HG.out]
    clear HW
    go_wp2_with fail
    refine (HP.out _).mono ?_
    rintro e w2 ⟨rfl, hw2⟩
    obtain rfl := hw2.symm
    clear hw2 HP
    go_wp2_with fail
    refine (failure_any _ _ _).mono ?_
    rintro e w3 ⟨rfl, b3⟩
    have HFB := Lib.hid (put_after (a' := .int .i64 0) (b' := .string ⟨#[]⟩) (c' := .int .i64 (o : Int)) HW1.out HK.out HG.out b3)
    have KR := Lib.hid (Blk.below HK.out b3)
    have xf := KR.out.frozen
    have y0 : w3.cell? ⟨g, 0, none⟩ = some (.int .i64 0) := KR.out.cell 0
    have y1 : w3.cell? ⟨g, 1, none⟩ = some (.string ⟨#[]⟩) := KR.out.cell 1
    have y2 : w3.cell? ⟨g, 2, none⟩ = some (.int .i64 0) := KR.out.cell 2
    clear b3
    go_wp2
    exact bodyPost_ret (res_readWord rfl rfl rfl HFB.out.1) rfl ⟨rfl, HFB.out.2⟩
  · rw [if_neg h40]
    have z1 : decide ((40 : Int) < (n : Int)) = false := decide_eq_false (by omega)
    have z2 : decide (40 < n) = false := decide_eq_false h40
    have HFB := Lib.hid (put_after (a' := .int .i64 1) (b' := .string Y) (c' := .int .i64 (o : Int)) HW1.out HK.out HG.out (Below.refl _ _))
    have xf := HK.out.frozen
    have y0 : W1.cell? ⟨g, 0, none⟩ = some (.int .i64 0) := HK.out.cell 0
    have y1 : W1.cell? ⟨g, 1, none⟩ = some (.string ⟨#[]⟩) := HK.out.cell 1
    have y2 : W1.cell? ⟨g, 2, none⟩ = some (.int .i64 0) := HK.out.cell 2
    clear h40
    go_enter Tryz.func65, Tryz.ntmps65
    go_upto_region 1 with fail
    rw [HW.out, HG.out]
    clear HW
    go_wp2_with fail
    refine (HP.out _).mono ?_
    rintro e w2 ⟨rfl, hw2⟩
    obtain rfl := hw2.symm
    clear hw2 HP
    go_wp2
    exact bodyPost_ret (res_readWord rfl rfl rfl HFB.out.1) rfl (by show ReadP o _ w _ _; exact ⟨ret_read rfl HY.out.symm rfl (by have := HON.out; omega) rfl, HFB.out.2⟩)
set_option maxRecDepth 1000000 in
set_option maxHeartbeats 8000000 in
theorem readString_any (s : ByteArray) (o : Nat) (ho : o < s.size) (hs : s.size ≤ 10000000) (w : World) (E : Env w) :
    Calls Tryz.prog 66 #[.string s, .int .i64 o] w (ReadP o (quoR (s.data.toList.drop (o + 1))) w) := by
  have hsi : (s.size : Int) ≤ 10000000 := by omega
  have e1 : (o : Int) + 1 = ((o + 1 : Nat) : Int) := by omega
  have cf := cut_from s (show o + 1 ≤ s.size by omega) (show ((o : Int) + 1) = ((o + 1 : Nat) : Int) by omega)
  have hdl : (s.data.toList.drop (o + 1)).length = s.size - (o + 1) := by rw [List.length_drop, len_data]
  have HMID := Lib.hid (fun k (hk : o + 1 + k ≤ s.size) => cut_mid s (show o + 1 ≤ o + 1 + k by omega) hk (show ((o : Int) + 1) = ((o + 1 : Nat) : Int) by omega) (show ((o : Int) + 1 + (k : Int)) = ((o + 1 + k : Nat) : Int) by omega))
  have HEX := Lib.hid (fun k => ext_of s (o + 1) (o + 1 + k))
  rw [ext_end] at cf
  obtain ⟨l, hl⟩ : ∃ l, s.data.toList.drop (o + 1) = l := ⟨_, rfl⟩
  rw [hl] at cf hdl HEX ⊢
  have HLT := Lib.hid (fun k => @endF_lt 2 34 l.length l k (Nat.le_refl _))
  have HLN := Lib.hid hdl
  have HEND := Lib.hid (fun w => end_st 2 (ofL l) 34 w (by rw [ofL_size]; omega) (.inr (.inl rfl)))
  rw [show (ofL l).data.toList = l from rfl] at HEND
  obtain ⟨EN, hEN⟩ : ∃ o, endF 2 34 l = o := ⟨_, rfl⟩
  rw [hEN] at HEND HLT
  have HENE := Lib.hid hEN
  have HE1 := Lib.hid E
  obtain ⟨W1, hW1⟩ : ∃ W1, w.alloc (.cells #[.int .i64 0, .string ⟨#[]⟩, .int .i64 0] 38) = W1 := ⟨_, rfl⟩
  have HK : Hid (Blk w.heap.size 38 #[.int .i64 0, .string ⟨#[]⟩, .int .i64 0] W1) := Lib.hid (by rw [← hW1]; exact Blk.new _ _ _)
  have HW1 : Hid (Below w.heap.size w W1) := Lib.hid (by rw [← hW1]; exact (Below.refl _ _).alloc (Nat.le_refl _) _)
  have HW := Lib.hid hW1
  obtain ⟨g, hg⟩ : ∃ g, w.heap.size = g := ⟨_, rfl⟩
  have HG := Lib.hid hg
  rw [hg] at HK
  clear hW1 hg
  clear hl hdl hEN e1 E
  cases EN with
  | none =>
    have HR : Hid (quoR l = .bad 0 3) := Lib.hid (by unfold quoR; rw [HENE.out])
    go_enter Tryz.func66, Tryz.ntmps66
    go_upto_region 1 with fail
    rw [HW.out, HG.out]
    clear HW
    go_wp2_with fail
    refine (HEND.out _).mono ?_
    rintro e w2 ⟨rfl, hw2⟩
    obtain rfl := hw2.symm
    clear hw2
    go_wp2_with fail
    refine (failure_any _ _ _).mono ?_
    rintro e w9 ⟨rfl, b9⟩
    have HFB := Lib.hid (put_after (a' := .int .i64 0) (b' := .string ⟨#[]⟩) (c' := .int .i64 ((o : Int))) HW1.out HK.out HG.out b9)
    have KR := Lib.hid (Blk.below HK.out b9)
    have xf := KR.out.frozen
    have y0 : w9.cell? ⟨g, 0, none⟩ = some (.int .i64 0) := KR.out.cell 0
    have y1 : w9.cell? ⟨g, 1, none⟩ = some (.string ⟨#[]⟩) := KR.out.cell 1
    have y2 : w9.cell? ⟨g, 2, none⟩ = some (.int .i64 0) := KR.out.cell 2
    clear b9
    go_wp2
    exact bodyPost_ret (res_readString rfl rfl rfl HFB.out.1) rfl (by show ReadP o (quoR l) w _ _; rw [HR.out]; exact ⟨ret_read rfl rfl (by omega) rfl rfl, HFB.out.2⟩)
  | some k =>
    have hk : k < l.length := endF_lt l.length l k (Nat.le_refl _) HENE.out
    have hks : o + 1 + k ≤ s.size := by have := HLN.out; omega
    have cm := HMID.out k hks
    have hex := HEX.out k
    rw [show o + 1 + k - (o + 1) = k by omega] at hex
    rw [hex] at cm
    have hml : (l.take k).length ≤ 10000000 := by rw [List.length_take]; omega
    have HR0 : Hid (quoR l = if (un 2 (l.take k)).1 = false then .bad (1 + (un 2 (l.take k)).2.2) 3 else if 400 < (un 2 (l.take k)).2.1.length then .bad 0 6 else if vld (un 2 (l.take k)).2.1 = false then .bad 0 4 else .tok 2 (un 2 (l.take k)).2.1 (k + 2)) := Lib.hid (by unfold quoR; rw [HENE.out])
    have HUB := Lib.hid (un_le 2 (l.take k).length (l.take k) (Nat.le_refl _))
    obtain ⟨m, hm⟩ : ∃ m, l.take k = m := ⟨_, rfl⟩
    rw [hm] at cm hml HR0 HUB
    have HUN := Lib.hid (fun w E => unescape_st 2 (ofL m) w E (by rw [ofL_size]; omega) (.inr (.inl rfl)))
    rw [show (ofL m).data.toList = m from rfl] at HUN
    obtain ⟨U, hU⟩ : ∃ u, un 2 m = u := ⟨_, rfl⟩
    rw [hU] at HUN HR0 HUB
    obtain ⟨ub, ut, uk⟩ := U
    have hut : ut.length ≤ 40000000 := by have := HUB.out.1; dsimp only at this; omega
    have huk : uk ≤ 10000000 := by have := HUB.out.2; dsimp only at this; omega
    have HVA := Lib.hid (fun w => valid_any (ofL ut) w (by rw [ofL_size]; omega))
    rw [show (ofL ut).data.toList = ut from rfl] at HVA
    have huz : (ofL ut).size = ut.length := ofL_size ut
    have ez : ((endV 0 (some k) : Int)) = (k : Int) := by simp [endV]
    rw [ez] at HEND
    have z0 := HK.out.lt
    have HEW : Hid (Env W1) := Lib.hid (HE1.out.below HW1.out)
    have hki : (k : Int) ≤ 10000000 := by omega
    clear hU hm hex HMID HEX HLT HLN HENE hk HUB hml ez HE1
    go_enter Tryz.func66, Tryz.ntmps66
    go_upto_region 1 with fail
    rw [HW.out, HG.out]
    clear HW
    go_wp2_with fail
    refine (HEND.out _).mono ?_
    rintro e w2 ⟨rfl, hw2⟩
    obtain rfl := hw2.symm
    clear hw2
    go_wp2_with fail
    refine (HUN.out _ HEW.out).mono ?_
    rintro e w2 ⟨rfl, b2⟩
    have HB2 : Hid (Below w.heap.size w w2) := Lib.hid (HW1.out.trans (b2.mono HW1.out.size))
    have KR2 := Lib.hid (Blk.below HK.out b2)
    clear b2 HK HW1 HEW
    cases ub with
    | false =>
      have HR : Hid (quoR l = .bad (1 + uk) 3) := Lib.hid (by rw [HR0.out, if_pos rfl])
      clear HR0
      go_wp2_with fail
      refine (failure_any _ _ _).mono ?_
      rintro e w9 ⟨rfl, b9⟩
      have HFB := Lib.hid (put_after (a' := .int .i64 0) (b' := .string ⟨#[]⟩) (c' := .int .i64 ((o : Int) + 1 + (uk : Int))) HB2.out KR2.out HG.out b9)
      have KR := Lib.hid (Blk.below KR2.out b9)
      have xf := KR.out.frozen
      have y0 : w9.cell? ⟨g, 0, none⟩ = some (.int .i64 0) := KR.out.cell 0
      have y1 : w9.cell? ⟨g, 1, none⟩ = some (.string ⟨#[]⟩) := KR.out.cell 1
      have y2 : w9.cell? ⟨g, 2, none⟩ = some (.int .i64 0) := KR.out.cell 2
      clear b9
      go_wp2
      exact bodyPost_ret (res_readString rfl rfl rfl HFB.out.1) rfl (by show ReadP o (quoR l) w _ _; rw [HR.out]; exact ⟨ret_read rfl rfl (by omega) rfl rfl, HFB.out.2⟩)
    | true =>
      have HR1 : Hid (quoR l = if 400 < ut.length then .bad 0 6 else if vld ut = false then .bad 0 4 else .tok 2 ut (k + 2)) := Lib.hid (by rw [HR0.out, if_neg (by decide)])
      clear HR0
      by_cases h400 : 400 < ut.length
      · have HR : Hid (quoR l = .bad 0 6) := Lib.hid (by rw [HR1.out, if_pos h400])
        have z1 : decide ((400 : Int) < (ut.length : Int)) = true := decide_eq_true (by omega)
        have z2 : decide (400 < ut.length) = true := decide_eq_true (by omega)
        clear HR1 h400 huz
        go_wp2_with fail
        refine (failure_any _ _ _).mono ?_
        rintro e w9 ⟨rfl, b9⟩
        have HFB := Lib.hid (put_after (a' := .int .i64 0) (b' := .string ⟨#[]⟩) (c' := .int .i64 ((o : Int))) HB2.out KR2.out HG.out b9)
        have KR := Lib.hid (Blk.below KR2.out b9)
        have xf := KR.out.frozen
        have y0 : w9.cell? ⟨g, 0, none⟩ = some (.int .i64 0) := KR.out.cell 0
        have y1 : w9.cell? ⟨g, 1, none⟩ = some (.string ⟨#[]⟩) := KR.out.cell 1
        have y2 : w9.cell? ⟨g, 2, none⟩ = some (.int .i64 0) := KR.out.cell 2
        clear b9
        go_wp2
        exact bodyPost_ret (res_readString rfl rfl rfl HFB.out.1) rfl (by show ReadP o (quoR l) w _ _; rw [HR.out]; exact ⟨ret_read rfl rfl (by omega) rfl rfl, HFB.out.2⟩)
      · have z1 : decide ((400 : Int) < (ut.length : Int)) = false := decide_eq_false (by omega)
        have z2 : decide (400 < ut.length) = false := decide_eq_false (by omega)
        have HR2 : Hid (quoR l = if vld ut = false then .bad 0 4 else .tok 2 ut (k + 2)) := Lib.hid (by rw [HR1.out, if_neg h400])
        clear HR1 h400 huz
        obtain ⟨vb, hvb⟩ : ∃ b, vld ut = b := ⟨_, rfl⟩
        rw [hvb] at HVA HR2
        clear hvb
        go_wp2_with fail
        refine (HVA.out _).mono ?_
        rintro e w3 ⟨rfl, b3⟩
        have KR3 := Lib.hid (Blk.below KR2.out b3)
        have HB3 : Hid (Below w.heap.size w w3) := Lib.hid (HB2.out.trans (b3.mono HB2.out.size))
        clear b3 KR2 HB2
        cases vb with
        | false =>
          have HR : Hid (quoR l = .bad 0 4) := Lib.hid (by rw [HR2.out, if_pos rfl])
          clear HR2
          go_wp2_with fail
          refine (failure_any _ _ _).mono ?_
          rintro e w9 ⟨rfl, b9⟩
          have HFB := Lib.hid (put_after (a' := .int .i64 0) (b' := .string ⟨#[]⟩) (c' := .int .i64 ((o : Int))) HB3.out KR3.out HG.out b9)
          have KR := Lib.hid (Blk.below KR3.out b9)
          have xf := KR.out.frozen
          have y0 : w9.cell? ⟨g, 0, none⟩ = some (.int .i64 0) := KR.out.cell 0
          have y1 : w9.cell? ⟨g, 1, none⟩ = some (.string ⟨#[]⟩) := KR.out.cell 1
          have y2 : w9.cell? ⟨g, 2, none⟩ = some (.int .i64 0) := KR.out.cell 2
          clear b9
          go_wp2
          exact bodyPost_ret (res_readString rfl rfl rfl HFB.out.1) rfl (by show ReadP o (quoR l) w _ _; rw [HR.out]; exact ⟨ret_read rfl rfl (by omega) rfl rfl, HFB.out.2⟩)
        | true =>
          have HR : Hid (quoR l = .tok 2 ut (k + 2)) := Lib.hid (by rw [HR2.out, if_neg (by decide)])
          have xf := KR3.out.frozen
          have y0 : w3.cell? ⟨g, 0, none⟩ = some (.int .i64 0) := KR3.out.cell 0
          have y1 : w3.cell? ⟨g, 1, none⟩ = some (.string ⟨#[]⟩) := KR3.out.cell 1
          have y2 : w3.cell? ⟨g, 2, none⟩ = some (.int .i64 0) := KR3.out.cell 2
          have HFB := Lib.hid (put_after (a' := .int .i64 2) (b' := .string (ofL ut)) (c' := .int .i64 (o : Int)) HB3.out KR3.out HG.out (Below.refl _ _))
          clear HR2
          go_wp2
          exact bodyPost_ret (res_readString rfl rfl rfl HFB.out.1) rfl (by show ReadP o (quoR l) w _ _; rw [HR.out]; exact ⟨ret_read rfl rfl rfl (by omega) rfl, HFB.out.2⟩)
set_option maxRecDepth 1000000 in
set_option maxHeartbeats 8000000 in
theorem readP_any (s : ByteArray) (o : Nat) (ho : o < s.size) (hs : s.size ≤ 10000000) (w : World) (E : Env w) :
    Calls Tryz.prog 42 #[.string s, .int .i64 o] w (ReadP o (oneR (s.data.toList.drop o)) w) := by
  have hsi : (s.size : Int) ≤ 10000000 := by omega
  have hoi : (o : Int) < (s.size : Int) := by omega
  have HD := data_drop ho
  have HRW := Lib.hid (fun w => readWord_any s o (by omega) hs w)
  have HRS := Lib.hid (fun w E => readString_any s o ho hs w E)
  have HO1 := Lib.hid (fun w => oneOf_part (s[o]'ho) w)
  have HO2 := Lib.hid (fun w => oneOf_mk (s[o]'ho) w)
  have cm := cut_mid s (show o ≤ o + 1 by omega) (show o + 1 ≤ s.size by omega) (show (o : Int) = ((o : Nat) : Int) from rfl) (show ((o : Int) + 1) = ((o + 1 : Nat) : Int) by omega)
  have hex := ext_of s o (o + 1)
  rw [show o + 1 - o = 1 by omega, HD] at hex
  rw [hex, show ((s[o]'ho) :: s.data.toList.drop (o + 1)).take 1 = [s[o]'ho] from rfl] at cm
  have HON : Hid (oneR (s.data.toList.drop o) = if isPart (s[o]'ho) = true then (if 40 < wordN (s.data.toList.drop o) then .bad 0 6 else .tok 1 ((s.data.toList.drop o).take (wordN (s.data.toList.drop o))) (wordN (s.data.toList.drop o))) else if (s[o]'ho).toNat = 34 then quoR (s.data.toList.drop (o + 1)) else if isMk (s[o]'ho) = true then .tok 3 [s[o]'ho] 1 else .bad 0 3) := Lib.hid (by
    rw [HD, oneR_cons]
    by_cases hp : isPart (s[o]'ho) = true
    · rw [if_pos hp]
      have h0 : 0 < wordN ((s[o]'ho) :: s.data.toList.drop (o + 1)) := by rw [wordN, if_pos hp]; omega
      rw [if_pos h0]
    · rw [if_neg hp]
      have h0 : wordN ((s[o]'ho) :: s.data.toList.drop (o + 1)) = 0 := by rw [wordN, if_neg hp]
      rw [h0, if_neg (by omega), if_neg (by omega)])
  obtain ⟨R0, hR0⟩ : ∃ R, (if 40 < wordN (s.data.toList.drop o) then TRes.bad 0 6 else .tok 1 ((s.data.toList.drop o).take (wordN (s.data.toList.drop o))) (wordN (s.data.toList.drop o))) = R := ⟨_, rfl⟩
  rw [hR0] at HON HRW
  obtain ⟨Q, hQ⟩ : ∃ R, quoR (s.data.toList.drop (o + 1)) = R := ⟨_, rfl⟩
  rw [hQ] at HON HRS
  obtain ⟨R, hR⟩ : ∃ R, oneR (s.data.toList.drop o) = R := ⟨_, rfl⟩
  rw [hR] at HON ⊢
  obtain ⟨pb, hpb⟩ : ∃ b, isPart (s[o]'ho) = b := ⟨_, rfl⟩
  rw [hpb] at HON HO1
  obtain ⟨mb, hmb⟩ : ∃ b, isMk (s[o]'ho) = b := ⟨_, rfl⟩
  rw [hmb] at HON HO2
  have HE1 := Lib.hid E
  obtain ⟨W1, hW1⟩ : ∃ W1, w.alloc (.cells #[.int .i64 0, .string ⟨#[]⟩, .int .i64 0] 38) = W1 := ⟨_, rfl⟩
  have HK : Hid (Blk w.heap.size 38 #[.int .i64 0, .string ⟨#[]⟩, .int .i64 0] W1) := Lib.hid (by rw [← hW1]; exact Blk.new _ _ _)
  have HW1 : Hid (Below w.heap.size w W1) := Lib.hid (by rw [← hW1]; exact (Below.refl _ _).alloc (Nat.le_refl _) _)
  have HW := Lib.hid hW1
  obtain ⟨g, hg⟩ : ∃ g, w.heap.size = g := ⟨_, rfl⟩
  have HG := Lib.hid hg
  rw [hg] at HK
  clear hW1 hg
  have HEW : Hid (Env W1) := Lib.hid (HE1.out.below HW1.out)
  clear HD hex hR0 hQ hR hpb hmb E HE1
  cases pb with
  | true =>
    have HRR : R = R0 := by rw [HON.out, if_pos rfl]
    rw [← HRR] at HRW
    clear HRR HON HRS HO2
    go_enter Tryz.func42, Tryz.ntmps42
    go_upto_region 1 with fail
    rw [HW.out, HG.out]
    clear HW
    go_wp2_with fail
    refine (HO1.out _).mono ?_
    rintro e w2 ⟨rfl, hw2⟩
    obtain rfl := hw2.symm
    clear hw2
    go_wp2_with fail
    refine (HRW.out _).mono ?_
    rintro e w9 ⟨h9, b9⟩
    have KR := Lib.hid (Blk.below HK.out b9)
    have xf := KR.out.frozen
    have y0 : w9.cell? ⟨g, 0, none⟩ = some (.int .i64 0) := KR.out.cell 0
    have y1 : w9.cell? ⟨g, 1, none⟩ = some (.string ⟨#[]⟩) := KR.out.cell 1
    have y2 : w9.cell? ⟨g, 2, none⟩ = some (.int .i64 0) := KR.out.cell 2
    cases R with
    | bad d er =>
      dsimp only at h9
      subst h9
      have HFB := Lib.hid (put_after (a' := .int .i64 0) (b' := .string ⟨#[]⟩) (c' := .int .i64 ((o + d : Nat) : Int)) HW1.out HK.out HG.out b9)
      obtain ⟨od, hod⟩ : ∃ x, o + d = x := ⟨_, rfl⟩
      rw [hod] at HFB ⊢
      have HOD := Lib.hid hod
      clear b9 hod
      go_wp2
      exact bodyPost_ret (res_read rfl rfl rfl HFB.out.1) rfl (by show ReadP o (.bad d er) w _ _; exact ⟨ret_read rfl rfl (by have := HOD.out; omega) rfl rfl, HFB.out.2⟩)
    | tok kd tx n =>
      dsimp only at h9
      subst h9
      have HFB := Lib.hid (put_after (a' := .int .i64 (kd : Int)) (b' := .string (ofL tx)) (c' := .int .i64 (o : Int)) HW1.out HK.out HG.out b9)
      obtain ⟨od, hod⟩ : ∃ x, o + n = x := ⟨_, rfl⟩
      rw [hod]
      have HOD := Lib.hid hod
      obtain ⟨Y, hY⟩ : ∃ Y, ofL tx = Y := ⟨_, rfl⟩
      rw [hY] at HFB ⊢
      have HY := Lib.hid hY
      clear b9 hod hY
      go_wp2
      exact bodyPost_ret (res_read rfl rfl rfl HFB.out.1) rfl (by show ReadP o (.tok kd tx n) w _ _; exact ⟨ret_read rfl HY.out.symm rfl (by have := HOD.out; omega) rfl, HFB.out.2⟩)
  | false =>
    by_cases h34 : (s[o]'ho).toNat = 34
    · have HRR : R = Q := by rw [HON.out, if_neg (by decide), if_pos h34]
      rw [← HRR] at HRS
      have z1 : ((((s[o]'ho).toNat : Nat) : Int) == 34) = true := by rw [beq_iff_eq]; omega
      clear HRR HON HRW HO2 h34
      go_enter Tryz.func42, Tryz.ntmps42
      go_upto_region 1 with fail
      rw [HW.out, HG.out]
      clear HW
      go_wp2_with fail
      refine (HO1.out _).mono ?_
      rintro e w2 ⟨rfl, hw2⟩
      obtain rfl := hw2.symm
      clear hw2
      go_wp2_with fail
      refine (HRS.out _ HEW.out).mono ?_
      rintro e w9 ⟨h9, b9⟩
      have KR := Lib.hid (Blk.below HK.out b9)
      have xf := KR.out.frozen
      have y0 : w9.cell? ⟨g, 0, none⟩ = some (.int .i64 0) := KR.out.cell 0
      have y1 : w9.cell? ⟨g, 1, none⟩ = some (.string ⟨#[]⟩) := KR.out.cell 1
      have y2 : w9.cell? ⟨g, 2, none⟩ = some (.int .i64 0) := KR.out.cell 2
      cases R with
      | bad d er =>
        dsimp only at h9
        subst h9
        have HFB := Lib.hid (put_after (a' := .int .i64 0) (b' := .string ⟨#[]⟩) (c' := .int .i64 ((o + d : Nat) : Int)) HW1.out HK.out HG.out b9)
        obtain ⟨od, hod⟩ : ∃ x, o + d = x := ⟨_, rfl⟩
        rw [hod] at HFB ⊢
        have HOD := Lib.hid hod
        clear b9 hod
        go_wp2
        exact bodyPost_ret (res_read rfl rfl rfl HFB.out.1) rfl (by show ReadP o (.bad d er) w _ _; exact ⟨ret_read rfl rfl (by have := HOD.out; omega) rfl rfl, HFB.out.2⟩)
      | tok kd tx n =>
        dsimp only at h9
        subst h9
        have HFB := Lib.hid (put_after (a' := .int .i64 (kd : Int)) (b' := .string (ofL tx)) (c' := .int .i64 (o : Int)) HW1.out HK.out HG.out b9)
        obtain ⟨od, hod⟩ : ∃ x, o + n = x := ⟨_, rfl⟩
        rw [hod]
        have HOD := Lib.hid hod
        obtain ⟨Y, hY⟩ : ∃ Y, ofL tx = Y := ⟨_, rfl⟩
        rw [hY] at HFB ⊢
        have HY := Lib.hid hY
        clear b9 hod hY
        go_wp2
        exact bodyPost_ret (res_read rfl rfl rfl HFB.out.1) rfl (by show ReadP o (.tok kd tx n) w _ _; exact ⟨ret_read rfl HY.out.symm rfl (by have := HOD.out; omega) rfl, HFB.out.2⟩)
    · have z1 : ((((s[o]'ho).toNat : Nat) : Int) == 34) = false := by rw [beq_eq_false_iff_ne]; omega
      cases mb with
      | true =>
        have HR : Hid (R = .tok 3 [s[o]'ho] 1) := Lib.hid (by rw [HON.out, if_neg (by decide), if_neg h34, if_pos rfl])
        clear HON HRW HRS h34
        obtain ⟨Y, hY⟩ : ∃ Y, ofL [s[o]'ho] = Y := ⟨_, rfl⟩
        rw [hY] at cm
        have HY := Lib.hid hY
        clear hY
        have KR := HK
        have xf := KR.out.frozen
        have y0 : W1.cell? ⟨g, 0, none⟩ = some (.int .i64 0) := KR.out.cell 0
        have y1 : W1.cell? ⟨g, 1, none⟩ = some (.string ⟨#[]⟩) := KR.out.cell 1
        have y2 : W1.cell? ⟨g, 2, none⟩ = some (.int .i64 0) := KR.out.cell 2
        have HFB := Lib.hid (put_after (a' := .int .i64 3) (b' := .string Y) (c' := .int .i64 (o : Int)) HW1.out HK.out HG.out (Below.refl _ _))
        go_enter Tryz.func42, Tryz.ntmps42
        go_upto_region 1 with fail
        rw [HW.out, HG.out]
        clear HW
        go_wp2_with fail
        refine (HO1.out _).mono ?_
        rintro e w2 ⟨rfl, hw2⟩
        obtain rfl := hw2.symm
        clear hw2
        go_wp2_with fail
        refine (HO2.out _).mono ?_
        rintro e w2 ⟨rfl, hw2⟩
        obtain rfl := hw2.symm
        clear hw2
        go_wp2
        exact bodyPost_ret (res_read rfl rfl rfl HFB.out.1) rfl (by show ReadP o R w _ _; rw [HR.out]; exact ⟨ret_read rfl HY.out.symm rfl (by omega) rfl, HFB.out.2⟩)
      | false =>
        have HR : Hid (R = .bad 0 3) := Lib.hid (by rw [HON.out, if_neg (by decide), if_neg h34, if_neg (by decide)])
        clear HON HRW HRS h34 cm
        go_enter Tryz.func42, Tryz.ntmps42
        go_upto_region 1 with fail
        rw [HW.out, HG.out]
        clear HW
        go_wp2_with fail
        refine (HO1.out _).mono ?_
        rintro e w2 ⟨rfl, hw2⟩
        obtain rfl := hw2.symm
        clear hw2
        go_wp2_with fail
        refine (HO2.out _).mono ?_
        rintro e w2 ⟨rfl, hw2⟩
        obtain rfl := hw2.symm
        clear hw2
        go_wp2_with fail
        refine (failure_any _ _ _).mono ?_
        rintro e w9 ⟨rfl, b9⟩
        have HFB := Lib.hid (put_after (a' := .int .i64 0) (b' := .string ⟨#[]⟩) (c' := .int .i64 ((o : Int))) HW1.out HK.out HG.out b9)
        have KR := Lib.hid (Blk.below HK.out b9)
        have xf := KR.out.frozen
        have y0 : w9.cell? ⟨g, 0, none⟩ = some (.int .i64 0) := KR.out.cell 0
        have y1 : w9.cell? ⟨g, 1, none⟩ = some (.string ⟨#[]⟩) := KR.out.cell 1
        have y2 : w9.cell? ⟨g, 2, none⟩ = some (.int .i64 0) := KR.out.cell 2
        clear b9
        go_wp2
        exact bodyPost_ret (res_read rfl rfl rfl HFB.out.1) rfl (by show ReadP o R w _ _; rw [HR.out]; exact ⟨ret_read rfl rfl (by omega) rfl rfl, HFB.out.2⟩)
end Go.Proofs.YtgogcekeklelmaaGreatDoor


