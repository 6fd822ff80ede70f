/- Of the program of layer 15: Parse; what the laws want of it. -/
import Derived.Test.YteofkofgdhmpjaaDoorNwd
import Derived.Test.YteofkofgdhmpjaaDoorNui
namespace Go.Proofs.YteofkofgdhmpjaaDoor
open Go.RowKit
set_option linter.unusedVariables false

set_option maxRecDepth 1000000 in
set_option maxHeartbeats 8000000 in
theorem parseP_any (x : SyN) (hx : SmY x) (s : Str) (hs : s.length ≤ 100000) (w : World) (hm : MaxL w) : Calls Tryd.prog 7 #[.agg #[.string ⟨#[]⟩, .string ⟨#[]⟩, .string ⟨#[]⟩, .slice none 0 0, .slice none 0 0, .string (ofL x.de), .string (ofL x.gr), .string (ofL x.mi), .string (ofL x.pe), .int .i64 x.pr, .int .i64 x.se, .slice none 0 0, .slice none 0 0, .slice none 0 0, .slice none 0 0, .slice none 0 0], .string (ofL s)] w fun e w' => e = .returned (.tuple #[.string (ofL (parR x s).1), .int .i64 ((parR x s).2 : Nat)]) ∧ Below w.heap.size w w' := by
  have HTX := Lib.hid (fun n (g : Good n) w hm => textP_any x hx n g w hm)
  have HRD := Lib.hid (fun hd w hm => read_any x hx hd s hs w hm)
  have HP0 := Lib.hid (fun h => @parR_data x s h)
  have HP1 := Lib.hid (fun h k => @parR_bad x s h k)
  have HP2 := Lib.hid (fun h n k => @parR_ok x s h n k)
  have htl := numT_len x s
  obtain ⟨R, hR⟩ : ∃ R, parR x s = R := ⟨_, rfl⟩
  obtain ⟨T, hT⟩ : ∃ T, numT x s = T := ⟨_, rfl⟩
  rw [hR] at HP0 HP1 HP2 ⊢
  rw [hT] at HP1 HP2 HRD htl
  have HVA := Lib.hid (fun w => valid_any9 (ofL T) (by rw [ofL_size]; omega) w)
  rw [show (ofL T).data.toList = T from rfl] at HVA
  obtain ⟨de, e1⟩ : ∃ de, x.de = de := ⟨_, rfl⟩
  obtain ⟨gr, e2⟩ : ∃ gr, x.gr = gr := ⟨_, rfl⟩
  obtain ⟨mi, e3⟩ : ∃ mi, x.mi = mi := ⟨_, rfl⟩
  obtain ⟨pe, e4⟩ : ∃ pe, x.pe = pe := ⟨_, rfl⟩
  obtain ⟨p, e5⟩ : ∃ p, x.pr = p := ⟨_, rfl⟩
  obtain ⟨q, e6⟩ : ∃ q, x.se = q := ⟨_, rfl⟩
  rw [e1, e2, e3, e4, e5, e6] at HTX
  rw [e1, e2, e3, e4, e5, e6] at HRD
  rw [e1] at HP0
  rw [e1] at HP1
  rw [e1] at HP2
  rw [e1, e2, e3, e4, e5, e6]
  have E1 := Lib.hid e1
  have E4 := Lib.hid e4
  clear hx e1 e2 e3 e4 e5 e6
  clear hR hT htl
  have HM := Lib.hid hm
  clear hm
  have B0 := Lib.hid ((Below.refl w.heap.size w).alloc (Nat.le_refl _) (.cells #[.string ⟨#[]⟩, .string ⟨#[]⟩, .string ⟨#[]⟩, .slice none 0 0, .slice none 0 0, .string (ofL de), .string (ofL gr), .string (ofL mi), .string (ofL pe), .int .i64 p, .int .i64 q, .slice none 0 0, .slice none 0 0, .slice none 0 0, .slice none 0 0, .slice none 0 0] 32))
  have B1 := Lib.hid (B0.out.alloc B0.out.size (.cells #[.string (ofL de), .string (ofL gr), .string (ofL mi), .string (ofL pe), .int .i64 p, .int .i64 q] 23))
  have K1 := Lib.hid (Blk.new (w.alloc (.cells #[.string ⟨#[]⟩, .string ⟨#[]⟩, .string ⟨#[]⟩, .slice none 0 0, .slice none 0 0, .string (ofL de), .string (ofL gr), .string (ofL mi), .string (ofL pe), .int .i64 p, .int .i64 q, .slice none 0 0, .slice none 0 0, .slice none 0 0, .slice none 0 0, .slice none 0 0] 32)) 23 #[.string (ofL de), .string (ofL gr), .string (ofL mi), .string (ofL pe), .int .i64 p, .int .i64 q])
  rw [show (w.alloc (.cells #[.string ⟨#[]⟩, .string ⟨#[]⟩, .string ⟨#[]⟩, .slice none 0 0, .slice none 0 0, .string (ofL de), .string (ofL gr), .string (ofL mi), .string (ofL pe), .int .i64 p, .int .i64 q, .slice none 0 0, .slice none 0 0, .slice none 0 0, .slice none 0 0, .slice none 0 0] 32)).heap.size = w.heap.size + 1 by simp] at K1
  obtain ⟨bd, hbd⟩ : ∃ b, decide (de = []) = b := ⟨_, rfl⟩
  obtain ⟨k6, k6'⟩ := eq_str hbd
  have HBD := Lib.hid hbd
  clear hbd
  cases bd with
  | true =>
    have HR : Hid (R = ([], 18)) := Lib.hid (HP0.out (of_decide_eq_true HBD.out))
    go_enter Tryd.func7, Tryd.ntmps7
    go_wp2
    go_ret2
    exact ⟨by rw [HR.out]; rfl, B1.out⟩
  | false =>
  have HDE : Hid (¬ de = []) := Lib.hid (of_decide_eq_false HBD.out)
  obtain ⟨W1, hW1⟩ : ∃ W1, (w.alloc (.cells #[.string ⟨#[]⟩, .string ⟨#[]⟩, .string ⟨#[]⟩, .slice none 0 0, .slice none 0 0, .string (ofL de), .string (ofL gr), .string (ofL mi), .string (ofL pe), .int .i64 p, .int .i64 q, .slice none 0 0, .slice none 0 0, .slice none 0 0, .slice none 0 0, .slice none 0 0] 32)).alloc (.cells #[.string (ofL de), .string (ofL gr), .string (ofL mi), .string (ofL pe), .int .i64 p, .int .i64 q] 23) = W1 := ⟨_, rfl⟩
  rw [hW1] at B1 K1
  have HW1 := Lib.hid hW1
  clear hW1 B0
  have HM1 : Hid (MaxL W1) := Lib.hid (HM.out.below B1.out)
  have d0 : W1.cell? ⟨w.heap.size + 1, 0, none⟩ = some (.string (ofL de)) := K1.out.cell 0
  have d1 : W1.cell? ⟨w.heap.size + 1, 1, none⟩ = some (.string (ofL gr)) := K1.out.cell 1
  have d2 : W1.cell? ⟨w.heap.size + 1, 2, none⟩ = some (.string (ofL mi)) := K1.out.cell 2
  have d3 : W1.cell? ⟨w.heap.size + 1, 3, none⟩ = some (.string (ofL pe)) := K1.out.cell 3
  have d4 : W1.cell? ⟨w.heap.size + 1, 4, none⟩ = some (.int .i64 p) := K1.out.cell 4
  have d5 : W1.cell? ⟨w.heap.size + 1, 5, none⟩ = some (.int .i64 q) := K1.out.cell 5
  obtain ⟨vb, hvb⟩ : ∃ vb, (spl T).isSome = vb := ⟨_, rfl⟩
  rw [hvb] at HVA
  have HVB := Lib.hid hvb
  clear hvb
  have HSS := Lib.hid (beq_of)
  go_enter Tryd.func7, Tryd.ntmps7
  go_upto_region 2 with fail
  rw [HW1.out]
  go_wp2_with fail
  clear d0 d1 d2 d3 d4 d5
  refine (HRD.out HDE.out _ HM1.out).mono ?_
  rintro e w2 ⟨rfl, b2⟩
  have B2 := Lib.hid (stt B1.out b2 B1.out.size)
  have K2 := Lib.hid (K1.out.below b2)
  have HM2 := Lib.hid (HM1.out.below b2)
  clear b2
  go_wp2_with fail
  refine (HVA.out _).mono ?_
  rintro e w3 ⟨rfl, b3⟩
  have B3 := Lib.hid (stt B2.out b3 B2.out.size)
  have K3 := Lib.hid (K2.out.below b3)
  have HM3 := Lib.hid (HM2.out.below b3)
  clear b3
  cases vb with
  | false =>
    have HRE : Hid (R = ([], 3)) := Lib.hid (HP1.out HDE.out HVB.out)
    go_wp2
    go_ret2
    exact ⟨by rw [HRE.out]; rfl, B3.out⟩
  | true =>
  obtain ⟨n, hn⟩ := Option.isSome_iff_exists.1 HVB.out
  obtain ⟨gn, hsn⟩ := spl_some hn
  have HRE := Lib.hid (HP2.out HDE.out n hn)
  have HT1 := Lib.hid (fun w hm => HTX.out n gn w hm)
  rw [hsn] at HT1
  obtain ⟨X, hX⟩ : ∃ X, texR x n = X := ⟨_, rfl⟩
  rw [hX] at HT1 HRE
  have g5 : ((ofL X).toList == (ofL s).toList) = decide (X = s) := HSS.out X s
  have g6 : ((ofL X).toList != (ofL s).toList) = !decide (X = s) := by rw [bne, HSS.out X s]
  obtain ⟨eq, heq⟩ : ∃ b, decide (X = s) = b := ⟨_, rfl⟩
  rw [heq] at g5 g6
  have HEQ := Lib.hid heq
  clear hn gn hsn hX heq
  have d0 : w3.cell? ⟨w.heap.size + 1, 0, none⟩ = some (.string (ofL de)) := K3.out.cell 0
  have d1 : w3.cell? ⟨w.heap.size + 1, 1, none⟩ = some (.string (ofL gr)) := K3.out.cell 1
  have d2 : w3.cell? ⟨w.heap.size + 1, 2, none⟩ = some (.string (ofL mi)) := K3.out.cell 2
  have d3 : w3.cell? ⟨w.heap.size + 1, 3, none⟩ = some (.string (ofL pe)) := K3.out.cell 3
  have d4 : w3.cell? ⟨w.heap.size + 1, 4, none⟩ = some (.int .i64 p) := K3.out.cell 4
  have d5 : w3.cell? ⟨w.heap.size + 1, 5, none⟩ = some (.int .i64 q) := K3.out.cell 5
  go_wp2_with fail
  clear d0 d1 d2 d3 d4 d5
  refine (HT1.out _ HM3.out).mono ?_
  rintro e w4 ⟨rfl, b4⟩
  have B4 := Lib.hid (stt B3.out b4 B3.out.size)
  clear b4
  cases eq with
  | true =>
    simp only [Bool.not_true] at g6
    have HR2 : Hid (R = (T, 0)) := Lib.hid (by rw [HRE.out, if_pos (of_decide_eq_true HEQ.out)])
    go_wp2
    go_ret2
    exact ⟨by rw [HR2.out]; rfl, B4.out⟩
  | false =>
    simp only [Bool.not_false] at g6
    have HR2 : Hid (R = ([], 3)) := Lib.hid (by rw [HRE.out, if_neg (of_decide_eq_false HEQ.out)])
    go_wp2
    go_ret2
    exact ⟨by rw [HR2.out]; rfl, B4.out⟩
theorem nuC : NuC MaxL where
  later := fun h b => h.below b
  format := fun x s t w hx hs ht E => formatP_any x hx s t hs ht w E
  parse := fun x s w hx hs E => parseP_any x hx s hs w E
  sound := fun x w hx E => soundP_any x hx w
end Go.Proofs.YteofkofgdhmpjaaDoor
