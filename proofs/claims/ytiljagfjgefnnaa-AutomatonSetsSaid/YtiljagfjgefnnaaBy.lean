/- Of the program: states. -/
import Derived.Test.YtiljagfjgefnnaaBw
namespace Go.Proofs.Ytiljagfjgefnnaa
open Go.RowKit
set_option linter.unusedVariables false

def stL (p : Ptn) (i : Nat) : List Nat := (List.range ((p.at_ i).t - (p.at_ i).f)).map fun j => p.o ((p.at_ i).f + j)
theorem fn_rd {w : World} {B n : Nat} {f : Nat → Nat} (h : Fn B 21 n (i32F f) w) (hn : n ≤ 1000000) (u m : Nat) (hm : u + m ≤ n) : Rd 1 encM w (.slice (some ⟨B, u, none⟩) ((List.range m).map fun j => f (u + j)).length (n - u)) ((List.range m).map fun j => f (u + j)) := by
  refine ⟨⟨_, n - u, rfl, by simp; omega, by omega, fun _ => ⟨B, u, rfl, h.lt, fun i x hx j v hv => ?_⟩⟩, fun k c hc => by cases hc⟩
  have hj : j = 0 := by have := (List.getElem?_eq_some_iff.1 hv).1; simp [encM] at this; exact this
  subst hj
  simp [encM] at hv
  subst hv
  have hi := (List.getElem?_eq_some_iff.1 hx).1
  simp at hi
  have he := (List.getElem?_eq_some_iff.1 hx).2
  simp at he
  subst he
  rw [Nat.mul_one, Nat.add_zero]
  exact h.cell (by omega)
def StatesR (w : World) (l : List Nat) (e : Ending) (w' : World) : Prop := ∃ v, e = .returned v ∧ Own1 1 encM w' w.heap.size 21 v l ∧ Below w.heap.size w w'
set_option maxRecDepth 1000000 in
set_option maxHeartbeats 16000000 in
theorem states_any (w : World) (base : Nat) (A : Pa) (vb vt : Value) (n : Nat) (p : Ptn) (i : Nat) (h : PM w base A vb vt vb vt n p) (hp : PB n p) (hi : i < p.l.length) (hn : n ≤ 1000000) :
    Calls Try.prog 64 #[.pointer (some ⟨A.p, 0, none⟩), .int .i64 (i : Nat)] w (StatesR w (stL p i)) := by
  obtain ⟨iM, hiM, hzM, hkM, hbM⟩ := info_parts Try.infoM
  have hb := hp.l_ i hi
  have hle := hp.len_le
  obtain ⟨g, c, hvb, hf0, hf1, hf2, _⟩ := h.bk hi
  subst hvb
  obtain ⟨T, hT⟩ : ∃ T, stL p i = T := ⟨_, rfl⟩
  have HT := Lib.hid hT
  unfold stL at hT
  obtain ⟨F, hF⟩ : ∃ F, (p.at_ i).f = F := ⟨_, rfl⟩
  obtain ⟨U, hU⟩ : ∃ U, (p.at_ i).t = U := ⟨_, rfl⟩
  obtain ⟨K, hK⟩ : ∃ K, (p.at_ i).k = K := ⟨_, rfl⟩
  rw [hF] at hf0 hb hT
  rw [hU] at hf1 hb hT
  rw [hK] at hf2 hb
  obtain ⟨L, hL⟩ : ∃ L, p.l.length = L := ⟨_, rfl⟩
  rw [hL] at hi hle h
  have hTL : T.length = U - F := by rw [← hT]; simp
  have HTL : Hid (T.length ≤ 1000000) := Lib.hid (by omega)
  have u3 : w.cell? ⟨A.p, 3, none⟩ = some (.slice (some ⟨g, 0, none⟩) L c) := h.kp.cell 3
  have bA := (Below.refl w.heap.size w).alloc (Nat.le_refl _) (.cells #[.int .i32 (F : Nat), .int .i32 (U : Nat), .int .i32 (K : Nat)] 106)
  have k0 := Blk.new w 106 #[.int .i32 (F : Nat), .int .i32 (U : Nat), .int .i32 (K : Nat)]
  obtain ⟨w1, hw1⟩ : ∃ w1, w.alloc (.cells #[.int .i32 (F : Nat), .int .i32 (U : Nat), .int .i32 (K : Nat)] 106) = w1 := ⟨_, rfl⟩
  rw [hw1] at bA k0
  obtain ⟨nb, hnb⟩ : ∃ nb, w.heap.size = nb := ⟨_, rfl⟩
  rw [hnb] at k0
  have HNB := Lib.hid hnb
  have P1 := Lib.hid (h.below bA)
  have K1 := Lib.hid k0
  have B1 := Lib.hid bA
  have HW1 := Lib.hid hw1
  have hFU : F < U := hb.1
  have hUn : U ≤ n := hb.2.1
  have hi9 : (i : Int) < (L : Int) := by omega
  have HRD : Hid (∀ wx : World, Fn A.o 21 n (i32F p.o) wx → Rd 1 encM wx (.slice (some ⟨A.o, F, none⟩) (U - F) (n - F)) T) := Lib.hid (fun wx hx => by
    have := fn_rd hx hn F (U - F) (by omega)
    rw [hT, hTL] at this
    exact this)
  obtain ⟨m, hm⟩ : ∃ m, U - F = m := ⟨_, rfl⟩
  have HCT : Hid (∀ wx, (Instr.slice 79 (.slice (some ⟨A.o, 0, none⟩) n n) (some (.int .i32 (F : Nat))) (some (.int .i32 (U : Nat))) none).run Try.prog wx = .ok (.slice (some ⟨A.o, F, none⟩) m (n - F)) wx ∧ (Instr.sliceAt 79 (.slice (some ⟨A.o, 0, none⟩) n n) (some (.int .i32 (F : Nat))) (some (.int .i32 (U : Nat))) none).run Try.prog wx = .ok (.slice (some ⟨A.o, F, none⟩) m (n - F)) wx) := Lib.hid (fun wx => by rw [← hm]; exact cut_o A.o n F U hFU hUn wx)
  rw [hm] at HRD
  clear hw1 k0 bA h hb hT hTL hF hU hK hL hnb hp hle hm
  go_enter Try.func64, Try.ntmps64
  go_upto_region 2 with fail
  rw [HW1.out, HNB.out]
  have PD := Lib.hid (P1.out.below (Below.refl _ w1).drew)
  have BD := Lib.hid (B1.out.drew)
  have KD := Lib.hid (Blk.below K1.out (Below.refl _ w1).drew)
  obtain ⟨wd, hwd⟩ : ∃ wd, w1.drew = wd := ⟨_, rfl⟩
  rw [hwd] at PD BD KD
  have hS : (fun wx : World => wx.cell? ⟨A.p, 0, none⟩ = some (.slice (some ⟨A.o, 0, none⟩) n n) ∧ wx.cell? ⟨nb, 0, none⟩ = some (.int .i32 (F : Nat)) ∧ wx.cell? ⟨nb, 1, none⟩ = some (.int .i32 (U : Nat))) wd := ⟨PD.out.kp.cell 0, KD.out.cell 0, KD.out.cell 1⟩
  refine region_hd 8 (fun wx : World => wx.cell? ⟨A.p, 0, none⟩ = some (.slice (some ⟨A.o, 0, none⟩) n n) ∧ wx.cell? ⟨nb, 0, none⟩ = some (.int .i32 (F : Nat)) ∧ wx.cell? ⟨nb, 1, none⟩ = some (.int .i32 (U : Nat))) (by kernel_rfl) (by kernel_rfl) ?_
  rw [hwd]
  refine hd_taken 0 (some 13) _ ?hdv0 rfl rfl (by kernel_rfl) (fun _ _ _ h => h) (Or.inl ⟨by rfl, ?hdy0⟩) hS ?hdr0
  case hdy0 => (intro wx hx; (try dsimp only at hx); go_simp; try with_reducible rfl)
  try simp only [Act.put, List.setIfInBounds_toArray, List.set_cons_zero, List.set_cons_succ]
  refine hd_taken 1 (some 14) _ ?hdv1 rfl rfl (by kernel_rfl) (fun _ _ _ h => h) (Or.inl ⟨by rfl, ?hdy1⟩) hS ?hdr1
  case hdy1 => (intro wx hx; (try dsimp only at hx); go_simp; try with_reducible rfl)
  try simp only [Act.put, List.setIfInBounds_toArray, List.set_cons_zero, List.set_cons_succ]
  refine hd_taken 2 (some 15) _ ?hdv2 rfl rfl (by kernel_rfl) (fun _ _ _ h => h) (Or.inl ⟨by rfl, ?hdy2⟩) hS ?hdr2
  case hdy2 => (intro wx hx; (try dsimp only at hx); go_simp; try with_reducible rfl)
  try simp only [Act.put, List.setIfInBounds_toArray, List.set_cons_zero, List.set_cons_succ]
  refine hd_taken 3 (some 16) _ ?hdv3 rfl rfl (by kernel_rfl) (fun _ _ _ h => h) (Or.inl ⟨by rfl, ?hdy3⟩) hS ?hdr3
  case hdy3 => (intro wx hx; (try dsimp only at hx); go_simp; try with_reducible rfl)
  try simp only [Act.put, List.setIfInBounds_toArray, List.set_cons_zero, List.set_cons_succ]
  refine hd_taken 4 (some 17) _ ?hdv4 rfl rfl (by kernel_rfl) (fun _ _ _ h => h) (Or.inl ⟨by rfl, ?hdy4⟩) hS ?hdr4
  case hdy4 => (intro wx hx; (try dsimp only at hx); go_simp; try with_reducible rfl)
  try simp only [Act.put, List.setIfInBounds_toArray, List.set_cons_zero, List.set_cons_succ]
  refine hd_taken 5 (some 18) _ ?hdv5 rfl rfl (by kernel_rfl) (fun _ _ _ h => h) (Or.inl ⟨by rfl, ?hdy5⟩) hS ?hdr5
  case hdy5 => (intro wx hx; (try dsimp only at hx); go_simp; try with_reducible rfl)
  try simp only [Act.put, List.setIfInBounds_toArray, List.set_cons_zero, List.set_cons_succ]
  refine hd_taken 6 (some 19) _ ?hdv6 rfl rfl (by kernel_rfl) (fun _ _ _ h => h) (Or.inl ⟨by rfl, ?hdy6⟩) hS ?hdr6
  case hdy6 => (intro wx hx; (try dsimp only at hx); go_simp; try with_reducible rfl)
  try simp only [Act.put, List.setIfInBounds_toArray, List.set_cons_zero, List.set_cons_succ]
  refine hd_taken 7 (some 20) _ ?hdv7 rfl rfl (by kernel_rfl) (fun _ _ _ h => h) (Or.inl ⟨by rfl, ?hdy7⟩) hS ?hdr7
  case hdy7 => (intro wx hx; (try dsimp only at hx); go_simp; try with_reducible rfl)
  try simp only [Act.put, List.setIfInBounds_toArray, List.set_cons_zero, List.set_cons_succ]
  refine hd_done (by kernel_rfl) ?_
  simp only [List.drop_succ_cons, List.drop_zero]
  have hc1 : ∀ wx, (Instr.slice 79 (.slice (some ⟨A.o, 0, none⟩) n n) (some (.int .i32 (F : Nat))) (some (.int .i32 (U : Nat))) none).run Try.prog wx = .ok (.slice (some ⟨A.o, F, none⟩) m (n - F)) wx := fun wx => (HCT.out wx).1
  have hc2 : ∀ wx, (Instr.sliceAt 79 (.slice (some ⟨A.o, 0, none⟩) n n) (some (.int .i32 (F : Nat))) (some (.int .i32 (U : Nat))) none).run Try.prog wx = .ok (.slice (some ⟨A.o, F, none⟩) m (n - F)) wx := fun wx => (HCT.out wx).2
  refine wpList_plain rfl fun K0 hK0 => ?_
  have hKS := Lib.hid hK0
  clear hK0
  go_simp
  refine hKS.out _ _ ?_
  clear hKS K0 hc1 hc2
  try simp only [Act.put, List.setIfInBounds_toArray, List.set_cons_zero, List.set_cons_succ]
  refine wpList_append_rd rfl _ _ 79 rfl wd.heap.size iM _ 4 Try.underlying79 hiM hzM hkM hbM (by omega) rfl (by omega) encM_len encM_one _ [] T _ rfl (own1_nil _ _ _) rfl (HRD.out wd PD.out.fo) (by have := HTL.out; simp; omega) (Nat.le_refl _) ?_
  intro v9 w9 o9 b9
  have HFIN : Hid (StatesR w (stL p i) (.returned v9) w9) := Lib.hid ⟨v9, rfl, by rw [HT.out]; exact Own1.base o9 BD.out.size, BD.out.trans (b9.mono BD.out.size)⟩
  clear o9 b9
  go_wp2
  go_ret
  exact HFIN.out
end Go.Proofs.Ytiljagfjgefnnaa
