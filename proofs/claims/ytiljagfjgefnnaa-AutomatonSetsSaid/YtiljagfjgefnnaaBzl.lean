/- Of the program: pairs of states, as they lie in memory and as the map's keys; the closures of combine. -/
import Derived.Test.YtiljagfjgefnnaaBzg
import Derived.DeepKeys4
namespace Go.Proofs.Ytiljagfjgefnnaa
open Go.RowKit Go.Maps Go.WideMaps
set_option linter.unusedVariables false

def encR2 (k : Nat) (x : Nat) : List Value := [.int .i32 (x / k : Nat), .int .i32 (x % k : Nat)]
theorem encR2_len (k x : Nat) : (encR2 k x).length = 2 := rfl
theorem encR2_one (k x : Nat) : ∀ u ∈ encR2 k x, u.oneCell' = true := by
  intro u hu
  simp only [encR2, List.mem_cons, List.not_mem_nil, or_false] at hu
  rcases hu with rfl | rfl <;> rfl
theorem Try.infoPr : (Try.prog.info? 88).map (fun i => (i.zero, i.size, i.bytes)) = some (some (.agg #[.int .i32 0, .int .i32 0]), 2, 8) := by kernel_rfl
theorem kindsR : Kinds 88 := ⟨by decide, by decide, by decide⟩
def kvR (k x : Nat) : Value := .agg #[.int .i32 (x / k : Nat), .int .i32 (x % k : Nat)]
theorem kvR_inj (k x y : Nat) (h : kvR k x = kvR k y) : x = y := by
  unfold kvR at h
  injection h with h
  injection h with h
  injection h with h1 h2
  injection h2 with h2 _
  injection h1 with _ h1
  injection h2 with _ h2
  rw [← Nat.div_add_mod x k, ← Nat.div_add_mod y k, show x / k = y / k by omega, show x % k = y % k by omega]
theorem keyedR : Keyed Try.prog 88 := Keyed.of_law (deep_law_laid (by kernel_rfl) (m := 2) (by omega) (of_decide_eq_true (by kernel_rfl)) (by kernel_rfl) (by kernel_rfl))
theorem lits1 {d n : Nat} (h : n ≤ 1000000000) : Try.prog.keyLits (d + 1) 21 [.int .i32 (n : Int)] = some [.int .i32 (n : Int)] := by
  have := i32_wf (n := n) (by omega)
  simp only [Program.keyLits, Try.underlying21, this, and_self, if_true]
theorem kvR_key {k x : Nat} (h1 : x / k ≤ 1000000000) (h2 : x % k ≤ 1000000000) : ∃ l, keyOf Try.prog 88 (kvR k x) = some l := by
  have hd : Try.prog.types.size = (Try.prog.types.size - 1) + 1 := by kernel_rfl
  have hc : Try.prog.cellsOf 88 = 2 := by kernel_rfl
  have hi : Try.prog.cellsOf 21 = 1 := by kernel_rfl
  have hk : Try.prog.keyType 88 = true := by kernel_rfl
  have hf : (kvR k x).formed Try.prog 88 = true := by
    simp [kvR, Value.formed, Try.underlying88, hc]
  have hl : Try.prog.keyLits (Try.prog.types.size + 1) 88 (kvR k x).cells.toList = some [.int .i32 (x / k : Nat), .int .i32 (x % k : Nat)] := by
    rw [hd]
    have e1 := lits1 (d := Try.prog.types.size - 1) h1
    have e2 := lits1 (d := Try.prog.types.size - 1) h2
    show Try.prog.keyLits (_ + 1) 88 [.int .i32 (x / k : Nat), .int .i32 (x % k : Nat)] = _
    unfold Program.keyLits
    simp only [Try.underlying88, hc, hi, List.length_cons, List.length_nil, if_true, Nat.zero_add, Nat.reduceAdd]
    simp only [show List.range 2 = [0, 1] from rfl, List.mapM_cons, List.mapM_nil, Nat.zero_mul, Nat.one_mul, List.drop_zero, List.drop_succ_cons, List.take_succ_cons, List.take_zero, e1, e2, Option.bind_eq_bind, Option.bind_some, Option.pure_def, Option.map_some]
    rfl
  refine ⟨.string (keyBytes [.int .i32 (x / k : Nat), .int .i32 (x % k : Nat)]), ?_⟩
  unfold keyOf
  simp only [Try.underlying88, hk, hf, Bool.and_self, if_true, hl, Option.map_some]
theorem own_pair (w : World) (base : Nat) (hb : base ≤ w.heap.size) (k x : Nat) : Own1 2 (encR2 k) (w.alloc (.cells #[.int .i32 (x / k : Nat), .int .i32 (x % k : Nat)] 88)) base 88 (.slice (some ⟨w.heap.size, 0, none⟩) 1 1) [x] :=
  ⟨by rfl, .inr ⟨w.heap.size, 1, #[.int .i32 (x / k : Nat), .int .i32 (x % k : Nat)], rfl, hb, heap_alloc_new w _, Nat.le_refl _, by decide, rfl, rfl⟩⟩
theorem Rd.pr {k : Nat} {w : World} {a : Option Addr} {n c : Nat} {l : List Nat} (h : Rd 2 (encR2 k) w (.slice a n c) l) (i : Nat) (hi : i < l.length) : ∃ b off, a = some ⟨b, off, none⟩ ∧ w.cell? ⟨b, off + i * 2 + 0, none⟩ = some (.int .i32 (l.getD i 0 / k : Nat)) ∧ w.cell? ⟨b, off + i * 2 + 1, none⟩ = some (.int .i32 (l.getD i 0 % k : Nat)) := by
  obtain ⟨b, off, ha, _, hx⟩ := h.some_ i hi
  have e : l[i] = l.getD i 0 := (getD_get hi).symm
  rw [e] at hx
  exact ⟨b, off, ha, hx 0 _ rfl, hx 1 _ rfl⟩
theorem resS2 {W : World} {tm : Array Value} {B : Nat} {t : TypeId} {a b : Value} (t2 : tm[6]?.getD undef = .pointer (some ⟨B, 0, none⟩)) (h : Blk B t #[a, b] W) :
    (results Try.f58 tm).run Try.prog W = .ok (.agg #[a, b]) W := by
  have a0 : W.cell? ⟨B, 0, none⟩ = some a := h.cell 0
  have a1 : W.cell? ⟨B, 1, none⟩ = some b := h.cell 1
  simp [results, Try.f58, go_sem, t2, a0, a1]
set_option maxRecDepth 1000000 in
set_option maxHeartbeats 16000000 in
theorem step2_any (r s : RawD) (ok : DOk r) (ok2 : DOk s) (g1 g2 : Nat) (a1 : Option Addr) (c1 : Nat) (a2 : Option Addr) (c2 : Nat) (a3 : Option Addr) (c3 : Nat) (a4 : Option Addr) (c4 : Nat) (w : World) (K1 : Blk g1 29 #[.int .i64 r.st, .slice a1 r.nx.length c1, .slice a2 r.ac.length c2] w) (K2 : Blk g2 29 #[.int .i64 s.st, .slice a3 s.nx.length c3, .slice a4 s.ac.length c4] w) (hN : RdRows w (.slice a1 r.nx.length c1) r.nx) (hN2 : RdRows w (.slice a3 s.nx.length c3) s.nx) (x y c : Nat) (hx : x < r.nx.length) (hy : y < s.nx.length) (hc : c < 11) :
    Calls Try.prog 58 #[.agg #[.int .i32 (x : Int), .int .i32 (y : Int)], .int .i64 (c : Int), .pointer (some ⟨g1, 0, none⟩), .pointer (some ⟨g2, 0, none⟩)] w fun e w' => e = .returned (.agg #[.int .i32 ((toA r).d x c : Nat), .int .i32 ((toA s).d y c : Nat)]) ∧ Below w.heap.size w w' := by
  have BA := (Below.refl w.heap.size w).alloc (Nat.le_refl _) (.cells #[.int .i32 (x : Int), .int .i32 (y : Int)] 88)
  have BB := BA.alloc BA.size (.cells #[.int .i32 0, .int .i32 0] 88)
  have k0 := (Blk.new w 88 #[.int .i32 (x : Int), .int .i32 (y : Int)]).alloc (.cells #[.int .i32 0, .int .i32 0] 88)
  have kr := Blk.new (w.alloc (.cells #[.int .i32 (x : Int), .int .i32 (y : Int)] 88)) 88 #[.int .i32 0, .int .i32 0]
  rw [World.size_alloc] at kr
  obtain ⟨W0, hW0⟩ : ∃ W0, (w.alloc (.cells #[.int .i32 (x : Int), .int .i32 (y : Int)] 88)).alloc (.cells #[.int .i32 0, .int .i32 0] 88) = W0 := ⟨_, rfl⟩
  have b1 : W0.cell? ⟨g1, 1, none⟩ = some (.slice a1 r.nx.length c1) := by rw [← hW0]; exact (Blk.below K1 BB).cell 1
  have b2 : W0.cell? ⟨g2, 1, none⟩ = some (.slice a3 s.nx.length c3) := by rw [← hW0]; exact (Blk.below K2 BB).cell 1
  have HN := hN.below BB
  have HN2 := hN2.below BB
  have HB := Lib.hid BB
  have KR := Lib.hid kr
  rw [hW0] at HN HN2 HB KR k0
  obtain ⟨g, hg⟩ : ∃ g, w.heap.size = g := ⟨_, rfl⟩
  rw [hg] at k0 KR
  have p0 : W0.cell? ⟨g, 0, none⟩ = some (.int .i32 (x : Int)) := k0.cell 0
  have p1 : W0.cell? ⟨g, 1, none⟩ = some (.int .i32 (y : Int)) := k0.cell 1
  obtain ⟨b3, o3, b5, o5, x5, rfl, e3, e5⟩ := ok.cells HN hx hc
  obtain ⟨b4, o4, b6, o6, x6, rfl, e4, e6⟩ := ok2.cells HN2 hy hc
  have d1 : IntKind.i32.wrap (((toA r).d x c : Nat) : Int) = ((toA r).d x c : Int) := by
    have := ok.ok.go x c hx hc
    have := ok.most
    rw [IntKind.wrap_i32]
    have : (toA r).n = r.nx.length := rfl
    omega
  have d2 : IntKind.i32.wrap (((toA s).d y c : Nat) : Int) = ((toA s).d y c : Int) := by
    have := ok2.ok.go y c hy hc
    have := ok2.most
    rw [IntKind.wrap_i32]
    have : (toA s).n = s.nx.length := rfl
    omega
  obtain ⟨D1, hD1⟩ : ∃ D, (toA r).d x c = D := ⟨_, rfl⟩
  obtain ⟨D2, hD2⟩ : ∃ D, (toA s).d y c = D := ⟨_, rfl⟩
  obtain ⟨R1, hR1⟩ : ∃ D, r.nx.length = D := ⟨_, rfl⟩
  obtain ⟨R2, hR2⟩ : ∃ D, s.nx.length = D := ⟨_, rfl⟩
  rw [hD1] at d1 e5
  rw [hD2] at d2 e6
  rw [hR1] at b1 hx
  rw [hR2] at b2 hy
  have HG := Lib.hid hg
  have HW0 := Lib.hid hW0
  have HD1 := Lib.hid hD1
  have HD2 := Lib.hid hD2
  have h6 : (x : Int) < (R1 : Int) := by omega
  have h7 : (y : Int) < (R2 : Int) := by omega
  have h8 : (c : Int) < 11 := by omega
  clear K1 K2 hN hN2 ok ok2 BA BB k0 kr hW0 hg HN HN2 hD1 hD2 hR1 hR2
  rw [HD1.out, HD2.out]
  go_enter Try.func58, Try.ntmps58
  go_upto_region 1 with fail
  rw [HW0.out, HG.out]
  clear HW0
  have hS : (fun wx : World => wx.cell? ⟨g1, 1, none⟩ = some (.slice (some ⟨b3, o3, none⟩) R1 c1) ∧ wx.cell? ⟨g2, 1, none⟩ = some (.slice (some ⟨b4, o4, none⟩) R2 c3) ∧ wx.cell? ⟨g, 0, none⟩ = some (.int .i32 (x : Int)) ∧ wx.cell? ⟨g, 1, none⟩ = some (.int .i32 (y : Int)) ∧ wx.cell? ⟨b3, o3 + x, none⟩ = some (.slice (some ⟨b5, o5, none⟩) 11 x5) ∧ wx.cell? ⟨b5, o5 + c, none⟩ = some (.int .i64 (D1 : Nat)) ∧ wx.cell? ⟨b4, o4 + y, none⟩ = some (.slice (some ⟨b6, o6, none⟩) 11 x6) ∧ wx.cell? ⟨b6, o6 + c, none⟩ = some (.int .i64 (D2 : Nat))) W0.drew := ⟨b1, b2, p0, p1, e3, e5, e4, e6⟩
  refine region_hd 21 (fun wx : World => wx.cell? ⟨g1, 1, none⟩ = some (.slice (some ⟨b3, o3, none⟩) R1 c1) ∧ wx.cell? ⟨g2, 1, none⟩ = some (.slice (some ⟨b4, o4, none⟩) R2 c3) ∧ wx.cell? ⟨g, 0, none⟩ = some (.int .i32 (x : Int)) ∧ wx.cell? ⟨g, 1, none⟩ = some (.int .i32 (y : Int)) ∧ wx.cell? ⟨b3, o3 + x, none⟩ = some (.slice (some ⟨b5, o5, none⟩) 11 x5) ∧ wx.cell? ⟨b5, o5 + c, none⟩ = some (.int .i64 (D1 : Nat)) ∧ wx.cell? ⟨b4, o4 + y, none⟩ = some (.slice (some ⟨b6, o6, none⟩) 11 x6) ∧ wx.cell? ⟨b6, o6 + c, none⟩ = some (.int .i64 (D2 : Nat))) (by kernel_rfl) (by kernel_rfl) ?_
  refine hd_taken 0 (some 7) _ ?hdv0 rfl rfl (by kernel_rfl) (fun _ _ _ h => h) (Or.inl ⟨by rfl, ?hdy0⟩) hS ?hdr0
  case hdy0 => (intro wx hx; (try dsimp only at hx); go_simp; try with_reducible rfl)
  try simp only [Act.put, List.setIfInBounds_toArray, List.set_cons_zero, List.set_cons_succ]
  refine hd_taken 1 (some 8) _ ?hdv1 rfl rfl (by kernel_rfl) (fun _ _ _ h => h) (Or.inl ⟨by rfl, ?hdy1⟩) hS ?hdr1
  case hdy1 => (intro wx hx; (try dsimp only at hx); go_simp; try with_reducible rfl)
  try simp only [Act.put, List.setIfInBounds_toArray, List.set_cons_zero, List.set_cons_succ]
  refine hd_taken 2 (some 9) _ ?hdv2 rfl rfl (by kernel_rfl) (fun _ _ _ h => h) (Or.inl ⟨by rfl, ?hdy2⟩) hS ?hdr2
  case hdy2 => (intro wx hx; (try dsimp only at hx); go_simp; try with_reducible rfl)
  try simp only [Act.put, List.setIfInBounds_toArray, List.set_cons_zero, List.set_cons_succ]
  refine hd_taken 3 (some 10) _ ?hdv3 rfl rfl (by kernel_rfl) (fun _ _ _ h => h) (Or.inl ⟨by rfl, ?hdy3⟩) hS ?hdr3
  case hdy3 => (intro wx hx; (try dsimp only at hx); go_simp; try with_reducible rfl)
  try simp only [Act.put, List.setIfInBounds_toArray, List.set_cons_zero, List.set_cons_succ]
  refine hd_taken 4 (some 11) _ ?hdv4 rfl rfl (by kernel_rfl) (fun _ _ _ h => h) (Or.inl ⟨by rfl, ?hdy4⟩) hS ?hdr4
  case hdy4 => (intro wx hx; (try dsimp only at hx); go_simp; try with_reducible rfl)
  try simp only [Act.put, List.setIfInBounds_toArray, List.set_cons_zero, List.set_cons_succ]
  refine hd_taken 5 (some 12) _ ?hdv5 rfl rfl (by kernel_rfl) (fun _ _ _ h => h) (Or.inl ⟨by rfl, ?hdy5⟩) hS ?hdr5
  case hdy5 => (intro wx hx; (try dsimp only at hx); go_simp; try with_reducible rfl)
  try simp only [Act.put, List.setIfInBounds_toArray, List.set_cons_zero, List.set_cons_succ]
  refine hd_taken 6 (some 13) _ ?hdv6 rfl rfl (by kernel_rfl) (fun _ _ _ h => h) (Or.inl ⟨by rfl, ?hdy6⟩) hS ?hdr6
  case hdy6 => (intro wx hx; (try dsimp only at hx); go_simp; try with_reducible rfl)
  try simp only [Act.put, List.setIfInBounds_toArray, List.set_cons_zero, List.set_cons_succ]
  refine hd_taken 7 (some 14) _ ?hdv7 rfl rfl (by kernel_rfl) (fun _ _ _ h => h) (Or.inl ⟨by rfl, ?hdy7⟩) hS ?hdr7
  case hdy7 => (intro wx hx; (try dsimp only at hx); go_simp; try with_reducible rfl)
  try simp only [Act.put, List.setIfInBounds_toArray, List.set_cons_zero, List.set_cons_succ]
  refine hd_taken 8 (some 15) _ ?hdv8 rfl rfl (by kernel_rfl) (fun _ _ _ h => h) (Or.inl ⟨by rfl, ?hdy8⟩) hS ?hdr8
  case hdy8 => (intro wx hx; (try dsimp only at hx); go_simp; try with_reducible rfl)
  try simp only [Act.put, List.setIfInBounds_toArray, List.set_cons_zero, List.set_cons_succ]
  refine hd_taken 9 (some 16) _ ?hdv9 rfl rfl (by kernel_rfl) (fun _ _ _ h => h) (Or.inl ⟨by rfl, ?hdy9⟩) hS ?hdr9
  case hdy9 => (intro wx hx; (try dsimp only at hx); go_simp; try with_reducible rfl)
  try simp only [Act.put, List.setIfInBounds_toArray, List.set_cons_zero, List.set_cons_succ]
  refine hd_taken 10 (some 17) _ ?hdv10 rfl rfl (by kernel_rfl) (fun _ _ _ h => h) (Or.inl ⟨by rfl, ?hdy10⟩) hS ?hdr10
  case hdy10 => (intro wx hx; (try dsimp only at hx); go_simp; try with_reducible rfl)
  try simp only [Act.put, List.setIfInBounds_toArray, List.set_cons_zero, List.set_cons_succ]
  refine hd_taken 11 (some 18) _ ?hdv11 rfl rfl (by kernel_rfl) (fun _ _ _ h => h) (Or.inl ⟨by rfl, ?hdy11⟩) hS ?hdr11
  case hdy11 => (intro wx hx; (try dsimp only at hx); go_simp; try with_reducible rfl)
  try simp only [Act.put, List.setIfInBounds_toArray, List.set_cons_zero, List.set_cons_succ]
  refine hd_taken 12 (some 19) _ ?hdv12 rfl rfl (by kernel_rfl) (fun _ _ _ h => h) (Or.inl ⟨by rfl, ?hdy12⟩) hS ?hdr12
  case hdy12 => (intro wx hx; (try dsimp only at hx); go_simp; try with_reducible rfl)
  try simp only [Act.put, List.setIfInBounds_toArray, List.set_cons_zero, List.set_cons_succ]
  refine hd_taken 13 (some 20) _ ?hdv13 rfl rfl (by kernel_rfl) (fun _ _ _ h => h) (Or.inl ⟨by rfl, ?hdy13⟩) hS ?hdr13
  case hdy13 => (intro wx hx; (try dsimp only at hx); go_simp; try with_reducible rfl)
  try simp only [Act.put, List.setIfInBounds_toArray, List.set_cons_zero, List.set_cons_succ]
  refine hd_taken 14 (some 21) _ ?hdv14 rfl rfl (by kernel_rfl) (fun _ _ _ h => h) (Or.inl ⟨by rfl, ?hdy14⟩) hS ?hdr14
  case hdy14 => (intro wx hx; (try dsimp only at hx); go_simp; try with_reducible rfl)
  try simp only [Act.put, List.setIfInBounds_toArray, List.set_cons_zero, List.set_cons_succ]
  refine hd_taken 15 (some 22) _ ?hdv15 rfl rfl (by kernel_rfl) (fun _ _ _ h => h) (Or.inl ⟨by rfl, ?hdy15⟩) hS ?hdr15
  case hdy15 => (intro wx hx; (try dsimp only at hx); go_simp; try with_reducible rfl)
  try simp only [Act.put, List.setIfInBounds_toArray, List.set_cons_zero, List.set_cons_succ]
  refine hd_taken 16 (some 23) _ ?hdv16 rfl rfl (by kernel_rfl) (fun _ _ _ h => h) (Or.inl ⟨by rfl, ?hdy16⟩) hS ?hdr16
  case hdy16 => (intro wx hx; (try dsimp only at hx); go_simp; try with_reducible rfl)
  try simp only [Act.put, List.setIfInBounds_toArray, List.set_cons_zero, List.set_cons_succ]
  refine hd_taken 17 (some 24) _ ?hdv17 rfl rfl (by kernel_rfl) (fun _ _ _ h => h) (Or.inl ⟨by rfl, ?hdy17⟩) hS ?hdr17
  case hdy17 => (intro wx hx; (try dsimp only at hx); go_simp; try with_reducible rfl)
  try simp only [Act.put, List.setIfInBounds_toArray, List.set_cons_zero, List.set_cons_succ]
  refine hd_taken 18 (some 25) _ ?hdv18 rfl rfl (by kernel_rfl) (fun _ _ _ h => h) (Or.inl ⟨by rfl, ?hdy18⟩) hS ?hdr18
  case hdy18 => (intro wx hx; (try dsimp only at hx); go_simp; try with_reducible rfl)
  try simp only [Act.put, List.setIfInBounds_toArray, List.set_cons_zero, List.set_cons_succ]
  refine hd_taken 19 (some 26) _ ?hdv19 rfl rfl (by kernel_rfl) (fun _ _ _ h => h) (Or.inl ⟨by rfl, ?hdy19⟩) hS ?hdr19
  case hdy19 => (intro wx hx; (try dsimp only at hx); go_simp; try with_reducible rfl)
  try simp only [Act.put, List.setIfInBounds_toArray, List.set_cons_zero, List.set_cons_succ]
  refine hd_taken 20 (some 27) _ ?hdv20 rfl rfl (by kernel_rfl) (fun _ _ _ h => h) (Or.inl ⟨by rfl, ?hdy20⟩) hS ?hdr20
  case hdy20 => (intro wx hx; (try dsimp only at hx); go_simp; try with_reducible rfl)
  try simp only [Act.put, List.setIfInBounds_toArray, List.set_cons_zero, List.set_cons_succ]
  refine hd_done (by kernel_rfl) ?_
  simp only [List.drop_succ_cons, List.drop_zero]
  have kf := KR.out.frozen
  have q0 : W0.cell? ⟨g + 1, 0, none⟩ = some (.int .i32 0) := KR.out.cell 0
  have q1 : W0.cell? ⟨g + 1, 1, none⟩ = some (.int .i32 0) := KR.out.cell 1
  have HFIN : Hid (Blk (g + 1) 88 #[.int .i32 (D1 : Int), .int .i32 (D2 : Int)] ((W0.setCell ⟨g + 1, 0, none⟩ (.int .i32 (D1 : Int))).setCell ⟨g + 1, 1, none⟩ (.int .i32 (D2 : Int))).drew ∧ Below w.heap.size w ((W0.setCell ⟨g + 1, 0, none⟩ (.int .i32 (D1 : Int))).setCell ⟨g + 1, 1, none⟩ (.int .i32 (D2 : Int))).drew) := Lib.hid (by
    have hw : w.heap.size ≤ g + 1 := by have := HG.out; omega
    exact ⟨Blk.below ((KR.out.put 0 _).put 1 _) ((Below.refl _ _).drew), ((HB.out.setCell (p := ⟨g + 1, 0, none⟩) hw _).setCell (p := ⟨g + 1, 1, none⟩) hw _).drew⟩)
  clear hS
  go_wp2
  exact bodyPost_ret (v := .agg #[.int .i32 (D1 : Int), .int .i32 (D2 : Int)]) (resS2 rfl HFIN.out.1) rfl ⟨rfl, HFIN.out.2⟩
set_option maxRecDepth 1000000 in
set_option maxHeartbeats 16000000 in
theorem accAnd_any (op : Bool → Bool → Bool) (hop : ∀ (x y : Bool) (wx : World), Calls Try.prog 43 #[.bool x, .bool y] wx fun e w' => e = .returned (.bool (op x y)) ∧ w' = wx) (r s : RawD) (ok : DOk r) (ok2 : DOk s) (g1 g2 gf : Nat) (tf : TypeId) (a1 : Option Addr) (c1 : Nat) (a2 : Option Addr) (c2 : Nat) (a3 : Option Addr) (c3 : Nat) (a4 : Option Addr) (c4 : Nat) (w : World) (K3 : Blk gf tf #[.func (.func 43) #[] #[]] w) (K1 : Blk g1 29 #[.int .i64 r.st, .slice a1 r.nx.length c1, .slice a2 r.ac.length c2] w) (K2 : Blk g2 29 #[.int .i64 s.st, .slice a3 s.nx.length c3, .slice a4 s.ac.length c4] w) (hF : Rd 1 encO w (.slice a2 r.ac.length c2) r.ac) (hF2 : Rd 1 encO w (.slice a4 s.ac.length c4) s.ac) (x y : Nat) (hx : x < r.nx.length) (hy : y < s.nx.length) :
    Calls Try.prog 59 #[.agg #[.int .i32 (x : Int), .int .i32 (y : Int)], .pointer (some ⟨gf, 0, none⟩), .pointer (some ⟨g1, 0, none⟩), .pointer (some ⟨g2, 0, none⟩)] w fun e w' => e = .returned (.bool (op ((toA r).f x) ((toA s).f y))) ∧ Below w.heap.size w w' := by
  have BA := (Below.refl w.heap.size w).alloc (Nat.le_refl _) (.cells #[.int .i32 (x : Int), .int .i32 (y : Int)] 88)
  have k0 := (Blk.new w 88 #[.int .i32 (x : Int), .int .i32 (y : Int)])
  obtain ⟨W0, hW0⟩ : ∃ W0, w.alloc (.cells #[.int .i32 (x : Int), .int .i32 (y : Int)] 88) = W0 := ⟨_, rfl⟩
  have b0 : W0.cell? ⟨gf, 0, none⟩ = some (.func (.func 43) #[] #[]) := by rw [← hW0]; exact (Blk.below K3 BA).cell 0
  have b1 : W0.cell? ⟨g1, 2, none⟩ = some (.slice a2 r.ac.length c2) := by rw [← hW0]; exact (Blk.below K1 BA).cell 2
  have b2 : W0.cell? ⟨g2, 2, none⟩ = some (.slice a4 s.ac.length c4) := by rw [← hW0]; exact (Blk.below K2 BA).cell 2
  have HF := hF.below BA
  have HF2 := hF2.below BA
  have HB := Lib.hid BA
  rw [hW0] at HF HF2 HB k0
  obtain ⟨g, hg⟩ : ∃ g, w.heap.size = g := ⟨_, rfl⟩
  rw [hg] at k0
  have p0 : W0.cell? ⟨g, 0, none⟩ = some (.int .i32 (x : Int)) := k0.cell 0
  have p1 : W0.cell? ⟨g, 1, none⟩ = some (.int .i32 (y : Int)) := k0.cell 1
  obtain ⟨b3, o3, rfl, e3⟩ := HF.boo x (by rw [ok.ac]; exact hx)
  obtain ⟨b4, o4, rfl, e4⟩ := HF2.boo y (by rw [ok2.ac]; exact hy)
  have HV1 : Hid ((toA r).f x = r.ac.getD x false) := Lib.hid rfl
  have HV2 : Hid ((toA s).f y = s.ac.getD y false) := Lib.hid rfl
  obtain ⟨D1, hD1⟩ : ∃ D, r.ac.getD x false = D := ⟨_, rfl⟩
  obtain ⟨D2, hD2⟩ : ∃ D, s.ac.getD y false = D := ⟨_, rfl⟩
  have hx' : x < r.ac.length := by rw [ok.ac]; exact hx
  have hy' : y < s.ac.length := by rw [ok2.ac]; exact hy
  obtain ⟨R1, hR1⟩ : ∃ D, r.ac.length = D := ⟨_, rfl⟩
  obtain ⟨R2, hR2⟩ : ∃ D, s.ac.length = D := ⟨_, rfl⟩
  rw [hD1] at e3 HV1
  rw [hD2] at e4 HV2
  rw [hR1] at b1 hx'
  rw [hR2] at b2 hy'
  have HG := Lib.hid hg
  have HW0 := Lib.hid hW0
  have h6 : (x : Int) < (R1 : Int) := by omega
  have h7 : (y : Int) < (R2 : Int) := by omega
  clear K1 K2 K3 hF hF2 ok ok2 BA k0 hW0 hg HF HF2 hD1 hD2 hR1 hR2 hx hy
  rw [HV1.out, HV2.out]
  have HOP := Lib.hid (hop D1 D2 W0.drew)
  clear hop
  go_enter Try.func59, Try.ntmps59
  go_upto_region 1 with fail
  rw [HW0.out, HG.out]
  clear HW0
  have hS : (fun wx : World => wx.cell? ⟨gf, 0, none⟩ = some (.func (.func 43) #[] #[]) ∧ wx.cell? ⟨g1, 2, none⟩ = some (.slice (some ⟨b3, o3, none⟩) R1 c2) ∧ wx.cell? ⟨g2, 2, none⟩ = some (.slice (some ⟨b4, o4, none⟩) R2 c4) ∧ wx.cell? ⟨g, 0, none⟩ = some (.int .i32 (x : Int)) ∧ wx.cell? ⟨g, 1, none⟩ = some (.int .i32 (y : Int)) ∧ wx.cell? ⟨b3, o3 + x, none⟩ = some (.bool D1) ∧ wx.cell? ⟨b4, o4 + y, none⟩ = some (.bool D2)) W0.drew := ⟨b0, b1, b2, p0, p1, e3, e4⟩
  refine region_hd 14 (fun wx : World => wx.cell? ⟨gf, 0, none⟩ = some (.func (.func 43) #[] #[]) ∧ wx.cell? ⟨g1, 2, none⟩ = some (.slice (some ⟨b3, o3, none⟩) R1 c2) ∧ wx.cell? ⟨g2, 2, none⟩ = some (.slice (some ⟨b4, o4, none⟩) R2 c4) ∧ wx.cell? ⟨g, 0, none⟩ = some (.int .i32 (x : Int)) ∧ wx.cell? ⟨g, 1, none⟩ = some (.int .i32 (y : Int)) ∧ wx.cell? ⟨b3, o3 + x, none⟩ = some (.bool D1) ∧ wx.cell? ⟨b4, o4 + y, none⟩ = some (.bool D2)) (by kernel_rfl) (by kernel_rfl) ?_
  refine hd_taken 0 (some 6) _ ?hdva0 rfl rfl (by kernel_rfl) (fun _ _ _ h => h) (Or.inl ⟨by rfl, ?hdya0⟩) hS ?hdra0
  case hdya0 => (intro wx hx; (try dsimp only at hx); go_simp; try with_reducible rfl)
  try simp only [Act.put, List.setIfInBounds_toArray, List.set_cons_zero, List.set_cons_succ]
  refine hd_taken 1 (some 7) _ ?hdva1 rfl rfl (by kernel_rfl) (fun _ _ _ h => h) (Or.inl ⟨by rfl, ?hdya1⟩) hS ?hdra1
  case hdya1 => (intro wx hx; (try dsimp only at hx); go_simp; try with_reducible rfl)
  try simp only [Act.put, List.setIfInBounds_toArray, List.set_cons_zero, List.set_cons_succ]
  refine hd_taken 2 (some 8) _ ?hdva2 rfl rfl (by kernel_rfl) (fun _ _ _ h => h) (Or.inl ⟨by rfl, ?hdya2⟩) hS ?hdra2
  case hdya2 => (intro wx hx; (try dsimp only at hx); go_simp; try with_reducible rfl)
  try simp only [Act.put, List.setIfInBounds_toArray, List.set_cons_zero, List.set_cons_succ]
  refine hd_taken 3 (some 9) _ ?hdva3 rfl rfl (by kernel_rfl) (fun _ _ _ h => h) (Or.inl ⟨by rfl, ?hdya3⟩) hS ?hdra3
  case hdya3 => (intro wx hx; (try dsimp only at hx); go_simp; try with_reducible rfl)
  try simp only [Act.put, List.setIfInBounds_toArray, List.set_cons_zero, List.set_cons_succ]
  refine hd_taken 4 (some 10) _ ?hdva4 rfl rfl (by kernel_rfl) (fun _ _ _ h => h) (Or.inl ⟨by rfl, ?hdya4⟩) hS ?hdra4
  case hdya4 => (intro wx hx; (try dsimp only at hx); go_simp; try with_reducible rfl)
  try simp only [Act.put, List.setIfInBounds_toArray, List.set_cons_zero, List.set_cons_succ]
  refine hd_taken 5 (some 11) _ ?hdva5 rfl rfl (by kernel_rfl) (fun _ _ _ h => h) (Or.inl ⟨by rfl, ?hdya5⟩) hS ?hdra5
  case hdya5 => (intro wx hx; (try dsimp only at hx); go_simp; try with_reducible rfl)
  try simp only [Act.put, List.setIfInBounds_toArray, List.set_cons_zero, List.set_cons_succ]
  refine hd_taken 6 (some 12) _ ?hdva6 rfl rfl (by kernel_rfl) (fun _ _ _ h => h) (Or.inl ⟨by rfl, ?hdya6⟩) hS ?hdra6
  case hdya6 => (intro wx hx; (try dsimp only at hx); go_simp; try with_reducible rfl)
  try simp only [Act.put, List.setIfInBounds_toArray, List.set_cons_zero, List.set_cons_succ]
  refine hd_taken 7 (some 13) _ ?hdva7 rfl rfl (by kernel_rfl) (fun _ _ _ h => h) (Or.inl ⟨by rfl, ?hdya7⟩) hS ?hdra7
  case hdya7 => (intro wx hx; (try dsimp only at hx); go_simp; try with_reducible rfl)
  try simp only [Act.put, List.setIfInBounds_toArray, List.set_cons_zero, List.set_cons_succ]
  refine hd_taken 8 (some 14) _ ?hdva8 rfl rfl (by kernel_rfl) (fun _ _ _ h => h) (Or.inl ⟨by rfl, ?hdya8⟩) hS ?hdra8
  case hdya8 => (intro wx hx; (try dsimp only at hx); go_simp; try with_reducible rfl)
  try simp only [Act.put, List.setIfInBounds_toArray, List.set_cons_zero, List.set_cons_succ]
  refine hd_taken 9 (some 15) _ ?hdva9 rfl rfl (by kernel_rfl) (fun _ _ _ h => h) (Or.inl ⟨by rfl, ?hdya9⟩) hS ?hdra9
  case hdya9 => (intro wx hx; (try dsimp only at hx); go_simp; try with_reducible rfl)
  try simp only [Act.put, List.setIfInBounds_toArray, List.set_cons_zero, List.set_cons_succ]
  refine hd_taken 10 (some 16) _ ?hdva10 rfl rfl (by kernel_rfl) (fun _ _ _ h => h) (Or.inl ⟨by rfl, ?hdya10⟩) hS ?hdra10
  case hdya10 => (intro wx hx; (try dsimp only at hx); go_simp; try with_reducible rfl)
  try simp only [Act.put, List.setIfInBounds_toArray, List.set_cons_zero, List.set_cons_succ]
  refine hd_taken 11 (some 17) _ ?hdva11 rfl rfl (by kernel_rfl) (fun _ _ _ h => h) (Or.inl ⟨by rfl, ?hdya11⟩) hS ?hdra11
  case hdya11 => (intro wx hx; (try dsimp only at hx); go_simp; try with_reducible rfl)
  try simp only [Act.put, List.setIfInBounds_toArray, List.set_cons_zero, List.set_cons_succ]
  refine hd_taken 12 (some 18) _ ?hdva12 rfl rfl (by kernel_rfl) (fun _ _ _ h => h) (Or.inl ⟨by rfl, ?hdya12⟩) hS ?hdra12
  case hdya12 => (intro wx hx; (try dsimp only at hx); go_simp; try with_reducible rfl)
  try simp only [Act.put, List.setIfInBounds_toArray, List.set_cons_zero, List.set_cons_succ]
  refine hd_one 13 _ rfl (by kernel_rfl) (by decide) (fun K7 hK7 => ?_)
  go_simp
  refine HOP.out.mono ?_
  rintro e we ⟨rfl, rfl⟩
  dsimp only
  refine hK7.out _ _ hS ?_
  clear hK7 K7
  try simp only [Act.put, List.setIfInBounds_toArray, List.set_cons_zero, List.set_cons_succ]
  refine hd_done (by kernel_rfl) ?_
  simp only [List.drop_succ_cons, List.drop_zero]
  have HFIN : Hid (Below w.heap.size w W0.drew) := Lib.hid HB.out.drew
  clear hS HOP
  go_wp2
  go_ret
  exact ⟨rfl, HFIN.out⟩
set_option maxRecDepth 1000000 in
set_option maxHeartbeats 16000000 in
theorem accOr_any (op : Bool → Bool → Bool) (hop : ∀ (x y : Bool) (wx : World), Calls Try.prog 45 #[.bool x, .bool y] wx fun e w' => e = .returned (.bool (op x y)) ∧ w' = wx) (r s : RawD) (ok : DOk r) (ok2 : DOk s) (g1 g2 gf : Nat) (tf : TypeId) (a1 : Option Addr) (c1 : Nat) (a2 : Option Addr) (c2 : Nat) (a3 : Option Addr) (c3 : Nat) (a4 : Option Addr) (c4 : Nat) (w : World) (K3 : Blk gf tf #[.func (.func 45) #[] #[]] w) (K1 : Blk g1 29 #[.int .i64 r.st, .slice a1 r.nx.length c1, .slice a2 r.ac.length c2] w) (K2 : Blk g2 29 #[.int .i64 s.st, .slice a3 s.nx.length c3, .slice a4 s.ac.length c4] w) (hF : Rd 1 encO w (.slice a2 r.ac.length c2) r.ac) (hF2 : Rd 1 encO w (.slice a4 s.ac.length c4) s.ac) (x y : Nat) (hx : x < r.nx.length) (hy : y < s.nx.length) :
    Calls Try.prog 59 #[.agg #[.int .i32 (x : Int), .int .i32 (y : Int)], .pointer (some ⟨gf, 0, none⟩), .pointer (some ⟨g1, 0, none⟩), .pointer (some ⟨g2, 0, none⟩)] w fun e w' => e = .returned (.bool (op ((toA r).f x) ((toA s).f y))) ∧ Below w.heap.size w w' := by
  have BA := (Below.refl w.heap.size w).alloc (Nat.le_refl _) (.cells #[.int .i32 (x : Int), .int .i32 (y : Int)] 88)
  have k0 := (Blk.new w 88 #[.int .i32 (x : Int), .int .i32 (y : Int)])
  obtain ⟨W0, hW0⟩ : ∃ W0, w.alloc (.cells #[.int .i32 (x : Int), .int .i32 (y : Int)] 88) = W0 := ⟨_, rfl⟩
  have b0 : W0.cell? ⟨gf, 0, none⟩ = some (.func (.func 45) #[] #[]) := by rw [← hW0]; exact (Blk.below K3 BA).cell 0
  have b1 : W0.cell? ⟨g1, 2, none⟩ = some (.slice a2 r.ac.length c2) := by rw [← hW0]; exact (Blk.below K1 BA).cell 2
  have b2 : W0.cell? ⟨g2, 2, none⟩ = some (.slice a4 s.ac.length c4) := by rw [← hW0]; exact (Blk.below K2 BA).cell 2
  have HF := hF.below BA
  have HF2 := hF2.below BA
  have HB := Lib.hid BA
  rw [hW0] at HF HF2 HB k0
  obtain ⟨g, hg⟩ : ∃ g, w.heap.size = g := ⟨_, rfl⟩
  rw [hg] at k0
  have p0 : W0.cell? ⟨g, 0, none⟩ = some (.int .i32 (x : Int)) := k0.cell 0
  have p1 : W0.cell? ⟨g, 1, none⟩ = some (.int .i32 (y : Int)) := k0.cell 1
  obtain ⟨b3, o3, rfl, e3⟩ := HF.boo x (by rw [ok.ac]; exact hx)
  obtain ⟨b4, o4, rfl, e4⟩ := HF2.boo y (by rw [ok2.ac]; exact hy)
  have HV1 : Hid ((toA r).f x = r.ac.getD x false) := Lib.hid rfl
  have HV2 : Hid ((toA s).f y = s.ac.getD y false) := Lib.hid rfl
  obtain ⟨D1, hD1⟩ : ∃ D, r.ac.getD x false = D := ⟨_, rfl⟩
  obtain ⟨D2, hD2⟩ : ∃ D, s.ac.getD y false = D := ⟨_, rfl⟩
  have hx' : x < r.ac.length := by rw [ok.ac]; exact hx
  have hy' : y < s.ac.length := by rw [ok2.ac]; exact hy
  obtain ⟨R1, hR1⟩ : ∃ D, r.ac.length = D := ⟨_, rfl⟩
  obtain ⟨R2, hR2⟩ : ∃ D, s.ac.length = D := ⟨_, rfl⟩
  rw [hD1] at e3 HV1
  rw [hD2] at e4 HV2
  rw [hR1] at b1 hx'
  rw [hR2] at b2 hy'
  have HG := Lib.hid hg
  have HW0 := Lib.hid hW0
  have h6 : (x : Int) < (R1 : Int) := by omega
  have h7 : (y : Int) < (R2 : Int) := by omega
  clear K1 K2 K3 hF hF2 ok ok2 BA k0 hW0 hg HF HF2 hD1 hD2 hR1 hR2 hx hy
  rw [HV1.out, HV2.out]
  have HOP := Lib.hid (hop D1 D2 W0.drew)
  clear hop
  go_enter Try.func59, Try.ntmps59
  go_upto_region 1 with fail
  rw [HW0.out, HG.out]
  clear HW0
  have hS : (fun wx : World => wx.cell? ⟨gf, 0, none⟩ = some (.func (.func 45) #[] #[]) ∧ wx.cell? ⟨g1, 2, none⟩ = some (.slice (some ⟨b3, o3, none⟩) R1 c2) ∧ wx.cell? ⟨g2, 2, none⟩ = some (.slice (some ⟨b4, o4, none⟩) R2 c4) ∧ wx.cell? ⟨g, 0, none⟩ = some (.int .i32 (x : Int)) ∧ wx.cell? ⟨g, 1, none⟩ = some (.int .i32 (y : Int)) ∧ wx.cell? ⟨b3, o3 + x, none⟩ = some (.bool D1) ∧ wx.cell? ⟨b4, o4 + y, none⟩ = some (.bool D2)) W0.drew := ⟨b0, b1, b2, p0, p1, e3, e4⟩
  refine region_hd 14 (fun wx : World => wx.cell? ⟨gf, 0, none⟩ = some (.func (.func 45) #[] #[]) ∧ wx.cell? ⟨g1, 2, none⟩ = some (.slice (some ⟨b3, o3, none⟩) R1 c2) ∧ wx.cell? ⟨g2, 2, none⟩ = some (.slice (some ⟨b4, o4, none⟩) R2 c4) ∧ wx.cell? ⟨g, 0, none⟩ = some (.int .i32 (x : Int)) ∧ wx.cell? ⟨g, 1, none⟩ = some (.int .i32 (y : Int)) ∧ wx.cell? ⟨b3, o3 + x, none⟩ = some (.bool D1) ∧ wx.cell? ⟨b4, o4 + y, none⟩ = some (.bool D2)) (by kernel_rfl) (by kernel_rfl) ?_
  refine hd_taken 0 (some 6) _ ?hdvb0 rfl rfl (by kernel_rfl) (fun _ _ _ h => h) (Or.inl ⟨by rfl, ?hdyb0⟩) hS ?hdrb0
  case hdyb0 => (intro wx hx; (try dsimp only at hx); go_simp; try with_reducible rfl)
  try simp only [Act.put, List.setIfInBounds_toArray, List.set_cons_zero, List.set_cons_succ]
  refine hd_taken 1 (some 7) _ ?hdvb1 rfl rfl (by kernel_rfl) (fun _ _ _ h => h) (Or.inl ⟨by rfl, ?hdyb1⟩) hS ?hdrb1
  case hdyb1 => (intro wx hx; (try dsimp only at hx); go_simp; try with_reducible rfl)
  try simp only [Act.put, List.setIfInBounds_toArray, List.set_cons_zero, List.set_cons_succ]
  refine hd_taken 2 (some 8) _ ?hdvb2 rfl rfl (by kernel_rfl) (fun _ _ _ h => h) (Or.inl ⟨by rfl, ?hdyb2⟩) hS ?hdrb2
  case hdyb2 => (intro wx hx; (try dsimp only at hx); go_simp; try with_reducible rfl)
  try simp only [Act.put, List.setIfInBounds_toArray, List.set_cons_zero, List.set_cons_succ]
  refine hd_taken 3 (some 9) _ ?hdvb3 rfl rfl (by kernel_rfl) (fun _ _ _ h => h) (Or.inl ⟨by rfl, ?hdyb3⟩) hS ?hdrb3
  case hdyb3 => (intro wx hx; (try dsimp only at hx); go_simp; try with_reducible rfl)
  try simp only [Act.put, List.setIfInBounds_toArray, List.set_cons_zero, List.set_cons_succ]
  refine hd_taken 4 (some 10) _ ?hdvb4 rfl rfl (by kernel_rfl) (fun _ _ _ h => h) (Or.inl ⟨by rfl, ?hdyb4⟩) hS ?hdrb4
  case hdyb4 => (intro wx hx; (try dsimp only at hx); go_simp; try with_reducible rfl)
  try simp only [Act.put, List.setIfInBounds_toArray, List.set_cons_zero, List.set_cons_succ]
  refine hd_taken 5 (some 11) _ ?hdvb5 rfl rfl (by kernel_rfl) (fun _ _ _ h => h) (Or.inl ⟨by rfl, ?hdyb5⟩) hS ?hdrb5
  case hdyb5 => (intro wx hx; (try dsimp only at hx); go_simp; try with_reducible rfl)
  try simp only [Act.put, List.setIfInBounds_toArray, List.set_cons_zero, List.set_cons_succ]
  refine hd_taken 6 (some 12) _ ?hdvb6 rfl rfl (by kernel_rfl) (fun _ _ _ h => h) (Or.inl ⟨by rfl, ?hdyb6⟩) hS ?hdrb6
  case hdyb6 => (intro wx hx; (try dsimp only at hx); go_simp; try with_reducible rfl)
  try simp only [Act.put, List.setIfInBounds_toArray, List.set_cons_zero, List.set_cons_succ]
  refine hd_taken 7 (some 13) _ ?hdvb7 rfl rfl (by kernel_rfl) (fun _ _ _ h => h) (Or.inl ⟨by rfl, ?hdyb7⟩) hS ?hdrb7
  case hdyb7 => (intro wx hx; (try dsimp only at hx); go_simp; try with_reducible rfl)
  try simp only [Act.put, List.setIfInBounds_toArray, List.set_cons_zero, List.set_cons_succ]
  refine hd_taken 8 (some 14) _ ?hdvb8 rfl rfl (by kernel_rfl) (fun _ _ _ h => h) (Or.inl ⟨by rfl, ?hdyb8⟩) hS ?hdrb8
  case hdyb8 => (intro wx hx; (try dsimp only at hx); go_simp; try with_reducible rfl)
  try simp only [Act.put, List.setIfInBounds_toArray, List.set_cons_zero, List.set_cons_succ]
  refine hd_taken 9 (some 15) _ ?hdvb9 rfl rfl (by kernel_rfl) (fun _ _ _ h => h) (Or.inl ⟨by rfl, ?hdyb9⟩) hS ?hdrb9
  case hdyb9 => (intro wx hx; (try dsimp only at hx); go_simp; try with_reducible rfl)
  try simp only [Act.put, List.setIfInBounds_toArray, List.set_cons_zero, List.set_cons_succ]
  refine hd_taken 10 (some 16) _ ?hdvb10 rfl rfl (by kernel_rfl) (fun _ _ _ h => h) (Or.inl ⟨by rfl, ?hdyb10⟩) hS ?hdrb10
  case hdyb10 => (intro wx hx; (try dsimp only at hx); go_simp; try with_reducible rfl)
  try simp only [Act.put, List.setIfInBounds_toArray, List.set_cons_zero, List.set_cons_succ]
  refine hd_taken 11 (some 17) _ ?hdvb11 rfl rfl (by kernel_rfl) (fun _ _ _ h => h) (Or.inl ⟨by rfl, ?hdyb11⟩) hS ?hdrb11
  case hdyb11 => (intro wx hx; (try dsimp only at hx); go_simp; try with_reducible rfl)
  try simp only [Act.put, List.setIfInBounds_toArray, List.set_cons_zero, List.set_cons_succ]
  refine hd_taken 12 (some 18) _ ?hdvb12 rfl rfl (by kernel_rfl) (fun _ _ _ h => h) (Or.inl ⟨by rfl, ?hdyb12⟩) hS ?hdrb12
  case hdyb12 => (intro wx hx; (try dsimp only at hx); go_simp; try with_reducible rfl)
  try simp only [Act.put, List.setIfInBounds_toArray, List.set_cons_zero, List.set_cons_succ]
  refine hd_one 13 _ rfl (by kernel_rfl) (by decide) (fun K7 hK7 => ?_)
  go_simp
  refine HOP.out.mono ?_
  rintro e we ⟨rfl, rfl⟩
  dsimp only
  refine hK7.out _ _ hS ?_
  clear hK7 K7
  try simp only [Act.put, List.setIfInBounds_toArray, List.set_cons_zero, List.set_cons_succ]
  refine hd_done (by kernel_rfl) ?_
  simp only [List.drop_succ_cons, List.drop_zero]
  have HFIN : Hid (Below w.heap.size w W0.drew) := Lib.hid HB.out.drew
  clear hS HOP
  go_wp2
  go_ret
  exact ⟨rfl, HFIN.out⟩
set_option maxRecDepth 1000000 in
theorem and_any (x y : Bool) (wx : World) : Calls Try.prog 43 #[.bool x, .bool y] wx fun e w' => e = .returned (.bool (x && y)) ∧ w' = wx := by
  go_enter Try.func43, Try.ntmps43
  cases x <;> cases y <;> (go_wp2; go_ret; exact ⟨rfl, rfl⟩)
set_option maxRecDepth 1000000 in
theorem or_any (x y : Bool) (wx : World) : Calls Try.prog 45 #[.bool x, .bool y] wx fun e w' => e = .returned (.bool (x || y)) ∧ w' = wx := by
  go_enter Try.func45, Try.ntmps45
  cases x <;> cases y <;> (go_wp2; go_ret; exact ⟨rfl, rfl⟩)
end Go.Proofs.Ytiljagfjgefnnaa
