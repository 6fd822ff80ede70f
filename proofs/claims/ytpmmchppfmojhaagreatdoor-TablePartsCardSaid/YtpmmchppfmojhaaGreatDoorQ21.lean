/- What the row stands on, part 21. -/
import Derived.Test.YtpmmchppfmojhaaGreatDoorQ20

/- Of the program's table package: has, and what is alike. -/
namespace Go.Proofs.YtpmmchppfmojhaaGreatDoor
open Go.RowKit
set_option linter.unusedVariables false

theorem beq_strs (a b : Str) : ((ofL a).toList == (ofL b).toList) = decide (a = b) := by
  rw [ByteArray.toList_eq, ByteArray.toList_eq]
  by_cases h : a = b
  · rw [h, decide_eq_true rfl, beq_iff_eq]
  · rw [decide_eq_false h, beq_eq_false_iff_ne]; exact h
def qRu (x y : Str × RawS) : Bool := decide (x.1 = y.1)
set_option maxRecDepth 1000000 in
set_option maxHeartbeats 2000000 in
theorem alikeRu_any (x y : Str × RawS) (w : World) : Calls Tryz.prog 80 #[.agg #[.string (ofL x.1), .slice x.2.a x.2.n x.2.c], .agg #[.string (ofL y.1), .slice y.2.a y.2.n y.2.c]] w fun e w' => e = .returned (.bool (qRu x y)) ∧ Below w.heap.size w w' := by
  have K := Lib.hid (((Below.refl w.heap.size w).alloc (Nat.le_refl _) (.cells #[.string (ofL x.1), .slice x.2.a x.2.n x.2.c] 56)).alloc (by simp) (.cells #[.string (ofL y.1), .slice y.2.a y.2.n y.2.c] 56))
  have HQ : Hid (((ofL x.1).toList == (ofL y.1).toList) = qRu x y) := Lib.hid (beq_strs _ _)
  go_enter Tryz.func80, Tryz.ntmps80
  go_wp2
  go_ret
  exact ⟨by rw [← HQ.out]; rfl, K.out⟩
def qAl (x y : Str × Str) : Bool := false
set_option maxRecDepth 1000000 in
set_option maxHeartbeats 2000000 in
theorem alikeAl_any (x y : Str × Str) (w : World) : Calls Tryz.prog 37 #[.agg #[.string (ofL x.1), .string (ofL x.2)], .agg #[.string (ofL y.1), .string (ofL y.2)]] w fun e w' => e = .returned (.bool (qAl x y)) ∧ Below w.heap.size w w' := by
  have K := Lib.hid (((Below.refl w.heap.size w).alloc (Nat.le_refl _) (.cells #[.string (ofL x.1), .string (ofL x.2)] 61)).alloc (by simp) (.cells #[.string (ofL y.1), .string (ofL y.2)] 61))
  go_enter Tryz.func37, Tryz.ntmps37
  go_wp2
  go_ret
  exact ⟨rfl, K.out⟩
def qDa (x y : Str × Str) : Bool := decide (x.1 = y.1)
set_option maxRecDepth 1000000 in
set_option maxHeartbeats 2000000 in
theorem alikeDa_any (x y : Str × Str) (w : World) : Calls Tryz.prog 90 #[.agg #[.string (ofL x.1), .string (ofL x.2)], .agg #[.string (ofL y.1), .string (ofL y.2)]] w fun e w' => e = .returned (.bool (qDa x y)) ∧ Below w.heap.size w w' := by
  have K := Lib.hid (((Below.refl w.heap.size w).alloc (Nat.le_refl _) (.cells #[.string (ofL x.1), .string (ofL x.2)] 124)).alloc (by simp) (.cells #[.string (ofL y.1), .string (ofL y.2)] 124))
  have HQ : Hid (((ofL x.1).toList == (ofL y.1).toList) = qDa x y) := Lib.hid (beq_strs _ _)
  go_enter Tryz.func90, Tryz.ntmps90
  go_wp2
  go_ret
  exact ⟨by rw [← HQ.out]; rfl, K.out⟩
def qNe (x y : Nea) : Bool := false
set_option maxRecDepth 1000000 in
set_option maxHeartbeats 2000000 in
theorem alikeNe_any (x y : Nea) (w : World) : Calls Tryz.prog 40 #[.agg #[.string (ofL x.fr), .string (ofL x.to_), .int .i64 x.co], .agg #[.string (ofL y.fr), .string (ofL y.to_), .int .i64 y.co]] w fun e w' => e = .returned (.bool (qNe x y)) ∧ Below w.heap.size w w' := by
  have K := Lib.hid (((Below.refl w.heap.size w).alloc (Nat.le_refl _) (.cells #[.string (ofL x.fr), .string (ofL x.to_), .int .i64 x.co] 36)).alloc (by simp) (.cells #[.string (ofL y.fr), .string (ofL y.to_), .int .i64 y.co] 36))
  go_enter Tryz.func40, Tryz.ntmps40
  go_wp2
  go_ret
  exact ⟨rfl, K.out⟩
def qLi (x y : Lis) : Bool := decide (x.st = y.st)
set_option maxRecDepth 1000000 in
set_option maxHeartbeats 2000000 in
theorem alikeLi_any (x y : Lis) (w : World) : Calls Tryz.prog 84 #[.agg #[.string (ofL x.st), .string (ofL x.two), .string (ofL x.sa), .string (ofL x.md), .string (ofL x.en)], .agg #[.string (ofL y.st), .string (ofL y.two), .string (ofL y.sa), .string (ofL y.md), .string (ofL y.en)]] w fun e w' => e = .returned (.bool (qLi x y)) ∧ Below w.heap.size w w' := by
  have K := Lib.hid (((Below.refl w.heap.size w).alloc (Nat.le_refl _) (.cells #[.string (ofL x.st), .string (ofL x.two), .string (ofL x.sa), .string (ofL x.md), .string (ofL x.en)] 116)).alloc (by simp) (.cells #[.string (ofL y.st), .string (ofL y.two), .string (ofL y.sa), .string (ofL y.md), .string (ofL y.en)] 116))
  have HQ : Hid (((ofL x.st).toList == (ofL y.st).toList) = qLi x y) := Lib.hid (beq_strs _ _)
  go_enter Tryz.func84, Tryz.ntmps84
  go_wp2
  go_ret
  exact ⟨by rw [← HQ.out]; rfl, K.out⟩
def qUn (x y : Uni) : Bool := (decide (x.un = y.un) && decide (x.cl = y.cl))
set_option maxRecDepth 1000000 in
set_option maxHeartbeats 2000000 in
theorem alikeUn_any (x y : Uni) (w : World) : Calls Tryz.prog 87 #[.agg #[.string (ofL x.un), .string (ofL x.cl), .string (ofL x.pt)], .agg #[.string (ofL y.un), .string (ofL y.cl), .string (ofL y.pt)]] w fun e w' => e = .returned (.bool (qUn x y)) ∧ Below w.heap.size w w' := by
  have K := Lib.hid (((Below.refl w.heap.size w).alloc (Nat.le_refl _) (.cells #[.string (ofL x.un), .string (ofL x.cl), .string (ofL x.pt)] 120)).alloc (by simp) (.cells #[.string (ofL y.un), .string (ofL y.cl), .string (ofL y.pt)] 120))
  have HQ : Hid (qUn x y = (((ofL x.un).toList == (ofL y.un).toList) && ((ofL x.cl).toList == (ofL y.cl).toList))) := Lib.hid (by rw [beq_strs, beq_strs]; rfl)
  obtain ⟨b1, hb1⟩ : ∃ b, ((ofL x.un).toList == (ofL y.un).toList) = b := ⟨_, rfl⟩
  obtain ⟨b2, hb2⟩ : ∃ b, ((ofL x.cl).toList == (ofL y.cl).toList) = b := ⟨_, rfl⟩
  rw [hb1, hb2] at HQ
  cases b1 with
  | true =>
    go_enter Tryz.func87, Tryz.ntmps87
    go_wp2
    go_ret
    exact ⟨by rw [HQ.out]; rfl, K.out⟩
  | false =>
    go_enter Tryz.func87, Tryz.ntmps87
    go_wp2
    go_ret
    exact ⟨by rw [HQ.out]; rfl, K.out⟩
def qLo (x y : RawLo) : Bool := false
set_option maxRecDepth 1000000 in
set_option maxHeartbeats 2000000 in
theorem alikeLo_any (x y : RawLo) (w : World) : Calls Tryz.prog 34 #[.agg #[.string (ofL x.tag), .string (ofL x.par), .string (ofL x.dir), .slice x.ca.a x.ca.n x.ca.c, .slice x.oc.a x.oc.n x.oc.c, .string (ofL x.sy.de), .string (ofL x.sy.gr), .string (ofL x.sy.mi), .string (ofL x.sy.pe), .int .i64 x.sy.pr, .int .i64 x.sy.se, .slice x.li.a x.li.n x.li.c, .slice x.un.a x.un.n x.un.c, .slice x.da.a x.da.n x.da.c, .slice x.mo.a x.mo.n x.mo.c, .slice x.dy.a x.dy.n x.dy.c], .agg #[.string (ofL y.tag), .string (ofL y.par), .string (ofL y.dir), .slice y.ca.a y.ca.n y.ca.c, .slice y.oc.a y.oc.n y.oc.c, .string (ofL y.sy.de), .string (ofL y.sy.gr), .string (ofL y.sy.mi), .string (ofL y.sy.pe), .int .i64 y.sy.pr, .int .i64 y.sy.se, .slice y.li.a y.li.n y.li.c, .slice y.un.a y.un.n y.un.c, .slice y.da.a y.da.n y.da.c, .slice y.mo.a y.mo.n y.mo.c, .slice y.dy.a y.dy.n y.dy.c]] w fun e w' => e = .returned (.bool (qLo x y)) ∧ Below w.heap.size w w' := by
  have K := Lib.hid (((Below.refl w.heap.size w).alloc (Nat.le_refl _) (.cells #[.string (ofL x.tag), .string (ofL x.par), .string (ofL x.dir), .slice x.ca.a x.ca.n x.ca.c, .slice x.oc.a x.oc.n x.oc.c, .string (ofL x.sy.de), .string (ofL x.sy.gr), .string (ofL x.sy.mi), .string (ofL x.sy.pe), .int .i64 x.sy.pr, .int .i64 x.sy.se, .slice x.li.a x.li.n x.li.c, .slice x.un.a x.un.n x.un.c, .slice x.da.a x.da.n x.da.c, .slice x.mo.a x.mo.n x.mo.c, .slice x.dy.a x.dy.n x.dy.c] 51)).alloc (by simp) (.cells #[.string (ofL y.tag), .string (ofL y.par), .string (ofL y.dir), .slice y.ca.a y.ca.n y.ca.c, .slice y.oc.a y.oc.n y.oc.c, .string (ofL y.sy.de), .string (ofL y.sy.gr), .string (ofL y.sy.mi), .string (ofL y.sy.pe), .int .i64 y.sy.pr, .int .i64 y.sy.se, .slice y.li.a y.li.n y.li.c, .slice y.un.a y.un.n y.un.c, .slice y.da.a y.da.n y.da.c, .slice y.mo.a y.mo.n y.mo.c, .slice y.dy.a y.dy.n y.dy.c] 51))
  go_enter Tryz.func34, Tryz.ntmps34
  go_wp2
  go_ret
  exact ⟨rfl, K.out⟩
set_option maxRecDepth 1000000 in
set_option maxHeartbeats 2000000 in
theorem has1Ru_any (x y : Str × RawS) (qb : Bool) (n0 : Nat) (eg : ∀ args w, (callFunc n0 args).run Tryz.prog w = .ok (.enter n0 args) w) (Ba Bx : Nat) (W : World) (ha : Blk Ba 133 #[.func (.func n0) #[] #[]] W) (hx : Blk Bx 56 #[.string (ofL x.1), .slice x.2.a x.2.n x.2.c] W)
    (hF : ∀ W1, Calls Tryz.prog n0 #[.agg #[.string (ofL x.1), .slice x.2.a x.2.n x.2.c], .agg #[.string (ofL y.1), .slice y.2.a y.2.n y.2.c]] W1 fun e w' => e = .returned (.bool qb) ∧ Below W1.heap.size W1 w') :
    Calls Tryz.prog 194 (#[.agg #[.string (ofL y.1), .slice y.2.a y.2.n y.2.c]] ++ #[.pointer (some ⟨Ba, 0, none⟩), .pointer (some ⟨Bx, 0, none⟩)]) W fun e w' => e = .returned (.bool qb) ∧ Below W.heap.size W w' := by
  have K := Lib.hid ((Below.refl W.heap.size W).alloc (Nat.le_refl _) (.cells #[.string (ofL y.1), .slice y.2.a y.2.n y.2.c] 56))
  have HF := Lib.hid (fun W1 => hF W1)
  have ca : (W.alloc (.cells #[.string (ofL y.1), .slice y.2.a y.2.n y.2.c] 56)).cell? ⟨Ba, 0, none⟩ = some (.func (.func n0) #[] #[]) := (K.out.cell (p := ⟨Ba, 0, none⟩) ha.lt).trans (ha.cell 0)
  have c0 : (W.alloc (.cells #[.string (ofL y.1), .slice y.2.a y.2.n y.2.c] 56)).cell? ⟨Bx, 0, none⟩ = some (.string (ofL x.1)) := (K.out.cell (p := ⟨Bx, 0, none⟩) hx.lt).trans (hx.cell 0)
  have c1 : (W.alloc (.cells #[.string (ofL y.1), .slice y.2.a y.2.n y.2.c] 56)).cell? ⟨Bx, 1, none⟩ = some (.slice x.2.a x.2.n x.2.c) := (K.out.cell (p := ⟨Bx, 1, none⟩) hx.lt).trans (hx.cell 1)
  clear hF ha hx
  go_enter Tryz.func194, Tryz.ntmps194
  go_wp2_with (go_at_fn n0; refine (HF.out _).mono ?_; rintro e w2 ⟨rfl, b2⟩)
  have HB2 := Lib.hid (st K.out b2 K.out.size)
  clear b2
  go_wp2
  go_ret
  exact ⟨rfl, HB2.out⟩
set_option maxRecDepth 1000000 in
set_option maxHeartbeats 2000000 in
theorem hasRu_any (v : Value) (l : List (Str × RawS)) (x : Str × RawS) (q : Str × RawS → Bool) (n0 : Nat) (eg : ∀ args w, (callFunc n0 args).run Tryz.prog w = .ok (.enter n0 args) w) (w : World) (hv : Rd 2 encRl w v l)
    (hF : ∀ (W1 : World) (y : Str × RawS), y ∈ l → Calls Tryz.prog n0 #[.agg #[.string (ofL x.1), .slice x.2.a x.2.n x.2.c], .agg #[.string (ofL y.1), .slice y.2.a y.2.n y.2.c]] W1 fun e w' => e = .returned (.bool (q y)) ∧ Below W1.heap.size W1 w') :
    Calls Tryz.prog 141 #[v, .agg #[.string (ofL x.1), .slice x.2.a x.2.n x.2.c], .func (.func n0) #[] #[]] w fun e w' => e = .returned (.bool (l.any q)) ∧ Below w.heap.size w w' := by
  have K1 := (Below.refl w.heap.size w).alloc (Nat.le_refl _) (.cells #[.string (ofL x.1), .slice x.2.a x.2.n x.2.c] 56)
  have K := Lib.hid (K1.alloc (by simp) (.cells #[.func (.func n0) #[] #[]] 133))
  have KX := Lib.hid ((Blk.new w 56 #[.string (ofL x.1), .slice x.2.a x.2.n x.2.c]).alloc (.cells #[.func (.func n0) #[] #[]] 133))
  have KA := Blk.new (w.alloc (.cells #[.string (ofL x.1), .slice x.2.a x.2.n x.2.c] 56)) 133 #[.func (.func n0) #[] #[]]
  rw [World.size_alloc] at KA
  have HU := Lib.hid ((hv.alloc (.cells #[.string (ofL x.1), .slice x.2.a x.2.n x.2.c] 56)).alloc (.cells #[.func (.func n0) #[] #[]] 133))
  have HKA := Lib.hid KA
  have HG : Hid (∀ (W : World) (s : Str × RawS), s ∈ l → Below ((w.alloc (.cells #[.string (ofL x.1), .slice x.2.a x.2.n x.2.c] 56)).alloc (.cells #[.func (.func n0) #[] #[]] 133)).heap.size ((w.alloc (.cells #[.string (ofL x.1), .slice x.2.a x.2.n x.2.c] 56)).alloc (.cells #[.func (.func n0) #[] #[]] 133)) W → Calls Tryz.prog 194 (#[.agg #[.string (ofL s.1), .slice s.2.a s.2.n s.2.c]] ++ #[.pointer (some ⟨w.heap.size + 1, 0, none⟩), .pointer (some ⟨w.heap.size, 0, none⟩)]) W fun e w' => e = .returned (.bool (q s)) ∧ Below W.heap.size W w') := Lib.hid (fun W s hs hb =>
    has1Ru_any x s (q s) n0 eg _ _ W (Blk.below HKA.out hb) (Blk.below KX.out hb) (fun W1 => hF W1 s hs))
  clear K1 KA hv hF
  go_enter Tryz.func141, Tryz.ntmps141
  go_wp2_with fail
  refine (containsRu_any _ l q 194 _ (enters_of Tryz.func194 (by kernel_rfl) rfl) _ HU.out HG.out).mono ?_
  rintro e w2 ⟨rfl, b2⟩
  have HB2 := Lib.hid (K.out.trans (b2.mono K.out.size))
  clear b2
  go_wp2
  go_ret
  exact ⟨rfl, HB2.out⟩
set_option maxRecDepth 1000000 in
set_option maxHeartbeats 2000000 in
theorem has1Al_any (x y : Str × Str) (qb : Bool) (n0 : Nat) (eg : ∀ args w, (callFunc n0 args).run Tryz.prog w = .ok (.enter n0 args) w) (Ba Bx : Nat) (W : World) (ha : Blk Ba 73 #[.func (.func n0) #[] #[]] W) (hx : Blk Bx 61 #[.string (ofL x.1), .string (ofL x.2)] W)
    (hF : ∀ W1, Calls Tryz.prog n0 #[.agg #[.string (ofL x.1), .string (ofL x.2)], .agg #[.string (ofL y.1), .string (ofL y.2)]] W1 fun e w' => e = .returned (.bool qb) ∧ Below W1.heap.size W1 w') :
    Calls Tryz.prog 150 (#[.agg #[.string (ofL y.1), .string (ofL y.2)]] ++ #[.pointer (some ⟨Ba, 0, none⟩), .pointer (some ⟨Bx, 0, none⟩)]) W fun e w' => e = .returned (.bool qb) ∧ Below W.heap.size W w' := by
  have K := Lib.hid ((Below.refl W.heap.size W).alloc (Nat.le_refl _) (.cells #[.string (ofL y.1), .string (ofL y.2)] 61))
  have HF := Lib.hid (fun W1 => hF W1)
  have ca : (W.alloc (.cells #[.string (ofL y.1), .string (ofL y.2)] 61)).cell? ⟨Ba, 0, none⟩ = some (.func (.func n0) #[] #[]) := (K.out.cell (p := ⟨Ba, 0, none⟩) ha.lt).trans (ha.cell 0)
  have c0 : (W.alloc (.cells #[.string (ofL y.1), .string (ofL y.2)] 61)).cell? ⟨Bx, 0, none⟩ = some (.string (ofL x.1)) := (K.out.cell (p := ⟨Bx, 0, none⟩) hx.lt).trans (hx.cell 0)
  have c1 : (W.alloc (.cells #[.string (ofL y.1), .string (ofL y.2)] 61)).cell? ⟨Bx, 1, none⟩ = some (.string (ofL x.2)) := (K.out.cell (p := ⟨Bx, 1, none⟩) hx.lt).trans (hx.cell 1)
  clear hF ha hx
  go_enter Tryz.func150, Tryz.ntmps150
  go_wp2_with (go_at_fn n0; refine (HF.out _).mono ?_; rintro e w2 ⟨rfl, b2⟩)
  have HB2 := Lib.hid (st K.out b2 K.out.size)
  clear b2
  go_wp2
  go_ret
  exact ⟨rfl, HB2.out⟩
set_option maxRecDepth 1000000 in
set_option maxHeartbeats 2000000 in
theorem hasAl_any (v : Value) (l : List (Str × Str)) (x : Str × Str) (q : Str × Str → Bool) (n0 : Nat) (eg : ∀ args w, (callFunc n0 args).run Tryz.prog w = .ok (.enter n0 args) w) (w : World) (hv : Rd 2 encDu w v l)
    (hF : ∀ (W1 : World) (y : Str × Str), y ∈ l → Calls Tryz.prog n0 #[.agg #[.string (ofL x.1), .string (ofL x.2)], .agg #[.string (ofL y.1), .string (ofL y.2)]] W1 fun e w' => e = .returned (.bool (q y)) ∧ Below W1.heap.size W1 w') :
    Calls Tryz.prog 92 #[v, .agg #[.string (ofL x.1), .string (ofL x.2)], .func (.func n0) #[] #[]] w fun e w' => e = .returned (.bool (l.any q)) ∧ Below w.heap.size w w' := by
  have K1 := (Below.refl w.heap.size w).alloc (Nat.le_refl _) (.cells #[.string (ofL x.1), .string (ofL x.2)] 61)
  have K := Lib.hid (K1.alloc (by simp) (.cells #[.func (.func n0) #[] #[]] 73))
  have KX := Lib.hid ((Blk.new w 61 #[.string (ofL x.1), .string (ofL x.2)]).alloc (.cells #[.func (.func n0) #[] #[]] 73))
  have KA := Blk.new (w.alloc (.cells #[.string (ofL x.1), .string (ofL x.2)] 61)) 73 #[.func (.func n0) #[] #[]]
  rw [World.size_alloc] at KA
  have HU := Lib.hid ((hv.alloc (.cells #[.string (ofL x.1), .string (ofL x.2)] 61)).alloc (.cells #[.func (.func n0) #[] #[]] 73))
  have HKA := Lib.hid KA
  have HG : Hid (∀ (W : World) (s : Str × Str), s ∈ l → Below ((w.alloc (.cells #[.string (ofL x.1), .string (ofL x.2)] 61)).alloc (.cells #[.func (.func n0) #[] #[]] 73)).heap.size ((w.alloc (.cells #[.string (ofL x.1), .string (ofL x.2)] 61)).alloc (.cells #[.func (.func n0) #[] #[]] 73)) W → Calls Tryz.prog 150 (#[.agg #[.string (ofL s.1), .string (ofL s.2)]] ++ #[.pointer (some ⟨w.heap.size + 1, 0, none⟩), .pointer (some ⟨w.heap.size, 0, none⟩)]) W fun e w' => e = .returned (.bool (q s)) ∧ Below W.heap.size W w') := Lib.hid (fun W s hs hb =>
    has1Al_any x s (q s) n0 eg _ _ W (Blk.below HKA.out hb) (Blk.below KX.out hb) (fun W1 => hF W1 s hs))
  clear K1 KA hv hF
  go_enter Tryz.func92, Tryz.ntmps92
  go_wp2_with fail
  refine (containsAl_any _ l q 150 _ (enters_of Tryz.func150 (by kernel_rfl) rfl) _ HU.out HG.out).mono ?_
  rintro e w2 ⟨rfl, b2⟩
  have HB2 := Lib.hid (K.out.trans (b2.mono K.out.size))
  clear b2
  go_wp2
  go_ret
  exact ⟨rfl, HB2.out⟩
set_option maxRecDepth 1000000 in
set_option maxHeartbeats 2000000 in
theorem has1Da_any (x y : Str × Str) (qb : Bool) (n0 : Nat) (eg : ∀ args w, (callFunc n0 args).run Tryz.prog w = .ok (.enter n0 args) w) (Ba Bx : Nat) (W : World) (ha : Blk Ba 143 #[.func (.func n0) #[] #[]] W) (hx : Blk Bx 124 #[.string (ofL x.1), .string (ofL x.2)] W)
    (hF : ∀ W1, Calls Tryz.prog n0 #[.agg #[.string (ofL x.1), .string (ofL x.2)], .agg #[.string (ofL y.1), .string (ofL y.2)]] W1 fun e w' => e = .returned (.bool qb) ∧ Below W1.heap.size W1 w') :
    Calls Tryz.prog 205 (#[.agg #[.string (ofL y.1), .string (ofL y.2)]] ++ #[.pointer (some ⟨Ba, 0, none⟩), .pointer (some ⟨Bx, 0, none⟩)]) W fun e w' => e = .returned (.bool qb) ∧ Below W.heap.size W w' := by
  have K := Lib.hid ((Below.refl W.heap.size W).alloc (Nat.le_refl _) (.cells #[.string (ofL y.1), .string (ofL y.2)] 124))
  have HF := Lib.hid (fun W1 => hF W1)
  have ca : (W.alloc (.cells #[.string (ofL y.1), .string (ofL y.2)] 124)).cell? ⟨Ba, 0, none⟩ = some (.func (.func n0) #[] #[]) := (K.out.cell (p := ⟨Ba, 0, none⟩) ha.lt).trans (ha.cell 0)
  have c0 : (W.alloc (.cells #[.string (ofL y.1), .string (ofL y.2)] 124)).cell? ⟨Bx, 0, none⟩ = some (.string (ofL x.1)) := (K.out.cell (p := ⟨Bx, 0, none⟩) hx.lt).trans (hx.cell 0)
  have c1 : (W.alloc (.cells #[.string (ofL y.1), .string (ofL y.2)] 124)).cell? ⟨Bx, 1, none⟩ = some (.string (ofL x.2)) := (K.out.cell (p := ⟨Bx, 1, none⟩) hx.lt).trans (hx.cell 1)
  clear hF ha hx
  go_enter Tryz.func205, Tryz.ntmps205
  go_wp2_with (go_at_fn n0; refine (HF.out _).mono ?_; rintro e w2 ⟨rfl, b2⟩)
  have HB2 := Lib.hid (st K.out b2 K.out.size)
  clear b2
  go_wp2
  go_ret
  exact ⟨rfl, HB2.out⟩
set_option maxRecDepth 1000000 in
set_option maxHeartbeats 2000000 in
theorem hasDa_any (v : Value) (l : List (Str × Str)) (x : Str × Str) (q : Str × Str → Bool) (n0 : Nat) (eg : ∀ args w, (callFunc n0 args).run Tryz.prog w = .ok (.enter n0 args) w) (w : World) (hv : Rd 2 encDu w v l)
    (hF : ∀ (W1 : World) (y : Str × Str), y ∈ l → Calls Tryz.prog n0 #[.agg #[.string (ofL x.1), .string (ofL x.2)], .agg #[.string (ofL y.1), .string (ofL y.2)]] W1 fun e w' => e = .returned (.bool (q y)) ∧ Below W1.heap.size W1 w') :
    Calls Tryz.prog 148 #[v, .agg #[.string (ofL x.1), .string (ofL x.2)], .func (.func n0) #[] #[]] w fun e w' => e = .returned (.bool (l.any q)) ∧ Below w.heap.size w w' := by
  have K1 := (Below.refl w.heap.size w).alloc (Nat.le_refl _) (.cells #[.string (ofL x.1), .string (ofL x.2)] 124)
  have K := Lib.hid (K1.alloc (by simp) (.cells #[.func (.func n0) #[] #[]] 143))
  have KX := Lib.hid ((Blk.new w 124 #[.string (ofL x.1), .string (ofL x.2)]).alloc (.cells #[.func (.func n0) #[] #[]] 143))
  have KA := Blk.new (w.alloc (.cells #[.string (ofL x.1), .string (ofL x.2)] 124)) 143 #[.func (.func n0) #[] #[]]
  rw [World.size_alloc] at KA
  have HU := Lib.hid ((hv.alloc (.cells #[.string (ofL x.1), .string (ofL x.2)] 124)).alloc (.cells #[.func (.func n0) #[] #[]] 143))
  have HKA := Lib.hid KA
  have HG : Hid (∀ (W : World) (s : Str × Str), s ∈ l → Below ((w.alloc (.cells #[.string (ofL x.1), .string (ofL x.2)] 124)).alloc (.cells #[.func (.func n0) #[] #[]] 143)).heap.size ((w.alloc (.cells #[.string (ofL x.1), .string (ofL x.2)] 124)).alloc (.cells #[.func (.func n0) #[] #[]] 143)) W → Calls Tryz.prog 205 (#[.agg #[.string (ofL s.1), .string (ofL s.2)]] ++ #[.pointer (some ⟨w.heap.size + 1, 0, none⟩), .pointer (some ⟨w.heap.size, 0, none⟩)]) W fun e w' => e = .returned (.bool (q s)) ∧ Below W.heap.size W w') := Lib.hid (fun W s hs hb =>
    has1Da_any x s (q s) n0 eg _ _ W (Blk.below HKA.out hb) (Blk.below KX.out hb) (fun W1 => hF W1 s hs))
  clear K1 KA hv hF
  go_enter Tryz.func148, Tryz.ntmps148
  go_wp2_with fail
  refine (containsDa_any _ l q 205 _ (enters_of Tryz.func205 (by kernel_rfl) rfl) _ HU.out HG.out).mono ?_
  rintro e w2 ⟨rfl, b2⟩
  have HB2 := Lib.hid (K.out.trans (b2.mono K.out.size))
  clear b2
  go_wp2
  go_ret
  exact ⟨rfl, HB2.out⟩
set_option maxRecDepth 1000000 in
set_option maxHeartbeats 2000000 in
theorem has1Ne_any (x y : Nea) (qb : Bool) (n0 : Nat) (eg : ∀ args w, (callFunc n0 args).run Tryz.prog w = .ok (.enter n0 args) w) (Ba Bx : Nat) (W : World) (ha : Blk Ba 76 #[.func (.func n0) #[] #[]] W) (hx : Blk Bx 36 #[.string (ofL x.fr), .string (ofL x.to_), .int .i64 x.co] W)
    (hF : ∀ W1, Calls Tryz.prog n0 #[.agg #[.string (ofL x.fr), .string (ofL x.to_), .int .i64 x.co], .agg #[.string (ofL y.fr), .string (ofL y.to_), .int .i64 y.co]] W1 fun e w' => e = .returned (.bool qb) ∧ Below W1.heap.size W1 w') :
    Calls Tryz.prog 152 (#[.agg #[.string (ofL y.fr), .string (ofL y.to_), .int .i64 y.co]] ++ #[.pointer (some ⟨Ba, 0, none⟩), .pointer (some ⟨Bx, 0, none⟩)]) W fun e w' => e = .returned (.bool qb) ∧ Below W.heap.size W w' := by
  have K := Lib.hid ((Below.refl W.heap.size W).alloc (Nat.le_refl _) (.cells #[.string (ofL y.fr), .string (ofL y.to_), .int .i64 y.co] 36))
  have HF := Lib.hid (fun W1 => hF W1)
  have ca : (W.alloc (.cells #[.string (ofL y.fr), .string (ofL y.to_), .int .i64 y.co] 36)).cell? ⟨Ba, 0, none⟩ = some (.func (.func n0) #[] #[]) := (K.out.cell (p := ⟨Ba, 0, none⟩) ha.lt).trans (ha.cell 0)
  have c0 : (W.alloc (.cells #[.string (ofL y.fr), .string (ofL y.to_), .int .i64 y.co] 36)).cell? ⟨Bx, 0, none⟩ = some (.string (ofL x.fr)) := (K.out.cell (p := ⟨Bx, 0, none⟩) hx.lt).trans (hx.cell 0)
  have c1 : (W.alloc (.cells #[.string (ofL y.fr), .string (ofL y.to_), .int .i64 y.co] 36)).cell? ⟨Bx, 1, none⟩ = some (.string (ofL x.to_)) := (K.out.cell (p := ⟨Bx, 1, none⟩) hx.lt).trans (hx.cell 1)
  have c2 : (W.alloc (.cells #[.string (ofL y.fr), .string (ofL y.to_), .int .i64 y.co] 36)).cell? ⟨Bx, 2, none⟩ = some (.int .i64 x.co) := (K.out.cell (p := ⟨Bx, 2, none⟩) hx.lt).trans (hx.cell 2)
  clear hF ha hx
  go_enter Tryz.func152, Tryz.ntmps152
  go_wp2_with (go_at_fn n0; refine (HF.out _).mono ?_; rintro e w2 ⟨rfl, b2⟩)
  have HB2 := Lib.hid (st K.out b2 K.out.size)
  clear b2
  go_wp2
  go_ret
  exact ⟨rfl, HB2.out⟩
set_option maxRecDepth 1000000 in
set_option maxHeartbeats 2000000 in
theorem hasNe_any (v : Value) (l : List (Nea)) (x : Nea) (q : Nea → Bool) (n0 : Nat) (eg : ∀ args w, (callFunc n0 args).run Tryz.prog w = .ok (.enter n0 args) w) (w : World) (hv : Rd 3 encNe w v l)
    (hF : ∀ (W1 : World) (y : Nea), y ∈ l → Calls Tryz.prog n0 #[.agg #[.string (ofL x.fr), .string (ofL x.to_), .int .i64 x.co], .agg #[.string (ofL y.fr), .string (ofL y.to_), .int .i64 y.co]] W1 fun e w' => e = .returned (.bool (q y)) ∧ Below W1.heap.size W1 w') :
    Calls Tryz.prog 93 #[v, .agg #[.string (ofL x.fr), .string (ofL x.to_), .int .i64 x.co], .func (.func n0) #[] #[]] w fun e w' => e = .returned (.bool (l.any q)) ∧ Below w.heap.size w w' := by
  have K1 := (Below.refl w.heap.size w).alloc (Nat.le_refl _) (.cells #[.string (ofL x.fr), .string (ofL x.to_), .int .i64 x.co] 36)
  have K := Lib.hid (K1.alloc (by simp) (.cells #[.func (.func n0) #[] #[]] 76))
  have KX := Lib.hid ((Blk.new w 36 #[.string (ofL x.fr), .string (ofL x.to_), .int .i64 x.co]).alloc (.cells #[.func (.func n0) #[] #[]] 76))
  have KA := Blk.new (w.alloc (.cells #[.string (ofL x.fr), .string (ofL x.to_), .int .i64 x.co] 36)) 76 #[.func (.func n0) #[] #[]]
  rw [World.size_alloc] at KA
  have HU := Lib.hid ((hv.alloc (.cells #[.string (ofL x.fr), .string (ofL x.to_), .int .i64 x.co] 36)).alloc (.cells #[.func (.func n0) #[] #[]] 76))
  have HKA := Lib.hid KA
  have HG : Hid (∀ (W : World) (s : Nea), s ∈ l → Below ((w.alloc (.cells #[.string (ofL x.fr), .string (ofL x.to_), .int .i64 x.co] 36)).alloc (.cells #[.func (.func n0) #[] #[]] 76)).heap.size ((w.alloc (.cells #[.string (ofL x.fr), .string (ofL x.to_), .int .i64 x.co] 36)).alloc (.cells #[.func (.func n0) #[] #[]] 76)) W → Calls Tryz.prog 152 (#[.agg #[.string (ofL s.fr), .string (ofL s.to_), .int .i64 s.co]] ++ #[.pointer (some ⟨w.heap.size + 1, 0, none⟩), .pointer (some ⟨w.heap.size, 0, none⟩)]) W fun e w' => e = .returned (.bool (q s)) ∧ Below W.heap.size W w') := Lib.hid (fun W s hs hb =>
    has1Ne_any x s (q s) n0 eg _ _ W (Blk.below HKA.out hb) (Blk.below KX.out hb) (fun W1 => hF W1 s hs))
  clear K1 KA hv hF
  go_enter Tryz.func93, Tryz.ntmps93
  go_wp2_with fail
  refine (containsNe_any _ l q 152 _ (enters_of Tryz.func152 (by kernel_rfl) rfl) _ HU.out HG.out).mono ?_
  rintro e w2 ⟨rfl, b2⟩
  have HB2 := Lib.hid (K.out.trans (b2.mono K.out.size))
  clear b2
  go_wp2
  go_ret
  exact ⟨rfl, HB2.out⟩
set_option maxRecDepth 1000000 in
set_option maxHeartbeats 2000000 in
theorem has1Li_any (x y : Lis) (qb : Bool) (n0 : Nat) (eg : ∀ args w, (callFunc n0 args).run Tryz.prog w = .ok (.enter n0 args) w) (Ba Bx : Nat) (W : World) (ha : Blk Ba 137 #[.func (.func n0) #[] #[]] W) (hx : Blk Bx 116 #[.string (ofL x.st), .string (ofL x.two), .string (ofL x.sa), .string (ofL x.md), .string (ofL x.en)] W)
    (hF : ∀ W1, Calls Tryz.prog n0 #[.agg #[.string (ofL x.st), .string (ofL x.two), .string (ofL x.sa), .string (ofL x.md), .string (ofL x.en)], .agg #[.string (ofL y.st), .string (ofL y.two), .string (ofL y.sa), .string (ofL y.md), .string (ofL y.en)]] W1 fun e w' => e = .returned (.bool qb) ∧ Below W1.heap.size W1 w') :
    Calls Tryz.prog 201 (#[.agg #[.string (ofL y.st), .string (ofL y.two), .string (ofL y.sa), .string (ofL y.md), .string (ofL y.en)]] ++ #[.pointer (some ⟨Ba, 0, none⟩), .pointer (some ⟨Bx, 0, none⟩)]) W fun e w' => e = .returned (.bool qb) ∧ Below W.heap.size W w' := by
  have K := Lib.hid ((Below.refl W.heap.size W).alloc (Nat.le_refl _) (.cells #[.string (ofL y.st), .string (ofL y.two), .string (ofL y.sa), .string (ofL y.md), .string (ofL y.en)] 116))
  have HF := Lib.hid (fun W1 => hF W1)
  have ca : (W.alloc (.cells #[.string (ofL y.st), .string (ofL y.two), .string (ofL y.sa), .string (ofL y.md), .string (ofL y.en)] 116)).cell? ⟨Ba, 0, none⟩ = some (.func (.func n0) #[] #[]) := (K.out.cell (p := ⟨Ba, 0, none⟩) ha.lt).trans (ha.cell 0)
  have c0 : (W.alloc (.cells #[.string (ofL y.st), .string (ofL y.two), .string (ofL y.sa), .string (ofL y.md), .string (ofL y.en)] 116)).cell? ⟨Bx, 0, none⟩ = some (.string (ofL x.st)) := (K.out.cell (p := ⟨Bx, 0, none⟩) hx.lt).trans (hx.cell 0)
  have c1 : (W.alloc (.cells #[.string (ofL y.st), .string (ofL y.two), .string (ofL y.sa), .string (ofL y.md), .string (ofL y.en)] 116)).cell? ⟨Bx, 1, none⟩ = some (.string (ofL x.two)) := (K.out.cell (p := ⟨Bx, 1, none⟩) hx.lt).trans (hx.cell 1)
  have c2 : (W.alloc (.cells #[.string (ofL y.st), .string (ofL y.two), .string (ofL y.sa), .string (ofL y.md), .string (ofL y.en)] 116)).cell? ⟨Bx, 2, none⟩ = some (.string (ofL x.sa)) := (K.out.cell (p := ⟨Bx, 2, none⟩) hx.lt).trans (hx.cell 2)
  have c3 : (W.alloc (.cells #[.string (ofL y.st), .string (ofL y.two), .string (ofL y.sa), .string (ofL y.md), .string (ofL y.en)] 116)).cell? ⟨Bx, 3, none⟩ = some (.string (ofL x.md)) := (K.out.cell (p := ⟨Bx, 3, none⟩) hx.lt).trans (hx.cell 3)
  have c4 : (W.alloc (.cells #[.string (ofL y.st), .string (ofL y.two), .string (ofL y.sa), .string (ofL y.md), .string (ofL y.en)] 116)).cell? ⟨Bx, 4, none⟩ = some (.string (ofL x.en)) := (K.out.cell (p := ⟨Bx, 4, none⟩) hx.lt).trans (hx.cell 4)
  clear hF ha hx
  go_enter Tryz.func201, Tryz.ntmps201
  go_wp2_with (go_at_fn n0; refine (HF.out _).mono ?_; rintro e w2 ⟨rfl, b2⟩)
  have HB2 := Lib.hid (st K.out b2 K.out.size)
  clear b2
  go_wp2
  go_ret
  exact ⟨rfl, HB2.out⟩
set_option maxRecDepth 1000000 in
set_option maxHeartbeats 2000000 in
theorem hasLi_any (v : Value) (l : List (Lis)) (x : Lis) (q : Lis → Bool) (n0 : Nat) (eg : ∀ args w, (callFunc n0 args).run Tryz.prog w = .ok (.enter n0 args) w) (w : World) (hv : Rd 5 encLi w v l)
    (hF : ∀ (W1 : World) (y : Lis), y ∈ l → Calls Tryz.prog n0 #[.agg #[.string (ofL x.st), .string (ofL x.two), .string (ofL x.sa), .string (ofL x.md), .string (ofL x.en)], .agg #[.string (ofL y.st), .string (ofL y.two), .string (ofL y.sa), .string (ofL y.md), .string (ofL y.en)]] W1 fun e w' => e = .returned (.bool (q y)) ∧ Below W1.heap.size W1 w') :
    Calls Tryz.prog 145 #[v, .agg #[.string (ofL x.st), .string (ofL x.two), .string (ofL x.sa), .string (ofL x.md), .string (ofL x.en)], .func (.func n0) #[] #[]] w fun e w' => e = .returned (.bool (l.any q)) ∧ Below w.heap.size w w' := by
  have K1 := (Below.refl w.heap.size w).alloc (Nat.le_refl _) (.cells #[.string (ofL x.st), .string (ofL x.two), .string (ofL x.sa), .string (ofL x.md), .string (ofL x.en)] 116)
  have K := Lib.hid (K1.alloc (by simp) (.cells #[.func (.func n0) #[] #[]] 137))
  have KX := Lib.hid ((Blk.new w 116 #[.string (ofL x.st), .string (ofL x.two), .string (ofL x.sa), .string (ofL x.md), .string (ofL x.en)]).alloc (.cells #[.func (.func n0) #[] #[]] 137))
  have KA := Blk.new (w.alloc (.cells #[.string (ofL x.st), .string (ofL x.two), .string (ofL x.sa), .string (ofL x.md), .string (ofL x.en)] 116)) 137 #[.func (.func n0) #[] #[]]
  rw [World.size_alloc] at KA
  have HU := Lib.hid ((hv.alloc (.cells #[.string (ofL x.st), .string (ofL x.two), .string (ofL x.sa), .string (ofL x.md), .string (ofL x.en)] 116)).alloc (.cells #[.func (.func n0) #[] #[]] 137))
  have HKA := Lib.hid KA
  have HG : Hid (∀ (W : World) (s : Lis), s ∈ l → Below ((w.alloc (.cells #[.string (ofL x.st), .string (ofL x.two), .string (ofL x.sa), .string (ofL x.md), .string (ofL x.en)] 116)).alloc (.cells #[.func (.func n0) #[] #[]] 137)).heap.size ((w.alloc (.cells #[.string (ofL x.st), .string (ofL x.two), .string (ofL x.sa), .string (ofL x.md), .string (ofL x.en)] 116)).alloc (.cells #[.func (.func n0) #[] #[]] 137)) W → Calls Tryz.prog 201 (#[.agg #[.string (ofL s.st), .string (ofL s.two), .string (ofL s.sa), .string (ofL s.md), .string (ofL s.en)]] ++ #[.pointer (some ⟨w.heap.size + 1, 0, none⟩), .pointer (some ⟨w.heap.size, 0, none⟩)]) W fun e w' => e = .returned (.bool (q s)) ∧ Below W.heap.size W w') := Lib.hid (fun W s hs hb =>
    has1Li_any x s (q s) n0 eg _ _ W (Blk.below HKA.out hb) (Blk.below KX.out hb) (fun W1 => hF W1 s hs))
  clear K1 KA hv hF
  go_enter Tryz.func145, Tryz.ntmps145
  go_wp2_with fail
  refine (containsLi_any _ l q 201 _ (enters_of Tryz.func201 (by kernel_rfl) rfl) _ HU.out HG.out).mono ?_
  rintro e w2 ⟨rfl, b2⟩
  have HB2 := Lib.hid (K.out.trans (b2.mono K.out.size))
  clear b2
  go_wp2
  go_ret
  exact ⟨rfl, HB2.out⟩
set_option maxRecDepth 1000000 in
set_option maxHeartbeats 2000000 in
theorem has1Un_any (x y : Uni) (qb : Bool) (n0 : Nat) (eg : ∀ args w, (callFunc n0 args).run Tryz.prog w = .ok (.enter n0 args) w) (Ba Bx : Nat) (W : World) (ha : Blk Ba 140 #[.func (.func n0) #[] #[]] W) (hx : Blk Bx 120 #[.string (ofL x.un), .string (ofL x.cl), .string (ofL x.pt)] W)
    (hF : ∀ W1, Calls Tryz.prog n0 #[.agg #[.string (ofL x.un), .string (ofL x.cl), .string (ofL x.pt)], .agg #[.string (ofL y.un), .string (ofL y.cl), .string (ofL y.pt)]] W1 fun e w' => e = .returned (.bool qb) ∧ Below W1.heap.size W1 w') :
    Calls Tryz.prog 203 (#[.agg #[.string (ofL y.un), .string (ofL y.cl), .string (ofL y.pt)]] ++ #[.pointer (some ⟨Ba, 0, none⟩), .pointer (some ⟨Bx, 0, none⟩)]) W fun e w' => e = .returned (.bool qb) ∧ Below W.heap.size W w' := by
  have K := Lib.hid ((Below.refl W.heap.size W).alloc (Nat.le_refl _) (.cells #[.string (ofL y.un), .string (ofL y.cl), .string (ofL y.pt)] 120))
  have HF := Lib.hid (fun W1 => hF W1)
  have ca : (W.alloc (.cells #[.string (ofL y.un), .string (ofL y.cl), .string (ofL y.pt)] 120)).cell? ⟨Ba, 0, none⟩ = some (.func (.func n0) #[] #[]) := (K.out.cell (p := ⟨Ba, 0, none⟩) ha.lt).trans (ha.cell 0)
  have c0 : (W.alloc (.cells #[.string (ofL y.un), .string (ofL y.cl), .string (ofL y.pt)] 120)).cell? ⟨Bx, 0, none⟩ = some (.string (ofL x.un)) := (K.out.cell (p := ⟨Bx, 0, none⟩) hx.lt).trans (hx.cell 0)
  have c1 : (W.alloc (.cells #[.string (ofL y.un), .string (ofL y.cl), .string (ofL y.pt)] 120)).cell? ⟨Bx, 1, none⟩ = some (.string (ofL x.cl)) := (K.out.cell (p := ⟨Bx, 1, none⟩) hx.lt).trans (hx.cell 1)
  have c2 : (W.alloc (.cells #[.string (ofL y.un), .string (ofL y.cl), .string (ofL y.pt)] 120)).cell? ⟨Bx, 2, none⟩ = some (.string (ofL x.pt)) := (K.out.cell (p := ⟨Bx, 2, none⟩) hx.lt).trans (hx.cell 2)
  clear hF ha hx
  go_enter Tryz.func203, Tryz.ntmps203
  go_wp2_with (go_at_fn n0; refine (HF.out _).mono ?_; rintro e w2 ⟨rfl, b2⟩)
  have HB2 := Lib.hid (st K.out b2 K.out.size)
  clear b2
  go_wp2
  go_ret
  exact ⟨rfl, HB2.out⟩
set_option maxRecDepth 1000000 in
set_option maxHeartbeats 2000000 in
theorem hasUn_any (v : Value) (l : List (Uni)) (x : Uni) (q : Uni → Bool) (n0 : Nat) (eg : ∀ args w, (callFunc n0 args).run Tryz.prog w = .ok (.enter n0 args) w) (w : World) (hv : Rd 3 encUn w v l)
    (hF : ∀ (W1 : World) (y : Uni), y ∈ l → Calls Tryz.prog n0 #[.agg #[.string (ofL x.un), .string (ofL x.cl), .string (ofL x.pt)], .agg #[.string (ofL y.un), .string (ofL y.cl), .string (ofL y.pt)]] W1 fun e w' => e = .returned (.bool (q y)) ∧ Below W1.heap.size W1 w') :
    Calls Tryz.prog 146 #[v, .agg #[.string (ofL x.un), .string (ofL x.cl), .string (ofL x.pt)], .func (.func n0) #[] #[]] w fun e w' => e = .returned (.bool (l.any q)) ∧ Below w.heap.size w w' := by
  have K1 := (Below.refl w.heap.size w).alloc (Nat.le_refl _) (.cells #[.string (ofL x.un), .string (ofL x.cl), .string (ofL x.pt)] 120)
  have K := Lib.hid (K1.alloc (by simp) (.cells #[.func (.func n0) #[] #[]] 140))
  have KX := Lib.hid ((Blk.new w 120 #[.string (ofL x.un), .string (ofL x.cl), .string (ofL x.pt)]).alloc (.cells #[.func (.func n0) #[] #[]] 140))
  have KA := Blk.new (w.alloc (.cells #[.string (ofL x.un), .string (ofL x.cl), .string (ofL x.pt)] 120)) 140 #[.func (.func n0) #[] #[]]
  rw [World.size_alloc] at KA
  have HU := Lib.hid ((hv.alloc (.cells #[.string (ofL x.un), .string (ofL x.cl), .string (ofL x.pt)] 120)).alloc (.cells #[.func (.func n0) #[] #[]] 140))
  have HKA := Lib.hid KA
  have HG : Hid (∀ (W : World) (s : Uni), s ∈ l → Below ((w.alloc (.cells #[.string (ofL x.un), .string (ofL x.cl), .string (ofL x.pt)] 120)).alloc (.cells #[.func (.func n0) #[] #[]] 140)).heap.size ((w.alloc (.cells #[.string (ofL x.un), .string (ofL x.cl), .string (ofL x.pt)] 120)).alloc (.cells #[.func (.func n0) #[] #[]] 140)) W → Calls Tryz.prog 203 (#[.agg #[.string (ofL s.un), .string (ofL s.cl), .string (ofL s.pt)]] ++ #[.pointer (some ⟨w.heap.size + 1, 0, none⟩), .pointer (some ⟨w.heap.size, 0, none⟩)]) W fun e w' => e = .returned (.bool (q s)) ∧ Below W.heap.size W w') := Lib.hid (fun W s hs hb =>
    has1Un_any x s (q s) n0 eg _ _ W (Blk.below HKA.out hb) (Blk.below KX.out hb) (fun W1 => hF W1 s hs))
  clear K1 KA hv hF
  go_enter Tryz.func146, Tryz.ntmps146
  go_wp2_with fail
  refine (containsUn_any _ l q 203 _ (enters_of Tryz.func203 (by kernel_rfl) rfl) _ HU.out HG.out).mono ?_
  rintro e w2 ⟨rfl, b2⟩
  have HB2 := Lib.hid (K.out.trans (b2.mono K.out.size))
  clear b2
  go_wp2
  go_ret
  exact ⟨rfl, HB2.out⟩
set_option maxRecDepth 1000000 in
set_option maxHeartbeats 2000000 in
theorem has1Lo_any (x y : RawLo) (qb : Bool) (n0 : Nat) (eg : ∀ args w, (callFunc n0 args).run Tryz.prog w = .ok (.enter n0 args) w) (Ba Bx : Nat) (W : World) (ha : Blk Ba 70 #[.func (.func n0) #[] #[]] W) (hx : Blk Bx 51 #[.string (ofL x.tag), .string (ofL x.par), .string (ofL x.dir), .slice x.ca.a x.ca.n x.ca.c, .slice x.oc.a x.oc.n x.oc.c, .string (ofL x.sy.de), .string (ofL x.sy.gr), .string (ofL x.sy.mi), .string (ofL x.sy.pe), .int .i64 x.sy.pr, .int .i64 x.sy.se, .slice x.li.a x.li.n x.li.c, .slice x.un.a x.un.n x.un.c, .slice x.da.a x.da.n x.da.c, .slice x.mo.a x.mo.n x.mo.c, .slice x.dy.a x.dy.n x.dy.c] W)
    (hF : ∀ W1, Calls Tryz.prog n0 #[.agg #[.string (ofL x.tag), .string (ofL x.par), .string (ofL x.dir), .slice x.ca.a x.ca.n x.ca.c, .slice x.oc.a x.oc.n x.oc.c, .string (ofL x.sy.de), .string (ofL x.sy.gr), .string (ofL x.sy.mi), .string (ofL x.sy.pe), .int .i64 x.sy.pr, .int .i64 x.sy.se, .slice x.li.a x.li.n x.li.c, .slice x.un.a x.un.n x.un.c, .slice x.da.a x.da.n x.da.c, .slice x.mo.a x.mo.n x.mo.c, .slice x.dy.a x.dy.n x.dy.c], .agg #[.string (ofL y.tag), .string (ofL y.par), .string (ofL y.dir), .slice y.ca.a y.ca.n y.ca.c, .slice y.oc.a y.oc.n y.oc.c, .string (ofL y.sy.de), .string (ofL y.sy.gr), .string (ofL y.sy.mi), .string (ofL y.sy.pe), .int .i64 y.sy.pr, .int .i64 y.sy.se, .slice y.li.a y.li.n y.li.c, .slice y.un.a y.un.n y.un.c, .slice y.da.a y.da.n y.da.c, .slice y.mo.a y.mo.n y.mo.c, .slice y.dy.a y.dy.n y.dy.c]] W1 fun e w' => e = .returned (.bool qb) ∧ Below W1.heap.size W1 w') :
    Calls Tryz.prog 139 (#[.agg #[.string (ofL y.tag), .string (ofL y.par), .string (ofL y.dir), .slice y.ca.a y.ca.n y.ca.c, .slice y.oc.a y.oc.n y.oc.c, .string (ofL y.sy.de), .string (ofL y.sy.gr), .string (ofL y.sy.mi), .string (ofL y.sy.pe), .int .i64 y.sy.pr, .int .i64 y.sy.se, .slice y.li.a y.li.n y.li.c, .slice y.un.a y.un.n y.un.c, .slice y.da.a y.da.n y.da.c, .slice y.mo.a y.mo.n y.mo.c, .slice y.dy.a y.dy.n y.dy.c]] ++ #[.pointer (some ⟨Ba, 0, none⟩), .pointer (some ⟨Bx, 0, none⟩)]) W fun e w' => e = .returned (.bool qb) ∧ Below W.heap.size W w' := by
  have K := Lib.hid ((Below.refl W.heap.size W).alloc (Nat.le_refl _) (.cells #[.string (ofL y.tag), .string (ofL y.par), .string (ofL y.dir), .slice y.ca.a y.ca.n y.ca.c, .slice y.oc.a y.oc.n y.oc.c, .string (ofL y.sy.de), .string (ofL y.sy.gr), .string (ofL y.sy.mi), .string (ofL y.sy.pe), .int .i64 y.sy.pr, .int .i64 y.sy.se, .slice y.li.a y.li.n y.li.c, .slice y.un.a y.un.n y.un.c, .slice y.da.a y.da.n y.da.c, .slice y.mo.a y.mo.n y.mo.c, .slice y.dy.a y.dy.n y.dy.c] 51))
  have HF := Lib.hid (fun W1 => hF W1)
  have ca : (W.alloc (.cells #[.string (ofL y.tag), .string (ofL y.par), .string (ofL y.dir), .slice y.ca.a y.ca.n y.ca.c, .slice y.oc.a y.oc.n y.oc.c, .string (ofL y.sy.de), .string (ofL y.sy.gr), .string (ofL y.sy.mi), .string (ofL y.sy.pe), .int .i64 y.sy.pr, .int .i64 y.sy.se, .slice y.li.a y.li.n y.li.c, .slice y.un.a y.un.n y.un.c, .slice y.da.a y.da.n y.da.c, .slice y.mo.a y.mo.n y.mo.c, .slice y.dy.a y.dy.n y.dy.c] 51)).cell? ⟨Ba, 0, none⟩ = some (.func (.func n0) #[] #[]) := (K.out.cell (p := ⟨Ba, 0, none⟩) ha.lt).trans (ha.cell 0)
  have c0 : (W.alloc (.cells #[.string (ofL y.tag), .string (ofL y.par), .string (ofL y.dir), .slice y.ca.a y.ca.n y.ca.c, .slice y.oc.a y.oc.n y.oc.c, .string (ofL y.sy.de), .string (ofL y.sy.gr), .string (ofL y.sy.mi), .string (ofL y.sy.pe), .int .i64 y.sy.pr, .int .i64 y.sy.se, .slice y.li.a y.li.n y.li.c, .slice y.un.a y.un.n y.un.c, .slice y.da.a y.da.n y.da.c, .slice y.mo.a y.mo.n y.mo.c, .slice y.dy.a y.dy.n y.dy.c] 51)).cell? ⟨Bx, 0, none⟩ = some (.string (ofL x.tag)) := (K.out.cell (p := ⟨Bx, 0, none⟩) hx.lt).trans (hx.cell 0)
  have c1 : (W.alloc (.cells #[.string (ofL y.tag), .string (ofL y.par), .string (ofL y.dir), .slice y.ca.a y.ca.n y.ca.c, .slice y.oc.a y.oc.n y.oc.c, .string (ofL y.sy.de), .string (ofL y.sy.gr), .string (ofL y.sy.mi), .string (ofL y.sy.pe), .int .i64 y.sy.pr, .int .i64 y.sy.se, .slice y.li.a y.li.n y.li.c, .slice y.un.a y.un.n y.un.c, .slice y.da.a y.da.n y.da.c, .slice y.mo.a y.mo.n y.mo.c, .slice y.dy.a y.dy.n y.dy.c] 51)).cell? ⟨Bx, 1, none⟩ = some (.string (ofL x.par)) := (K.out.cell (p := ⟨Bx, 1, none⟩) hx.lt).trans (hx.cell 1)
  have c2 : (W.alloc (.cells #[.string (ofL y.tag), .string (ofL y.par), .string (ofL y.dir), .slice y.ca.a y.ca.n y.ca.c, .slice y.oc.a y.oc.n y.oc.c, .string (ofL y.sy.de), .string (ofL y.sy.gr), .string (ofL y.sy.mi), .string (ofL y.sy.pe), .int .i64 y.sy.pr, .int .i64 y.sy.se, .slice y.li.a y.li.n y.li.c, .slice y.un.a y.un.n y.un.c, .slice y.da.a y.da.n y.da.c, .slice y.mo.a y.mo.n y.mo.c, .slice y.dy.a y.dy.n y.dy.c] 51)).cell? ⟨Bx, 2, none⟩ = some (.string (ofL x.dir)) := (K.out.cell (p := ⟨Bx, 2, none⟩) hx.lt).trans (hx.cell 2)
  have c3 : (W.alloc (.cells #[.string (ofL y.tag), .string (ofL y.par), .string (ofL y.dir), .slice y.ca.a y.ca.n y.ca.c, .slice y.oc.a y.oc.n y.oc.c, .string (ofL y.sy.de), .string (ofL y.sy.gr), .string (ofL y.sy.mi), .string (ofL y.sy.pe), .int .i64 y.sy.pr, .int .i64 y.sy.se, .slice y.li.a y.li.n y.li.c, .slice y.un.a y.un.n y.un.c, .slice y.da.a y.da.n y.da.c, .slice y.mo.a y.mo.n y.mo.c, .slice y.dy.a y.dy.n y.dy.c] 51)).cell? ⟨Bx, 3, none⟩ = some (.slice x.ca.a x.ca.n x.ca.c) := (K.out.cell (p := ⟨Bx, 3, none⟩) hx.lt).trans (hx.cell 3)
  have c4 : (W.alloc (.cells #[.string (ofL y.tag), .string (ofL y.par), .string (ofL y.dir), .slice y.ca.a y.ca.n y.ca.c, .slice y.oc.a y.oc.n y.oc.c, .string (ofL y.sy.de), .string (ofL y.sy.gr), .string (ofL y.sy.mi), .string (ofL y.sy.pe), .int .i64 y.sy.pr, .int .i64 y.sy.se, .slice y.li.a y.li.n y.li.c, .slice y.un.a y.un.n y.un.c, .slice y.da.a y.da.n y.da.c, .slice y.mo.a y.mo.n y.mo.c, .slice y.dy.a y.dy.n y.dy.c] 51)).cell? ⟨Bx, 4, none⟩ = some (.slice x.oc.a x.oc.n x.oc.c) := (K.out.cell (p := ⟨Bx, 4, none⟩) hx.lt).trans (hx.cell 4)
  have c5 : (W.alloc (.cells #[.string (ofL y.tag), .string (ofL y.par), .string (ofL y.dir), .slice y.ca.a y.ca.n y.ca.c, .slice y.oc.a y.oc.n y.oc.c, .string (ofL y.sy.de), .string (ofL y.sy.gr), .string (ofL y.sy.mi), .string (ofL y.sy.pe), .int .i64 y.sy.pr, .int .i64 y.sy.se, .slice y.li.a y.li.n y.li.c, .slice y.un.a y.un.n y.un.c, .slice y.da.a y.da.n y.da.c, .slice y.mo.a y.mo.n y.mo.c, .slice y.dy.a y.dy.n y.dy.c] 51)).cell? ⟨Bx, 5, none⟩ = some (.string (ofL x.sy.de)) := (K.out.cell (p := ⟨Bx, 5, none⟩) hx.lt).trans (hx.cell 5)
  have c6 : (W.alloc (.cells #[.string (ofL y.tag), .string (ofL y.par), .string (ofL y.dir), .slice y.ca.a y.ca.n y.ca.c, .slice y.oc.a y.oc.n y.oc.c, .string (ofL y.sy.de), .string (ofL y.sy.gr), .string (ofL y.sy.mi), .string (ofL y.sy.pe), .int .i64 y.sy.pr, .int .i64 y.sy.se, .slice y.li.a y.li.n y.li.c, .slice y.un.a y.un.n y.un.c, .slice y.da.a y.da.n y.da.c, .slice y.mo.a y.mo.n y.mo.c, .slice y.dy.a y.dy.n y.dy.c] 51)).cell? ⟨Bx, 6, none⟩ = some (.string (ofL x.sy.gr)) := (K.out.cell (p := ⟨Bx, 6, none⟩) hx.lt).trans (hx.cell 6)
  have c7 : (W.alloc (.cells #[.string (ofL y.tag), .string (ofL y.par), .string (ofL y.dir), .slice y.ca.a y.ca.n y.ca.c, .slice y.oc.a y.oc.n y.oc.c, .string (ofL y.sy.de), .string (ofL y.sy.gr), .string (ofL y.sy.mi), .string (ofL y.sy.pe), .int .i64 y.sy.pr, .int .i64 y.sy.se, .slice y.li.a y.li.n y.li.c, .slice y.un.a y.un.n y.un.c, .slice y.da.a y.da.n y.da.c, .slice y.mo.a y.mo.n y.mo.c, .slice y.dy.a y.dy.n y.dy.c] 51)).cell? ⟨Bx, 7, none⟩ = some (.string (ofL x.sy.mi)) := (K.out.cell (p := ⟨Bx, 7, none⟩) hx.lt).trans (hx.cell 7)
  have c8 : (W.alloc (.cells #[.string (ofL y.tag), .string (ofL y.par), .string (ofL y.dir), .slice y.ca.a y.ca.n y.ca.c, .slice y.oc.a y.oc.n y.oc.c, .string (ofL y.sy.de), .string (ofL y.sy.gr), .string (ofL y.sy.mi), .string (ofL y.sy.pe), .int .i64 y.sy.pr, .int .i64 y.sy.se, .slice y.li.a y.li.n y.li.c, .slice y.un.a y.un.n y.un.c, .slice y.da.a y.da.n y.da.c, .slice y.mo.a y.mo.n y.mo.c, .slice y.dy.a y.dy.n y.dy.c] 51)).cell? ⟨Bx, 8, none⟩ = some (.string (ofL x.sy.pe)) := (K.out.cell (p := ⟨Bx, 8, none⟩) hx.lt).trans (hx.cell 8)
  have c9 : (W.alloc (.cells #[.string (ofL y.tag), .string (ofL y.par), .string (ofL y.dir), .slice y.ca.a y.ca.n y.ca.c, .slice y.oc.a y.oc.n y.oc.c, .string (ofL y.sy.de), .string (ofL y.sy.gr), .string (ofL y.sy.mi), .string (ofL y.sy.pe), .int .i64 y.sy.pr, .int .i64 y.sy.se, .slice y.li.a y.li.n y.li.c, .slice y.un.a y.un.n y.un.c, .slice y.da.a y.da.n y.da.c, .slice y.mo.a y.mo.n y.mo.c, .slice y.dy.a y.dy.n y.dy.c] 51)).cell? ⟨Bx, 9, none⟩ = some (.int .i64 x.sy.pr) := (K.out.cell (p := ⟨Bx, 9, none⟩) hx.lt).trans (hx.cell 9)
  have c10 : (W.alloc (.cells #[.string (ofL y.tag), .string (ofL y.par), .string (ofL y.dir), .slice y.ca.a y.ca.n y.ca.c, .slice y.oc.a y.oc.n y.oc.c, .string (ofL y.sy.de), .string (ofL y.sy.gr), .string (ofL y.sy.mi), .string (ofL y.sy.pe), .int .i64 y.sy.pr, .int .i64 y.sy.se, .slice y.li.a y.li.n y.li.c, .slice y.un.a y.un.n y.un.c, .slice y.da.a y.da.n y.da.c, .slice y.mo.a y.mo.n y.mo.c, .slice y.dy.a y.dy.n y.dy.c] 51)).cell? ⟨Bx, 10, none⟩ = some (.int .i64 x.sy.se) := (K.out.cell (p := ⟨Bx, 10, none⟩) hx.lt).trans (hx.cell 10)
  have c11 : (W.alloc (.cells #[.string (ofL y.tag), .string (ofL y.par), .string (ofL y.dir), .slice y.ca.a y.ca.n y.ca.c, .slice y.oc.a y.oc.n y.oc.c, .string (ofL y.sy.de), .string (ofL y.sy.gr), .string (ofL y.sy.mi), .string (ofL y.sy.pe), .int .i64 y.sy.pr, .int .i64 y.sy.se, .slice y.li.a y.li.n y.li.c, .slice y.un.a y.un.n y.un.c, .slice y.da.a y.da.n y.da.c, .slice y.mo.a y.mo.n y.mo.c, .slice y.dy.a y.dy.n y.dy.c] 51)).cell? ⟨Bx, 11, none⟩ = some (.slice x.li.a x.li.n x.li.c) := (K.out.cell (p := ⟨Bx, 11, none⟩) hx.lt).trans (hx.cell 11)
  have c12 : (W.alloc (.cells #[.string (ofL y.tag), .string (ofL y.par), .string (ofL y.dir), .slice y.ca.a y.ca.n y.ca.c, .slice y.oc.a y.oc.n y.oc.c, .string (ofL y.sy.de), .string (ofL y.sy.gr), .string (ofL y.sy.mi), .string (ofL y.sy.pe), .int .i64 y.sy.pr, .int .i64 y.sy.se, .slice y.li.a y.li.n y.li.c, .slice y.un.a y.un.n y.un.c, .slice y.da.a y.da.n y.da.c, .slice y.mo.a y.mo.n y.mo.c, .slice y.dy.a y.dy.n y.dy.c] 51)).cell? ⟨Bx, 12, none⟩ = some (.slice x.un.a x.un.n x.un.c) := (K.out.cell (p := ⟨Bx, 12, none⟩) hx.lt).trans (hx.cell 12)
  have c13 : (W.alloc (.cells #[.string (ofL y.tag), .string (ofL y.par), .string (ofL y.dir), .slice y.ca.a y.ca.n y.ca.c, .slice y.oc.a y.oc.n y.oc.c, .string (ofL y.sy.de), .string (ofL y.sy.gr), .string (ofL y.sy.mi), .string (ofL y.sy.pe), .int .i64 y.sy.pr, .int .i64 y.sy.se, .slice y.li.a y.li.n y.li.c, .slice y.un.a y.un.n y.un.c, .slice y.da.a y.da.n y.da.c, .slice y.mo.a y.mo.n y.mo.c, .slice y.dy.a y.dy.n y.dy.c] 51)).cell? ⟨Bx, 13, none⟩ = some (.slice x.da.a x.da.n x.da.c) := (K.out.cell (p := ⟨Bx, 13, none⟩) hx.lt).trans (hx.cell 13)
  have c14 : (W.alloc (.cells #[.string (ofL y.tag), .string (ofL y.par), .string (ofL y.dir), .slice y.ca.a y.ca.n y.ca.c, .slice y.oc.a y.oc.n y.oc.c, .string (ofL y.sy.de), .string (ofL y.sy.gr), .string (ofL y.sy.mi), .string (ofL y.sy.pe), .int .i64 y.sy.pr, .int .i64 y.sy.se, .slice y.li.a y.li.n y.li.c, .slice y.un.a y.un.n y.un.c, .slice y.da.a y.da.n y.da.c, .slice y.mo.a y.mo.n y.mo.c, .slice y.dy.a y.dy.n y.dy.c] 51)).cell? ⟨Bx, 14, none⟩ = some (.slice x.mo.a x.mo.n x.mo.c) := (K.out.cell (p := ⟨Bx, 14, none⟩) hx.lt).trans (hx.cell 14)
  have c15 : (W.alloc (.cells #[.string (ofL y.tag), .string (ofL y.par), .string (ofL y.dir), .slice y.ca.a y.ca.n y.ca.c, .slice y.oc.a y.oc.n y.oc.c, .string (ofL y.sy.de), .string (ofL y.sy.gr), .string (ofL y.sy.mi), .string (ofL y.sy.pe), .int .i64 y.sy.pr, .int .i64 y.sy.se, .slice y.li.a y.li.n y.li.c, .slice y.un.a y.un.n y.un.c, .slice y.da.a y.da.n y.da.c, .slice y.mo.a y.mo.n y.mo.c, .slice y.dy.a y.dy.n y.dy.c] 51)).cell? ⟨Bx, 15, none⟩ = some (.slice x.dy.a x.dy.n x.dy.c) := (K.out.cell (p := ⟨Bx, 15, none⟩) hx.lt).trans (hx.cell 15)
  clear hF ha hx
  go_enter Tryz.func139, Tryz.ntmps139
  go_wp2_with (go_at_fn n0; refine (HF.out _).mono ?_; rintro e w2 ⟨rfl, b2⟩)
  have HB2 := Lib.hid (st K.out b2 K.out.size)
  clear b2
  go_wp2
  go_ret
  exact ⟨rfl, HB2.out⟩
set_option maxRecDepth 1000000 in
set_option maxHeartbeats 2000000 in
theorem hasLo_any (v : Value) (l : List (RawLo)) (x : RawLo) (q : RawLo → Bool) (n0 : Nat) (eg : ∀ args w, (callFunc n0 args).run Tryz.prog w = .ok (.enter n0 args) w) (w : World) (hv : Rd 16 encLo w v l)
    (hF : ∀ (W1 : World) (y : RawLo), y ∈ l → Calls Tryz.prog n0 #[.agg #[.string (ofL x.tag), .string (ofL x.par), .string (ofL x.dir), .slice x.ca.a x.ca.n x.ca.c, .slice x.oc.a x.oc.n x.oc.c, .string (ofL x.sy.de), .string (ofL x.sy.gr), .string (ofL x.sy.mi), .string (ofL x.sy.pe), .int .i64 x.sy.pr, .int .i64 x.sy.se, .slice x.li.a x.li.n x.li.c, .slice x.un.a x.un.n x.un.c, .slice x.da.a x.da.n x.da.c, .slice x.mo.a x.mo.n x.mo.c, .slice x.dy.a x.dy.n x.dy.c], .agg #[.string (ofL y.tag), .string (ofL y.par), .string (ofL y.dir), .slice y.ca.a y.ca.n y.ca.c, .slice y.oc.a y.oc.n y.oc.c, .string (ofL y.sy.de), .string (ofL y.sy.gr), .string (ofL y.sy.mi), .string (ofL y.sy.pe), .int .i64 y.sy.pr, .int .i64 y.sy.se, .slice y.li.a y.li.n y.li.c, .slice y.un.a y.un.n y.un.c, .slice y.da.a y.da.n y.da.c, .slice y.mo.a y.mo.n y.mo.c, .slice y.dy.a y.dy.n y.dy.c]] W1 fun e w' => e = .returned (.bool (q y)) ∧ Below W1.heap.size W1 w') :
    Calls Tryz.prog 75 #[v, .agg #[.string (ofL x.tag), .string (ofL x.par), .string (ofL x.dir), .slice x.ca.a x.ca.n x.ca.c, .slice x.oc.a x.oc.n x.oc.c, .string (ofL x.sy.de), .string (ofL x.sy.gr), .string (ofL x.sy.mi), .string (ofL x.sy.pe), .int .i64 x.sy.pr, .int .i64 x.sy.se, .slice x.li.a x.li.n x.li.c, .slice x.un.a x.un.n x.un.c, .slice x.da.a x.da.n x.da.c, .slice x.mo.a x.mo.n x.mo.c, .slice x.dy.a x.dy.n x.dy.c], .func (.func n0) #[] #[]] w fun e w' => e = .returned (.bool (l.any q)) ∧ Below w.heap.size w w' := by
  have K1 := (Below.refl w.heap.size w).alloc (Nat.le_refl _) (.cells #[.string (ofL x.tag), .string (ofL x.par), .string (ofL x.dir), .slice x.ca.a x.ca.n x.ca.c, .slice x.oc.a x.oc.n x.oc.c, .string (ofL x.sy.de), .string (ofL x.sy.gr), .string (ofL x.sy.mi), .string (ofL x.sy.pe), .int .i64 x.sy.pr, .int .i64 x.sy.se, .slice x.li.a x.li.n x.li.c, .slice x.un.a x.un.n x.un.c, .slice x.da.a x.da.n x.da.c, .slice x.mo.a x.mo.n x.mo.c, .slice x.dy.a x.dy.n x.dy.c] 51)
  have K := Lib.hid (K1.alloc (by simp) (.cells #[.func (.func n0) #[] #[]] 70))
  have KX := Lib.hid ((Blk.new w 51 #[.string (ofL x.tag), .string (ofL x.par), .string (ofL x.dir), .slice x.ca.a x.ca.n x.ca.c, .slice x.oc.a x.oc.n x.oc.c, .string (ofL x.sy.de), .string (ofL x.sy.gr), .string (ofL x.sy.mi), .string (ofL x.sy.pe), .int .i64 x.sy.pr, .int .i64 x.sy.se, .slice x.li.a x.li.n x.li.c, .slice x.un.a x.un.n x.un.c, .slice x.da.a x.da.n x.da.c, .slice x.mo.a x.mo.n x.mo.c, .slice x.dy.a x.dy.n x.dy.c]).alloc (.cells #[.func (.func n0) #[] #[]] 70))
  have KA := Blk.new (w.alloc (.cells #[.string (ofL x.tag), .string (ofL x.par), .string (ofL x.dir), .slice x.ca.a x.ca.n x.ca.c, .slice x.oc.a x.oc.n x.oc.c, .string (ofL x.sy.de), .string (ofL x.sy.gr), .string (ofL x.sy.mi), .string (ofL x.sy.pe), .int .i64 x.sy.pr, .int .i64 x.sy.se, .slice x.li.a x.li.n x.li.c, .slice x.un.a x.un.n x.un.c, .slice x.da.a x.da.n x.da.c, .slice x.mo.a x.mo.n x.mo.c, .slice x.dy.a x.dy.n x.dy.c] 51)) 70 #[.func (.func n0) #[] #[]]
  rw [World.size_alloc] at KA
  have HU := Lib.hid ((hv.alloc (.cells #[.string (ofL x.tag), .string (ofL x.par), .string (ofL x.dir), .slice x.ca.a x.ca.n x.ca.c, .slice x.oc.a x.oc.n x.oc.c, .string (ofL x.sy.de), .string (ofL x.sy.gr), .string (ofL x.sy.mi), .string (ofL x.sy.pe), .int .i64 x.sy.pr, .int .i64 x.sy.se, .slice x.li.a x.li.n x.li.c, .slice x.un.a x.un.n x.un.c, .slice x.da.a x.da.n x.da.c, .slice x.mo.a x.mo.n x.mo.c, .slice x.dy.a x.dy.n x.dy.c] 51)).alloc (.cells #[.func (.func n0) #[] #[]] 70))
  have HKA := Lib.hid KA
  have HG : Hid (∀ (W : World) (s : RawLo), s ∈ l → Below ((w.alloc (.cells #[.string (ofL x.tag), .string (ofL x.par), .string (ofL x.dir), .slice x.ca.a x.ca.n x.ca.c, .slice x.oc.a x.oc.n x.oc.c, .string (ofL x.sy.de), .string (ofL x.sy.gr), .string (ofL x.sy.mi), .string (ofL x.sy.pe), .int .i64 x.sy.pr, .int .i64 x.sy.se, .slice x.li.a x.li.n x.li.c, .slice x.un.a x.un.n x.un.c, .slice x.da.a x.da.n x.da.c, .slice x.mo.a x.mo.n x.mo.c, .slice x.dy.a x.dy.n x.dy.c] 51)).alloc (.cells #[.func (.func n0) #[] #[]] 70)).heap.size ((w.alloc (.cells #[.string (ofL x.tag), .string (ofL x.par), .string (ofL x.dir), .slice x.ca.a x.ca.n x.ca.c, .slice x.oc.a x.oc.n x.oc.c, .string (ofL x.sy.de), .string (ofL x.sy.gr), .string (ofL x.sy.mi), .string (ofL x.sy.pe), .int .i64 x.sy.pr, .int .i64 x.sy.se, .slice x.li.a x.li.n x.li.c, .slice x.un.a x.un.n x.un.c, .slice x.da.a x.da.n x.da.c, .slice x.mo.a x.mo.n x.mo.c, .slice x.dy.a x.dy.n x.dy.c] 51)).alloc (.cells #[.func (.func n0) #[] #[]] 70)) W → Calls Tryz.prog 139 (#[.agg #[.string (ofL s.tag), .string (ofL s.par), .string (ofL s.dir), .slice s.ca.a s.ca.n s.ca.c, .slice s.oc.a s.oc.n s.oc.c, .string (ofL s.sy.de), .string (ofL s.sy.gr), .string (ofL s.sy.mi), .string (ofL s.sy.pe), .int .i64 s.sy.pr, .int .i64 s.sy.se, .slice s.li.a s.li.n s.li.c, .slice s.un.a s.un.n s.un.c, .slice s.da.a s.da.n s.da.c, .slice s.mo.a s.mo.n s.mo.c, .slice s.dy.a s.dy.n s.dy.c]] ++ #[.pointer (some ⟨w.heap.size + 1, 0, none⟩), .pointer (some ⟨w.heap.size, 0, none⟩)]) W fun e w' => e = .returned (.bool (q s)) ∧ Below W.heap.size W w') := Lib.hid (fun W s hs hb =>
    has1Lo_any x s (q s) n0 eg _ _ W (Blk.below HKA.out hb) (Blk.below KX.out hb) (fun W1 => hF W1 s hs))
  clear K1 KA hv hF
  go_enter Tryz.func75, Tryz.ntmps75
  go_wp2_with fail
  refine (containsLo_any _ l q 139 _ (enters_of Tryz.func139 (by kernel_rfl) rfl) _ HU.out HG.out).mono ?_
  rintro e w2 ⟨rfl, b2⟩
  have HB2 := Lib.hid (K.out.trans (b2.mono K.out.size))
  clear b2
  go_wp2
  go_ret
  exact ⟨rfl, HB2.out⟩
end Go.Proofs.YtpmmchppfmojhaaGreatDoor


/- Of the program's table parser: fail, require, is, expect, next. -/
namespace Go.Proofs.YtpmmchppfmojhaaGreatDoor
open Go.RowKit
set_option linter.unusedVariables false

def FlP (g B0 : Nat) (m : PMem) (q : Bool × List KT) (w : World) (e : Ending) (w' : World) : Prop := e = .returned (.tuple #[]) ∧ PLn g B0 m q w w'
theorem pl_same {g B0 : Nat} {m : PMem} {ok : Bool} {ts : List KT} {w : World} (h : PL g B0 m ok ts w) : PLn g B0 m (ok, ts) w w := ⟨m, sameM.refl m, h, But.refl _ _⟩
theorem pl_fail {g B0 : Nat} {m : PMem} {ok : Bool} {ts : List KT} {w : World} (h : PL g B0 m ok ts w) (a er : Int) (he : er ≠ 0) :
    PLn g B0 m (false, ts) w ((w.setCell ⟨g, 20, none⟩ (.int .i64 a)).setCell ⟨g, 21, none⟩ (.int .i64 er)) := by
  have hb : But g w ((w.setCell ⟨g, 20, none⟩ (.int .i64 a)).setCell ⟨g, 21, none⟩ (.int .i64 er)) := (But.setCell g _ 20 _).trans (But.setCell g _ 21 _)
  obtain ⟨cs, hc⟩ := h.tk.ty
  exact ⟨{ m with at_ := a, f := er }, ⟨rfl, rfl, rfl, rfl⟩, ⟨(h.blk.put 20 (.int .i64 a)).put 21 (.int .i64 er), h.tk.keep (hb.block _ hc.lt h.ne), by simp; exact he⟩, hb⟩
set_option maxRecDepth 1000000 in
set_option maxHeartbeats 2000000 in
theorem fail_z (g B0 : Nat) (m : PMem) (ok : Bool) (ts : List KT) (a er : Int) (w : World) (h : PL g B0 m ok ts w) :
    Calls Tryz.prog 164 #[.pointer (some ⟨g, 0, none⟩), .int .i64 a, .int .i64 er] w (FlP g B0 m (reqS (er == 0) (ok, ts)) w) := by
  have H := Lib.hid h
  have cf : w.cell? ⟨g, 21, none⟩ = some (.int .i64 m.f) := h.blk.cell 21
  have c20 : w.cell? ⟨g, 20, none⟩ = some (.int .i64 m.at_) := h.blk.cell 20
  have f20 := h.blk.frozen 20
  have f21 := h.blk.frozen 21
  cases ok with
  | false =>
    have hf : m.f ≠ 0 := fun e => by have := h.f.1 e; cases this
    have e1 : (m.f == 0) = false := by rw [beq_eq_false_iff_ne]; exact hf
    clear h hf
    go_enter Tryz.func164, Tryz.ntmps164
    go_wp2
    go_end0
    exact ⟨rfl, pl_same H.out⟩
  | true =>
    have hf : m.f = 0 := h.f.2 rfl
    rw [hf] at cf
    by_cases he : er = 0
    · have e1 : (er == 0) = true := by rw [he]; rfl
      have e2 : (er != 0) = false := by rw [he]; rfl
      rw [e1]
      clear h hf he
      go_enter Tryz.func164, Tryz.ntmps164
      go_wp2
      go_end0
      exact ⟨rfl, pl_same H.out⟩
    · have e1 : (er == 0) = false := by rw [beq_eq_false_iff_ne]; exact he
      have e2 : (er != 0) = true := by rw [bne_iff_ne]; exact he
      have HE := Lib.hid he
      rw [e1]
      clear h hf he
      go_enter Tryz.func164, Tryz.ntmps164
      go_wp2
      go_end0
      exact ⟨rfl, pl_fail H.out a er HE.out⟩
/-- A state's facts as a walk wants them. -/
theorem PL.facts {g B0 : Nat} {m : PMem} {ok : Bool} {ts : List KT} {w : World} (h : PL g B0 m ok ts w) : ∃ off fr, w.cell? ⟨g, 0, none⟩ = some (.slice (some ⟨B0, off, none⟩) m.tk.n m.tk.c) ∧ (0 : Int) < (m.tk.n : Int) ∧ w.cell? ⟨B0, off, none⟩ = some (.int .i64 ((hdK ts).1 : Int)) ∧ w.cell? ⟨B0, off + 1, none⟩ = some (.string (ofL (hdK ts).2)) ∧ w.cell? ⟨B0, off + 2, none⟩ = some (.int .i64 fr) ∧ (hdK ts).2.length ≤ 300000 ∧ w.cell? ⟨g, 21, none⟩ = some (.int .i64 m.f) := by
  obtain ⟨off, fr, h1, h2, h3, h4, h5⟩ := h.tk.hd
  have h0 : w.cell? ⟨g, 0, none⟩ = some (.slice m.tk.a m.tk.n m.tk.c) := h.blk.cell 0
  rw [h1] at h0
  exact ⟨off, fr, h0, by have := h.tk.len; omega, h2, h3, h4, h5, h.blk.cell 21⟩
set_option maxRecDepth 1000000 in
set_option maxHeartbeats 2000000 in
theorem require_z (g B0 : Nat) (m : PMem) (ok : Bool) (ts : List KT) (b : Bool) (er : Int) (he : er ≠ 0) (w : World) (h : PL g B0 m ok ts w) :
    Calls Tryz.prog 255 #[.pointer (some ⟨g, 0, none⟩), .bool b, .int .i64 er] w (FlP g B0 m (reqS b (ok, ts)) w) := by
  have H := Lib.hid h
  cases b with
  | true =>
    have e : reqS true (ok, ts) = (ok, ts) := by unfold reqS; rw [Bool.and_true]
    rw [e]
    clear h e
    go_enter Tryz.func255, Tryz.ntmps255
    go_wp2
    go_end0
    exact ⟨rfl, pl_same H.out⟩
  | false =>
    obtain ⟨off, fr, c0, hn, t0, t1, t2, _, cf⟩ := h.facts
    have HE : Hid ((er == 0) = false) := Lib.hid (by rw [beq_eq_false_iff_ne]; exact he)
    clear h he cf t0 t1
    go_enter Tryz.func255, Tryz.ntmps255
    go_wp2_with fail
    refine (fail_z g B0 m ok ts fr er _ H.out).mono ?_
    rw [HE.out]
    rintro e w2 ⟨rfl, p2⟩
    have P2 := Lib.hid p2
    clear p2
    go_wp2
    go_end0
    exact ⟨rfl, P2.out⟩
set_option maxRecDepth 1000000 in
set_option maxHeartbeats 2000000 in
theorem is_z (g B0 : Nat) (m : PMem) (ok : Bool) (ts : List KT) (kd : Nat) (t : ByteArray) (w : World) (h : PL g B0 m ok ts w) :
    Calls Tryz.prog 163 #[.pointer (some ⟨g, 0, none⟩), .int .i64 kd, .string t] w fun e w' => e = .returned (.bool (isS kd t.data.toList ts)) ∧ w' = w := by
  obtain ⟨off, fr, c0, hn, t0, t1, t2, _, cf⟩ := h.facts
  have HI : Hid (isS kd t.data.toList ts = ((hdK ts).1 == kd && decide ((hdK ts).2 = t.data.toList))) := Lib.hid rfl
  obtain ⟨k, hk⟩ : ∃ k, (hdK ts).1 = k := ⟨_, rfl⟩
  obtain ⟨x, hx⟩ : ∃ x, (hdK ts).2 = x := ⟨_, rfl⟩
  rw [hk] at t0 HI
  rw [hx] at t1 HI
  clear h cf t2 hk hx
  by_cases h1 : k = kd
  · have e1 : ((k : Int) == (kd : Int)) = true := by rw [beq_iff_eq]; omega
    have e1' : (k == kd) = true := by rw [beq_iff_eq]; omega
    by_cases h2 : x = t.data.toList
    · have e2 : ((ofL x).toList == t.toList) = true := by rw [beq_iff_eq, ByteArray.toList_eq, ByteArray.toList_eq]; exact h2
      have HV : Hid (isS kd t.data.toList ts = true) := Lib.hid (by rw [HI.out, e1', decide_eq_true h2]; rfl)
      clear h1 h2
      go_enter Tryz.func163, Tryz.ntmps163
      go_wp2
      go_ret
      exact ⟨by rw [HV.out]; rfl, rfl⟩
    · have e2 : ((ofL x).toList == t.toList) = false := by rw [beq_eq_false_iff_ne, ByteArray.toList_eq, ByteArray.toList_eq]; exact h2
      have HV : Hid (isS kd t.data.toList ts = false) := Lib.hid (by rw [HI.out, e1', decide_eq_false h2]; rfl)
      clear h1 h2
      go_enter Tryz.func163, Tryz.ntmps163
      go_wp2
      go_ret
      exact ⟨by rw [HV.out]; rfl, rfl⟩
  · have e1 : ((k : Int) == (kd : Int)) = false := by rw [beq_eq_false_iff_ne]; omega
    have e1' : (k == kd) = false := by rw [beq_eq_false_iff_ne]; omega
    have HV : Hid (isS kd t.data.toList ts = false) := Lib.hid (by rw [HI.out, e1']; rfl)
    clear h1
    go_enter Tryz.func163, Tryz.ntmps163
    go_wp2
    go_ret
    exact ⟨by rw [HV.out]; rfl, rfl⟩
set_option maxRecDepth 1000000 in
set_option maxHeartbeats 2000000 in
theorem expect_z (g B0 : Nat) (m : PMem) (ok : Bool) (ts : List KT) (kd : Nat) (w : World) (h : PL g B0 m ok ts w) :
    Calls Tryz.prog 254 #[.pointer (some ⟨g, 0, none⟩), .int .i64 kd] w fun e w' => e = .returned (.string (ofL (hdK ts).2)) ∧ PLn g B0 m (expS kd (ok, ts)) w w' := by
  have H := Lib.hid h
  obtain ⟨off, fr, c0, hn, t0, t1, t2, _, cf⟩ := h.facts
  have HX : Hid (expS kd (ok, ts) = reqS ((hdK ts).1 == kd) (ok, ts)) := Lib.hid rfl
  rw [HX.out]
  obtain ⟨b, hb⟩ : ∃ b, ((hdK ts).1 == kd) = b := ⟨_, rfl⟩
  have e1 : (((hdK ts).1 : Int) == (kd : Int)) = b := by
    rw [← hb]
    by_cases h1 : (hdK ts).1 = kd
    · rw [h1, beq_self_eq_true, beq_self_eq_true]
    · rw [beq_eq_false_iff_ne.2 h1, beq_eq_false_iff_ne.2 (by omega)]
  rw [hb]
  clear h cf t1 t2 HX
  go_enter Tryz.func254, Tryz.ntmps254
  go_wp2_with fail
  refine (require_z g B0 m ok ts b 3 (by decide) _ H.out).mono ?_
  rintro e w2 ⟨rfl, m', hs, p2, b2⟩
  obtain ⟨off2, fr2, d0, hn2, u0, u1', u2', _, _⟩ := p2.facts
  have P2 := Lib.hid p2
  have B2 := Lib.hid b2
  have HS := Lib.hid hs
  clear p2 b2 hs c0 hn t0 u0 u2'
  have u1'' : w2.cell? ⟨B0, off2 + 1, none⟩ = some (.string (ofL (hdK ts).2)) := u1'
  clear u1'
  go_wp2
  go_ret
  exact ⟨rfl, m', HS.out, P2.out, B2.out⟩
theorem Tryz.infoZt : (Tryz.prog.info? 84).map (fun i => (i.zero, i.size, i.bytes)) = some (some (.agg #[.int .i64 0, .string ⟨#[]⟩, .int .i64 0]), 3, 32) := by kernel_rfl
theorem pl_next {g B0 : Nat} {m : PMem} {t : KT} {ts : List KT} {w : World} (h : PL g B0 m true (t :: ts) w) {a : Option Addr} {n c : Nat} (ha : ∃ off, a = some ⟨B0, off, none⟩) {zs : List Tok} (h2 : zs.map (fun t => (t.kd, t.tx)) = (t :: ts) ++ [(0, [])]) (h3 : ∀ z ∈ zs, z.tx.length ≤ 300000) (hr : Rd 3 encTk w (.slice a n c) (zs.drop 1)) :
    PLn g B0 m (true, ts) w (w.setCell ⟨g, 0, none⟩ (.slice a n c)) := by
  have hb : But g w (w.setCell ⟨g, 0, none⟩ (.slice a n c)) := But.setCell g _ 0 _
  obtain ⟨_, _, cs, hc⟩ := h.tk
  have hk : RdTk w B0 ⟨a, n, c⟩ ts := by
    refine ⟨⟨zs.drop 1, hr, ?_, fun z hz => h3 z (List.mem_of_mem_drop hz)⟩, ha, cs, hc⟩
    rw [List.map_drop, h2]
    rfl
  exact ⟨{ m with tk := ⟨a, n, c⟩ }, ⟨rfl, rfl, rfl, rfl⟩, ⟨h.blk.put 0 (.slice a n c), hk.keep (hb.block _ hc.lt h.ne), h.f⟩, hb⟩
set_option maxRecDepth 1000000 in
set_option maxHeartbeats 2000000 in
theorem next_z (g B0 : Nat) (m : PMem) (ok : Bool) (ts : List KT) (hne : ok = true → ts ≠ []) (w : World) (h : PL g B0 m ok ts w) :
    Calls Tryz.prog 165 #[.pointer (some ⟨g, 0, none⟩)] w (FlP g B0 m (nxS (ok, ts)) w) := by
  have H := Lib.hid h
  have cf : w.cell? ⟨g, 21, none⟩ = some (.int .i64 m.f) := h.blk.cell 21
  cases ok with
  | false =>
    have hf : m.f ≠ 0 := fun e => by have := h.f.1 e; cases this
    have e1 : (m.f == 0) = false := by rw [beq_eq_false_iff_ne]; exact hf
    clear h hf hne
    go_enter Tryz.func165, Tryz.ntmps165
    go_wp2
    go_end0
    exact ⟨rfl, pl_same H.out⟩
  | true =>
    have hf : m.f = 0 := h.f.2 rfl
    rw [hf] at cf
    obtain ⟨t, ts, rfl⟩ : ∃ t r, ts = t :: r := by
      cases ts with
      | nil => exact absurd rfl (hne rfl)
      | cons t r => exact ⟨t, r, rfl⟩
    obtain ⟨iT, hiT, _, hkT, _⟩ := info_partsT Tryz.infoZt
    have c0 : w.cell? ⟨g, 0, none⟩ = some (.slice m.tk.a m.tk.n m.tk.c) := h.blk.cell 0
    have hlen : m.tk.n = ts.length + 2 := h.tk.len
    have f0 := h.blk.frozen 0
    obtain ⟨⟨zs, z1, z2, z3⟩, ⟨off', z4⟩, _⟩ := h.tk
    have hzl := z1.len
    obtain ⟨a2, c2, hr2, hob, s1, s2⟩ := z1.tail_ (P := Tryz.prog) (T := 80) Tryz.underlying80 hiT hkT 1 (by omega)
    have ha2 : ∃ off, a2 = some ⟨B0, off, none⟩ := by
      obtain ⟨b, off, e, _⟩ := hr2.some_ 0 (by rw [List.length_drop]; omega)
      have := hob b (by rw [e]; rfl)
      rw [z4] at this
      obtain rfl : B0 = b := by simpa [Value.ownBlock] using this
      exact ⟨off, e⟩
    have HN := Lib.hid (pl_next (n := zs.length - 1) (c := c2) h ha2 z2 z3 hr2)
    obtain ⟨n2, hn2⟩ : ∃ n2, zs.length - 1 = n2 := ⟨_, rfl⟩
    rw [hn2] at s1 s2 HN
    have r1 : ∀ wx, (Instr.slice 80 (.slice m.tk.a m.tk.n m.tk.c) (some (.int .i64 1)) none none).run Tryz.prog wx = .ok (.slice a2 n2 c2) wx := s1
    have r2 : ∀ wx, (Instr.sliceAt 80 (.slice m.tk.a m.tk.n m.tk.c) (some (.int .i64 1)) none none).run Tryz.prog wx = .ok (.slice a2 n2 c2) wx := s2
    clear s1 s2
    clear h hf hne z1 z2 z3 z4 hr2 hob hn2 ha2 hlen hzl hiT hkT
    go_enter Tryz.func165, Tryz.ntmps165
    go_wp2
    go_end0
    exact ⟨rfl, HN.out⟩
end Go.Proofs.YtpmmchppfmojhaaGreatDoor


/- Of the program of layer 11: isOneOf, pass, Cut at a line feed, skip. -/
namespace Go.Proofs.YtpmmchppfmojhaaGreatDoor
open Go.RowKit
set_option linter.unusedVariables false

theorem isOneOf_any (L : ByteArray) (c : UInt8) (w : World) : Calls Tryz.prog 192 #[.string L, .int .u8 (c.toNat : Int)] w fun e w' => e = .returned (.bool (oneOf L.data.toList c)) ∧ w' = w := by
  have HC := Lib.hid (Tryz.strings_IndexByte L (c.toNat : Int) w)
  rw [show ((c.toNat : Int).toNat.toUInt8) = c by simp] at HC
  obtain ⟨b, hb⟩ : ∃ b, oneOf L.data.toList c = b := ⟨_, rfl⟩
  have HB := Lib.hid hb
  unfold oneOf at hb
  obtain ⟨k, hk⟩ : ∃ k, Lib.indexByte L.data.toList c = k := ⟨_, rfl⟩
  rw [hk] at HC hb
  clear hk
  go_enter Tryz.func192, Tryz.ntmps192
  go_wp2_with fail
  refine HC.out.mono ?_
  rintro e w2 ⟨rfl, hw2⟩
  obtain rfl := hw2.symm
  clear hw2
  go_wp2
  go_ret
  exact ⟨by rw [HB.out]; rfl, rfl⟩
def PaRel (s : ByteArray) (w : World) (K : Nat) (p : UInt8 → Bool) (v1 : Value) (wr : World) : Prop := ∃ k : Nat, v1 = .int .i64 k ∧ k ≤ s.size ∧ Hid (K = k + runN p (s.data.toList.drop k)) ∧ wr = w
set_option maxRecDepth 1000000 in
set_option maxHeartbeats 4000000 in
theorem pass_any (L : List UInt8) (p : UInt8 → Bool) (hp : oneOf L = p) (s : ByteArray) (o : Nat) (ho : o ≤ s.size) (hs : s.size ≤ 9223372036854775807) (w : World) :
    Calls Tryz.prog 140 #[.string s, .int .i64 o, .string (ofL L)] w fun e w' => e = .returned (.int .i64 ((o + runN p (s.data.toList.drop o) : Nat) : Int)) ∧ w' = w := by
  obtain ⟨K, hK⟩ : ∃ K, o + runN p (s.data.toList.drop o) = K := ⟨_, rfl⟩
  rw [hK]
  have HK := Lib.hid hK
  have HONE := Lib.hid (fun c => isOneOf_any (ofL L) c w)
  rw [show (ofL L).data.toList = L from rfl, hp] at HONE
  obtain ⟨X, hX⟩ : ∃ X, ofL L = X := ⟨_, rfl⟩
  rw [hX] at HONE ⊢
  clear hK hp hX
  go_enter Tryz.func140, Tryz.ntmps140
  go_wp2
  go_loopw [1] (fun v1 wr => PaRel s w K p v1 wr) (fun v1 _ => s.size - (intOf v1).toNat)
  case atStart => exact ⟨o, rfl, ho, Lib.hid HK.out.symm, rfl⟩
  case round =>
    rename World => wr
    obtain ⟨k, rfl, hk, HW, hwr⟩ := hrel
    obtain rfl : w = wr := hwr.symm
    clear hwr
    by_cases hlt : k < s.size
    · have HD := Lib.hid (data_drop hlt)
      have h9 : (k : Int) < (s.size : Int) := by omega
      have HO := Lib.hid (HONE.out (s[k]'hlt))
      obtain ⟨b, hb⟩ : ∃ b, p (s[k]'hlt) = b := ⟨_, rfl⟩
      have HB := Lib.hid hb
      rw [hb] at HO
      clear hb
      cases b with
      | true =>
        have HN : Hid (K = (k + 1) + runN p (s.data.toList.drop (k + 1))) := Lib.hid (by rw [HW.out, HD.out, runN, if_pos HB.out]; omega)
        clear HW HD
        go_wp2_with fail
        refine HO.out.mono ?_
        rintro e w2 ⟨rfl, hw2⟩
        obtain rfl := hw2.symm
        clear hw2
        go_wp2
        go_roundw
        case measure => simp [intOf]; omega
        case rel => exact ⟨k + 1, by go_num, by omega, HN, rfl⟩
      | false =>
        have HN : Hid (K = k) := Lib.hid (by rw [HW.out, HD.out, runN, if_neg (by rw [HB.out]; decide)]; rfl)
        clear HW HD
        go_wp2_with fail
        refine HO.out.mono ?_
        rintro e w2 ⟨rfl, hw2⟩
        obtain rfl := hw2.symm
        clear hw2
        go_wp2
        go_ret
        exact ⟨by rw [HN.out]; rfl, rfl⟩
    · have h9 : ¬ (k : Int) < (s.size : Int) := by omega
      have HN : Hid (K = k) := Lib.hid (by rw [HW.out, data_end (by omega)]; rfl)
      clear HW
      go_wp2
      go_ret
      exact ⟨by rw [HN.out]; rfl, rfl⟩
/-! ### Cut at a line feed -/
def CutPost10 (w : World) (s : ByteArray) (e : Ending) (w' : World) : Prop :=
  (∃ B : Value, ∃ b : Bool, e = .returned (.tuple #[.string (ofL (s.data.toList.take (runN noNl s.data.toList))), B, .bool b])) ∧ Below w.heap.size w w'
set_option maxRecDepth 1000000 in
theorem cutIn10_any (s : ByteArray) (hs : s.size ≤ 1099511627776) (w : World) : Calls Tryz.prog 251 #[.string s, .string ⟨#[10]⟩] w (CutPost10 w s) := by
  rcases index_run s.data.toList with ⟨h, hk⟩ | ⟨h, hk⟩
  · have H : Hid (.string s = Value.string (ofL (s.data.toList.take (runN noNl s.data.toList)))) := Lib.hid (by rw [hk, List.take_length, of_data])
    clear hk
    go_enter Tryz.func251, Tryz.ntmps251
    go_wp2_with fail
    refine (Tryz.stringslite_Index_one s 10 _).mono ?_
    rintro e w' ⟨rfl, rfl⟩
    rw [h]
    clear h
    go_wp2
    go_ret3
    exact ⟨⟨_, _, congrArg (fun z => Ending.returned (.tuple #[z, .string ⟨#[]⟩, .bool false])) H.out⟩, Below.refl _ _⟩
  · rw [len_data] at hk
    have H : Hid (s.extract 0 (runN noNl s.data.toList) = (ofL (s.data.toList.take (runN noNl s.data.toList)))) := Lib.hid (by rw [ext_of, List.drop_zero, Nat.sub_zero])
    unfold CutPost10
    obtain ⟨X, hX⟩ : ∃ X, (ofL (s.data.toList.take (runN noNl s.data.toList))) = X := ⟨_, rfl⟩
    rw [hX] at H ⊢
    obtain ⟨k, hk2⟩ : ∃ k, runN noNl s.data.toList = k := ⟨_, rfl⟩
    rw [hk2] at H h hk
    clear hX hk2
    go_enter Tryz.func251, Tryz.ntmps251
    go_wp2_with fail
    refine (Tryz.stringslite_Index_one s 10 _).mono ?_
    rintro e w' ⟨rfl, rfl⟩
    rw [h]
    clear h
    go_wp2_with fail
    go_quiet (fail)
    go_wp2
    go_ret3
    exact ⟨⟨_, _, congrArg (fun z => Ending.returned (.tuple #[.string z, .string (s.extract (k + 1) s.size), .bool true])) H.out⟩, below_drewN (Below.refl _ _) _⟩
theorem cut10_any (s : ByteArray) (hs : s.size ≤ 1099511627776) (w : World) : Calls Tryz.prog 213 #[.string s, .string ⟨#[10]⟩] w (CutPost10 w s) := by
  unfold CutPost10
  have HC := Lib.hid (cutIn10_any s hs)
  unfold CutPost10 at HC
  obtain ⟨X, hX⟩ : ∃ X, (ofL (s.data.toList.take (runN noNl s.data.toList))) = X := ⟨_, rfl⟩
  rw [hX] at HC ⊢
  clear hX
  go_enter Tryz.func213, Tryz.ntmps213
  go_wp2_with fail
  refine (HC.out _).mono ?_
  rintro e w1 ⟨⟨B, b, rfl⟩, D⟩
  have HDD := Lib.hid D
  clear D
  go_wp2
  go_ret3
  exact ⟨⟨_, _, rfl⟩, HDD.out⟩
/-! ### skip -/
def SkpI (s : ByteArray) (w : World) (K : Nat) (v1 : Value) (wr : World) : Prop := ∃ k : Nat, v1 = .int .i64 k ∧ k ≤ s.size ∧ Hid (K = k + skN false (s.data.toList.drop k)) ∧ Hid (∀ c r, s.data.toList.drop k = c :: r → isBlk c = false) ∧ Below w.heap.size w wr
set_option maxRecDepth 1000000 in
set_option maxHeartbeats 4000000 in
theorem skip_p (s : ByteArray) (o : Nat) (ho : o ≤ s.size) (hs : s.size ≤ 10000000) (w : World) :
    Calls Tryz.prog 156 #[.string s, .int .i64 o] w fun e w' => e = .returned (.int .i64 ((o + skN false (s.data.toList.drop o) : Nat) : Int)) ∧ Below w.heap.size w w' := by
  have hsi : (s.size : Int) ≤ 10000000 := by omega
  obtain ⟨K, hK⟩ : ∃ K, o + skN false (s.data.toList.drop o) = K := ⟨_, rfl⟩
  rw [hK]
  have HP := Lib.hid (fun o (ho : o ≤ s.size) w => pass_any blanksL isBlk run_blank s o ho (by omega) w)
  have HPL := Lib.hid (fun (o : Nat) (ho : o ≤ s.size) => show o + runN isBlk (s.data.toList.drop o) ≤ s.size by have := runN_le isBlk (s.data.toList.drop o); rw [List.length_drop, len_data] at this; omega)
  have HP0 := Lib.hid (HP.out o ho w)
  have HK0 : Hid (K = (o + runN isBlk (s.data.toList.drop o)) + skN false (s.data.toList.drop (o + runN isBlk (s.data.toList.drop o)))) := Lib.hid (by have := sk_run (s.data.toList.drop o); rw [List.drop_drop] at this; omega)
  have HH0 : Hid (∀ c r, s.data.toList.drop (o + runN isBlk (s.data.toList.drop o)) = c :: r → isBlk c = false) := Lib.hid (fun c r h => runN_head isBlk (s.data.toList.drop o) c r (by rw [List.drop_drop]; exact h))
  have HL0 := Lib.hid (HPL.out o ho)
  obtain ⟨o1, ho1⟩ : ∃ o1, o + runN isBlk (s.data.toList.drop o) = o1 := ⟨_, rfl⟩
  rw [ho1] at HP0 HK0 HH0 HL0
  clear hK ho1
  go_enter Tryz.func156, Tryz.ntmps156
  go_wp2_with fail
  refine HP0.out.mono ?_
  rintro e w1 ⟨rfl, hw1⟩
  obtain rfl := hw1.symm
  clear hw1 HP0
  go_wp2_with fail
  go_loopw [1] (fun v1 wr => SkpI s w K v1 wr) (fun v1 _ => s.size - (intOf v1).toNat)
  case atStart => exact ⟨o1, rfl, HL0.out, HK0, HH0, Below.refl _ _⟩
  case round =>
    rename World => wr
    obtain ⟨k, rfl, hk, HW, HHD, hb⟩ := hrel
    have HB := Lib.hid hb
    clear hb HK0 HH0 HL0
    by_cases hlt : k < s.size
    · have HD := Lib.hid (data_drop hlt)
      have h9 : (k : Int) < (s.size : Int) := by omega
      obtain ⟨c, hc⟩ : ∃ c, s[k]'hlt = c := ⟨_, rfl⟩
      rw [hc] at HD
      have hcb : (s[k]'hlt).toNat = c.toNat := by rw [hc]
      clear hc
      by_cases h35 : c.toNat = 35
      · have t1 : ((((s[k]'hlt).toNat : Nat) : Int) == 35) = true := by rw [beq_iff_eq]; omega
        have cf := cut_from s (show k ≤ s.size by omega) (show (k : Int) = ((k : Nat) : Int) from rfl)
        rw [ext_end] at cf
        have HSK := Lib.hid (@sk_hash c (s.data.toList.drop (k + 1)) h35)
        rw [← HD.out] at HSK
        have hrl : (s.data.toList.drop k).length = s.size - k := by rw [List.length_drop, len_data]
        have hr1 : 1 ≤ runN noNl (s.data.toList.drop k) := by rw [HD.out, runN, if_pos (by unfold noNl; simp [h35])]; omega
        have hr2 := runN_le noNl (s.data.toList.drop k)
        have HCU := Lib.hid (fun w => cut10_any (ofL (s.data.toList.drop k)) (by rw [ofL_size, hrl]; omega) w)
        unfold CutPost10 at HCU
        rw [show (ofL (s.data.toList.drop k)).data.toList = s.data.toList.drop k from rfl] at HCU
        have HHN := Lib.hid (fun c r => runN_head isBlk (s.data.toList.drop (k + runN noNl (s.data.toList.drop k))) c r)
        simp only [List.drop_drop] at HSK HHN
        have hz0 : (ofL ((s.data.toList.drop k).take (runN noNl (s.data.toList.drop k)))).size = runN noNl (s.data.toList.drop k) := by rw [ofL_size, List.length_take]; omega
        obtain ⟨X, hX⟩ : ∃ X, ofL ((s.data.toList.drop k).take (runN noNl (s.data.toList.drop k))) = X := ⟨_, rfl⟩
        rw [hX] at HCU hz0
        obtain ⟨n, hn⟩ : ∃ n, runN noNl (s.data.toList.drop k) = n := ⟨_, rfl⟩
        rw [hn] at hr1 hr2 HSK HHN hz0
        obtain ⟨R, hR⟩ : ∃ R, ofL (s.data.toList.drop k) = R := ⟨_, rfl⟩
        rw [hR] at cf HCU
        have hkn : k + n ≤ s.size := by omega
        have HP1 := Lib.hid (fun w => HP.out (k + n) hkn w)
        have HPL1 := Lib.hid (HPL.out (k + n) hkn)
        have HSZ : Hid (X.size = n) := Lib.hid hz0
        have q1 : (k : Int) + (X.size : Int) = ((k + n : Nat) : Int) := by rw [hz0]; omega
        have HW2 : Hid (K = (k + n + runN isBlk (s.data.toList.drop (k + n))) + skN false (s.data.toList.drop (k + n + runN isBlk (s.data.toList.drop (k + n))))) := Lib.hid (by
          rw [HW.out, HSK.out, show k + (n + runN isBlk (s.data.toList.drop (k + n))) = k + n + runN isBlk (s.data.toList.drop (k + n)) by omega]; omega)
        obtain ⟨o', ho'⟩ : ∃ o', k + n + runN isBlk (s.data.toList.drop (k + n)) = o' := ⟨_, rfl⟩
        have HOO : Hid (k + 1 ≤ o') := Lib.hid (by omega)
        rw [ho'] at HP1 HPL1 HW2
        have HHN2 : Hid (∀ c r, s.data.toList.drop o' = c :: r → isBlk c = false) := Lib.hid (by rw [← ho']; exact HHN.out)
        obtain ⟨kn, hkn2⟩ : ∃ kn, k + n = kn := ⟨_, rfl⟩
        rw [hkn2] at HP1 q1
        have q2 : (X.size : Int) ≤ 10000000 := by omega
        clear hX hn hR ho' HHN HSK hz0 hkn hr1 hr2 hrl HD HW HHD hcb h35 hkn2
        go_wp2_with fail
        refine (HCU.out _).mono ?_
        rintro e w2 ⟨⟨B, b, rfl⟩, b2⟩
        have HB2 := Lib.hid b2
        clear b2
        go_wp2_with fail
        refine (HP1.out _).mono ?_
        rintro e w3 ⟨rfl, hw3⟩
        obtain rfl := hw3.symm
        clear hw3
        go_wp2
        go_roundw
        case measure => (have := HOO.out; have := HPL1.out; simp [intOf]; omega)
        case rel => exact ⟨o', rfl, HPL1.out, HW2, HHN2, HB.out.trans (HB2.out.mono HB.out.size)⟩
      · have t1 : ((((s[k]'hlt).toNat : Nat) : Int) == 35) = false := by rw [beq_eq_false_iff_ne]; omega
        have HN : Hid (K = k) := Lib.hid (by rw [HW.out, HD.out, sk_none (HHD.out _ _ HD.out) h35]; rfl)
        clear HW HD HHD hcb h35
        go_wp2
        go_ret
        exact ⟨by rw [HN.out]; rfl, HB.out⟩
    · have h9 : ¬ (k : Int) < (s.size : Int) := by omega
      have HN : Hid (K = k) := Lib.hid (by rw [HW.out, data_end (by omega)]; rfl)
      clear HW
      go_wp2
      go_ret
      exact ⟨by rw [HN.out]; rfl, HB.out⟩
end Go.Proofs.YtpmmchppfmojhaaGreatDoor


