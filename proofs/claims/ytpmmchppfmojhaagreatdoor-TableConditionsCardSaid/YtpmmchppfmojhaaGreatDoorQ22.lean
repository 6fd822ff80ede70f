/- What the row stands on, part 22. -/
import Derived.Test.YtpmmchppfmojhaaGreatDoorQ21

/- Of the program's table package: has, and what is alike. -/
namespace Go.Proofs.YtpmmchppfmojhaaGreatDoor
open Go.RowKit
set_option linter.unusedVariables false

theorem beq_strs (a b : Str) : ((ofL a).toList == (ofL b).toList) = decide (a = b) := by
  rw [ByteArray.toList_eq, ByteArray.toList_eq]
  by_cases h : a = b
  · rw [h, decide_eq_true rfl, beq_iff_eq]
  · rw [decide_eq_false h, beq_eq_false_iff_ne]; exact h
def qRu (x y : Str × RawS) : Bool := decide (x.1 = y.1)
set_option maxRecDepth 1000000 in
set_option maxHeartbeats 2000000 in
theorem alikeRu_any (x y : Str × RawS) (w : World) : Calls Tryz.prog 80 #[.agg #[.string (ofL x.1), .slice x.2.a x.2.n x.2.c], .agg #[.string (ofL y.1), .slice y.2.a y.2.n y.2.c]] w fun e w' => e = .returned (.bool (qRu x y)) ∧ Below w.heap.size w w' := by
  have K := Lib.hid (((Below.refl w.heap.size w).alloc (Nat.le_refl _) (.cells #[.string (ofL x.1), .slice x.2.a x.2.n x.2.c] 56)).alloc (by simp) (.cells #[.string (ofL y.1), .slice y.2.a y.2.n y.2.c] 56))
  have HQ : Hid (((ofL x.1).toList == (ofL y.1).toList) = qRu x y) := Lib.hid (beq_strs _ _)
  go_enter Tryz.func80, Tryz.ntmps80
  go_wp2
  go_ret
  exact ⟨by rw [← HQ.out]; rfl, K.out⟩
def qAl (x y : Str × Str) : Bool := false
set_option maxRecDepth 1000000 in
set_option maxHeartbeats 2000000 in
theorem alikeAl_any (x y : Str × Str) (w : World) : Calls Tryz.prog 37 #[.agg #[.string (ofL x.1), .string (ofL x.2)], .agg #[.string (ofL y.1), .string (ofL y.2)]] w fun e w' => e = .returned (.bool (qAl x y)) ∧ Below w.heap.size w w' := by
  have K := Lib.hid (((Below.refl w.heap.size w).alloc (Nat.le_refl _) (.cells #[.string (ofL x.1), .string (ofL x.2)] 61)).alloc (by simp) (.cells #[.string (ofL y.1), .string (ofL y.2)] 61))
  go_enter Tryz.func37, Tryz.ntmps37
  go_wp2
  go_ret
  exact ⟨rfl, K.out⟩
def qDa (x y : Str × Str) : Bool := decide (x.1 = y.1)
set_option maxRecDepth 1000000 in
set_option maxHeartbeats 2000000 in
theorem alikeDa_any (x y : Str × Str) (w : World) : Calls Tryz.prog 90 #[.agg #[.string (ofL x.1), .string (ofL x.2)], .agg #[.string (ofL y.1), .string (ofL y.2)]] w fun e w' => e = .returned (.bool (qDa x y)) ∧ Below w.heap.size w w' := by
  have K := Lib.hid (((Below.refl w.heap.size w).alloc (Nat.le_refl _) (.cells #[.string (ofL x.1), .string (ofL x.2)] 124)).alloc (by simp) (.cells #[.string (ofL y.1), .string (ofL y.2)] 124))
  have HQ : Hid (((ofL x.1).toList == (ofL y.1).toList) = qDa x y) := Lib.hid (beq_strs _ _)
  go_enter Tryz.func90, Tryz.ntmps90
  go_wp2
  go_ret
  exact ⟨by rw [← HQ.out]; rfl, K.out⟩
def qNe (x y : Nea) : Bool := false
set_option maxRecDepth 1000000 in
set_option maxHeartbeats 2000000 in
theorem alikeNe_any (x y : Nea) (w : World) : Calls Tryz.prog 40 #[.agg #[.string (ofL x.fr), .string (ofL x.to_), .int .i64 x.co], .agg #[.string (ofL y.fr), .string (ofL y.to_), .int .i64 y.co]] w fun e w' => e = .returned (.bool (qNe x y)) ∧ Below w.heap.size w w' := by
  have K := Lib.hid (((Below.refl w.heap.size w).alloc (Nat.le_refl _) (.cells #[.string (ofL x.fr), .string (ofL x.to_), .int .i64 x.co] 36)).alloc (by simp) (.cells #[.string (ofL y.fr), .string (ofL y.to_), .int .i64 y.co] 36))
  go_enter Tryz.func40, Tryz.ntmps40
  go_wp2
  go_ret
  exact ⟨rfl, K.out⟩
def qLi (x y : Lis) : Bool := decide (x.st = y.st)
set_option maxRecDepth 1000000 in
set_option maxHeartbeats 2000000 in
theorem alikeLi_any (x y : Lis) (w : World) : Calls Tryz.prog 84 #[.agg #[.string (ofL x.st), .string (ofL x.two), .string (ofL x.sa), .string (ofL x.md), .string (ofL x.en)], .agg #[.string (ofL y.st), .string (ofL y.two), .string (ofL y.sa), .string (ofL y.md), .string (ofL y.en)]] w fun e w' => e = .returned (.bool (qLi x y)) ∧ Below w.heap.size w w' := by
  have K := Lib.hid (((Below.refl w.heap.size w).alloc (Nat.le_refl _) (.cells #[.string (ofL x.st), .string (ofL x.two), .string (ofL x.sa), .string (ofL x.md), .string (ofL x.en)] 116)).alloc (by simp) (.cells #[.string (ofL y.st), .string (ofL y.two), .string (ofL y.sa), .string (ofL y.md), .string (ofL y.en)] 116))
  have HQ : Hid (((ofL x.st).toList == (ofL y.st).toList) = qLi x y) := Lib.hid (beq_strs _ _)
  go_enter Tryz.func84, Tryz.ntmps84
  go_wp2
  go_ret
  exact ⟨by rw [← HQ.out]; rfl, K.out⟩
def qUn (x y : Uni) : Bool := (decide (x.un = y.un) && decide (x.cl = y.cl))
set_option maxRecDepth 1000000 in
set_option maxHeartbeats 2000000 in
theorem alikeUn_any (x y : Uni) (w : World) : Calls Tryz.prog 87 #[.agg #[.string (ofL x.un), .string (ofL x.cl), .string (ofL x.pt)], .agg #[.string (ofL y.un), .string (ofL y.cl), .string (ofL y.pt)]] w fun e w' => e = .returned (.bool (qUn x y)) ∧ Below w.heap.size w w' := by
  have K := Lib.hid (((Below.refl w.heap.size w).alloc (Nat.le_refl _) (.cells #[.string (ofL x.un), .string (ofL x.cl), .string (ofL x.pt)] 120)).alloc (by simp) (.cells #[.string (ofL y.un), .string (ofL y.cl), .string (ofL y.pt)] 120))
  have HQ : Hid (qUn x y = (((ofL x.un).toList == (ofL y.un).toList) && ((ofL x.cl).toList == (ofL y.cl).toList))) := Lib.hid (by rw [beq_strs, beq_strs]; rfl)
  obtain ⟨b1, hb1⟩ : ∃ b, ((ofL x.un).toList == (ofL y.un).toList) = b := ⟨_, rfl⟩
  obtain ⟨b2, hb2⟩ : ∃ b, ((ofL x.cl).toList == (ofL y.cl).toList) = b := ⟨_, rfl⟩
  rw [hb1, hb2] at HQ
  cases b1 with
  | true =>
    go_enter Tryz.func87, Tryz.ntmps87
    go_wp2
    go_ret
    exact ⟨by rw [HQ.out]; rfl, K.out⟩
  | false =>
    go_enter Tryz.func87, Tryz.ntmps87
    go_wp2
    go_ret
    exact ⟨by rw [HQ.out]; rfl, K.out⟩
def qLo (x y : RawLo) : Bool := false
set_option maxRecDepth 1000000 in
set_option maxHeartbeats 2000000 in
theorem alikeLo_any (x y : RawLo) (w : World) : Calls Tryz.prog 34 #[.agg #[.string (ofL x.tag), .string (ofL x.par), .string (ofL x.dir), .slice x.ca.a x.ca.n x.ca.c, .slice x.oc.a x.oc.n x.oc.c, .string (ofL x.sy.de), .string (ofL x.sy.gr), .string (ofL x.sy.mi), .string (ofL x.sy.pe), .int .i64 x.sy.pr, .int .i64 x.sy.se, .slice x.li.a x.li.n x.li.c, .slice x.un.a x.un.n x.un.c, .slice x.da.a x.da.n x.da.c, .slice x.mo.a x.mo.n x.mo.c, .slice x.dy.a x.dy.n x.dy.c], .agg #[.string (ofL y.tag), .string (ofL y.par), .string (ofL y.dir), .slice y.ca.a y.ca.n y.ca.c, .slice y.oc.a y.oc.n y.oc.c, .string (ofL y.sy.de), .string (ofL y.sy.gr), .string (ofL y.sy.mi), .string (ofL y.sy.pe), .int .i64 y.sy.pr, .int .i64 y.sy.se, .slice y.li.a y.li.n y.li.c, .slice y.un.a y.un.n y.un.c, .slice y.da.a y.da.n y.da.c, .slice y.mo.a y.mo.n y.mo.c, .slice y.dy.a y.dy.n y.dy.c]] w fun e w' => e = .returned (.bool (qLo x y)) ∧ Below w.heap.size w w' := by
  have K := Lib.hid (((Below.refl w.heap.size w).alloc (Nat.le_refl _) (.cells #[.string (ofL x.tag), .string (ofL x.par), .string (ofL x.dir), .slice x.ca.a x.ca.n x.ca.c, .slice x.oc.a x.oc.n x.oc.c, .string (ofL x.sy.de), .string (ofL x.sy.gr), .string (ofL x.sy.mi), .string (ofL x.sy.pe), .int .i64 x.sy.pr, .int .i64 x.sy.se, .slice x.li.a x.li.n x.li.c, .slice x.un.a x.un.n x.un.c, .slice x.da.a x.da.n x.da.c, .slice x.mo.a x.mo.n x.mo.c, .slice x.dy.a x.dy.n x.dy.c] 51)).alloc (by simp) (.cells #[.string (ofL y.tag), .string (ofL y.par), .string (ofL y.dir), .slice y.ca.a y.ca.n y.ca.c, .slice y.oc.a y.oc.n y.oc.c, .string (ofL y.sy.de), .string (ofL y.sy.gr), .string (ofL y.sy.mi), .string (ofL y.sy.pe), .int .i64 y.sy.pr, .int .i64 y.sy.se, .slice y.li.a y.li.n y.li.c, .slice y.un.a y.un.n y.un.c, .slice y.da.a y.da.n y.da.c, .slice y.mo.a y.mo.n y.mo.c, .slice y.dy.a y.dy.n y.dy.c] 51))
  go_enter Tryz.func34, Tryz.ntmps34
  go_wp2
  go_ret
  exact ⟨rfl, K.out⟩
set_option maxRecDepth 1000000 in
set_option maxHeartbeats 2000000 in
theorem has1Ru_any (x y : Str × RawS) (qb : Bool) (n0 : Nat) (eg : ∀ args w, (callFunc n0 args).run Tryz.prog w = .ok (.enter n0 args) w) (Ba Bx : Nat) (W : World) (ha : Blk Ba 133 #[.func (.func n0) #[] #[]] W) (hx : Blk Bx 56 #[.string (ofL x.1), .slice x.2.a x.2.n x.2.c] W)
    (hF : ∀ W1, Calls Tryz.prog n0 #[.agg #[.string (ofL x.1), .slice x.2.a x.2.n x.2.c], .agg #[.string (ofL y.1), .slice y.2.a y.2.n y.2.c]] W1 fun e w' => e = .returned (.bool qb) ∧ Below W1.heap.size W1 w') :
    Calls Tryz.prog 194 (#[.agg #[.string (ofL y.1), .slice y.2.a y.2.n y.2.c]] ++ #[.pointer (some ⟨Ba, 0, none⟩), .pointer (some ⟨Bx, 0, none⟩)]) W fun e w' => e = .returned (.bool qb) ∧ Below W.heap.size W w' := by
  have K := Lib.hid ((Below.refl W.heap.size W).alloc (Nat.le_refl _) (.cells #[.string (ofL y.1), .slice y.2.a y.2.n y.2.c] 56))
  have HF := Lib.hid (fun W1 => hF W1)
  have ca : (W.alloc (.cells #[.string (ofL y.1), .slice y.2.a y.2.n y.2.c] 56)).cell? ⟨Ba, 0, none⟩ = some (.func (.func n0) #[] #[]) := (K.out.cell (p := ⟨Ba, 0, none⟩) ha.lt).trans (ha.cell 0)
  have c0 : (W.alloc (.cells #[.string (ofL y.1), .slice y.2.a y.2.n y.2.c] 56)).cell? ⟨Bx, 0, none⟩ = some (.string (ofL x.1)) := (K.out.cell (p := ⟨Bx, 0, none⟩) hx.lt).trans (hx.cell 0)
  have c1 : (W.alloc (.cells #[.string (ofL y.1), .slice y.2.a y.2.n y.2.c] 56)).cell? ⟨Bx, 1, none⟩ = some (.slice x.2.a x.2.n x.2.c) := (K.out.cell (p := ⟨Bx, 1, none⟩) hx.lt).trans (hx.cell 1)
  clear hF ha hx
  go_enter Tryz.func194, Tryz.ntmps194
  go_wp2_with (go_at_fn n0; refine (HF.out _).mono ?_; rintro e w2 ⟨rfl, b2⟩)
  have HB2 := Lib.hid (st K.out b2 K.out.size)
  clear b2
  go_wp2
  go_ret
  exact ⟨rfl, HB2.out⟩
set_option maxRecDepth 1000000 in
set_option maxHeartbeats 2000000 in
theorem hasRu_any (v : Value) (l : List (Str × RawS)) (x : Str × RawS) (q : Str × RawS → Bool) (n0 : Nat) (eg : ∀ args w, (callFunc n0 args).run Tryz.prog w = .ok (.enter n0 args) w) (w : World) (hv : Rd 2 encRl w v l)
    (hF : ∀ (W1 : World) (y : Str × RawS), y ∈ l → Calls Tryz.prog n0 #[.agg #[.string (ofL x.1), .slice x.2.a x.2.n x.2.c], .agg #[.string (ofL y.1), .slice y.2.a y.2.n y.2.c]] W1 fun e w' => e = .returned (.bool (q y)) ∧ Below W1.heap.size W1 w') :
    Calls Tryz.prog 141 #[v, .agg #[.string (ofL x.1), .slice x.2.a x.2.n x.2.c], .func (.func n0) #[] #[]] w fun e w' => e = .returned (.bool (l.any q)) ∧ Below w.heap.size w w' := by
  have K1 := (Below.refl w.heap.size w).alloc (Nat.le_refl _) (.cells #[.string (ofL x.1), .slice x.2.a x.2.n x.2.c] 56)
  have K := Lib.hid (K1.alloc (by simp) (.cells #[.func (.func n0) #[] #[]] 133))
  have KX := Lib.hid ((Blk.new w 56 #[.string (ofL x.1), .slice x.2.a x.2.n x.2.c]).alloc (.cells #[.func (.func n0) #[] #[]] 133))
  have KA := Blk.new (w.alloc (.cells #[.string (ofL x.1), .slice x.2.a x.2.n x.2.c] 56)) 133 #[.func (.func n0) #[] #[]]
  rw [World.size_alloc] at KA
  have HU := Lib.hid ((hv.alloc (.cells #[.string (ofL x.1), .slice x.2.a x.2.n x.2.c] 56)).alloc (.cells #[.func (.func n0) #[] #[]] 133))
  have HKA := Lib.hid KA
  have HG : Hid (∀ (W : World) (s : Str × RawS), s ∈ l → Below ((w.alloc (.cells #[.string (ofL x.1), .slice x.2.a x.2.n x.2.c] 56)).alloc (.cells #[.func (.func n0) #[] #[]] 133)).heap.size ((w.alloc (.cells #[.string (ofL x.1), .slice x.2.a x.2.n x.2.c] 56)).alloc (.cells #[.func (.func n0) #[] #[]] 133)) W → Calls Tryz.prog 194 (#[.agg #[.string (ofL s.1), .slice s.2.a s.2.n s.2.c]] ++ #[.pointer (some ⟨w.heap.size + 1, 0, none⟩), .pointer (some ⟨w.heap.size, 0, none⟩)]) W fun e w' => e = .returned (.bool (q s)) ∧ Below W.heap.size W w') := Lib.hid (fun W s hs hb =>
    has1Ru_any x s (q s) n0 eg _ _ W (Blk.below HKA.out hb) (Blk.below KX.out hb) (fun W1 => hF W1 s hs))
  clear K1 KA hv hF
  go_enter Tryz.func141, Tryz.ntmps141
  go_wp2_with fail
  refine (containsRu_any _ l q 194 _ (enters_of Tryz.func194 (by kernel_rfl) rfl) _ HU.out HG.out).mono ?_
  rintro e w2 ⟨rfl, b2⟩
  have HB2 := Lib.hid (K.out.trans (b2.mono K.out.size))
  clear b2
  go_wp2
  go_ret
  exact ⟨rfl, HB2.out⟩
set_option maxRecDepth 1000000 in
set_option maxHeartbeats 2000000 in
theorem has1Al_any (x y : Str × Str) (qb : Bool) (n0 : Nat) (eg : ∀ args w, (callFunc n0 args).run Tryz.prog w = .ok (.enter n0 args) w) (Ba Bx : Nat) (W : World) (ha : Blk Ba 73 #[.func (.func n0) #[] #[]] W) (hx : Blk Bx 61 #[.string (ofL x.1), .string (ofL x.2)] W)
    (hF : ∀ W1, Calls Tryz.prog n0 #[.agg #[.string (ofL x.1), .string (ofL x.2)], .agg #[.string (ofL y.1), .string (ofL y.2)]] W1 fun e w' => e = .returned (.bool qb) ∧ Below W1.heap.size W1 w') :
    Calls Tryz.prog 150 (#[.agg #[.string (ofL y.1), .string (ofL y.2)]] ++ #[.pointer (some ⟨Ba, 0, none⟩), .pointer (some ⟨Bx, 0, none⟩)]) W fun e w' => e = .returned (.bool qb) ∧ Below W.heap.size W w' := by
  have K := Lib.hid ((Below.refl W.heap.size W).alloc (Nat.le_refl _) (.cells #[.string (ofL y.1), .string (ofL y.2)] 61))
  have HF := Lib.hid (fun W1 => hF W1)
  have ca : (W.alloc (.cells #[.string (ofL y.1), .string (ofL y.2)] 61)).cell? ⟨Ba, 0, none⟩ = some (.func (.func n0) #[] #[]) := (K.out.cell (p := ⟨Ba, 0, none⟩) ha.lt).trans (ha.cell 0)
  have c0 : (W.alloc (.cells #[.string (ofL y.1), .string (ofL y.2)] 61)).cell? ⟨Bx, 0, none⟩ = some (.string (ofL x.1)) := (K.out.cell (p := ⟨Bx, 0, none⟩) hx.lt).trans (hx.cell 0)
  have c1 : (W.alloc (.cells #[.string (ofL y.1), .string (ofL y.2)] 61)).cell? ⟨Bx, 1, none⟩ = some (.string (ofL x.2)) := (K.out.cell (p := ⟨Bx, 1, none⟩) hx.lt).trans (hx.cell 1)
  clear hF ha hx
  go_enter Tryz.func150, Tryz.ntmps150
  go_wp2_with (go_at_fn n0; refine (HF.out _).mono ?_; rintro e w2 ⟨rfl, b2⟩)
  have HB2 := Lib.hid (st K.out b2 K.out.size)
  clear b2
  go_wp2
  go_ret
  exact ⟨rfl, HB2.out⟩
set_option maxRecDepth 1000000 in
set_option maxHeartbeats 2000000 in
theorem hasAl_any (v : Value) (l : List (Str × Str)) (x : Str × Str) (q : Str × Str → Bool) (n0 : Nat) (eg : ∀ args w, (callFunc n0 args).run Tryz.prog w = .ok (.enter n0 args) w) (w : World) (hv : Rd 2 encDu w v l)
    (hF : ∀ (W1 : World) (y : Str × Str), y ∈ l → Calls Tryz.prog n0 #[.agg #[.string (ofL x.1), .string (ofL x.2)], .agg #[.string (ofL y.1), .string (ofL y.2)]] W1 fun e w' => e = .returned (.bool (q y)) ∧ Below W1.heap.size W1 w') :
    Calls Tryz.prog 92 #[v, .agg #[.string (ofL x.1), .string (ofL x.2)], .func (.func n0) #[] #[]] w fun e w' => e = .returned (.bool (l.any q)) ∧ Below w.heap.size w w' := by
  have K1 := (Below.refl w.heap.size w).alloc (Nat.le_refl _) (.cells #[.string (ofL x.1), .string (ofL x.2)] 61)
  have K := Lib.hid (K1.alloc (by simp) (.cells #[.func (.func n0) #[] #[]] 73))
  have KX := Lib.hid ((Blk.new w 61 #[.string (ofL x.1), .string (ofL x.2)]).alloc (.cells #[.func (.func n0) #[] #[]] 73))
  have KA := Blk.new (w.alloc (.cells #[.string (ofL x.1), .string (ofL x.2)] 61)) 73 #[.func (.func n0) #[] #[]]
  rw [World.size_alloc] at KA
  have HU := Lib.hid ((hv.alloc (.cells #[.string (ofL x.1), .string (ofL x.2)] 61)).alloc (.cells #[.func (.func n0) #[] #[]] 73))
  have HKA := Lib.hid KA
  have HG : Hid (∀ (W : World) (s : Str × Str), s ∈ l → Below ((w.alloc (.cells #[.string (ofL x.1), .string (ofL x.2)] 61)).alloc (.cells #[.func (.func n0) #[] #[]] 73)).heap.size ((w.alloc (.cells #[.string (ofL x.1), .string (ofL x.2)] 61)).alloc (.cells #[.func (.func n0) #[] #[]] 73)) W → Calls Tryz.prog 150 (#[.agg #[.string (ofL s.1), .string (ofL s.2)]] ++ #[.pointer (some ⟨w.heap.size + 1, 0, none⟩), .pointer (some ⟨w.heap.size, 0, none⟩)]) W fun e w' => e = .returned (.bool (q s)) ∧ Below W.heap.size W w') := Lib.hid (fun W s hs hb =>
    has1Al_any x s (q s) n0 eg _ _ W (Blk.below HKA.out hb) (Blk.below KX.out hb) (fun W1 => hF W1 s hs))
  clear K1 KA hv hF
  go_enter Tryz.func92, Tryz.ntmps92
  go_wp2_with fail
  refine (containsAl_any _ l q 150 _ (enters_of Tryz.func150 (by kernel_rfl) rfl) _ HU.out HG.out).mono ?_
  rintro e w2 ⟨rfl, b2⟩
  have HB2 := Lib.hid (K.out.trans (b2.mono K.out.size))
  clear b2
  go_wp2
  go_ret
  exact ⟨rfl, HB2.out⟩
set_option maxRecDepth 1000000 in
set_option maxHeartbeats 2000000 in
theorem has1Da_any (x y : Str × Str) (qb : Bool) (n0 : Nat) (eg : ∀ args w, (callFunc n0 args).run Tryz.prog w = .ok (.enter n0 args) w) (Ba Bx : Nat) (W : World) (ha : Blk Ba 143 #[.func (.func n0) #[] #[]] W) (hx : Blk Bx 124 #[.string (ofL x.1), .string (ofL x.2)] W)
    (hF : ∀ W1, Calls Tryz.prog n0 #[.agg #[.string (ofL x.1), .string (ofL x.2)], .agg #[.string (ofL y.1), .string (ofL y.2)]] W1 fun e w' => e = .returned (.bool qb) ∧ Below W1.heap.size W1 w') :
    Calls Tryz.prog 205 (#[.agg #[.string (ofL y.1), .string (ofL y.2)]] ++ #[.pointer (some ⟨Ba, 0, none⟩), .pointer (some ⟨Bx, 0, none⟩)]) W fun e w' => e = .returned (.bool qb) ∧ Below W.heap.size W w' := by
  have K := Lib.hid ((Below.refl W.heap.size W).alloc (Nat.le_refl _) (.cells #[.string (ofL y.1), .string (ofL y.2)] 124))
  have HF := Lib.hid (fun W1 => hF W1)
  have ca : (W.alloc (.cells #[.string (ofL y.1), .string (ofL y.2)] 124)).cell? ⟨Ba, 0, none⟩ = some (.func (.func n0) #[] #[]) := (K.out.cell (p := ⟨Ba, 0, none⟩) ha.lt).trans (ha.cell 0)
  have c0 : (W.alloc (.cells #[.string (ofL y.1), .string (ofL y.2)] 124)).cell? ⟨Bx, 0, none⟩ = some (.string (ofL x.1)) := (K.out.cell (p := ⟨Bx, 0, none⟩) hx.lt).trans (hx.cell 0)
  have c1 : (W.alloc (.cells #[.string (ofL y.1), .string (ofL y.2)] 124)).cell? ⟨Bx, 1, none⟩ = some (.string (ofL x.2)) := (K.out.cell (p := ⟨Bx, 1, none⟩) hx.lt).trans (hx.cell 1)
  clear hF ha hx
  go_enter Tryz.func205, Tryz.ntmps205
  go_wp2_with (go_at_fn n0; refine (HF.out _).mono ?_; rintro e w2 ⟨rfl, b2⟩)
  have HB2 := Lib.hid (st K.out b2 K.out.size)
  clear b2
  go_wp2
  go_ret
  exact ⟨rfl, HB2.out⟩
set_option maxRecDepth 1000000 in
set_option maxHeartbeats 2000000 in
theorem hasDa_any (v : Value) (l : List (Str × Str)) (x : Str × Str) (q : Str × Str → Bool) (n0 : Nat) (eg : ∀ args w, (callFunc n0 args).run Tryz.prog w = .ok (.enter n0 args) w) (w : World) (hv : Rd 2 encDu w v l)
    (hF : ∀ (W1 : World) (y : Str × Str), y ∈ l → Calls Tryz.prog n0 #[.agg #[.string (ofL x.1), .string (ofL x.2)], .agg #[.string (ofL y.1), .string (ofL y.2)]] W1 fun e w' => e = .returned (.bool (q y)) ∧ Below W1.heap.size W1 w') :
    Calls Tryz.prog 148 #[v, .agg #[.string (ofL x.1), .string (ofL x.2)], .func (.func n0) #[] #[]] w fun e w' => e = .returned (.bool (l.any q)) ∧ Below w.heap.size w w' := by
  have K1 := (Below.refl w.heap.size w).alloc (Nat.le_refl _) (.cells #[.string (ofL x.1), .string (ofL x.2)] 124)
  have K := Lib.hid (K1.alloc (by simp) (.cells #[.func (.func n0) #[] #[]] 143))
  have KX := Lib.hid ((Blk.new w 124 #[.string (ofL x.1), .string (ofL x.2)]).alloc (.cells #[.func (.func n0) #[] #[]] 143))
  have KA := Blk.new (w.alloc (.cells #[.string (ofL x.1), .string (ofL x.2)] 124)) 143 #[.func (.func n0) #[] #[]]
  rw [World.size_alloc] at KA
  have HU := Lib.hid ((hv.alloc (.cells #[.string (ofL x.1), .string (ofL x.2)] 124)).alloc (.cells #[.func (.func n0) #[] #[]] 143))
  have HKA := Lib.hid KA
  have HG : Hid (∀ (W : World) (s : Str × Str), s ∈ l → Below ((w.alloc (.cells #[.string (ofL x.1), .string (ofL x.2)] 124)).alloc (.cells #[.func (.func n0) #[] #[]] 143)).heap.size ((w.alloc (.cells #[.string (ofL x.1), .string (ofL x.2)] 124)).alloc (.cells #[.func (.func n0) #[] #[]] 143)) W → Calls Tryz.prog 205 (#[.agg #[.string (ofL s.1), .string (ofL s.2)]] ++ #[.pointer (some ⟨w.heap.size + 1, 0, none⟩), .pointer (some ⟨w.heap.size, 0, none⟩)]) W fun e w' => e = .returned (.bool (q s)) ∧ Below W.heap.size W w') := Lib.hid (fun W s hs hb =>
    has1Da_any x s (q s) n0 eg _ _ W (Blk.below HKA.out hb) (Blk.below KX.out hb) (fun W1 => hF W1 s hs))
  clear K1 KA hv hF
  go_enter Tryz.func148, Tryz.ntmps148
  go_wp2_with fail
  refine (containsDa_any _ l q 205 _ (enters_of Tryz.func205 (by kernel_rfl) rfl) _ HU.out HG.out).mono ?_
  rintro e w2 ⟨rfl, b2⟩
  have HB2 := Lib.hid (K.out.trans (b2.mono K.out.size))
  clear b2
  go_wp2
  go_ret
  exact ⟨rfl, HB2.out⟩
set_option maxRecDepth 1000000 in
set_option maxHeartbeats 2000000 in
theorem has1Ne_any (x y : Nea) (qb : Bool) (n0 : Nat) (eg : ∀ args w, (callFunc n0 args).run Tryz.prog w = .ok (.enter n0 args) w) (Ba Bx : Nat) (W : World) (ha : Blk Ba 76 #[.func (.func n0) #[] #[]] W) (hx : Blk Bx 36 #[.string (ofL x.fr), .string (ofL x.to_), .int .i64 x.co] W)
    (hF : ∀ W1, Calls Tryz.prog n0 #[.agg #[.string (ofL x.fr), .string (ofL x.to_), .int .i64 x.co], .agg #[.string (ofL y.fr), .string (ofL y.to_), .int .i64 y.co]] W1 fun e w' => e = .returned (.bool qb) ∧ Below W1.heap.size W1 w') :
    Calls Tryz.prog 152 (#[.agg #[.string (ofL y.fr), .string (ofL y.to_), .int .i64 y.co]] ++ #[.pointer (some ⟨Ba, 0, none⟩), .pointer (some ⟨Bx, 0, none⟩)]) W fun e w' => e = .returned (.bool qb) ∧ Below W.heap.size W w' := by
  have K := Lib.hid ((Below.refl W.heap.size W).alloc (Nat.le_refl _) (.cells #[.string (ofL y.fr), .string (ofL y.to_), .int .i64 y.co] 36))
  have HF := Lib.hid (fun W1 => hF W1)
  have ca : (W.alloc (.cells #[.string (ofL y.fr), .string (ofL y.to_), .int .i64 y.co] 36)).cell? ⟨Ba, 0, none⟩ = some (.func (.func n0) #[] #[]) := (K.out.cell (p := ⟨Ba, 0, none⟩) ha.lt).trans (ha.cell 0)
  have c0 : (W.alloc (.cells #[.string (ofL y.fr), .string (ofL y.to_), .int .i64 y.co] 36)).cell? ⟨Bx, 0, none⟩ = some (.string (ofL x.fr)) := (K.out.cell (p := ⟨Bx, 0, none⟩) hx.lt).trans (hx.cell 0)
  have c1 : (W.alloc (.cells #[.string (ofL y.fr), .string (ofL y.to_), .int .i64 y.co] 36)).cell? ⟨Bx, 1, none⟩ = some (.string (ofL x.to_)) := (K.out.cell (p := ⟨Bx, 1, none⟩) hx.lt).trans (hx.cell 1)
  have c2 : (W.alloc (.cells #[.string (ofL y.fr), .string (ofL y.to_), .int .i64 y.co] 36)).cell? ⟨Bx, 2, none⟩ = some (.int .i64 x.co) := (K.out.cell (p := ⟨Bx, 2, none⟩) hx.lt).trans (hx.cell 2)
  clear hF ha hx
  go_enter Tryz.func152, Tryz.ntmps152
  go_wp2_with (go_at_fn n0; refine (HF.out _).mono ?_; rintro e w2 ⟨rfl, b2⟩)
  have HB2 := Lib.hid (st K.out b2 K.out.size)
  clear b2
  go_wp2
  go_ret
  exact ⟨rfl, HB2.out⟩
set_option maxRecDepth 1000000 in
set_option maxHeartbeats 2000000 in
theorem hasNe_any (v : Value) (l : List (Nea)) (x : Nea) (q : Nea → Bool) (n0 : Nat) (eg : ∀ args w, (callFunc n0 args).run Tryz.prog w = .ok (.enter n0 args) w) (w : World) (hv : Rd 3 encNe w v l)
    (hF : ∀ (W1 : World) (y : Nea), y ∈ l → Calls Tryz.prog n0 #[.agg #[.string (ofL x.fr), .string (ofL x.to_), .int .i64 x.co], .agg #[.string (ofL y.fr), .string (ofL y.to_), .int .i64 y.co]] W1 fun e w' => e = .returned (.bool (q y)) ∧ Below W1.heap.size W1 w') :
    Calls Tryz.prog 93 #[v, .agg #[.string (ofL x.fr), .string (ofL x.to_), .int .i64 x.co], .func (.func n0) #[] #[]] w fun e w' => e = .returned (.bool (l.any q)) ∧ Below w.heap.size w w' := by
  have K1 := (Below.refl w.heap.size w).alloc (Nat.le_refl _) (.cells #[.string (ofL x.fr), .string (ofL x.to_), .int .i64 x.co] 36)
  have K := Lib.hid (K1.alloc (by simp) (.cells #[.func (.func n0) #[] #[]] 76))
  have KX := Lib.hid ((Blk.new w 36 #[.string (ofL x.fr), .string (ofL x.to_), .int .i64 x.co]).alloc (.cells #[.func (.func n0) #[] #[]] 76))
  have KA := Blk.new (w.alloc (.cells #[.string (ofL x.fr), .string (ofL x.to_), .int .i64 x.co] 36)) 76 #[.func (.func n0) #[] #[]]
  rw [World.size_alloc] at KA
  have HU := Lib.hid ((hv.alloc (.cells #[.string (ofL x.fr), .string (ofL x.to_), .int .i64 x.co] 36)).alloc (.cells #[.func (.func n0) #[] #[]] 76))
  have HKA := Lib.hid KA
  have HG : Hid (∀ (W : World) (s : Nea), s ∈ l → Below ((w.alloc (.cells #[.string (ofL x.fr), .string (ofL x.to_), .int .i64 x.co] 36)).alloc (.cells #[.func (.func n0) #[] #[]] 76)).heap.size ((w.alloc (.cells #[.string (ofL x.fr), .string (ofL x.to_), .int .i64 x.co] 36)).alloc (.cells #[.func (.func n0) #[] #[]] 76)) W → Calls Tryz.prog 152 (#[.agg #[.string (ofL s.fr), .string (ofL s.to_), .int .i64 s.co]] ++ #[.pointer (some ⟨w.heap.size + 1, 0, none⟩), .pointer (some ⟨w.heap.size, 0, none⟩)]) W fun e w' => e = .returned (.bool (q s)) ∧ Below W.heap.size W w') := Lib.hid (fun W s hs hb =>
    has1Ne_any x s (q s) n0 eg _ _ W (Blk.below HKA.out hb) (Blk.below KX.out hb) (fun W1 => hF W1 s hs))
  clear K1 KA hv hF
  go_enter Tryz.func93, Tryz.ntmps93
  go_wp2_with fail
  refine (containsNe_any _ l q 152 _ (enters_of Tryz.func152 (by kernel_rfl) rfl) _ HU.out HG.out).mono ?_
  rintro e w2 ⟨rfl, b2⟩
  have HB2 := Lib.hid (K.out.trans (b2.mono K.out.size))
  clear b2
  go_wp2
  go_ret
  exact ⟨rfl, HB2.out⟩
set_option maxRecDepth 1000000 in
set_option maxHeartbeats 2000000 in
theorem has1Li_any (x y : Lis) (qb : Bool) (n0 : Nat) (eg : ∀ args w, (callFunc n0 args).run Tryz.prog w = .ok (.enter n0 args) w) (Ba Bx : Nat) (W : World) (ha : Blk Ba 137 #[.func (.func n0) #[] #[]] W) (hx : Blk Bx 116 #[.string (ofL x.st), .string (ofL x.two), .string (ofL x.sa), .string (ofL x.md), .string (ofL x.en)] W)
    (hF : ∀ W1, Calls Tryz.prog n0 #[.agg #[.string (ofL x.st), .string (ofL x.two), .string (ofL x.sa), .string (ofL x.md), .string (ofL x.en)], .agg #[.string (ofL y.st), .string (ofL y.two), .string (ofL y.sa), .string (ofL y.md), .string (ofL y.en)]] W1 fun e w' => e = .returned (.bool qb) ∧ Below W1.heap.size W1 w') :
    Calls Tryz.prog 201 (#[.agg #[.string (ofL y.st), .string (ofL y.two), .string (ofL y.sa), .string (ofL y.md), .string (ofL y.en)]] ++ #[.pointer (some ⟨Ba, 0, none⟩), .pointer (some ⟨Bx, 0, none⟩)]) W fun e w' => e = .returned (.bool qb) ∧ Below W.heap.size W w' := by
  have K := Lib.hid ((Below.refl W.heap.size W).alloc (Nat.le_refl _) (.cells #[.string (ofL y.st), .string (ofL y.two), .string (ofL y.sa), .string (ofL y.md), .string (ofL y.en)] 116))
  have HF := Lib.hid (fun W1 => hF W1)
  have ca : (W.alloc (.cells #[.string (ofL y.st), .string (ofL y.two), .string (ofL y.sa), .string (ofL y.md), .string (ofL y.en)] 116)).cell? ⟨Ba, 0, none⟩ = some (.func (.func n0) #[] #[]) := (K.out.cell (p := ⟨Ba, 0, none⟩) ha.lt).trans (ha.cell 0)
  have c0 : (W.alloc (.cells #[.string (ofL y.st), .string (ofL y.two), .string (ofL y.sa), .string (ofL y.md), .string (ofL y.en)] 116)).cell? ⟨Bx, 0, none⟩ = some (.string (ofL x.st)) := (K.out.cell (p := ⟨Bx, 0, none⟩) hx.lt).trans (hx.cell 0)
  have c1 : (W.alloc (.cells #[.string (ofL y.st), .string (ofL y.two), .string (ofL y.sa), .string (ofL y.md), .string (ofL y.en)] 116)).cell? ⟨Bx, 1, none⟩ = some (.string (ofL x.two)) := (K.out.cell (p := ⟨Bx, 1, none⟩) hx.lt).trans (hx.cell 1)
  have c2 : (W.alloc (.cells #[.string (ofL y.st), .string (ofL y.two), .string (ofL y.sa), .string (ofL y.md), .string (ofL y.en)] 116)).cell? ⟨Bx, 2, none⟩ = some (.string (ofL x.sa)) := (K.out.cell (p := ⟨Bx, 2, none⟩) hx.lt).trans (hx.cell 2)
  have c3 : (W.alloc (.cells #[.string (ofL y.st), .string (ofL y.two), .string (ofL y.sa), .string (ofL y.md), .string (ofL y.en)] 116)).cell? ⟨Bx, 3, none⟩ = some (.string (ofL x.md)) := (K.out.cell (p := ⟨Bx, 3, none⟩) hx.lt).trans (hx.cell 3)
  have c4 : (W.alloc (.cells #[.string (ofL y.st), .string (ofL y.two), .string (ofL y.sa), .string (ofL y.md), .string (ofL y.en)] 116)).cell? ⟨Bx, 4, none⟩ = some (.string (ofL x.en)) := (K.out.cell (p := ⟨Bx, 4, none⟩) hx.lt).trans (hx.cell 4)
  clear hF ha hx
  go_enter Tryz.func201, Tryz.ntmps201
  go_wp2_with (go_at_fn n0; refine (HF.out _).mono ?_; rintro e w2 ⟨rfl, b2⟩)
  have HB2 := Lib.hid (st K.out b2 K.out.size)
  clear b2
  go_wp2
  go_ret
  exact ⟨rfl, HB2.out⟩
set_option maxRecDepth 1000000 in
set_option maxHeartbeats 2000000 in
theorem hasLi_any (v : Value) (l : List (Lis)) (x : Lis) (q : Lis → Bool) (n0 : Nat) (eg : ∀ args w, (callFunc n0 args).run Tryz.prog w = .ok (.enter n0 args) w) (w : World) (hv : Rd 5 encLi w v l)
    (hF : ∀ (W1 : World) (y : Lis), y ∈ l → Calls Tryz.prog n0 #[.agg #[.string (ofL x.st), .string (ofL x.two), .string (ofL x.sa), .string (ofL x.md), .string (ofL x.en)], .agg #[.string (ofL y.st), .string (ofL y.two), .string (ofL y.sa), .string (ofL y.md), .string (ofL y.en)]] W1 fun e w' => e = .returned (.bool (q y)) ∧ Below W1.heap.size W1 w') :
    Calls Tryz.prog 145 #[v, .agg #[.string (ofL x.st), .string (ofL x.two), .string (ofL x.sa), .string (ofL x.md), .string (ofL x.en)], .func (.func n0) #[] #[]] w fun e w' => e = .returned (.bool (l.any q)) ∧ Below w.heap.size w w' := by
  have K1 := (Below.refl w.heap.size w).alloc (Nat.le_refl _) (.cells #[.string (ofL x.st), .string (ofL x.two), .string (ofL x.sa), .string (ofL x.md), .string (ofL x.en)] 116)
  have K := Lib.hid (K1.alloc (by simp) (.cells #[.func (.func n0) #[] #[]] 137))
  have KX := Lib.hid ((Blk.new w 116 #[.string (ofL x.st), .string (ofL x.two), .string (ofL x.sa), .string (ofL x.md), .string (ofL x.en)]).alloc (.cells #[.func (.func n0) #[] #[]] 137))
  have KA := Blk.new (w.alloc (.cells #[.string (ofL x.st), .string (ofL x.two), .string (ofL x.sa), .string (ofL x.md), .string (ofL x.en)] 116)) 137 #[.func (.func n0) #[] #[]]
  rw [World.size_alloc] at KA
  have HU := Lib.hid ((hv.alloc (.cells #[.string (ofL x.st), .string (ofL x.two), .string (ofL x.sa), .string (ofL x.md), .string (ofL x.en)] 116)).alloc (.cells #[.func (.func n0) #[] #[]] 137))
  have HKA := Lib.hid KA
  have HG : Hid (∀ (W : World) (s : Lis), s ∈ l → Below ((w.alloc (.cells #[.string (ofL x.st), .string (ofL x.two), .string (ofL x.sa), .string (ofL x.md), .string (ofL x.en)] 116)).alloc (.cells #[.func (.func n0) #[] #[]] 137)).heap.size ((w.alloc (.cells #[.string (ofL x.st), .string (ofL x.two), .string (ofL x.sa), .string (ofL x.md), .string (ofL x.en)] 116)).alloc (.cells #[.func (.func n0) #[] #[]] 137)) W → Calls Tryz.prog 201 (#[.agg #[.string (ofL s.st), .string (ofL s.two), .string (ofL s.sa), .string (ofL s.md), .string (ofL s.en)]] ++ #[.pointer (some ⟨w.heap.size + 1, 0, none⟩), .pointer (some ⟨w.heap.size, 0, none⟩)]) W fun e w' => e = .returned (.bool (q s)) ∧ Below W.heap.size W w') := Lib.hid (fun W s hs hb =>
    has1Li_any x s (q s) n0 eg _ _ W (Blk.below HKA.out hb) (Blk.below KX.out hb) (fun W1 => hF W1 s hs))
  clear K1 KA hv hF
  go_enter Tryz.func145, Tryz.ntmps145
  go_wp2_with fail
  refine (containsLi_any _ l q 201 _ (enters_of Tryz.func201 (by kernel_rfl) rfl) _ HU.out HG.out).mono ?_
  rintro e w2 ⟨rfl, b2⟩
  have HB2 := Lib.hid (K.out.trans (b2.mono K.out.size))
  clear b2
  go_wp2
  go_ret
  exact ⟨rfl, HB2.out⟩
set_option maxRecDepth 1000000 in
set_option maxHeartbeats 2000000 in
theorem has1Un_any (x y : Uni) (qb : Bool) (n0 : Nat) (eg : ∀ args w, (callFunc n0 args).run Tryz.prog w = .ok (.enter n0 args) w) (Ba Bx : Nat) (W : World) (ha : Blk Ba 140 #[.func (.func n0) #[] #[]] W) (hx : Blk Bx 120 #[.string (ofL x.un), .string (ofL x.cl), .string (ofL x.pt)] W)
    (hF : ∀ W1, Calls Tryz.prog n0 #[.agg #[.string (ofL x.un), .string (ofL x.cl), .string (ofL x.pt)], .agg #[.string (ofL y.un), .string (ofL y.cl), .string (ofL y.pt)]] W1 fun e w' => e = .returned (.bool qb) ∧ Below W1.heap.size W1 w') :
    Calls Tryz.prog 203 (#[.agg #[.string (ofL y.un), .string (ofL y.cl), .string (ofL y.pt)]] ++ #[.pointer (some ⟨Ba, 0, none⟩), .pointer (some ⟨Bx, 0, none⟩)]) W fun e w' => e = .returned (.bool qb) ∧ Below W.heap.size W w' := by
  have K := Lib.hid ((Below.refl W.heap.size W).alloc (Nat.le_refl _) (.cells #[.string (ofL y.un), .string (ofL y.cl), .string (ofL y.pt)] 120))
  have HF := Lib.hid (fun W1 => hF W1)
  have ca : (W.alloc (.cells #[.string (ofL y.un), .string (ofL y.cl), .string (ofL y.pt)] 120)).cell? ⟨Ba, 0, none⟩ = some (.func (.func n0) #[] #[]) := (K.out.cell (p := ⟨Ba, 0, none⟩) ha.lt).trans (ha.cell 0)
  have c0 : (W.alloc (.cells #[.string (ofL y.un), .string (ofL y.cl), .string (ofL y.pt)] 120)).cell? ⟨Bx, 0, none⟩ = some (.string (ofL x.un)) := (K.out.cell (p := ⟨Bx, 0, none⟩) hx.lt).trans (hx.cell 0)
  have c1 : (W.alloc (.cells #[.string (ofL y.un), .string (ofL y.cl), .string (ofL y.pt)] 120)).cell? ⟨Bx, 1, none⟩ = some (.string (ofL x.cl)) := (K.out.cell (p := ⟨Bx, 1, none⟩) hx.lt).trans (hx.cell 1)
  have c2 : (W.alloc (.cells #[.string (ofL y.un), .string (ofL y.cl), .string (ofL y.pt)] 120)).cell? ⟨Bx, 2, none⟩ = some (.string (ofL x.pt)) := (K.out.cell (p := ⟨Bx, 2, none⟩) hx.lt).trans (hx.cell 2)
  clear hF ha hx
  go_enter Tryz.func203, Tryz.ntmps203
  go_wp2_with (go_at_fn n0; refine (HF.out _).mono ?_; rintro e w2 ⟨rfl, b2⟩)
  have HB2 := Lib.hid (st K.out b2 K.out.size)
  clear b2
  go_wp2
  go_ret
  exact ⟨rfl, HB2.out⟩
set_option maxRecDepth 1000000 in
set_option maxHeartbeats 2000000 in
theorem hasUn_any (v : Value) (l : List (Uni)) (x : Uni) (q : Uni → Bool) (n0 : Nat) (eg : ∀ args w, (callFunc n0 args).run Tryz.prog w = .ok (.enter n0 args) w) (w : World) (hv : Rd 3 encUn w v l)
    (hF : ∀ (W1 : World) (y : Uni), y ∈ l → Calls Tryz.prog n0 #[.agg #[.string (ofL x.un), .string (ofL x.cl), .string (ofL x.pt)], .agg #[.string (ofL y.un), .string (ofL y.cl), .string (ofL y.pt)]] W1 fun e w' => e = .returned (.bool (q y)) ∧ Below W1.heap.size W1 w') :
    Calls Tryz.prog 146 #[v, .agg #[.string (ofL x.un), .string (ofL x.cl), .string (ofL x.pt)], .func (.func n0) #[] #[]] w fun e w' => e = .returned (.bool (l.any q)) ∧ Below w.heap.size w w' := by
  have K1 := (Below.refl w.heap.size w).alloc (Nat.le_refl _) (.cells #[.string (ofL x.un), .string (ofL x.cl), .string (ofL x.pt)] 120)
  have K := Lib.hid (K1.alloc (by simp) (.cells #[.func (.func n0) #[] #[]] 140))
  have KX := Lib.hid ((Blk.new w 120 #[.string (ofL x.un), .string (ofL x.cl), .string (ofL x.pt)]).alloc (.cells #[.func (.func n0) #[] #[]] 140))
  have KA := Blk.new (w.alloc (.cells #[.string (ofL x.un), .string (ofL x.cl), .string (ofL x.pt)] 120)) 140 #[.func (.func n0) #[] #[]]
  rw [World.size_alloc] at KA
  have HU := Lib.hid ((hv.alloc (.cells #[.string (ofL x.un), .string (ofL x.cl), .string (ofL x.pt)] 120)).alloc (.cells #[.func (.func n0) #[] #[]] 140))
  have HKA := Lib.hid KA
  have HG : Hid (∀ (W : World) (s : Uni), s ∈ l → Below ((w.alloc (.cells #[.string (ofL x.un), .string (ofL x.cl), .string (ofL x.pt)] 120)).alloc (.cells #[.func (.func n0) #[] #[]] 140)).heap.size ((w.alloc (.cells #[.string (ofL x.un), .string (ofL x.cl), .string (ofL x.pt)] 120)).alloc (.cells #[.func (.func n0) #[] #[]] 140)) W → Calls Tryz.prog 203 (#[.agg #[.string (ofL s.un), .string (ofL s.cl), .string (ofL s.pt)]] ++ #[.pointer (some ⟨w.heap.size + 1, 0, none⟩), .pointer (some ⟨w.heap.size, 0, none⟩)]) W fun e w' => e = .returned (.bool (q s)) ∧ Below W.heap.size W w') := Lib.hid (fun W s hs hb =>
    has1Un_any x s (q s) n0 eg _ _ W (Blk.below HKA.out hb) (Blk.below KX.out hb) (fun W1 => hF W1 s hs))
  clear K1 KA hv hF
  go_enter Tryz.func146, Tryz.ntmps146
  go_wp2_with fail
  refine (containsUn_any _ l q 203 _ (enters_of Tryz.func203 (by kernel_rfl) rfl) _ HU.out HG.out).mono ?_
  rintro e w2 ⟨rfl, b2⟩
  have HB2 := Lib.hid (K.out.trans (b2.mono K.out.size))
  clear b2
  go_wp2
  go_ret
  exact ⟨rfl, HB2.out⟩
set_option maxRecDepth 1000000 in
set_option maxHeartbeats 2000000 in
theorem has1Lo_any (x y : RawLo) (qb : Bool) (n0 : Nat) (eg : ∀ args w, (callFunc n0 args).run Tryz.prog w = .ok (.enter n0 args) w) (Ba Bx : Nat) (W : World) (ha : Blk Ba 70 #[.func (.func n0) #[] #[]] W) (hx : Blk Bx 51 #[.string (ofL x.tag), .string (ofL x.par), .string (ofL x.dir), .slice x.ca.a x.ca.n x.ca.c, .slice x.oc.a x.oc.n x.oc.c, .string (ofL x.sy.de), .string (ofL x.sy.gr), .string (ofL x.sy.mi), .string (ofL x.sy.pe), .int .i64 x.sy.pr, .int .i64 x.sy.se, .slice x.li.a x.li.n x.li.c, .slice x.un.a x.un.n x.un.c, .slice x.da.a x.da.n x.da.c, .slice x.mo.a x.mo.n x.mo.c, .slice x.dy.a x.dy.n x.dy.c] W)
    (hF : ∀ W1, Calls Tryz.prog n0 #[.agg #[.string (ofL x.tag), .string (ofL x.par), .string (ofL x.dir), .slice x.ca.a x.ca.n x.ca.c, .slice x.oc.a x.oc.n x.oc.c, .string (ofL x.sy.de), .string (ofL x.sy.gr), .string (ofL x.sy.mi), .string (ofL x.sy.pe), .int .i64 x.sy.pr, .int .i64 x.sy.se, .slice x.li.a x.li.n x.li.c, .slice x.un.a x.un.n x.un.c, .slice x.da.a x.da.n x.da.c, .slice x.mo.a x.mo.n x.mo.c, .slice x.dy.a x.dy.n x.dy.c], .agg #[.string (ofL y.tag), .string (ofL y.par), .string (ofL y.dir), .slice y.ca.a y.ca.n y.ca.c, .slice y.oc.a y.oc.n y.oc.c, .string (ofL y.sy.de), .string (ofL y.sy.gr), .string (ofL y.sy.mi), .string (ofL y.sy.pe), .int .i64 y.sy.pr, .int .i64 y.sy.se, .slice y.li.a y.li.n y.li.c, .slice y.un.a y.un.n y.un.c, .slice y.da.a y.da.n y.da.c, .slice y.mo.a y.mo.n y.mo.c, .slice y.dy.a y.dy.n y.dy.c]] W1 fun e w' => e = .returned (.bool qb) ∧ Below W1.heap.size W1 w') :
    Calls Tryz.prog 139 (#[.agg #[.string (ofL y.tag), .string (ofL y.par), .string (ofL y.dir), .slice y.ca.a y.ca.n y.ca.c, .slice y.oc.a y.oc.n y.oc.c, .string (ofL y.sy.de), .string (ofL y.sy.gr), .string (ofL y.sy.mi), .string (ofL y.sy.pe), .int .i64 y.sy.pr, .int .i64 y.sy.se, .slice y.li.a y.li.n y.li.c, .slice y.un.a y.un.n y.un.c, .slice y.da.a y.da.n y.da.c, .slice y.mo.a y.mo.n y.mo.c, .slice y.dy.a y.dy.n y.dy.c]] ++ #[.pointer (some ⟨Ba, 0, none⟩), .pointer (some ⟨Bx, 0, none⟩)]) W fun e w' => e = .returned (.bool qb) ∧ Below W.heap.size W w' := by
  have K := Lib.hid ((Below.refl W.heap.size W).alloc (Nat.le_refl _) (.cells #[.string (ofL y.tag), .string (ofL y.par), .string (ofL y.dir), .slice y.ca.a y.ca.n y.ca.c, .slice y.oc.a y.oc.n y.oc.c, .string (ofL y.sy.de), .string (ofL y.sy.gr), .string (ofL y.sy.mi), .string (ofL y.sy.pe), .int .i64 y.sy.pr, .int .i64 y.sy.se, .slice y.li.a y.li.n y.li.c, .slice y.un.a y.un.n y.un.c, .slice y.da.a y.da.n y.da.c, .slice y.mo.a y.mo.n y.mo.c, .slice y.dy.a y.dy.n y.dy.c] 51))
  have HF := Lib.hid (fun W1 => hF W1)
  have ca : (W.alloc (.cells #[.string (ofL y.tag), .string (ofL y.par), .string (ofL y.dir), .slice y.ca.a y.ca.n y.ca.c, .slice y.oc.a y.oc.n y.oc.c, .string (ofL y.sy.de), .string (ofL y.sy.gr), .string (ofL y.sy.mi), .string (ofL y.sy.pe), .int .i64 y.sy.pr, .int .i64 y.sy.se, .slice y.li.a y.li.n y.li.c, .slice y.un.a y.un.n y.un.c, .slice y.da.a y.da.n y.da.c, .slice y.mo.a y.mo.n y.mo.c, .slice y.dy.a y.dy.n y.dy.c] 51)).cell? ⟨Ba, 0, none⟩ = some (.func (.func n0) #[] #[]) := (K.out.cell (p := ⟨Ba, 0, none⟩) ha.lt).trans (ha.cell 0)
  have c0 : (W.alloc (.cells #[.string (ofL y.tag), .string (ofL y.par), .string (ofL y.dir), .slice y.ca.a y.ca.n y.ca.c, .slice y.oc.a y.oc.n y.oc.c, .string (ofL y.sy.de), .string (ofL y.sy.gr), .string (ofL y.sy.mi), .string (ofL y.sy.pe), .int .i64 y.sy.pr, .int .i64 y.sy.se, .slice y.li.a y.li.n y.li.c, .slice y.un.a y.un.n y.un.c, .slice y.da.a y.da.n y.da.c, .slice y.mo.a y.mo.n y.mo.c, .slice y.dy.a y.dy.n y.dy.c] 51)).cell? ⟨Bx, 0, none⟩ = some (.string (ofL x.tag)) := (K.out.cell (p := ⟨Bx, 0, none⟩) hx.lt).trans (hx.cell 0)
  have c1 : (W.alloc (.cells #[.string (ofL y.tag), .string (ofL y.par), .string (ofL y.dir), .slice y.ca.a y.ca.n y.ca.c, .slice y.oc.a y.oc.n y.oc.c, .string (ofL y.sy.de), .string (ofL y.sy.gr), .string (ofL y.sy.mi), .string (ofL y.sy.pe), .int .i64 y.sy.pr, .int .i64 y.sy.se, .slice y.li.a y.li.n y.li.c, .slice y.un.a y.un.n y.un.c, .slice y.da.a y.da.n y.da.c, .slice y.mo.a y.mo.n y.mo.c, .slice y.dy.a y.dy.n y.dy.c] 51)).cell? ⟨Bx, 1, none⟩ = some (.string (ofL x.par)) := (K.out.cell (p := ⟨Bx, 1, none⟩) hx.lt).trans (hx.cell 1)
  have c2 : (W.alloc (.cells #[.string (ofL y.tag), .string (ofL y.par), .string (ofL y.dir), .slice y.ca.a y.ca.n y.ca.c, .slice y.oc.a y.oc.n y.oc.c, .string (ofL y.sy.de), .string (ofL y.sy.gr), .string (ofL y.sy.mi), .string (ofL y.sy.pe), .int .i64 y.sy.pr, .int .i64 y.sy.se, .slice y.li.a y.li.n y.li.c, .slice y.un.a y.un.n y.un.c, .slice y.da.a y.da.n y.da.c, .slice y.mo.a y.mo.n y.mo.c, .slice y.dy.a y.dy.n y.dy.c] 51)).cell? ⟨Bx, 2, none⟩ = some (.string (ofL x.dir)) := (K.out.cell (p := ⟨Bx, 2, none⟩) hx.lt).trans (hx.cell 2)
  have c3 : (W.alloc (.cells #[.string (ofL y.tag), .string (ofL y.par), .string (ofL y.dir), .slice y.ca.a y.ca.n y.ca.c, .slice y.oc.a y.oc.n y.oc.c, .string (ofL y.sy.de), .string (ofL y.sy.gr), .string (ofL y.sy.mi), .string (ofL y.sy.pe), .int .i64 y.sy.pr, .int .i64 y.sy.se, .slice y.li.a y.li.n y.li.c, .slice y.un.a y.un.n y.un.c, .slice y.da.a y.da.n y.da.c, .slice y.mo.a y.mo.n y.mo.c, .slice y.dy.a y.dy.n y.dy.c] 51)).cell? ⟨Bx, 3, none⟩ = some (.slice x.ca.a x.ca.n x.ca.c) := (K.out.cell (p := ⟨Bx, 3, none⟩) hx.lt).trans (hx.cell 3)
  have c4 : (W.alloc (.cells #[.string (ofL y.tag), .string (ofL y.par), .string (ofL y.dir), .slice y.ca.a y.ca.n y.ca.c, .slice y.oc.a y.oc.n y.oc.c, .string (ofL y.sy.de), .string (ofL y.sy.gr), .string (ofL y.sy.mi), .string (ofL y.sy.pe), .int .i64 y.sy.pr, .int .i64 y.sy.se, .slice y.li.a y.li.n y.li.c, .slice y.un.a y.un.n y.un.c, .slice y.da.a y.da.n y.da.c, .slice y.mo.a y.mo.n y.mo.c, .slice y.dy.a y.dy.n y.dy.c] 51)).cell? ⟨Bx, 4, none⟩ = some (.slice x.oc.a x.oc.n x.oc.c) := (K.out.cell (p := ⟨Bx, 4, none⟩) hx.lt).trans (hx.cell 4)
  have c5 : (W.alloc (.cells #[.string (ofL y.tag), .string (ofL y.par), .string (ofL y.dir), .slice y.ca.a y.ca.n y.ca.c, .slice y.oc.a y.oc.n y.oc.c, .string (ofL y.sy.de), .string (ofL y.sy.gr), .string (ofL y.sy.mi), .string (ofL y.sy.pe), .int .i64 y.sy.pr, .int .i64 y.sy.se, .slice y.li.a y.li.n y.li.c, .slice y.un.a y.un.n y.un.c, .slice y.da.a y.da.n y.da.c, .slice y.mo.a y.mo.n y.mo.c, .slice y.dy.a y.dy.n y.dy.c] 51)).cell? ⟨Bx, 5, none⟩ = some (.string (ofL x.sy.de)) := (K.out.cell (p := ⟨Bx, 5, none⟩) hx.lt).trans (hx.cell 5)
  have c6 : (W.alloc (.cells #[.string (ofL y.tag), .string (ofL y.par), .string (ofL y.dir), .slice y.ca.a y.ca.n y.ca.c, .slice y.oc.a y.oc.n y.oc.c, .string (ofL y.sy.de), .string (ofL y.sy.gr), .string (ofL y.sy.mi), .string (ofL y.sy.pe), .int .i64 y.sy.pr, .int .i64 y.sy.se, .slice y.li.a y.li.n y.li.c, .slice y.un.a y.un.n y.un.c, .slice y.da.a y.da.n y.da.c, .slice y.mo.a y.mo.n y.mo.c, .slice y.dy.a y.dy.n y.dy.c] 51)).cell? ⟨Bx, 6, none⟩ = some (.string (ofL x.sy.gr)) := (K.out.cell (p := ⟨Bx, 6, none⟩) hx.lt).trans (hx.cell 6)
  have c7 : (W.alloc (.cells #[.string (ofL y.tag), .string (ofL y.par), .string (ofL y.dir), .slice y.ca.a y.ca.n y.ca.c, .slice y.oc.a y.oc.n y.oc.c, .string (ofL y.sy.de), .string (ofL y.sy.gr), .string (ofL y.sy.mi), .string (ofL y.sy.pe), .int .i64 y.sy.pr, .int .i64 y.sy.se, .slice y.li.a y.li.n y.li.c, .slice y.un.a y.un.n y.un.c, .slice y.da.a y.da.n y.da.c, .slice y.mo.a y.mo.n y.mo.c, .slice y.dy.a y.dy.n y.dy.c] 51)).cell? ⟨Bx, 7, none⟩ = some (.string (ofL x.sy.mi)) := (K.out.cell (p := ⟨Bx, 7, none⟩) hx.lt).trans (hx.cell 7)
  have c8 : (W.alloc (.cells #[.string (ofL y.tag), .string (ofL y.par), .string (ofL y.dir), .slice y.ca.a y.ca.n y.ca.c, .slice y.oc.a y.oc.n y.oc.c, .string (ofL y.sy.de), .string (ofL y.sy.gr), .string (ofL y.sy.mi), .string (ofL y.sy.pe), .int .i64 y.sy.pr, .int .i64 y.sy.se, .slice y.li.a y.li.n y.li.c, .slice y.un.a y.un.n y.un.c, .slice y.da.a y.da.n y.da.c, .slice y.mo.a y.mo.n y.mo.c, .slice y.dy.a y.dy.n y.dy.c] 51)).cell? ⟨Bx, 8, none⟩ = some (.string (ofL x.sy.pe)) := (K.out.cell (p := ⟨Bx, 8, none⟩) hx.lt).trans (hx.cell 8)
  have c9 : (W.alloc (.cells #[.string (ofL y.tag), .string (ofL y.par), .string (ofL y.dir), .slice y.ca.a y.ca.n y.ca.c, .slice y.oc.a y.oc.n y.oc.c, .string (ofL y.sy.de), .string (ofL y.sy.gr), .string (ofL y.sy.mi), .string (ofL y.sy.pe), .int .i64 y.sy.pr, .int .i64 y.sy.se, .slice y.li.a y.li.n y.li.c, .slice y.un.a y.un.n y.un.c, .slice y.da.a y.da.n y.da.c, .slice y.mo.a y.mo.n y.mo.c, .slice y.dy.a y.dy.n y.dy.c] 51)).cell? ⟨Bx, 9, none⟩ = some (.int .i64 x.sy.pr) := (K.out.cell (p := ⟨Bx, 9, none⟩) hx.lt).trans (hx.cell 9)
  have c10 : (W.alloc (.cells #[.string (ofL y.tag), .string (ofL y.par), .string (ofL y.dir), .slice y.ca.a y.ca.n y.ca.c, .slice y.oc.a y.oc.n y.oc.c, .string (ofL y.sy.de), .string (ofL y.sy.gr), .string (ofL y.sy.mi), .string (ofL y.sy.pe), .int .i64 y.sy.pr, .int .i64 y.sy.se, .slice y.li.a y.li.n y.li.c, .slice y.un.a y.un.n y.un.c, .slice y.da.a y.da.n y.da.c, .slice y.mo.a y.mo.n y.mo.c, .slice y.dy.a y.dy.n y.dy.c] 51)).cell? ⟨Bx, 10, none⟩ = some (.int .i64 x.sy.se) := (K.out.cell (p := ⟨Bx, 10, none⟩) hx.lt).trans (hx.cell 10)
  have c11 : (W.alloc (.cells #[.string (ofL y.tag), .string (ofL y.par), .string (ofL y.dir), .slice y.ca.a y.ca.n y.ca.c, .slice y.oc.a y.oc.n y.oc.c, .string (ofL y.sy.de), .string (ofL y.sy.gr), .string (ofL y.sy.mi), .string (ofL y.sy.pe), .int .i64 y.sy.pr, .int .i64 y.sy.se, .slice y.li.a y.li.n y.li.c, .slice y.un.a y.un.n y.un.c, .slice y.da.a y.da.n y.da.c, .slice y.mo.a y.mo.n y.mo.c, .slice y.dy.a y.dy.n y.dy.c] 51)).cell? ⟨Bx, 11, none⟩ = some (.slice x.li.a x.li.n x.li.c) := (K.out.cell (p := ⟨Bx, 11, none⟩) hx.lt).trans (hx.cell 11)
  have c12 : (W.alloc (.cells #[.string (ofL y.tag), .string (ofL y.par), .string (ofL y.dir), .slice y.ca.a y.ca.n y.ca.c, .slice y.oc.a y.oc.n y.oc.c, .string (ofL y.sy.de), .string (ofL y.sy.gr), .string (ofL y.sy.mi), .string (ofL y.sy.pe), .int .i64 y.sy.pr, .int .i64 y.sy.se, .slice y.li.a y.li.n y.li.c, .slice y.un.a y.un.n y.un.c, .slice y.da.a y.da.n y.da.c, .slice y.mo.a y.mo.n y.mo.c, .slice y.dy.a y.dy.n y.dy.c] 51)).cell? ⟨Bx, 12, none⟩ = some (.slice x.un.a x.un.n x.un.c) := (K.out.cell (p := ⟨Bx, 12, none⟩) hx.lt).trans (hx.cell 12)
  have c13 : (W.alloc (.cells #[.string (ofL y.tag), .string (ofL y.par), .string (ofL y.dir), .slice y.ca.a y.ca.n y.ca.c, .slice y.oc.a y.oc.n y.oc.c, .string (ofL y.sy.de), .string (ofL y.sy.gr), .string (ofL y.sy.mi), .string (ofL y.sy.pe), .int .i64 y.sy.pr, .int .i64 y.sy.se, .slice y.li.a y.li.n y.li.c, .slice y.un.a y.un.n y.un.c, .slice y.da.a y.da.n y.da.c, .slice y.mo.a y.mo.n y.mo.c, .slice y.dy.a y.dy.n y.dy.c] 51)).cell? ⟨Bx, 13, none⟩ = some (.slice x.da.a x.da.n x.da.c) := (K.out.cell (p := ⟨Bx, 13, none⟩) hx.lt).trans (hx.cell 13)
  have c14 : (W.alloc (.cells #[.string (ofL y.tag), .string (ofL y.par), .string (ofL y.dir), .slice y.ca.a y.ca.n y.ca.c, .slice y.oc.a y.oc.n y.oc.c, .string (ofL y.sy.de), .string (ofL y.sy.gr), .string (ofL y.sy.mi), .string (ofL y.sy.pe), .int .i64 y.sy.pr, .int .i64 y.sy.se, .slice y.li.a y.li.n y.li.c, .slice y.un.a y.un.n y.un.c, .slice y.da.a y.da.n y.da.c, .slice y.mo.a y.mo.n y.mo.c, .slice y.dy.a y.dy.n y.dy.c] 51)).cell? ⟨Bx, 14, none⟩ = some (.slice x.mo.a x.mo.n x.mo.c) := (K.out.cell (p := ⟨Bx, 14, none⟩) hx.lt).trans (hx.cell 14)
  have c15 : (W.alloc (.cells #[.string (ofL y.tag), .string (ofL y.par), .string (ofL y.dir), .slice y.ca.a y.ca.n y.ca.c, .slice y.oc.a y.oc.n y.oc.c, .string (ofL y.sy.de), .string (ofL y.sy.gr), .string (ofL y.sy.mi), .string (ofL y.sy.pe), .int .i64 y.sy.pr, .int .i64 y.sy.se, .slice y.li.a y.li.n y.li.c, .slice y.un.a y.un.n y.un.c, .slice y.da.a y.da.n y.da.c, .slice y.mo.a y.mo.n y.mo.c, .slice y.dy.a y.dy.n y.dy.c] 51)).cell? ⟨Bx, 15, none⟩ = some (.slice x.dy.a x.dy.n x.dy.c) := (K.out.cell (p := ⟨Bx, 15, none⟩) hx.lt).trans (hx.cell 15)
  clear hF ha hx
  go_enter Tryz.func139, Tryz.ntmps139
  go_wp2_with (go_at_fn n0; refine (HF.out _).mono ?_; rintro e w2 ⟨rfl, b2⟩)
  have HB2 := Lib.hid (st K.out b2 K.out.size)
  clear b2
  go_wp2
  go_ret
  exact ⟨rfl, HB2.out⟩
set_option maxRecDepth 1000000 in
set_option maxHeartbeats 2000000 in
theorem hasLo_any (v : Value) (l : List (RawLo)) (x : RawLo) (q : RawLo → Bool) (n0 : Nat) (eg : ∀ args w, (callFunc n0 args).run Tryz.prog w = .ok (.enter n0 args) w) (w : World) (hv : Rd 16 encLo w v l)
    (hF : ∀ (W1 : World) (y : RawLo), y ∈ l → Calls Tryz.prog n0 #[.agg #[.string (ofL x.tag), .string (ofL x.par), .string (ofL x.dir), .slice x.ca.a x.ca.n x.ca.c, .slice x.oc.a x.oc.n x.oc.c, .string (ofL x.sy.de), .string (ofL x.sy.gr), .string (ofL x.sy.mi), .string (ofL x.sy.pe), .int .i64 x.sy.pr, .int .i64 x.sy.se, .slice x.li.a x.li.n x.li.c, .slice x.un.a x.un.n x.un.c, .slice x.da.a x.da.n x.da.c, .slice x.mo.a x.mo.n x.mo.c, .slice x.dy.a x.dy.n x.dy.c], .agg #[.string (ofL y.tag), .string (ofL y.par), .string (ofL y.dir), .slice y.ca.a y.ca.n y.ca.c, .slice y.oc.a y.oc.n y.oc.c, .string (ofL y.sy.de), .string (ofL y.sy.gr), .string (ofL y.sy.mi), .string (ofL y.sy.pe), .int .i64 y.sy.pr, .int .i64 y.sy.se, .slice y.li.a y.li.n y.li.c, .slice y.un.a y.un.n y.un.c, .slice y.da.a y.da.n y.da.c, .slice y.mo.a y.mo.n y.mo.c, .slice y.dy.a y.dy.n y.dy.c]] W1 fun e w' => e = .returned (.bool (q y)) ∧ Below W1.heap.size W1 w') :
    Calls Tryz.prog 75 #[v, .agg #[.string (ofL x.tag), .string (ofL x.par), .string (ofL x.dir), .slice x.ca.a x.ca.n x.ca.c, .slice x.oc.a x.oc.n x.oc.c, .string (ofL x.sy.de), .string (ofL x.sy.gr), .string (ofL x.sy.mi), .string (ofL x.sy.pe), .int .i64 x.sy.pr, .int .i64 x.sy.se, .slice x.li.a x.li.n x.li.c, .slice x.un.a x.un.n x.un.c, .slice x.da.a x.da.n x.da.c, .slice x.mo.a x.mo.n x.mo.c, .slice x.dy.a x.dy.n x.dy.c], .func (.func n0) #[] #[]] w fun e w' => e = .returned (.bool (l.any q)) ∧ Below w.heap.size w w' := by
  have K1 := (Below.refl w.heap.size w).alloc (Nat.le_refl _) (.cells #[.string (ofL x.tag), .string (ofL x.par), .string (ofL x.dir), .slice x.ca.a x.ca.n x.ca.c, .slice x.oc.a x.oc.n x.oc.c, .string (ofL x.sy.de), .string (ofL x.sy.gr), .string (ofL x.sy.mi), .string (ofL x.sy.pe), .int .i64 x.sy.pr, .int .i64 x.sy.se, .slice x.li.a x.li.n x.li.c, .slice x.un.a x.un.n x.un.c, .slice x.da.a x.da.n x.da.c, .slice x.mo.a x.mo.n x.mo.c, .slice x.dy.a x.dy.n x.dy.c] 51)
  have K := Lib.hid (K1.alloc (by simp) (.cells #[.func (.func n0) #[] #[]] 70))
  have KX := Lib.hid ((Blk.new w 51 #[.string (ofL x.tag), .string (ofL x.par), .string (ofL x.dir), .slice x.ca.a x.ca.n x.ca.c, .slice x.oc.a x.oc.n x.oc.c, .string (ofL x.sy.de), .string (ofL x.sy.gr), .string (ofL x.sy.mi), .string (ofL x.sy.pe), .int .i64 x.sy.pr, .int .i64 x.sy.se, .slice x.li.a x.li.n x.li.c, .slice x.un.a x.un.n x.un.c, .slice x.da.a x.da.n x.da.c, .slice x.mo.a x.mo.n x.mo.c, .slice x.dy.a x.dy.n x.dy.c]).alloc (.cells #[.func (.func n0) #[] #[]] 70))
  have KA := Blk.new (w.alloc (.cells #[.string (ofL x.tag), .string (ofL x.par), .string (ofL x.dir), .slice x.ca.a x.ca.n x.ca.c, .slice x.oc.a x.oc.n x.oc.c, .string (ofL x.sy.de), .string (ofL x.sy.gr), .string (ofL x.sy.mi), .string (ofL x.sy.pe), .int .i64 x.sy.pr, .int .i64 x.sy.se, .slice x.li.a x.li.n x.li.c, .slice x.un.a x.un.n x.un.c, .slice x.da.a x.da.n x.da.c, .slice x.mo.a x.mo.n x.mo.c, .slice x.dy.a x.dy.n x.dy.c] 51)) 70 #[.func (.func n0) #[] #[]]
  rw [World.size_alloc] at KA
  have HU := Lib.hid ((hv.alloc (.cells #[.string (ofL x.tag), .string (ofL x.par), .string (ofL x.dir), .slice x.ca.a x.ca.n x.ca.c, .slice x.oc.a x.oc.n x.oc.c, .string (ofL x.sy.de), .string (ofL x.sy.gr), .string (ofL x.sy.mi), .string (ofL x.sy.pe), .int .i64 x.sy.pr, .int .i64 x.sy.se, .slice x.li.a x.li.n x.li.c, .slice x.un.a x.un.n x.un.c, .slice x.da.a x.da.n x.da.c, .slice x.mo.a x.mo.n x.mo.c, .slice x.dy.a x.dy.n x.dy.c] 51)).alloc (.cells #[.func (.func n0) #[] #[]] 70))
  have HKA := Lib.hid KA
  have HG : Hid (∀ (W : World) (s : RawLo), s ∈ l → Below ((w.alloc (.cells #[.string (ofL x.tag), .string (ofL x.par), .string (ofL x.dir), .slice x.ca.a x.ca.n x.ca.c, .slice x.oc.a x.oc.n x.oc.c, .string (ofL x.sy.de), .string (ofL x.sy.gr), .string (ofL x.sy.mi), .string (ofL x.sy.pe), .int .i64 x.sy.pr, .int .i64 x.sy.se, .slice x.li.a x.li.n x.li.c, .slice x.un.a x.un.n x.un.c, .slice x.da.a x.da.n x.da.c, .slice x.mo.a x.mo.n x.mo.c, .slice x.dy.a x.dy.n x.dy.c] 51)).alloc (.cells #[.func (.func n0) #[] #[]] 70)).heap.size ((w.alloc (.cells #[.string (ofL x.tag), .string (ofL x.par), .string (ofL x.dir), .slice x.ca.a x.ca.n x.ca.c, .slice x.oc.a x.oc.n x.oc.c, .string (ofL x.sy.de), .string (ofL x.sy.gr), .string (ofL x.sy.mi), .string (ofL x.sy.pe), .int .i64 x.sy.pr, .int .i64 x.sy.se, .slice x.li.a x.li.n x.li.c, .slice x.un.a x.un.n x.un.c, .slice x.da.a x.da.n x.da.c, .slice x.mo.a x.mo.n x.mo.c, .slice x.dy.a x.dy.n x.dy.c] 51)).alloc (.cells #[.func (.func n0) #[] #[]] 70)) W → Calls Tryz.prog 139 (#[.agg #[.string (ofL s.tag), .string (ofL s.par), .string (ofL s.dir), .slice s.ca.a s.ca.n s.ca.c, .slice s.oc.a s.oc.n s.oc.c, .string (ofL s.sy.de), .string (ofL s.sy.gr), .string (ofL s.sy.mi), .string (ofL s.sy.pe), .int .i64 s.sy.pr, .int .i64 s.sy.se, .slice s.li.a s.li.n s.li.c, .slice s.un.a s.un.n s.un.c, .slice s.da.a s.da.n s.da.c, .slice s.mo.a s.mo.n s.mo.c, .slice s.dy.a s.dy.n s.dy.c]] ++ #[.pointer (some ⟨w.heap.size + 1, 0, none⟩), .pointer (some ⟨w.heap.size, 0, none⟩)]) W fun e w' => e = .returned (.bool (q s)) ∧ Below W.heap.size W w') := Lib.hid (fun W s hs hb =>
    has1Lo_any x s (q s) n0 eg _ _ W (Blk.below HKA.out hb) (Blk.below KX.out hb) (fun W1 => hF W1 s hs))
  clear K1 KA hv hF
  go_enter Tryz.func75, Tryz.ntmps75
  go_wp2_with fail
  refine (containsLo_any _ l q 139 _ (enters_of Tryz.func139 (by kernel_rfl) rfl) _ HU.out HG.out).mono ?_
  rintro e w2 ⟨rfl, b2⟩
  have HB2 := Lib.hid (K.out.trans (b2.mono K.out.size))
  clear b2
  go_wp2
  go_ret
  exact ⟨rfl, HB2.out⟩
end Go.Proofs.YtpmmchppfmojhaaGreatDoor


