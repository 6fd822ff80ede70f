/- What the row stands on, part 23. -/
import Derived.Test.YtpmmchppfmojhaaGreatDoorQ22

/- Of the program of layer 11: the iterator over the tokens of a string; Tokens. -/
namespace Go.Proofs.YtpmmchppfmojhaaGreatDoor
open Go.RowKit Go.Shelf
set_option linter.unusedVariables false
attribute [local go_sem] Oper.semAt_some

/-- What is handed to the loop: a token, with an error. -/
structure Yd where
  kd : Int
  X : ByteArray
  a : Int
  e : Int
def Yd.tk (x : Yd) : Tok := ⟨x.kd.toNat, x.X.data.toList, x.a.toNat⟩
def ydV (x : Yd) : Array Value := #[.agg #[.int .i64 x.kd, .string x.X, .int .i64 x.a], .int .i64 x.e]
def encY (x : Yd) : List Value := [.int .i64 x.kd, .string x.X, .int .i64 x.a]
def goodY (pre : List Yd) : Prop := ∀ y ∈ pre, y.e = 0
def nnY (pre : List Yd) : Prop := ∀ y ∈ pre, 0 ≤ y.kd ∧ 0 ≤ y.a
abbrev TkR := (Nat × Nat) ⊕ List Tok
def SY (T : TkR) (ys : List Yd) : Prop := goodY ys → T = .inr (ys.map Yd.tk) ∧ nnY ys
def SpY (T : TkR) (pre : List Yd) : Prop := ∀ q x, pre = q ++ [x] → goodY q → x.e ≠ 0 → T = .inl (x.a.toNat, x.e.toNat) ∧ 0 ≤ x.a ∧ 0 ≤ x.e
/-- What a read hands out, in one form. -/
def GenR (o : Nat) (R : TRes) (kd : Int) (X : ByteArray) (a u er : Int) : Prop := match R with
  | .bad d e => a = ((o + d : Nat) : Int) ∧ er = (e : Int) ∧ kd = 0
  | .tok k tx n => kd = (k : Int) ∧ X = ofL tx ∧ a = (o : Int) ∧ u = ((o + n : Nat) : Int) ∧ er = 0
theorem ReadP.gen {o : Nat} {R : TRes} {w w' : World} {e : Ending} (h : ReadP o R w e w') : ∃ kd X a u er, e = .returned (.tuple #[.agg #[.int .i64 kd, .string X, .int .i64 a], .int .i64 u, .int .i64 er]) ∧ GenR o R kd X a u er ∧ Below w.heap.size w w' := by
  obtain ⟨h1, h2⟩ := h
  cases R with
  | bad d er => exact ⟨_, _, _, _, _, h1, ⟨rfl, rfl, rfl⟩, h2⟩
  | tok kd tx n => exact ⟨_, _, _, _, _, h1, ⟨rfl, rfl, rfl, rfl, rfl⟩, h2⟩
theorem oneR_errP {l : List UInt8} {d e : Nat} (hl : l ≠ []) (h : oneR l = .bad d e) : 0 < e := by
  cases l with
  | nil => exact absurd rfl hl
  | cons c l =>
    rw [oneR_cons] at h
    split at h
    · injection h with e1 e2; omega
    · split at h
      · cases h
      · split at h
        · exact quoR_err h
        · split at h
          · cases h
          · injection h with e1 e2; omega
/-- One more token, or the error. -/
theorem it_step {s : List UInt8} {T : TkR} {o : Nat} {pre : List Yd} {kd a u er : Int} {X : ByteArray} (ho : o < s.length) (hz : skN false (s.drop o) = 0) (hT : T = catT (pre.map Yd.tk) (toksN o (s.drop o))) (hg : GenR o (oneR (s.drop o)) kd X a u er) :
    (0 ≤ kd ∧ 0 ≤ a ∧ 0 ≤ er) ∧ (er ≠ 0 → T = .inl (a.toNat, er.toNat)) ∧
    (er = 0 → ∃ on : Nat, u = (on : Int) ∧ on ≤ s.length ∧ o < on ∧ on + skN false (s.drop on) ≤ s.length ∧ skN false (s.drop (on + skN false (s.drop on))) = 0 ∧
      T = catT ((pre ++ [(⟨kd, X, a, er⟩ : Yd)]).map Yd.tk) (toksN (on + skN false (s.drop on)) (s.drop (on + skN false (s.drop on))))) := by
  have hne : s.drop o ≠ [] := by
    intro e
    have := congrArg List.length e
    rw [List.length_drop, List.length_nil] at this
    omega
  cases hR : oneR (s.drop o) with
  | bad d e =>
    rw [hR] at hg
    obtain ⟨h1, h2, h3⟩ := hg
    have he := oneR_errP hne hR
    refine ⟨by omega, fun _ => ?_, fun h => by omega⟩
    rw [hT, at_bad hz hR hne]
    show Sum.inl _ = Sum.inl _
    rw [h1, h2, Int.toNat_natCast, Int.toNat_natCast]
  | tok k tx n =>
    rw [hR] at hg
    obtain ⟨h1, h2, h3, h4, h5⟩ := hg
    refine ⟨by omega, fun h => absurd h5 h, fun _ => ⟨o + n, h4, ?_⟩⟩
    obtain ⟨q1, q2, q3, q4, q5⟩ := tk_next ho hz hT hR
    refine ⟨q5, by omega, q1, q2, ?_⟩
    rw [q3, List.map_append, List.map_singleton]
    congr 3
    show _ = Tok.mk kd.toNat X.data.toList a.toNat
    rw [h1, h2, h3, Int.toNat_natCast, Int.toNat_natCast]
    rfl
theorem grown_of {w w' : World} (h : Below w.heap.size w w') : w.grownBy w' none := ⟨h.os, h.tape, h.output, h.size, fun k hk _ => h.block k hk⟩
theorem bt_alloc {n C : Nat} {w w' : World} (h : Bt n C w w') (hn : n ≤ w.heap.size) (o : Obj) : Bt n C w (w'.alloc o) :=
  h.trans (Bt.of_below ((Below.refl n w').alloc (Nat.le_trans hn h.size) o))
theorem bt_below {n C : Nat} {w w' w2 : World} (h : Bt n C w w') (hn : n ≤ w.heap.size) (hb : Below w'.heap.size w' w2) : Bt n C w w2 :=
  h.trans (Bt.of_below (hb.mono (Nat.le_trans hn h.size)))
theorem below_bt {n C b : Nat} {w w' : World} (h : Bt n C w w') (hb : b ≤ n) (hc : b ≤ C) : Below b w w' := ⟨h.os, h.tape, h.output, h.size, fun k hk => h.block k (by omega) (by omega)⟩

structure ItT (s : ByteArray) (T : TkR) (n₀ C : Nat) (W0 : World) (J : List Yd → World → Prop) (pre : List Yd) (o : Nat) (W : World) : Prop where
  le : o ≤ s.size
  z : skN false (s.data.toList.drop o) = 0
  eq : T = catT (pre.map Yd.tk) (toksN o (s.data.toList.drop o))
  len : pre.length ≤ o
  good : goodY pre
  nn : nnY pre
  bt : Bt n₀ C W0 W
  inv : J pre W
set_option maxRecDepth 1000000 in
set_option maxHeartbeats 4000000 in
theorem tokens1_in (n : Nat) (hn : 2 ≤ n) (l Bn n₀ C : Nat) (s : ByteArray) (hs : s.size ≤ 10000000) (T : TkR) (hT : toks s.data.toList = T) (J Jx : List Yd → World → Prop) (W : World)
    (hJ : AbidesFrom W.heap.size J) (hB0 : Bn < n₀) (hBC : Bn ≠ C) (hn0 : n₀ ≤ W.heap.size) (henv : ∀ W', Bt n₀ C W W' → Env W')
    (hY : ∀ pre x W1, J pre W1 → pre.length < s.size → YieldAt Fence.wide (n - 1) Tryz.prog l (ydV x) W1 fun e W' =>
      (e = .returned (.bool true) ∧ J (pre ++ [x]) W' ∧ Bt n₀ C W1 W') ∨ (e = .returned (.bool false) ∧ Jx (pre ++ [x]) W'))
    (hBn : Blk Bn 9 #[.string s] W) (h0 : J [] W) :
    CallsIn Fence.wide n Tryz.prog 155 #[.func (.yield l) #[] #[], .pointer (some ⟨Bn, 0, none⟩)] W fun e W' => (∃ v, e = .returned v) ∧
      ((∃ ys, SY T ys ∧ J ys W') ∨ (∃ pre, SpY T pre ∧ Jx pre W')) := by
  have hf : Fence.wide.fn 155 := trivial
  have hfA : Fence.wide.fn 156 := trivial
  have hfB : Fence.wide.fn 157 := trivial
  have hro : Fence.wide.round = none := rfl
  have h1n : 1 ≤ n := by omega
  have hsi : (s.size : Int) ≤ 10000000 := by omega
  have HSK := Lib.hid (fun o (ho : o ≤ s.size) w => skip_p s o ho hs w)
  have HS0 := Lib.hid (skip_p s 0 (Nat.zero_le _) hs W)
  rw [List.drop_zero, Nat.zero_add, show ((0 : Nat) : Int) = 0 from rfl] at HS0
  have HLE0 := Lib.hid (skN_le false s.data.toList)
  have HI0 := Lib.hid (sk_idem s.data.toList)
  have HT0 := Lib.hid (toks_N s.data.toList)
  rw [hT] at HT0
  have hLD := len_data s
  obtain ⟨o0, ho0⟩ : ∃ o, skN false s.data.toList = o := ⟨_, rfl⟩
  rw [ho0] at HT0 HI0 HLE0 HS0
  have HJA := Lib.hid hJ
  have HEN := Lib.hid henv
  have HYY := Lib.hid hY
  have HBL := Lib.hid hBn
  have H00 := Lib.hid h0
  have b0 : W.cell? ⟨Bn, 0, none⟩ = some (.string s) := hBn.cell 0
  have HLD := Lib.hid hLD
  clear hT ho0 hJ henv hY hBn h0 hLD
  refine callsIn_of_wp Tryz.func155 rfl hf ?_ hro
  simp only [Tryz.ntmps155, List.size_toArray, List.length_cons, List.length_nil, Nat.reduceAdd, Nat.reduceSub, Array.replicate_succ, Array.replicate_zero, List.push_toArray, List.append_toArray, List.nil_append, List.cons_append]
  gi_wp2_with fail
  refine (callsIn_wide.2 HS0.out).mono ?_
  rintro e w1 ⟨rfl, b1⟩
  have HB1 := Lib.hid b1
  clear b1 HS0
  gi_wp2_with fail
  gi_loopw [3] (fun v3 wr => ∃ (pre : List Yd) (o : Nat), v3 = .int .i64 (o : Int) ∧ ItT s T n₀ C W J pre o wr) (fun v3 _ => s.size - (intOf v3).toNat)
  case atStart =>
    refine ⟨[], o0, rfl, by have := HLE0.out; have := HLD.out; omega, HI0.out, ?_, Nat.zero_le _, (fun y h => by cases h), (fun y h => by cases h), bt_below (Bt.refl _ _ _) hn0 HB1.out, HJA.out _ _ _ none H00.out (grown_of HB1.out) (fun r e => by cases e)⟩
    rw [List.map_nil, catT_nil]; exact HT0.out
  case round =>
    obtain ⟨pre, o, rfl, hrel⟩ := hrel
    have HR := Lib.hid hrel
    have hle := hrel.le
    have b2 : wr.cell? ⟨Bn, 0, none⟩ = some (.string s) := (Blk.bt HBL.out hrel.bt hB0 hBC).cell 0
    clear hrel HT0 HI0 HLE0 b0 HB1 H00
    by_cases hlt : o < s.size
    · have h9 : (o : Int) < (s.size : Int) := by omega
      have HRD := Lib.hid (readP_any s o hlt hs wr (HEN.out wr HR.out.bt))
      have HST := Lib.hid (fun kd X a u er h => @it_step s.data.toList T o pre kd a u er X (by have := HLD.out; omega) HR.out.z HR.out.eq h)
      gi_wp2_with fail
      refine (callsIn_wide.2 HRD.out).mono ?_
      rintro e w2 hrd
      obtain ⟨kd, X, a, u, er, rfl, hg, bw⟩ := hrd.gen
      obtain ⟨hnn, hbad, hok⟩ := HST.out kd X a u er hg
      have HNN := Lib.hid hnn
      have HBAD := Lib.hid hbad
      have HOK := Lib.hid hok
      have hJ2 : J pre w2 := HJA.out _ _ _ none HR.out.inv (by exact grown_of bw) (fun r e => by cases e)
      have hJ3 : J pre (w2.alloc (.cells #[.int .i64 kd, .string X, .int .i64 a] 84)) := HJA.out _ _ _ none hJ2 (World.grownBy_alloc _ _ _) (fun r e => by cases e)
      have HBT : Hid (Bt n₀ C W (w2.alloc (.cells #[.int .i64 kd, .string X, .int .i64 a] 84))) := Lib.hid (bt_alloc (bt_below HR.out.bt hn0 bw) hn0 _)
      obtain ⟨fn, tmps, assign, body, hy, hRR⟩ := HYY.out pre ⟨kd, X, a, er⟩ _ hJ3 (by have := HR.out.len; omega)
      dsimp only [ydV] at hy
      clear hrd hg bw hnn hbad hok hJ2 hJ3 HRD HST
      by_cases her : er = 0
      · have z1 : (er != 0) = false := by rw [her]; rfl
        have z2 : (er == 0) = true := by rw [her]; rfl
        obtain ⟨on, hu, hon, hoo, hk1, hk2, hk3⟩ := HOK.out her
        subst hu
        have HSN := Lib.hid (fun w => HSK.out on (by have := HLD.out; omega) w)
        obtain ⟨o', ho'⟩ : ∃ o', on + skN false (s.data.toList.drop on) = o' := ⟨_, rfl⟩
        rw [ho'] at HSN hk1 hk2 hk3
        have HK1 := Lib.hid hk1
        have HK2 := Lib.hid hk2
        have HK3 := Lib.hid hk3
        have HOO : Hid (o < o') := Lib.hid (by omega)
        have HER := Lib.hid her
        clear ho' hk1 hk2 hk3 hoo her hon
        gi_wp2_with fail
        refine hRR.mono ?_
        rintro e W4 (⟨rfl, hJ4, hk4⟩ | ⟨rfl, hJx4⟩)
        · have HJ4 := Lib.hid hJ4
          have HBT4 := Lib.hid (HBT.out.trans hk4)
          have b4 : W4.cell? ⟨Bn, 0, none⟩ = some (.string s) := (Blk.bt HBL.out HBT4.out hB0 hBC).cell 0
          clear hJ4 hk4
          gi_wp2_with fail
          refine (callsIn_wide.2 (HSN.out _)).mono ?_
          rintro e w5 ⟨rfl, b5⟩
          have HB5 := Lib.hid b5
          clear b5
          gi_wp2
          go_roundw
          case rel =>
            refine ⟨pre ++ [⟨kd, X, a, er⟩], o', rfl, by have := HK1.out; have := HLD.out; omega, HK2.out, HK3.out, ?_, ?_, ?_, bt_below HBT4.out hn0 HB5.out, HJA.out _ _ _ none HJ4.out (by exact grown_of HB5.out) (fun r e => by cases e)⟩
            · rw [List.length_append, List.length_singleton]; have := HR.out.len; have := HOO.out; omega
            · intro y hy
              rcases List.mem_append.1 hy with h | h
              · exact HR.out.good y h
              · obtain rfl := List.mem_singleton.1 h; exact HER.out
            · intro y hy
              rcases List.mem_append.1 hy with h | h
              · exact HR.out.nn y h
              · obtain rfl := List.mem_singleton.1 h; exact ⟨HNN.out.1, HNN.out.2.1⟩
          case measure => (have := HOO.out; have := HK1.out; have := HLD.out; simp [intOf]; omega)
        · have HJX := Lib.hid hJx4
          clear hJx4
          gi_wp2
          refine bodyPost_ret (results_none rfl _ _ _) rfl ?_
          refine ⟨⟨_, rfl⟩, .inr ⟨_, ?_, HJX.out⟩⟩
          intro q x hq _ hx
          obtain ⟨_, h2⟩ := List.append_inj' hq rfl
          injection h2 with h2
          subst h2
          exact absurd HER.out hx
      · have z1 : (er != 0) = true := by rw [bne_iff_ne]; exact her
        have z2 : (er == 0) = false := by rw [beq_eq_false_iff_ne]; exact her
        have HER := Lib.hid her
        clear her
        gi_wp2_with fail
        refine hRR.mono ?_
        rintro e W4 (⟨rfl, hJ4, hk4⟩ | ⟨rfl, hJx4⟩)
        · have HJ4 := Lib.hid hJ4
          clear hJ4 hk4
          gi_wp2
          refine bodyPost_ret (results_none rfl _ _ _) rfl ?_
          refine ⟨⟨_, rfl⟩, .inl ⟨_, ?_, HJ4.out⟩⟩
          intro hgd
          exact absurd (hgd ⟨kd, X, a, er⟩ (List.mem_append_right _ (List.mem_singleton.2 rfl))) HER.out
        · have HJX := Lib.hid hJx4
          clear hJx4
          gi_wp2
          refine bodyPost_ret (results_none rfl _ _ _) rfl ?_
          refine ⟨⟨_, rfl⟩, .inr ⟨_, ?_, HJX.out⟩⟩
          intro q x hq _ hx
          obtain ⟨_, h2⟩ := List.append_inj' hq rfl
          injection h2 with h2
          subst h2
          exact ⟨HBAD.out hx, HNN.out.2.1, HNN.out.2.2⟩
    · have h9 : ¬ (o : Int) < (s.size : Int) := by omega
      have HTE : Hid (T = .inr (pre.map Yd.tk)) := Lib.hid (by
        rw [HR.out.eq, data_end (by omega)]
        show catT _ (.inr []) = _
        show Sum.inr _ = Sum.inr _
        rw [List.append_nil])
      gi_wp2
      go_end0
      exact ⟨⟨_, rfl⟩, .inl ⟨pre, fun _ => ⟨HTE.out, HR.out.nn⟩, HR.out.inv⟩⟩
theorem tokensF_any (s : ByteArray) (w : World) :
    Calls Tryz.prog 103 #[.string s] w fun e w' => e = .returned (.func (.func 155) #[] #[.pointer (some ⟨w.heap.size, 0, none⟩)]) ∧ w' = w.alloc (.cells #[.string s] 9) := by
  go_enter Tryz.func103, Tryz.ntmps103
  go_wp2
  go_ret
  exact ⟨rfl, rfl⟩
theorem tokens_stops (n : Nat) (hn : 2 ≤ n) (Bn n₀ C : Nat) (s : ByteArray) (hs : s.size ≤ 10000000) (w : World) (hB0 : Bn < n₀) (hBC : Bn ≠ C) (hn0 : n₀ ≤ w.heap.size) (henv : ∀ W', Bt n₀ C w W' → Env W')
    (hBn : Blk Bn 9 #[.string s] w) :
    SeqStopsK Fence.wide n Tryz.prog 155 #[.pointer (some ⟨Bn, 0, none⟩)] ydV (Bt n₀ C) (SY (toks s.data.toList)) (SpY (toks s.data.toList)) s.size w := fun l J Jx W hW hJ hJx hY h0 =>
  tokens1_in n hn l Bn n₀ C s hs _ rfl J Jx W hJ hB0 hBC (Nat.le_trans hn0 hW.size) (fun W' h => henv W' ((Bt.of_below (hW.mono hn0)).trans h)) hY (hBn.below hW) h0
end Go.Proofs.YtpmmchppfmojhaaGreatDoor


/- Of the program of layer 11: Tokens. -/
namespace Go.Proofs.YtpmmchppfmojhaaGreatDoor
open Go.RowKit Go.Shelf
set_option linter.unusedVariables false
attribute [local go_sem] Oper.semAt_some

theorem res_Tokens {W : World} {tm : Array Value} {B B' B'' : Nat} {a b c : Value} (t2 : tm[2]?.getD undef = .pointer (some ⟨B, 0, none⟩)) (t3 : tm[3]?.getD undef = .pointer (some ⟨B', 0, none⟩)) (t4 : tm[4]?.getD undef = .pointer (some ⟨B'', 0, none⟩))
    (a0 : W.cell? ⟨B, 0, none⟩ = some a) (a1 : W.cell? ⟨B', 0, none⟩ = some b) (a2 : W.cell? ⟨B'', 0, none⟩ = some c) :
    (results Tryz.f46 tm).run Tryz.prog W = .ok (.tuple #[a, b, c]) W := by
  simp [results, Tryz.f46, go_sem, t2, t3, t4, a0, a1, a2]
theorem Tryz.infoTP : (Tryz.prog.info? 84).map (fun i => (i.zero, i.size, i.bytes)) = some (some (.agg #[.int .i64 0, .string ⟨#[]⟩, .int .i64 0]), 3, 32) := by kernel_rfl
/-- 'out = append(out, t)' in a loop over an iterator: the box lies below what the iterator keeps, the list above. -/
theorem boxed_appended {W w1 : World} {n₀ B : Nat} {t e : TypeId} {size : Nat} {v v' : Value} {k m : Nat} {xs ys : List Value} {tmp : Obj}
    (hv : Boxed W B t v) (hte : t ≠ e) (hrow : W.ownsRow n₀ e size v k xs) (hn₀ : n₀ ≤ W.heap.size) (hown' : w1.ownsRow n₀ e size v' m ys) (hgrow : (W.alloc tmp).grownBy w1 v.ownBlock) :
    Boxed w1 B t v ∧ Boxed (w1.setCell ⟨B, 0, none⟩ v') B t v' ∧ (w1.setCell ⟨B, 0, none⟩ v').ownsRow n₀ e size v' m ys ∧ KeepsOthers W (w1.setCell ⟨B, 0, none⟩ v') ∧ Bt n₀ B W (w1.setCell ⟨B, 0, none⟩ v') := by
  have hv1 : Boxed w1 B t v := (hv.alloc tmp).kept hgrow (hv.not_row hte hrow)
  refine ⟨hv1, hv1.set v', hown'.kept (grownBy_setCell' w1 B v') (.inr (hv1.not_row hte hown').symm), ?_, ?_⟩
  · refine ((KeepsOthers.alloc W tmp).trans (KeepsOthers.of_grownBy hgrow fun j o ej hj => ?_)).trans (KeepsOthers.setCell _ _ _)
    rcases (hrow.alloc tmp).2 with ⟨rfl, _⟩ | ⟨g, cap, cur, rfl, _, hgb, _⟩
    · simp [Value.ownBlock] at ej
    · obtain rfl : g = j := by simpa [Value.ownBlock] using ej
      rw [hgb] at hj; cases hj; rfl
  · refine (Bt.of_below (((Below.refl n₀ W).alloc hn₀ tmp).grown hgrow (by simp; omega) fun j ej => ?_)).trans (Bt.setCell n₀ B w1 0 v')
    rcases hrow.2 with ⟨rfl, _⟩ | ⟨g, cap, cur, rfl, hb, _, _⟩
    · simp [Value.ownBlock] at ej
    · obtain rfl : g = j := by simpa [Value.ownBlock] using ej
      exact hb
theorem yblk_own {β : Type} (B : Nat) (t : TypeId) (f : β → Array Value) : Own (fun s W => Blk B t (f s) W) := fun s W W' row hs hg hr => by
  refine (hg.block B (Blk.lt hs) (fun e => ?_)).trans hs
  obtain ⟨o, ho, hc⟩ := hr B e.symm
  rw [show W.heap[B]? = _ from hs] at ho
  cases ho
  cases hc
theorem yblk_putObj {B : Nat} {t : TypeId} {cs : Array Value} {W : World} (h : Blk B t cs W) {D : Nat} {o : Obj} (hD : W.heap[D]? = some o) (hc : o.isCells = false) (o' : Obj) : Blk B t cs (W.putObj D o') := by
  refine (World.putObj_heap_other (fun e => ?_)).trans h
  subst e
  rw [show W.heap[B]? = _ from h] at hD
  cases hD
  cases hc
def TkIn (s : ByteArray) (g n₀ : Nat) (w : World) (pre : List Yd) (W : World) : Prop :=
  (goodY pre ∧ (∃ v, Boxed W g 80 v ∧ W.ownsRow n₀ 84 3 v pre.length (pre.flatMap encY) ∧ True) ∧ Blk (g + 1) 3 #[.int .i64 0] W ∧ Blk (g + 2) 29 #[.int .i64 0] W ∧ Blk (g + 3) 9 #[.string s] W) ∧ Below g w W
def TkEx (g : Nat) (w : World) (c : Code) (pre : List Yd) (W : World) : Prop :=
  (c = .ret ∧ ∃ q x, pre = q ++ [x] ∧ goodY q ∧ x.e ≠ 0 ∧ Blk g 80 #[.slice none 0 0] W ∧ Blk (g + 1) 3 #[.int .i64 x.a] W ∧ Blk (g + 2) 29 #[.int .i64 x.e] W) ∧ Below g w W
def set3 (W : World) (g : Nat) (a b c : Value) : World := ((W.setCell ⟨g, 0, none⟩ a).setCell ⟨g + 1, 0, none⟩ b).setCell ⟨g + 2, 0, none⟩ c
theorem set3_ok {W : World} {g : Nat} {t0 t1 t2 : TypeId} {a0 b0 c0 a b c : Value} (h0 : Boxed W g t0 a0) (h1 : Blk (g + 1) t1 #[b0] W) (h2 : Blk (g + 2) t2 #[c0] W) :
    Blk g t0 #[a] (set3 W g a b c) ∧ Blk (g + 1) t1 #[b] (set3 W g a b c) ∧ Blk (g + 2) t2 #[c] (set3 W g a b c) ∧ KeepsOthers W (set3 W g a b c) ∧ Below g W (set3 W g a b c) ∧ (∀ k, g + 2 < k → (set3 W g a b c).heap[k]? = W.heap[k]?) := by
  have h0' : Blk g t0 #[a0] W := h0
  refine ⟨?_, ?_, ?_, ?_, ?_, ?_⟩
  · exact ((h0'.put 0 a).far (p := ⟨g + 1, 0, none⟩) (by show g ≠ g + 1; omega) b).far (p := ⟨g + 2, 0, none⟩) (by show g ≠ g + 2; omega) c
  · exact ((h1.far (p := ⟨g, 0, none⟩) (by show g + 1 ≠ g; omega) a).put 0 b).far (p := ⟨g + 2, 0, none⟩) (by show g + 1 ≠ g + 2; omega) c
  · exact ((h2.far (p := ⟨g, 0, none⟩) (by show g + 2 ≠ g; omega) a).far (p := ⟨g + 1, 0, none⟩) (by show g + 2 ≠ g + 1; omega) b).put 0 c
  · exact ((KeepsOthers.setCell _ _ _).trans (KeepsOthers.setCell _ _ _)).trans (KeepsOthers.setCell _ _ _)
  · exact (((Below.refl g W).setCell (p := ⟨g, 0, none⟩) (Nat.le_refl _) _).setCell (p := ⟨g + 1, 0, none⟩) (by show g ≤ g + 1; omega) _).setCell (p := ⟨g + 2, 0, none⟩) (by show g ≤ g + 2; omega) _
  · intro k hk
    exact ((Below.heap_setCell _ _ _ k (by show k ≠ g + 2; omega)).trans (Below.heap_setCell _ _ _ k (by show k ≠ g + 1; omega))).trans (Below.heap_setCell _ _ _ k (by show k ≠ g; omega))
theorem flat_enc : ∀ ys : List Yd, nnY ys → ys.flatMap encY = (ys.map Yd.tk).flatMap encTk
  | [], _ => rfl
  | y :: ys, h => by
    obtain ⟨h1, h2⟩ := h y (by simp)
    rw [List.flatMap_cons, List.map_cons, List.flatMap_cons, flat_enc ys (fun z hz => h z (by simp [hz]))]
    congr 1
    show [Value.int .i64 y.kd, .string y.X, .int .i64 y.a] = [.int .i64 ((y.kd.toNat : Nat) : Int), .string (ofL y.X.data.toList), .int .i64 ((y.a.toNat : Nat) : Int)]
    rw [of_data, Int.toNat_of_nonneg h1, Int.toNat_of_nonneg h2]
end Go.Proofs.YtpmmchppfmojhaaGreatDoor


/- Of the program of layer 11: Tokens, whose list is the call's own. -/
namespace Go.Proofs.YtpmmchppfmojhaaGreatDoor
open Go.RowKit Go.Shelf
set_option linter.unusedVariables false
attribute [local go_sem] Oper.semAt_some

def TokPO (T : List Tok × Nat × Nat) (w : World) (e : Ending) (w' : World) : Prop :=
  ∃ v, e = .returned (.tuple #[v, .int .i64 (T.2.1 : Int), .int .i64 (T.2.2 : Int)]) ∧ Own1 3 encTk w' w.heap.size 84 v T.1 ∧ Below w.heap.size w w'
set_option maxRecDepth 1000000 in
set_option maxHeartbeats 8000000 in
theorem tokensO_any (s : ByteArray) (w : World) (hs : s.size ≤ 10000000) (E : Env w) :
    Calls Tryz.prog 46 #[.string s] w (TokPO (rT (toks s.data.toList)) w) := by
  obtain ⟨i0, hi, hz0, hz1, hz2⟩ := info_partsT Tryz.infoTP
  have HS := Lib.hid hs
  have HE := Lib.hid E
  obtain ⟨T, hT⟩ : ∃ T, toks s.data.toList = T := ⟨_, rfl⟩
  have HT := Lib.hid hT
  rw [hT]
  clear hs E hT
  refine (callsIn_wide (n := 8)).1 ?_
  have hf : Fence.wide.fn 46 := trivial
  have hfA : Fence.wide.fn 103 := trivial
  have hro : Fence.wide.round = none := rfl
  refine callsIn_of_wp_marks Tryz.func46 rfl hf ?_ hro
  simp only [Tryz.ntmps46, List.size_toArray, List.length_cons, List.length_nil, Nat.reduceAdd, Nat.reduceSub, Array.replicate_succ, Array.replicate_zero, List.push_toArray, List.append_toArray, List.nil_append, List.cons_append]
  gi_wp2_with fail
  refine (callsIn_wide.2 (tokensF_any s _)).mono ?_
  rintro e w' ⟨rfl, rfl⟩
  gi_wp2_with fail
  obtain ⟨W0, hW0⟩ : ∃ W0, (((w.alloc (.cells #[.slice none 0 0] 80)).alloc (.cells #[.int .i64 0] 3)).alloc (.cells #[.int .i64 0] 29)).alloc (.cells #[.string s] 9) = W0 := ⟨_, rfl⟩
  obtain ⟨g, hg⟩ : ∃ g, w.heap.size = g := ⟨_, rfl⟩
  have z0 : W0.heap.size = g + 4 := by rw [← hW0, ← hg]; simp
  have kb : Below g w W0 := by rw [← hW0, ← hg]; exact ((((Below.refl _ w).alloc (Nat.le_refl _) _).alloc (by simp) _).alloc (by simp; omega) _).alloc (by simp; omega) _
  have k0 : Boxed W0 g 80 (.slice none 0 0) := by rw [← hW0, ← hg]; exact (((Boxed.new w _ _).alloc _).alloc _).alloc _
  have k1 : Blk (g + 1) 3 #[.int .i64 0] W0 := by
    rw [← hW0, ← hg]
    have := Blk.new (w.alloc (.cells #[.slice none 0 0] 80)) 3 #[.int .i64 0]
    rw [World.size_alloc] at this
    exact (this.alloc _).alloc _
  have k2 : Blk (g + 2) 29 #[.int .i64 0] W0 := by
    rw [← hW0, ← hg]
    have := Blk.new ((w.alloc (.cells #[.slice none 0 0] 80)).alloc (.cells #[.int .i64 0] 3)) 29 #[.int .i64 0]
    rw [World.size_alloc, World.size_alloc] at this
    exact this.alloc _
  have k3 : Blk (g + 3) 9 #[.string s] W0 := by
    rw [← hW0, ← hg]
    have := Blk.new (((w.alloc (.cells #[.slice none 0 0] 80)).alloc (.cells #[.int .i64 0] 3)).alloc (.cells #[.int .i64 0] 29)) 9 #[.string s]
    rw [World.size_alloc, World.size_alloc, World.size_alloc] at this
    exact this
  have henv : ∀ W', Bt (g + 4) g W0 W' → Env W' := fun W' h => HE.out.below (by rw [hg]; exact kb.trans (below_bt h (by omega) (Nat.le_refl _)))
  have HG := Lib.hid hg
  rw [hW0, hg]
  simp only [Nat.add_assoc, Nat.reduceAdd]
  have hf2 : Fence.wide.fn 155 := trivial
  refine wpIn_rangeFunc_ownH hro (by omega) (gf := 155) (lb := #[.pointer (some ⟨g + 3, 0, none⟩)]) rfl hf2 (enters_of Tryz.func155 (by kernel_rfl) rfl)
    (tokens_stops _ (by omega) (g + 3) (g + 4) g s HS.out W0 (by omega) (by omega) (by omega) henv k3) Bt.trans (bt_b (by omega)) (Below.refl _ _) (fun _ => rfl)
    (TkIn s g (g + 4) w) (TkEx g w)
    (OwnFrom.and (Own.from (fun pre A B row hs hgr hr => ⟨hs.1, holdsRow_own (g + 4) g 80 84 3 (fun pre : List Yd => pre.length) (fun pre : List Yd => pre.flatMap encY) (fun _ _ => True) pre A B row hs.2.1 hgr hr, yblk_own _ _ (fun _ => _) () A B row hs.2.2.1 hgr hr, yblk_own _ _ (fun _ => _) () A B row hs.2.2.2.1 hgr hr, yblk_own _ _ (fun _ => _) () A B row hs.2.2.2.2 hgr hr⟩) _) (ownFrom_below (by omega) (by omega)))
    (fun c => OwnFrom.and (Own.from (fun pre A B row hs hgr hr => by
      obtain ⟨hc, q, x, h1, h2, h3, b1, b2, b3⟩ := hs
      exact ⟨hc, q, x, h1, h2, h3, yblk_own _ _ (fun _ => _) () A B row b1 hgr hr, yblk_own _ _ (fun _ => _) () A B row b2 hgr hr, yblk_own _ _ (fun _ => _) () A B row b3 hgr hr⟩) _) (ownFrom_below (by omega) (by omega)))
    ⟨⟨(fun y h => by cases h), ⟨_, k0, World.ownsRow_nil _ _ _ _, trivial⟩, k1, k2, k3⟩, kb⟩
    (fun x a' W => ∃ Bx, g + 4 ≤ Bx ∧ Blk Bx 84 #[.int .i64 x.kd, .string x.X, .int .i64 x.a] W ∧ a' = { tmps := #[.string s, undef, .pointer (some ⟨g, 0, none⟩), .pointer (some ⟨g + 1, 0, none⟩), .pointer (some ⟨g + 2, 0, none⟩), .pointer (some ⟨Bx, 0, none⟩), .int .i64 x.e, .string s, .func (.func 155) #[] #[.pointer (some ⟨g + 3, 0, none⟩)], .agg #[.int .i64 x.kd, .string x.X, .int .i64 x.a], .int .i64 x.e, undef, undef, undef, undef, undef, undef, undef, undef, undef, undef], defers := [] })
    (fun x a' => Own.from (fun _ A B row hs hgr hr => by
      obtain ⟨Bx, h1, h2, h3⟩ := hs
      exact ⟨Bx, h1, yblk_own _ _ (fun _ => _) () A B row h2 hgr hr, h3⟩) _) ?assign ?body ?done ?stop
  case assign =>
    rintro l pre x W K ⟨⟨h1, ⟨v, hv, hrow, _⟩, b1, b2, b3⟩, hB⟩ hK
    have hz4 : g + 4 ≤ W.heap.size := b3.lt
    have hz5 : g ≤ W.heap.size := by omega
    dsimp only [ydV]
    gi_wp2
    exact hK _ _ ((KeepsOthers.alloc _ _).from _) (bt_alloc (Bt.refl _ _ _) hz4 _) ⟨⟨h1, ⟨v, hv.alloc _, hrow.alloc _, trivial⟩, b1.alloc _, b2.alloc _, b3.alloc _⟩, hB.alloc hz5 _⟩ ⟨W.heap.size, hz4, Blk.new _ _ _, rfl⟩
  case body =>
    rintro l pre x a' W hl ⟨r, hr⟩ ⟨⟨hgd, ⟨v, hv, hrow, _⟩, b1, b2, b3⟩, hB⟩ ⟨Bx, hBx, bX, rfl⟩ hlt
    have hz4 : g + 4 ≤ W.heap.size := b3.lt
    have x0 : W.cell? ⟨Bx, 0, none⟩ = some (.int .i64 x.kd) := bX.cell 0
    have x1 : W.cell? ⟨Bx, 1, none⟩ = some (.string x.X) := bX.cell 1
    have x2 : W.cell? ⟨Bx, 2, none⟩ = some (.int .i64 x.a) := bX.cell 2
    have hc := hv.cell
    have f0 := hv.frozen
    have hsz := HS.out
    have HR0 := Lib.hid hr
    have HGD := Lib.hid hgd
    have HB1 := Lib.hid b1
    have HB2 := Lib.hid b2
    have HB3 := Lib.hid b3
    have HBB := Lib.hid hB
    clear hr hgd hB k0 k1 k2 k3 kb henv hW0
    by_cases he : x.e = 0
    · have z1 : (x.e != 0) = false := by rw [he]; rfl
      have z2 : (x.e == 0) = true := by rw [he]; rfl
      have hone : ∀ u ∈ [Value.int .i64 x.kd, .string x.X, .int .i64 x.a], u.oneCell' = true := by intro u hu; simp at hu; rcases hu with rfl | rfl | rfl <;> rfl
      have HE0 := Lib.hid he
      clear he b1 b2 b3
      gi_wp2_with (gi_at_builtin; refine wpListIn_append_own _ rfl _ _ 80 rfl (g + 4) 84 i0 (.agg #[.int .i64 0, .string ⟨#[]⟩, .int .i64 0]) 3 32 Tryz.underlying80 hi hz0 hz1 hz2 rfl (by decide) _ _ _ rfl (hrow.alloc _) ⟨W.heap.size, 0, none⟩ 1 1 [.int .i64 x.kd, .string x.X, .int .i64 x.a] rfl rfl (cells_new _ _ _) hone (by unfold maxLen; omega) (by omega) (by simp; omega) ?_; intro v' w1 hown' hgrow _; obtain ⟨g', cap', rfl⟩ := ownsRow_succ hown'; obtain ⟨hv1, hv2, hr2, hk2, hb2⟩ := boxed_appended hv (by decide) hrow hz4 hown' hgrow; have hc1 := hv1.cell; have hf1 := hv1.frozen)
      refine ⟨hk2.from _, hb2, ⟨?_, ⟨_, hv2, ?_, trivial⟩, Blk.bt HB1.out hb2 (by omega) (by omega), Blk.bt HB2.out hb2 (by omega) (by omega), Blk.bt HB3.out hb2 (by omega) (by omega)⟩, HBB.out.trans (below_bt hb2 (by omega) (Nat.le_refl _))⟩
      · intro y hy
        rcases List.mem_append.1 hy with h | h
        · exact HGD.out y h
        · obtain rfl := List.mem_singleton.1 h; exact HE0.out
      · rw [List.length_append, List.flatMap_append, List.flatMap_cons, List.flatMap_nil, List.append_nil]
        exact hr2
    · have z1 : (x.e != 0) = true := by rw [bne_iff_ne]; exact he
      have z2 : (x.e == 0) = false := by rw [beq_eq_false_iff_ne]; exact he
      have HE0 := Lib.hid he
      have r1 : W.cell? ⟨g + 1, 0, none⟩ = some (.int .i64 0) := b1.cell 0
      have r2 : W.cell? ⟨g + 2, 0, none⟩ = some (.int .i64 0) := b2.cell 0
      have f1 := b1.frozen 0
      have f2 := b2.frozen 0
      have HOK := Lib.hid (set3_ok (a := .slice none 0 0) (b := .int .i64 x.a) (c := .int .i64 x.e) hv b1 b2)
      clear he b1 b2 b3 hrow hv
      gi_wp2
      gi_region
      all_goals gi_wp2
      all_goals exact ⟨(HOK.out.2.2.2.1.trans (keeps_drewN _ 1)).from _, ⟨rfl, pre, x, rfl, HGD.out, HE0.out, HOK.out.1, HOK.out.2.1, HOK.out.2.2.1⟩, HBB.out.trans (below_drewN HOK.out.2.2.2.2.1 1)⟩
  case done =>
    rintro D ys W hD hS ⟨⟨hgd, ⟨v, hv, hrow, _⟩, b1, b2, b3⟩, hB⟩ hK
    obtain ⟨hTT, hnn⟩ := hS hgd
    have hz4 : g + 4 ≤ W.heap.size := b3.lt
    have hown : Own1 3 encTk W (g + 4) 84 v (ys.map Yd.tk) := by
      unfold Own1
      rw [List.length_map, ← flat_enc ys hnn]
      exact hrow
    obtain ⟨a, c, hvv⟩ := hown.slice
    rw [List.length_map] at hvv
    subst hvv
    have HOK := Lib.hid (set3_ok (a := .slice a ys.length c) (b := .int .i64 0) (c := .int .i64 0) hv b1 b2)
    have HOW := Lib.hid hown
    have HBB := Lib.hid hB
    have HKK := Lib.hid hK
    have HTT := Lib.hid hTT
    have r0 := hv.cell
    have f0 := hv.frozen
    have r1 : W.cell? ⟨g + 1, 0, none⟩ = some (.int .i64 0) := b1.cell 0
    have r2 : W.cell? ⟨g + 2, 0, none⟩ = some (.int .i64 0) := b2.cell 0
    have f1 := b1.frozen 0
    have f2 := b2.frozen 0
    obtain ⟨yn, hyn⟩ : ∃ n, ys.length = n := ⟨_, rfl⟩
    rw [hyn] at HOK HOW r0
    clear hK hTT hnn hS hv hrow b1 b2 b3 hB hown hyn k0 k1 k2 k3 kb henv hW0
    gi_wp2
    have hK' := HOK.out.2.2.2.1.same D _ HKK.out rfl
    refine ⟨by simp, .inl ⟨_, _, rfl, run_takeDeferred hK', ?_⟩⟩
    have g0 : _ = some (Value.slice a yn c) := (yblk_putObj HOK.out.1 hK' rfl (.deferred none)).cell 0
    have g1 : _ = some (Value.int .i64 0) := (yblk_putObj HOK.out.2.1 hK' rfl (.deferred none)).cell 0
    have g2 : _ = some (Value.int .i64 0) := (yblk_putObj HOK.out.2.2.1 hK' rfl (.deferred none)).cell 0
    refine ⟨_, res_Tokens rfl rfl rfl g0 g1 g2, ?_⟩
    rw [← HT.out, HTT.out]
    refine ⟨_, rfl, ?_, by rw [HG.out]; exact (HBB.out.trans HOK.out.2.2.2.2.1).trans (belowK_b (w := w) (by omega) _ D _ _ (by omega) hK' rfl rfl)⟩
    exact Own1.base (k := 3) (enc := encTk) (ownsRow_putObj (own_far HOW.out (fun k hk => HOK.out.2.2.2.2.2 k (by omega))) (.deferred none) hK' rfl) (by have := HG.out; omega)
  case stop =>
    rintro D c pre W hD hS ⟨⟨rfl, q, x, h1, h2, h3, b0, b1, b2⟩, hB⟩ hK
    obtain ⟨hTT, ha, he⟩ := hS q x h1 h2 h3
    have HTT := Lib.hid hTT
    have HKK := Lib.hid hK
    have HBB := Lib.hid hB
    have HA := Lib.hid ha
    have HEE := Lib.hid he
    have g0 : _ = some (Value.slice none 0 0) := (yblk_putObj b0 hK rfl (.deferred none)).cell 0
    have g1 : _ = some (Value.int .i64 x.a) := (yblk_putObj b1 hK rfl (.deferred none)).cell 0
    have g2 : _ = some (Value.int .i64 x.e) := (yblk_putObj b2 hK rfl (.deferred none)).cell 0
    clear hTT hS hK hB ha he h1 h2 h3 k0 k1 k2 k3 kb henv hW0
    gi_wp2
    refine ⟨by simp, .inl ⟨_, _, rfl, run_takeDeferred HKK.out, ?_⟩⟩
    refine ⟨_, res_Tokens rfl rfl rfl g0 g1 g2, ?_⟩
    rw [← HT.out, HTT.out]
    refine ⟨_, ?_, own1_nil _ _ _, by rw [HG.out]; exact HBB.out.trans (belowK_b (w := w) (by omega) _ D _ _ (by omega) HKK.out rfl rfl)⟩
    show Ending.returned (.tuple #[.slice none 0 0, .int .i64 x.a, .int .i64 x.e]) = .returned (.tuple #[.slice none 0 0, .int .i64 ((x.a.toNat : Nat) : Int), .int .i64 ((x.e.toNat : Nat) : Int)])
    rw [Int.toNat_of_nonneg HA.out, Int.toNat_of_nonneg HEE.out]
end Go.Proofs.YtpmmchppfmojhaaGreatDoor


