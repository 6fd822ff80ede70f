/- Regions that draw their order, inside a fence and in a round: those that only read; those that read and then end in one order. -/
import Derived.Test.YtcnjomkddbbopaaMe
import Derived.Sort.QuietIn
import Derived.StillTailTactics
namespace Go.Proofs.Ytcnjomkddbbopaa
open Go.RowKit Go.Shelf
set_option linter.unusedVariables false
theorem keeps_drewN (W : World) (n : Nat) : KeepsOthers W (W.drewN n) := ⟨Nat.le_refl _, fun _ _ h _ => h⟩
/-! ### A region that draws its order and only reads, within a round -/
section
variable {F : Fence} {n : Nat} {P : Program} {ops : Array Oper} {md : Region.Mode}
theorem oper_round {o : Oper} {a : Act} {w : World} {K : Act → World → Prop} {Q : Exit → Act → World → Prop} (l : Nat) (hro : F.round = none) (hd : ∀ c, o.op ≠ .defer c) (h : o.wpIn F n P a w K Q) : o.wpIn (F.inRound l) n P a w K Q := by
  unfold Oper.wpIn at *
  refine ⟨h.1, ?_⟩
  have h2 := h.2
  rw [Oper.semAt_eq _ _ _ hd] at h2 ⊢
  generalize (execOp a.eval o).run P w = r at *
  cases r with
  | ok x w' => cases x <;> exact h2
  | halt x w' => cases x <;> exact h2
theorem opIn_round {i : Nat} {a : Act} {w : World} {K K' : Act → World → Prop} {Q : Exit → Act → World → Prop} (l : Nat) (hro : F.round = none) (hd : ∀ (j : Nat) (o : Oper), ops[j]? = some o → ∀ c, o.op ≠ .defer c) (hK : ∀ a w, K a w → K' a w) (h : wpOpIn F n P ops Q i K a w) : wpOpIn (F.inRound l) n P ops Q i K' a w := by
  have h := wpOpIn_mono hK h
  unfold wpOpIn at *
  cases ho : ops[i]? with
  | none => simpa [ho] using h
  | some o =>
    simp only [ho] at h ⊢
    split
    · rename_i hw; simp only [hw, if_true] at h; exact oper_round l hro (hd i o ho) h
    · rename_i hw; simp only [hw] at h; exact h
theorem any_round {Q : Exit → Act → World → Prop} (l : Nat) (hro : F.round = none) (hd : ∀ (j : Nat) (o : Oper), ops[j]? = some o → ∀ c, o.op ≠ .defer c) : ∀ (fuel : Nat) (listed : Array Bool) (a : Act) (w : World), wpAnyIn F n P md ops Q fuel listed a w → wpAnyIn (F.inRound l) n P md ops Q fuel listed a w
  | 0, _, _, _, h => h
  | fuel + 1, listed, a, w, h => ⟨h.1, fun i hi => opIn_round l hro hd (fun a w h => any_round l hro hd fuel _ a w h) (h.2 i hi)⟩
def noDefer : Op → Bool
  | .defer _ => false
  | _ => true
theorem noDefer_spec {l : List Oper} (h : l.all (fun o => noDefer o.op) = true) : ∀ (j : Nat) (o : Oper), l.toArray[j]? = some o → ∀ c, o.op ≠ .defer c := by
  intro j o ho c hc
  have : o ∈ l := by rw [List.getElem?_toArray] at ho; exact List.mem_of_getElem? ho
  have := List.all_eq_true.1 h o this
  rw [hc] at this
  cases this
theorem region_quiet_round {id : Nat} {Q : Exit → Act → World → Prop} {a : Act} {w : World} {l : List Oper} (r : Nat) (hro : F.round = none) (hm : P.follows .mixedOrders = true) (hd : l.all (fun o => noDefer o.op) = true) (hB : Region.lexB .any l.toArray = true)
    (h : wpQuietIn F n P l.toArray (fun w' => ∃ n, w' = w.drewN n) (fun a' => ∀ w', (∃ n, w' = w.drewN n) → Q .normal a' w') l a) : (Code.region id l.toArray true).wpIn (F.inRound r) n P Q a w := by
  simp only [Region.lexB, Bool.and_eq_true] at hB
  refine wpIn_region_any hm (any_round r hro (noDefer_spec hd) _ _ _ _ (wpAnyIn_of_quiet (C := fun w' => ∃ n, w' = w.drewN n) (Q := fun a' => ∀ w', (∃ n, w' = w.drewN n) → Q .normal a' w') hro (fun _ w' hw' h => h w' hw') _ _ _ _ ⟨1, rfl⟩ ?_))
  have := wpAnyQIn_lex (F := F) (n := n) (C := fun w' => ∃ n, w' = w.drewN n) (md := .any) hB.1 l.toArray.toList 0 (Array.replicate l.toArray.size false) a (by simp) (by simpa using hB.2) (by simpa using h)
  simpa using this
end

/-! ### A region that draws its order and only reads, but for a last part in one order -/
def calmOp : Op → Bool
  | .move _ | .assign _ | .binOp .. | .load .. | .store .. | .indexAddr .. | .fieldAddr .. => true
  | .call c => match c.callee with
    | .builtin .max | .builtin .min | .builtin .len => true
    | _ => false
  | _ => false
theorem calm_defer {o : Oper} (h : calmOp o.op = true) : ∀ c, o.op ≠ .defer c := by
  intro c hc
  rw [hc] at h
  cases h
theorem calm_about {P : Program} {o : Oper} (h : calmOp o.op = true) (w : World) (ρ : Operand → Value) : o.about P w ρ = none := by
  unfold Oper.about
  split
  · rename_i c hc
    rw [hc] at h
    have hb : ∃ b, c.callee = .builtin b := by
      unfold calmOp at h
      dsimp only at h
      split at h
      · exact ⟨_, by assumption⟩
      · exact ⟨_, by assumption⟩
      · exact ⟨_, by assumption⟩
      · cases h
    obtain ⟨b, hb⟩ := hb
    simp [resolve, hb, Target.leads, Sem.run_pure]
  · rfl
theorem calm_enter {P : Program} {o : Oper} (h : calmOp o.op = true) (w w' : World) (ρ : Operand → Value) (f : FuncId) (args : Array Value) : (execOp ρ o).run P w ≠ .ok (.enter f args) w' := by
  have hv : ∀ s : Sem Value, ((do pure (.value (← s))) : Sem Next).run P w ≠ .ok (.enter f args) w' := by
    intro s
    rw [Sem.run_bind]
    cases s.run P w <;> simp [Result.andThen]
  have hu : ∀ s : Sem Unit, ((do s; pure .skip) : Sem Next).run P w ≠ .ok (.enter f args) w' := by
    intro s
    rw [Sem.run_bind]
    cases s.run P w <;> simp [Result.andThen]
  have hr : ∀ r : Result Value, (r.andThen fun a w' => Result.ok (Next.value a) w') ≠ .ok (.enter f args) w' := by intro r; cases r <;> simp [Result.andThen]
  cases ho : o.op <;> rw [ho] at h <;> first | (cases h; done) | skip
  case move x => unfold execOp; rw [ho]; simp
  case assign x => unfold execOp; rw [ho]; simp
  case binOp => unfold execOp; rw [ho]; exact hv _
  case load => unfold execOp; rw [ho]; exact hv _
  case store => unfold execOp; rw [ho]; exact hu _
  case indexAddr => unfold execOp; rw [ho]; exact hv _
  case fieldAddr => unfold execOp; rw [ho]; exact hv _
  case call c =>
    unfold execOp; rw [ho]
    unfold calmOp at h
    dsimp only at h
    split at h
    · rename_i hc; simp only [resolve, hc, Sem.run_bind, Sem.run_pure, Result.andThen_ok, invoke, builtin]; exact hr _
    · rename_i hc; simp only [resolve, hc, Sem.run_bind, Sem.run_pure, Result.andThen_ok, invoke, builtin]; exact hr _
    · rename_i hc; simp only [resolve, hc, Sem.run_bind, Sem.run_pure, Result.andThen_ok, invoke, builtin]; exact hr _
    · cases h
section
variable {F : Fence} {n : Nat} {P : Program} {ops : Array Oper} {md : Region.Mode} {w : World}
theorem operIn_of_still {o : Oper} {a : Act} {K : Act → Prop} {K' : Act → World → Prop} {Q' : Exit → Act → World → Prop} (hc : calmOp o.op = true) (h : ∀ a, K a → K' a w) (hh : o.still P a w K) : o.wpIn F n P a w K' Q' := by
  unfold Oper.wpIn
  refine ⟨(fun f hf => by rw [calm_about hc] at hf; cases hf), ?_⟩
  rw [Oper.semAt_eq _ _ _ (calm_defer hc)]
  have hne : ∀ w' f args, (execOp a.eval o).run P w ≠ .ok (.enter f args) w' := fun w' f args => calm_enter (P := P) hc w w' _ f args
  unfold Oper.still at hh
  generalize (execOp a.eval o).run P w = r at *
  cases r with
  | ok x w' =>
    cases x <;> simp only [Oper.stillUpon] at hh <;> simp only [Oper.uponIn]
    case value v => obtain ⟨e1, e2⟩ := hh; rw [e1]; exact h _ e2
    case skip => obtain ⟨e1, e2⟩ := hh; rw [e1]; exact h _ e2
    case enter f args => exact absurd rfl (hne w' f args)
  | halt x w' => simp only [Oper.stillUpon] at hh
theorem opIn_of_stOp {i : Nat} {a : Act} {K : Act → Prop} {K' : Act → World → Prop} {Q' : Exit → Act → World → Prop} (hc : ∀ (j : Nat) (o : Oper), ops[j]? = some o → calmOp o.op = true) (h : ∀ a, K a → K' a w) (hh : stOp P ops w i K a) : wpOpIn F n P ops Q' i K' a w := by
  unfold stOp at hh
  unfold wpOpIn
  cases ho : ops[i]? with
  | none => simp only [ho] at hh ⊢; exact h _ hh
  | some o =>
    simp only [ho] at hh ⊢
    split
    · rename_i hw; simp only [hw, if_true] at hh; exact operIn_of_still (hc i o ho) h hh
    · rename_i hw; simp only [hw] at hh; exact ⟨(fun f hf => by rw [calm_about (hc i o ho)] at hf; cases hf), h _ hh⟩
theorem anyIn_of_head {k g : Nat} {L : Array Bool → Act → Prop} {Q' : Exit → Act → World → Prop} (hc : ∀ (j : Nat) (o : Oper), ops[j]? = some o → calmOp o.op = true) (hL : ∀ listed a, L listed a → wpAnyIn F n P md ops Q' g listed a w) :
    ∀ (f : Nat) (listed : Array Bool) (a : Act), wpAnyL P md ops w k L f listed a → wpAnyIn F n P md ops Q' (f + g) listed a w
  | 0, listed, a, h => by rw [Nat.zero_add]; exact hL _ _ h
  | f + 1, listed, a, h => by
    rw [show f + 1 + g = (f + g) + 1 by omega]
    exact ⟨fun h0 => absurd h0 h.1, fun i hi => opIn_of_stOp hc (fun a' h' => anyIn_of_head hc hL f _ a' h') (h.2 i hi).2⟩
theorem anyIn_of_seq {Q' : Exit → Act → World → Prop} : ∀ (l : List Oper) (k : Nat) (listed : Array Bool) (a : Act) (w : World), (∀ j, l[j]? = ops[k + j]?) →
    Region.seqB md ops l.length k listed = true → wpListIn F n P ops Q' l a w → wpAnyIn F n P md ops Q' l.length listed a w
  | [], _, _, _, _, _, hB, h => ⟨by simpa [Region.seqB] using hB, h⟩
  | o :: l, k, listed, a, w, hl, hB, h => by
    have h0 : ops[k]? = some o := by simpa using (hl 0).symm
    simp only [List.length_cons, Region.seqB, Bool.and_eq_true, decide_eq_true_eq] at hB
    refine ⟨fun h1 => (by rw [hB.1] at h1; cases h1), fun i hi => ?_⟩
    rw [hB.1] at hi
    have hik : i = k := by simpa using hi
    subst hik
    have hw : wpOpIn F n P ops Q' i (wpListIn F n P ops Q' l) a w := by unfold wpOpIn; simp only [h0]; exact h
    exact wpOpIn_mono (fun a' w' h' => anyIn_of_seq l (i + 1) _ a' w' (fun j => by have := hl (j + 1); simpa [Nat.add_assoc, Nat.add_comm 1 j] using this) hB.2 h') hw
theorem still_of_quiet {F' : Fence} {m : Nat} {C : World → Prop} {o : Oper} {a : Act} {K : Act → Prop} (hc : calmOp o.op = true) (hC : C w) (h : o.quietIn F' m P a C K) : o.still P a w K := by
  obtain ⟨v, h1, h2⟩ := h
  have h3 := h1 w hC
  have hne : ∀ w' f args, (execOp a.eval o).run P w ≠ .ok (.enter f args) w' := fun w' f args => calm_enter (P := P) hc w w' _ f args
  unfold Oper.quietAtIn at h3
  unfold Oper.still
  generalize (execOp a.eval o).run P w = r at *
  cases r with
  | ok x w' =>
    cases x <;> simp only [Oper.quietUponIn] at h3 <;> simp only [Oper.stillUpon]
    case value u => exact ⟨h3.1, by rw [h3.2]; exact h2⟩
    case skip => exact ⟨h3.1, by rw [← h3.2]; exact h2⟩
    case enter f args => exact absurd rfl (hne w' f args)
  | halt x w' => simp only [Oper.quietUponIn] at h3
theorem wpStill_of_quiet {F' : Fence} {m : Nat} {C : World → Prop} {Q : Act → Prop} (hC : C w) : ∀ (l : List Oper) (a : Act), l.all (fun o => calmOp o.op) = true → wpQuietIn F' m P ops C Q l a → wpStill P ops w Q l a
  | [], _, _, h => h
  | o :: l, a, hc, h => by
    simp only [List.all_cons, Bool.and_eq_true] at hc
    obtain ⟨_, h⟩ := h
    unfold wpStill
    split
    · rename_i hw
      simp only [hw, if_true] at h
      exact Oper.still_mono (fun a h => wpStill_of_quiet hC l a hc.2 h) (still_of_quiet hc.1 hC h)
    · rename_i hw
      simp only [hw] at h
      exact wpStill_of_quiet hC l _ hc.2 h
theorem region_tail_in {id : Nat} {Q : Exit → Act → World → Prop} {a : Act} {l : List Oper} (k : Nat) (hm : P.follows .mixedOrders = true) (hcalm : l.all (fun o => calmOp o.op) = true) (hB : Region.lexTailB .any l.toArray k = true)
    {F' : Fence} {m : Nat} (h : wpQuietIn F' m P l.toArray (fun w' => ∃ n, w' = w.drewN n) (fun a' => wpListIn F n P l.toArray Q (l.drop k) a' (w.drewN 1)) (l.take k) a) : (Code.region id l.toArray true).wpIn F n P Q a w := by
  have hallt : (l.take k).all (fun o => calmOp o.op) = true := List.all_eq_true.2 fun o ho => List.all_eq_true.1 hcalm o (List.mem_of_mem_take ho)
  have h := wpStill_of_quiet (w := w.drewN 1) ⟨1, rfl⟩ _ _ hallt h
  simp only [Region.lexTailB, Bool.and_eq_true, decide_eq_true_eq] at hB
  obtain ⟨⟨⟨⟨hsel, hn⟩, hs⟩, hc⟩, hlex⟩ := hB
  have hn' : k < l.length := by simpa using hn
  have htl : (l.take k).length = k := by simp; omega
  have hdl : (l.drop k).length = l.toArray.size - k := by simp
  have hcc : ∀ (j : Nat) (o : Oper), l.toArray[j]? = some o → calmOp o.op = true := by
    intro j o ho
    have : o ∈ l := by rw [List.getElem?_toArray] at ho; exact List.mem_of_getElem? ho
    exact List.all_eq_true.1 hcalm o this
  have inv0 : HeadInv .any l.toArray k (Array.replicate l.toArray.size false) :=
    ⟨by simp, fun j oj _ hl => (by rw [getD_replicate_false] at hl; cases hl), fun t _ ht => getD_in (by simpa using ht) (getD_replicate_false _ _)⟩
  have H := wpAnyL_lex (md := .any) (g := l.toArray.size - k) hsel hs hc hn (l.take k) 0 _ a (fun j hj => by
    have hj' : j < k := by rw [htl] at hj; exact hj
    simp [hj']) (by simpa using htl) inv0 (by rw [htl]; exact hlex) h
  refine wpIn_region_any hm ?_
  have := anyIn_of_head (F := F) (n := n) (Q' := Q) (g := l.toArray.size - k) hcc (fun listed a' hL => by
    have := anyIn_of_seq (F := F) (n := n) (md := .any) (Q' := Q) (l.drop k) k listed a' (w.drewN 1) (fun j => by simp [List.getElem?_drop]) (by rw [hdl]; exact hL.1) hL.2
    rwa [hdl] at this) _ _ _ H
  rw [htl, show k + (l.toArray.size - k) = l.toArray.size by omega] at this
  exact this
end

end Go.Proofs.Ytcnjomkddbbopaa
