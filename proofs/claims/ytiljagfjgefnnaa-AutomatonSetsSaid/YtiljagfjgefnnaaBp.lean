/- Plain: splitting the blocks that have marked states; refinement. -/
import Derived.Test.YtiljagfjgefnnaaBo
namespace Go.Proofs.Ytiljagfjgefnnaa
set_option linter.unusedVariables false

/-- A part of block i becomes a new block. -/
def cutP (p : Ptn) (i u v x y : Nat) : Ptn := ⟨p.o, p.q, fun s => if u ≤ p.q s ∧ p.q s < v then p.l.length else p.b s, p.l.set i ⟨x, y, 0⟩ ++ [⟨u, v, 0⟩], p.c⟩
def clearP (p : Ptn) (i : Nat) : Ptn := ⟨p.o, p.q, p.b, p.l.set i ⟨(p.at_ i).f, (p.at_ i).t, 0⟩, p.c⟩
def split1 (p : Ptn) (i : Nat) : Ptn :=
  let b := p.at_ i
  if b.t - (b.f + b.k) = 0 then clearP p i
  else if b.k < b.t - (b.f + b.k) then cutP p i b.f (b.f + b.k) (b.f + b.k) b.t
  else cutP p i (b.f + b.k) b.t b.f (b.f + b.k)
def Parts (b : Bk) (u v x y : Nat) : Prop := (u = b.f ∧ v = b.f + b.k ∧ x = b.f + b.k ∧ y = b.t) ∨ (u = b.f + b.k ∧ v = b.t ∧ x = b.f ∧ y = b.f + b.k)
section
variable {n : Nat} {p : Ptn} {i u v x y : Nat}
theorem clear_at (hi : i < p.l.length) (j : Nat) : (clearP p i).at_ j = if j = i then ⟨(p.at_ i).f, (p.at_ i).t, 0⟩ else p.at_ j := getD_set hi
theorem clear_len : (clearP p i).l.length = p.l.length := by show (p.l.set _ _).length = _; simp
theorem cut_len : (cutP p i u v x y).l.length = p.l.length + 1 := by show (p.l.set _ _ ++ [_]).length = _; simp
theorem cut_at (hi : i < p.l.length) (j : Nat) : (cutP p i u v x y).at_ j = if j = i then ⟨x, y, 0⟩ else if j = p.l.length then ⟨u, v, 0⟩ else p.at_ j := by
  show (p.l.set i _ ++ [_]).getD j _ = _
  rcases Nat.lt_trichotomy j p.l.length with h | h | h
  · rw [getD_app (by simpa using h), getD_set hi]
    by_cases e : j = i
    · rw [if_pos e, if_pos e]
    · rw [if_neg e, if_neg e, if_neg (by omega)]
      rfl
  · have : j = (p.l.set i ⟨x, y, 0⟩).length := by simp [h]
    rw [this, getD_end, ← this, if_neg (by omega), if_pos h]
  · rw [List.getD_eq_getElem?_getD, List.getElem?_eq_none (by simp; omega), if_neg (by omega), if_neg (by omega)]
    unfold Ptn.at_
    rw [List.getD_eq_getElem?_getD, List.getElem?_eq_none (by omega)]
theorem clear_pb (h : PB n p) (hi : i < p.l.length) : PB n (clearP p i) := by
  have hf : ∀ j, ((clearP p i).at_ j).f = (p.at_ j).f ∧ ((clearP p i).at_ j).t = (p.at_ j).t := fun j => by
    rw [clear_at hi]
    by_cases e : j = i
    · rw [if_pos e, e]; exact ⟨rfl, rfl⟩
    · rw [if_neg e]; exact ⟨rfl, rfl⟩
  refine ⟨h.q_, h.o_, fun j hj => ?_, fun s hs => ?_, fun a j ha hj h1 h2 => ?_⟩
  · rw [clear_len] at hj
    have hl := h.l_ j hj
    rw [(hf j).1, (hf j).2]
    refine ⟨hl.1, hl.2.1, ?_⟩
    rw [clear_at hi]
    by_cases e : j = i
    · rw [if_pos e]; dsimp only; omega
    · rw [if_neg e]; exact hl.2.2
  · rw [clear_len, (hf _).1, (hf _).2]
    exact h.b_ s hs
  · rw [clear_len] at hj
    rw [(hf _).1] at h1
    rw [(hf _).2] at h2
    exact h.u_ a j ha hj h1 h2
/-- Who lies within the part lies in the block. -/
theorem part_in (h : PB n p) (hi : i < p.l.length) {s : Nat} (hs : s < n) (h1 : (p.at_ i).f ≤ p.q s) (h2 : p.q s < (p.at_ i).t) : p.b s = i := by
  have := h.u_ (p.q s) i (h.q_ s hs).1 hi h1 h2
  rwa [(h.q_ s hs).2] at this
theorem cut_pb (h : PB n p) (hi : i < p.l.length) (hk0 : 0 < (p.at_ i).k) (hk1 : (p.at_ i).f + (p.at_ i).k < (p.at_ i).t) (hp : Parts (p.at_ i) u v x y) : PB n (cutP p i u v x y) := by
  have hli := h.l_ i hi
  have hu : (p.at_ i).f ≤ u ∧ v ≤ (p.at_ i).t ∧ u < v ∧ (p.at_ i).f ≤ x ∧ y ≤ (p.at_ i).t ∧ x < y := by rcases hp with ⟨rfl, rfl, rfl, rfl⟩ | ⟨rfl, rfl, rfl, rfl⟩ <;> omega
  have hcov : ∀ a, (p.at_ i).f ≤ a → a < (p.at_ i).t → (u ≤ a ∧ a < v) ∨ (x ≤ a ∧ a < y ∧ ¬ (u ≤ a ∧ a < v)) := by rcases hp with ⟨rfl, rfl, rfl, rfl⟩ | ⟨rfl, rfl, rfl, rfl⟩ <;> intro a _ _ <;> omega
  have hdis : ∀ a, x ≤ a → a < y → ¬ (u ≤ a ∧ a < v) := by rcases hp with ⟨rfl, rfl, rfl, rfl⟩ | ⟨rfl, rfl, rfl, rfl⟩ <;> intro a _ _ <;> omega
  refine ⟨h.q_, h.o_, fun j hj => ?_, fun s hs => ?_, fun a j ha hj h1 h2 => ?_⟩
  · rw [cut_len] at hj
    rw [cut_at hi]
    by_cases e : j = i
    · rw [if_pos e]; dsimp only; omega
    · rw [if_neg e]
      by_cases e2 : j = p.l.length
      · rw [if_pos e2]; dsimp only; omega
      · rw [if_neg e2]
        exact h.l_ j (by omega)
  · have hb := h.b_ s hs
    rw [cut_len]
    show (cutP p i u v x y).b s < p.l.length + 1 ∧ ((cutP p i u v x y).at_ ((cutP p i u v x y).b s)).f ≤ p.q s ∧ p.q s < ((cutP p i u v x y).at_ ((cutP p i u v x y).b s)).t
    by_cases e : u ≤ p.q s ∧ p.q s < v
    · have e1 : (cutP p i u v x y).b s = p.l.length := if_pos e
      rw [e1, cut_at hi, if_neg (by omega), if_pos rfl]
      exact ⟨by omega, e.1, e.2⟩
    · have e1 : (cutP p i u v x y).b s = p.b s := if_neg e
      rw [e1, cut_at hi]
      by_cases e2 : p.b s = i
      · rw [if_pos e2]
        rw [e2] at hb
        have := hcov (p.q s) hb.2.1 hb.2.2
        refine ⟨by omega, ?_, ?_⟩ <;> dsimp only <;> omega
      · rw [if_neg e2, if_neg (by omega)]
        exact ⟨by omega, hb.2⟩
  · rw [cut_len] at hj
    rw [cut_at hi] at h1 h2
    have hq := h.o_ a ha
    show (if u ≤ p.q (p.o a) ∧ p.q (p.o a) < v then p.l.length else p.b (p.o a)) = j
    rw [hq.2]
    by_cases e : j = i
    · rw [if_pos e] at h1 h2
      dsimp only at h1 h2
      rw [if_neg (hdis a h1 h2), e]
      exact h.u_ a i ha hi (by omega) (by omega)
    · rw [if_neg e] at h1 h2
      by_cases e2 : j = p.l.length
      · rw [if_pos e2] at h1 h2
        dsimp only at h1 h2
        rw [if_pos ⟨h1, h2⟩, e2]
      · rw [if_neg e2] at h1 h2
        have hb := h.u_ a j ha (by omega) h1 h2
        by_cases e3 : u ≤ a ∧ a < v
        · exfalso
          have hb2 := h.u_ a i ha hi (by omega) (by omega)
          omega
        · rw [if_neg e3]
          exact hb
theorem cut_b (h : PB n p) (hi : i < p.l.length) (hk0 : 0 < (p.at_ i).k) (hk1 : (p.at_ i).f + (p.at_ i).k < (p.at_ i).t) (hp : Parts (p.at_ i) u v x y) {s t : Nat} (hs : s < n) (ht : t < n) :
    ((cutP p i u v x y).b s = (cutP p i u v x y).b t ↔ p.b s = p.b t ∧ (p.b s = i → (p.q s < (p.at_ i).f + (p.at_ i).k ↔ p.q t < (p.at_ i).f + (p.at_ i).k))) := by
  have hbs := h.b_ s hs
  have hbt := h.b_ t ht
  have key : ∀ {a}, a < n → ((u ≤ p.q a ∧ p.q a < v) ↔ p.b a = i ∧ ((u = (p.at_ i).f) = (p.q a < (p.at_ i).f + (p.at_ i).k))) := by
    intro a ha
    have hba := h.b_ a ha
    have hpi := @part_in n p i h hi a ha
    by_cases e : p.b a = i
    · rw [e] at hba
      rcases hp with ⟨rfl, rfl, rfl, rfl⟩ | ⟨rfl, rfl, rfl, rfl⟩
      · simp [e]; omega
      · have : ¬ ((p.at_ i).f + (p.at_ i).k = (p.at_ i).f) := by omega
        simp [e, this]; omega
    · have : ¬ (u ≤ p.q a ∧ p.q a < v) := fun h5 => e (hpi (by rcases hp with ⟨rfl, rfl, rfl, rfl⟩ | ⟨rfl, rfl, rfl, rfl⟩ <;> omega) (by rcases hp with ⟨rfl, rfl, rfl, rfl⟩ | ⟨rfl, rfl, rfl, rfl⟩ <;> omega))
      simp [e, this]
  show ((if u ≤ p.q s ∧ p.q s < v then p.l.length else p.b s) = (if u ≤ p.q t ∧ p.q t < v then p.l.length else p.b t)) ↔ _
  have ks := key hs
  have kt := key ht
  by_cases es : u ≤ p.q s ∧ p.q s < v <;> by_cases et : u ≤ p.q t ∧ p.q t < v
  · rw [if_pos es, if_pos et]
    have a1 := ks.1 es
    have a2 := kt.1 et
    refine ⟨fun _ => ⟨by rw [a1.1, a2.1], fun _ => ?_⟩, fun _ => rfl⟩
    rw [← a1.2, ← a2.2]
  · rw [if_pos es, if_neg et]
    have a1 := ks.1 es
    refine ⟨fun e => by omega, fun e => ?_⟩
    exfalso
    refine et (kt.2 ⟨by rw [← e.1, a1.1], ?_⟩)
    rw [a1.2]
    exact propext (e.2 a1.1)
  · rw [if_neg es, if_pos et]
    have a2 := kt.1 et
    refine ⟨fun e => by omega, fun e => ?_⟩
    exfalso
    refine es (ks.2 ⟨by rw [e.1, a2.1], ?_⟩)
    rw [a2.2]
    exact (propext (e.2 (by rw [e.1, a2.1]))).symm
  · rw [if_neg es, if_neg et]
    refine ⟨fun e => ⟨e, fun e2 => ?_⟩, fun e => e.1⟩
    have b1 : ¬ ((u = (p.at_ i).f) = (p.q s < (p.at_ i).f + (p.at_ i).k)) := fun h5 => es (ks.2 ⟨e2, h5⟩)
    have b2 : ¬ ((u = (p.at_ i).f) = (p.q t < (p.at_ i).f + (p.at_ i).k)) := fun h5 => et (kt.2 ⟨by rw [← e, e2], h5⟩)
    simp only [eq_iff_iff] at b1 b2
    by_cases c0 : u = (p.at_ i).f
    · have d1 : ¬ p.q s < (p.at_ i).f + (p.at_ i).k := fun h5 => b1 ⟨fun _ => h5, fun _ => c0⟩
      have d2 : ¬ p.q t < (p.at_ i).f + (p.at_ i).k := fun h5 => b2 ⟨fun _ => h5, fun _ => c0⟩
      exact ⟨fun h5 => absurd h5 d1, fun h5 => absurd h5 d2⟩
    · have d1 : p.q s < (p.at_ i).f + (p.at_ i).k := Classical.byContradiction fun h5 => b1 ⟨fun h6 => absurd h6 c0, fun h6 => absurd h6 h5⟩
      have d2 : p.q t < (p.at_ i).f + (p.at_ i).k := Classical.byContradiction fun h5 => b2 ⟨fun h6 => absurd h6 c0, fun h6 => absurd h6 h5⟩
      exact ⟨fun _ => d2, fun _ => d1⟩
end
/-- While the touched blocks are split: those of P are done. -/
structure SI (n : Nat) (p0 p : Ptn) (P : List Nat) : Prop where
  pb : PB n p
  o_ : p.o = p0.o
  q_ : p.q = p0.q
  len : p0.l.length ≤ p.l.length
  same : ∀ j, j < p0.l.length → j ∉ P → p.at_ j = p0.at_ j
  zero : ∀ j, j < p.l.length → (j ∈ P ∨ p0.l.length ≤ j) → (p.at_ j).k = 0
  cls : ∀ s t, s < n → t < n → (p.b s = p.b t ↔ p0.b s = p0.b t ∧ (p0.b s ∈ P → (Mk p0 s ↔ Mk p0 t)))
  new_ : ∀ s, s < n → p.b s = p0.b s ∨ p0.l.length ≤ p.b s
  keep : ∀ s, s < n → p0.b s ∉ P → p.b s = p0.b s
theorem si_start {n : Nat} {p : Ptn} (h : PB n p) : SI n p p [] := by
  refine ⟨h, rfl, rfl, Nat.le_refl _, fun _ _ _ => rfl, fun j hj h2 => ?_, fun s t _ _ => ⟨fun e => ⟨e, fun h => by cases h⟩, fun e => e.1⟩, fun _ _ => .inl rfl, fun _ _ _ => rfl⟩
  rcases h2 with h2 | h2
  · cases h2
  · omega
theorem split1_c (p : Ptn) (i : Nat) : (split1 p i).c = p.c := by
  unfold split1
  dsimp only
  split
  · rfl
  · split <;> rfl
theorem SI.step {n : Nat} {p0 p : Ptn} {P : List Nat} (h : SI n p0 p P) (h0 : PB n p0) {i : Nat} (hi : i < p0.l.length) (hP : i ∉ P) (hk : 0 < (p0.at_ i).k) : SI n p0 (split1 p i) (P ++ [i]) := by
  have hat := h.same i hi hP
  have him : i < p.l.length := Nat.lt_of_lt_of_le hi h.len
  have hb : ∀ {s}, s < n → (p.b s = i ↔ p0.b s = i) := fun {s} hs => by
    have h1 := h.new_ s hs
    refine ⟨fun e => ?_, fun e => ?_⟩
    · rcases h1 with h1 | h1
      · rw [← h1]; exact e
      · omega
    · rw [h.keep s hs (by rw [e]; exact hP)]; exact e
  have hmk : ∀ {s}, s < n → p0.b s = i → (p.q s < (p.at_ i).f + (p.at_ i).k ↔ Mk p0 s) := fun {s} hs e => by
    unfold Mk
    rw [e, hat, h.q_]
  have hli := h.pb.l_ i him
  -- what the classes become
  have main : ∀ p' : Ptn, PB n p' → p'.o = p.o → p'.q = p.q → p.l.length ≤ p'.l.length →
      (∀ j, j < p.l.length → j ≠ i → p'.at_ j = p.at_ j) → (∀ j, j < p'.l.length → (j = i ∨ p.l.length ≤ j) → (p'.at_ j).k = 0) →
      (∀ s t, s < n → t < n → (p'.b s = p'.b t ↔ p.b s = p.b t ∧ (p.b s = i → (p.q s < (p.at_ i).f + (p.at_ i).k ↔ p.q t < (p.at_ i).f + (p.at_ i).k)))) →
      (∀ s, s < n → p'.b s = p.b s ∨ p.l.length ≤ p'.b s) → (∀ s, s < n → p.b s ≠ i → p'.b s = p.b s) → SI n p0 p' (P ++ [i]) := by
    intro p' hpb ho hq hlen hsame hzero hcls hnew hkeep
    refine ⟨hpb, ho.trans h.o_, hq.trans h.q_, Nat.le_trans h.len hlen, fun j hj hn => ?_, fun j hj h2 => ?_, fun s t hs ht => ?_, fun s hs => ?_, fun s hs hn => ?_⟩
    · have : j ∉ P ∧ j ≠ i := by simpa using hn
      rw [hsame j (Nat.lt_of_lt_of_le hj h.len) this.2]
      exact h.same j hj this.1
    · by_cases e : j = i ∨ p.l.length ≤ j
      · exact hzero j hj e
      · have e1 : j ≠ i := fun e2 => e (.inl e2)
        have e2 : j < p.l.length := Nat.lt_of_not_le fun e3 => e (.inr e3)
        rw [hsame j e2 e1]
        refine h.zero j e2 ?_
        rcases h2 with h2 | h2
        · simp at h2
          rcases h2 with h2 | h2
          · exact .inl h2
          · exact absurd h2 e1
        · exact .inr h2
    · rw [hcls s t hs ht, h.cls s t hs ht]
      constructor
      · rintro ⟨⟨a1, a2⟩, a3⟩
        refine ⟨a1, fun hm => ?_⟩
        simp at hm
        rcases hm with hm | hm
        · exact a2 hm
        · have := a3 ((hb hs).2 hm)
          rw [hmk hs hm, hmk ht (by rw [← a1]; exact hm)] at this
          exact this
      · rintro ⟨a1, a2⟩
        refine ⟨⟨a1, fun hm => a2 (by simp [hm])⟩, fun e => ?_⟩
        have e0 := (hb hs).1 e
        rw [hmk hs e0, hmk ht (by rw [← a1]; exact e0)]
        exact a2 (by simp [e0])
    · have hl := h.len
      rcases hnew s hs with e | e
      · rw [e]; exact h.new_ s hs
      · right; omega
    · have : p0.b s ∉ P ∧ p0.b s ≠ i := by simpa using hn
      rw [hkeep s hs (fun e => this.2 ((hb hs).1 e))]
      exact h.keep s hs this.1
  have hk' : 0 < (p.at_ i).k := by rw [hat]; exact hk
  unfold split1
  dsimp only
  split
  · rename_i h5
    refine main _ (clear_pb h.pb him) rfl rfl (by rw [clear_len]; exact Nat.le_refl _) (fun j hj e => by rw [clear_at him, if_neg e]) (fun j hj e => ?_) (fun s t hs ht => ?_) (fun s hs => .inl rfl) (fun s hs _ => rfl)
    · rw [clear_len] at hj
      rw [clear_at him, if_pos (by omega)]
    · refine ⟨fun e => ⟨e, fun e2 => ?_⟩, fun e => e.1⟩
      have b1 := h.pb.b_ s hs
      have b2 := h.pb.b_ t ht
      have e : p.b s = p.b t := e
      rw [← e] at b2
      rw [e2] at b1 b2
      constructor <;> intro _ <;> omega
  · rename_i h5
    have hcut : ∀ u v x y, Parts (p.at_ i) u v x y → SI n p0 (cutP p i u v x y) (P ++ [i]) := fun u v x y hp => by
      refine main _ (cut_pb h.pb him hk' (by omega) hp) rfl rfl (by rw [cut_len]; omega) (fun j hj e => by rw [cut_at him, if_neg e, if_neg (by omega)]) (fun j hj e => ?_) (fun s t hs ht => cut_b h.pb him hk' (by omega) hp hs ht) (fun s hs => ?_) (fun s hs e => ?_)
      · rw [cut_len] at hj
        rw [cut_at him]
        by_cases e1 : j = i
        · rw [if_pos e1]
        · rw [if_neg e1, if_pos (by omega)]
      · show (if _ then _ else _) = _ ∨ _ ≤ (if _ then _ else _)
        by_cases e1 : u ≤ p.q s ∧ p.q s < v
        · rw [if_pos e1]; exact .inr (Nat.le_refl _)
        · rw [if_neg e1]; exact .inl rfl
      · show (if _ then _ else _) = _
        rw [if_neg]
        intro e1
        exact e (part_in h.pb him hs (by rcases hp with ⟨rfl, rfl, rfl, rfl⟩ | ⟨rfl, rfl, rfl, rfl⟩ <;> omega) (by rcases hp with ⟨rfl, rfl, rfl, rfl⟩ | ⟨rfl, rfl, rfl, rfl⟩ <;> omega))
    split
    · exact hcut _ _ _ _ (.inl ⟨rfl, rfl, rfl, rfl⟩)
    · exact hcut _ _ _ _ (.inr ⟨rfl, rfl, rfl, rfl⟩)
/-- What is left behind a split: no marks, and the classes parted by them. -/
structure SP (n : Nat) (p0 p : Ptn) : Prop where
  pb : PB n p
  tc : p.c = []
  zero : ∀ j, j < p.l.length → (p.at_ j).k = 0
  len : p0.l.length ≤ p.l.length
  cls : ∀ s t, s < n → t < n → (p.b s = p.b t ↔ p0.b s = p0.b t ∧ (Mk p0 s ↔ Mk p0 t))
  new_ : ∀ s, s < n → p.b s = p0.b s ∨ p0.l.length ≤ p.b s
def noC (p : Ptn) : Ptn := ⟨p.o, p.q, p.b, p.l, []⟩
theorem SI.done {n : Nat} {p0 p : Ptn} (h : SI n p0 p p0.c) (h0 : PB n p0) (hc : TC p0) : SP n p0 (noC p) := by
  refine ⟨⟨h.pb.q_, h.pb.o_, h.pb.l_, h.pb.b_, h.pb.u_⟩, rfl, fun j hj => ?_, h.len, fun s t hs ht => ?_, h.new_⟩
  · by_cases e : j ∈ p0.c ∨ p0.l.length ≤ j
    · exact h.zero j hj e
    · have e1 : j ∉ p0.c := fun e2 => e (.inl e2)
      have e2 : j < p0.l.length := Nat.lt_of_not_le fun e3 => e (.inr e3)
      show (p.at_ j).k = 0
      rw [h.same j e2 e1]
      have := mt (hc.iff_ j e2).2 e1
      omega
  · show p.b s = p.b t ↔ _
    rw [h.cls s t hs ht]
    refine ⟨fun e => ⟨e.1, ?_⟩, fun e => ⟨e.1, fun _ => e.2⟩⟩
    by_cases hm : p0.b s ∈ p0.c
    · exact e.2 hm
    · have hbs := h0.b_ s hs
      have hbt := h0.b_ t ht
      have hz := mt (hc.iff_ _ hbs.1).2 hm
      unfold Mk
      rw [← e.1] at hbt ⊢
      constructor <;> intro _ <;> omega
theorem tc_nil {p : Ptn} (hc : p.c = []) (hz : ∀ j, j < p.l.length → (p.at_ j).k = 0) : TC p := ⟨by rw [hc]; exact List.nodup_nil, fun i hi => by (rw [hc] at hi; cases hi), fun i hi => by
  rw [hc, hz i hi]
  exact ⟨fun h => (by cases h), fun h => (by omega)⟩⟩
theorem no_mk {n : Nat} {p : Ptn} (h : PB n p) (hz : ∀ j, j < p.l.length → (p.at_ j).k = 0) {s : Nat} (hs : s < n) : ¬ Mk p s := fun hm => by
  have hb := h.b_ s hs
  unfold Mk at hm
  rw [hz _ hb.1] at hm
  omega
end Go.Proofs.Ytiljagfjgefnnaa
