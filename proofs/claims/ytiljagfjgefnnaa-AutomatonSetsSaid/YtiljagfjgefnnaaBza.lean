/- Plain: the refinement with each block once; its lists of sources. -/
import Derived.Test.YtiljagfjgefnnaaBy
import Derived.Test.YtiljagfjgefnnaaBz
namespace Go.Proofs.Ytiljagfjgefnnaa
set_option linter.unusedVariables false

/-- What holds when blocks below i have been used. -/
structure RI (G : Aut) (i : Nat) (P : Ptn) : Prop where
  pb : PB G.n P
  c0 : P.c = []
  k0 : ∀ j, j < P.l.length → (P.at_ j).k = 0
  coarse : ∀ s t, s < G.n → t < G.n → Eqv G G s t → P.b s = P.b t
  fine : ∀ s t, s < G.n → t < G.n → P.b s = P.b t → G.f s = G.f t
  stab : ∀ s t c, s < G.n → t < G.n → c < 11 → P.b s = P.b t → P.b (G.d s c) = P.b (G.d t c) ∨ i ≤ P.b (G.d s c) ∨ i ≤ P.b (G.d t c)
theorem RI.tc {G : Aut} {i : Nat} {P : Ptn} (h : RI G i P) : TC P := tc_nil h.c0 h.k0
theorem RI.cls {G : Aut} (hG : G.Ok) {i : Nat} {P : Ptn} (h : RI G i P) (hi : P.l.length ≤ i) : Cls G P.b := fun s t hs ht => by
  refine ⟨fun e => ?_, h.coarse s t hs ht⟩
  refine eqv_bisim (fun s t => s < G.n ∧ t < G.n ∧ P.b s = P.b t) (fun s t k => h.fine s t k.1 k.2.1 k.2.2) (fun s t c k hc => ?_) s t ⟨hs, ht, e⟩
  have g1 := hG.go s c k.1 hc
  have g2 := hG.go t c k.2.1 hc
  have b1 := (h.pb.b_ _ g1).1
  have b2 := (h.pb.b_ _ g2).1
  refine ⟨g1, g2, ?_⟩
  rcases h.stab s t c k.1 k.2.1 hc k.2.2 with e | e | e
  · exact e
  · omega
  · omega
/-- The block i is used: P as it was, Q after c symbols. -/
structure RJ (G : Aut) (i c : Nat) (P Q : Ptn) : Prop where
  pb : PB G.n Q
  c0 : Q.c = []
  k0 : ∀ j, j < Q.l.length → (Q.at_ j).k = 0
  coarse : ∀ s t, s < G.n → t < G.n → Eqv G G s t → Q.b s = Q.b t
  len : P.l.length ≤ Q.l.length
  ref_ : ∀ s t, s < G.n → t < G.n → Q.b s = Q.b t → P.b s = P.b t
  new_ : ∀ s, s < G.n → Q.b s = P.b s ∨ P.l.length ≤ Q.b s
  div : ∀ s t c', s < G.n → t < G.n → c' < c → Q.b s = Q.b t → (P.b (G.d s c') = i ↔ P.b (G.d t c') = i)
theorem RJ.tc {G : Aut} {i c : Nat} {P Q : Ptn} (h : RJ G i c P Q) : TC Q := tc_nil h.c0 h.k0
theorem RI.use {G : Aut} {i : Nat} {P : Ptn} (h : RI G i P) : RJ G i 0 P P := ⟨h.pb, h.c0, h.k0, h.coarse, Nat.le_refl _, fun _ _ _ _ e => e, fun _ _ => .inl rfl, fun _ _ _ _ _ hc => by omega⟩
theorem RJ.step {G : Aut} (hG : G.Ok) {i c : Nat} {P Q R S : Ptn} (h : RJ G i c P Q) (hc : c < 11) (hP : RI G i P) (hR : R.b = Q.b) (hl : R.l.length = Q.l.length) (hm : ∀ s, s < G.n → (Mk R s ↔ P.b (G.d s c) = i)) (hs : SP G.n R S) : RJ G i (c + 1) P S := by
  refine ⟨hs.pb, hs.tc, hs.zero, fun s t h1 h2 e => ?_, by have := hs.len; have := h.len; omega, fun s t h1 h2 e => ?_, fun s h1 => ?_, fun s t c' h1 h2 hc' e => ?_⟩
  · refine (hs.cls s t h1 h2).2 ⟨by rw [hR]; exact h.coarse s t h1 h2 e, ?_⟩
    rw [hm s h1, hm t h2, hP.coarse _ _ (hG.go s c h1 hc) (hG.go t c h2 hc) (e.step hc)]
  · have := (hs.cls s t h1 h2).1 e
    rw [hR] at this
    exact h.ref_ s t h1 h2 this.1
  · rcases hs.new_ s h1 with e | e
    · rw [e, hR]; exact h.new_ s h1
    · right; have := h.len; omega
  · have := (hs.cls s t h1 h2).1 e
    rw [hR] at this
    rcases Nat.lt_or_ge c' c with h5 | h5
    · exact h.div s t c' h1 h2 h5 this.1
    · obtain rfl : c' = c := by omega
      rw [← hm s h1, ← hm t h2]
      exact this.2
theorem RJ.done {G : Aut} (hG : G.Ok) {i : Nat} {P Q : Ptn} (h : RJ G i 11 P Q) (hP : RI G i P) (hi : i < P.l.length) : RI G (i + 1) Q := by
  refine ⟨h.pb, h.c0, h.k0, h.coarse, fun s t h1 h2 e => hP.fine s t h1 h2 (h.ref_ s t h1 h2 e), fun s t c h1 h2 hc e => ?_⟩
  have g1 := hG.go s c h1 hc
  have g2 := hG.go t c h2 hc
  by_cases a1 : i + 1 ≤ Q.b (G.d s c)
  · exact .inr (.inl a1)
  by_cases a2 : i + 1 ≤ Q.b (G.d t c)
  · exact .inr (.inr a2)
  left
  have e1 : Q.b (G.d s c) = P.b (G.d s c) := by rcases h.new_ _ g1 with k | k <;> omega
  have e2 : Q.b (G.d t c) = P.b (G.d t c) := by rcases h.new_ _ g2 with k | k <;> omega
  have dv := h.div s t c h1 h2 hc e
  rw [e1, e2]
  rcases hP.stab s t c h1 h2 hc (h.ref_ s t h1 h2 e) with k | k | k
  · exact k
  · have : P.b (G.d s c) = i := by omega
    rw [this, dv.1 this]
  · have : P.b (G.d t c) = i := by omega
    rw [this, dv.2 this]
/-- The first division. -/
structure R0 (G : Aut) (m : Nat) (P : Ptn) : Prop where
  pb : PB G.n P
  tc : TC P
  b0 : P.b = fun _ => 0
  l1 : P.l.length = 1
  mk_ : ∀ s, s < G.n → (Mk P s ↔ s < m ∧ G.f s = true)
theorem r0_start (G : Aut) (h0 : 0 < G.n) : R0 G 0 (ptn0 G.n) := by
  have hat : ∀ j, j < 1 → (ptn0 G.n).at_ j = ⟨0, G.n, 0⟩ := fun j hj => by
    obtain rfl : j = 0 := by omega
    rfl
  have hpb : PB G.n (ptn0 G.n) := by
    refine ⟨fun s hs => ⟨hs, rfl⟩, fun i hi => ⟨hi, rfl⟩, fun i hi => ?_, fun s hs => ?_, fun i j hi hj _ _ => ?_⟩
    · rw [hat i hi]; exact ⟨h0, Nat.le_refl _, by simp⟩
    · show 0 < 1 ∧ ((ptn0 G.n).at_ 0).f ≤ s ∧ s < ((ptn0 G.n).at_ 0).t
      rw [hat 0 (by omega)]
      exact ⟨by omega, Nat.zero_le _, hs⟩
    · have hj : j < 1 := hj
      show 0 = j
      omega
  have hz : ∀ j, j < (ptn0 G.n).l.length → ((ptn0 G.n).at_ j).k = 0 := fun j hj => by rw [hat j hj]
  exact ⟨hpb, tc_nil rfl hz, rfl, rfl, fun s hs => ⟨fun h => absurd h (no_mk hpb hz hs), fun h => by omega⟩⟩
theorem R0.skip {G : Aut} {m : Nat} {P : Ptn} (h : R0 G m P) (hf : G.f m = false) : R0 G (m + 1) P := ⟨h.pb, h.tc, h.b0, h.l1, fun s hs => by
  rw [h.mk_ s hs]
  constructor
  · rintro ⟨a, b⟩; exact ⟨by omega, b⟩
  · rintro ⟨a, b⟩
    rcases Nat.lt_or_ge s m with k | k
    · exact ⟨k, b⟩
    · obtain rfl : s = m := by omega
      rw [hf] at b; cases b⟩
theorem R0.no {G : Aut} {m : Nat} {P : Ptn} (h : R0 G m P) (hm : m < G.n) : ¬ Mk P m := fun e => by have := ((h.mk_ m hm).1 e).1; omega
theorem mark_len {n : Nat} {p : Ptn} {s : Nat} (hp : PB n p) : (markP p s).l.length = p.l.length := by show (p.l.set _ _).length = _; simp
theorem R0.take {G : Aut} {m : Nat} {P : Ptn} (h : R0 G m P) (hm : m < G.n) (hf : G.f m = true) : R0 G (m + 1) (markP P m) := by
  have hn := h.no hm
  refine ⟨mark_pb h.pb hm hn, mark_tc h.pb h.tc hm, h.b0, (mark_len h.pb).trans h.l1, fun s hs => ?_⟩
  rw [mark_mk h.pb hm hn hs, h.mk_ s hs]
  constructor
  · rintro (⟨a, b⟩ | rfl)
    · exact ⟨by omega, b⟩
    · exact ⟨by omega, hf⟩
  · rintro ⟨a, b⟩
    rcases Nat.lt_or_ge s m with k | k
    · exact .inl ⟨k, b⟩
    · exact .inr (by omega)
theorem R0.done {G : Aut} {P S : Ptn} (h : R0 G G.n P) (hs : SP G.n P S) : RI G 1 S := by
  have hb : ∀ s t, s < G.n → t < G.n → (S.b s = S.b t ↔ G.f s = G.f t) := fun s t h1 h2 => by
    rw [hs.cls s t h1 h2, h.b0, h.mk_ s h1, h.mk_ t h2]
    cases G.f s <;> cases G.f t <;> simp [h1, h2]
  refine ⟨hs.pb, hs.tc, hs.zero, fun s t h1 h2 e => (hb s t h1 h2).2 e.f, fun s t h1 h2 e => (hb s t h1 h2).1 e, fun s t c h1 h2 hc e => ?_⟩
  omega
/-- The list of sources of t, from its greatest one down. -/
theorem prv_cases (G : Aut) (c t : Nat) : ∀ m, (prv G c t m = -1 ∧ ∀ s, s < m → G.d s c ≠ t) ∨ ∃ x, x < m ∧ prv G c t m = (x : Int) ∧ G.d x c = t ∧ ∀ s, x < s → s < m → G.d s c ≠ t
  | 0 => .inl ⟨rfl, fun s hs => by omega⟩
  | m + 1 => by
    rw [prv_succ]
    by_cases e : G.d m c = t
    · rw [if_pos e]
      exact .inr ⟨m, by omega, rfl, e, fun s h1 h2 => by omega⟩
    · rw [if_neg e]
      rcases prv_cases G c t m with ⟨h1, h2⟩ | ⟨x, h1, h2, h3, h4⟩
      · refine .inl ⟨h1, fun s hs => ?_⟩
        rcases Nat.lt_or_ge s m with k | k
        · exact h2 s k
        · rw [show s = m by omega]; exact e
      · refine .inr ⟨x, by omega, h2, h3, fun s a b => ?_⟩
        rcases Nat.lt_or_ge s m with k | k
        · exact h4 s a k
        · rw [show s = m by omega]; exact e
/-- While the sources of the targets are marked: those of the first j are, and of the next one those from m on. -/
structure RK (G : Aut) (T : List Nat) (c j m : Nat) (Q R : Ptn) : Prop where
  pb : PB G.n R
  tc : TC R
  b0 : R.b = Q.b
  l0 : R.l.length = Q.l.length
  mk_ : ∀ s, s < G.n → (Mk R s ↔ G.d s c ∈ T.take j ∨ (∃ t, T[j]? = some t ∧ G.d s c = t ∧ m ≤ s))
theorem RJ.start {G : Aut} {i c : Nat} {P Q : Ptn} (h : RJ G i c P Q) (T : List Nat) : RK G T c 0 G.n Q Q := ⟨h.pb, h.tc, rfl, rfl, fun s hs => ⟨fun e => absurd e (no_mk h.pb h.k0 hs), fun e => by
  rcases e with e | ⟨t, _, _, e⟩
  · simp at e
  · omega⟩⟩
section
variable {G : Aut} {T : List Nat} {c j m : Nat} {Q R : Ptn}
theorem RK.no (h : RK G T c j m Q R) (hT : T.Nodup) {x t : Nat} (hj : T[j]? = some t) (hx : x < G.n) (hxm : x < m) (hd : G.d x c = t) : ¬ Mk R x := fun e => by
  have hjl := (List.getElem?_eq_some_iff.1 hj).1
  have hje := (List.getElem?_eq_some_iff.1 hj).2
  rcases (h.mk_ x hx).1 e with e1 | ⟨t', h1, h2, h3⟩
  · rw [hd] at e1
    obtain ⟨k, hk, e2⟩ := List.getElem_of_mem e1
    rw [List.length_take] at hk
    rw [List.getElem_take, ← hje] at e2
    have := (List.getElem_inj hT).1 e2
    omega
  · omega
theorem RK.mark (h : RK G T c j m Q R) (hT : T.Nodup) {x t : Nat} (hj : T[j]? = some t) (hx : x < G.n) (hxm : x < m) (hd : G.d x c = t) (hn : ∀ s, x < s → s < m → G.d s c ≠ t) : RK G T c j x Q (markP R x) := by
  have hno := h.no hT hj hx hxm hd
  refine ⟨mark_pb h.pb hx hno, mark_tc h.pb h.tc hx, h.b0, (mark_len h.pb).trans h.l0, fun s hs => ?_⟩
  rw [mark_mk h.pb hx hno hs, h.mk_ s hs]
  constructor
  · rintro ((e | ⟨t', h1, h2, h3⟩) | rfl)
    · exact .inl e
    · exact .inr ⟨t', h1, h2, by omega⟩
    · exact .inr ⟨t, hj, hd, Nat.le_refl _⟩
  · rintro (e | ⟨t', h1, h2, h3⟩)
    · exact .inl (.inl e)
    · rw [hj] at h1
      injection h1 with h1
      subst h1
      rcases Nat.lt_trichotomy s x with k | k | k
      · omega
      · exact .inr k
      · rcases Nat.lt_or_ge s m with k2 | k2
        · exact absurd h2 (hn s k k2)
        · exact .inl (.inr ⟨t, hj, h2, k2⟩)
theorem RK.next (h : RK G T c j m Q R) {t : Nat} (hj : T[j]? = some t) (hn : ∀ s, s < m → G.d s c ≠ t) : RK G T c (j + 1) G.n Q R := by
  have hjl := (List.getElem?_eq_some_iff.1 hj).1
  have hje := (List.getElem?_eq_some_iff.1 hj).2
  refine ⟨h.pb, h.tc, h.b0, h.l0, fun s hs => ?_⟩
  rw [h.mk_ s hs, List.take_succ_eq_append_getElem hjl, hje, List.mem_append, List.mem_singleton]
  constructor
  · rintro (e | ⟨t', h1, h2, h3⟩)
    · exact .inl (.inl e)
    · rw [hj] at h1
      injection h1 with h1
      exact .inl (.inr (by rw [h2, h1]))
  · rintro ((e | e) | ⟨t', h1, h2, h3⟩)
    · exact .inl e
    · refine .inr ⟨t, hj, e, ?_⟩
      rcases Nat.lt_or_ge s m with k | k
      · exact absurd e (hn s k)
      · exact k
    · omega
theorem RK.all (h : RK G T c T.length m Q R) (s : Nat) (hs : s < G.n) : Mk R s ↔ G.d s c ∈ T := by
  rw [h.mk_ s hs, List.take_length]
  constructor
  · rintro (e | ⟨t, h1, _⟩)
    · exact e
    · rw [List.getElem?_eq_none (Nat.le_refl _)] at h1; cases h1
  · exact .inl
end
/-- The states of a block. -/
theorem stL_mem {n : Nat} {p : Ptn} (h : PB n p) {i : Nat} (hi : i < p.l.length) (t : Nat) : t ∈ stL p i ↔ t < n ∧ p.b t = i := by
  have hl := h.l_ i hi
  unfold stL
  rw [List.mem_map]
  constructor
  · rintro ⟨j, hj, rfl⟩
    rw [List.mem_range] at hj
    exact ⟨(h.o_ _ (by omega)).1, h.u_ _ _ (by omega) hi (by omega) (by omega)⟩
  · rintro ⟨ht, e⟩
    have hb := h.b_ t ht
    rw [e] at hb
    exact ⟨p.q t - (p.at_ i).f, List.mem_range.2 (by omega), by rw [show (p.at_ i).f + (p.q t - (p.at_ i).f) = p.q t by omega]; exact (h.q_ t ht).2⟩
theorem stL_nodup {n : Nat} {p : Ptn} (h : PB n p) {i : Nat} (hi : i < p.l.length) : (stL p i).Nodup := by
  have hl := h.l_ i hi
  unfold stL
  refine List.pairwise_iff_getElem.2 (fun a b ha hb hab e => ?_)
  simp only [List.length_map, List.length_range] at ha hb
  simp only [List.getElem_map, List.getElem_range] at e
  have h1 := (h.o_ ((p.at_ i).f + a) (by omega)).2
  have h2 := (h.o_ ((p.at_ i).f + b) (by omega)).2
  rw [e, h2] at h1
  omega
theorem stL_len {n : Nat} {p : Ptn} (h : PB n p) {i : Nat} (hi : i < p.l.length) : (stL p i).length ≤ n := by
  have hl := h.l_ i hi
  unfold stL
  simp
  omega
end Go.Proofs.Ytiljagfjgefnnaa
