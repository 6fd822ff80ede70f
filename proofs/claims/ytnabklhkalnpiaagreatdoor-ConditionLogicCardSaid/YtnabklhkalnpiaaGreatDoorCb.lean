/- Conditions in memory: relations of four cells, whose spans lie elsewhere; lists of them; lists of lists. -/
import Derived.Test.YtnabklhkalnpiaaGreatDoorCj
namespace Go.Proofs.YtnabklhkalnpiaaGreatDoor
open Go.RowKit
set_option linter.unusedVariables false

structure RawR where
  op : Int
  md : Int
  nt : Bool
  a : Option Addr
  n : Nat
  c : Nat
def RawR.v (x : RawR) : Value := .slice x.a x.n x.c
def encR (x : RawR) : List Value := [.int .i64 x.op, .int .i64 x.md, .bool x.nt, .slice x.a x.n x.c]
theorem encR_len (x : RawR) : (encR x).length = 4 := rfl
theorem encR_one (x : RawR) : ∀ u ∈ encR x, u.oneCell' = true := by
  intro u hu
  simp [encR] at hu
  rcases hu with rfl | rfl | rfl | rfl <;> rfl
structure RawS where
  a : Option Addr
  n : Nat
  c : Nat
def RawS.v (x : RawS) : Value := .slice x.a x.n x.c
def encS (x : RawS) : List Value := [.slice x.a x.n x.c]
theorem encS_len (x : RawS) : (encS x).length = 1 := rfl
theorem encS_one (x : RawS) : ∀ u ∈ encS x, u.oneCell' = true := by
  intro u hu
  simp [encS] at hu
  subst hu
  rfl
/-- A relation's cells, and what its spans hold. -/
structure RdRel (w : World) (x : RawR) (r : Rel) : Prop where
  op : x.op = r.op
  md : x.md = r.md
  nt : x.nt = r.nt
  sp : Rd 2 encP w (.slice x.a x.n x.c) r.sp
theorem RdRel.below {w w' : World} {x : RawR} {r : Rel} (h : RdRel w x r) (hb : Below w.heap.size w w') : RdRel w' x r := ⟨h.op, h.md, h.nt, h.sp.below hb⟩
theorem RdRel.len {w : World} {x : RawR} {r : Rel} (h : RdRel w x r) : x.n = r.sp.length := h.sp.len.symm
theorem RdRel.slice {w : World} {x : RawR} {r : Rel} (h : RdRel w x r) : Rd 2 encP w (.slice x.a r.sp.length x.c) r.sp := by
  have := h.sp
  rw [h.len] at this
  exact this
theorem RdRel.enc {w : World} {x : RawR} {r : Rel} (h : RdRel w x r) : encR x = [.int .i64 r.op, .int .i64 r.md, .bool r.nt, .slice x.a r.sp.length x.c] := by
  unfold encR
  rw [h.op, h.md, h.nt, h.len]
def RdRels (w : World) (v : Value) (l : List Rel) : Prop := ∃ raws : List RawR, Rd 4 encR w v raws ∧ raws.length = l.length ∧ ∀ (i : Nat) (h : i < raws.length) (h' : i < l.length), RdRel w raws[i] l[i]
theorem RdRels.below {w w' : World} {v : Value} {l : List Rel} (h : RdRels w v l) (hb : Below w.heap.size w w') : RdRels w' v l := by
  obtain ⟨raws, h1, h2, h3⟩ := h
  exact ⟨raws, h1.below hb, h2, fun i a b => (h3 i a b).below hb⟩
theorem RdRels.slice {w : World} {v : Value} {l : List Rel} (h : RdRels w v l) : ∃ a c, v = .slice a l.length c ∧ l.length ≤ c ∧ c ≤ 9223372036854775807 := by
  obtain ⟨raws, h1, h2, h3⟩ := h
  rw [← h2]
  exact h1.slice
def RdC (w : World) (v : Value) (c : Cnd) : Prop := ∃ raws : List RawS, Rd 1 encS w v raws ∧ raws.length = c.length ∧ ∀ (i : Nat) (h : i < raws.length) (h' : i < c.length), RdRels w (.slice raws[i].a raws[i].n raws[i].c) c[i]
theorem RdC.below {w w' : World} {v : Value} {c : Cnd} (h : RdC w v c) (hb : Below w.heap.size w w') : RdC w' v c := by
  obtain ⟨raws, h1, h2, h3⟩ := h
  exact ⟨raws, h1.below hb, h2, fun i a b => (h3 i a b).below hb⟩
theorem RdC.slice {w : World} {v : Value} {l : Cnd} (h : RdC w v l) : ∃ a c, v = .slice a l.length c ∧ l.length ≤ c ∧ c ≤ 9223372036854775807 := by
  obtain ⟨raws, h1, h2, h3⟩ := h
  rw [← h2]
  exact h1.slice
theorem rdRels_nil (w : World) : RdRels w (.slice none 0 0) [] := ⟨[], rd_nil w, rfl, fun i h _ => by simp at h⟩
theorem rdC_nil (w : World) : RdC w (.slice none 0 0) [] := ⟨[], rd_nil w, rfl, fun i h _ => by simp at h⟩
/-- An element of a list of relations. -/
theorem RdRels.at_ {w : World} {a : Option Addr} {n c : Nat} {l : List Rel} (h : RdRels w (.slice a n c) l) (i : Nat) (hi : i < l.length) :
    ∃ b off x1 x2, a = some ⟨b, off, none⟩ ∧ w.cell? ⟨b, off + i * 4, none⟩ = some (.int .i64 l[i].op) ∧ w.cell? ⟨b, off + i * 4 + 1, none⟩ = some (.int .i64 l[i].md) ∧ w.cell? ⟨b, off + i * 4 + 2, none⟩ = some (.bool l[i].nt) ∧ w.cell? ⟨b, off + i * 4 + 3, none⟩ = some (.slice x1 l[i].sp.length x2) ∧ Rd 2 encP w (.slice x1 l[i].sp.length x2) l[i].sp := by
  obtain ⟨raws, h1, h2, h3⟩ := h
  have hi' : i < raws.length := by omega
  obtain ⟨b, off, ha, _, hx⟩ := h1.some_ i hi'
  have hr := h3 i hi' hi
  rw [hr.enc] at hx
  exact ⟨b, off, raws[i].a, raws[i].c, ha, hx 0 _ rfl, hx 1 _ rfl, hx 2 _ rfl, hx 3 _ rfl, hr.slice⟩
/-- A list of a list of lists of relations. -/
theorem RdC.at_ {w : World} {a : Option Addr} {n c : Nat} {l : Cnd} (h : RdC w (.slice a n c) l) (i : Nat) (hi : i < l.length) :
    ∃ b off x1 x2, a = some ⟨b, off, none⟩ ∧ w.cell? ⟨b, off + i, none⟩ = some (.slice x1 l[i].length x2) ∧ RdRels w (.slice x1 l[i].length x2) l[i] := by
  obtain ⟨raws, h1, h2, h3⟩ := h
  have hi' : i < raws.length := by omega
  obtain ⟨b, off, ha, _, hx⟩ := h1.some_ i hi'
  have hr := h3 i hi' hi
  obtain ⟨a2, c2, hv, _⟩ := hr.slice
  injection hv with e1 e2 e3
  have h4 := hx 0 _ rfl
  rw [e2, Nat.mul_one, Nat.add_zero] at h4
  rw [e2] at hr
  exact ⟨b, off, raws[i].a, raws[i].c, ha, h4, hr⟩
theorem RdRels.len {w : World} {a : Option Addr} {n c : Nat} {l : List Rel} (h : RdRels w (.slice a n c) l) : n = l.length := by
  obtain ⟨raws, h1, h2, h3⟩ := h
  rw [← h2, h1.len]
theorem RdC.len {w : World} {a : Option Addr} {n c : Nat} {l : Cnd} (h : RdC w (.slice a n c) l) : n = l.length := by
  obtain ⟨raws, h1, h2, h3⟩ := h
  rw [← h2, h1.len]
/-- A span. -/
theorem Rd.span {w : World} {a : Option Addr} {n c : Nat} {l : List (Int × Int)} (h : Rd 2 encP w (.slice a n c) l) (i : Nat) (hi : i < l.length) : ∃ b off, a = some ⟨b, off, none⟩ ∧ w.cell? ⟨b, off + i * 2, none⟩ = some (.int .i64 l[i].1) ∧ w.cell? ⟨b, off + i * 2 + 1, none⟩ = some (.int .i64 l[i].2) := by
  obtain ⟨b, off, ha, _, hx⟩ := h.some_ i hi
  exact ⟨b, off, ha, hx 0 _ rfl, hx 1 _ rfl⟩
end Go.Proofs.YtnabklhkalnpiaaGreatDoor
