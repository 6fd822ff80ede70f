/- What the row stands on, part 14. -/
import Derived.BigRegion
import Derived.Deep.DeepCutAuto
import Derived.Test.YtpmmchppfmojhaaGreatDoorQ13

/- Of decimal: trimEnd, integer. Of decimal: isZero. Numbers in memory. Of decimal: split. Of decimal: Valid. Of decimal: Operand. -/
namespace Go.Proofs.YtpmmchppfmojhaaGreatDoor
open Go.RowKit
set_option linter.unusedVariables false
end Go.Proofs.YtpmmchppfmojhaaGreatDoor

namespace Go.Proofs.YtpmmchppfmojhaaGreatDoor
open Go.RowKit
set_option linter.unusedVariables false
end Go.Proofs.YtpmmchppfmojhaaGreatDoor

namespace Go.Proofs.YtpmmchppfmojhaaGreatDoor
open Go.RowKit
set_option linter.unusedVariables false
/-- A value that reads as a number. -/
def RdN (w : World) (u : Value) (x : Num) : Prop := ∃ a1 c1 a2 c2, u = .agg #[.bool x.neg, .slice a1 x.wh.length c1, .slice a2 x.fr.length c2] ∧ RdB w (.slice a1 x.wh.length c1) x.wh ∧ RdB w (.slice a2 x.fr.length c2) x.fr
theorem RdN.below {w w' : World} {u : Value} {x : Num} (h : RdN w u x) (hb : Below w.heap.size w w') : RdN w' u x := by
  obtain ⟨a1, c1, a2, c2, h0, h1, h2⟩ := h
  exact ⟨a1, c1, a2, c2, h0, h1.below hb, h2.below hb⟩
theorem Blk.drew {B : Nat} {t : TypeId} {cs : Array Value} {W : World} (h : Blk B t cs W) : Blk B t cs W.drew := h
theorem Blk.drewN {B : Nat} {t : TypeId} {cs : Array Value} {W : World} (h : Blk B t cs W) (n : Nat) : Blk B t cs (W.drewN n) := h.below (below_drewN (Below.refl _ _) n)
end Go.Proofs.YtpmmchppfmojhaaGreatDoor

namespace Go.Proofs.YtpmmchppfmojhaaGreatDoor
open Go.RowKit
set_option linter.unusedVariables false
end Go.Proofs.YtpmmchppfmojhaaGreatDoor

namespace Go.Proofs.YtpmmchppfmojhaaGreatDoor
open Go.RowKit
set_option linter.unusedVariables false
end Go.Proofs.YtpmmchppfmojhaaGreatDoor

namespace Go.Proofs.YtpmmchppfmojhaaGreatDoor
open Go.RowKit
set_option linter.unusedVariables false
end Go.Proofs.YtpmmchppfmojhaaGreatDoor


/- Conditions in memory: relations of four cells, whose spans lie elsewhere; lists of them; lists of lists. -/
namespace Go.Proofs.YtpmmchppfmojhaaGreatDoor
open Go.RowKit
set_option linter.unusedVariables false

structure RawR where
  op : Int
  md : Int
  nt : Bool
  a : Option Addr
  n : Nat
  c : Nat
def RawR.v (x : RawR) : Value := .slice x.a x.n x.c
def encR (x : RawR) : List Value := [.int .i64 x.op, .int .i64 x.md, .bool x.nt, .slice x.a x.n x.c]
theorem encR_len (x : RawR) : (encR x).length = 4 := rfl
structure RawS where
  a : Option Addr
  n : Nat
  c : Nat
def RawS.v (x : RawS) : Value := .slice x.a x.n x.c
def encS (x : RawS) : List Value := [.slice x.a x.n x.c]
theorem encS_len (x : RawS) : (encS x).length = 1 := rfl
/-- A relation's cells, and what its spans hold. -/
structure RdRel (w : World) (x : RawR) (r : Rel) : Prop where
  op : x.op = r.op
  md : x.md = r.md
  nt : x.nt = r.nt
  sp : Rd 2 encP w (.slice x.a x.n x.c) r.sp
theorem RdRel.below {w w' : World} {x : RawR} {r : Rel} (h : RdRel w x r) (hb : Below w.heap.size w w') : RdRel w' x r := ⟨h.op, h.md, h.nt, h.sp.below hb⟩
theorem RdRel.len {w : World} {x : RawR} {r : Rel} (h : RdRel w x r) : x.n = r.sp.length := h.sp.len.symm
theorem RdRel.slice {w : World} {x : RawR} {r : Rel} (h : RdRel w x r) : Rd 2 encP w (.slice x.a r.sp.length x.c) r.sp := by
  have := h.sp
  rw [h.len] at this
  exact this
theorem RdRel.enc {w : World} {x : RawR} {r : Rel} (h : RdRel w x r) : encR x = [.int .i64 r.op, .int .i64 r.md, .bool r.nt, .slice x.a r.sp.length x.c] := by
  unfold encR
  rw [h.op, h.md, h.nt, h.len]
def RdRels (w : World) (v : Value) (l : List Rel) : Prop := ∃ raws : List RawR, Rd 4 encR w v raws ∧ raws.length = l.length ∧ ∀ (i : Nat) (h : i < raws.length) (h' : i < l.length), RdRel w raws[i] l[i]
theorem RdRels.below {w w' : World} {v : Value} {l : List Rel} (h : RdRels w v l) (hb : Below w.heap.size w w') : RdRels w' v l := by
  obtain ⟨raws, h1, h2, h3⟩ := h
  exact ⟨raws, h1.below hb, h2, fun i a b => (h3 i a b).below hb⟩
theorem RdRels.slice {w : World} {v : Value} {l : List Rel} (h : RdRels w v l) : ∃ a c, v = .slice a l.length c ∧ l.length ≤ c ∧ c ≤ 9223372036854775807 := by
  obtain ⟨raws, h1, h2, h3⟩ := h
  rw [← h2]
  exact h1.slice
def RdC (w : World) (v : Value) (c : Cnd) : Prop := ∃ raws : List RawS, Rd 1 encS w v raws ∧ raws.length = c.length ∧ ∀ (i : Nat) (h : i < raws.length) (h' : i < c.length), RdRels w (.slice raws[i].a raws[i].n raws[i].c) c[i]
theorem RdC.below {w w' : World} {v : Value} {c : Cnd} (h : RdC w v c) (hb : Below w.heap.size w w') : RdC w' v c := by
  obtain ⟨raws, h1, h2, h3⟩ := h
  exact ⟨raws, h1.below hb, h2, fun i a b => (h3 i a b).below hb⟩
theorem RdC.slice {w : World} {v : Value} {l : Cnd} (h : RdC w v l) : ∃ a c, v = .slice a l.length c ∧ l.length ≤ c ∧ c ≤ 9223372036854775807 := by
  obtain ⟨raws, h1, h2, h3⟩ := h
  rw [← h2]
  exact h1.slice
theorem rdRels_nil (w : World) : RdRels w (.slice none 0 0) [] := ⟨[], rd_nil w, rfl, fun i h _ => by simp at h⟩
theorem rdC_nil (w : World) : RdC w (.slice none 0 0) [] := ⟨[], rd_nil w, rfl, fun i h _ => by simp at h⟩
/-- An element of a list of relations. -/
theorem RdRels.at_ {w : World} {a : Option Addr} {n c : Nat} {l : List Rel} (h : RdRels w (.slice a n c) l) (i : Nat) (hi : i < l.length) :
    ∃ b off x1 x2, a = some ⟨b, off, none⟩ ∧ w.cell? ⟨b, off + i * 4, none⟩ = some (.int .i64 l[i].op) ∧ w.cell? ⟨b, off + i * 4 + 1, none⟩ = some (.int .i64 l[i].md) ∧ w.cell? ⟨b, off + i * 4 + 2, none⟩ = some (.bool l[i].nt) ∧ w.cell? ⟨b, off + i * 4 + 3, none⟩ = some (.slice x1 l[i].sp.length x2) ∧ Rd 2 encP w (.slice x1 l[i].sp.length x2) l[i].sp := by
  obtain ⟨raws, h1, h2, h3⟩ := h
  have hi' : i < raws.length := by omega
  obtain ⟨b, off, ha, _, hx⟩ := h1.some_ i hi'
  have hr := h3 i hi' hi
  rw [hr.enc] at hx
  exact ⟨b, off, raws[i].a, raws[i].c, ha, hx 0 _ rfl, hx 1 _ rfl, hx 2 _ rfl, hx 3 _ rfl, hr.slice⟩
/-- A list of a list of lists of relations. -/
theorem RdC.at_ {w : World} {a : Option Addr} {n c : Nat} {l : Cnd} (h : RdC w (.slice a n c) l) (i : Nat) (hi : i < l.length) :
    ∃ b off x1 x2, a = some ⟨b, off, none⟩ ∧ w.cell? ⟨b, off + i, none⟩ = some (.slice x1 l[i].length x2) ∧ RdRels w (.slice x1 l[i].length x2) l[i] := by
  obtain ⟨raws, h1, h2, h3⟩ := h
  have hi' : i < raws.length := by omega
  obtain ⟨b, off, ha, _, hx⟩ := h1.some_ i hi'
  have hr := h3 i hi' hi
  obtain ⟨a2, c2, hv, _⟩ := hr.slice
  injection hv with e1 e2 e3
  have h4 := hx 0 _ rfl
  rw [e2, Nat.mul_one, Nat.add_zero] at h4
  rw [e2] at hr
  exact ⟨b, off, raws[i].a, raws[i].c, ha, h4, hr⟩
theorem RdRels.len {w : World} {a : Option Addr} {n c : Nat} {l : List Rel} (h : RdRels w (.slice a n c) l) : n = l.length := by
  obtain ⟨raws, h1, h2, h3⟩ := h
  rw [← h2, h1.len]
theorem RdC.len {w : World} {a : Option Addr} {n c : Nat} {l : Cnd} (h : RdC w (.slice a n c) l) : n = l.length := by
  obtain ⟨raws, h1, h2, h3⟩ := h
  rw [← h2, h1.len]
/-- A span. -/
theorem Rd.span {w : World} {a : Option Addr} {n c : Nat} {l : List (Int × Int)} (h : Rd 2 encP w (.slice a n c) l) (i : Nat) (hi : i < l.length) : ∃ b off, a = some ⟨b, off, none⟩ ∧ w.cell? ⟨b, off + i * 2, none⟩ = some (.int .i64 l[i].1) ∧ w.cell? ⟨b, off + i * 2 + 1, none⟩ = some (.int .i64 l[i].2) := by
  obtain ⟨b, off, ha, _, hx⟩ := h.some_ i hi
  exact ⟨b, off, ha, hx 0 _ rfl, hx 1 _ rfl⟩
end Go.Proofs.YtpmmchppfmojhaaGreatDoor


/- Tables in memory. -/
namespace Go.Proofs.YtpmmchppfmojhaaGreatDoor
open Go.RowKit
set_option linter.unusedVariables false

/-! ### In memory -/
def encDu (x : Str × Str) : List Value := [.string (ofL x.1), .string (ofL x.2)]
def encNe (x : Nea) : List Value := [.string (ofL x.fr), .string (ofL x.to_), .int .i64 x.co]
def encLi (x : Lis) : List Value := [.string (ofL x.st), .string (ofL x.two), .string (ofL x.sa), .string (ofL x.md), .string (ofL x.en)]
def encUn (x : Uni) : List Value := [.string (ofL x.un), .string (ofL x.cl), .string (ofL x.pt)]
theorem encDu_len (x : Str × Str) : (encDu x).length = 2 := rfl
theorem encNe_len (x : Nea) : (encNe x).length = 3 := rfl
theorem encDu_one (x : Str × Str) : ∀ u ∈ encDu x, u.oneCell' = true := by
  intro u hu; simp [encDu] at hu; rcases hu with rfl | rfl <;> rfl
/-- A rule's cells: the condition lies elsewhere. -/
def encRl (x : Str × RawS) : List Value := [.string (ofL x.1), .slice x.2.a x.2.n x.2.c]
def RdRul (w : World) (v : Value) (l : List Rul) : Prop := ∃ raws : List (Str × RawS), Rd 2 encRl w v raws ∧ raws.length = l.length ∧ ∀ (i : Nat) (h : i < raws.length) (h' : i < l.length), raws[i].1 = l[i].1 ∧ RdC w (.slice raws[i].2.a raws[i].2.n raws[i].2.c) l[i].2
theorem RdRul.below {w w' : World} {v : Value} {l : List Rul} (h : RdRul w v l) (hb : Below w.heap.size w w') : RdRul w' v l := by
  obtain ⟨raws, h1, h2, h3⟩ := h
  exact ⟨raws, h1.below hb, h2, fun i a b => ⟨(h3 i a b).1, (h3 i a b).2.below hb⟩⟩
theorem RdRul.slice {w : World} {v : Value} {l : List Rul} (h : RdRul w v l) : ∃ a c, v = .slice a l.length c ∧ l.length ≤ c ∧ c ≤ 9223372036854775807 := by
  obtain ⟨raws, h1, h2, h3⟩ := h
  rw [← h2]
  exact h1.slice
theorem RdRul.len {w : World} {a : Option Addr} {n c : Nat} {l : List Rul} (h : RdRul w (.slice a n c) l) : l.length = n := by
  obtain ⟨raws, h1, h2, h3⟩ := h
  rw [← h2, h1.len]
theorem rdRul_nil (w : World) : RdRul w (.slice none 0 0) [] := ⟨[], rd_nil w, rfl, fun i h _ => by simp at h⟩
/-- A rule of a list. -/
theorem RdRul.at_ {w : World} {a : Option Addr} {n c : Nat} {l : List Rul} (h : RdRul w (.slice a n c) l) (i : Nat) (hi : i < l.length) :
    ∃ b off x1 x2, a = some ⟨b, off, none⟩ ∧ b < w.heap.size ∧ w.cell? ⟨b, off + i * 2, none⟩ = some (.string (ofL l[i].1)) ∧ w.cell? ⟨b, off + i * 2 + 1, none⟩ = some (.slice x1 l[i].2.length x2) ∧ RdC w (.slice x1 l[i].2.length x2) l[i].2 := by
  obtain ⟨raws, h1, h2, h3⟩ := h
  have hi' : i < raws.length := by omega
  obtain ⟨b, off, ha, hlt, hx⟩ := h1.some_ i hi'
  obtain ⟨h4, h5⟩ := h3 i hi' hi
  obtain ⟨x1, x2, hv, _⟩ := h5.slice
  injection hv with e1 e2 e3
  have g1 := hx 1 _ rfl
  have g0 := hx 0 _ rfl
  rw [e2] at h5 g1
  rw [h4] at g0
  exact ⟨b, off, raws[i].2.a, raws[i].2.c, ha, hlt, g0, g1, h5⟩
/-- A locale's cells. -/
structure RawLo where
  tag : Str
  par : Str
  dir : Str
  ca : RawS
  oc : RawS
  sy : Sym
  li : RawS
  un : RawS
  da : RawS
  mo : RawS
  dy : RawS
def encLo (x : RawLo) : List Value := [.string (ofL x.tag), .string (ofL x.par), .string (ofL x.dir), .slice x.ca.a x.ca.n x.ca.c, .slice x.oc.a x.oc.n x.oc.c,
  .string (ofL x.sy.de), .string (ofL x.sy.gr), .string (ofL x.sy.mi), .string (ofL x.sy.pe), .int .i64 x.sy.pr, .int .i64 x.sy.se,
  .slice x.li.a x.li.n x.li.c, .slice x.un.a x.un.n x.un.c, .slice x.da.a x.da.n x.da.c, .slice x.mo.a x.mo.n x.mo.c, .slice x.dy.a x.dy.n x.dy.c]
theorem encLo_len (x : RawLo) : (encLo x).length = 16 := rfl
structure LocOk (w : World) (x : RawLo) (p : Loc) : Prop where
  tag : x.tag = p.tag
  par : x.par = p.par
  dir : x.dir = p.dir
  sy : x.sy = p.sy
  ca : RdRul w (.slice x.ca.a x.ca.n x.ca.c) p.ca
  oc : RdRul w (.slice x.oc.a x.oc.n x.oc.c) p.oc
  li : Rd 5 encLi w (.slice x.li.a x.li.n x.li.c) p.li
  un : Rd 3 encUn w (.slice x.un.a x.un.n x.un.c) p.un
  da : Rd 2 encDu w (.slice x.da.a x.da.n x.da.c) p.da
  mo : Rd 1 encT w (.slice x.mo.a x.mo.n x.mo.c) p.mo
  dy : Rd 1 encT w (.slice x.dy.a x.dy.n x.dy.c) p.dy
theorem LocOk.below {w w' : World} {x : RawLo} {p : Loc} (h : LocOk w x p) (hb : Below w.heap.size w w') : LocOk w' x p :=
  ⟨h.tag, h.par, h.dir, h.sy, h.ca.below hb, h.oc.below hb, h.li.below hb, h.un.below hb, h.da.below hb, h.mo.below hb, h.dy.below hb⟩
def RdLocs (w : World) (v : Value) (l : List Loc) : Prop := ∃ raws : List RawLo, Rd 16 encLo w v raws ∧ raws.length = l.length ∧ ∀ (i : Nat) (h : i < raws.length) (h' : i < l.length), LocOk w raws[i] l[i]
theorem RdLocs.below {w w' : World} {v : Value} {l : List Loc} (h : RdLocs w v l) (hb : Below w.heap.size w w') : RdLocs w' v l := by
  obtain ⟨raws, h1, h2, h3⟩ := h
  exact ⟨raws, h1.below hb, h2, fun i a b => (h3 i a b).below hb⟩
theorem RdLocs.slice {w : World} {v : Value} {l : List Loc} (h : RdLocs w v l) : ∃ a c, v = .slice a l.length c ∧ l.length ≤ c ∧ c ≤ 9223372036854775807 := by
  obtain ⟨raws, h1, h2, h3⟩ := h
  rw [← h2]
  exact h1.slice
theorem RdLocs.len {w : World} {a : Option Addr} {n c : Nat} {l : List Loc} (h : RdLocs w (.slice a n c) l) : l.length = n := by
  obtain ⟨raws, h1, h2, h3⟩ := h
  rw [← h2, h1.len]
/-- A locale of a list: its cells. -/
theorem RdLocs.at_ {w : World} {a : Option Addr} {n c : Nat} {l : List Loc} (h : RdLocs w (.slice a n c) l) (i : Nat) (hi : i < l.length) :
    ∃ b off x, a = some ⟨b, off, none⟩ ∧ b < w.heap.size ∧ (∀ j u, (encLo x)[j]? = some u → w.cell? ⟨b, off + i * 16 + j, none⟩ = some u) ∧ LocOk w x l[i] := by
  obtain ⟨raws, h1, h2, h3⟩ := h
  have hi' : i < raws.length := by omega
  obtain ⟨b, off, ha, hlt, hx⟩ := h1.some_ i hi'
  exact ⟨b, off, raws[i], ha, hlt, hx, h3 i hi' hi⟩
/-- A table: its three lists. -/
structure RdTab (w : World) (a b c : Value) (t : Tab) : Prop where
  lo : RdLocs w a t.lo
  al : Rd 2 encDu w b t.al
  ne : Rd 3 encNe w c t.ne
theorem RdTab.below {w w' : World} {a b c : Value} {t : Tab} (h : RdTab w a b c t) (hb : Below w.heap.size w w') : RdTab w' a b c t := ⟨h.lo.below hb, h.al.below hb, h.ne.below hb⟩
end Go.Proofs.YtpmmchppfmojhaaGreatDoor


