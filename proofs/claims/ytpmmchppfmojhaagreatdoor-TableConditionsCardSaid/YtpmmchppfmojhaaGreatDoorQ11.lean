/- What the row stands on, part 11. -/
import Derived.Lib.Bytealg
import Derived.Test.YtpmmchppfmojhaaGreatDoorQ10

/- Of the program of layer 11, plain: runs of characters, what is skipped, what the iterator yields. -/
namespace Go.Proofs.YtpmmchppfmojhaaGreatDoor
set_option linter.unusedVariables false

/-- The length of the run of some characters ahead. -/
def runN (p : UInt8 → Bool) : List UInt8 → Nat
  | [] => 0
  | c :: l => if p c = true then runN p l + 1 else 0
theorem runN_le (p : UInt8 → Bool) : ∀ l : List UInt8, runN p l ≤ l.length
  | [] => Nat.le_refl _
  | c :: l => by
    have := runN_le p l
    rw [runN, List.length_cons]
    split <;> omega
theorem runN_head (p : UInt8 → Bool) : ∀ (l : List UInt8) (c : UInt8) (r : List UInt8), l.drop (runN p l) = c :: r → p c = false
  | [], c, r, h => by cases h
  | a :: l, c, r, h => by
    by_cases ha : p a = true
    · rw [runN, if_pos ha, List.drop_succ_cons] at h
      exact runN_head p l c r h
    · rw [runN, if_neg ha, List.drop_zero] at h
      injection h with h1 h2
      subst h1
      exact Bool.eq_false_iff.2 ha
theorem wordN_run : ∀ l : List UInt8, wordN l = runN isPart l
  | [] => rfl
  | c :: l => by rw [wordN, runN, wordN_run l]
theorem sk_run : ∀ l : List UInt8, skN false l = runN isBlk l + skN false (l.drop (runN isBlk l))
  | [] => rfl
  | c :: l => by
    by_cases h : isBlk c = true
    · have ih := sk_run l
      rw [show skN false (c :: l) = skN false l + 1 by rw [skN, if_pos h], runN, if_pos h, List.drop_succ_cons]
      omega
    · rw [show runN isBlk (c :: l) = 0 by rw [runN, if_neg h], List.drop_zero, Nat.zero_add]
def noNl (c : UInt8) : Bool := !decide (c.toNat = 10)
theorem sk_com : ∀ l : List UInt8, skN true l = runN noNl l + skN false (l.drop (runN noNl l))
  | [] => rfl
  | c :: l => by
    by_cases h : c.toNat = 10
    · have hb : isBlk c = true := by unfold isBlk; simp [h]
      rw [show runN noNl (c :: l) = 0 by rw [runN, if_neg (by unfold noNl; simp [h])], List.drop_zero, Nat.zero_add, show skN true (c :: l) = skN false l + 1 by rw [skN, if_pos h], skN, if_pos hb]
    · have ih := sk_com l
      have hn : noNl c = true := by unfold noNl; simp [h]
      rw [skN, if_neg h, runN, if_pos hn, List.drop_succ_cons]
      omega
/-- What is skipped at a comment: the comment, then blanks, then the rest. -/
theorem sk_hash {c : UInt8} {l : List UInt8} (h : c.toNat = 35) : skN false (c :: l) = runN noNl (c :: l) + runN isBlk ((c :: l).drop (runN noNl (c :: l))) + skN false ((c :: l).drop (runN noNl (c :: l) + runN isBlk ((c :: l).drop (runN noNl (c :: l))))) := by
  have hb : ¬ isBlk c = true := by unfold isBlk; simp [h]
  have hn : noNl c = true := by unfold noNl; simp [h]
  have e1 : runN noNl (c :: l) = runN noNl l + 1 := by rw [runN, if_pos hn]
  have e2 : skN false (c :: l) = skN true l + 1 := by rw [skN, if_neg hb, if_pos h]
  rw [e2, e1, List.drop_succ_cons, sk_com l]
  have e3 := sk_run (l.drop (runN noNl l))
  rw [List.drop_drop] at e3
  rw [show runN noNl l + 1 + runN isBlk (l.drop (runN noNl l)) = (runN noNl l + runN isBlk (l.drop (runN noNl l))) + 1 by omega, List.drop_succ_cons]
  omega
/-- Neither a blank nor a comment: nothing is skipped. -/
theorem sk_none {c : UInt8} {l : List UInt8} (h1 : isBlk c = false) (h2 : c.toNat ≠ 35) : skN false (c :: l) = 0 := by
  rw [skN, if_neg (by rw [h1]; decide), if_neg h2]
theorem index_run : ∀ l : List UInt8, (Lib.indexByte l 10 = -1 ∧ runN noNl l = l.length) ∨ (Lib.indexByte l 10 = (runN noNl l : Nat) ∧ runN noNl l < l.length)
  | [] => .inl ⟨rfl, rfl⟩
  | c :: l => by
    by_cases h : c = 10
    · subst h
      exact .inr ⟨rfl, Nat.succ_pos _⟩
    · have hc : (c == 10) = false := beq_eq_false_iff_ne.2 h
      have hn : noNl c = true := by
        unfold noNl
        have : c.toNat ≠ 10 := fun e => h (UInt8.toNat_inj.1 e)
        simp [this]
      have e1 : Lib.indexByte (c :: l) 10 = if Lib.indexByte l 10 == -1 then -1 else Lib.indexByte l 10 + 1 := by
        show (if (c == 10) = true then 0 else _) = _
        rw [hc]; rfl
      rw [e1, runN, if_pos hn]
      rcases index_run l with ⟨h1, h2⟩ | ⟨h1, h2⟩
      · rw [h1, h2]; exact .inl ⟨rfl, rfl⟩
      · rw [h1]
        have : ¬ (((runN noNl l : Nat) : Int) == -1) = true := by simp only [beq_iff_eq]; omega
        rw [if_neg this]
        exact .inr ⟨rfl, Nat.succ_lt_succ h2⟩
/-! ### Characters among others -/
def oneOf (L : List UInt8) (c : UInt8) : Bool := decide (0 ≤ Lib.indexByte L c)
def inWordsL : List UInt8 := [65,66,67,68,69,70,71,72,73,74,75,76,77,78,79,80,81,82,83,84,85,86,87,88,89,90,97,98,99,100,101,102,103,104,105,106,107,108,109,110,111,112,113,114,115,116,117,118,119,120,121,122,48,49,50,51,52,53,54,55,56,57,45,95]
def blanksL : List UInt8 := [32, 9, 10, 13]
def marksL : List UInt8 := [123, 125, 59]
theorem all_bytes {P : UInt8 → Prop} (h : ∀ n : Fin 256, P (UInt8.ofNat n.val)) (c : UInt8) : P c := by
  have := h ⟨c.toNat, UInt8.toNat_lt c⟩
  simpa using this
set_option maxRecDepth 1000000 in
theorem oneOf_word (c : UInt8) : oneOf inWordsL c = isPart c := all_bytes (P := fun c => oneOf inWordsL c = isPart c) (by decide +kernel) c
theorem oneOf_blank (c : UInt8) : oneOf blanksL c = isBlk c := all_bytes (P := fun c => oneOf blanksL c = isBlk c) (by decide +kernel) c
theorem oneOf_mark (c : UInt8) : oneOf marksL c = isMk c := all_bytes (P := fun c => oneOf marksL c = isMk c) (by decide +kernel) c
theorem run_word : oneOf inWordsL = isPart := funext oneOf_word
theorem run_blank : oneOf blanksL = isBlk := funext oneOf_blank
end Go.Proofs.YtpmmchppfmojhaaGreatDoor


