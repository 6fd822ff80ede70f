/- Words: plain facts; what kind a byte is. -/
import Derived.Test.YtbcpeoomkhcgnaaTc
namespace Go.Proofs.Ytbcpeoomkhcgnaa
open Go.RowKit
set_option linter.unusedVariables false

def rnN (n : Nat) : Bool := (decide (97 ≤ n) && decide (n ≤ 122)) || (decide (65 ≤ n) && decide (n ≤ 90)) || (decide (48 ≤ n) && decide (n ≤ 57)) || decide (128 ≤ n)
def spN (n : Nat) : Bool := decide (n = 32) || decide (n = 9) || decide (n = 10)
def rn (c : UInt8) : Bool := rnN c.toNat
def sp (c : UInt8) : Bool := spN c.toNat
theorem sp_not_rn {n : Nat} (h : spN n = true) : rnN n = false := by
  unfold spN at h
  simp at h
  unfold rnN
  rcases h with (h | h) | h <;> subst h <;> decide
def fl (cur : Str) : List Str := if cur = [] then [] else [cur]
def wd (cur : Str) : Str → List Str
  | [] => fl cur
  | c :: s => if rn c = true then wd (cur ++ [c]) s else fl cur ++ ((if sp c = true then [] else [[c]]) ++ wd [] s)
def words (s : Str) : List Str := wd [] s
theorem words_nil : words [] = [] := rfl
theorem words_space {c : UInt8} {s : Str} (h : rn c = false) (h2 : sp c = true) : words (c :: s) = words s := by
  unfold words
  rw [wd, if_neg (by rw [h]; simp), if_pos h2]
  rfl
theorem words_sign {c : UInt8} {s : Str} (h : rn c = false) (h2 : sp c = false) : words (c :: s) = [c] :: words s := by
  unfold words
  rw [wd, if_neg (by rw [h]; simp), if_neg (by rw [h2]; simp)]
  rfl
theorem wd_run : ∀ (s cur : Str), cur ≠ [] → wd cur s = (cur ++ s.takeWhile rn) :: words (s.dropWhile rn)
  | [], cur, h => by rw [wd, fl, if_neg h]; simp [words, wd, fl]
  | c :: s, cur, h => by
    rw [wd]
    cases hc : rn c with
    | true =>
      rw [if_pos rfl, wd_run s (cur ++ [c]) (by simp), List.takeWhile_cons, List.dropWhile_cons, hc]
      simp
    | false =>
      rw [if_neg (by simp), List.takeWhile_cons, List.dropWhile_cons, hc]
      simp only [Bool.false_eq_true, if_false, List.append_nil]
      unfold words
      rw [wd, hc, fl, if_neg h]
      simp [fl]
theorem words_run {c : UInt8} {s : Str} (h : rn c = true) : words (c :: s) = (c :: s.takeWhile rn) :: words (s.dropWhile rn) := by
  unfold words
  rw [wd, if_pos h, wd_run s _ (by simp)]
  rfl
/-- With a number: the first n bytes are the run. -/
theorem run_at {s : Str} {n : Nat} (hn : n ≤ s.length) (h1 : ∀ i (h : i < s.length), i < n → rn s[i] = true) (h2 : ∀ h : n < s.length, rn (s[n]) = false) : s.takeWhile rn = s.take n ∧ s.dropWhile rn = s.drop n := by
  induction s generalizing n with
  | nil => simp
  | cons c s ih =>
    rcases n with _ | n
    · have hc : rn c = false := h2 (by simp)
      simp [List.takeWhile_cons, List.dropWhile_cons, hc]
    · have hc : rn c = true := h1 0 (by simp) (by omega)
      obtain ⟨i1, i2⟩ := ih (n := n) (by simpa using hn) (fun i h hi => by have := h1 (i + 1) (by simpa using h) (by omega); simpa using this) (fun h => by have := h2 (by simpa using h); simpa using this)
      simp [List.takeWhile_cons, List.dropWhile_cons, hc, i1, i2]
theorem wd_join : ∀ (s cur t : Str), wd cur (s ++ 32 :: t) = wd cur s ++ words t
  | [], cur, t => by
    have : wd cur (32 :: t) = fl cur ++ ([] ++ wd [] t) := by rw [wd, if_neg (by decide), if_pos (by decide)]
    exact this
  | c :: s, cur, t => by
    rw [List.cons_append, wd, wd]
    split
    · exact wd_join s _ t
    · rw [wd_join s [] t]
      simp
theorem words_join (s t : Str) : words (s ++ 32 :: t) = words s ++ words t := wd_join s [] t
/-- A word. -/
def IsW (w : Str) : Prop := (w ≠ [] ∧ ∀ c ∈ w, rn c = true) ∨ ∃ c, w = [c] ∧ rn c = false ∧ sp c = false
theorem isW_words {w : Str} (h : IsW w) : words w = [w] := by
  rcases h with ⟨h1, h2⟩ | ⟨c, rfl, h1, h2⟩
  · cases w with
    | nil => exact absurd rfl h1
    | cons c s =>
      rw [words_run (h2 c (by simp))]
      obtain ⟨e1, e2⟩ := run_at (s := s) (n := s.length) (Nat.le_refl _) (fun i h _ => h2 _ (List.mem_cons_of_mem _ (List.getElem_mem h))) (fun h => absurd h (Nat.lt_irrefl _))
      rw [e1, e2, List.take_length, List.drop_length, words_nil]
  · rw [words_sign h1 h2, words_nil]
theorem isW_ne {w : Str} (h : IsW w) : w ≠ [] := by
  rcases h with ⟨h1, _⟩ | ⟨c, rfl, _⟩
  · exact h1
  · simp
theorem wd_isW : ∀ (s cur : Str), (∀ c ∈ cur, rn c = true) → ∀ w ∈ wd cur s, IsW w
  | [], cur, h, w, hw => by
    rw [wd, fl] at hw
    split at hw
    · cases hw
    · rename_i hne
      simp at hw
      subst hw
      exact .inl ⟨hne, h⟩
  | c :: s, cur, h, w, hw => by
    rw [wd] at hw
    split at hw
    · rename_i hc
      exact wd_isW s (cur ++ [c]) (fun x hx => by rcases List.mem_append.1 hx with hx | hx; exact h x hx; simp at hx; subst hx; exact hc) w hw
    · rename_i hc
      rcases List.mem_append.1 hw with hw | hw
      · rw [fl] at hw
        split at hw
        · cases hw
        · rename_i hne
          simp at hw
          subst hw
          exact .inl ⟨hne, h⟩
      · rcases List.mem_append.1 hw with hw | hw
        · split at hw
          · cases hw
          · rename_i hs
            simp at hw
            subst hw
            exact .inr ⟨c, rfl, by simpa using hc, by simpa using hs⟩
        · exact wd_isW s [] (fun x hx => by cases hx) w hw
theorem words_isW (s : Str) : ∀ w ∈ words s, IsW w := wd_isW s [] (fun x hx => by cases hx)
theorem wd_flat : ∀ (s cur : Str), (wd cur s).flatten.length ≤ cur.length + s.length
  | [], cur => by
    rw [wd, fl]
    split <;> simp
  | c :: s, cur => by
    rw [wd]
    split
    · have := wd_flat s (cur ++ [c])
      rw [List.length_append, List.length_singleton] at this
      rw [List.length_cons]; omega
    · have h1 := wd_flat s []
      have h2 : (fl cur).flatten.length ≤ cur.length := by rw [fl]; split <;> simp
      have h3 : (if sp c = true then ([] : List Str) else [[c]]).flatten.length ≤ 1 := by split <;> simp
      rw [List.flatten_append, List.flatten_append, List.length_append, List.length_append, List.length_cons]
      simp only [List.length_nil] at h1
      omega
theorem flat_count : ∀ (l : List Str), (∀ w ∈ l, IsW w) → l.length ≤ l.flatten.length
  | [], _ => Nat.le_refl _
  | w :: l, h => by
    have h1 := flat_count l (fun x hx => h x (by simp [hx]))
    have h2 := List.length_pos_iff.2 (isW_ne (h w (by simp)))
    rw [List.flatten_cons, List.length_append, List.length_cons]
    omega
theorem words_flat (s : Str) : (words s).flatten.length ≤ s.length := by have := wd_flat s []; simpa [words] using this
theorem words_count (s : Str) : (words s).length ≤ s.length := Nat.le_trans (flat_count _ (words_isW s)) (words_flat s)
/-- Joined with spaces. -/
def jnS : List Str → Str
  | [] => []
  | w :: l => w ++ l.flatMap (fun x => 32 :: x)
theorem jnS_snoc (l : List Str) (x : Str) : jnS (l ++ [x]) = if l = [] then x else jnS l ++ 32 :: x := by
  cases l with
  | nil => simp [jnS]
  | cons w l => simp [jnS]
theorem jnS_cons (w x : Str) (l : List Str) : jnS (w :: x :: l) = w ++ 32 :: jnS (x :: l) := by simp [jnS]
theorem jnS_len (l : List Str) : (jnS l).length ≤ l.flatten.length + l.length := by
  cases l with
  | nil => simp [jnS]
  | cons w l =>
    have : ∀ l : List Str, (l.flatMap (fun x => 32 :: x)).length = l.flatten.length + l.length := by
      intro l
      induction l with
      | nil => rfl
      | cons y l ih => rw [List.flatMap_cons, List.length_append, ih, List.flatten_cons, List.length_append, List.length_cons, List.length_cons]; omega
    rw [jnS, List.length_append, this, List.flatten_cons, List.length_append, List.length_cons]
    omega
theorem words_jnS : ∀ (l : List Str), (∀ w ∈ l, IsW w) → words (jnS l) = l
  | [], _ => rfl
  | [w], h => by rw [show jnS [w] = w by simp [jnS]]; exact isW_words (h w (by simp))
  | w :: x :: l, h => by
    rw [jnS_cons, words_join, isW_words (h w (by simp)), words_jnS (x :: l) (fun y hy => h y (List.mem_cons_of_mem _ hy))]
    rfl
theorem jnS_take_le : ∀ (l : List Str) (k : Nat), (jnS (l.take k)).length ≤ l.flatten.length + l.length := by
  intro l k
  have h1 := jnS_len (l.take k)
  have h2 : (l.take k).flatten.length ≤ l.flatten.length := by
    have e : l.flatten = (l.take k).flatten ++ (l.drop k).flatten := by rw [← List.flatten_append, List.take_append_drop]
    rw [e, List.length_append]; omega
  have h3 : (l.take k).length ≤ l.length := by rw [List.length_take]; omega
  omega

/-! ### What kind a byte is -/
theorem len_data (s : ByteArray) : s.data.toList.length = s.size := Array.length_toList
theorem ext_of (s : ByteArray) (a b : Nat) : s.extract a b = ofL ((s.data.toList.drop a).take (b - a)) := by
  have h : (s.extract a b).data.toList = (s.data.toList.drop a).take (b - a) := by simp [List.extract]
  rw [← h, of_data]
set_option maxRecDepth 1000000 in
set_option maxHeartbeats 4000000 in
theorem isSpace_any (n : Nat) (w : World) : Calls Try.prog 24 #[.int .u8 n] w fun e w' => e = .returned (.bool (spN n)) ∧ w' = w := by
  have fin : ∀ B, spN n = B → ∀ e w', (e = Ending.returned (.bool B) ∧ w' = w) → e = .returned (.bool (spN n)) ∧ w' = w := fun B hB e w' h => by rw [hB]; exact h
  by_cases h1 : n = 32
  · have HF := Lib.hid (show spN n = true by unfold spN; simp [h1])
    refine Calls.mono ?_ (fin _ HF.out)
    subst h1
    clear fin HF
    go_enter Try.func24, Try.ntmps24
    go_wp2
    go_ret
    exact ⟨rfl, rfl⟩
  · by_cases h2 : n = 9
    · have HF := Lib.hid (show spN n = true by unfold spN; simp [h2])
      refine Calls.mono ?_ (fin _ HF.out)
      subst h2
      clear fin HF
      go_enter Try.func24, Try.ntmps24
      go_wp2
      go_ret
      exact ⟨rfl, rfl⟩
    · by_cases h3 : n = 10
      · have HF := Lib.hid (show spN n = true by unfold spN; simp [h3])
        refine Calls.mono ?_ (fin _ HF.out)
        subst h3
        clear fin HF
        go_enter Try.func24, Try.ntmps24
        go_wp2
        go_ret
        exact ⟨rfl, rfl⟩
      · have HF := Lib.hid (show spN n = false by unfold spN; simp [h1, h2, h3])
        refine Calls.mono ?_ (fin _ HF.out)
        have t1 : ((n : Int) == 32) = false := by rw [beq_eq_false_iff_ne]; omega
        have t2 : ((n : Int) == 9) = false := by rw [beq_eq_false_iff_ne]; omega
        have t3 : ((n : Int) == 10) = false := by rw [beq_eq_false_iff_ne]; omega
        clear fin HF h1 h2 h3
        go_enter Try.func24, Try.ntmps24
        go_wp2
        go_ret
        exact ⟨rfl, rfl⟩
/-- The seven bounds, one way or the other. -/
theorem bounds_cases (n : Nat) : n < 48 ∨ (48 ≤ n ∧ n ≤ 57) ∨ (58 ≤ n ∧ n < 65) ∨ (65 ≤ n ∧ n ≤ 90) ∨ (91 ≤ n ∧ n < 97) ∨ (97 ≤ n ∧ n ≤ 122) ∨ (123 ≤ n ∧ n < 128) ∨ 128 ≤ n := by omega
structure Bnd (n : Nat) (b1 b2 b3 b4 b5 b6 b7 : Bool) : Prop where
  h1 : decide (97 ≤ (n : Int)) = b1
  h2 : decide ((n : Int) ≤ 122) = b2
  h3 : decide (65 ≤ (n : Int)) = b3
  h4 : decide ((n : Int) ≤ 90) = b4
  h5 : decide (48 ≤ (n : Int)) = b5
  h6 : decide ((n : Int) ≤ 57) = b6
  h7 : decide (128 ≤ (n : Int)) = b7
theorem bnd_rn {n : Nat} {b1 b2 b3 b4 b5 b6 b7 : Bool} (h : Bnd n b1 b2 b3 b4 b5 b6 b7) : rnN n = (b1 && b2 || b3 && b4 || b5 && b6 || b7) := by
  obtain ⟨h1, h2, h3, h4, h5, h6, h7⟩ := h
  subst h1 h2 h3 h4 h5 h6 h7
  unfold rnN
  congr 1
  · congr 1
    · congr 1
      · congr 1 <;> (rw [decide_eq_decide]; omega)
      · congr 1 <;> (rw [decide_eq_decide]; omega)
    · congr 1 <;> (rw [decide_eq_decide]; omega)
  · rw [decide_eq_decide]; omega
set_option maxRecDepth 1000000 in
set_option maxHeartbeats 4000000 in
theorem inRun_at (n : Nat) (b1 b2 b3 b4 b5 b6 b7 : Bool) (h : Bnd n b1 b2 b3 b4 b5 b6 b7) (hb : (b1 = true ∧ b2 = true ∧ b3 = true ∧ b5 = true) ∨ (b1 = false ∧ b3 = true ∧ b4 = true ∧ b5 = true) ∨ (b1 = false ∧ b3 = false ∧ b5 = true ∧ b6 = true) ∨ (b1 = true ∧ b2 = false ∧ b4 = false ∧ b6 = false ∧ b3 = true ∧ b5 = true) ∨ (b1 = false ∧ b3 = true ∧ b4 = false ∧ b5 = true ∧ b6 = false ∧ b7 = false) ∨ (b1 = false ∧ b3 = false ∧ b5 = true ∧ b6 = false ∧ b7 = false) ∨ (b1 = false ∧ b3 = false ∧ b5 = false ∧ b7 = false)) (w : World) :
    Calls Try.prog 33 #[.int .u8 n] w fun e w' => e = .returned (.bool (b1 && b2 || b3 && b4 || b5 && b6 || b7)) ∧ w' = w := by
  obtain ⟨h1, h2, h3, h4, h5, h6, h7⟩ := h
  rcases hb with ⟨rfl, rfl, rfl, rfl⟩ | ⟨rfl, rfl, rfl, rfl⟩ | ⟨rfl, rfl, rfl, rfl⟩ | ⟨rfl, rfl, rfl, rfl, rfl, rfl⟩ | ⟨rfl, rfl, rfl, rfl, rfl, rfl⟩ | ⟨rfl, rfl, rfl, rfl, rfl⟩ | ⟨rfl, rfl, rfl, rfl⟩
  all_goals (
    go_enter Try.func33, Try.ntmps33
    go_wp2
    go_ret
    exact ⟨by first | rfl | simp, rfl⟩)
theorem bnd_of (n : Nat) : Bnd n (decide (97 ≤ (n : Int))) (decide ((n : Int) ≤ 122)) (decide (65 ≤ (n : Int))) (decide ((n : Int) ≤ 90)) (decide (48 ≤ (n : Int))) (decide ((n : Int) ≤ 57)) (decide (128 ≤ (n : Int))) := ⟨rfl, rfl, rfl, rfl, rfl, rfl, rfl⟩
theorem inRun_any (n : Nat) (w : World) : Calls Try.prog 33 #[.int .u8 n] w fun e w' => e = .returned (.bool (rnN n)) ∧ w' = w := by
  rw [bnd_rn (bnd_of n)]
  refine inRun_at n _ _ _ _ _ _ _ (bnd_of n) ?_ w
  simp only [decide_eq_true_eq, decide_eq_false_iff_not]
  rcases bounds_cases n with h | h | h | h | h | h | h | h <;> omega
set_option maxRecDepth 1000000 in
set_option maxHeartbeats 4000000 in
theorem kind_at (n : Nat) (b1 b2 b3 b4 b5 b6 b7 : Bool) (h : Bnd n b1 b2 b3 b4 b5 b6 b7) (hs : spN n = false) (hb : (b1 = true ∧ b2 = true ∧ b3 = true ∧ b5 = true) ∨ (b1 = false ∧ b3 = true ∧ b4 = true ∧ b5 = true) ∨ (b1 = false ∧ b3 = false ∧ b5 = true ∧ b6 = true) ∨ (b1 = true ∧ b2 = false ∧ b4 = false ∧ b6 = false ∧ b3 = true ∧ b5 = true ∧ b7 = true) ∨ (b1 = true ∧ b2 = false ∧ b4 = false ∧ b6 = false ∧ b3 = true ∧ b5 = true ∧ b7 = false) ∨ (b1 = false ∧ b3 = true ∧ b4 = false ∧ b5 = true ∧ b6 = false ∧ b7 = false) ∨ (b1 = false ∧ b3 = false ∧ b5 = true ∧ b6 = false ∧ b7 = false) ∨ (b1 = false ∧ b3 = false ∧ b5 = false ∧ b7 = false)) (w : World) :
    Calls Try.prog 26 #[.int .u8 n] w fun e w' => e = .returned (.int .i64 (if (b1 && b2 || b3 && b4 || b5 && b6 || b7) = true then 1 else 2)) ∧ w' = w := by
  obtain ⟨h1, h2, h3, h4, h5, h6, h7⟩ := h
  have t1 : ((n : Int) == 32) = false := by unfold spN at hs; simp at hs; rw [beq_eq_false_iff_ne]; omega
  have t2 : ((n : Int) == 9) = false := by unfold spN at hs; simp at hs; rw [beq_eq_false_iff_ne]; omega
  have t3 : ((n : Int) == 10) = false := by unfold spN at hs; simp at hs; rw [beq_eq_false_iff_ne]; omega
  clear hs
  rcases hb with ⟨rfl, rfl, rfl, rfl⟩ | ⟨rfl, rfl, rfl, rfl⟩ | ⟨rfl, rfl, rfl, rfl⟩ | ⟨rfl, rfl, rfl, rfl, rfl, rfl, rfl⟩ | ⟨rfl, rfl, rfl, rfl, rfl, rfl, rfl⟩ | ⟨rfl, rfl, rfl, rfl, rfl, rfl⟩ | ⟨rfl, rfl, rfl, rfl, rfl⟩ | ⟨rfl, rfl, rfl, rfl⟩
  all_goals (
    go_enter Try.func26, Try.ntmps26
    go_wp2
    go_ret
    exact ⟨by first | rfl | simp, rfl⟩)
set_option maxRecDepth 1000000 in
set_option maxHeartbeats 4000000 in
theorem kind_space (n : Nat) (hs : spN n = true) (w : World) : Calls Try.prog 26 #[.int .u8 n] w fun e w' => e = .returned (.int .i64 0) ∧ w' = w := by
  have h3 : n = 32 ∨ n = 9 ∨ n = 10 := by unfold spN at hs; simp at hs; omega
  clear hs
  rcases h3 with rfl | rfl | rfl
  all_goals (
    go_enter Try.func26, Try.ntmps26
    go_wp2
    go_ret
    exact ⟨rfl, rfl⟩)
def knd (n : Nat) : Int := if spN n = true then 0 else if rnN n = true then 1 else 2
theorem kind_any (n : Nat) (w : World) : Calls Try.prog 26 #[.int .u8 n] w fun e w' => e = .returned (.int .i64 (knd n)) ∧ w' = w := by
  unfold knd
  cases hs : spN n with
  | true => rw [if_pos rfl]; exact kind_space n hs w
  | false =>
    rw [if_neg (by simp), bnd_rn (bnd_of n)]
    refine kind_at n _ _ _ _ _ _ _ (bnd_of n) hs ?_ w
    simp only [decide_eq_true_eq, decide_eq_false_iff_not]
    rcases bounds_cases n with h | h | h | h | h | h | h | h <;> omega
end Go.Proofs.Ytbcpeoomkhcgnaa
