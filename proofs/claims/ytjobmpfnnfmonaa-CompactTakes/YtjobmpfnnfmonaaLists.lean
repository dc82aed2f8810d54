/-
  Plain facts on lists of strings as bytes: what is laid is taken as it was; what is taken was laid so; a beginning is too short.
-/
import Derived.Test.YtjobmpfnnfmonaaNum
namespace Go.Proofs.Ytjobmpfnnfmonaa

/-- A string's bytes. -/
def strL (x : List UInt8) : List UInt8 := sizeL x.length ++ x
theorem strL_length (x : List UInt8) : (strL x).length ≤ x.length + 9 := by
  have := sizeL_length x.length
  simp [strL]; omega

/-- Strings, one behind the other. -/
def strsL (ls : List (List UInt8)) : List UInt8 := (ls.map strL).flatten
theorem strsL_nil : strsL [] = [] := rfl
theorem strsL_cons (x : List UInt8) (ls : List (List UInt8)) : strsL (x :: ls) = strL x ++ strsL ls := by simp [strsL]
theorem strsL_snoc (x : List UInt8) (ls : List (List UInt8)) : strsL (ls ++ [x]) = strsL ls ++ strL x := by simp [strsL]

/-- A list's bytes. -/
def listL (ls : List (List UInt8)) : List UInt8 := sizeL ls.length ++ strsL ls

/-- So many strings are taken. -/
def takeStrs (most : Int) : Nat → List UInt8 → List (List UInt8) × List UInt8 × Nat
  | 0, l => ([], l, 0)
  | n + 1, l =>
    if (takeBytes l most).2.2 ≠ 0 then ([], [], (takeBytes l most).2.2)
    else if (takeStrs most n (takeBytes l most).2.1).2.2 ≠ 0 then ([], [], (takeStrs most n (takeBytes l most).2.1).2.2)
    else ((takeBytes l most).1 :: (takeStrs most n (takeBytes l most).2.1).1, (takeStrs most n (takeBytes l most).2.1).2.1, 0)

/-- A list is taken. -/
def takeList (l : List UInt8) (many most : Int) : List (List UInt8) × List UInt8 × Nat :=
  if (takeSize l).2.2 ≠ 0 then ([], [], (takeSize l).2.2)
  else if many < 0 ∨ many < (takeSize l).1 then ([], [], 4)
  else takeStrs most (takeSize l).1 (takeSize l).2.1

/-- .. behind those that were. -/
def takeFrom (most : Int) (acc : List (List UInt8)) (n : Nat) (l : List UInt8) : List (List UInt8) × List UInt8 × Nat :=
  if (takeStrs most n l).2.2 ≠ 0 then ([], [], (takeStrs most n l).2.2) else (acc ++ (takeStrs most n l).1, (takeStrs most n l).2.1, 0)

theorem takeStrs_err (most : Int) (n : Nat) (l : List UInt8) (h : (takeStrs most n l).2.2 ≠ 0) : takeStrs most n l = ([], [], (takeStrs most n l).2.2) := by
  cases n with
  | zero => simp [takeStrs] at h
  | succ n =>
    unfold takeStrs at h ⊢
    split
    · rfl
    · split
      · rfl
      · rename_i h1 h2; simp [h1, h2] at h

theorem takeFrom_nil (most : Int) (n : Nat) (l : List UInt8) : takeFrom most [] n l = takeStrs most n l := by
  unfold takeFrom
  by_cases h : (takeStrs most n l).2.2 = 0
  · simp only [h, ne_eq, not_true_eq_false, if_false, List.nil_append]
    rw [← h]
  · simp only [ne_eq, h, not_false_eq_true, if_true]
    exact (takeStrs_err most n l h).symm

theorem takeFrom_zero (most : Int) (acc : List (List UInt8)) (l : List UInt8) : takeFrom most acc 0 l = (acc, l, 0) := by simp [takeFrom, takeStrs]

theorem takeFrom_bad (most : Int) (acc : List (List UInt8)) (n : Nat) (l : List UInt8) (h : (takeBytes l most).2.2 ≠ 0) : takeFrom most acc (n + 1) l = ([], [], (takeBytes l most).2.2) := by
  simp [takeFrom, takeStrs, h]

theorem takeFrom_good (most : Int) (acc : List (List UInt8)) (n : Nat) (l : List UInt8) (h : (takeBytes l most).2.2 = 0) :
    takeFrom most acc (n + 1) l = takeFrom most (acc ++ [(takeBytes l most).1]) n (takeBytes l most).2.1 := by
  unfold takeFrom
  rw [takeStrs]
  simp only [h, ne_eq, not_true_eq_false, if_false]
  by_cases h2 : (takeStrs most n (takeBytes l most).2.1).2.2 = 0
  · simp [h2]
  · simp [h2]

/-- A number that is taken, laid again. -/
theorem le_take (k : Nat) (l : List UInt8) (h : k ≤ l.length) : le (num (l.take k)) k ++ l.drop k = l := by
  have e : (l.take k).length = k := by simp; omega
  have := le_num (l.take k)
  rw [e] at this
  rw [this, List.take_append_drop]

theorem takeSize_only (l : List UInt8) (h : (takeSize l).2.2 = 0) : sizeL (takeSize l).1 ++ (takeSize l).2.1 = l := by
  unfold takeSize at h ⊢
  split at h
  · simp at h
  · rename_i c r
    by_cases h3 : c = 253
    · subst h3
      simp only [reduceIte] at h ⊢
      unfold takeMarked at h ⊢
      by_cases h1 : r.length < 2
      · simp [h1] at h
      · by_cases h2 : num (r.take 2) < 253
        · simp [h1, h2] at h
        · have hlt := num_take_lt r 2
          simp only [h1, h2, if_false]
          simp only [Nat.reduceMul, Nat.reducePow] at hlt
          have e := le_take 2 r (by omega)
          unfold sizeL
          rw [if_neg h2, if_pos hlt]
          simp [e]
    · by_cases h4 : c = 254
      · subst h4
        simp only [h3, reduceIte] at h ⊢
        unfold takeMarked at h ⊢
        by_cases h1 : r.length < 4
        · simp [h1] at h
        · by_cases h2 : num (r.take 4) < 65536
          · simp [h1, h2] at h
          · have hlt := num_take_lt r 4
            simp only [h1, h2, if_false]
            simp only [Nat.reduceMul, Nat.reducePow] at hlt
            have e := le_take 4 r (by omega)
            unfold sizeL
            rw [if_neg (by omega), if_neg h2, if_pos hlt]
            simp [e]
      · by_cases h5 : c = 255
        · subst h5
          simp only [h3, h4, reduceIte] at h ⊢
          unfold takeMarked at h ⊢
          by_cases h1 : r.length < 8
          · simp [h1] at h
          · by_cases h2 : num (r.take 8) < 4294967296
            · simp [h1, h2] at h
            · simp only [h1, h2, if_false]
              have e := le_take 8 r (by omega)
              unfold sizeL
              rw [if_neg (by omega), if_neg (by omega), if_neg h2]
              simp [e]
        · simp only [h3, h4, h5, if_false]
          have hc := c.toNat_lt
          have hlt : c.toNat < 253 := by
            rcases Nat.lt_or_ge c.toNat 253 with h | h
            · exact h
            · exfalso
              have : c.toNat = 253 ∨ c.toNat = 254 ∨ c.toNat = 255 := by omega
              rcases this with h | h | h
              · exact h3 (UInt8.toNat_inj.1 h)
              · exact h4 (UInt8.toNat_inj.1 h)
              · exact h5 (UInt8.toNat_inj.1 h)
          unfold sizeL
          rw [if_pos hlt]
          simp [le]

theorem takeBytes_only (l : List UInt8) (most : Int) (h : (takeBytes l most).2.2 = 0) : strL (takeBytes l most).1 ++ (takeBytes l most).2.1 = l ∧ ((takeBytes l most).1.length : Int) ≤ most ∧ (takeBytes l most).2.1.length < l.length := by
  unfold takeBytes at h ⊢
  by_cases h1 : (takeSize l).2.2 = 0
  · have ho := takeSize_only l h1
    by_cases h2 : most < 0 ∨ most < (takeSize l).1
    · simp [h1, h2] at h
    · by_cases h3 : (takeSize l).2.1.length < (takeSize l).1
      · simp [h1, h2, h3] at h
      · simp only [h1, h2, h3, ne_eq, not_true_eq_false, if_false]
        have e : ((takeSize l).2.1.take (takeSize l).1).length = (takeSize l).1 := by simp; omega
        refine ⟨?_, by rw [e]; omega, ?_⟩
        · unfold strL
          rw [e, List.append_assoc, List.take_append_drop]
          exact ho
        · have hl := congrArg List.length ho
          have hp : 0 < (sizeL (takeSize l).1).length := by
            unfold sizeL
            split
            · simp [le_length]
            · split
              · simp
              · split <;> simp
          simp at hl ⊢
          omega
  · simp [h1] at h

theorem takeStrs_only (most : Int) : ∀ (n : Nat) (l : List UInt8), (takeStrs most n l).2.2 = 0 → strsL (takeStrs most n l).1 ++ (takeStrs most n l).2.1 = l ∧ (takeStrs most n l).1.length = n := by
  intro n
  induction n with
  | zero => intro l _; simp [takeStrs, strsL]
  | succ n ih =>
    intro l h
    unfold takeStrs at h ⊢
    by_cases h1 : (takeBytes l most).2.2 = 0
    · by_cases h2 : (takeStrs most n (takeBytes l most).2.1).2.2 = 0
      · obtain ⟨i1, i2⟩ := ih _ h2
        simp only [h1, h2, ne_eq, not_true_eq_false, if_false]
        rw [strsL_cons, List.append_assoc, i1]
        exact ⟨(takeBytes_only l most h1).1, by simp [i2]⟩
      · simp [h1, h2] at h
    · simp [h1] at h

/-- ONLY SO. -/
theorem takeList_only (l : List UInt8) (many most : Int) (h : (takeList l many most).2.2 = 0) : listL (takeList l many most).1 ++ (takeList l many most).2.1 = l ∧ ((takeList l many most).1.length : Int) ≤ many := by
  unfold takeList at h ⊢
  by_cases h1 : (takeSize l).2.2 = 0
  · have ho := takeSize_only l h1
    by_cases h2 : many < 0 ∨ many < (takeSize l).1
    · simp [h1, h2] at h
    · simp only [h1, h2, ne_eq, not_true_eq_false, if_false] at h ⊢
      obtain ⟨i1, i2⟩ := takeStrs_only most _ _ h
      refine ⟨?_, by rw [i2]; omega⟩
      unfold listL
      rw [i2, List.append_assoc, i1]
      exact ho
  · simp [h1] at h

theorem takeList_err (l : List UInt8) (many most : Int) (h : (takeList l many most).2.2 ≠ 0) : (takeList l many most).1 = [] ∧ (takeList l many most).2.1 = [] := by
  unfold takeList at h ⊢
  by_cases h1 : (takeSize l).2.2 = 0
  · by_cases h2 : many < 0 ∨ many < (takeSize l).1
    · simp [h1, h2]
    · simp only [h1, h2, ne_eq, not_true_eq_false, if_false] at h ⊢
      rw [takeStrs_err most _ _ h]
      simp
  · simp [h1]

end Go.Proofs.Ytjobmpfnnfmonaa
