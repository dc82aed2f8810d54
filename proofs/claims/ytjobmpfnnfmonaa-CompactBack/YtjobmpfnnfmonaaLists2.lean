/-
  Plain facts on lists of strings as bytes: what is laid is taken as it was, with all that stands behind it; a beginning of it is too short.
-/
import Derived.Test.YtjobmpfnnfmonaaLists
namespace Go.Proofs.Ytjobmpfnnfmonaa

theorem take_le (n k : Nat) (r : List UInt8) : (le n k ++ r).take k = le n k := by
  have := List.take_left (l₁ := le n k) (l₂ := r)
  rwa [le_length] at this
theorem drop_le (n k : Nat) (r : List UInt8) : (le n k ++ r).drop k = r := by
  have := List.drop_left (l₁ := le n k) (l₂ := r)
  rwa [le_length] at this

theorem takeNum_back (n k : Nat) (r : List UInt8) (h : n < 2 ^ (8 * k)) : takeNum k (le n k ++ r) = (n, r, 0) := by
  unfold takeNum
  rw [if_neg (by simp [le_length]), take_le, drop_le, num_le, Nat.mod_eq_of_lt h]

theorem takeMarked_back (n k L : Nat) (r : List UInt8) (h : n < 2 ^ (8 * k)) (hL : L ≤ n) : takeMarked k L (le n k ++ r) = (n, r, 0) := by
  unfold takeMarked
  rw [if_neg (by simp [le_length]), take_le, drop_le, num_le, Nat.mod_eq_of_lt h, if_neg (by omega)]

theorem takeSize_back (n : Nat) (r : List UInt8) (h : n < 18446744073709551616) : takeSize (sizeL n ++ r) = (n, r, 0) := by
  unfold sizeL
  by_cases h1 : n < 253
  · rw [if_pos h1]
    have e : le n 1 = [UInt8.ofNat n] := by simp [le]
    have ht : (UInt8.ofNat n).toNat = n := by simp [UInt8.toNat_ofNat']; omega
    rw [e]
    simp only [List.cons_append, List.nil_append, takeSize]
    have e3 : ¬ UInt8.ofNat n = 253 := fun h => by rw [h] at ht; revert ht; simp; omega
    have e4 : ¬ UInt8.ofNat n = 254 := fun h => by rw [h] at ht; revert ht; simp; omega
    have e5 : ¬ UInt8.ofNat n = 255 := fun h => by rw [h] at ht; revert ht; simp; omega
    simp only [e3, e4, e5, if_false, ht]
  · rw [if_neg h1]
    by_cases h2 : n < 65536
    · rw [if_pos h2]
      simp only [List.cons_append, List.nil_append, takeSize, reduceIte]
      exact takeMarked_back n 2 253 r (by simpa using h2) (by omega)
    · rw [if_neg h2]
      by_cases h3 : n < 4294967296
      · rw [if_pos h3]
        simp only [List.cons_append, List.nil_append, takeSize, reduceIte, show ¬ ((254 : UInt8) = 253) by decide]
        exact takeMarked_back n 4 65536 r (by simpa using h3) (by omega)
      · rw [if_neg h3]
        simp only [List.cons_append, List.nil_append, takeSize, reduceIte, show ¬ ((255 : UInt8) = 253) by decide, show ¬ ((255 : UInt8) = 254) by decide]
        exact takeMarked_back n 8 4294967296 r (by simpa using h) (by omega)

theorem takeBytes_back (x r : List UInt8) (most : Int) (hx : (x.length : Int) ≤ most) (h : x.length < 18446744073709551616) : takeBytes (strL x ++ r) most = (x, r, 0) := by
  unfold takeBytes strL
  rw [List.append_assoc, takeSize_back _ _ h]
  simp only [ne_eq, not_true_eq_false, if_false]
  rw [if_neg (by omega), if_neg (by simp), List.take_left, List.drop_left]

theorem takeStrs_back (most : Int) (r : List UInt8) : ∀ (ls : List (List UInt8)), (∀ x ∈ ls, (x.length : Int) ≤ most ∧ x.length < 18446744073709551616) → takeStrs most ls.length (strsL ls ++ r) = (ls, r, 0)
  | [], _ => by simp [takeStrs, strsL]
  | x :: ls, h => by
    have ih := takeStrs_back most r ls (fun y hy => h y (List.mem_cons_of_mem _ hy))
    have hx := h x (List.mem_cons_self ..)
    rw [List.length_cons, takeStrs, strsL_cons, List.append_assoc, takeBytes_back x _ most hx.1 hx.2]
    simp [ih]

/-- THERE AND BACK. -/
theorem takeList_back (many most : Int) (r : List UInt8) (ls : List (List UInt8)) (hn : (ls.length : Int) ≤ many) (hn' : ls.length < 18446744073709551616) (h : ∀ x ∈ ls, (x.length : Int) ≤ most ∧ x.length < 18446744073709551616) : takeList (listL ls ++ r) many most = (ls, r, 0) := by
  unfold takeList listL
  rw [List.append_assoc, takeSize_back _ _ hn']
  simp only [ne_eq, not_true_eq_false, if_false]
  rw [if_neg (by omega), takeStrs_back most r ls h]

theorem takeMarked_cut (n k L j : Nat) (h : j < k) : takeMarked k L ((le n k).take j) = (0, [], 2) := by
  unfold takeMarked
  rw [if_pos (by simp [le_length]; omega)]

theorem takeSize_cut (n j : Nat) (h : j < (sizeL n).length) : takeSize ((sizeL n).take j) = (0, [], 2) := by
  cases j with
  | zero => simp [takeSize]
  | succ j =>
    unfold sizeL at h ⊢
    by_cases h1 : n < 253
    · rw [if_pos h1, le_length] at h
      omega
    · rw [if_neg h1] at h ⊢
      by_cases h2 : n < 65536
      · rw [if_pos h2] at h ⊢
        simp only [List.cons_append, List.nil_append, List.length_cons, le_length] at h
        simp only [List.cons_append, List.nil_append, List.take_succ_cons, takeSize, reduceIte]
        exact takeMarked_cut n 2 253 j (by omega)
      · rw [if_neg h2] at h ⊢
        by_cases h3 : n < 4294967296
        · rw [if_pos h3] at h ⊢
          simp only [List.cons_append, List.nil_append, List.length_cons, le_length] at h
          simp only [List.cons_append, List.nil_append, List.take_succ_cons, takeSize, reduceIte, show ¬ ((254 : UInt8) = 253) by decide]
          exact takeMarked_cut n 4 65536 j (by omega)
        · rw [if_neg h3] at h ⊢
          simp only [List.cons_append, List.nil_append, List.length_cons, le_length] at h
          simp only [List.cons_append, List.nil_append, List.take_succ_cons, takeSize, reduceIte, show ¬ ((255 : UInt8) = 253) by decide, show ¬ ((255 : UInt8) = 254) by decide]
          exact takeMarked_cut n 8 4294967296 j (by omega)

theorem take_in (a b : List UInt8) (j : Nat) (h : j < a.length) : (a ++ b).take j = a.take j := by
  rw [List.take_append_of_le_length (by omega)]
theorem take_over (a b : List UInt8) (j : Nat) (h : a.length ≤ j) : (a ++ b).take j = a ++ b.take (j - a.length) := by
  rw [List.take_append, List.take_of_length_le h]

theorem takeBytes_cut (x : List UInt8) (most : Int) (j : Nat) (hx : (x.length : Int) ≤ most) (hl : x.length < 18446744073709551616) (h : j < (strL x).length) : takeBytes ((strL x).take j) most = ([], [], 2) := by
  unfold strL at h ⊢
  rcases Nat.lt_or_ge j (sizeL x.length).length with h1 | h1
  · rw [take_in _ _ _ h1]
    unfold takeBytes
    rw [takeSize_cut _ _ h1]
    simp
  · rw [take_over _ _ _ h1]
    unfold takeBytes
    rw [takeSize_back _ _ hl]
    simp only [ne_eq, not_true_eq_false, if_false]
    rw [if_neg (by omega), if_pos]
    simp only [List.length_append, List.length_take] at h ⊢
    omega

theorem takeStrs_cut (most : Int) : ∀ (ls : List (List UInt8)) (j : Nat), (∀ x ∈ ls, (x.length : Int) ≤ most ∧ x.length < 18446744073709551616) → j < (strsL ls).length → takeStrs most ls.length ((strsL ls).take j) = ([], [], 2)
  | [], j, _, h => by simp [strsL] at h
  | x :: ls, j, hall, h => by
    have hx := hall x (List.mem_cons_self ..)
    rw [strsL_cons] at h ⊢
    rw [List.length_cons, takeStrs]
    rcases Nat.lt_or_ge j (strL x).length with h1 | h1
    · rw [take_in _ _ _ h1, takeBytes_cut x most j hx.1 hx.2 h1]
      simp
    · rw [take_over _ _ _ h1, takeBytes_back x _ most hx.1 hx.2]
      have ih := takeStrs_cut most ls (j - (strL x).length) (fun y hy => hall y (List.mem_cons_of_mem _ hy)) (by simp only [List.length_append] at h; omega)
      simp [ih]

/-- CUT OFF. -/
theorem takeList_cut (many most : Int) (ls : List (List UInt8)) (j : Nat) (hn : (ls.length : Int) ≤ many) (hn' : ls.length < 18446744073709551616) (hall : ∀ x ∈ ls, (x.length : Int) ≤ most ∧ x.length < 18446744073709551616) (h : j < (listL ls).length) : takeList ((listL ls).take j) many most = ([], [], 2) := by
  unfold listL at h ⊢
  rcases Nat.lt_or_ge j (sizeL ls.length).length with h1 | h1
  · rw [take_in _ _ _ h1]
    unfold takeList
    rw [takeSize_cut _ _ h1]
    simp
  · rw [take_over _ _ _ h1]
    unfold takeList
    rw [takeSize_back _ _ hn']
    simp only [ne_eq, not_true_eq_false, if_false]
    rw [if_neg (by omega)]
    exact takeStrs_cut most ls _ hall (by simp only [List.length_append] at h; omega)

end Go.Proofs.Ytjobmpfnnfmonaa
