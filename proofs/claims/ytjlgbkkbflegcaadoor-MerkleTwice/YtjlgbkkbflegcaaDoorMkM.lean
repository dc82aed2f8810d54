/-
  Plain mathematics of rows of hashes: pairs, the row above, whether two of a pair are alike, the way of a place, where a way leads.
-/
import Derived.Test.YtjlgbkkbflegcaaDoorLH
import Derived.Test.YtjlgbkkbflegcaaDoorSh
namespace Go.Proofs.YtjlgbkkbflegcaaDoor

/-- The double hash of two. -/
def pr (a b : List UInt8) : List UInt8 := hsh (hsh (a ++ b))
theorem pr_length (a b : List UInt8) : (pr a b).length = 32 := hsh_length _
/-- The place of the one that is paired with the one at i, in a row of n. -/
def mt (i n : Nat) : Nat := if i % 2 = 1 then i - 1 else min (i + 1) (n - 1)
theorem mt_lt {i n : Nat} (h : i < n) : mt i n < n := by unfold mt; split <;> omega
theorem mt_odd {i n : Nat} (h : i % 2 = 1) : mt i n = i - 1 := by unfold mt; rw [if_pos h]
theorem mt_in {i n : Nat} (h : i % 2 = 0) (h2 : i + 1 < n) : mt i n = i + 1 := by unfold mt; rw [if_neg (by omega)]; omega
theorem mt_out {i n : Nat} (h : i % 2 = 0) (h1 : i < n) (h2 : ¬ i + 1 < n) : mt i n = i := by unfold mt; rw [if_neg (by omega)]; omega
/-- The first k of the row above. -/
def lfk (l : List (List UInt8)) : Nat → List (List UInt8)
  | 0 => []
  | k + 1 => lfk l k ++ [pr (atH l (2 * k)) (atH l (mt (2 * k) l.length))]
def lft (l : List (List UInt8)) : List (List UInt8) := lfk l ((l.length + 1) / 2)
theorem lfk_length (l : List (List UInt8)) (k : Nat) : (lfk l k).length = k := by
  induction k with
  | zero => rfl
  | succ k ih => simp [lfk, ih]
theorem lfk_h32 (l : List (List UInt8)) (k : Nat) : H32 (lfk l k) := by
  induction k with
  | zero => exact H32.nil
  | succ k ih => exact ih.app (H32.one (pr_length _ _))
theorem lft_length (l : List (List UInt8)) : (lft l).length = (l.length + 1) / 2 := lfk_length _ _
theorem atH_app_left {l m : List (List UInt8)} {i : Nat} (h : i < l.length) : atH (l ++ m) i = atH l i := by
  unfold atH; rw [List.getD_eq_getElem?_getD, List.getD_eq_getElem?_getD, List.getElem?_append_left h]
theorem atH_app_last {l : List (List UInt8)} {x : List UInt8} {i : Nat} (h : i = l.length) : atH (l ++ [x]) i = x := by
  subst h; unfold atH; simp [List.getD_eq_getElem?_getD]
theorem lfk_at (l : List (List UInt8)) (k i : Nat) (h : i < k) : atH (lfk l k) i = pr (atH l (2 * i)) (atH l (mt (2 * i) l.length)) := by
  induction k with
  | zero => omega
  | succ k ih =>
    by_cases hi : i < k
    · rw [lfk, atH_app_left (by rw [lfk_length]; exact hi), ih hi]
    · obtain rfl : i = k := by omega
      rw [lfk, atH_app_last (lfk_length _ _).symm]
theorem lft_at (l : List (List UInt8)) (i : Nat) (h : i < (l.length + 1) / 2) : atH (lft l) i = pr (atH l (2 * i)) (atH l (mt (2 * i) l.length)) := lfk_at l _ i h
/-- The row k times above. -/
def up (l : List (List UInt8)) : Nat → List (List UInt8)
  | 0 => l
  | k + 1 => lft (up l k)
theorem up_h32 {l : List (List UInt8)} (h : H32 l) (k : Nat) : H32 (up l k) := by
  cases k with
  | zero => exact h
  | succ k => exact lfk_h32 _ _
/-- The one row on top. -/
def isTop (l : List (List UInt8)) (k : Nat) : Prop := (∀ j, j < k → 1 < (up l j).length) ∧ (up l k).length ≤ 1
theorem isTop_unique {l : List (List UInt8)} {j k : Nat} (h : isTop l j) (h' : isTop l k) : j = k := by
  rcases Nat.lt_trichotomy j k with hl | rfl | hl
  · have := h'.1 j hl; have := h.2; omega
  · rfl
  · have := h.1 k hl; have := h'.2; omega
theorem up_pos {l : List (List UInt8)} (h : 0 < l.length) (k : Nat) : 0 < (up l k).length := by
  induction k with
  | zero => exact h
  | succ k ih => show 0 < (lft (up l k)).length; rw [lft_length]; omega
/-- Are two of one of the first m pairs alike? -/
def alk (row : List (List UInt8)) : Nat → Bool
  | 0 => false
  | m + 1 => alk row m || decide (atH row (2 * m) = atH row (2 * m + 1))
def alike (row : List (List UInt8)) : Bool := alk row (row.length / 2)
theorem alk_mono {row : List (List UInt8)} {m : Nat} (k : Nat) (h : alk row m = true) (hk : m ≤ k) : alk row k = true := by
  induction k with
  | zero =>
    obtain rfl : m = 0 := by omega
    exact h
  | succ k ih =>
    by_cases e : m = k + 1
    · subst e; exact h
    · rw [alk, ih (by omega)]; rfl
/-- Is one of the first k rows doubled? -/
def dbl (l : List (List UInt8)) : Nat → Bool
  | 0 => false
  | k + 1 => dbl l k || alike (up l k)
/-- The way of a place. -/
def way (l : List (List UInt8)) (i : Nat) : Nat → List (List UInt8)
  | 0 => []
  | k + 1 => way l i k ++ [atH (up l k) (mt (i / 2 ^ k) (up l k).length)]
theorem way_length (l : List (List UInt8)) (i k : Nat) : (way l i k).length = k := by
  induction k with
  | zero => rfl
  | succ k ih => simp [way, ih]
theorem place_lt {l : List (List UInt8)} {i : Nat} (h : i < l.length) (k : Nat) : i / 2 ^ k < (up l k).length := by
  induction k with
  | zero => simpa [up] using h
  | succ k ih =>
    show _ < (lft (up l k)).length
    rw [lft_length, Nat.pow_succ, ← Nat.div_div_eq_div_mul]
    omega
theorem way_h32 {l : List (List UInt8)} (hl : H32 l) {i : Nat} (h : i < l.length) (k : Nat) : H32 (way l i k) := by
  induction k with
  | zero => exact H32.nil
  | succ k ih => exact ih.app (H32.one ((up_h32 hl k).at (mt_lt (place_lt h k))))
/-- Where the first k of a way lead. -/
def clb (leaf : List UInt8) (i : Nat) (b : List (List UInt8)) : Nat → List UInt8
  | 0 => leaf
  | k + 1 => if i / 2 ^ k % 2 = 0 then pr (clb leaf i b k) (atH b k) else pr (atH b k) (clb leaf i b k)
theorem clb_length {leaf : List UInt8} (h : leaf.length = 32) (i : Nat) (b : List (List UInt8)) (k : Nat) : (clb leaf i b k).length = 32 := by
  cases k with
  | zero => exact h
  | succ k => unfold clb; split <;> exact pr_length _ _
theorem way_at (l : List (List UInt8)) (i k j : Nat) (h : j < k) : atH (way l i k) j = atH (up l j) (mt (i / 2 ^ j) (up l j).length) := by
  induction k with
  | zero => omega
  | succ k ih =>
    by_cases hj : j < k
    · rw [way, atH_app_left (by rw [way_length]; exact hj), ih hj]
    · obtain rfl : j = k := by omega
      rw [way, atH_app_last (way_length _ _ _).symm]
/-- Each way leads up. -/
theorem clb_way (l : List (List UInt8)) (i K : Nat) (h : i < l.length) : ∀ k, k ≤ K → clb (atH l i) i (way l i K) k = atH (up l k) (i / 2 ^ k) := by
  intro k
  induction k with
  | zero => intro _; simp [clb, up]
  | succ k ih =>
    intro hk
    have hp := place_lt h k
    have hq := place_lt h (k + 1)
    have e : i / 2 ^ (k + 1) = i / 2 ^ k / 2 := by rw [Nat.pow_succ, ← Nat.div_div_eq_div_mul]
    have hlen : (up l (k + 1)).length = ((up l k).length + 1) / 2 := lft_length _
    rw [hlen] at hq
    rw [show atH (up l (k + 1)) (i / 2 ^ (k + 1)) = pr (atH (up l k) (2 * (i / 2 ^ (k + 1)))) (atH (up l k) (mt (2 * (i / 2 ^ (k + 1))) (up l k).length)) from lft_at _ _ hq]
    rw [clb, ih (by omega), way_at l i K k (by omega), e]
    generalize i / 2 ^ k = p at *
    by_cases hpar : p % 2 = 0
    · rw [if_pos hpar]
      have e2 : 2 * (p / 2) = p := by omega
      rw [e2]
    · rw [if_neg hpar]
      have e2 : 2 * (p / 2) = p - 1 := by omega
      rw [e2, mt_odd (by omega : p % 2 = 1), mt_in (by omega) (by omega)]
      have e3 : p - 1 + 1 = p := by omega
      rw [e3]
/-- How many rows are lifted, by the count alone. -/
theorem up_len_of {l m : List (List UInt8)} (h : l.length = m.length) (k : Nat) : (up l k).length = (up m k).length := by
  induction k with
  | zero => exact h
  | succ k ih => show (lft _).length = (lft _).length; rw [lft_length, lft_length, ih]
/-- Twice the last. -/
theorem lft_twice {l : List (List UInt8)} (h : l.length % 2 = 1) : lft (l ++ [atH l (l.length - 1)]) = lft l := by
  have hl : (l ++ [atH l (l.length - 1)]).length = l.length + 1 := by simp
  have hn : ((l.length + 1) + 1) / 2 = (l.length + 1) / 2 := by omega
  unfold lft
  rw [hl, hn]
  have key : ∀ k, k ≤ (l.length + 1) / 2 → lfk (l ++ [atH l (l.length - 1)]) k = lfk l k := by
    intro k
    induction k with
    | zero => intro _; rfl
    | succ k ih =>
      intro hk
      rw [lfk, lfk, ih (by omega), hl]
      have h1 : 2 * k < l.length := by omega
      rw [atH_app_left h1]
      by_cases h2 : 2 * k + 1 < l.length
      · rw [mt_in (by omega) (by omega), mt_in (by omega) h2, atH_app_left h2]
      · rw [mt_in (by omega) (by omega), mt_out (by omega) h1 h2, atH_app_last (by omega)]
        have e : l.length - 1 = 2 * k := by omega
        rw [e]
  exact key _ (Nat.le_refl _)
theorem up_twice {l : List (List UInt8)} (h : l.length % 2 = 1) (k : Nat) : up (l ++ [atH l (l.length - 1)]) (k + 1) = up l (k + 1) := by
  induction k with
  | zero => exact lft_twice h
  | succ k ih => show lft _ = lft _; rw [ih]
theorem alike_last {row : List (List UInt8)} (h : row.length % 2 = 0) (h2 : 2 ≤ row.length) (e : atH row (row.length - 1) = atH row (row.length - 2)) : alike row = true := by
  unfold alike
  obtain ⟨m, hm⟩ : ∃ m, row.length / 2 = m + 1 := ⟨row.length / 2 - 1, by omega⟩
  rw [hm, alk]
  have e1 : 2 * m = row.length - 2 := by omega
  have e2 : 2 * m + 1 = row.length - 1 := by omega
  rw [e2, e1, e]
  simp
theorem dbl_first {l : List (List UInt8)} {k : Nat} (h : alike l = true) (hk : 0 < k) : dbl l k = true := by
  induction k with
  | zero => omega
  | succ k ih =>
    rw [dbl]
    by_cases e : k = 0
    · subst e; show (false || alike l) = true; rw [h]; rfl
    · rw [ih (by omega)]; rfl
end Go.Proofs.YtjlgbkkbflegcaaDoor
