/-
  Plain mathematics of shifts of numbers of 256 bits, and of how many bits a number has.
-/
import Derived.Test.YtpfoeeiacfadfaaWd
import Derived.Lib.ItoaNum
namespace Go.Proofs.Ytpfoeeiacfadfaa

theorem pow64 (r : Nat) (h : r ≤ 64) : 2 ^ r * 2 ^ (64 - r) = 18446744073709551616 := by
  rw [← Nat.pow_add, show r + (64 - r) = 64 by omega]
theorem lo_eq (x r : Nat) (h : r ≤ 64) : x * 2 ^ r % 18446744073709551616 = 2 ^ r * (x % 2 ^ (64 - r)) := by
  rw [← pow64 r h, Nat.mul_comm x, Nat.mul_mod_mul_left]
theorem hi_eq (x r : Nat) (h : r ≤ 64) : x * 2 ^ r / 18446744073709551616 = x / 2 ^ (64 - r) := by
  rw [← pow64 r h, Nat.mul_comm x, Nat.mul_div_mul_left _ _ (Nat.two_pow_pos r)]
theorem hi_lt (x r : Nat) (hx : x < 18446744073709551616) (h : r ≤ 64) : x / 2 ^ (64 - r) < 2 ^ r := by
  rw [Nat.div_lt_iff_lt_mul (Nat.two_pow_pos _), pow64 r h]; exact hx
/-- A word that is shifted up, and what comes up from the word below. -/
theorem shl_word (x y r : Nat) (hy : y < 18446744073709551616) (h : r ≤ 64) :
    x * 2 ^ r % 18446744073709551616 ||| y / 2 ^ (64 - r) = x * 2 ^ r % 18446744073709551616 + y * 2 ^ r / 18446744073709551616 ∧ x * 2 ^ r % 18446744073709551616 + y * 2 ^ r / 18446744073709551616 < 18446744073709551616 := by
  have hl := hi_lt y r hy h
  have hp := pow64 r h
  rw [hi_eq y r h, lo_eq x r h]
  refine ⟨(Nat.two_pow_add_eq_or_of_lt hl _).symm, ?_⟩
  have h2 : x % 2 ^ (64 - r) < 2 ^ (64 - r) := Nat.mod_lt _ (Nat.two_pow_pos _)
  have h3 : 2 ^ r * (x % 2 ^ (64 - r)) + 2 ^ r ≤ 2 ^ r * 2 ^ (64 - r) := by rw [← Nat.mul_succ]; exact Nat.mul_le_mul_left _ h2
  omega

def shlD (l : List Nat) (q r k : Nat) : Nat := if q < k then gw l (k - q) * 2 ^ r % 18446744073709551616 ||| gw l (k - q - 1) / 2 ^ (64 - r) else gw l (k - q) * 2 ^ r % 18446744073709551616
def shlT (l : List Nat) (q r : Nat) : Nat → List Nat
  | 0 => [0, 0, 0, 0]
  | k + 1 => if q ≤ k then (shlT l q r k).set k (shlD l q r k) else shlT l q r k
theorem shlT_length (l : List Nat) (q r k : Nat) : (shlT l q r k).length = 4 := by
  induction k with
  | zero => rfl
  | succ k ih => simp only [shlT]; split <;> simp [ih]
theorem shlT_low (l : List Nat) (q r k : Nat) (h : k ≤ q) : shlT l q r k = [0, 0, 0, 0] := by
  induction k with
  | zero => rfl
  | succ k ih => simp only [shlT]; rw [if_neg (by omega), ih (by omega)]
theorem shl_words (a r : Nat) (ha : a < M) (hr : r ≤ 64) : ∃ a0 a1 a2 a3 s0 s1 s2 s3 t, w4 a = [a0, a1, a2, a3] ∧ s0 < 18446744073709551616 ∧ s1 < 18446744073709551616 ∧ s2 < 18446744073709551616 ∧ s3 < 18446744073709551616 ∧
    a0 * 2 ^ r % 18446744073709551616 = s0 ∧ a1 * 2 ^ r % 18446744073709551616 ||| a0 / 2 ^ (64 - r) = s1 ∧ a2 * 2 ^ r % 18446744073709551616 ||| a1 / 2 ^ (64 - r) = s2 ∧ a3 * 2 ^ r % 18446744073709551616 ||| a2 / 2 ^ (64 - r) = s3 ∧
    a * 2 ^ r = (s0 + 18446744073709551616 * (s1 + 18446744073709551616 * (s2 + 18446744073709551616 * s3))) + M * t := by
  obtain ⟨a0, a1, a2, a3, h0, h1, h2, h3, ea, wa⟩ := w4_parts a ha
  obtain ⟨e1, l1⟩ := shl_word a1 a0 r h0 hr
  obtain ⟨e2, l2⟩ := shl_word a2 a1 r h1 hr
  obtain ⟨e3, l3⟩ := shl_word a3 a2 r h2 hr
  refine ⟨a0, a1, a2, a3, _, _, _, _, a3 * 2 ^ r / 18446744073709551616, wa, ?_, ?_, ?_, ?_, rfl, e1, e2, e3, ?_⟩
  · omega
  · exact l1
  · exact l2
  · exact l3
  · have en : a * 2 ^ r = a0 * 2 ^ r + 18446744073709551616 * (a1 * 2 ^ r + 18446744073709551616 * (a2 * 2 ^ r + 18446744073709551616 * (a3 * 2 ^ r))) := by rw [ea]; simp only [Nat.add_mul, Nat.mul_assoc]
    rw [en]
    generalize a0 * 2 ^ r = x0; generalize a1 * 2 ^ r = x1; generalize a2 * 2 ^ r = x2; generalize a3 * 2 ^ r = x3
    unfold M
    omega
theorem modM (x y t : Nat) (h : x = y + M * t) (hy : y < M) : x % M = y := by rw [h, Nat.add_mul_mod_self_left, Nat.mod_eq_of_lt hy]
theorem shlT_all (a n : Nat) (ha : a < M) : shlT (w4 a) (n / 64) (n % 64) 4 = w4 (a * 2 ^ n % M) := by
  have hr : n % 64 ≤ 64 := by omega
  have hn : n = 64 * (n / 64) + n % 64 := by omega
  by_cases hq : 4 ≤ n / 64
  · rw [shlT_low _ _ _ _ hq]
    have : a * 2 ^ n % M = 0 := by
      have e : 2 ^ n = M * 2 ^ (n - 256) := by rw [show M = 2 ^ 256 from rfl, ← Nat.pow_add, show 256 + (n - 256) = n by omega]
      rw [e, Nat.mul_left_comm, Nat.mul_mod_right]
    rw [this, w4_eq]
  · obtain ⟨a0, a1, a2, a3, s0, s1, s2, s3, t, wa, l0, l1, l2, l3, f0, f1, f2, f3, e⟩ := shl_words a (n % 64) ha hr
    have hz := v4_lt s0 s1 s2 s3 l0 l1 l2 l3
    have hq' : n / 64 = 0 ∨ n / 64 = 1 ∨ n / 64 = 2 ∨ n / 64 = 3 := by omega
    rw [wa]
    have pw : a * 2 ^ n = 2 ^ (64 * (n / 64)) * (a * 2 ^ (n % 64)) := by
      conv => lhs; rw [hn, Nat.pow_add]
      rw [Nat.mul_left_comm]
    rw [pw, e]
    generalize n % 64 = r at *
    clear pw hn
    rcases hq' with h | h | h | h
    · rw [h]
      simp [shlT, shlD, gw, f0, f1, f2, f3]
      rw [Nat.mod_eq_of_lt hz, w4_of _ _ _ _ l0 l1 l2 l3]
    · rw [h]
      simp [shlT, shlD, gw, f0, f1, f2]
      rw [modM _ (0 + 18446744073709551616 * (s0 + 18446744073709551616 * (s1 + 18446744073709551616 * s2))) (s3 + 18446744073709551616 * t) (by unfold M; omega) (v4_lt 0 s0 s1 s2 (by decide) l0 l1 l2), w4_of _ _ _ _ (by decide) l0 l1 l2]
    · rw [h]
      simp [shlT, shlD, gw, f0, f1]
      rw [modM _ (0 + 18446744073709551616 * (0 + 18446744073709551616 * (s0 + 18446744073709551616 * s1))) (s2 + 18446744073709551616 * (s3 + 18446744073709551616 * t)) (by unfold M; omega) (v4_lt 0 0 s0 s1 (by decide) (by decide) l0 l1), w4_of _ _ _ _ (by decide) (by decide) l0 l1]
    · rw [h]
      simp [shlT, shlD, gw, f0]
      rw [modM _ (0 + 18446744073709551616 * (0 + 18446744073709551616 * (0 + 18446744073709551616 * s0))) (s1 + 18446744073709551616 * (s2 + 18446744073709551616 * (s3 + 18446744073709551616 * t))) (by unfold M; omega) (v4_lt 0 0 0 s0 (by decide) (by decide) (by decide) l0), w4_of _ _ _ _ (by decide) (by decide) (by decide) l0]

/-! ### Shifts down -/
def shrD (l : List Nat) (r k : Nat) : Nat := if k + 1 < 4 then gw l k / 2 ^ r ||| gw l (k + 1) * 2 ^ (64 - r) % 18446744073709551616 else gw l k / 2 ^ r
def shrT (l : List Nat) (q r : Nat) : Nat → List Nat
  | 0 => [0, 0, 0, 0]
  | k + 1 => if q ≤ k then (shrT l q r k).set (k - q) (shrD l r k) else shrT l q r k
theorem shrT_length (l : List Nat) (q r k : Nat) : (shrT l q r k).length = 4 := by
  induction k with
  | zero => rfl
  | succ k ih => simp only [shrT]; split <;> simp [ih]
theorem shrT_low (l : List Nat) (q r k : Nat) (h : k ≤ q) : shrT l q r k = [0, 0, 0, 0] := by
  induction k with
  | zero => rfl
  | succ k ih => simp only [shrT]; rw [if_neg (by omega), ih (by omega)]
theorem shr_word (x y r : Nat) (hx : x < 18446744073709551616) (h : r ≤ 64) :
    x / 2 ^ r ||| y * 2 ^ (64 - r) % 18446744073709551616 = x / 2 ^ r + 2 ^ (64 - r) * (y % 2 ^ r) ∧ x / 2 ^ r + 2 ^ (64 - r) * (y % 2 ^ r) < 18446744073709551616 := by
  have h' : 64 - r ≤ 64 := by omega
  have e : 64 - (64 - r) = r := by omega
  have hl := hi_lt x (64 - r) hx h'
  have hlo := lo_eq y (64 - r) h'
  have hp := pow64 r h
  rw [e] at hl hlo
  rw [hlo, Nat.or_comm]
  refine ⟨by rw [← Nat.two_pow_add_eq_or_of_lt hl, Nat.add_comm], ?_⟩
  have h2 : y % 2 ^ r < 2 ^ r := Nat.mod_lt _ (Nat.two_pow_pos _)
  have h3 : 2 ^ (64 - r) * (y % 2 ^ r) + 2 ^ (64 - r) ≤ 2 ^ (64 - r) * 2 ^ r := by rw [← Nat.mul_succ]; exact Nat.mul_le_mul_left _ h2
  rw [Nat.mul_comm (2 ^ (64 - r)) (2 ^ r), hp] at h3
  omega
theorem shr_words (a r : Nat) (ha : a < M) (hr : r ≤ 64) : ∃ a0 a1 a2 a3 s0 s1 s2 s3, w4 a = [a0, a1, a2, a3] ∧ s0 < 18446744073709551616 ∧ s1 < 18446744073709551616 ∧ s2 < 18446744073709551616 ∧ s3 < 18446744073709551616 ∧
    a0 / 2 ^ r ||| a1 * 2 ^ (64 - r) % 18446744073709551616 = s0 ∧ a1 / 2 ^ r ||| a2 * 2 ^ (64 - r) % 18446744073709551616 = s1 ∧ a2 / 2 ^ r ||| a3 * 2 ^ (64 - r) % 18446744073709551616 = s2 ∧ a3 / 2 ^ r = s3 ∧
    a / 2 ^ r = s0 + 18446744073709551616 * (s1 + 18446744073709551616 * (s2 + 18446744073709551616 * s3)) := by
  obtain ⟨a0, a1, a2, a3, h0, h1, h2, h3, ea, wa⟩ := w4_parts a ha
  obtain ⟨e0, l0⟩ := shr_word a0 a1 r h0 hr
  obtain ⟨e1, l1⟩ := shr_word a1 a2 r h1 hr
  obtain ⟨e2, l2⟩ := shr_word a2 a3 r h2 hr
  have hd : 0 < 2 ^ r := Nat.two_pow_pos r
  refine ⟨a0, a1, a2, a3, _, _, _, _, wa, l0, l1, l2, ?_, e0, e1, e2, rfl, ?_⟩
  · exact Nat.lt_of_le_of_lt (Nat.div_le_self _ _) h3
  · have z1 : ∀ y, 2 ^ r * (2 ^ (64 - r) * y) = 18446744073709551616 * y := fun y => by rw [← Nat.mul_assoc, pow64 r hr]
    have d0 := Nat.div_add_mod a0 (2 ^ r); have d1 := Nat.div_add_mod a1 (2 ^ r); have d2 := Nat.div_add_mod a2 (2 ^ r); have d3 := Nat.div_add_mod a3 (2 ^ r)
    have m0 := Nat.mod_lt a0 hd
    have key : a = a0 % 2 ^ r + 2 ^ r * (a0 / 2 ^ r + 2 ^ (64 - r) * (a1 % 2 ^ r) + 18446744073709551616 * (a1 / 2 ^ r + 2 ^ (64 - r) * (a2 % 2 ^ r) + 18446744073709551616 * (a2 / 2 ^ r + 2 ^ (64 - r) * (a3 % 2 ^ r) + 18446744073709551616 * (a3 / 2 ^ r)))) := by
      simp only [Nat.mul_add, z1, Nat.mul_left_comm (2 ^ r) 18446744073709551616]
      generalize 2 ^ r * (a0 / 2 ^ r) = p0 at *; generalize 2 ^ r * (a1 / 2 ^ r) = p1 at *; generalize 2 ^ r * (a2 / 2 ^ r) = p2 at *; generalize 2 ^ r * (a3 / 2 ^ r) = p3 at *
      generalize a0 % 2 ^ r = q0 at *; generalize a1 % 2 ^ r = q1 at *; generalize a2 % 2 ^ r = q2 at *; generalize a3 % 2 ^ r = q3 at *
      omega
    generalize a0 / 2 ^ r + 2 ^ (64 - r) * (a1 % 2 ^ r) + 18446744073709551616 * (a1 / 2 ^ r + 2 ^ (64 - r) * (a2 % 2 ^ r) + 18446744073709551616 * (a2 / 2 ^ r + 2 ^ (64 - r) * (a3 % 2 ^ r) + 18446744073709551616 * (a3 / 2 ^ r))) = R at key ⊢
    rw [key, Nat.add_mul_div_left _ _ hd, Nat.div_eq_of_lt m0, Nat.zero_add]
theorem shrT_all (a n : Nat) (ha : a < M) : shrT (w4 a) (n / 64) (n % 64) 4 = w4 (a / 2 ^ n) := by
  have hr : n % 64 ≤ 64 := by omega
  have hn : n = n % 64 + 64 * (n / 64) := by omega
  by_cases hq : 4 ≤ n / 64
  · rw [shrT_low _ _ _ _ hq]
    have : a / 2 ^ n = 0 := by
      apply Nat.div_eq_of_lt
      have : M ≤ 2 ^ n := by rw [show M = 2 ^ 256 from rfl]; exact Nat.pow_le_pow_right (by decide) (by omega)
      omega
    rw [this, w4_eq]
  · obtain ⟨a0, a1, a2, a3, s0, s1, s2, s3, wa, l0, l1, l2, l3, f0, f1, f2, f3, e⟩ := shr_words a (n % 64) ha hr
    have hq' : n / 64 = 0 ∨ n / 64 = 1 ∨ n / 64 = 2 ∨ n / 64 = 3 := by omega
    rw [wa]
    have pw : a / 2 ^ n = a / 2 ^ (n % 64) / 2 ^ (64 * (n / 64)) := by
      conv => lhs; rw [hn, Nat.pow_add]
      rw [Nat.div_div_eq_div_mul]
    rw [pw, e]
    generalize n % 64 = r at *
    clear pw hn
    have hz := w4_of s0 s1 s2 s3 l0 l1 l2 l3
    rcases hq' with h | h | h | h
    · rw [h]
      simp [shrT, shrD, gw, f0, f1, f2, f3]
      rw [hz]
    · rw [h]
      simp [shrT, shrD, gw, f1, f2, f3]
      rw [show (s0 + 18446744073709551616 * (s1 + 18446744073709551616 * (s2 + 18446744073709551616 * s3))) / 18446744073709551616 = s1 + 18446744073709551616 * (s2 + 18446744073709551616 * (s3 + 18446744073709551616 * 0)) by omega, w4_of _ _ _ _ l1 l2 l3 (by decide)]
    · rw [h]
      simp [shrT, shrD, gw, f2, f3]
      rw [show (s0 + 18446744073709551616 * (s1 + 18446744073709551616 * (s2 + 18446744073709551616 * s3))) / 340282366920938463463374607431768211456 = s2 + 18446744073709551616 * (s3 + 18446744073709551616 * (0 + 18446744073709551616 * 0)) by omega, w4_of _ _ _ _ l2 l3 (by decide) (by decide)]
    · rw [h]
      simp [shrT, shrD, gw, f3]
      rw [show (s0 + 18446744073709551616 * (s1 + 18446744073709551616 * (s2 + 18446744073709551616 * s3))) / 6277101735386680763835789423207666416102355444464034512896 = s3 + 18446744073709551616 * (0 + 18446744073709551616 * (0 + 18446744073709551616 * 0)) by omega, w4_of _ _ _ _ l3 (by decide) (by decide) (by decide)]

/-! ### How many bits -/
/-- How many bits a number has. -/
def blen (n : Nat) : Nat := Lib.bitLenAux 256 n
theorem blen_zero : blen 0 = 0 := rfl
theorem blen_bounds (n : Nat) (hn : n < M) (h0 : n ≠ 0) : 1 ≤ blen n ∧ 2 ^ (blen n - 1) ≤ n ∧ n < 2 ^ blen n := Lib.bitLenAux_bounds 256 n hn h0
theorem blen_le (n : Nat) (hn : n < M) : blen n ≤ 256 := Lib.bitLenAux_le 256 n 256 hn
theorem blen_of (n k : Nat) (hn : n < M) (h1 : 2 ^ k ≤ n) (h2 : n < 2 ^ (k + 1)) : blen n = k + 1 := by
  have h0 : n ≠ 0 := by have := Nat.two_pow_pos k; omega
  obtain ⟨b1, b2, b3⟩ := blen_bounds n hn h0
  have c1 : k < blen n := (Nat.pow_lt_pow_iff_right (by decide : 1 < 2)).1 (Nat.lt_of_le_of_lt h1 b3)
  have c2 : blen n - 1 < k + 1 := (Nat.pow_lt_pow_iff_right (by decide : 1 < 2)).1 (Nat.lt_of_le_of_lt b2 h2)
  omega
/-- The words above the word i are 0, and it is not. -/
theorem blen_word (n i x : Nat) (hn : n < M) (hi : i < 4) (hx : gw (w4 n) i = x) (h0 : x ≠ 0) (hz : ∀ j, i < j → j < 4 → gw (w4 n) j = 0) : blen n = 64 * i + Lib.bitLen x := by
  obtain ⟨a0, a1, a2, a3, h0', h1, h2, h3, ea, wa⟩ := w4_parts n hn
  have hxl : x < 18446744073709551616 := hx ▸ gw_lt n i
  obtain ⟨b1, b2, b3⟩ := Lib.bitLenAux_bounds 64 x hxl h0
  have e : Lib.bitLen x = Lib.bitLenAux 64 x := rfl
  rw [e]
  obtain ⟨k, hk⟩ : ∃ k, Lib.bitLenAux 64 x = k + 1 := ⟨Lib.bitLenAux 64 x - 1, by omega⟩
  rw [hk] at b2 b3 ⊢
  rw [show k + 1 - 1 = k by omega] at b2
  rw [wa] at hx hz
  have hlow : ∃ L, n = L + 2 ^ (64 * i) * x ∧ L < 2 ^ (64 * i) := by
    have hi' : i = 0 ∨ i = 1 ∨ i = 2 ∨ i = 3 := by omega
    rcases hi' with rfl | rfl | rfl | rfl
    · have z1 := hz 1 (by decide) (by decide); have z2 := hz 2 (by decide) (by decide); have z3 := hz 3 (by decide) (by decide)
      simp [gw] at hx z1 z2 z3; subst hx z1 z2 z3
      exact ⟨0, by omega, by decide⟩
    · have z2 := hz 2 (by decide) (by decide); have z3 := hz 3 (by decide) (by decide)
      simp [gw] at hx z2 z3; subst hx z2 z3
      exact ⟨a0, by omega, by simpa using h0'⟩
    · have z3 := hz 3 (by decide) (by decide)
      simp [gw] at hx z3; subst hx z3
      exact ⟨a0 + 18446744073709551616 * a1, by omega, by simp; omega⟩
    · simp [gw] at hx; subst hx
      exact ⟨a0 + 18446744073709551616 * (a1 + 18446744073709551616 * a2), by omega, by simp; omega⟩
  obtain ⟨L, hL, hL2⟩ := hlow
  have h3 : 2 ^ (64 * i) * 2 ^ k ≤ 2 ^ (64 * i) * x := Nat.mul_le_mul_left _ b2
  have h4 : 2 ^ (64 * i) * x + 2 ^ (64 * i) ≤ 2 ^ (64 * i) * 2 ^ (k + 1) := by rw [← Nat.mul_succ]; exact Nat.mul_le_mul_left _ b3
  have := blen_of n (64 * i + k) hn (by rw [Nat.pow_add]; omega) (by rw [Nat.add_assoc, Nat.pow_add]; omega)
  omega
end Go.Proofs.Ytpfoeeiacfadfaa
