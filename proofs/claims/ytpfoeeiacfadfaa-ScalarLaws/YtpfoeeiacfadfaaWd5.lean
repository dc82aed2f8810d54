/-
  Plain mathematics of numbers bit by bit: twice and a bit, single bits, how many bits, which one is greater.
-/
import Derived.Test.YtpfoeeiacfadfaaWd4
namespace Go.Proofs.Ytpfoeeiacfadfaa

theorem tw_words (a b : Nat) (ha : a < M) (hb : b ≤ 1) : w4 ((2 * a + b) % M) = [(gw (w4 a) 0 * 2 % 18446744073709551616 + b) % 18446744073709551616, (gw (w4 a) 1 * 2 % 18446744073709551616 + gw (w4 a) 0 / 9223372036854775808) % 18446744073709551616, (gw (w4 a) 2 * 2 % 18446744073709551616 + gw (w4 a) 1 / 9223372036854775808) % 18446744073709551616, (gw (w4 a) 3 * 2 % 18446744073709551616 + gw (w4 a) 2 / 9223372036854775808) % 18446744073709551616] ∧ gw (w4 a) 3 / 9223372036854775808 = (2 * a + b) / M := by
  obtain ⟨a0, a1, a2, a3, h0, h1, h2, h3, ea, wa⟩ := w4_parts a ha
  rw [wa]
  simp only [gw, List.getD_cons_zero, List.getD_cons_succ]
  obtain ⟨s0, e0⟩ : ∃ s, (a0 * 2 % 18446744073709551616 + b) % 18446744073709551616 = s := ⟨_, rfl⟩
  obtain ⟨s1, e1⟩ : ∃ s, (a1 * 2 % 18446744073709551616 + a0 / 9223372036854775808) % 18446744073709551616 = s := ⟨_, rfl⟩
  obtain ⟨s2, e2⟩ : ∃ s, (a2 * 2 % 18446744073709551616 + a1 / 9223372036854775808) % 18446744073709551616 = s := ⟨_, rfl⟩
  obtain ⟨s3, e3⟩ : ∃ s, (a3 * 2 % 18446744073709551616 + a2 / 9223372036854775808) % 18446744073709551616 = s := ⟨_, rfl⟩
  obtain ⟨c, ec⟩ : ∃ s, a3 / 9223372036854775808 = s := ⟨_, rfl⟩
  rw [e0, e1, e2, e3, ec]
  have l0 : s0 < 18446744073709551616 := by omega
  have l1 : s1 < 18446744073709551616 := by omega
  have l2 : s2 < 18446744073709551616 := by omega
  have l3 : s3 < 18446744073709551616 := by omega
  have e : 2 * a + b = (s0 + 18446744073709551616 * (s1 + 18446744073709551616 * (s2 + 18446744073709551616 * s3))) + M * c := by
    unfold M
    omega
  have hl := v4_lt s0 s1 s2 s3 l0 l1 l2 l3
  rw [e, Nat.add_mul_mod_self_left, Nat.mod_eq_of_lt hl, Nat.add_mul_div_left _ _ (by decide), Nat.div_eq_of_lt hl, Nat.zero_add, w4_of _ _ _ _ l0 l1 l2 l3]
  exact ⟨rfl, rfl⟩

theorem low_bit (x H r : Nat) (hr : r < 64) : (x + 18446744073709551616 * H) / 2 ^ r % 2 = x / 2 ^ r % 2 := by
  have e : 18446744073709551616 = 2 ^ r * (2 * 2 ^ (63 - r)) := by
    have : 2 ^ r * (2 * 2 ^ (63 - r)) = 2 ^ 64 := by rw [← Nat.pow_succ', ← Nat.pow_add]; congr 1; omega
    exact this.symm
  rw [e, Nat.mul_assoc, Nat.add_mul_div_left _ _ (Nat.two_pow_pos r), Nat.mul_assoc]
  omega
theorem bit_word (a i : Nat) (ha : a < M) (hi : i < 256) : gw (w4 a) (i / 64) / 2 ^ (i % 64) % 2 = a / 2 ^ i % 2 := by
  obtain ⟨a0, a1, a2, a3, h0, h1, h2, h3, ea, wa⟩ := w4_parts a ha
  have hi' : i = 64 * (i / 64) + i % 64 := by omega
  have hr : i % 64 < 64 := by omega
  have hq : i / 64 = 0 ∨ i / 64 = 1 ∨ i / 64 = 2 ∨ i / 64 = 3 := by omega
  have ep : a / 2 ^ i = a / 2 ^ (64 * (i / 64)) / 2 ^ (i % 64) := by
    conv => lhs; rw [hi', Nat.pow_add]
    rw [Nat.div_div_eq_div_mul]
  rw [ep, wa, ea]
  generalize i % 64 = r at *
  clear ep
  rcases hq with h | h | h | h
  · rw [h]; simp only [gw, List.getD_cons_zero, Nat.mul_zero, Nat.pow_zero, Nat.div_one]
    rw [low_bit _ _ _ hr]
  · rw [h]; simp only [gw, List.getD_cons_zero, List.getD_cons_succ, Nat.mul_one]
    rw [show (a0 + 18446744073709551616 * (a1 + 18446744073709551616 * (a2 + 18446744073709551616 * a3))) / 2 ^ 64 = a1 + 18446744073709551616 * (a2 + 18446744073709551616 * a3) by omega, low_bit _ _ _ hr]
  · rw [h]; simp only [gw, List.getD_cons_zero, List.getD_cons_succ]
    rw [show (a0 + 18446744073709551616 * (a1 + 18446744073709551616 * (a2 + 18446744073709551616 * a3))) / 2 ^ (64 * 2) = a2 + 18446744073709551616 * a3 by omega, low_bit _ _ _ hr]
  · rw [h]; simp only [gw, List.getD_cons_zero, List.getD_cons_succ]
    rw [show (a0 + 18446744073709551616 * (a1 + 18446744073709551616 * (a2 + 18446744073709551616 * a3))) / 2 ^ (64 * 3) = a3 by omega]
/-- One bit more, or the highest one. -/
theorem len_step (a n : Nat) (ha : a < 2 ^ (n + 1)) : (a / 2 ^ n % 2 = 0 → a < 2 ^ n) ∧ (a / 2 ^ n % 2 ≠ 0 → 2 ^ n ≤ a) := by
  have hp := Nat.two_pow_pos n
  have h1 : a / 2 ^ n < 2 := by rw [Nat.div_lt_iff_lt_mul hp, ← Nat.pow_succ']; exact ha
  constructor
  · intro h
    have h2 : a / 2 ^ n = 0 := by generalize a / 2 ^ n = q at *; omega
    rcases (Nat.div_eq_zero_iff).1 h2 with h | h
    · omega
    · exact h
  · intro h
    apply Nat.le_of_not_lt
    intro hlt
    rw [Nat.div_eq_of_lt hlt] at h
    exact h rfl
theorem half_step (R i : Nat) : 2 * (R / 2 ^ (i + 1)) + R / 2 ^ i % 2 = R / 2 ^ i := by
  rw [Nat.pow_succ, ← Nat.div_div_eq_div_mul]; omega
/-- The words above are alike: this one tells. -/
theorem cmp_word (a b j : Nat) (ha : a < M) (hb : b < M) (hj : j < 4) (hz : ∀ i, j < i → i < 4 → gw (w4 a) i = gw (w4 b) i) :
    (gw (w4 a) j < gw (w4 b) j → a < b) ∧ (gw (w4 b) j < gw (w4 a) j → b < a) := by
  obtain ⟨a0, a1, a2, a3, h0, h1, h2, h3, ea, wa⟩ := w4_parts a ha
  obtain ⟨b0, b1, b2, b3, k0, k1, k2, k3, eb, wb⟩ := w4_parts b hb
  rw [wa, wb] at hz ⊢
  have hj' : j = 0 ∨ j = 1 ∨ j = 2 ∨ j = 3 := by omega
  rcases hj' with rfl | rfl | rfl | rfl
  · have z1 := hz 1 (by decide) (by decide); have z2 := hz 2 (by decide) (by decide); have z3 := hz 3 (by decide) (by decide)
    simp [gw] at z1 z2 z3 ⊢
    omega
  · have z2 := hz 2 (by decide) (by decide); have z3 := hz 3 (by decide) (by decide)
    simp [gw] at z2 z3 ⊢
    omega
  · have z3 := hz 3 (by decide) (by decide)
    simp [gw] at z3 ⊢
    omega
  · simp [gw]
    omega
theorem same_words (a b : Nat) (ha : a < M) (hb : b < M) (hz : ∀ i, i < 4 → gw (w4 a) i = gw (w4 b) i) : a = b := by
  obtain ⟨e1, _⟩ := w4_words a ha
  obtain ⟨e2, _⟩ := w4_words b hb
  rw [e1, e2, hz 0 (by decide), hz 1 (by decide), hz 2 (by decide), hz 3 (by decide)]
theorem shl_step (a k : Nat) : (2 * (a * 2 ^ k % M) + 0) % M = a * 2 ^ (k + 1) % M := by
  rw [Nat.add_zero, Nat.mul_mod_mod, Nat.pow_succ, Nat.mul_left_comm, Nat.mul_comm 2 (2 ^ k)]
theorem shl_far (a n : Nat) (hn : 256 ≤ n) : a * 2 ^ n % M = a * 2 ^ 256 % M := by
  have e : 2 ^ n = M * 2 ^ (n - 256) := by rw [show M = 2 ^ 256 from rfl, ← Nat.pow_add, show 256 + (n - 256) = n by omega]
  have h0 : a * 2 ^ 256 % M = 0 := by rw [← show M = 2 ^ 256 from rfl]; exact Nat.mul_mod_left a M
  rw [h0, e, Nat.mul_left_comm, Nat.mul_mod_right]
/-- A step of dividing bit by bit. -/
theorem rem_step (r b m : Nat) (hr : r < m) (hm : m < M) (hb : b ≤ 1) : ((2 * r + b) / M = 1 ∨ m ≤ (2 * r + b) % M) ∧ ((2 * r + b) % M + M - m) % M = (2 * r + b) % m ∧ (2 * r + b) / m = 1 ∨ ¬ ((2 * r + b) / M = 1 ∨ m ≤ (2 * r + b) % M) ∧ (2 * r + b) % M = (2 * r + b) % m ∧ (2 * r + b) / m = 0 := by
  obtain ⟨v, hv⟩ : ∃ v, 2 * r + b = v := ⟨_, rfl⟩
  rw [hv]
  by_cases h : v < m
  · refine .inr ⟨?_, ?_, Nat.div_eq_of_lt h⟩
    · unfold M at *; omega
    · rw [Nat.mod_eq_of_lt h]; unfold M at *; omega
  · have e1 : v % m = v - m := by rw [Nat.mod_eq_sub_mod (by omega), Nat.mod_eq_of_lt (by omega)]
    have e2 : v / m = 1 := by
      have := Nat.div_add_mod v m
      rw [e1] at this
      have h2 : m * (v / m) = m * 1 := by omega
      exact Nat.eq_of_mul_eq_mul_left (by omega) h2
    refine .inl ⟨?_, ?_, e2⟩
    · unfold M at *; omega
    · rw [e1]; unfold M at *; omega
theorem bits_step (X i m : Nat) : (2 * (X / 2 ^ (i + 1) % m) + X / 2 ^ i % 2) % m = X / 2 ^ i % m := by
  conv => rhs; rw [← half_step X i]
  rw [Nat.add_mod, Nat.mul_mod, Nat.mod_mod, ← Nat.mul_mod, ← Nat.add_mod]
theorem quo_step (X i m : Nat) (hm : 0 < m) : 2 * (X / 2 ^ (i + 1) / m) + (2 * (X / 2 ^ (i + 1) % m) + X / 2 ^ i % 2) / m = X / 2 ^ i / m := by
  conv => rhs; rw [← half_step X i]
  have h := Nat.div_add_mod (X / 2 ^ (i + 1)) m
  generalize X / 2 ^ (i + 1) = y at *
  generalize X / 2 ^ i % 2 = b at *
  have e : 2 * y + b = (2 * (y % m) + b) + m * (2 * (y / m)) := by
    rw [Nat.mul_left_comm]
    generalize m * (y / m) = z at *
    omega
  rw [e, Nat.add_mul_div_left _ _ hm, Nat.add_comm]
end Go.Proofs.Ytpfoeeiacfadfaa
