/-
  Plain mathematics of numbers of 256 bits in four words: their words; sums, differences, products and shifts word by word, and quotients by guessing a word.
  Conditions: none of any program.
-/
import Derived.Test.YtpfoeeiacfadfaaU64
import Derived.Lib.ItoaNum
namespace Go.Proofs.Ytpfoeeiacfadfaa

/-- The four words of a number, the lowest first (told by a recursion that ends at once: so that no walk looks into it). -/
def w4w (k n : Nat) : List Nat := if k = 0 then [n % 18446744073709551616, n / 18446744073709551616 % 18446744073709551616, n / 18446744073709551616 / 18446744073709551616 % 18446744073709551616, n / 18446744073709551616 / 18446744073709551616 / 18446744073709551616 % 18446744073709551616] else w4w (k / 2) n
termination_by k
decreasing_by omega
def w4 (n : Nat) : List Nat := w4w 0 n
theorem w4_eq (n : Nat) : w4 n = [n % 18446744073709551616, n / 18446744073709551616 % 18446744073709551616, n / 18446744073709551616 / 18446744073709551616 % 18446744073709551616, n / 18446744073709551616 / 18446744073709551616 / 18446744073709551616 % 18446744073709551616] := by
  unfold w4; rw [w4w]; simp
/-- The number of four words. -/
def v4 : List Nat → Nat
  | [a, b, c, d] => a + 18446744073709551616 * (b + 18446744073709551616 * (c + 18446744073709551616 * d))
  | _ => 0
/-- 2^256 -/
def M : Nat := 115792089237316195423570985008687907853269984665640564039457584007913129639936
theorem w4_length (n : Nat) : (w4 n).length = 4 := by rw [w4_eq]; rfl
theorem v4_w4 (n : Nat) (h : n < M) : v4 (w4 n) = n := by
  unfold M at h; simp only [w4_eq, v4]; omega
theorem w4_of (a b c d : Nat) (ha : a < 18446744073709551616) (hb : b < 18446744073709551616) (hc : c < 18446744073709551616) (hd : d < 18446744073709551616) : w4 (a + 18446744073709551616 * (b + 18446744073709551616 * (c + 18446744073709551616 * d))) = [a, b, c, d] := by
  simp only [w4_eq]
  have e1 : (a + 18446744073709551616 * (b + 18446744073709551616 * (c + 18446744073709551616 * d))) / 18446744073709551616 = b + 18446744073709551616 * (c + 18446744073709551616 * d) := by omega
  have e2 : (b + 18446744073709551616 * (c + 18446744073709551616 * d)) / 18446744073709551616 = c + 18446744073709551616 * d := by omega
  have e3 : (c + 18446744073709551616 * d) / 18446744073709551616 = d := by omega
  rw [e1, e2, e3]
  simp only [List.cons.injEq, and_true]
  refine ⟨by omega, by omega, by omega, by omega⟩
/-- A number parted into its words. -/
theorem w4_parts (n : Nat) (h : n < M) : ∃ a b c d, a < 18446744073709551616 ∧ b < 18446744073709551616 ∧ c < 18446744073709551616 ∧ d < 18446744073709551616 ∧ n = a + 18446744073709551616 * (b + 18446744073709551616 * (c + 18446744073709551616 * d)) ∧ w4 n = [a, b, c, d] := by
  have hv := v4_w4 n h
  rw [w4_eq] at hv ⊢
  refine ⟨_, _, _, _, ?_, ?_, ?_, ?_, hv.symm, rfl⟩ <;> omega
theorem w4_inj {a b : Nat} (ha : a < M) (hb : b < M) : w4 a = w4 b ↔ a = b :=
  ⟨fun h => by have := congrArg v4 h; rwa [v4_w4 a ha, v4_w4 b hb] at this, fun h => h ▸ rfl⟩
theorem v4_lt (a b c d : Nat) (ha : a < 18446744073709551616) (hb : b < 18446744073709551616) (hc : c < 18446744073709551616) (hd : d < 18446744073709551616) : a + 18446744073709551616 * (b + 18446744073709551616 * (c + 18446744073709551616 * d)) < M := by unfold M; omega

/-- A word of a list. -/
def gw (l : List Nat) (i : Nat) : Nat := l.getD i 0
theorem gw_get {l : List Nat} {i : Nat} (h : i < l.length) : l[i]? = some (gw l i) := by simp [gw, List.getD, h]
theorem gw_lt (n i : Nat) : gw (w4 n) i < 18446744073709551616 := by
  unfold gw; rw [w4_eq]
  match i with
  | 0 => simp; omega
  | 1 => simp; omega
  | 2 => simp; omega
  | 3 => simp; omega
  | k + 4 => simp

/-! ### Sums -/
def addS (l m : List Nat) : Nat → List Nat × Nat
  | 0 => ([0, 0, 0, 0], 0)
  | i + 1 => ((addS l m i).1.set i ((gw l i + gw m i + (addS l m i).2) % 18446744073709551616), (gw l i + gw m i + (addS l m i).2) / 18446744073709551616)
theorem addS_length (l m : List Nat) (i : Nat) : (addS l m i).1.length = 4 := by
  induction i with
  | zero => rfl
  | succ i ih => simp [addS, ih]
theorem addS_carry (a b i : Nat) : (addS (w4 a) (w4 b) i).2 ≤ 1 := by
  induction i with
  | zero => simp [addS]
  | succ i ih => have := gw_lt a i; have := gw_lt b i; simp only [addS]; omega
theorem addS_all (a b : Nat) (ha : a < M) (hb : b < M) : addS (w4 a) (w4 b) 4 = (w4 ((a + b) % M), (a + b) / M) := by
  obtain ⟨a0, a1, a2, a3, h0, h1, h2, h3, ea, wa⟩ := w4_parts a ha
  obtain ⟨b0, b1, b2, b3, k0, k1, k2, k3, eb, wb⟩ := w4_parts b hb
  rw [wa, wb]
  simp only [addS, gw, List.getD_cons_zero, List.getD_cons_succ, List.set_cons_zero, List.set_cons_succ, Nat.add_zero]
  obtain ⟨c1, hc1⟩ : ∃ c, (a0 + b0) / 18446744073709551616 = c := ⟨_, rfl⟩
  obtain ⟨s0, hs0⟩ : ∃ c, (a0 + b0) % 18446744073709551616 = c := ⟨_, rfl⟩
  rw [hc1, hs0]
  obtain ⟨c2, hc2⟩ : ∃ c, (a1 + b1 + c1) / 18446744073709551616 = c := ⟨_, rfl⟩
  obtain ⟨s1, hs1⟩ : ∃ c, (a1 + b1 + c1) % 18446744073709551616 = c := ⟨_, rfl⟩
  rw [hc2, hs1]
  obtain ⟨c3, hc3⟩ : ∃ c, (a2 + b2 + c2) / 18446744073709551616 = c := ⟨_, rfl⟩
  obtain ⟨s2, hs2⟩ : ∃ c, (a2 + b2 + c2) % 18446744073709551616 = c := ⟨_, rfl⟩
  rw [hc3, hs2]
  obtain ⟨c4, hc4⟩ : ∃ c, (a3 + b3 + c3) / 18446744073709551616 = c := ⟨_, rfl⟩
  obtain ⟨s3, hs3⟩ : ∃ c, (a3 + b3 + c3) % 18446744073709551616 = c := ⟨_, rfl⟩
  rw [hc4, hs3]
  have e : a + b = (s0 + 18446744073709551616 * (s1 + 18446744073709551616 * (s2 + 18446744073709551616 * s3))) + M * c4 := by unfold M; omega
  have hl := v4_lt s0 s1 s2 s3 (by omega) (by omega) (by omega) (by omega)
  have e1 : (a + b) % M = s0 + 18446744073709551616 * (s1 + 18446744073709551616 * (s2 + 18446744073709551616 * s3)) := by rw [e, Nat.add_mul_mod_self_left, Nat.mod_eq_of_lt hl]
  have e2 : (a + b) / M = c4 := by rw [e, Nat.add_mul_div_left _ _ (by unfold M; omega), Nat.div_eq_of_lt hl, Nat.zero_add]
  rw [e1, e2, w4_of s0 s1 s2 s3 (by omega) (by omega) (by omega) (by omega)]

/-! ### Differences -/
def subS (l m : List Nat) : Nat → List Nat × Nat
  | 0 => ([0, 0, 0, 0], 0)
  | i + 1 => ((subS l m i).1.set i ((gw l i + 18446744073709551616 - gw m i - (subS l m i).2) % 18446744073709551616), if gw l i < gw m i + (subS l m i).2 then 1 else 0)
theorem subS_length (l m : List Nat) (i : Nat) : (subS l m i).1.length = 4 := by
  induction i with
  | zero => rfl
  | succ i ih => simp [subS, ih]
theorem subS_carry (l m : List Nat) (i : Nat) : (subS l m i).2 ≤ 1 := by
  cases i with
  | zero => simp [subS]
  | succ i => simp only [subS]; split <;> omega
theorem sub_step (a b c : Nat) (ha : a < 18446744073709551616) (hb : b < 18446744073709551616) (hc : c ≤ 1) : ∃ s d, (a + 18446744073709551616 - b - c) % 18446744073709551616 = s ∧ (if a < b + c then 1 else 0) = d ∧ s < 18446744073709551616 ∧ d ≤ 1 ∧ a + 18446744073709551616 * d = s + b + c := by
  refine ⟨_, _, rfl, rfl, by omega, by split <;> omega, ?_⟩
  split <;> omega
theorem sub_fin (a b S d m : Nat) (hd : d ≤ 1) (e : a + m * d = S + b) (hl : S < m) : (a + m - b) % m = S ∧ (if a < b then 1 else 0) = d := by
  have hd' : d = 0 ∨ d = 1 := by omega
  rcases hd' with rfl | rfl
  · have e1 : a = S + b := by simpa using e
    subst e1
    rw [show S + b + m - b = S + m by omega, Nat.add_mod_right, Nat.mod_eq_of_lt hl]
    exact ⟨rfl, by simp⟩
  · have e1 : a + m = S + b := by simpa using e
    rw [show a + m - b = S by omega, Nat.mod_eq_of_lt hl]
    exact ⟨rfl, by rw [if_pos (by omega)]⟩
theorem subS_all (a b : Nat) (ha : a < M) (hb : b < M) : subS (w4 a) (w4 b) 4 = (w4 ((a + M - b) % M), if a < b then 1 else 0) := by
  obtain ⟨a0, a1, a2, a3, h0, h1, h2, h3, ea, wa⟩ := w4_parts a ha
  obtain ⟨b0, b1, b2, b3, k0, k1, k2, k3, eb, wb⟩ := w4_parts b hb
  rw [wa, wb]
  simp only [subS, gw, List.getD_cons_zero, List.getD_cons_succ, List.set_cons_zero, List.set_cons_succ]
  obtain ⟨s0, d0, e0, f0, l0, m0, q0⟩ := sub_step a0 b0 0 h0 k0 (by omega)
  rw [e0, f0]
  obtain ⟨s1, d1, e1, f1, l1, m1, q1⟩ := sub_step a1 b1 d0 h1 k1 m0
  rw [e1, f1]
  obtain ⟨s2, d2, e2, f2, l2, m2, q2⟩ := sub_step a2 b2 d1 h2 k2 m1
  rw [e2, f2]
  obtain ⟨s3, d3, e3, f3, l3, m3, q3⟩ := sub_step a3 b3 d2 h3 k3 m2
  rw [e3, f3]
  clear e0 f0 e1 f1 e2 f2 e3 f3
  have e : a + M * d3 = (s0 + 18446744073709551616 * (s1 + 18446744073709551616 * (s2 + 18446744073709551616 * s3))) + b := by unfold M; omega
  have hl := v4_lt s0 s1 s2 s3 l0 l1 l2 l3
  have hw := w4_of s0 s1 s2 s3 l0 l1 l2 l3
  generalize s0 + 18446744073709551616 * (s1 + 18446744073709551616 * (s2 + 18446744073709551616 * s3)) = S at e hl hw
  obtain ⟨e1, e2⟩ := sub_fin a b S d3 M m3 e hl
  rw [e1, e2, hw]

/-! ### A number times a word, and a number -/
def tpS (l : List Nat) (n : Nat) (p : List Nat) : Nat → List Nat × Nat
  | 0 => ([0, 0, 0, 0], 0)
  | i + 1 => ((tpS l n p i).1.set i ((gw l i * n + gw p i + (tpS l n p i).2) % 18446744073709551616), (gw l i * n + gw p i + (tpS l n p i).2) / 18446744073709551616)
theorem tpS_length (l : List Nat) (n : Nat) (m : List Nat) (i : Nat) : (tpS l n m i).1.length = 4 := by
  induction i with
  | zero => rfl
  | succ i ih => simp [tpS, ih]
theorem word_mul (a n : Nat) (ha : a < 18446744073709551616) (hn : n < 18446744073709551616) : a * n ≤ 340282366920938463426481119284349108225 := by
  have := Nat.mul_le_mul (show a ≤ 18446744073709551615 by omega) (show n ≤ 18446744073709551615 by omega)
  simpa using this
theorem tpS_carry (a n p i : Nat) (hn : n < 18446744073709551616) : (tpS (w4 a) n (w4 p) i).2 < 18446744073709551616 := by
  induction i with
  | zero => simp [tpS]
  | succ i ih => have := gw_lt a i; have := gw_lt p i; have := word_mul _ n this (by omega); have := word_mul _ n (gw_lt a i) (by omega); simp only [tpS]; omega
theorem tpS_all (a n p : Nat) (ha : a < M) (hn : n < 18446744073709551616) (hp : p < M) : tpS (w4 a) n (w4 p) 4 = (w4 ((a * n + p) % M), (a * n + p) / M) := by
  obtain ⟨a0, a1, a2, a3, h0, h1, h2, h3, ea, wa⟩ := w4_parts a ha
  obtain ⟨b0, b1, b2, b3, k0, k1, k2, k3, eb, wb⟩ := w4_parts p hp
  rw [wa, wb]
  simp only [tpS, gw, List.getD_cons_zero, List.getD_cons_succ, List.set_cons_zero, List.set_cons_succ, Nat.add_zero]
  have en : a * n = a0 * n + 18446744073709551616 * (a1 * n + 18446744073709551616 * (a2 * n + 18446744073709551616 * (a3 * n))) := by rw [ea]; simp only [Nat.add_mul, Nat.mul_assoc]
  have p0 := word_mul a0 n h0 hn; have p1 := word_mul a1 n h1 hn; have p2 := word_mul a2 n h2 hn; have p3 := word_mul a3 n h3 hn
  generalize a0 * n = x0 at *; generalize a1 * n = x1 at *; generalize a2 * n = x2 at *; generalize a3 * n = x3 at *
  obtain ⟨c1, hc1⟩ : ∃ c, (x0 + b0) / 18446744073709551616 = c := ⟨_, rfl⟩
  obtain ⟨s0, hs0⟩ : ∃ c, (x0 + b0) % 18446744073709551616 = c := ⟨_, rfl⟩
  rw [hc1, hs0]
  obtain ⟨c2, hc2⟩ : ∃ c, (x1 + b1 + c1) / 18446744073709551616 = c := ⟨_, rfl⟩
  obtain ⟨s1, hs1⟩ : ∃ c, (x1 + b1 + c1) % 18446744073709551616 = c := ⟨_, rfl⟩
  rw [hc2, hs1]
  obtain ⟨c3, hc3⟩ : ∃ c, (x2 + b2 + c2) / 18446744073709551616 = c := ⟨_, rfl⟩
  obtain ⟨s2, hs2⟩ : ∃ c, (x2 + b2 + c2) % 18446744073709551616 = c := ⟨_, rfl⟩
  rw [hc3, hs2]
  obtain ⟨c4, hc4⟩ : ∃ c, (x3 + b3 + c3) / 18446744073709551616 = c := ⟨_, rfl⟩
  obtain ⟨s3, hs3⟩ : ∃ c, (x3 + b3 + c3) % 18446744073709551616 = c := ⟨_, rfl⟩
  rw [hc4, hs3]
  have e : a * n + p = (s0 + 18446744073709551616 * (s1 + 18446744073709551616 * (s2 + 18446744073709551616 * s3))) + M * c4 := by unfold M; omega
  have hl := v4_lt s0 s1 s2 s3 (by omega) (by omega) (by omega) (by omega)
  have e1 : (a * n + p) % M = s0 + 18446744073709551616 * (s1 + 18446744073709551616 * (s2 + 18446744073709551616 * s3)) := by rw [e, Nat.add_mul_mod_self_left, Nat.mod_eq_of_lt hl]
  have e2 : (a * n + p) / M = c4 := by rw [e, Nat.add_mul_div_left _ _ (by unfold M; omega), Nat.div_eq_of_lt hl, Nat.zero_add]
  rw [e1, e2, w4_of s0 s1 s2 s3 (by omega) (by omega) (by omega) (by omega)]

/-! ### Products -/
/-- The product's lowest words and what is above them, behind i words. -/
def mulS (a : Nat) (l : List Nat) : Nat → List Nat × Nat
  | 0 => ([0, 0, 0, 0], 0)
  | i + 1 => ((mulS a l i).1.set i ((a * gw l i + (mulS a l i).2) % 18446744073709551616), (a * gw l i + (mulS a l i).2) / 18446744073709551616)
theorem mulS_length (a : Nat) (l : List Nat) (i : Nat) : (mulS a l i).1.length = 4 := by
  induction i with
  | zero => rfl
  | succ i ih => simp [mulS, ih]
theorem mulS_lt (a b i : Nat) (ha : a < M) : (mulS a (w4 b) i).2 < M := by
  induction i with
  | zero => unfold M; simp [mulS]
  | succ i ih =>
    have h1 := gw_lt b i
    have h2 := Nat.mul_le_mul (show a ≤ M - 1 by omega) (show gw (w4 b) i ≤ 18446744073709551615 by omega)
    simp only [mulS]
    generalize a * gw (w4 b) i = x at *
    unfold M at *
    omega
theorem mulS_all (a b : Nat) (hb : b < M) : mulS a (w4 b) 4 = (w4 (a * b % M), a * b / M) := by
  obtain ⟨b0, b1, b2, b3, k0, k1, k2, k3, eb, wb⟩ := w4_parts b hb
  rw [wb]
  simp only [mulS, gw, List.getD_cons_zero, List.getD_cons_succ, List.set_cons_zero, List.set_cons_succ, Nat.add_zero]
  have en : a * b = a * b0 + 18446744073709551616 * (a * b1 + 18446744073709551616 * (a * b2 + 18446744073709551616 * (a * b3))) := by
    rw [eb]; simp only [Nat.mul_add, Nat.mul_left_comm a]
  generalize a * b0 = x0 at *; generalize a * b1 = x1 at *; generalize a * b2 = x2 at *; generalize a * b3 = x3 at *
  obtain ⟨c1, hc1⟩ : ∃ c, x0 / 18446744073709551616 = c := ⟨_, rfl⟩
  obtain ⟨s0, hs0⟩ : ∃ c, x0 % 18446744073709551616 = c := ⟨_, rfl⟩
  rw [hc1, hs0]
  obtain ⟨c2, hc2⟩ : ∃ c, (x1 + c1) / 18446744073709551616 = c := ⟨_, rfl⟩
  obtain ⟨s1, hs1⟩ : ∃ c, (x1 + c1) % 18446744073709551616 = c := ⟨_, rfl⟩
  rw [hc2, hs1]
  obtain ⟨c3, hc3⟩ : ∃ c, (x2 + c2) / 18446744073709551616 = c := ⟨_, rfl⟩
  obtain ⟨s2, hs2⟩ : ∃ c, (x2 + c2) % 18446744073709551616 = c := ⟨_, rfl⟩
  rw [hc3, hs2]
  obtain ⟨c4, hc4⟩ : ∃ c, (x3 + c3) / 18446744073709551616 = c := ⟨_, rfl⟩
  obtain ⟨s3, hs3⟩ : ∃ c, (x3 + c3) % 18446744073709551616 = c := ⟨_, rfl⟩
  rw [hc4, hs3]
  have e : a * b = (s0 + 18446744073709551616 * (s1 + 18446744073709551616 * (s2 + 18446744073709551616 * s3))) + M * c4 := by unfold M; omega
  have hl := v4_lt s0 s1 s2 s3 (by omega) (by omega) (by omega) (by omega)
  have e1 : a * b % M = s0 + 18446744073709551616 * (s1 + 18446744073709551616 * (s2 + 18446744073709551616 * s3)) := by rw [e, Nat.add_mul_mod_self_left, Nat.mod_eq_of_lt hl]
  have e2 : a * b / M = c4 := by rw [e, Nat.add_mul_div_left _ _ (by unfold M; omega), Nat.div_eq_of_lt hl, Nat.zero_add]
  rw [e1, e2, w4_of s0 s1 s2 s3 (by omega) (by omega) (by omega) (by omega)]
/-- The words of a product's sum, moved down by one. -/
theorem w4_down (t s p : Nat) (hs : s = t % M) (hp : p = t / M) (ht : t / 18446744073709551616 < M) : w4 (t / 18446744073709551616) = [gw (w4 s) 1, gw (w4 s) 2, gw (w4 s) 3, p] := by
  subst hs hp
  simp only [w4_eq, gw, List.getD_cons_zero, List.getD_cons_succ]
  unfold M at *
  simp only [List.cons.injEq, and_true]
  refine ⟨by omega, by omega, by omega, by omega⟩

end Go.Proofs.Ytpfoeeiacfadfaa
/-
  Plain mathematics of shifts of numbers of 256 bits, and of how many bits a number has.
-/
namespace Go.Proofs.Ytpfoeeiacfadfaa

theorem pow64 (r : Nat) (h : r ≤ 64) : 2 ^ r * 2 ^ (64 - r) = 18446744073709551616 := by
  rw [← Nat.pow_add, show r + (64 - r) = 64 by omega]
theorem lo_eq (x r : Nat) (h : r ≤ 64) : x * 2 ^ r % 18446744073709551616 = 2 ^ r * (x % 2 ^ (64 - r)) := by
  rw [← pow64 r h, Nat.mul_comm x, Nat.mul_mod_mul_left]
theorem hi_eq (x r : Nat) (h : r ≤ 64) : x * 2 ^ r / 18446744073709551616 = x / 2 ^ (64 - r) := by
  rw [← pow64 r h, Nat.mul_comm x, Nat.mul_div_mul_left _ _ (Nat.two_pow_pos r)]
theorem hi_lt (x r : Nat) (hx : x < 18446744073709551616) (h : r ≤ 64) : x / 2 ^ (64 - r) < 2 ^ r := by
  rw [Nat.div_lt_iff_lt_mul (Nat.two_pow_pos _), pow64 r h]; exact hx
/-- A word that is shifted up, and what comes up from the word below. -/
theorem shl_word (x y r : Nat) (hy : y < 18446744073709551616) (h : r ≤ 64) :
    x * 2 ^ r % 18446744073709551616 ||| y / 2 ^ (64 - r) = x * 2 ^ r % 18446744073709551616 + y * 2 ^ r / 18446744073709551616 ∧ x * 2 ^ r % 18446744073709551616 + y * 2 ^ r / 18446744073709551616 < 18446744073709551616 := by
  have hl := hi_lt y r hy h
  have hp := pow64 r h
  rw [hi_eq y r h, lo_eq x r h]
  refine ⟨(Nat.two_pow_add_eq_or_of_lt hl _).symm, ?_⟩
  have h2 : x % 2 ^ (64 - r) < 2 ^ (64 - r) := Nat.mod_lt _ (Nat.two_pow_pos _)
  have h3 : 2 ^ r * (x % 2 ^ (64 - r)) + 2 ^ r ≤ 2 ^ r * 2 ^ (64 - r) := by rw [← Nat.mul_succ]; exact Nat.mul_le_mul_left _ h2
  omega

def shlD (l : List Nat) (q r k : Nat) : Nat := if q < k then gw l (k - q) * 2 ^ r % 18446744073709551616 ||| gw l (k - q - 1) / 2 ^ (64 - r) else gw l (k - q) * 2 ^ r % 18446744073709551616
def shlT (l : List Nat) (q r : Nat) : Nat → List Nat
  | 0 => [0, 0, 0, 0]
  | k + 1 => if q ≤ k then (shlT l q r k).set k (shlD l q r k) else shlT l q r k
theorem shlT_length (l : List Nat) (q r k : Nat) : (shlT l q r k).length = 4 := by
  induction k with
  | zero => rfl
  | succ k ih => simp only [shlT]; split <;> simp [ih]
theorem shlT_low (l : List Nat) (q r k : Nat) (h : k ≤ q) : shlT l q r k = [0, 0, 0, 0] := by
  induction k with
  | zero => rfl
  | succ k ih => simp only [shlT]; rw [if_neg (by omega), ih (by omega)]
theorem shl_words (a r : Nat) (ha : a < M) (hr : r ≤ 64) : ∃ a0 a1 a2 a3 s0 s1 s2 s3 t, w4 a = [a0, a1, a2, a3] ∧ s0 < 18446744073709551616 ∧ s1 < 18446744073709551616 ∧ s2 < 18446744073709551616 ∧ s3 < 18446744073709551616 ∧
    a0 * 2 ^ r % 18446744073709551616 = s0 ∧ a1 * 2 ^ r % 18446744073709551616 ||| a0 / 2 ^ (64 - r) = s1 ∧ a2 * 2 ^ r % 18446744073709551616 ||| a1 / 2 ^ (64 - r) = s2 ∧ a3 * 2 ^ r % 18446744073709551616 ||| a2 / 2 ^ (64 - r) = s3 ∧
    a * 2 ^ r = (s0 + 18446744073709551616 * (s1 + 18446744073709551616 * (s2 + 18446744073709551616 * s3))) + M * t := by
  obtain ⟨a0, a1, a2, a3, h0, h1, h2, h3, ea, wa⟩ := w4_parts a ha
  obtain ⟨e1, l1⟩ := shl_word a1 a0 r h0 hr
  obtain ⟨e2, l2⟩ := shl_word a2 a1 r h1 hr
  obtain ⟨e3, l3⟩ := shl_word a3 a2 r h2 hr
  refine ⟨a0, a1, a2, a3, _, _, _, _, a3 * 2 ^ r / 18446744073709551616, wa, ?_, ?_, ?_, ?_, rfl, e1, e2, e3, ?_⟩
  · omega
  · exact l1
  · exact l2
  · exact l3
  · have en : a * 2 ^ r = a0 * 2 ^ r + 18446744073709551616 * (a1 * 2 ^ r + 18446744073709551616 * (a2 * 2 ^ r + 18446744073709551616 * (a3 * 2 ^ r))) := by rw [ea]; simp only [Nat.add_mul, Nat.mul_assoc]
    rw [en]
    generalize a0 * 2 ^ r = x0; generalize a1 * 2 ^ r = x1; generalize a2 * 2 ^ r = x2; generalize a3 * 2 ^ r = x3
    unfold M
    omega
theorem modM (x y t : Nat) (h : x = y + M * t) (hy : y < M) : x % M = y := by rw [h, Nat.add_mul_mod_self_left, Nat.mod_eq_of_lt hy]
theorem shlT_all (a n : Nat) (ha : a < M) : shlT (w4 a) (n / 64) (n % 64) 4 = w4 (a * 2 ^ n % M) := by
  have hr : n % 64 ≤ 64 := by omega
  have hn : n = 64 * (n / 64) + n % 64 := by omega
  by_cases hq : 4 ≤ n / 64
  · rw [shlT_low _ _ _ _ hq]
    have : a * 2 ^ n % M = 0 := by
      have e : 2 ^ n = M * 2 ^ (n - 256) := by rw [show M = 2 ^ 256 from rfl, ← Nat.pow_add, show 256 + (n - 256) = n by omega]
      rw [e, Nat.mul_left_comm, Nat.mul_mod_right]
    rw [this, w4_eq]
  · obtain ⟨a0, a1, a2, a3, s0, s1, s2, s3, t, wa, l0, l1, l2, l3, f0, f1, f2, f3, e⟩ := shl_words a (n % 64) ha hr
    have hz := v4_lt s0 s1 s2 s3 l0 l1 l2 l3
    have hq' : n / 64 = 0 ∨ n / 64 = 1 ∨ n / 64 = 2 ∨ n / 64 = 3 := by omega
    rw [wa]
    have pw : a * 2 ^ n = 2 ^ (64 * (n / 64)) * (a * 2 ^ (n % 64)) := by
      conv => lhs; rw [hn, Nat.pow_add]
      rw [Nat.mul_left_comm]
    rw [pw, e]
    generalize n % 64 = r at *
    clear pw hn
    rcases hq' with h | h | h | h
    · rw [h]
      simp [shlT, shlD, gw, f0, f1, f2, f3]
      rw [Nat.mod_eq_of_lt hz, w4_of _ _ _ _ l0 l1 l2 l3]
    · rw [h]
      simp [shlT, shlD, gw, f0, f1, f2]
      rw [modM _ (0 + 18446744073709551616 * (s0 + 18446744073709551616 * (s1 + 18446744073709551616 * s2))) (s3 + 18446744073709551616 * t) (by unfold M; omega) (v4_lt 0 s0 s1 s2 (by decide) l0 l1 l2), w4_of _ _ _ _ (by decide) l0 l1 l2]
    · rw [h]
      simp [shlT, shlD, gw, f0, f1]
      rw [modM _ (0 + 18446744073709551616 * (0 + 18446744073709551616 * (s0 + 18446744073709551616 * s1))) (s2 + 18446744073709551616 * (s3 + 18446744073709551616 * t)) (by unfold M; omega) (v4_lt 0 0 s0 s1 (by decide) (by decide) l0 l1), w4_of _ _ _ _ (by decide) (by decide) l0 l1]
    · rw [h]
      simp [shlT, shlD, gw, f0]
      rw [modM _ (0 + 18446744073709551616 * (0 + 18446744073709551616 * (0 + 18446744073709551616 * s0))) (s1 + 18446744073709551616 * (s2 + 18446744073709551616 * (s3 + 18446744073709551616 * t))) (by unfold M; omega) (v4_lt 0 0 0 s0 (by decide) (by decide) (by decide) l0), w4_of _ _ _ _ (by decide) (by decide) (by decide) l0]

/-! ### Shifts down -/
def shrD (l : List Nat) (r k : Nat) : Nat := if k + 1 < 4 then gw l k / 2 ^ r ||| gw l (k + 1) * 2 ^ (64 - r) % 18446744073709551616 else gw l k / 2 ^ r
def shrT (l : List Nat) (q r : Nat) : Nat → List Nat
  | 0 => [0, 0, 0, 0]
  | k + 1 => if q ≤ k then (shrT l q r k).set (k - q) (shrD l r k) else shrT l q r k
theorem shrT_length (l : List Nat) (q r k : Nat) : (shrT l q r k).length = 4 := by
  induction k with
  | zero => rfl
  | succ k ih => simp only [shrT]; split <;> simp [ih]
theorem shrT_low (l : List Nat) (q r k : Nat) (h : k ≤ q) : shrT l q r k = [0, 0, 0, 0] := by
  induction k with
  | zero => rfl
  | succ k ih => simp only [shrT]; rw [if_neg (by omega), ih (by omega)]
theorem shr_word (x y r : Nat) (hx : x < 18446744073709551616) (h : r ≤ 64) :
    x / 2 ^ r ||| y * 2 ^ (64 - r) % 18446744073709551616 = x / 2 ^ r + 2 ^ (64 - r) * (y % 2 ^ r) ∧ x / 2 ^ r + 2 ^ (64 - r) * (y % 2 ^ r) < 18446744073709551616 := by
  have h' : 64 - r ≤ 64 := by omega
  have e : 64 - (64 - r) = r := by omega
  have hl := hi_lt x (64 - r) hx h'
  have hlo := lo_eq y (64 - r) h'
  have hp := pow64 r h
  rw [e] at hl hlo
  rw [hlo, Nat.or_comm]
  refine ⟨by rw [← Nat.two_pow_add_eq_or_of_lt hl, Nat.add_comm], ?_⟩
  have h2 : y % 2 ^ r < 2 ^ r := Nat.mod_lt _ (Nat.two_pow_pos _)
  have h3 : 2 ^ (64 - r) * (y % 2 ^ r) + 2 ^ (64 - r) ≤ 2 ^ (64 - r) * 2 ^ r := by rw [← Nat.mul_succ]; exact Nat.mul_le_mul_left _ h2
  rw [Nat.mul_comm (2 ^ (64 - r)) (2 ^ r), hp] at h3
  omega
theorem shr_words (a r : Nat) (ha : a < M) (hr : r ≤ 64) : ∃ a0 a1 a2 a3 s0 s1 s2 s3, w4 a = [a0, a1, a2, a3] ∧ s0 < 18446744073709551616 ∧ s1 < 18446744073709551616 ∧ s2 < 18446744073709551616 ∧ s3 < 18446744073709551616 ∧
    a0 / 2 ^ r ||| a1 * 2 ^ (64 - r) % 18446744073709551616 = s0 ∧ a1 / 2 ^ r ||| a2 * 2 ^ (64 - r) % 18446744073709551616 = s1 ∧ a2 / 2 ^ r ||| a3 * 2 ^ (64 - r) % 18446744073709551616 = s2 ∧ a3 / 2 ^ r = s3 ∧
    a / 2 ^ r = s0 + 18446744073709551616 * (s1 + 18446744073709551616 * (s2 + 18446744073709551616 * s3)) := by
  obtain ⟨a0, a1, a2, a3, h0, h1, h2, h3, ea, wa⟩ := w4_parts a ha
  obtain ⟨e0, l0⟩ := shr_word a0 a1 r h0 hr
  obtain ⟨e1, l1⟩ := shr_word a1 a2 r h1 hr
  obtain ⟨e2, l2⟩ := shr_word a2 a3 r h2 hr
  have hd : 0 < 2 ^ r := Nat.two_pow_pos r
  refine ⟨a0, a1, a2, a3, _, _, _, _, wa, l0, l1, l2, ?_, e0, e1, e2, rfl, ?_⟩
  · exact Nat.lt_of_le_of_lt (Nat.div_le_self _ _) h3
  · have z1 : ∀ y, 2 ^ r * (2 ^ (64 - r) * y) = 18446744073709551616 * y := fun y => by rw [← Nat.mul_assoc, pow64 r hr]
    have d0 := Nat.div_add_mod a0 (2 ^ r); have d1 := Nat.div_add_mod a1 (2 ^ r); have d2 := Nat.div_add_mod a2 (2 ^ r); have d3 := Nat.div_add_mod a3 (2 ^ r)
    have m0 := Nat.mod_lt a0 hd
    have key : a = a0 % 2 ^ r + 2 ^ r * (a0 / 2 ^ r + 2 ^ (64 - r) * (a1 % 2 ^ r) + 18446744073709551616 * (a1 / 2 ^ r + 2 ^ (64 - r) * (a2 % 2 ^ r) + 18446744073709551616 * (a2 / 2 ^ r + 2 ^ (64 - r) * (a3 % 2 ^ r) + 18446744073709551616 * (a3 / 2 ^ r)))) := by
      simp only [Nat.mul_add, z1, Nat.mul_left_comm (2 ^ r) 18446744073709551616]
      generalize 2 ^ r * (a0 / 2 ^ r) = p0 at *; generalize 2 ^ r * (a1 / 2 ^ r) = p1 at *; generalize 2 ^ r * (a2 / 2 ^ r) = p2 at *; generalize 2 ^ r * (a3 / 2 ^ r) = p3 at *
      generalize a0 % 2 ^ r = q0 at *; generalize a1 % 2 ^ r = q1 at *; generalize a2 % 2 ^ r = q2 at *; generalize a3 % 2 ^ r = q3 at *
      omega
    generalize a0 / 2 ^ r + 2 ^ (64 - r) * (a1 % 2 ^ r) + 18446744073709551616 * (a1 / 2 ^ r + 2 ^ (64 - r) * (a2 % 2 ^ r) + 18446744073709551616 * (a2 / 2 ^ r + 2 ^ (64 - r) * (a3 % 2 ^ r) + 18446744073709551616 * (a3 / 2 ^ r))) = R at key ⊢
    rw [key, Nat.add_mul_div_left _ _ hd, Nat.div_eq_of_lt m0, Nat.zero_add]
theorem shrT_all (a n : Nat) (ha : a < M) : shrT (w4 a) (n / 64) (n % 64) 4 = w4 (a / 2 ^ n) := by
  have hr : n % 64 ≤ 64 := by omega
  have hn : n = n % 64 + 64 * (n / 64) := by omega
  by_cases hq : 4 ≤ n / 64
  · rw [shrT_low _ _ _ _ hq]
    have : a / 2 ^ n = 0 := by
      apply Nat.div_eq_of_lt
      have : M ≤ 2 ^ n := by rw [show M = 2 ^ 256 from rfl]; exact Nat.pow_le_pow_right (by decide) (by omega)
      omega
    rw [this, w4_eq]
  · obtain ⟨a0, a1, a2, a3, s0, s1, s2, s3, wa, l0, l1, l2, l3, f0, f1, f2, f3, e⟩ := shr_words a (n % 64) ha hr
    have hq' : n / 64 = 0 ∨ n / 64 = 1 ∨ n / 64 = 2 ∨ n / 64 = 3 := by omega
    rw [wa]
    have pw : a / 2 ^ n = a / 2 ^ (n % 64) / 2 ^ (64 * (n / 64)) := by
      conv => lhs; rw [hn, Nat.pow_add]
      rw [Nat.div_div_eq_div_mul]
    rw [pw, e]
    generalize n % 64 = r at *
    clear pw hn
    have hz := w4_of s0 s1 s2 s3 l0 l1 l2 l3
    rcases hq' with h | h | h | h
    · rw [h]
      simp [shrT, shrD, gw, f0, f1, f2, f3]
      rw [hz]
    · rw [h]
      simp [shrT, shrD, gw, f1, f2, f3]
      rw [show (s0 + 18446744073709551616 * (s1 + 18446744073709551616 * (s2 + 18446744073709551616 * s3))) / 18446744073709551616 = s1 + 18446744073709551616 * (s2 + 18446744073709551616 * (s3 + 18446744073709551616 * 0)) by omega, w4_of _ _ _ _ l1 l2 l3 (by decide)]
    · rw [h]
      simp [shrT, shrD, gw, f2, f3]
      rw [show (s0 + 18446744073709551616 * (s1 + 18446744073709551616 * (s2 + 18446744073709551616 * s3))) / 340282366920938463463374607431768211456 = s2 + 18446744073709551616 * (s3 + 18446744073709551616 * (0 + 18446744073709551616 * 0)) by omega, w4_of _ _ _ _ l2 l3 (by decide) (by decide)]
    · rw [h]
      simp [shrT, shrD, gw, f3]
      rw [show (s0 + 18446744073709551616 * (s1 + 18446744073709551616 * (s2 + 18446744073709551616 * s3))) / 6277101735386680763835789423207666416102355444464034512896 = s3 + 18446744073709551616 * (0 + 18446744073709551616 * (0 + 18446744073709551616 * 0)) by omega, w4_of _ _ _ _ l3 (by decide) (by decide) (by decide)]

/-! ### How many bits -/
/-- How many bits a number has. -/
def blen (n : Nat) : Nat := Lib.bitLenAux 256 n
theorem blen_zero : blen 0 = 0 := rfl
theorem blen_bounds (n : Nat) (hn : n < M) (h0 : n ≠ 0) : 1 ≤ blen n ∧ 2 ^ (blen n - 1) ≤ n ∧ n < 2 ^ blen n := Lib.bitLenAux_bounds 256 n hn h0
theorem blen_le (n : Nat) (hn : n < M) : blen n ≤ 256 := Lib.bitLenAux_le 256 n 256 hn
theorem blen_of (n k : Nat) (hn : n < M) (h1 : 2 ^ k ≤ n) (h2 : n < 2 ^ (k + 1)) : blen n = k + 1 := by
  have h0 : n ≠ 0 := by have := Nat.two_pow_pos k; omega
  obtain ⟨b1, b2, b3⟩ := blen_bounds n hn h0
  have c1 : k < blen n := (Nat.pow_lt_pow_iff_right (by decide : 1 < 2)).1 (Nat.lt_of_le_of_lt h1 b3)
  have c2 : blen n - 1 < k + 1 := (Nat.pow_lt_pow_iff_right (by decide : 1 < 2)).1 (Nat.lt_of_le_of_lt b2 h2)
  omega
/-- The words above the word i are 0, and it is not. -/
theorem blen_word (n i x : Nat) (hn : n < M) (hi : i < 4) (hx : gw (w4 n) i = x) (h0 : x ≠ 0) (hz : ∀ j, i < j → j < 4 → gw (w4 n) j = 0) : blen n = 64 * i + Lib.bitLen x := by
  obtain ⟨a0, a1, a2, a3, h0', h1, h2, h3, ea, wa⟩ := w4_parts n hn
  have hxl : x < 18446744073709551616 := hx ▸ gw_lt n i
  obtain ⟨b1, b2, b3⟩ := Lib.bitLenAux_bounds 64 x hxl h0
  have e : Lib.bitLen x = Lib.bitLenAux 64 x := rfl
  rw [e]
  obtain ⟨k, hk⟩ : ∃ k, Lib.bitLenAux 64 x = k + 1 := ⟨Lib.bitLenAux 64 x - 1, by omega⟩
  rw [hk] at b2 b3 ⊢
  rw [show k + 1 - 1 = k by omega] at b2
  rw [wa] at hx hz
  have hlow : ∃ L, n = L + 2 ^ (64 * i) * x ∧ L < 2 ^ (64 * i) := by
    have hi' : i = 0 ∨ i = 1 ∨ i = 2 ∨ i = 3 := by omega
    rcases hi' with rfl | rfl | rfl | rfl
    · have z1 := hz 1 (by decide) (by decide); have z2 := hz 2 (by decide) (by decide); have z3 := hz 3 (by decide) (by decide)
      simp [gw] at hx z1 z2 z3; subst hx z1 z2 z3
      exact ⟨0, by omega, by decide⟩
    · have z2 := hz 2 (by decide) (by decide); have z3 := hz 3 (by decide) (by decide)
      simp [gw] at hx z2 z3; subst hx z2 z3
      exact ⟨a0, by omega, by simpa using h0'⟩
    · have z3 := hz 3 (by decide) (by decide)
      simp [gw] at hx z3; subst hx z3
      exact ⟨a0 + 18446744073709551616 * a1, by omega, by simp; omega⟩
    · simp [gw] at hx; subst hx
      exact ⟨a0 + 18446744073709551616 * (a1 + 18446744073709551616 * a2), by omega, by simp; omega⟩
  obtain ⟨L, hL, hL2⟩ := hlow
  have h3 : 2 ^ (64 * i) * 2 ^ k ≤ 2 ^ (64 * i) * x := Nat.mul_le_mul_left _ b2
  have h4 : 2 ^ (64 * i) * x + 2 ^ (64 * i) ≤ 2 ^ (64 * i) * 2 ^ (k + 1) := by rw [← Nat.mul_succ]; exact Nat.mul_le_mul_left _ b3
  have := blen_of n (64 * i + k) hn (by rw [Nat.pow_add]; omega) (by rw [Nat.add_assoc, Nat.pow_add]; omega)
  omega
end Go.Proofs.Ytpfoeeiacfadfaa
/-
  Plain mathematics of dividing two words by one, half a word at a time, as math/bits does it; and of guessing a word of a quotient.
-/
namespace Go.Proofs.Ytpfoeeiacfadfaa

theorem dQ_lt (y u v : Nat) (hy : 9223372036854775808 ≤ y) (_hyB : y < 18446744073709551616) (hu : u < y) (hv : v < 4294967296) : (u * 4294967296 + v) / y < 4294967296 := by
  rw [Nat.div_lt_iff_lt_mul (by omega)]
  have := Nat.mul_le_mul_right 4294967296 (show u + 1 ≤ y from hu)
  omega
theorem d_init (y u v : Nat) (hy : 9223372036854775808 ≤ y) (hyB : y < 18446744073709551616) (hu : u < y) (hv : v < 4294967296) : (u * 4294967296 + v) / y ≤ u / (y / 4294967296) ∧ u / (y / 4294967296) ≤ 4294967297 ∧ u % (y / 4294967296) < 4294967296 ∧ u / (y / 4294967296) * (y / 4294967296) + u % (y / 4294967296) = u := by
  have h1 : 2147483648 ≤ y / 4294967296 := by omega
  have h2 : y / 4294967296 < 4294967296 := by omega
  refine ⟨?_, ?_, ?_, ?_⟩
  · rw [Nat.le_div_iff_mul_le (by omega)]
    have hq := Nat.div_mul_le_self (u * 4294967296 + v) y
    generalize (u * 4294967296 + v) / y = Q at *
    have h3 : Q * (y / 4294967296 * 4294967296) ≤ Q * y := Nat.mul_le_mul_left _ (by omega)
    rw [← Nat.mul_assoc] at h3
    omega
  · have h3 : u < y / 4294967296 * 4294967298 := by omega
    have := (Nat.div_lt_iff_lt_mul (by omega : 0 < y / 4294967296)).2 (by rw [Nat.mul_comm] at h3; exact h3)
    omega
  · have := Nat.mod_lt u (show 0 < y / 4294967296 by omega)
    omega
  · rw [Nat.mul_comm]; exact Nat.div_add_mod u (y / 4294967296)
/-- The guess is too great: one less is not too small. -/
theorem d_great (y u v : Nat) (hy : 9223372036854775808 ≤ y) (hyB : y < 18446744073709551616) (hu : u < y) (hv : v < 4294967296) (q r : Nat) (hqr : q * (y / 4294967296) + r = u) (ht : 4294967296 ≤ q ∨ 4294967296 * r + v < q * (y % 4294967296)) : (u * 4294967296 + v) / y < q := by
  rcases ht with ht | ht
  · exact Nat.lt_of_lt_of_le (dQ_lt y u v hy hyB hu hv) ht
  · rw [Nat.div_lt_iff_lt_mul (by omega)]
    have e : q * y = q * (y / 4294967296) * 4294967296 + q * (y % 4294967296) := by
      rw [Nat.mul_assoc, ← Nat.mul_add]; congr 1; omega
    rw [e]
    generalize q * (y / 4294967296) = A at *
    generalize q * (y % 4294967296) = B at *
    omega
/-- The guess is right. -/
theorem d_right (y u v : Nat) (hy : 9223372036854775808 ≤ y) (q r : Nat) (hqr : q * (y / 4294967296) + r = u) (hQ : (u * 4294967296 + v) / y ≤ q) (ht : q * (y % 4294967296) ≤ 4294967296 * r + v) : q = (u * 4294967296 + v) / y := by
  refine Nat.le_antisymm ?_ hQ
  rw [Nat.le_div_iff_mul_le (by omega)]
  have e : q * y = q * (y / 4294967296) * 4294967296 + q * (y % 4294967296) := by
    rw [Nat.mul_assoc, ← Nat.mul_add]; congr 1; omega
  rw [e]
  generalize q * (y / 4294967296) = A at *
  generalize q * (y % 4294967296) = B at *
  omega
theorem d_out (y u v : Nat) (hy : 9223372036854775808 ≤ y) (q r : Nat) (hqr : q * (y / 4294967296) + r = u) (hQ : (u * 4294967296 + v) / y ≤ q) (hq : q ≤ 4294967296) (hr : 4294967296 ≤ r) : q = (u * 4294967296 + v) / y := by
  refine d_right y u v hy q r hqr hQ ?_
  have := Nat.mul_le_mul hq (show y % 4294967296 ≤ 4294967295 by omega)
  generalize q * (y % 4294967296) = B at *
  omega
/-- What is left, as it is reckoned with wrapping. -/
theorem d_left (y u v Q : Nat) (hyB : y < 18446744073709551616) (hy : 0 < y) (hQ : Q = (u * 4294967296 + v) / y) :
    (((((u : Int) * 4294967296) % 18446744073709551616 + v) % 18446744073709551616 - ((Q : Int) * y) % 18446744073709551616) % 18446744073709551616) = (((u * 4294967296 + v) % y : Nat) : Int) := by
  have h1 := Nat.div_add_mod (u * 4294967296 + v) y
  have h2 := Nat.mod_lt (u * 4294967296 + v) hy
  rw [← hQ, Nat.mul_comm] at h1
  have e : (Q : Int) * y = ((Q * y : Nat) : Int) := (Int.natCast_mul Q y).symm
  rw [e]
  generalize Q * y = A at *
  generalize (u * 4294967296 + v) % y = R at *
  omega
theorem d_all (y h l Q1 R1 Q0 : Nat) (hy : 0 < y) (h1 : Q1 = (h * 4294967296 + l / 4294967296) / y) (h2 : R1 = (h * 4294967296 + l / 4294967296) % y) (h3 : Q0 = (R1 * 4294967296 + l % 4294967296) / y) :
    Q1 * 4294967296 + Q0 = (h * 18446744073709551616 + l) / y := by
  have e := Nat.div_add_mod (h * 4294967296 + l / 4294967296) y
  rw [← h1, ← h2] at e
  have e2 : h * 18446744073709551616 + l = R1 * 4294967296 + l % 4294967296 + y * (Q1 * 4294967296) := by
    rw [← Nat.mul_assoc]
    generalize y * Q1 = A at *
    omega
  rw [e2, Nat.add_mul_div_left _ _ hy, ← h3, Nat.add_comm]

/-- A word of a quotient, guessed. -/
def gsN (t n d : Nat) : Nat := if d ≤ t then 18446744073709551615 else (t * 18446744073709551616 + n) / d
end Go.Proofs.Ytpfoeeiacfadfaa
/-
  Plain mathematics of dividing a number of five words by one of four, a word of the quotient at a time.
-/
namespace Go.Proofs.Ytpfoeeiacfadfaa

theorem w4_words (n : Nat) (h : n < M) : n = gw (w4 n) 0 + 18446744073709551616 * (gw (w4 n) 1 + 18446744073709551616 * (gw (w4 n) 2 + 18446744073709551616 * gw (w4 n) 3)) ∧ w4 n = [gw (w4 n) 0, gw (w4 n) 1, gw (w4 n) 2, gw (w4 n) 3] := by
  obtain ⟨a, b, c, d, _, _, _, _, e, hw⟩ := w4_parts n h
  rw [hw]
  exact ⟨e, rfl⟩
/-- What is shifted up by a word, with a word behind it. -/
theorem up_word (h n : Nat) (hh : h < M) (hn : n < 18446744073709551616) : ∃ low, low < M ∧ h * 18446744073709551616 + n = gw (w4 h) 3 * M + low ∧ w4 low = [n, gw (w4 h) 0, gw (w4 h) 1, gw (w4 h) 2] := by
  have l0 := gw_lt h 0; have l1 := gw_lt h 1; have l2 := gw_lt h 2
  obtain ⟨e, _⟩ := w4_words h hh
  refine ⟨n + 18446744073709551616 * (gw (w4 h) 0 + 18446744073709551616 * (gw (w4 h) 1 + 18446744073709551616 * gw (w4 h) 2)), v4_lt _ _ _ _ hn l0 l1 l2, ?_, w4_of _ _ _ _ hn l0 l1 l2⟩
  generalize gw (w4 h) 0 = a at *; generalize gw (w4 h) 1 = b at *; generalize gw (w4 h) 2 = c at *; generalize gw (w4 h) 3 = d at *
  unfold M; omega
theorem gs_lt (t n d : Nat) (hd : 9223372036854775808 ≤ d) (hn : n < 18446744073709551616) : gsN t n d < 18446744073709551616 := by
  unfold gsN
  split
  · omega
  · rename_i h
    rw [Nat.div_lt_iff_lt_mul (by omega)]
    have := Nat.mul_le_mul_right 18446744073709551616 (show t + 1 ≤ d by omega)
    omega
theorem dq_lt (h n m : Nat) (hm : 0 < m) (hh : h < m) (hn : n < 18446744073709551616) : (h * 18446744073709551616 + n) / m < 18446744073709551616 := by
  rw [Nat.div_lt_iff_lt_mul hm]
  have := Nat.mul_le_mul_right 18446744073709551616 (show h + 1 ≤ m from hh)
  rw [Nat.mul_comm 18446744073709551616 m]
  omega
/-- A guess is never too small. -/
theorem gs_ge (h n m : Nat) (hm : m < M) (hm2 : 57896044618658097711785492504343953926634992332820282019728792003956564819968 ≤ m) (hh : h < m) (hn : n < 18446744073709551616) :
    (h * 18446744073709551616 + n) / m ≤ gsN (gw (w4 h) 3) (gw (w4 h) 2) (gw (w4 m) 3) := by
  have hq := dq_lt h n m (by omega) hh hn
  unfold gsN
  split
  · omega
  · have l0 := gw_lt h 0; have l1 := gw_lt h 1; have m0 := gw_lt m 0
    obtain ⟨e, _⟩ := w4_words h (by omega)
    obtain ⟨e2, _⟩ := w4_words m hm
    have h3 : 9223372036854775808 ≤ gw (w4 m) 3 := by
      have k0 := gw_lt m 0; have k1 := gw_lt m 1; have k2 := gw_lt m 2
      generalize gw (w4 m) 0 = a at *; generalize gw (w4 m) 1 = b at *; generalize gw (w4 m) 2 = c at *; generalize gw (w4 m) 3 = d at *
      clear e hq
      omega
    rw [Nat.le_div_iff_mul_le (by omega)]
    have hqm := Nat.div_mul_le_self (h * 18446744073709551616 + n) m
    generalize (h * 18446744073709551616 + n) / m = q at *
    have h4 : q * (gw (w4 m) 3 * 6277101735386680763835789423207666416102355444464034512896) ≤ q * m := Nat.mul_le_mul_left _ (by
      generalize gw (w4 m) 0 = a at *; generalize gw (w4 m) 1 = b at *; generalize gw (w4 m) 2 = c at *; generalize gw (w4 m) 3 = d at *
      clear e hqm
      omega)
    rw [← Nat.mul_assoc] at h4
    generalize q * gw (w4 m) 3 = p at *
    generalize q * m = r at *
    generalize gw (w4 h) 0 = a at *; generalize gw (w4 h) 1 = b at *; generalize gw (w4 h) 2 = c at *; generalize gw (w4 h) 3 = d at *
    clear e2 h3 hq m0
    omega
theorem top_ge (m : Nat) (hm : m < M) (hm2 : 57896044618658097711785492504343953926634992332820282019728792003956564819968 ≤ m) : 9223372036854775808 ≤ gw (w4 m) 3 := by
  obtain ⟨e2, _⟩ := w4_words m hm
  have k0 := gw_lt m 0; have k1 := gw_lt m 1; have k2 := gw_lt m 2
  generalize gw (w4 m) 0 = a at *; generalize gw (w4 m) 1 = b at *; generalize gw (w4 m) 2 = c at *; generalize gw (w4 m) 3 = d at *
  omega
/-- The guess is too great just if the product is. -/
theorem over_iff (x m T top low : Nat) (hl : low < M) (hT : T = top * M + low) : (top < x * m / M ∨ x * m / M = top ∧ low < x * m % M) ↔ T < x * m := by
  have h1 := Nat.div_add_mod (x * m) M
  have h2 : x * m % M < M := Nat.mod_lt _ (by decide)
  generalize x * m / M = o at *
  generalize x * m % M = p at *
  generalize x * m = X at *
  subst hT
  rw [← h1]
  unfold M at *
  omega
theorem less_step (x m : Nat) (hm : m < M) (hx : 1 ≤ x) : (x * m % M + M - m) % M = (x - 1) * m % M ∧ x * m / M = (x - 1) * m / M + (if x * m % M < m then 1 else 0) := by
  obtain ⟨y, rfl⟩ : ∃ y, x = y + 1 := ⟨x - 1, by omega⟩
  have e : (y + 1) * m = y * m + m := by rw [Nat.add_mul, Nat.one_mul]
  rw [e, Nat.add_sub_cancel]
  clear e
  generalize y * m = z
  unfold M at *
  constructor
  · omega
  · split <;> omega
theorem rest_of (x m T top low : Nat) (_hl : low < M) (hT : T = top * M + low) (hm : 0 < m) (_hmM : m < M) (hx : T / m = x) : (low + M - x * m % M) % M = T % m := by
  have h1 := Nat.div_add_mod T m
  have h2 := Nat.mod_lt T hm
  rw [hx, Nat.mul_comm] at h1
  generalize x * m = z at *
  generalize T % m = r at *
  unfold M at *
  omega
/-! ### The quotient, a word at a time: behind k words -/
def dvS (r0 : Nat) (l : List Nat) (m : Nat) : Nat → List Nat × Nat
  | 0 => ([0, 0, 0, 0], r0)
  | k + 1 => ((dvS r0 l m k).1.set (3 - k) (((dvS r0 l m k).2 * 18446744073709551616 + gw l (3 - k)) / m), ((dvS r0 l m k).2 * 18446744073709551616 + gw l (3 - k)) % m)
theorem dvS_lt (r0 : Nat) (l : List Nat) (m k : Nat) (hm : 0 < m) (h : r0 < m) : (dvS r0 l m k).2 < m := by
  cases k with
  | zero => exact h
  | succ k => exact Nat.mod_lt _ hm
theorem dv_step (r w m : Nat) (hm : 0 < m) (hr : r < m) (hw : w < 18446744073709551616) : ∃ q s, (r * 18446744073709551616 + w) / m = q ∧ (r * 18446744073709551616 + w) % m = s ∧ q < 18446744073709551616 ∧ s < m ∧ r * 18446744073709551616 + w = m * q + s :=
  ⟨_, _, rfl, rfl, dq_lt r w m hm hr hw, Nat.mod_lt _ hm, (Nat.div_add_mod _ _).symm⟩
theorem two_words (B r b0 b1 s0 s1 x0 x1 : Nat) (p1 : r * B + b1 = x1 + s1) (p0 : s1 * B + b0 = x0 + s0) : r * (B * B) + (b0 + B * b1) = s0 + (x0 + B * x1) := by
  calc r * (B * B) + (b0 + B * b1) = (r * B + b1) * B + b0 := by rw [Nat.add_mul, Nat.mul_assoc, Nat.mul_comm b1 B]; omega
    _ = (x1 + s1) * B + b0 := by rw [p1]
    _ = x1 * B + (s1 * B + b0) := by rw [Nat.add_mul, Nat.add_assoc]
    _ = x1 * B + (x0 + s0) := by rw [p0]
    _ = s0 + (x0 + B * x1) := by rw [Nat.mul_comm x1 B]; omega
theorem in_two (B a b c d : Nat) : a + B * (b + B * (c + B * d)) = (a + B * b) + B * B * (c + B * d) := by
  rw [Nat.mul_add B b, Nat.mul_assoc B B, Nat.add_assoc]
theorem words5 (B r0 b0 b1 b2 b3 s0 s1 s2 s3 x0 x1 x2 x3 : Nat) (p3 : r0 * B + b3 = x3 + s3) (p2 : s3 * B + b2 = x2 + s2) (p1 : s2 * B + b1 = x1 + s1) (p0 : s1 * B + b0 = x0 + s0) :
    r0 * (B * B * (B * B)) + (b0 + B * (b1 + B * (b2 + B * b3))) = s0 + (x0 + B * (x1 + B * (x2 + B * x3))) := by
  rw [in_two B b0, in_two B x0]
  have h1 := two_words B r0 b2 b3 s2 s3 x2 x3 p3 p2
  have h0 := two_words B s2 b0 b1 s0 s1 x0 x1 p1 p0
  exact two_words (B * B) r0 _ _ s0 s2 _ _ (by rw [h1, Nat.add_comm]) (by rw [h0, Nat.add_comm])
theorem five_words (r0 b0 b1 b2 b3 s0 s1 s2 s3 x0 x1 x2 x3 : Nat) (p3 : r0 * 18446744073709551616 + b3 = x3 + s3) (p2 : s3 * 18446744073709551616 + b2 = x2 + s2) (p1 : s2 * 18446744073709551616 + b1 = x1 + s1) (p0 : s1 * 18446744073709551616 + b0 = x0 + s0) :
    r0 * M + (b0 + 18446744073709551616 * (b1 + 18446744073709551616 * (b2 + 18446744073709551616 * b3))) = s0 + (x0 + 18446744073709551616 * (x1 + 18446744073709551616 * (x2 + 18446744073709551616 * x3))) := by
  have h := words5 18446744073709551616 r0 b0 b1 b2 b3 s0 s1 s2 s3 x0 x1 x2 x3 p3 p2 p1 p0
  have e : 18446744073709551616 * 18446744073709551616 * (18446744073709551616 * 18446744073709551616) = M := rfl
  rw [e] at h
  exact h
theorem dvS_all (r0 b m : Nat) (hb : b < M) (hm : 0 < m) (h : r0 < m) : dvS r0 (w4 b) m 4 = (w4 ((r0 * M + b) / m), (r0 * M + b) % m) ∧ (r0 * M + b) / m < M := by
  obtain ⟨b0, b1, b2, b3, k0, k1, k2, k3, eb, wb⟩ := w4_parts b hb
  rw [wb]
  obtain ⟨q3, s3, e3, f3, l3, m3, p3⟩ := dv_step r0 b3 m hm h k3
  obtain ⟨q2, s2, e2, f2, l2, m2, p2⟩ := dv_step s3 b2 m hm m3 k2
  obtain ⟨q1, s1, e1, f1, l1, m1, p1⟩ := dv_step s2 b1 m hm m2 k1
  obtain ⟨q0, s0, e0, f0, l0, m0, p0⟩ := dv_step s1 b0 m hm m1 k0
  have hs : dvS r0 [b0, b1, b2, b3] m 4 = ([q0, q1, q2, q3], s0) := by
    simp [dvS, gw, e3, f3, e2, f2, e1, f1, e0, f0]
  have key : r0 * M + b = s0 + m * (q0 + 18446744073709551616 * (q1 + 18446744073709551616 * (q2 + 18446744073709551616 * q3))) := by
    rw [eb]
    rw [five_words _ _ _ _ _ _ _ _ _ _ _ _ _ p3 p2 p1 p0]
    simp only [Nat.mul_add, Nat.mul_left_comm m 18446744073709551616]
  have hl := v4_lt q0 q1 q2 q3 l0 l1 l2 l3
  have hw := w4_of q0 q1 q2 q3 l0 l1 l2 l3
  rw [hs, key, Nat.add_mul_div_left _ _ hm, Nat.div_eq_of_lt m0, Nat.zero_add, Nat.add_mul_mod_self_left, Nat.mod_eq_of_lt m0, hw]
  exact ⟨rfl, hl⟩
/-- All are shifted, so that the divisor's highest bit is set. -/
theorem shifted (high low m : Nat) (hm0 : m ≠ 0) (hm : m < M) (hh : high < m) (hl : low < M) : ∃ s r b n, 256 - blen m = s ∧ s ≤ 256 ∧ blen m + s = 256 ∧ m * 2 ^ s % M = n ∧ n < M ∧ 57896044618658097711785492504343953926634992332820282019728792003956564819968 ≤ n ∧
    (high * 2 ^ s % M + low / 2 ^ (256 - s)) % M = r ∧ high * 2 ^ s % M < M ∧ low / 2 ^ (256 - s) < M ∧ low * 2 ^ s % M = b ∧ b < M ∧ r < n ∧ (r * M + b) / n = (high * M + low) / m ∧ (r * M + b) % n / 2 ^ s = (high * M + low) % m ∧ (r * M + b) % n < M := by
  obtain ⟨b1, b2, b3⟩ := blen_bounds m hm hm0
  have b4 := blen_le m hm
  obtain ⟨s, hs⟩ : ∃ s, 256 - blen m = s := ⟨_, rfl⟩
  have hbs : blen m + s = 256 := by omega
  have hM : M = 2 ^ 256 := rfl
  have e1 : 2 ^ blen m * 2 ^ s = M := by rw [← Nat.pow_add, hbs]; rfl
  have e2 : 2 ^ (blen m - 1) * 2 ^ s = 57896044618658097711785492504343953926634992332820282019728792003956564819968 := by rw [← Nat.pow_add, show blen m - 1 + s = 255 by omega]
  have e3 : 2 ^ (256 - s) * 2 ^ s = M := by rw [show 256 - s = blen m by omega]; exact e1
  have hp : 0 < 2 ^ s := Nat.two_pow_pos s
  have n1 : m * 2 ^ s < M := by rw [← e1]; exact Nat.mul_lt_mul_of_pos_right b3 hp
  have n2 : 57896044618658097711785492504343953926634992332820282019728792003956564819968 ≤ m * 2 ^ s := by rw [← e2]; exact Nat.mul_le_mul_right _ b2
  have hq := Nat.div_add_mod low (2 ^ (256 - s))
  have hql : low / 2 ^ (256 - s) < 2 ^ s := by
    rw [Nat.div_lt_iff_lt_mul (Nat.two_pow_pos _), Nat.mul_comm, e3]; exact hl
  have hh2 : (high + 1) * 2 ^ s ≤ m * 2 ^ s := Nat.mul_le_mul_right _ hh
  rw [Nat.add_mul, Nat.one_mul] at hh2
  have hX : low * 2 ^ s = low / 2 ^ (256 - s) * M + low % 2 ^ (256 - s) * 2 ^ s := by
    conv => lhs; rw [← hq]
    rw [Nat.add_mul, Nat.mul_comm (2 ^ (256 - s)), Nat.mul_assoc, e3]
  have hr : low % 2 ^ (256 - s) * 2 ^ s < M := by rw [← e3]; exact Nat.mul_lt_mul_of_pos_right (Nat.mod_lt _ (Nat.two_pow_pos _)) hp
  have hb : low * 2 ^ s % M = low % 2 ^ (256 - s) * 2 ^ s := by rw [hX, Nat.mul_add_mod_self_right, Nat.mod_eq_of_lt hr]
  have hhm : high * 2 ^ s % M = high * 2 ^ s := Nat.mod_eq_of_lt (by omega)
  have hrr : (high * 2 ^ s % M + low / 2 ^ (256 - s)) % M = high * 2 ^ s + low / 2 ^ (256 - s) := by rw [hhm]; exact Nat.mod_eq_of_lt (by omega)
  have hall : (high * 2 ^ s + low / 2 ^ (256 - s)) * M + low * 2 ^ s % M = (high * M + low) * 2 ^ s := by
    rw [hb, Nat.add_mul, Nat.add_assoc, ← hX, Nat.add_mul, Nat.mul_assoc, Nat.mul_assoc, Nat.mul_comm (2 ^ s) M]
  refine ⟨s, _, _, _, hs, by omega, hbs, rfl, ?_, ?_, rfl, ?_, ?_, rfl, Nat.mod_lt _ (by decide), ?_, ?_, ?_, ?_⟩
  · rw [Nat.mod_eq_of_lt n1]; exact n1
  · rw [Nat.mod_eq_of_lt n1]; exact n2
  · exact Nat.mod_lt _ (by decide)
  · omega
  · rw [hrr, Nat.mod_eq_of_lt n1]; omega
  · rw [hrr, hall, Nat.mod_eq_of_lt n1, Nat.mul_div_mul_right _ _ hp]
  · rw [hrr, hall, Nat.mod_eq_of_lt n1, Nat.mul_mod_mul_right, Nat.mul_div_cancel _ hp]
  · rw [Nat.mod_eq_of_lt n1]; exact Nat.lt_trans (Nat.mod_lt _ (by omega)) n1
end Go.Proofs.Ytpfoeeiacfadfaa
/-
  Plain mathematics of numbers bit by bit: twice and a bit, single bits, how many bits, which one is greater.
-/
namespace Go.Proofs.Ytpfoeeiacfadfaa

theorem low_bit (x H r : Nat) (hr : r < 64) : (x + 18446744073709551616 * H) / 2 ^ r % 2 = x / 2 ^ r % 2 := by
  have e : 18446744073709551616 = 2 ^ r * (2 * 2 ^ (63 - r)) := by
    have : 2 ^ r * (2 * 2 ^ (63 - r)) = 2 ^ 64 := by rw [← Nat.pow_succ', ← Nat.pow_add]; congr 1; omega
    exact this.symm
  rw [e, Nat.mul_assoc, Nat.add_mul_div_left _ _ (Nat.two_pow_pos r), Nat.mul_assoc]
  omega
theorem bit_word (a i : Nat) (ha : a < M) (hi : i < 256) : gw (w4 a) (i / 64) / 2 ^ (i % 64) % 2 = a / 2 ^ i % 2 := by
  obtain ⟨a0, a1, a2, a3, h0, h1, h2, h3, ea, wa⟩ := w4_parts a ha
  have hi' : i = 64 * (i / 64) + i % 64 := by omega
  have hr : i % 64 < 64 := by omega
  have hq : i / 64 = 0 ∨ i / 64 = 1 ∨ i / 64 = 2 ∨ i / 64 = 3 := by omega
  have ep : a / 2 ^ i = a / 2 ^ (64 * (i / 64)) / 2 ^ (i % 64) := by
    conv => lhs; rw [hi', Nat.pow_add]
    rw [Nat.div_div_eq_div_mul]
  rw [ep, wa, ea]
  generalize i % 64 = r at *
  clear ep
  rcases hq with h | h | h | h
  · rw [h]; simp only [gw, List.getD_cons_zero, Nat.mul_zero, Nat.pow_zero, Nat.div_one]
    rw [low_bit _ _ _ hr]
  · rw [h]; simp only [gw, List.getD_cons_zero, List.getD_cons_succ, Nat.mul_one]
    rw [show (a0 + 18446744073709551616 * (a1 + 18446744073709551616 * (a2 + 18446744073709551616 * a3))) / 2 ^ 64 = a1 + 18446744073709551616 * (a2 + 18446744073709551616 * a3) by omega, low_bit _ _ _ hr]
  · rw [h]; simp only [gw, List.getD_cons_zero, List.getD_cons_succ]
    rw [show (a0 + 18446744073709551616 * (a1 + 18446744073709551616 * (a2 + 18446744073709551616 * a3))) / 2 ^ (64 * 2) = a2 + 18446744073709551616 * a3 by omega, low_bit _ _ _ hr]
  · rw [h]; simp only [gw, List.getD_cons_zero, List.getD_cons_succ]
    rw [show (a0 + 18446744073709551616 * (a1 + 18446744073709551616 * (a2 + 18446744073709551616 * a3))) / 2 ^ (64 * 3) = a3 by omega]
/-- One bit more, or the highest one. -/
theorem len_step (a n : Nat) (ha : a < 2 ^ (n + 1)) : (a / 2 ^ n % 2 = 0 → a < 2 ^ n) ∧ (a / 2 ^ n % 2 ≠ 0 → 2 ^ n ≤ a) := by
  have hp := Nat.two_pow_pos n
  have h1 : a / 2 ^ n < 2 := by rw [Nat.div_lt_iff_lt_mul hp, ← Nat.pow_succ']; exact ha
  constructor
  · intro h
    have h2 : a / 2 ^ n = 0 := by generalize a / 2 ^ n = q at *; omega
    rcases (Nat.div_eq_zero_iff).1 h2 with h | h
    · omega
    · exact h
  · intro h
    apply Nat.le_of_not_lt
    intro hlt
    rw [Nat.div_eq_of_lt hlt] at h
    exact h rfl
theorem half_step (R i : Nat) : 2 * (R / 2 ^ (i + 1)) + R / 2 ^ i % 2 = R / 2 ^ i := by
  rw [Nat.pow_succ, ← Nat.div_div_eq_div_mul]; omega
/-- The words above are alike: this one tells. -/
theorem cmp_word (a b j : Nat) (ha : a < M) (hb : b < M) (hj : j < 4) (hz : ∀ i, j < i → i < 4 → gw (w4 a) i = gw (w4 b) i) :
    (gw (w4 a) j < gw (w4 b) j → a < b) ∧ (gw (w4 b) j < gw (w4 a) j → b < a) := by
  obtain ⟨a0, a1, a2, a3, h0, h1, h2, h3, ea, wa⟩ := w4_parts a ha
  obtain ⟨b0, b1, b2, b3, k0, k1, k2, k3, eb, wb⟩ := w4_parts b hb
  rw [wa, wb] at hz ⊢
  have hj' : j = 0 ∨ j = 1 ∨ j = 2 ∨ j = 3 := by omega
  rcases hj' with rfl | rfl | rfl | rfl
  · have z1 := hz 1 (by decide) (by decide); have z2 := hz 2 (by decide) (by decide); have z3 := hz 3 (by decide) (by decide)
    simp [gw] at z1 z2 z3 ⊢
    omega
  · have z2 := hz 2 (by decide) (by decide); have z3 := hz 3 (by decide) (by decide)
    simp [gw] at z2 z3 ⊢
    omega
  · have z3 := hz 3 (by decide) (by decide)
    simp [gw] at z3 ⊢
    omega
  · simp [gw]
    omega
theorem same_words (a b : Nat) (ha : a < M) (hb : b < M) (hz : ∀ i, i < 4 → gw (w4 a) i = gw (w4 b) i) : a = b := by
  obtain ⟨e1, _⟩ := w4_words a ha
  obtain ⟨e2, _⟩ := w4_words b hb
  rw [e1, e2, hz 0 (by decide), hz 1 (by decide), hz 2 (by decide), hz 3 (by decide)]
theorem shl_step (a k : Nat) : (2 * (a * 2 ^ k % M) + 0) % M = a * 2 ^ (k + 1) % M := by
  rw [Nat.add_zero, Nat.mul_mod_mod, Nat.pow_succ, Nat.mul_left_comm, Nat.mul_comm 2 (2 ^ k)]
/-- A step of dividing bit by bit. -/
theorem rem_step (r b m : Nat) (hr : r < m) (hm : m < M) (hb : b ≤ 1) : ((2 * r + b) / M = 1 ∨ m ≤ (2 * r + b) % M) ∧ ((2 * r + b) % M + M - m) % M = (2 * r + b) % m ∧ (2 * r + b) / m = 1 ∨ ¬ ((2 * r + b) / M = 1 ∨ m ≤ (2 * r + b) % M) ∧ (2 * r + b) % M = (2 * r + b) % m ∧ (2 * r + b) / m = 0 := by
  obtain ⟨v, hv⟩ : ∃ v, 2 * r + b = v := ⟨_, rfl⟩
  rw [hv]
  by_cases h : v < m
  · refine .inr ⟨?_, ?_, Nat.div_eq_of_lt h⟩
    · unfold M at *; omega
    · rw [Nat.mod_eq_of_lt h]; unfold M at *; omega
  · have e1 : v % m = v - m := by rw [Nat.mod_eq_sub_mod (by omega), Nat.mod_eq_of_lt (by omega)]
    have e2 : v / m = 1 := by
      have := Nat.div_add_mod v m
      rw [e1] at this
      have h2 : m * (v / m) = m * 1 := by omega
      exact Nat.eq_of_mul_eq_mul_left (by omega) h2
    refine .inl ⟨?_, ?_, e2⟩
    · unfold M at *; omega
    · rw [e1]; unfold M at *; omega
theorem bits_step (X i m : Nat) : (2 * (X / 2 ^ (i + 1) % m) + X / 2 ^ i % 2) % m = X / 2 ^ i % m := by
  conv => rhs; rw [← half_step X i]
  rw [Nat.add_mod, Nat.mul_mod, Nat.mod_mod, ← Nat.mul_mod, ← Nat.add_mod]
theorem quo_step (X i m : Nat) (hm : 0 < m) : 2 * (X / 2 ^ (i + 1) / m) + (2 * (X / 2 ^ (i + 1) % m) + X / 2 ^ i % 2) / m = X / 2 ^ i / m := by
  conv => rhs; rw [← half_step X i]
  have h := Nat.div_add_mod (X / 2 ^ (i + 1)) m
  generalize X / 2 ^ (i + 1) = y at *
  generalize X / 2 ^ i % 2 = b at *
  have e : 2 * y + b = (2 * (y % m) + b) + m * (2 * (y / m)) := by
    rw [Nat.mul_left_comm]
    generalize m * (y / m) = z at *
    omega
  rw [e, Nat.add_mul_div_left _ _ hm, Nat.add_comm]
end Go.Proofs.Ytpfoeeiacfadfaa
