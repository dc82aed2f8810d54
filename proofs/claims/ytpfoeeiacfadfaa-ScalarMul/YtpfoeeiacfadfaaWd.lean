/-
  Plain mathematics of numbers of 256 bits in four words: their words; sums, differences, products and shifts word by word, and quotients by guessing a word.
  Conditions: none of any program.
-/
import Derived.Test.YtpfoeeiacfadfaaU64
namespace Go.Proofs.Ytpfoeeiacfadfaa

/-- The four words of a number, the lowest first (told by a recursion that ends at once: so that no walk looks into it). -/
def w4w (k n : Nat) : List Nat := if k = 0 then [n % 18446744073709551616, n / 18446744073709551616 % 18446744073709551616, n / 18446744073709551616 / 18446744073709551616 % 18446744073709551616, n / 18446744073709551616 / 18446744073709551616 / 18446744073709551616 % 18446744073709551616] else w4w (k / 2) n
termination_by k
decreasing_by omega
def w4 (n : Nat) : List Nat := w4w 0 n
theorem w4_eq (n : Nat) : w4 n = [n % 18446744073709551616, n / 18446744073709551616 % 18446744073709551616, n / 18446744073709551616 / 18446744073709551616 % 18446744073709551616, n / 18446744073709551616 / 18446744073709551616 / 18446744073709551616 % 18446744073709551616] := by
  unfold w4; rw [w4w]; simp
/-- The number of four words. -/
def v4 : List Nat → Nat
  | [a, b, c, d] => a + 18446744073709551616 * (b + 18446744073709551616 * (c + 18446744073709551616 * d))
  | _ => 0
/-- 2^256 -/
def M : Nat := 115792089237316195423570985008687907853269984665640564039457584007913129639936
theorem w4_length (n : Nat) : (w4 n).length = 4 := by rw [w4_eq]; rfl
theorem v4_w4 (n : Nat) (h : n < M) : v4 (w4 n) = n := by
  unfold M at h; simp only [w4_eq, v4]; omega
theorem w4_of (a b c d : Nat) (ha : a < 18446744073709551616) (hb : b < 18446744073709551616) (hc : c < 18446744073709551616) (hd : d < 18446744073709551616) : w4 (a + 18446744073709551616 * (b + 18446744073709551616 * (c + 18446744073709551616 * d))) = [a, b, c, d] := by
  simp only [w4_eq]
  have e1 : (a + 18446744073709551616 * (b + 18446744073709551616 * (c + 18446744073709551616 * d))) / 18446744073709551616 = b + 18446744073709551616 * (c + 18446744073709551616 * d) := by omega
  have e2 : (b + 18446744073709551616 * (c + 18446744073709551616 * d)) / 18446744073709551616 = c + 18446744073709551616 * d := by omega
  have e3 : (c + 18446744073709551616 * d) / 18446744073709551616 = d := by omega
  rw [e1, e2, e3]
  simp only [List.cons.injEq, and_true]
  refine ⟨by omega, by omega, by omega, by omega⟩
/-- A number parted into its words. -/
theorem w4_parts (n : Nat) (h : n < M) : ∃ a b c d, a < 18446744073709551616 ∧ b < 18446744073709551616 ∧ c < 18446744073709551616 ∧ d < 18446744073709551616 ∧ n = a + 18446744073709551616 * (b + 18446744073709551616 * (c + 18446744073709551616 * d)) ∧ w4 n = [a, b, c, d] := by
  have hv := v4_w4 n h
  rw [w4_eq] at hv ⊢
  refine ⟨_, _, _, _, ?_, ?_, ?_, ?_, hv.symm, rfl⟩ <;> omega
theorem w4_inj {a b : Nat} (ha : a < M) (hb : b < M) : w4 a = w4 b ↔ a = b :=
  ⟨fun h => by have := congrArg v4 h; rwa [v4_w4 a ha, v4_w4 b hb] at this, fun h => h ▸ rfl⟩
theorem v4_lt (a b c d : Nat) (ha : a < 18446744073709551616) (hb : b < 18446744073709551616) (hc : c < 18446744073709551616) (hd : d < 18446744073709551616) : a + 18446744073709551616 * (b + 18446744073709551616 * (c + 18446744073709551616 * d)) < M := by unfold M; omega

/-- A word of a list. -/
def gw (l : List Nat) (i : Nat) : Nat := l.getD i 0
theorem gw_get {l : List Nat} {i : Nat} (h : i < l.length) : l[i]? = some (gw l i) := by simp [gw, List.getD, h]
theorem gw_lt (n i : Nat) : gw (w4 n) i < 18446744073709551616 := by
  unfold gw; rw [w4_eq]
  match i with
  | 0 => simp; omega
  | 1 => simp; omega
  | 2 => simp; omega
  | 3 => simp; omega
  | k + 4 => simp

/-! ### Sums -/
def addS (l m : List Nat) : Nat → List Nat × Nat
  | 0 => ([0, 0, 0, 0], 0)
  | i + 1 => ((addS l m i).1.set i ((gw l i + gw m i + (addS l m i).2) % 18446744073709551616), (gw l i + gw m i + (addS l m i).2) / 18446744073709551616)
theorem addS_length (l m : List Nat) (i : Nat) : (addS l m i).1.length = 4 := by
  induction i with
  | zero => rfl
  | succ i ih => simp [addS, ih]
theorem addS_carry (a b i : Nat) : (addS (w4 a) (w4 b) i).2 ≤ 1 := by
  induction i with
  | zero => simp [addS]
  | succ i ih => have := gw_lt a i; have := gw_lt b i; simp only [addS]; omega
theorem addS_all (a b : Nat) (ha : a < M) (hb : b < M) : addS (w4 a) (w4 b) 4 = (w4 ((a + b) % M), (a + b) / M) := by
  obtain ⟨a0, a1, a2, a3, h0, h1, h2, h3, ea, wa⟩ := w4_parts a ha
  obtain ⟨b0, b1, b2, b3, k0, k1, k2, k3, eb, wb⟩ := w4_parts b hb
  rw [wa, wb]
  simp only [addS, gw, List.getD_cons_zero, List.getD_cons_succ, List.set_cons_zero, List.set_cons_succ, Nat.add_zero]
  obtain ⟨c1, hc1⟩ : ∃ c, (a0 + b0) / 18446744073709551616 = c := ⟨_, rfl⟩
  obtain ⟨s0, hs0⟩ : ∃ c, (a0 + b0) % 18446744073709551616 = c := ⟨_, rfl⟩
  rw [hc1, hs0]
  obtain ⟨c2, hc2⟩ : ∃ c, (a1 + b1 + c1) / 18446744073709551616 = c := ⟨_, rfl⟩
  obtain ⟨s1, hs1⟩ : ∃ c, (a1 + b1 + c1) % 18446744073709551616 = c := ⟨_, rfl⟩
  rw [hc2, hs1]
  obtain ⟨c3, hc3⟩ : ∃ c, (a2 + b2 + c2) / 18446744073709551616 = c := ⟨_, rfl⟩
  obtain ⟨s2, hs2⟩ : ∃ c, (a2 + b2 + c2) % 18446744073709551616 = c := ⟨_, rfl⟩
  rw [hc3, hs2]
  obtain ⟨c4, hc4⟩ : ∃ c, (a3 + b3 + c3) / 18446744073709551616 = c := ⟨_, rfl⟩
  obtain ⟨s3, hs3⟩ : ∃ c, (a3 + b3 + c3) % 18446744073709551616 = c := ⟨_, rfl⟩
  rw [hc4, hs3]
  have e : a + b = (s0 + 18446744073709551616 * (s1 + 18446744073709551616 * (s2 + 18446744073709551616 * s3))) + M * c4 := by unfold M; omega
  have hl := v4_lt s0 s1 s2 s3 (by omega) (by omega) (by omega) (by omega)
  have e1 : (a + b) % M = s0 + 18446744073709551616 * (s1 + 18446744073709551616 * (s2 + 18446744073709551616 * s3)) := by rw [e, Nat.add_mul_mod_self_left, Nat.mod_eq_of_lt hl]
  have e2 : (a + b) / M = c4 := by rw [e, Nat.add_mul_div_left _ _ (by unfold M; omega), Nat.div_eq_of_lt hl, Nat.zero_add]
  rw [e1, e2, w4_of s0 s1 s2 s3 (by omega) (by omega) (by omega) (by omega)]

/-! ### Differences -/
def subS (l m : List Nat) : Nat → List Nat × Nat
  | 0 => ([0, 0, 0, 0], 0)
  | i + 1 => ((subS l m i).1.set i ((gw l i + 18446744073709551616 - gw m i - (subS l m i).2) % 18446744073709551616), if gw l i < gw m i + (subS l m i).2 then 1 else 0)
theorem subS_length (l m : List Nat) (i : Nat) : (subS l m i).1.length = 4 := by
  induction i with
  | zero => rfl
  | succ i ih => simp [subS, ih]
theorem subS_carry (l m : List Nat) (i : Nat) : (subS l m i).2 ≤ 1 := by
  cases i with
  | zero => simp [subS]
  | succ i => simp only [subS]; split <;> omega
theorem sub_step (a b c : Nat) (ha : a < 18446744073709551616) (hb : b < 18446744073709551616) (hc : c ≤ 1) : ∃ s d, (a + 18446744073709551616 - b - c) % 18446744073709551616 = s ∧ (if a < b + c then 1 else 0) = d ∧ s < 18446744073709551616 ∧ d ≤ 1 ∧ a + 18446744073709551616 * d = s + b + c := by
  refine ⟨_, _, rfl, rfl, by omega, by split <;> omega, ?_⟩
  split <;> omega
theorem sub_fin (a b S d m : Nat) (hd : d ≤ 1) (e : a + m * d = S + b) (hl : S < m) : (a + m - b) % m = S ∧ (if a < b then 1 else 0) = d := by
  have hd' : d = 0 ∨ d = 1 := by omega
  rcases hd' with rfl | rfl
  · have e1 : a = S + b := by simpa using e
    subst e1
    rw [show S + b + m - b = S + m by omega, Nat.add_mod_right, Nat.mod_eq_of_lt hl]
    exact ⟨rfl, by simp⟩
  · have e1 : a + m = S + b := by simpa using e
    rw [show a + m - b = S by omega, Nat.mod_eq_of_lt hl]
    exact ⟨rfl, by rw [if_pos (by omega)]⟩
theorem subS_all (a b : Nat) (ha : a < M) (hb : b < M) : subS (w4 a) (w4 b) 4 = (w4 ((a + M - b) % M), if a < b then 1 else 0) := by
  obtain ⟨a0, a1, a2, a3, h0, h1, h2, h3, ea, wa⟩ := w4_parts a ha
  obtain ⟨b0, b1, b2, b3, k0, k1, k2, k3, eb, wb⟩ := w4_parts b hb
  rw [wa, wb]
  simp only [subS, gw, List.getD_cons_zero, List.getD_cons_succ, List.set_cons_zero, List.set_cons_succ]
  obtain ⟨s0, d0, e0, f0, l0, m0, q0⟩ := sub_step a0 b0 0 h0 k0 (by omega)
  rw [e0, f0]
  obtain ⟨s1, d1, e1, f1, l1, m1, q1⟩ := sub_step a1 b1 d0 h1 k1 m0
  rw [e1, f1]
  obtain ⟨s2, d2, e2, f2, l2, m2, q2⟩ := sub_step a2 b2 d1 h2 k2 m1
  rw [e2, f2]
  obtain ⟨s3, d3, e3, f3, l3, m3, q3⟩ := sub_step a3 b3 d2 h3 k3 m2
  rw [e3, f3]
  clear e0 f0 e1 f1 e2 f2 e3 f3
  have e : a + M * d3 = (s0 + 18446744073709551616 * (s1 + 18446744073709551616 * (s2 + 18446744073709551616 * s3))) + b := by unfold M; omega
  have hl := v4_lt s0 s1 s2 s3 l0 l1 l2 l3
  have hw := w4_of s0 s1 s2 s3 l0 l1 l2 l3
  generalize s0 + 18446744073709551616 * (s1 + 18446744073709551616 * (s2 + 18446744073709551616 * s3)) = S at e hl hw
  obtain ⟨e1, e2⟩ := sub_fin a b S d3 M m3 e hl
  rw [e1, e2, hw]

/-! ### A number times a word, and a number -/
def tpS (l : List Nat) (n : Nat) (p : List Nat) : Nat → List Nat × Nat
  | 0 => ([0, 0, 0, 0], 0)
  | i + 1 => ((tpS l n p i).1.set i ((gw l i * n + gw p i + (tpS l n p i).2) % 18446744073709551616), (gw l i * n + gw p i + (tpS l n p i).2) / 18446744073709551616)
theorem tpS_length (l : List Nat) (n : Nat) (m : List Nat) (i : Nat) : (tpS l n m i).1.length = 4 := by
  induction i with
  | zero => rfl
  | succ i ih => simp [tpS, ih]
theorem word_mul (a n : Nat) (ha : a < 18446744073709551616) (hn : n < 18446744073709551616) : a * n ≤ 340282366920938463426481119284349108225 := by
  have := Nat.mul_le_mul (show a ≤ 18446744073709551615 by omega) (show n ≤ 18446744073709551615 by omega)
  simpa using this
theorem tpS_carry (a n p i : Nat) (hn : n < 18446744073709551616) : (tpS (w4 a) n (w4 p) i).2 < 18446744073709551616 := by
  induction i with
  | zero => simp [tpS]
  | succ i ih => have := gw_lt a i; have := gw_lt p i; have := word_mul _ n this (by omega); have := word_mul _ n (gw_lt a i) (by omega); simp only [tpS]; omega
theorem tpS_all (a n p : Nat) (ha : a < M) (hn : n < 18446744073709551616) (hp : p < M) : tpS (w4 a) n (w4 p) 4 = (w4 ((a * n + p) % M), (a * n + p) / M) := by
  obtain ⟨a0, a1, a2, a3, h0, h1, h2, h3, ea, wa⟩ := w4_parts a ha
  obtain ⟨b0, b1, b2, b3, k0, k1, k2, k3, eb, wb⟩ := w4_parts p hp
  rw [wa, wb]
  simp only [tpS, gw, List.getD_cons_zero, List.getD_cons_succ, List.set_cons_zero, List.set_cons_succ, Nat.add_zero]
  have en : a * n = a0 * n + 18446744073709551616 * (a1 * n + 18446744073709551616 * (a2 * n + 18446744073709551616 * (a3 * n))) := by rw [ea]; simp only [Nat.add_mul, Nat.mul_assoc]
  have p0 := word_mul a0 n h0 hn; have p1 := word_mul a1 n h1 hn; have p2 := word_mul a2 n h2 hn; have p3 := word_mul a3 n h3 hn
  generalize a0 * n = x0 at *; generalize a1 * n = x1 at *; generalize a2 * n = x2 at *; generalize a3 * n = x3 at *
  obtain ⟨c1, hc1⟩ : ∃ c, (x0 + b0) / 18446744073709551616 = c := ⟨_, rfl⟩
  obtain ⟨s0, hs0⟩ : ∃ c, (x0 + b0) % 18446744073709551616 = c := ⟨_, rfl⟩
  rw [hc1, hs0]
  obtain ⟨c2, hc2⟩ : ∃ c, (x1 + b1 + c1) / 18446744073709551616 = c := ⟨_, rfl⟩
  obtain ⟨s1, hs1⟩ : ∃ c, (x1 + b1 + c1) % 18446744073709551616 = c := ⟨_, rfl⟩
  rw [hc2, hs1]
  obtain ⟨c3, hc3⟩ : ∃ c, (x2 + b2 + c2) / 18446744073709551616 = c := ⟨_, rfl⟩
  obtain ⟨s2, hs2⟩ : ∃ c, (x2 + b2 + c2) % 18446744073709551616 = c := ⟨_, rfl⟩
  rw [hc3, hs2]
  obtain ⟨c4, hc4⟩ : ∃ c, (x3 + b3 + c3) / 18446744073709551616 = c := ⟨_, rfl⟩
  obtain ⟨s3, hs3⟩ : ∃ c, (x3 + b3 + c3) % 18446744073709551616 = c := ⟨_, rfl⟩
  rw [hc4, hs3]
  have e : a * n + p = (s0 + 18446744073709551616 * (s1 + 18446744073709551616 * (s2 + 18446744073709551616 * s3))) + M * c4 := by unfold M; omega
  have hl := v4_lt s0 s1 s2 s3 (by omega) (by omega) (by omega) (by omega)
  have e1 : (a * n + p) % M = s0 + 18446744073709551616 * (s1 + 18446744073709551616 * (s2 + 18446744073709551616 * s3)) := by rw [e, Nat.add_mul_mod_self_left, Nat.mod_eq_of_lt hl]
  have e2 : (a * n + p) / M = c4 := by rw [e, Nat.add_mul_div_left _ _ (by unfold M; omega), Nat.div_eq_of_lt hl, Nat.zero_add]
  rw [e1, e2, w4_of s0 s1 s2 s3 (by omega) (by omega) (by omega) (by omega)]

/-! ### Products -/
/-- The product's lowest words and what is above them, behind i words. -/
def mulS (a : Nat) (l : List Nat) : Nat → List Nat × Nat
  | 0 => ([0, 0, 0, 0], 0)
  | i + 1 => ((mulS a l i).1.set i ((a * gw l i + (mulS a l i).2) % 18446744073709551616), (a * gw l i + (mulS a l i).2) / 18446744073709551616)
theorem mulS_length (a : Nat) (l : List Nat) (i : Nat) : (mulS a l i).1.length = 4 := by
  induction i with
  | zero => rfl
  | succ i ih => simp [mulS, ih]
theorem mulS_lt (a b i : Nat) (ha : a < M) : (mulS a (w4 b) i).2 < M := by
  induction i with
  | zero => unfold M; simp [mulS]
  | succ i ih =>
    have h1 := gw_lt b i
    have h2 := Nat.mul_le_mul (show a ≤ M - 1 by omega) (show gw (w4 b) i ≤ 18446744073709551615 by omega)
    simp only [mulS]
    generalize a * gw (w4 b) i = x at *
    unfold M at *
    omega
theorem mulS_all (a b : Nat) (hb : b < M) : mulS a (w4 b) 4 = (w4 (a * b % M), a * b / M) := by
  obtain ⟨b0, b1, b2, b3, k0, k1, k2, k3, eb, wb⟩ := w4_parts b hb
  rw [wb]
  simp only [mulS, gw, List.getD_cons_zero, List.getD_cons_succ, List.set_cons_zero, List.set_cons_succ, Nat.add_zero]
  have en : a * b = a * b0 + 18446744073709551616 * (a * b1 + 18446744073709551616 * (a * b2 + 18446744073709551616 * (a * b3))) := by
    rw [eb]; simp only [Nat.mul_add, Nat.mul_left_comm a]
  generalize a * b0 = x0 at *; generalize a * b1 = x1 at *; generalize a * b2 = x2 at *; generalize a * b3 = x3 at *
  obtain ⟨c1, hc1⟩ : ∃ c, x0 / 18446744073709551616 = c := ⟨_, rfl⟩
  obtain ⟨s0, hs0⟩ : ∃ c, x0 % 18446744073709551616 = c := ⟨_, rfl⟩
  rw [hc1, hs0]
  obtain ⟨c2, hc2⟩ : ∃ c, (x1 + c1) / 18446744073709551616 = c := ⟨_, rfl⟩
  obtain ⟨s1, hs1⟩ : ∃ c, (x1 + c1) % 18446744073709551616 = c := ⟨_, rfl⟩
  rw [hc2, hs1]
  obtain ⟨c3, hc3⟩ : ∃ c, (x2 + c2) / 18446744073709551616 = c := ⟨_, rfl⟩
  obtain ⟨s2, hs2⟩ : ∃ c, (x2 + c2) % 18446744073709551616 = c := ⟨_, rfl⟩
  rw [hc3, hs2]
  obtain ⟨c4, hc4⟩ : ∃ c, (x3 + c3) / 18446744073709551616 = c := ⟨_, rfl⟩
  obtain ⟨s3, hs3⟩ : ∃ c, (x3 + c3) % 18446744073709551616 = c := ⟨_, rfl⟩
  rw [hc4, hs3]
  have e : a * b = (s0 + 18446744073709551616 * (s1 + 18446744073709551616 * (s2 + 18446744073709551616 * s3))) + M * c4 := by unfold M; omega
  have hl := v4_lt s0 s1 s2 s3 (by omega) (by omega) (by omega) (by omega)
  have e1 : a * b % M = s0 + 18446744073709551616 * (s1 + 18446744073709551616 * (s2 + 18446744073709551616 * s3)) := by rw [e, Nat.add_mul_mod_self_left, Nat.mod_eq_of_lt hl]
  have e2 : a * b / M = c4 := by rw [e, Nat.add_mul_div_left _ _ (by unfold M; omega), Nat.div_eq_of_lt hl, Nat.zero_add]
  rw [e1, e2, w4_of s0 s1 s2 s3 (by omega) (by omega) (by omega) (by omega)]
/-- The words of a product's sum, moved down by one. -/
theorem w4_down (t s p : Nat) (hs : s = t % M) (hp : p = t / M) (ht : t / 18446744073709551616 < M) : w4 (t / 18446744073709551616) = [gw (w4 s) 1, gw (w4 s) 2, gw (w4 s) 3, p] := by
  subst hs hp
  simp only [w4_eq, gw, List.getD_cons_zero, List.getD_cons_succ]
  unfold M at *
  simp only [List.cons.injEq, and_true]
  refine ⟨by omega, by omega, by omega, by omega⟩

end Go.Proofs.Ytpfoeeiacfadfaa
