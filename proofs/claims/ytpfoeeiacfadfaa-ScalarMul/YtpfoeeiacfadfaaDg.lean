/-
  Plain mathematics of numbers by digits of 16 bits, the lowest first: sums, differences and products as in school.
  Conditions: none of any program.
-/
import Derived.Test.YtpfoeeiacfadfaaWd5
namespace Go.Proofs.Ytpfoeeiacfadfaa

/-- The number of digits. -/
def nd : List Nat → Nat
  | [] => 0
  | x :: l => x + 65536 * nd l
theorem nd_append (l m : List Nat) : nd (l ++ m) = nd l + 65536 ^ l.length * nd m := by
  induction l with
  | nil => simp [nd]
  | cons x l ih =>
    simp only [List.cons_append, nd, ih, List.length_cons, Nat.pow_succ, Nat.mul_add]
    rw [Nat.mul_comm (65536 ^ l.length) 65536, Nat.mul_assoc, Nat.add_assoc]
theorem nd_lt (l : List Nat) (h : ∀ x ∈ l, x < 65536) : nd l < 65536 ^ l.length := by
  induction l with
  | nil => simp [nd]
  | cons x l ih =>
    have h1 := h x (by simp)
    have h2 := ih (fun y hy => h y (by simp [hy]))
    simp only [nd, List.length_cons, Nat.pow_succ]
    generalize 65536 ^ l.length = p at *
    omega
theorem nd_set (l : List Nat) (j v : Nat) (hj : j < l.length) : nd (l.set j v) + gw l j * 65536 ^ j = nd l + v * 65536 ^ j := by
  induction l generalizing j with
  | nil => simp at hj
  | cons x l ih =>
    cases j with
    | zero => simp [nd, gw]; omega
    | succ j =>
      have h := ih j (by simpa using hj)
      have e : gw (x :: l) (j + 1) = gw l j := by simp [gw]
      simp only [List.set_cons_succ, nd, e, Nat.pow_succ]
      generalize nd (l.set j v) = A at *
      generalize nd l = B at *
      rw [← Nat.mul_assoc, ← Nat.mul_assoc]
      generalize gw l j * 65536 ^ j = C at *
      generalize v * 65536 ^ j = D at *
      omega
theorem nd_take (l : List Nat) (k : Nat) (hk : k < l.length) : nd (l.take (k + 1)) = nd (l.take k) + gw l k * 65536 ^ k := by
  have e : l.take (k + 1) = l.take k ++ [gw l k] := by
    rw [List.take_add_one, gw_get hk]; rfl
  rw [e, nd_append]
  simp only [nd, List.length_take, Nat.min_eq_left (Nat.le_of_lt hk)]
  rw [Nat.mul_comm]; simp

/-- The first k digits of a number. -/
def dgP (a k : Nat) : List Nat := (List.range k).map fun i => a / 65536 ^ i % 65536
theorem dgP_length (a k : Nat) : (dgP a k).length = k := by simp [dgP]
theorem dgP_succ (a k : Nat) : dgP a (k + 1) = dgP a k ++ [a / 65536 ^ k % 65536] := by simp [dgP, List.range_succ]
theorem dgP_lt (a k : Nat) : ∀ x ∈ dgP a k, x < 65536 := by
  intro x hx
  simp only [dgP, List.mem_map, List.mem_range] at hx
  obtain ⟨i, _, rfl⟩ := hx
  exact Nat.mod_lt _ (by decide)
theorem nd_dgP (a k : Nat) : nd (dgP a k) = a % 65536 ^ k := by
  induction k with
  | zero => simp [dgP, nd, Nat.mod_one]
  | succ k ih =>
    rw [dgP_succ, nd_append, ih, dgP_length, Nat.pow_succ, Nat.mod_mul]
    simp [nd]
theorem nd_all (a : Nat) (ha : a < M) : nd (dgP a 16) = a := by
  rw [nd_dgP]; exact Nat.mod_eq_of_lt (show a < 65536 ^ 16 from ha)
theorem gw_lt16 {l : List Nat} (h : ∀ x ∈ l, x < 65536) (i : Nat) : gw l i < 65536 := by
  by_cases hi : i < l.length
  · have := h l[i] (List.getElem_mem hi)
    simpa [gw, List.getD, hi] using this
  · simp [gw, List.getD, hi]
/-- A digit, told by its word. -/
theorem low_dig (x H k : Nat) (hk : k < 4) : (x + 18446744073709551616 * H) / 65536 ^ k % 65536 = x / 65536 ^ k % 65536 := by
  have hk' : k = 0 ∨ k = 1 ∨ k = 2 ∨ k = 3 := by omega
  rcases hk' with rfl | rfl | rfl | rfl
  · simp only [Nat.pow_zero, Nat.div_one]; omega
  · simp only [Nat.pow_one]; omega
  · rw [show (65536 : Nat) ^ 2 = 4294967296 from rfl]; omega
  · rw [show (65536 : Nat) ^ 3 = 281474976710656 from rfl]; omega
theorem word_digit (a i k : Nat) (ha : a < M) (hi : i < 4) (hk : k < 4) : gw (w4 a) i / 65536 ^ k % 65536 = a / 65536 ^ (4 * i + k) % 65536 := by
  obtain ⟨a0, a1, a2, a3, h0, h1, h2, h3, ea, wa⟩ := w4_parts a ha
  have hi' : i = 0 ∨ i = 1 ∨ i = 2 ∨ i = 3 := by omega
  rw [Nat.pow_add, ← Nat.div_div_eq_div_mul, wa, ea]
  rcases hi' with rfl | rfl | rfl | rfl
  · simp only [gw, List.getD_cons_zero, Nat.mul_zero, Nat.pow_zero, Nat.div_one]
    rw [low_dig _ _ _ hk]
  · simp only [gw, List.getD_cons_zero, List.getD_cons_succ, Nat.mul_one]
    rw [show (a0 + 18446744073709551616 * (a1 + 18446744073709551616 * (a2 + 18446744073709551616 * a3))) / 65536 ^ 4 = a1 + 18446744073709551616 * (a2 + 18446744073709551616 * a3) by omega, low_dig _ _ _ hk]
  · simp only [gw, List.getD_cons_zero, List.getD_cons_succ]
    rw [show (a0 + 18446744073709551616 * (a1 + 18446744073709551616 * (a2 + 18446744073709551616 * a3))) / 65536 ^ (4 * 2) = a2 + 18446744073709551616 * a3 by omega, low_dig _ _ _ hk]
  · simp only [gw, List.getD_cons_zero, List.getD_cons_succ]
    rw [show (a0 + 18446744073709551616 * (a1 + 18446744073709551616 * (a2 + 18446744073709551616 * a3))) / 65536 ^ (4 * 3) = a3 by omega]

/-! ### Sixteen digits as a number of four words -/
def whS (f : Nat → Nat) : Nat → List Nat
  | 0 => [0, 0, 0, 0]
  | k + 1 => (whS f k).set ((15 - k) / 4) ((gw (whS f k) ((15 - k) / 4) * 65536 + f (15 - k)) % 18446744073709551616)
theorem whS_length (f : Nat → Nat) (k : Nat) : (whS f k).length = 4 := by
  induction k with
  | zero => rfl
  | succ k ih => simp [whS, ih]
theorem four_digits (a b c d : Nat) (ha : a < 65536) (hb : b < 65536) (hc : c < 65536) (hd : d < 65536) :
    ((((0 * 65536 + d) % 18446744073709551616 * 65536 + c) % 18446744073709551616 * 65536 + b) % 18446744073709551616 * 65536 + a) % 18446744073709551616 = a + 65536 * (b + 65536 * (c + 65536 * d)) ∧ a + 65536 * (b + 65536 * (c + 65536 * d)) < 18446744073709551616 := by
  constructor <;> omega
theorem whS_all (f : Nat → Nat) (hf : ∀ i, f i < 65536) : ∃ n, n < M ∧ whS f 16 = w4 n ∧ n = nd [f 0, f 1, f 2, f 3, f 4, f 5, f 6, f 7, f 8, f 9, f 10, f 11, f 12, f 13, f 14, f 15] := by
  obtain ⟨e0, l0⟩ := four_digits (f 0) (f 1) (f 2) (f 3) (hf _) (hf _) (hf _) (hf _)
  obtain ⟨e1, l1⟩ := four_digits (f 4) (f 5) (f 6) (f 7) (hf _) (hf _) (hf _) (hf _)
  obtain ⟨e2, l2⟩ := four_digits (f 8) (f 9) (f 10) (f 11) (hf _) (hf _) (hf _) (hf _)
  obtain ⟨e3, l3⟩ := four_digits (f 12) (f 13) (f 14) (f 15) (hf _) (hf _) (hf _) (hf _)
  refine ⟨_, v4_lt _ _ _ _ l0 l1 l2 l3, ?_, ?_⟩
  · rw [w4_of _ _ _ _ l0 l1 l2 l3, ← e0, ← e1, ← e2, ← e3]
    simp only [whS, gw, List.set_cons_zero, List.set_cons_succ, List.getD_cons_zero, List.getD_cons_succ, Nat.reduceSub, Nat.reduceDiv]
  · simp only [nd]
    clear e0 e1 e2 e3 l0 l1 l2 l3
    omega
theorem take16 (l : List Nat) (from_ : Nat) (h : from_ + 16 ≤ l.length) : (l.drop from_).take 16 = [gw l (from_ + 0), gw l (from_ + 1), gw l (from_ + 2), gw l (from_ + 3), gw l (from_ + 4), gw l (from_ + 5), gw l (from_ + 6), gw l (from_ + 7), gw l (from_ + 8), gw l (from_ + 9), gw l (from_ + 10), gw l (from_ + 11), gw l (from_ + 12), gw l (from_ + 13), gw l (from_ + 14), gw l (from_ + 15)] := by
  have e : (l.drop from_).take 16 = (List.range 16).map (fun i => gw l (from_ + i)) := by
    apply List.ext_getElem
    · simp; omega
    · intro i h1 h2
      have hi : from_ + i < l.length := by simp at h1; omega
      simp [gw, List.getD, hi]
  rw [e]; rfl
/-! ### Sums and differences -/
theorem add_step (L X Y L' c l y c' p v : Nat) (h : L + c * p = X + Y) (hs : L' + l * p = L + (v % 65536) * p) (hv : c + l + y = v) (hc : v / 65536 = c') : L' + c' * (p * 65536) = X + (Y + y * p) := by
  have e : v = v % 65536 + 65536 * c' := by omega
  have e2 : c * p + l * p + y * p = v % 65536 * p + c' * (p * 65536) := by
    rw [← Nat.add_mul, ← Nat.add_mul, hv]
    conv => lhs; rw [e]
    rw [Nat.add_mul, Nat.mul_comm 65536 c', Nat.mul_assoc, Nat.mul_comm 65536 p]
  generalize c * p = A at *; generalize l * p = B at *; generalize y * p = C at *; generalize v % 65536 * p = D at *; generalize c' * (p * 65536) = E at *
  omega
theorem sub_step16 (L X Y L' c l y c' p v : Nat) (h : L + Y = X + c * p) (hs : L' + l * p = L + (v % 65536) * p) (hy : y < 65536) (hl : l < 65536) (hcc : c ≤ 1) (hv : l + 65536 - y - c = v) (hc : 1 - v / 65536 = c') : L' + (Y + y * p) = X + c' * (p * 65536) ∧ c' ≤ 1 := by
  have e : v % 65536 + y + c = l + 65536 * c' := by omega
  have e2 : v % 65536 * p + y * p + c * p = l * p + c' * (p * 65536) := by
    rw [← Nat.add_mul, ← Nat.add_mul, e, Nat.add_mul, Nat.mul_comm 65536 c', Nat.mul_assoc, Nat.mul_comm 65536 p]
  refine ⟨?_, by omega⟩
  generalize c * p = A at *; generalize l * p = B at *; generalize y * p = C at *; generalize v % 65536 * p = D at *; generalize c' * (p * 65536) = E at *
  omega
theorem mul_step16 (L Z L' c l xy c' p v : Nat) (h : L + c * p = Z) (hs : L' + l * p = L + (v % 65536) * p) (hv : c + l + xy = v) (hc : v / 65536 = c') : L' + c' * (p * 65536) = Z + xy * p := by
  have := add_step L Z 0 L' c l xy c' p v h hs hv hc
  rw [Nat.zero_add] at this
  exact this
end Go.Proofs.Ytpfoeeiacfadfaa
