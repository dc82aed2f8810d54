/-
  Plain mathematics of dividing a number of five words by one of four, a word of the quotient at a time.
-/
import Derived.Test.YtpfoeeiacfadfaaWd3
namespace Go.Proofs.Ytpfoeeiacfadfaa

theorem w4_words (n : Nat) (h : n < M) : n = gw (w4 n) 0 + 18446744073709551616 * (gw (w4 n) 1 + 18446744073709551616 * (gw (w4 n) 2 + 18446744073709551616 * gw (w4 n) 3)) ∧ w4 n = [gw (w4 n) 0, gw (w4 n) 1, gw (w4 n) 2, gw (w4 n) 3] := by
  obtain ⟨a, b, c, d, _, _, _, _, e, hw⟩ := w4_parts n h
  rw [hw]
  exact ⟨e, rfl⟩
/-- What is shifted up by a word, with a word behind it. -/
theorem up_word (h n : Nat) (hh : h < M) (hn : n < 18446744073709551616) : ∃ low, low < M ∧ h * 18446744073709551616 + n = gw (w4 h) 3 * M + low ∧ w4 low = [n, gw (w4 h) 0, gw (w4 h) 1, gw (w4 h) 2] := by
  have l0 := gw_lt h 0; have l1 := gw_lt h 1; have l2 := gw_lt h 2
  obtain ⟨e, _⟩ := w4_words h hh
  refine ⟨n + 18446744073709551616 * (gw (w4 h) 0 + 18446744073709551616 * (gw (w4 h) 1 + 18446744073709551616 * gw (w4 h) 2)), v4_lt _ _ _ _ hn l0 l1 l2, ?_, w4_of _ _ _ _ hn l0 l1 l2⟩
  generalize gw (w4 h) 0 = a at *; generalize gw (w4 h) 1 = b at *; generalize gw (w4 h) 2 = c at *; generalize gw (w4 h) 3 = d at *
  unfold M; omega
theorem gs_lt (t n d : Nat) (hd : 9223372036854775808 ≤ d) (hn : n < 18446744073709551616) : gsN t n d < 18446744073709551616 := by
  unfold gsN
  split
  · omega
  · rename_i h
    rw [Nat.div_lt_iff_lt_mul (by omega)]
    have := Nat.mul_le_mul_right 18446744073709551616 (show t + 1 ≤ d by omega)
    omega
theorem dq_lt (h n m : Nat) (hm : 0 < m) (hh : h < m) (hn : n < 18446744073709551616) : (h * 18446744073709551616 + n) / m < 18446744073709551616 := by
  rw [Nat.div_lt_iff_lt_mul hm]
  have := Nat.mul_le_mul_right 18446744073709551616 (show h + 1 ≤ m from hh)
  rw [Nat.mul_comm 18446744073709551616 m]
  omega
/-- A guess is never too small. -/
theorem gs_ge (h n m : Nat) (hm : m < M) (hm2 : 57896044618658097711785492504343953926634992332820282019728792003956564819968 ≤ m) (hh : h < m) (hn : n < 18446744073709551616) :
    (h * 18446744073709551616 + n) / m ≤ gsN (gw (w4 h) 3) (gw (w4 h) 2) (gw (w4 m) 3) := by
  have hq := dq_lt h n m (by omega) hh hn
  unfold gsN
  split
  · omega
  · have l0 := gw_lt h 0; have l1 := gw_lt h 1; have m0 := gw_lt m 0
    obtain ⟨e, _⟩ := w4_words h (by omega)
    obtain ⟨e2, _⟩ := w4_words m hm
    have h3 : 9223372036854775808 ≤ gw (w4 m) 3 := by
      have k0 := gw_lt m 0; have k1 := gw_lt m 1; have k2 := gw_lt m 2
      generalize gw (w4 m) 0 = a at *; generalize gw (w4 m) 1 = b at *; generalize gw (w4 m) 2 = c at *; generalize gw (w4 m) 3 = d at *
      clear e hq
      omega
    rw [Nat.le_div_iff_mul_le (by omega)]
    have hqm := Nat.div_mul_le_self (h * 18446744073709551616 + n) m
    generalize (h * 18446744073709551616 + n) / m = q at *
    have h4 : q * (gw (w4 m) 3 * 6277101735386680763835789423207666416102355444464034512896) ≤ q * m := Nat.mul_le_mul_left _ (by
      generalize gw (w4 m) 0 = a at *; generalize gw (w4 m) 1 = b at *; generalize gw (w4 m) 2 = c at *; generalize gw (w4 m) 3 = d at *
      clear e hqm
      omega)
    rw [← Nat.mul_assoc] at h4
    generalize q * gw (w4 m) 3 = p at *
    generalize q * m = r at *
    generalize gw (w4 h) 0 = a at *; generalize gw (w4 h) 1 = b at *; generalize gw (w4 h) 2 = c at *; generalize gw (w4 h) 3 = d at *
    clear e2 h3 hq m0
    omega
theorem top_ge (m : Nat) (hm : m < M) (hm2 : 57896044618658097711785492504343953926634992332820282019728792003956564819968 ≤ m) : 9223372036854775808 ≤ gw (w4 m) 3 := by
  obtain ⟨e2, _⟩ := w4_words m hm
  have k0 := gw_lt m 0; have k1 := gw_lt m 1; have k2 := gw_lt m 2
  generalize gw (w4 m) 0 = a at *; generalize gw (w4 m) 1 = b at *; generalize gw (w4 m) 2 = c at *; generalize gw (w4 m) 3 = d at *
  omega
/-- The guess is too great just if the product is. -/
theorem over_iff (x m T top low : Nat) (hl : low < M) (hT : T = top * M + low) : (top < x * m / M ∨ x * m / M = top ∧ low < x * m % M) ↔ T < x * m := by
  have h1 := Nat.div_add_mod (x * m) M
  have h2 : x * m % M < M := Nat.mod_lt _ (by decide)
  generalize x * m / M = o at *
  generalize x * m % M = p at *
  generalize x * m = X at *
  subst hT
  rw [← h1]
  unfold M at *
  omega
theorem less_step (x m : Nat) (hm : m < M) (hx : 1 ≤ x) : (x * m % M + M - m) % M = (x - 1) * m % M ∧ x * m / M = (x - 1) * m / M + (if x * m % M < m then 1 else 0) := by
  obtain ⟨y, rfl⟩ : ∃ y, x = y + 1 := ⟨x - 1, by omega⟩
  have e : (y + 1) * m = y * m + m := by rw [Nat.add_mul, Nat.one_mul]
  rw [e, Nat.add_sub_cancel]
  clear e
  generalize y * m = z
  unfold M at *
  constructor
  · omega
  · split <;> omega
theorem rest_of (x m T top low : Nat) (_hl : low < M) (hT : T = top * M + low) (hm : 0 < m) (_hmM : m < M) (hx : T / m = x) : (low + M - x * m % M) % M = T % m := by
  have h1 := Nat.div_add_mod T m
  have h2 := Nat.mod_lt T hm
  rw [hx, Nat.mul_comm] at h1
  generalize x * m = z at *
  generalize T % m = r at *
  unfold M at *
  omega
/-- A word that was 0 is set. -/
theorem w4_set (n j d : Nat) (hn : n < M) (hj : j < 4) (hz : gw (w4 n) j = 0) (hd : d < 18446744073709551616) : (w4 n).set j d = w4 (n + d * 18446744073709551616 ^ j) ∧ n + d * 18446744073709551616 ^ j < M := by
  obtain ⟨a, b, c, e, h0, h1, h2, h3, hn', hw⟩ := w4_parts n hn
  rw [hw] at hz ⊢
  have hj' : j = 0 ∨ j = 1 ∨ j = 2 ∨ j = 3 := by omega
  rcases hj' with rfl | rfl | rfl | rfl
  · simp [gw] at hz; subst hz
    have e1 : n + d * 18446744073709551616 ^ 0 = d + 18446744073709551616 * (b + 18446744073709551616 * (c + 18446744073709551616 * e)) := by omega
    rw [e1, w4_of _ _ _ _ hd h1 h2 h3]
    exact ⟨rfl, v4_lt _ _ _ _ hd h1 h2 h3⟩
  · simp [gw] at hz; subst hz
    have e1 : n + d * 18446744073709551616 ^ 1 = a + 18446744073709551616 * (d + 18446744073709551616 * (c + 18446744073709551616 * e)) := by omega
    rw [e1, w4_of _ _ _ _ h0 hd h2 h3]
    exact ⟨rfl, v4_lt _ _ _ _ h0 hd h2 h3⟩
  · simp [gw] at hz; subst hz
    have e1 : n + d * 18446744073709551616 ^ 2 = a + 18446744073709551616 * (b + 18446744073709551616 * (d + 18446744073709551616 * e)) := by omega
    rw [e1, w4_of _ _ _ _ h0 h1 hd h3]
    exact ⟨rfl, v4_lt _ _ _ _ h0 h1 hd h3⟩
  · simp [gw] at hz; subst hz
    have e1 : n + d * 18446744073709551616 ^ 3 = a + 18446744073709551616 * (b + 18446744073709551616 * (c + 18446744073709551616 * d)) := by omega
    rw [e1, w4_of _ _ _ _ h0 h1 h2 hd]
    exact ⟨rfl, v4_lt _ _ _ _ h0 h1 h2 hd⟩

/-! ### The quotient, a word at a time: behind k words -/
def dvS (r0 : Nat) (l : List Nat) (m : Nat) : Nat → List Nat × Nat
  | 0 => ([0, 0, 0, 0], r0)
  | k + 1 => ((dvS r0 l m k).1.set (3 - k) (((dvS r0 l m k).2 * 18446744073709551616 + gw l (3 - k)) / m), ((dvS r0 l m k).2 * 18446744073709551616 + gw l (3 - k)) % m)
theorem dvS_length (r0 : Nat) (l : List Nat) (m k : Nat) : (dvS r0 l m k).1.length = 4 := by
  induction k with
  | zero => rfl
  | succ k ih => simp [dvS, ih]
theorem dvS_lt (r0 : Nat) (l : List Nat) (m k : Nat) (hm : 0 < m) (h : r0 < m) : (dvS r0 l m k).2 < m := by
  cases k with
  | zero => exact h
  | succ k => exact Nat.mod_lt _ hm
theorem dv_step (r w m : Nat) (hm : 0 < m) (hr : r < m) (hw : w < 18446744073709551616) : ∃ q s, (r * 18446744073709551616 + w) / m = q ∧ (r * 18446744073709551616 + w) % m = s ∧ q < 18446744073709551616 ∧ s < m ∧ r * 18446744073709551616 + w = m * q + s :=
  ⟨_, _, rfl, rfl, dq_lt r w m hm hr hw, Nat.mod_lt _ hm, (Nat.div_add_mod _ _).symm⟩
theorem two_words (B r b0 b1 s0 s1 x0 x1 : Nat) (p1 : r * B + b1 = x1 + s1) (p0 : s1 * B + b0 = x0 + s0) : r * (B * B) + (b0 + B * b1) = s0 + (x0 + B * x1) := by
  calc r * (B * B) + (b0 + B * b1) = (r * B + b1) * B + b0 := by rw [Nat.add_mul, Nat.mul_assoc, Nat.mul_comm b1 B]; omega
    _ = (x1 + s1) * B + b0 := by rw [p1]
    _ = x1 * B + (s1 * B + b0) := by rw [Nat.add_mul, Nat.add_assoc]
    _ = x1 * B + (x0 + s0) := by rw [p0]
    _ = s0 + (x0 + B * x1) := by rw [Nat.mul_comm x1 B]; omega
theorem in_two (B a b c d : Nat) : a + B * (b + B * (c + B * d)) = (a + B * b) + B * B * (c + B * d) := by
  rw [Nat.mul_add B b, Nat.mul_assoc B B, Nat.add_assoc]
theorem words5 (B r0 b0 b1 b2 b3 s0 s1 s2 s3 x0 x1 x2 x3 : Nat) (p3 : r0 * B + b3 = x3 + s3) (p2 : s3 * B + b2 = x2 + s2) (p1 : s2 * B + b1 = x1 + s1) (p0 : s1 * B + b0 = x0 + s0) :
    r0 * (B * B * (B * B)) + (b0 + B * (b1 + B * (b2 + B * b3))) = s0 + (x0 + B * (x1 + B * (x2 + B * x3))) := by
  rw [in_two B b0, in_two B x0]
  have h1 := two_words B r0 b2 b3 s2 s3 x2 x3 p3 p2
  have h0 := two_words B s2 b0 b1 s0 s1 x0 x1 p1 p0
  exact two_words (B * B) r0 _ _ s0 s2 _ _ (by rw [h1, Nat.add_comm]) (by rw [h0, Nat.add_comm])
theorem five_words (r0 b0 b1 b2 b3 s0 s1 s2 s3 x0 x1 x2 x3 : Nat) (p3 : r0 * 18446744073709551616 + b3 = x3 + s3) (p2 : s3 * 18446744073709551616 + b2 = x2 + s2) (p1 : s2 * 18446744073709551616 + b1 = x1 + s1) (p0 : s1 * 18446744073709551616 + b0 = x0 + s0) :
    r0 * M + (b0 + 18446744073709551616 * (b1 + 18446744073709551616 * (b2 + 18446744073709551616 * b3))) = s0 + (x0 + 18446744073709551616 * (x1 + 18446744073709551616 * (x2 + 18446744073709551616 * x3))) := by
  have h := words5 18446744073709551616 r0 b0 b1 b2 b3 s0 s1 s2 s3 x0 x1 x2 x3 p3 p2 p1 p0
  have e : 18446744073709551616 * 18446744073709551616 * (18446744073709551616 * 18446744073709551616) = M := rfl
  rw [e] at h
  exact h
theorem dvS_all (r0 b m : Nat) (hb : b < M) (hm : 0 < m) (h : r0 < m) : dvS r0 (w4 b) m 4 = (w4 ((r0 * M + b) / m), (r0 * M + b) % m) ∧ (r0 * M + b) / m < M := by
  obtain ⟨b0, b1, b2, b3, k0, k1, k2, k3, eb, wb⟩ := w4_parts b hb
  rw [wb]
  obtain ⟨q3, s3, e3, f3, l3, m3, p3⟩ := dv_step r0 b3 m hm h k3
  obtain ⟨q2, s2, e2, f2, l2, m2, p2⟩ := dv_step s3 b2 m hm m3 k2
  obtain ⟨q1, s1, e1, f1, l1, m1, p1⟩ := dv_step s2 b1 m hm m2 k1
  obtain ⟨q0, s0, e0, f0, l0, m0, p0⟩ := dv_step s1 b0 m hm m1 k0
  have hs : dvS r0 [b0, b1, b2, b3] m 4 = ([q0, q1, q2, q3], s0) := by
    simp [dvS, gw, e3, f3, e2, f2, e1, f1, e0, f0]
  have key : r0 * M + b = s0 + m * (q0 + 18446744073709551616 * (q1 + 18446744073709551616 * (q2 + 18446744073709551616 * q3))) := by
    rw [eb]
    rw [five_words _ _ _ _ _ _ _ _ _ _ _ _ _ p3 p2 p1 p0]
    simp only [Nat.mul_add, Nat.mul_left_comm m 18446744073709551616]
  have hl := v4_lt q0 q1 q2 q3 l0 l1 l2 l3
  have hw := w4_of q0 q1 q2 q3 l0 l1 l2 l3
  rw [hs, key, Nat.add_mul_div_left _ _ hm, Nat.div_eq_of_lt m0, Nat.zero_add, Nat.add_mul_mod_self_left, Nat.mod_eq_of_lt m0, hw]
  exact ⟨rfl, hl⟩
/-- All are shifted, so that the divisor's highest bit is set. -/
theorem shifted (high low m : Nat) (hm0 : m ≠ 0) (hm : m < M) (hh : high < m) (hl : low < M) : ∃ s r b n, 256 - blen m = s ∧ s ≤ 256 ∧ blen m + s = 256 ∧ m * 2 ^ s % M = n ∧ n < M ∧ 57896044618658097711785492504343953926634992332820282019728792003956564819968 ≤ n ∧
    (high * 2 ^ s % M + low / 2 ^ (256 - s)) % M = r ∧ high * 2 ^ s % M < M ∧ low / 2 ^ (256 - s) < M ∧ low * 2 ^ s % M = b ∧ b < M ∧ r < n ∧ (r * M + b) / n = (high * M + low) / m ∧ (r * M + b) % n / 2 ^ s = (high * M + low) % m ∧ (r * M + b) % n < M := by
  obtain ⟨b1, b2, b3⟩ := blen_bounds m hm hm0
  have b4 := blen_le m hm
  obtain ⟨s, hs⟩ : ∃ s, 256 - blen m = s := ⟨_, rfl⟩
  have hbs : blen m + s = 256 := by omega
  have hM : M = 2 ^ 256 := rfl
  have e1 : 2 ^ blen m * 2 ^ s = M := by rw [← Nat.pow_add, hbs]; rfl
  have e2 : 2 ^ (blen m - 1) * 2 ^ s = 57896044618658097711785492504343953926634992332820282019728792003956564819968 := by rw [← Nat.pow_add, show blen m - 1 + s = 255 by omega]
  have e3 : 2 ^ (256 - s) * 2 ^ s = M := by rw [show 256 - s = blen m by omega]; exact e1
  have hp : 0 < 2 ^ s := Nat.two_pow_pos s
  have n1 : m * 2 ^ s < M := by rw [← e1]; exact Nat.mul_lt_mul_of_pos_right b3 hp
  have n2 : 57896044618658097711785492504343953926634992332820282019728792003956564819968 ≤ m * 2 ^ s := by rw [← e2]; exact Nat.mul_le_mul_right _ b2
  have hq := Nat.div_add_mod low (2 ^ (256 - s))
  have hql : low / 2 ^ (256 - s) < 2 ^ s := by
    rw [Nat.div_lt_iff_lt_mul (Nat.two_pow_pos _), Nat.mul_comm, e3]; exact hl
  have hh2 : (high + 1) * 2 ^ s ≤ m * 2 ^ s := Nat.mul_le_mul_right _ hh
  rw [Nat.add_mul, Nat.one_mul] at hh2
  have hX : low * 2 ^ s = low / 2 ^ (256 - s) * M + low % 2 ^ (256 - s) * 2 ^ s := by
    conv => lhs; rw [← hq]
    rw [Nat.add_mul, Nat.mul_comm (2 ^ (256 - s)), Nat.mul_assoc, e3]
  have hr : low % 2 ^ (256 - s) * 2 ^ s < M := by rw [← e3]; exact Nat.mul_lt_mul_of_pos_right (Nat.mod_lt _ (Nat.two_pow_pos _)) hp
  have hb : low * 2 ^ s % M = low % 2 ^ (256 - s) * 2 ^ s := by rw [hX, Nat.mul_add_mod_self_right, Nat.mod_eq_of_lt hr]
  have hhm : high * 2 ^ s % M = high * 2 ^ s := Nat.mod_eq_of_lt (by omega)
  have hrr : (high * 2 ^ s % M + low / 2 ^ (256 - s)) % M = high * 2 ^ s + low / 2 ^ (256 - s) := by rw [hhm]; exact Nat.mod_eq_of_lt (by omega)
  have hall : (high * 2 ^ s + low / 2 ^ (256 - s)) * M + low * 2 ^ s % M = (high * M + low) * 2 ^ s := by
    rw [hb, Nat.add_mul, Nat.add_assoc, ← hX, Nat.add_mul, Nat.mul_assoc, Nat.mul_assoc, Nat.mul_comm (2 ^ s) M]
  refine ⟨s, _, _, _, hs, by omega, hbs, rfl, ?_, ?_, rfl, ?_, ?_, rfl, Nat.mod_lt _ (by decide), ?_, ?_, ?_, ?_⟩
  · rw [Nat.mod_eq_of_lt n1]; exact n1
  · rw [Nat.mod_eq_of_lt n1]; exact n2
  · exact Nat.mod_lt _ (by decide)
  · omega
  · rw [hrr, Nat.mod_eq_of_lt n1]; omega
  · rw [hrr, hall, Nat.mod_eq_of_lt n1, Nat.mul_div_mul_right _ _ hp]
  · rw [hrr, hall, Nat.mod_eq_of_lt n1, Nat.mul_mod_mul_right, Nat.mul_div_cancel _ hp]
  · rw [Nat.mod_eq_of_lt n1]; exact Nat.lt_trans (Nat.mod_lt _ (by omega)) n1
end Go.Proofs.Ytpfoeeiacfadfaa
