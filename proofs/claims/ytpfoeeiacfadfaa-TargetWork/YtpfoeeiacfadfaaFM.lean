/-
  Plain mathematics of numbers modulo the curve's prime.
  Conditions: none of any program.
-/
import Derived.Test.YtpfoeeiacfadfaaQL
import Derived.Test.YtpfoeeiacfadfaaWdZ
namespace Go.Proofs.Ytpfoeeiacfadfaa.Q
open Go.RowKit

/-- The prime. -/
def Pm : Nat := 115792089237316195423570985008687907853269984665640564039457584007908834671663
/-- What it lacks of 2^256. -/
def Gp : Nat := 4294968273
theorem M_P : M = Pm + Gp := by decide
theorem P_lt : Pm < M := by decide
theorem P_pos : 0 < Pm := by decide
theorem red_spec {a : Nat} (h : a < M) : (if (a + Gp) / M = 0 then a else (a + Gp) % M) = a % Pm := by
  unfold M Pm Gp at *; split <;> omega
theorem M_mod (x y : Nat) : (x + y * M) % Pm = (x + y * Gp) % Pm := by
  rw [M_P, Nat.mul_add, ← Nat.add_assoc, Nat.add_right_comm, Nat.add_mul_mod_self_right]
/-- One fold. -/
theorem fold_step {low high s : Nat} (h : (low + high * M) % Pm = s % Pm) : ((low + high * Gp) % M + (low + high * Gp) / M * M) % Pm = s % Pm := by
  rw [Nat.mul_comm ((low + high * Gp) / M) M, Nat.mod_add_div, ← M_mod, h]
theorem fold_b1 {low high : Nat} (h1 : low < M) (h2 : high < M) : (low + high * Gp) / M ≤ Gp := by
  unfold M Gp at *; omega
theorem fold_b2 {low high : Nat} (h1 : low < M) (h2 : high ≤ Gp) : (low + high * Gp) / M ≤ 1 ∧ ((low + high * Gp) / M = 0 ∨ (low + high * Gp) % M ≤ 18446744073709551616 * 18446744073709551616) := by
  unfold M Gp at *; omega
theorem fold_b3 {low : Nat} (h1 : low ≤ 18446744073709551616 * 18446744073709551616) : (low + 1 * Gp) / M = 0 := by
  unfold M Gp at *; omega
theorem fuel_ge (k : Nat) (h : k ≤ 4294967296) : ∃ m, fuel = m + k := ⟨fuel - k, by unfold fuel; omega⟩
theorem itN_succ {δ ο : Type} (F : (δ → Option ο) → δ → Option ο) (n : Nat) (d : δ) : itN F (n + 1) d = F (itN F n) d := rfl
/-- Equality of numbers, as the machine asks it. -/
theorem eqD_w {x y : List UInt64} : eqD (.arr 4 (.int .u64)) x y = decide (x = y) := by
  show eqL (eqD (.int .u64)) x y = _
  induction x generalizing y with
  | nil => cases y <;> simp [eqL]
  | cons a x ih =>
    cases y with
    | nil => simp [eqL]
    | cons b y =>
      simp only [eqL, ih]
      show (decide (a = b) && _) = _
      simp
/-- A power, quickly reckoned. -/
def powm (p a : Nat) : Nat → Nat → Nat
  | 0, _ => 1 % p
  | k + 1, n => if n % 2 = 1 then powm p (a * a % p) k (n / 2) * a % p else powm p (a * a % p) k (n / 2)
theorem powm_eq (p : Nat) : ∀ (k a n : Nat), n < 2 ^ k → powm p a k n = a ^ n % p
  | 0, a, n, h => by
    obtain rfl : n = 0 := by simpa using h
    rfl
  | k + 1, a, n, h => by
    have h2 : n / 2 < 2 ^ k := by rw [Nat.pow_succ] at h; omega
    have e : (a * a % p) ^ (n / 2) % p = a ^ (2 * (n / 2)) % p := by rw [← Nat.pow_mod, Nat.pow_mul, Nat.pow_two]
    unfold powm
    rw [powm_eq p k _ _ h2, e]
    split
    · rename_i h1
      rw [Nat.mod_mul_mod, ← Nat.pow_succ, show (2 * (n / 2)).succ = n by omega]
    · rename_i h1
      rw [show 2 * (n / 2) = n by omega]
theorem pow_step (a n k : Nat) : (a ^ (n / 2 ^ (k + 1)) % Pm * (a ^ (n / 2 ^ (k + 1)) % Pm)) % Pm * (if n / 2 ^ k % 2 = 1 then a % Pm else 1) % Pm = a ^ (n / 2 ^ k) % Pm := by
  have e : n / 2 ^ k = 2 * (n / 2 ^ (k + 1)) + n / 2 ^ k % 2 := by
    rw [Nat.pow_succ, ← Nat.div_div_eq_div_mul]; omega
  rw [← Nat.mul_mod, ← Nat.pow_two, ← Nat.pow_mul, Nat.mul_comm (n / 2 ^ (k + 1)) 2]
  split
  · rename_i h
    rw [← Nat.mul_mod, ← Nat.pow_succ, show (2 * (n / 2 ^ (k + 1))).succ = n / 2 ^ k by omega]
  · rename_i h
    have h0 : n / 2 ^ k % 2 = 0 := by omega
    rw [h0, Nat.add_zero] at e
    rw [Nat.mul_one, Nat.mod_mod, ← e]
end Go.Proofs.Ytpfoeeiacfadfaa.Q
