/-
  Plain mathematics of dividing two words by one, half a word at a time, as math/bits does it; and of guessing a word of a quotient.
-/
import Derived.Test.YtpfoeeiacfadfaaWd2
namespace Go.Proofs.Ytpfoeeiacfadfaa

theorem dQ_lt (y u v : Nat) (hy : 9223372036854775808 ≤ y) (_hyB : y < 18446744073709551616) (hu : u < y) (hv : v < 4294967296) : (u * 4294967296 + v) / y < 4294967296 := by
  rw [Nat.div_lt_iff_lt_mul (by omega)]
  have := Nat.mul_le_mul_right 4294967296 (show u + 1 ≤ y from hu)
  omega
theorem d_init (y u v : Nat) (hy : 9223372036854775808 ≤ y) (hyB : y < 18446744073709551616) (hu : u < y) (hv : v < 4294967296) : (u * 4294967296 + v) / y ≤ u / (y / 4294967296) ∧ u / (y / 4294967296) ≤ 4294967297 ∧ u % (y / 4294967296) < 4294967296 ∧ u / (y / 4294967296) * (y / 4294967296) + u % (y / 4294967296) = u := by
  have h1 : 2147483648 ≤ y / 4294967296 := by omega
  have h2 : y / 4294967296 < 4294967296 := by omega
  refine ⟨?_, ?_, ?_, ?_⟩
  · rw [Nat.le_div_iff_mul_le (by omega)]
    have hq := Nat.div_mul_le_self (u * 4294967296 + v) y
    generalize (u * 4294967296 + v) / y = Q at *
    have h3 : Q * (y / 4294967296 * 4294967296) ≤ Q * y := Nat.mul_le_mul_left _ (by omega)
    rw [← Nat.mul_assoc] at h3
    omega
  · have h3 : u < y / 4294967296 * 4294967298 := by omega
    have := (Nat.div_lt_iff_lt_mul (by omega : 0 < y / 4294967296)).2 (by rw [Nat.mul_comm] at h3; exact h3)
    omega
  · have := Nat.mod_lt u (show 0 < y / 4294967296 by omega)
    omega
  · rw [Nat.mul_comm]; exact Nat.div_add_mod u (y / 4294967296)
/-- The guess is too great: one less is not too small. -/
theorem d_great (y u v : Nat) (hy : 9223372036854775808 ≤ y) (hyB : y < 18446744073709551616) (hu : u < y) (hv : v < 4294967296) (q r : Nat) (hqr : q * (y / 4294967296) + r = u) (ht : 4294967296 ≤ q ∨ 4294967296 * r + v < q * (y % 4294967296)) : (u * 4294967296 + v) / y < q := by
  rcases ht with ht | ht
  · exact Nat.lt_of_lt_of_le (dQ_lt y u v hy hyB hu hv) ht
  · rw [Nat.div_lt_iff_lt_mul (by omega)]
    have e : q * y = q * (y / 4294967296) * 4294967296 + q * (y % 4294967296) := by
      rw [Nat.mul_assoc, ← Nat.mul_add]; congr 1; omega
    rw [e]
    generalize q * (y / 4294967296) = A at *
    generalize q * (y % 4294967296) = B at *
    omega
/-- The guess is right. -/
theorem d_right (y u v : Nat) (hy : 9223372036854775808 ≤ y) (q r : Nat) (hqr : q * (y / 4294967296) + r = u) (hQ : (u * 4294967296 + v) / y ≤ q) (ht : q * (y % 4294967296) ≤ 4294967296 * r + v) : q = (u * 4294967296 + v) / y := by
  refine Nat.le_antisymm ?_ hQ
  rw [Nat.le_div_iff_mul_le (by omega)]
  have e : q * y = q * (y / 4294967296) * 4294967296 + q * (y % 4294967296) := by
    rw [Nat.mul_assoc, ← Nat.mul_add]; congr 1; omega
  rw [e]
  generalize q * (y / 4294967296) = A at *
  generalize q * (y % 4294967296) = B at *
  omega
theorem d_out (y u v : Nat) (hy : 9223372036854775808 ≤ y) (q r : Nat) (hqr : q * (y / 4294967296) + r = u) (hQ : (u * 4294967296 + v) / y ≤ q) (hq : q ≤ 4294967296) (hr : 4294967296 ≤ r) : q = (u * 4294967296 + v) / y := by
  refine d_right y u v hy q r hqr hQ ?_
  have := Nat.mul_le_mul hq (show y % 4294967296 ≤ 4294967295 by omega)
  generalize q * (y % 4294967296) = B at *
  omega
/-- What is left, as it is reckoned with wrapping. -/
theorem d_left (y u v Q : Nat) (hyB : y < 18446744073709551616) (hy : 0 < y) (hQ : Q = (u * 4294967296 + v) / y) :
    (((((u : Int) * 4294967296) % 18446744073709551616 + v) % 18446744073709551616 - ((Q : Int) * y) % 18446744073709551616) % 18446744073709551616) = (((u * 4294967296 + v) % y : Nat) : Int) := by
  have h1 := Nat.div_add_mod (u * 4294967296 + v) y
  have h2 := Nat.mod_lt (u * 4294967296 + v) hy
  rw [← hQ, Nat.mul_comm] at h1
  have e : (Q : Int) * y = ((Q * y : Nat) : Int) := (Int.natCast_mul Q y).symm
  rw [e]
  generalize Q * y = A at *
  generalize (u * 4294967296 + v) % y = R at *
  omega
theorem d_all (y h l Q1 R1 Q0 : Nat) (hy : 0 < y) (h1 : Q1 = (h * 4294967296 + l / 4294967296) / y) (h2 : R1 = (h * 4294967296 + l / 4294967296) % y) (h3 : Q0 = (R1 * 4294967296 + l % 4294967296) / y) :
    Q1 * 4294967296 + Q0 = (h * 18446744073709551616 + l) / y := by
  have e := Nat.div_add_mod (h * 4294967296 + l / 4294967296) y
  rw [← h1, ← h2] at e
  have e2 : h * 18446744073709551616 + l = R1 * 4294967296 + l % 4294967296 + y * (Q1 * 4294967296) := by
    rw [← Nat.mul_assoc]
    generalize y * Q1 = A at *
    omega
  rw [e2, Nat.add_mul_div_left _ _ hy, ← h3, Nat.add_comm]

/-- A word of a quotient, guessed. -/
def gsN (t n d : Nat) : Nat := if d ≤ t then 18446744073709551615 else (t * 18446744073709551616 + n) / d
end Go.Proofs.Ytpfoeeiacfadfaa
