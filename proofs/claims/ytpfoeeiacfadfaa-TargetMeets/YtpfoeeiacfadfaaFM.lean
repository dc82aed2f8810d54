/-
  Plain mathematics of numbers modulo the curve's prime.
  Conditions: none of any program.
-/
import Derived.Test.YtpfoeeiacfadfaaQL
import Derived.Test.YtpfoeeiacfadfaaWdZ
namespace Go.Proofs.Ytpfoeeiacfadfaa.Q
open Go.RowKit

/-- The prime. -/
def Pm : Nat := 115792089237316195423570985008687907853269984665640564039457584007908834671663
/-- What it lacks of 2^256. -/
def Gp : Nat := 4294968273
theorem fuel_ge (k : Nat) (h : k ≤ 4294967296) : ∃ m, fuel = m + k := ⟨fuel - k, by unfold fuel; omega⟩
theorem itN_succ {δ ο : Type} (F : (δ → Option ο) → δ → Option ο) (n : Nat) (d : δ) : itN F (n + 1) d = F (itN F n) d := rfl
/-- Equality of numbers, as the machine asks it. -/
theorem eqD_w {x y : List UInt64} : eqD (.arr 4 (.int .u64)) x y = decide (x = y) := by
  show eqL (eqD (.int .u64)) x y = _
  induction x generalizing y with
  | nil => cases y <;> simp [eqL]
  | cons a x ih =>
    cases y with
    | nil => simp [eqL]
    | cons b y =>
      simp only [eqL, ih]
      show (decide (a = b) && _) = _
      simp
/-- A power, quickly reckoned. -/
def powm (p a : Nat) : Nat → Nat → Nat
  | 0, _ => 1 % p
  | k + 1, n => if n % 2 = 1 then powm p (a * a % p) k (n / 2) * a % p else powm p (a * a % p) k (n / 2)
end Go.Proofs.Ytpfoeeiacfadfaa.Q
