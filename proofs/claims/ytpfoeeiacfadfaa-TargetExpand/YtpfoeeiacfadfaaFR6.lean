/-
  What the document's side of layer 6 tells, in numbers: Bit, twice, Rem, Div (bit by bit).
-/
import Derived.Test.YtpfoeeiacfadfaaQS
import Derived.Test.YtpfoeeiacfadfaaFZ
import Derived.Test.YtpfoeeiacfadfaaQMR
namespace Go.Proofs.Ytpfoeeiacfadfaa.Q
open Go.RowKit

theorem fRCmp_s {a b : Nat} (ha : a < M) (hb : b < M) : fRCmp (wl a, wl b) = some (cmpN a b) := by rw [fRCmp_eq]; simp only [val_wl ha, val_wl hb]
theorem fRLen_s {a : Nat} (ha : a < M) : fRLen (wl a) = some ((blen a : Nat) : Int) := by rw [fRLen_eq]; simp only [val_wl ha]
theorem fRAdd_s {a b : Nat} (ha : a < M) (hb : b < M) : fRAdd (wl a, wl b) = some (wl ((a + b) % M), UInt64.ofNat ((a + b) / M)) := by rw [fRAdd_eq]; simp only [val_wl ha, val_wl hb]
theorem fRSub_s {a b : Nat} (ha : a < M) (hb : b < M) : fRSub (wl a, wl b) = some (wl ((a + M - b) % M), UInt64.ofNat (if a < b then 1 else 0)) := by rw [fRSub_eq]; simp only [val_wl ha, val_wl hb]
theorem fRMul_s {a b : Nat} (ha : a < M) (hb : b < M) : fRMul (wl a, wl b) = some (wl (a * b % M), wl (a * b / M)) := by rw [fRMul_eq]; simp only [val_wl ha, val_wl hb]
theorem bit06_s {a j : Nat} (ha : a < M) (hj : j < 256) : m75 (wl a, (j : Int)) = some (UInt64.ofNat (a / 2 ^ j % 2)) := by
  refine (m75_eq _).trans ?_
  unfold b75
  have e2 : UInt64.toNat (ofI .u64 (Int.tmod (j : Int) 64)) = j % 64 := ofI_nat (n := j % 64) (by omega)
  have hp : 2 ^ (j % 64) ≤ 9223372036854775808 := Nat.pow_le_pow_right (n := 2) (by decide) (show j % 64 ≤ 63 by omega)
  have hp0 : 0 < 2 ^ (j % 64) := Nat.two_pow_pos _
  have t12 : shlK .u64 (1 : UInt64) ((UInt64.toNat (ofI .u64 (Int.tmod (j : Int) 64)) : Int)).toNat = UInt64.ofNat (2 ^ (j % 64)) := by
    rw [e2]
    show UInt64.ofNat ((1 : UInt64).toNat * 2 ^ min (j % 64) 64) = _
    rw [show min (j % 64) 64 = j % 64 by omega, show (1 : UInt64).toNat = 1 from rfl, Nat.one_mul]
  have nz : ¬ UInt64.ofNat (2 ^ (j % 64)) = (0 : UInt64) := fun h => by
    have := congrArg UInt64.toNat h
    rw [un _ (by omega), show (0 : UInt64).toNat = 0 from rfl] at this
    omega
  have key : ∀ t : UInt64, t = UInt64.ofNat (2 ^ (j % 64)) → List.getD (wl a) (j / 64) (0 : UInt64) / t % 2 = UInt64.ofNat (a / 2 ^ j % 2) := fun t ht => by
    subst ht
    refine u_eq ?_
    rw [UInt64.toNat_mod, UInt64.toNat_div, word_at _ (by omega), un _ (by omega), un _ (by omega), show (2 : UInt64).toNat = 2 from rfl, bit_word a j ha hj]
  refine Eq.trans (guard_if (show inR .i64 ((j / 64 : Nat) : Int) = true by unfold inR; simp; omega) _) ?_
  refine Eq.trans (guard_if (show inB ((j / 64 : Nat) : Int) 4 = true from inB_nat (by omega)) _) ?_
  refine Eq.trans (guard_if (nonneg_and _ _) _) ?_
  have hz : ∀ (t : UInt64) (z : Int), t = UInt64.ofNat (2 ^ (j % 64)) → (!(decide (t = (0 : UInt64))) && inR .u64 z) = true := fun t z ht => by
    subst ht
    show (!(decide _) && true) = true
    rw [decide_eq_false nz]; rfl
  refine Eq.trans (guard_if (hz _ _ t12) _) ?_
  exact congrArg some (key _ t12)
theorem dbl2_n {x0 x1 x2 x3 b : Nat} (h0 : x0 < 18446744073709551616) (h1 : x1 < 18446744073709551616) (h2 : x2 < 18446744073709551616) (_h3 : x3 < 18446744073709551616) (hb : b ≤ 1) :
    x3 / 9223372036854775808 = (2 * (x0 + 18446744073709551616 * (x1 + 18446744073709551616 * (x2 + 18446744073709551616 * x3))) + b) / M := by
  unfold M; omega
theorem dbl2_s {a b : Nat} (ha : a < M) (hb : b ≤ 1) : m74 (wl a, UInt64.ofNat b) = some (wl ((2 * a + b) % M), UInt64.ofNat ((2 * a + b) / M)) := by
  obtain ⟨a0, a1, a2, a3, la⟩ := len4 (wl_len a)
  have va : a = a0.toNat + 18446744073709551616 * (a1.toNat + 18446744073709551616 * (a2.toNat + 18446744073709551616 * a3.toNat)) := by rw [← val4, ← la, val_wl ha]
  rw [la]
  have e1 : [a0 * 2 + UInt64.ofNat b, a1 * 2 + a0 / 9223372036854775808, a2 * 2 + a1 / 9223372036854775808, a3 * 2 + a2 / 9223372036854775808] = wl ((2 * a + b) % M) := by
    have h := dbl_n (ut a0) (ut a1) (ut a2) (ut a3) hb
    rw [wl4]
    simp only [UInt64.toNat_add, UInt64.toNat_mul, UInt64.toNat_div, un b (by omega), show (2 : UInt64).toNat = 2 from rfl, show (9223372036854775808 : UInt64).toNat = 9223372036854775808 from rfl]
    congr 1
    rw [va, ← h, Nat.add_mul_mod_self_left]
    refine (Nat.mod_eq_of_lt ?_).symm
    exact v4_lt _ _ _ _ (Nat.mod_lt _ (by decide)) (Nat.mod_lt _ (by decide)) (Nat.mod_lt _ (by decide)) (Nat.mod_lt _ (by decide))
  have e2 : a3 / 9223372036854775808 = UInt64.ofNat ((2 * a + b) / M) := by
    refine u_eq ?_
    have h3 := ut a3
    rw [UInt64.toNat_div, show (9223372036854775808 : UInt64).toNat = 9223372036854775808 from rfl, dbl2_n (ut a0) (ut a1) (ut a2) (ut a3) hb, ← va, un]
    unfold M at *; omega
  refine (m74_eq _).trans ?_
  exact congrArg some (congr (congrArg Prod.mk e1) e2)
theorem carry_le (r b m : Nat) (hr : r < m) (hm : m < M) (hb : b ≤ 1) : (2 * r + b) / M ≤ 1 := by unfold M at *; omega
theorem cmp_ge {a b : Nat} : decide ((0 : Int) ≤ cmpN a b) = decide (b ≤ a) := by
  refine decide_eq_decide.2 ?_
  unfold cmpN
  split
  · rename_i h; subst h; simp
  · split
    · rename_i h1 h2; constructor
      · intro h; omega
      · intro h; omega
    · rename_i h1 h2; constructor
      · intro _; omega
      · intro _; decide
theorem rem_sub {r b m : Nat} (hr : r < m) (hm : m < M) (hb : b ≤ 1) : ((2 * r + b) / M = 1 ∨ m ≤ (2 * r + b) % M → ((2 * r + b) % M + M - m) % M = (2 * r + b) % m) ∧ (¬ ((2 * r + b) / M = 1 ∨ m ≤ (2 * r + b) % M) → (2 * r + b) % M = (2 * r + b) % m) := by
  rcases rem_step r b m hr hm hb with ⟨h1, h2, _⟩ | ⟨h1, h2, _⟩
  · exact ⟨fun _ => h2, fun h => absurd h1 h⟩
  · exact ⟨fun h => absurd h h1, fun _ => h2⟩
theorem inR_pred {i : Nat} (h : i < 4096) : inR .i64 ((i : Int) - 1) = true := by
  unfold inR; simp; omega
end Go.Proofs.Ytpfoeeiacfadfaa.Q
