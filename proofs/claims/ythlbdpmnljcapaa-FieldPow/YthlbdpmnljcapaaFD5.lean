/-
  What the document's powers and roots modulo the prime tell, in numbers.
-/
import Derived.Test.YthlbdpmnljcapaaFD4
namespace Go.Proofs.Ythlbdpmnljcapaa.Q
open Go.RowKit

theorem ofI_nat {n : Nat} (h : n < 18446744073709551616) : UInt64.toNat (ofI .u64 (n : Int)) = n := by
  show (UInt64.ofNat ((n : Int) % 18446744073709551616).toNat).toNat = n
  rw [show ((n : Int) % 18446744073709551616).toNat = n by omega, un _ h]
theorem nonneg_and (n : Nat) (z : Int) : (decide (0 ≤ (n : Int)) && inR .u64 z) = true := by
  show (decide (0 ≤ (n : Int)) && true) = true
  simp
theorem bit06_s {a j : Nat} (ha : a < M) (hj : j < 256) : m79 (wl a, (j : Int)) = some (UInt64.ofNat (a / 2 ^ j % 2)) := by
  refine (m79_eq _).trans ?_
  unfold b79
  have e2 : UInt64.toNat (ofI .u64 (Int.tmod (j : Int) 64)) = j % 64 := ofI_nat (n := j % 64) (by omega)
  have hp : 2 ^ (j % 64) ≤ 9223372036854775808 := Nat.pow_le_pow_right (n := 2) (by decide) (show j % 64 ≤ 63 by omega)
  have hp0 : 0 < 2 ^ (j % 64) := Nat.two_pow_pos _
  have t12 : shlK .u64 (1 : UInt64) ((UInt64.toNat (ofI .u64 (Int.tmod (j : Int) 64)) : Int)).toNat = UInt64.ofNat (2 ^ (j % 64)) := by
    rw [e2]
    show UInt64.ofNat ((1 : UInt64).toNat * 2 ^ min (j % 64) 64) = _
    rw [show min (j % 64) 64 = j % 64 by omega, show (1 : UInt64).toNat = 1 from rfl, Nat.one_mul]
  have nz : ¬ UInt64.ofNat (2 ^ (j % 64)) = (0 : UInt64) := fun h => by
    have := congrArg UInt64.toNat h
    rw [un _ (by omega), show (0 : UInt64).toNat = 0 from rfl] at this
    omega
  have key : ∀ t : UInt64, t = UInt64.ofNat (2 ^ (j % 64)) → List.getD (wl a) (j / 64) (0 : UInt64) / t % 2 = UInt64.ofNat (a / 2 ^ j % 2) := fun t ht => by
    subst ht
    refine u_eq ?_
    rw [UInt64.toNat_mod, UInt64.toNat_div, word_at _ (by omega), un _ (by omega), un _ (by omega), show (2 : UInt64).toNat = 2 from rfl, bit_word a j ha hj]
  refine Eq.trans (guard_if (show inR .i64 ((j / 64 : Nat) : Int) = true by unfold inR; simp; omega) _) ?_
  refine Eq.trans (guard_if (show inB ((j / 64 : Nat) : Int) 4 = true from inB_nat (by omega)) _) ?_
  refine Eq.trans (guard_if (nonneg_and _ _) _) ?_
  have hz : ∀ (t : UInt64) (z : Int), t = UInt64.ofNat (2 ^ (j % 64)) → (!(decide (t = (0 : UInt64))) && inR .u64 z) = true := fun t z ht => by
    subst ht
    show (!(decide _) && true) = true
    rw [decide_eq_false nz]; rfl
  refine Eq.trans (guard_if (hz _ _ t12) _) ?_
  exact congrArg some (key _ t12)
theorem dbl_n {x0 x1 x2 x3 b : Nat} (h0 : x0 < 18446744073709551616) (h1 : x1 < 18446744073709551616) (h2 : x2 < 18446744073709551616) (_h3 : x3 < 18446744073709551616) (hb : b ≤ 1) :
    (x0 * 2 % 18446744073709551616 + b) % 18446744073709551616 + 18446744073709551616 * ((x1 * 2 % 18446744073709551616 + x0 / 9223372036854775808) % 18446744073709551616 + 18446744073709551616 * ((x2 * 2 % 18446744073709551616 + x1 / 9223372036854775808) % 18446744073709551616 + 18446744073709551616 * ((x3 * 2 % 18446744073709551616 + x2 / 9223372036854775808) % 18446744073709551616))) + M * (x3 / 9223372036854775808) = 2 * (x0 + 18446744073709551616 * (x1 + 18446744073709551616 * (x2 + 18446744073709551616 * x3))) + b := by
  unfold M; omega
theorem dbl_s {a b : Nat} (ha : a < M) (hb : b ≤ 1) : ∃ c, m85 (wl a, UInt64.ofNat b) = some (wl ((2 * a + b) % M), c) := by
  obtain ⟨a0, a1, a2, a3, la⟩ := len4 (wl_len a)
  have va : a = a0.toNat + 18446744073709551616 * (a1.toNat + 18446744073709551616 * (a2.toNat + 18446744073709551616 * a3.toNat)) := by rw [← val4, ← la, val_wl ha]
  rw [la]
  refine ⟨_, (m85_eq _).trans (congrArg some (congrArg (fun l : List UInt64 => (l, _)) ?_))⟩
  have h := dbl_n (ut a0) (ut a1) (ut a2) (ut a3) hb
  show [a0 * 2 + UInt64.ofNat b, a1 * 2 + a0 / 9223372036854775808, a2 * 2 + a1 / 9223372036854775808, a3 * 2 + a2 / 9223372036854775808] = _
  rw [wl4]
  simp only [UInt64.toNat_add, UInt64.toNat_mul, UInt64.toNat_div, un b (by omega), show (2 : UInt64).toNat = 2 from rfl, show (9223372036854775808 : UInt64).toNat = 9223372036854775808 from rfl]
  congr 1
  rw [va, ← h, Nat.add_mul_mod_self_left]
  refine (Nat.mod_eq_of_lt ?_).symm
  exact v4_lt _ _ _ _ (Nat.mod_lt _ (by decide)) (Nat.mod_lt _ (by decide)) (Nat.mod_lt _ (by decide)) (Nat.mod_lt _ (by decide))
/-! Shr, by two. -/
theorem div_big {a : Nat} (ha : a < M) (k : Nat) (hk : 256 ≤ k) : a / 2 ^ k = 0 := by
  refine Nat.div_eq_of_lt (Nat.lt_of_lt_of_le ha ?_)
  rw [show M = 2 ^ 256 by decide]
  exact Nat.pow_le_pow_right (by decide) hk
theorem sh_bit {a j : Nat} (ha : a < M) (hj : j < 256) (z out : List UInt64) : l78_2 ((2 : Int), (j : Int), (0 : UInt64), decide ((2 : Int) ≤ 0), wl a, z, out) = some (.n ((2 : Int), (j : Int), UInt64.ofNat (a / 2 ^ (j + 2) % 2), wl a, z, out)) := by
  refine (l78_2_eq _).trans ?_
  unfold a78_2
  refine Eq.trans (cnd_f (by rfl) _ _) ?_
  refine Eq.trans (cnd_t (by rfl) _ _) ?_
  have hr : inR .i64 ((j : Int) + 2) = true := by unfold inR; simp; omega
  refine Eq.trans (guard_if hr _) ?_
  by_cases h : j + 2 < 256
  · refine Eq.trans (cnd_t (by simp; omega) _ _) ?_
    refine Eq.trans (guard_if hr _) ?_
    refine bnd_ex' (bit06_s (j := j + 2) ha h) ?_
    rfl
  · refine Eq.trans (cnd_f (by simp; omega) _ _) ?_
    have h0 : a / 2 ^ (j + 2) = 0 := by
      refine Nat.div_eq_of_lt (Nat.lt_of_lt_of_le ha ?_)
      rw [show M = 2 ^ 256 by decide]
      exact Nat.pow_le_pow_right (by decide) (by omega)
    rw [h0]; rfl
theorem sh_turn (f : Int × Int × List UInt64 × List UInt64 × List UInt64 → Option (O3 Unit (List UInt64 × List UInt64) Unit)) {a j : Nat} (ha : a < M) (hj : j < 256) (z : List UInt64) :
    k78_0 f ((2 : Int), (j : Int), wl a, z, wl (a / 2 ^ (j + 1 + 2))) = f ((2 : Int), (j : Int) - 1, wl a, z, wl (a / 2 ^ (j + 2))) := by
  unfold k78_0
  refine Eq.trans (cnd_t (by simp) _ _) ?_
  refine bnd_ex' (sh_bit ha hj z _) ?_
  have hlt : a / 2 ^ (j + 1 + 2) < M := Nat.lt_of_le_of_lt (Nat.div_le_self _ _) ha
  obtain ⟨c, hc⟩ := dbl_s hlt (show a / 2 ^ (j + 2) % 2 ≤ 1 by omega)
  refine bnd_ex' hc ?_
  refine Eq.trans (guard_if (show inR .i64 ((j : Int) - 1) = true by unfold inR; simp; omega) _) ?_
  have e : (2 * (a / 2 ^ (j + 1 + 2)) + a / 2 ^ (j + 2) % 2) % M = a / 2 ^ (j + 2) := by
    have h1 : a / 2 ^ (j + 1 + 2) = a / 2 ^ (j + 2) / 2 := by rw [show j + 1 + 2 = (j + 2) + 1 by omega, Nat.pow_succ, Nat.div_div_eq_div_mul]
    rw [h1, Nat.div_add_mod]
    exact Nat.mod_eq_of_lt (Nat.lt_of_le_of_lt (Nat.div_le_self _ _) ha)
  rw [e]
theorem sh_all {a : Nat} (ha : a < M) (z : List UInt64) : ∀ (j m : Nat), j ≤ 256 → itN k78_0 (m + 1 + j) ((2 : Int), (j : Int) - 1, wl a, z, wl (a / 2 ^ (j + 2))) = some (.x (z, wl (a / 4)))
  | 0, m, _ => by rw [show m + 1 + 0 = m + 1 from rfl, itN_succ]; rfl
  | j + 1, m, h => by
    rw [show m + 1 + (j + 1) = (m + 1 + j) + 1 from rfl, itN_succ, show (((j + 1 : Nat) : Int) - 1) = (j : Int) by omega, sh_turn _ ha (by omega)]
    exact sh_all ha z j m (by omega)
theorem rshr_s {a : Nat} (ha : a < M) : m78 (wl a, (2 : Int)) = some (wl (a / 4)) := by
  refine (m78_eq _).trans ?_
  unfold b78
  obtain ⟨m, hm⟩ := fuel_ge 257 (by decide)
  have h := sh_all ha (List.replicate 4 (0 : UInt64)) 256 m (by decide)
  have h0 := div_big ha (256 + 2) (by decide)
  rw [h0] at h
  have h1 : l78_0 ((2 : Int), (255 : Int), wl a, List.replicate 4 (0 : UInt64), wl 0) = some (.x (List.replicate 4 (0 : UInt64), wl (a / 4))) := by
    unfold l78_0; rw [hm]; exact h
  dsimp only
  rw [wl_zero, h1, bnd_s]
/-! Pow -/
theorem rpow_turn (f : Int × List UInt64 × List UInt64 × List UInt64 × List UInt64 → Option (O3 Unit (List UInt64 × List UInt64) Unit)) {a n : Nat} (ha : a < M) (hn : n < M) (j : Nat) (hj : j < 256) (z : List UInt64) :
    k48_0 f ((j : Int), wl a, wl n, z, wl (a ^ (n / 2 ^ (j + 1)) % Pm)) = f (((j : Int) - 1), wl a, wl n, z, wl (a ^ (n / 2 ^ j) % Pm)) := by
  unfold k48_0
  have hs : inR .i64 ((j : Int) - 1) = true := by unfold inR; simp; omega
  have hst := pow_step a n j
  refine Eq.trans (cnd_t (by simp) _ _) ?_
  refine bnd_ex' (rmul_s lt_M lt_M) ?_
  refine bnd_ex' (bit06_s hn hj) ?_
  by_cases hb : n / 2 ^ j % 2 = 1
  · refine Eq.trans (cnd_t ((one_c (show n / 2 ^ j % 2 ≤ 1 by omega)).trans (decide_eq_true hb)) _ _) ?_
    refine bnd_ex' (rmul_s lt_M ha) ?_
    refine Eq.trans (guard_if hs _) ?_
    rw [if_pos hb] at hst
    rw [← hst]
    have : ∀ x : Nat, x % Pm * a % Pm = x % Pm * (a % Pm) % Pm := fun x => by rw [Nat.mul_mod, Nat.mod_mod, Nat.mul_mod (x % Pm) (a % Pm), Nat.mod_mod, Nat.mod_mod]
    rw [this]
  · refine Eq.trans (cnd_f ((one_c (show n / 2 ^ j % 2 ≤ 1 by omega)).trans (decide_eq_false hb)) _ _) ?_
    refine Eq.trans (guard_if hs _) ?_
    rw [if_neg hb, Nat.mul_one, Nat.mod_mod] at hst
    rw [hst]
theorem rpow_all {a n : Nat} (ha : a < M) (hn : n < M) (z : List UInt64) : ∀ (j : Nat) (m : Nat), j ≤ 256 → itN k48_0 (m + 1 + j) (((j : Int) - 1), wl a, wl n, z, wl (a ^ (n / 2 ^ j) % Pm)) = some (.x (z, wl (a ^ n % Pm)))
  | 0, m, _ => by
    have fin : ∀ (f : Int × List UInt64 × List UInt64 × List UInt64 × List UInt64 → Option (O3 Unit (List UInt64 × List UInt64) Unit)) (a n z p : List UInt64), k48_0 f ((-1 : Int), a, n, z, p) = some (.x (z, p)) := fun f a n z p => rfl
    rw [show m + 1 + 0 = m + 1 from rfl, itN_succ, show (((0 : Nat) : Int) - 1) = -1 from rfl, fin, Nat.pow_zero, Nat.div_one]
  | j + 1, m, h => by
    rw [show m + 1 + (j + 1) = (m + 1 + j) + 1 from rfl, itN_succ, show ((((j + 1 : Nat)) : Int) - 1) = (j : Int) by omega, rpow_turn _ ha hn j (by omega)]
    exact rpow_all ha hn z j m (by omega)
theorem rpow_s {a n : Nat} (ha : a < M) (hn : n < M) : m48 (wl a, wl n) = some (wl (a ^ n % Pm)) := by
  refine (m48_eq _).trans ?_
  unfold b48
  obtain ⟨m, hm⟩ := fuel_ge 257 (by decide)
  have h := rpow_all ha hn (List.replicate 4 (0 : UInt64)) 256 m (by decide)
  have h0 : n / 2 ^ 256 = 0 := Nat.div_eq_of_lt (by rw [show (2 : Nat) ^ 256 = M by decide]; exact hn)
  rw [h0, Nat.pow_zero, show 1 % Pm = 1 by decide] at h
  have h1 : l48_0 ((255 : Int), wl a, wl n, List.replicate 4 (0 : UInt64), wl 1) = some (.x (List.replicate 4 (0 : UInt64), wl (a ^ n % Pm))) := by
    unfold l48_0; rw [hm]; exact h
  dsimp only
  rw [wl_small, show (1 : UInt64).toNat = 1 from rfl, h1, bnd_s]
theorem rroot_s {a : Nat} (ha : a < M) : m46 (wl a) = some (wl (rootN a).1, (rootN a).2) := by
  refine (m46_eq _).trans ?_
  unfold b46
  refine bnd_ex' rprime_s ?_
  have e1 : m73 (wl Pm, [(1 : UInt64), 0, 0, 0]) = some (wl (Pm + 1), UInt64.ofNat 0) := (congrArg (fun l : List UInt64 => m73 (wl Pm, l)) (wl_small (n := 1))).trans (more_s P_lt (by decide))
  refine bnd_ex' e1 ?_
  have h0 : ∀ z, l46_0 (wl a, z, wl (Pm + 1)) = some (.n (wl a, z, wl (a ^ ((Pm + 1) / 4) % Pm))) := fun z => by
    refine (l46_0_eq _).trans ?_
    unfold a46_0
    refine bnd_ex' (rshr_s (by decide)) ?_
    refine bnd_ex' (rpow_s ha (by decide)) ?_
    rfl
  refine bnd_ex' (h0 _) ?_
  rw [rootN_eq]
  generalize a ^ ((Pm + 1) / 4) = q
  refine bnd_ex' (rmul_s lt_M lt_M) ?_
  refine bnd_ex' (below_s ha) ?_
  by_cases h1 : q % Pm * (q % Pm) % Pm = a % Pm
  · refine Eq.trans (cnd_f (congrArg (fun b => !b) ((eq_wl lt_M lt_M).trans (decide_eq_true h1))) _ _) ?_
    rw [if_pos h1]
    by_cases h2 : q % Pm % 2 = 1
    · refine Eq.trans (cnd_t ((low_at lt_M).trans (decide_eq_true h2)) _ _) ?_
      refine bnd_ex' (rneg_s lt_M) ?_
      rw [if_pos h2, Nat.mod_mod]
    · refine Eq.trans (cnd_f ((low_at lt_M).trans (decide_eq_false h2)) _ _) ?_
      rw [if_neg h2]
  · refine Eq.trans (cnd_t (congrArg (fun b => !b) ((eq_wl lt_M lt_M).trans (decide_eq_false h1))) _ _) ?_
    rw [if_neg h1]
    exact congrArg (fun l : List UInt64 => some (l, false)) wl_zero
end Go.Proofs.Ythlbdpmnljcapaa.Q
