/-
  Inverses and roots modulo the prime, in numbers.
-/
import Derived.Test.YthlbdpmnljcapaaFQ
import Derived.Test.YthlbdpmnljcapaaFP2
namespace Go.Proofs.Ythlbdpmnljcapaa.Q
open Go.RowKit

theorem P_ge : 5 ≤ Pm := by decide
theorem not_dvd {a : Nat} (h : a % Pm ≠ 0) : ¬ Pm ∣ a := fun hd => h (Nat.mod_eq_zero_of_dvd hd)
theorem fer {a : Nat} (h : a % Pm ≠ 0) : a ^ (Pm - 1) % Pm = 1 := prP.fermat1 (not_dvd h)
theorem inv_one {a : Nat} (h : a % Pm ≠ 0) : a * (a ^ (Pm - 2) % Pm) % Pm = 1 := by
  rw [Nat.mul_mod_mod, Nat.mul_comm, ← Nat.pow_succ, show (Pm - 2).succ = Pm - 1 by have := P_ge; omega, fer h]
theorem inv_zero {a : Nat} (h : a % Pm = 0) : a ^ (Pm - 2) % Pm = 0 := by
  rw [Nat.pow_mod, h, Nat.zero_pow (by have := P_ge; omega), Nat.zero_mod]
theorem inv_inv {a : Nat} (h : a % Pm ≠ 0) : (a ^ (Pm - 2) % Pm) ^ (Pm - 2) % Pm = a % Pm := by
  rw [← Nat.pow_mod, ← Nat.pow_mul]
  have e : (Pm - 2) * (Pm - 2) = (Pm - 1) * (Pm - 3) + 1 := by
    obtain ⟨k, hk⟩ : ∃ k, Pm = k + 3 := ⟨Pm - 3, by have := P_ge; omega⟩
    rw [hk, show k + 3 - 2 = k + 1 by omega, show k + 3 - 1 = k + 2 by omega, show k + 3 - 3 = k by omega, Nat.add_mul, Nat.mul_add, Nat.add_mul]
    omega
  rw [e, Nat.pow_succ, Nat.pow_mul, Nat.mul_mod, Nat.pow_mod, fer h, Nat.one_pow, Nat.mod_eq_of_lt (show 1 < Pm by decide), Nat.one_mul, Nat.mod_mod]
theorem inverse_s {a : Nat} (ha : a < M) : m14 (wl a) = some true := by
  rw [m14_eq]; unfold b14
  simp only [wl_zero]
  rw [inv_s ha, bnd_s, reduce_s ha, bnd_s, eq_wl lt_M M_pos]
  by_cases h : a % Pm = 0
  · rw [cnd_t (decide_eq_true h), alive_s, bnd_s, cnd_t rfl, eq_wl lt_M M_pos, inv_zero h]
    rfl
  · rw [cnd_f (decide_eq_false h), alive_s, bnd_s, cnd_t rfl, mul_s ha lt_M, bnd_s, wl_small, show (1 : UInt64).toNat = 1 from rfl, eq_wl lt_M (by decide), inv_one h, cnd_t (by simp), inv_s lt_M, bnd_s, bnd_s, eq_wl lt_M lt_M, inv_inv h]
    simp
/-! Roots. -/
theorem half_P : 2 * ((Pm - 1) / 2) = Pm - 1 := by decide
theorem quarter_P : (Pm + 1) / 4 + (Pm + 1) / 4 = (Pm - 1) / 2 + 1 := by decide
theorem odd_half : ∃ n, (Pm - 1) / 2 = 2 * n + 1 := ⟨(Pm - 3) / 4, by decide⟩
theorem sq_root (a : Nat) : a ^ ((Pm + 1) / 4) % Pm * (a ^ ((Pm + 1) / 4) % Pm) % Pm = a ^ ((Pm - 1) / 2) * a % Pm := by
  rw [← Nat.mul_mod, ← Nat.pow_add, quarter_P, Nat.pow_succ]
theorem dvd_sub_of {x y : Nat} (h : x % Pm = y % Pm) (hle : y ≤ x) : Pm ∣ x - y := dvd_of_mod_eq hle h
theorem sq_diff (x y : Nat) (h : y ≤ x) : x * x - y * y = (x - y) * (x + y) := by
  obtain ⟨d, rfl⟩ : ∃ d, x = y + d := ⟨x - y, by omega⟩
  rw [Nat.add_sub_cancel_left, Nat.add_mul, Nat.mul_add, Nat.mul_add, Nat.mul_add, Nat.mul_add, Nat.mul_comm d y]
  omega
/-- Two roots of one number. -/
theorem two_roots {x y : Nat} (hx : x < Pm) (hy : y < Pm) (h : x * x % Pm = y * y % Pm) : x = y ∨ x + y = Pm ∨ (x = 0 ∧ y = 0) := by
  have key : ∀ u v : Nat, u < Pm → v < Pm → v ≤ u → u * u % Pm = v * v % Pm → u = v ∨ u + v = Pm ∨ (u = 0 ∧ v = 0) := fun u v hu hv hle h => by
    have hd := dvd_sub_of h (Nat.mul_le_mul hle hle)
    rw [sq_diff u v hle] at hd
    rcases prP.dvd hd with h1 | h1
    · by_cases h0 : u - v = 0
      · exact .inl (by omega)
      · have := Nat.le_of_dvd (by omega) h1; omega
    · by_cases h0 : u + v = 0
      · exact .inr (.inr (by omega))
      · obtain ⟨c, hc⟩ := h1
        have h2 : c < 2 := Nat.lt_of_not_le fun h9 => by have := Nat.mul_le_mul_left Pm h9; omega
        have h3 : c ≠ 0 := fun e => by rw [e] at hc; omega
        have h4 : c = 1 := by omega
        rw [h4] at hc
        exact .inr (.inl (by omega))
  rcases Nat.le_total y x with hle | hle
  · exact key x y hx hy hle h
  · rcases key y x hy hx hle h.symm with h1 | h1 | h1
    · exact .inl h1.symm
    · exact .inr (.inl (by omega))
    · exact .inr (.inr ⟨h1.2, h1.1⟩)
theorem neg_sq {x : Nat} (hx : x ≤ Pm) : (Pm - x) * (Pm - x) % Pm = x * x % Pm := by
  obtain ⟨d, hd⟩ : ∃ d, Pm = x + d := ⟨Pm - x, by omega⟩
  have e : Pm - x = d := by omega
  rw [e]
  have h1 : d * d + Pm * x = x * x + Pm * d := by
    rw [hd, Nat.add_mul, Nat.add_mul, Nat.mul_comm d x]; omega
  have h2 := congrArg (· % Pm) h1
  simpa using h2
/-- What is told has what is asked. -/
theorem root_has {a : Nat} (h : (rootN a).2 = true) : (rootN a).1 * (rootN a).1 % Pm = a % Pm ∧ (rootN a).1 % 2 = 0 ∧ (rootN a).1 < Pm := by
  rw [rootN_eq] at h ⊢
  have hq := lt_P (a := a ^ ((Pm + 1) / 4))
  generalize a ^ ((Pm + 1) / 4) % Pm = q at *
  by_cases h1 : q * q % Pm = a % Pm
  · rw [if_pos h1]
    simp only
    by_cases h2 : q % 2 = 1
    · rw [if_pos h2]
      have h3 : (Pm - q) % Pm = Pm - q := Nat.mod_eq_of_lt (by have := P_ge; omega)
      rw [h3, neg_sq (Nat.le_of_lt hq)]
      refine ⟨h1, ?_, by have := P_ge; omega⟩
      have : Pm % 2 = 1 := by decide
      omega
    · rw [if_neg h2]
      exact ⟨h1, by omega, hq⟩
  · rw [if_neg h1] at h; cases h
theorem one_lt : 1 < Pm := by decide
theorem is_root (a : Nat) : (rootN a).2 = decide (a ^ ((Pm - 1) / 2) * a % Pm = a % Pm) := by
  rw [rootN_eq]
  rw [sq_root]
  by_cases h : a ^ ((Pm - 1) / 2) * a % Pm = a % Pm
  · rw [if_pos h, decide_eq_true h]
  · rw [if_neg h, decide_eq_false h]
theorem sq_is {a : Nat} : (rootN (a * a % Pm)).2 = true := by
  rw [is_root]
  refine decide_eq_true ?_
  rw [Nat.mul_mod, ← Nat.pow_mod, ← Nat.mul_mod, Nat.mod_mod]
  by_cases h : a % Pm = 0
  · have h0 : a * a % Pm = 0 := by rw [Nat.mul_mod, h, Nat.zero_mul, Nat.zero_mod]
    rw [Nat.mul_mod, h0, Nat.zero_mod, Nat.mul_zero, Nat.zero_mod]
  · rw [← Nat.pow_two, ← Nat.pow_mul, half_P, Nat.mul_mod, fer h, Nat.one_mul, Nat.mod_mod, Nat.mod_mod]
theorem euler {a : Nat} (h : a % Pm ≠ 0) : a ^ ((Pm - 1) / 2) % Pm = 1 ∨ a ^ ((Pm - 1) / 2) % Pm = Pm - 1 := by
  have h1 : a ^ ((Pm - 1) / 2) % Pm * (a ^ ((Pm - 1) / 2) % Pm) % Pm = 1 * 1 % Pm := by
    rw [← Nat.mul_mod, ← Nat.pow_add, show (Pm - 1) / 2 + (Pm - 1) / 2 = Pm - 1 by have := half_P; omega, fer h]; rfl
  rcases two_roots lt_P one_lt h1 with h2 | h2 | h2
  · exact .inl h2
  · exact .inr (by omega)
  · exact absurd h2.2 (by decide)
theorem is_root1 {a : Nat} (h : a % Pm ≠ 0) : (rootN a).2 = decide (a ^ ((Pm - 1) / 2) % Pm = 1) := by
  rw [is_root]
  refine decide_eq_decide.2 ⟨fun h1 => ?_, fun h1 => by rw [Nat.mul_mod, h1, Nat.one_mul, Nat.mod_mod]⟩
  rcases euler h with h2 | h2
  · exact h2
  · rw [Nat.mul_mod, h2] at h1
    have h3 := lt_P (a := a)
    have h4 : (Pm - 1) * (a % Pm) % Pm = Pm - a % Pm := by
      have e : (Pm - 1) * (a % Pm) = (Pm - a % Pm) + Pm * (a % Pm - 1) := by
        obtain ⟨k, hk⟩ : ∃ k, a % Pm = k + 1 := ⟨a % Pm - 1, by omega⟩
        rw [hk] at h3 ⊢
        rw [Nat.add_sub_cancel, Nat.sub_mul, Nat.mul_add, Nat.mul_one, Nat.one_mul]
        omega
      rw [e, Nat.add_mul_mod_self_left, Nat.mod_eq_of_lt (by omega)]
    rw [h4] at h1
    have h5 : Pm % 2 = 1 := by decide
    omega
/-- Of a number and its negative one alone has a root. -/
theorem one_of {a : Nat} (h : a % Pm ≠ 0) : (rootN ((Pm - a % Pm) % Pm)).2 = !(rootN a).2 := by
  have h3 := lt_P (a := a)
  have e : (Pm - a % Pm) % Pm = Pm - a % Pm := Nat.mod_eq_of_lt (by omega)
  have hb : (Pm - a % Pm) % Pm ≠ 0 := by rw [e]; omega
  rw [e]
  rw [is_root1 hb, is_root1 h]
  obtain ⟨n, hn⟩ := odd_half
  have h5 : ((Pm - a % Pm) ^ ((Pm - 1) / 2) + a ^ ((Pm - 1) / 2)) % Pm = 0 := by
    rw [hn, Nat.add_mod, Nat.pow_mod a]
    generalize a % Pm = x at *
    rw [Nat.pow_mod x, Nat.mod_eq_of_lt h3]
    rw [← Nat.add_mod, Nat.pow_succ, Nat.pow_succ, Nat.pow_mul, Nat.pow_mul, Nat.pow_two, Nat.pow_two]
    have e2 : ∀ y, ((Pm - x) * (Pm - x)) ^ n * y % Pm = (x * x) ^ n * y % Pm := fun y => by
      rw [Nat.mul_mod, Nat.pow_mod, neg_sq (Nat.le_of_lt h3), ← Nat.pow_mod, ← Nat.mul_mod]
    rw [Nat.add_mod, e2, ← Nat.add_mod, ← Nat.mul_add, show Pm - x + x = Pm by omega]
    exact Nat.mul_mod_left _ _
  rw [Nat.add_mod] at h5
  have p1 := P_ge
  rcases euler h with h6 | h6 <;> rcases euler hb with h7 | h7 <;> rw [h6, h7] at h5 ⊢
  · exfalso; rw [Nat.mod_eq_of_lt (by omega)] at h5; omega
  · rw [decide_eq_false (show ¬ Pm - 1 = 1 by omega)]; rfl
  · rw [decide_eq_false (show ¬ Pm - 1 = 1 by omega)]; rfl
  · exfalso
    have h8 : (Pm - 1 + (Pm - 1)) % Pm = Pm - 2 := by
      rw [show Pm - 1 + (Pm - 1) = (Pm - 2) + Pm by omega, Nat.add_mod_right, Nat.mod_eq_of_lt (by omega)]
    omega
theorem zero_is {a : Nat} (h : a % Pm = 0) : (rootN a).2 = true ∧ (rootN ((Pm - a % Pm) % Pm)).2 = true := by
  have key : ∀ b, b % Pm = 0 → (rootN b).2 = true := fun b hb => by
    rw [is_root]
    refine decide_eq_true ?_
    rw [Nat.mul_mod, hb, Nat.mul_zero, Nat.zero_mod]
  refine ⟨key a h, key _ ?_⟩
  rw [h, Nat.sub_zero, Nat.mod_self, Nat.zero_mod]
theorem even_at {r : Nat} (_hr : r < M) : decide ((List.getD (wl r) 0 (0 : UInt64)) % (2 : UInt64) = (0 : UInt64)) = decide (r % 2 = 0) := by
  have e : (List.getD (wl r) 0 (0 : UInt64)) % (2 : UInt64) = UInt64.ofNat (r % 2) := by
    refine u_eq ?_
    rw [UInt64.toNat_mod, word_at 0 (by decide), un _ (by omega)]
    have : gw (w4 r) 0 = r % 18446744073709551616 := by rw [w4_eq]; rfl
    rw [this]
    show r % 18446744073709551616 % 2 = r % 2
    omega
  rw [e]
  refine decide_eq_decide.2 ⟨fun h => ?_, fun h => by rw [h]; rfl⟩
  have := congrArg UInt64.toNat h
  rwa [un _ (by omega)] at this
theorem cmp_s {a b : Nat} (ha : a < M) (hb : b < M) : fCmp (wl a, wl b) = some (cmpN a b) := by rw [fCmp_eq]; simp only [val_wl ha, val_wl hb]
theorem root_sq {a : Nat} : (rootN (a * a % Pm)).1 = a % Pm ∨ (rootN (a * a % Pm)).1 = (Pm - a % Pm) % Pm := by
  obtain ⟨h1, _, h3⟩ := root_has (a := a * a % Pm) sq_is
  have h4 : (rootN (a * a % Pm)).1 * (rootN (a * a % Pm)).1 % Pm = a % Pm * (a % Pm) % Pm := by rw [h1, Nat.mod_mod, ← Nat.mul_mod]
  have h5 := lt_P (a := a)
  rcases two_roots h3 h5 h4 with h | h | h
  · exact .inl h
  · by_cases h0 : a % Pm = 0
    · exfalso; omega
    · right
      have e : (Pm - a % Pm) % Pm = Pm - a % Pm := Nat.mod_eq_of_lt (by omega)
      rw [e]; omega
  · exact .inl (by omega)
theorem rootN_lt (a : Nat) : (rootN a).1 < M := by
  by_cases h : (rootN a).2 = true
  · exact Nat.lt_trans (root_has h).2.2 P_lt
  · rw [rootN_eq] at h ⊢
    split
    · rename_i h1; rw [if_pos h1] at h; exact absurd rfl h
    · exact M_pos
theorem root_y {b : Nat} (hb : b < M) : ∃ y : List UInt64 × Bool, m45 (wl b) = some y ∧ y.1 = wl (rootN b).1 ∧ y.2 = (rootN b).2 := ⟨_, root_s hb, rfl, rfl⟩
end Go.Proofs.Ythlbdpmnljcapaa.Q
