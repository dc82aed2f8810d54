/-
  What package scalar's functions tell, in numbers.
-/
import Derived.Test.YtpfoeeiacfadfaaFWD
import Derived.Test.YtpfoeeiacfadfaaFE
import Derived.Test.YtpfoeeiacfadfaaFN
namespace Go.Proofs.Ytpfoeeiacfadfaa.Q
open Go.RowKit

theorem N_lt : Nm < M := by decide
theorem N_pos : 0 < Nm := by decide
theorem N_odd : Nm % 2 = 1 := by decide
theorem N_one : 1 < Nm := by decide
theorem lt_N {a : Nat} : a % Nm < Nm := Nat.mod_lt _ N_pos
theorem lt_NM {a : Nat} : a % Nm < M := Nat.lt_trans lt_N N_lt
theorem order_s : m15 () = some (wl Nm) := by
  refine (m15_eq _).trans ?_
  unfold b15
  exact congrArg some (wl_words rfl (by decide))
theorem sred_n {a : Nat} (h : a < M) (h2 : ¬ a < Nm) : (a + M - Nm) % M = a % Nm := by unfold Nm M at *; omega
theorem sreduce_s {a : Nat} (ha : a < M) : m17 (wl a) = some (wl (a % Nm)) := by
  refine (m17_eq _).trans ?_
  unfold b17
  have h0 : ∀ z, l17_0 (wl a, z) = some (.n (UInt64.ofNat (if a < Nm then 1 else 0), wl a, z, wl ((a + M - Nm) % M))) := fun z => by
    refine (l17_0_eq _).trans ?_
    unfold a17_0
    refine bnd_ex' order_s ?_
    refine bnd_ex' (fSub_s ha N_lt) ?_
    rfl
  refine bnd_ex' (h0 _) ?_
  by_cases h : a < Nm
  · refine Eq.trans (cnd_t ((one_u _).trans (decide_eq_true h)) _ _) ?_
    rw [Nat.mod_eq_of_lt h]
  · refine Eq.trans (cnd_f ((one_u _).trans (decide_eq_false h)) _ _) ?_
    rw [sred_n ha h]
theorem sleft_s {lo hi : Nat} (hl : lo < M) (hh : hi < M) : m48 (wl lo, wl hi) = some (wl ((hi * M + lo) % Nm)) := by
  refine (m48_eq _).trans ?_
  unfold b48
  have h0 : ∀ z, l48_0 (wl lo, wl hi, z) = some (.n (z, wl ((hi * M + lo) % Nm))) := fun z => by
    refine (l48_0_eq _).trans ?_
    unfold a48_0
    refine bnd_ex' order_s ?_
    refine bnd_ex' (rem_s (by decide) N_lt hh hl) ?_
    rfl
  refine bnd_ex' (h0 _) ?_
  rfl
theorem sadd_s {a b : Nat} (ha : a < M) (hb : b < M) : m19 (wl a, wl b) = some (wl ((a + b) % Nm)) := by
  refine (m19_eq _).trans ?_
  unfold b19
  have hc : (a + b) / M < 18446744073709551616 := by unfold M at *; omega
  refine bnd_ex' (fAdd_s ha hb) ?_
  have kf : fFrom (UInt64.ofNat ((a + b) / M)) = some (wl ((a + b) / M)) := by rw [fFrom_s, un _ hc]
  refine bnd_ex' kf ?_
  refine bnd_ex' (sleft_s (Nat.mod_lt _ M_pos) (Nat.lt_trans hc (by decide))) ?_
  rw [Nat.mul_comm, Nat.div_add_mod]
theorem smul_s {a b : Nat} (ha : a < M) (hb : b < M) : m23 (wl a, wl b) = some (wl ((a * b) % Nm)) := by
  refine (m23_eq _).trans ?_
  unfold b23
  have h1 : a * b / M < M := Nat.div_lt_of_lt_mul (Nat.mul_lt_mul_of_lt_of_lt ha hb)
  refine bnd_ex' (fMul_s ha hb) ?_
  refine bnd_ex' (sleft_s (Nat.mod_lt _ M_pos) h1) ?_
  rw [Nat.mul_comm (a * b / M) M, Nat.div_add_mod]
theorem sneg_s {a : Nat} (ha : a < M) : m21 (wl a) = some (wl ((Nm - a % Nm) % Nm)) := by
  refine (m21_eq _).trans ?_
  unfold b21
  have h := lt_N (a := a)
  have e : (Nm + M - a % Nm) % M = Nm - a % Nm := by
    rw [show Nm + M - a % Nm = (Nm - a % Nm) + M by omega, Nat.add_mod_right, Nat.mod_eq_of_lt (Nat.lt_of_le_of_lt (Nat.sub_le _ _) N_lt)]
  have h0 : ∀ z, l21_0 (wl a, z) = some (.n (z, wl (Nm - a % Nm))) := fun z => by
    refine (l21_0_eq _).trans ?_
    unfold a21_0
    refine bnd_ex' order_s ?_
    refine bnd_ex' (sreduce_s ha) ?_
    refine bnd_ex' (fSub_s N_lt lt_NM) ?_
    rw [e]
  refine bnd_ex' (h0 _) ?_
  refine bnd_ex' (sreduce_s (Nat.lt_of_le_of_lt (Nat.sub_le _ _) N_lt)) ?_
  rfl
/-! Inv: divisor after divisor. -/
theorem neg_back (p x t : Nat) (hp : 0 < p) : ((x + (p - t % p % p) % p) % p + t) % p = x % p := by
  have h1 := Nat.mod_lt t hp
  rw [Nat.mod_mod]
  rw [Nat.mod_add_mod, Nat.add_right_comm, Nat.add_mod_mod]
  exact add_back p x t hp
def nx (x q y : Nat) : Nat := (x + (Nm - q * y % Nm % Nm) % Nm) % Nm
theorem nx_lt (x q y : Nat) : nx x q y < Nm := lt_N
theorem nx_mul {x y u v a : Nat} (h1 : x * a % Nm = u % Nm) (h2 : y * a % Nm = v % Nm) (q : Nat) (hle : q * v ≤ u) : nx x q y * a % Nm = (u - q * v) % Nm := by
  refine sub_modp (B := q * y * a) (C := x * a) N_pos ?_ h1 ?_ hle
  · rw [← Nat.add_mul]
    unfold nx
    rw [Nat.mul_mod, neg_back Nm x (q * y) N_pos, ← Nat.mul_mod]
  · rw [Nat.mul_assoc, Nat.mul_mod, h2, ← Nat.mul_mod]
theorem sinv_turn (f : List UInt64 × List UInt64 × List UInt64 × List UInt64 × List UInt64 → Option (O3 Unit (List UInt64 × List UInt64) Unit)) {u v x y : Nat} (hu : u < M) (hv : v < M) (h0 : v ≠ 0) (hx : x < M) (hy : y < M) (z : List UInt64) :
    k25_1 f (z, wl u, wl v, wl x, wl y) = f (z, wl v, wl (u % v), wl y, wl (nx x (u / v) y)) := by
  unfold k25_1
  refine Eq.trans (cnd_t (inv_eqz hv h0) _ _) ?_
  refine bnd_ex' (div_s h0 hv hu) ?_
  have h3 : l25_3 (z, wl u, wl v, wl x, wl y, wl (u / v), wl (u % v)) = some (.n (z, wl v, wl (u % v), wl x, wl y, wl (u / v))) := (l25_3_eq _).trans rfl
  refine bnd_ex' h3 ?_
  have hq : u / v < M := Nat.lt_of_le_of_lt (Nat.div_le_self _ _) hu
  have h4 : l25_4 (z, wl v, wl (u % v), wl x, wl y, wl (u / v)) = some (.n (z, wl v, wl (u % v), wl y, wl (nx x (u / v) y))) := by
    refine (l25_4_eq _).trans ?_
    unfold a25_4
    refine bnd_ex' (smul_s hq hy) ?_
    refine bnd_ex' (sneg_s lt_NM) ?_
    refine bnd_ex' (sadd_s hx lt_NM) ?_
    rfl
  exact bnd_ex' h4 rfl
theorem sinv_end (f : List UInt64 × List UInt64 × List UInt64 × List UInt64 × List UInt64 → Option (O3 Unit (List UInt64 × List UInt64) Unit)) (z u x y : List UInt64) :
    k25_1 f (z, u, wl 0, x, y) = some (.x (z, x)) := by
  unfold k25_1
  have e : eqD (.arr 4 (.int .u64)) (wl 0) ([(0 : UInt64), 0, 0, 0] : List UInt64) = true := (congrArg (fun l : List UInt64 => eqD (.arr 4 (.int .u64)) (wl 0) l) wl_zero).trans ((eq_wl M_pos M_pos).trans (by simp))
  exact Eq.trans (cnd_f (congrArg (fun b => !b) e) _ _) rfl
theorem half_prod {u v e : Nat} (hv : 0 < v) (hlt : v < u) (h : u * v < 2 ^ (e + 1)) : v * (u % v) < 2 ^ e := by
  have h1 := Nat.mod_lt u hv
  have h2 := Nat.div_add_mod u v
  have h3 : 1 ≤ u / v := (Nat.one_le_div_iff hv).2 (Nat.le_of_lt hlt)
  have h4 : v ≤ v * (u / v) := Nat.le_mul_of_pos_right v h3
  have h5 : v * (2 * (u % v)) ≤ v * u := Nat.mul_le_mul_left v (by omega)
  rw [Nat.pow_succ] at h
  rw [Nat.mul_comm u v] at h
  have h6 : v * (2 * (u % v)) = 2 * (v * (u % v)) := by rw [Nat.mul_left_comm]
  omega
theorem cop_mod {u v : Nat} (h : Nat.Coprime u v) : Nat.Coprime v (u % v) := by
  unfold Nat.Coprime at *
  rw [Nat.gcd_comm, ← Nat.gcd_rec, Nat.gcd_comm]; exact h
theorem mod_is {u v : Nat} : u % v = u - u / v * v := by
  have := Nat.div_add_mod u v
  rw [Nat.mul_comm] at this
  omega
theorem sinv_all {a : Nat} (z : List UInt64) : ∀ (e m u v x y : Nat), v < u → u ≤ Nm → x < Nm → y < Nm → x * a % Nm = u % Nm → y * a % Nm = v % Nm → Nat.Coprime u v → u * v < 2 ^ e →
    ∃ r, r < Nm ∧ r * a % Nm = 1 ∧ itN k25_1 (m + 1 + e) (z, wl u, wl v, wl x, wl y) = some (.x (z, wl r)) := by
  have fin : ∀ (k u x y : Nat), u ≤ Nm → x < Nm → x * a % Nm = u % Nm → Nat.Coprime u 0 → ∃ r, r < Nm ∧ r * a % Nm = 1 ∧ itN k25_1 (k + 1) (z, wl u, wl 0, wl x, wl y) = some (.x (z, wl r)) := fun k u x y hu hx hxa hc => by
    unfold Nat.Coprime at hc
    rw [Nat.gcd_zero_right] at hc
    subst hc
    exact ⟨x, hx, by rw [hxa]; decide, by rw [itN_succ]; exact sinv_end _ z _ _ _⟩
  intro e
  induction e with
  | zero =>
    intro m u v x y hvu hu hx hy hxa hya hc he
    have h0 : v = 0 := by
      refine Classical.byContradiction fun h0 => ?_
      have := Nat.mul_pos (show 0 < u by omega) (Nat.pos_of_ne_zero h0)
      rw [Nat.pow_zero] at he; omega
    subst h0
    exact fin m u x y hu hx hxa hc
  | succ e ih =>
    intro m u v x y hvu hu hx hy hxa hya hc he
    by_cases h0 : v = 0
    · subst h0
      exact fin (m + 1 + e) u x y hu hx hxa hc
    · have hN := N_lt
      rw [show m + 1 + (e + 1) = (m + 1 + e) + 1 from rfl, itN_succ, sinv_turn _ (by omega) (by omega) h0 (by omega) (by omega)]
      have hv0 := Nat.pos_of_ne_zero h0
      have hle : u / v * v ≤ u := Nat.div_mul_le_self u v
      have hm := nx_mul hxa hya (u / v) hle
      rw [← mod_is] at hm
      exact ih m v (u % v) y (nx x (u / v) y) (Nat.mod_lt _ hv0) (by omega) hy (nx_lt _ _ _) hya hm (cop_mod hc) (half_prod hv0 hvu he)
theorem N_not_dvd {a : Nat} (h : a % Nm ≠ 0) : ¬ Nm ∣ a := fun hd => h (Nat.mod_eq_zero_of_dvd hd)
theorem N_inv_one {a : Nat} (h : a % Nm ≠ 0) : (a ^ (Nm - 2) % Nm) * a % Nm = 1 := by
  rw [Nat.mod_mul_mod, ← Nat.pow_succ, show (Nm - 2).succ = Nm - 1 by have := N_one; omega, prN.fermat1 (N_not_dvd h)]
theorem N_inv_zero {a : Nat} (h : a % Nm = 0) : a ^ (Nm - 2) % Nm = 0 := by
  rw [Nat.pow_mod, h, Nat.zero_pow (by decide), Nat.zero_mod]
theorem N_uniq {a r : Nat} (hr : r < Nm) (h : r * (a % Nm) % Nm = 1) (ha : a % Nm ≠ 0) : r = a ^ (Nm - 2) % Nm :=
  inv_uniq' hr lt_N (by rw [← Nat.mul_mod_mod]; exact h) (N_inv_one ha)
theorem N_sq (n : Nat) (h : Nm < 2 ^ n) : Nm * Nm < 2 ^ (n + n) := by
  rw [Nat.pow_add]
  exact Nat.mul_lt_mul_of_lt_of_lt h h
theorem sinv_s {a : Nat} (ha : a < M) : m25 (wl a) = some (wl (a ^ (Nm - 2) % Nm)) := by
  refine (m25_eq _).trans ?_
  unfold b25
  have h0 : ∀ z, l25_0 (wl a, z) = some (.n (z, wl Nm, wl (a % Nm))) := fun z => by
    refine (l25_0_eq _).trans ?_
    unfold a25_0
    refine bnd_ex' order_s ?_
    refine bnd_ex' (sreduce_s ha) ?_
    rfl
  refine bnd_ex' (h0 _) ?_
  refine bnd_ex' (fFrom_s _) ?_
  refine bnd_ex' (fFrom_s _) ?_
  have h1 : ∀ z, l25_1 (z, wl Nm, wl (a % Nm), wl 0, wl 1) = some (.x (z, wl (a ^ (Nm - 2) % Nm))) := fun z => by
    unfold l25_1
    obtain ⟨m, hm⟩ := fuel_ge 513 (by decide)
    rw [hm]
    by_cases hz : a % Nm = 0
    · rw [hz, N_inv_zero hz, show m + 513 = (m + 512) + 1 from rfl, itN_succ]
      exact sinv_end _ z _ _ _
    · have hl := lt_N (a := a)
      obtain ⟨r, r1, r2, r3⟩ := sinv_all (a := a % Nm) z (256 + 256) m Nm (a % Nm) 0 1 hl (Nat.le_refl _) N_pos N_one (by rw [Nat.zero_mul, Nat.zero_mod, Nat.mod_self]) (by rw [Nat.one_mul]) (prN.cop (fun hd => N_not_dvd hz ((Nat.dvd_mod_iff (Nat.dvd_refl Nm)).1 hd))) (Nat.lt_of_le_of_lt (Nat.mul_le_mul_left _ (Nat.le_of_lt hl)) (N_sq 256 (by decide)))
      rw [← N_uniq r1 r2 hz, show m + 513 = m + 1 + (256 + 256) by omega]
      exact r3
  refine bnd_ex' (h1 _) ?_
  rfl
end Go.Proofs.Ytpfoeeiacfadfaa.Q
