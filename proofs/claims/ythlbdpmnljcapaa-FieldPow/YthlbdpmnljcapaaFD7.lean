/-
  What the document's inverse modulo the prime tells, in numbers; FieldPow.
-/
import Derived.Test.YthlbdpmnljcapaaFD6
namespace Go.Proofs.Ythlbdpmnljcapaa.Q
open Go.RowKit

/-! what holds between the turns -/
theorem half_one (A : Nat) : (Pm + 1) / 2 * (2 * A % Pm) % Pm = A % Pm := by
  rw [Nat.mul_mod_mod, ← Nat.mul_assoc, show (Pm + 1) / 2 * 2 = Pm + 1 by decide, Nat.add_mul, Nat.one_mul, Nat.mul_add_mod]
theorem cancel2 {A B : Nat} (h : 2 * A % Pm = 2 * B % Pm) : A % Pm = B % Pm := by
  rw [← half_one A, h, half_one]
theorem add_back (p X B : Nat) (hp : 0 < p) : (X + B + (p - B % p)) % p = X % p := by
  have h1 := Nat.div_add_mod B p
  have h2 := Nat.mod_lt B hp
  have e : X + B + (p - B % p) = X + p * (B / p + 1) := by
    rw [Nat.mul_add, Nat.mul_one]; omega
  rw [e, Nat.add_mul_mod_self_left]
theorem sub_mod {A B C u v : Nat} (h1 : (A + B) % Pm = C % Pm) (h2 : C % Pm = u % Pm) (h3 : B % Pm = v % Pm) (hle : v ≤ u) : A % Pm = (u - v) % Pm := by
  have h4 : (A + B) % Pm = ((u - v) + B) % Pm := by
    rw [h1, h2, Nat.add_mod (u - v) B, h3, ← Nat.add_mod, Nat.sub_add_cancel hle]
  have h5 := add_back Pm A B P_pos
  have h6 := add_back Pm (u - v) B P_pos
  rw [Nat.add_mod, h4, ← Nat.add_mod, h6] at h5
  exact h5.symm
theorem hn_lt {x : Nat} (hx : x < Pm) : hn x < Pm := by unfold hn; split <;> omega
theorem hn_mul {x u a : Nat} (h : x * a % Pm = u % Pm) (hu : u % 2 = 0) : hn x * a % Pm = u / 2 % Pm := by
  refine cancel2 ?_
  rw [show 2 * (u / 2) = u by omega, ← h, ← Nat.mul_assoc]
  have hP : Pm % 2 = 1 := by decide
  unfold hn
  split
  · rw [show 2 * ((x + Pm) / 2) = x + Pm by omega, Nat.add_mul, Nat.add_mul_mod_self_left]
  · rw [show 2 * (x / 2) = x by omega]
theorem sm_mul {x y u v a : Nat} (hy : y < Pm) (h1 : x * a % Pm = u % Pm) (h2 : y * a % Pm = v % Pm) (hle : v ≤ u) : sm x y * a % Pm = (u - v) % Pm := by
  refine sub_mod (B := y * a) (C := x * a) ?_ h1 h2 hle
  rw [← Nat.add_mul]
  unfold sm
  split
  · rw [show x + Pm - y + y = x + Pm by omega, Nat.add_mul, Nat.add_mul_mod_self_left]
  · rw [show x - y + y = x by omega]
theorem cop_sub {u v : Nat} (h : Nat.Coprime u v) (hle : v ≤ u) : Nat.Coprime (u - v) v := by
  have h1 : Nat.gcd (u - v) v ∣ u := by
    have := Nat.dvd_add (Nat.gcd_dvd_left (u - v) v) (Nat.gcd_dvd_right (u - v) v)
    rwa [Nat.sub_add_cancel hle] at this
  have h2 := Nat.dvd_gcd h1 (Nat.gcd_dvd_right (u - v) v)
  rw [show Nat.gcd u v = 1 from h] at h2
  exact Nat.dvd_one.1 h2
theorem hn_even {u : Nat} (h : u % 2 = 0) : hn u = u / 2 := by unfold hn; rw [if_neg (by omega)]
/-- ALL TURNS. -/
theorem inv_all {a : Nat} (z : List UInt64) : ∀ (n m k e u v x y : Nat), k + n < 1100 → u ≤ Pm → v ≤ Pm → v % 2 = 1 → x < Pm → y < Pm → x * a % Pm = u % Pm → y * a % Pm = v % Pm → Nat.Coprime u v → u * v < 2 ^ e → (if u % 2 = 0 then 2 * e else 2 * e + 1) ≤ n →
    ∃ r, r < Pm ∧ r * a % Pm = 1 ∧ itN k80_2 (m + 1 + n) ((k : Int), wl Pm, z, wl u, wl v, wl x, wl y) = some (.x (z, wl r)) := by
  intro n
  induction n with
  | zero =>
    intro m k e u v x y hk hu hv v1 hx hy hxa hya hc he hn
    have h0 : u = 0 := by
      refine Classical.byContradiction fun h0 => ?_
      split at hn
      · have e0 : e = 0 := by omega
        subst e0
        have := Nat.mul_pos (Nat.pos_of_ne_zero h0) (show 0 < v by omega)
        rw [Nat.pow_zero] at he; omega
      · omega
    subst h0
    have hv1 : v = 1 := by have := hc; unfold Nat.Coprime at this; rwa [Nat.gcd_zero_left] at this
    subst hv1
    exact ⟨y, hy, by rw [hya]; decide, by rw [show m + 1 + 0 = m + 1 from rfl, itN_succ]; exact inv_end _ (by omega) z _ _ _⟩
  | succ n ih =>
    intro m k e u v x y hk hu hv v1 hx hy hxa hya hc he hn
    by_cases h0 : u = 0
    · subst h0
      have hv1 : v = 1 := by have := hc; unfold Nat.Coprime at this; rwa [Nat.gcd_zero_left] at this
      subst hv1
      exact ⟨y, hy, by rw [hya]; decide, by rw [show m + 1 + (n + 1) = (m + 1 + n) + 1 from rfl, itN_succ]; exact inv_end _ (by omega) z _ _ _⟩
    · have hP := P_lt
      have hpos := Nat.mul_pos (Nat.pos_of_ne_zero h0) (show 0 < v by omega)
      rw [show m + 1 + (n + 1) = (m + 1 + n) + 1 from rfl, itN_succ]
      by_cases h2 : u % 2 = 0
      · rw [inv_even _ (by omega) (by omega) h0 h2 (by omega)]
        rw [if_pos h2] at hn
        obtain ⟨e', rfl⟩ : ∃ e', e = e' + 1 := ⟨e - 1, by
          have : e ≠ 0 := fun h => by subst h; rw [Nat.pow_zero] at he; omega
          omega⟩
        have hlt : u / 2 * v < 2 ^ e' := by
          have h9 : 2 * (u / 2 * v) = u * v := by rw [← Nat.mul_assoc, show 2 * (u / 2) = u by omega]
          rw [Nat.pow_succ] at he; omega
        rw [hn_even h2]
        exact ih m (k + 1) e' (u / 2) v (Q.hn x) y (by omega) (by omega) hv v1 (hn_lt hx) hy (hn_mul hxa h2) hya (Nat.Coprime.coprime_dvd_left (Nat.div_dvd_of_dvd (Nat.dvd_of_mod_eq_zero h2)) hc) hlt (by split <;> omega)
      · rw [inv_odd _ (by omega) (by omega) (by omega) h0 h2 hx hy]
        rw [if_neg h2] at hn
        by_cases h : u < v
        · rw [if_pos h]
          have hlt : (v - u) * u < 2 ^ e := Nat.lt_of_le_of_lt (by rw [Nat.mul_comm u v]; exact Nat.mul_le_mul_right u (Nat.sub_le v u)) he
          exact ih m (k + 1) e (v - u) u (sm y x) x (by omega) (by omega) hu (by omega) (sm_lt hy hx) hx (sm_mul hx hya hxa (Nat.le_of_lt h)) hxa (cop_sub hc.symm (Nat.le_of_lt h)) hlt (by rw [if_pos (show (v - u) % 2 = 0 by omega)]; omega)
        · rw [if_neg h]
          have hle := Nat.le_of_not_lt h
          have hlt : (u - v) * v < 2 ^ e := Nat.lt_of_le_of_lt (Nat.mul_le_mul_right v (Nat.sub_le u v)) he
          exact ih m (k + 1) e (u - v) v (sm x y) y (by omega) (by omega) hv v1 (sm_lt hx hy) hy (sm_mul hy hxa hya hle) hya (cop_sub hc hle) hlt (by rw [if_pos (show (u - v) % 2 = 0 by omega)]; omega)
theorem inv_uniq {a r : Nat} (hr : r < Pm) (h : r * a % Pm = 1) (ha : a % Pm ≠ 0) : r = a ^ (Pm - 2) % Pm := by
  have hw := inv_one ha
  generalize hq : a ^ (Pm - 2) % Pm = w at hw ⊢
  have hwl : w < Pm := by rw [← hq]; exact lt_P
  have e1 : r * (a * w) % Pm = r := by rw [← Nat.mul_mod_mod, hw, Nat.mul_one, Nat.mod_eq_of_lt hr]
  have e2 : r * (a * w) % Pm = w := by rw [← Nat.mul_assoc, ← Nat.mod_mul_mod, h, Nat.one_mul, Nat.mod_eq_of_lt hwl]
  rw [← e1, e2]
theorem mm_pow (n : Nat) (h : 2 ^ n = M) : M * M = 2 ^ (n + n) := by rw [Nat.pow_add, h]
theorem inverse80 {a : Nat} (ha : a < Pm) : m80 (wl a, wl Pm) = some (wl (a ^ (Pm - 2) % Pm)) := by
  have hP := P_lt
  refine (m80_eq _).trans ?_
  unfold b80
  have hz : eqD (.arr 4 (.int .u64)) (wl a) ([(0 : UInt64), 0, 0, 0] : List UInt64) = decide (a = 0) := (congrArg (fun l : List UInt64 => eqD (.arr 4 (.int .u64)) (wl a) l) wl_zero).trans (eq_wl (by omega) M_pos)
  by_cases h0 : a = 0
  · refine Eq.trans (cnd_t (hz.trans (decide_eq_true h0)) _ _) ?_
    rw [inv_zero (by rw [h0]; exact Nat.zero_mod _), h0]
  · refine Eq.trans (cnd_f (hz.trans (decide_eq_false h0)) _ _) ?_
    have hna : a % Pm ≠ 0 := by rw [Nat.mod_eq_of_lt ha]; exact h0
    have h1 : ∀ z, l80_1 (wl a, wl Pm, z) = some (.n (wl Pm, z, wl a, wl Pm)) := fun z => (l80_1_eq _).trans rfl
    refine bnd_ex' (h1 _) ?_
    obtain ⟨m, hm⟩ := fuel_ge 1030 (by decide)
    obtain ⟨r, r1, r2, r3⟩ := inv_all (a := a) (List.replicate 4 (0 : UInt64)) 1029 m 0 (256 + 256) a Pm 1 0 (by decide) (Nat.le_of_lt ha) (Nat.le_refl _) (by decide) one_lt (by decide) (by rw [Nat.one_mul]) (by rw [Nat.zero_mul, Nat.zero_mod, Nat.mod_self]) (prP.cop (not_dvd hna)).symm (Nat.lt_of_lt_of_eq (Nat.mul_lt_mul_of_lt_of_lt (Nat.lt_trans ha hP) hP) (mm_pow 256 (by decide))) (by split <;> decide)
    have h2 : l80_2 ((0 : Int), wl Pm, List.replicate 4 (0 : UInt64), wl a, wl Pm, [(1 : UInt64), 0, 0, 0], [(0 : UInt64), 0, 0, 0]) = some (.x (List.replicate 4 (0 : UInt64), wl r)) := by
      unfold l80_2
      rw [hm, wl_zero, show ([(1 : UInt64), 0, 0, 0]) = wl 1 from wl_small (n := 1)]
      exact r3
    refine bnd_ex' h2 ?_
    rw [inv_uniq r1 r2 hna]
theorem rinv_s {a : Nat} (ha : a < M) : m50 (wl a) = some (wl (a ^ (Pm - 2) % Pm)) := by
  refine (m50_eq _).trans ?_
  unfold b50
  refine bnd_ex' (below_s ha) ?_
  refine bnd_ex' rprime_s ?_
  refine bnd_ex' (inverse80 lt_P) ?_
  rw [← Nat.pow_mod]
theorem power_s {a n : Nat} (ha : a < M) (hn : n < M) : m11 (wl a, wl n) = some true := by
  refine (m11_eq _).trans ?_
  unfold b11
  refine bnd_ex' (root_s ha) ?_
  refine bnd_ex' (rroot_s ha) ?_
  refine bnd_ex' alive_s ?_
  refine Eq.trans (cnd_t rfl _ _) ?_
  refine bnd_ex' (pow_s ha hn) ?_
  refine bnd_ex' (rpow_s ha hn) ?_
  refine Eq.trans (cnd_t ((eq_wl lt_M lt_M).trans (by simp)) _ _) ?_
  refine bnd_ex' (inv_s ha) ?_
  refine bnd_ex' (rinv_s ha) ?_
  refine Eq.trans (cnd_t ((eq_wl lt_M lt_M).trans (by simp)) _ _) ?_
  refine Eq.trans (cnd_t ((eq_wl (rootN_lt _) (rootN_lt _)).trans (by simp)) _ _) ?_
  exact congrArg some (decide_eq_true rfl)
end Go.Proofs.Ythlbdpmnljcapaa.Q
