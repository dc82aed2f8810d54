/-
  What the document's side of layer 13 tells, in numbers; ScalarSums, ScalarMul, ScalarLaws, ScalarInverse.
-/
import Derived.Test.YtpfoeeiacfadfaaFS1
import Derived.Test.YtpfoeeiacfadfaaFR6
namespace Go.Proofs.Ytpfoeeiacfadfaa.Q
open Go.RowKit

theorem wl_1 : ([(1 : UInt64), 0, 0, 0]) = wl 1 := wl_small (n := 1)
theorem wl_2 : ([(2 : UInt64), 0, 0, 0]) = wl 2 := wl_small (n := 2)
theorem wl_3 : ([(3 : UInt64), 0, 0, 0]) = wl 3 := wl_small (n := 3)
theorem wl_5 : ([(5 : UInt64), 0, 0, 0]) = wl 5 := wl_small (n := 5)
theorem wl_15 : ([(15 : UInt64), 0, 0, 0]) = wl 15 := wl_small (n := 15)
theorem eq_lit {a n : Nat} {l : List UInt64} (hl : l = wl n) (ha : a < M) (hn : n < M) : eqD (.arr 4 (.int .u64)) (wl a) l = decide (a = n) :=
  (congrArg (fun l : List UInt64 => eqD (.arr 4 (.int .u64)) (wl a) l) hl).trans (eq_wl ha hn)
theorem eq_self {a : Nat} (ha : a < M) : eqD (.arr 4 (.int .u64)) (wl a) (wl a) = true := (eq_wl ha ha).trans (by simp)
theorem eq_same {a b : Nat} (ha : a < M) (h : a = b) : eqD (.arr 4 (.int .u64)) (wl a) (wl b) = true := by subst h; exact eq_self ha
theorem alive13_s : m14 () = some true := by
  refine (m14_eq _).trans ?_
  unfold b14
  have hN1 : Nm - 1 < M := by decide
  have k1 : fSub (wl Nm, [(1 : UInt64), 0, 0, 0]) = some (wl (Nm - 1), UInt64.ofNat (if Nm < 1 then 1 else 0)) := by
    rw [wl_1, fSub_s N_lt (by decide), show (Nm + M - 1) % M = Nm - 1 by decide]
  have k2 : m19 (wl (Nm - 1), [(2 : UInt64), 0, 0, 0]) = some (wl 1) := by
    rw [wl_2, sadd_s hN1 (by decide), show (Nm - 1 + 2) % Nm = 1 by decide]
  have k3 : m23 ([(3 : UInt64), 0, 0, 0], [(5 : UInt64), 0, 0, 0]) = some (wl 15) := by
    rw [wl_3, wl_5, smul_s (by decide) (by decide)]
    rfl
  have k4 : m21 (wl (Nm - 1)) = some (wl 1) := by
    rw [sneg_s hN1, show (Nm - (Nm - 1) % Nm) % Nm = 1 by decide]
  refine bnd_ex' order_s ?_
  refine bnd_ex' k1 ?_
  refine bnd_ex' k2 ?_
  refine Eq.trans (cnd_t (eq_lit wl_1 (by decide) (by decide)) _ _) ?_
  refine bnd_ex' k3 ?_
  refine Eq.trans (cnd_t (eq_lit wl_15 (by decide) (by decide)) _ _) ?_
  refine bnd_ex' k4 ?_
  exact congrArg some (eq_lit wl_1 (by decide) (by decide))
/-! The document's. -/
theorem rorder_s : m16 () = some (wl Nm) := by
  refine (m16_eq _).trans ?_
  unfold b16
  exact congrArg some (wl_words rfl (by decide))
theorem rred_s {a : Nat} (ha : a < M) : m18 (wl a) = some (wl (a % Nm)) := by
  refine (m18_eq _).trans ?_
  unfold b18
  have h0 : ∀ z, l18_0 (wl a, z) = some (.n (UInt64.ofNat (if a < Nm then 1 else 0), wl a, z, wl ((a + M - Nm) % M))) := fun z => by
    refine (l18_0_eq _).trans ?_
    unfold a18_0
    refine bnd_ex' rorder_s ?_
    refine bnd_ex' (less_s ha N_lt) ?_
    rfl
  refine bnd_ex' (h0 _) ?_
  by_cases h : a < Nm
  · refine Eq.trans (cnd_t ((one_u _).trans (decide_eq_true h)) _ _) ?_
    rw [Nat.mod_eq_of_lt h]
  · refine Eq.trans (cnd_f ((one_u _).trans (decide_eq_false h)) _ _) ?_
    rw [sred_n ha h]
theorem zero_u (p : Prop) [Decidable p] : decide (UInt64.ofNat (if p then 1 else 0) = (0 : UInt64)) = !decide p := by
  by_cases h : p
  · rw [if_pos h, decide_eq_true h]; rfl
  · rw [if_neg h, decide_eq_false h]; rfl
theorem radd13_n {x y : Nat} (hx : x < Nm) (hy : y < Nm) : (x + y) / M ≤ 1 ∧ ((x + y) / M = 1 → ((x + y) % M + M - Nm) % M = (x + y) % Nm) ∧ (¬ (x + y) / M = 1 → ¬ (x + y) % M < Nm → ((x + y) % M + M - Nm) % M = (x + y) % Nm) ∧ (¬ (x + y) / M = 1 → (x + y) % M < Nm → (x + y) % M = (x + y) % Nm) := by
  unfold Nm M at *; refine ⟨?_, ?_, ?_, ?_⟩ <;> omega
theorem radd13_s {a b : Nat} (ha : a < M) (hb : b < M) : m20 (wl a, wl b) = some (wl ((a + b) % Nm)) := by
  refine (m20_eq _).trans ?_
  unfold b20
  obtain ⟨n0, n1, n2, n3⟩ := radd13_n (lt_N (a := a)) (lt_N (a := b))
  rw [Nat.add_mod a b]
  have hx := lt_NM (a := a)
  have hy := lt_NM (a := b)
  have ra := rred_s ha
  have rb := rred_s hb
  generalize a % Nm = x at *
  generalize b % Nm = y at *
  have hM : (x + y) % M < M := Nat.mod_lt _ M_pos
  have h0 : ∀ z, l20_0 (wl a, wl b, z) = some (.n (UInt64.ofNat ((x + y) / M), z, wl ((x + y) % M))) := fun z => by
    refine (l20_0_eq _).trans ?_
    unfold a20_0
    refine bnd_ex' ra ?_
    refine bnd_ex' rb ?_
    refine bnd_ex' (more_s hx hy) ?_
    rfl
  have h1 : ∀ c z, l20_1 (c, z, wl ((x + y) % M)) = some (.n (c, UInt64.ofNat (if (x + y) % M < Nm then 1 else 0), z, wl ((x + y) % M), wl (((x + y) % M + M - Nm) % M))) := fun c z => by
    refine (l20_1_eq _).trans ?_
    unfold a20_1
    refine bnd_ex' rorder_s ?_
    refine bnd_ex' (less_s hM N_lt) ?_
    rfl
  refine bnd_ex' (h0 _) ?_
  refine bnd_ex' (h1 _ _) ?_
  by_cases hc : (x + y) / M = 1
  · refine Eq.trans (cnd_t ((one_c n0).trans (decide_eq_true hc)) _ _) ?_
    rw [n1 hc]
  · refine Eq.trans (cnd_f ((one_c n0).trans (decide_eq_false hc)) _ _) ?_
    by_cases hl : (x + y) % M < Nm
    · refine Eq.trans (cnd_f ((zero_u _).trans (by rw [decide_eq_true hl]; rfl)) _ _) ?_
      rw [n3 hc hl]
    · refine Eq.trans (cnd_t ((zero_u _).trans (by rw [decide_eq_false hl]; rfl)) _ _) ?_
      rw [n2 hc hl]
theorem rneg13_s {a : Nat} (ha : a < M) : m22 (wl a) = some (wl ((Nm - a % Nm) % Nm)) := by
  refine (m22_eq _).trans ?_
  unfold b22
  refine bnd_ex' (rred_s ha) ?_
  have h := lt_N (a := a)
  by_cases h0 : a % Nm = 0
  · refine Eq.trans (cnd_t ((eq_lit wl_zero lt_NM M_pos).trans (decide_eq_true h0)) _ _) ?_
    rw [h0, Nat.sub_zero, Nat.mod_self]
  · refine Eq.trans (cnd_f ((eq_lit wl_zero lt_NM M_pos).trans (decide_eq_false h0)) _ _) ?_
    have e : (Nm + M - a % Nm) % M = (Nm - a % Nm) % Nm := by
      rw [Nat.mod_eq_of_lt (show Nm - a % Nm < Nm by omega), show Nm + M - a % Nm = (Nm - a % Nm) + M by omega, Nat.add_mod_right, Nat.mod_eq_of_lt (Nat.lt_of_le_of_lt (Nat.sub_le _ _) N_lt)]
    have h1 : ∀ z, l22_1 (wl (a % Nm), z) = some (.n (z, wl ((Nm - a % Nm) % Nm))) := fun z => by
      refine (l22_1_eq _).trans ?_
      unfold a22_1
      refine bnd_ex' rorder_s ?_
      refine bnd_ex' (less_s N_lt lt_NM) ?_
      rw [e]
    refine bnd_ex' (h1 _) ?_
    rfl
theorem rmul13_s {a b : Nat} (ha : a < M) (hb : b < M) : m24 (wl a, wl b) = some (wl ((a * b) % Nm)) := by
  refine (m24_eq _).trans ?_
  unfold b24
  have h1 : a * b / M < M := Nat.div_lt_of_lt_mul (Nat.mul_lt_mul_of_lt_of_lt ha hb)
  refine bnd_ex' (fRMul_s ha hb) ?_
  have h0 : ∀ z, l24_0 (z, wl (a * b % M), wl (a * b / M)) = some (.n (z, wl ((a * b) % Nm))) := fun z => by
    refine (l24_0_eq _).trans ?_
    unfold a24_0
    refine bnd_ex' rorder_s ?_
    refine bnd_ex' (rrem_s (by decide) N_lt h1 (Nat.mod_lt _ M_pos)) ?_
    rw [Nat.mul_comm (a * b / M) M, Nat.div_add_mod]
  refine bnd_ex' (h0 _) ?_
  rfl
theorem rinv13_s {a : Nat} (ha : a < M) : m26 (wl a) = some (wl (a ^ (Nm - 2) % Nm)) := by
  refine (m26_eq _).trans ?_
  unfold b26
  refine bnd_ex' (rred_s ha) ?_
  refine bnd_ex' rorder_s ?_
  by_cases h0 : a % Nm = 0
  · rw [h0, N_inv_zero h0]
    exact bnd_ex' inverse_zero rfl
  · obtain ⟨r, r1, r2, r3⟩ := inverse_any (a := a % Nm) N_lt N_odd N_one lt_N h0 (prN.cop (fun hd => N_not_dvd h0 ((Nat.dvd_mod_iff (Nat.dvd_refl Nm)).1 hd))).symm
    refine bnd_ex' r3 ?_
    rw [N_uniq r1 r2 h0]
/-! The laws. -/
theorem scalar_sums {a b : Nat} (ha : a < M) (hb : b < M) : m3 (wl a, wl b) = some true := by
  refine (m3_eq _).trans ?_
  unfold b3
  refine bnd_ex' alive13_s ?_
  refine Eq.trans (cnd_t rfl _ _) ?_
  refine bnd_ex' order_s ?_
  refine bnd_ex' rorder_s ?_
  refine Eq.trans (cnd_t (eq_self N_lt) _ _) ?_
  refine bnd_ex' (sreduce_s ha) ?_
  refine bnd_ex' (rred_s ha) ?_
  refine Eq.trans (cnd_t (eq_self lt_NM) _ _) ?_
  refine bnd_ex' (sadd_s ha hb) ?_
  refine bnd_ex' (radd13_s ha hb) ?_
  refine Eq.trans (cnd_t (eq_self lt_NM) _ _) ?_
  refine bnd_ex' (sneg_s ha) ?_
  refine bnd_ex' (rneg13_s ha) ?_
  exact congrArg some (eq_self lt_NM)
theorem scalar_mul {a b : Nat} (ha : a < M) (hb : b < M) : m4 (wl a, wl b) = some true := by
  refine (m4_eq _).trans ?_
  unfold b4
  refine bnd_ex' alive13_s ?_
  refine Eq.trans (cnd_t rfl _ _) ?_
  refine bnd_ex' (smul_s ha hb) ?_
  refine bnd_ex' (rmul13_s ha hb) ?_
  refine Eq.trans (cnd_t (eq_self lt_NM) _ _) ?_
  refine bnd_ex' (sinv_s ha) ?_
  refine bnd_ex' (rinv13_s ha) ?_
  exact congrArg some (eq_self lt_NM)
theorem scalar_laws {a b c : Nat} (ha : a < M) (hb : b < M) (hc : c < M) : m6 (wl a, wl b, wl c) = some true := by
  refine (m6_eq _).trans ?_
  unfold b6
  refine bnd_ex' (sadd_s hb hc) ?_
  refine bnd_ex' (smul_s ha lt_NM) ?_
  refine bnd_ex' (smul_s ha hb) ?_
  refine bnd_ex' (smul_s ha hc) ?_
  refine bnd_ex' (sadd_s lt_NM lt_NM) ?_
  refine bnd_ex' (smul_s hb hc) ?_
  refine bnd_ex' (smul_s ha lt_NM) ?_
  refine bnd_ex' (smul_s ha hb) ?_
  refine bnd_ex' (smul_s lt_NM hc) ?_
  refine bnd_ex' (sadd_s hb hc) ?_
  refine bnd_ex' (sadd_s ha lt_NM) ?_
  refine bnd_ex' (sadd_s ha hb) ?_
  refine bnd_ex' (sadd_s lt_NM hc) ?_
  refine bnd_ex' (sadd_s ha hb) ?_
  refine bnd_ex' (sadd_s hb ha) ?_
  refine Eq.trans (cnd_t (eq_same lt_NM (by rw [Nat.add_comm])) _ _) ?_
  refine bnd_ex' (smul_s ha hb) ?_
  refine bnd_ex' (smul_s hb ha) ?_
  refine bnd_ex' alive13_s ?_
  refine Eq.trans (cnd_t rfl _ _) ?_
  refine Eq.trans (cnd_t (eq_same lt_NM (by simp only [Nat.add_mod_mod, Nat.mod_add_mod, Nat.mul_mod_mod, Nat.mul_add])) _ _) ?_
  refine Eq.trans (cnd_t (eq_same lt_NM (by simp only [Nat.mul_mod_mod, Nat.mod_mul_mod, Nat.mul_assoc])) _ _) ?_
  refine Eq.trans (cnd_t (eq_same lt_NM (by simp only [Nat.add_mod_mod, Nat.mod_add_mod, Nat.add_assoc])) _ _) ?_
  refine Eq.trans (cnd_t (eq_same lt_NM (by rw [Nat.mul_comm])) _ _) ?_
  refine bnd_ex' (sneg_s ha) ?_
  refine bnd_ex' (sadd_s ha lt_NM) ?_
  refine congrArg some ((eq_lit wl_zero lt_NM M_pos).trans (decide_eq_true ?_))
  unfold Nm; omega
theorem scalar_inverse {a : Nat} (ha : a < M) : m7 (wl a) = some true := by
  refine (m7_eq _).trans ?_
  unfold b7
  have hi := lt_N (a := a ^ (Nm - 2))
  refine bnd_ex' (sinv_s ha) ?_
  refine bnd_ex' order_s ?_
  refine bnd_ex' (cmp_s lt_NM N_lt) ?_
  refine Eq.trans (cnd_f (cmp_ge.trans (decide_eq_false (Nat.not_le_of_lt hi))) _ _) ?_
  refine bnd_ex' (sreduce_s ha) ?_
  refine bnd_ex' (cmp_s lt_NM N_lt) ?_
  refine Eq.trans (cnd_f (cmp_ge.trans (decide_eq_false (Nat.not_le_of_lt lt_N))) _ _) ?_
  refine bnd_ex' (sreduce_s ha) ?_
  by_cases h0 : a % Nm = 0
  · refine Eq.trans (cnd_t ((eq_lit wl_zero lt_NM M_pos).trans (decide_eq_true h0)) _ _) ?_
    refine bnd_ex' alive13_s ?_
    refine Eq.trans (cnd_t rfl _ _) ?_
    exact congrArg some ((eq_lit wl_zero lt_NM M_pos).trans (decide_eq_true (N_inv_zero h0)))
  · refine Eq.trans (cnd_f ((eq_lit wl_zero lt_NM M_pos).trans (decide_eq_false h0)) _ _) ?_
    refine bnd_ex' alive13_s ?_
    refine Eq.trans (cnd_t rfl _ _) ?_
    refine bnd_ex' (smul_s ha lt_NM) ?_
    refine congrArg some ((eq_lit wl_1 lt_NM (by decide)).trans (decide_eq_true ?_))
    rw [Nat.mul_comm]; exact N_inv_one h0
end Go.Proofs.Ytpfoeeiacfadfaa.Q
