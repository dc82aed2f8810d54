/-
  What the document's side of layer 6 tells, in numbers: Bit, twice, Rem, Div (bit by bit).
-/
import Derived.Test.YtpfoeeiacfadfaaQS
import Derived.Test.YtpfoeeiacfadfaaFZ
import Derived.Test.YtpfoeeiacfadfaaQMR
import Derived.Test.YtpfoeeiacfadfaaFWDZ
import Derived.Test.YtpfoeeiacfadfaaFQZ
namespace Go.Proofs.Ytpfoeeiacfadfaa.Q
open Go.RowKit

theorem fRCmp_s {a b : Nat} (ha : a < M) (hb : b < M) : fRCmp (wl a, wl b) = some (cmpN a b) := by rw [fRCmp_eq]; simp only [val_wl ha, val_wl hb]
theorem fRLen_s {a : Nat} (ha : a < M) : fRLen (wl a) = some ((blen a : Nat) : Int) := by rw [fRLen_eq]; simp only [val_wl ha]
theorem fRAdd_s {a b : Nat} (ha : a < M) (hb : b < M) : fRAdd (wl a, wl b) = some (wl ((a + b) % M), UInt64.ofNat ((a + b) / M)) := by rw [fRAdd_eq]; simp only [val_wl ha, val_wl hb]
theorem fRSub_s {a b : Nat} (ha : a < M) (hb : b < M) : fRSub (wl a, wl b) = some (wl ((a + M - b) % M), UInt64.ofNat (if a < b then 1 else 0)) := by rw [fRSub_eq]; simp only [val_wl ha, val_wl hb]
theorem fRMul_s {a b : Nat} (ha : a < M) (hb : b < M) : fRMul (wl a, wl b) = some (wl (a * b % M), wl (a * b / M)) := by rw [fRMul_eq]; simp only [val_wl ha, val_wl hb]
theorem bit06_s {a j : Nat} (ha : a < M) (hj : j < 256) : m75 (wl a, (j : Int)) = some (UInt64.ofNat (a / 2 ^ j % 2)) := by
  refine (m75_eq _).trans ?_
  unfold b75
  have e2 : UInt64.toNat (ofI .u64 (Int.tmod (j : Int) 64)) = j % 64 := ofI_nat (n := j % 64) (by omega)
  have hp : 2 ^ (j % 64) ≤ 9223372036854775808 := Nat.pow_le_pow_right (n := 2) (by decide) (show j % 64 ≤ 63 by omega)
  have hp0 : 0 < 2 ^ (j % 64) := Nat.two_pow_pos _
  have t12 : shlK .u64 (1 : UInt64) ((UInt64.toNat (ofI .u64 (Int.tmod (j : Int) 64)) : Int)).toNat = UInt64.ofNat (2 ^ (j % 64)) := by
    rw [e2]
    show UInt64.ofNat ((1 : UInt64).toNat * 2 ^ min (j % 64) 64) = _
    rw [show min (j % 64) 64 = j % 64 by omega, show (1 : UInt64).toNat = 1 from rfl, Nat.one_mul]
  have nz : ¬ UInt64.ofNat (2 ^ (j % 64)) = (0 : UInt64) := fun h => by
    have := congrArg UInt64.toNat h
    rw [un _ (by omega), show (0 : UInt64).toNat = 0 from rfl] at this
    omega
  have key : ∀ t : UInt64, t = UInt64.ofNat (2 ^ (j % 64)) → List.getD (wl a) (j / 64) (0 : UInt64) / t % 2 = UInt64.ofNat (a / 2 ^ j % 2) := fun t ht => by
    subst ht
    refine u_eq ?_
    rw [UInt64.toNat_mod, UInt64.toNat_div, word_at _ (by omega), un _ (by omega), un _ (by omega), show (2 : UInt64).toNat = 2 from rfl, bit_word a j ha hj]
  refine Eq.trans (guard_if (show inR .i64 ((j / 64 : Nat) : Int) = true by unfold inR; simp; omega) _) ?_
  refine Eq.trans (guard_if (show inB ((j / 64 : Nat) : Int) 4 = true from inB_nat (by omega)) _) ?_
  refine Eq.trans (guard_if (nonneg_and _ _) _) ?_
  have hz : ∀ (t : UInt64) (z : Int), t = UInt64.ofNat (2 ^ (j % 64)) → (!(decide (t = (0 : UInt64))) && inR .u64 z) = true := fun t z ht => by
    subst ht
    show (!(decide _) && true) = true
    rw [decide_eq_false nz]; rfl
  refine Eq.trans (guard_if (hz _ _ t12) _) ?_
  exact congrArg some (key _ t12)
theorem dbl2_n {x0 x1 x2 x3 b : Nat} (h0 : x0 < 18446744073709551616) (h1 : x1 < 18446744073709551616) (h2 : x2 < 18446744073709551616) (_h3 : x3 < 18446744073709551616) (hb : b ≤ 1) :
    x3 / 9223372036854775808 = (2 * (x0 + 18446744073709551616 * (x1 + 18446744073709551616 * (x2 + 18446744073709551616 * x3))) + b) / M := by
  unfold M; omega
theorem dbl2_s {a b : Nat} (ha : a < M) (hb : b ≤ 1) : m74 (wl a, UInt64.ofNat b) = some (wl ((2 * a + b) % M), UInt64.ofNat ((2 * a + b) / M)) := by
  obtain ⟨a0, a1, a2, a3, la⟩ := len4 (wl_len a)
  have va : a = a0.toNat + 18446744073709551616 * (a1.toNat + 18446744073709551616 * (a2.toNat + 18446744073709551616 * a3.toNat)) := by rw [← val4, ← la, val_wl ha]
  rw [la]
  have e1 : [a0 * 2 + UInt64.ofNat b, a1 * 2 + a0 / 9223372036854775808, a2 * 2 + a1 / 9223372036854775808, a3 * 2 + a2 / 9223372036854775808] = wl ((2 * a + b) % M) := by
    have h := dbl_n (ut a0) (ut a1) (ut a2) (ut a3) hb
    rw [wl4]
    simp only [UInt64.toNat_add, UInt64.toNat_mul, UInt64.toNat_div, un b (by omega), show (2 : UInt64).toNat = 2 from rfl, show (9223372036854775808 : UInt64).toNat = 9223372036854775808 from rfl]
    congr 1
    rw [va, ← h, Nat.add_mul_mod_self_left]
    refine (Nat.mod_eq_of_lt ?_).symm
    exact v4_lt _ _ _ _ (Nat.mod_lt _ (by decide)) (Nat.mod_lt _ (by decide)) (Nat.mod_lt _ (by decide)) (Nat.mod_lt _ (by decide))
  have e2 : a3 / 9223372036854775808 = UInt64.ofNat ((2 * a + b) / M) := by
    refine u_eq ?_
    have h3 := ut a3
    rw [UInt64.toNat_div, show (9223372036854775808 : UInt64).toNat = 9223372036854775808 from rfl, dbl2_n (ut a0) (ut a1) (ut a2) (ut a3) hb, ← va, un]
    unfold M at *; omega
  refine (m74_eq _).trans ?_
  exact congrArg some (congr (congrArg Prod.mk e1) e2)
theorem top_bit (hi lo i : Nat) (h : 256 ≤ i) (hl : lo < M) : (hi * M + lo) / 2 ^ i = hi / 2 ^ (i - 256) := by
  have e : 2 ^ i = M * 2 ^ (i - 256) := by rw [show M = 2 ^ 256 from rfl, ← Nat.pow_add, show 256 + (i - 256) = i by omega]
  rw [e, ← Nat.div_div_eq_div_mul, Nat.add_comm, Nat.add_mul_div_right _ _ (by decide), Nat.div_eq_of_lt hl, Nat.zero_add]
theorem bot_bit (hi lo i : Nat) (h : i < 256) : (hi * M + lo) / 2 ^ i % 2 = lo / 2 ^ i % 2 := by
  have e : hi * M = 2 ^ i * (2 * (2 ^ (255 - i) * hi)) := by
    have e1 : M = 2 ^ i * (2 * 2 ^ (255 - i)) := by rw [show M = 2 ^ 256 from rfl, ← Nat.pow_succ', ← Nat.pow_add]; congr 1; omega
    rw [e1, Nat.mul_comm hi, Nat.mul_assoc, Nat.mul_assoc]
  rw [e, Nat.add_comm, Nat.add_mul_div_left _ _ (Nat.two_pow_pos i)]
  omega
theorem carry_le (r b m : Nat) (hr : r < m) (hm : m < M) (hb : b ≤ 1) : (2 * r + b) / M ≤ 1 := by unfold M at *; omega
theorem cmp_ge {a b : Nat} : decide ((0 : Int) ≤ cmpN a b) = decide (b ≤ a) := by
  refine decide_eq_decide.2 ?_
  unfold cmpN
  split
  · rename_i h; subst h; simp
  · split
    · rename_i h1 h2; constructor
      · intro h; omega
      · intro h; omega
    · rename_i h1 h2; constructor
      · intro _; omega
      · intro _; decide
theorem rem_sub {r b m : Nat} (hr : r < m) (hm : m < M) (hb : b ≤ 1) : ((2 * r + b) / M = 1 ∨ m ≤ (2 * r + b) % M → ((2 * r + b) % M + M - m) % M = (2 * r + b) % m) ∧ (¬ ((2 * r + b) / M = 1 ∨ m ≤ (2 * r + b) % M) → (2 * r + b) % M = (2 * r + b) % m) := by
  rcases rem_step r b m hr hm hb with ⟨h1, h2, _⟩ | ⟨h1, h2, _⟩
  · exact ⟨fun _ => h2, fun h => absurd h1 h⟩
  · exact ⟨fun h => absurd h h1, fun _ => h2⟩
theorem inR_pred {i : Nat} (h : i < 4096) : inR .i64 ((i : Int) - 1) = true := by
  unfold inR; simp; omega
theorem rem_turn (f : Int × List UInt64 × List UInt64 × List UInt64 × List UInt64 × List UInt64 → Option (O3 Unit (List UInt64 × List UInt64) Unit)) {hi lo d j : Nat} (hhi : hi < M) (hlo : lo < M) (hd : d < M) (hd0 : 0 < d) (hj : j < 512) (z : List UInt64) :
    k52_1 f ((j : Int), wl hi, wl lo, wl d, z, wl ((hi * M + lo) / 2 ^ (j + 1) % d)) = f ((j : Int) - 1, wl hi, wl lo, wl d, z, wl ((hi * M + lo) / 2 ^ j % d)) := by
  have hr : (hi * M + lo) / 2 ^ (j + 1) % d < d := Nat.mod_lt _ hd0
  have hb : (hi * M + lo) / 2 ^ j % 2 ≤ 1 := by omega
  have hs := bits_step (hi * M + lo) j d
  have hx : ∃ x, x < M ∧ x / 2 ^ (j % 256) % 2 = (hi * M + lo) / 2 ^ j % 2 ∧ ∀ zz r, l52_3 ((j : Int), (decide ((256 : Int) ≤ (j : Int))), wl hi, wl lo, wl d, zz, r, wl lo) = some (.n ((j : Int), wl hi, wl lo, wl d, zz, r, wl x)) := by
    by_cases h : 256 ≤ j
    · refine ⟨hi, hhi, ?_, fun zz r => ?_⟩
      · rw [top_bit hi lo j h hlo, show j % 256 = j - 256 by omega]
      · refine (l52_3_eq _).trans ?_
        unfold a52_3
        exact Eq.trans (cnd_t (decide_eq_true (by omega)) _ _) rfl
    · refine ⟨lo, hlo, ?_, fun zz r => ?_⟩
      · rw [bot_bit hi lo j (by omega), show j % 256 = j by omega]
      · refine (l52_3_eq _).trans ?_
        unfold a52_3
        exact Eq.trans (cnd_f (decide_eq_false (by omega)) _ _) rfl
  obtain ⟨x, hxM, hxb, hl3⟩ := hx
  generalize (hi * M + lo) / 2 ^ (j + 1) % d = r at hr hs ⊢
  generalize (hi * M + lo) / 2 ^ j % 2 = b at hb hs hxb
  rw [← hs]
  have hl4 : ∀ zz, l52_4 ((j : Int), wl hi, wl lo, wl d, zz, wl r, wl x) = some (.n ((j : Int), UInt64.ofNat ((2 * r + b) / M), wl hi, wl lo, wl d, zz, wl r, wl ((2 * r + b) % M))) := fun zz => by
    refine (l52_4_eq _).trans ?_
    unfold a52_4
    have k1 : m75 (wl x, Int.tmod (j : Int) (256 : Int)) = some (UInt64.ofNat b) := by
      rw [← hxb]; exact bit06_s hxM (Nat.mod_lt _ (by decide))
    refine bnd_ex' k1 ?_
    refine bnd_ex' (dbl2_s (Nat.lt_trans hr hd) hb) ?_
    rfl
  have hc := carry_le r b d hr hd hb
  obtain ⟨n1, n2⟩ := rem_sub hr hd hb
  have hM : (2 * r + b) % M < M := Nat.mod_lt _ M_pos
  unfold k52_1
  refine Eq.trans (cnd_t (decide_eq_true (by omega)) _ _) ?_
  refine bnd_ex' (hl3 z _) ?_
  refine bnd_ex' (hl4 z) ?_
  by_cases h1 : (2 * r + b) / M = 1
  · refine Eq.trans (cnd_t ((one_c hc).trans (decide_eq_true h1)) _ _) ?_
    refine bnd_ex' (fRSub_s hM hd) ?_
    refine Eq.trans (guard_if (inR_pred (by omega)) _) ?_
    rw [n1 (.inl h1)]
  · refine Eq.trans (cnd_f ((one_c hc).trans (decide_eq_false h1)) _ _) ?_
    refine bnd_ex' (fRCmp_s hM hd) ?_
    by_cases h2 : d ≤ (2 * r + b) % M
    · refine Eq.trans (cnd_t (cmp_ge.trans (decide_eq_true h2)) _ _) ?_
      refine bnd_ex' (fRSub_s hM hd) ?_
      refine Eq.trans (guard_if (inR_pred (by omega)) _) ?_
      rw [n1 (.inr h2)]
    · refine Eq.trans (cnd_f (cmp_ge.trans (decide_eq_false h2)) _ _) ?_
      refine Eq.trans (guard_if (inR_pred (by omega)) _) ?_
      rw [n2 (fun h => h.elim h1 h2)]
theorem rem_end (f : Int × List UInt64 × List UInt64 × List UInt64 × List UInt64 × List UInt64 → Option (O3 Unit (List UInt64 × List UInt64) Unit)) (h l d z r : List UInt64) : k52_1 f (((0 : Nat) : Int) - 1, h, l, d, z, r) = some (.x (z, r)) := rfl
theorem rem_all {hi lo d : Nat} (hhi : hi < M) (hlo : lo < M) (hd : d < M) (hd0 : 0 < d) (z : List UInt64) : ∀ (j m : Nat), j ≤ 512 →
    itN k52_1 (m + 1 + j) ((j : Int) - 1, wl hi, wl lo, wl d, z, wl ((hi * M + lo) / 2 ^ j % d)) = some (.x (z, wl ((hi * M + lo) % d)))
  | 0, m, _ => by
    rw [show m + 1 + 0 = m + 1 from rfl, itN_succ, Nat.pow_zero, Nat.div_one]
    exact rem_end _ _ _ _ _ _
  | j + 1, m, h => by
    rw [show m + 1 + (j + 1) = (m + 1 + j) + 1 from rfl, itN_succ, show ((j + 1 : Nat) : Int) - 1 = (j : Int) by omega, rem_turn _ hhi hlo hd hd0 (by omega)]
    exact rem_all hhi hlo hd hd0 z j m (by omega)
theorem sq_pw (n k : Nat) (h : n = k + k) : 2 ^ n = 2 ^ k * 2 ^ k := by subst h; exact Nat.pow_add 2 k k
theorem big_div (hi lo : Nat) (hhi : hi < M) (hlo : lo < M) : (hi * M + lo) / 2 ^ 512 = 0 := by
  refine Nat.div_eq_of_lt ?_
  have h1 : (hi + 1) * M ≤ M * M := Nat.mul_le_mul_right _ hhi
  have h2 : M * M = 2 ^ 512 := (sq_pw 512 256 rfl).symm
  rw [Nat.add_mul, Nat.one_mul] at h1
  omega
theorem rrem_s {hi lo d : Nat} (hd0 : d ≠ 0) (hd : d < M) (hhi : hi < M) (hlo : lo < M) : m52 (wl hi, wl lo, wl d) = some (wl ((hi * M + lo) % d), (0 : Int)) := by
  refine (m52_eq _).trans ?_
  unfold b52
  have hz : eqD (.arr 4 (.int .u64)) (wl d) ([(0 : UInt64), 0, 0, 0] : List UInt64) = decide (d = 0) := (congrArg (fun l : List UInt64 => eqD (.arr 4 (.int .u64)) (wl d) l) wl_zero).trans (eq_wl hd M_pos)
  refine Eq.trans (cnd_f (hz.trans (decide_eq_false hd0)) _ _) ?_
  have hl : l52_1 ((511 : Int), wl hi, wl lo, wl d, List.replicate 4 (0 : UInt64), [(0 : UInt64), 0, 0, 0]) = some (.x (List.replicate 4 (0 : UInt64), wl ((hi * M + lo) % d))) := by
    unfold l52_1
    obtain ⟨m, hm⟩ := fuel_ge 513 (by decide)
    have h := rem_all hhi hlo hd (Nat.pos_of_ne_zero hd0) (List.replicate 4 (0 : UInt64)) 512 m (Nat.le_refl _)
    rw [big_div hi lo hhi hlo, Nat.zero_mod] at h
    rw [hm, wl_zero, show m + 513 = m + 1 + 512 by omega]
    exact h
  refine bnd_ex' hl ?_
  rfl
end Go.Proofs.Ytpfoeeiacfadfaa.Q
/-
  What package scalar's functions tell, in numbers.
-/
namespace Go.Proofs.Ytpfoeeiacfadfaa.Q
open Go.RowKit

theorem N_lt : Nm < M := by decide
theorem N_pos : 0 < Nm := by decide
theorem N_odd : Nm % 2 = 1 := by decide
theorem N_one : 1 < Nm := by decide
theorem lt_N {a : Nat} : a % Nm < Nm := Nat.mod_lt _ N_pos
theorem lt_NM {a : Nat} : a % Nm < M := Nat.lt_trans lt_N N_lt
theorem order_s : m15 () = some (wl Nm) := by
  refine (m15_eq _).trans ?_
  unfold b15
  exact congrArg some (wl_words rfl (by decide))
theorem sred_n {a : Nat} (h : a < M) (h2 : ¬ a < Nm) : (a + M - Nm) % M = a % Nm := by unfold Nm M at *; omega
theorem sreduce_s {a : Nat} (ha : a < M) : m17 (wl a) = some (wl (a % Nm)) := by
  refine (m17_eq _).trans ?_
  unfold b17
  have h0 : ∀ z, l17_0 (wl a, z) = some (.n (UInt64.ofNat (if a < Nm then 1 else 0), wl a, z, wl ((a + M - Nm) % M))) := fun z => by
    refine (l17_0_eq _).trans ?_
    unfold a17_0
    refine bnd_ex' order_s ?_
    refine bnd_ex' (fSub_s ha N_lt) ?_
    rfl
  refine bnd_ex' (h0 _) ?_
  by_cases h : a < Nm
  · refine Eq.trans (cnd_t ((one_u _).trans (decide_eq_true h)) _ _) ?_
    rw [Nat.mod_eq_of_lt h]
  · refine Eq.trans (cnd_f ((one_u _).trans (decide_eq_false h)) _ _) ?_
    rw [sred_n ha h]
theorem sleft_s {lo hi : Nat} (hl : lo < M) (hh : hi < M) : m48 (wl lo, wl hi) = some (wl ((hi * M + lo) % Nm)) := by
  refine (m48_eq _).trans ?_
  unfold b48
  have h0 : ∀ z, l48_0 (wl lo, wl hi, z) = some (.n (z, wl ((hi * M + lo) % Nm))) := fun z => by
    refine (l48_0_eq _).trans ?_
    unfold a48_0
    refine bnd_ex' order_s ?_
    refine bnd_ex' (rem_s (by decide) N_lt hh hl) ?_
    rfl
  refine bnd_ex' (h0 _) ?_
  rfl
theorem sadd_s {a b : Nat} (ha : a < M) (hb : b < M) : m19 (wl a, wl b) = some (wl ((a + b) % Nm)) := by
  refine (m19_eq _).trans ?_
  unfold b19
  have hc : (a + b) / M < 18446744073709551616 := by unfold M at *; omega
  refine bnd_ex' (fAdd_s ha hb) ?_
  have kf : fFrom (UInt64.ofNat ((a + b) / M)) = some (wl ((a + b) / M)) := by rw [fFrom_s, un _ hc]
  refine bnd_ex' kf ?_
  refine bnd_ex' (sleft_s (Nat.mod_lt _ M_pos) (Nat.lt_trans hc (by decide))) ?_
  rw [Nat.mul_comm, Nat.div_add_mod]
theorem smul_s {a b : Nat} (ha : a < M) (hb : b < M) : m23 (wl a, wl b) = some (wl ((a * b) % Nm)) := by
  refine (m23_eq _).trans ?_
  unfold b23
  have h1 : a * b / M < M := Nat.div_lt_of_lt_mul (Nat.mul_lt_mul_of_lt_of_lt ha hb)
  refine bnd_ex' (fMul_s ha hb) ?_
  refine bnd_ex' (sleft_s (Nat.mod_lt _ M_pos) h1) ?_
  rw [Nat.mul_comm (a * b / M) M, Nat.div_add_mod]
theorem sneg_s {a : Nat} (ha : a < M) : m21 (wl a) = some (wl ((Nm - a % Nm) % Nm)) := by
  refine (m21_eq _).trans ?_
  unfold b21
  have h := lt_N (a := a)
  have e : (Nm + M - a % Nm) % M = Nm - a % Nm := by
    rw [show Nm + M - a % Nm = (Nm - a % Nm) + M by omega, Nat.add_mod_right, Nat.mod_eq_of_lt (Nat.lt_of_le_of_lt (Nat.sub_le _ _) N_lt)]
  have h0 : ∀ z, l21_0 (wl a, z) = some (.n (z, wl (Nm - a % Nm))) := fun z => by
    refine (l21_0_eq _).trans ?_
    unfold a21_0
    refine bnd_ex' order_s ?_
    refine bnd_ex' (sreduce_s ha) ?_
    refine bnd_ex' (fSub_s N_lt lt_NM) ?_
    rw [e]
  refine bnd_ex' (h0 _) ?_
  refine bnd_ex' (sreduce_s (Nat.lt_of_le_of_lt (Nat.sub_le _ _) N_lt)) ?_
  rfl
/-! Inv: divisor after divisor. -/
theorem neg_back (p x t : Nat) (hp : 0 < p) : ((x + (p - t % p % p) % p) % p + t) % p = x % p := by
  have h1 := Nat.mod_lt t hp
  rw [Nat.mod_mod]
  rw [Nat.mod_add_mod, Nat.add_right_comm, Nat.add_mod_mod]
  exact add_back p x t hp
def nx (x q y : Nat) : Nat := (x + (Nm - q * y % Nm % Nm) % Nm) % Nm
theorem nx_lt (x q y : Nat) : nx x q y < Nm := lt_N
theorem nx_mul {x y u v a : Nat} (h1 : x * a % Nm = u % Nm) (h2 : y * a % Nm = v % Nm) (q : Nat) (hle : q * v ≤ u) : nx x q y * a % Nm = (u - q * v) % Nm := by
  refine sub_modp (B := q * y * a) (C := x * a) N_pos ?_ h1 ?_ hle
  · rw [← Nat.add_mul]
    unfold nx
    rw [Nat.mul_mod, neg_back Nm x (q * y) N_pos, ← Nat.mul_mod]
  · rw [Nat.mul_assoc, Nat.mul_mod, h2, ← Nat.mul_mod]
theorem sinv_turn (f : List UInt64 × List UInt64 × List UInt64 × List UInt64 × List UInt64 → Option (O3 Unit (List UInt64 × List UInt64) Unit)) {u v x y : Nat} (hu : u < M) (hv : v < M) (h0 : v ≠ 0) (hx : x < M) (hy : y < M) (z : List UInt64) :
    k25_1 f (z, wl u, wl v, wl x, wl y) = f (z, wl v, wl (u % v), wl y, wl (nx x (u / v) y)) := by
  unfold k25_1
  refine Eq.trans (cnd_t (inv_eqz hv h0) _ _) ?_
  refine bnd_ex' (div_s h0 hv hu) ?_
  have h3 : l25_3 (z, wl u, wl v, wl x, wl y, wl (u / v), wl (u % v)) = some (.n (z, wl v, wl (u % v), wl x, wl y, wl (u / v))) := (l25_3_eq _).trans rfl
  refine bnd_ex' h3 ?_
  have hq : u / v < M := Nat.lt_of_le_of_lt (Nat.div_le_self _ _) hu
  have h4 : l25_4 (z, wl v, wl (u % v), wl x, wl y, wl (u / v)) = some (.n (z, wl v, wl (u % v), wl y, wl (nx x (u / v) y))) := by
    refine (l25_4_eq _).trans ?_
    unfold a25_4
    refine bnd_ex' (smul_s hq hy) ?_
    refine bnd_ex' (sneg_s lt_NM) ?_
    refine bnd_ex' (sadd_s hx lt_NM) ?_
    rfl
  exact bnd_ex' h4 rfl
theorem sinv_end (f : List UInt64 × List UInt64 × List UInt64 × List UInt64 × List UInt64 → Option (O3 Unit (List UInt64 × List UInt64) Unit)) (z u x y : List UInt64) :
    k25_1 f (z, u, wl 0, x, y) = some (.x (z, x)) := by
  unfold k25_1
  have e : eqD (.arr 4 (.int .u64)) (wl 0) ([(0 : UInt64), 0, 0, 0] : List UInt64) = true := (congrArg (fun l : List UInt64 => eqD (.arr 4 (.int .u64)) (wl 0) l) wl_zero).trans ((eq_wl M_pos M_pos).trans (by simp))
  exact Eq.trans (cnd_f (congrArg (fun b => !b) e) _ _) rfl
theorem half_prod {u v e : Nat} (hv : 0 < v) (hlt : v < u) (h : u * v < 2 ^ (e + 1)) : v * (u % v) < 2 ^ e := by
  have h1 := Nat.mod_lt u hv
  have h2 := Nat.div_add_mod u v
  have h3 : 1 ≤ u / v := (Nat.one_le_div_iff hv).2 (Nat.le_of_lt hlt)
  have h4 : v ≤ v * (u / v) := Nat.le_mul_of_pos_right v h3
  have h5 : v * (2 * (u % v)) ≤ v * u := Nat.mul_le_mul_left v (by omega)
  rw [Nat.pow_succ] at h
  rw [Nat.mul_comm u v] at h
  have h6 : v * (2 * (u % v)) = 2 * (v * (u % v)) := by rw [Nat.mul_left_comm]
  omega
theorem cop_mod {u v : Nat} (h : Nat.Coprime u v) : Nat.Coprime v (u % v) := by
  unfold Nat.Coprime at *
  rw [Nat.gcd_comm, ← Nat.gcd_rec, Nat.gcd_comm]; exact h
theorem mod_is {u v : Nat} : u % v = u - u / v * v := by
  have := Nat.div_add_mod u v
  rw [Nat.mul_comm] at this
  omega
theorem sinv_all {a : Nat} (z : List UInt64) : ∀ (e m u v x y : Nat), v < u → u ≤ Nm → x < Nm → y < Nm → x * a % Nm = u % Nm → y * a % Nm = v % Nm → Nat.Coprime u v → u * v < 2 ^ e →
    ∃ r, r < Nm ∧ r * a % Nm = 1 ∧ itN k25_1 (m + 1 + e) (z, wl u, wl v, wl x, wl y) = some (.x (z, wl r)) := by
  have fin : ∀ (k u x y : Nat), u ≤ Nm → x < Nm → x * a % Nm = u % Nm → Nat.Coprime u 0 → ∃ r, r < Nm ∧ r * a % Nm = 1 ∧ itN k25_1 (k + 1) (z, wl u, wl 0, wl x, wl y) = some (.x (z, wl r)) := fun k u x y hu hx hxa hc => by
    unfold Nat.Coprime at hc
    rw [Nat.gcd_zero_right] at hc
    subst hc
    exact ⟨x, hx, by rw [hxa]; decide, by rw [itN_succ]; exact sinv_end _ z _ _ _⟩
  intro e
  induction e with
  | zero =>
    intro m u v x y hvu hu hx hy hxa hya hc he
    have h0 : v = 0 := by
      refine Classical.byContradiction fun h0 => ?_
      have := Nat.mul_pos (show 0 < u by omega) (Nat.pos_of_ne_zero h0)
      rw [Nat.pow_zero] at he; omega
    subst h0
    exact fin m u x y hu hx hxa hc
  | succ e ih =>
    intro m u v x y hvu hu hx hy hxa hya hc he
    by_cases h0 : v = 0
    · subst h0
      exact fin (m + 1 + e) u x y hu hx hxa hc
    · have hN := N_lt
      rw [show m + 1 + (e + 1) = (m + 1 + e) + 1 from rfl, itN_succ, sinv_turn _ (by omega) (by omega) h0 (by omega) (by omega)]
      have hv0 := Nat.pos_of_ne_zero h0
      have hle : u / v * v ≤ u := Nat.div_mul_le_self u v
      have hm := nx_mul hxa hya (u / v) hle
      rw [← mod_is] at hm
      exact ih m v (u % v) y (nx x (u / v) y) (Nat.mod_lt _ hv0) (by omega) hy (nx_lt _ _ _) hya hm (cop_mod hc) (half_prod hv0 hvu he)
theorem N_not_dvd {a : Nat} (h : a % Nm ≠ 0) : ¬ Nm ∣ a := fun hd => h (Nat.mod_eq_zero_of_dvd hd)
theorem N_inv_one {a : Nat} (h : a % Nm ≠ 0) : (a ^ (Nm - 2) % Nm) * a % Nm = 1 := by
  rw [Nat.mod_mul_mod, ← Nat.pow_succ, show (Nm - 2).succ = Nm - 1 by have := N_one; omega, prN.fermat1 (N_not_dvd h)]
theorem N_inv_zero {a : Nat} (h : a % Nm = 0) : a ^ (Nm - 2) % Nm = 0 := by
  rw [Nat.pow_mod, h, Nat.zero_pow (by decide), Nat.zero_mod]
theorem N_uniq {a r : Nat} (hr : r < Nm) (h : r * (a % Nm) % Nm = 1) (ha : a % Nm ≠ 0) : r = a ^ (Nm - 2) % Nm :=
  inv_uniq' hr lt_N (by rw [← Nat.mul_mod_mod]; exact h) (N_inv_one ha)
theorem N_sq (n : Nat) (h : Nm < 2 ^ n) : Nm * Nm < 2 ^ (n + n) := by
  rw [Nat.pow_add]
  exact Nat.mul_lt_mul_of_lt_of_lt h h
theorem sinv_s {a : Nat} (ha : a < M) : m25 (wl a) = some (wl (a ^ (Nm - 2) % Nm)) := by
  refine (m25_eq _).trans ?_
  unfold b25
  have h0 : ∀ z, l25_0 (wl a, z) = some (.n (z, wl Nm, wl (a % Nm))) := fun z => by
    refine (l25_0_eq _).trans ?_
    unfold a25_0
    refine bnd_ex' order_s ?_
    refine bnd_ex' (sreduce_s ha) ?_
    rfl
  refine bnd_ex' (h0 _) ?_
  refine bnd_ex' (fFrom_s _) ?_
  refine bnd_ex' (fFrom_s _) ?_
  have h1 : ∀ z, l25_1 (z, wl Nm, wl (a % Nm), wl 0, wl 1) = some (.x (z, wl (a ^ (Nm - 2) % Nm))) := fun z => by
    unfold l25_1
    obtain ⟨m, hm⟩ := fuel_ge 513 (by decide)
    rw [hm]
    by_cases hz : a % Nm = 0
    · rw [hz, N_inv_zero hz, show m + 513 = (m + 512) + 1 from rfl, itN_succ]
      exact sinv_end _ z _ _ _
    · have hl := lt_N (a := a)
      obtain ⟨r, r1, r2, r3⟩ := sinv_all (a := a % Nm) z (256 + 256) m Nm (a % Nm) 0 1 hl (Nat.le_refl _) N_pos N_one (by rw [Nat.zero_mul, Nat.zero_mod, Nat.mod_self]) (by rw [Nat.one_mul]) (prN.cop (fun hd => N_not_dvd hz ((Nat.dvd_mod_iff (Nat.dvd_refl Nm)).1 hd))) (Nat.lt_of_le_of_lt (Nat.mul_le_mul_left _ (Nat.le_of_lt hl)) (N_sq 256 (by decide)))
      rw [← N_uniq r1 r2 hz, show m + 513 = m + 1 + (256 + 256) by omega]
      exact r3
  refine bnd_ex' (h1 _) ?_
  rfl
end Go.Proofs.Ytpfoeeiacfadfaa.Q
/-
  What the document's side of layer 13 tells, in numbers; ScalarSums, ScalarMul, ScalarLaws, ScalarInverse.
-/
namespace Go.Proofs.Ytpfoeeiacfadfaa.Q
open Go.RowKit

theorem wl_1 : ([(1 : UInt64), 0, 0, 0]) = wl 1 := wl_small (n := 1)
theorem wl_2 : ([(2 : UInt64), 0, 0, 0]) = wl 2 := wl_small (n := 2)
theorem wl_3 : ([(3 : UInt64), 0, 0, 0]) = wl 3 := wl_small (n := 3)
theorem wl_5 : ([(5 : UInt64), 0, 0, 0]) = wl 5 := wl_small (n := 5)
theorem wl_15 : ([(15 : UInt64), 0, 0, 0]) = wl 15 := wl_small (n := 15)
theorem eq_lit {a n : Nat} {l : List UInt64} (hl : l = wl n) (ha : a < M) (hn : n < M) : eqD (.arr 4 (.int .u64)) (wl a) l = decide (a = n) :=
  (congrArg (fun l : List UInt64 => eqD (.arr 4 (.int .u64)) (wl a) l) hl).trans (eq_wl ha hn)
theorem eq_self {a : Nat} (ha : a < M) : eqD (.arr 4 (.int .u64)) (wl a) (wl a) = true := (eq_wl ha ha).trans (by simp)
theorem eq_same {a b : Nat} (ha : a < M) (h : a = b) : eqD (.arr 4 (.int .u64)) (wl a) (wl b) = true := by subst h; exact eq_self ha
theorem alive13_s : m14 () = some true := by
  refine (m14_eq _).trans ?_
  unfold b14
  have hN1 : Nm - 1 < M := by decide
  have k1 : fSub (wl Nm, [(1 : UInt64), 0, 0, 0]) = some (wl (Nm - 1), UInt64.ofNat (if Nm < 1 then 1 else 0)) := by
    rw [wl_1, fSub_s N_lt (by decide), show (Nm + M - 1) % M = Nm - 1 by decide]
  have k2 : m19 (wl (Nm - 1), [(2 : UInt64), 0, 0, 0]) = some (wl 1) := by
    rw [wl_2, sadd_s hN1 (by decide), show (Nm - 1 + 2) % Nm = 1 by decide]
  have k3 : m23 ([(3 : UInt64), 0, 0, 0], [(5 : UInt64), 0, 0, 0]) = some (wl 15) := by
    rw [wl_3, wl_5, smul_s (by decide) (by decide)]
    rfl
  have k4 : m21 (wl (Nm - 1)) = some (wl 1) := by
    rw [sneg_s hN1, show (Nm - (Nm - 1) % Nm) % Nm = 1 by decide]
  refine bnd_ex' order_s ?_
  refine bnd_ex' k1 ?_
  refine bnd_ex' k2 ?_
  refine Eq.trans (cnd_t (eq_lit wl_1 (by decide) (by decide)) _ _) ?_
  refine bnd_ex' k3 ?_
  refine Eq.trans (cnd_t (eq_lit wl_15 (by decide) (by decide)) _ _) ?_
  refine bnd_ex' k4 ?_
  exact congrArg some (eq_lit wl_1 (by decide) (by decide))
/-! The document's. -/
theorem rorder_s : m16 () = some (wl Nm) := by
  refine (m16_eq _).trans ?_
  unfold b16
  exact congrArg some (wl_words rfl (by decide))
theorem rred_s {a : Nat} (ha : a < M) : m18 (wl a) = some (wl (a % Nm)) := by
  refine (m18_eq _).trans ?_
  unfold b18
  have h0 : ∀ z, l18_0 (wl a, z) = some (.n (UInt64.ofNat (if a < Nm then 1 else 0), wl a, z, wl ((a + M - Nm) % M))) := fun z => by
    refine (l18_0_eq _).trans ?_
    unfold a18_0
    refine bnd_ex' rorder_s ?_
    refine bnd_ex' (less_s ha N_lt) ?_
    rfl
  refine bnd_ex' (h0 _) ?_
  by_cases h : a < Nm
  · refine Eq.trans (cnd_t ((one_u _).trans (decide_eq_true h)) _ _) ?_
    rw [Nat.mod_eq_of_lt h]
  · refine Eq.trans (cnd_f ((one_u _).trans (decide_eq_false h)) _ _) ?_
    rw [sred_n ha h]
theorem zero_u (p : Prop) [Decidable p] : decide (UInt64.ofNat (if p then 1 else 0) = (0 : UInt64)) = !decide p := by
  by_cases h : p
  · rw [if_pos h, decide_eq_true h]; rfl
  · rw [if_neg h, decide_eq_false h]; rfl
theorem radd13_n {x y : Nat} (hx : x < Nm) (hy : y < Nm) : (x + y) / M ≤ 1 ∧ ((x + y) / M = 1 → ((x + y) % M + M - Nm) % M = (x + y) % Nm) ∧ (¬ (x + y) / M = 1 → ¬ (x + y) % M < Nm → ((x + y) % M + M - Nm) % M = (x + y) % Nm) ∧ (¬ (x + y) / M = 1 → (x + y) % M < Nm → (x + y) % M = (x + y) % Nm) := by
  unfold Nm M at *; refine ⟨?_, ?_, ?_, ?_⟩ <;> omega
theorem radd13_s {a b : Nat} (ha : a < M) (hb : b < M) : m20 (wl a, wl b) = some (wl ((a + b) % Nm)) := by
  refine (m20_eq _).trans ?_
  unfold b20
  obtain ⟨n0, n1, n2, n3⟩ := radd13_n (lt_N (a := a)) (lt_N (a := b))
  rw [Nat.add_mod a b]
  have hx := lt_NM (a := a)
  have hy := lt_NM (a := b)
  have ra := rred_s ha
  have rb := rred_s hb
  generalize a % Nm = x at *
  generalize b % Nm = y at *
  have hM : (x + y) % M < M := Nat.mod_lt _ M_pos
  have h0 : ∀ z, l20_0 (wl a, wl b, z) = some (.n (UInt64.ofNat ((x + y) / M), z, wl ((x + y) % M))) := fun z => by
    refine (l20_0_eq _).trans ?_
    unfold a20_0
    refine bnd_ex' ra ?_
    refine bnd_ex' rb ?_
    refine bnd_ex' (more_s hx hy) ?_
    rfl
  have h1 : ∀ c z, l20_1 (c, z, wl ((x + y) % M)) = some (.n (c, UInt64.ofNat (if (x + y) % M < Nm then 1 else 0), z, wl ((x + y) % M), wl (((x + y) % M + M - Nm) % M))) := fun c z => by
    refine (l20_1_eq _).trans ?_
    unfold a20_1
    refine bnd_ex' rorder_s ?_
    refine bnd_ex' (less_s hM N_lt) ?_
    rfl
  refine bnd_ex' (h0 _) ?_
  refine bnd_ex' (h1 _ _) ?_
  by_cases hc : (x + y) / M = 1
  · refine Eq.trans (cnd_t ((one_c n0).trans (decide_eq_true hc)) _ _) ?_
    rw [n1 hc]
  · refine Eq.trans (cnd_f ((one_c n0).trans (decide_eq_false hc)) _ _) ?_
    by_cases hl : (x + y) % M < Nm
    · refine Eq.trans (cnd_f ((zero_u _).trans (by rw [decide_eq_true hl]; rfl)) _ _) ?_
      rw [n3 hc hl]
    · refine Eq.trans (cnd_t ((zero_u _).trans (by rw [decide_eq_false hl]; rfl)) _ _) ?_
      rw [n2 hc hl]
theorem rneg13_s {a : Nat} (ha : a < M) : m22 (wl a) = some (wl ((Nm - a % Nm) % Nm)) := by
  refine (m22_eq _).trans ?_
  unfold b22
  refine bnd_ex' (rred_s ha) ?_
  have h := lt_N (a := a)
  by_cases h0 : a % Nm = 0
  · refine Eq.trans (cnd_t ((eq_lit wl_zero lt_NM M_pos).trans (decide_eq_true h0)) _ _) ?_
    rw [h0, Nat.sub_zero, Nat.mod_self]
  · refine Eq.trans (cnd_f ((eq_lit wl_zero lt_NM M_pos).trans (decide_eq_false h0)) _ _) ?_
    have e : (Nm + M - a % Nm) % M = (Nm - a % Nm) % Nm := by
      rw [Nat.mod_eq_of_lt (show Nm - a % Nm < Nm by omega), show Nm + M - a % Nm = (Nm - a % Nm) + M by omega, Nat.add_mod_right, Nat.mod_eq_of_lt (Nat.lt_of_le_of_lt (Nat.sub_le _ _) N_lt)]
    have h1 : ∀ z, l22_1 (wl (a % Nm), z) = some (.n (z, wl ((Nm - a % Nm) % Nm))) := fun z => by
      refine (l22_1_eq _).trans ?_
      unfold a22_1
      refine bnd_ex' rorder_s ?_
      refine bnd_ex' (less_s N_lt lt_NM) ?_
      rw [e]
    refine bnd_ex' (h1 _) ?_
    rfl
theorem rmul13_s {a b : Nat} (ha : a < M) (hb : b < M) : m24 (wl a, wl b) = some (wl ((a * b) % Nm)) := by
  refine (m24_eq _).trans ?_
  unfold b24
  have h1 : a * b / M < M := Nat.div_lt_of_lt_mul (Nat.mul_lt_mul_of_lt_of_lt ha hb)
  refine bnd_ex' (fRMul_s ha hb) ?_
  have h0 : ∀ z, l24_0 (z, wl (a * b % M), wl (a * b / M)) = some (.n (z, wl ((a * b) % Nm))) := fun z => by
    refine (l24_0_eq _).trans ?_
    unfold a24_0
    refine bnd_ex' rorder_s ?_
    refine bnd_ex' (rrem_s (by decide) N_lt h1 (Nat.mod_lt _ M_pos)) ?_
    rw [Nat.mul_comm (a * b / M) M, Nat.div_add_mod]
  refine bnd_ex' (h0 _) ?_
  rfl
theorem rinv13_s {a : Nat} (ha : a < M) : m26 (wl a) = some (wl (a ^ (Nm - 2) % Nm)) := by
  refine (m26_eq _).trans ?_
  unfold b26
  refine bnd_ex' (rred_s ha) ?_
  refine bnd_ex' rorder_s ?_
  by_cases h0 : a % Nm = 0
  · rw [h0, N_inv_zero h0]
    exact bnd_ex' inverse_zero rfl
  · obtain ⟨r, r1, r2, r3⟩ := inverse_any (a := a % Nm) N_lt N_odd N_one lt_N h0 (prN.cop (fun hd => N_not_dvd h0 ((Nat.dvd_mod_iff (Nat.dvd_refl Nm)).1 hd))).symm
    refine bnd_ex' r3 ?_
    rw [N_uniq r1 r2 h0]
/-! The laws. -/
theorem scalar_sums {a b : Nat} (ha : a < M) (hb : b < M) : m3 (wl a, wl b) = some true := by
  refine (m3_eq _).trans ?_
  unfold b3
  refine bnd_ex' alive13_s ?_
  refine Eq.trans (cnd_t rfl _ _) ?_
  refine bnd_ex' order_s ?_
  refine bnd_ex' rorder_s ?_
  refine Eq.trans (cnd_t (eq_self N_lt) _ _) ?_
  refine bnd_ex' (sreduce_s ha) ?_
  refine bnd_ex' (rred_s ha) ?_
  refine Eq.trans (cnd_t (eq_self lt_NM) _ _) ?_
  refine bnd_ex' (sadd_s ha hb) ?_
  refine bnd_ex' (radd13_s ha hb) ?_
  refine Eq.trans (cnd_t (eq_self lt_NM) _ _) ?_
  refine bnd_ex' (sneg_s ha) ?_
  refine bnd_ex' (rneg13_s ha) ?_
  exact congrArg some (eq_self lt_NM)
theorem scalar_mul {a b : Nat} (ha : a < M) (hb : b < M) : m4 (wl a, wl b) = some true := by
  refine (m4_eq _).trans ?_
  unfold b4
  refine bnd_ex' alive13_s ?_
  refine Eq.trans (cnd_t rfl _ _) ?_
  refine bnd_ex' (smul_s ha hb) ?_
  refine bnd_ex' (rmul13_s ha hb) ?_
  refine Eq.trans (cnd_t (eq_self lt_NM) _ _) ?_
  refine bnd_ex' (sinv_s ha) ?_
  refine bnd_ex' (rinv13_s ha) ?_
  exact congrArg some (eq_self lt_NM)
theorem scalar_laws {a b c : Nat} (ha : a < M) (hb : b < M) (hc : c < M) : m6 (wl a, wl b, wl c) = some true := by
  refine (m6_eq _).trans ?_
  unfold b6
  refine bnd_ex' (sadd_s hb hc) ?_
  refine bnd_ex' (smul_s ha lt_NM) ?_
  refine bnd_ex' (smul_s ha hb) ?_
  refine bnd_ex' (smul_s ha hc) ?_
  refine bnd_ex' (sadd_s lt_NM lt_NM) ?_
  refine bnd_ex' (smul_s hb hc) ?_
  refine bnd_ex' (smul_s ha lt_NM) ?_
  refine bnd_ex' (smul_s ha hb) ?_
  refine bnd_ex' (smul_s lt_NM hc) ?_
  refine bnd_ex' (sadd_s hb hc) ?_
  refine bnd_ex' (sadd_s ha lt_NM) ?_
  refine bnd_ex' (sadd_s ha hb) ?_
  refine bnd_ex' (sadd_s lt_NM hc) ?_
  refine bnd_ex' (sadd_s ha hb) ?_
  refine bnd_ex' (sadd_s hb ha) ?_
  refine Eq.trans (cnd_t (eq_same lt_NM (by rw [Nat.add_comm])) _ _) ?_
  refine bnd_ex' (smul_s ha hb) ?_
  refine bnd_ex' (smul_s hb ha) ?_
  refine bnd_ex' alive13_s ?_
  refine Eq.trans (cnd_t rfl _ _) ?_
  refine Eq.trans (cnd_t (eq_same lt_NM (by simp only [Nat.add_mod_mod, Nat.mod_add_mod, Nat.mul_mod_mod, Nat.mul_add])) _ _) ?_
  refine Eq.trans (cnd_t (eq_same lt_NM (by simp only [Nat.mul_mod_mod, Nat.mod_mul_mod, Nat.mul_assoc])) _ _) ?_
  refine Eq.trans (cnd_t (eq_same lt_NM (by simp only [Nat.add_mod_mod, Nat.mod_add_mod, Nat.add_assoc])) _ _) ?_
  refine Eq.trans (cnd_t (eq_same lt_NM (by rw [Nat.mul_comm])) _ _) ?_
  refine bnd_ex' (sneg_s ha) ?_
  refine bnd_ex' (sadd_s ha lt_NM) ?_
  refine congrArg some ((eq_lit wl_zero lt_NM M_pos).trans (decide_eq_true ?_))
  unfold Nm; omega
theorem scalar_inverse {a : Nat} (ha : a < M) : m7 (wl a) = some true := by
  refine (m7_eq _).trans ?_
  unfold b7
  have hi := lt_N (a := a ^ (Nm - 2))
  refine bnd_ex' (sinv_s ha) ?_
  refine bnd_ex' order_s ?_
  refine bnd_ex' (cmp_s lt_NM N_lt) ?_
  refine Eq.trans (cnd_f (cmp_ge.trans (decide_eq_false (Nat.not_le_of_lt hi))) _ _) ?_
  refine bnd_ex' (sreduce_s ha) ?_
  refine bnd_ex' (cmp_s lt_NM N_lt) ?_
  refine Eq.trans (cnd_f (cmp_ge.trans (decide_eq_false (Nat.not_le_of_lt lt_N))) _ _) ?_
  refine bnd_ex' (sreduce_s ha) ?_
  by_cases h0 : a % Nm = 0
  · refine Eq.trans (cnd_t ((eq_lit wl_zero lt_NM M_pos).trans (decide_eq_true h0)) _ _) ?_
    refine bnd_ex' alive13_s ?_
    refine Eq.trans (cnd_t rfl _ _) ?_
    exact congrArg some ((eq_lit wl_zero lt_NM M_pos).trans (decide_eq_true (N_inv_zero h0)))
  · refine Eq.trans (cnd_f ((eq_lit wl_zero lt_NM M_pos).trans (decide_eq_false h0)) _ _) ?_
    refine bnd_ex' alive13_s ?_
    refine Eq.trans (cnd_t rfl _ _) ?_
    refine bnd_ex' (smul_s ha lt_NM) ?_
    refine congrArg some ((eq_lit wl_1 lt_NM (by decide)).trans (decide_eq_true ?_))
    rw [Nat.mul_comm]; exact N_inv_one h0
end Go.Proofs.Ytpfoeeiacfadfaa.Q
