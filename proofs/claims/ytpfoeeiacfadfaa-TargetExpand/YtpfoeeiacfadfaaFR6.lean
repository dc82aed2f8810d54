/-
  What the document's side of layer 6 tells, in numbers: Bit, twice, Rem, Div (bit by bit).
-/
import Derived.Test.YtpfoeeiacfadfaaQS
import Derived.Test.YtpfoeeiacfadfaaFZ
import Derived.Test.YtpfoeeiacfadfaaQMR
namespace Go.Proofs.Ytpfoeeiacfadfaa.Q
open Go.RowKit

theorem fRCmp_s {a b : Nat} (ha : a < M) (hb : b < M) : fRCmp (wl a, wl b) = some (cmpN a b) := by rw [fRCmp_eq]; simp only [val_wl ha, val_wl hb]
theorem fRLen_s {a : Nat} (ha : a < M) : fRLen (wl a) = some ((blen a : Nat) : Int) := by rw [fRLen_eq]; simp only [val_wl ha]
theorem fRAdd_s {a b : Nat} (ha : a < M) (hb : b < M) : fRAdd (wl a, wl b) = some (wl ((a + b) % M), UInt64.ofNat ((a + b) / M)) := by rw [fRAdd_eq]; simp only [val_wl ha, val_wl hb]
theorem fRSub_s {a b : Nat} (ha : a < M) (hb : b < M) : fRSub (wl a, wl b) = some (wl ((a + M - b) % M), UInt64.ofNat (if a < b then 1 else 0)) := by rw [fRSub_eq]; simp only [val_wl ha, val_wl hb]
theorem fRMul_s {a b : Nat} (ha : a < M) (hb : b < M) : fRMul (wl a, wl b) = some (wl (a * b % M), wl (a * b / M)) := by rw [fRMul_eq]; simp only [val_wl ha, val_wl hb]
theorem bit06_s {a j : Nat} (ha : a < M) (hj : j < 256) : m75 (wl a, (j : Int)) = some (UInt64.ofNat (a / 2 ^ j % 2)) := by
  refine (m75_eq _).trans ?_
  unfold b75
  have e2 : UInt64.toNat (ofI .u64 (Int.tmod (j : Int) 64)) = j % 64 := ofI_nat (n := j % 64) (by omega)
  have hp : 2 ^ (j % 64) ≤ 9223372036854775808 := Nat.pow_le_pow_right (n := 2) (by decide) (show j % 64 ≤ 63 by omega)
  have hp0 : 0 < 2 ^ (j % 64) := Nat.two_pow_pos _
  have t12 : shlK .u64 (1 : UInt64) ((UInt64.toNat (ofI .u64 (Int.tmod (j : Int) 64)) : Int)).toNat = UInt64.ofNat (2 ^ (j % 64)) := by
    rw [e2]
    show UInt64.ofNat ((1 : UInt64).toNat * 2 ^ min (j % 64) 64) = _
    rw [show min (j % 64) 64 = j % 64 by omega, show (1 : UInt64).toNat = 1 from rfl, Nat.one_mul]
  have nz : ¬ UInt64.ofNat (2 ^ (j % 64)) = (0 : UInt64) := fun h => by
    have := congrArg UInt64.toNat h
    rw [un _ (by omega), show (0 : UInt64).toNat = 0 from rfl] at this
    omega
  have key : ∀ t : UInt64, t = UInt64.ofNat (2 ^ (j % 64)) → List.getD (wl a) (j / 64) (0 : UInt64) / t % 2 = UInt64.ofNat (a / 2 ^ j % 2) := fun t ht => by
    subst ht
    refine u_eq ?_
    rw [UInt64.toNat_mod, UInt64.toNat_div, word_at _ (by omega), un _ (by omega), un _ (by omega), show (2 : UInt64).toNat = 2 from rfl, bit_word a j ha hj]
  refine Eq.trans (guard_if (show inR .i64 ((j / 64 : Nat) : Int) = true by unfold inR; simp; omega) _) ?_
  refine Eq.trans (guard_if (show inB ((j / 64 : Nat) : Int) 4 = true from inB_nat (by omega)) _) ?_
  refine Eq.trans (guard_if (nonneg_and _ _) _) ?_
  have hz : ∀ (t : UInt64) (z : Int), t = UInt64.ofNat (2 ^ (j % 64)) → (!(decide (t = (0 : UInt64))) && inR .u64 z) = true := fun t z ht => by
    subst ht
    show (!(decide _) && true) = true
    rw [decide_eq_false nz]; rfl
  refine Eq.trans (guard_if (hz _ _ t12) _) ?_
  exact congrArg some (key _ t12)
theorem dbl2_n {x0 x1 x2 x3 b : Nat} (h0 : x0 < 18446744073709551616) (h1 : x1 < 18446744073709551616) (h2 : x2 < 18446744073709551616) (_h3 : x3 < 18446744073709551616) (hb : b ≤ 1) :
    x3 / 9223372036854775808 = (2 * (x0 + 18446744073709551616 * (x1 + 18446744073709551616 * (x2 + 18446744073709551616 * x3))) + b) / M := by
  unfold M; omega
theorem dbl2_s {a b : Nat} (ha : a < M) (hb : b ≤ 1) : m74 (wl a, UInt64.ofNat b) = some (wl ((2 * a + b) % M), UInt64.ofNat ((2 * a + b) / M)) := by
  obtain ⟨a0, a1, a2, a3, la⟩ := len4 (wl_len a)
  have va : a = a0.toNat + 18446744073709551616 * (a1.toNat + 18446744073709551616 * (a2.toNat + 18446744073709551616 * a3.toNat)) := by rw [← val4, ← la, val_wl ha]
  rw [la]
  have e1 : [a0 * 2 + UInt64.ofNat b, a1 * 2 + a0 / 9223372036854775808, a2 * 2 + a1 / 9223372036854775808, a3 * 2 + a2 / 9223372036854775808] = wl ((2 * a + b) % M) := by
    have h := dbl_n (ut a0) (ut a1) (ut a2) (ut a3) hb
    rw [wl4]
    simp only [UInt64.toNat_add, UInt64.toNat_mul, UInt64.toNat_div, un b (by omega), show (2 : UInt64).toNat = 2 from rfl, show (9223372036854775808 : UInt64).toNat = 9223372036854775808 from rfl]
    congr 1
    rw [va, ← h, Nat.add_mul_mod_self_left]
    refine (Nat.mod_eq_of_lt ?_).symm
    exact v4_lt _ _ _ _ (Nat.mod_lt _ (by decide)) (Nat.mod_lt _ (by decide)) (Nat.mod_lt _ (by decide)) (Nat.mod_lt _ (by decide))
  have e2 : a3 / 9223372036854775808 = UInt64.ofNat ((2 * a + b) / M) := by
    refine u_eq ?_
    have h3 := ut a3
    rw [UInt64.toNat_div, show (9223372036854775808 : UInt64).toNat = 9223372036854775808 from rfl, dbl2_n (ut a0) (ut a1) (ut a2) (ut a3) hb, ← va, un]
    unfold M at *; omega
  refine (m74_eq _).trans ?_
  exact congrArg some (congr (congrArg Prod.mk e1) e2)
theorem top_bit (hi lo i : Nat) (h : 256 ≤ i) (hl : lo < M) : (hi * M + lo) / 2 ^ i = hi / 2 ^ (i - 256) := by
  have e : 2 ^ i = M * 2 ^ (i - 256) := by rw [show M = 2 ^ 256 from rfl, ← Nat.pow_add, show 256 + (i - 256) = i by omega]
  rw [e, ← Nat.div_div_eq_div_mul, Nat.add_comm, Nat.add_mul_div_right _ _ (by decide), Nat.div_eq_of_lt hl, Nat.zero_add]
theorem bot_bit (hi lo i : Nat) (h : i < 256) : (hi * M + lo) / 2 ^ i % 2 = lo / 2 ^ i % 2 := by
  have e : hi * M = 2 ^ i * (2 * (2 ^ (255 - i) * hi)) := by
    have e1 : M = 2 ^ i * (2 * 2 ^ (255 - i)) := by rw [show M = 2 ^ 256 from rfl, ← Nat.pow_succ', ← Nat.pow_add]; congr 1; omega
    rw [e1, Nat.mul_comm hi, Nat.mul_assoc, Nat.mul_assoc]
  rw [e, Nat.add_comm, Nat.add_mul_div_left _ _ (Nat.two_pow_pos i)]
  omega
theorem carry_le (r b m : Nat) (hr : r < m) (hm : m < M) (hb : b ≤ 1) : (2 * r + b) / M ≤ 1 := by unfold M at *; omega
theorem cmp_ge {a b : Nat} : decide ((0 : Int) ≤ cmpN a b) = decide (b ≤ a) := by
  refine decide_eq_decide.2 ?_
  unfold cmpN
  split
  · rename_i h; subst h; simp
  · split
    · rename_i h1 h2; constructor
      · intro h; omega
      · intro h; omega
    · rename_i h1 h2; constructor
      · intro _; omega
      · intro _; decide
theorem rem_sub {r b m : Nat} (hr : r < m) (hm : m < M) (hb : b ≤ 1) : ((2 * r + b) / M = 1 ∨ m ≤ (2 * r + b) % M → ((2 * r + b) % M + M - m) % M = (2 * r + b) % m) ∧ (¬ ((2 * r + b) / M = 1 ∨ m ≤ (2 * r + b) % M) → (2 * r + b) % M = (2 * r + b) % m) := by
  rcases rem_step r b m hr hm hb with ⟨h1, h2, _⟩ | ⟨h1, h2, _⟩
  · exact ⟨fun _ => h2, fun h => absurd h1 h⟩
  · exact ⟨fun h => absurd h h1, fun _ => h2⟩
theorem inR_pred {i : Nat} (h : i < 4096) : inR .i64 ((i : Int) - 1) = true := by
  unfold inR; simp; omega
theorem rem_turn (f : Int × List UInt64 × List UInt64 × List UInt64 × List UInt64 × List UInt64 → Option (O3 Unit (List UInt64 × List UInt64) Unit)) {hi lo d j : Nat} (hhi : hi < M) (hlo : lo < M) (hd : d < M) (hd0 : 0 < d) (hj : j < 512) (z : List UInt64) :
    k52_1 f ((j : Int), wl hi, wl lo, wl d, z, wl ((hi * M + lo) / 2 ^ (j + 1) % d)) = f ((j : Int) - 1, wl hi, wl lo, wl d, z, wl ((hi * M + lo) / 2 ^ j % d)) := by
  have hr : (hi * M + lo) / 2 ^ (j + 1) % d < d := Nat.mod_lt _ hd0
  have hb : (hi * M + lo) / 2 ^ j % 2 ≤ 1 := by omega
  have hs := bits_step (hi * M + lo) j d
  have hx : ∃ x, x < M ∧ x / 2 ^ (j % 256) % 2 = (hi * M + lo) / 2 ^ j % 2 ∧ ∀ zz r, l52_3 ((j : Int), (decide ((256 : Int) ≤ (j : Int))), wl hi, wl lo, wl d, zz, r, wl lo) = some (.n ((j : Int), wl hi, wl lo, wl d, zz, r, wl x)) := by
    by_cases h : 256 ≤ j
    · refine ⟨hi, hhi, ?_, fun zz r => ?_⟩
      · rw [top_bit hi lo j h hlo, show j % 256 = j - 256 by omega]
      · refine (l52_3_eq _).trans ?_
        unfold a52_3
        exact Eq.trans (cnd_t (decide_eq_true (by omega)) _ _) rfl
    · refine ⟨lo, hlo, ?_, fun zz r => ?_⟩
      · rw [bot_bit hi lo j (by omega), show j % 256 = j by omega]
      · refine (l52_3_eq _).trans ?_
        unfold a52_3
        exact Eq.trans (cnd_f (decide_eq_false (by omega)) _ _) rfl
  obtain ⟨x, hxM, hxb, hl3⟩ := hx
  generalize (hi * M + lo) / 2 ^ (j + 1) % d = r at hr hs ⊢
  generalize (hi * M + lo) / 2 ^ j % 2 = b at hb hs hxb
  rw [← hs]
  have hl4 : ∀ zz, l52_4 ((j : Int), wl hi, wl lo, wl d, zz, wl r, wl x) = some (.n ((j : Int), UInt64.ofNat ((2 * r + b) / M), wl hi, wl lo, wl d, zz, wl r, wl ((2 * r + b) % M))) := fun zz => by
    refine (l52_4_eq _).trans ?_
    unfold a52_4
    have k1 : m75 (wl x, Int.tmod (j : Int) (256 : Int)) = some (UInt64.ofNat b) := by
      rw [← hxb]; exact bit06_s hxM (Nat.mod_lt _ (by decide))
    refine bnd_ex' k1 ?_
    refine bnd_ex' (dbl2_s (Nat.lt_trans hr hd) hb) ?_
    rfl
  have hc := carry_le r b d hr hd hb
  obtain ⟨n1, n2⟩ := rem_sub hr hd hb
  have hM : (2 * r + b) % M < M := Nat.mod_lt _ M_pos
  unfold k52_1
  refine Eq.trans (cnd_t (decide_eq_true (by omega)) _ _) ?_
  refine bnd_ex' (hl3 z _) ?_
  refine bnd_ex' (hl4 z) ?_
  by_cases h1 : (2 * r + b) / M = 1
  · refine Eq.trans (cnd_t ((one_c hc).trans (decide_eq_true h1)) _ _) ?_
    refine bnd_ex' (fRSub_s hM hd) ?_
    refine Eq.trans (guard_if (inR_pred (by omega)) _) ?_
    rw [n1 (.inl h1)]
  · refine Eq.trans (cnd_f ((one_c hc).trans (decide_eq_false h1)) _ _) ?_
    refine bnd_ex' (fRCmp_s hM hd) ?_
    by_cases h2 : d ≤ (2 * r + b) % M
    · refine Eq.trans (cnd_t (cmp_ge.trans (decide_eq_true h2)) _ _) ?_
      refine bnd_ex' (fRSub_s hM hd) ?_
      refine Eq.trans (guard_if (inR_pred (by omega)) _) ?_
      rw [n1 (.inr h2)]
    · refine Eq.trans (cnd_f (cmp_ge.trans (decide_eq_false h2)) _ _) ?_
      refine Eq.trans (guard_if (inR_pred (by omega)) _) ?_
      rw [n2 (fun h => h.elim h1 h2)]
theorem rem_end (f : Int × List UInt64 × List UInt64 × List UInt64 × List UInt64 × List UInt64 → Option (O3 Unit (List UInt64 × List UInt64) Unit)) (h l d z r : List UInt64) : k52_1 f (((0 : Nat) : Int) - 1, h, l, d, z, r) = some (.x (z, r)) := rfl
theorem rem_all {hi lo d : Nat} (hhi : hi < M) (hlo : lo < M) (hd : d < M) (hd0 : 0 < d) (z : List UInt64) : ∀ (j m : Nat), j ≤ 512 →
    itN k52_1 (m + 1 + j) ((j : Int) - 1, wl hi, wl lo, wl d, z, wl ((hi * M + lo) / 2 ^ j % d)) = some (.x (z, wl ((hi * M + lo) % d)))
  | 0, m, _ => by
    rw [show m + 1 + 0 = m + 1 from rfl, itN_succ, Nat.pow_zero, Nat.div_one]
    exact rem_end _ _ _ _ _ _
  | j + 1, m, h => by
    rw [show m + 1 + (j + 1) = (m + 1 + j) + 1 from rfl, itN_succ, show ((j + 1 : Nat) : Int) - 1 = (j : Int) by omega, rem_turn _ hhi hlo hd hd0 (by omega)]
    exact rem_all hhi hlo hd hd0 z j m (by omega)
theorem sq_pw (n k : Nat) (h : n = k + k) : 2 ^ n = 2 ^ k * 2 ^ k := by subst h; exact Nat.pow_add 2 k k
theorem big_div (hi lo : Nat) (hhi : hi < M) (hlo : lo < M) : (hi * M + lo) / 2 ^ 512 = 0 := by
  refine Nat.div_eq_of_lt ?_
  have h1 : (hi + 1) * M ≤ M * M := Nat.mul_le_mul_right _ hhi
  have h2 : M * M = 2 ^ 512 := (sq_pw 512 256 rfl).symm
  rw [Nat.add_mul, Nat.one_mul] at h1
  omega
theorem rrem_s {hi lo d : Nat} (hd0 : d ≠ 0) (hd : d < M) (hhi : hi < M) (hlo : lo < M) : m52 (wl hi, wl lo, wl d) = some (wl ((hi * M + lo) % d), (0 : Int)) := by
  refine (m52_eq _).trans ?_
  unfold b52
  have hz : eqD (.arr 4 (.int .u64)) (wl d) ([(0 : UInt64), 0, 0, 0] : List UInt64) = decide (d = 0) := (congrArg (fun l : List UInt64 => eqD (.arr 4 (.int .u64)) (wl d) l) wl_zero).trans (eq_wl hd M_pos)
  refine Eq.trans (cnd_f (hz.trans (decide_eq_false hd0)) _ _) ?_
  have hl : l52_1 ((511 : Int), wl hi, wl lo, wl d, List.replicate 4 (0 : UInt64), [(0 : UInt64), 0, 0, 0]) = some (.x (List.replicate 4 (0 : UInt64), wl ((hi * M + lo) % d))) := by
    unfold l52_1
    obtain ⟨m, hm⟩ := fuel_ge 513 (by decide)
    have h := rem_all hhi hlo hd (Nat.pos_of_ne_zero hd0) (List.replicate 4 (0 : UInt64)) 512 m (Nat.le_refl _)
    rw [big_div hi lo hhi hlo, Nat.zero_mod] at h
    rw [hm, wl_zero, show m + 513 = m + 1 + 512 by omega]
    exact h
  refine bnd_ex' hl ?_
  rfl
end Go.Proofs.Ytpfoeeiacfadfaa.Q
