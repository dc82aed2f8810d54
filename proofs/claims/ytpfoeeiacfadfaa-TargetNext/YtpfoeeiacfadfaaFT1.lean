/-
  What package target's functions tell, in numbers: targets of bits, bits of targets.
-/
import Derived.Test.YtpfoeeiacfadfaaQT2
import Derived.Test.YtpfoeeiacfadfaaFWD
import Derived.Test.YtpfoeeiacfadfaaFR6
import Derived.Test.YtpfoeeiacfadfaaFB
namespace Go.Proofs.Ytpfoeeiacfadfaa.Q
open Go.RowKit

theorem u32_eq {x y : UInt32} (h : x.toNat = y.toNat) : x = y := UInt32.toNat_inj.1 h
theorem un32 (n : Nat) (h : n < 4294967296) : (UInt32.ofNat n).toNat = n := by
  rw [UInt32.toNat_ofNat']; exact Nat.mod_eq_of_lt h
theorem ut32 (a : UInt32) : a.toNat < 4294967296 := a.toNat_lt
theorem and32 (x y : UInt32) : andK .u32 x y = UInt32.land x y := hide_eq _
theorem or32 (x y : UInt32) : orK .u32 x y = UInt32.lor x y := hide_eq _
theorem inR_of {z : Int} (h1 : -9223372036854775808 ≤ z) (h2 : z < 9223372036854775808) : inR .i64 z = true := by
  unfold inR; simp; omega
theorem M_pow : M = 2 ^ 256 := rfl
def manT (n : Nat) : Nat := n % 8388608
def expT (n : Nat) : Nat := n / 16777216
/-- The number of bits, whether it fits or not. -/
def rawT (n : Nat) : Nat := manT n * 2 ^ (8 * (expT n - 3)) / 2 ^ (8 * (3 - expT n))
/-- Bits tell a target. -/
abbrev okT (n : Nat) : Prop := n / 8388608 % 2 = 0 ∧ rawT n < M ∧ rawT n ≠ 0
theorem man_lt (n : Nat) : manT n < 8388608 := Nat.mod_lt _ (by decide)
theorem man_M (n : Nat) : manT n < M := Nat.lt_trans (man_lt n) (by decide)
theorem exp_lt {n : Nat} (h : n < 4294967296) : expT n < 256 := by unfold expT; omega
theorem u32_64 (x : UInt32) : x.toUInt64.toNat = x.toNat := by simp
theorem man_s (b : UInt32) : (UInt32.toUInt64 (andK .u32 b (8388607 : UInt32))).toNat = manT b.toNat := by
  have e : (andK .u32 b (8388607 : UInt32) : UInt32).toNat = manT b.toNat := by
    refine (congrArg UInt32.toNat (and32 _ _)).trans ?_
    show (b &&& 8388607).toNat = _
    rw [UInt32.toNat_and]
    exact Nat.and_two_pow_sub_one_eq_mod b.toNat 23
  exact (u32_64 _).trans e
theorem and_pow (n i : Nat) : n &&& 2 ^ i = (n / 2 ^ i % 2) * 2 ^ i := by
  refine Nat.eq_of_testBit_eq fun j => ?_
  rw [Nat.testBit_and, Nat.testBit_two_pow]
  have h : n / 2 ^ i % 2 < 2 := Nat.mod_lt _ (by decide)
  by_cases hj : i = j
  · subst hj
    rw [Nat.testBit_eq_decide_div_mod_eq]
    generalize n / 2 ^ i % 2 = q at h
    rcases (show q = 0 ∨ q = 1 by omega) with rfl | rfl
    · simp
    · simp
  · rw [decide_eq_false hj, Bool.and_false]
    generalize n / 2 ^ i % 2 = q at h
    rcases (show q = 0 ∨ q = 1 by omega) with rfl | rfl
    · simp
    · rw [Nat.one_mul, Nat.testBit_two_pow, decide_eq_false hj]
theorem bar_s (b : UInt32) : @decide (@Eq UInt32 (andK .u32 b (8388608 : UInt32)) (0 : UInt32)) (instDecidableEqUInt32 _ _) = decide (b.toNat / 8388608 % 2 = 0) := by
  have e : (andK .u32 b (8388608 : UInt32) : UInt32).toNat = (b.toNat / 8388608 % 2) * 8388608 := by
    refine (congrArg UInt32.toNat (and32 _ _)).trans ?_
    show (b &&& 8388608).toNat = _
    rw [UInt32.toNat_and]
    show b.toNat &&& 2 ^ 23 = _
    exact and_pow b.toNat 23
  refine decide_eq_decide.2 ⟨fun h => ?_, fun h => u32_eq ?_⟩
  · have := congrArg UInt32.toNat h
    rw [e] at this
    have h0 : (0 : UInt32).toNat = 0 := rfl
    rw [h0] at this
    omega
  · rw [e, h]; rfl
theorem exp_s24 (b : UInt32) : (shrK .u32 b 24 : UInt32).toNat = expT b.toNat := by
  show (UInt32.ofNat (b.toNat / 2 ^ min 24 32)).toNat = _
  have h := ut32 b
  rw [show 2 ^ min 24 32 = 16777216 from rfl, un32 _ (by omega)]
  rfl
theorem fit_T {m k : Nat} (h0 : m ≠ 0) (hm : m < M) : 256 < blen m + 8 * k ↔ M ≤ m * 2 ^ (8 * k) := by
  obtain ⟨b1, b2, b3⟩ := blen_bounds m hm h0
  constructor
  · intro h
    have h1 : 2 ^ (blen m - 1) * 2 ^ (8 * k) ≤ m * 2 ^ (8 * k) := Nat.mul_le_mul_right _ b2
    rw [← Nat.pow_add] at h1
    have h2 : 2 ^ 256 ≤ 2 ^ (blen m - 1 + 8 * k) := Nat.pow_le_pow_right (by decide) (by omega)
    rw [M_pow]; exact Nat.le_trans h2 h1
  · intro h
    refine Nat.lt_of_not_le fun hc => ?_
    have h1 : m * 2 ^ (8 * k) < 2 ^ blen m * 2 ^ (8 * k) := Nat.mul_lt_mul_of_pos_right b3 (Nat.two_pow_pos _)
    rw [← Nat.pow_add] at h1
    have h2 : 2 ^ (blen m + 8 * k) ≤ 2 ^ 256 := Nat.pow_le_pow_right (by decide) hc
    rw [M_pow] at h
    omega
theorem blen_small {m : Nat} (h : m < 8388608) : blen m ≤ 23 := by
  by_cases h0 : m = 0
  · subst h0; decide
  · obtain ⟨b1, b2, b3⟩ := blen_bounds m (Nat.lt_trans h (by decide)) h0
    refine Nat.le_of_not_lt fun hc => ?_
    have := Nat.pow_le_pow_right (n := 2) (by decide) (show 23 ≤ blen m - 1 by omega)
    omega
theorem fShl_z {a : Nat} (ha : a < M) {z : Int} (hz : z < 9223372036854775808) : fShl (wl a, z) = some (wl (a * 2 ^ z.toNat % M)) := by
  rw [fShl_eq]; simp only [val_wl ha]
  exact guard_if (decide_eq_true hz) _
theorem fShr_z {a : Nat} (ha : a < M) {z : Int} (hz : z < 9223372036854775808) : fShr (wl a, z) = some (wl (a / 2 ^ z.toNat)) := by
  rw [fShr_eq]; simp only [val_wl ha]
  exact guard_if (decide_eq_true hz) _
theorem mv_s {a : Nat} (ha : a < M) {z : Int} (h1 : -4096 ≤ z) (h2 : z ≤ 4096) : T.m58 (wl a, z) = some (wl (a * 2 ^ z.toNat % M / 2 ^ (-z).toNat)) := by
  refine (T.m58_eq _).trans ?_
  unfold T.b58
  refine bnd_ex' (fShl_z ha (by omega)) ?_
  refine Eq.trans (guard_if (inR_of (by omega) (by omega)) _) ?_
  refine bnd_ex' (fShr_z (Nat.mod_lt _ M_pos) (by omega)) ?_
  rw [show (0 : Int) - z = -z by omega]
theorem eq_0 {a : Nat} (ha : a < M) : eqD (.arr 4 (.int .u64)) (wl a) ([(0 : UInt64), 0, 0, 0] : List UInt64) = decide (a = 0) :=
  (congrArg (fun l : List UInt64 => eqD (.arr 4 (.int .u64)) (wl a) l) wl_zero).trans (eq_wl ha M_pos)
/-- What moving by so many bytes makes of the mantissa, where it fits. -/
theorem mv_raw {n : Nat} (h : manT n * 2 ^ (8 * (expT n - 3)) < M) : manT n * 2 ^ (8 * ((expT n : Int) - 3)).toNat % M / 2 ^ (-(8 * ((expT n : Int) - 3))).toNat = rawT n := by
  rw [show (8 * ((expT n : Int) - 3)).toNat = 8 * (expT n - 3) by omega, show (-(8 * ((expT n : Int) - 3))).toNat = 8 * (3 - expT n) by omega, Nat.mod_eq_of_lt h]
  rfl
theorem expand_s (b : UInt32) : T.m32 b = some (if okT b.toNat then (wl (rawT b.toNat), (0 : Int)) else (wl 0, (3 : Int))) := by
  have hn := ut32 b
  refine (T.m32_eq _).trans ?_
  unfold T.b32
  have k0 : fFrom (UInt32.toUInt64 (andK .u32 b (8388607 : UInt32))) = some (wl (manT b.toNat)) := by rw [fFrom_s, man_s]
  refine bnd_ex' k0 ?_
  have he := exp_lt hn
  have e24 : ((shrK .u32 b 24 : UInt32).toNat : Int) = (expT b.toNat : Int) := by rw [exp_s24]
  refine Eq.trans (guard_if (by decide) _) ?_
  refine Eq.trans (guard_if (by rw [e24]; exact inR_of (by omega) (by omega)) _) ?_
  refine Eq.trans (guard_if (by rw [e24]; exact inR_of (by omega) (by omega)) _) ?_
  refine Eq.trans (guard_if (by rw [e24]; exact inR_of (by omega) (by omega)) _) ?_
  rw [e24]
  generalize hN : b.toNat = n at *
  have hbar := bar_s b
  rw [hN] at hbar
  by_cases h0 : n / 8388608 % 2 = 0
  · refine Eq.trans (cnd_f (by rw [hbar, decide_eq_true h0]; rfl) _ _) ?_
    have hm := man_M n
    have hm2 := man_lt n
    have hbl := blen_small hm2
    refine bnd_ex' (fLen_s hm) ?_
    refine Eq.trans (guard_if (inR_of (by omega) (by omega)) _) ?_
    by_cases hz : (256 : Int) < (blen (manT n) : Int) + 8 * ((expT n : Int) - 3)
    · refine Eq.trans (cnd_t (decide_eq_true hz) _ _) ?_
      rw [if_neg fun hc => ?_]
      · exact congrArg (fun l : List UInt64 => some (l, (3 : Int))) wl_zero
      · obtain ⟨_, c2, c3⟩ := hc
        have h3 : 3 ≤ expT n := by omega
        have hne : manT n ≠ 0 := fun e => c3 (by unfold rawT; rw [e, Nat.zero_mul, Nat.zero_div])
        have := (fit_T hne hm (k := expT n - 3)).1 (by omega)
        have e : rawT n = manT n * 2 ^ (8 * (expT n - 3)) := by unfold rawT; rw [show 3 - expT n = 0 by omega, Nat.mul_zero, Nat.pow_zero, Nat.div_one]
        omega
    · refine Eq.trans (cnd_f (decide_eq_false hz) _ _) ?_
      have hfit : manT n * 2 ^ (8 * (expT n - 3)) < M := by
        by_cases hne : manT n = 0
        · rw [hne, Nat.zero_mul]; exact M_pos
        · refine Nat.lt_of_not_le fun hc => ?_
          have := (fit_T hne hm (k := expT n - 3)).2 hc
          have hlt : 256 < blen (manT n) + 8 * (expT n - 3) := this
          by_cases h3 : 3 ≤ expT n
          · omega
          · rw [show expT n - 3 = 0 by omega] at hlt; omega
      have hr : rawT n < M := Nat.lt_of_le_of_lt (Nat.div_le_self _ _) hfit
      have k1 : T.m58 (wl (manT n), 8 * ((expT n : Int) - 3)) = some (wl (rawT n)) := by
        rw [mv_s hm (by omega) (by omega), mv_raw hfit]
      refine bnd_ex' k1 ?_
      by_cases hr0 : rawT n = 0
      · refine Eq.trans (cnd_t ((eq_0 hr).trans (decide_eq_true hr0)) _ _) ?_
        rw [if_neg fun hc => hc.2.2 hr0]
        exact congrArg (fun l : List UInt64 => some (l, (3 : Int))) wl_zero
      · refine Eq.trans (cnd_f ((eq_0 hr).trans (decide_eq_false hr0)) _ _) ?_
        rw [if_pos ⟨h0, hr, hr0⟩]
  · refine Eq.trans (cnd_t (by rw [hbar, decide_eq_false h0]; rfl) _ _) ?_
    rw [if_neg fun hc => h0 hc.1]
    exact congrArg (fun l : List UInt64 => some (l, (3 : Int))) wl_zero
/-! Compact -/
/-- How many bytes. -/
def lenT (t : Nat) : Nat := (blen t + 7) / 8
/-- The highest three of them. -/
def topT (t : Nat) : Nat := t * 2 ^ (8 * (3 - lenT t)) / 2 ^ (8 * (lenT t - 3))
def cpT (t : Nat) : Nat := if 8388608 ≤ topT t then (lenT t + 1) * 16777216 + topT t / 256 else lenT t * 16777216 + topT t
theorem lenT_le {t : Nat} (ht : t < M) : lenT t ≤ 32 := by
  have := blen_le t ht
  unfold lenT; omega
theorem lenT_up {t : Nat} (ht : t < M) : t < 2 ^ (8 * lenT t) := by
  by_cases h0 : t = 0
  · subst h0; exact Nat.two_pow_pos _
  · obtain ⟨_, _, b3⟩ := blen_bounds t ht h0
    exact Nat.lt_of_lt_of_le b3 (Nat.pow_le_pow_right (by decide) (by unfold lenT; omega))
theorem lenT_low {t : Nat} (ht : t < M) (h0 : t ≠ 0) : 1 ≤ lenT t ∧ 2 ^ (8 * (lenT t - 1)) ≤ t := by
  obtain ⟨b1, b2, _⟩ := blen_bounds t ht h0
  have h1 : 1 ≤ lenT t := by unfold lenT; omega
  exact ⟨h1, Nat.le_trans (Nat.pow_le_pow_right (by decide) (by unfold lenT; omega)) b2⟩
theorem topT_mul {t : Nat} (ht : t < M) : t * 2 ^ (8 * (3 - lenT t)) < M := by
  by_cases h : 3 ≤ lenT t
  · rw [show 3 - lenT t = 0 by omega, Nat.mul_zero, Nat.pow_zero, Nat.mul_one]; exact ht
  · have h1 := lenT_up ht
    have h2 : t * 2 ^ (8 * (3 - lenT t)) < 2 ^ (8 * lenT t) * 2 ^ (8 * (3 - lenT t)) := Nat.mul_lt_mul_of_pos_right h1 (Nat.two_pow_pos _)
    rw [← Nat.pow_add, show 8 * lenT t + 8 * (3 - lenT t) = 24 by omega] at h2
    exact Nat.lt_trans h2 (by decide)
theorem topT_lt {t : Nat} (ht : t < M) : topT t < 16777216 := by
  have h1 := lenT_up ht
  unfold topT
  by_cases h : 3 ≤ lenT t
  · rw [show 3 - lenT t = 0 by omega, Nat.mul_zero, Nat.pow_zero, Nat.mul_one]
    refine Nat.div_lt_of_lt_mul ?_
    rw [show (16777216 : Nat) = 2 ^ 24 from rfl, ← Nat.pow_add, show 8 * (lenT t - 3) + 24 = 8 * lenT t by omega]
    exact h1
  · have h2 : t * 2 ^ (8 * (3 - lenT t)) < 2 ^ (8 * lenT t) * 2 ^ (8 * (3 - lenT t)) := Nat.mul_lt_mul_of_pos_right h1 (Nat.two_pow_pos _)
    rw [← Nat.pow_add, show 8 * lenT t + 8 * (3 - lenT t) = 24 by omega] at h2
    exact Nat.lt_of_le_of_lt (Nat.div_le_self _ _) h2
theorem pack_T {n m : Nat} (hn : n < 256) (hm : m < 16777216) : orK .u32 (shlK .u32 (ofI .u32 (n : Int)) 24) (UInt64.toUInt32 (UInt64.ofNat m)) = UInt32.ofNat (n * 16777216 + m) := by
  refine u32_eq ?_
  refine (congrArg UInt32.toNat (or32 _ _)).trans ?_
  have e1 : (shlK .u32 (ofI .u32 (n : Int)) 24 : UInt32).toNat = n * 16777216 := by
    show (UInt32.ofNat ((UInt32.ofNat ((n : Int) % 4294967296).toNat).toNat * 2 ^ min 24 32)).toNat = _
    rw [show ((n : Int) % 4294967296).toNat = n by omega, un32 n (by omega), show 2 ^ min 24 32 = 16777216 from rfl, un32 _ (by omega)]
  have e2 : (UInt64.toUInt32 (UInt64.ofNat m)).toNat = m := by
    rw [UInt64.toNat_toUInt32, un m (by omega)]; omega
  show ((show UInt32 from shlK .u32 (ofI .u32 (n : Int)) 24) ||| (UInt64.toUInt32 (UInt64.ofNat m))).toNat = _
  rw [UInt32.toNat_or]
  refine (congr (congrArg (fun p q : Nat => p ||| q) e1) e2).trans ?_
  rw [un32 _ (by omega)]
  have h := Nat.two_pow_add_eq_or_of_lt (i := 24) (b := m) (by omega) n
  rw [show (2 : Nat) ^ 24 = 16777216 from rfl, Nat.mul_comm] at h
  exact h.symm
theorem low_word {m : Nat} (h : m < 18446744073709551616) : List.getD (wl m) 0 (0 : UInt64) = UInt64.ofNat m := by
  rw [wl_eq]
  show UInt64.ofNat (m % 18446744073709551616) = _
  rw [Nat.mod_eq_of_lt h]
theorem mv_top {t : Nat} (ht : t < M) : t * 2 ^ (8 * ((3 : Int) - (lenT t : Int))).toNat % M / 2 ^ (-(8 * ((3 : Int) - (lenT t : Int)))).toNat = topT t := by
  have h := lenT_le ht
  rw [show (8 * ((3 : Int) - (lenT t : Int))).toNat = 8 * (3 - lenT t) by omega, show (-(8 * ((3 : Int) - (lenT t : Int)))).toNat = 8 * (lenT t - 3) by omega, Nat.mod_eq_of_lt (topT_mul ht)]
  rfl
theorem compact_s {t : Nat} (ht : t < M) : T.m35 (wl t) = some (UInt32.ofNat (cpT t)) := by
  refine (T.m35_eq _).trans ?_
  unfold T.b35
  have hl := lenT_le ht
  have hb := blen_le t ht
  have htop := topT_lt ht
  refine bnd_ex' (fLen_s ht) ?_
  have e8 : Int.tdiv ((blen t : Int) + 7) 8 = (lenT t : Int) := rfl
  refine Eq.trans (guard_if (inR_of (by omega) (by omega)) _) ?_
  refine Eq.trans (guard_if (by rw [e8]; exact inR_of (by omega) (by omega)) _) ?_
  refine Eq.trans (guard_if (by rw [e8]; exact inR_of (by omega) (by omega)) _) ?_
  refine Eq.trans (guard_if (by rw [e8]; exact inR_of (by omega) (by omega)) _) ?_
  rw [e8]
  have k1 : T.m58 (wl t, 8 * ((3 : Int) - (lenT t : Int))) = some (wl (topT t)) := by
    rw [mv_s ht (by omega) (by omega), mv_top ht]
  refine bnd_ex' k1 ?_
  rw [low_word (by omega)]
  have hge : decide ((8388608 : UInt64) ≤ UInt64.ofNat (topT t)) = decide (8388608 ≤ topT t) := by
    refine decide_eq_decide.2 ?_
    rw [UInt64.le_iff_toNat_le, un _ (by omega)]
    rfl
  by_cases h : 8388608 ≤ topT t
  · refine Eq.trans (cnd_t (hge.trans (decide_eq_true h)) _ _) ?_
    refine Eq.trans (guard_if rfl _) ?_
    refine Eq.trans (guard_if (inR_of (by omega) (by omega)) _) ?_
    refine Eq.trans (guard_if rfl _) ?_
    refine Eq.trans (guard_if rfl _) ?_
    have e1 : UInt64.ofNat (topT t) / 256 = UInt64.ofNat (topT t / 256) := by
      refine u_eq ?_
      rw [UInt64.toNat_div, un _ (by omega), un _ (by omega)]
      rfl
    rw [e1]
    have := pack_T (n := lenT t + 1) (m := topT t / 256) (by omega) (by omega)
    unfold cpT
    rw [if_pos h, ← this]
    rfl
  · refine Eq.trans (cnd_f (hge.trans (decide_eq_false h)) _ _) ?_
    refine Eq.trans (guard_if rfl _) ?_
    refine Eq.trans (guard_if rfl _) ?_
    have := pack_T (n := lenT t) (m := topT t) (by omega) htop
    unfold cpT
    rw [if_neg h, ← this]
end Go.Proofs.Ytpfoeeiacfadfaa.Q
