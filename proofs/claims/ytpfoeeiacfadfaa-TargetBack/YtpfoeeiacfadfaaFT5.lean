/-
  TargetBack and TargetHarder, in numbers.
-/
import Derived.Test.YtpfoeeiacfadfaaFT4
namespace Go.Proofs.Ytpfoeeiacfadfaa.Q
open Go.RowKit

/-- How many bytes are dropped. -/
def dropT (t : Nat) : Nat := if 8388608 ≤ topT t then lenT t - 2 else lenT t - 3
theorem cp_parts {t : Nat} (ht : t < M) : cpT t < 4294967296 ∧ cpT t / 8388608 % 2 = 0 ∧ (8388608 ≤ topT t → expT (cpT t) = lenT t + 1 ∧ manT (cpT t) = topT t / 256) ∧ (¬ 8388608 ≤ topT t → expT (cpT t) = lenT t ∧ manT (cpT t) = topT t) := by
  have h1 := topT_lt ht
  have h2 := lenT_le ht
  unfold cpT expT manT
  by_cases h : 8388608 ≤ topT t
  · rw [if_pos h]
    exact ⟨by omega, by omega, fun _ => ⟨by omega, by omega⟩, fun hc => absurd h hc⟩
  · rw [if_neg h]
    exact ⟨by omega, by omega, fun hc => absurd hc h, fun _ => ⟨by omega, by omega⟩⟩
/-- THE TARGET OF A TARGET's BITS: the lowest bytes are dropped. -/
theorem raw_cp {t : Nat} (ht : t < M) : rawT (cpT t) = t / 2 ^ (8 * dropT t) * 2 ^ (8 * dropT t) := by
  obtain ⟨_, _, p1, p2⟩ := cp_parts ht
  have p16 : (256 : Nat) = 2 ^ 8 := rfl
  by_cases h : 8388608 ≤ topT t
  · obtain ⟨e1, e2⟩ := p1 h
    unfold rawT dropT
    rw [if_pos h, e1, e2]
    unfold topT
    rcases (show lenT t = 0 ∨ lenT t = 1 ∨ lenT t = 2 ∨ 3 ≤ lenT t by omega) with hn | hn | hn | hn
    · exfalso
      have hu := lenT_up ht
      rw [hn] at hu
      have : t = 0 := by
        have : t < 1 := hu
        omega
      subst this
      have : topT 0 = 0 := rfl
      omega
    · rw [hn]
      show t * 65536 / 1 / 256 * 1 / 256 = t / 1 * 1
      omega
    · rw [hn]
      show t * 256 / 1 / 256 * 1 / 1 = t / 1 * 1
      omega
    · rw [show 3 - lenT t = 0 by omega, show 3 - (lenT t + 1) = 0 by omega, Nat.mul_zero, Nat.pow_zero, Nat.mul_one, Nat.div_one, show lenT t + 1 - 3 = lenT t - 2 by omega, Nat.div_div_eq_div_mul, p16, ← Nat.pow_add, show 8 * (lenT t - 3) + 8 = 8 * (lenT t - 2) by omega]
  · obtain ⟨e1, e2⟩ := p2 h
    unfold rawT dropT
    rw [if_neg h, e1, e2]
    unfold topT
    rcases (show lenT t = 0 ∨ lenT t = 1 ∨ lenT t = 2 ∨ 3 ≤ lenT t by omega) with hn | hn | hn | hn
    · rw [hn]
      show t * 16777216 / 1 * 1 / 16777216 = t / 1 * 1
      omega
    · rw [hn]
      show t * 65536 / 1 * 1 / 65536 = t / 1 * 1
      omega
    · rw [hn]
      show t * 256 / 1 * 1 / 256 = t / 1 * 1
      omega
    · rw [show 3 - lenT t = 0 by omega, Nat.mul_zero, Nat.pow_zero, Nat.mul_one, Nat.div_one]
theorem floor_le (t k : Nat) : t / 2 ^ k * 2 ^ k ≤ t := Nat.div_mul_le_self _ _
theorem floor_ge {t k j : Nat} (hk : k ≤ j) (h : 2 ^ j ≤ t) : 2 ^ j ≤ t / 2 ^ k * 2 ^ k := by
  have h1 : 2 ^ (j - k) ≤ t / 2 ^ k := by
    rw [Nat.le_div_iff_mul_le (Nat.two_pow_pos _), ← Nat.pow_add, Nat.sub_add_cancel hk]
    exact h
  have h2 := Nat.mul_le_mul_right (2 ^ k) h1
  rw [← Nat.pow_add, Nat.sub_add_cancel hk] at h2
  exact h2
theorem drop_le {t : Nat} (ht : t < M) (h0 : t ≠ 0) : dropT t ≤ lenT t - 1 := by
  have := (lenT_low ht h0).1
  unfold dropT; split <;> omega
theorem cp_ok {t : Nat} (ht : t < M) (h0 : t ≠ 0) : okT (cpT t) := by
  obtain ⟨_, h1, _⟩ := cp_parts ht
  refine ⟨h1, ?_, ?_⟩
  · rw [raw_cp ht]; exact Nat.lt_of_le_of_lt (floor_le _ _) ht
  · rw [raw_cp ht]
    have := floor_ge (k := 8 * dropT t) (show 8 * dropT t ≤ 8 * (lenT t - 1) by have := drop_le ht h0; omega) (lenT_low ht h0).2
    have := Nat.two_pow_pos (8 * (lenT t - 1))
    omega
theorem lenT_of {u n : Nat} (hu : u < M) (h1 : 1 ≤ n) (h2 : 2 ^ (8 * (n - 1)) ≤ u) (h3 : u < 2 ^ (8 * n)) : lenT u = n := by
  have hp := Nat.two_pow_pos (8 * (n - 1))
  have h0 : u ≠ 0 := by omega
  obtain ⟨g1, g2⟩ := lenT_low hu h0
  have g3 := lenT_up hu
  rcases Nat.lt_trichotomy (lenT u) n with h | h | h
  · exfalso
    have := Nat.pow_le_pow_right (n := 2) (by decide) (show 8 * lenT u ≤ 8 * (n - 1) by omega)
    omega
  · exact h
  · exfalso
    have := Nat.pow_le_pow_right (n := 2) (by decide) (show 8 * n ≤ 8 * (lenT u - 1) by omega)
    omega
theorem len_same {t : Nat} (ht : t < M) (h0 : t ≠ 0) : lenT (rawT (cpT t)) = lenT t := by
  obtain ⟨g1, g2⟩ := lenT_low ht h0
  have hd := drop_le ht h0
  rw [raw_cp ht]
  exact lenT_of (Nat.lt_of_le_of_lt (floor_le _ _) ht) g1 (floor_ge (by omega) g2) (Nat.lt_of_le_of_lt (floor_le _ _) (lenT_up ht))
theorem top_same {t : Nat} (ht : t < M) (h0 : t ≠ 0) : topT (rawT (cpT t)) = if 8388608 ≤ topT t then topT t / 256 * 256 else topT t := by
  have hl := len_same ht h0
  unfold topT at hl ⊢
  rw [hl, raw_cp ht]
  have p16 : (256 : Nat) = 2 ^ 8 := rfl
  by_cases h3 : 3 ≤ lenT t
  · rw [show 3 - lenT t = 0 by omega, Nat.mul_zero, Nat.pow_zero, Nat.mul_one, Nat.mul_one]
    have et : t / 2 ^ (8 * (lenT t - 3)) = topT t := by unfold topT; rw [show 3 - lenT t = 0 by omega, Nat.mul_zero, Nat.pow_zero, Nat.mul_one]
    rw [et]
    unfold dropT
    by_cases h : 8388608 ≤ topT t
    · rw [if_pos h, if_pos h, show 8 * (lenT t - 2) = 8 * (lenT t - 3) + 8 by omega, Nat.pow_add, ← Nat.div_div_eq_div_mul, et, Nat.mul_comm (2 ^ (8 * (lenT t - 3))), ← Nat.mul_assoc, Nat.mul_div_cancel _ (Nat.two_pow_pos _)]
    · rw [if_neg h, if_neg h, Nat.mul_div_cancel _ (Nat.two_pow_pos _), et]
  · have hd : dropT t = 0 := by unfold dropT; split <;> omega
    rw [hd, Nat.mul_zero, Nat.pow_zero, Nat.div_one, Nat.mul_one, show lenT t - 3 = 0 by omega, Nat.mul_zero, Nat.pow_zero, Nat.div_one]
    have et : t * 2 ^ (8 * (3 - lenT t)) = topT t := by unfold topT; rw [show lenT t - 3 = 0 by omega, Nat.mul_zero, Nat.pow_zero, Nat.div_one]
    rw [et]
    split
    · have g1 := (lenT_low ht h0).1
      have : topT t % 256 = 0 := by
        rw [← et]
        rcases (show lenT t = 1 ∨ lenT t = 2 by omega) with hn | hn
        · rw [hn]; show t * 65536 % 256 = 0; omega
        · rw [hn]; show t * 256 % 256 = 0; omega
      omega
    · rfl
theorem cp_same {t : Nat} (ht : t < M) (h0 : t ≠ 0) : cpT (rawT (cpT t)) = cpT t := by
  have h1 := len_same ht h0
  have h2 := top_same ht h0
  unfold cpT at h1 h2 ⊢
  rw [h1, h2]
  by_cases h : 8388608 ≤ topT t
  · rw [if_pos h, if_pos h, if_pos (by omega)]
    omega
  · rw [if_neg h, if_neg h]
/-- What is dropped is short. -/
theorem rest_len {t : Nat} (ht : t < M) (h0 : t ≠ 0) : blen (t - rawT (cpT t)) ≤ blen t - 15 := by
  have e : t - rawT (cpT t) = t % 2 ^ (8 * dropT t) := by
    have := Nat.div_add_mod t (2 ^ (8 * dropT t))
    rw [raw_cp ht, Nat.mul_comm]
    omega
  rw [e]
  have hlt : t % 2 ^ (8 * dropT t) < 2 ^ (8 * dropT t) := Nat.mod_lt _ (Nat.two_pow_pos _)
  by_cases hz : t % 2 ^ (8 * dropT t) = 0
  · rw [hz]; exact Nat.zero_le _
  · have hM : t % 2 ^ (8 * dropT t) < M := Nat.lt_of_le_of_lt (Nat.mod_le _ _) ht
    obtain ⟨b1, b2, b3⟩ := blen_bounds _ hM hz
    have h1 : blen (t % 2 ^ (8 * dropT t)) ≤ 8 * dropT t := by
      refine Nat.le_of_not_lt fun hc => ?_
      have := Nat.pow_le_pow_right (n := 2) (by decide) (show 8 * dropT t ≤ blen (t % 2 ^ (8 * dropT t)) - 1 by omega)
      omega
    obtain ⟨c1, c2, c3⟩ := blen_bounds t ht h0
    have hd0 : dropT t ≠ 0 := fun hc => hz (by rw [hc, Nat.mul_zero, Nat.pow_zero, Nat.mod_one])
    have hl : lenT t = (blen t + 7) / 8 := rfl
    by_cases h : 8388608 ≤ topT t
    · have hd : dropT t = lenT t - 2 := by unfold dropT; rw [if_pos h]
      have h3 : 3 ≤ lenT t := by omega
      have h4 : 2 ^ (8 * lenT t - 1) ≤ t := by
        have : 8388608 ≤ t / 2 ^ (8 * (lenT t - 3)) := by
          have et : t / 2 ^ (8 * (lenT t - 3)) = topT t := by unfold topT; rw [show 3 - lenT t = 0 by omega, Nat.mul_zero, Nat.pow_zero, Nat.mul_one]
          rw [et]; exact h
        rw [Nat.le_div_iff_mul_le (Nat.two_pow_pos _), show (8388608 : Nat) = 2 ^ 23 from rfl, ← Nat.pow_add, show 23 + 8 * (lenT t - 3) = 8 * lenT t - 1 by omega] at this
        exact this
      have h5 : 8 * lenT t ≤ blen t := by
        refine Nat.le_of_not_lt fun hc => ?_
        have := Nat.pow_le_pow_right (n := 2) (by decide) (show blen t ≤ 8 * lenT t - 1 by omega)
        omega
      omega
    · have hd : dropT t = lenT t - 3 := by unfold dropT; rw [if_neg h]
      omega
/-- What bits tell has bits that tell it. -/
theorem raw_back {n : Nat} (h : okT n) : rawT (cpT (rawT n)) = rawT n := by
  have ht := h.2.1
  have h0 := h.2.2
  have hm := man_lt n
  rw [raw_cp ht]
  by_cases he : 3 ≤ expT n
  · have hr := raw_hi he
    have hle : lenT (rawT n) ≤ expT n := by
      refine Nat.le_of_not_lt fun hc => ?_
      have h1 := (lenT_low ht h0).2
      have h2 : rawT n < 2 ^ (8 * expT n) := by
        rw [hr]
        have : manT n * 2 ^ (8 * (expT n - 3)) < 2 ^ 24 * 2 ^ (8 * (expT n - 3)) := Nat.mul_lt_mul_of_pos_right (by omega) (Nat.two_pow_pos _)
        rw [← Nat.pow_add, show 24 + 8 * (expT n - 3) = 8 * expT n by omega] at this
        exact this
      have := Nat.pow_le_pow_right (n := 2) (by decide) (show 8 * expT n ≤ 8 * (lenT (rawT n) - 1) by omega)
      omega
    have hd : dropT (rawT n) ≤ expT n - 3 := by
      unfold dropT
      split
      · rename_i hbig
        rcases Nat.lt_or_ge (lenT (rawT n)) (expT n) with hlt | hge
        · omega
        · exfalso
          have e : lenT (rawT n) = expT n := Nat.le_antisymm hle hge
          unfold topT at hbig
          rw [e, show 3 - expT n = 0 by omega, Nat.mul_zero, Nat.pow_zero, Nat.mul_one, hr, Nat.mul_div_cancel _ (Nat.two_pow_pos _)] at hbig
          omega
      · omega
    obtain ⟨k, hk⟩ : ∃ k, expT n - 3 = dropT (rawT n) + k := ⟨expT n - 3 - dropT (rawT n), by omega⟩
    refine Nat.div_mul_cancel ?_
    generalize dropT (rawT n) = dd at hk ⊢
    rw [hr, hk, Nat.mul_add, Nat.pow_add, ← Nat.mul_assoc, Nat.mul_comm (manT n), Nat.mul_assoc]
    exact Nat.dvd_mul_right _ _
  · have hsm : rawT n < 65536 := by
      unfold rawT
      rw [show expT n - 3 = 0 by omega, Nat.mul_zero, Nat.pow_zero, Nat.mul_one]
      refine Nat.div_lt_of_lt_mul ?_
      have : 2 ^ 8 ≤ 2 ^ (8 * (3 - expT n)) := Nat.pow_le_pow_right (by decide) (by omega)
      have := Nat.mul_le_mul_right 65536 this
      omega
    have hl : lenT (rawT n) ≤ 2 := by
      refine Nat.le_of_not_lt fun hc => ?_
      have h1 := (lenT_low ht h0).2
      have := Nat.pow_le_pow_right (n := 2) (by decide) (show 16 ≤ 8 * (lenT (rawT n) - 1) by omega)
      omega
    have hd : dropT (rawT n) = 0 := by unfold dropT; split <;> omega
    rw [hd, Nat.mul_zero, Nat.pow_zero, Nat.div_one, Nat.mul_one]
theorem cp_u {t : Nat} (ht : t < M) : (UInt32.ofNat (cpT t)).toNat = cpT t := un32 _ (cp_parts ht).1
theorem eq_u {a b : Nat} (ha : a < M) (hb : b < M) (h : a = b) : eqD (.arr 4 (.int .u64)) (wl a) (wl b) = true := (eq_wl ha hb).trans (decide_eq_true h)
theorem target_back {t : Nat} (ht : t < M) (b : UInt32) : T.U.m12 (wl t, b) = some true := by
  refine (T.U.m12_eq _).trans ?_
  unfold T.U.b12
  refine bnd_ex' (expand_s b) ?_
  have l0 : T.U.l12_0 ((decide ((if okT b.toNat then (wl (rawT b.toNat), (0 : Int)) else (wl 0, (3 : Int))).2 = (0 : Int))), wl t, (if okT b.toNat then (wl (rawT b.toNat), (0 : Int)) else (wl 0, (3 : Int))).1) = some (.n (wl t)) := by
    refine (T.U.l12_0_eq _).trans ?_
    unfold T.U.a12_0
    by_cases h : okT b.toNat
    · rw [if_pos h]
      refine Eq.trans (cnd_t rfl _ _) ?_
      refine bnd_ex' (compact_s h.2.1) ?_
      refine bnd_ex' (expand_s _) ?_
      rw [cp_u h.2.1, if_pos (cp_ok h.2.1 h.2.2), raw_back h]
      refine Eq.trans (cnd_f rfl _ _) ?_
      exact Eq.trans (cnd_f (congrArg (fun b => !b) (eq_u h.2.1 h.2.1 rfl)) _ _) rfl
    · rw [if_neg h]
      exact Eq.trans (cnd_f rfl _ _) rfl
  refine bnd_ex' l0 ?_
  by_cases h0 : t = 0
  · refine Eq.trans (cnd_t ((eq_0 ht).trans (decide_eq_true h0)) _ _) ?_
    exact bnd_ex' alive10_s rfl
  · refine Eq.trans (cnd_f ((eq_0 ht).trans (decide_eq_false h0)) _ _) ?_
    have hok := cp_ok ht h0
    have hU : rawT (cpT t) ≤ t := by rw [raw_cp ht]; exact floor_le _ _
    have hUM := hok.2.1
    refine bnd_ex' (compact_s ht) ?_
    refine bnd_ex' (expand_s _) ?_
    rw [cp_u ht, if_pos hok]
    refine Eq.trans (cnd_f rfl _ _) ?_
    refine bnd_ex' (cmp_s hUM ht) ?_
    refine Eq.trans (cnd_f (cmp_pos.trans (decide_eq_false (Nat.not_lt_of_le hU))) _ _) ?_
    refine bnd_ex' (compact_s hUM) ?_
    rw [cp_same ht h0]
    refine Eq.trans (cnd_f (congrArg (fun b => !b) (decide_eq_true rfl)) _ _) ?_
    refine bnd_ex' (fSub_s ht hUM) ?_
    rw [show (t + M - rawT (cpT t)) % M = t - rawT (cpT t) by rw [show t + M - rawT (cpT t) = (t - rawT (cpT t)) + M by omega, Nat.add_mod_right, Nat.mod_eq_of_lt (by omega)]]
    refine bnd_ex' alive10_s ?_
    refine Eq.trans (cnd_t rfl _ _) ?_
    have hdM : t - rawT (cpT t) < M := by omega
    refine bnd_ex' (fLen_s hdM) ?_
    refine bnd_ex' (fLen_s ht) ?_
    have hb := blen_le t ht
    refine Eq.trans (guard_if (inR_of (by omega) (by omega)) _) ?_
    have hr := rest_len ht h0
    refine congrArg some (decide_eq_true ?_)
    by_cases hp : (0 : Int) < (blen t : Int) - 15
    · rw [decide_eq_true hp]
      show ((blen (t - rawT (cpT t)) : Nat) : Int) ≤ (blen t : Int) - 15
      omega
    · rw [decide_eq_false hp]
      show ((blen (t - rawT (cpT t)) : Nat) : Int) ≤ 0
      omega
/-! Harder. -/
theorem eq_1 {a : Nat} (ha : a < M) : eqD (.arr 4 (.int .u64)) (wl a) ([(1 : UInt64), 0, 0, 0] : List UInt64) = decide (a = 1) :=
  (congrArg (fun l : List UInt64 => eqD (.arr 4 (.int .u64)) (wl a) l) wl1').trans (eq_wl ha (by decide))
theorem fAddOne {a : Nat} (h : a + 1 < M) : fAdd (wl a, [(1 : UInt64), 0, 0, 0]) = some (wl (a + 1), UInt64.ofNat 0) := by
  rw [wl1', fAdd_s (by omega) (by decide), Nat.mod_eq_of_lt h, Nat.div_eq_of_lt h]
theorem wk_pos {n : Nat} (h : okT n) : wkN n = M / (rawT n + 1) := by unfold wkN; rw [if_pos h]
theorem wk_zero {n : Nat} (h : ¬ okT n) : wkN n = 0 := by unfold wkN; rw [if_neg h]
theorem mt_no {l : List UInt8} {n : Nat} (h : ¬ okT n) : mtN l n = false := decide_eq_false fun q => h q.1
theorem above_n {d W : Nat} (hd : 0 < d) (hd2 : d < M) (hW : M / d = W) : W * d ≤ M ∧ (W + 1) * d / M = 1 ∧ (W + 1) * d % M ≠ 0 := by
  have h1 := Nat.div_add_mod M d
  have h2 := Nat.mod_lt M hd
  rw [hW, Nat.mul_comm] at h1
  have h3 : (W + 1) * d = W * d + d := by rw [Nat.add_mul, Nat.one_mul]
  have e : (W + 1) * d = (W * d + d - M) + M := by omega
  have hlt : W * d + d - M < M := by omega
  refine ⟨by omega, ?_, ?_⟩
  · rw [e, Nat.add_div_right _ M_pos, Nat.div_eq_of_lt hlt]
  · rw [e, Nat.add_mod_right, Nat.mod_eq_of_lt hlt]; omega
theorem not_ok {l : List UInt8} (hl : l.length = 32) {a : UInt32} (h : ¬ okT a.toNat) (R : Option Bool) (hR : R = (bnd (T.U.m34 ()) fun y =>
    cnd y (bnd (T.m39 a) fun y_4 => cnd (eqD (.arr 4 (.int .u64)) y_4 ([(0 : UInt64), 0, 0, 0] : List UInt64)) (bnd (fMeets (l, a)) fun y_6 => some (!y_6)) (some false)) (some false))) : R = some true := by
  rw [hR]
  refine bnd_ex' alive10_s ?_
  refine Eq.trans (cnd_t rfl _ _) ?_
  refine bnd_ex' (work_s a) ?_
  rw [wk_zero h]
  refine Eq.trans (cnd_t ((eq_0 M_pos).trans (by simp)) _ _) ?_
  refine bnd_ex' (meets_s hl a) ?_
  rw [mt_no h]; rfl
theorem cmp_neg {a b : Nat} : decide (cmpN a b < (0 : Int)) = decide (a < b) := by
  refine decide_eq_decide.2 ?_
  unfold cmpN
  split
  · rename_i h; subst h; simp
  · split
    · rename_i h1 h2; constructor
      · intro _; exact h2
      · intro _; decide
    · rename_i h1 h2; constructor
      · intro h; omega
      · intro h; omega
theorem target_harder (a b : UInt32) {l : List UInt8} (hl : l.length = 32) : T.U.m13 (a, b, l) = some true := by
  refine (T.U.m13_eq _).trans ?_
  unfold T.U.b13
  refine bnd_ex' (expand_s a) ?_
  refine bnd_ex' (expand_s b) ?_
  by_cases ha : okT a.toNat
  · rw [if_pos ha]
    refine Eq.trans (cnd_f rfl _ _) ?_
    by_cases hb : okT b.toNat
    · rw [if_pos hb]
      refine Eq.trans (cnd_f rfl _ _) ?_
      refine bnd_ex' (cmp_s ha.2.1 hb.2.1) ?_
      obtain ⟨a', b', ha', hb', hle, l1⟩ : ∃ a' b' : UInt32, okT a'.toNat ∧ okT b'.toNat ∧ rawT a'.toNat ≤ rawT b'.toNat ∧ T.U.l13_1 (a, b, (decide ((0 : Int) < cmpN (rawT a.toNat) (rawT b.toNat))), l, wl (rawT a.toNat), wl (rawT b.toNat)) = some (.n (a', b', l, wl (rawT b'.toNat))) := by
        by_cases hlt : rawT b.toNat < rawT a.toNat
        · refine ⟨b, a, hb, ha, Nat.le_of_lt hlt, (T.U.l13_1_eq _).trans ?_⟩
          unfold T.U.a13_1
          exact Eq.trans (cnd_t (cmp_pos.trans (decide_eq_true hlt)) _ _) rfl
        · refine ⟨a, b, ha, hb, Nat.le_of_not_lt hlt, (T.U.l13_1_eq _).trans ?_⟩
          unfold T.U.a13_1
          exact Eq.trans (cnd_f (cmp_pos.trans (decide_eq_false hlt)) _ _) rfl
      refine bnd_ex' l1 ?_
      refine bnd_ex' (work_s a') ?_
      refine bnd_ex' (work_s b') ?_
      refine bnd_ex' (cmp_s (wkN_lt _) (wkN_lt _)) ?_
      have hw : wkN b'.toNat ≤ wkN a'.toNat := by
        rw [wk_pos ha', wk_pos hb']
        exact Nat.div_le_div_left (by omega) (by omega)
      refine Eq.trans (cnd_f (cmp_neg.trans (decide_eq_false (Nat.not_lt_of_le hw))) _ _) ?_
      refine bnd_ex' (meets_s hl a') ?_
      have HY := raw_one hb'
      have hwk : wkN b'.toNat = M / (rawT b'.toNat + 1) := wk_pos hb'
      have hmt : mtN l a'.toNat = true → mtN l b'.toNat = true := fun h => by
        unfold mtN at *
        have := of_decide_eq_true h
        exact decide_eq_true ⟨hb', by omega⟩
      have hy0 := hb'.2.2
      generalize hWK : M / (rawT b'.toNat + 1) = WK at hwk
      obtain ⟨ab0, ab1, ab2⟩ := above_n (show 0 < rawT b'.toNat + 1 by omega) HY hWK
      have HW : WK + 1 < M := by
        rw [← hWK]
        have h1 : M / (rawT b'.toNat + 1) ≤ M / 2 := Nat.div_le_div_left (by omega) (by decide)
        have h2 : M / 2 + 1 < M := by decide
        omega
      have l5 : T.U.l13_5 (b', wl (rawT b'.toNat + 1)) = some (.n (b', wl (rawT b'.toNat + 1), wl (WK * (rawT b'.toNat + 1) % M), wl (WK * (rawT b'.toNat + 1) / M))) := by
        refine (T.U.l13_5_eq _).trans ?_
        unfold T.U.a13_5
        refine bnd_ex' (work_s b') ?_
        rw [hwk]
        refine bnd_ex' (fMul_s (by omega) HY) ?_
        rfl
      generalize hD : rawT b'.toNat + 1 = D at *
      have HD : D < M := HY
      have HYY : rawT b'.toNat + 1 < M := by omega
      have hMM1 : WK * D < M * M := Nat.mul_lt_mul_of_lt_of_lt (by omega) HD
      have hMM2 : (WK + 1) * D < M * M := Nat.mul_lt_mul_of_lt_of_lt HW HD
      have hh1 : WK * D / M < M := Nat.div_lt_of_lt_mul hMM1
      have hh2 : (WK + 1) * D / M < M := Nat.div_lt_of_lt_mul hMM2
      have fit1 := (fits_n hMM1).2 ab0
      have fA1 : fAdd (wl (rawT b'.toNat), [(1 : UInt64), 0, 0, 0]) = some (wl D, UInt64.ofNat 0) := by rw [fAddOne HYY, hD]
      have cmp1 : fCmp (wl ((WK + 1) * D / M), [(1 : UInt64), 0, 0, 0]) = some (0 : Int) := by
        rw [wl1', cmp_s hh2 (by decide), ab1]; rfl
      have is1 : eqD (.arr 4 (.int .u64)) (wl ((WK + 1) * D / M)) ([(1 : UInt64), 0, 0, 0] : List UInt64) = true := (eq_1 hh2).trans (decide_eq_true ab1)
      cases hm : mtN l a'.toNat with
      | true =>
        refine Eq.trans (cnd_t rfl _ _) ?_
        refine bnd_ex' (meets_s hl b') ?_
        rw [hmt hm]
        refine Eq.trans (cnd_f rfl _ _) ?_
        refine bnd_ex' fA1 ?_
        refine Eq.trans (cnd_f rfl _ _) ?_
        refine bnd_ex' l5 ?_
        by_cases q0 : WK * D / M = 0
        · refine Eq.trans (cnd_t ((eq_0 hh1).trans (decide_eq_true q0)) _ _) ?_
          refine bnd_ex' (work_s _) ?_
          rw [hwk]
          refine bnd_ex' (fAddOne HW) ?_
          refine bnd_ex' (fMul_s HW HD) ?_
          refine bnd_ex' cmp1 ?_
          refine Eq.trans (cnd_f rfl _ _) ?_
          refine Eq.trans (cnd_t is1 _ _) ?_
          refine bnd_ex' alive10_s ?_
          refine Eq.trans (cnd_t rfl _ _) ?_
          exact congrArg some ((congrArg (fun b => !b) ((eq_0 (Nat.mod_lt _ M_pos)).trans (decide_eq_false ab2))).trans rfl)
        · refine Eq.trans (cnd_f ((eq_0 hh1).trans (decide_eq_false q0)) _ _) ?_
          obtain ⟨q1, q2⟩ := fit1.resolve_left q0
          refine Eq.trans (cnd_t ((eq_1 hh1).trans (decide_eq_true q1)) _ _) ?_
          refine bnd_ex' (work_s _) ?_
          rw [hwk]
          refine bnd_ex' (fAddOne HW) ?_
          refine bnd_ex' (fMul_s HW HD) ?_
          refine bnd_ex' cmp1 ?_
          refine Eq.trans (cnd_f rfl _ _) ?_
          refine Eq.trans (cnd_t is1 _ _) ?_
          refine bnd_ex' alive10_s ?_
          refine Eq.trans (cnd_t rfl _ _) ?_
          refine Eq.trans (cnd_t ((eq_0 (Nat.mod_lt _ M_pos)).trans (decide_eq_true q2)) _ _) ?_
          exact congrArg some ((congrArg (fun b => !b) ((eq_0 (Nat.mod_lt _ M_pos)).trans (decide_eq_false ab2))).trans rfl)
      | false =>
        refine Eq.trans (cnd_f rfl _ _) ?_
        refine bnd_ex' fA1 ?_
        refine Eq.trans (cnd_f rfl _ _) ?_
        refine bnd_ex' l5 ?_
        by_cases q0 : WK * D / M = 0
        · refine Eq.trans (cnd_t ((eq_0 hh1).trans (decide_eq_true q0)) _ _) ?_
          refine bnd_ex' (work_s _) ?_
          rw [hwk]
          refine bnd_ex' (fAddOne HW) ?_
          refine bnd_ex' (fMul_s HW HD) ?_
          refine bnd_ex' cmp1 ?_
          refine Eq.trans (cnd_f rfl _ _) ?_
          refine Eq.trans (cnd_t is1 _ _) ?_
          refine bnd_ex' alive10_s ?_
          refine Eq.trans (cnd_t rfl _ _) ?_
          exact congrArg some ((congrArg (fun b => !b) ((eq_0 (Nat.mod_lt _ M_pos)).trans (decide_eq_false ab2))).trans rfl)
        · refine Eq.trans (cnd_f ((eq_0 hh1).trans (decide_eq_false q0)) _ _) ?_
          obtain ⟨q1, q2⟩ := fit1.resolve_left q0
          refine Eq.trans (cnd_t ((eq_1 hh1).trans (decide_eq_true q1)) _ _) ?_
          refine bnd_ex' (work_s _) ?_
          rw [hwk]
          refine bnd_ex' (fAddOne HW) ?_
          refine bnd_ex' (fMul_s HW HD) ?_
          refine bnd_ex' cmp1 ?_
          refine Eq.trans (cnd_f rfl _ _) ?_
          refine Eq.trans (cnd_t is1 _ _) ?_
          refine bnd_ex' alive10_s ?_
          refine Eq.trans (cnd_t rfl _ _) ?_
          refine Eq.trans (cnd_t ((eq_0 (Nat.mod_lt _ M_pos)).trans (decide_eq_true q2)) _ _) ?_
          exact congrArg some ((congrArg (fun b => !b) ((eq_0 (Nat.mod_lt _ M_pos)).trans (decide_eq_false ab2))).trans rfl)
    · rw [if_neg hb]
      refine Eq.trans (cnd_t rfl _ _) ?_
      refine bnd_ex' alive10_s ?_
      refine Eq.trans (cnd_t rfl _ _) ?_
      exact Eq.trans (cnd_t rfl _ _) rfl
  · rw [if_neg ha]
    refine Eq.trans (cnd_t rfl _ _) ?_
    exact not_ok hl ha _ rfl
/-! Arguments. -/
theorem arg_u32 {a : Int} (h : (Lit.int .u32 a).wf = true) : ∃ b : UInt32, a = toI .u32 b := by
  have e1 : IntKind.u32.min = 0 := rfl
  have e2 : IntKind.u32.max = 4294967295 := rfl
  simp only [Lit.wf, e1, e2, Bool.and_eq_true, decide_eq_true_eq] at h
  exact ⟨UInt32.ofNat a.toNat, by show a = ((UInt32.ofNat a.toNat).toNat : Int); rw [un32 _ (by omega)]; omega⟩
end Go.Proofs.Ytpfoeeiacfadfaa.Q
