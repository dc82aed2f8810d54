/-
  The curve's prime is one: Fermat's little theorem, Pocklington's criterion, and a chain of primes.
  Conditions: none of any program.
-/
import Derived.Test.YtpfoeeiacfadfaaFM
namespace Go.Proofs.Ytpfoeeiacfadfaa.Q
open Go.RowKit

/-- A prime. -/
def Pr (p : Nat) : Prop := 2 ≤ p ∧ ∀ d, d ∣ p → d = 1 ∨ d = p
theorem Pr.cop {p x : Nat} (h : Pr p) (hx : ¬ p ∣ x) : Nat.Coprime p x := by
  rcases h.2 _ (Nat.gcd_dvd_left p x) with h1 | h1
  · exact h1
  · exact absurd (h1 ▸ Nat.gcd_dvd_right p x) hx
theorem Pr.dvd {p x y : Nat} (h : Pr p) (hd : p ∣ x * y) : p ∣ x ∨ p ∣ y := by
  by_cases hx : p ∣ x
  · exact .inl hx
  · exact .inr (Nat.Coprime.dvd_of_dvd_mul_left (h.cop hx) hd)
/-! Binomials. -/
def Cb : Nat → Nat → Nat
  | _, 0 => 1
  | 0, _ + 1 => 0
  | n + 1, k + 1 => Cb n k + Cb n (k + 1)
theorem Cb_big : ∀ (n k : Nat), n < k → Cb n k = 0
  | _, 0, h => by omega
  | 0, _ + 1, _ => rfl
  | n + 1, k + 1, h => by
    show Cb n k + Cb n (k + 1) = 0
    rw [Cb_big n k (by omega), Cb_big n (k + 1) (by omega)]
theorem Cb_zero (n : Nat) : Cb n 0 = 1 := by cases n <;> rfl
theorem Cb_self : ∀ n, Cb n n = 1
  | 0 => rfl
  | n + 1 => by
    show Cb n n + Cb n (n + 1) = 1
    rw [Cb_self n, Cb_big n (n + 1) (by omega)]
theorem Cb_abs : ∀ (n k : Nat), (k + 1) * Cb (n + 1) (k + 1) = (n + 1) * Cb n k
  | 0, 0 => rfl
  | 0, k + 1 => by
    show (k + 1 + 1) * (Cb 0 (k + 1) + Cb 0 (k + 1 + 1)) = 1 * Cb 0 (k + 1)
    rfl
  | n + 1, 0 => by
    have h := Cb_abs n 0
    rw [Cb_zero] at h ⊢
    have e : Cb (n + 1 + 1) (0 + 1) = Cb (n + 1) 0 + Cb (n + 1) (0 + 1) := rfl
    rw [e, Cb_zero]
    omega
  | n + 1, k + 1 => by
    have h1 := Cb_abs n k
    have h2 := Cb_abs n (k + 1)
    have e1 : Cb (n + 1 + 1) (k + 1 + 1) = Cb (n + 1) (k + 1) + Cb (n + 1) (k + 1 + 1) := rfl
    have e2 : Cb (n + 1) (k + 1) = Cb n k + Cb n (k + 1) := rfl
    rw [e1, Nat.mul_add]
    have h3 : (k + 1 + 1) * Cb (n + 1) (k + 1) = (k + 1) * Cb (n + 1) (k + 1) + Cb (n + 1) (k + 1) := by rw [Nat.add_mul (k + 1) 1, Nat.one_mul]
    have h4 : (n + 1 + 1) * Cb (n + 1) (k + 1) = (n + 1) * Cb (n + 1) (k + 1) + Cb (n + 1) (k + 1) := by rw [Nat.add_mul (n + 1) 1, Nat.one_mul]
    have h5 : (n + 1) * Cb (n + 1) (k + 1) = (n + 1) * Cb n k + (n + 1) * Cb n (k + 1) := by rw [e2, Nat.mul_add]
    omega
theorem Pr.binom {p k : Nat} (h : Pr p) (h0 : 0 < k) (hk : k < p) : p ∣ Cb p k := by
  obtain ⟨j, rfl⟩ : ∃ j, k = j + 1 := ⟨k - 1, by omega⟩
  obtain ⟨n, rfl⟩ : ∃ n, p = n + 1 := ⟨p - 1, by omega⟩
  have hd : n + 1 ∣ (j + 1) * Cb (n + 1) (j + 1) := by rw [Cb_abs]; exact Nat.dvd_mul_right _ _
  rcases h.dvd hd with h1 | h1
  · have := Nat.le_of_dvd (by omega) h1
    omega
  · exact h1
/-- The first terms of a power of a sum. -/
def Tb (a n : Nat) : Nat → Nat
  | 0 => 0
  | k + 1 => Tb a n k + Cb n k * a ^ k
theorem Tb_step (a n : Nat) : ∀ k, Tb a (n + 1) (k + 1) = Tb a n (k + 1) + a * Tb a n k
  | 0 => by simp [Tb, Cb_zero]
  | k + 1 => by
    have h := Tb_step a n k
    have e : Cb (n + 1) (k + 1) = Cb n k + Cb n (k + 1) := rfl
    show Tb a (n + 1) (k + 1) + Cb (n + 1) (k + 1) * a ^ (k + 1) = Tb a n (k + 1) + Cb n (k + 1) * a ^ (k + 1) + a * (Tb a n k + Cb n k * a ^ k)
    rw [h, e, Nat.add_mul, Nat.mul_add, Nat.pow_succ]
    have : a * (Cb n k * a ^ k) = Cb n k * (a ^ k * a) := by rw [Nat.mul_comm a, Nat.mul_assoc]
    omega
theorem Tb_pow (a : Nat) : ∀ n, (a + 1) ^ n = Tb a n (n + 1)
  | 0 => by simp [Tb, Cb]
  | n + 1 => by
    rw [Nat.pow_succ, Tb_pow a n, Tb_step a n (n + 1)]
    have e : Tb a n (n + 1 + 1) = Tb a n (n + 1) := by
      show Tb a n (n + 1) + Cb n (n + 1) * a ^ (n + 1) = _
      rw [Cb_big n (n + 1) (by omega), Nat.zero_mul, Nat.add_zero]
    rw [e, Nat.mul_add, Nat.mul_one, Nat.mul_comm, Nat.add_comm]
theorem Pr.tb {p : Nat} (h : Pr p) (a : Nat) : ∀ k, k < p → Tb a p (k + 1) % p = 1
  | 0, _ => by
    have := h.1
    show (0 + Cb p 0 * a ^ 0) % p = 1
    rw [Cb_zero, Nat.pow_zero, Nat.mul_one, Nat.zero_add, Nat.mod_eq_of_lt (by omega)]
  | k + 1, hk => by
    show (Tb a p (k + 1) + Cb p (k + 1) * a ^ (k + 1)) % p = 1
    obtain ⟨c, hc⟩ := h.binom (k := k + 1) (by omega) hk
    rw [hc, Nat.mul_assoc, Nat.add_mul_mod_self_left]
    exact Pr.tb h a k (by omega)
/-- FERMAT. -/
theorem Pr.fermat {p : Nat} (h : Pr p) : ∀ a, a ^ p % p = a % p
  | 0 => by
    have := h.1
    rw [Nat.zero_pow (by omega)]
  | a + 1 => by
    have h2 := h.1
    obtain ⟨n, hn⟩ : ∃ n, p = n + 1 := ⟨p - 1, by omega⟩
    rw [Tb_pow]
    show (Tb a p p + Cb p p * a ^ p) % p = _
    have h1 : Tb a p p % p = 1 := by
      have := h.tb a n (by omega)
      rwa [← hn] at this
    rw [Cb_self, Nat.one_mul, Nat.add_mod, h1, h.fermat a, Nat.add_mod_mod, Nat.add_comm]
theorem dvd_of_mod_eq {r x y : Nat} (hle : y ≤ x) (h : x % r = y % r) : r ∣ x - y := by
  have h1 := Nat.div_add_mod x r
  have h2 := Nat.div_add_mod y r
  refine ⟨x / r - y / r, ?_⟩
  rw [Nat.mul_sub]
  omega
theorem Pr.fermat1 {p a : Nat} (h : Pr p) (ha : ¬ p ∣ a) : a ^ (p - 1) % p = 1 := by
  have h2 := h.1
  have hf := h.fermat a
  obtain ⟨n, rfl⟩ : ∃ n, p = n + 1 := ⟨p - 1, by omega⟩
  have h0 : 0 < a := by
    rcases Nat.eq_zero_or_pos a with rfl | h0
    · exact absurd (Nat.dvd_zero _) ha
    · exact h0
  have hp : 0 < a ^ n := Nat.pow_pos h0
  rw [Nat.add_sub_cancel, Nat.pow_succ] at *
  have hd : n + 1 ∣ a ^ n * a - a := dvd_of_mod_eq (Nat.le_mul_of_pos_left a hp) hf
  have e : a ^ n * a - a = (a ^ n - 1) * a := by rw [Nat.sub_mul, Nat.one_mul]
  rw [e] at hd
  rcases h.dvd hd with h3 | h3
  · obtain ⟨c, hc⟩ := h3
    have : a ^ n = 1 + (n + 1) * c := by omega
    rw [this, Nat.add_mul_mod_self_left, Nat.mod_eq_of_lt (by omega)]
  · exact absurd h3 ha
/-! Prime factors. -/
theorem has_prime (n : Nat) (h : 2 ≤ n) : ∃ r, Pr r ∧ r ∣ n := by
  induction n using Nat.strongRecOn with
  | _ n ih =>
    by_cases hp : Pr n
    · exact ⟨n, hp, Nat.dvd_refl n⟩
    · have : ∃ d, d ∣ n ∧ d ≠ 1 ∧ d ≠ n := Classical.byContradiction fun hn => hp ⟨h, fun d hd => Classical.byContradiction fun hc => hn ⟨d, hd, fun e => hc (.inl e), fun e => hc (.inr e)⟩⟩
      obtain ⟨d, hd, h1, h2⟩ := this
      have hle := Nat.le_of_dvd (by omega) hd
      have h0 : d ≠ 0 := fun e => by subst e; obtain ⟨c, hc⟩ := hd; omega
      obtain ⟨r, hr, hrd⟩ := ih d (by omega) (by omega)
      exact ⟨r, hr, Nat.dvd_trans hrd hd⟩
theorem small_factor {n : Nat} (h : 2 ≤ n) (hp : ¬ Pr n) : ∃ r, Pr r ∧ r ∣ n ∧ r * r ≤ n := by
  have : ∃ d, d ∣ n ∧ d ≠ 1 ∧ d ≠ n := Classical.byContradiction fun hn => hp ⟨h, fun d hd => Classical.byContradiction fun hc => hn ⟨d, hd, fun e => hc (.inl e), fun e => hc (.inr e)⟩⟩
  obtain ⟨d, ⟨e, he⟩, h1, h2⟩ := this
  have key : ∀ x y, n = x * y → 2 ≤ x → x ≤ y → ∃ r, Pr r ∧ r ∣ n ∧ r * r ≤ n := fun x y hxy hx hle => by
    obtain ⟨r, hr, hrx⟩ := has_prime x hx
    refine ⟨r, hr, Nat.dvd_trans hrx ⟨y, hxy⟩, ?_⟩
    have := Nat.le_of_dvd (by omega) hrx
    rw [hxy]
    exact Nat.mul_le_mul this (by omega)
  have d0 : d ≠ 0 := fun hd => by rw [hd, Nat.zero_mul] at he; omega
  have e0 : e ≠ 0 := fun hd => by rw [hd, Nat.mul_zero] at he; omega
  have e1 : e ≠ 1 := fun hd => by rw [hd, Nat.mul_one] at he; exact h2 he.symm
  rcases Nat.le_total d e with hle | hle
  · exact key d e he (by omega) hle
  · exact key e d (by rw [he, Nat.mul_comm]) (by omega) hle
/-- By trial: these many numbers, from this one on, divide not. -/
def trial (n : Nat) : Nat → Nat → Bool
  | 0, lo => !(Nat.beq (n % lo) 0)
  | k + 1, lo => trial n k lo && trial n k (lo + 2 ^ k)
theorem trial_r {n : Nat} : ∀ (k lo : Nat), trial n k lo = true → ∀ d, lo ≤ d → d < lo + 2 ^ k → ¬ d ∣ n
  | 0, lo, h, d, h1, h2, hd => by
    obtain rfl : d = lo := by rw [Nat.pow_zero] at h2; omega
    unfold trial at h
    rw [Nat.mod_eq_zero_of_dvd hd] at h
    cases h
  | k + 1, lo, h, d, h1, h2, hd => by
    unfold trial at h
    rw [Bool.and_eq_true] at h
    rw [Nat.pow_succ] at h2
    by_cases hlt : d < lo + 2 ^ k
    · exact trial_r k lo h.1 d h1 hlt hd
    · exact trial_r k _ h.2 d (by omega) (by omega) hd
theorem pr_trial {n : Nat} (k : Nat) (h2 : 2 ≤ n) (h : trial n k 2 = true) (hn : n < (2 + 2 ^ k) * (2 + 2 ^ k)) : Pr n := by
  refine Classical.byContradiction fun hp => ?_
  obtain ⟨r, hr, hd, hle⟩ := small_factor h2 hp
  refine trial_r k 2 h r hr.1 ?_ hd
  exact Nat.lt_of_not_le fun hc => by have := Nat.mul_le_mul hc hc; omega
/-! Pocklington. -/
theorem ord_gcd {a r : Nat} : ∀ x y, a ^ x % r = 1 % r → a ^ y % r = 1 % r → a ^ Nat.gcd x y % r = 1 % r := fun x y =>
  Nat.gcd.induction x y (P := fun x y => a ^ x % r = 1 % r → a ^ y % r = 1 % r → a ^ Nat.gcd x y % r = 1 % r) (fun n _ h => by rwa [Nat.gcd_zero_left]) fun m n _ ih hm hn => by
    rw [Nat.gcd_rec]
    refine ih ?_ hm
    have e : n = m * (n / m) + n % m := (Nat.div_add_mod n m).symm
    rw [e, Nat.pow_add, Nat.pow_mul, Nat.mul_mod, Nat.pow_mod, hm, ← Nat.pow_mod, Nat.one_pow, ← Nat.mul_mod, Nat.one_mul] at hn
    exact hn
theorem ord_dvd {a r g m : Nat} (h : a ^ g % r = 1 % r) (hd : g ∣ m) : a ^ m % r = 1 % r := by
  obtain ⟨k, rfl⟩ := hd
  rw [Nat.pow_mul, Nat.pow_mod, h, ← Nat.pow_mod, Nat.one_pow]
theorem pock {N a f m r : Nat} (hN : 2 ≤ N) (hf : Pr f) (hm : f * m = N - 1) (h1 : a ^ (N - 1) % N = 1) (h2 : Nat.gcd (a ^ m % N + N - 1) N = 1) (hr : Pr r) (hd : r ∣ N) : f ∣ r - 1 := by
  refine Classical.byContradiction fun hnd => ?_
  have r2 := hr.1
  have o : 1 % r = 1 := Nat.mod_eq_of_lt (by omega)
  have E1 : a ^ (N - 1) % r = 1 % r := by rw [← Nat.mod_mod_of_dvd _ hd, h1]
  have ha : ¬ r ∣ a := fun hc => by
    rw [Nat.mod_eq_zero_of_dvd (Nat.dvd_trans hc (Nat.dvd_of_pow_dvd (k := 1) (by omega) (by rw [Nat.pow_one]; exact Nat.dvd_trans (Nat.dvd_refl a) (by obtain ⟨k, hk⟩ : ∃ k, N - 1 = k + 1 := ⟨N - 2, by omega⟩; rw [hk, Nat.pow_succ]; exact Nat.dvd_mul_left a _)))), o] at E1
    cases E1
  have E2 : a ^ (r - 1) % r = 1 % r := by rw [hr.fermat1 ha, o]
  have E3 := ord_gcd _ _ E1 E2
  have hg1 : Nat.gcd (N - 1) (r - 1) ∣ f * m := by rw [hm]; exact Nat.gcd_dvd_left _ _
  have hg2 : Nat.Coprime (Nat.gcd (N - 1) (r - 1)) f := (Nat.Coprime.coprime_dvd_right (Nat.gcd_dvd_right _ _) (hf.cop hnd)).symm
  have E4 := ord_dvd E3 (hg2.dvd_of_dvd_mul_left hg1)
  have e5 : a ^ m % N % r = 1 := by rw [Nat.mod_mod_of_dvd _ hd, E4, o]
  have hpos : 1 ≤ a ^ m % N := by
    rcases Nat.eq_zero_or_pos (a ^ m % N) with h0 | h0
    · rw [h0, Nat.zero_mod] at e5; cases e5
    · exact h0
  have hd2 : r ∣ a ^ m % N - 1 := dvd_of_mod_eq hpos (by rw [e5, o])
  have hd3 : r ∣ a ^ m % N + N - 1 := by
    rw [show a ^ m % N + N - 1 = (a ^ m % N - 1) + N by omega]
    exact Nat.dvd_add hd2 hd
  have hd4 := Nat.dvd_gcd hd3 hd
  rw [h2] at hd4
  have := Nat.le_of_dvd (by omega) hd4
  omega
/-- The criterion, for one great prime. -/
theorem pr_pock {N a f m : Nat} (hN : 2 ≤ N) (hf : Pr f) (hm : f * m = N - 1) (hbig : N < (f + 1) * (f + 1)) (h1 : a ^ (N - 1) % N = 1) (h2 : Nat.gcd (a ^ m % N + N - 1) N = 1) : Pr N := by
  refine Classical.byContradiction fun hp => ?_
  obtain ⟨r, hr, hd, hle⟩ := small_factor hN hp
  have r2 := hr.1
  have := Nat.le_of_dvd (by omega) (pock hN hf hm h1 h2 hr hd)
  have hh : f + 1 ≤ r := by omega
  have := Nat.mul_le_mul hh hh
  omega
/-- The same, asked of the quick reckoning. -/
theorem pock' {N a f m n r : Nat} (k : Nat) (hn : Nat.beq N (n + 1) = true) (hN : Nat.ble 2 N = true) (hf : Pr f) (hm : Nat.beq (f * m) n = true) (hk : Nat.blt n (2 ^ k) = true) (hk2 : Nat.blt m (2 ^ k) = true) (h1 : Nat.beq (powm N a k n) 1 = true) (h2 : Nat.beq (Nat.gcd (powm N a k m + N - 1) N) 1 = true) (hr : Pr r) (hd : r ∣ N) : f ∣ r - 1 := by
  have hn := Nat.eq_of_beq_eq_true hn
  have e : N - 1 = n := by omega
  refine pock (a := a) (Nat.le_of_ble_eq_true hN) hf (by rw [e]; exact Nat.eq_of_beq_eq_true hm) ?_ ?_ hr hd
  · rw [e, ← powm_eq N k a n (by simpa using hk)]; exact Nat.eq_of_beq_eq_true h1
  · rw [← powm_eq N k a m (by simpa using hk2)]; exact Nat.eq_of_beq_eq_true h2
theorem pr_pock' {N a f m n : Nat} (k : Nat) (hn : Nat.beq N (n + 1) = true) (hN : Nat.ble 2 N = true) (hf : Pr f) (hm : Nat.beq (f * m) n = true) (hk : Nat.blt n (2 ^ k) = true) (hk2 : Nat.blt m (2 ^ k) = true) (h1 : Nat.beq (powm N a k n) 1 = true) (h2 : Nat.beq (Nat.gcd (powm N a k m + N - 1) N) 1 = true) (hbig : Nat.blt N ((f + 1) * (f + 1)) = true) : Pr N := by
  have hn' := Nat.eq_of_beq_eq_true hn
  have e : N - 1 = n := by omega
  refine pr_pock (a := a) (f := f) (m := m) (Nat.le_of_ble_eq_true hN) hf (by rw [e]; exact Nat.eq_of_beq_eq_true hm) (by simpa using hbig) ?_ ?_
  · rw [e, ← powm_eq N k a n (by simpa using hk)]; exact Nat.eq_of_beq_eq_true h1
  · rw [← powm_eq N k a m (by simpa using hk2)]; exact Nat.eq_of_beq_eq_true h2
/-! The chain. -/
theorem pr1 : Pr 107590001 := pr_trial 14 (by decide) (by decide +kernel) (by decide +kernel)
theorem pr2 : Pr 7240687 := pr_trial 12 (by decide) (by decide +kernel) (by decide +kernel)
theorem pr3 : Pr 96557 := pr_trial 9 (by decide) (by decide +kernel) (by decide +kernel)
theorem fin3 {r N F : Nat} (h : F ∣ r - 1) (r2 : 2 ≤ r) (hle : r * r ≤ N) (hb : Nat.blt N ((F + 1) * (F + 1)) = true) : False := by
  have h5 := Nat.le_of_dvd (by omega) h
  have hh : F + 1 ≤ r := by omega
  have h6 := Nat.mul_le_mul hh hh
  have h7 : N < (F + 1) * (F + 1) := by simpa using hb
  omega
theorem dv3 {a b c F r : Nat} (h1 : Nat.beq (Nat.gcd a b) 1 = true) (h2 : Nat.beq (Nat.gcd (a * b) c) 1 = true) (hF : Nat.beq (a * b * c) F = true) (d1 : a ∣ r) (d2 : b ∣ r) (d3 : c ∣ r) : F ∣ r := by
  rw [← Nat.eq_of_beq_eq_true hF]
  exact Nat.Coprime.mul_dvd_of_dvd_of_dvd (Nat.eq_of_beq_eq_true h2) (Nat.Coprime.mul_dvd_of_dvd_of_dvd (Nat.eq_of_beq_eq_true h1) d1 d2) d3
def q2 : Nat := 255515944373312847190720520512484175977
theorem q2_1 {r : Nat} (hr : Pr r) (hd : r ∣ q2) : 107590001 ∣ r - 1 := pock' (a := 2) (m := 2374904191824599455024826335976) (n := 255515944373312847190720520512484175976) 130 (by decide +kernel) (by decide +kernel) pr1 (by decide +kernel) (by decide +kernel) (by decide +kernel) (by decide +kernel) (by decide +kernel) hr hd
theorem q2_2 {r : Nat} (hr : Pr r) (hd : r ∣ q2) : 7240687 ∣ r - 1 := pock' (a := 2) (m := 35288908963101546467996824129048) (n := 255515944373312847190720520512484175976) 130 (by decide +kernel) (by decide +kernel) pr2 (by decide +kernel) (by decide +kernel) (by decide +kernel) (by decide +kernel) (by decide +kernel) hr hd
theorem q2_3 {r : Nat} (hr : Pr r) (hd : r ∣ q2) : 96557 ∣ r - 1 := pock' (a := 2) (m := 2646270538369179315748423423599368) (n := 255515944373312847190720520512484175976) 130 (by decide +kernel) (by decide +kernel) pr3 (by decide +kernel) (by decide +kernel) (by decide +kernel) (by decide +kernel) (by decide +kernel) hr hd
theorem prQ2 : Pr q2 := Classical.byContradiction fun hp => by
  obtain ⟨r, hr, hd, hle⟩ := small_factor (Nat.le_of_ble_eq_true (by decide +kernel)) hp
  exact fin3 (F := 75220367286300824659) (dv3 (by decide +kernel) (by decide +kernel) (by decide +kernel) (q2_1 hr hd) (q2_2 hr hd) (q2_3 hr hd)) hr.1 hle (by decide +kernel)
theorem prQ1 : Pr 205115282021455665897114700593932402728804164701536103180137503955397371 :=
  pr_pock' (a := 2) (m := 802749442992798076634733441528810) (n := 205115282021455665897114700593932402728804164701536103180137503955397370) 240 (by decide +kernel) (by decide +kernel) prQ2 (by decide +kernel) (by decide +kernel) (by decide +kernel) (by decide +kernel) (by decide +kernel) (by decide +kernel)
/-- THE PRIME IS ONE. -/
theorem prP : Pr Pm :=
  pr_pock' (a := 2) (m := 564522) (n := 115792089237316195423570985008687907853269984665640564039457584007908834671662) 256 (by decide +kernel) (by decide +kernel) prQ1 (by decide +kernel) (by decide +kernel) (by decide +kernel) (by decide +kernel) (by decide +kernel) (by decide +kernel)
end Go.Proofs.Ytpfoeeiacfadfaa.Q
/-
  The curve's order is a prime: Pocklington's criterion, and a chain of primes.
  Conditions: none of any program.
-/
namespace Go.Proofs.Ytpfoeeiacfadfaa.Q
open Go.RowKit

/-- The order. -/
def Nm : Nat := 115792089237316195423570985008687907852837564279074904382605163141518161494337
theorem dv2 {a b F r : Nat} (h1 : Nat.beq (Nat.gcd a b) 1 = true) (hF : Nat.beq (a * b) F = true) (d1 : a ∣ r) (d2 : b ∣ r) : F ∣ r := by
  rw [← Nat.eq_of_beq_eq_true hF]
  exact Nat.Coprime.mul_dvd_of_dvd_of_dvd (Nat.eq_of_beq_eq_true h1) d1 d2
theorem o1 : Pr 1627771 := pr_trial 11 (by decide) (by decide +kernel) (by decide +kernel)
theorem o2 : Pr 305873 := pr_trial 10 (by decide) (by decide +kernel) (by decide +kernel)
theorem o3 : Pr 4681609 := pr_trial 12 (by decide) (by decide +kernel) (by decide +kernel)
theorem o4 : Pr 85831 := pr_trial 9 (by decide) (by decide +kernel) (by decide +kernel)
theorem o5 : Pr 297159362677 :=
  pr_pock' (a := 2) (m := 182556) (n := 297159362676) 40 (by decide +kernel) (by decide +kernel) o1 (by decide +kernel) (by decide +kernel) (by decide +kernel) (by decide +kernel) (by decide +kernel) (by decide +kernel)
def og : Nat := 29047611873442575647497758179
theorem o6_0 {r : Nat} (hr : Pr r) (hd : r ∣ og) : 297159362677 ∣ r - 1 := pock' (a := 2) (m := 97750956294169114) (n := 29047611873442575647497758178) 96 (by decide +kernel) (by decide +kernel) o5 (by decide +kernel) (by decide +kernel) (by decide +kernel) (by decide +kernel) (by decide +kernel) hr hd
theorem o6_1 {r : Nat} (hr : Pr r) (hd : r ∣ og) : 305873 ∣ r - 1 := pock' (a := 2) (m := 94966250285061367454786) (n := 29047611873442575647497758178) 96 (by decide +kernel) (by decide +kernel) o2 (by decide +kernel) (by decide +kernel) (by decide +kernel) (by decide +kernel) (by decide +kernel) hr hd
theorem o6 : Pr og := Classical.byContradiction fun hp => by
  obtain ⟨r, hr, hd, hle⟩ := small_factor (Nat.le_of_ble_eq_true (by decide +kernel)) hp
  exact fin3 (F := 90893025740102021) (dv2 (by decide +kernel) (by decide +kernel) (o6_0 hr hd) (o6_1 hr hd)) hr.1 hle (by decide +kernel)
theorem o7 : Pr 341948486974166000522343609283189 :=
  pr_pock' (a := 2) (m := 11772) (n := 341948486974166000522343609283188) 112 (by decide +kernel) (by decide +kernel) o6 (by decide +kernel) (by decide +kernel) (by decide +kernel) (by decide +kernel) (by decide +kernel) (by decide +kernel)
def of2 : Nat := 107361793816595537
theorem o8_0 {r : Nat} (hr : Pr r) (hd : r ∣ of2) : 4681609 ∣ r - 1 := pock' (a := 2) (m := 22932669904) (n := 107361793816595536) 64 (by decide +kernel) (by decide +kernel) o3 (by decide +kernel) (by decide +kernel) (by decide +kernel) (by decide +kernel) (by decide +kernel) hr hd
theorem o8_1 {r : Nat} (hr : Pr r) (hd : r ∣ of2) : 85831 ∣ r - 1 := pock' (a := 2) (m := 1250851019056) (n := 107361793816595536) 64 (by decide +kernel) (by decide +kernel) o4 (by decide +kernel) (by decide +kernel) (by decide +kernel) (by decide +kernel) (by decide +kernel) hr hd
theorem o8 : Pr of2 := Classical.byContradiction fun hp => by
  obtain ⟨r, hr, hd, hle⟩ := small_factor (Nat.le_of_ble_eq_true (by decide +kernel)) hp
  exact fin3 (F := 401827182079) (dv2 (by decide +kernel) (by decide +kernel) (o8_0 hr hd) (o8_1 hr hd)) hr.1 hle (by decide +kernel)
/-- THE ORDER IS A PRIME. -/
theorem prN_0 {r : Nat} (hr : Pr r) (hd : r ∣ Nm) : 341948486974166000522343609283189 ∣ r - 1 := pock' (a := 2) (m := 338624364920977752681389262317185522840540224) (n := 115792089237316195423570985008687907852837564279074904382605163141518161494336) 264 (by decide +kernel) (by decide +kernel) o7 (by decide +kernel) (by decide +kernel) (by decide +kernel) (by decide +kernel) (by decide +kernel) hr hd
theorem prN_1 {r : Nat} (hr : Pr r) (hd : r ∣ Nm) : 107361793816595537 ∣ r - 1 := pock' (a := 2) (m := 1078522304080742162682399010554089082520748534743704783428928) (n := 115792089237316195423570985008687907852837564279074904382605163141518161494336) 264 (by decide +kernel) (by decide +kernel) o8 (by decide +kernel) (by decide +kernel) (by decide +kernel) (by decide +kernel) (by decide +kernel) hr hd
theorem prN : Pr Nm := Classical.byContradiction fun hp => by
  obtain ⟨r, hr, hd, hle⟩ := small_factor (Nat.le_of_ble_eq_true (by decide +kernel)) hp
  exact fin3 (F := 36712202954417214842724336778420075919000906527493) (dv2 (by decide +kernel) (by decide +kernel) (prN_0 hr hd) (prN_1 hr hd)) hr.1 hle (by decide +kernel)
end Go.Proofs.Ytpfoeeiacfadfaa.Q
