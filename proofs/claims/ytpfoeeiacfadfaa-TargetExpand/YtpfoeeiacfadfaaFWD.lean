/-
  What package wide's Div and Rem tell, in numbers.
-/
import Derived.Test.YtpfoeeiacfadfaaQS
import Derived.Test.YtpfoeeiacfadfaaFZ
import Derived.Test.YtpfoeeiacfadfaaQFH
import Derived.Test.YtpfoeeiacfadfaaWdZ
namespace Go.Proofs.Ytpfoeeiacfadfaa.Q
open Go.RowKit
theorem fTp_s {d n : Nat} (hd : d < M) (hn : n < 18446744073709551616) : fTp (wl d, UInt64.ofNat n, wl 0) = some (wl (d * n % M), UInt64.ofNat (d * n / M)) := by
  rw [fTp_eq]; simp only [val_wl hd, val_wl (show 0 < M by decide), un n hn, Nat.add_zero]
theorem fCmp_s {a b : Nat} (ha : a < M) (hb : b < M) : fCmp (wl a, wl b) = some (cmpN a b) := by rw [fCmp_eq]; simp only [val_wl ha, val_wl hb]
/-- A word of the quotient, by taking the divisor away from the guess. -/
theorem dw_loop {T top low d q : Nat} (hl : low < M) (htop : top < 18446744073709551616) (hT : T = top * M + low) (hd : d < M) (hd0 : 0 < d) (hq : T / d = q) (z : List UInt64) : ∀ (j m : Nat), q + j < 18446744073709551616 →
    itN k83_1 (m + 1 + j) (UInt64.ofNat top, UInt64.ofNat (q + j), UInt64.ofNat ((q + j) * d / M), wl d, z, wl low, wl ((q + j) * d % M)) = some (.x (UInt64.ofNat q, z, wl low, wl (q * d % M))) := by
  intro j
  have hqd : q * d ≤ T := by rw [← hq]; exact Nat.div_mul_le_self T d
  have hqd2 : T < (q + 1) * d := by
    have h1 := Nat.div_add_mod T d
    have h2 := Nat.mod_lt T hd0
    rw [hq] at h1
    rw [Nat.add_mul, Nat.one_mul, Nat.mul_comm q d]
    omega
  induction j with
  | zero =>
    intro m hx
    have hov := dw_over hx hd
    have hiff := over_iff (q + 0) d T top low hl hT
    have hno : ¬ (top < (q + 0) * d / M ∨ (q + 0) * d / M = top ∧ low < (q + 0) * d % M) := fun h => by
      have := hiff.1 h; rw [Nat.add_zero] at this; omega
    rw [show m + 1 + 0 = m + 1 from rfl, itN_succ]
    unfold k83_1
    refine Eq.trans (cnd_f ((ltu htop hov).trans (decide_eq_false fun h => hno (.inl h))) _ _) ?_
    by_cases h2 : (q + 0) * d / M = top
    · refine Eq.trans (cnd_t ((equ hov htop).trans (decide_eq_true h2)) _ _) ?_
      refine bnd_ex' (fCmp_s (Nat.mod_lt _ M_pos) hl) ?_
      refine Eq.trans (cnd_f (cmp_pos.trans (decide_eq_false fun h => hno (.inr ⟨h2, h⟩))) _ _) ?_
      rfl
    · refine Eq.trans (cnd_f ((equ hov htop).trans (decide_eq_false h2)) _ _) ?_
      rfl
  | succ j ih =>
    intro m hx
    have hov := dw_over hx hd
    have hiff := over_iff (q + (j + 1)) d T top low hl hT
    have hyes : top < (q + (j + 1)) * d / M ∨ (q + (j + 1)) * d / M = top ∧ low < (q + (j + 1)) * d % M := hiff.2 (Nat.lt_of_lt_of_le hqd2 (Nat.mul_le_mul_right d (by omega)))
    obtain ⟨s1, s2⟩ := less_step (q + (j + 1)) d hd (by omega)
    rw [show q + (j + 1) - 1 = q + j by omega] at s1 s2
    have key : fSub (wl ((q + (j + 1)) * d % M), wl d) = some (wl ((q + j) * d % M), UInt64.ofNat (if (q + (j + 1)) * d % M < d then 1 else 0)) := by
      rw [fSub_s (Nat.mod_lt _ M_pos) hd, s1]
    have kw : UInt64.ofNat (q + (j + 1)) - 1 = UInt64.ofNat (q + j) := subu (c := 1) (by omega) hx
    have ko : UInt64.ofNat ((q + (j + 1)) * d / M) - UInt64.ofNat (if (q + (j + 1)) * d % M < d then 1 else 0) = UInt64.ofNat ((q + j) * d / M) := subu s2 hov
    have hrec := ih m (by omega)
    rw [show m + 1 + (j + 1) = (m + 1 + j) + 1 from rfl, itN_succ]
    unfold k83_1
    have goon : itN k83_1 (m + 1 + j) (UInt64.ofNat top, UInt64.ofNat (q + (j + 1)) - 1, UInt64.ofNat ((q + (j + 1)) * d / M) - UInt64.ofNat (if (q + (j + 1)) * d % M < d then 1 else 0), wl d, z, wl low, wl ((q + j) * d % M)) = some (.x (UInt64.ofNat q, z, wl low, wl (q * d % M))) := by
      rw [kw, ko]; exact hrec
    by_cases h1 : top < (q + (j + 1)) * d / M
    · refine Eq.trans (cnd_t ((ltu htop hov).trans (decide_eq_true h1)) _ _) ?_
      refine bnd_ex' key ?_
      exact goon
    · obtain ⟨h2, h3⟩ := hyes.resolve_left h1
      refine Eq.trans (cnd_f ((ltu htop hov).trans (decide_eq_false h1)) _ _) ?_
      refine Eq.trans (cnd_t ((equ hov htop).trans (decide_eq_true h2)) _ _) ?_
      refine bnd_ex' (fCmp_s (Nat.mod_lt _ M_pos) hl) ?_
      refine Eq.trans (cnd_t (cmp_pos.trans (decide_eq_true h3)) _ _) ?_
      refine bnd_ex' key ?_
      exact goon
theorem dw_s {h n d : Nat} (hd : d < M) (hd2 : 57896044618658097711785492504343953926634992332820282019728792003956564819968 ≤ d) (hh : h < d) (hn : n < 18446744073709551616) :
    m83 (wl h, UInt64.ofNat n, wl d) = some (UInt64.ofNat ((h * 18446744073709551616 + n) / d), wl ((h * 18446744073709551616 + n) % d)) := by
  obtain ⟨low, hlow, hT, hlw⟩ := up_word h n (Nat.lt_trans hh hd) hn
  have hge := gs_ge h n d hd hd2 hh hn
  have htg := top_ge d hd hd2
  have hgl := gs_lt (gw (w4 h) 3) (gw (w4 h) 2) (gw (w4 d) 3) htg (gw_lt h 2)
  have htop := gw_lt h 3
  refine (m83_eq _).trans ?_
  unfold b83
  have hG : fGs (List.getD (wl h) 3 (0 : UInt64), List.getD (wl h) 2 (0 : UInt64), List.getD (wl d) 3 (0 : UInt64)) = some (UInt64.ofNat (gsN (gw (w4 h) 3) (gw (w4 h) 2) (gw (w4 d) 3))) := by
    rw [fGs_eq]
    simp only [word_at 3 (by decide), word_at 2 (by decide)]
    exact guard_if (decide_eq_true htg) _
  refine bnd_ex' hG ?_
  generalize gsN (gw (w4 h) 3) (gw (w4 h) 2) (gw (w4 d) 3) = g at hge hgl
  have hTp : fTp (wl d, UInt64.ofNat g, [(0 : UInt64), 0, 0, 0]) = some (wl (d * g % M), UInt64.ofNat (d * g / M)) := (congrArg (fun l : List UInt64 => fTp (wl d, UInt64.ofNat g, l)) wl_zero).trans (fTp_s hd hgl)
  refine bnd_ex' hTp ?_
  have hlo : [UInt64.ofNat n, List.getD (wl h) 0 (0 : UInt64), List.getD (wl h) 1 (0 : UInt64), List.getD (wl h) 2 (0 : UInt64)] = wl low := by
    rw [word_of h 0 (by decide), word_of h 1 (by decide), word_of h 2 (by decide)]
    unfold wl; rw [hlw]; rfl
  generalize hTT : h * 18446744073709551616 + n = T at hT hge
  obtain ⟨q, hq⟩ : ∃ q, T / d = q := ⟨_, rfl⟩
  rw [hq] at hge
  obtain ⟨j, hj⟩ : ∃ j, g = q + j := ⟨g - q, by omega⟩
  subst hj
  obtain ⟨m, hm⟩ := fuel_ge' (1 + j) (by omega)
  have hL : ∀ t : UInt64, t = UInt64.ofNat (gw (w4 h) 3) → ∀ l, l = wl low → l83_1 (t, UInt64.ofNat (q + j), UInt64.ofNat (d * (q + j) / M), wl d, List.replicate 4 (0 : UInt64), l, wl (d * (q + j) % M)) = some (.x (UInt64.ofNat q, List.replicate 4 (0 : UInt64), wl low, wl (q * d % M))) := fun t ht l hl => by
    subst ht hl
    unfold l83_1
    rw [hm, Nat.mul_comm d (q + j), ← Nat.add_assoc]
    exact dw_loop hlow htop hT hd (by omega) hq _ j m hgl
  refine bnd_ex' (hL _ (word_of h 3 (by decide)) _ hlo) ?_
  refine bnd_ex' (fSub_s hlow (Nat.mod_lt _ M_pos)) ?_
  rw [rest_of q d T _ low hlow hT (by omega) hd hq, hq]
/-! divide -/
theorem fShl_s {a s : Nat} (ha : a < M) (hs : s ≤ 256) : fShl (wl a, (s : Int)) = some (wl (a * 2 ^ s % M)) := by
  rw [fShl_eq]; simp only [val_wl ha]
  exact guard_if (by simp; omega) _
theorem fShr_n {a s : Nat} (ha : a < M) (hs : s ≤ 256) : fShr (wl a, (s : Int)) = some (wl (a / 2 ^ s)) := by
  rw [fShr_eq]; simp only [val_wl ha]
  exact guard_if (by simp; omega) _
theorem dv_turn (f : Int × Int × List UInt64 × List UInt64 × List UInt64 × List UInt64 × List UInt64 × List UInt64 → Option (O3 Unit (Int × List UInt64 × List UInt64 × List UInt64 × List UInt64) Unit)) {r b n k : Nat} (hn : n < M) (hn2 : 57896044618658097711785492504343953926634992332820282019728792003956564819968 ≤ n) (hr : r < n) (hk : k < 4) (s : Int) (z1 z2 : List UInt64) :
    k77_1 f (s, ((3 - k : Nat) : Int), wl b, wl n, z1, z2, wl (dvS r (w4 b) n k).2, (dvS r (w4 b) n k).1.map UInt64.ofNat) = f (s, ((3 - k : Nat) : Int) - 1, wl b, wl n, z1, z2, wl (dvS r (w4 b) n (k + 1)).2, (dvS r (w4 b) n (k + 1)).1.map UInt64.ofNat) := by
  have hlt := dvS_lt r (w4 b) n k (by omega) hr
  rw [show dvS r (w4 b) n (k + 1) = ((dvS r (w4 b) n k).1.set (3 - k) (((dvS r (w4 b) n k).2 * 18446744073709551616 + gw (w4 b) (3 - k)) / n), ((dvS r (w4 b) n k).2 * 18446744073709551616 + gw (w4 b) (3 - k)) % n) from rfl]
  generalize dvS r (w4 b) n k = t at hlt
  obtain ⟨l, q⟩ := t
  unfold k77_1
  refine Eq.trans (cnd_t (by simp) _ _) ?_
  refine Eq.trans (guard_if (inB_nat (by omega)) _) ?_
  have hw : ∀ x : UInt64, x = UInt64.ofNat (gw (w4 b) (3 - k)) → m83 (wl q, x, wl n) = some (UInt64.ofNat ((q * 18446744073709551616 + gw (w4 b) (3 - k)) / n), wl ((q * 18446744073709551616 + gw (w4 b) (3 - k)) % n)) := fun x hx => by
    subst hx; exact dw_s hn hn2 hlt (gw_lt b (3 - k))
  refine bnd_ex' (hw _ (word_of b (3 - k) (by omega))) ?_
  refine Eq.trans (guard_if (inB_nat (by omega)) _) ?_
  refine Eq.trans (guard_if (show inR .i64 (((3 - k : Nat) : Int) - 1) = true by unfold inR; simp; omega) _) ?_
  have e : (l.map UInt64.ofNat).set (((3 - k : Nat) : Int)).toNat (UInt64.ofNat ((q * 18446744073709551616 + gw (w4 b) (3 - k)) / n)) = (l.set (3 - k) ((q * 18446744073709551616 + gw (w4 b) (3 - k)) / n)).map UInt64.ofNat := List.map_set.symm
  exact congrArg f (congrArg (fun w => (s, ((3 - k : Nat) : Int) - 1, wl b, wl n, z1, z2, wl ((q * 18446744073709551616 + gw (w4 b) (3 - k)) % n), w)) e)
theorem divide_s {hi lo d : Nat} (hd0 : d ≠ 0) (hd : d < M) (hh : hi < d) (hlo : lo < M) : m77 (wl hi, wl lo, wl d) = some (wl ((hi * M + lo) / d), wl ((hi * M + lo) % d)) := by
  obtain ⟨s, r, b, n, es, hs, hbs, en, hn, hn2, er, h1, h2, eb, hb, hrn, eq, erem, hX⟩ := shifted hi lo d hd0 hd hh hlo
  refine (m77_eq _).trans ?_
  unfold b77
  have hbl := blen_le d hd
  have e256 : (256 : Int) - ((blen d : Nat) : Int) = (s : Int) := by omega
  refine bnd_ex' (fLen_s hd) ?_
  refine Eq.trans (guard_if (by rw [e256]; unfold inR; simp; omega) _) ?_
  have k1 : fShl (wl d, (256 : Int) - ((blen d : Nat) : Int)) = some (wl n) := by rw [e256, fShl_s hd hs, en]
  refine bnd_ex' k1 ?_
  have k2 : l77_0 ((256 : Int) - ((blen d : Nat) : Int), wl hi, wl lo, wl n, List.replicate 4 (0 : UInt64), List.replicate 4 (0 : UInt64)) = some (.n ((s : Int), wl lo, wl n, List.replicate 4 (0 : UInt64), List.replicate 4 (0 : UInt64), wl r)) := by
    rw [e256]
    refine (l77_0_eq _).trans ?_
    unfold a77_0
    refine Eq.trans (guard_if (show inR .i64 ((256 : Int) - (s : Int)) = true by unfold inR; simp; omega) _) ?_
    refine bnd_ex' (fShl_s (Nat.lt_trans hh hd) hs) ?_
    have k3 : fShr (wl lo, (256 : Int) - (s : Int)) = some (wl (lo / 2 ^ (256 - s))) := by
      rw [show (256 : Int) - (s : Int) = ((256 - s : Nat) : Int) by omega, fShr_n hlo (by omega)]
    refine bnd_ex' k3 ?_
    refine bnd_ex' (fAdd_s h1 h2) ?_
    rw [er]
  refine bnd_ex' k2 ?_
  have k4 : fShl (wl lo, (s : Int)) = some (wl b) := by rw [fShl_s hlo hs, eb]
  refine bnd_ex' k4 ?_
  obtain ⟨m, hm⟩ := fuel_ge 5 (by decide)
  have t := fun k hk f => dv_turn f (r := r) (b := b) hn hn2 hrn (k := k) hk (s : Int) (List.replicate 4 (0 : UInt64)) (List.replicate 4 (0 : UInt64))
  obtain ⟨all, _⟩ := dvS_all r b n hb (by omega) hrn
  have fin : ∀ (f : Int × Int × List UInt64 × List UInt64 × List UInt64 × List UInt64 × List UInt64 × List UInt64 → Option (O3 Unit (Int × List UInt64 × List UInt64 × List UInt64 × List UInt64) Unit)) (s : Int) (b n z1 z2 r q : List UInt64), k77_1 f (s, ((3 - 3 : Nat) : Int) - 1, b, n, z1, z2, r, q) = some (.x (s, z1, z2, r, q)) := fun f s b n z1 z2 r q => rfl
  have k5 : l77_1 ((s : Int), (3 : Int), wl b, wl n, List.replicate 4 (0 : UInt64), List.replicate 4 (0 : UInt64), wl r, List.replicate 4 (0 : UInt64)) = some (.x ((s : Int), List.replicate 4 (0 : UInt64), List.replicate 4 (0 : UInt64), wl ((r * M + b) % n), wl ((r * M + b) / n))) := by
    unfold l77_1
    rw [hm]
    have c0 := t 0 (by decide) (itN k77_1 (m + 4))
    have c1 := t 1 (by decide) (itN k77_1 (m + 3))
    have c2 := t 2 (by decide) (itN k77_1 (m + 2))
    have c3 := t 3 (by decide) (itN k77_1 (m + 1))
    refine Eq.trans (show itN k77_1 (m + 5) _ = k77_1 (itN k77_1 (m + 4)) _ from rfl) ?_
    refine c0.trans ?_
    refine Eq.trans (show itN k77_1 (m + 4) _ = k77_1 (itN k77_1 (m + 3)) _ from rfl) ?_
    refine c1.trans ?_
    refine Eq.trans (show itN k77_1 (m + 3) _ = k77_1 (itN k77_1 (m + 2)) _ from rfl) ?_
    refine c2.trans ?_
    refine Eq.trans (show itN k77_1 (m + 2) _ = k77_1 (itN k77_1 (m + 1)) _ from rfl) ?_
    refine c3.trans ?_
    refine Eq.trans (show itN k77_1 (m + 1) _ = k77_1 (itN k77_1 m) _ from rfl) ?_
    refine (fin _ _ _ _ _ _ _ _).trans ?_
    rw [show (3 + 1 : Nat) = 4 from rfl, all]
    rfl
  refine bnd_ex' k5 ?_
  refine bnd_ex' (fShr_n hX hs) ?_
  rw [erem, eq]
theorem div_s {a d : Nat} (hd0 : d ≠ 0) (hd : d < M) (ha : a < M) : m53 (wl a, wl d) = some (wl (a / d), wl (a % d), (0 : Int)) := by
  refine (m53_eq _).trans ?_
  unfold b53
  have hz : eqD (.arr 4 (.int .u64)) (wl d) ([(0 : UInt64), 0, 0, 0] : List UInt64) = decide (d = 0) := (congrArg (fun l : List UInt64 => eqD (.arr 4 (.int .u64)) (wl d) l) wl_zero).trans (eq_wl hd M_pos)
  refine Eq.trans (cnd_f (hz.trans (decide_eq_false hd0)) _ _) ?_
  have k1 : m77 ([(0 : UInt64), 0, 0, 0], wl a, wl d) = some (wl ((0 * M + a) / d), wl ((0 * M + a) % d)) := (congrArg (fun l : List UInt64 => m77 (l, wl a, wl d)) wl_zero).trans (divide_s hd0 hd (by omega) ha)
  refine bnd_ex' k1 ?_
  rw [Nat.zero_mul, Nat.zero_add]
end Go.Proofs.Ytpfoeeiacfadfaa.Q
