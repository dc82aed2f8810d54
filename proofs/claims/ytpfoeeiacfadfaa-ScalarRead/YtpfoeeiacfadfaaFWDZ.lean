/-
  What package wide's Div and Rem tell, in numbers.
-/
import Derived.Test.YtpfoeeiacfadfaaQS
import Derived.Test.YtpfoeeiacfadfaaFZ
import Derived.Test.YtpfoeeiacfadfaaQFH
import Derived.Test.YtpfoeeiacfadfaaWdZ
namespace Go.Proofs.Ytpfoeeiacfadfaa.Q
open Go.RowKit
theorem fTp_s {d n : Nat} (hd : d < M) (hn : n < 18446744073709551616) : fTp (wl d, UInt64.ofNat n, wl 0) = some (wl (d * n % M), UInt64.ofNat (d * n / M)) := by
  rw [fTp_eq]; simp only [val_wl hd, val_wl (show 0 < M by decide), un n hn, Nat.add_zero]
theorem fCmp_s {a b : Nat} (ha : a < M) (hb : b < M) : fCmp (wl a, wl b) = some (cmpN a b) := by rw [fCmp_eq]; simp only [val_wl ha, val_wl hb]
/-- A word of the quotient, by taking the divisor away from the guess. -/
theorem dw_loop {T top low d q : Nat} (hl : low < M) (htop : top < 18446744073709551616) (hT : T = top * M + low) (hd : d < M) (hd0 : 0 < d) (hq : T / d = q) (z : List UInt64) : ∀ (j m : Nat), q + j < 18446744073709551616 →
    itN k83_1 (m + 1 + j) (UInt64.ofNat top, UInt64.ofNat (q + j), UInt64.ofNat ((q + j) * d / M), wl d, z, wl low, wl ((q + j) * d % M)) = some (.x (UInt64.ofNat q, z, wl low, wl (q * d % M))) := by
  intro j
  have hqd : q * d ≤ T := by rw [← hq]; exact Nat.div_mul_le_self T d
  have hqd2 : T < (q + 1) * d := by
    have h1 := Nat.div_add_mod T d
    have h2 := Nat.mod_lt T hd0
    rw [hq] at h1
    rw [Nat.add_mul, Nat.one_mul, Nat.mul_comm q d]
    omega
  induction j with
  | zero =>
    intro m hx
    have hov := dw_over hx hd
    have hiff := over_iff (q + 0) d T top low hl hT
    have hno : ¬ (top < (q + 0) * d / M ∨ (q + 0) * d / M = top ∧ low < (q + 0) * d % M) := fun h => by
      have := hiff.1 h; rw [Nat.add_zero] at this; omega
    rw [show m + 1 + 0 = m + 1 from rfl, itN_succ]
    unfold k83_1
    refine Eq.trans (cnd_f ((ltu htop hov).trans (decide_eq_false fun h => hno (.inl h))) _ _) ?_
    by_cases h2 : (q + 0) * d / M = top
    · refine Eq.trans (cnd_t ((equ hov htop).trans (decide_eq_true h2)) _ _) ?_
      refine bnd_ex' (fCmp_s (Nat.mod_lt _ M_pos) hl) ?_
      refine Eq.trans (cnd_f (cmp_pos.trans (decide_eq_false fun h => hno (.inr ⟨h2, h⟩))) _ _) ?_
      rfl
    · refine Eq.trans (cnd_f ((equ hov htop).trans (decide_eq_false h2)) _ _) ?_
      rfl
  | succ j ih =>
    intro m hx
    have hov := dw_over hx hd
    have hiff := over_iff (q + (j + 1)) d T top low hl hT
    have hyes : top < (q + (j + 1)) * d / M ∨ (q + (j + 1)) * d / M = top ∧ low < (q + (j + 1)) * d % M := hiff.2 (Nat.lt_of_lt_of_le hqd2 (Nat.mul_le_mul_right d (by omega)))
    obtain ⟨s1, s2⟩ := less_step (q + (j + 1)) d hd (by omega)
    rw [show q + (j + 1) - 1 = q + j by omega] at s1 s2
    have key : fSub (wl ((q + (j + 1)) * d % M), wl d) = some (wl ((q + j) * d % M), UInt64.ofNat (if (q + (j + 1)) * d % M < d then 1 else 0)) := by
      rw [fSub_s (Nat.mod_lt _ M_pos) hd, s1]
    have kw : UInt64.ofNat (q + (j + 1)) - 1 = UInt64.ofNat (q + j) := subu (c := 1) (by omega) hx
    have ko : UInt64.ofNat ((q + (j + 1)) * d / M) - UInt64.ofNat (if (q + (j + 1)) * d % M < d then 1 else 0) = UInt64.ofNat ((q + j) * d / M) := subu s2 hov
    have hrec := ih m (by omega)
    rw [show m + 1 + (j + 1) = (m + 1 + j) + 1 from rfl, itN_succ]
    unfold k83_1
    have goon : itN k83_1 (m + 1 + j) (UInt64.ofNat top, UInt64.ofNat (q + (j + 1)) - 1, UInt64.ofNat ((q + (j + 1)) * d / M) - UInt64.ofNat (if (q + (j + 1)) * d % M < d then 1 else 0), wl d, z, wl low, wl ((q + j) * d % M)) = some (.x (UInt64.ofNat q, z, wl low, wl (q * d % M))) := by
      rw [kw, ko]; exact hrec
    by_cases h1 : top < (q + (j + 1)) * d / M
    · refine Eq.trans (cnd_t ((ltu htop hov).trans (decide_eq_true h1)) _ _) ?_
      refine bnd_ex' key ?_
      exact goon
    · obtain ⟨h2, h3⟩ := hyes.resolve_left h1
      refine Eq.trans (cnd_f ((ltu htop hov).trans (decide_eq_false h1)) _ _) ?_
      refine Eq.trans (cnd_t ((equ hov htop).trans (decide_eq_true h2)) _ _) ?_
      refine bnd_ex' (fCmp_s (Nat.mod_lt _ M_pos) hl) ?_
      refine Eq.trans (cnd_t (cmp_pos.trans (decide_eq_true h3)) _ _) ?_
      refine bnd_ex' key ?_
      exact goon
theorem dw_s {h n d : Nat} (hd : d < M) (hd2 : 57896044618658097711785492504343953926634992332820282019728792003956564819968 ≤ d) (hh : h < d) (hn : n < 18446744073709551616) :
    m83 (wl h, UInt64.ofNat n, wl d) = some (UInt64.ofNat ((h * 18446744073709551616 + n) / d), wl ((h * 18446744073709551616 + n) % d)) := by
  obtain ⟨low, hlow, hT, hlw⟩ := up_word h n (Nat.lt_trans hh hd) hn
  have hge := gs_ge h n d hd hd2 hh hn
  have htg := top_ge d hd hd2
  have hgl := gs_lt (gw (w4 h) 3) (gw (w4 h) 2) (gw (w4 d) 3) htg (gw_lt h 2)
  have htop := gw_lt h 3
  refine (m83_eq _).trans ?_
  unfold b83
  have hG : fGs (List.getD (wl h) 3 (0 : UInt64), List.getD (wl h) 2 (0 : UInt64), List.getD (wl d) 3 (0 : UInt64)) = some (UInt64.ofNat (gsN (gw (w4 h) 3) (gw (w4 h) 2) (gw (w4 d) 3))) := by
    rw [fGs_eq]
    simp only [word_at 3 (by decide), word_at 2 (by decide)]
    exact guard_if (decide_eq_true htg) _
  refine bnd_ex' hG ?_
  generalize gsN (gw (w4 h) 3) (gw (w4 h) 2) (gw (w4 d) 3) = g at hge hgl
  have hTp : fTp (wl d, UInt64.ofNat g, [(0 : UInt64), 0, 0, 0]) = some (wl (d * g % M), UInt64.ofNat (d * g / M)) := (congrArg (fun l : List UInt64 => fTp (wl d, UInt64.ofNat g, l)) wl_zero).trans (fTp_s hd hgl)
  refine bnd_ex' hTp ?_
  have hlo : [UInt64.ofNat n, List.getD (wl h) 0 (0 : UInt64), List.getD (wl h) 1 (0 : UInt64), List.getD (wl h) 2 (0 : UInt64)] = wl low := by
    rw [word_of h 0 (by decide), word_of h 1 (by decide), word_of h 2 (by decide)]
    unfold wl; rw [hlw]; rfl
  generalize hTT : h * 18446744073709551616 + n = T at hT hge
  obtain ⟨q, hq⟩ : ∃ q, T / d = q := ⟨_, rfl⟩
  rw [hq] at hge
  obtain ⟨j, hj⟩ : ∃ j, g = q + j := ⟨g - q, by omega⟩
  subst hj
  obtain ⟨m, hm⟩ := fuel_ge' (1 + j) (by omega)
  have hL : ∀ t : UInt64, t = UInt64.ofNat (gw (w4 h) 3) → ∀ l, l = wl low → l83_1 (t, UInt64.ofNat (q + j), UInt64.ofNat (d * (q + j) / M), wl d, List.replicate 4 (0 : UInt64), l, wl (d * (q + j) % M)) = some (.x (UInt64.ofNat q, List.replicate 4 (0 : UInt64), wl low, wl (q * d % M))) := fun t ht l hl => by
    subst ht hl
    unfold l83_1
    rw [hm, Nat.mul_comm d (q + j), ← Nat.add_assoc]
    exact dw_loop hlow htop hT hd (by omega) hq _ j m hgl
  refine bnd_ex' (hL _ (word_of h 3 (by decide)) _ hlo) ?_
  refine bnd_ex' (fSub_s hlow (Nat.mod_lt _ M_pos)) ?_
  rw [rest_of q d T _ low hlow hT (by omega) hd hq, hq]
/-! divide -/
theorem fShl_s {a s : Nat} (ha : a < M) (hs : s ≤ 256) : fShl (wl a, (s : Int)) = some (wl (a * 2 ^ s % M)) := by
  rw [fShl_eq]; simp only [val_wl ha]
  exact guard_if (by simp; omega) _
theorem fShr_n {a s : Nat} (ha : a < M) (hs : s ≤ 256) : fShr (wl a, (s : Int)) = some (wl (a / 2 ^ s)) := by
  rw [fShr_eq]; simp only [val_wl ha]
  exact guard_if (by simp; omega) _
theorem dv_turn (f : Int × Int × List UInt64 × List UInt64 × List UInt64 × List UInt64 × List UInt64 × List UInt64 → Option (O3 Unit (Int × List UInt64 × List UInt64 × List UInt64 × List UInt64) Unit)) {r b n k : Nat} (hn : n < M) (hn2 : 57896044618658097711785492504343953926634992332820282019728792003956564819968 ≤ n) (hr : r < n) (hk : k < 4) (s : Int) (z1 z2 : List UInt64) :
    k77_1 f (s, ((3 - k : Nat) : Int), wl b, wl n, z1, z2, wl (dvS r (w4 b) n k).2, (dvS r (w4 b) n k).1.map UInt64.ofNat) = f (s, ((3 - k : Nat) : Int) - 1, wl b, wl n, z1, z2, wl (dvS r (w4 b) n (k + 1)).2, (dvS r (w4 b) n (k + 1)).1.map UInt64.ofNat) := by
  have hlt := dvS_lt r (w4 b) n k (by omega) hr
  rw [show dvS r (w4 b) n (k + 1) = ((dvS r (w4 b) n k).1.set (3 - k) (((dvS r (w4 b) n k).2 * 18446744073709551616 + gw (w4 b) (3 - k)) / n), ((dvS r (w4 b) n k).2 * 18446744073709551616 + gw (w4 b) (3 - k)) % n) from rfl]
  generalize dvS r (w4 b) n k = t at hlt
  obtain ⟨l, q⟩ := t
  unfold k77_1
  refine Eq.trans (cnd_t (by simp) _ _) ?_
  refine Eq.trans (guard_if (inB_nat (by omega)) _) ?_
  have hw : ∀ x : UInt64, x = UInt64.ofNat (gw (w4 b) (3 - k)) → m83 (wl q, x, wl n) = some (UInt64.ofNat ((q * 18446744073709551616 + gw (w4 b) (3 - k)) / n), wl ((q * 18446744073709551616 + gw (w4 b) (3 - k)) % n)) := fun x hx => by
    subst hx; exact dw_s hn hn2 hlt (gw_lt b (3 - k))
  refine bnd_ex' (hw _ (word_of b (3 - k) (by omega))) ?_
  refine Eq.trans (guard_if (inB_nat (by omega)) _) ?_
  refine Eq.trans (guard_if (show inR .i64 (((3 - k : Nat) : Int) - 1) = true by unfold inR; simp; omega) _) ?_
  have e : (l.map UInt64.ofNat).set (((3 - k : Nat) : Int)).toNat (UInt64.ofNat ((q * 18446744073709551616 + gw (w4 b) (3 - k)) / n)) = (l.set (3 - k) ((q * 18446744073709551616 + gw (w4 b) (3 - k)) / n)).map UInt64.ofNat := List.map_set.symm
  exact congrArg f (congrArg (fun w => (s, ((3 - k : Nat) : Int) - 1, wl b, wl n, z1, z2, wl ((q * 18446744073709551616 + gw (w4 b) (3 - k)) % n), w)) e)
theorem divide_s {hi lo d : Nat} (hd0 : d ≠ 0) (hd : d < M) (hh : hi < d) (hlo : lo < M) : m77 (wl hi, wl lo, wl d) = some (wl ((hi * M + lo) / d), wl ((hi * M + lo) % d)) := by
  obtain ⟨s, r, b, n, es, hs, hbs, en, hn, hn2, er, h1, h2, eb, hb, hrn, eq, erem, hX⟩ := shifted hi lo d hd0 hd hh hlo
  refine (m77_eq _).trans ?_
  unfold b77
  have hbl := blen_le d hd
  have e256 : (256 : Int) - ((blen d : Nat) : Int) = (s : Int) := by omega
  refine bnd_ex' (fLen_s hd) ?_
  refine Eq.trans (guard_if (by rw [e256]; unfold inR; simp; omega) _) ?_
  have k1 : fShl (wl d, (256 : Int) - ((blen d : Nat) : Int)) = some (wl n) := by rw [e256, fShl_s hd hs, en]
  refine bnd_ex' k1 ?_
  have k2 : l77_0 ((256 : Int) - ((blen d : Nat) : Int), wl hi, wl lo, wl n, List.replicate 4 (0 : UInt64), List.replicate 4 (0 : UInt64)) = some (.n ((s : Int), wl lo, wl n, List.replicate 4 (0 : UInt64), List.replicate 4 (0 : UInt64), wl r)) := by
    rw [e256]
    refine (l77_0_eq _).trans ?_
    unfold a77_0
    refine Eq.trans (guard_if (show inR .i64 ((256 : Int) - (s : Int)) = true by unfold inR; simp; omega) _) ?_
    refine bnd_ex' (fShl_s (Nat.lt_trans hh hd) hs) ?_
    have k3 : fShr (wl lo, (256 : Int) - (s : Int)) = some (wl (lo / 2 ^ (256 - s))) := by
      rw [show (256 : Int) - (s : Int) = ((256 - s : Nat) : Int) by omega, fShr_n hlo (by omega)]
    refine bnd_ex' k3 ?_
    refine bnd_ex' (fAdd_s h1 h2) ?_
    rw [er]
  refine bnd_ex' k2 ?_
  have k4 : fShl (wl lo, (s : Int)) = some (wl b) := by rw [fShl_s hlo hs, eb]
  refine bnd_ex' k4 ?_
  obtain ⟨m, hm⟩ := fuel_ge 5 (by decide)
  have t := fun k hk f => dv_turn f (r := r) (b := b) hn hn2 hrn (k := k) hk (s : Int) (List.replicate 4 (0 : UInt64)) (List.replicate 4 (0 : UInt64))
  obtain ⟨all, _⟩ := dvS_all r b n hb (by omega) hrn
  have fin : ∀ (f : Int × Int × List UInt64 × List UInt64 × List UInt64 × List UInt64 × List UInt64 × List UInt64 → Option (O3 Unit (Int × List UInt64 × List UInt64 × List UInt64 × List UInt64) Unit)) (s : Int) (b n z1 z2 r q : List UInt64), k77_1 f (s, ((3 - 3 : Nat) : Int) - 1, b, n, z1, z2, r, q) = some (.x (s, z1, z2, r, q)) := fun f s b n z1 z2 r q => rfl
  have k5 : l77_1 ((s : Int), (3 : Int), wl b, wl n, List.replicate 4 (0 : UInt64), List.replicate 4 (0 : UInt64), wl r, List.replicate 4 (0 : UInt64)) = some (.x ((s : Int), List.replicate 4 (0 : UInt64), List.replicate 4 (0 : UInt64), wl ((r * M + b) % n), wl ((r * M + b) / n))) := by
    unfold l77_1
    rw [hm]
    have c0 := t 0 (by decide) (itN k77_1 (m + 4))
    have c1 := t 1 (by decide) (itN k77_1 (m + 3))
    have c2 := t 2 (by decide) (itN k77_1 (m + 2))
    have c3 := t 3 (by decide) (itN k77_1 (m + 1))
    refine Eq.trans (show itN k77_1 (m + 5) _ = k77_1 (itN k77_1 (m + 4)) _ from rfl) ?_
    refine c0.trans ?_
    refine Eq.trans (show itN k77_1 (m + 4) _ = k77_1 (itN k77_1 (m + 3)) _ from rfl) ?_
    refine c1.trans ?_
    refine Eq.trans (show itN k77_1 (m + 3) _ = k77_1 (itN k77_1 (m + 2)) _ from rfl) ?_
    refine c2.trans ?_
    refine Eq.trans (show itN k77_1 (m + 2) _ = k77_1 (itN k77_1 (m + 1)) _ from rfl) ?_
    refine c3.trans ?_
    refine Eq.trans (show itN k77_1 (m + 1) _ = k77_1 (itN k77_1 m) _ from rfl) ?_
    refine (fin _ _ _ _ _ _ _ _).trans ?_
    rw [show (3 + 1 : Nat) = 4 from rfl, all]
    rfl
  refine bnd_ex' k5 ?_
  refine bnd_ex' (fShr_n hX hs) ?_
  rw [erem, eq]
theorem rem_s {hi lo d : Nat} (hd0 : d ≠ 0) (hd : d < M) (hhi : hi < M) (hlo : lo < M) : m71 (wl hi, wl lo, wl d) = some (wl ((hi * M + lo) % d), (0 : Int)) := by
  refine (m71_eq _).trans ?_
  unfold b71
  have hz : eqD (.arr 4 (.int .u64)) (wl d) ([(0 : UInt64), 0, 0, 0] : List UInt64) = decide (d = 0) := (congrArg (fun l : List UInt64 => eqD (.arr 4 (.int .u64)) (wl d) l) wl_zero).trans (eq_wl hd M_pos)
  refine Eq.trans (cnd_f (hz.trans (decide_eq_false hd0)) _ _) ?_
  have k1 : m77 ([(0 : UInt64), 0, 0, 0], wl hi, wl d) = some (wl ((0 * M + hi) / d), wl ((0 * M + hi) % d)) := (congrArg (fun l : List UInt64 => m77 (l, wl hi, wl d)) wl_zero).trans (divide_s hd0 hd (by omega) hhi)
  refine bnd_ex' k1 ?_
  have hm := Nat.mod_lt (0 * M + hi) (show 0 < d by omega)
  refine bnd_ex' (divide_s hd0 hd hm hlo) ?_
  have e : ((0 * M + hi) % d * M + lo) % d = (hi * M + lo) % d := by
    rw [Nat.zero_mul, Nat.zero_add, Nat.add_mod, Nat.mod_mul_mod, ← Nat.add_mod]
  rw [e]
theorem div_s {a d : Nat} (hd0 : d ≠ 0) (hd : d < M) (ha : a < M) : m53 (wl a, wl d) = some (wl (a / d), wl (a % d), (0 : Int)) := by
  refine (m53_eq _).trans ?_
  unfold b53
  have hz : eqD (.arr 4 (.int .u64)) (wl d) ([(0 : UInt64), 0, 0, 0] : List UInt64) = decide (d = 0) := (congrArg (fun l : List UInt64 => eqD (.arr 4 (.int .u64)) (wl d) l) wl_zero).trans (eq_wl hd M_pos)
  refine Eq.trans (cnd_f (hz.trans (decide_eq_false hd0)) _ _) ?_
  have k1 : m77 ([(0 : UInt64), 0, 0, 0], wl a, wl d) = some (wl ((0 * M + a) / d), wl ((0 * M + a) % d)) := (congrArg (fun l : List UInt64 => m77 (l, wl a, wl d)) wl_zero).trans (divide_s hd0 hd (by omega) ha)
  refine bnd_ex' k1 ?_
  rw [Nat.zero_mul, Nat.zero_add]
end Go.Proofs.Ytpfoeeiacfadfaa.Q
/-
  What the document's sums, differences and inverses of words tell, in numbers, modulo any odd number.
-/
namespace Go.Proofs.Ytpfoeeiacfadfaa.Q
open Go.RowKit

theorem more_turn (f : UInt64 × Int × List UInt64 × List UInt64 × List UInt64 × List UInt64 → Option (O3 Unit (UInt64 × List UInt64 × List UInt64) Unit)) {a b : Nat} (i : Nat) (hi : i < 4) (z : List UInt64) :
    k50_0 f (UInt64.ofNat (addS (w4 a) (w4 b) i).2, (i : Int), wl a, wl b, z, (addS (w4 a) (w4 b) i).1.map UInt64.ofNat) = f (UInt64.ofNat (addS (w4 a) (w4 b) (i + 1)).2, ((i + 1 : Nat) : Int), wl a, wl b, z, (addS (w4 a) (w4 b) (i + 1)).1.map UInt64.ofNat) := by
  unfold k50_0
  have hc := addS_carry a b i
  rw [show addS (w4 a) (w4 b) (i + 1) = ((addS (w4 a) (w4 b) i).1.set i ((gw (w4 a) i + gw (w4 b) i + (addS (w4 a) (w4 b) i).2) % 18446744073709551616), (gw (w4 a) i + gw (w4 b) i + (addS (w4 a) (w4 b) i).2) / 18446744073709551616) from rfl]
  generalize addS (w4 a) (w4 b) i = s at hc
  obtain ⟨s1, c⟩ := s
  simp only at hc
  have hx : (List.getD (wl a) (Int.toNat (i : Int)) (0 : UInt64)).toNat = gw (w4 a) i := word_at (n := a) i hi
  have hy : (List.getD (wl b) (Int.toNat (i : Int)) (0 : UInt64)).toNat = gw (w4 b) i := word_at (n := b) i hi
  have h1 := gw_lt a i
  have h2 := gw_lt b i
  dsimp only
  generalize List.getD (wl a) (Int.toNat (i : Int)) (0 : UInt64) = x at hx ⊢
  generalize List.getD (wl b) (Int.toNat (i : Int)) (0 : UInt64) = y at hy ⊢
  rw [← hx] at h1 ⊢
  rw [← hy] at h2 ⊢
  obtain ⟨n1, n2, n3, n4⟩ := more_n x.toNat y.toNat c h1 h2 hc
  have e1 : (x + y).toNat = (x.toNat + y.toNat) % 18446744073709551616 := UInt64.toNat_add x y
  have e2 : (x + y + UInt64.ofNat c).toNat = (x.toNat + y.toNat + c) % 18446744073709551616 := by
    rw [UInt64.toNat_add, e1, un c (by omega)]; exact n1
  rw [cnd_t (by simp; omega)]
  simp only [guard_if (inB_nat hi), guard_if (inR_succ (show i < 4096 by omega))]
  rw [lt_nat, e1]
  by_cases q1 : (x.toNat + y.toNat) % 18446744073709551616 < x.toNat
  · rw [cnd_t (decide_eq_true q1), set_of e2, n2 q1]; rfl
  · rw [cnd_f (decide_eq_false q1), lt_nat, e1, e2, ← n1]
    by_cases q2 : ((x.toNat + y.toNat) % 18446744073709551616 + c) % 18446744073709551616 < (x.toNat + y.toNat) % 18446744073709551616
    · rw [cnd_t (decide_eq_true q2), set_of e2, n3 q1 q2, ← n1]; rfl
    · rw [cnd_f (decide_eq_false q2), set_of e2, n4 q1 q2, ← n1]; rfl
theorem more_s {a b : Nat} (ha : a < M) (hb : b < M) : m50 (wl a, wl b) = some (wl ((a + b) % M), UInt64.ofNat ((a + b) / M)) := by
  rw [m50_eq]; unfold b50 l50_0
  obtain ⟨m, hm⟩ := fuel_ge 5 (by decide)
  have h := addS_all a b ha hb
  have s := fun i hi f => more_turn f (a := a) (b := b) i hi (List.replicate 4 (0 : UInt64))
  simp only [hm]
  rw [show ((0 : UInt64), (0 : Int), wl a, wl b, List.replicate 4 (0 : UInt64), [(0 : UInt64), 0, 0, 0]) = (UInt64.ofNat (addS (w4 a) (w4 b) 0).2, ((0 : Nat) : Int), wl a, wl b, List.replicate 4 (0 : UInt64), (addS (w4 a) (w4 b) 0).1.map UInt64.ofNat) from rfl,
    show m + 5 = (((m + 1) + 1 + 1) + 1) + 1 from rfl, itN_succ, s 0 (by decide), itN_succ, s 1 (by decide), itN_succ, s 2 (by decide), itN_succ, s 3 (by decide), itN_succ]
  have fin : ∀ f (c : UInt64) (x y z acc : List UInt64), k50_0 f (c, ((3 + 1 : Nat) : Int), x, y, z, acc) = some (.x (c, z, acc)) := fun f c x y z acc => rfl
  rw [fin, bnd_s, h]
  rfl
theorem less_turn (f : UInt64 × Int × List UInt64 × List UInt64 × List UInt64 × List UInt64 → Option (O3 Unit (UInt64 × List UInt64 × List UInt64) Unit)) {a b : Nat} (i : Nat) (hi : i < 4) (z : List UInt64) :
    k47_0 f (UInt64.ofNat (subS (w4 a) (w4 b) i).2, (i : Int), wl a, wl b, z, (subS (w4 a) (w4 b) i).1.map UInt64.ofNat) = f (UInt64.ofNat (subS (w4 a) (w4 b) (i + 1)).2, ((i + 1 : Nat) : Int), wl a, wl b, z, (subS (w4 a) (w4 b) (i + 1)).1.map UInt64.ofNat) := by
  unfold k47_0
  have hc := subS_carry (w4 a) (w4 b) i
  rw [show subS (w4 a) (w4 b) (i + 1) = ((subS (w4 a) (w4 b) i).1.set i ((gw (w4 a) i + 18446744073709551616 - gw (w4 b) i - (subS (w4 a) (w4 b) i).2) % 18446744073709551616), if gw (w4 a) i < gw (w4 b) i + (subS (w4 a) (w4 b) i).2 then 1 else 0) from rfl]
  generalize subS (w4 a) (w4 b) i = s at hc
  obtain ⟨s1, c⟩ := s
  simp only at hc
  have hx : (List.getD (wl a) (Int.toNat (i : Int)) (0 : UInt64)).toNat = gw (w4 a) i := word_at (n := a) i hi
  have hy : (List.getD (wl b) (Int.toNat (i : Int)) (0 : UInt64)).toNat = gw (w4 b) i := word_at (n := b) i hi
  have h1 := gw_lt a i
  have h2 := gw_lt b i
  dsimp only
  generalize List.getD (wl a) (Int.toNat (i : Int)) (0 : UInt64) = x at hx ⊢
  generalize List.getD (wl b) (Int.toNat (i : Int)) (0 : UInt64) = y at hy ⊢
  rw [← hx] at h1 ⊢
  rw [← hy] at h2 ⊢
  have e2 : (x - y - UInt64.ofNat c).toNat = (x.toNat + 18446744073709551616 - y.toNat - c) % 18446744073709551616 := by
    rw [UInt64.toNat_sub, UInt64.toNat_sub, un c (by omega)]; exact less_n _ _ _ h1 h2 hc
  have hcc : (UInt64.ofNat c).toNat = c := un c (by omega)
  rw [cnd_t (by simp; omega)]
  simp only [guard_if (inB_nat hi), guard_if (inR_succ (show i < 4096 by omega))]
  rw [lt_nat]
  by_cases q1 : x.toNat < y.toNat
  · rw [cnd_t (decide_eq_true q1), set_of e2, if_pos (by omega)]; rfl
  · rw [cnd_f (decide_eq_false q1), eq_nat]
    by_cases q2 : x.toNat = y.toNat
    · rw [cnd_t (decide_eq_true q2), eq_nat, hcc]
      by_cases q3 : c = 1
      · rw [cnd_t (by simp [q3]), set_of e2, if_pos (by omega)]; rfl
      · rw [cnd_f (by simp [q3]), set_of e2, if_neg (by omega)]; rfl
    · rw [cnd_f (decide_eq_false q2), set_of e2, if_neg (by omega)]; rfl
theorem less_s {a b : Nat} (ha : a < M) (hb : b < M) : m47 (wl a, wl b) = some (wl ((a + M - b) % M), UInt64.ofNat (if a < b then 1 else 0)) := by
  rw [m47_eq]; unfold b47 l47_0
  obtain ⟨m, hm⟩ := fuel_ge 5 (by decide)
  have h := subS_all a b ha hb
  have s := fun i hi f => less_turn f (a := a) (b := b) i hi (List.replicate 4 (0 : UInt64))
  simp only [hm]
  rw [show ((0 : UInt64), (0 : Int), wl a, wl b, List.replicate 4 (0 : UInt64), [(0 : UInt64), 0, 0, 0]) = (UInt64.ofNat (subS (w4 a) (w4 b) 0).2, ((0 : Nat) : Int), wl a, wl b, List.replicate 4 (0 : UInt64), (subS (w4 a) (w4 b) 0).1.map UInt64.ofNat) from rfl,
    show m + 5 = (((m + 1) + 1 + 1) + 1) + 1 from rfl, itN_succ, s 0 (by decide), itN_succ, s 1 (by decide), itN_succ, s 2 (by decide), itN_succ, s 3 (by decide), itN_succ]
  have fin : ∀ f (c : UInt64) (x y z acc : List UInt64), k47_0 f (c, ((3 + 1 : Nat) : Int), x, y, z, acc) = some (.x (c, z, acc)) := fun f c x y z acc => rfl
  rw [fin, bnd_s, h]
  rfl
def hn (p x : Nat) : Nat := if x % 2 = 1 then (x + p) / 2 else x / 2
theorem half_s {p u : Nat} (hp : p < M) (h1p : p % 2 = 1) (hu : u < M) : m78 (wl u, wl p) = some (wl (hn p u)) := by
  refine (m78_eq _).trans ?_
  unfold b78
  have main : ∀ (s c : Nat) (z : List UInt64), s < M → c ≤ 1 → (s + c * M) / 2 = hn p u → l78_0 ((0 : UInt64), decide ((List.getD (wl u) 0 (0 : UInt64)) % (2 : UInt64) = (1 : UInt64)), wl u, wl p, z) = some (.n (UInt64.ofNat c, wl s, z)) → ∀ (r : Option (List UInt64)), (bnd (l78_0 ((0 : UInt64), decide ((List.getD (wl u) 0 (0 : UInt64)) % (2 : UInt64) = (1 : UInt64)), wl u, wl p, z)) fun o => (match o with
      | .n o => some [hw (List.getD o.2.1 0 0) (List.getD o.2.1 1 0), hw (List.getD o.2.1 1 0) (List.getD o.2.1 2 0), hw (List.getD o.2.1 2 0) (List.getD o.2.1 3 0), hw (List.getD o.2.1 3 0) o.1]
      | .x _ => none
      | .r _ => none)) = r → r = some (wl (hn p u)) := fun s c z hs hc he hl r hr => by
    rw [hl, bnd_s] at hr
    rw [← hr, ← he]
    exact congrArg some (half_w hs hc)
  have hl : ∀ z, ∃ s c : Nat, s < M ∧ c ≤ 1 ∧ (s + c * M) / 2 = hn p u ∧ l78_0 ((0 : UInt64), decide ((List.getD (wl u) 0 (0 : UInt64)) % (2 : UInt64) = (1 : UInt64)), wl u, wl p, z) = some (.n (UInt64.ofNat c, wl s, z)) := fun z => by
    by_cases h : u % 2 = 1
    · refine ⟨(u + p) % M, (u + p) / M, Nat.mod_lt _ M_pos, by unfold M at *; omega, ?_, ?_⟩
      · rw [Nat.mul_comm, Nat.mod_add_div]; unfold hn; rw [if_pos h]
      · refine (l78_0_eq _).trans ?_
        unfold a78_0
        refine Eq.trans (cnd_t ((low_at hu).trans (decide_eq_true h)) _ _) ?_
        refine bnd_ex' (more_s hu hp) ?_
        rfl
    · refine ⟨u, 0, hu, by decide, by unfold hn; rw [if_neg h, Nat.zero_mul, Nat.add_zero], ?_⟩
      refine (l78_0_eq _).trans ?_
      unfold a78_0
      refine Eq.trans (cnd_f ((low_at hu).trans (decide_eq_false h)) _ _) ?_
      rfl
  obtain ⟨s, c, h1, h2, h3, h4⟩ := hl (List.replicate 4 (0 : UInt64))
  refine bnd_ex' h4 ?_
  refine Eq.trans (guard_if (by rfl) _) ?_
  refine Eq.trans (guard_if (by rfl) _) ?_
  refine Eq.trans (guard_if (by rfl) _) ?_
  refine Eq.trans (guard_if (by rfl) _) ?_
  rw [← h3]
  exact congrArg some (half_w h1 h2)
def sm (p x y : Nat) : Nat := if x < y then x + p - y else x - y
theorem sm_lt {p x y : Nat} (hx : x < p) (hy : y < p) : sm p x y < p := by unfold sm; split <;> omega
theorem inv_end (f : Int × List UInt64 × List UInt64 × List UInt64 × List UInt64 × List UInt64 × List UInt64 → Option (O3 Unit (List UInt64 × List UInt64) Unit)) {p k : Nat} (hk : k < 1100) (z v x y : List UInt64) :
    k54_2 f ((k : Int), wl p, z, wl 0, v, x, y) = some (.x (z, y)) := by
  unfold k54_2
  refine Eq.trans (cnd_t (by simp; omega) _ _) ?_
  have e : eqD (.arr 4 (.int .u64)) (wl 0) ([(0 : UInt64), 0, 0, 0] : List UInt64) = true := (congrArg (fun l : List UInt64 => eqD (.arr 4 (.int .u64)) (wl 0) l) wl_zero).trans ((eq_wl M_pos M_pos).trans (by simp))
  refine Eq.trans (cnd_f (congrArg (fun b => !b) e) _ _) ?_
  rfl
theorem inv_eqz {u : Nat} (hu : u < M) (h0 : u ≠ 0) : (!(eqD (.arr 4 (.int .u64)) (wl u) ([(0 : UInt64), 0, 0, 0] : List UInt64))) = true := by
  have e : eqD (.arr 4 (.int .u64)) (wl u) ([(0 : UInt64), 0, 0, 0] : List UInt64) = false := (congrArg (fun l : List UInt64 => eqD (.arr 4 (.int .u64)) (wl u) l) wl_zero).trans ((eq_wl hu M_pos).trans (decide_eq_false h0))
  rw [e]; rfl
theorem inv_even (f : Int × List UInt64 × List UInt64 × List UInt64 × List UInt64 × List UInt64 × List UInt64 → Option (O3 Unit (List UInt64 × List UInt64) Unit)) {p k u x : Nat} (hp : p < M) (h1p : p % 2 = 1) (hk : k < 1100) (hu : u < M) (h0 : u ≠ 0) (h2 : u % 2 = 0) (hx : x < M) (z v y : List UInt64) :
    k54_2 f ((k : Int), wl p, z, wl u, v, wl x, y) = f (((k + 1 : Nat) : Int), wl p, z, wl (hn p u), v, wl (hn p x), y) := by
  unfold k54_2
  refine Eq.trans (cnd_t (by simp; omega) _ _) ?_
  refine Eq.trans (cnd_t (inv_eqz hu h0) _ _) ?_
  refine Eq.trans (cnd_t ((even_at hu).trans (decide_eq_true h2)) _ _) ?_
  refine bnd_ex' (half_s hp h1p hu) ?_
  refine bnd_ex' (half_s hp h1p hx) ?_
  refine Eq.trans (guard_if (inR_succ (by omega)) _) ?_
  rfl
theorem less_sm {p x y : Nat} (hP : p < M) (_hx : x < p) (hy : y < p) (h : x < y) : ((x + M - y) % M + p) % M = sm p x y := by
  rw [Nat.mod_add_mod, show x + M - y + p = (x + p - y) + M by omega, Nat.add_mod_right, Nat.mod_eq_of_lt (by omega)]
  unfold sm; rw [if_pos h]
/-- The end of a turn: what is taken away, of the other pair. -/
theorem inv_tail (f : Int × List UInt64 × List UInt64 × List UInt64 × List UInt64 × List UInt64 × List UInt64 → Option (O3 Unit (List UInt64 × List UInt64) Unit)) {p k x y : Nat} (hP : p < M) (hk : k < 1100) (hx : x < p) (hy : y < p) (z d v : List UInt64) :
    (bnd (m47 (wl x, wl y)) fun y_14 =>
      cnd (decide (y_14.2 = (1 : UInt64)))
       (bnd (m50 (y_14.1, wl p)) fun y_15 =>
       guard (inR .i64 ((k : Int) + (1 : Int))) <|
       f ((k : Int) + (1 : Int), wl p, z, d, v, y_15.1, wl y))
       (guard (inR .i64 ((k : Int) + (1 : Int))) <|
       f ((k : Int) + (1 : Int), wl p, z, d, v, y_14.1, wl y))) = f (((k + 1 : Nat) : Int), wl p, z, d, v, wl (sm p x y), wl y) := by
  refine bnd_ex' (less_s (Nat.lt_trans hx hP) (Nat.lt_trans hy hP)) ?_
  by_cases h : x < y
  · refine Eq.trans (cnd_t ((one_u _).trans (decide_eq_true h)) _ _) ?_
    refine bnd_ex' (more_s (Nat.mod_lt _ M_pos) hP) ?_
    refine Eq.trans (guard_if (inR_succ (by omega)) _) ?_
    rw [less_sm hP hx hy h]
    rfl
  · refine Eq.trans (cnd_f ((one_u _).trans (decide_eq_false h)) _ _) ?_
    refine Eq.trans (guard_if (inR_succ (by omega)) _) ?_
    rw [less_lt (Nat.lt_trans hx hP) (Nat.le_of_not_lt h)]
    have e : x - y = sm p x y := by unfold sm; rw [if_neg h]
    rw [e]
    rfl
theorem inv_odd (f : Int × List UInt64 × List UInt64 × List UInt64 × List UInt64 × List UInt64 × List UInt64 → Option (O3 Unit (List UInt64 × List UInt64) Unit)) {p k u v x y : Nat} (hP : p < M) (hk : k < 1100) (hu : u < M) (hv : v < M) (h0 : u ≠ 0) (h2 : ¬ u % 2 = 0) (hx : x < p) (hy : y < p) (z : List UInt64) :
    k54_2 f ((k : Int), wl p, z, wl u, wl v, wl x, wl y) = (if u < v then f (((k + 1 : Nat) : Int), wl p, z, wl (v - u), wl u, wl (sm p y x), wl x) else f (((k + 1 : Nat) : Int), wl p, z, wl (u - v), wl v, wl (sm p x y), wl y)) := by
  unfold k54_2
  refine Eq.trans (cnd_t (by simp; omega) _ _) ?_
  refine Eq.trans (cnd_t (inv_eqz hu h0) _ _) ?_
  refine Eq.trans (cnd_f ((even_at hu).trans (decide_eq_false h2)) _ _) ?_
  have LS := less_s hu hv
  by_cases h : u < v
  · rw [if_pos h]
    refine bnd_ex' LS ?_
    have hl : ∀ d, l54_5 ((k : Int), decide (UInt64.ofNat (if u < v then 1 else 0) = (1 : UInt64)), wl p, z, wl u, wl v, wl x, wl y, d) = some (.n ((k : Int), wl p, z, wl u, wl u, wl y, wl x, wl (v - u))) := fun d => by
      refine (l54_5_eq _).trans ?_
      unfold a54_5
      refine Eq.trans (cnd_t ((one_u _).trans (decide_eq_true h)) _ _) ?_
      have LS2 := less_s hv hu
      rw [less_lt hv (Nat.le_of_lt h)] at LS2
      refine bnd_ex' LS2 ?_
      rfl
    refine bnd_ex' (hl _) ?_
    exact inv_tail f hP hk hy hx z (wl (v - u)) (wl u)
  · rw [if_neg h]
    rw [less_lt hu (Nat.le_of_not_lt h)] at LS
    refine bnd_ex' LS ?_
    have hl : ∀ d, l54_5 ((k : Int), decide (UInt64.ofNat (if u < v then 1 else 0) = (1 : UInt64)), wl p, z, wl u, wl v, wl x, wl y, d) = some (.n ((k : Int), wl p, z, wl u, wl v, wl x, wl y, d)) := fun d => by
      refine (l54_5_eq _).trans ?_
      unfold a54_5
      refine Eq.trans (cnd_f ((one_u _).trans (decide_eq_false h)) _ _) ?_
      rfl
    refine bnd_ex' (hl _) ?_
    exact inv_tail f hP hk hx hy z (wl (u - v)) (wl v)
theorem half_one' {p : Nat} (h1p : p % 2 = 1) (A : Nat) : (p + 1) / 2 * (2 * A % p) % p = A % p := by
  rw [Nat.mul_mod_mod, ← Nat.mul_assoc, show (p + 1) / 2 * 2 = p + 1 by omega, Nat.add_mul, Nat.one_mul, Nat.mul_add_mod]
theorem cancel2 {p A B : Nat} (h1p : p % 2 = 1) (h : 2 * A % p = 2 * B % p) : A % p = B % p := by
  rw [← half_one' h1p A, h, half_one' h1p]
theorem add_back (p X B : Nat) (hp : 0 < p) : (X + B + (p - B % p)) % p = X % p := by
  have h1 := Nat.div_add_mod B p
  have h2 := Nat.mod_lt B hp
  have e : X + B + (p - B % p) = X + p * (B / p + 1) := by
    rw [Nat.mul_add, Nat.mul_one]; omega
  rw [e, Nat.add_mul_mod_self_left]
theorem sub_modp {p A B C u v : Nat} (hp : 0 < p) (h1 : (A + B) % p = C % p) (h2 : C % p = u % p) (h3 : B % p = v % p) (hle : v ≤ u) : A % p = (u - v) % p := by
  have h4 : (A + B) % p = ((u - v) + B) % p := by
    rw [h1, h2, Nat.add_mod (u - v) B, h3, ← Nat.add_mod, Nat.sub_add_cancel hle]
  have h5 := add_back p A B hp
  have h6 := add_back p (u - v) B hp
  rw [Nat.add_mod, h4, ← Nat.add_mod, h6] at h5
  exact h5.symm
theorem hn_lt {p x : Nat} (hx : x < p) : hn p x < p := by unfold hn; split <;> omega
theorem hn_mul {p x u a : Nat} (h1p : p % 2 = 1) (h : x * a % p = u % p) (hu : u % 2 = 0) : hn p x * a % p = u / 2 % p := by
  refine cancel2 h1p ?_
  rw [show 2 * (u / 2) = u by omega, ← h, ← Nat.mul_assoc]
  unfold hn
  split
  · rw [show 2 * ((x + p) / 2) = x + p by omega, Nat.add_mul, Nat.add_mul_mod_self_left]
  · rw [show 2 * (x / 2) = x by omega]
theorem sm_mul {p x y u v a : Nat} (hy : y < p) (h1 : x * a % p = u % p) (h2 : y * a % p = v % p) (hle : v ≤ u) : sm p x y * a % p = (u - v) % p := by
  refine sub_modp (by omega) (B := y * a) (C := x * a) ?_ h1 h2 hle
  rw [← Nat.add_mul]
  unfold sm
  split
  · rw [show x + p - y + y = x + p by omega, Nat.add_mul, Nat.add_mul_mod_self_left]
  · rw [show x - y + y = x by omega]
theorem cop_sub {u v : Nat} (h : Nat.Coprime u v) (hle : v ≤ u) : Nat.Coprime (u - v) v := by
  have h1 : Nat.gcd (u - v) v ∣ u := by
    have := Nat.dvd_add (Nat.gcd_dvd_left (u - v) v) (Nat.gcd_dvd_right (u - v) v)
    rwa [Nat.sub_add_cancel hle] at this
  have h2 := Nat.dvd_gcd h1 (Nat.gcd_dvd_right (u - v) v)
  rw [show Nat.gcd u v = 1 from h] at h2
  exact Nat.dvd_one.1 h2
theorem hn_even {p u : Nat} (h : u % 2 = 0) : hn p u = u / 2 := by unfold hn; rw [if_neg (by omega)]
/-- ALL TURNS. -/
theorem inv_all {p a : Nat} (hP : p < M) (h1p : p % 2 = 1) (h1 : 1 < p) (z : List UInt64) : ∀ (n m k e u v x y : Nat), k + n < 1100 → u ≤ p → v ≤ p → v % 2 = 1 → x < p → y < p → x * a % p = u % p → y * a % p = v % p → Nat.Coprime u v → u * v < 2 ^ e → (if u % 2 = 0 then 2 * e else 2 * e + 1) ≤ n →
    ∃ r, r < p ∧ r * a % p = 1 ∧ itN k54_2 (m + 1 + n) ((k : Int), wl p, z, wl u, wl v, wl x, wl y) = some (.x (z, wl r)) := by
  intro n
  induction n with
  | zero =>
    intro m k e u v x y hk hu hv v1 hx hy hxa hya hc he hn
    have h0 : u = 0 := by
      refine Classical.byContradiction fun h0 => ?_
      split at hn
      · have e0 : e = 0 := by omega
        subst e0
        have := Nat.mul_pos (Nat.pos_of_ne_zero h0) (show 0 < v by omega)
        rw [Nat.pow_zero] at he; omega
      · omega
    subst h0
    have hv1 : v = 1 := by have := hc; unfold Nat.Coprime at this; rwa [Nat.gcd_zero_left] at this
    subst hv1
    exact ⟨y, hy, by rw [hya, Nat.mod_eq_of_lt h1], by rw [show m + 1 + 0 = m + 1 from rfl, itN_succ]; exact inv_end _ (by omega) z _ _ _⟩
  | succ n ih =>
    intro m k e u v x y hk hu hv v1 hx hy hxa hya hc he hn
    by_cases h0 : u = 0
    · subst h0
      have hv1 : v = 1 := by have := hc; unfold Nat.Coprime at this; rwa [Nat.gcd_zero_left] at this
      subst hv1
      exact ⟨y, hy, by rw [hya, Nat.mod_eq_of_lt h1], by rw [show m + 1 + (n + 1) = (m + 1 + n) + 1 from rfl, itN_succ]; exact inv_end _ (by omega) z _ _ _⟩
    · 
      have hpos := Nat.mul_pos (Nat.pos_of_ne_zero h0) (show 0 < v by omega)
      rw [show m + 1 + (n + 1) = (m + 1 + n) + 1 from rfl, itN_succ]
      by_cases h2 : u % 2 = 0
      · rw [inv_even _ hP h1p (by omega) (by omega) h0 h2 (by omega)]
        rw [if_pos h2] at hn
        obtain ⟨e', rfl⟩ : ∃ e', e = e' + 1 := ⟨e - 1, by
          have : e ≠ 0 := fun h => by subst h; rw [Nat.pow_zero] at he; omega
          omega⟩
        have hlt : u / 2 * v < 2 ^ e' := by
          have h9 : 2 * (u / 2 * v) = u * v := by rw [← Nat.mul_assoc, show 2 * (u / 2) = u by omega]
          rw [Nat.pow_succ] at he; omega
        rw [hn_even h2]
        exact ih m (k + 1) e' (u / 2) v (Q.hn p x) y (by omega) (by omega) hv v1 (hn_lt hx) hy (hn_mul h1p hxa h2) hya (Nat.Coprime.coprime_dvd_left (Nat.div_dvd_of_dvd (Nat.dvd_of_mod_eq_zero h2)) hc) hlt (by split <;> omega)
      · rw [inv_odd _ hP (by omega) (by omega) (by omega) h0 h2 hx hy]
        rw [if_neg h2] at hn
        by_cases h : u < v
        · rw [if_pos h]
          have hlt : (v - u) * u < 2 ^ e := Nat.lt_of_le_of_lt (by rw [Nat.mul_comm u v]; exact Nat.mul_le_mul_right u (Nat.sub_le v u)) he
          exact ih m (k + 1) e (v - u) u (sm p y x) x (by omega) (by omega) hu (by omega) (sm_lt hy hx) hx (sm_mul hx hya hxa (Nat.le_of_lt h)) hxa (cop_sub hc.symm (Nat.le_of_lt h)) hlt (by rw [if_pos (show (v - u) % 2 = 0 by omega)]; omega)
        · rw [if_neg h]
          have hle := Nat.le_of_not_lt h
          have hlt : (u - v) * v < 2 ^ e := Nat.lt_of_le_of_lt (Nat.mul_le_mul_right v (Nat.sub_le u v)) he
          exact ih m (k + 1) e (u - v) v (sm p x y) y (by omega) (by omega) hv v1 (sm_lt hx hy) hy (sm_mul hy hxa hya hle) hya (cop_sub hc hle) hlt (by rw [if_pos (show (u - v) % 2 = 0 by omega)]; omega)
theorem inv_uniq' {p a r w : Nat} (hr : r < p) (hwl : w < p) (h : r * a % p = 1) (hw : w * a % p = 1) : r = w := by
  have e1 : r * (a * w) % p = r := by rw [← Nat.mul_mod_mod, Nat.mul_comm a w, hw, Nat.mul_one, Nat.mod_eq_of_lt hr]
  have e2 : r * (a * w) % p = w := by rw [← Nat.mul_assoc, ← Nat.mod_mul_mod, h, Nat.one_mul, Nat.mod_eq_of_lt hwl]
  rw [← e1, e2]
theorem mm_pow (n : Nat) (h : 2 ^ n = M) : M * M = 2 ^ (n + n) := by rw [Nat.pow_add, h]
/-- The document's inverse, modulo any odd number that has no divisor in common. -/
theorem inverse_any {p a : Nat} (hP : p < M) (h1p : p % 2 = 1) (h1 : 1 < p) (ha : a < p) (h0 : a ≠ 0) (hc : Nat.Coprime a p) : ∃ r, r < p ∧ r * a % p = 1 ∧ m54 (wl a, wl p) = some (wl r) := by
  obtain ⟨m, hm⟩ := fuel_ge 1030 (by decide)
  obtain ⟨r, r1, r2, r3⟩ := inv_all (a := a) hP h1p h1 (List.replicate 4 (0 : UInt64)) 1029 m 0 (256 + 256) a p 1 0 (by decide) (Nat.le_of_lt ha) (Nat.le_refl _) h1p h1 (by omega) (by rw [Nat.one_mul]) (by rw [Nat.zero_mul, Nat.zero_mod, Nat.mod_self]) hc (Nat.lt_of_lt_of_eq (Nat.mul_lt_mul_of_lt_of_lt (Nat.lt_trans ha hP) hP) (mm_pow 256 (by decide))) (by split <;> decide)
  refine ⟨r, r1, r2, ?_⟩
  refine (m54_eq _).trans ?_
  unfold b54
  have hz : eqD (.arr 4 (.int .u64)) (wl a) ([(0 : UInt64), 0, 0, 0] : List UInt64) = decide (a = 0) := (congrArg (fun l : List UInt64 => eqD (.arr 4 (.int .u64)) (wl a) l) wl_zero).trans (eq_wl (by omega) M_pos)
  refine Eq.trans (cnd_f (hz.trans (decide_eq_false h0)) _ _) ?_
  have h1' : ∀ z, l54_1 (wl a, wl p, z) = some (.n (wl p, z, wl a, wl p)) := fun z => (l54_1_eq _).trans rfl
  refine bnd_ex' (h1' _) ?_
  have h2 : l54_2 ((0 : Int), wl p, List.replicate 4 (0 : UInt64), wl a, wl p, [(1 : UInt64), 0, 0, 0], [(0 : UInt64), 0, 0, 0]) = some (.x (List.replicate 4 (0 : UInt64), wl r)) := by
    unfold l54_2
    rw [hm, wl_zero, show ([(1 : UInt64), 0, 0, 0]) = wl 1 from wl_small (n := 1)]
    exact r3
  exact bnd_ex' h2 rfl
theorem inverse_zero {p : Nat} : m54 (wl 0, wl p) = some (wl 0) := by
  refine (m54_eq _).trans ?_
  unfold b54
  have hz : eqD (.arr 4 (.int .u64)) (wl 0) ([(0 : UInt64), 0, 0, 0] : List UInt64) = true := (congrArg (fun l : List UInt64 => eqD (.arr 4 (.int .u64)) (wl 0) l) wl_zero).trans ((eq_wl M_pos M_pos).trans (by simp))
  refine Eq.trans (cnd_t hz _ _) ?_
  rfl
end Go.Proofs.Ytpfoeeiacfadfaa.Q
