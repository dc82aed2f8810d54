/-
  What the document's inverse modulo the prime tells, in numbers; FieldPow.
-/
import Derived.Test.YthlbdpmnljcapaaFR
import Derived.Test.YthlbdpmnljcapaaFD5
namespace Go.Proofs.Ythlbdpmnljcapaa.Q
open Go.RowKit

def hw (x y : UInt64) : UInt64 := orK .u64 (shrK .u64 x 1) (shlK .u64 y 63)
theorem hw_n (x y : UInt64) : (hw x y).toNat = x.toNat / 2 + 9223372036854775808 * (y.toNat % 2) := by
  have hx := ut x
  have hy := ut y
  have e1 : (shrK .u64 x 1 : UInt64).toNat = x.toNat / 2 := by
    show (UInt64.ofNat (x.toNat / 2 ^ min 1 64)).toNat = _
    rw [show 2 ^ min 1 64 = 2 from rfl, un _ (by omega)]
  have e2 : (shlK .u64 y 63 : UInt64).toNat = 9223372036854775808 * (y.toNat % 2) := by
    show (UInt64.ofNat (y.toNat * 2 ^ min 63 64)).toNat = _
    rw [show 2 ^ min 63 64 = 9223372036854775808 from rfl, UInt64.toNat_ofNat']
    show y.toNat * 9223372036854775808 % 18446744073709551616 = _
    omega
  show (UInt64.lor (shrK .u64 x 1) (shlK .u64 y 63)).toNat = _
  show ((show UInt64 from shrK .u64 x 1) ||| (show UInt64 from shlK .u64 y 63)).toNat = _
  rw [UInt64.toNat_or]
  refine (congr (congrArg (fun p q : Nat => p ||| q) e1) e2).trans ?_
  have h := Nat.two_pow_add_eq_or_of_lt (i := 63) (b := x.toNat / 2) (by have : (2 : Nat) ^ 63 = 9223372036854775808 := rfl; omega) (y.toNat % 2)
  rw [show (2 : Nat) ^ 63 = 9223372036854775808 from rfl] at h
  show x.toNat / 2 ||| 9223372036854775808 * (y.toNat % 2) = _
  rw [Nat.or_comm, ← h, Nat.add_comm]
theorem half_w {s c : Nat} (hs : s < M) (hc : c ≤ 1) : [hw ((wl s).getD 0 0) ((wl s).getD 1 0), hw ((wl s).getD 1 0) ((wl s).getD 2 0), hw ((wl s).getD 2 0) ((wl s).getD 3 0), hw ((wl s).getD 3 0) (UInt64.ofNat c)] = wl ((s + c * M) / 2) := by
  obtain ⟨a0, a1, a2, a3, la⟩ := len4 (wl_len s)
  have va : s = a0.toNat + 18446744073709551616 * (a1.toNat + 18446744073709551616 * (a2.toNat + 18446744073709551616 * a3.toNat)) := by rw [← val4, ← la, val_wl hs]
  rw [la]
  show [hw a0 a1, hw a1 a2, hw a2 a3, hw a3 (UInt64.ofNat c)] = _
  rw [wl4, hw_n, hw_n, hw_n, hw_n, un c (by omega)]
  congr 1
  have := ut a0; have := ut a1; have := ut a2; have := ut a3
  rw [va]; unfold M
  omega
def hn (x : Nat) : Nat := if x % 2 = 1 then (x + Pm) / 2 else x / 2
theorem half_s {u : Nat} (hu : u < M) : m91 (wl u, wl Pm) = some (wl (hn u)) := by
  refine (m91_eq _).trans ?_
  unfold b91
  have main : ∀ (s c : Nat) (z : List UInt64), s < M → c ≤ 1 → (s + c * M) / 2 = hn u → l91_0 ((0 : UInt64), decide ((List.getD (wl u) 0 (0 : UInt64)) % (2 : UInt64) = (1 : UInt64)), wl u, wl Pm, z) = some (.n (UInt64.ofNat c, wl s, z)) → ∀ (r : Option (List UInt64)), (bnd (l91_0 ((0 : UInt64), decide ((List.getD (wl u) 0 (0 : UInt64)) % (2 : UInt64) = (1 : UInt64)), wl u, wl Pm, z)) fun o => (match o with
      | .n o => some [hw (List.getD o.2.1 0 0) (List.getD o.2.1 1 0), hw (List.getD o.2.1 1 0) (List.getD o.2.1 2 0), hw (List.getD o.2.1 2 0) (List.getD o.2.1 3 0), hw (List.getD o.2.1 3 0) o.1]
      | .x _ => none
      | .r _ => none)) = r → r = some (wl (hn u)) := fun s c z hs hc he hl r hr => by
    rw [hl, bnd_s] at hr
    rw [← hr, ← he]
    exact congrArg some (half_w hs hc)
  have hl : ∀ z, ∃ s c : Nat, s < M ∧ c ≤ 1 ∧ (s + c * M) / 2 = hn u ∧ l91_0 ((0 : UInt64), decide ((List.getD (wl u) 0 (0 : UInt64)) % (2 : UInt64) = (1 : UInt64)), wl u, wl Pm, z) = some (.n (UInt64.ofNat c, wl s, z)) := fun z => by
    by_cases h : u % 2 = 1
    · refine ⟨(u + Pm) % M, (u + Pm) / M, Nat.mod_lt _ M_pos, by unfold Pm M at *; omega, ?_, ?_⟩
      · rw [Nat.mul_comm, Nat.mod_add_div]; unfold hn; rw [if_pos h]
      · refine (l91_0_eq _).trans ?_
        unfold a91_0
        refine Eq.trans (cnd_t ((low_at hu).trans (decide_eq_true h)) _ _) ?_
        refine bnd_ex' (more_s hu P_lt) ?_
        rfl
    · refine ⟨u, 0, hu, by decide, by unfold hn; rw [if_neg h, Nat.zero_mul, Nat.add_zero], ?_⟩
      refine (l91_0_eq _).trans ?_
      unfold a91_0
      refine Eq.trans (cnd_f ((low_at hu).trans (decide_eq_false h)) _ _) ?_
      rfl
  obtain ⟨s, c, h1, h2, h3, h4⟩ := hl (List.replicate 4 (0 : UInt64))
  refine bnd_ex' h4 ?_
  refine Eq.trans (guard_if (by rfl) _) ?_
  refine Eq.trans (guard_if (by rfl) _) ?_
  refine Eq.trans (guard_if (by rfl) _) ?_
  refine Eq.trans (guard_if (by rfl) _) ?_
  rw [← h3]
  exact congrArg some (half_w h1 h2)
def sm (x y : Nat) : Nat := if x < y then x + Pm - y else x - y
theorem sm_lt {x y : Nat} (hx : x < Pm) (hy : y < Pm) : sm x y < Pm := by unfold sm; split <;> omega
theorem inv_end (f : Int × List UInt64 × List UInt64 × List UInt64 × List UInt64 × List UInt64 × List UInt64 → Option (O3 Unit (List UInt64 × List UInt64) Unit)) {k : Nat} (hk : k < 1100) (z v x y : List UInt64) :
    k80_2 f ((k : Int), wl Pm, z, wl 0, v, x, y) = some (.x (z, y)) := by
  unfold k80_2
  refine Eq.trans (cnd_t (by simp; omega) _ _) ?_
  have e : eqD (.arr 4 (.int .u64)) (wl 0) ([(0 : UInt64), 0, 0, 0] : List UInt64) = true := (congrArg (fun l : List UInt64 => eqD (.arr 4 (.int .u64)) (wl 0) l) wl_zero).trans ((eq_wl M_pos M_pos).trans (by simp))
  refine Eq.trans (cnd_f (congrArg (fun b => !b) e) _ _) ?_
  rfl
theorem inv_eqz {u : Nat} (hu : u < M) (h0 : u ≠ 0) : (!(eqD (.arr 4 (.int .u64)) (wl u) ([(0 : UInt64), 0, 0, 0] : List UInt64))) = true := by
  have e : eqD (.arr 4 (.int .u64)) (wl u) ([(0 : UInt64), 0, 0, 0] : List UInt64) = false := (congrArg (fun l : List UInt64 => eqD (.arr 4 (.int .u64)) (wl u) l) wl_zero).trans ((eq_wl hu M_pos).trans (decide_eq_false h0))
  rw [e]; rfl
theorem inv_even (f : Int × List UInt64 × List UInt64 × List UInt64 × List UInt64 × List UInt64 × List UInt64 → Option (O3 Unit (List UInt64 × List UInt64) Unit)) {k u x : Nat} (hk : k < 1100) (hu : u < M) (h0 : u ≠ 0) (h2 : u % 2 = 0) (hx : x < M) (z v y : List UInt64) :
    k80_2 f ((k : Int), wl Pm, z, wl u, v, wl x, y) = f (((k + 1 : Nat) : Int), wl Pm, z, wl (hn u), v, wl (hn x), y) := by
  unfold k80_2
  refine Eq.trans (cnd_t (by simp; omega) _ _) ?_
  refine Eq.trans (cnd_t (inv_eqz hu h0) _ _) ?_
  refine Eq.trans (cnd_t ((even_at hu).trans (decide_eq_true h2)) _ _) ?_
  refine bnd_ex' (half_s hu) ?_
  refine bnd_ex' (half_s hx) ?_
  refine Eq.trans (guard_if (inR_succ (by omega)) _) ?_
  rfl
theorem less_lt {x y : Nat} (hx : x < M) (hy : y ≤ x) : (x + M - y) % M = x - y := by
  rw [show x + M - y = (x - y) + M by omega, Nat.add_mod_right, Nat.mod_eq_of_lt (by omega)]
theorem less_sm {x y : Nat} (_hx : x < Pm) (hy : y < Pm) (h : x < y) : ((x + M - y) % M + Pm) % M = sm x y := by
  have hP := P_lt
  rw [Nat.mod_add_mod, show x + M - y + Pm = (x + Pm - y) + M by omega, Nat.add_mod_right, Nat.mod_eq_of_lt (by omega)]
  unfold sm; rw [if_pos h]
/-- The end of a turn: what is taken away, of the other pair. -/
theorem inv_tail (f : Int × List UInt64 × List UInt64 × List UInt64 × List UInt64 × List UInt64 × List UInt64 → Option (O3 Unit (List UInt64 × List UInt64) Unit)) {k x y : Nat} (hk : k < 1100) (hx : x < Pm) (hy : y < Pm) (z d v : List UInt64) :
    (bnd (m74 (wl x, wl y)) fun y_14 =>
      cnd (decide (y_14.2 = (1 : UInt64)))
       (bnd (m73 (y_14.1, wl Pm)) fun y_15 =>
       guard (inR .i64 ((k : Int) + (1 : Int))) <|
       f ((k : Int) + (1 : Int), wl Pm, z, d, v, y_15.1, wl y))
       (guard (inR .i64 ((k : Int) + (1 : Int))) <|
       f ((k : Int) + (1 : Int), wl Pm, z, d, v, y_14.1, wl y))) = f (((k + 1 : Nat) : Int), wl Pm, z, d, v, wl (sm x y), wl y) := by
  have hP := P_lt
  refine bnd_ex' (less_s (Nat.lt_trans hx hP) (Nat.lt_trans hy hP)) ?_
  by_cases h : x < y
  · refine Eq.trans (cnd_t ((one_u _).trans (decide_eq_true h)) _ _) ?_
    refine bnd_ex' (more_s (Nat.mod_lt _ M_pos) hP) ?_
    refine Eq.trans (guard_if (inR_succ (by omega)) _) ?_
    rw [less_sm hx hy h]
    rfl
  · refine Eq.trans (cnd_f ((one_u _).trans (decide_eq_false h)) _ _) ?_
    refine Eq.trans (guard_if (inR_succ (by omega)) _) ?_
    rw [less_lt (Nat.lt_trans hx hP) (Nat.le_of_not_lt h)]
    have e : x - y = sm x y := by unfold sm; rw [if_neg h]
    rw [e]
    rfl
theorem inv_odd (f : Int × List UInt64 × List UInt64 × List UInt64 × List UInt64 × List UInt64 × List UInt64 → Option (O3 Unit (List UInt64 × List UInt64) Unit)) {k u v x y : Nat} (hk : k < 1100) (hu : u < M) (hv : v < M) (h0 : u ≠ 0) (h2 : ¬ u % 2 = 0) (hx : x < Pm) (hy : y < Pm) (z : List UInt64) :
    k80_2 f ((k : Int), wl Pm, z, wl u, wl v, wl x, wl y) = (if u < v then f (((k + 1 : Nat) : Int), wl Pm, z, wl (v - u), wl u, wl (sm y x), wl x) else f (((k + 1 : Nat) : Int), wl Pm, z, wl (u - v), wl v, wl (sm x y), wl y)) := by
  unfold k80_2
  refine Eq.trans (cnd_t (by simp; omega) _ _) ?_
  refine Eq.trans (cnd_t (inv_eqz hu h0) _ _) ?_
  refine Eq.trans (cnd_f ((even_at hu).trans (decide_eq_false h2)) _ _) ?_
  have LS := less_s hu hv
  by_cases h : u < v
  · rw [if_pos h]
    refine bnd_ex' LS ?_
    have hl : ∀ d, l80_5 ((k : Int), decide (UInt64.ofNat (if u < v then 1 else 0) = (1 : UInt64)), wl Pm, z, wl u, wl v, wl x, wl y, d) = some (.n ((k : Int), wl Pm, z, wl u, wl u, wl y, wl x, wl (v - u))) := fun d => by
      refine (l80_5_eq _).trans ?_
      unfold a80_5
      refine Eq.trans (cnd_t ((one_u _).trans (decide_eq_true h)) _ _) ?_
      have LS2 := less_s hv hu
      rw [less_lt hv (Nat.le_of_lt h)] at LS2
      refine bnd_ex' LS2 ?_
      rfl
    refine bnd_ex' (hl _) ?_
    exact inv_tail f hk hy hx z (wl (v - u)) (wl u)
  · rw [if_neg h]
    rw [less_lt hu (Nat.le_of_not_lt h)] at LS
    refine bnd_ex' LS ?_
    have hl : ∀ d, l80_5 ((k : Int), decide (UInt64.ofNat (if u < v then 1 else 0) = (1 : UInt64)), wl Pm, z, wl u, wl v, wl x, wl y, d) = some (.n ((k : Int), wl Pm, z, wl u, wl v, wl x, wl y, d)) := fun d => by
      refine (l80_5_eq _).trans ?_
      unfold a80_5
      refine Eq.trans (cnd_f ((one_u _).trans (decide_eq_false h)) _ _) ?_
      rfl
    refine bnd_ex' (hl _) ?_
    exact inv_tail f hk hx hy z (wl (u - v)) (wl v)
end Go.Proofs.Ythlbdpmnljcapaa.Q
