/-
  Helpers for mathematics over mirrors: guards, words, numbers of 256 bits, the hands of package wide.
  Conditions: none of any program but what QM says.
-/
import Derived.Test.YtpfoeeiacfadfaaFM
import Derived.Test.YtpfoeeiacfadfaaQM
import Derived.Test.YtpfoeeiacfadfaaWdZ
namespace Go.Proofs.Ytpfoeeiacfadfaa.Q
open Go.RowKit

theorem or64 (x y : UInt64) : orK .u64 x y = UInt64.lor x y := hide_eq _
theorem inB_nat {i n : Nat} (h : i < n) : inB (i : Int) n = true := by
  unfold inB; simp; omega
theorem guard_if {β : Type} {b : Bool} (h : b = true) (k : Option β) : guard b k = k := by rw [h]; rfl
theorem cnd_t {β : Type} {b : Bool} (h : b = true) (x y : Option β) : cnd b x y = x := by rw [h]; rfl
theorem cnd_f {β : Type} {b : Bool} (h : b = false) (x y : Option β) : cnd b x y = y := by rw [h]; rfl
theorem u_eq {x y : UInt64} (h : x.toNat = y.toNat) : x = y := UInt64.toNat_inj.1 h
theorem wl_words {l : List UInt64} (h : l.length = 4) {n : Nat} (hv : val l = n) : l = wl n := by rw [← hv, wl_val h]
theorem val4 (a b c d : UInt64) : val [a, b, c, d] = a.toNat + 18446744073709551616 * (b.toNat + 18446744073709551616 * (c.toNat + 18446744073709551616 * d.toNat)) := rfl
theorem wl4 (a b c d : UInt64) : [a, b, c, d] = wl (a.toNat + 18446744073709551616 * (b.toNat + 18446744073709551616 * (c.toNat + 18446744073709551616 * d.toNat))) := wl_words rfl (val4 a b c d)
theorem wl_small {n : UInt64} : [n, 0, 0, 0] = wl n.toNat := wl_words rfl (by rw [val4]; simp)
theorem fFrom_s (n : UInt64) : fFrom n = some (wl n.toNat) := fFrom_eq n
theorem fAdd_s {a b : Nat} (ha : a < M) (hb : b < M) : fAdd (wl a, wl b) = some (wl ((a + b) % M), UInt64.ofNat ((a + b) / M)) := by rw [fAdd_eq]; simp only [val_wl ha, val_wl hb]
theorem fSub_s {a b : Nat} (ha : a < M) (hb : b < M) : fSub (wl a, wl b) = some (wl ((a + M - b) % M), UInt64.ofNat (if a < b then 1 else 0)) := by rw [fSub_eq]; simp only [val_wl ha, val_wl hb]
theorem fMul_s {a b : Nat} (ha : a < M) (hb : b < M) : fMul (wl a, wl b) = some (wl (a * b % M), wl (a * b / M)) := by rw [fMul_eq]; simp only [val_wl ha, val_wl hb]
theorem fLen_s {a : Nat} (ha : a < M) : fLen (wl a) = some ((blen a : Nat) : Int) := by rw [fLen_eq]; simp only [val_wl ha]
theorem M_pos : 0 < M := by decide
theorem wl_zero : ([(0 : UInt64), 0, 0, 0]) = wl 0 := wl_small (n := 0)
theorem eq_wl {a b : Nat} (ha : a < M) (hb : b < M) : eqD (.arr 4 (.int .u64)) (wl a) (wl b) = decide (a = b) := by
  have h := eqD_w (x := wl a) (y := wl b)
  rw [h]
  exact decide_eq_decide.2 (wl_inj ha hb)
theorem word_at {n : Nat} (i : Nat) (hi : i < 4) : ((wl n).getD i 0).toNat = gw (w4 n) i := by
  rw [← map_wl]
  obtain ⟨a, b, c, d, h⟩ := len4 (wl_len n)
  rw [h]
  unfold gw
  match i, hi with
  | 0, _ => rfl
  | 1, _ => rfl
  | 2, _ => rfl
  | 3, _ => rfl
theorem cmp_s {a b : Nat} (ha : a < M) (hb : b < M) : fCmp (wl a, wl b) = some (cmpN a b) := by rw [fCmp_eq]; simp only [val_wl ha, val_wl hb]
theorem one_c {n : Nat} (h : n ≤ 1) : decide (UInt64.ofNat n = (1 : UInt64)) = decide (n = 1) := by
  rcases (show n = 0 ∨ n = 1 by omega) with rfl | rfl <;> rfl
theorem bnd_ex' {α β : Type} {o : Option α} {a : α} {k : α → Option β} {r : Option β} (h : o = some a) (hk : k a = r) : bnd o k = r := by rw [h]; exact hk
theorem gd (l : List Nat) (j : Nat) : List.getD (l.map UInt64.ofNat) j (0 : UInt64) = UInt64.ofNat (l.getD j 0) := by
  rw [List.getD_eq_getElem?_getD, List.getD_eq_getElem?_getD, List.getElem?_map]
  cases l[j]? <;> rfl
theorem ofI_nat {n : Nat} (h : n < 18446744073709551616) : UInt64.toNat (ofI .u64 (n : Int)) = n := by
  show (UInt64.ofNat ((n : Int) % 18446744073709551616).toNat).toNat = n
  rw [show ((n : Int) % 18446744073709551616).toNat = n by omega, un _ h]
theorem nonneg_and (n : Nat) (z : Int) : (decide (0 ≤ (n : Int)) && inR .u64 z) = true := by
  show (decide (0 ≤ (n : Int)) && true) = true
  simp
theorem dbl_n {x0 x1 x2 x3 b : Nat} (h0 : x0 < 18446744073709551616) (h1 : x1 < 18446744073709551616) (h2 : x2 < 18446744073709551616) (_h3 : x3 < 18446744073709551616) (hb : b ≤ 1) :
    (x0 * 2 % 18446744073709551616 + b) % 18446744073709551616 + 18446744073709551616 * ((x1 * 2 % 18446744073709551616 + x0 / 9223372036854775808) % 18446744073709551616 + 18446744073709551616 * ((x2 * 2 % 18446744073709551616 + x1 / 9223372036854775808) % 18446744073709551616 + 18446744073709551616 * ((x3 * 2 % 18446744073709551616 + x2 / 9223372036854775808) % 18446744073709551616))) + M * (x3 / 9223372036854775808) = 2 * (x0 + 18446744073709551616 * (x1 + 18446744073709551616 * (x2 + 18446744073709551616 * x3))) + b := by
  unfold M; omega
noncomputable def hw (x y : UInt64) : UInt64 := orK .u64 (shrK .u64 x 1) (shlK .u64 y 63)
theorem fuel_ge' (k : Nat) (h : k ≤ 18446744073709551616) : ∃ m, fuel = m + k := ⟨fuel - k, by unfold fuel; omega⟩
theorem dw_over {x d : Nat} (hx : x < 18446744073709551616) (hd : d < M) : x * d / M < 18446744073709551616 := by
  refine Nat.div_lt_of_lt_mul ?_
  rw [Nat.mul_comm]
  exact Nat.mul_lt_mul_of_lt_of_lt hd hx
theorem ltu {a b : Nat} (ha : a < 18446744073709551616) (hb : b < 18446744073709551616) : decide (UInt64.ofNat a < UInt64.ofNat b) = decide (a < b) := by
  refine decide_eq_decide.2 ?_
  rw [UInt64.lt_iff_toNat_lt, un a ha, un b hb]
theorem equ {a b : Nat} (ha : a < 18446744073709551616) (hb : b < 18446744073709551616) : decide (UInt64.ofNat a = UInt64.ofNat b) = decide (a = b) := by
  refine decide_eq_decide.2 ⟨fun h => ?_, fun h => by rw [h]⟩
  have := congrArg UInt64.toNat h
  rwa [un a ha, un b hb] at this
theorem subu {a b c : Nat} (h : a = b + c) (ha : a < 18446744073709551616) : UInt64.ofNat a - UInt64.ofNat c = UInt64.ofNat b := by
  refine u_eq ?_
  rw [UInt64.toNat_sub, un a ha, un c (by omega), un b (by omega)]
  omega
theorem cmp_pos {a b : Nat} : decide ((0 : Int) < cmpN a b) = decide (b < a) := by
  refine decide_eq_decide.2 ?_
  unfold cmpN
  split
  · rename_i h; subst h; simp
  · split
    · rename_i h1 h2; constructor
      · intro h; omega
      · intro h; omega
    · rename_i h1 h2; constructor
      · intro _; omega
      · intro _; decide
theorem word_of (h i : Nat) (hi : i < 4) : List.getD (wl h) i (0 : UInt64) = UInt64.ofNat (gw (w4 h) i) := by
  refine u_eq ?_
  rw [word_at i hi, un _ (gw_lt h i)]
end Go.Proofs.Ytpfoeeiacfadfaa.Q
