/-
  Helpers for mathematics over mirrors: guards, words, numbers of 256 bits, the hands of package wide.
  Conditions: none of any program but what QM says.
-/
import Derived.Test.YtpfoeeiacfadfaaFM
import Derived.Test.YtpfoeeiacfadfaaQM
import Derived.Test.YtpfoeeiacfadfaaWdZ
namespace Go.Proofs.Ytpfoeeiacfadfaa.Q
open Go.RowKit

theorem and64 (x y : UInt64) : andK .u64 x y = UInt64.land x y := hide_eq _
theorem or64 (x y : UInt64) : orK .u64 x y = UInt64.lor x y := hide_eq _
theorem xor64 (x y : UInt64) : xorK .u64 x y = UInt64.xor x y := hide_eq _
theorem inB_nat {i n : Nat} (h : i < n) : inB (i : Int) n = true := by
  unfold inB; simp; omega
theorem inR_succ {i : Nat} (h : i < 4096) : inR .i64 ((i : Int) + 1) = true := by
  unfold inR; simp; omega
theorem guard_if {β : Type} {b : Bool} (h : b = true) (k : Option β) : guard b k = k := by rw [h]; rfl
theorem cnd_t {β : Type} {b : Bool} (h : b = true) (x y : Option β) : cnd b x y = x := by rw [h]; rfl
theorem cnd_f {β : Type} {b : Bool} (h : b = false) (x y : Option β) : cnd b x y = y := by rw [h]; rfl
theorem u_eq {x y : UInt64} (h : x.toNat = y.toNat) : x = y := UInt64.toNat_inj.1 h
theorem u_of (x : UInt64) : UInt64.ofNat x.toNat = x := by simp
theorem wl_words {l : List UInt64} (h : l.length = 4) {n : Nat} (hv : val l = n) : l = wl n := by rw [← hv, wl_val h]
theorem val4 (a b c d : UInt64) : val [a, b, c, d] = a.toNat + 18446744073709551616 * (b.toNat + 18446744073709551616 * (c.toNat + 18446744073709551616 * d.toNat)) := rfl
theorem wl4 (a b c d : UInt64) : [a, b, c, d] = wl (a.toNat + 18446744073709551616 * (b.toNat + 18446744073709551616 * (c.toNat + 18446744073709551616 * d.toNat))) := wl_words rfl (val4 a b c d)
theorem wl_small {n : UInt64} : [n, 0, 0, 0] = wl n.toNat := wl_words rfl (by rw [val4]; simp)
theorem fFrom_s (n : UInt64) : fFrom n = some (wl n.toNat) := fFrom_eq n
theorem fAdd_s {a b : Nat} (ha : a < M) (hb : b < M) : fAdd (wl a, wl b) = some (wl ((a + b) % M), UInt64.ofNat ((a + b) / M)) := by rw [fAdd_eq]; simp only [val_wl ha, val_wl hb]
theorem fSub_s {a b : Nat} (ha : a < M) (hb : b < M) : fSub (wl a, wl b) = some (wl ((a + M - b) % M), UInt64.ofNat (if a < b then 1 else 0)) := by rw [fSub_eq]; simp only [val_wl ha, val_wl hb]
theorem fMul_s {a b : Nat} (ha : a < M) (hb : b < M) : fMul (wl a, wl b) = some (wl (a * b % M), wl (a * b / M)) := by rw [fMul_eq]; simp only [val_wl ha, val_wl hb]
theorem fShr_s {a : Nat} (ha : a < M) : fShr (wl a, (2 : Int)) = some (wl (a / 4)) := by rw [fShr_eq]; simp only [val_wl ha]; rfl
theorem fLen_s {a : Nat} (ha : a < M) : fLen (wl a) = some ((blen a : Nat) : Int) := by rw [fLen_eq]; simp only [val_wl ha]
theorem M_pos : 0 < M := by decide
theorem wl_zero : ([(0 : UInt64), 0, 0, 0]) = wl 0 := wl_small (n := 0)
theorem eq_wl {a b : Nat} (ha : a < M) (hb : b < M) : eqD (.arr 4 (.int .u64)) (wl a) (wl b) = decide (a = b) := by
  have h := eqD_w (x := wl a) (y := wl b)
  rw [h]
  exact decide_eq_decide.2 (wl_inj ha hb)
theorem word_at {n : Nat} (i : Nat) (hi : i < 4) : ((wl n).getD i 0).toNat = gw (w4 n) i := by
  rw [← map_wl]
  obtain ⟨a, b, c, d, h⟩ := len4 (wl_len n)
  rw [h]
  unfold gw
  match i, hi with
  | 0, _ => rfl
  | 1, _ => rfl
  | 2, _ => rfl
  | 3, _ => rfl
theorem bit_at {n j : Nat} (hn : n < M) (hj : j < 256) : @decide (@Eq UInt64 (andK .u64 (shrK .u64 (List.getD (wl n) (j / 64) (0 : UInt64)) (j % 64)) (1 : UInt64)) (1 : UInt64)) (instDecidableEqUInt64 _ _) = decide (n / 2 ^ j % 2 = 1) := by
  have e : (andK .u64 (shrK .u64 ((wl n).getD (j / 64) 0) (j % 64)) (1 : UInt64)) = UInt64.ofNat (n / 2 ^ j % 2) := by
    refine u_eq ?_
    rw [un _ (by omega)]
    refine (congrArg UInt64.toNat (and64 _ _)).trans ?_
    show (UInt64.land (UInt64.ofNat (((wl n).getD (j / 64) 0).toNat / 2 ^ min (j % 64) 64)) 1).toNat = _
    rw [show min (j % 64) 64 = j % 64 by omega, word_at _ (by omega)]
    have h1 := gw_lt n (j / 64)
    show ((UInt64.ofNat _) &&& 1).toNat = _
    rw [UInt64.toNat_and, un _ (Nat.lt_of_le_of_lt (Nat.div_le_self _ _) h1), show (1 : UInt64).toNat = 1 from rfl, Nat.and_one_is_mod, bit_word n j hn hj]
  refine decide_eq_decide.2 ⟨fun h => ?_, fun h => e.trans (by rw [h]; rfl)⟩
  have := congrArg UInt64.toNat (e.symm.trans h)
  rwa [un _ (by omega)] at this
theorem low_at {r : Nat} (_hr : r < M) : decide ((List.getD (wl r) 0 (0 : UInt64)) % (2 : UInt64) = (1 : UInt64)) = decide (r % 2 = 1) := by
  have e : (List.getD (wl r) 0 (0 : UInt64)) % (2 : UInt64) = UInt64.ofNat (r % 2) := by
    refine u_eq ?_
    rw [UInt64.toNat_mod, word_at 0 (by decide), un _ (by omega)]
    have : gw (w4 r) 0 = r % 18446744073709551616 := by rw [w4_eq]; rfl
    rw [this]
    show r % 18446744073709551616 % 2 = r % 2
    omega
  rw [e]
  refine decide_eq_decide.2 ⟨fun h => ?_, fun h => by rw [h]; rfl⟩
  have := congrArg UInt64.toNat h
  rwa [un _ (by omega)] at this
theorem even_at {r : Nat} (_hr : r < M) : decide ((List.getD (wl r) 0 (0 : UInt64)) % (2 : UInt64) = (0 : UInt64)) = decide (r % 2 = 0) := by
  have e : (List.getD (wl r) 0 (0 : UInt64)) % (2 : UInt64) = UInt64.ofNat (r % 2) := by
    refine u_eq ?_
    rw [UInt64.toNat_mod, word_at 0 (by decide), un _ (by omega)]
    have : gw (w4 r) 0 = r % 18446744073709551616 := by rw [w4_eq]; rfl
    rw [this]
    show r % 18446744073709551616 % 2 = r % 2
    omega
  rw [e]
  refine decide_eq_decide.2 ⟨fun h => ?_, fun h => by rw [h]; rfl⟩
  have := congrArg UInt64.toNat h
  rwa [un _ (by omega)] at this
theorem cmp_s {a b : Nat} (ha : a < M) (hb : b < M) : fCmp (wl a, wl b) = some (cmpN a b) := by rw [fCmp_eq]; simp only [val_wl ha, val_wl hb]
theorem lt_nat {x y : UInt64} : decide (x < y) = decide (x.toNat < y.toNat) := decide_eq_decide.2 UInt64.lt_iff_toNat_lt
theorem eq_nat {x y : UInt64} : decide (x = y) = decide (x.toNat = y.toNat) := decide_eq_decide.2 UInt64.toNat_inj.symm
theorem set_of {l : List Nat} {i n : Nat} {x : UInt64} (h : x.toNat = n) : (l.map UInt64.ofNat).set i x = (l.set i n).map UInt64.ofNat := by
  rw [List.map_set, ← h, u_of]
theorem more_n (a b c : Nat) (ha : a < 18446744073709551616) (hb : b < 18446744073709551616) (hc : c ≤ 1) :
    (((a + b) % 18446744073709551616 + c) % 18446744073709551616 = (a + b + c) % 18446744073709551616) ∧ ((a + b) % 18446744073709551616 < a → (a + b + c) / 18446744073709551616 = 1) ∧ (¬ (a + b) % 18446744073709551616 < a → ((a + b) % 18446744073709551616 + c) % 18446744073709551616 < (a + b) % 18446744073709551616 → (a + b + c) / 18446744073709551616 = 1) ∧ (¬ (a + b) % 18446744073709551616 < a → ¬ ((a + b) % 18446744073709551616 + c) % 18446744073709551616 < (a + b) % 18446744073709551616 → (a + b + c) / 18446744073709551616 = 0) := by
  refine ⟨?_, ?_, ?_, ?_⟩ <;> omega
theorem less_n (a b c : Nat) (ha : a < 18446744073709551616) (hb : b < 18446744073709551616) (hc : c ≤ 1) :
    (18446744073709551616 - c + (18446744073709551616 - b + a) % 18446744073709551616) % 18446744073709551616 = (a + 18446744073709551616 - b - c) % 18446744073709551616 := by omega
theorem one_u (p : Prop) [Decidable p] : decide (UInt64.ofNat (if p then 1 else 0) = (1 : UInt64)) = decide p := by
  by_cases h : p
  · rw [if_pos h, decide_eq_true h]; rfl
  · rw [if_neg h, decide_eq_false h]; rfl
theorem one_c {n : Nat} (h : n ≤ 1) : decide (UInt64.ofNat n = (1 : UInt64)) = decide (n = 1) := by
  rcases (show n = 0 ∨ n = 1 by omega) with rfl | rfl <;> rfl
theorem bnd_ex' {α β : Type} {o : Option α} {a : α} {k : α → Option β} {r : Option β} (h : o = some a) (hk : k a = r) : bnd o k = r := by rw [h]; exact hk
theorem gd (l : List Nat) (j : Nat) : List.getD (l.map UInt64.ofNat) j (0 : UInt64) = UInt64.ofNat (l.getD j 0) := by
  rw [List.getD_eq_getElem?_getD, List.getD_eq_getElem?_getD, List.getElem?_map]
  cases l[j]? <;> rfl
theorem low32 {n : Nat} (h : n < 18446744073709551616) : andK .u64 (UInt64.ofNat n) (4294967295 : UInt64) = UInt64.ofNat (n % 4294967296) := by
  refine u_eq ?_
  refine (congrArg UInt64.toNat (and64 _ _)).trans ?_
  show ((UInt64.ofNat n) &&& 4294967295).toNat = _
  rw [UInt64.toNat_and, un _ h, un _ (by omega)]
  exact Nat.and_two_pow_sub_one_eq_mod n 32
theorem high32 {n : Nat} (h : n < 18446744073709551616) : shrK .u64 (UInt64.ofNat n) 32 = UInt64.ofNat (n / 4294967296) := by
  show UInt64.ofNat ((UInt64.ofNat n).toNat / 2 ^ min 32 64) = _
  rw [un _ h]; rfl
theorem ofI_nat {n : Nat} (h : n < 18446744073709551616) : UInt64.toNat (ofI .u64 (n : Int)) = n := by
  show (UInt64.ofNat ((n : Int) % 18446744073709551616).toNat).toNat = n
  rw [show ((n : Int) % 18446744073709551616).toNat = n by omega, un _ h]
theorem nonneg_and (n : Nat) (z : Int) : (decide (0 ≤ (n : Int)) && inR .u64 z) = true := by
  show (decide (0 ≤ (n : Int)) && true) = true
  simp
theorem dbl_n {x0 x1 x2 x3 b : Nat} (h0 : x0 < 18446744073709551616) (h1 : x1 < 18446744073709551616) (h2 : x2 < 18446744073709551616) (_h3 : x3 < 18446744073709551616) (hb : b ≤ 1) :
    (x0 * 2 % 18446744073709551616 + b) % 18446744073709551616 + 18446744073709551616 * ((x1 * 2 % 18446744073709551616 + x0 / 9223372036854775808) % 18446744073709551616 + 18446744073709551616 * ((x2 * 2 % 18446744073709551616 + x1 / 9223372036854775808) % 18446744073709551616 + 18446744073709551616 * ((x3 * 2 % 18446744073709551616 + x2 / 9223372036854775808) % 18446744073709551616))) + M * (x3 / 9223372036854775808) = 2 * (x0 + 18446744073709551616 * (x1 + 18446744073709551616 * (x2 + 18446744073709551616 * x3))) + b := by
  unfold M; omega
theorem div_big {a : Nat} (ha : a < M) (k : Nat) (hk : 256 ≤ k) : a / 2 ^ k = 0 := by
  refine Nat.div_eq_of_lt (Nat.lt_of_lt_of_le ha ?_)
  rw [show M = 2 ^ 256 by decide]
  exact Nat.pow_le_pow_right (by decide) hk
noncomputable def hw (x y : UInt64) : UInt64 := orK .u64 (shrK .u64 x 1) (shlK .u64 y 63)
theorem hw_n (x y : UInt64) : (hw x y).toNat = x.toNat / 2 + 9223372036854775808 * (y.toNat % 2) := by
  have hx := ut x
  have hy := ut y
  have e1 : (shrK .u64 x 1 : UInt64).toNat = x.toNat / 2 := by
    show (UInt64.ofNat (x.toNat / 2 ^ min 1 64)).toNat = _
    rw [show 2 ^ min 1 64 = 2 from rfl, un _ (by omega)]
  have e2 : (shlK .u64 y 63 : UInt64).toNat = 9223372036854775808 * (y.toNat % 2) := by
    show (UInt64.ofNat (y.toNat * 2 ^ min 63 64)).toNat = _
    rw [show 2 ^ min 63 64 = 9223372036854775808 from rfl, UInt64.toNat_ofNat']
    show y.toNat * 9223372036854775808 % 18446744073709551616 = _
    omega
  refine (congrArg UInt64.toNat (or64 _ _)).trans ?_
  show ((show UInt64 from shrK .u64 x 1) ||| (show UInt64 from shlK .u64 y 63)).toNat = _
  rw [UInt64.toNat_or]
  refine (congr (congrArg (fun p q : Nat => p ||| q) e1) e2).trans ?_
  have h := Nat.two_pow_add_eq_or_of_lt (i := 63) (b := x.toNat / 2) (by have : (2 : Nat) ^ 63 = 9223372036854775808 := rfl; omega) (y.toNat % 2)
  rw [show (2 : Nat) ^ 63 = 9223372036854775808 from rfl] at h
  show x.toNat / 2 ||| 9223372036854775808 * (y.toNat % 2) = _
  rw [Nat.or_comm, ← h, Nat.add_comm]
theorem half_w {s c : Nat} (hs : s < M) (hc : c ≤ 1) : [hw ((wl s).getD 0 0) ((wl s).getD 1 0), hw ((wl s).getD 1 0) ((wl s).getD 2 0), hw ((wl s).getD 2 0) ((wl s).getD 3 0), hw ((wl s).getD 3 0) (UInt64.ofNat c)] = wl ((s + c * M) / 2) := by
  obtain ⟨a0, a1, a2, a3, la⟩ := len4 (wl_len s)
  have va : s = a0.toNat + 18446744073709551616 * (a1.toNat + 18446744073709551616 * (a2.toNat + 18446744073709551616 * a3.toNat)) := by rw [← val4, ← la, val_wl hs]
  rw [la]
  show [hw a0 a1, hw a1 a2, hw a2 a3, hw a3 (UInt64.ofNat c)] = _
  rw [wl4, hw_n, hw_n, hw_n, hw_n, un c (by omega)]
  congr 1
  have := ut a0; have := ut a1; have := ut a2; have := ut a3
  rw [va]; unfold M
  omega
theorem less_lt {x y : Nat} (hx : x < M) (hy : y ≤ x) : (x + M - y) % M = x - y := by
  rw [show x + M - y = (x - y) + M by omega, Nat.add_mod_right, Nat.mod_eq_of_lt (by omega)]
theorem fuel_ge' (k : Nat) (h : k ≤ 18446744073709551616) : ∃ m, fuel = m + k := ⟨fuel - k, by unfold fuel; omega⟩
theorem dw_over {x d : Nat} (hx : x < 18446744073709551616) (hd : d < M) : x * d / M < 18446744073709551616 := by
  refine Nat.div_lt_of_lt_mul ?_
  rw [Nat.mul_comm]
  exact Nat.mul_lt_mul_of_lt_of_lt hd hx
theorem ltu {a b : Nat} (ha : a < 18446744073709551616) (hb : b < 18446744073709551616) : decide (UInt64.ofNat a < UInt64.ofNat b) = decide (a < b) := by
  refine decide_eq_decide.2 ?_
  rw [UInt64.lt_iff_toNat_lt, un a ha, un b hb]
theorem equ {a b : Nat} (ha : a < 18446744073709551616) (hb : b < 18446744073709551616) : decide (UInt64.ofNat a = UInt64.ofNat b) = decide (a = b) := by
  refine decide_eq_decide.2 ⟨fun h => ?_, fun h => by rw [h]⟩
  have := congrArg UInt64.toNat h
  rwa [un a ha, un b hb] at this
theorem subu {a b c : Nat} (h : a = b + c) (ha : a < 18446744073709551616) : UInt64.ofNat a - UInt64.ofNat c = UInt64.ofNat b := by
  refine u_eq ?_
  rw [UInt64.toNat_sub, un a ha, un c (by omega), un b (by omega)]
  omega
theorem cmp_pos {a b : Nat} : decide ((0 : Int) < cmpN a b) = decide (b < a) := by
  refine decide_eq_decide.2 ?_
  unfold cmpN
  split
  · rename_i h; subst h; simp
  · split
    · rename_i h1 h2; constructor
      · intro h; omega
      · intro h; omega
    · rename_i h1 h2; constructor
      · intro _; omega
      · intro _; decide
theorem word_of (h i : Nat) (hi : i < 4) : List.getD (wl h) i (0 : UInt64) = UInt64.ofNat (gw (w4 h) i) := by
  refine u_eq ?_
  rw [word_at i hi, un _ (gw_lt h i)]
end Go.Proofs.Ytpfoeeiacfadfaa.Q
