/-
  The document's Bytes, Compact and Next, in numbers; TargetExpand, TargetMeets, TargetWork, TargetNext.
-/
import Derived.Test.YtpfoeeiacfadfaaFT3
namespace Go.Proofs.Ytpfoeeiacfadfaa.Q
open Go.RowKit

/-! Bytes -/
noncomputable def sh1 (r : Nat) : UInt64 := shlK .u64 (1 : UInt64) (8 * r)
noncomputable def dvB (w : UInt64) (r : Nat) : UInt8 := (w / sh1 r).toUInt8
noncomputable def BL (w : List UInt64) : List UInt8 := (List.range 32).map fun j => dvB (w.getD ((31 - j) / 8) 0) ((31 - j) % 8)
theorem BL_get (w : List UInt64) {i : Nat} (hi : i < 32) : (BL w).getD (31 - i) 0 = dvB (w.getD (i / 8) 0) (i % 8) := by
  unfold BL
  rw [List.getD_eq_getElem?_getD, List.getElem?_map, List.getElem?_range (by omega)]
  show dvB (w.getD ((31 - (31 - i)) / 8) 0) ((31 - (31 - i)) % 8) = _
  rw [show 31 - (31 - i) = i by omega]
theorem rbytes4 (w0 w1 w2 w3 : UInt64) (m : Nat) (z : List UInt8) : itN T.k59_0 (m + 33) ((0 : Int), [w0, w1, w2, w3], z, zs) = some (.x (z, BL [w0, w1, w2, w3])) := by kernel_rfl
theorem rbytes_s (t : Nat) : T.m59 (wl t) = some (BL (wl t)) := by
  refine (T.m59_eq _).trans ?_
  unfold T.b59
  obtain ⟨m, hm⟩ := fuel_ge 33 (by decide)
  obtain ⟨a, b, c, d, h⟩ := len4 (wl_len t)
  have hl : T.l59_0 ((0 : Int), wl t, List.replicate 32 (0 : UInt8), zs) = some (.x (List.replicate 32 (0 : UInt8), BL (wl t))) := by
    unfold T.l59_0
    rw [hm, h]
    exact rbytes4 a b c d m _
  refine bnd_ex' hl ?_
  rfl
theorem gw_div (t q : Nat) (hq : q < 4) : gw (w4 t) q = t / 2 ^ (64 * q) % 18446744073709551616 := by
  rw [w4_eq]
  unfold gw
  match q, hq with
  | 0, _ => show t % _ = t / 2 ^ 0 % _; rw [Nat.pow_zero, Nat.div_one]
  | 1, _ => rfl
  | 2, _ => show t / 18446744073709551616 / 18446744073709551616 % _ = t / 2 ^ 128 % _; rw [Nat.div_div_eq_div_mul]
  | 3, _ => show t / 18446744073709551616 / 18446744073709551616 / 18446744073709551616 % _ = t / 2 ^ 192 % _; rw [Nat.div_div_eq_div_mul, Nat.div_div_eq_div_mul]
theorem byte_of (x r : Nat) (hr : r < 8) : x % 18446744073709551616 / 2 ^ (8 * r) % 256 = x / 2 ^ (8 * r) % 256 := by
  match r, hr with
  | 0, _ => show x % 18446744073709551616 / 1 % 256 = x / 1 % 256; omega
  | 1, _ => show x % 18446744073709551616 / 256 % 256 = x / 256 % 256; omega
  | 2, _ => show x % 18446744073709551616 / 65536 % 256 = x / 65536 % 256; omega
  | 3, _ => show x % 18446744073709551616 / 16777216 % 256 = x / 16777216 % 256; omega
  | 4, _ => show x % 18446744073709551616 / 4294967296 % 256 = x / 4294967296 % 256; omega
  | 5, _ => show x % 18446744073709551616 / 1099511627776 % 256 = x / 1099511627776 % 256; omega
  | 6, _ => show x % 18446744073709551616 / 281474976710656 % 256 = x / 281474976710656 % 256; omega
  | 7, _ => show x % 18446744073709551616 / 72057594037927936 % 256 = x / 72057594037927936 % 256; omega
theorem dvB_n {w : UInt64} {r : Nat} (hr : r < 8) : (dvB w r).toNat = w.toNat / 2 ^ (8 * r) % 256 := by
  unfold dvB
  have h1 : 2 ^ (8 * r) < 18446744073709551616 := Nat.lt_of_le_of_lt (Nat.pow_le_pow_right (n := 2) (by decide) (show 8 * r ≤ 56 by omega)) (by decide)
  have e : (sh1 r).toNat = 2 ^ (8 * r) := by
    show (UInt64.ofNat ((1 : UInt64).toNat * 2 ^ min (8 * r) 64)).toNat = _
    rw [show min (8 * r) 64 = 8 * r by omega, show (1 : UInt64).toNat = 1 from rfl, Nat.one_mul, un _ h1]
  rw [UInt64.toNat_toUInt8, UInt64.toNat_div, e]
theorem byte_n (t : Nat) {i : Nat} (hi : i < 32) : ((BL (wl t)).getD (31 - i) 0).toNat = t / 2 ^ (8 * i) % 256 := by
  rw [BL_get _ hi, dvB_n (Nat.mod_lt _ (by decide)), word_at _ (by omega), gw_div t _ (by omega), byte_of _ _ (Nat.mod_lt _ (by decide)), Nat.div_div_eq_div_mul, ← Nat.pow_add, show 64 * (i / 8) + 8 * (i % 8) = 8 * i by omega]
/-! Compact -/
def dgT (t i : Nat) : Nat := if i < lenT t then t / 2 ^ (8 * (lenT t - 1 - i)) % 256 else 0
theorem dgT_lt (t i : Nat) : dgT t i < 256 := by unfold dgT; split <;> omega
theorem topT_dg {t : Nat} (ht : t < M) : topT t = dgT t 0 * 65536 + dgT t 1 * 256 + dgT t 2 := by
  have h1 := lenT_up ht
  have h2 := topT_lt ht
  unfold topT at *
  unfold dgT
  generalize lenT t = n at *
  rcases (show n = 0 ∨ n = 1 ∨ n = 2 ∨ 3 ≤ n by omega) with h | h | h | h
  · subst h
    have : t = 0 := by
      have : t < 1 := h1
      omega
    subst this
    rfl
  · subst h
    have h1 : t < 256 := h1
    rw [if_pos (by decide), if_neg (by decide), if_neg (by decide)]
    show t * 65536 / 1 = t / 1 % 256 * 65536 + 0 * 256 + 0
    omega
  · subst h
    have h1 : t < 65536 := h1
    rw [if_pos (by decide), if_pos (by decide), if_neg (by decide)]
    show t * 256 / 1 = t / 256 % 256 * 65536 + t / 1 % 256 * 256 + 0
    omega
  · rw [if_pos (by omega), if_pos (by omega), if_pos (by omega)]
    rw [show 3 - n = 0 by omega, Nat.mul_zero, Nat.pow_zero, Nat.mul_one] at h2 ⊢
    have e0 : t / 2 ^ (8 * (n - 1 - 0)) = t / 2 ^ (8 * (n - 3)) / 65536 := by
      rw [Nat.div_div_eq_div_mul, show (65536 : Nat) = 2 ^ 16 from rfl, ← Nat.pow_add, show 8 * (n - 3) + 16 = 8 * (n - 1 - 0) by omega]
    have e1 : t / 2 ^ (8 * (n - 1 - 1)) = t / 2 ^ (8 * (n - 3)) / 256 := by
      rw [Nat.div_div_eq_div_mul, show (256 : Nat) = 2 ^ 8 from rfl, ← Nat.pow_add, show 8 * (n - 3) + 8 = 8 * (n - 1 - 1) by omega]
    have e2 : 8 * (n - 1 - 2) = 8 * (n - 3) := by omega
    rw [e0, e1, e2]
    generalize t / 2 ^ (8 * (n - 3)) = q at *
    omega
theorem u32_of (n : Nat) (x : UInt32) (h : x.toNat = n) : x = UInt32.ofNat n := by rw [← h]; simp
theorem cp_turn (f : Int × UInt32 × Int × List UInt8 → Option (O3 Unit (Int × UInt32) Unit)) {t a i : Nat} (ht : t < M) (hi : i < 3) (ha : a < 65536) :
    T.k36_0 f ((lenT t : Int), UInt32.ofNat a, (i : Int), BL (wl t)) = f ((lenT t : Int), UInt32.ofNat (a * 256 + dgT t i), ((i + 1 : Nat) : Int), BL (wl t)) := by
  have hn := lenT_le ht
  have hdg := dgT_lt t i
  have em : (UInt32.ofNat a * 256 : UInt32).toNat = a * 256 := by
    rw [UInt32.toNat_mul, un32 a (by omega), show (256 : UInt32).toNat = 256 from rfl]; omega
  unfold T.k36_0
  refine Eq.trans (cnd_t (decide_eq_true (show (i : Int) < 3 by omega)) _ _) ?_
  by_cases h : i < lenT t
  · refine Eq.trans (cnd_t (decide_eq_true (show (i : Int) < (lenT t : Int) by omega)) _ _) ?_
    have eI : (32 : Int) - (lenT t : Int) + (i : Int) = ((31 - (lenT t - 1 - i) : Nat) : Int) := by omega
    refine Eq.trans (guard_if (inR_of (by omega) (by omega)) _) ?_
    refine Eq.trans (guard_if (show inR .i64 ((32 : Int) - (lenT t : Int) + (i : Int)) = true from inR_of (by omega) (by omega)) _) ?_
    refine Eq.trans (guard_if (show inB ((32 : Int) - (lenT t : Int) + (i : Int)) 32 = true by rw [eI]; exact inB_nat (by omega)) _) ?_
    refine Eq.trans (guard_if rfl _) ?_
    refine Eq.trans (guard_if rfl _) ?_
    refine Eq.trans (guard_if (show inR .i64 ((i : Int) + 1) = true from inR_of (by omega) (by omega)) _) ?_
    have ev : UInt32.ofNat a * 256 + (List.getD (BL (wl t)) ((32 : Int) - (lenT t : Int) + (i : Int)).toNat (0 : UInt8)).toUInt32 = UInt32.ofNat (a * 256 + dgT t i) := by
      refine u32_of _ _ ?_
      have e8 : (List.getD (BL (wl t)) ((32 : Int) - (lenT t : Int) + (i : Int)).toNat (0 : UInt8)).toNat = dgT t i := by
        rw [eI, Int.toNat_natCast, byte_n t (by omega)]
        unfold dgT
        rw [if_pos h]
      rw [UInt32.toNat_add, em, UInt8.toNat_toUInt32, e8]
      omega
    exact congrArg (fun x => f ((lenT t : Int), x, (i : Int) + 1, BL (wl t))) ev
  · refine Eq.trans (cnd_f (decide_eq_false (show ¬ (i : Int) < (lenT t : Int) by omega)) _ _) ?_
    refine Eq.trans (guard_if (show inR .i64 ((i : Int) + 1) = true from inR_of (by omega) (by omega)) _) ?_
    have ev : UInt32.ofNat a * 256 = UInt32.ofNat (a * 256 + dgT t i) := by
      refine u32_of _ _ ?_
      rw [em]
      unfold dgT
      rw [if_neg h, Nat.add_zero]
    exact congrArg (fun x => f ((lenT t : Int), x, (i : Int) + 1, BL (wl t))) ev
theorem ge32 {x y : Nat} (hx : x < 4294967296) (hy : y < 4294967296) : decide (UInt32.ofNat x ≤ UInt32.ofNat y) = decide (x ≤ y) := by
  refine decide_eq_decide.2 ?_
  rw [UInt32.le_iff_toNat_le, un32 x hx, un32 y hy]
def oU (k : Nat) : UInt32 := ofI .u32 (k : Int)
theorem rcompact_s {t : Nat} (ht : t < M) : T.m36 (wl t) = some (UInt32.ofNat (cpT t)) := by
  refine (T.m36_eq _).trans ?_
  unfold T.b36
  have hb := blen_le t ht
  have hn := lenT_le ht
  have htop := topT_lt ht
  refine bnd_ex' (rbytes_s t) ?_
  refine bnd_ex' (fRLen_s ht) ?_
  have e8 : Int.tdiv ((blen t : Int) + 7) 8 = (lenT t : Int) := rfl
  refine Eq.trans (guard_if (inR_of (by omega) (by omega)) _) ?_
  refine Eq.trans (guard_if (by rw [e8]; exact inR_of (by omega) (by omega)) _) ?_
  rw [e8]
  have hl : T.l36_0 ((lenT t : Int), (0 : UInt32), (0 : Int), BL (wl t)) = some (.x ((lenT t : Int), UInt32.ofNat (topT t))) := by
    unfold T.l36_0
    obtain ⟨m, hm⟩ := fuel_ge 4 (by decide)
    have d0 := dgT_lt t 0
    have d1 := dgT_lt t 1
    have s0 := cp_turn (itN T.k36_0 (m + 3)) (t := t) (a := 0) (i := 0) ht (by decide) (by decide)
    have s1 := cp_turn (itN T.k36_0 (m + 2)) (t := t) (a := 0 * 256 + dgT t 0) (i := 1) ht (by decide) (by omega)
    have s2 := cp_turn (itN T.k36_0 (m + 1)) (t := t) (a := (0 * 256 + dgT t 0) * 256 + dgT t 1) (i := 2) ht (by decide) (by omega)
    rw [hm, show m + 4 = (m + 3) + 1 from rfl, itN_succ]
    refine s0.trans ?_
    rw [show m + 3 = (m + 2) + 1 from rfl, itN_succ]
    refine s1.trans ?_
    rw [show m + 2 = (m + 1) + 1 from rfl, itN_succ]
    refine s2.trans ?_
    rw [itN_succ, show ((0 * 256 + dgT t 0) * 256 + dgT t 1) * 256 + dgT t 2 = topT t by rw [topT_dg ht]; omega]
    rfl
  refine bnd_ex' hl ?_
  have ofn : ∀ k : Nat, k < 256 → (oU k).toNat = k := fun k hk => by
    show (UInt32.ofNat ((k : Int) % 4294967296).toNat).toNat = k
    rw [show ((k : Int) % 4294967296).toNat = k by omega, un32 k (by omega)]
  have h16 : (16777216 : UInt32).toNat = 16777216 := rfl
  by_cases h : 8388608 ≤ topT t
  · refine Eq.trans (cnd_t ((ge32 (x := 8388608) (by decide) (by omega)).trans (decide_eq_true h)) _ _) ?_
    refine Eq.trans (guard_if rfl _) ?_
    refine Eq.trans (guard_if (show inR .i64 ((lenT t : Int) + 1) = true from inR_of (by omega) (by omega)) _) ?_
    refine congrArg some (u32_of _ _ ?_)
    have e1 := ofn (lenT t + 1) (by omega)
    show (oU (lenT t + 1) * 16777216 + UInt32.ofNat (topT t) / 256).toNat = _
    rw [UInt32.toNat_add, UInt32.toNat_mul, UInt32.toNat_div, e1, un32 _ (by omega), h16, show (256 : UInt32).toNat = 256 from rfl]
    unfold cpT
    rw [if_pos h]
    omega
  · refine Eq.trans (cnd_f ((ge32 (x := 8388608) (by decide) (by omega)).trans (decide_eq_false h)) _ _) ?_
    refine congrArg some (u32_of _ _ ?_)
    have e1 := ofn (lenT t) (by omega)
    show (oU (lenT t) * 16777216 + UInt32.ofNat (topT t)).toNat = _
    rw [UInt32.toNat_add, UInt32.toNat_mul, e1, un32 _ (by omega), h16]
    unfold cpT
    rw [if_neg h]
    omega
/-! The live question. -/
def ez : Nat := 545259519
theorem ez_n : (545259519 : UInt32).toNat = ez := rfl
theorem ez_ok : okT ez := by decide +kernel
theorem ez_cp : cpT (rawT ez) = ez := by decide +kernel
theorem ez_ex : T.m32 (545259519 : UInt32) = some (wl (rawT ez), (0 : Int)) := (expand_s _).trans (by rw [ez_n, if_pos ez_ok])
theorem ez_rex : T.m33 (545259519 : UInt32) = some (wl (rawT ez), (0 : Int)) := (rexpand_s _).trans (by rw [ez_n, if_pos ez_ok])
theorem ez_wk : wkN ez = 2 := by decide +kernel
theorem ez_len : blen (rawT ez) = 255 := by decide +kernel
theorem cp128 : cpT 128 = 33587200 := by decide +kernel
theorem ez_mt : mtN zs ez = true := by decide +kernel
theorem alive10_s : T.U.m34 () = some true := by
  refine (T.U.m34_eq _).trans ?_
  unfold T.U.b34
  refine bnd_ex' ez_ex ?_
  refine Eq.trans (cnd_t rfl _ _) ?_
  have k1 : fLen (wl (rawT ez)) = some (255 : Int) := by rw [fLen_s ez_ok.2.1, ez_len]; rfl
  refine bnd_ex' k1 ?_
  refine Eq.trans (cnd_t rfl _ _) ?_
  have k2 : T.m39 (545259519 : UInt32) = some (wl 2) := (work_s _).trans (by rw [ez_n, ez_wk])
  refine bnd_ex' k2 ?_
  have e2 : eqD (.arr 4 (.int .u64)) (wl 2) ([(2 : UInt64), 0, 0, 0] : List UInt64) = true :=
    (congrArg (fun l : List UInt64 => eqD (.arr 4 (.int .u64)) (wl 2) l) (wl_small (n := 2))).trans ((eq_wl (a := 2) (b := 2) (by decide) (by decide)).trans (by decide))
  refine Eq.trans (cnd_t e2 _ _) ?_
  have k3 : T.m35 [(128 : UInt64), 0, 0, 0] = some (33587200 : UInt32) := by
    have h := compact_s (t := 128) (by decide)
    rw [cp128] at h
    exact (congrArg (fun l : List UInt64 => T.m35 l) (wl_small (n := 128))).trans h
  refine bnd_ex' k3 ?_
  refine Eq.trans (cnd_t rfl _ _) ?_
  have k4 : fMeets (zs, (545259519 : UInt32)) = some true := (meets_s zs_len _).trans (by rw [ez_n, ez_mt])
  exact bnd_ex' k4 rfl
/-! The laws. -/
theorem opt_same {p : Prop} [Decidable p] {t : Nat} (hp : p → t < M) : eqD (.arr 4 (.int .u64)) (if p then (wl t, (0 : Int)) else (wl 0, (3 : Int))).1 (if p then (wl t, (0 : Int)) else (wl 0, (3 : Int))).1 = true := by
  by_cases h : p
  · rw [if_pos h]; exact (eq_wl (hp h) (hp h)).trans (by simp)
  · rw [if_neg h]; exact (eq_wl M_pos M_pos).trans (by simp)
theorem target_expand (b : UInt32) {t : Nat} (ht : t < M) : T.U.m8 (b, wl t) = some true := by
  refine (T.U.m8_eq _).trans ?_
  unfold T.U.b8
  refine bnd_ex' (expand_s b) ?_
  refine bnd_ex' (rexpand_s b) ?_
  refine bnd_ex' alive10_s ?_
  refine Eq.trans (cnd_t rfl _ _) ?_
  refine Eq.trans (cnd_t (opt_same fun h => h.2.1) _ _) ?_
  refine Eq.trans (cnd_t (decide_eq_true rfl) _ _) ?_
  refine bnd_ex' (compact_s ht) ?_
  refine bnd_ex' (rcompact_s ht) ?_
  exact congrArg some (decide_eq_true rfl)
theorem target_meets {l : List UInt8} (hl : l.length = 32) (b : UInt32) : T.U.m9 (l, b) = some true := by
  refine (T.U.m9_eq _).trans ?_
  unfold T.U.b9
  refine bnd_ex' alive10_s ?_
  refine Eq.trans (cnd_t rfl _ _) ?_
  refine bnd_ex' (meets_s hl b) ?_
  refine bnd_ex' (rmeets_s hl b) ?_
  exact congrArg some (decide_eq_true rfl)
theorem target_work (b : UInt32) : T.U.m10 b = some true := by
  refine (T.U.m10_eq _).trans ?_
  unfold T.U.b10
  refine bnd_ex' alive10_s ?_
  refine Eq.trans (cnd_t rfl _ _) ?_
  refine bnd_ex' (work_s b) ?_
  refine bnd_ex' (rwork_s b) ?_
  exact congrArg some ((eq_wl (wkN_lt _) (wkN_lt _)).trans (by simp))
/-! Next -/
/-- How many seconds count. -/
def spanT (z : Int) : Nat := (min (max z 1200) 19200).toNat
theorem spanT_b (z : Int) : 1200 ≤ spanT z ∧ spanT z ≤ 19200 := by unfold spanT; omega
def nxN (n : Nat) (z : Int) : Nat := if okT n then (if rawT ez < rawT n / 4800 * spanT z then ez else cpT (rawT n / 4800 * spanT z)) else ez
theorem wl4800 : ([(4800 : UInt64), 0, 0, 0]) = wl 4800 := wl_small (n := 4800)
theorem span_m {n : Nat} (h : rawT n < M) (z : Int) : rawT n / 4800 < M ∧ spanT z < M := ⟨Nat.lt_of_le_of_lt (Nat.div_le_self _ _) h, Nat.lt_of_le_of_lt (spanT_b z).2 (by decide)⟩
theorem ofz {z : Int} {k : Nat} (h : z = (k : Int)) (hk : k < 18446744073709551616) : (ofI .u64 z : UInt64) = UInt64.ofNat k := by
  subst h
  refine u_eq ?_
  show (UInt64.ofNat ((k : Int) % 18446744073709551616).toNat).toNat = _
  rw [show ((k : Int) % 18446744073709551616).toNat = k by omega]
def oZ (z : Int) : UInt64 := ofI .u64 z
theorem next_s (b : UInt32) (z : Int) : T.m41 (b, z) = some (UInt32.ofNat (nxN b.toNat z)) := by
  refine (T.m41_eq _).trans ?_
  unfold T.b41
  refine bnd_ex' (expand_s b) ?_
  by_cases h : okT b.toNat
  · have ht := h.2.1
    obtain ⟨hs1, hs2⟩ := span_m ht z
    unfold nxN
    rw [if_pos h, if_pos h]
    refine Eq.trans (cnd_f rfl _ _) ?_
    obtain ⟨b1, b2⟩ := spanT_b z
    have key : ∀ s : Int, s = (spanT z : Int) → T.l41_1 (s, wl (rawT b.toNat)) = some (.n (s, wl (rawT b.toNat / 4800))) := fun s hs => by
      refine (T.l41_1_eq _).trans ?_
      unfold T.a41_1
      have kf : fFrom (4800 : UInt64) = some (wl 4800) := fFrom_s 4800
      refine bnd_ex' kf ?_
      refine bnd_ex' (div_s (by decide) (by decide) ht) ?_
      rfl
    have hspan : (match decide ((19200 : Int) < (match decide (z < (1200 : Int)) with | true => (1200 : Int) | false => z)) with | true => (19200 : Int) | false => (match decide (z < (1200 : Int)) with | true => (1200 : Int) | false => z)) = (spanT z : Int) := by
      unfold spanT
      by_cases q1 : z < 1200
      · rw [decide_eq_true q1]
        show (match decide ((19200 : Int) < 1200) with | true => (19200 : Int) | false => 1200) = _
        rw [decide_eq_false (by decide)]
        show (1200 : Int) = _
        omega
      · rw [decide_eq_false q1]
        show (match decide ((19200 : Int) < z) with | true => (19200 : Int) | false => z) = _
        by_cases q2 : (19200 : Int) < z
        · rw [decide_eq_true q2]
          show (19200 : Int) = _
          omega
        · rw [decide_eq_false q2]
          show z = _
          omega
    refine bnd_ex' (key _ hspan) ?_
    have key2 : ∀ s : Int, s = (spanT z : Int) → T.l41_2 (s, wl (rawT b.toNat / 4800)) = some (.n (wl (rawT b.toNat / 4800 * spanT z % M), wl (rawT b.toNat / 4800 * spanT z / M))) := fun s hs => by
      refine (T.l41_2_eq _).trans ?_
      unfold T.a41_2
      have kf : fFrom (ofI .u64 s) = some (wl (spanT z)) := by rw [ofz hs (by omega), fFrom_s, un _ (by omega)]
      refine bnd_ex' kf ?_
      refine bnd_ex' (fMul_s hs1 hs2) ?_
      rfl
    refine bnd_ex' (key2 _ hspan) ?_
    refine bnd_ex' ez_ex ?_
    have hE := ez_ok.2.1
    have hx : rawT b.toNat / 4800 * spanT z / M < M := Nat.div_lt_of_lt_mul (Nat.mul_lt_mul_of_lt_of_lt hs1 hs2)
    generalize rawT b.toNat / 4800 * spanT z = x at hx ⊢
    by_cases q : x / M = 0
    · refine Eq.trans (cnd_f (congrArg (fun b => !b) ((eq_0 hx).trans (decide_eq_true q))) _ _) ?_
      have hxM : x < M := Nat.lt_of_not_le fun hc => by
        have := Nat.div_le_div_right (c := M) hc
        rw [q, Nat.div_self M_pos] at this
        omega
      rw [Nat.mod_eq_of_lt hxM]
      refine bnd_ex' (cmp_s hxM hE) ?_
      by_cases q2 : rawT ez < x
      · refine Eq.trans (cnd_t (cmp_pos.trans (decide_eq_true q2)) _ _) ?_
        rw [if_pos q2]
        rfl
      · refine Eq.trans (cnd_f (cmp_pos.trans (decide_eq_false q2)) _ _) ?_
        rw [if_neg q2]
        exact bnd_ex' (compact_s hxM) rfl
    · refine Eq.trans (cnd_t (congrArg (fun b => !b) ((eq_0 hx).trans (decide_eq_false q))) _ _) ?_
      have hge : M ≤ x := Nat.le_of_not_lt fun hc => q (Nat.div_eq_of_lt hc)
      rw [if_pos (Nat.lt_of_lt_of_le hE hge)]
      rfl
  · rw [if_neg h]
    refine Eq.trans (cnd_t rfl _ _) ?_
    unfold nxN
    rw [if_neg h]
    rfl
theorem rnext_s (b : UInt32) (z : Int) : T.m42 (b, z) = some (UInt32.ofNat (nxN b.toNat z)) := by
  refine (T.m42_eq _).trans ?_
  unfold T.b42
  refine bnd_ex' (rexpand_s b) ?_
  by_cases h : okT b.toNat
  · have ht := h.2.1
    obtain ⟨hs1, hs2⟩ := span_m ht z
    unfold nxN
    rw [if_pos h, if_pos h]
    refine Eq.trans (cnd_f rfl _ _) ?_
    obtain ⟨b1, b2⟩ := spanT_b z
    obtain ⟨z1, hz1⟩ : ∃ z1, T.l42_1 (z, (decide (z < (1200 : Int))), wl (rawT b.toNat)) = some (.n (z1, wl (rawT b.toNat))) ∧ z1 = max z 1200 := by
      by_cases q : z < 1200
      · refine ⟨1200, (T.l42_1_eq _).trans ?_, by omega⟩
        unfold T.a42_1
        exact Eq.trans (cnd_t (decide_eq_true q) _ _) rfl
      · refine ⟨z, (T.l42_1_eq _).trans ?_, by omega⟩
        unfold T.a42_1
        exact Eq.trans (cnd_f (decide_eq_false q) _ _) rfl
    refine bnd_ex' hz1.1 ?_
    obtain ⟨z2, hz2⟩ : ∃ z2, T.l42_2 (z1, (decide ((19200 : Int) < z1)), wl (rawT b.toNat)) = some (.n (z2, wl (rawT b.toNat))) ∧ z2 = min z1 19200 := by
      by_cases q : 19200 < z1
      · refine ⟨19200, (T.l42_2_eq _).trans ?_, by omega⟩
        unfold T.a42_2
        exact Eq.trans (cnd_t (decide_eq_true q) _ _) rfl
      · refine ⟨z1, (T.l42_2_eq _).trans ?_, by omega⟩
        unfold T.a42_2
        exact Eq.trans (cnd_f (decide_eq_false q) _ _) rfl
    refine bnd_ex' hz2.1 ?_
    have e2 : z2 = (spanT z : Int) := by
      have := hz1.2
      have := hz2.2
      unfold spanT; omega
    refine bnd_ex' ez_rex ?_
    have k4 : T.m66 (wl (rawT b.toNat), [(4800 : UInt64), 0, 0, 0]) = some (wl (rawT b.toNat / 4800), wl (rawT b.toNat % 4800), (0 : Int)) := by
      rw [wl4800]; exact rdiv_s (by decide) (by decide) ht
    refine bnd_ex' k4 ?_
    have k5 : fRMul (wl (rawT b.toNat / 4800), [oZ z2, (0 : UInt64), 0, 0]) = some (wl (rawT b.toNat / 4800 * spanT z % M), wl (rawT b.toNat / 4800 * spanT z / M)) := by
      have eo : oZ z2 = UInt64.ofNat (spanT z) := ofz e2 (by omega)
      have e : [oZ z2, (0 : UInt64), 0, 0] = wl (spanT z) := by
        rw [eo, wl_small, un _ (by omega)]
      exact (congrArg (fun l : List UInt64 => fRMul (wl (rawT b.toNat / 4800), l)) e).trans (fRMul_s hs1 hs2)
    refine bnd_ex' k5 ?_
    have hE := ez_ok.2.1
    have kE : T.m36 (wl (rawT ez)) = some (545259519 : UInt32) := (rcompact_s hE).trans (by rw [ez_cp]; rfl)
    have hx : rawT b.toNat / 4800 * spanT z / M < M := Nat.div_lt_of_lt_mul (Nat.mul_lt_mul_of_lt_of_lt hs1 hs2)
    generalize rawT b.toNat / 4800 * spanT z = x at hx ⊢
    by_cases q : x / M = 0
    · refine Eq.trans (cnd_f (congrArg (fun b => !b) ((eq_0 hx).trans (decide_eq_true q))) _ _) ?_
      have hxM : x < M := Nat.lt_of_not_le fun hc => by
        have := Nat.div_le_div_right (c := M) hc
        rw [q, Nat.div_self M_pos] at this
        omega
      rw [Nat.mod_eq_of_lt hxM]
      refine bnd_ex' (fRCmp_s hxM hE) ?_
      by_cases q2 : rawT ez < x
      · refine Eq.trans (cnd_t (cmp_pos.trans (decide_eq_true q2)) _ _) ?_
        rw [if_pos q2]
        exact bnd_ex' kE rfl
      · refine Eq.trans (cnd_f (cmp_pos.trans (decide_eq_false q2)) _ _) ?_
        rw [if_neg q2]
        exact bnd_ex' (rcompact_s hxM) rfl
    · refine Eq.trans (cnd_t (congrArg (fun b => !b) ((eq_0 hx).trans (decide_eq_false q))) _ _) ?_
      have hge : M ≤ x := Nat.le_of_not_lt fun hc => q (Nat.div_eq_of_lt hc)
      rw [if_pos (Nat.lt_of_lt_of_le hE hge)]
      exact bnd_ex' kE rfl
  · rw [if_neg h]
    refine Eq.trans (cnd_t rfl _ _) ?_
    unfold nxN
    rw [if_neg h]
    rfl
theorem target_next (b : UInt32) (z : Int) : T.U.m11 (b, z) = some true := by
  refine (T.U.m11_eq _).trans ?_
  unfold T.U.b11
  refine bnd_ex' alive10_s ?_
  refine Eq.trans (cnd_t rfl _ _) ?_
  refine bnd_ex' (next_s b z) ?_
  refine bnd_ex' (rnext_s b z) ?_
  exact congrArg some (decide_eq_true rfl)
end Go.Proofs.Ytpfoeeiacfadfaa.Q
