/-
  More of the document's side of layers 2, 6 and 10, in numbers; Meets and Work.
-/
import Derived.Test.YtpfoeeiacfadfaaFT2
namespace Go.Proofs.Ytpfoeeiacfadfaa.Q
open Go.RowKit

/-! The document's Div, bit by bit. -/
theorem quo_sub {r b m : Nat} (hr : r < m) (hm : m < M) (hb : b ≤ 1) : ((2 * r + b) / M = 1 ∨ m ≤ (2 * r + b) % M → (2 * r + b) / m = 1) ∧ (¬ ((2 * r + b) / M = 1 ∨ m ≤ (2 * r + b) % M) → (2 * r + b) / m = 0) := by
  rcases rem_step r b m hr hm hb with ⟨h1, _, h2⟩ | ⟨h1, _, h2⟩
  · exact ⟨fun _ => h2, fun h => absurd h1 h⟩
  · exact ⟨fun h => absurd h h1, fun _ => h2⟩
theorem div_turn (f : Int × List UInt64 × List UInt64 × List UInt64 × List UInt64 × List UInt64 × List UInt64 → Option (O3 Unit (List UInt64 × List UInt64 × List UInt64 × List UInt64) Unit)) {a d j : Nat} (ha : a < M) (hd : d < M) (hd0 : 0 < d) (hj : j < 256) (z1 z2 : List UInt64) :
    T.k66_1 f ((j : Int), wl a, wl d, z1, z2, wl (a / 2 ^ (j + 1) / d), wl (a / 2 ^ (j + 1) % d)) = f ((j : Int) - 1, wl a, wl d, z1, z2, wl (a / 2 ^ j / d), wl (a / 2 ^ j % d)) := by
  have hr : a / 2 ^ (j + 1) % d < d := Nat.mod_lt _ hd0
  have hb : a / 2 ^ j % 2 ≤ 1 := by omega
  have hs := bits_step a j d
  have hq := quo_step a j d hd0
  have hqM : a / 2 ^ j / d < M := Nat.lt_of_le_of_lt (Nat.div_le_self _ _) (Nat.lt_of_le_of_lt (Nat.div_le_self _ _) ha)
  have hbit := bit06_s ha hj
  generalize a / 2 ^ (j + 1) % d = r at hr hs hq ⊢
  generalize a / 2 ^ (j + 1) / d = q at hq ⊢
  generalize a / 2 ^ j % 2 = b at hb hs hq hbit
  generalize a / 2 ^ j / d = q' at hq hqM ⊢
  rw [← hs]
  have hc := carry_le r b d hr hd hb
  obtain ⟨n1, n2⟩ := rem_sub hr hd hb
  obtain ⟨p1, p2⟩ := quo_sub hr hd hb
  have hM : (2 * r + b) % M < M := Nat.mod_lt _ M_pos
  have l3 : T.l66_3 ((j : Int), wl a, wl d, z1, z2, wl q, wl r) = some (.n ((j : Int), UInt64.ofNat ((2 * r + b) / M), wl a, wl d, z1, z2, wl q, wl r, wl ((2 * r + b) % M))) := by
    refine (T.l66_3_eq _).trans ?_
    unfold T.a66_3
    refine bnd_ex' hbit ?_
    refine bnd_ex' (dbl2_s (Nat.lt_trans hr hd) hb) ?_
    rfl
  have l4t : T.l66_4 ((j : Int), (0 : UInt64), true, wl a, wl d, z1, z2, wl q, wl ((2 * r + b) % M)) = some (.n ((j : Int), (1 : UInt64), wl a, wl d, z1, z2, wl q, wl (((2 * r + b) % M + M - d) % M))) := by
    refine (T.l66_4_eq _).trans ?_
    unfold T.a66_4
    refine Eq.trans (cnd_t rfl _ _) ?_
    refine bnd_ex' (fRSub_s hM hd) ?_
    rfl
  have l4f : T.l66_4 ((j : Int), (0 : UInt64), false, wl a, wl d, z1, z2, wl q, wl ((2 * r + b) % M)) = some (.n ((j : Int), (0 : UInt64), wl a, wl d, z1, z2, wl q, wl ((2 * r + b) % M))) := by
    refine (T.l66_4_eq _).trans ?_
    unfold T.a66_4
    refine Eq.trans (cnd_f rfl _ _) ?_
    rfl
  have tw1 : (2 * r + b) / d = 1 → m74 (wl q, (1 : UInt64)) = some (wl q', UInt64.ofNat ((2 * q + 1) / M)) := fun h => by
    have hqM' : q < M := by rw [h] at hq; omega
    have := dbl2_s (a := q) (b := 1) hqM' (by decide)
    rw [h] at hq
    rw [hq, Nat.mod_eq_of_lt hqM] at this
    rw [← hq] at this ⊢
    exact this
  have tw0 : (2 * r + b) / d = 0 → m74 (wl q, (0 : UInt64)) = some (wl q', UInt64.ofNat ((2 * q + 0) / M)) := fun h => by
    have hqM' : q < M := by rw [h] at hq; omega
    have := dbl2_s (a := q) (b := 0) hqM' (by decide)
    rw [h] at hq
    rw [hq, Nat.mod_eq_of_lt hqM] at this
    rw [← hq] at this ⊢
    exact this
  unfold T.k66_1
  refine Eq.trans (cnd_t (decide_eq_true (show (0 : Int) ≤ (j : Int) by omega)) _ _) ?_
  refine bnd_ex' l3 ?_
  by_cases h1 : (2 * r + b) / M = 1
  · refine Eq.trans (cnd_t ((one_c hc).trans (decide_eq_true h1)) _ _) ?_
    refine bnd_ex' l4t ?_
    refine bnd_ex' (tw1 (p1 (.inl h1))) ?_
    refine Eq.trans (guard_if (inR_pred (by omega)) _) ?_
    rw [n1 (.inl h1)]
  · refine Eq.trans (cnd_f ((one_c hc).trans (decide_eq_false h1)) _ _) ?_
    refine bnd_ex' (fRCmp_s hM hd) ?_
    rw [cmp_ge]
    by_cases h2 : d ≤ (2 * r + b) % M
    · rw [decide_eq_true h2]
      refine bnd_ex' l4t ?_
      refine bnd_ex' (tw1 (p1 (.inr h2))) ?_
      refine Eq.trans (guard_if (inR_pred (by omega)) _) ?_
      rw [n1 (.inr h2)]
    · rw [decide_eq_false h2]
      refine bnd_ex' l4f ?_
      have hn : ¬ ((2 * r + b) / M = 1 ∨ d ≤ (2 * r + b) % M) := fun h => h.elim h1 h2
      refine bnd_ex' (tw0 (p2 hn)) ?_
      refine Eq.trans (guard_if (inR_pred (by omega)) _) ?_
      rw [n2 hn]
theorem div_end (f : Int × List UInt64 × List UInt64 × List UInt64 × List UInt64 × List UInt64 × List UInt64 → Option (O3 Unit (List UInt64 × List UInt64 × List UInt64 × List UInt64) Unit)) (a d z1 z2 q r : List UInt64) : T.k66_1 f (((0 : Nat) : Int) - 1, a, d, z1, z2, q, r) = some (.x (z1, z2, q, r)) := rfl
theorem div_all {a d : Nat} (ha : a < M) (hd : d < M) (hd0 : 0 < d) (z1 z2 : List UInt64) : ∀ (j m : Nat), j ≤ 256 →
    itN T.k66_1 (m + 1 + j) ((j : Int) - 1, wl a, wl d, z1, z2, wl (a / 2 ^ j / d), wl (a / 2 ^ j % d)) = some (.x (z1, z2, wl (a / d), wl (a % d)))
  | 0, m, _ => by
    rw [show m + 1 + 0 = m + 1 from rfl, itN_succ, Nat.pow_zero, Nat.div_one]
    exact div_end _ _ _ _ _ _ _
  | j + 1, m, h => by
    rw [show m + 1 + (j + 1) = (m + 1 + j) + 1 from rfl, itN_succ, show ((j + 1 : Nat) : Int) - 1 = (j : Int) by omega, div_turn _ ha hd hd0 (by omega)]
    exact div_all ha hd hd0 z1 z2 j m (by omega)
theorem rdiv_s {a d : Nat} (hd0 : d ≠ 0) (hd : d < M) (ha : a < M) : T.m66 (wl a, wl d) = some (wl (a / d), wl (a % d), (0 : Int)) := by
  refine (T.m66_eq _).trans ?_
  unfold T.b66
  refine Eq.trans (cnd_f ((eq_0 hd).trans (decide_eq_false hd0)) _ _) ?_
  have hl : T.l66_1 ((255 : Int), wl a, wl d, List.replicate 4 (0 : UInt64), List.replicate 4 (0 : UInt64), [(0 : UInt64), 0, 0, 0], [(0 : UInt64), 0, 0, 0]) = some (.x (List.replicate 4 (0 : UInt64), List.replicate 4 (0 : UInt64), wl (a / d), wl (a % d))) := by
    unfold T.l66_1
    obtain ⟨m, hm⟩ := fuel_ge 257 (by decide)
    have h := div_all ha hd (Nat.pos_of_ne_zero hd0) (List.replicate 4 (0 : UInt64)) (List.replicate 4 (0 : UInt64)) 256 m (Nat.le_refl _)
    rw [show a / 2 ^ 256 = 0 from Nat.div_eq_of_lt ha, Nat.zero_mod, Nat.zero_div] at h
    rw [hm, wl_zero, show m + 257 = m + 1 + 256 by omega]
    exact h
  refine bnd_ex' hl ?_
  rfl
/-! Shl -/
theorem shl06_all {a n : Nat} (ha : a < M) (hn : n ≤ 256) (z : List UInt64) : ∀ (j m k : Nat), k + j = n → itN T.k65_0 (m + 1 + j) ((n : Int), (k : Int), wl (a * 2 ^ k % M), z) = some (.x (wl (a * 2 ^ n % M), z))
  | 0, m, k, h => by
    obtain rfl : k = n := by omega
    rw [show m + 1 + 0 = m + 1 from rfl, itN_succ]
    unfold T.k65_0
    exact Eq.trans (cnd_f (decide_eq_false (show ¬ (k : Int) < (k : Int) by omega)) _ _) rfl
  | j + 1, m, k, h => by
    rw [show m + 1 + (j + 1) = (m + 1 + j) + 1 from rfl, itN_succ]
    have ih := shl06_all ha hn z j m (k + 1) (by omega)
    have hs := shl_step a k
    unfold T.k65_0
    refine Eq.trans (cnd_t (decide_eq_true (show (k : Int) < (n : Int) by omega)) _ _) ?_
    refine Eq.trans (cnd_t (decide_eq_true (show (k : Int) < (256 : Int) by omega)) _ _) ?_
    have k1 : m74 (wl (a * 2 ^ k % M), (0 : UInt64)) = some (wl (a * 2 ^ (k + 1) % M), UInt64.ofNat ((2 * (a * 2 ^ k % M) + 0) / M)) := by
      rw [← hs]; exact dbl2_s (Nat.mod_lt _ M_pos) (by decide)
    refine bnd_ex' k1 ?_
    refine Eq.trans (guard_if (show inR .i64 ((k : Int) + 1) = true from inR_of (by omega) (by omega)) _) ?_
    exact ih
theorem rshl_s {a n : Nat} (ha : a < M) (hn : n ≤ 256) : T.m65 (wl a, (n : Int)) = some (wl (a * 2 ^ n % M)) := by
  refine (T.m65_eq _).trans ?_
  unfold T.b65
  have hl : T.l65_0 ((n : Int), (0 : Int), wl a, List.replicate 4 (0 : UInt64)) = some (.x (wl (a * 2 ^ n % M), List.replicate 4 (0 : UInt64))) := by
    unfold T.l65_0
    obtain ⟨m, hm⟩ := fuel_ge (n + 1) (by omega)
    have h := shl06_all ha hn (List.replicate 4 (0 : UInt64)) n m 0 (by omega)
    rw [Nat.pow_zero, Nat.mul_one, Nat.mod_eq_of_lt ha] at h
    rw [hm, show m + (n + 1) = m + 1 + n by omega]
    exact h
  refine bnd_ex' hl ?_
  rfl
/-! Turned, Hash -/
theorem turn_all {l : List UInt8} (hl : l.length = 32) : ∀ (j m : Nat), j ≤ 32 → itN T.k63_0 (m + 1 + j) (l, (l.drop j).reverse, (j : Int) - 1) = some (.x l.reverse)
  | 0, m, _ => by
    rw [show m + 1 + 0 = m + 1 from rfl, itN_succ]
    rfl
  | j + 1, m, h => by
    rw [show m + 1 + (j + 1) = (m + 1 + j) + 1 from rfl, itN_succ, show ((j + 1 : Nat) : Int) - 1 = (j : Int) by omega]
    have ih := turn_all hl j m (by omega)
    have hd : (l.drop j).reverse = List.append (l.drop (j + 1)).reverse [List.getD l j (0 : UInt8)] := by
      have hj : j < l.length := by omega
      rw [List.drop_eq_getElem_cons hj, List.reverse_cons]
      have : l[j] = List.getD l j (0 : UInt8) := by simp [List.getD_eq_getElem?_getD, List.getElem?_eq_getElem hj]
      rw [this]
      rfl
    unfold T.k63_0
    refine Eq.trans (cnd_t (decide_eq_true (show (0 : Int) ≤ (j : Int) by omega)) _ _) ?_
    refine Eq.trans (guard_if (inB_nat (show j < l.length by omega)) _) ?_
    refine Eq.trans (guard_if ?_ _) ?_
    · refine Nat.ble_eq_true_of_le ?_
      show (l.drop (j + 1)).reverse.length + 1 ≤ maxN
      rw [List.length_reverse, List.length_drop, hl]
      unfold maxN
      omega
    refine Eq.trans (guard_if (inR_pred (by omega)) _) ?_
    rw [hd] at ih
    exact ih
theorem turned_s {l : List UInt8} (hl : l.length = 32) : T.m63 l = some l.reverse := by
  refine (T.m63_eq _).trans ?_
  unfold T.b63
  have e : ((List.length l : Nat) : Int) - 1 = ((32 : Nat) : Int) - 1 := by rw [hl]
  refine Eq.trans (guard_if (by rw [e]; exact inR_of (by omega) (by omega)) _) ?_
  have hlp : T.l63_0 (l, ([] : List UInt8), ((List.length l : Nat) : Int) - 1) = some (.x l.reverse) := by
    unfold T.l63_0
    obtain ⟨m, hm⟩ := fuel_ge 33 (by decide)
    have h := turn_all hl 32 m (Nat.le_refl _)
    rw [List.drop_of_length_le (by omega)] at h
    rw [hm, e, show m + 33 = m + 1 + 32 by omega]
    exact h
  refine bnd_ex' hlp ?_
  rfl
theorem len32 {l : List UInt8} (h : l.length = 32) : ∃ a0 a1 a2 a3 a4 a5 a6 a7 b0 b1 b2 b3 b4 b5 b6 b7 c0 c1 c2 c3 c4 c5 c6 c7 d0 d1 d2 d3 d4 d5 d6 d7, l = [a0, a1, a2, a3, a4, a5, a6, a7, b0, b1, b2, b3, b4, b5, b6, b7, c0, c1, c2, c3, c4, c5, c6, c7, d0, d1, d2, d3, d4, d5, d6, d7] := by
  match l, h with
  | [a0, a1, a2, a3, a4, a5, a6, a7, b0, b1, b2, b3, b4, b5, b6, b7, c0, c1, c2, c3, c4, c5, c6, c7, d0, d1, d2, d3, d4, d5, d6, d7], _ => exact ⟨a0, a1, a2, a3, a4, a5, a6, a7, b0, b1, b2, b3, b4, b5, b6, b7, c0, c1, c2, c3, c4, c5, c6, c7, d0, d1, d2, d3, d4, d5, d6, d7, rfl⟩
theorem hash_s {l : List UInt8} (hl : l.length = 32) : T.m62 l = some l := by
  refine (T.m62_eq _).trans ?_
  unfold T.b62
  obtain ⟨m, hm⟩ := fuel_ge 33 (by decide)
  obtain ⟨a0, a1, a2, a3, a4, a5, a6, a7, b0, b1, b2, b3, b4, b5, b6, b7, c0, c1, c2, c3, c4, c5, c6, c7, d0, d1, d2, d3, d4, d5, d6, d7, rfl⟩ := len32 hl
  have h : T.l62_0 ([a0, a1, a2, a3, a4, a5, a6, a7, b0, b1, b2, b3, b4, b5, b6, b7, c0, c1, c2, c3, c4, c5, c6, c7, d0, d1, d2, d3, d4, d5, d6, d7], (0 : Int), List.replicate 32 (0 : UInt8), zs) = some (.x (List.replicate 32 (0 : UInt8), [a0, a1, a2, a3, a4, a5, a6, a7, b0, b1, b2, b3, b4, b5, b6, b7, c0, c1, c2, c3, c4, c5, c6, c7, d0, d1, d2, d3, d4, d5, d6, d7])) := by
    unfold T.l62_0
    rw [hm]
    kernel_rfl
  refine bnd_ex' h ?_
  rfl
/-! Meets -/
def mtN (l : List UInt8) (n : Nat) : Bool := decide (okT n ∧ be l.reverse ≤ rawT n)
theorem cmp_le {a b : Nat} : decide (cmpN a b ≤ (0 : Int)) = decide (a ≤ b) := by
  refine decide_eq_decide.2 ?_
  unfold cmpN
  split
  · rename_i h; subst h; simp
  · split
    · rename_i h1 h2; constructor
      · intro _; omega
      · intro _; decide
    · rename_i h1 h2; constructor
      · intro h; omega
      · intro h; omega
theorem rev32 {l : List UInt8} (hl : l.length = 32) : l.reverse.length = 32 := by rw [List.length_reverse, hl]
theorem meets_s {l : List UInt8} (hl : l.length = 32) (b : UInt32) : fMeets (l, b) = some (mtN l b.toNat) := by
  refine (fMeets_eq _).trans ?_
  refine bnd_ex' (expand_s b) ?_
  unfold mtN
  by_cases h : okT b.toNat
  · rw [if_pos h]
    refine Eq.trans (cnd_t rfl _ _) ?_
    refine bnd_ex' (read_s (rev32 hl)) ?_
    rw [val_wl (be_M _ (rev32 hl)), val_wl h.2.1]
    refine congrArg some (cmp_le.trans ?_)
    exact decide_eq_decide.2 ⟨fun q => ⟨h, q⟩, fun q => q.2⟩
  · rw [if_neg h]
    refine Eq.trans (cnd_f rfl _ _) ?_
    exact congrArg some (decide_eq_false fun q => h q.1).symm
theorem rmeets_s {l : List UInt8} (hl : l.length = 32) (b : UInt32) : T.m38 (l, b) = some (mtN l b.toNat) := by
  refine (T.m38_eq _).trans ?_
  unfold T.b38
  refine bnd_ex' (rexpand_s b) ?_
  have e : (List.take 32 l).drop 0 = l := by rw [List.drop_zero, List.take_of_length_le (by omega)]
  have k1 : T.m63 ((List.take 32 l).drop 0) = some l.reverse := by rw [e]; exact turned_s hl
  refine bnd_ex' k1 ?_
  refine bnd_ex' (hash_s (rev32 hl)) ?_
  refine bnd_ex' (rread_s (rev32 hl)) ?_
  unfold mtN
  by_cases h : okT b.toNat
  · rw [if_pos h]
    refine Eq.trans (cnd_t rfl _ _) ?_
    refine bnd_ex' (fRCmp_s (be_M _ (rev32 hl)) h.2.1) ?_
    refine congrArg some (cmp_le.trans ?_)
    exact decide_eq_decide.2 ⟨fun q => ⟨h, q⟩, fun q => q.2⟩
  · rw [if_neg h]
    refine Eq.trans (cnd_f rfl _ _) ?_
    exact congrArg some (decide_eq_false fun q => h q.1).symm
/-! Work -/
/-- No target is so great that one more had no room. -/
theorem raw_one {n : Nat} (h : okT n) : rawT n + 1 < M := by
  refine Nat.lt_of_not_le fun hc => ?_
  have hlt := h.2.1
  have e : rawT n = M - 1 := by omega
  by_cases h3 : 4 ≤ expT n
  · have hr := raw_hi (n := n) (by omega)
    obtain ⟨k, hk⟩ : ∃ k, expT n - 3 = k + 1 := ⟨expT n - 4, by omega⟩
    rw [hk, Nat.mul_add, Nat.mul_one, Nat.pow_add, ← Nat.mul_assoc] at hr
    rw [hr] at e
    have : M = 2 ^ 8 * 452312848583266388373324160190187140051835877600158453279131187530910662656 := by decide
    omega
  · have h1 : rawT n ≤ manT n * 2 ^ (8 * (expT n - 3)) := Nat.div_le_self _ _
    rw [show expT n - 3 = 0 by omega, Nat.mul_zero, Nat.pow_zero, Nat.mul_one] at h1
    have := man_lt n
    unfold M at e
    omega
def wkN (n : Nat) : Nat := if okT n then M / (rawT n + 1) else 0
theorem wkN_lt (n : Nat) : wkN n < M := by
  unfold wkN
  split
  · rename_i h
    have h0 := h.2.2
    refine Nat.div_lt_of_lt_mul ?_
    have : M * 2 ≤ (rawT n + 1) * M := by rw [Nat.mul_comm]; exact Nat.mul_le_mul_right _ (by omega)
    have := M_pos
    omega
  · exact M_pos
theorem wl1' : ([(1 : UInt64), 0, 0, 0]) = wl 1 := wl_small (n := 1)
theorem fFrom_1 : fFrom (1 : UInt64) = some (wl 1) := fFrom_s 1
theorem work_s (b : UInt32) : T.m39 b = some (wl (wkN b.toNat)) := by
  refine (T.m39_eq _).trans ?_
  unfold T.b39
  refine bnd_ex' (expand_s b) ?_
  by_cases h : okT b.toNat
  · have hw := wkN_lt b.toNat
    unfold wkN at hw ⊢
    rw [if_pos h] at hw ⊢
    rw [if_pos h]
    refine Eq.trans (cnd_f rfl _ _) ?_
    have hd := raw_one h
    have ht := h.2.1
    generalize rawT b.toNat = t at hd ht hw ⊢
    have l1 : T.l39_1 (List.replicate 4 (0 : UInt64), wl t) = some (.n (List.replicate 4 (0 : UInt64), wl (t + 1))) := by
      refine (T.l39_1_eq _).trans ?_
      unfold T.a39_1
      refine bnd_ex' fFrom_1 ?_
      refine bnd_ex' (fAdd_s ht (by decide)) ?_
      rw [Nat.mod_eq_of_lt hd]
    refine bnd_ex' l1 ?_
    have k1 : fSub ([(0 : UInt64), 0, 0, 0], wl (t + 1)) = some (wl (M - (t + 1)), UInt64.ofNat (if 0 < t + 1 then 1 else 0)) := by
      rw [wl_zero, fSub_s M_pos hd, show (0 + M - (t + 1)) % M = M - (t + 1) by rw [Nat.zero_add]; exact Nat.mod_eq_of_lt (by have := M_pos; omega)]
    refine bnd_ex' k1 ?_
    have hM : M - (t + 1) < M := by have := M_pos; omega
    refine bnd_ex' (div_s (by omega) hd hM) ?_
    have hq := Nat.div_eq_sub_div (show 0 < t + 1 by omega) (Nat.le_of_lt hd)
    have l2 : T.l39_2 (List.replicate 4 (0 : UInt64), wl ((M - (t + 1)) / (t + 1))) = some (.n (List.replicate 4 (0 : UInt64), wl (M / (t + 1)))) := by
      refine (T.l39_2_eq _).trans ?_
      unfold T.a39_2
      refine bnd_ex' fFrom_1 ?_
      refine bnd_ex' (fAdd_s (Nat.lt_of_le_of_lt (Nat.div_le_self _ _) hM) (by decide)) ?_
      rw [← hq, Nat.mod_eq_of_lt hw]
    refine bnd_ex' l2 ?_
    rfl
  · rw [if_neg h]
    refine Eq.trans (cnd_t rfl _ _) ?_
    unfold wkN
    rw [if_neg h]
    exact congrArg some wl_zero
/-- A turn of the document's work: one bit more, where it still fits. -/
theorem grow_n {Q i d : Nat} (hQ : M / d = Q) (hd : 0 < d) (hQM : Q < M) (hi : i < 256) :
    Q / 2 ^ (i + 1) * 2 ^ (i + 1) < M ∧ 2 ^ i < M ∧ Q / 2 ^ (i + 1) * 2 ^ (i + 1) + 2 ^ i < M ∧ ((Q / 2 ^ (i + 1) * 2 ^ (i + 1) + 2 ^ i) * d ≤ M ↔ Q / 2 ^ i * 2 ^ i = Q / 2 ^ (i + 1) * 2 ^ (i + 1) + 2 ^ i) ∧ (¬ (Q / 2 ^ (i + 1) * 2 ^ (i + 1) + 2 ^ i) * d ≤ M → Q / 2 ^ i * 2 ^ i = Q / 2 ^ (i + 1) * 2 ^ (i + 1)) := by
  have hle : Q / 2 ^ (i + 1) * 2 ^ (i + 1) ≤ Q := Nat.div_mul_le_self _ _
  have hpi : 2 ^ i < M := by rw [M_pow]; exact Nat.pow_lt_pow_right (by decide) hi
  have hs := half_step Q i
  have hp : 2 ^ (i + 1) = 2 * 2 ^ i := by rw [Nat.pow_succ, Nat.mul_comm]
  have hpos : 0 < 2 ^ i := Nat.two_pow_pos i
  have hdvd : ∃ c, M = c * 2 ^ (i + 1) := ⟨2 ^ (255 - i), by rw [← Nat.pow_add, show 255 - i + (i + 1) = 256 by omega]; rfl⟩
  obtain ⟨c, hc⟩ := hdvd
  have hq1 : Q / 2 ^ (i + 1) < c := by
    refine Nat.div_lt_of_lt_mul ?_
    rw [Nat.mul_comm, ← hc]; exact hQM
  have hup : (Q / 2 ^ (i + 1) + 1) * 2 ^ (i + 1) ≤ c * 2 ^ (i + 1) := Nat.mul_le_mul_right _ hq1
  have key : ∀ x, x * d ≤ M ↔ x ≤ Q := fun x => by rw [← hQ]; exact (Nat.le_div_iff_mul_le hd).symm
  have hb : Q / 2 ^ i % 2 < 2 := Nat.mod_lt _ (by decide)
  have hle2 : Q / 2 ^ i * 2 ^ i ≤ Q := Nat.div_mul_le_self _ _
  have hlt2 : Q < (Q / 2 ^ i + 1) * 2 ^ i := by
    have := Nat.div_add_mod Q (2 ^ i)
    have h3 := Nat.mod_lt Q hpos
    rw [Nat.add_mul, Nat.one_mul, Nat.mul_comm (Q / 2 ^ i)]
    omega
  rw [key]
  generalize Q / 2 ^ (i + 1) = q at *
  generalize Q / 2 ^ i = r at *
  have e : q * 2 ^ (i + 1) = 2 * q * 2 ^ i := by rw [hp, ← Nat.mul_assoc, Nat.mul_comm q 2]
  rw [e] at hle ⊢
  have e2 : (q + 1) * 2 ^ (i + 1) = 2 * q * 2 ^ i + 2 * 2 ^ i := by rw [hp, Nat.add_mul, Nat.one_mul, ← Nat.mul_assoc, Nat.mul_comm q 2]
  rw [e2, ← hc] at hup
  refine ⟨by omega, hpi, by omega, ?_, ?_⟩
  · rcases (show r % 2 = 0 ∨ r % 2 = 1 by omega) with h | h
    · have er : r = 2 * q := by omega
      subst er
      rw [Nat.add_mul, Nat.one_mul] at hlt2
      constructor
      · intro hx; omega
      · intro hx; omega
    · have er : r = 2 * q + 1 := by omega
      subst er
      rw [Nat.add_mul, Nat.one_mul] at hle2 ⊢
      exact ⟨fun _ => rfl, fun _ => hle2⟩
  · intro hx
    rcases (show r % 2 = 0 ∨ r % 2 = 1 by omega) with h | h
    · have er : r = 2 * q := by omega
      rw [er]
    · have er : r = 2 * q + 1 := by omega
      subst er
      rw [Nat.add_mul, Nat.one_mul] at hle2
      exact absurd hle2 hx
/-- A product of at most 2^256, as it is asked. -/
theorem fits_n {x : Nat} (_hx : x < M * M) : (x / M = 0 ∨ (x / M = 1 ∧ x % M = 0)) ↔ x ≤ M := by
  have h1 := Nat.div_add_mod x M
  have h2 := Nat.mod_lt x M_pos
  constructor
  · rintro (h | ⟨h, h3⟩)
    · rw [h] at h1; omega
    · rw [h, h3] at h1; omega
  · intro h
    rcases Nat.lt_or_ge x M with hlt | hge
    · exact .inl (Nat.div_eq_of_lt hlt)
    · have e : x = M := Nat.le_antisymm h hge
      rw [e]
      exact .inr ⟨Nat.div_self M_pos, Nat.mod_self M⟩
theorem wk_turn (f : Int × List UInt64 × List UInt64 × List UInt64 → Option (O3 Unit (List UInt64 × List UInt64) Unit)) {d Q j : Nat} (hQ : M / d = Q) (hd : 0 < d) (hdM : d < M) (hQM : Q < M) (hj : j < 256) (z : List UInt64) :
    T.k40_2 f ((j : Int), z, wl d, wl (Q / 2 ^ (j + 1) * 2 ^ (j + 1))) = f ((j : Int) - 1, z, wl d, wl (Q / 2 ^ j * 2 ^ j)) := by
  obtain ⟨g1, g2, g3, g4, g5⟩ := grow_n hQ hd hQM hj
  generalize Q / 2 ^ (j + 1) * 2 ^ (j + 1) = w at *
  generalize Q / 2 ^ j * 2 ^ j = w' at *
  unfold T.k40_2
  refine Eq.trans (cnd_t (decide_eq_true (show (0 : Int) ≤ (j : Int) by omega)) _ _) ?_
  have l4 : T.l40_4 ((j : Int), z, wl d, wl w) = some (.n ((j : Int), z, wl d, wl w, wl (w + 2 ^ j))) := by
    refine (T.l40_4_eq _).trans ?_
    unfold T.a40_4
    have k1 : T.m65 ([(1 : UInt64), 0, 0, 0], (j : Int)) = some (wl (2 ^ j)) := by
      rw [wl1', rshl_s (by decide) (by omega), Nat.one_mul, Nat.mod_eq_of_lt g2]
    refine bnd_ex' k1 ?_
    refine bnd_ex' (fRAdd_s g1 g2) ?_
    rw [Nat.mod_eq_of_lt g3]
  refine bnd_ex' l4 ?_
  refine bnd_ex' (fRMul_s g3 hdM) ?_
  have hMM : (w + 2 ^ j) * d < M * M := Nat.mul_lt_mul_of_lt_of_lt g3 hdM
  have hf := fits_n hMM
  have hh : (w + 2 ^ j) * d / M < M := Nat.div_lt_of_lt_mul hMM
  by_cases h1 : (w + 2 ^ j) * d / M = 0
  · refine Eq.trans (cnd_t ((eq_0 hh).trans (decide_eq_true h1)) _ _) ?_
    refine Eq.trans (guard_if (inR_pred (by omega)) _) ?_
    rw [g4.1 (hf.1 (.inl h1))]
  · refine Eq.trans (cnd_f ((eq_0 hh).trans (decide_eq_false h1)) _ _) ?_
    have e1 : eqD (.arr 4 (.int .u64)) (wl ((w + 2 ^ j) * d / M)) ([(1 : UInt64), 0, 0, 0] : List UInt64) = decide ((w + 2 ^ j) * d / M = 1) :=
      (congrArg (fun l : List UInt64 => eqD (.arr 4 (.int .u64)) (wl ((w + 2 ^ j) * d / M)) l) wl1').trans (eq_wl hh (by decide))
    by_cases h2 : (w + 2 ^ j) * d / M = 1
    · refine Eq.trans (cnd_t (e1.trans (decide_eq_true h2)) _ _) ?_
      by_cases h3 : (w + 2 ^ j) * d % M = 0
      · refine Eq.trans (cnd_t ((eq_0 (Nat.mod_lt _ M_pos)).trans (decide_eq_true h3)) _ _) ?_
        refine Eq.trans (guard_if (inR_pred (by omega)) _) ?_
        rw [g4.1 (hf.1 (.inr ⟨h2, h3⟩))]
      · refine Eq.trans (cnd_f ((eq_0 (Nat.mod_lt _ M_pos)).trans (decide_eq_false h3)) _ _) ?_
        refine Eq.trans (guard_if (inR_pred (by omega)) _) ?_
        rw [g5 fun hc => (hf.2 hc).elim (fun h => h1 h) (fun h => h3 h.2)]
    · refine Eq.trans (cnd_f (e1.trans (decide_eq_false h2)) _ _) ?_
      refine Eq.trans (guard_if (inR_pred (by omega)) _) ?_
      rw [g5 fun hc => (hf.2 hc).elim (fun h => h1 h) (fun h => h2 h.1)]
theorem wk_end (f : Int × List UInt64 × List UInt64 × List UInt64 → Option (O3 Unit (List UInt64 × List UInt64) Unit)) (z d w : List UInt64) : T.k40_2 f (((0 : Nat) : Int) - 1, z, d, w) = some (.x (z, w)) := rfl
theorem wk_all {d Q : Nat} (hQ : M / d = Q) (hd : 0 < d) (hdM : d < M) (hQM : Q < M) (z : List UInt64) : ∀ (j m : Nat), j ≤ 256 →
    itN T.k40_2 (m + 1 + j) ((j : Int) - 1, z, wl d, wl (Q / 2 ^ j * 2 ^ j)) = some (.x (z, wl Q))
  | 0, m, _ => by
    rw [show m + 1 + 0 = m + 1 from rfl, itN_succ, Nat.pow_zero, Nat.div_one, Nat.mul_one]
    exact wk_end _ _ _ _
  | j + 1, m, h => by
    rw [show m + 1 + (j + 1) = (m + 1 + j) + 1 from rfl, itN_succ, show ((j + 1 : Nat) : Int) - 1 = (j : Int) by omega, wk_turn _ hQ hd hdM hQM (by omega)]
    exact wk_all hQ hd hdM hQM z j m (by omega)
theorem rwork_s (b : UInt32) : T.m40 b = some (wl (wkN b.toNat)) := by
  refine (T.m40_eq _).trans ?_
  unfold T.b40
  refine bnd_ex' (rexpand_s b) ?_
  by_cases h : okT b.toNat
  · have hw := wkN_lt b.toNat
    unfold wkN at hw ⊢
    rw [if_pos h] at hw ⊢
    rw [if_pos h]
    refine Eq.trans (cnd_f rfl _ _) ?_
    have hd := raw_one h
    have ht := h.2.1
    generalize rawT b.toNat = t at hd ht hw ⊢
    have k1 : fRAdd (wl t, [(1 : UInt64), 0, 0, 0]) = some (wl (t + 1), UInt64.ofNat 0) := by
      rw [wl1', fRAdd_s ht (by decide), Nat.mod_eq_of_lt hd, Nat.div_eq_of_lt hd]
    refine bnd_ex' k1 ?_
    refine Eq.trans (cnd_f rfl _ _) ?_
    have hl : T.l40_2 ((255 : Int), List.replicate 4 (0 : UInt64), wl (t + 1), [(0 : UInt64), 0, 0, 0]) = some (.x (List.replicate 4 (0 : UInt64), wl (M / (t + 1)))) := by
      unfold T.l40_2
      obtain ⟨m, hm⟩ := fuel_ge 257 (by decide)
      have hh := wk_all (d := t + 1) rfl (by omega) hd hw (List.replicate 4 (0 : UInt64)) 256 m (Nat.le_refl _)
      rw [show M / (t + 1) / 2 ^ 256 = 0 from Nat.div_eq_of_lt hw, Nat.zero_mul] at hh
      rw [hm, wl_zero, show m + 257 = m + 1 + 256 by omega]
      exact hh
    refine bnd_ex' hl ?_
    rfl
  · rw [if_neg h]
    refine Eq.trans (cnd_t rfl _ _) ?_
    unfold wkN
    rw [if_neg h]
    exact congrArg some wl_zero
end Go.Proofs.Ytpfoeeiacfadfaa.Q
