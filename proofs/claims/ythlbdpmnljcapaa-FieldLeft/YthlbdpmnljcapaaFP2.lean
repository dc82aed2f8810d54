/-
  What package field's functions tell, in numbers: sums, products, powers, roots.
-/
import Derived.Test.YthlbdpmnljcapaaFP
import Derived.Test.YthlbdpmnljcapaaWd5
namespace Go.Proofs.Ythlbdpmnljcapaa.Q
open Go.RowKit

theorem M_pos : 0 < M := by decide
theorem wl_zero : ([(0 : UInt64), 0, 0, 0]) = wl 0 := wl_small (n := 0)
theorem eq_wl {a b : Nat} (ha : a < M) (hb : b < M) : eqD (.arr 4 (.int .u64)) (wl a) (wl b) = decide (a = b) := by
  have h := eqD_w (x := wl a) (y := wl b)
  rw [h]
  exact decide_eq_decide.2 (wl_inj ha hb)
/-! fold -/
theorem fold_more (f : List UInt64 × List UInt64 × List UInt64 → Option (O3 Unit (List UInt64 × List UInt64) Unit)) {lo hi : Nat} (hl : lo < M) (hh : hi < M) (h0 : hi ≠ 0) (z : List UInt64) :
    k72_0 f (wl lo, wl hi, z) = f (wl ((lo + hi * Gp) % M), wl ((lo + hi * Gp) / M), z) := by
  unfold k72_0
  simp only
  rw [wl_zero, eq_wl hh (by decide), cnd_t (by simp [h0]), gaps_s hl hh, bnd_s, fFrom_s, bnd_s]
  simp only
  rw [un _ (Nat.lt_of_le_of_lt (fold_b1 hl hh) (by decide))]
theorem fold_none (f : List UInt64 × List UInt64 × List UInt64 → Option (O3 Unit (List UInt64 × List UInt64) Unit)) {lo : Nat} (z : List UInt64) :
    k72_0 f (wl lo, wl 0, z) = some (.x (wl lo, z)) := by
  unfold k72_0
  simp only
  rw [wl_zero, eq_wl (by decide) (by decide), cnd_f (by simp)]
def FoldTo (n lo hi : Nat) : Prop := ∀ z, ∃ r, r < M ∧ r % Pm = (lo + hi * M) % Pm ∧ itN k72_0 n (wl lo, wl hi, z) = some (.x (wl r, z))
theorem fold_t0 {n lo : Nat} (h : lo < M) : FoldTo (n + 1) lo 0 := fun z => ⟨lo, h, by rw [Nat.zero_mul, Nat.add_zero], by rw [itN_succ, fold_none]⟩
theorem fold_t {n lo hi : Nat} (hl : lo < M) (hh : hi < M) (h : FoldTo (n + 1) ((lo + hi * Gp) % M) ((lo + hi * Gp) / M)) : FoldTo (n + 2) lo hi := fun z => by
  by_cases h0 : hi = 0
  · subst h0; exact fold_t0 (n := n + 1) hl z
  · obtain ⟨r, r1, r2, r3⟩ := h z
    refine ⟨r, r1, r2.trans (fold_step rfl), ?_⟩
    rw [show n + 2 = (n + 1) + 1 from rfl, itN_succ, fold_more _ hl hh h0, r3]
theorem fold_all (n lo hi : Nat) (hl : lo < M) (hh : hi < M) : FoldTo (n + 4) lo hi := by
  have hG : Gp < M := by decide
  refine fold_t (n := n + 2) hl hh ?_
  have b1 := fold_b1 hl hh
  have l1 : (lo + hi * Gp) % M < M := Nat.mod_lt _ M_pos
  refine fold_t (n := n + 1) l1 (Nat.lt_of_le_of_lt b1 hG) ?_
  obtain ⟨b2, b3⟩ := fold_b2 l1 b1
  generalize ((lo + hi * Gp) % M + (lo + hi * Gp) / M * Gp) / M = h2 at b2 b3
  have l2 : ((lo + hi * Gp) % M + (lo + hi * Gp) / M * Gp) % M < M := Nat.mod_lt _ M_pos
  generalize ((lo + hi * Gp) % M + (lo + hi * Gp) / M * Gp) % M = o2 at b3 l2
  rcases (show h2 = 0 ∨ h2 = 1 by omega) with rfl | rfl
  · exact fold_t0 (n := n + 1) l2
  · refine fold_t (n := n) l2 (by decide) ?_
    rw [fold_b3 (b3.resolve_left (by decide))]
    exact fold_t0 (Nat.mod_lt _ M_pos)
theorem fold_s {lo hi : Nat} (hl : lo < M) (hh : hi < M) : m72 (wl lo, wl hi) = some (wl ((lo + hi * M) % Pm)) := by
  rw [m72_eq]; unfold b72 l72_0
  obtain ⟨m, hm⟩ := fuel_ge 4 (by decide)
  obtain ⟨r, r1, r2, r3⟩ := fold_all m lo hi hl hh (List.replicate 4 0)
  simp only [hm]
  rw [r3, bnd_s]
  simp only
  rw [reduce_s r1, bnd_s, r2]
theorem add_s {a b : Nat} (ha : a < M) (hb : b < M) : m37 (wl a, wl b) = some (wl ((a + b) % Pm)) := by
  rw [m37_eq]; unfold b37
  have h1 : (a + b) / M < 18446744073709551616 := by unfold M at *; omega
  simp only
  rw [fAdd_s ha hb, bnd_s, fFrom_s, bnd_s]
  simp only
  rw [un _ h1, fold_s (Nat.mod_lt _ M_pos) (Nat.lt_trans h1 (by decide)), bnd_s, Nat.mul_comm, Nat.mod_add_div]
theorem mul_s {a b : Nat} (ha : a < M) (hb : b < M) : m43 (wl a, wl b) = some (wl ((a * b) % Pm)) := by
  rw [m43_eq]; unfold b43
  have h1 : a * b / M < M := Nat.div_lt_of_lt_mul (Nat.lt_of_le_of_lt (Nat.mul_le_mul_right _ (Nat.le_of_lt ha)) (Nat.mul_lt_mul_of_pos_left hb M_pos))
  simp only
  rw [fMul_s ha hb, bnd_s]
  simp only
  rw [fold_s (Nat.mod_lt _ M_pos) h1, bnd_s, Nat.mul_comm (a * b / M) M, Nat.mod_add_div]
theorem lt_P {a : Nat} : a % Pm < Pm := Nat.mod_lt _ P_pos
theorem lt_M {a : Nat} : a % Pm < M := Nat.lt_trans lt_P P_lt
theorem neg_s {a : Nat} (ha : a < M) : m41 (wl a) = some (wl ((Pm - a % Pm) % Pm)) := by
  rw [m41_eq]; unfold b41
  rw [l41_0_eq]; unfold a41_0
  simp only
  rw [prime_s, bnd_s, reduce_s ha, bnd_s, fSub_s P_lt lt_M, bnd_s, bnd_s]
  simp only
  have h := lt_P (a := a)
  have e : (Pm + M - a % Pm) % M = Pm - a % Pm := by
    rw [show Pm + M - a % Pm = (Pm - a % Pm) + M by omega, Nat.add_mod_right, Nat.mod_eq_of_lt (Nat.lt_of_le_of_lt (Nat.sub_le _ _) P_lt)]
  rw [e, reduce_s (Nat.lt_of_le_of_lt (Nat.sub_le _ _) P_lt), bnd_s]
theorem sub_s {a b : Nat} (ha : a < M) (hb : b < M) : m39 (wl a, wl b) = some (wl ((a + (Pm - b % Pm) % Pm) % Pm)) := by
  rw [m39_eq]; unfold b39
  simp only
  rw [neg_s hb, bnd_s, add_s ha lt_M, bnd_s]
/-! Pow -/
theorem word_at {n : Nat} (i : Nat) (hi : i < 4) : ((wl n).getD i 0).toNat = gw (w4 n) i := by
  rw [← map_wl]
  obtain ⟨a, b, c, d, h⟩ := len4 (wl_len n)
  rw [h]
  unfold gw
  match i, hi with
  | 0, _ => rfl
  | 1, _ => rfl
  | 2, _ => rfl
  | 3, _ => rfl
theorem bit_at {n j : Nat} (hn : n < M) (hj : j < 256) : @decide (@Eq UInt64 (andK .u64 (shrK .u64 (List.getD (wl n) (j / 64) (0 : UInt64)) (j % 64)) (1 : UInt64)) (1 : UInt64)) (instDecidableEqUInt64 _ _) = decide (n / 2 ^ j % 2 = 1) := by
  have e : (andK .u64 (shrK .u64 ((wl n).getD (j / 64) 0) (j % 64)) (1 : UInt64)) = UInt64.ofNat (n / 2 ^ j % 2) := by
    refine u_eq ?_
    rw [un _ (by omega)]
    show (UInt64.land (UInt64.ofNat (((wl n).getD (j / 64) 0).toNat / 2 ^ min (j % 64) 64)) 1).toNat = _
    rw [show min (j % 64) 64 = j % 64 by omega, word_at _ (by omega)]
    have h1 := gw_lt n (j / 64)
    show ((UInt64.ofNat _) &&& 1).toNat = _
    rw [UInt64.toNat_and, un _ (Nat.lt_of_le_of_lt (Nat.div_le_self _ _) h1), show (1 : UInt64).toNat = 1 from rfl, Nat.and_one_is_mod, bit_word n j hn hj]
  refine decide_eq_decide.2 ⟨fun h => ?_, fun h => e.trans (by rw [h]; rfl)⟩
  have := congrArg UInt64.toNat (e.symm.trans h)
  rwa [un _ (by omega)] at this
theorem pow_end (f : Int × List UInt64 × List UInt64 × List UInt64 × List UInt64 → Option (O3 Unit (List UInt64 × List UInt64) Unit)) (a n z p : List UInt64) : k47_0 f ((-1 : Int), a, n, z, p) = some (.x (z, p)) := rfl
theorem pow_turn (f : Int × List UInt64 × List UInt64 × List UInt64 × List UInt64 → Option (O3 Unit (List UInt64 × List UInt64) Unit)) {a n : Nat} (ha : a < M) (hn : n < M) (j : Nat) (hj : j < 256) (z : List UInt64) :
    k47_0 f ((j : Int), wl a, wl n, z, wl (a ^ (n / 2 ^ (j + 1)) % Pm)) = f (((j : Int) - 1), wl a, wl n, z, wl (a ^ (n / 2 ^ j) % Pm)) := by
  unfold k47_0
  simp only
  have e1 : Int.tdiv (j : Int) 64 = ((j / 64 : Nat) : Int) := rfl
  have e2 : Int.tmod (j : Int) 64 = ((j % 64 : Nat) : Int) := rfl
  have hr : inR .i64 ((j / 64 : Nat) : Int) = true := by unfold inR; simp; omega
  have hs : inR .i64 ((j : Int) - 1) = true := by unfold inR; simp; omega
  have hst := pow_step a n j
  rw [cnd_t (by simp), mul_s lt_M lt_M, bnd_s, e1, e2, guard_if hr, guard_if (inB_nat (by omega)), guard_if (by simp; omega)]
  simp only [Int.toNat_natCast]
  by_cases hb : n / 2 ^ j % 2 = 1
  · refine Eq.trans (cnd_t ((bit_at hn hj).trans (by simp [hb])) _ _) ?_
    rw [mul_s lt_M ha, bnd_s, guard_if hs]
    rw [if_pos hb] at hst
    rw [← hst]
    have : ∀ x : Nat, x % Pm * a % Pm = x % Pm * (a % Pm) % Pm := fun x => by rw [Nat.mul_mod, Nat.mod_mod, Nat.mul_mod (x % Pm) (a % Pm), Nat.mod_mod, Nat.mod_mod]
    rw [this]
  · refine Eq.trans (cnd_f ((bit_at hn hj).trans (by simp [hb])) _ _) ?_
    rw [guard_if hs]
    rw [if_neg hb, Nat.mul_one, Nat.mod_mod] at hst
    rw [hst]
theorem pow_all {a n : Nat} (ha : a < M) (hn : n < M) (z : List UInt64) : ∀ (j : Nat) (m : Nat), j ≤ 256 → itN k47_0 (m + 1 + j) (((j : Int) - 1), wl a, wl n, z, wl (a ^ (n / 2 ^ j) % Pm)) = some (.x (z, wl (a ^ n % Pm)))
  | 0, m, _ => by
    rw [show m + 1 + 0 = m + 1 from rfl, itN_succ, show (((0 : Nat) : Int) - 1) = -1 from rfl, pow_end, Nat.pow_zero, Nat.div_one]
  | j + 1, m, h => by
    rw [show m + 1 + (j + 1) = (m + 1 + j) + 1 from rfl, itN_succ, show ((((j + 1 : Nat)) : Int) - 1) = (j : Int) by omega, pow_turn _ ha hn j (by omega)]
    exact pow_all ha hn z j m (by omega)
theorem pow_s {a n : Nat} (ha : a < M) (hn : n < M) : m47 (wl a, wl n) = some (wl (a ^ n % Pm)) := by
  rw [m47_eq]; unfold b47 l47_0
  have hb := blen_le n hn
  simp only
  rw [fFrom_s, bnd_s, fLen_s hn, bnd_s, guard_if (by unfold inR; simp; omega)]
  have h0 : n / 2 ^ blen n = 0 := by
    by_cases h : n = 0
    · subst h; simp
    · exact Nat.div_eq_of_lt (blen_bounds n hn h).2.2
  have e : (1 : UInt64).toNat = a ^ (n / 2 ^ blen n) % Pm := by rw [h0]; rfl
  obtain ⟨m, hm⟩ := fuel_ge (1 + blen n) (by omega)
  rw [e, hm, ← Nat.add_assoc, pow_all ha hn _ (blen n) m hb, bnd_s]
theorem inv_s {a : Nat} (ha : a < M) : m49 (wl a) = some (wl (a ^ (Pm - 2) % Pm)) := by
  rw [m49_eq]; unfold b49
  rw [prime_s, bnd_s, fFrom_s, bnd_s, show (2 : UInt64).toNat = 2 from rfl, fSub_s P_lt (by decide), bnd_s]
  simp only
  rw [show (Pm + M - 2) % M = Pm - 2 by decide, pow_s ha (by decide), bnd_s]
/-- What Root tells. -/
noncomputable def rootN : Nat → Nat × Bool := hide fun a =>
  if a ^ ((Pm + 1) / 4) % Pm * (a ^ ((Pm + 1) / 4) % Pm) % Pm = a % Pm then (if a ^ ((Pm + 1) / 4) % Pm % 2 = 1 then (Pm - a ^ ((Pm + 1) / 4) % Pm) % Pm else a ^ ((Pm + 1) / 4) % Pm, true) else (0, false)
theorem rootN_eq (a : Nat) : rootN a = if a ^ ((Pm + 1) / 4) % Pm * (a ^ ((Pm + 1) / 4) % Pm) % Pm = a % Pm then (if a ^ ((Pm + 1) / 4) % Pm % 2 = 1 then (Pm - a ^ ((Pm + 1) / 4) % Pm) % Pm else a ^ ((Pm + 1) / 4) % Pm, true) else (0, false) := congrFun (hide_eq _) a
theorem low_at {r : Nat} (_hr : r < M) : decide ((List.getD (wl r) 0 (0 : UInt64)) % (2 : UInt64) = (1 : UInt64)) = decide (r % 2 = 1) := by
  have e : (List.getD (wl r) 0 (0 : UInt64)) % (2 : UInt64) = UInt64.ofNat (r % 2) := by
    refine u_eq ?_
    rw [UInt64.toNat_mod, word_at 0 (by decide), un _ (by omega)]
    have : gw (w4 r) 0 = r % 18446744073709551616 := by rw [w4_eq]; rfl
    rw [this]
    show r % 18446744073709551616 % 2 = r % 2
    omega
  rw [e]
  refine decide_eq_decide.2 ⟨fun h => ?_, fun h => by rw [h]; rfl⟩
  have := congrArg UInt64.toNat h
  rwa [un _ (by omega)] at this
theorem root_s {a : Nat} (ha : a < M) : m45 (wl a) = some (wl (rootN a).1, (rootN a).2) := by
  rw [m45_eq]; unfold b45
  rw [prime_s, bnd_s, fFrom_s, bnd_s, show (1 : UInt64).toNat = 1 from rfl, fAdd_s P_lt (by decide), bnd_s]
  simp only
  rw [l45_0_eq]; unfold a45_0
  simp only
  rw [show (Pm + 1) % M = Pm + 1 by decide, fShr_s (by decide), bnd_s, pow_s ha (by decide), bnd_s, bnd_s]
  simp only
  rw [rootN_eq]
  generalize a ^ ((Pm + 1) / 4) = q
  rw [mul_s lt_M lt_M, bnd_s, reduce_s ha, bnd_s, eq_wl lt_M lt_M]
  by_cases h1 : q % Pm * (q % Pm) % Pm = a % Pm
  · rw [cnd_f (by simp [h1]), low_at lt_M, if_pos h1]
    by_cases h2 : q % Pm % 2 = 1
    · rw [cnd_t (by simp [h2]), neg_s lt_M, bnd_s, if_pos h2, Nat.mod_mod]
    · rw [cnd_f (by simp [h2]), if_neg h2]
  · rw [cnd_t (by rw [decide_eq_false h1]; rfl), if_neg h1, wl_zero]
theorem root4 : rootN 4 = (2, true) := by
  have e : 4 ^ ((Pm + 1) / 4) % Pm = 2 := by
    rw [← powm_eq Pm 256 4 ((Pm + 1) / 4) (by decide +kernel)]
    decide +kernel
  rw [rootN_eq]
  rw [e]
  decide
theorem alive_s : m32 () = some true := by
  rw [m32_eq]; unfold b32
  simp only [wl_small]
  simp only [show (1 : UInt64).toNat = 1 from rfl, show (2 : UInt64).toNat = 2 from rfl, show (3 : UInt64).toNat = 3 from rfl, show (4 : UInt64).toNat = 4 from rfl, show (5 : UInt64).toNat = 5 from rfl, show (15 : UInt64).toNat = 15 from rfl]
  rw [prime_s, bnd_s, fSub_s P_lt (by decide), bnd_s, root_s (by decide), root4, bnd_s]
  simp only
  rw [show (Pm + M - 1) % M = Pm - 1 by decide, add_s (by decide) (by decide), bnd_s, eq_wl lt_M (by decide), cnd_t (by decide), eq_wl (by decide) (by decide), cnd_t (by decide), cnd_t rfl, mul_s (by decide) (by decide), bnd_s, eq_wl lt_M (by decide), cnd_t (by decide), inv_s (by decide), bnd_s, eq_wl lt_M (by decide)]
  rw [Nat.one_pow]
  rfl
end Go.Proofs.Ythlbdpmnljcapaa.Q
