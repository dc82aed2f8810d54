/-
  What the document's sums and differences modulo the prime tell, in numbers.
-/
import Derived.Test.YthlbdpmnljcapaaFP2
namespace Go.Proofs.Ythlbdpmnljcapaa.Q
open Go.RowKit

theorem lt_nat {x y : UInt64} : decide (x < y) = decide (x.toNat < y.toNat) := decide_eq_decide.2 UInt64.lt_iff_toNat_lt
theorem eq_nat {x y : UInt64} : decide (x = y) = decide (x.toNat = y.toNat) := decide_eq_decide.2 UInt64.toNat_inj.symm
theorem set_of {l : List Nat} {i n : Nat} {x : UInt64} (h : x.toNat = n) : (l.map UInt64.ofNat).set i x = (l.set i n).map UInt64.ofNat := by
  rw [List.map_set, ← h, u_of]
theorem more_n (a b c : Nat) (ha : a < 18446744073709551616) (hb : b < 18446744073709551616) (hc : c ≤ 1) :
    (((a + b) % 18446744073709551616 + c) % 18446744073709551616 = (a + b + c) % 18446744073709551616) ∧ ((a + b) % 18446744073709551616 < a → (a + b + c) / 18446744073709551616 = 1) ∧ (¬ (a + b) % 18446744073709551616 < a → ((a + b) % 18446744073709551616 + c) % 18446744073709551616 < (a + b) % 18446744073709551616 → (a + b + c) / 18446744073709551616 = 1) ∧ (¬ (a + b) % 18446744073709551616 < a → ¬ ((a + b) % 18446744073709551616 + c) % 18446744073709551616 < (a + b) % 18446744073709551616 → (a + b + c) / 18446744073709551616 = 0) := by
  refine ⟨?_, ?_, ?_, ?_⟩ <;> omega
theorem less_n (a b c : Nat) (ha : a < 18446744073709551616) (hb : b < 18446744073709551616) (hc : c ≤ 1) :
    (18446744073709551616 - c + (18446744073709551616 - b + a) % 18446744073709551616) % 18446744073709551616 = (a + 18446744073709551616 - b - c) % 18446744073709551616 := by omega
theorem more_turn (f : UInt64 × Int × List UInt64 × List UInt64 × List UInt64 × List UInt64 → Option (O3 Unit (UInt64 × List UInt64 × List UInt64) Unit)) {a b : Nat} (i : Nat) (hi : i < 4) (z : List UInt64) :
    k73_0 f (UInt64.ofNat (addS (w4 a) (w4 b) i).2, (i : Int), wl a, wl b, z, (addS (w4 a) (w4 b) i).1.map UInt64.ofNat) = f (UInt64.ofNat (addS (w4 a) (w4 b) (i + 1)).2, ((i + 1 : Nat) : Int), wl a, wl b, z, (addS (w4 a) (w4 b) (i + 1)).1.map UInt64.ofNat) := by
  unfold k73_0
  have hc := addS_carry a b i
  rw [show addS (w4 a) (w4 b) (i + 1) = ((addS (w4 a) (w4 b) i).1.set i ((gw (w4 a) i + gw (w4 b) i + (addS (w4 a) (w4 b) i).2) % 18446744073709551616), (gw (w4 a) i + gw (w4 b) i + (addS (w4 a) (w4 b) i).2) / 18446744073709551616) from rfl]
  generalize addS (w4 a) (w4 b) i = s at hc
  obtain ⟨s1, c⟩ := s
  simp only at hc
  have hx : (List.getD (wl a) (Int.toNat (i : Int)) (0 : UInt64)).toNat = gw (w4 a) i := word_at (n := a) i hi
  have hy : (List.getD (wl b) (Int.toNat (i : Int)) (0 : UInt64)).toNat = gw (w4 b) i := word_at (n := b) i hi
  have h1 := gw_lt a i
  have h2 := gw_lt b i
  dsimp only
  generalize List.getD (wl a) (Int.toNat (i : Int)) (0 : UInt64) = x at hx ⊢
  generalize List.getD (wl b) (Int.toNat (i : Int)) (0 : UInt64) = y at hy ⊢
  rw [← hx] at h1 ⊢
  rw [← hy] at h2 ⊢
  obtain ⟨n1, n2, n3, n4⟩ := more_n x.toNat y.toNat c h1 h2 hc
  have e1 : (x + y).toNat = (x.toNat + y.toNat) % 18446744073709551616 := UInt64.toNat_add x y
  have e2 : (x + y + UInt64.ofNat c).toNat = (x.toNat + y.toNat + c) % 18446744073709551616 := by
    rw [UInt64.toNat_add, e1, un c (by omega)]; exact n1
  rw [cnd_t (by simp; omega)]
  simp only [guard_if (inB_nat hi), guard_if (inR_succ (show i < 4096 by omega))]
  rw [lt_nat, e1]
  by_cases q1 : (x.toNat + y.toNat) % 18446744073709551616 < x.toNat
  · rw [cnd_t (decide_eq_true q1), set_of e2, n2 q1]; rfl
  · rw [cnd_f (decide_eq_false q1), lt_nat, e1, e2, ← n1]
    by_cases q2 : ((x.toNat + y.toNat) % 18446744073709551616 + c) % 18446744073709551616 < (x.toNat + y.toNat) % 18446744073709551616
    · rw [cnd_t (decide_eq_true q2), set_of e2, n3 q1 q2, ← n1]; rfl
    · rw [cnd_f (decide_eq_false q2), set_of e2, n4 q1 q2, ← n1]; rfl
theorem more_s {a b : Nat} (ha : a < M) (hb : b < M) : m73 (wl a, wl b) = some (wl ((a + b) % M), UInt64.ofNat ((a + b) / M)) := by
  rw [m73_eq]; unfold b73 l73_0
  obtain ⟨m, hm⟩ := fuel_ge 5 (by decide)
  have h := addS_all a b ha hb
  have s := fun i hi f => more_turn f (a := a) (b := b) i hi (List.replicate 4 (0 : UInt64))
  simp only [hm]
  rw [show ((0 : UInt64), (0 : Int), wl a, wl b, List.replicate 4 (0 : UInt64), [(0 : UInt64), 0, 0, 0]) = (UInt64.ofNat (addS (w4 a) (w4 b) 0).2, ((0 : Nat) : Int), wl a, wl b, List.replicate 4 (0 : UInt64), (addS (w4 a) (w4 b) 0).1.map UInt64.ofNat) from rfl,
    show m + 5 = (((m + 1) + 1 + 1) + 1) + 1 from rfl, itN_succ, s 0 (by decide), itN_succ, s 1 (by decide), itN_succ, s 2 (by decide), itN_succ, s 3 (by decide), itN_succ]
  have fin : ∀ f (c : UInt64) (x y z acc : List UInt64), k73_0 f (c, ((3 + 1 : Nat) : Int), x, y, z, acc) = some (.x (c, z, acc)) := fun f c x y z acc => rfl
  rw [fin, bnd_s, h]
  rfl
theorem less_turn (f : UInt64 × Int × List UInt64 × List UInt64 × List UInt64 × List UInt64 → Option (O3 Unit (UInt64 × List UInt64 × List UInt64) Unit)) {a b : Nat} (i : Nat) (hi : i < 4) (z : List UInt64) :
    k74_0 f (UInt64.ofNat (subS (w4 a) (w4 b) i).2, (i : Int), wl a, wl b, z, (subS (w4 a) (w4 b) i).1.map UInt64.ofNat) = f (UInt64.ofNat (subS (w4 a) (w4 b) (i + 1)).2, ((i + 1 : Nat) : Int), wl a, wl b, z, (subS (w4 a) (w4 b) (i + 1)).1.map UInt64.ofNat) := by
  unfold k74_0
  have hc := subS_carry (w4 a) (w4 b) i
  rw [show subS (w4 a) (w4 b) (i + 1) = ((subS (w4 a) (w4 b) i).1.set i ((gw (w4 a) i + 18446744073709551616 - gw (w4 b) i - (subS (w4 a) (w4 b) i).2) % 18446744073709551616), if gw (w4 a) i < gw (w4 b) i + (subS (w4 a) (w4 b) i).2 then 1 else 0) from rfl]
  generalize subS (w4 a) (w4 b) i = s at hc
  obtain ⟨s1, c⟩ := s
  simp only at hc
  have hx : (List.getD (wl a) (Int.toNat (i : Int)) (0 : UInt64)).toNat = gw (w4 a) i := word_at (n := a) i hi
  have hy : (List.getD (wl b) (Int.toNat (i : Int)) (0 : UInt64)).toNat = gw (w4 b) i := word_at (n := b) i hi
  have h1 := gw_lt a i
  have h2 := gw_lt b i
  dsimp only
  generalize List.getD (wl a) (Int.toNat (i : Int)) (0 : UInt64) = x at hx ⊢
  generalize List.getD (wl b) (Int.toNat (i : Int)) (0 : UInt64) = y at hy ⊢
  rw [← hx] at h1 ⊢
  rw [← hy] at h2 ⊢
  have e2 : (x - y - UInt64.ofNat c).toNat = (x.toNat + 18446744073709551616 - y.toNat - c) % 18446744073709551616 := by
    rw [UInt64.toNat_sub, UInt64.toNat_sub, un c (by omega)]; exact less_n _ _ _ h1 h2 hc
  have hcc : (UInt64.ofNat c).toNat = c := un c (by omega)
  rw [cnd_t (by simp; omega)]
  simp only [guard_if (inB_nat hi), guard_if (inR_succ (show i < 4096 by omega))]
  rw [lt_nat]
  by_cases q1 : x.toNat < y.toNat
  · rw [cnd_t (decide_eq_true q1), set_of e2, if_pos (by omega)]; rfl
  · rw [cnd_f (decide_eq_false q1), eq_nat]
    by_cases q2 : x.toNat = y.toNat
    · rw [cnd_t (decide_eq_true q2), eq_nat, hcc]
      by_cases q3 : c = 1
      · rw [cnd_t (by simp [q3]), set_of e2, if_pos (by omega)]; rfl
      · rw [cnd_f (by simp [q3]), set_of e2, if_neg (by omega)]; rfl
    · rw [cnd_f (decide_eq_false q2), set_of e2, if_neg (by omega)]; rfl
theorem less_s {a b : Nat} (ha : a < M) (hb : b < M) : m74 (wl a, wl b) = some (wl ((a + M - b) % M), UInt64.ofNat (if a < b then 1 else 0)) := by
  rw [m74_eq]; unfold b74 l74_0
  obtain ⟨m, hm⟩ := fuel_ge 5 (by decide)
  have h := subS_all a b ha hb
  have s := fun i hi f => less_turn f (a := a) (b := b) i hi (List.replicate 4 (0 : UInt64))
  simp only [hm]
  rw [show ((0 : UInt64), (0 : Int), wl a, wl b, List.replicate 4 (0 : UInt64), [(0 : UInt64), 0, 0, 0]) = (UInt64.ofNat (subS (w4 a) (w4 b) 0).2, ((0 : Nat) : Int), wl a, wl b, List.replicate 4 (0 : UInt64), (subS (w4 a) (w4 b) 0).1.map UInt64.ofNat) from rfl,
    show m + 5 = (((m + 1) + 1 + 1) + 1) + 1 from rfl, itN_succ, s 0 (by decide), itN_succ, s 1 (by decide), itN_succ, s 2 (by decide), itN_succ, s 3 (by decide), itN_succ]
  have fin : ∀ f (c : UInt64) (x y z acc : List UInt64), k74_0 f (c, ((3 + 1 : Nat) : Int), x, y, z, acc) = some (.x (c, z, acc)) := fun f c x y z acc => rfl
  rw [fin, bnd_s, h]
  rfl
theorem rprime_s : m34 () = some (wl Pm) := by
  rw [m34_eq]; unfold b34
  exact congrArg some (wl_words rfl (by decide))
theorem one_u (p : Prop) [Decidable p] : decide (UInt64.ofNat (if p then 1 else 0) = (1 : UInt64)) = decide p := by
  by_cases h : p
  · rw [if_pos h, decide_eq_true h]; rfl
  · rw [if_neg h, decide_eq_false h]; rfl
theorem below_s {a : Nat} (ha : a < M) : m71 (wl a) = some (wl (a % Pm)) := by
  rw [m71_eq]; unfold b71
  rw [l71_0_eq]; unfold a71_0
  simp only
  rw [rprime_s, bnd_s, less_s ha P_lt, bnd_s, bnd_s]
  simp only
  rw [one_u]
  by_cases h : a < Pm
  · rw [cnd_t (decide_eq_true h), Nat.mod_eq_of_lt h]
  · rw [cnd_f (decide_eq_false h)]
    have : (a + M - Pm) % M = a % Pm := by unfold Pm M at *; omega
    rw [this]
theorem rreduce_s {a : Nat} (ha : a < M) : m36 (wl a) = some (wl (a % Pm)) := by
  rw [m36_eq]; unfold b36
  rw [below_s ha, bnd_s]
theorem one_c {n : Nat} (h : n ≤ 1) : decide (UInt64.ofNat n = (1 : UInt64)) = decide (n = 1) := by
  rcases (show n = 0 ∨ n = 1 by omega) with rfl | rfl <;> rfl
theorem radd_n {x y : Nat} (hx : x < Pm) (hy : y < Pm) : (x + y) / M ≤ 1 ∧ ((x + y) / M = 1 → ((x + y) % M + 4294968273) % M % Pm = (x + y) % Pm) ∧ (¬ (x + y) / M = 1 → (x + y) % M % Pm = (x + y) % Pm) := by
  unfold Pm M at *; refine ⟨?_, ?_, ?_⟩ <;> omega
theorem radd_s {a b : Nat} (ha : a < M) (hb : b < M) : m38 (wl a, wl b) = some (wl ((a + b) % Pm)) := by
  rw [m38_eq]; unfold b38
  rw [l38_0_eq]; unfold a38_0
  obtain ⟨n1, n2, n3⟩ := radd_n (lt_P (a := a)) (lt_P (a := b))
  simp only
  rw [below_s ha, bnd_s, below_s hb, bnd_s, more_s lt_M lt_M, bnd_s, bnd_s]
  simp only
  rw [one_c n1]
  by_cases h : (a % Pm + b % Pm) / M = 1
  · rw [cnd_t (decide_eq_true h), wl_small, show (4294968273 : UInt64).toNat = 4294968273 from rfl, more_s (Nat.mod_lt _ M_pos) (by decide), bnd_s]
    simp only
    rw [below_s (Nat.mod_lt _ M_pos), bnd_s, n2 h, ← Nat.add_mod]
  · rw [cnd_f (decide_eq_false h), below_s (Nat.mod_lt _ M_pos), bnd_s, n3 h, ← Nat.add_mod]
theorem rsub_n {x y : Nat} (hx : x < Pm) (hy : y < Pm) : (x < y → ((x + M - y) % M + Pm) % M = (x + (Pm - y) % Pm) % Pm) ∧ (¬ x < y → (x + M - y) % M = (x + (Pm - y) % Pm) % Pm) := by
  unfold Pm M at *; refine ⟨?_, ?_⟩ <;> omega
theorem rsub_s {a b : Nat} (ha : a < M) (hb : b < M) : m40 (wl a, wl b) = some (wl ((a % Pm + (Pm - b % Pm) % Pm) % Pm)) := by
  rw [m40_eq]; unfold b40
  rw [l40_0_eq]; unfold a40_0
  obtain ⟨n1, n2⟩ := rsub_n (lt_P (a := a)) (lt_P (a := b))
  simp only
  rw [below_s ha, bnd_s, below_s hb, bnd_s, less_s lt_M lt_M, bnd_s, bnd_s]
  simp only
  rw [one_u]
  by_cases h : a % Pm < b % Pm
  · rw [cnd_t (decide_eq_true h), l40_2_eq]
    unfold a40_2
    simp only
    rw [rprime_s, bnd_s, more_s (Nat.mod_lt _ M_pos) P_lt, bnd_s, bnd_s]
    simp only
    rw [n1 h]
  · rw [cnd_f (decide_eq_false h), n2 h]
theorem rneg_s {a : Nat} (ha : a < M) : m42 (wl a) = some (wl ((Pm - a % Pm) % Pm)) := by
  rw [m42_eq]; unfold b42
  dsimp only
  rw [wl_zero, rsub_s M_pos ha, bnd_s]
  rw [Nat.zero_mod, Nat.zero_add, Nat.mod_mod]
theorem sums_s {a b : Nat} (ha : a < M) (hb : b < M) : m9 (wl a, wl b) = some true := by
  rw [m9_eq]; unfold b9
  simp only
  rw [alive_s, bnd_s, cnd_t rfl, prime_s, bnd_s, rprime_s, bnd_s, eq_wl P_lt P_lt, cnd_t (by simp), reduce_s ha, bnd_s, rreduce_s ha, bnd_s, eq_wl lt_M lt_M, cnd_t (by simp), add_s ha hb, bnd_s, radd_s ha hb, bnd_s, eq_wl lt_M lt_M, cnd_t (by simp),
    sub_s ha hb, bnd_s, rsub_s ha hb, bnd_s, eq_wl lt_M lt_M, cnd_t (by rw [Nat.mod_add_mod]; simp), neg_s ha, bnd_s, rneg_s ha, bnd_s, eq_wl lt_M lt_M]
  simp
end Go.Proofs.Ythlbdpmnljcapaa.Q
