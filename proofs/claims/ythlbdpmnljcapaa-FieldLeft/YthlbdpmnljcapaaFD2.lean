/-
  Plain mathematics of products by digits of 32 bits, folded modulo the prime.
  Conditions: none of any program.
-/
import Derived.Test.YthlbdpmnljcapaaFM
namespace Go.Proofs.Ythlbdpmnljcapaa.Q
open Go.RowKit

theorem bnd_ex' {α β : Type} {o : Option α} {a : α} {k : α → Option β} {r : Option β} (h : o = some a) (hk : k a = r) : bnd o k = r := by rw [h]; exact hk
/-- The number of digits of 32 bits. -/
def dv : List Nat → Nat
  | [] => 0
  | x :: l => x + 4294967296 * dv l
/-- All are digits. -/
def Dg (l : List Nat) : Prop := ∀ j, l.getD j 0 < 4294967296
theorem dv_set : ∀ (l : List Nat) (j v : Nat), j < l.length → dv (l.set j v) + 4294967296 ^ j * l.getD j 0 = dv l + 4294967296 ^ j * v
  | [], j, v, h => by simp at h
  | x :: l, 0, v, _ => by simp [dv]; omega
  | x :: l, j + 1, v, h => by
    have ih := dv_set l j v (by simpa using h)
    show x + 4294967296 * dv (l.set j v) + 4294967296 ^ (j + 1) * l.getD j 0 = x + 4294967296 * dv l + 4294967296 ^ (j + 1) * v
    rw [Nat.pow_succ, Nat.mul_comm (4294967296 ^ j) 4294967296, Nat.mul_assoc, Nat.mul_assoc]
    omega
theorem getD_set (l : List Nat) (i j v : Nat) (h : i < l.length) : (l.set i v).getD j 0 = if i = j then v else l.getD j 0 := by
  rw [List.getD_eq_getElem?_getD, List.getD_eq_getElem?_getD, List.getElem?_set]
  split
  · rename_i e; subst e; simp []
  · rfl
theorem Dg.set {l : List Nat} (h : Dg l) {i v : Nat} (hv : v < 4294967296) (hi : i < l.length) : Dg (l.set i v) := fun j => by
  rw [getD_set l i j v hi]
  split
  · exact hv
  · exact h j
/-- The first digits' number. -/
def pv (l : List Nat) : Nat → Nat
  | 0 => 0
  | k + 1 => pv l k + 4294967296 ^ k * l.getD k 0
def inS (x : Nat) (ys d : List Nat) (i : Nat) : Nat → Nat × List Nat
  | 0 => (0, d)
  | k + 1 => (((inS x ys d i k).1 + (inS x ys d i k).2.getD (i + k) 0 + x * ys.getD k 0) / 4294967296, (inS x ys d i k).2.set (i + k) (((inS x ys d i k).1 + (inS x ys d i k).2.getD (i + k) 0 + x * ys.getD k 0) % 4294967296))
theorem dig_lt {c o x y : Nat} (hc : c < 4294967296) (ho : o < 4294967296) (hx : x < 4294967296) (hy : y < 4294967296) : (c + o + x * y) < 18446744073709551616 ∧ (c + o + x * y) / 4294967296 < 4294967296 := by
  have h := Nat.mul_le_mul (show x ≤ 4294967295 by omega) (show y ≤ 4294967295 by omega)
  generalize x * y = p at h ⊢
  omega
theorem inS_ok {x i : Nat} {ys d : List Nat} (hx : x < 4294967296) (hy : Dg ys) (hd : Dg d) (hl : d.length = 16) (hi : i < 8) : ∀ k, k ≤ 8 →
    (inS x ys d i k).2.length = 16 ∧ Dg (inS x ys d i k).2 ∧ (inS x ys d i k).1 < 4294967296 ∧ (∀ j, i + 8 ≤ j → (inS x ys d i k).2.getD j 0 = d.getD j 0) ∧ dv (inS x ys d i k).2 + 4294967296 ^ (i + k) * (inS x ys d i k).1 = dv d + 4294967296 ^ i * (x * pv ys k)
  | 0, _ => ⟨hl, hd, (show (0 : Nat) < 4294967296 by decide), fun _ _ => rfl, by simp [inS, pv]⟩
  | k + 1, hk => by
    obtain ⟨h1, h2, h3, h4, h5⟩ := inS_ok hx hy hd hl hi k (by omega)
    have e : inS x ys d i (k + 1) = (((inS x ys d i k).1 + (inS x ys d i k).2.getD (i + k) 0 + x * ys.getD k 0) / 4294967296, (inS x ys d i k).2.set (i + k) (((inS x ys d i k).1 + (inS x ys d i k).2.getD (i + k) 0 + x * ys.getD k 0) % 4294967296)) := rfl
    rw [e]
    generalize inS x ys d i k = s at h1 h2 h3 h4 h5
    obtain ⟨c, l⟩ := s
    simp only at h1 h2 h3 h4 h5 ⊢
    have hlt : i + k < l.length := by omega
    have hb := dig_lt h3 (h2 (i + k)) hx (hy k)
    have hs := dv_set l (i + k) ((c + l.getD (i + k) 0 + x * ys.getD k 0) % 4294967296) hlt
    refine ⟨by rw [List.length_set, h1], h2.set (Nat.mod_lt _ (by decide)) hlt, hb.2, fun j hj => ?_, ?_⟩
    · rw [getD_set l _ j _ hlt, if_neg (by omega), h4 j hj]
    · show _ = dv d + 4294967296 ^ i * (x * (pv ys k + 4294967296 ^ k * ys.getD k 0))
      have hm := Nat.div_add_mod (c + l.getD (i + k) 0 + x * ys.getD k 0) 4294967296
      generalize (c + l.getD (i + k) 0 + x * ys.getD k 0) / 4294967296 = q at hm
      generalize (c + l.getD (i + k) 0 + x * ys.getD k 0) % 4294967296 = r at hm hs ⊢
      have e1 : 4294967296 ^ (i + (k + 1)) * q = 4294967296 ^ (i + k) * (4294967296 * q) := by rw [← Nat.add_assoc, Nat.pow_succ, Nat.mul_assoc]
      have e2 : 4294967296 ^ i * (x * (pv ys k + 4294967296 ^ k * ys.getD k 0)) = 4294967296 ^ i * (x * pv ys k) + 4294967296 ^ (i + k) * (x * ys.getD k 0) := by
        rw [Nat.mul_add, Nat.mul_add, Nat.pow_add, Nat.mul_assoc, Nat.mul_left_comm x]
      have e3 : 4294967296 ^ (i + k) * (4294967296 * q) + 4294967296 ^ (i + k) * r = 4294967296 ^ (i + k) * c + 4294967296 ^ (i + k) * l.getD (i + k) 0 + 4294967296 ^ (i + k) * (x * ys.getD k 0) := by rw [← Nat.mul_add, hm, Nat.mul_add, Nat.mul_add]
      rw [e1, e2]
      omega
def z16 : List Nat := [0, 0, 0, 0, 0, 0, 0, 0, 0, 0, 0, 0, 0, 0, 0, 0]
def ouS (xs ys : List Nat) : Nat → List Nat
  | 0 => z16
  | i + 1 => (inS (xs.getD i 0) ys (ouS xs ys i) i 8).2.set (i + 8) (inS (xs.getD i 0) ys (ouS xs ys i) i 8).1
theorem z16_get (j : Nat) : z16.getD j 0 = 0 := by
  rcases Nat.lt_or_ge j 16 with h | h
  · rcases (show j = 0 ∨ j = 1 ∨ j = 2 ∨ j = 3 ∨ j = 4 ∨ j = 5 ∨ j = 6 ∨ j = 7 ∨ j = 8 ∨ j = 9 ∨ j = 10 ∨ j = 11 ∨ j = 12 ∨ j = 13 ∨ j = 14 ∨ j = 15 by omega) with rfl | rfl | rfl | rfl | rfl | rfl | rfl | rfl | rfl | rfl | rfl | rfl | rfl | rfl | rfl | rfl <;> rfl
  · rw [List.getD_eq_getElem?_getD, List.getElem?_eq_none (by exact h)]; rfl
theorem ouS_ok {xs ys : List Nat} (hx : Dg xs) (hy : Dg ys) : ∀ i, i ≤ 8 → (ouS xs ys i).length = 16 ∧ Dg (ouS xs ys i) ∧ (∀ j, i + 8 ≤ j → (ouS xs ys i).getD j 0 = 0) ∧ dv (ouS xs ys i) = pv xs i * pv ys 8
  | 0, _ => ⟨rfl, fun j => by show z16.getD j 0 < _; rw [z16_get]; decide, fun j _ => z16_get j, by simp [ouS, pv, z16, dv]⟩
  | i + 1, hi => by
    obtain ⟨h1, h2, h3, h4⟩ := ouS_ok hx hy i (by omega)
    obtain ⟨k1, k2, k3, k4, k5⟩ := inS_ok (hx i) hy h2 h1 (show i < 8 by omega) 8 (Nat.le_refl _)
    have hlt : i + 8 < (inS (xs.getD i 0) ys (ouS xs ys i) i 8).2.length := by omega
    have h0 := k4 (i + 8) (Nat.le_refl _)
    rw [h3 (i + 8) (Nat.le_refl _)] at h0
    have hs := dv_set _ (i + 8) (inS (xs.getD i 0) ys (ouS xs ys i) i 8).1 hlt
    rw [h0, Nat.mul_zero, Nat.add_zero, k5, h4] at hs
    refine ⟨by show (List.set _ _ _).length = 16; rw [List.length_set, k1], k2.set k3 hlt, fun j hj => ?_, ?_⟩
    · show (List.set _ _ _).getD j 0 = 0
      rw [getD_set _ _ j _ hlt, if_neg (by omega), k4 j (by omega), h3 j (by omega)]
    · show dv (List.set _ _ _) = (pv xs i + 4294967296 ^ i * xs.getD i 0) * pv ys 8
      rw [hs, Nat.add_mul, Nat.mul_assoc]
/-! Folded. -/
def gf (d : List Nat) (i : Nat) : Nat := (if i < 8 then d.getD i 0 + d.getD (8 + i) 0 * 977 else 0) + (if 1 ≤ i ∧ i < 9 then d.getD (7 + i) 0 else 0)
def foS (d : List Nat) : Nat → Nat × List Nat
  | 0 => (0, [0, 0, 0, 0, 0, 0, 0, 0, 0, 0])
  | i + 1 => (((foS d i).1 + gf d i) / 4294967296, (foS d i).2.set i (((foS d i).1 + gf d i) % 4294967296))
def gs (d : List Nat) : Nat → Nat
  | 0 => 0
  | i + 1 => gs d i + 4294967296 ^ i * gf d i
theorem gf_lt {d : List Nat} (h : Dg d) (i : Nat) : gf d i ≤ 979 * 4294967295 := by
  have h1 := h i; have h2 := h (8 + i); have h3 := h (7 + i)
  unfold gf; split <;> split <;> omega
theorem foS_ok {d : List Nat} (h : Dg d) : ∀ i, i ≤ 10 → (foS d i).2.length = 10 ∧ Dg (foS d i).2 ∧ (foS d i).1 ≤ 979 ∧ (∀ j, i ≤ j → (foS d i).2.getD j 0 = 0) ∧ dv (foS d i).2 + 4294967296 ^ i * (foS d i).1 = gs d i
  | 0, _ => by
    have hz : ∀ j, ([0, 0, 0, 0, 0, 0, 0, 0, 0, 0] : List Nat).getD j 0 = 0 := fun j => by
      rcases Nat.lt_or_ge j 10 with h | h
      · rcases (show j = 0 ∨ j = 1 ∨ j = 2 ∨ j = 3 ∨ j = 4 ∨ j = 5 ∨ j = 6 ∨ j = 7 ∨ j = 8 ∨ j = 9 by omega) with rfl | rfl | rfl | rfl | rfl | rfl | rfl | rfl | rfl | rfl <;> rfl
      · rw [List.getD_eq_getElem?_getD, List.getElem?_eq_none (by exact h)]; rfl
    exact ⟨rfl, fun j => by show ([0, 0, 0, 0, 0, 0, 0, 0, 0, 0] : List Nat).getD j 0 < _; rw [hz]; decide, Nat.zero_le _, fun j _ => hz j, by simp [foS, gs, dv]⟩
  | i + 1, hi => by
    obtain ⟨h1, h2, h3, h4, h5⟩ := foS_ok h i (by omega)
    have hg := gf_lt h i
    have e : foS d (i + 1) = (((foS d i).1 + gf d i) / 4294967296, (foS d i).2.set i (((foS d i).1 + gf d i) % 4294967296)) := rfl
    rw [e]
    generalize foS d i = s at h1 h2 h3 h4 h5
    obtain ⟨c, l⟩ := s
    simp only at h1 h2 h3 h4 h5 ⊢
    have hlt : i < l.length := by omega
    have hs := dv_set l i ((c + gf d i) % 4294967296) hlt
    rw [h4 i (Nat.le_refl _), Nat.mul_zero, Nat.add_zero] at hs
    refine ⟨by rw [List.length_set, h1], h2.set (Nat.mod_lt _ (by decide)) hlt, by omega, fun j hj => by rw [getD_set l i j _ hlt, if_neg (by omega), h4 j (by omega)], ?_⟩
    have hm := Nat.div_add_mod (c + gf d i) 4294967296
    have e1 : 4294967296 ^ (i + 1) * ((c + gf d i) / 4294967296) + 4294967296 ^ i * ((c + gf d i) % 4294967296) = 4294967296 ^ i * c + 4294967296 ^ i * gf d i := by
      rw [Nat.pow_succ, Nat.mul_assoc, ← Nat.mul_add, hm, Nat.mul_add]
    show _ = gs d i + 4294967296 ^ i * gf d i
    rw [hs]
    omega
end Go.Proofs.Ythlbdpmnljcapaa.Q
