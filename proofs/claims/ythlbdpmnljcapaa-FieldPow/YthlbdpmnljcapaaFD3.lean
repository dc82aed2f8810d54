/-
  What the document's product modulo the prime tells, in numbers.
-/
import Derived.Test.YthlbdpmnljcapaaFD1
import Derived.Test.YthlbdpmnljcapaaFD2
namespace Go.Proofs.Ythlbdpmnljcapaa.Q
open Go.RowKit

theorem gd (l : List Nat) (j : Nat) : List.getD (l.map UInt64.ofNat) j (0 : UInt64) = UInt64.ofNat (l.getD j 0) := by
  rw [List.getD_eq_getElem?_getD, List.getD_eq_getElem?_getD, List.getElem?_map]
  cases l[j]? <;> rfl
theorem low32 {n : Nat} (h : n < 18446744073709551616) : andK .u64 (UInt64.ofNat n) (4294967295 : UInt64) = UInt64.ofNat (n % 4294967296) := by
  refine u_eq ?_
  show ((UInt64.ofNat n) &&& 4294967295).toNat = _
  rw [UInt64.toNat_and, un _ h, un _ (by omega)]
  exact Nat.and_two_pow_sub_one_eq_mod n 32
theorem high32 {n : Nat} (h : n < 18446744073709551616) : shrK .u64 (UInt64.ofNat n) 32 = UInt64.ofNat (n / 4294967296) := by
  show UInt64.ofNat ((UInt64.ofNat n).toNat / 2 ^ min 32 64) = _
  rw [un _ h]; rfl
/-! halves -/
def hv (a : Nat) : List Nat := [gw (w4 a) 0 % 4294967296, gw (w4 a) 0 / 4294967296, gw (w4 a) 1 % 4294967296, gw (w4 a) 1 / 4294967296, gw (w4 a) 2 % 4294967296, gw (w4 a) 2 / 4294967296, gw (w4 a) 3 % 4294967296, gw (w4 a) 3 / 4294967296]
theorem half_turn (f : Int × List UInt64 × List UInt64 × List UInt64 → Option (O3 Unit (List UInt64 × List UInt64) Unit)) {a : Nat} (i : Nat) (hi : i < 8) (z acc : List UInt64) :
    k75_0 f ((i : Int), wl a, z, acc) = f (((i + 1 : Nat) : Int), wl a, z, acc.set i (UInt64.ofNat (if i % 2 = 0 then gw (w4 a) (i / 2) % 4294967296 else gw (w4 a) (i / 2) / 4294967296))) := by
  unfold k75_0
  have hw : List.getD (wl a) (i / 2) (0 : UInt64) = UInt64.ofNat (gw (w4 a) (i / 2)) := by
    refine u_eq ?_
    rw [word_at _ (by omega), un _ (gw_lt _ _)]
  have hg := gw_lt a (i / 2)
  dsimp only
  have e1 : Int.tdiv (i : Int) 2 = ((i / 2 : Nat) : Int) := rfl
  have e2 : Int.tmod (i : Int) 2 = ((i % 2 : Nat) : Int) := rfl
  refine Eq.trans (cnd_t (by simp; omega) _ _) ?_
  refine Eq.trans (guard_if (by rw [e1]; unfold inR; simp; omega) _) ?_
  refine Eq.trans (guard_if (by rw [e1]; exact inB_nat (by omega)) _) ?_
  refine Eq.trans (guard_if (by rw [e2]; unfold inR; simp; omega) _) ?_
  refine Eq.trans (guard_if (by simp) _) ?_
  refine Eq.trans (guard_if (inB_nat hi) _) ?_
  refine Eq.trans (guard_if (inR_succ (by omega)) _) ?_
  have key : ∀ x : UInt64, x = UInt64.ofNat (gw (w4 a) (i / 2)) → andK .u64 (shrK .u64 x ((UInt64.toNat (ofI .u64 ((32 : Int) * ((i % 2 : Nat) : Int))) : Int).toNat)) (4294967295 : UInt64) = UInt64.ofNat (if i % 2 = 0 then gw (w4 a) (i / 2) % 4294967296 else gw (w4 a) (i / 2) / 4294967296) := by
    intro x hx
    subst hx
    rcases (show i % 2 = 0 ∨ i % 2 = 1 by omega) with h | h
    · rw [h, if_pos rfl]
      have : shrK .u64 (UInt64.ofNat (gw (w4 a) (i / 2))) ((UInt64.toNat (ofI .u64 ((32 : Int) * ((0 : Nat) : Int))) : Int).toNat) = UInt64.ofNat (gw (w4 a) (i / 2)) := by
        show UInt64.ofNat ((UInt64.ofNat _).toNat / 2 ^ 0) = _
        rw [un _ hg, Nat.pow_zero, Nat.div_one]
      rw [this]
      exact low32 hg
    · rw [h, if_neg (by decide)]
      have : shrK .u64 (UInt64.ofNat (gw (w4 a) (i / 2))) ((UInt64.toNat (ofI .u64 ((32 : Int) * ((1 : Nat) : Int))) : Int).toNat) = UInt64.ofNat (gw (w4 a) (i / 2) / 4294967296) := high32 hg
      rw [this]
      have h9 := low32 (n := gw (w4 a) (i / 2) / 4294967296) (by omega)
      rw [Nat.mod_eq_of_lt (show gw (w4 a) (i / 2) / 4294967296 < 4294967296 by omega)] at h9
      exact h9
  exact congrArg f (congrArg (fun v => (((i + 1 : Nat) : Int), wl a, z, acc.set i v)) (key _ hw))
theorem halves_s {a : Nat} : m75 (wl a) = some ((hv a).map UInt64.ofNat) := by
  refine (m75_eq _).trans ?_
  unfold b75 l75_0
  obtain ⟨m, hm⟩ := fuel_ge 9 (by decide)
  have s := fun i hi f acc => half_turn f (a := a) i hi (List.replicate 8 (0 : UInt64)) acc
  have fin : ∀ f (x z acc : List UInt64), k75_0 f (((7 + 1 : Nat) : Int), x, z, acc) = some (.x (z, acc)) := fun f x z acc => rfl
  dsimp only
  rw [hm, show m + 9 = ((((((((m + 1) + 1) + 1) + 1) + 1) + 1) + 1) + 1) + 1 from rfl, show (0 : Int) = ((0 : Nat) : Int) from rfl, itN_succ, s 0 (by decide), itN_succ, s 1 (by decide), itN_succ, s 2 (by decide), itN_succ, s 3 (by decide), itN_succ, s 4 (by decide), itN_succ, s 5 (by decide), itN_succ, s 6 (by decide), itN_succ, s 7 (by decide), itN_succ, fin, bnd_s]
  rfl
/-! the product's digits -/
theorem in_turn (f : Int × UInt64 × Int × List UInt64 × List UInt64 × List UInt64 × List UInt64 → Option (O3 Unit (Int × UInt64 × List UInt64 × List UInt64 × List UInt64 × List UInt64) Unit)) {xs ys d : List Nat} {i k : Nat} (hi : i < 8) (hk : k < 8) (hx : Dg xs) (hy : Dg ys) (hd : Dg d) (hl : d.length = 16) (z : List UInt64) :
    k44_3 f ((i : Int), UInt64.ofNat (inS (xs.getD i 0) ys d i k).1, (k : Int), z, xs.map UInt64.ofNat, ys.map UInt64.ofNat, (inS (xs.getD i 0) ys d i k).2.map UInt64.ofNat) = f ((i : Int), UInt64.ofNat (inS (xs.getD i 0) ys d i (k + 1)).1, ((k + 1 : Nat) : Int), z, xs.map UInt64.ofNat, ys.map UInt64.ofNat, (inS (xs.getD i 0) ys d i (k + 1)).2.map UInt64.ofNat) := by
  obtain ⟨h1, h2, h3, _, _⟩ := inS_ok (hx i) hy hd hl hi k (by omega)
  rw [show inS (xs.getD i 0) ys d i (k + 1) = (((inS (xs.getD i 0) ys d i k).1 + (inS (xs.getD i 0) ys d i k).2.getD (i + k) 0 + xs.getD i 0 * ys.getD k 0) / 4294967296, (inS (xs.getD i 0) ys d i k).2.set (i + k) (((inS (xs.getD i 0) ys d i k).1 + (inS (xs.getD i 0) ys d i k).2.getD (i + k) 0 + xs.getD i 0 * ys.getD k 0) % 4294967296)) from rfl]
  generalize inS (xs.getD i 0) ys d i k = s at h1 h2 h3
  obtain ⟨c, l⟩ := s
  simp only at h1 h2 h3
  have hb := dig_lt h3 (h2 (i + k)) (hx i) (hy k)
  have hxk := hx i
  have hyk := hy k
  have hok := h2 (i + k)
  unfold k44_3
  dsimp only
  have e1 : (i : Int) + (k : Int) = ((i + k : Nat) : Int) := by omega
  have hr : inR .i64 ((i : Int) + (k : Int)) = true := by unfold inR; simp; omega
  have hB : inB ((i : Int) + (k : Int)) 16 = true := by rw [e1]; exact inB_nat (by omega)
  refine Eq.trans (cnd_t (by simp; omega) _ _) ?_
  refine Eq.trans (guard_if hr _) ?_
  refine Eq.trans (guard_if hB _) ?_
  refine Eq.trans (guard_if (inB_nat hi) _) ?_
  refine Eq.trans (guard_if (inB_nat hk) _) ?_
  refine Eq.trans (guard_if hr _) ?_
  refine Eq.trans (guard_if hB _) ?_
  refine Eq.trans (guard_if (inR_succ (by omega)) _) ?_
  rw [e1]
  have key : UInt64.ofNat c + List.getD (l.map UInt64.ofNat) (((i + k : Nat) : Int)).toNat (0 : UInt64) + List.getD (xs.map UInt64.ofNat) ((i : Int)).toNat (0 : UInt64) * List.getD (ys.map UInt64.ofNat) ((k : Int)).toNat (0 : UInt64) = UInt64.ofNat (c + l.getD (i + k) 0 + xs.getD i 0 * ys.getD k 0) := by
    show UInt64.ofNat c + List.getD (l.map UInt64.ofNat) (i + k) (0 : UInt64) + List.getD (xs.map UInt64.ofNat) i (0 : UInt64) * List.getD (ys.map UInt64.ofNat) k (0 : UInt64) = _
    rw [gd, gd, gd]
    refine u_eq ?_
    have hp : xs.getD i 0 * ys.getD k 0 < 18446744073709551616 := by omega
    rw [UInt64.toNat_add, UInt64.toNat_add, UInt64.toNat_mul, un c (by omega), un _ (Nat.lt_trans hok (by decide)), un _ (Nat.lt_trans hxk (by decide)), un _ (Nat.lt_trans hyk (by decide)), un _ hb.1]
    show ((c + l.getD (i + k) 0) % 18446744073709551616 + xs.getD i 0 * ys.getD k 0 % 18446744073709551616) % 18446744073709551616 = _
    rw [Nat.mod_eq_of_lt hp]
    generalize xs.getD i 0 * ys.getD k 0 = p at hb
    omega
  rw [key, low32 hb.1, high32 hb.1]
  have e2 : (l.map UInt64.ofNat).set (((i + k : Nat) : Int)).toNat (UInt64.ofNat ((c + l.getD (i + k) 0 + xs.getD i 0 * ys.getD k 0) % 4294967296)) = (l.set (i + k) ((c + l.getD (i + k) 0 + xs.getD i 0 * ys.getD k 0) % 4294967296)).map UInt64.ofNat := List.map_set.symm
  rw [e2]
  rfl
theorem in_all {xs ys d : List Nat} {i : Nat} (hi : i < 8) (hx : Dg xs) (hy : Dg ys) (hd : Dg d) (hl : d.length = 16) (z : List UInt64) : ∀ (j m : Nat), j ≤ 8 →
    itN k44_3 (m + 1 + j) ((i : Int), UInt64.ofNat (inS (xs.getD i 0) ys d i (8 - j)).1, ((8 - j : Nat) : Int), z, xs.map UInt64.ofNat, ys.map UInt64.ofNat, (inS (xs.getD i 0) ys d i (8 - j)).2.map UInt64.ofNat) = some (.x ((i : Int), UInt64.ofNat (inS (xs.getD i 0) ys d i 8).1, z, xs.map UInt64.ofNat, ys.map UInt64.ofNat, (inS (xs.getD i 0) ys d i 8).2.map UInt64.ofNat))
  | 0, m, _ => by rw [show m + 1 + 0 = m + 1 from rfl, itN_succ]; rfl
  | j + 1, m, hj => by
    rw [show m + 1 + (j + 1) = (m + 1 + j) + 1 from rfl, itN_succ, in_turn _ hi (by omega) hx hy hd hl z, show 8 - (j + 1) + 1 = 8 - j by omega]
    exact in_all hi hx hy hd hl z j m (by omega)
theorem ou_turn (f : Int × List UInt64 × List UInt64 × List UInt64 × List UInt64 → Option (O3 Unit (List UInt64 × List UInt64) Unit)) {xs ys : List Nat} {i : Nat} (hi : i < 8) (hx : Dg xs) (hy : Dg ys) (z : List UInt64) :
    k44_1 f ((i : Int), z, xs.map UInt64.ofNat, ys.map UInt64.ofNat, (ouS xs ys i).map UInt64.ofNat) = f (((i + 1 : Nat) : Int), z, xs.map UInt64.ofNat, ys.map UInt64.ofNat, (ouS xs ys (i + 1)).map UInt64.ofNat) := by
  obtain ⟨h1, h2, _, _⟩ := ouS_ok hx hy i (by omega)
  have hin := in_all hi hx hy h2 h1 z 8
  obtain ⟨m, hm⟩ := fuel_ge 9 (by decide)
  have hin := hin m (Nat.le_refl _)
  unfold k44_1
  dsimp only
  refine Eq.trans (cnd_t (by simp; omega) _ _) ?_
  have hl : l44_3 ((i : Int), (0 : UInt64), (0 : Int), z, xs.map UInt64.ofNat, ys.map UInt64.ofNat, (ouS xs ys i).map UInt64.ofNat) = some (.x ((i : Int), UInt64.ofNat (inS (xs.getD i 0) ys (ouS xs ys i) i 8).1, z, xs.map UInt64.ofNat, ys.map UInt64.ofNat, (inS (xs.getD i 0) ys (ouS xs ys i) i 8).2.map UInt64.ofNat)) := by
    unfold l44_3
    rw [hm]
    exact hin
  rw [hl, bnd_s]
  dsimp only
  refine Eq.trans (guard_if (by unfold inR; simp; omega) _) ?_
  refine Eq.trans (guard_if (by rw [show (i : Int) + 8 = ((i + 8 : Nat) : Int) by omega]; exact inB_nat (by omega)) _) ?_
  refine Eq.trans (guard_if (inR_succ (by omega)) _) ?_
  have e : ((inS (xs.getD i 0) ys (ouS xs ys i) i 8).2.map UInt64.ofNat).set ((i : Int) + 8).toNat (UInt64.ofNat (inS (xs.getD i 0) ys (ouS xs ys i) i 8).1) = (ouS xs ys (i + 1)).map UInt64.ofNat := by
    rw [show ((i : Int) + 8).toNat = i + 8 by omega]
    exact List.map_set.symm
  rw [e]
  rfl
end Go.Proofs.Ythlbdpmnljcapaa.Q
