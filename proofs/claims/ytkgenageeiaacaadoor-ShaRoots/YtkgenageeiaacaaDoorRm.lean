/-
  Plain mathematics of the document's reckoning of roots: digits of 16 bits, products, comparisons, primes.
-/
import Derived.Test.YtkgenageeiaacaaDoorX2
import Derived.Test.YtkgenageeiaacaaDoorSh
namespace Go.Proofs.YtkgenageeiaacaaDoor
/-- Three rounds of a digit times a number. -/
def inK (d : List Nat) (x i : Nat) (o : List Nat) : Nat → List Nat × Nat
  | 0 => (o, 0)
  | k + 1 => ((inK d x i o k).1.set (i + k) (((inK d x i o k).2 + at64 (inK d x i o k).1 (i + k) + at64 d i * (x / 65536 ^ k % 65536)) % 65536), ((inK d x i o k).2 + at64 (inK d x i o k).1 (i + k) + at64 d i * (x / 65536 ^ k % 65536)) / 65536)
/-- The rest is carried on. -/
def crF : Nat → List Nat → Nat → Nat → List Nat
  | 0, o, _, _ => o
  | n + 1, o, c, k => if c = 0 then o else crF n (o.set k ((c + at64 o k) % 65536)) ((c + at64 o k) / 65536) (k + 1)
def tmI (d : List Nat) (x : Nat) : Nat → List Nat
  | 0 => List.replicate (d.length + 3) 0
  | i + 1 => crF (d.length + 3 - (i + 3)) (inK d x i (tmI d x i) 3).1 (inK d x i (tmI d x i) 3).2 (i + 3)
def tm (d : List Nat) (x : Nat) : List Nat := tmI d x d.length
def cmpF (d e : List Nat) : Nat → Bool
  | 0 => true
  | i + 1 => if at64 d i = at64 e i then cmpF d e i else decide (at64 d i < at64 e i)
def d3 (x : Nat) : List Nat := [x % 65536, x / 65536 % 65536, x / 65536 / 65536]
def lst (x p : Nat) (cube : Bool) : Bool := if cube then cmpF (tm (tm (d3 x) x) x) (List.replicate 6 0 ++ [p]) 12 else cmpF (tm (d3 x) x) (List.replicate 4 0 ++ [p]) 12
def rtK (p : Nat) (cube : Bool) : Nat → Nat
  | 0 => 0
  | t + 1 => if (decide (rtK p cube t + 2 ^ (36 - t) < 137438953472) && lst (rtK p cube t + 2 ^ (36 - t)) p cube) = true then rtK p cube t + 2 ^ (36 - t) else rtK p cube t
def rt (p : Nat) (cube : Bool) : Nat := rtK p cube 37 % 4294967296
/-- Is p divided by none of the first k? -/
def isP (l : List Nat) (p : Nat) : Nat → Bool
  | 0 => true
  | k + 1 => isP l p k && decide (¬ p % at64 l k = 0)
/-- The primes among the first t numbers from 2 on. -/
def prK : Nat → List Nat
  | 0 => []
  | t + 1 => if isP (prK t) (2 + t) (prK t).length then prK t ++ [2 + t] else prK t
def rtsK (l : List Nat) (cube : Bool) : Nat → List Nat
  | 0 => []
  | i + 1 => rtsK l cube i ++ [rt (at64 l i) cube]
def D16 (l : List Nat) : Prop := ∀ y ∈ l, y < 65536
theorem at64_le {l : List Nat} {b : Nat} (hb : 0 < b) (h : ∀ y ∈ l, y < b) (i : Nat) : at64 l i < b := by
  unfold at64
  rw [List.getD_eq_getElem?_getD]
  by_cases hi : i < l.length
  · rw [List.getElem?_eq_getElem hi]; exact h _ (List.getElem_mem hi)
  · rw [List.getElem?_eq_none (by omega)]; exact hb
theorem D16.set {l : List Nat} (h : D16 l) (i : Nat) {v : Nat} (hv : v < 65536) : D16 (l.set i v) := fun y hy => by
  rcases List.mem_or_eq_of_mem_set hy with h1 | h1
  · exact h y h1
  · exact h1 ▸ hv
theorem inK_length (d : List Nat) (x i : Nat) (o : List Nat) (k : Nat) : (inK d x i o k).1.length = o.length := by
  induction k with
  | zero => rfl
  | succ k ih => simp [inK, ih]
theorem inK_ok {d o : List Nat} (x i : Nat) (hd : D16 d) (ho : D16 o) (k : Nat) : D16 (inK d x i o k).1 ∧ (inK d x i o k).2 ≤ 65536 := by
  induction k with
  | zero => exact ⟨ho, by simp [inK]⟩
  | succ k ih =>
    refine ⟨D16.set ih.1 _ (Nat.mod_lt _ (by decide)), ?_⟩
    have h1 : at64 (inK d x i o k).1 (i + k) < 65536 := at64_le (by decide) ih.1 _
    have h2 : at64 d i < 65536 := at64_le (by decide) hd _
    have h3 : x / 65536 ^ k % 65536 < 65536 := Nat.mod_lt _ (by decide)
    have h4 : at64 d i * (x / 65536 ^ k % 65536) ≤ 65535 * 65535 := Nat.mul_le_mul (by omega) (by omega)
    have h5 := ih.2
    show (_ + _ + at64 d i * (x / 65536 ^ k % 65536)) / 65536 ≤ 65536
    generalize at64 d i * (x / 65536 ^ k % 65536) = m at *
    omega
theorem crF_length (n : Nat) : ∀ (o : List Nat) (c k : Nat), (crF n o c k).length = o.length := by
  induction n with
  | zero => intro o c k; rfl
  | succ n ih =>
    intro o c k
    unfold crF
    split
    · rfl
    · rw [ih]; simp
theorem crF_ok (n : Nat) : ∀ (o : List Nat) (c k : Nat), D16 o → D16 (crF n o c k) := by
  induction n with
  | zero => intro o c k h; exact h
  | succ n ih =>
    intro o c k h
    unfold crF
    split
    · exact h
    · exact ih _ _ _ (h.set _ (Nat.mod_lt _ (by decide)))
theorem tmI_length (d : List Nat) (x i : Nat) : (tmI d x i).length = d.length + 3 := by
  induction i with
  | zero => simp [tmI]
  | succ i ih => rw [tmI, crF_length, inK_length, ih]
theorem tmI_ok {d : List Nat} (x : Nat) (hd : D16 d) (i : Nat) : D16 (tmI d x i) := by
  induction i with
  | zero => intro y hy; rw [List.eq_of_mem_replicate hy]; decide
  | succ i ih => exact crF_ok _ _ _ _ (inK_ok x i hd ih 3).1
theorem tm_length (d : List Nat) (x : Nat) : (tm d x).length = d.length + 3 := tmI_length _ _ _
theorem tm_ok {d : List Nat} (x : Nat) (hd : D16 d) : D16 (tm d x) := tmI_ok _ hd _
theorem d3_ok {x : Nat} (h : x < 137438953472) : D16 (d3 x) := fun y hy => by
  simp only [d3, List.mem_cons, List.not_mem_nil, or_false] at hy
  rcases hy with rfl | rfl | rfl <;> omega
theorem crF_step {n k c : Nat} {o : List Nat} (hk : k < n) (hc : 0 < c) : crF (n - k) o c k = crF (n - (k + 1)) (o.set k ((c + at64 o k) % 65536)) ((c + at64 o k) / 65536) (k + 1) := by
  rw [show n - k = (n - (k + 1)) + 1 by omega, crF, if_neg (by omega)]
theorem crF_end {n k c : Nat} {o : List Nat} (h : ¬ 0 < c ∨ ¬ k < n) : crF (n - k) o c k = o := by
  rcases Nat.lt_or_ge k n with hk | hk
  · rw [show n - k = (n - (k + 1)) + 1 by omega, crF, if_pos (by omega)]
  · rw [show n - k = 0 by omega, crF]
theorem rtK_lt (p : Nat) (cube : Bool) (t : Nat) : rtK p cube t < 137438953472 := by
  induction t with
  | zero => exact (by decide : 0 < 137438953472)
  | succ t ih =>
    unfold rtK
    split
    · rename_i h
      simp only [Bool.and_eq_true, decide_eq_true_eq] at h
      exact h.1
    · exact ih
theorem prK_mono (t : Nat) : (prK t).length ≤ (prK (t + 1)).length := by
  rw [prK]; split <;> simp
theorem prK_le (t : Nat) : (prK t).length ≤ t := by
  induction t with
  | zero => exact Nat.le_refl _
  | succ t ih =>
    rw [prK]
    split
    · rw [List.length_append]; simp only [List.length_singleton]; omega
    · omega
theorem prK_mono' {s t : Nat} (h : s ≤ t) : (prK s).length ≤ (prK t).length := by
  induction t with
  | zero => rw [show s = 0 by omega]; exact Nat.le_refl _
  | succ t ih =>
    rcases Nat.lt_or_ge s (t + 1) with h1 | h1
    · exact Nat.le_trans (ih (by omega)) (prK_mono t)
    · rw [show s = t + 1 by omega]; exact Nat.le_refl _
theorem prK_two (t : Nat) : ∀ y ∈ prK t, 2 ≤ y := by
  induction t with
  | zero => intro y hy; cases hy
  | succ t ih =>
    rw [prK]
    split
    · intro y hy
      rcases List.mem_append.1 hy with h | h
      · exact ih y h
      · rw [List.mem_singleton.1 h]; omega
    · exact ih
theorem at_two {t k : Nat} (h : k < (prK t).length) : 2 ≤ at64 (prK t) k := by
  unfold at64
  rw [List.getD_eq_getElem?_getD, List.getElem?_eq_getElem h]
  exact prK_two t _ (List.getElem_mem h)
/-- Where the first n primes are found. -/
def topP (n : Nat) : Nat := if n = 8 then 18 else 310
theorem pr8 : (prK 17).length = 7 ∧ (prK 18).length = 8 := by decide +kernel
theorem pr64 : (prK 309).length = 63 ∧ (prK 310).length = 64 := by decide +kernel
theorem pr_top {n : Nat} (hn : n = 8 ∨ n = 64) {t : Nat} (h : ∀ j, j < t → (prK j).length < n) (ht : ¬ (prK t).length < n) : t = topP n := by
  have key : ∀ s, (prK s).length = n → (prK (s - 1)).length < n → 0 < s → t = s := by
    intro s h1 h2 h0
    rcases Nat.lt_trichotomy t s with hl | e | hl
    · have := prK_mono' (show t ≤ s - 1 by omega); omega
    · exact e
    · have := h s hl; omega
  rcases hn with rfl | rfl
  · exact key 18 pr8.2 (by rw [pr8.1]; decide) (by decide)
  · exact key 310 pr64.2 (by rw [pr64.1]; decide) (by decide)
theorem pr_lt {n : Nat} (hn : n = 8 ∨ n = 64) {t : Nat} (ht : (prK t).length < n) : t < 310 := by
  rcases Nat.lt_or_ge t 310 with h | h
  · exact h
  · have := prK_mono' h
    have := pr64.2
    omega
theorem pr_len {n : Nat} (hn : n = 8 ∨ n = 64) : (prK (topP n)).length = n := by
  rcases hn with rfl | rfl
  · exact pr8.2
  · exact pr64.2
theorem rtsK_length (l : List Nat) (cube : Bool) (i : Nat) : (rtsK l cube i).length = i := by
  induction i with
  | zero => rfl
  | succ i ih => simp [rtsK, ih]
theorem rt_lt (p : Nat) (cube : Bool) : rt p cube < 4294967296 := Nat.mod_lt _ (by decide)
end Go.Proofs.YtkgenageeiaacaaDoor
