/-
  Plain facts on numbers as things on a stack: their bytes, the lowest first, with a sign in the last one; what bytes are read as; which are true.
-/
import Derived.Test.YtcbfjhcblajkjaaNum
namespace Go.Proofs.Ytcbfjhcblajkjaa

/-- A number's bytes, the lowest first, as few as can be (at most f). -/
def digs : Nat → Nat → List UInt8
  | 0, _ => []
  | f + 1, n => if n = 0 then [] else UInt8.ofNat n :: digs f (n / 256)

theorem digs_zero (f : Nat) : digs f 0 = [] := by cases f <;> simp [digs]
theorem digs_step (f n : Nat) (h : n ≠ 0) : digs (f + 1) n = UInt8.ofNat n :: digs f (n / 256) := by simp [digs, h]
theorem digs_length (f n : Nat) : (digs f n).length ≤ f := by
  induction f generalizing n with
  | zero => simp [digs]
  | succ f ih =>
    unfold digs
    split
    · simp
    · simp only [List.length_cons]; have := ih (n / 256); omega
theorem div_lt (f n : Nat) (h : n < 256 ^ (f + 1)) : n / 256 < 256 ^ f := by
  rw [Nat.pow_succ] at h
  exact Nat.div_lt_of_lt_mul (by rw [Nat.mul_comm]; exact h)
theorem num_digs (f n : Nat) (h : n < 256 ^ f) : num (digs f n) = n := by
  induction f generalizing n with
  | zero => simp at h; simp [digs, num, h]
  | succ f ih =>
    unfold digs
    split
    · rename_i h0; simp [num, h0]
    · rw [num, ih _ (div_lt f n h)]
      simp only [UInt8.toNat_ofNat']
      omega
theorem digs_last (f n : Nat) (h : n < 256 ^ f) (hn : n ≠ 0) : ∃ r c, digs f n = r ++ [c] ∧ 0 < c.toNat := by
  induction f generalizing n with
  | zero => simp at h; exact absurd h hn
  | succ f ih =>
    rw [digs_step f n hn]
    by_cases h0 : n / 256 = 0
    · refine ⟨[], UInt8.ofNat n, by rw [h0, digs_zero]; rfl, ?_⟩
      simp only [UInt8.toNat_ofNat']
      omega
    · obtain ⟨r, c, e, hc⟩ := ih (n / 256) (div_lt f n h) h0
      exact ⟨UInt8.ofNat n :: r, c, by rw [e]; rfl, hc⟩

/-- One byte more, 0, if the highest bit of the last one is set. -/
def top (d : List UInt8) : List UInt8 := if 128 ≤ (d.getLastD 0).toNat then d ++ [0] else d
/-- The sign. -/
def sgn (d : List UInt8) : List UInt8 := d.dropLast ++ [UInt8.ofNat ((d.getLastD 0).toNat + 128)]
/-- A number, written. -/
def encN (n : Int) : List UInt8 := if n = 0 then [] else if n < 0 then sgn (top (digs 8 n.natAbs)) else top (digs 8 n.natAbs)

theorem last_app (r : List UInt8) (c : UInt8) : (r ++ [c]).getLastD 0 = c := by simp
theorem drop_app (r : List UInt8) (c : UInt8) : (r ++ [c]).dropLast = r := by simp

theorem top_big (r : List UInt8) (c : UInt8) (h : 128 ≤ c.toNat) : top (r ++ [c]) = r ++ [c] ++ [0] := by
  unfold top; rw [last_app, if_pos h]
theorem top_low (r : List UInt8) (c : UInt8) (h : c.toNat < 128) : top (r ++ [c]) = r ++ [c] := by
  unfold top; rw [last_app, if_neg (by omega)]
theorem sgn_app (r : List UInt8) (c : UInt8) : sgn (r ++ [c]) = r ++ [UInt8.ofNat (c.toNat + 128)] := by
  unfold sgn; rw [last_app, drop_app]

theorem encN_zero : encN 0 = [] := rfl
/-- The four ways in which a number that is not 0 is written. -/
theorem encN_pos_big (n : Int) (r : List UInt8) (c : UInt8) (hn : 0 < n) (hd : digs 8 n.natAbs = r ++ [c]) (h : 128 ≤ c.toNat) : encN n = r ++ [c] ++ [0] := by
  unfold encN; rw [if_neg (by omega), if_neg (by omega), hd, top_big r c h]
theorem encN_pos_low (n : Int) (r : List UInt8) (c : UInt8) (hn : 0 < n) (hd : digs 8 n.natAbs = r ++ [c]) (h : c.toNat < 128) : encN n = r ++ [c] := by
  unfold encN; rw [if_neg (by omega), if_neg (by omega), hd, top_low r c h]
theorem encN_neg_big (n : Int) (r : List UInt8) (c : UInt8) (hn : n < 0) (hd : digs 8 n.natAbs = r ++ [c]) (h : 128 ≤ c.toNat) : encN n = r ++ [c] ++ [128] := by
  unfold encN; rw [if_neg (by omega), if_pos hn, hd, top_big r c h, sgn_app]; rfl
theorem encN_neg_low (n : Int) (r : List UInt8) (c : UInt8) (hn : n < 0) (hd : digs 8 n.natAbs = r ++ [c]) (h : c.toNat < 128) : encN n = r ++ [UInt8.ofNat (c.toNat + 128)] := by
  unfold encN; rw [if_neg (by omega), if_pos hn, hd, top_low r c h, sgn_app]

theorem encN_length (n : Int) : (encN n).length ≤ 9 := by
  have := digs_length 8 n.natAbs
  unfold encN
  split
  · simp
  · have ht : (top (digs 8 n.natAbs)).length ≤ 9 := by
      unfold top; split
      · simp; omega
      · omega
    split
    · unfold sgn
      generalize hd : top (digs 8 n.natAbs) = d at ht
      have hne : d ≠ [] := by
        rintro rfl
        rename_i h0 _
        have : digs 8 n.natAbs = [] := by
          unfold top at hd; split at hd
          · simp at hd
          · exact hd
        rw [digs_step 7 _ (by omega)] at this
        cases this
      have : 0 < d.length := List.length_pos_iff.2 hne
      simp
      omega
    · exact ht

/-- What bytes hold, beside the sign. -/
def mag (l : List UInt8) : Nat := num l.dropLast + 2 ^ (8 * (l.length - 1)) * ((l.getLastD 0).toNat % 128)
/-- The number that bytes are read as, however it is written. -/
def rdN (l : List UInt8) : Int := if 128 ≤ (l.getLastD 0).toNat then -(mag l : Int) else (mag l : Int)

theorem mag_app (r : List UInt8) (c : UInt8) : mag (r ++ [c]) = num r + 2 ^ (8 * r.length) * (c.toNat % 128) := by
  unfold mag; rw [last_app, drop_app]; simp
theorem mag_nil : mag [] = 0 := by simp [mag, num]
theorem rdN_nil : rdN [] = 0 := by simp [rdN, mag_nil]
theorem rdN_neg (r : List UInt8) (c : UInt8) (h : 128 ≤ c.toNat) : rdN (r ++ [c]) = -(mag (r ++ [c]) : Int) := by
  unfold rdN; rw [last_app, if_pos h]
theorem rdN_pos (r : List UInt8) (c : UInt8) (h : c.toNat < 128) : rdN (r ++ [c]) = (mag (r ++ [c]) : Int) := by
  unfold rdN; rw [last_app, if_neg (by omega)]

theorem mag_lt (r : List UInt8) (c : UInt8) : mag (r ++ [c]) < 2 ^ (8 * r.length) * 128 := by
  rw [mag_app]
  have h1 := num_lt r
  have h2 : c.toNat % 128 ≤ 127 := by omega
  have h3 := Nat.mul_le_mul_left (2 ^ (8 * r.length)) h2
  generalize 2 ^ (8 * r.length) = p at *
  omega
theorem nil_or_app (l : List UInt8) : l = [] ∨ ∃ r c, l = r ++ [c] := by
  rcases List.eq_nil_or_concat l with h | ⟨r, c, h⟩
  · exact .inl h
  · exact .inr ⟨r, c, by rw [h]; simp⟩
theorem mag_lt_of (l : List UInt8) (k : Nat) (h : l.length ≤ k + 1) : mag l < 2 ^ (8 * k + 7) := by
  rcases nil_or_app l with rfl | ⟨r, c, rfl⟩
  · rw [mag_nil]; exact Nat.two_pow_pos _
  · have := mag_lt r c
    simp at h
    refine Nat.lt_of_lt_of_le this ?_
    rw [show (128 : Nat) = 2 ^ 7 from rfl, ← Nat.pow_add]
    exact Nat.pow_le_pow_right (by decide) (by omega)
theorem rdN_abs (l : List UInt8) : (rdN l).natAbs = mag l := by
  unfold rdN; split <;> simp
theorem rdN_lt8 (l : List UInt8) (h : l.length ≤ 8) : -9223372036854775808 < rdN l ∧ rdN l < 9223372036854775808 := by
  have h1 := mag_lt_of l 7 h
  have h2 := rdN_abs l
  simp only [Nat.reduceMul, Nat.reduceAdd, Nat.reducePow] at h1
  omega
theorem rdN_lt4 (l : List UInt8) (h : l.length ≤ 4) : -2147483648 < rdN l ∧ rdN l < 2147483648 := by
  have h1 := mag_lt_of l 3 h
  have h2 := rdN_abs l
  simp only [Nat.reduceMul, Nat.reduceAdd, Nat.reducePow] at h1
  omega

theorem lt8 (n : Int) (h1 : -9223372036854775808 ≤ n) (h2 : n ≤ 9223372036854775807) : n.natAbs < 256 ^ 8 := by
  simp only [Nat.reducePow]; omega

/-- THERE AND BACK. -/
theorem rdN_encN (n : Int) (h1 : -9223372036854775808 ≤ n) (h2 : n ≤ 9223372036854775807) : rdN (encN n) = n := by
  by_cases h0 : n = 0
  · subst h0; rw [encN_zero, rdN_nil]
  · obtain ⟨r, c, hd, hc⟩ := digs_last 8 n.natAbs (lt8 n h1 h2) (by omega)
    have hv := num_digs 8 n.natAbs (lt8 n h1 h2)
    have hcl := c.toNat_lt
    rw [hd, num_append] at hv
    simp only [num, Nat.mul_zero, Nat.add_zero] at hv
    by_cases hp : 0 < n
    · by_cases hb : 128 ≤ c.toNat
      · rw [encN_pos_big n r c hp hd hb, rdN_pos _ _ (by decide), mag_app, num_append]
        simp only [num, Nat.mul_zero, Nat.add_zero]
        rw [hv, show (0 : UInt8).toNat % 128 = 0 from rfl]
        simp; omega
      · rw [encN_pos_low n r c hp hd (by omega), rdN_pos _ _ (by omega), mag_app, Nat.mod_eq_of_lt (by omega), hv]
        omega
    · by_cases hb : 128 ≤ c.toNat
      · rw [encN_neg_big n r c (by omega) hd hb, rdN_neg _ _ (by decide), mag_app, num_append]
        simp only [num, Nat.mul_zero, Nat.add_zero]
        rw [hv, show (128 : UInt8).toNat % 128 = 0 from rfl]
        simp; omega
      · have e : (UInt8.ofNat (c.toNat + 128)).toNat = c.toNat + 128 := by
          simp only [UInt8.toNat_ofNat']; omega
        rw [encN_neg_low n r c (by omega) hd (by omega), rdN_neg _ _ (by rw [e]; omega), mag_app, e]
        rw [show (c.toNat + 128) % 128 = c.toNat by omega, hv]
        omega

/-- Are these bytes just how a number is written, in at most so many? -/
def okN (l : List UInt8) (most : Int) : Bool := decide ((l.length : Int) ≤ most) && decide (l.length ≤ 8) && decide (encN (rdN l) = l)
def decN (l : List UInt8) (most : Int) : Int := if okN l most then rdN l else 0
def decE (l : List UInt8) (most : Int) : Int := if okN l most then 0 else 15

/-- Is the byte at this place one that makes a thing true? -/
def hit (l : List UInt8) (i : Nat) : Bool := decide (l.getD i 0 ≠ 0) && !(decide (i + 1 = l.length) && decide (l.getD i 0 = 128))
/-- Is a thing true? -/
def trN (l : List UInt8) : Bool := (List.range l.length).any (hit l)
theorem trN_true {l : List UInt8} (i : Nat) (hi : i < l.length) (h : hit l i = true) : trN l = true := by
  unfold trN; rw [List.any_eq_true]; exact ⟨i, List.mem_range.2 hi, h⟩
theorem trN_false {l : List UInt8} (h : ∀ i, i < l.length → hit l i = false) : trN l = false := by
  unfold trN; rw [List.any_eq_false]
  intro i hi
  rw [h i (List.mem_range.1 hi)]; decide
theorem trN_app (r : List UInt8) (c : UInt8) (h0 : 0 < c.toNat) (h1 : c.toNat ≠ 128) : trN (r ++ [c]) = true := by
  refine trN_true r.length (by simp) ?_
  have e : (r ++ [c]).getD r.length 0 = c := by simp
  have n0 : c ≠ 0 := by rintro rfl; simp at h0
  have n1 : c ≠ 128 := by rintro rfl; exact h1 rfl
  unfold hit; rw [e]; simp [n0, n1]
theorem trN_more (r : List UInt8) (c d : UInt8) (h0 : 0 < c.toNat) : trN (r ++ [c] ++ [d]) = true := by
  refine trN_true r.length (by simp) ?_
  have e : (r ++ [c] ++ [d]).getD r.length 0 = c := by simp
  have n0 : c ≠ 0 := by rintro rfl; simp at h0
  unfold hit; rw [e]; simp [n0]
/-- A number is true, if it is not 0. -/
theorem trN_encN (n : Int) (h1 : -9223372036854775808 ≤ n) (h2 : n ≤ 9223372036854775807) : trN (encN n) = decide (n ≠ 0) := by
  by_cases h0 : n = 0
  · subst h0; rfl
  · obtain ⟨r, c, hd, hc⟩ := digs_last 8 n.natAbs (lt8 n h1 h2) (by omega)
    rw [decide_eq_true h0]
    by_cases hp : 0 < n
    · by_cases hb : 128 ≤ c.toNat
      · rw [encN_pos_big n r c hp hd hb]; exact trN_more _ _ _ hc
      · rw [encN_pos_low n r c hp hd (by omega)]; exact trN_app _ _ hc (by omega)
    · by_cases hb : 128 ≤ c.toNat
      · rw [encN_neg_big n r c (by omega) hd hb]; exact trN_more _ _ _ hc
      · have e : (UInt8.ofNat (c.toNat + 128)).toNat = c.toNat + 128 := by
          simp only [UInt8.toNat_ofNat']; omega
        rw [encN_neg_low n r c (by omega) hd (by omega)]; exact trN_app _ _ (by omega) (by omega)

/-- Read by shifts: what is left without the sign's bit. -/
theorem num_app (r : List UInt8) (c : UInt8) : num (r ++ [c]) = num r + 2 ^ (8 * r.length) * c.toNat := by
  rw [num_append]; simp [num]
theorem xor_sign (r : List UInt8) (c : UInt8) (h : 128 ≤ c.toNat) : num (r ++ [c]) ^^^ (128 * 2 ^ (8 * r.length)) = mag (r ++ [c]) := by
  rw [num_app, mag_app]
  have h1 := num_lt r
  have hcl := c.toNat_lt
  generalize hk : 8 * r.length = k at *
  generalize num r = a at *
  generalize c.toNat = d at *
  have e1 : ((a + 2 ^ k * d) ^^^ (128 * 2 ^ k)) / 2 ^ k = d % 128 := by
    rw [Nat.xor_div_two_pow, Nat.add_mul_div_left _ _ (Nat.two_pow_pos k), Nat.div_eq_of_lt h1, Nat.zero_add, Nat.mul_div_cancel _ (Nat.two_pow_pos k)]
    have : ∀ d : Fin 256, 128 ≤ d.val → d.val ^^^ 128 = d.val % 128 := by decide +kernel
    exact this ⟨d, hcl⟩ h
  have e2 : ((a + 2 ^ k * d) ^^^ (128 * 2 ^ k)) % 2 ^ k = a := by
    rw [Nat.xor_mod_two_pow, Nat.add_mul_mod_self_left, Nat.mod_eq_of_lt h1, Nat.mul_mod_left, Nat.xor_zero]
  have := Nat.div_add_mod ((a + 2 ^ k * d) ^^^ (128 * 2 ^ k)) (2 ^ k)
  rw [e1, e2] at this
  omega
end Go.Proofs.Ytcbfjhcblajkjaa
