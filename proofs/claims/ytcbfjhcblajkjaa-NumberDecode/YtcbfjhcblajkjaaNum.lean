/-
  Plain facts on numbers as bytes, the lowest byte first, and on what stands at the beginning of bytes.
-/
import Derived.Laws.BitsAllLaws
namespace Go.Proofs.Ytcbfjhcblajkjaa

/-- n's lowest k bytes, the lowest first. -/
def le (n : Nat) (k : Nat) : List UInt8 := (List.range k).map fun i => UInt8.ofNat (n / 2 ^ (8 * i))

theorem le_succ (n k : Nat) : le n (k + 1) = le n k ++ [UInt8.ofNat (n / 2 ^ (8 * k))] := by simp [le, List.range_succ]
theorem le_zero (n : Nat) : le n 0 = [] := rfl
theorem le_length (n k : Nat) : (le n k).length = k := by simp [le]
theorem byte_le (n k : Nat) : (n : Int) / 2 ^ (8 * k) % 256 = ((UInt8.ofNat (n / 2 ^ (8 * k))).toNat : Int) := by
  simp [UInt8.toNat_ofNat']
theorem byte0 (n : Nat) (_h : n < 256) : (n : Int) = ((UInt8.ofNat n).toNat : Int) := by
  simp [UInt8.toNat_ofNat']; omega
theorem byte1 (n : Nat) : (n : Int) % 256 = ((UInt8.ofNat n).toNat : Int) := by
  simp [UInt8.toNat_ofNat']

theorem le_mod (n j k : Nat) (h : k ≤ j) : le (n % 2 ^ (8 * j)) k = le n k := by
  unfold le
  apply List.map_congr_left
  intro i hi
  simp only [List.mem_range] at hi
  apply UInt8.toNat_inj.1
  simp only [UInt8.toNat_ofNat']
  have e : 2 ^ (8 * j) = 2 ^ (8 * i) * (256 * 2 ^ (8 * (j - i - 1))) := by
    rw [show (256 : Nat) = 2 ^ 8 from rfl, ← Nat.pow_add, ← Nat.pow_add]
    congr 1
    omega
  rw [e, Nat.mod_mul_right_div_self]
  exact Nat.mod_mul_right_mod _ _ _

theorem le_cons (n k : Nat) : le n (k + 1) = UInt8.ofNat n :: le (n / 256) k := by
  unfold le
  rw [List.range_succ_eq_map, List.map_cons, List.map_map]
  congr 1
  · simp
  · apply List.map_congr_left
    intro i _
    simp only [Function.comp]
    congr 1
    rw [Nat.div_div_eq_div_mul, show 8 * Nat.succ i = 8 + 8 * i by omega, Nat.pow_add]

/-- The number of bytes, the lowest first. -/
def num : List UInt8 → Nat
  | [] => 0
  | c :: l => c.toNat + 256 * num l

theorem num_append (l m : List UInt8) : num (l ++ m) = num l + 2 ^ (8 * l.length) * num m := by
  induction l with
  | nil => simp [num]
  | cons c l ih =>
    simp only [List.cons_append, num, ih, List.length_cons]
    rw [show 8 * (l.length + 1) = 8 + 8 * l.length by omega, Nat.pow_add]
    rw [Nat.mul_add, Nat.mul_assoc, Nat.add_assoc]

theorem num_lt (l : List UInt8) : num l < 2 ^ (8 * l.length) := by
  induction l with
  | nil => simp [num]
  | cons c l ih =>
    have hc := c.toNat_lt
    simp only [num, List.length_cons]
    rw [show 8 * (l.length + 1) = 8 + 8 * l.length by omega, Nat.pow_add]
    generalize 2 ^ (8 * l.length) = p at ih
    omega

theorem num_take_succ (l : List UInt8) (k : Nat) (h : k < l.length) : num (l.take (k + 1)) = num (l.take k) + l[k].toNat * 2 ^ (8 * k) := by
  rw [List.take_succ_eq_append_getElem h, num_append]
  simp [num, Nat.min_eq_left (Nat.le_of_lt h)]
  rw [Nat.mul_comm]

theorem num_take_lt (l : List UInt8) (k : Nat) : num (l.take k) < 2 ^ (8 * k) := by
  refine Nat.lt_of_lt_of_le (num_lt _) (Nat.pow_le_pow_right (by decide) ?_)
  have := List.length_take_le k l
  omega

theorem num_le (n k : Nat) : num (le n k) = n % 2 ^ (8 * k) := by
  induction k generalizing n with
  | zero => simp [le, num, Nat.mod_one]
  | succ k ih =>
    rw [le_cons, num, ih]
    simp only [UInt8.toNat_ofNat']
    rw [show 8 * (k + 1) = 8 + 8 * k by omega, Nat.pow_add]
    rw [Nat.mod_mul]

theorem le_num (l : List UInt8) : le (num l) l.length = l := by
  induction l with
  | nil => rfl
  | cons c l ih =>
    have hc := c.toNat_lt
    rw [List.length_cons, le_cons]
    have e : num (c :: l) / 256 = num l := by simp only [num]; omega
    rw [e, ih]
    congr 1
    apply UInt8.toNat_inj.1
    simp only [UInt8.toNat_ofNat', num]
    omega

theorem or_add (a c k : Nat) (h : a < 2 ^ k) : a ||| (c * 2 ^ k) = a + c * 2 ^ k := by
  have := Nat.shiftLeft_add_eq_or_of_lt h c
  rw [Nat.shiftLeft_eq] at this
  rw [Nat.or_comm, ← this, Nat.add_comm]

theorem fits (l : List UInt8) (k j : Nat) (h : k < l.length) (hj : k < j) : num (l.take k) + l[k].toNat * 2 ^ (8 * k) < 2 ^ (8 * j) := by
  rw [← num_take_succ l k h]
  exact Nat.lt_of_lt_of_le (num_take_lt _ _) (Nat.pow_le_pow_right (by decide) (by omega))

/-- One byte more, by shift and or. -/
theorem or64 (l : List UInt8) (k : Nat) (h : k < l.length) (hk : k < 8) :
    bits .or .u64 (num (l.take k) : Int) (IntKind.u64.wrap (IntKind.u64.wrap (l[k].toNat : Int) * 2 ^ (8 * k))) = (num (l.take (k + 1)) : Int) := by
  have hf := fits l k 8 h hk
  rw [num_take_succ l k h]
  have hc := l[k].toNat_lt
  have hp := num_take_lt l k
  simp only [IntKind.wrap_u64]
  generalize num (l.take k) = a at *
  generalize l[k].toNat = c at *
  rw [show (c : Int) % 18446744073709551616 = c from by omega]
  have e : ((c : Int) * 2 ^ (8 * k)) = ((c * 2 ^ (8 * k) : Nat) : Int) := by simp
  rw [e]
  have hor := or_add a c (8 * k) hp
  generalize c * 2 ^ (8 * k) = d at *
  simp only [Nat.reduceMul, Nat.reducePow] at hf
  rw [show ((d : Int) % 18446744073709551616) = (d : Int) from by omega, u64_or_nat a d (by omega) (by omega), hor]

theorem or32 (l : List UInt8) (k : Nat) (h : k < l.length) (hk : k < 4) :
    bits .or .u32 (num (l.take k) : Int) (IntKind.u32.wrap (IntKind.u32.wrap (l[k].toNat : Int) * 2 ^ (8 * k))) = (num (l.take (k + 1)) : Int) := by
  have hf := fits l k 4 h hk
  rw [num_take_succ l k h]
  have hc := l[k].toNat_lt
  have hp := num_take_lt l k
  simp only [IntKind.wrap_u32']
  generalize num (l.take k) = a at *
  generalize l[k].toNat = c at *
  rw [show (c : Int) % 4294967296 = c from by omega]
  have e : ((c : Int) * 2 ^ (8 * k)) = ((c * 2 ^ (8 * k) : Nat) : Int) := by simp
  rw [e]
  have hor := or_add a c (8 * k) hp
  generalize c * 2 ^ (8 * k) = d at *
  simp only [Nat.reduceMul, Nat.reducePow] at hf
  rw [show ((d : Int) % 4294967296) = (d : Int) from by omega, u32_or_nat a d (by omega) (by omega), hor]

theorem or16 (l : List UInt8) (k : Nat) (h : k < l.length) (hk : k < 2) :
    bits .or .u16 (num (l.take k) : Int) (IntKind.u16.wrap (IntKind.u16.wrap (l[k].toNat : Int) * 2 ^ (8 * k))) = (num (l.take (k + 1)) : Int) := by
  have hf := fits l k 2 h hk
  rw [num_take_succ l k h]
  have hc := l[k].toNat_lt
  have hp := num_take_lt l k
  simp only [IntKind.wrap_u16]
  generalize num (l.take k) = a at *
  generalize l[k].toNat = c at *
  rw [show (c : Int) % 65536 = c from by omega]
  have e : ((c : Int) * 2 ^ (8 * k)) = ((c * 2 ^ (8 * k) : Nat) : Int) := by simp
  rw [e]
  have hor := or_add a c (8 * k) hp
  generalize c * 2 ^ (8 * k) = d at *
  simp only [Nat.reduceMul, Nat.reducePow] at hf
  rw [show ((d : Int) % 65536) = (d : Int) from by omega, u16_or_nat a d (by omega) (by omega), hor]

/-- A size's bytes. -/
def sizeL (n : Nat) : List UInt8 :=
  if n < 253 then le n 1 else if n < 65536 then [253] ++ le n 2 else if n < 4294967296 then [254] ++ le n 4 else [255] ++ le n 8

theorem sizeL_length (n : Nat) : (sizeL n).length ≤ 9 := by
  unfold sizeL
  split
  · simp [le_length]
  · split
    · simp [le_length]
    · split <;> simp [le_length]

theorem b253 : (253 : Int) = ((253 : UInt8).toNat : Int) := by decide
theorem b254 : (254 : Int) = ((254 : UInt8).toNat : Int) := by decide
theorem b255 : (255 : Int) = ((255 : UInt8).toNat : Int) := by decide

/-- What is told of the bytes l by taking k bytes as a number: the number, what is left, the error. -/
def takeNum (k : Nat) (l : List UInt8) : Nat × List UInt8 × Nat := if l.length < k then (0, [], 2) else (num (l.take k), l.drop k, 0)

/-- .. behind a mark: below 'least' it is too long. -/
def takeMarked (k least : Nat) (l : List UInt8) : Nat × List UInt8 × Nat :=
  if l.length < k then (0, [], 2) else if num (l.take k) < least then (0, [], 3) else (num (l.take k), l.drop k, 0)

/-- .. as a size. -/
def takeSize (l : List UInt8) : Nat × List UInt8 × Nat :=
  match l with
  | [] => (0, [], 2)
  | c :: r => if c = 253 then takeMarked 2 253 r else if c = 254 then takeMarked 4 65536 r else if c = 255 then takeMarked 8 4294967296 r else (c.toNat, r, 0)

/-- .. as a string of at most 'most' bytes. -/
def takeBytes (l : List UInt8) (most : Int) : List UInt8 × List UInt8 × Nat :=
  if (takeSize l).2.2 ≠ 0 then ([], [], (takeSize l).2.2)
  else if most < 0 ∨ most < (takeSize l).1 then ([], [], 4)
  else if (takeSize l).2.1.length < (takeSize l).1 then ([], [], 2)
  else ((takeSize l).2.1.take (takeSize l).1, (takeSize l).2.1.drop (takeSize l).1, 0)

/-- What is told of the bytes l by taking n of them: they, what is left, the error. -/
def takeN (n : Int) (l : List UInt8) : List UInt8 × List UInt8 × Nat :=
  if n < 0 then ([], [], 1) else if (l.length : Int) < n then ([], [], 2) else (l.take n.toNat, l.drop n.toNat, 0)

theorem takeNum_le (k : Nat) (l : List UInt8) : (takeNum k l).2.1.length ≤ l.length := by
  unfold takeNum; split <;> simp
theorem takeMarked_le (k L : Nat) (l : List UInt8) : (takeMarked k L l).2.1.length ≤ l.length := by
  unfold takeMarked
  split
  · simp
  · split <;> simp
theorem takeSize_le (l : List UInt8) : (takeSize l).2.1.length ≤ l.length := by
  unfold takeSize
  split
  · simp
  · rename_i c r
    have h1 := takeMarked_le 2 253 r
    have h2 := takeMarked_le 4 65536 r
    have h3 := takeMarked_le 8 4294967296 r
    simp only [List.length_cons]
    split
    · omega
    · split
      · omega
      · split
        · omega
        · simp

end Go.Proofs.Ytcbfjhcblajkjaa
