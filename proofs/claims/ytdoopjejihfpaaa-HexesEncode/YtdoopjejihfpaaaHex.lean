/-
  Bytes as hexadecimal digits, and back: plain mathematics.
-/
namespace Go.Proofs.Ytdoopjejihfpaaa

/-- A digit of a value below 16. -/
def hd (n : Nat) : UInt8 := UInt8.ofNat (if n < 10 then 48 + n else 87 + n)
def isD (n : Nat) : Bool := (decide (48 ≤ n) && decide (n ≤ 57)) || (decide (97 ≤ n) && decide (n ≤ 102))
def val (n : Nat) : Nat := if 48 ≤ n ∧ n ≤ 57 then n - 48 else if 97 ≤ n ∧ n ≤ 102 then n - 87 else 0
def valI (n : Nat) : Int := if isD n then (val n : Int) else -1

def enc : List UInt8 → List UInt8
  | [] => []
  | b :: r => hd (b.toNat / 16) :: hd (b.toNat % 16) :: enc r

def decB : List UInt8 → List UInt8
  | a :: b :: r => UInt8.ofNat (val a.toNat * 16 + val b.toNat) :: decB r
  | _ => []

def allD (l : List UInt8) : Bool := l.all fun c => isD c.toNat
def okS (l : List UInt8) : Bool := decide (l.length % 2 = 0) && allD l

def decR (l : List UInt8) : List UInt8 := if okS l then decB l else []
def decE (l : List UInt8) : Int := if okS l then 0 else 3
theorem dec_ok (l : List UInt8) (h : okS l = true) : decR l = decB l ∧ decE l = 0 := by simp [decR, decE, h]
theorem dec_no (l : List UInt8) (h : okS l = false) : decR l = [] ∧ decE l = 3 := by simp [decR, decE, h]

theorem hd_toNat (n : Nat) (h : n < 16) : (hd n).toNat = if n < 10 then 48 + n else 87 + n := by
  unfold hd
  simp only [UInt8.toNat_ofNat']
  split <;> omega

theorem val_lt (n : Nat) : val n < 16 := by unfold val; split <;> (try split) <;> omega
theorem isD_hd (n : Nat) (h : n < 16) : isD (hd n).toNat = true := by
  rw [hd_toNat n h]; unfold isD; split <;> simp <;> omega
theorem val_hd (n : Nat) (h : n < 16) : val (hd n).toNat = n := by
  rw [hd_toNat n h]; unfold val; split <;> (split <;> (try split) <;> omega)
theorem hd_val (c : UInt8) (h : isD c.toNat = true) : hd (val c.toNat) = c := by
  apply UInt8.toNat_inj.1
  rw [hd_toNat _ (val_lt _)]
  unfold isD at h
  simp at h
  unfold val
  split <;> (split <;> (try split) <;> omega)

theorem enc_append (l m : List UInt8) : enc (l ++ m) = enc l ++ enc m := by
  induction l with
  | nil => rfl
  | cons b r ih => simp [enc, ih]
theorem enc_length (l : List UInt8) : (enc l).length = 2 * l.length := by
  induction l with
  | nil => rfl
  | cons b r ih => simp [enc, ih]; omega
theorem enc_take (l : List UInt8) (k : Nat) (h : k < l.length) : enc (l.take (k + 1)) = enc (l.take k) ++ [hd (l[k].toNat / 16), hd (l[k].toNat % 16)] := by
  rw [List.take_succ_eq_append_getElem h, enc_append]; rfl

theorem allD_enc (l : List UInt8) : allD (enc l) = true := by
  induction l with
  | nil => rfl
  | cons b r ih =>
    unfold allD at ih ⊢
    have h := b.toNat_lt
    simp only [enc, List.all_cons, isD_hd (b.toNat / 16) (by omega), isD_hd (b.toNat % 16) (by omega), ih, Bool.and_self]
theorem okS_enc (l : List UInt8) : okS (enc l) = true := by
  unfold okS
  simp [enc_length, allD_enc]
theorem decB_enc (l : List UInt8) : decB (enc l) = l := by
  induction l with
  | nil => rfl
  | cons b r ih =>
    have h := b.toNat_lt
    simp only [enc, decB, val_hd (b.toNat / 16) (by omega), val_hd (b.toNat % 16) (by omega), ih]
    congr 1
    apply UInt8.toNat_inj.1
    simp only [UInt8.toNat_ofNat']
    omega
theorem enc_decB : ∀ (l : List UInt8), okS l = true → enc (decB l) = l
  | [], _ => rfl
  | [a], h => by simp [okS] at h
  | a :: b :: r, h => by
    simp only [okS, allD, List.length_cons, List.all_cons, Bool.and_eq_true, decide_eq_true_eq] at h
    have ha := val_lt a.toNat
    have hb := val_lt b.toNat
    have ih := enc_decB r (by simp only [okS, allD, Bool.and_eq_true, decide_eq_true_eq]; exact ⟨by omega, h.2.2.2⟩)
    have e : (UInt8.ofNat (val a.toNat * 16 + val b.toNat)).toNat = val a.toNat * 16 + val b.toNat := by simp only [UInt8.toNat_ofNat']; omega
    simp only [decB, enc, e, ih]
    rw [show (val a.toNat * 16 + val b.toNat) / 16 = val a.toNat by omega, show (val a.toNat * 16 + val b.toNat) % 16 = val b.toNat by omega, hd_val a h.2.1, hd_val b h.2.2.1]

theorem decB_append : ∀ (l m : List UInt8), l.length % 2 = 0 → decB (l ++ m) = decB l ++ decB m
  | [], m, _ => rfl
  | [a], m, h => by simp at h
  | a :: b :: r, m, h => by simp only [List.cons_append, decB, decB_append r m (by simp at h; omega)]
theorem decB_length : ∀ (l : List UInt8), (decB l).length = l.length / 2
  | [] => rfl
  | [a] => by simp [decB]
  | a :: b :: r => by simp only [decB, List.length_cons, decB_length r]; omega
theorem decB_take (l : List UInt8) (k : Nat) (h : 2 * k + 1 < l.length) : decB (l.take (2 * (k + 1))) = decB (l.take (2 * k)) ++ [UInt8.ofNat (val l[2 * k].toNat * 16 + val l[2 * k + 1].toNat)] := by
  have e : l.take (2 * (k + 1)) = l.take (2 * k) ++ [l[2 * k], l[2 * k + 1]] := by
    rw [show 2 * (k + 1) = 2 * k + 1 + 1 by omega, List.take_succ_eq_append_getElem h, List.take_succ_eq_append_getElem (by omega), List.append_assoc]
    rfl
  rw [e, decB_append _ _ (by simp; omega)]
  rfl

theorem allD_get (l : List UInt8) (h : allD l = true) (k : Nat) (hk : k < l.length) : isD l[k].toNat = true := by
  unfold allD at h
  rw [List.all_eq_true] at h
  exact h _ (List.getElem_mem hk)
theorem allD_not (l : List UInt8) (k : Nat) (hk : k < l.length) (h : isD l[k].toNat = false) : allD l = false := by
  cases hh : allD l with
  | false => rfl
  | true => rw [allD_get l hh k hk] at h; cases h
theorem allD_of (l : List UInt8) (h : ∀ k (hk : k < l.length), isD l[k].toNat = true) : allD l = true := by
  unfold allD
  rw [List.all_eq_true]
  intro c hc
  obtain ⟨k, hk, rfl⟩ := List.mem_iff_getElem.1 hc
  exact h k hk
theorem no_great (n : Nat) (h : isD n = true) : ¬ (65 ≤ n ∧ n ≤ 70) := by
  unfold isD at h; simp at h; omega
theorem valI_of (n : Nat) : (isD n = true → valI n = val n) ∧ (isD n = false → valI n = -1) := by
  unfold valI; constructor <;> intro h <;> simp [h]
theorem valI_lt (n : Nat) : valI n < 16 := by
  have := val_lt n
  unfold valI; split <;> omega
/-- A digit's place is its value. -/
theorem valI_hd (n k : Nat) (hk : k < 16) (h : (hd k).toNat = n) : valI n = k := by
  subst h
  rw [(valI_of _).1 (isD_hd k hk), val_hd k hk]
theorem valI_none (n : Nat) (h : ∀ j, j < 16 → (hd j).toNat ≠ n) : valI n = -1 := by
  refine (valI_of n).2 ?_
  cases hh : isD n with
  | false => rfl
  | true =>
    have h1 := h (val n) (val_lt n)
    rw [hd_toNat _ (val_lt n)] at h1
    unfold isD at hh
    simp at hh
    unfold val at h1
    split at h1 <;> (split at h1 <;> (try split at h1) <;> omega)
def okP (l : List UInt8) : Bool := decide (l.length = 64) && okS l
def parR (l : List UInt8) : List UInt8 := if okP l then (decB l).reverse else List.replicate 32 0
def parE (l : List UInt8) : Int := if okP l then 0 else 3
theorem par_ok (l : List UInt8) (h : l.length = 64) (h' : okS l = true) : parR l = (decB l).reverse ∧ parE l = 0 := by simp [parR, parE, okP, h, h']
theorem par_no (l : List UInt8) (h : l.length ≠ 64 ∨ okS l = false) : parR l = List.replicate 32 0 ∧ parE l = 3 := by
  have : okP l = false := by unfold okP; rcases h with h | h <;> simp [h]
  simp [parR, parE, this]
theorem parR_length (l : List UInt8) : (parR l).length = 32 := by
  unfold parR
  split
  · rename_i h
    simp only [okP, Bool.and_eq_true, decide_eq_true_eq] at h
    simp [decB_length, h.1]
  · simp
/-- A name that is written is read as it was. -/
theorem par_name (l : List UInt8) (hl : l.length = 32) : parR (enc l.reverse) = l ∧ parE (enc l.reverse) = 0 := by
  have := par_ok (enc l.reverse) (by simp [enc_length, hl]) (okS_enc _)
  rw [decB_enc, List.reverse_reverse] at this
  exact this
end Go.Proofs.Ytdoopjejihfpaaa
