/-
  Plain mathematics of words that tell slips: the check, the letters, the word of a head and data, what a text is read as.
-/
import Derived.WalkKit
namespace Go.Proofs.YtemgaoikngebeaaDoor

/-- The five numbers of the check. -/
def gk (k : Nat) : Nat := ([996825010, 642813549, 513874426, 1027748829, 705979059] : List Nat).getD k 0
theorem gk_lt (k : Nat) : gk k < 1073741824 := by
  unfold gk
  match k with
  | 0 | 1 | 2 | 3 | 4 => decide
  | k + 5 => simp [List.getD]

/-- What the first k bits of t leave behind. -/
def gx (c t : Nat) : Nat → Nat
  | 0 => c
  | k + 1 => if t / 2 ^ k % 2 = 1 then gx c t k ^^^ gk k else gx c t k
theorem gx_lt (c t : Nat) (h : c < 1073741824) : ∀ k, gx c t k < 1073741824
  | 0 => h
  | k + 1 => by
    unfold gx
    split
    · exact Nat.xor_lt_two_pow (n := 30) (gx_lt c t h k) (gk_lt k)
    · exact gx_lt c t h k
theorem gx_xor (c t : Nat) : ∀ k, gx c t k = c ^^^ gx 0 t k
  | 0 => by simp [gx]
  | k + 1 => by
    unfold gx
    rw [gx_xor c t k]
    split
    · rw [Nat.xor_assoc]
    · rfl

/-- What stands in the check behind it was shifted. -/
def sh (c v : Nat) : Nat := (c % 33554432 * 32) ^^^ (v % 32)
theorem sh_lt (c v : Nat) : sh c v < 1073741824 := Nat.xor_lt_two_pow (n := 30) (by omega) (by omega)
/-- A step of the check. -/
def stp (c v : Nat) : Nat := gx (sh c v) (c / 33554432) 5
theorem stp_lt (c v : Nat) : stp c v < 1073741824 := gx_lt _ _ (sh_lt c v) 5
/-- The check. -/
def ckFrom (c : Nat) (l : List UInt8) : Nat := l.foldl (fun c v => stp c v.toNat) c
def ck (l : List UInt8) : Nat := ckFrom 1 l
theorem ckFrom_lt (l : List UInt8) : ∀ c, c < 1073741824 → ckFrom c l < 1073741824 := by
  induction l with
  | nil => intro c h; exact h
  | cons v l ih => intro c _; exact ih _ (stp_lt _ _)
theorem ck_lt (l : List UInt8) : ck l < 1073741824 := ckFrom_lt l 1 (by decide)
theorem ckFrom_append (l m : List UInt8) (c : Nat) : ckFrom c (l ++ m) = ckFrom (ckFrom c l) m := List.foldl_append
theorem ck_take (l : List UInt8) (k : Nat) (h : k < l.length) : ck (l.take (k + 1)) = stp (ck (l.take k)) l[k].toNat := by
  rw [List.take_succ_eq_append_getElem h, ck, ckFrom_append]; rfl

theorem xor_back (a x : Nat) : (a ^^^ x) ^^^ x = a := by rw [Nat.xor_assoc, Nat.xor_self, Nat.xor_zero]
theorem xor_can {a b x : Nat} (h : a ^^^ x = b ^^^ x) : a = b := by
  have := congrArg (· ^^^ x) h
  simpa [xor_back] using this
theorem xor_can' {a b x : Nat} (h : x ^^^ a = x ^^^ b) : a = b := by
  rw [Nat.xor_comm x a, Nat.xor_comm x b] at h; exact xor_can h
theorem stp_xor (c v : Nat) : stp c v = (c % 33554432 * 32) ^^^ ((v % 32) ^^^ gx 0 (c / 33554432) 5) := by
  rw [stp, gx_xor, sh, Nat.xor_assoc]
theorem gx_low : ∀ t u : Fin 32, gx 0 t.val 5 % 32 = gx 0 u.val 5 % 32 → t = u := by decide +kernel
/-- A step is one-to-one in the check. -/
theorem stp_inj {c d v : Nat} (hc : c < 1073741824) (hd : d < 1073741824) (h : stp c v = stp d v) : c = d := by
  rw [stp_xor, stp_xor] at h
  have h5 := congrArg (· % 2 ^ 5) h
  simp only [Nat.xor_mod_two_pow] at h5
  have e1 : c % 33554432 * 32 % 2 ^ 5 = 0 := by omega
  have e2 : d % 33554432 * 32 % 2 ^ 5 = 0 := by omega
  rw [e1, e2] at h5
  have h6 := xor_can' (xor_can' h5)
  have h7 := gx_low ⟨c / 33554432, by omega⟩ ⟨d / 33554432, by omega⟩ h6
  have h8 : c / 33554432 = d / 33554432 := by simpa using h7
  rw [h8] at h
  have h9 := xor_can h
  omega
theorem stp_val {c v u : Nat} (h : stp c v = stp c u) : v % 32 = u % 32 := by
  rw [stp_xor, stp_xor] at h
  exact xor_can (xor_can' h)
theorem ckFrom_inj (l : List UInt8) : ∀ c d, c < 1073741824 → d < 1073741824 → ckFrom c l = ckFrom d l → c = d := by
  induction l with
  | nil => intro c d _ _ h; exact h
  | cons v l ih => intro c d hc hd h; exact stp_inj hc hd (ih _ _ (stp_lt _ _) (stp_lt _ _) h)
/-- One number another one: another check. -/
theorem ck_slip (l r : List UInt8) (u v : UInt8) (h : ck (l ++ u :: r) = ck (l ++ v :: r)) : u.toNat % 32 = v.toNat % 32 := by
  rw [ck, ckFrom_append, ck, ckFrom_append] at h
  exact stp_val (ckFrom_inj r _ _ (stp_lt _ _) (stp_lt _ _) h)

/-- The numbers of a check's bits, five by five. -/
def six (n : Nat) : List Nat := [n / 33554432 % 32, n / 1048576 % 32, n / 32768 % 32, n / 1024 % 32, n / 32 % 32, n % 32]
theorem six_inj {m n : Nat} (hm : m < 1073741824) (hn : n < 1073741824) (h : six m = six n) : m = n := by
  simp only [six, List.cons.injEq] at h
  omega
theorem six_lt (n : Nat) : ∀ v ∈ six n, v < 32 := by
  intro v hv
  simp only [six, List.mem_cons, List.not_mem_nil, or_false] at hv
  omega

/-- What the check lacks of its aim. -/
def lack (n : Nat) : Nat := n ^^^ 734539939
theorem lack_lt {n : Nat} (h : n < 1073741824) : lack n < 1073741824 := Nat.xor_lt_two_pow (n := 30) h (by decide)
theorem lack_inj {m n : Nat} (h : lack m = lack n) : m = n := xor_can h

/-- What is checked of a head. -/
def hrow (h : List UInt8) : List UInt8 := h.map (fun c => UInt8.ofNat (c.toNat / 32)) ++ [0] ++ h.map (fun c => UInt8.ofNat (c.toNat % 32))
def zeros6 : List UInt8 := [0, 0, 0, 0, 0, 0]
/-- The six that close the word of a head and data. -/
def lacks (h d : List UInt8) : Nat := lack (ck (hrow h ++ d ++ zeros6))
def closeL (h d : List UInt8) : List UInt8 := (six (lacks h d)).map UInt8.ofNat
theorem lacks_lt (h d : List UInt8) : lacks h d < 1073741824 := lack_lt (ck_lt _)
theorem closeL_length (h d : List UInt8) : (closeL h d).length = 6 := rfl
theorem closeL_lt (h d : List UInt8) : ∀ v ∈ closeL h d, v.toNat < 32 := by
  intro v hv
  simp only [closeL, List.mem_map] at hv
  obtain ⟨n, hn, rfl⟩ := hv
  have := six_lt _ n hn
  simp only [UInt8.toNat_ofNat']
  omega

/-- The letters. -/
def lets : List UInt8 := [113, 112, 122, 114, 121, 57, 120, 56, 103, 102, 50, 116, 118, 100, 119, 48, 115, 51, 106, 110, 53, 52, 107, 104, 99, 101, 54, 109, 117, 97, 55, 108]
def letA (v : UInt8) : UInt8 := lets.getD v.toNat 0
def plc (c : UInt8) : Nat := lets.idxOf c
theorem forall_u8 {p : UInt8 → Prop} (h : ∀ k : Fin 256, p (UInt8.ofNat k.val)) (c : UInt8) : p c := by
  have := h ⟨c.toNat, c.toNat_lt⟩
  simpa using this
theorem plc_let (v : UInt8) (h : v.toNat < 32) : plc (letA v) = v.toNat :=
  forall_u8 (p := fun v => v.toNat < 32 → plc (letA v) = v.toNat) (by decide +kernel) v h
theorem let_plc (c : UInt8) (h : plc c < 32) : letA (UInt8.ofNat (plc c)) = c :=
  forall_u8 (p := fun c => plc c < 32 → letA (UInt8.ofNat (plc c)) = c) (by decide +kernel) c h
theorem let_ne (v : UInt8) : letA v ≠ 49 := forall_u8 (p := fun v => letA v ≠ 49) (by decide +kernel) v
theorem let_inj {u v : UInt8} (hu : u.toNat < 32) (hv : v.toNat < 32) (h : letA u = letA v) : u = v := by
  have h1 := plc_let u hu
  rw [h, plc_let v hv] at h1
  exact UInt8.toNat_inj.1 h1.symm
theorem let_map_inj : ∀ {l m : List UInt8}, (∀ v ∈ l, v.toNat < 32) → (∀ v ∈ m, v.toNat < 32) → l.map letA = m.map letA → l = m
  | [], [], _, _, _ => rfl
  | [], _ :: _, _, _, h => by simp at h
  | _ :: _, [], _, _, h => by simp at h
  | u :: l, v :: m, hl, hm, h => by
    simp only [List.map_cons, List.cons.injEq] at h
    rw [let_inj (hl u (by simp)) (hm v (by simp)) h.1, let_map_inj (fun x hx => hl x (by simp [hx])) (fun x hx => hm x (by simp [hx])) h.2]

/-- May a head and data be? -/
def headOk (h : List UInt8) : Bool := decide (1 ≤ h.length) && (decide (h.length ≤ 20) && h.all (fun c => decide (97 ≤ c.toNat) && decide (c.toNat ≤ 122)))
def dataOk (d : List UInt8) : Bool := decide (d.length ≤ 80) && d.all (fun c => decide (c.toNat ≤ 31))
def hdOk (h d : List UInt8) : Bool := headOk h && dataOk d
def wordL (h d : List UInt8) : List UInt8 := h ++ [49] ++ d.map letA ++ (closeL h d).map letA
def encL (h d : List UInt8) : List UInt8 := if hdOk h d = true then wordL h d else []
def encE (h d : List UInt8) : Int := if hdOk h d = true then 0 else 1
theorem enc_ok {h d : List UInt8} (k : hdOk h d = true) : encL h d = wordL h d ∧ encE h d = 0 := ⟨if_pos k, if_pos k⟩
theorem enc_no {h d : List UInt8} (k : hdOk h d = false) : encL h d = [] ∧ encE h d = 1 := ⟨by simp [encL, k], by simp [encE, k]⟩
theorem wordL_length (h d : List UInt8) : (wordL h d).length = h.length + d.length + 7 := by simp [wordL, closeL_length]; omega
theorem hdOk_len {h d : List UInt8} (k : hdOk h d = true) : 1 ≤ h.length ∧ h.length ≤ 20 ∧ d.length ≤ 80 ∧ ∀ v ∈ d, v.toNat < 32 := by
  simp only [hdOk, headOk, dataOk, Bool.and_eq_true, decide_eq_true_eq, List.all_eq_true] at k
  exact ⟨k.1.1, k.1.2.1, k.2.1, fun v hv => Nat.lt_succ_of_le (k.2.2 v hv)⟩

/-- The last place of a 1, from the end: how many bytes stand behind it. -/
def behind (s : List UInt8) : Nat := s.reverse.idxOf 49
/-- Is there a 1, and are six bytes behind it? -/
def cutOk (s : List UInt8) : Bool := decide (behind s < s.length) && decide (6 ≤ behind s)
def place (s : List UInt8) : Nat := s.length - 1 - behind s
def headOf (s : List UInt8) : List UInt8 := s.take (place s)
def midOf (s : List UInt8) : List UInt8 := (s.take (s.length - 6)).drop (place s + 1)
def isLet (c : UInt8) : Bool := decide (plc c < 32)
def numsOf (m : List UInt8) : List UInt8 := m.map fun c => UInt8.ofNat (plc c)
def dataOf (s : List UInt8) : List UInt8 := numsOf (midOf s)
/-- Is it a word? -/
def decOk (s : List UInt8) : Bool := cutOk s && ((midOf s).all isLet && (hdOk (headOf s) (dataOf s) && decide (wordL (headOf s) (dataOf s) = s)))
def decH (s : List UInt8) : List UInt8 := if decOk s = true then headOf s else []
def decD (s : List UInt8) : List UInt8 := if decOk s = true then dataOf s else []
def decF (s : List UInt8) : Int := if decOk s = true then 0 else 3
theorem dec_ok {s : List UInt8} (k : decOk s = true) : decH s = headOf s ∧ decD s = dataOf s ∧ decF s = 0 := ⟨if_pos k, if_pos k, if_pos k⟩
theorem dec_no {s : List UInt8} (k : decOk s = false) : decH s = [] ∧ decD s = [] ∧ decF s = 3 := ⟨by simp [decH, k], by simp [decD, k], by simp [decF, k]⟩

/-- A text whose letters behind the head are no 1. -/
theorem behind_of (h t : List UInt8) (ht : ∀ c ∈ t, c ≠ 49) : behind (h ++ [49] ++ t) = t.length := by
  unfold behind
  simp only [List.reverse_append, List.reverse_cons, List.reverse_nil, List.nil_append]
  rw [List.idxOf_append, if_neg (by simp only [List.mem_reverse]; exact fun hm => ht 49 hm rfl)]
  simp
theorem cut_of (h t : List UInt8) (ht : ∀ c ∈ t, c ≠ 49) (h6 : 6 ≤ t.length) : cutOk (h ++ [49] ++ t) = true ∧ headOf (h ++ [49] ++ t) = h ∧ midOf (h ++ [49] ++ t) = t.take (t.length - 6) := by
  have hb := behind_of h t ht
  have hp : place (h ++ [49] ++ t) = h.length := by simp only [place, hb, List.length_append, List.length_cons, List.length_nil]; omega
  refine ⟨?_, ?_, ?_⟩
  · simp only [cutOk, hb, List.length_append, List.length_cons, List.length_nil, Bool.and_eq_true, decide_eq_true_eq]; omega
  · rw [headOf, hp, List.append_assoc, List.take_left]
  · rw [midOf, hp]
    have e : (h ++ [49] ++ t).length - 6 = (h ++ [49]).length + (t.length - 6) := by simp only [List.length_append, List.length_cons, List.length_nil]; omega
    rw [e, List.take_length_add_append, show h.length + 1 = (h ++ [49]).length by simp, List.drop_left]
theorem nums_let (d : List UInt8) (hd : ∀ v ∈ d, v.toNat < 32) : (d.map letA).all isLet = true ∧ numsOf (d.map letA) = d := by
  constructor
  · simp only [List.all_map, List.all_eq_true, Function.comp_apply, isLet, decide_eq_true_eq]
    intro v hv
    rw [plc_let v (hd v hv)]; exact hd v hv
  · unfold numsOf
    rw [List.map_map]
    conv => rhs; rw [← List.map_id d]
    apply List.map_congr_left
    intro v hv
    simp [plc_let v (hd v hv)]
theorem tail_ne (l : List UInt8) : ∀ c ∈ l.map letA, c ≠ 49 := by
  intro c hc
  simp only [List.mem_map] at hc
  obtain ⟨v, _, rfl⟩ := hc
  exact let_ne v
/-- What a text of a head, a 1, and letters is read as. -/
theorem read_of (h d x : List UInt8) (hd : ∀ v ∈ d, v.toNat < 32) (hx : x.length = 6) :
    let s := h ++ [49] ++ (d ++ x).map letA
    cutOk s = true ∧ headOf s = h ∧ (midOf s).all isLet = true ∧ dataOf s = d := by
  intro s
  obtain ⟨h1, h2, h3⟩ := cut_of h ((d ++ x).map letA) (tail_ne _) (by simp [hx])
  have h4 : midOf s = d.map letA := by
    show midOf _ = _
    rw [h3]; simp [hx]
  refine ⟨h1, h2, ?_, ?_⟩
  · rw [h4]; exact (nums_let d hd).1
  · rw [dataOf, h4]; exact (nums_let d hd).2
/-- There and back. -/
theorem dec_word {h d : List UInt8} (k : hdOk h d = true) : decOk (wordL h d) = true ∧ headOf (wordL h d) = h ∧ dataOf (wordL h d) = d := by
  have hd := (hdOk_len k).2.2.2
  have e : wordL h d = h ++ [49] ++ (d ++ closeL h d).map letA := by simp [wordL]
  obtain ⟨h1, h2, h3, h4⟩ := read_of h d (closeL h d) hd rfl
  rw [← e] at h1 h2 h3 h4
  refine ⟨?_, h2, h4⟩
  simp only [decOk, h1, h2, h3, h4, k, Bool.true_and, decide_true]
/-- A slip: a letter behind the 1 another one. -/
theorem dec_slip {h d : List UInt8} (k : hdOk h d = true) (at_ : Nat) (u : UInt8) (hu : u.toNat < 32) (h1 : h.length < at_) (h2 : at_ < (wordL h d).length) (hne : (wordL h d)[at_] ≠ letA u) :
    decOk ((wordL h d).set at_ (letA u)) = false := by
  obtain ⟨_, _, h80, hd⟩ := hdOk_len k
  obtain ⟨i, rfl⟩ : ∃ i, at_ = h.length + 1 + i := ⟨at_ - (h.length + 1), by omega⟩
  have e : wordL h d = (h ++ [49]) ++ (d ++ closeL h d).map letA := by simp [wordL]
  have hi : i < (d ++ closeL h d).length := by rw [wordL_length] at h2; simp [closeL_length]; omega
  have es : (wordL h d).set (h.length + 1 + i) (letA u) = h ++ [49] ++ ((d ++ closeL h d).set i u).map letA := by
    rw [e, show h.length + 1 + i = (h ++ [49]).length + i by simp, List.set_append_right _ _ (by omega), Nat.add_sub_cancel_left, List.map_set]
  have hget : (wordL h d)[h.length + 1 + i]? = some (letA (d ++ closeL h d)[i]) := by
    rw [e, show h.length + 1 + i = (h ++ [49]).length + i by simp, List.getElem?_append_right (by omega), Nat.add_sub_cancel_left, List.getElem?_map, List.getElem?_eq_getElem hi]; rfl
  rw [List.getElem?_eq_getElem h2] at hget
  have hget' := Option.some.inj hget
  rw [hget'] at hne
  rw [es]
  by_cases hid : i < d.length
  · have e2 : (d ++ closeL h d).set i u = d.set i u ++ closeL h d := List.set_append_left _ _ hid
    have hd' : ∀ v ∈ d.set i u, v.toNat < 32 := by
      intro v hv
      rcases List.mem_or_eq_of_mem_set hv with hv | rfl
      · exact hd v hv
      · exact hu
    obtain ⟨_, r2, _, r4⟩ := read_of h (d.set i u) (closeL h d) hd' rfl
    rw [e2]
    simp only [decOk, r2, r4]
    have hno : decide (wordL h (d.set i u) = h ++ [49] ++ (d.set i u ++ closeL h d).map letA) = false := by
      rw [decide_eq_false_iff_not]
      intro hw
      have e3 : wordL h (d.set i u) = h ++ [49] ++ ((d.set i u).map letA ++ (closeL h (d.set i u)).map letA) := by simp [wordL]
      rw [e3, List.map_append] at hw
      have hw2 := List.append_cancel_left (List.append_cancel_left hw)
      have hw3 := let_map_inj (closeL_lt _ _) (closeL_lt _ _) hw2
      have hw4 : six (lacks h (d.set i u)) = six (lacks h d) := by
        have hm := congrArg (List.map UInt8.toNat) hw3
        have q : ∀ n, ((six n).map UInt8.ofNat).map UInt8.toNat = six n := by
          intro n
          have q1 : ∀ x : Nat, x % 32 % 2 ^ 8 = x % 32 := by intro x; omega
          simp only [six, List.map_cons, List.map_nil, UInt8.toNat_ofNat', q1]
        simpa only [closeL, q] using hm
      have hw5 := lack_inj (six_inj (lacks_lt _ _) (lacks_lt _ _) hw4)
      have ed : d = d.take i ++ d[i] :: d.drop (i + 1) := by simp
      have ed' : d.set i u = d.take i ++ u :: d.drop (i + 1) := by rw [List.set_eq_take_append_cons_drop, if_pos hid]
      rw [ed'] at hw5
      conv at hw5 => rhs; rw [ed]
      have hw6 := ck_slip (hrow h ++ d.take i) (d.drop (i + 1) ++ zeros6) u d[i] (by simpa only [List.append_assoc, List.cons_append] using hw5)
      have hdi := hd d[i] (List.getElem_mem hid)
      have : u = d[i] := UInt8.toNat_inj.1 (by omega)
      apply hne
      rw [List.getElem_append_left hid, this]
    rw [hno]
    simp
  · have e2 : (d ++ closeL h d).set i u = d ++ (closeL h d).set (i - d.length) u := List.set_append_right _ _ (by omega)
    obtain ⟨_, r2, _, r4⟩ := read_of h d ((closeL h d).set (i - d.length) u) hd (by simp [closeL_length])
    rw [e2]
    simp only [decOk, r2, r4]
    have hno : decide (wordL h d = h ++ [49] ++ (d ++ (closeL h d).set (i - d.length) u).map letA) = false := by
      rw [decide_eq_false_iff_not]
      intro hw
      rw [e] at hw
      have hw2 := List.append_cancel_left hw
      rw [List.map_append, List.map_append] at hw2
      have hw3 := List.append_cancel_left hw2
      apply hne
      have hi2 : i - d.length < (closeL h d).length := by simp at hi; omega
      have hg := congrArg (·[i - d.length]?) hw3
      simp only [List.getElem?_map, List.getElem?_set_self hi2, List.getElem?_eq_getElem hi2, Option.map_some, Option.some.injEq] at hg
      rw [List.getElem_append_right (by omega), hg]
    rw [hno]
    simp
end Go.Proofs.YtemgaoikngebeaaDoor
