/-
  Plain mathematics: a number's figures, an amount as it is written, and what a text is read as. No program in this text.
-/
import Derived.Lib.ItoaNum
namespace Go.Proofs.YtfdbnkmjnmcnlaaDoor

/-- A number's figures, so many at least. -/
def figs (n k : Nat) : List UInt8 := if n = 0 ∧ k = 0 then [] else figs (n / 10) (k - 1) ++ [UInt8.ofNat (48 + n % 10)]
  termination_by n + k
  decreasing_by omega

theorem figs_zero : figs 0 0 = [] := by rw [figs]; simp
theorem figs_step (n k : Nat) (h : ¬ (n = 0 ∧ k = 0)) : figs n k = figs (n / 10) (k - 1) ++ [UInt8.ofNat (48 + n % 10)] := by rw [figs, if_neg h]
theorem figs_pos (n : Nat) (h : 0 < n) : figs n 0 = figs n 1 := by rw [figs_step n 0 (by omega), figs_step n 1 (by omega)]
theorem dec_eq (n : Nat) : Lib.decDigits n = figs n 1 := by
  induction n using Nat.strongRecOn with
  | ind n ih =>
    rw [Lib.decDigits, figs_step n 1 (by omega)]
    by_cases h : n < 10
    · rw [dif_pos h, show n / 10 = 0 by omega, figs_zero, show n % 10 = n by omega]; rfl
    · rw [dif_neg h, ih (n / 10) (by omega), figs_pos _ (by omega)]
theorem dec_one (k r : Nat) (h : r < 10 ^ k) : Lib.decDigits (10 ^ k + r) = 49 :: figs r k := by
  induction k generalizing r with
  | zero =>
    obtain rfl : r = 0 := by simpa using h
    rw [figs_zero, Lib.decDigits_one (by simp)]
    rfl
  | succ k ih =>
    have hp : 0 < 10 ^ k := Nat.pow_pos (by omega)
    have e : 10 ^ (k + 1) = 10 ^ k * 10 := Nat.pow_succ 10 k
    rw [Lib.decDigits, dif_neg (by omega), show (10 ^ (k + 1) + r) / 10 = 10 ^ k + r / 10 by omega, show (10 ^ (k + 1) + r) % 10 = r % 10 by omega, ih (r / 10) (by omega), figs_step r (k + 1) (by omega)]
    rfl

/-- An amount, written. -/
def printL (v : Nat) : List UInt8 := figs (v / 100000000) 1 ++ 46 :: figs (v % 100000000) 8
theorem print_eq (v : Nat) : Lib.decDigits (v / 100000000) ++ 46 :: (Lib.decDigits (100000000 + v % 100000000)).drop 1 = printL v := by
  have := dec_one 8 (v % 100000000) (by omega)
  rw [show (100000000 : Nat) = 10 ^ 8 by decide, dec_one 8 (v % 10 ^ 8) (by omega), dec_eq]
  rfl

/-- Figures. -/
def isF (c : UInt8) : Bool := 48 ≤ c.toNat && c.toNat ≤ 57
theorem isF_iff (c : UInt8) : isF c = true ↔ 48 ≤ c.toNat ∧ c.toNat ≤ 57 := by simp [isF]
theorem figs_isF (n k : Nat) : ∀ c ∈ figs n k, isF c = true := by
  induction n, k using figs.induct with
  | case1 n k h => obtain ⟨rfl, rfl⟩ := h; rw [figs_zero]; simp
  | case2 n k h ih =>
    rw [figs_step n k h]
    intro c hc
    rcases List.mem_append.1 hc with hc | hc
    · exact ih c hc
    · simp at hc; subst hc; rw [isF_iff]; simp [UInt8.toNat_ofNat']; omega
theorem figs_length_le (k : Nat) : ∀ n, n < 10 ^ k → (figs n k).length = k := by
  induction k with
  | zero => intro n h; obtain rfl : n = 0 := by simpa using h
            rw [figs_zero]; rfl
  | succ k ih =>
    intro n h
    have e : 10 ^ (k + 1) = 10 ^ k * 10 := Nat.pow_succ 10 k
    rw [figs_step n (k + 1) (by omega), List.length_append, Nat.add_sub_cancel, ih (n / 10) (by omega)]
    rfl

/-- What figures are worth. -/
def val (n : Nat) (l : List UInt8) : Nat := l.foldl (fun n c => 10 * n + (c.toNat - 48)) n
theorem val_append (n : Nat) (l m : List UInt8) : val n (l ++ m) = val (val n l) m := by simp [val]
theorem val_shift (l : List UInt8) : ∀ n, val n l = n * 10 ^ l.length + val 0 l := by
  induction l with
  | nil => intro n; simp [val]
  | cons c l ih =>
    intro n
    have e1 : val n (c :: l) = val (10 * n + (c.toNat - 48)) l := rfl
    have e2 : val 0 (c :: l) = val (10 * 0 + (c.toNat - 48)) l := rfl
    rw [e1, e2, ih, ih (10 * 0 + (c.toNat - 48)), List.length_cons, Nat.pow_succ, Nat.add_mul, Nat.mul_comm 10 n, Nat.mul_assoc n, Nat.mul_comm 10 (10 ^ l.length), Nat.mul_zero, Nat.zero_add]
    omega
theorem val_figs (n k : Nat) : val 0 (figs n k) = n := by
  induction n, k using figs.induct with
  | case1 n k h => obtain ⟨rfl, rfl⟩ := h; rw [figs_zero]; rfl
  | case2 n k h ih =>
    rw [figs_step n k h, val_append, ih]
    simp only [val, List.foldl_cons, List.foldl_nil, UInt8.toNat_ofNat']
    omega

/-- The same, held at C. -/
def capS (C n d : Nat) : Nat := if 10 * n + d ≤ C then 10 * n + d else C
def cap (C n : Nat) (l : List UInt8) : Nat := l.foldl (fun n c => capS C n (c.toNat - 48)) n
theorem cap_nil (C n : Nat) : cap C n [] = n := rfl
theorem cap_cons (C n : Nat) (c : UInt8) (l : List UInt8) : cap C n (c :: l) = cap C (capS C n (c.toNat - 48)) l := by unfold cap; rw [List.foldl_cons]
theorem cap_append (C n : Nat) (l m : List UInt8) : cap C n (l ++ m) = cap C (cap C n l) m := by simp [cap]
theorem cap_le (C : Nat) (l : List UInt8) : ∀ n, n ≤ C → cap C n l ≤ C := by
  induction l with
  | nil => intro n h; exact h
  | cons c l ih => intro n h; rw [cap_cons]; apply ih; unfold capS; split <;> omega
theorem cap_val (C : Nat) (l : List UInt8) : ∀ n m, n = min m C → cap C n l = min (val m l) C := by
  induction l with
  | nil => intro n m h; exact h
  | cons c l ih =>
    intro n m h
    rw [cap_cons]
    show _ = min (val (10 * m + (c.toNat - 48)) l) C
    apply ih
    unfold capS
    split <;> omega
theorem cap_pos (C : Nat) (hC : 0 < C) (l : List UInt8) : ∀ n, 0 < n → 0 < cap C n l := by
  induction l with
  | nil => intro n h; exact h
  | cons c l ih => intro n h; rw [cap_cons]; apply ih; unfold capS; split <;> omega

/-! The document's reading: figures ahead, maybe a point and figures behind. -/

/-- How many figures stand at the beginning. -/
def nF : List UInt8 → Nat
  | [] => 0
  | c :: l => if isF c = true then nF l + 1 else 0
theorem nF_le (l : List UInt8) : nF l ≤ l.length := by
  induction l with
  | nil => exact Nat.le_refl _
  | cons c l ih => unfold nF; split <;> simp <;> omega
def whole (l : List UInt8) : List UInt8 := l.take (nF l)
def part (l : List UInt8) : List UInt8 := l.drop (nF l + 1)
/-- So written? -/
def okH (l : List UInt8) : Bool := nF l != 0 && !(decide (1 < nF l) && l.head? == some 48)
def okT (l : List UInt8) : Bool := nF l == l.length || (l[nF l]? == some 46 && nF (part l) == (part l).length && decide (1 ≤ (part l).length) && decide ((part l).length ≤ 8))
def okL (l : List UInt8) : Bool := okH l && okT l
def zeros (n : Nat) : List UInt8 := List.replicate n 48
def allL (l : List UInt8) : List UInt8 := whole l ++ (part l ++ zeros (8 - (part l).length))
def valL (C : Nat) (l : List UInt8) : Nat := cap C 0 (allL l)
/-- What a text is read as, amounts being below C: the number, and the error. -/
def parseV (C : Nat) (l : List UInt8) : Nat := if okL l = true ∧ valL C l < C then valL C l else 0
def parseE (C : Nat) (l : List UInt8) : Int := if okL l = true then (if valL C l < C then 0 else 31) else 3
theorem parse_no {C : Nat} {l : List UInt8} (h : okL l = false) : parseV C l = 0 ∧ parseE C l = 3 := by simp [parseV, parseE, h]
theorem parse_high {C : Nat} {l : List UInt8} (h : okL l = true) (h2 : ¬ valL C l < C) : parseV C l = 0 ∧ parseE C l = 31 := by simp [parseV, parseE, h, h2]
theorem parse_ok {C : Nat} {l : List UInt8} (h : okL l = true) (h2 : valL C l < C) : parseV C l = valL C l ∧ parseE C l = 0 := by simp [parseV, parseE, h, h2]

/-! The program's reading: sign by sign. -/
structure St where
  v : Nat
  a : Nat
  b : Nat
  p : Bool
def st0 : St := ⟨0, 0, 0, false⟩
def stepS (C : Nat) (s : St) (c : Nat) : Option St :=
  if c = 46 then (if s.p = true then none else some { s with p := true })
  else if c < 48 ∨ 57 < c then none
  else if s.p = true then (if s.b = 8 then none else some { s with b := s.b + 1, v := capS C s.v (c - 48) })
  else (if 0 < s.a ∧ s.v = 0 then none else some { s with a := s.a + 1, v := capS C s.v (c - 48) })
def runS (C : Nat) : St → List UInt8 → Option St
  | s, [] => some s
  | s, c :: l => match stepS C s c.toNat with
    | none => none
    | some s' => runS C s' l
theorem runS_cons_some {C : Nat} {s s' : St} {c : UInt8} {l : List UInt8} (h : stepS C s c.toNat = some s') : runS C s (c :: l) = runS C s' l := by rw [runS, h]
theorem runS_cons_none {C : Nat} {s : St} {c : UInt8} {l : List UInt8} (h : stepS C s c.toNat = none) : runS C s (c :: l) = none := by rw [runS, h]
def mayEnd (s : St) : Bool := decide (0 < s.a) && (s.p == decide (0 < s.b))
def fillS (C : Nat) (s : St) : Nat := cap C s.v (zeros (8 - s.b))

/-- Behind the point. -/
theorem run_behind (C : Nat) (l : List UInt8) : ∀ s : St, s.p = true → s.b ≤ 8 →
    runS C s l = if nF l = l.length ∧ s.b + l.length ≤ 8 then some { s with b := s.b + l.length, v := cap C s.v l } else none := by
  induction l with
  | nil => intro s hp hb; simp [runS, nF, cap_nil, hb]
  | cons c l ih =>
    intro s hp hb
    by_cases hf : isF c = true
    · have h1 := (isF_iff c).1 hf
      by_cases h8 : s.b = 8
      · rw [runS_cons_none (by unfold stepS; rw [if_neg (by omega), if_neg (by omega), if_pos hp, if_pos h8]), if_neg (by simp; omega)]
      · rw [runS_cons_some (by unfold stepS; rw [if_neg (by omega), if_neg (by omega), if_pos hp, if_neg h8]), ih { s with b := s.b + 1, v := capS C s.v (c.toNat - 48) } hp (by show s.b + 1 ≤ 8; omega)]
        simp only [nF, hf, if_true, List.length_cons, cap_cons, Nat.add_right_cancel_iff]
        rw [show s.b + 1 + l.length = s.b + (l.length + 1) by omega]
    · have hno : stepS C s c.toNat = none := by
        unfold stepS
        by_cases h46 : c.toNat = 46
        · rw [if_pos h46, if_pos hp]
        · rw [if_neg h46, if_pos]
          rw [isF_iff] at hf; omega
      rw [runS_cons_none hno, if_neg]
      simp [nF, hf]

/-- Ahead of the point, where a figure stands that is no nought. -/
theorem run_ahead (C : Nat) (hC : 0 < C) (l : List UInt8) : ∀ s : St, s.p = false → 0 < s.a → 0 < s.v →
    runS C s l = runS C { s with a := s.a + nF l, v := cap C s.v (l.take (nF l)) } (l.drop (nF l)) := by
  induction l with
  | nil => intro s hp ha hv; simp [nF, cap_nil]
  | cons c l ih =>
    intro s hp ha hv
    by_cases hf : isF c = true
    · have h1 := (isF_iff c).1 hf
      have hpos : 0 < capS C s.v (c.toNat - 48) := by unfold capS; split <;> omega
      rw [runS_cons_some (by unfold stepS; rw [if_neg (by omega), if_neg (by omega), if_neg (by simp [hp]), if_neg (by omega)]), ih { s with a := s.a + 1, v := capS C s.v (c.toNat - 48) } hp (by show 0 < s.a + 1; omega) hpos]
      simp only [nF, hf, if_true, List.take_succ_cons, List.drop_succ_cons, cap_cons]
      rw [show s.a + 1 + nF l = s.a + (nF l + 1) by omega]
    · simp [nF, hf, cap_nil]

/-- What stands behind the figures. -/
theorem nF_end (l : List UInt8) (h : nF l < l.length) : ∃ c, l[nF l]? = some c ∧ isF c = false ∧ l.drop (nF l) = c :: part l := by
  induction l with
  | nil => simp at h
  | cons c l ih =>
    by_cases hf : isF c = true
    · simp only [nF, hf, if_true, List.length_cons] at h
      obtain ⟨d, h1, h2, h3⟩ := ih (by omega)
      refine ⟨d, ?_, h2, ?_⟩
      · simpa [nF, hf] using h1
      · simpa [nF, hf, part] using h3
    · refine ⟨c, ?_, by simpa using hf, ?_⟩ <;> simp [nF, hf, part]

/-- A sign behind the figures that is no point, or a point. -/
theorem run_tail (C : Nat) (s : St) (l : List UInt8) (hp : s.p = false) (hb : s.b = 0) (ha : 0 < s.a) :
    (okT l = true → ∃ s', runS C s (l.drop (nF l)) = some s' ∧ mayEnd s' = true ∧ fillS C s' = cap C s.v (part l ++ zeros (8 - (part l).length))) ∧
    (okT l = false → ∀ s', runS C s (l.drop (nF l)) = some s' → mayEnd s' = false) := by
  by_cases hn : nF l = l.length
  · have e : l.drop (nF l) = [] := by rw [hn]; simp
    have e2 : part l = [] := by simp [part, hn]
    rw [e, e2]
    refine ⟨fun _ => ⟨s, rfl, by simp [mayEnd, ha, hp, hb], by simp [fillS, hb]⟩, fun h => ?_⟩
    simp [okT, hn] at h
  · have hlt : nF l < l.length := by have := nF_le l; omega
    obtain ⟨c, h1, h2, h3⟩ := nF_end l hlt
    rw [h3]
    by_cases h46 : c.toNat = 46
    · obtain rfl : c = 46 := UInt8.toNat_inj.1 h46
      rw [runS_cons_some (s' := { s with p := true }) (by unfold stepS; rw [if_pos h46, if_neg (by simp [hp])]), run_behind C (part l) _ rfl (by show s.b ≤ 8; omega)]
      have hok : okT l = (nF (part l) == (part l).length && decide (1 ≤ (part l).length) && decide ((part l).length ≤ 8)) := by
        simp [okT, h1, hn]
      rw [hok]
      refine ⟨fun h => ?_, fun h s' hs' => ?_⟩
      · simp only [Bool.and_eq_true, beq_iff_eq, decide_eq_true_eq] at h
        refine ⟨_, if_pos ⟨h.1.1, by show s.b + _ ≤ 8; omega⟩, ?_, ?_⟩
        · simp [mayEnd, ha, hb]; omega
        · simp only [fillS, hb, Nat.zero_add]; rw [cap_append]
      · split at hs'
        · rename_i hh
          obtain rfl := Option.some.inj hs'
          have hlen : (part l).length = 0 := by
            simp only [Bool.and_eq_false_iff, decide_eq_false_iff_not, beq_eq_false_iff_ne] at h
            have h1 := hh.1
            have h2 : s.b + (part l).length ≤ 8 := hh.2
            omega
          simp [mayEnd, hb, hlen]
        · cases hs'
    · have hno : stepS C s c.toNat = none := by
        unfold stepS
        rw [if_neg h46, if_pos]
        have : ¬ isF c = true := by simp [h2]
        rw [isF_iff] at this; omega
      rw [runS_cons_none hno]
      have hok : okT l = false := by
        simp only [okT, h1]
        have : (some c == some (46 : UInt8)) = false := by
          simp; intro hc; apply h46; rw [hc]; rfl
        simp [this, hn]
      exact ⟨fun h => (by simp [hok] at h), fun _ s' hs' => by cases hs'⟩

/-- The program's reading is the document's. -/
theorem run_parse (C : Nat) (hC : 9 < C) (l : List UInt8) :
    (okL l = true → ∃ s, runS C st0 l = some s ∧ mayEnd s = true ∧ fillS C s = valL C l) ∧
    (okL l = false → ∀ s, runS C st0 l = some s → mayEnd s = false) := by
  cases l with
  | nil => exact ⟨fun h => (by simp [okL, okH, nF] at h), fun _ s hs => by cases hs; rfl⟩
  | cons c l =>
    by_cases hf : isF c = true
    · have h1 := (isF_iff c).1 hf
      have hstep : stepS C st0 c.toNat = some ⟨c.toNat - 48, 1, 0, false⟩ := by
        unfold stepS
        rw [if_neg (by omega), if_neg (by omega), if_neg (by simp [st0]), if_neg (by simp [st0])]
        simp [st0, capS]; omega
      have hcap : ∀ m : List UInt8, cap C (c.toNat - 48) m = cap C 0 (c :: m) := fun m => by rw [cap_cons]; congr 1; unfold capS; split <;> omega
      have hval : valL C (c :: l) = cap C (cap C (c.toNat - 48) (l.take (nF l))) (part (c :: l) ++ zeros (8 - (part (c :: l)).length)) := by
        rw [valL, allL, cap_append, whole]
        simp only [nF, hf, if_true, List.take_succ_cons]
        rw [hcap]
      rw [runS_cons_some hstep]
      have hdrop : l.drop (nF l) = (c :: l).drop (nF (c :: l)) := by simp [nF, hf]
      by_cases h0 : c.toNat = 48
      · -- a nought ahead
        have hc : c = 48 := UInt8.toNat_inj.1 h0
        by_cases hn : nF l = 0
        · have ht := run_tail C ⟨c.toNat - 48, 1, 0, false⟩ (c :: l) rfl rfl (by show 0 < 1; omega)
          have hok : okL (c :: l) = okT (c :: l) := by simp [okL, okH, nF, hf, hn]
          rw [← hdrop, hn] at ht
          rw [hok, hval, hn]
          exact ht
        · -- another figure behind it
          have hok : okL (c :: l) = false := by
            have hf8 : isF 48 = true := by decide
            simp [okL, okH, nF, hc, hf8]
            intro h; omega
          refine ⟨fun h => (by rw [hok] at h; cases h), fun _ s hs => ?_⟩
          cases l with
          | nil => simp [nF] at hn
          | cons d l =>
            have hd : isF d = true := by
              by_cases hd : isF d = true
              · exact hd
              · simp [nF, hd] at hn
            have h2 := (isF_iff d).1 hd
            rw [runS_cons_none (by unfold stepS; rw [if_neg (by omega), if_neg (by omega), if_neg (by simp), if_pos (by simp; omega)])] at hs
            cases hs
      · have ht := run_tail C ⟨cap C (c.toNat - 48) (l.take (nF l)), 1 + nF l, 0, false⟩ (c :: l) rfl rfl (by show 0 < 1 + nF l; omega)
        have hok : okL (c :: l) = okT (c :: l) := by
          have : (some c == some (48 : UInt8)) = false := by
            simp; intro hc; apply h0; rw [hc]; rfl
          simp [okL, okH, nF, hf, this]
        rw [run_ahead C (by omega) l ⟨c.toNat - 48, 1, 0, false⟩ rfl (by show 0 < 1; omega) (by show 0 < c.toNat - 48; omega)]
        rw [← hdrop] at ht
        rw [hok, hval]
        exact ht
    · -- no figure ahead
      have hok : okL (c :: l) = false := by simp [okL, okH, nF, hf]
      refine ⟨fun h => (by rw [hok] at h; cases h), fun _ s hs => ?_⟩
      by_cases h46 : c.toNat = 46
      · rw [runS_cons_some (s' := ⟨0, 0, 0, true⟩) (by unfold stepS; rw [if_pos h46]; rfl), run_behind C l _ rfl (by show 0 ≤ 8; omega)] at hs
        split at hs
        · obtain rfl := Option.some.inj hs
          rfl
        · cases hs
      · rw [runS_cons_none (by unfold stepS; rw [if_neg h46, if_pos (by rw [isF_iff] at hf; omega)])] at hs
        cases hs

/-! There and back. -/
theorem nF_append (l m : List UInt8) (h : ∀ c ∈ l, isF c = true) : nF (l ++ m) = l.length + nF m := by
  induction l with
  | nil => simp
  | cons c l ih =>
    have h1 := h c (by simp)
    simp only [List.cons_append, nF, h1, if_true, List.length_cons, ih (fun c hc => h c (by simp [hc]))]
    omega
theorem nF_all (l : List UInt8) (h : ∀ c ∈ l, isF c = true) : nF l = l.length := by
  have := nF_append l [] h
  simpa [nF] using this
theorem figs_ne (n k : Nat) (h : ¬ (n = 0 ∧ k = 0)) : figs n k ≠ [] := by rw [figs_step n k h]; simp
theorem head_app (l m : List UInt8) (h : l ≠ []) : (l ++ m).head? = l.head? := by
  cases l with
  | nil => exact absurd rfl h
  | cons c l => rfl
theorem figs_head (n : Nat) (h : 1 < (figs n 1).length) : (figs n 1).head? ≠ some 48 := by
  induction n using Nat.strongRecOn with
  | ind n ih =>
    rw [figs_step n 1 (by omega)] at h ⊢
    by_cases h10 : n < 10
    · rw [show n / 10 = 0 by omega, figs_zero] at h; simp at h
    · rw [show (1 : Nat) - 1 = 0 from rfl, figs_pos (n / 10) (by omega)]
      have hne := figs_ne (n / 10) 1 (by omega)
      rw [head_app _ _ hne]
      by_cases h1 : 1 < (figs (n / 10) 1).length
      · exact ih (n / 10) (by omega) h1
      · -- one figure, no nought
        have hlt : n / 10 < 10 := by
          apply Classical.byContradiction
          intro hh
          apply h1
          rw [figs_step (n / 10) 1 (by omega), List.length_append, show (1 : Nat) - 1 = 0 from rfl, figs_pos _ (by omega)]
          have := List.length_pos_iff.2 (figs_ne (n / 10 / 10) 1 (by omega))
          simp; omega
        rw [figs_step (n / 10) 1 (by omega), show n / 10 / 10 = 0 by omega, figs_zero]
        simp
        intro hc
        have := congrArg UInt8.toNat hc
        simp [UInt8.toNat_ofNat'] at this
        omega

/-- A text of figures, and maybe a point and figures. -/
theorem read_point (C q : Nat) (p : List UInt8) (hp : ∀ c ∈ p, isF c = true) (h1 : 1 ≤ p.length) (h8 : p.length ≤ 8) :
    okL (figs q 1 ++ 46 :: p) = true ∧ valL C (figs q 1 ++ 46 :: p) = cap C 0 (figs q 1 ++ (p ++ zeros (8 - p.length))) := by
  have hn : nF (figs q 1 ++ 46 :: p) = (figs q 1).length := by
    rw [nF_append _ _ (figs_isF q 1)]; simp [nF, isF]
  have hpart : part (figs q 1 ++ 46 :: p) = p := by simp [part, hn]
  have hne := List.length_pos_iff.2 (figs_ne q 1 (by omega))
  refine ⟨?_, ?_⟩
  · have hT : okT (figs q 1 ++ 46 :: p) = true := by
      simp only [okT, hpart, hn]
      simp [nF_all p hp, h1, h8]
    have hH : okH (figs q 1 ++ 46 :: p) = true := by
      simp only [okH, hn]
      rw [head_app _ _ (figs_ne q 1 (by omega))]
      by_cases hl : 1 < (figs q 1).length
      · have := figs_head q hl
        simp [this]; exact figs_ne q 1 (by omega)
      · simp [hl]; exact figs_ne q 1 (by omega)
    simp [okL, hT, hH]
  · simp [valL, allL, hpart, whole, hn]
theorem read_plain (C q : Nat) : okL (figs q 1) = true ∧ valL C (figs q 1) = cap C 0 (figs q 1 ++ zeros 8) := by
  have hn : nF (figs q 1) = (figs q 1).length := nF_all _ (figs_isF q 1)
  have hpart : part (figs q 1) = [] := by simp [part, hn]
  have hne := List.length_pos_iff.2 (figs_ne q 1 (by omega))
  refine ⟨?_, ?_⟩
  · have hT : okT (figs q 1) = true := by simp [okT, hn]
    have hH : okH (figs q 1) = true := by
      simp only [okH, hn]
      by_cases hl : 1 < (figs q 1).length
      · have := figs_head q hl
        simp [this]; exact figs_ne q 1 (by omega)
      · simp [hl]; exact figs_ne q 1 (by omega)
    simp [okL, hT, hH]
  · simp [valL, allL, hpart, whole, hn]

theorem zeros_isF (n : Nat) : ∀ c ∈ zeros n, isF c = true := by
  intro c hc
  obtain rfl := (List.mem_replicate.1 hc).2
  decide
theorem cap_all (C q r : Nat) (hr : r < 100000000) (m : List UInt8) (hm : m = figs r 8) : cap C 0 (figs q 1 ++ m) = min (q * 100000000 + r) C := by
  subst hm
  rw [cap_val C _ 0 0 (by omega), val_append, val_figs, val_shift, val_figs, figs_length_le 8 r (by omega)]
end Go.Proofs.YtfdbnkmjnmcnlaaDoor
