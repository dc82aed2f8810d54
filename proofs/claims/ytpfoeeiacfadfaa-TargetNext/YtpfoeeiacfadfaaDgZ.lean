/-
  Plain mathematics of numbers by digits of 16 bits, the lowest first: sums, differences and products as in school.
  Conditions: none of any program.
-/
import Derived.Test.YtpfoeeiacfadfaaWdZ
import Derived.Test.YtpfoeeiacfadfaaMemZ
import Derived.Test.YtpfoeeiacfadfaaV13a
import Derived.Deep.Cut
namespace Go.Proofs.Ytpfoeeiacfadfaa

/-- The number of digits. -/
def nd : List Nat → Nat
  | [] => 0
  | x :: l => x + 65536 * nd l
theorem nd_append (l m : List Nat) : nd (l ++ m) = nd l + 65536 ^ l.length * nd m := by
  induction l with
  | nil => simp [nd]
  | cons x l ih =>
    simp only [List.cons_append, nd, ih, List.length_cons, Nat.pow_succ, Nat.mul_add]
    rw [Nat.mul_comm (65536 ^ l.length) 65536, Nat.mul_assoc, Nat.add_assoc]
theorem nd_lt (l : List Nat) (h : ∀ x ∈ l, x < 65536) : nd l < 65536 ^ l.length := by
  induction l with
  | nil => simp [nd]
  | cons x l ih =>
    have h1 := h x (by simp)
    have h2 := ih (fun y hy => h y (by simp [hy]))
    simp only [nd, List.length_cons, Nat.pow_succ]
    generalize 65536 ^ l.length = p at *
    omega
theorem nd_set (l : List Nat) (j v : Nat) (hj : j < l.length) : nd (l.set j v) + gw l j * 65536 ^ j = nd l + v * 65536 ^ j := by
  induction l generalizing j with
  | nil => simp at hj
  | cons x l ih =>
    cases j with
    | zero => simp [nd, gw]; omega
    | succ j =>
      have h := ih j (by simpa using hj)
      have e : gw (x :: l) (j + 1) = gw l j := by simp [gw]
      simp only [List.set_cons_succ, nd, e, Nat.pow_succ]
      generalize nd (l.set j v) = A at *
      generalize nd l = B at *
      rw [← Nat.mul_assoc, ← Nat.mul_assoc]
      generalize gw l j * 65536 ^ j = C at *
      generalize v * 65536 ^ j = D at *
      omega
theorem nd_take (l : List Nat) (k : Nat) (hk : k < l.length) : nd (l.take (k + 1)) = nd (l.take k) + gw l k * 65536 ^ k := by
  have e : l.take (k + 1) = l.take k ++ [gw l k] := by
    rw [List.take_add_one, gw_get hk]; rfl
  rw [e, nd_append]
  simp only [nd, List.length_take, Nat.min_eq_left (Nat.le_of_lt hk)]
  rw [Nat.mul_comm]; simp

/-- The first k digits of a number. -/
def dgP (a k : Nat) : List Nat := (List.range k).map fun i => a / 65536 ^ i % 65536
theorem dgP_length (a k : Nat) : (dgP a k).length = k := by simp [dgP]
theorem dgP_succ (a k : Nat) : dgP a (k + 1) = dgP a k ++ [a / 65536 ^ k % 65536] := by simp [dgP, List.range_succ]
theorem dgP_lt (a k : Nat) : ∀ x ∈ dgP a k, x < 65536 := by
  intro x hx
  simp only [dgP, List.mem_map, List.mem_range] at hx
  obtain ⟨i, _, rfl⟩ := hx
  exact Nat.mod_lt _ (by decide)
theorem nd_dgP (a k : Nat) : nd (dgP a k) = a % 65536 ^ k := by
  induction k with
  | zero => simp [dgP, nd, Nat.mod_one]
  | succ k ih =>
    rw [dgP_succ, nd_append, ih, dgP_length, Nat.pow_succ, Nat.mod_mul]
    simp [nd]
theorem nd_all (a : Nat) (ha : a < M) : nd (dgP a 16) = a := by
  rw [nd_dgP]; exact Nat.mod_eq_of_lt (show a < 65536 ^ 16 from ha)
theorem gw_lt16 {l : List Nat} (h : ∀ x ∈ l, x < 65536) (i : Nat) : gw l i < 65536 := by
  by_cases hi : i < l.length
  · have := h l[i] (List.getElem_mem hi)
    simpa [gw, List.getD, hi] using this
  · simp [gw, List.getD, hi]
/-- A digit, told by its word. -/
theorem low_dig (x H k : Nat) (hk : k < 4) : (x + 18446744073709551616 * H) / 65536 ^ k % 65536 = x / 65536 ^ k % 65536 := by
  have hk' : k = 0 ∨ k = 1 ∨ k = 2 ∨ k = 3 := by omega
  rcases hk' with rfl | rfl | rfl | rfl
  · simp only [Nat.pow_zero, Nat.div_one]; omega
  · simp only [Nat.pow_one]; omega
  · rw [show (65536 : Nat) ^ 2 = 4294967296 from rfl]; omega
  · rw [show (65536 : Nat) ^ 3 = 281474976710656 from rfl]; omega
theorem word_digit (a i k : Nat) (ha : a < M) (hi : i < 4) (hk : k < 4) : gw (w4 a) i / 65536 ^ k % 65536 = a / 65536 ^ (4 * i + k) % 65536 := by
  obtain ⟨a0, a1, a2, a3, h0, h1, h2, h3, ea, wa⟩ := w4_parts a ha
  have hi' : i = 0 ∨ i = 1 ∨ i = 2 ∨ i = 3 := by omega
  rw [Nat.pow_add, ← Nat.div_div_eq_div_mul, wa, ea]
  rcases hi' with rfl | rfl | rfl | rfl
  · simp only [gw, List.getD_cons_zero, Nat.mul_zero, Nat.pow_zero, Nat.div_one]
    rw [low_dig _ _ _ hk]
  · simp only [gw, List.getD_cons_zero, List.getD_cons_succ, Nat.mul_one]
    rw [show (a0 + 18446744073709551616 * (a1 + 18446744073709551616 * (a2 + 18446744073709551616 * a3))) / 65536 ^ 4 = a1 + 18446744073709551616 * (a2 + 18446744073709551616 * a3) by omega, low_dig _ _ _ hk]
  · simp only [gw, List.getD_cons_zero, List.getD_cons_succ]
    rw [show (a0 + 18446744073709551616 * (a1 + 18446744073709551616 * (a2 + 18446744073709551616 * a3))) / 65536 ^ (4 * 2) = a2 + 18446744073709551616 * a3 by omega, low_dig _ _ _ hk]
  · simp only [gw, List.getD_cons_zero, List.getD_cons_succ]
    rw [show (a0 + 18446744073709551616 * (a1 + 18446744073709551616 * (a2 + 18446744073709551616 * a3))) / 65536 ^ (4 * 3) = a3 by omega]

/-! ### Sixteen digits as a number of four words -/
def whS (f : Nat → Nat) : Nat → List Nat
  | 0 => [0, 0, 0, 0]
  | k + 1 => (whS f k).set ((15 - k) / 4) ((gw (whS f k) ((15 - k) / 4) * 65536 + f (15 - k)) % 18446744073709551616)
theorem whS_length (f : Nat → Nat) (k : Nat) : (whS f k).length = 4 := by
  induction k with
  | zero => rfl
  | succ k ih => simp [whS, ih]
theorem four_digits (a b c d : Nat) (ha : a < 65536) (hb : b < 65536) (hc : c < 65536) (hd : d < 65536) :
    ((((0 * 65536 + d) % 18446744073709551616 * 65536 + c) % 18446744073709551616 * 65536 + b) % 18446744073709551616 * 65536 + a) % 18446744073709551616 = a + 65536 * (b + 65536 * (c + 65536 * d)) ∧ a + 65536 * (b + 65536 * (c + 65536 * d)) < 18446744073709551616 := by
  constructor <;> omega
theorem whS_all (f : Nat → Nat) (hf : ∀ i, f i < 65536) : ∃ n, n < M ∧ whS f 16 = w4 n ∧ n = nd [f 0, f 1, f 2, f 3, f 4, f 5, f 6, f 7, f 8, f 9, f 10, f 11, f 12, f 13, f 14, f 15] := by
  obtain ⟨e0, l0⟩ := four_digits (f 0) (f 1) (f 2) (f 3) (hf _) (hf _) (hf _) (hf _)
  obtain ⟨e1, l1⟩ := four_digits (f 4) (f 5) (f 6) (f 7) (hf _) (hf _) (hf _) (hf _)
  obtain ⟨e2, l2⟩ := four_digits (f 8) (f 9) (f 10) (f 11) (hf _) (hf _) (hf _) (hf _)
  obtain ⟨e3, l3⟩ := four_digits (f 12) (f 13) (f 14) (f 15) (hf _) (hf _) (hf _) (hf _)
  refine ⟨_, v4_lt _ _ _ _ l0 l1 l2 l3, ?_, ?_⟩
  · rw [w4_of _ _ _ _ l0 l1 l2 l3, ← e0, ← e1, ← e2, ← e3]
    simp only [whS, gw, List.set_cons_zero, List.set_cons_succ, List.getD_cons_zero, List.getD_cons_succ, Nat.reduceSub, Nat.reduceDiv]
  · simp only [nd]
    clear e0 e1 e2 e3 l0 l1 l2 l3
    omega
theorem take16 (l : List Nat) (from_ : Nat) (h : from_ + 16 ≤ l.length) : (l.drop from_).take 16 = [gw l (from_ + 0), gw l (from_ + 1), gw l (from_ + 2), gw l (from_ + 3), gw l (from_ + 4), gw l (from_ + 5), gw l (from_ + 6), gw l (from_ + 7), gw l (from_ + 8), gw l (from_ + 9), gw l (from_ + 10), gw l (from_ + 11), gw l (from_ + 12), gw l (from_ + 13), gw l (from_ + 14), gw l (from_ + 15)] := by
  have e : (l.drop from_).take 16 = (List.range 16).map (fun i => gw l (from_ + i)) := by
    apply List.ext_getElem
    · simp; omega
    · intro i h1 h2
      have hi : from_ + i < l.length := by simp at h1; omega
      simp [gw, List.getD, hi]
  rw [e]; rfl
/-! ### Sums and differences -/
theorem add_step (L X Y L' c l y c' p v : Nat) (h : L + c * p = X + Y) (hs : L' + l * p = L + (v % 65536) * p) (hv : c + l + y = v) (hc : v / 65536 = c') : L' + c' * (p * 65536) = X + (Y + y * p) := by
  have e : v = v % 65536 + 65536 * c' := by omega
  have e2 : c * p + l * p + y * p = v % 65536 * p + c' * (p * 65536) := by
    rw [← Nat.add_mul, ← Nat.add_mul, hv]
    conv => lhs; rw [e]
    rw [Nat.add_mul, Nat.mul_comm 65536 c', Nat.mul_assoc, Nat.mul_comm 65536 p]
  generalize c * p = A at *; generalize l * p = B at *; generalize y * p = C at *; generalize v % 65536 * p = D at *; generalize c' * (p * 65536) = E at *
  omega
theorem sub_step16 (L X Y L' c l y c' p v : Nat) (h : L + Y = X + c * p) (hs : L' + l * p = L + (v % 65536) * p) (hy : y < 65536) (hl : l < 65536) (hcc : c ≤ 1) (hv : l + 65536 - y - c = v) (hc : 1 - v / 65536 = c') : L' + (Y + y * p) = X + c' * (p * 65536) ∧ c' ≤ 1 := by
  have e : v % 65536 + y + c = l + 65536 * c' := by omega
  have e2 : v % 65536 * p + y * p + c * p = l * p + c' * (p * 65536) := by
    rw [← Nat.add_mul, ← Nat.add_mul, e, Nat.add_mul, Nat.mul_comm 65536 c', Nat.mul_assoc, Nat.mul_comm 65536 p]
  refine ⟨?_, by omega⟩
  generalize c * p = A at *; generalize l * p = B at *; generalize y * p = C at *; generalize v % 65536 * p = D at *; generalize c' * (p * 65536) = E at *
  omega
theorem mul_step16 (L Z L' c l xy c' p v : Nat) (h : L + c * p = Z) (hs : L' + l * p = L + (v % 65536) * p) (hv : c + l + xy = v) (hc : v / 65536 = c') : L' + c' * (p * 65536) = Z + xy * p := by
  have := add_step L Z 0 L' c l xy c' p v h hs hv hc
  rw [Nat.zero_add] at this
  exact this
end Go.Proofs.Ytpfoeeiacfadfaa
/-
  Plain facts on slices of uint64 that lie at the beginning of a block of their own: a cell read, a cell written, in any statement.
-/
namespace Go.Proofs.Ytpfoeeiacfadfaa
open Go.RowKit

theorem Try.ws : WT Try.prog 71 22 := ⟨by kernel_rfl, by kernel_rfl, by kernel_rfl⟩
section
variable {P : Program} {T E : TypeId}
theorem run_indexAt_sl (t : WT P T E) (w : World) (g n cap i : Nat) (k : IntKind) (hi : i < n) : (Instr.indexAt T (.slice (some ⟨g, 0, none⟩) n cap) (.int k i)).run P w = .ok (.pointer (some ⟨g, i, none⟩)) w := by
  obtain ⟨i0, hi0, hz0, hz1, hz2⟩ := info_parts t.info
  simp [Instr.indexAt, asIntOf, run_underlying t.sl, hi, sizeOf, typeInfo, hi0, hz1, Addr.add_lit]
theorem exec_sidx (t : WT P T E) {ρ : Operand → Value} {o : Oper} {w : World} (x y : Operand) (ho : o.op = .indexAddr T x y) (g n cap i : Nat) (k : IntKind) (u : Int) (hu : u = (i : Int)) (hi : i < n) (hx : ρ x = .slice (some ⟨g, 0, none⟩) n cap) (hy : ρ y = .int k u) :
    (execOp ρ o).run P w = .ok (.value (.pointer (some ⟨g, i, none⟩))) w := by
  subst hu
  unfold execOp
  simp only [ho, hx, hy, Sem.run_bind, Sem.run_pure, Result.andThen_ok, run_indexAt_sl t w g n cap i k hi]
theorem exec_getc {F : TypeId} {k : IntKind} (hF : P.underlying F = some (.int k)) {ρ : Operand → Value} {o : Oper} {w : World} (x : Operand) (ho : o.op = .load F x) (g i : Nat) (v : Value) (hv : w.cell? ⟨g, i, none⟩ = some v) (hx : ρ x = .pointer (some ⟨g, i, none⟩)) :
    (execOp ρ o).run P w = .ok (.value v) w := by
  unfold execOp
  have h : (Instr.loadAt F (.pointer (some ⟨g, i, none⟩))).run P w = .ok v w := by simp [Instr.loadAt, Instr.sureAddr, loadVar, isAgg, run_underlying hF, hv]
  simp only [ho, hx, Sem.run_bind, Sem.run_pure, Result.andThen_ok, h]
end
/-- A row of one's own that is not empty: where it lies. -/
theorem Ow.shape {E : TypeId} {base : Nat} {w : World} {v : Value} {l : List Nat} (h : Ow E base w v l) (hl : l ≠ []) : ∃ g cap junk, v = .slice (some ⟨g, 0, none⟩) l.length cap ∧ base ≤ g ∧ Arr E w g (c64 l ++ junk) := by
  obtain ⟨h1, h2⟩ := h
  rcases h2 with ⟨rfl, hn⟩ | ⟨g, cap, cur, rfl, hb, hg, hnc, hcm, hcs, htake⟩
  · exact absurd (List.eq_nil_of_length_eq_zero hn) hl
  · refine ⟨g, cap, cur.toList.drop (l.length * 1), rfl, hb, ?_⟩
    unfold Arr
    rw [← htake, List.take_append_drop]
    simpa using hg
theorem cell_same {T : TypeId} {w w' : World} {g i k j : Nat} {cs : List Value} {u : Value} (h : Arr T w g cs) (h' : Arr T w' g (cs.set i u)) (hb : But g w w') (hne : j ≠ i) : w'.cell? ⟨k, j, none⟩ = w.cell? ⟨k, j, none⟩ := by
  by_cases e : k = g
  · subst e
    rw [cell_of_row w' k j _ T (0, 0) h', cell_of_row w k j _ T (0, 0) h]
    simp [Ne.symm hne]
  · unfold World.cell?
    rw [hb.block k e]
theorem row_cell {T : TypeId} {w : World} {g j : Nat} {l : List Nat} {junk : List Value} (h : Arr T w g (c64 l ++ junk)) (hj : j < l.length) : w.cell? ⟨g, j, none⟩ = some (.int .u64 (gw l j : Nat)) := by
  rw [cell_of_row w g j _ T (0, 0) h]
  have : j < (c64 l).length := by rw [c64_length]; exact hj
  simp only [List.getElem?_toArray]
  rw [List.getElem?_append_left this, c64_gw hj]
theorem row_set (l : List Nat) (junk : List Value) (j v : Nat) (hj : j < l.length) : (c64 l ++ junk).set j (.int .u64 (v : Int)) = c64 (l.set j v) ++ junk := by
  rw [List.set_append_left _ _ (by rw [c64_length]; exact hj), c64_set]
/-- The digits that a call has made. -/
def NewD (B n : Nat) (l : List Nat) (v : Value) (w : World) : Prop := ∃ g cap junk, v = .slice (some ⟨g, 0, none⟩) n cap ∧ B ≤ g ∧ Arr 22 w g (c64 l ++ junk)
theorem NewD.gr {B n : Nat} {l : List Nat} {v : Value} {w w' : World} (h : NewD B n l v w) (hb : Gr w w') : NewD B n l v w' := by
  obtain ⟨g, cap, junk, e, h1, h2⟩ := h
  exact ⟨g, cap, junk, e, h1, h2.gr hb⟩
theorem Mem.sep1 {w0 w w' : World} {g B : Nat} {T : TypeId} {cs : List Value} (m : Mem w0 w [⟨g, T, cs⟩]) (hb : Below B w w') (hg : g < B) (hB : w0.heap.size ≤ B) : Mem w0 w' [⟨g, T, cs⟩] :=
  ⟨m.below.trans (hb.mono hB), m.own, m.nd, fun b h => by
    obtain rfl := List.mem_singleton.1 h
    exact (m.get 0 rfl).below hb hg⟩
theorem gr_alloc (w : World) (o : Obj) : Gr w (w.alloc o) := (Below.refl _ _).alloc (Nat.le_refl _) _
end Go.Proofs.Ytpfoeeiacfadfaa
/-
  Contracts of the document's Digits and Whole.
  Conditions: numbers below 2^256; digits below 2^16.
-/
namespace Go.Proofs.Ytpfoeeiacfadfaa
open Go.RowKit

set_option maxRecDepth 20000 in
set_option maxHeartbeats 2000000 in
theorem digits_any (a : Nat) (ha : a < M) (w : World) :
    Calls Try.prog 81 #[wv a] w fun e w' => ∃ v, e = .returned v ∧ NewD w.heap.size 16 (dgP a 16) v w' ∧ Below w.heap.size w w' := by
  have HW : Hid (∀ i k, i < 4 → k < 4 → gw (w4 a) i / 65536 ^ k % 65536 = a / 65536 ^ (4 * i + k) % 65536) := fun i k hi hk => word_digit a i k ha hi hk
  clear ha
  have m := Mem.start w
  go_enter Try.func81, Try.ntmps81
  go_wp2_with ((first
    | (refine W.box m rfl (.tmp 0) rfl a rfl ?_; clear m; intro g1 wx1 m)); try simp only [Act.put, List.setIfInBounds_toArray, List.set_cons_succ, List.set_cons_zero])
  have hB : g1 < wx1.heap.size := (m.get 0 rfl).lt
  have hB0 : w.heap.size ≤ wx1.heap.size := m.size
  have ho := Ow.empty 22 wx1.heap.size wx1 (Nat.le_refl _)
  have m2 := m.gr (gr_alloc wx1 (.cells #[] 22))
  have hsz : wx1.heap.size ≤ (wx1.alloc (.cells #[] 22)).heap.size := (gr_alloc wx1 (.cells #[] 22)).size
  clear m
  generalize hBB : wx1.heap.size = B at *
  go_loopw [3, 4] (fun s i wr => ∃ k : Nat, k ≤ 4 ∧ i = .int .i64 (k : Int) ∧ Ow 22 B wr s (dgP a (4 * k)) ∧ B ≤ wr.heap.size ∧ Mem w wr [⟨g1, 24, c64 (w4 a)⟩]) (fun _ i _ => 4 - (intOf i).toNat)
  case atStart => exact ⟨0, by omega, rfl, by subst hBB; exact ho, hsz, m2⟩
  case round =>
    clear ho m2 hsz
    obtain ⟨k, hk, rfl, ho, hsz, m⟩ := hrel
    by_cases hlt : k < 4
    · obtain ⟨X, eX⟩ : ∃ x, gw (w4 a) k = x := ⟨_, rfl⟩
      have HX : Hid (gw (w4 a) k = X) := eX
      have hXl : X < 18446744073709551616 := eX ▸ gw_lt a k
      have HXl : Hid (X < 18446744073709551616) := hXl
      have HWk : Hid (∀ n, n < 4 → X / 65536 ^ n % 65536 = a / 65536 ^ (4 * k + n) % 65536) := fun n hn => by rw [← eX]; exact HW.out k n hlt hn
      clear eX hXl
      go_wp2_with ((first
        | (refine W.idx rfl (.tmp 1) (.tmp 12) rfl g1 k .i64 k rfl hlt rfl rfl ?_)
        | (refine W.get m rfl (.tmp 13) rfl 0 k X rfl hlt HX.out rfl ?_)); try simp only [Act.put, List.setIfInBounds_toArray, List.set_cons_succ, List.set_cons_zero])
      have HO : Hid (Ow 22 B wr _ (dgP a (4 * k))) := ho
      go_loopw [3, 5, 6] (fun s x j wi => ∃ n : Nat, n ≤ 4 ∧ j = .int .i64 (n : Int) ∧ x = .int .u64 ((X / 65536 ^ n : Nat) : Int) ∧ Ow 22 B wi s (dgP a (4 * k + n)) ∧ B ≤ wi.heap.size ∧ Mem w wi [⟨g1, 24, c64 (w4 a)⟩]) (fun _ _ j _ => 4 - (intOf j).toNat)
      case atStart => exact ⟨0, by omega, rfl, by rw [Nat.pow_zero, Nat.div_one], HO.out, hsz, m⟩
      case round =>
        clear ho HO hsz m
        obtain ⟨n, hn, rfl, rfl, ho, hsz, m⟩ := hrel
        by_cases hl2 : n < 4
        · obtain ⟨x, ex⟩ : ∃ x, X / 65536 ^ n = x := ⟨_, rfl⟩
          obtain ⟨d, ed⟩ : ∃ d, x % 65536 = d := ⟨_, rfl⟩
          obtain ⟨y, ey⟩ : ∃ d, x / 65536 = d := ⟨_, rfl⟩
          have hxl : x < 18446744073709551616 := by rw [← ex]; exact Nat.lt_of_le_of_lt (Nat.div_le_self _ _) HXl.out
          have HL : Hid (dgP a (4 * k + (n + 1)) = dgP a (4 * k + n) ++ [d]) := by
            show _ = _
            rw [← Nat.add_assoc, dgP_succ, ← HWk.out n hl2, ex, ed]
          have HY : Hid (X / 65536 ^ (n + 1) = y) := by show _ = _; rw [Nat.pow_succ, ← Nat.div_div_eq_div_mul, ex, ey]
          have ED : Hid (x % 65536 = d) := ed
          have EY : Hid (x / 65536 = y) := ey
          have LX : Hid (x < 18446744073709551616) := hxl
          have H0 : Hid (65536 ≠ 0) := by show _ ≠ _; decide
          rw [ex]
          have hlen : Hid ((dgP a (4 * k + n)).length + [d].length ≤ 1099511627776) := by show _ ≤ _; rw [dgP_length]; simp; omega
          have HO2 : Hid (Ow 22 B (wr.alloc (.cells #[.int .u64 (d : Int)] 22)) _ (dgP a (4 * k + n))) := ho.keep (gr_alloc _ _)
          have HR : Hid (Rw (wr.alloc (.cells #[.int .u64 (d : Int)] 22)) (.slice (some ⟨wr.heap.size, 0, none⟩) 1 1) [d]) := Rw.lit 22 wr [d] _ rfl 1 rfl
          have HS : Hid (B ≤ (wr.alloc (.cells #[.int .u64 (d : Int)] 22)).heap.size) := Nat.le_trans hsz (gr_alloc wr _).size
          have HM : Hid (Mem w (wr.alloc (.cells #[.int .u64 (d : Int)] 22)) [⟨g1, 24, c64 (w4 a)⟩]) := m.gr (gr_alloc _ _)
          clear ex ed ey hxl ho m hsz
          go_wp2_with ((first
            | (refine wpList_val rfl (.int .u64 (d : Int)) (exec_remN (.tmp 20) (.const (.int .u64 65536)) _ _ rfl x 65536 d ED.out H0.out .u64 rfl rfl) ?_)
            | (refine wpList_append_rw Try.ws rfl (.tmp 19) (.tmp 22) rfl B _ _ (dgP a (4 * k + n)) [d] rfl HO2.out rfl HR.out hlen.out HS.out ?_; intro v9 w9 ho9 b9)
            | (refine wpList_val rfl (.int .u64 (y : Int)) (exec_quoU (.tmp 24) (.const (.int .u64 65536)) _ _ rfl x 65536 y EY.out LX.out H0.out rfl rfl) ?_)); try simp only [Act.put, List.setIfInBounds_toArray, List.set_cons_succ, List.set_cons_zero])
          have m9 := HM.out.sep1 b9 hB hB0
          have hs9 := Nat.le_trans HS.out b9.size
          go_roundw
          case rel => exact ⟨n + 1, by omega, by go_num, by rw [HY.out], by rw [HL.out]; exact ho9, hs9, m9⟩
          case measure => simp [intOf]; omega
        · obtain rfl : n = 4 := by omega
          have HO : Hid (Ow 22 B wr _ (dgP a (4 * k + 4))) := ho
          go_wp2
          go_roundw
          case rel => exact ⟨k + 1, by omega, by go_num, HO.out, hsz, m⟩
          case measure => simp [intOf]; omega
    · obtain rfl : k = 4 := by omega
      have hs := ho.shape (fun e => by have := congrArg List.length e; rw [dgP_length] at this; simp at this)
      rw [dgP_length] at hs
      obtain ⟨g, cap, junk, rfl, hg, hr⟩ := hs
      have HR : Hid (Arr 22 wr g (c64 (dgP a 16) ++ junk)) := hr
      have HG : Hid (w.heap.size ≤ g) := Nat.le_trans hB0 hg
      clear ho hr hg
      go_wp2
      go_ret
      exact ⟨_, rfl, ⟨g, cap, junk, rfl, HG.out, HR.out⟩, m.below⟩
end Go.Proofs.Ytpfoeeiacfadfaa
/-
  Contract of the document's Whole.
  Conditions: digits below 2^16.
-/
namespace Go.Proofs.Ytpfoeeiacfadfaa
open Go.RowKit

set_option maxRecDepth 20000 in
set_option maxHeartbeats 2000000 in
theorem whole_any (w : World) (g n cap : Nat) (l : List Nat) (junk : List Value) (f0 : Nat) (hn : l.length = n) (hr : Arr 22 w g (c64 l ++ junk)) (hf : f0 + 16 ≤ n) (hn2 : n ≤ 64) (hd : ∀ x ∈ l, x < 65536) :
    Calls Try.prog 73 #[.slice (some ⟨g, 0, none⟩) n cap, .int .i64 (f0 : Int)] w fun e w' => e = .returned (wv (nd ((l.drop f0).take 16))) ∧ Below w.heap.size w w' := by
  obtain ⟨N, hN, hwN, eN⟩ := whS_all (fun i => gw l (f0 + i)) (fun i => gw_lt16 hd _)
  rw [take16 l f0 (by omega)]
  rw [← eN]
  have HN : Hid (whS (fun i => gw l (f0 + i)) 16 = w4 N) := hwN
  have HCL0 : Hid (∀ j, j < n → ∀ w', Below w.heap.size w w' → w'.cell? ⟨g, j, none⟩ = some (.int .u64 (gw l j : Nat))) := fun j hj w' hb => row_cell (hr.below hb hr.lt) (by omega)
  clear hN hwN eN hr hd hn
  have m := Mem.start w
  go_enter Try.func73, Try.ntmps73
  go_wp2_with ((first
    | (refine W.alloc m rfl rfl 4 rfl ?_; clear m; intro g4 wx4 m)
    | (refine W.build0 rfl rfl ?_)
    | (refine W.alloc m rfl rfl 5 rfl ?_; clear m; intro g5 wx5 m)
    | (refine W.store m rfl (.tmp 5) (.tmp 8) rfl rfl 0 0 rfl (w4_length _) rfl rfl ?_; clear m; intro wx101 m)); try simp only [Act.put, List.setIfInBounds_toArray, List.set_cons_succ, List.set_cons_zero])
  go_loopw [6] (fun i wr => ∃ k : Nat, k ≤ 16 ∧ i = .int .i64 (15 - (k : Int)) ∧ Mem w wr [⟨g5, 24, c64 (whS (fun i => gw l (f0 + i)) k)⟩, ⟨g4, 24, c64 (w4 0)⟩]) (fun i _ => (intOf i + 1).toNat)
  case atStart => exact ⟨0, by omega, rfl, by simp only [whS]; rw [← w4_zero]; exact m⟩
  case round =>
    clear m
    obtain ⟨k, hk, hi, m⟩ := hrel
    by_cases hlt : k < 16
    · obtain ⟨j, ej⟩ : ∃ j, 15 - k = j := ⟨_, rfl⟩
      have hi2 : _ = Value.int .i64 (j : Int) := hi.trans (by congr 1; omega)
      subst hi2
      obtain ⟨p, ep⟩ : ∃ p, f0 + j = p := ⟨_, rfl⟩
      obtain ⟨q, eq⟩ : ∃ p, j / 4 = p := ⟨_, rfl⟩
      obtain ⟨x, ex⟩ : ∃ x, gw l p = x := ⟨_, rfl⟩
      have hQ := whS_length (fun i => gw l (f0 + i)) k
      have hst : whS (fun i => gw l (f0 + i)) (k + 1) = (whS (fun i => gw l (f0 + i)) k).set (j / 4) ((gw (whS (fun i => gw l (f0 + i)) k) (j / 4) * 65536 + gw l (f0 + j)) % 18446744073709551616) := by rw [← ej]; rfl
      obtain ⟨Q, eQ⟩ : ∃ Q, whS (fun i => gw l (f0 + i)) k = Q := ⟨_, rfl⟩
      rw [eQ] at hst hQ m
      rw [eq, ep, ex] at hst
      obtain ⟨y, ey⟩ : ∃ y, gw Q q = y := ⟨_, rfl⟩
      obtain ⟨u, eu⟩ : ∃ v, y * 65536 % 18446744073709551616 = v := ⟨_, rfl⟩
      obtain ⟨z, ez⟩ : ∃ y, (u + x) % 18446744073709551616 = y := ⟨_, rfl⟩
      rw [ey, ← Nat.mod_add_mod, eu, ez] at hst
      obtain ⟨Q', eQ'⟩ : ∃ y, Q.set q z = y := ⟨_, rfl⟩
      rw [eQ'] at hst
      have hq : q < 4 := by omega
      have hj15 : j < 16 := by omega
      have hpn : (p : Int) < (n : Int) := by omega
      have HPN : Hid (p < n) := by show _ < _; omega
      have HP : Hid ((f0 : Int) + (j : Int) = (p : Int) ∧ -9223372036854775808 ≤ (p : Int) ∧ (p : Int) < 9223372036854775808) := ⟨by omega, by omega, by omega⟩
      have HCL : Hid (∀ w', Below w.heap.size w w' → w'.cell? ⟨g, p, none⟩ = some (.int .u64 (x : Nat))) := fun w' hb => by have := HCL0.out p HPN.out w' hb; rw [ex] at this; exact this
      have HQ4 : Hid (j / 4 = q) := eq
      have HJ : Hid (j < 9223372036854775808) := by show _ < _; omega
      have H4 : Hid (4 ≠ 0) := by show _ ≠ _; decide
      have HY : Hid (gw Q q = y) := ey
      have HU : Hid (y * 65536 % 18446744073709551616 = u) := eu
      have HZ : Hid ((u + x) % 18446744073709551616 = z) := ez
      have HQS : Hid (Q.set q z = Q') := eQ'
      have HST : Hid (whS (fun i => gw l (f0 + i)) (k + 1) = Q') := hst
      have HJ1 : Hid ((j : Int) - 1 = 15 - ((k + 1 : Nat) : Int)) := by show _ = _; omega
      have hjn : ¬ ((j : Int) < 0) := by omega
      clear hst eQ ey eu ez eQ' ex ep eq ej hi hf hn2
      go_wp2_with ((first
        | (refine wpList_val rfl (.int .i64 (p : Int)) (exec_addI (.tmp 13) (.tmp 14) _ _ rfl f0 j p HP.out.1 HP.out.2.1 HP.out.2.2 rfl rfl) ?_)
        | (refine wpList_val rfl (.int .i64 (p : Int)) (exec_addI (.tmp 20) (.tmp 21) _ _ rfl f0 j p HP.out.1 HP.out.2.1 HP.out.2.2 rfl rfl) ?_)
        | (refine wpList_val rfl (.pointer (some ⟨g, p, none⟩)) (exec_sidx Try.ws (.tmp 19) (.tmp 22) rfl g n cap p .i64 p rfl HPN.out rfl rfl) ?_)
        | (refine wpList_val rfl (.int .u64 (x : Int)) (exec_getc Try.u64 (.tmp 23) rfl g p _ (HCL.out _ m.below) rfl) ?_)
        | (refine wpList_val rfl (.int .i64 (q : Int)) (exec_quoN (.tmp 25) (.const (.int .i64 4)) _ _ rfl j 4 q HQ4.out HJ.out H4.out rfl rfl) ?_)
        | (refine wpList_val rfl (.int .i64 (q : Int)) (exec_quoN (.tmp 27) (.const (.int .i64 4)) _ _ rfl j 4 q HQ4.out HJ.out H4.out rfl rfl) ?_)
        | (refine W.idx rfl (.tmp 5) (.tmp 28) rfl g5 q .i64 q rfl hq rfl rfl ?_)
        | (refine W.getL m rfl (.tmp 29) rfl 0 q y rfl (by rw [hQ]; exact hq) HY.out rfl ?_)
        | (refine wpList_val rfl (.int .u64 (u : Int)) (exec_mulM (.tmp 30) (.const (.int .u64 65536)) _ _ rfl y 65536 u HU.out rfl rfl) ?_)
        | (refine wpList_val rfl (.int .u64 (z : Int)) (exec_addM (.tmp 31) (.tmp 32) _ _ rfl u x z HZ.out rfl rfl) ?_)
        | (refine W.idx rfl (.tmp 5) (.tmp 26) rfl g5 q .i64 q rfl hq rfl rfl ?_)
        | (refine W.set m rfl (.tmp 34) (.tmp 33) rfl rfl 0 q z Q' HQS.out rfl (by rw [hQ]; exact hq) rfl rfl ?_; clear m; intro wx102 m)); try simp only [Act.put, List.setIfInBounds_toArray, List.set_cons_succ, List.set_cons_zero])
      go_roundw
      case rel => exact ⟨k + 1, by omega, by rw [HJ1.out], by rw [HST.out]; exact m⟩
      case measure => have := HJ1.out; simp only [intOf]; omega
    · obtain rfl : k = 16 := by omega
      have hi2 : _ = Value.int .i64 (-1) := hi.trans rfl
      subst hi2
      rw [HN.out] at m
      clear hi hk hlt hf hn2
      go_wp2_with ((first
        | (refine W.load m rfl (.tmp 5) rfl 0 rfl rfl ?_)
        | (refine W.store m rfl (.tmp 4) (.tmp 35) rfl rfl 1 N rfl (w4_length _) rfl rfl ?_; clear m; intro wx103 m)); try simp only [Act.put, List.setIfInBounds_toArray, List.set_cons_succ, List.set_cons_zero])
      refine bodyPost_ret (results_arr Try.aw Try.results73 _ wx103 g4 (c64 (w4 N)) (wl N) rfl (m.get 1 rfl)) rfl ⟨rfl, m.below⟩
end Go.Proofs.Ytpfoeeiacfadfaa
/-
  Contracts of the document's Add and Sub.
  Conditions: numbers below 2^256.
-/
namespace Go.Proofs.Ytpfoeeiacfadfaa
open Go.RowKit

theorem wv_inj {a b : Nat} (ha : a < M) (hb : b < M) (h : wv a = wv b) : a = b := by
  unfold wv at h
  have h1 : c64 (w4 a) = c64 (w4 b) := by simpa using h
  have h2 : w4 a = w4 b := by
    rw [c64_ints, c64_ints] at h1
    have h3 := List.map_inj_right (fun x y h => by simpa using h) |>.1 h1
    exact (map_cast_inj _ _).1 h3
  exact (w4_inj ha hb).1 h2
theorem cell_gr {w w' : World} {a : Addr} {v : Value} (h : w.cell? a = some v) (hb : Gr w w') : w'.cell? a = some v := by
  rw [Below.cell hb (World.block_lt_of_cell? w _ h)]; exact h
theorem G_fit (w : World) (K0 : FuncId → Array Value → Value → World → Prop) (hK : ∀ f args v w w', K0 f args v w → Gr w w' → K0 f args v w') : Mild2.Fit Gr (Gr w) K0 where
  refl := Gr.refl
  trans := fun _ _ _ => Gr.trans
  inC := fun _ _ => Gr.trans
  keep := fun _ _ _ _ _ h hg => hK _ _ _ _ _ h hg
theorem gr_draw (w : World) : Gr w { w with drawn := w.drawn + 1 } := Below.drewN' _ _ 1
theorem Mem.adopt {w0 w w' : World} {L : List Blk} {g : Nat} {T : TypeId} {cs : List Value} (m : Mem w0 w L) (hw : Gr w w') (hg : w.heap.size ≤ g) (ha : Arr T w' g cs) : Mem w0 w' (⟨g, T, cs⟩ :: L) := by
  refine ⟨(m.gr hw).below, fun b h => ?_, List.pairwise_cons.2 ⟨fun b h => ?_, m.nd⟩, fun b h => ?_⟩
  · rcases List.mem_cons.1 h with rfl | h
    · have := m.below.size; show _ ≤ g; omega
    · exact m.own b h
  · have := (m.arr b h).lt; show g ≠ b.g; omega
  · rcases List.mem_cons.1 h with rfl | h
    · exact ha
    · exact (m.arr b h).gr hw
/-- What the two calls of Digits tell. -/
def DgK (B a b : Nat) : FuncId → Array Value → Value → World → Prop := fun _ args v w => (args = #[wv a] → NewD B 16 (dgP a 16) v w) ∧ (args = #[wv b] → NewD B 16 (dgP b 16) v w)
theorem DgK.keep {B a b : Nat} : ∀ f args v w w', DgK B a b f args v w → Gr w w' → DgK B a b f args v w' := fun _ _ _ _ _ h hg => ⟨fun e => (h.1 e).gr hg, fun e => (h.2 e).gr hg⟩
theorem DgK.at1 {B a b : Nat} (ha : a < M) (hb : b < M) {v : Value} {w : World} (f : FuncId) (h : NewD B 16 (dgP a 16) v w) : DgK B a b f #[wv a] v w := ⟨fun _ => h, fun e => by
  have := wv_inj ha hb (by simpa using e); rw [← this]; exact h⟩
theorem DgK.at2 {B a b : Nat} (ha : a < M) (hb : b < M) {v : Value} {w : World} (f : FuncId) (h : NewD B 16 (dgP b 16) v w) : DgK B a b f #[wv b] v w := ⟨fun e => by
  have := wv_inj hb ha (by simpa using e); rw [← this]; exact h, fun _ => h⟩
theorem NewD.mono {B B' n : Nat} {l : List Nat} {v : Value} {w : World} (h : NewD B n l v w) (hB : B' ≤ B) : NewD B' n l v w := by
  obtain ⟨g, cap, junk, e, h1, h2⟩ := h
  exact ⟨g, cap, junk, e, Nat.le_trans hB h1, h2⟩
theorem len16 (l : List Nat) (h : l.length = 16) : (l.drop 0).take 16 = l := by rw [List.drop_zero]; exact List.take_of_length_le (by omega)
theorem set_lt {l : List Nat} (h : ∀ x ∈ l, x < 65536) (i v : Nat) (hv : v < 65536) : ∀ x ∈ l.set i v, x < 65536 := by
  intro x hx
  rcases List.mem_or_eq_of_mem_set hx with h1 | h1
  · exact h x h1
  · rw [h1]; exact hv
theorem row_cellv {T : TypeId} {w : World} {g j v : Nat} {l : List Nat} {junk : List Value} (h : Arr T w g (c64 l ++ junk)) (hj : j < l.length) (hv : gw l j = v) : w.cell? ⟨g, j, none⟩ = some (.int .u64 (v : Nat)) := by rw [← hv]; exact row_cell h hj

set_option maxRecDepth 20000 in
set_option maxHeartbeats 4000000 in
theorem radd_any (a b : Nat) (ha : a < M) (hb : b < M) (w : World) :
    Calls Try.prog 64 #[wv a, wv b] w fun e w' => e = .returned (.tuple #[wv ((a + b) % M), .int .u64 (((a + b) / M : Nat) : Int)]) ∧ Below w.heap.size w w' := by
  have HA : Hid (a < M) := ha
  have HB : Hid (b < M) := hb
  have HD1 : Hid (∀ w, Calls Try.prog 81 #[wv a] w fun e w' => ∃ v, e = .returned v ∧ NewD w.heap.size 16 (dgP a 16) v w' ∧ Below w.heap.size w w') := digits_any a ha
  have HD2 : Hid (∀ w, Calls Try.prog 81 #[wv b] w fun e w' => ∃ v, e = .returned v ∧ NewD w.heap.size 16 (dgP b 16) v w' ∧ Below w.heap.size w w') := digits_any b hb
  obtain ⟨N0, HN0⟩ : ∃ N, Hid ((a + b) % M = N) := ⟨_, rfl⟩
  obtain ⟨C0, HC0⟩ : ∃ N : Nat, Hid ((a + b) / M = N) := ⟨_, rfl⟩
  rw [HN0.out, HC0.out]
  clear ha hb
  have m := Mem.start w
  go_enter Try.func64, Try.ntmps64
  go_wp2_with ((first
    | (refine W.box m rfl (.tmp 0) rfl a rfl ?_; clear m; intro g2 wx2 m)
    | (refine W.box m rfl (.tmp 1) rfl b rfl ?_; clear m; intro g3 wx3 m)
    | (refine W.alloc m rfl rfl 4 rfl ?_; clear m; intro g4 wx4 m)); try simp only [Act.put, List.setIfInBounds_toArray, List.set_cons_succ, List.set_cons_zero])
  have F := G_fit wx4 (DgK wx4.heap.size a b) DgK.keep
  refine Mild2.wp_region F (by kernel_rfl) (by kernel_rfl) (gr_draw _) ?_
  refine Mild2.step_known F rfl rfl (wv a) (fun w0 hC _ => W.xload m hC (.tmp 2) rfl 2 rfl rfl) ?_
  simp only [Act.put, List.setIfInBounds_toArray, List.set_cons_succ, List.set_cons_zero]
  refine Mild2.step_call rfl 81 #[wv a] (fun w => by go_simp) (NewD wx4.heap.size 16 (dgP a 16)) (fun v w w' hg h => h.gr hg) (fun w0 hC _ => (HD1.out w0).mono fun e w' ⟨v, h1, h2, h3⟩ => ⟨v, h1, h3, DgK.at1 HA.out HB.out _ (h2.mono hC.size)⟩) (fun v w' _ h => h.1 rfl) ?_
  intro v1 hv1
  obtain ⟨_, _, gx, capx, _, rfl, hgx, _⟩ := hv1 (by simp)
  simp only [Act.put, List.setIfInBounds_toArray, List.set_cons_succ, List.set_cons_zero]
  refine Mild2.step_known F rfl rfl (wv b) (fun w0 hC _ => W.xload m hC (.tmp 3) rfl 1 rfl rfl) ?_
  simp only [Act.put, List.setIfInBounds_toArray, List.set_cons_succ, List.set_cons_zero]
  refine Mild2.step_call rfl 81 #[wv b] (fun w => by go_simp) (NewD wx4.heap.size 16 (dgP b 16)) (fun v w w' hg h => h.gr hg) (fun w0 hC _ => (HD2.out w0).mono fun e w' ⟨v, h1, h2, h3⟩ => ⟨v, h1, h3, DgK.at2 HA.out HB.out _ (h2.mono hC.size)⟩) (fun v w' _ h => h.2 rfl) ?_
  intro v2 hv2
  obtain ⟨_, _, gy, capy, _, rfl, hgy, _⟩ := hv2 (by simp)
  simp only [Act.put, List.setIfInBounds_toArray, List.set_cons_succ, List.set_cons_zero]
  iterate 2 (refine Mild2.step_quiet F rfl rfl rfl (fun w0 hC hF K hK => ?_); clear hF; go_big_quiet_op; refine hK _ ?_; clear hK K hC; clear w0)
  intro w8 hw8 hf8
  obtain ⟨gx', capx', jx, ex, _, hx⟩ := (hf8 (some 11)).1.2 rfl
  simp only [Value.slice.injEq, Option.some.injEq, Addr.mk.injEq, and_true, true_and] at ex
  obtain ⟨rfl, rfl⟩ := ex
  obtain ⟨gy', capy', jy, ey, _, hy⟩ := (hf8 (some 13)).2 rfl
  simp only [Value.slice.injEq, Option.some.injEq, Addr.mk.injEq, and_true, true_and] at ey
  obtain ⟨rfl, rfl⟩ := ey
  replace m := m.adopt hw8 hgx hx
  clear hf8 hw8 F hv1 hv2
  have HY0 : Hid (∀ j, j < 16 → w8.cell? ⟨gy, j, none⟩ = some (.int .u64 (gw (dgP b 16) j : Nat))) := fun j hj => row_cell hy (by rw [dgP_length]; exact hj)
  clear hx hy hgx hgy
  go_wp2
  go_loopw [8, 9] (fun cv iv wr => ∃ (k : Nat) (l : List Nat) (c : Nat), k ≤ 16 ∧ iv = .int .i64 (k : Int) ∧ cv = .int .u64 (c : Int) ∧ c ≤ 1 ∧ l.length = 16 ∧ (∀ x ∈ l, x < 65536) ∧ nd l + c * 65536 ^ k = a + nd ((dgP b 16).take k) ∧ (∀ j, k ≤ j → j < 16 → wr.cell? ⟨gy, j, none⟩ = some (.int .u64 (gw (dgP b 16) j : Nat))) ∧ Mem w wr [⟨gx, 22, c64 l ++ jx⟩, ⟨g4, 24, c64 (w4 0)⟩, ⟨g3, 24, c64 (w4 b)⟩, ⟨g2, 24, c64 (w4 a)⟩]) (fun _ iv _ => 16 - (intOf iv).toNat)
  case atStart => exact ⟨0, dgP a 16, 0, by omega, rfl, rfl, by omega, dgP_length a 16, dgP_lt a 16, by rw [nd_all a HA.out]; simp [nd], fun j _ hj => HY0.out j hj, m⟩
  case round =>
    clear m HY0 HD1 HD2
    obtain ⟨k, l, c, hk, rfl, rfl, hc, hlen, hd, hinv, hyc, m⟩ := hrel
    by_cases hlt : k < 16
    · have hyk := hyc k (Nat.le_refl _) hlt
      obtain ⟨x, ex⟩ : ∃ x, gw l k = x := ⟨_, rfl⟩
      obtain ⟨y, eyk⟩ : ∃ x, gw (dgP b 16) k = x := ⟨_, rfl⟩
      have hxl : x < 65536 := ex ▸ gw_lt16 hd k
      have hyl : y < 65536 := eyk ▸ gw_lt16 (dgP_lt b 16) k
      rw [eyk] at hyk
      obtain ⟨s1, es1⟩ : ∃ v, c + x = v := ⟨_, rfl⟩
      obtain ⟨v, ev⟩ : ∃ v, s1 + y = v := ⟨_, rfl⟩
      obtain ⟨r, er⟩ : ∃ r, v % 65536 = r := ⟨_, rfl⟩
      obtain ⟨c1, ec1⟩ : ∃ r, v / 65536 = r := ⟨_, rfl⟩
      have hset := nd_set l k r (by omega)
      have htk := nd_take (dgP b 16) k (by rw [dgP_length]; exact hlt)
      rw [eyk] at htk
      rw [ex] at hset
      have hinv2 : nd (l.set k r) + c1 * 65536 ^ (k + 1) = a + nd ((dgP b 16).take (k + 1)) := by
        rw [htk, Nat.pow_succ]; exact add_step (nd l) a _ (nd (l.set k r)) c x y c1 (65536 ^ k) v hinv (by rw [er]; exact hset) (by omega) ec1
      have HS1 : Hid (c + x = s1 ∧ s1 < 18446744073709551616) := ⟨es1, by omega⟩
      have HV : Hid (s1 + y = v ∧ v < 18446744073709551616) := ⟨ev, by omega⟩
      have hc1 : c1 ≤ 1 := by omega
      have hrl : r < 65536 := by omega
      have HYC : Hid (∀ j, k ≤ j → j < 16 → wr.cell? ⟨gy, j, none⟩ = some (.int .u64 (gw (dgP b 16) j : Nat))) := hyc
      have HX : Hid (gw l k = x) := ex
      have HYK : Hid (wr.cell? ⟨gy, k, none⟩ = some (.int .u64 (y : Nat))) := hyk
      have HLK : Hid (k < l.length) := by show _ < _; omega
      have HLC : Hid (k < (c64 l ++ jx).length) := by show _ < _; rw [List.length_append, c64_length]; omega
      have HR : Hid (v % 65536 = r) := er
      have HC1 : Hid (v / 65536 = c1) := ec1
      have LV : Hid (v < 18446744073709551616) := by show _ < _; omega
      have H0 : Hid (65536 ≠ 0) := by show _ ≠ _; decide
      have HNX : Hid (c1 ≤ 1 ∧ (l.set k r).length = 16 ∧ (∀ x ∈ l.set k r, x < 65536) ∧ nd (l.set k r) + c1 * 65536 ^ (k + 1) = a + nd ((dgP b 16).take (k + 1))) := ⟨hc1, by rw [List.length_set]; exact hlen, set_lt hd k r hrl, hinv2⟩
      clear hyc hyk ex eyk hxl hyl er ev hset htk hinv2 hc1 hrl hc hd hinv es1 ec1
      go_wp2
      have F := G_fit wr (fun _ _ _ _ => False) (fun _ _ _ _ _ h _ => h)
      refine Mild2.wp_region F (by kernel_rfl) (by kernel_rfl) (gr_draw _) ?_
      iterate 3 (refine Mild2.step_quiet F rfl rfl rfl (fun w0 hC hF K hK => ?_); clear hF; go_big_quiet_op; refine hK _ ?_; clear hK K hC; clear w0)
      refine Mild2.step_known F rfl rfl (.pointer (some ⟨gx, k, none⟩)) (fun w0 hC _ => exec_sidx Try.ws (.tmp 19) (.tmp 20) rfl gx 16 capx k .i64 k rfl hlt rfl rfl) ?_
      simp only [Act.put, List.setIfInBounds_toArray, List.set_cons_succ, List.set_cons_zero]
      refine Mild2.step_known F rfl rfl (.int .u64 (x : Nat)) (fun w0 hC _ => exec_getc Try.u64 (.tmp 21) rfl gx k _ (row_cellv ((m.get 0 rfl).gr hC) HLK.out HX.out) rfl) ?_
      simp only [Act.put, List.setIfInBounds_toArray, List.set_cons_succ, List.set_cons_zero]
      refine Mild2.step_known F rfl rfl (.int .u64 (s1 : Nat)) (fun w0 hC _ => exec_addU (.tmp 18) (.tmp 22) _ _ rfl c x s1 HS1.out.1 HS1.out.2 rfl rfl) ?_
      simp only [Act.put, List.setIfInBounds_toArray, List.set_cons_succ, List.set_cons_zero]
      iterate 2 (refine Mild2.step_quiet F rfl rfl rfl (fun w0 hC hF K hK => ?_); clear hF; go_big_quiet_op; refine hK _ ?_; clear hK K hC; clear w0)
      refine Mild2.step_known F rfl rfl (.pointer (some ⟨gy, k, none⟩)) (fun w0 hC _ => exec_sidx Try.ws (.tmp 24) (.tmp 25) rfl gy 16 capy k .i64 k rfl hlt rfl rfl) ?_
      simp only [Act.put, List.setIfInBounds_toArray, List.set_cons_succ, List.set_cons_zero]
      refine Mild2.step_known F rfl rfl (.int .u64 (y : Nat)) (fun w0 hC _ => exec_getc Try.u64 (.tmp 26) rfl gy k _ (cell_gr HYK.out hC) rfl) ?_
      simp only [Act.put, List.setIfInBounds_toArray, List.set_cons_succ, List.set_cons_zero]
      refine Mild2.step_known F rfl rfl (.int .u64 (v : Nat)) (fun w0 hC _ => exec_addU (.tmp 23) (.tmp 27) _ _ rfl s1 y v HV.out.1 HV.out.2 rfl rfl) ?_
      simp only [Act.put, List.setIfInBounds_toArray, List.set_cons_succ, List.set_cons_zero]
      iterate 1 (refine Mild2.step_quiet F rfl rfl rfl (fun w0 hC hF K hK => ?_); clear hF; go_big_quiet_op; refine hK _ ?_; clear hK K hC; clear w0)
      intro w9 hw9 hf9
      have HY9 : Hid (∀ j, k ≤ j → j < 16 → w9.cell? ⟨gy, j, none⟩ = some (.int .u64 (gw (dgP b 16) j : Nat))) := fun j h1 h2 => cell_gr (HYC.out j h1 h2) hw9
      replace m := m.gr hw9
      clear hf9 hw9 F HYC HYK
      go_wp2_with ((first
        | (refine wpList_val rfl (.int .u64 (r : Int)) (exec_remN (.tmp 31) (.const (.int .u64 65536)) _ _ rfl v 65536 r HR.out H0.out .u64 rfl rfl) ?_)
        | (refine wpList_val rfl (.pointer (some ⟨gx, k, none⟩)) (exec_sidx Try.ws (.tmp 29) (.tmp 30) rfl gx 16 capx k .i64 k rfl hlt rfl rfl) ?_)
        | (refine wpList_store_cell rfl 22 (.tmp 33) (.tmp 32) rfl rfl Try.one64 gx k _ (.int .u64 (r : Nat)) HLC.out rfl rfl rfl 22 (m.get 0 rfl) ?_; intro w10 ha10 b10)
        | (refine wpList_val rfl (.int .u64 (c1 : Int)) (exec_quoU (.tmp 34) (.const (.int .u64 65536)) _ _ rfl v 65536 c1 HC1.out LV.out H0.out rfl rfl) ?_)); try simp only [Act.put, List.setIfInBounds_toArray, List.set_cons_succ, List.set_cons_zero])
      have hm0 := m.get 0 rfl
      have m10 := m.put 0 rfl b10 ha10
      rw [row_set l jx k r HLK.out] at m10
      have hy10 : ∀ j, k + 1 ≤ j → j < 16 → w10.cell? ⟨gy, j, none⟩ = some (.int .u64 (gw (dgP b 16) j : Nat)) := fun j h1 h2 => (cell_same hm0 ha10 b10 (by omega)).trans (HY9.out j (by omega) h2)
      clear ha10 b10 hm0 m HY9
      go_roundw
      case rel => exact ⟨k + 1, l.set k r, c1, by omega, by go_num, rfl, HNX.out.1, HNX.out.2.1, HNX.out.2.2.1, HNX.out.2.2.2, hy10, m10⟩
      case measure => simp [intOf]; omega
    · obtain rfl : k = 16 := by omega
      have hfin : nd l < M := by have := nd_lt l hd; rw [hlen] at this; exact this
      have htl : (dgP b 16).take 16 = dgP b 16 := List.take_of_length_le (by rw [dgP_length]; omega)
      rw [htl, nd_all b HB.out] at hinv
      have hinv' : a + b = nd l + M * c := by rw [← hinv, Nat.mul_comm M c]; rfl
      have EN : Hid ((a + b) % M = nd l) := by show _ = _; rw [hinv', Nat.add_mul_mod_self_left, Nat.mod_eq_of_lt hfin]
      have EC : Hid ((a + b) / M = c) := by show _ = _; rw [hinv', Nat.add_mul_div_left _ _ (by decide), Nat.div_eq_of_lt hfin, Nat.zero_add]
      have E1 : Hid (N0 = nd l) := by show _ = _; rw [← HN0.out, EN.out]
      have E2 : Hid (C0 = c) := by show _ = _; rw [← HC0.out, EC.out]
      have HD : Hid (∀ x ∈ l, x < 65536) := hd
      clear hyc hinv hinv' hfin htl hd hc EN EC HN0 HC0 
      go_wp2_with ((first
        | (go_at_call 73; refine (whole_any _ gx 16 capx l jx 0 hlen (m.get 0 rfl) (by decide) (by decide) HD.out).mono ?_; rintro e w20 ⟨rfl, b20⟩; rw [len16 l hlen]; replace m := m.gr b20; clear b20)
        | (refine W.store m rfl (.tmp 4) (.tmp 37) rfl rfl 1 (nd l) rfl (w4_length _) rfl rfl ?_; clear m; intro w21 m)))
      refine bodyPost_ret (results_arr_tmp Try.aw Try.results64 _ w21 g4 (c64 (w4 (nd l))) (wl (nd l)) rfl (m.get 1 rfl)) rfl ⟨by rw [E1.out, E2.out]; rfl, m.below⟩

set_option maxRecDepth 20000 in
set_option maxHeartbeats 4000000 in
theorem rsub_any (a b : Nat) (ha : a < M) (hb : b < M) (w : World) :
    Calls Try.prog 76 #[wv a, wv b] w fun e w' => e = .returned (.tuple #[wv ((a + M - b) % M), .int .u64 ((if a < b then 1 else 0 : Nat) : Int)]) ∧ Below w.heap.size w w' := by
  have HA : Hid (a < M) := ha
  have HB : Hid (b < M) := hb
  have HD1 : Hid (∀ w, Calls Try.prog 81 #[wv a] w fun e w' => ∃ v, e = .returned v ∧ NewD w.heap.size 16 (dgP a 16) v w' ∧ Below w.heap.size w w') := digits_any a ha
  have HD2 : Hid (∀ w, Calls Try.prog 81 #[wv b] w fun e w' => ∃ v, e = .returned v ∧ NewD w.heap.size 16 (dgP b 16) v w' ∧ Below w.heap.size w w') := digits_any b hb
  obtain ⟨N0, HN0⟩ : ∃ N, Hid ((a + M - b) % M = N) := ⟨_, rfl⟩
  obtain ⟨C0, HC0⟩ : ∃ N : Nat, Hid ((if a < b then 1 else 0) = N) := ⟨_, rfl⟩
  rw [HN0.out, HC0.out]
  clear ha hb
  have m := Mem.start w
  go_enter Try.func76, Try.ntmps76
  go_wp2_with ((first
    | (refine W.box m rfl (.tmp 0) rfl a rfl ?_; clear m; intro g2 wx2 m)
    | (refine W.box m rfl (.tmp 1) rfl b rfl ?_; clear m; intro g3 wx3 m)
    | (refine W.alloc m rfl rfl 4 rfl ?_; clear m; intro g4 wx4 m)); try simp only [Act.put, List.setIfInBounds_toArray, List.set_cons_succ, List.set_cons_zero])
  have F := G_fit wx4 (DgK wx4.heap.size a b) DgK.keep
  refine Mild2.wp_region F (by kernel_rfl) (by kernel_rfl) (gr_draw _) ?_
  refine Mild2.step_known F rfl rfl (wv a) (fun w0 hC _ => W.xload m hC (.tmp 2) rfl 2 rfl rfl) ?_
  simp only [Act.put, List.setIfInBounds_toArray, List.set_cons_succ, List.set_cons_zero]
  refine Mild2.step_call rfl 81 #[wv a] (fun w => by go_simp) (NewD wx4.heap.size 16 (dgP a 16)) (fun v w w' hg h => h.gr hg) (fun w0 hC _ => (HD1.out w0).mono fun e w' ⟨v, h1, h2, h3⟩ => ⟨v, h1, h3, DgK.at1 HA.out HB.out _ (h2.mono hC.size)⟩) (fun v w' _ h => h.1 rfl) ?_
  intro v1 hv1
  obtain ⟨_, _, gx, capx, _, rfl, hgx, _⟩ := hv1 (by simp)
  simp only [Act.put, List.setIfInBounds_toArray, List.set_cons_succ, List.set_cons_zero]
  refine Mild2.step_known F rfl rfl (wv b) (fun w0 hC _ => W.xload m hC (.tmp 3) rfl 1 rfl rfl) ?_
  simp only [Act.put, List.setIfInBounds_toArray, List.set_cons_succ, List.set_cons_zero]
  refine Mild2.step_call rfl 81 #[wv b] (fun w => by go_simp) (NewD wx4.heap.size 16 (dgP b 16)) (fun v w w' hg h => h.gr hg) (fun w0 hC _ => (HD2.out w0).mono fun e w' ⟨v, h1, h2, h3⟩ => ⟨v, h1, h3, DgK.at2 HA.out HB.out _ (h2.mono hC.size)⟩) (fun v w' _ h => h.2 rfl) ?_
  intro v2 hv2
  obtain ⟨_, _, gy, capy, _, rfl, hgy, _⟩ := hv2 (by simp)
  simp only [Act.put, List.setIfInBounds_toArray, List.set_cons_succ, List.set_cons_zero]
  iterate 2 (refine Mild2.step_quiet F rfl rfl rfl (fun w0 hC hF K hK => ?_); clear hF; go_big_quiet_op; refine hK _ ?_; clear hK K hC; clear w0)
  intro w8 hw8 hf8
  obtain ⟨gx', capx', jx, ex, _, hx⟩ := (hf8 (some 12)).1.2 rfl
  simp only [Value.slice.injEq, Option.some.injEq, Addr.mk.injEq, and_true, true_and] at ex
  obtain ⟨rfl, rfl⟩ := ex
  obtain ⟨gy', capy', jy, ey, _, hy⟩ := (hf8 (some 14)).2 rfl
  simp only [Value.slice.injEq, Option.some.injEq, Addr.mk.injEq, and_true, true_and] at ey
  obtain ⟨rfl, rfl⟩ := ey
  replace m := m.adopt hw8 hgx hx
  clear hf8 hw8 F hv1 hv2
  have HY0 : Hid (∀ j, j < 16 → w8.cell? ⟨gy, j, none⟩ = some (.int .u64 (gw (dgP b 16) j : Nat))) := fun j hj => row_cell hy (by rw [dgP_length]; exact hj)
  clear hx hy hgx hgy
  go_wp2
  go_loopw [8, 9] (fun cv iv wr => ∃ (k : Nat) (l : List Nat) (c : Nat), k ≤ 16 ∧ iv = .int .i64 (k : Int) ∧ cv = .int .u64 (c : Int) ∧ c ≤ 1 ∧ l.length = 16 ∧ (∀ x ∈ l, x < 65536) ∧ nd l + nd ((dgP b 16).take k) = a + c * 65536 ^ k ∧ (∀ j, k ≤ j → j < 16 → wr.cell? ⟨gy, j, none⟩ = some (.int .u64 (gw (dgP b 16) j : Nat))) ∧ Mem w wr [⟨gx, 22, c64 l ++ jx⟩, ⟨g4, 24, c64 (w4 0)⟩, ⟨g3, 24, c64 (w4 b)⟩, ⟨g2, 24, c64 (w4 a)⟩]) (fun _ iv _ => 16 - (intOf iv).toNat)
  case atStart => exact ⟨0, dgP a 16, 0, by omega, rfl, rfl, by omega, dgP_length a 16, dgP_lt a 16, by rw [nd_all a HA.out]; simp [nd], fun j _ hj => HY0.out j hj, m⟩
  case round =>
    clear m HY0 HD1 HD2
    obtain ⟨k, l, c, hk, rfl, rfl, hc, hlen, hd, hinv, hyc, m⟩ := hrel
    by_cases hlt : k < 16
    · have hyk := hyc k (Nat.le_refl _) hlt
      obtain ⟨x, ex⟩ : ∃ x, gw l k = x := ⟨_, rfl⟩
      obtain ⟨y, eyk⟩ : ∃ x, gw (dgP b 16) k = x := ⟨_, rfl⟩
      have hxl : x < 65536 := ex ▸ gw_lt16 hd k
      have hyl : y < 65536 := eyk ▸ gw_lt16 (dgP_lt b 16) k
      rw [eyk] at hyk
      obtain ⟨s1, es1⟩ : ∃ v, x + 65536 = v := ⟨_, rfl⟩
      obtain ⟨s2, es2⟩ : ∃ v, s1 - y = v := ⟨_, rfl⟩
      obtain ⟨v, ev⟩ : ∃ v, s2 - c = v := ⟨_, rfl⟩
      obtain ⟨r, er⟩ : ∃ r, v % 65536 = r := ⟨_, rfl⟩
      obtain ⟨q, eq⟩ : ∃ r, v / 65536 = r := ⟨_, rfl⟩
      obtain ⟨c1, ec1⟩ : ∃ r, 1 - q = r := ⟨_, rfl⟩
      have hset := nd_set l k r (by omega)
      have htk := nd_take (dgP b 16) k (by rw [dgP_length]; exact hlt)
      rw [eyk] at htk
      rw [ex] at hset
      have hst := sub_step16 (nd l) a _ (nd (l.set k r)) c x y c1 (65536 ^ k) v hinv (by rw [er]; exact hset) hyl hxl hc (by omega) (by rw [eq]; exact ec1)
      have hinv2 : nd (l.set k r) + nd ((dgP b 16).take (k + 1)) = a + c1 * 65536 ^ (k + 1) := by rw [htk, Nat.pow_succ]; exact hst.1
      have HS1 : Hid (x + 65536 = s1 ∧ s1 < 18446744073709551616) := ⟨es1, by omega⟩
      have HS2 : Hid (s2 + y = s1 ∧ s2 < 18446744073709551616) := ⟨by omega, by omega⟩
      have HV : Hid (v + c = s2) := by show _ = _; omega
      have HQ : Hid (v / 65536 = q) := eq
      have H1 : Hid (1 < 18446744073709551616) := by show _ < _; decide
      have hc1 : c1 ≤ 1 := by omega
      have hrl : r < 65536 := by omega
      have HYC : Hid (∀ j, k ≤ j → j < 16 → wr.cell? ⟨gy, j, none⟩ = some (.int .u64 (gw (dgP b 16) j : Nat))) := hyc
      have HX : Hid (gw l k = x) := ex
      have HYK : Hid (wr.cell? ⟨gy, k, none⟩ = some (.int .u64 (y : Nat))) := hyk
      have HLK : Hid (k < l.length) := by show _ < _; omega
      have HLC : Hid (k < (c64 l ++ jx).length) := by show _ < _; rw [List.length_append, c64_length]; omega
      have HR : Hid (v % 65536 = r) := er
      have HC1 : Hid (c1 + q = 1) := by show _ = _; omega
      have LV : Hid (v < 18446744073709551616) := by show _ < _; omega
      have H0 : Hid (65536 ≠ 0) := by show _ ≠ _; decide
      have HNX : Hid (c1 ≤ 1 ∧ (l.set k r).length = 16 ∧ (∀ x ∈ l.set k r, x < 65536) ∧ nd (l.set k r) + nd ((dgP b 16).take (k + 1)) = a + c1 * 65536 ^ (k + 1)) := ⟨hc1, by rw [List.length_set]; exact hlen, set_lt hd k r hrl, hinv2⟩
      clear hyc hyk ex eyk hxl hyl er ev hset htk hinv2 hc1 hrl hc hd hinv es1 es2 eq ec1 hst
      go_wp2
      have F := G_fit wr (fun _ _ _ _ => False) (fun _ _ _ _ _ h _ => h)
      refine Mild2.wp_region F (by kernel_rfl) (by kernel_rfl) (gr_draw _) ?_
      iterate 2 (refine Mild2.step_quiet F rfl rfl rfl (fun w0 hC hF K hK => ?_); clear hF; go_big_quiet_op; refine hK _ ?_; clear hK K hC; clear w0)
      refine Mild2.step_known F rfl rfl (.pointer (some ⟨gx, k, none⟩)) (fun w0 hC _ => exec_sidx Try.ws (.tmp 19) (.tmp 20) rfl gx 16 capx k .i64 k rfl hlt rfl rfl) ?_
      simp only [Act.put, List.setIfInBounds_toArray, List.set_cons_succ, List.set_cons_zero]
      refine Mild2.step_known F rfl rfl (.int .u64 (x : Nat)) (fun w0 hC _ => exec_getc Try.u64 (.tmp 21) rfl gx k _ (row_cellv ((m.get 0 rfl).gr hC) HLK.out HX.out) rfl) ?_
      simp only [Act.put, List.setIfInBounds_toArray, List.set_cons_succ, List.set_cons_zero]
      refine Mild2.step_known F rfl rfl (.int .u64 (s1 : Nat)) (fun w0 hC _ => exec_addU (.tmp 22) (.const (.int .u64 65536)) _ _ rfl x 65536 s1 HS1.out.1 HS1.out.2 rfl rfl) ?_
      simp only [Act.put, List.setIfInBounds_toArray, List.set_cons_succ, List.set_cons_zero]
      iterate 2 (refine Mild2.step_quiet F rfl rfl rfl (fun w0 hC hF K hK => ?_); clear hF; go_big_quiet_op; refine hK _ ?_; clear hK K hC; clear w0)
      refine Mild2.step_known F rfl rfl (.pointer (some ⟨gy, k, none⟩)) (fun w0 hC _ => exec_sidx Try.ws (.tmp 24) (.tmp 25) rfl gy 16 capy k .i64 k rfl hlt rfl rfl) ?_
      simp only [Act.put, List.setIfInBounds_toArray, List.set_cons_succ, List.set_cons_zero]
      refine Mild2.step_known F rfl rfl (.int .u64 (y : Nat)) (fun w0 hC _ => exec_getc Try.u64 (.tmp 26) rfl gy k _ (cell_gr HYK.out hC) rfl) ?_
      simp only [Act.put, List.setIfInBounds_toArray, List.set_cons_succ, List.set_cons_zero]
      refine Mild2.step_known F rfl rfl (.int .u64 (s2 : Nat)) (fun w0 hC _ => exec_subU (.tmp 23) (.tmp 27) _ _ rfl s1 y s2 HS2.out.1 HS1.out.2 rfl rfl) ?_
      simp only [Act.put, List.setIfInBounds_toArray, List.set_cons_succ, List.set_cons_zero]
      iterate 1 (refine Mild2.step_quiet F rfl rfl rfl (fun w0 hC hF K hK => ?_); clear hF; go_big_quiet_op; refine hK _ ?_; clear hK K hC; clear w0)
      refine Mild2.step_known F rfl rfl (.int .u64 (v : Nat)) (fun w0 hC _ => exec_subU (.tmp 28) (.tmp 29) _ _ rfl s2 c v HV.out HS2.out.2 rfl rfl) ?_
      simp only [Act.put, List.setIfInBounds_toArray, List.set_cons_succ, List.set_cons_zero]
      iterate 1 (refine Mild2.step_quiet F rfl rfl rfl (fun w0 hC hF K hK => ?_); clear hF; go_big_quiet_op; refine hK _ ?_; clear hK K hC; clear w0)
      intro w9 hw9 hf9
      have HY9 : Hid (∀ j, k ≤ j → j < 16 → w9.cell? ⟨gy, j, none⟩ = some (.int .u64 (gw (dgP b 16) j : Nat))) := fun j h1 h2 => cell_gr (HYC.out j h1 h2) hw9
      replace m := m.gr hw9
      clear hf9 hw9 F HYC HYK
      go_wp2_with ((first
        | (refine wpList_val rfl (.int .u64 (q : Int)) (exec_quoU (.tmp 31) (.const (.int .u64 65536)) _ _ rfl v 65536 q HQ.out LV.out H0.out rfl rfl) ?_)
        | (refine wpList_val rfl (.int .u64 (c1 : Int)) (exec_subU (.const (.int .u64 1)) (.tmp 32) _ _ rfl 1 q c1 HC1.out H1.out rfl rfl) ?_)
        | (refine wpList_val rfl (.int .u64 (r : Int)) (exec_remN (.tmp 36) (.const (.int .u64 65536)) _ _ rfl v 65536 r HR.out H0.out .u64 rfl rfl) ?_)
        | (refine wpList_val rfl (.pointer (some ⟨gx, k, none⟩)) (exec_sidx Try.ws (.tmp 34) (.tmp 35) rfl gx 16 capx k .i64 k rfl hlt rfl rfl) ?_)
        | (refine wpList_store_cell rfl 22 (.tmp 38) (.tmp 37) rfl rfl Try.one64 gx k _ (.int .u64 (r : Nat)) HLC.out rfl rfl rfl 22 (m.get 0 rfl) ?_; intro w10 ha10 b10)); try simp only [Act.put, List.setIfInBounds_toArray, List.set_cons_succ, List.set_cons_zero])
      have hm0 := m.get 0 rfl
      have m10 := m.put 0 rfl b10 ha10
      rw [row_set l jx k r HLK.out] at m10
      have hy10 : ∀ j, k + 1 ≤ j → j < 16 → w10.cell? ⟨gy, j, none⟩ = some (.int .u64 (gw (dgP b 16) j : Nat)) := fun j h1 h2 => (cell_same hm0 ha10 b10 (by omega)).trans (HY9.out j (by omega) h2)
      clear ha10 b10 hm0 m HY9
      go_roundw
      case rel => exact ⟨k + 1, l.set k r, c1, by omega, by go_num, rfl, HNX.out.1, HNX.out.2.1, HNX.out.2.2.1, HNX.out.2.2.2, hy10, m10⟩
      case measure => simp [intOf]; omega
    · obtain rfl : k = 16 := by omega
      have hfin : nd l < M := by have := nd_lt l hd; rw [hlen] at this; exact this
      have htl : (dgP b 16).take 16 = dgP b 16 := List.take_of_length_le (by rw [dgP_length]; omega)
      rw [htl, nd_all b HB.out] at hinv
      have hinv' : a + M * c = nd l + b := by rw [hinv, Nat.mul_comm M c]; rfl
      obtain ⟨k1, k2⟩ := sub_fin a b (nd l) c M hc hinv' hfin
      have EN : Hid ((a + M - b) % M = nd l) := k1
      have EC : Hid ((if a < b then 1 else 0) = c) := k2
      have E1 : Hid (N0 = nd l) := by show _ = _; rw [← HN0.out, EN.out]
      have E2 : Hid (C0 = c) := by show _ = _; rw [← HC0.out, EC.out]
      have HD : Hid (∀ x ∈ l, x < 65536) := hd
      clear hyc hinv hinv' hfin htl hd hc EN EC HN0 HC0 k1 k2
      go_wp2_with ((first
        | (go_at_call 73; refine (whole_any _ gx 16 capx l jx 0 hlen (m.get 0 rfl) (by decide) (by decide) HD.out).mono ?_; rintro e w20 ⟨rfl, b20⟩; rw [len16 l hlen]; replace m := m.gr b20; clear b20)
        | (refine W.store m rfl (.tmp 4) (.tmp 40) rfl rfl 1 (nd l) rfl (w4_length _) rfl rfl ?_; clear m; intro w21 m)))
      refine bodyPost_ret (results_arr_tmp Try.aw Try.results76 _ w21 g4 (c64 (w4 (nd l))) (wl (nd l)) rfl (m.get 1 rfl)) rfl ⟨by rw [E1.out, E2.out]; rfl, m.below⟩
end Go.Proofs.Ytpfoeeiacfadfaa
/-
  Contracts of the document's Product and Mul.
  Conditions: numbers below 2^256.
-/
namespace Go.Proofs.Ytpfoeeiacfadfaa
open Go.RowKit

/-- make([]uint64, n) -/
theorem wpList_make_u64 {P : Program} {T E : TypeId} (t : WT P T E) {w : World} {ops : Array Oper} {rest : List Oper} {o : Oper} {a : Act} {Q : Exit → Act → World → Prop} (hgd : o.guard = none) (s c : Operand)
    (ho : o.op = Op.makeSlice T s c) (kl kc : IntKind) (n : Nat) (hs : a.eval s = .int kl (n : Int)) (hc : a.eval c = .int kc (n : Int)) (h0 : 0 < n) (h1 : n ≤ 1099511627776)
    (h : ∀ g junk w', w.heap.size ≤ g → Arr E w' g (c64 (List.replicate n 0) ++ junk) → Below w.heap.size w w' → wpList P ops Q rest (a.put o.dst (.slice (some ⟨g, 0, none⟩) n n)) w') : wpList P ops Q (o :: rest) a w := by
  obtain ⟨i0, hi, hz0, hz1, hz2⟩ := info_parts t.info
  refine wpList_make_full w hgd s c T ho w.heap.size E i0 (.int .u64 0) 1 t.sl hi hz0 hz1 kl kc _ _ n hs hc rfl rfl (by rw [hz2]; omega) (by unfold maxLen; omega) (Nat.le_refl _) fun w' h2 h3 => ?_
  have e : (madeCells (Value.int IntKind.u64 0).cells (n * 1)).toList = c64 (List.replicate n 0) := by
    rw [Nat.mul_one]
    show (madeCells #[Value.int IntKind.u64 0] n).toList = _
    rw [toList_madeCells_one]
    simp [c64]
  rw [e] at h2
  have h2' : Ow E w.heap.size w' (.slice (some ⟨w.heap.size, 0, none⟩) n n) (List.replicate n 0) := by unfold Ow; rw [List.length_replicate]; exact h2
  obtain ⟨g, cap, junk, eg, hg, ha⟩ := h2'.shape (fun e => by have := congrArg List.length e; rw [List.length_replicate] at this; simp at this; omega)
  simp only [Value.slice.injEq, Option.some.injEq, Addr.mk.injEq, and_true] at eg
  obtain ⟨rfl, _, _⟩ := eg
  exact h _ junk w' (Nat.le_refl _) ha ((Below.refl w.heap.size w).grown h3 (Nat.le_refl _) fun k hk => by cases hk)
theorem nd_zeros (n : Nat) : nd (List.replicate n 0) = 0 := by
  induction n with
  | zero => rfl
  | succ n ih => simp [List.replicate_succ, nd, ih]
theorem gw_zeros (n j : Nat) : gw (List.replicate n 0) j = 0 := by
  by_cases h : j < n
  · simp [gw, List.getD, h]
  · simp [gw, List.getD, h]
theorem gw_set_ne (l : List Nat) (i j v : Nat) (h : j ≠ i) : gw (l.set i v) j = gw l j := by
  simp [gw, List.getD, Ne.symm h]
theorem cell_but {w w' : World} {g k j : Nat} (hb : But g w w') (hk : k ≠ g) : w'.cell? ⟨k, j, none⟩ = w.cell? ⟨k, j, none⟩ := by
  unfold World.cell?; rw [hb.block k hk]
/-- The digits of a product. -/
def NewP (B n : Nat) (v : Value) (w : World) : Prop := ∃ g cap junk d, v = .slice (some ⟨g, 0, none⟩) 32 cap ∧ B ≤ g ∧ Arr 22 w g (c64 d ++ junk) ∧ d.length = 32 ∧ (∀ x ∈ d, x < 65536) ∧ nd d = n
theorem prod_bound (x y c d : Nat) (hx : x < 65536) (hy : y < 65536) (hc : c < 65536) (hd : d < 65536) : x * y < 4294967296 ∧ c + d + x * y < 4294967296 := by
  have := Nat.mul_le_mul (show x ≤ 65535 by omega) (show y ≤ 65535 by omega)
  omega
theorem row_step (A b x pi Yk y pk : Nat) : A * b + x * pi * Yk + x * y * (pi * pk) = A * b + x * pi * (Yk + y * pk) := by
  rw [Nat.mul_add, Nat.add_assoc]; congr 2
  simp only [Nat.mul_left_comm, Nat.mul_comm]
theorem row_end (A b x pi : Nat) : A * b + x * pi * b = (A + x * pi) * b := by rw [Nat.add_mul]

set_option maxRecDepth 20000 in
set_option maxHeartbeats 8000000 in
theorem product_any (a b : Nat) (ha : a < M) (hb : b < M) (w : World) :
    Calls Try.prog 72 #[wv a, wv b] w fun e w' => ∃ v, e = .returned v ∧ NewP w.heap.size (a * b) v w' ∧ Below w.heap.size w w' := by
  have HA : Hid (a < M) := ha
  have HB : Hid (b < M) := hb
  have HD1 : Hid (∀ w, Calls Try.prog 81 #[wv a] w fun e w' => ∃ v, e = .returned v ∧ NewD w.heap.size 16 (dgP a 16) v w' ∧ Below w.heap.size w w') := digits_any a ha
  have HD2 : Hid (∀ w, Calls Try.prog 81 #[wv b] w fun e w' => ∃ v, e = .returned v ∧ NewD w.heap.size 16 (dgP b 16) v w' ∧ Below w.heap.size w w') := digits_any b hb
  clear ha hb
  have m := Mem.start w
  go_enter Try.func72, Try.ntmps72
  go_wp2_with ((first
    | (refine W.box m rfl (.tmp 0) rfl a rfl ?_; clear m; intro g2 wx2 m)
    | (refine W.box m rfl (.tmp 1) rfl b rfl ?_; clear m; intro g3 wx3 m)); try simp only [Act.put, List.setIfInBounds_toArray, List.set_cons_succ, List.set_cons_zero])
  have F := G_fit wx3 (DgK wx3.heap.size a b) DgK.keep
  refine Mild2.wp_region F (by kernel_rfl) (by kernel_rfl) (gr_draw _) ?_
  refine Mild2.step_known F rfl rfl (wv a) (fun w0 hC _ => W.xload m hC (.tmp 2) rfl 1 rfl rfl) ?_
  simp only [Act.put, List.setIfInBounds_toArray, List.set_cons_succ, List.set_cons_zero]
  refine Mild2.step_call rfl 81 #[wv a] (fun w => by go_simp) (NewD wx3.heap.size 16 (dgP a 16)) (fun v w w' hg h => h.gr hg) (fun w0 hC _ => (HD1.out w0).mono fun e w' ⟨v, h1, h2, h3⟩ => ⟨v, h1, h3, DgK.at1 HA.out HB.out _ (h2.mono hC.size)⟩) (fun v w' _ h => h.1 rfl) ?_
  intro v1 hv1
  obtain ⟨_, _, gx, capx, _, rfl, hgx, _⟩ := hv1 (by simp)
  simp only [Act.put, List.setIfInBounds_toArray, List.set_cons_succ, List.set_cons_zero]
  refine Mild2.step_known F rfl rfl (wv b) (fun w0 hC _ => W.xload m hC (.tmp 3) rfl 0 rfl rfl) ?_
  simp only [Act.put, List.setIfInBounds_toArray, List.set_cons_succ, List.set_cons_zero]
  refine Mild2.step_call rfl 81 #[wv b] (fun w => by go_simp) (NewD wx3.heap.size 16 (dgP b 16)) (fun v w w' hg h => h.gr hg) (fun w0 hC _ => (HD2.out w0).mono fun e w' ⟨v, h1, h2, h3⟩ => ⟨v, h1, h3, DgK.at2 HA.out HB.out _ (h2.mono hC.size)⟩) (fun v w' _ h => h.2 rfl) ?_
  intro v2 hv2
  obtain ⟨_, _, gy, capy, _, rfl, hgy, _⟩ := hv2 (by simp)
  simp only [Act.put, List.setIfInBounds_toArray, List.set_cons_succ, List.set_cons_zero]
  iterate 2 (refine Mild2.step_quiet F rfl rfl rfl (fun w0 hC hF K hK => ?_); clear hF; go_big_quiet_op; refine hK _ ?_; clear hK K hC; clear w0)
  intro w8 hw8 hf8
  obtain ⟨gx', capx', jx, ex, _, hx⟩ := (hf8 (some 12)).1.2 rfl
  simp only [Value.slice.injEq, Option.some.injEq, Addr.mk.injEq, and_true, true_and] at ex
  obtain ⟨rfl, rfl⟩ := ex
  obtain ⟨gy', capy', jy, ey, _, hy⟩ := (hf8 (some 14)).2 rfl
  simp only [Value.slice.injEq, Option.some.injEq, Addr.mk.injEq, and_true, true_and] at ey
  obtain ⟨rfl, rfl⟩ := ey
  replace m := m.gr hw8
  clear hf8 hw8 F hv1 hv2
  have HX0 : Hid (∀ j, j < 16 → w8.cell? ⟨gx, j, none⟩ = some (.int .u64 (gw (dgP a 16) j : Nat))) := fun j hj => row_cell hx (by rw [dgP_length]; exact hj)
  have HY0 : Hid (∀ j, j < 16 → w8.cell? ⟨gy, j, none⟩ = some (.int .u64 (gw (dgP b 16) j : Nat))) := fun j hj => row_cell hy (by rw [dgP_length]; exact hj)
  have lx := hx.lt
  have ly := hy.lt
  clear hx hy hgx hgy
  go_wp2_with ((first
    | (refine wpList_make_u64 Try.ws rfl (.const (.int .i64 32)) (.const (.int .i64 32)) rfl .i64 .i64 32 rfl rfl (by decide) (by decide) ?_; intro gd jd wd hgd had bd)); try simp only [Act.put, List.setIfInBounds_toArray, List.set_cons_succ, List.set_cons_zero])
  have hxd : gx ≠ gd := by omega
  have hyd : gy ≠ gd := by omega
  have HXd : Hid (∀ j, j < 16 → wd.cell? ⟨gx, j, none⟩ = some (.int .u64 (gw (dgP a 16) j : Nat))) := fun j hj => cell_gr (HX0.out j hj) bd
  have HYd : Hid (∀ j, j < 16 → wd.cell? ⟨gy, j, none⟩ = some (.int .u64 (gw (dgP b 16) j : Nat))) := fun j hj => cell_gr (HY0.out j hj) bd
  have HG : Hid (w.heap.size ≤ gd) := Nat.le_trans (Nat.le_trans m.size (Nat.le_refl _)) hgd
  replace m := m.adopt bd hgd had
  clear had bd hgd lx ly HX0 HY0
  go_loopw [8] (fun iv wr => ∃ (i : Nat) (d : List Nat), i ≤ 16 ∧ iv = .int .i64 (i : Int) ∧ d.length = 32 ∧ (∀ x ∈ d, x < 65536) ∧ nd d = nd ((dgP a 16).take i) * b ∧ (∀ j, i + 16 ≤ j → j < 32 → gw d j = 0) ∧ (∀ j, j < 16 → wr.cell? ⟨gx, j, none⟩ = some (.int .u64 (gw (dgP a 16) j : Nat))) ∧ (∀ j, j < 16 → wr.cell? ⟨gy, j, none⟩ = some (.int .u64 (gw (dgP b 16) j : Nat))) ∧ Mem w wr [⟨gd, 22, c64 d ++ jd⟩, ⟨g3, 24, c64 (w4 b)⟩, ⟨g2, 24, c64 (w4 a)⟩]) (fun iv _ => 16 - (intOf iv).toNat)
  case atStart => exact ⟨0, List.replicate 32 0, by omega, rfl, List.length_replicate, fun x hx => by rw [List.eq_of_mem_replicate hx]; decide, by rw [nd_zeros]; simp [nd], fun j _ _ => gw_zeros 32 j, HXd.out, HYd.out, m⟩
  case round =>
    clear m HD1 HD2 HXd HYd
    obtain ⟨i, d, hi, rfl, hlen, hdl, hinv, hzero, hxc, hyc, m⟩ := hrel
    by_cases hlt : i < 16
    · obtain ⟨x, ex⟩ : ∃ x, gw (dgP a 16) i = x := ⟨_, rfl⟩
      have hxl : x < 65536 := ex ▸ gw_lt16 (dgP_lt a 16) i
      have htx := nd_take (dgP a 16) i (by rw [dgP_length]; exact hlt)
      rw [ex] at htx
      obtain ⟨A, eA⟩ : ∃ A, nd ((dgP a 16).take i) = A := ⟨_, rfl⟩
      rw [eA] at htx hinv
      have HTX : Hid (nd ((dgP a 16).take (i + 1)) = A + x * 65536 ^ i) := htx
      have HXE : Hid (gw (dgP a 16) i = x) := ex
      have HXL : Hid (x < 65536) := hxl
      have HI0 : Hid (d.length = 32 ∧ (∀ x ∈ d, x < 65536) ∧ nd d = A * b ∧ (∀ j, i + 16 ≤ j → j < 32 → gw d j = 0)) := ⟨hlen, hdl, hinv, hzero⟩
      have HXC : Hid (∀ j, j < 16 → wr.cell? ⟨gx, j, none⟩ = some (.int .u64 (gw (dgP a 16) j : Nat))) := hxc
      have HYC : Hid (∀ j, j < 16 → wr.cell? ⟨gy, j, none⟩ = some (.int .u64 (gw (dgP b 16) j : Nat))) := hyc
      clear hlen hdl hinv hzero hxc hyc ex hxl htx eA
      go_wp2
      go_loopw [9, 10] (fun cv kv wr => ∃ (k : Nat) (d : List Nat) (c : Nat), k ≤ 16 ∧ kv = .int .i64 (k : Int) ∧ cv = .int .u64 (c : Int) ∧ c < 65536 ∧ d.length = 32 ∧ (∀ x ∈ d, x < 65536) ∧ nd d + c * 65536 ^ (i + k) = A * b + x * 65536 ^ i * nd ((dgP b 16).take k) ∧ (∀ j, i + 16 ≤ j → j < 32 → gw d j = 0) ∧ (∀ j, j < 16 → wr.cell? ⟨gx, j, none⟩ = some (.int .u64 (gw (dgP a 16) j : Nat))) ∧ (∀ j, j < 16 → wr.cell? ⟨gy, j, none⟩ = some (.int .u64 (gw (dgP b 16) j : Nat))) ∧ Mem w wr [⟨gd, 22, c64 d ++ jd⟩, ⟨g3, 24, c64 (w4 b)⟩, ⟨g2, 24, c64 (w4 a)⟩]) (fun _ kv _ => 16 - (intOf kv).toNat)
      case atStart => exact ⟨0, d, 0, by omega, rfl, rfl, by decide, HI0.out.1, HI0.out.2.1, by rw [HI0.out.2.2.1]; simp [nd], HI0.out.2.2.2, HXC.out, HYC.out, m⟩
      case round =>
        clear m HI0 HXC HYC
        obtain ⟨k, d, c, hk, rfl, rfl, hc, hlen, hdl, hinv, hzero, hxc, hyc, m⟩ := hrel
        by_cases hl2 : k < 16
        · obtain ⟨p, ep⟩ : ∃ p, i + k = p := ⟨_, rfl⟩
          have hp : p < 32 := by omega
          obtain ⟨dj, ed⟩ : ∃ x, gw d p = x := ⟨_, rfl⟩
          obtain ⟨y, ey⟩ : ∃ x, gw (dgP b 16) k = x := ⟨_, rfl⟩
          have hyl : y < 65536 := ey ▸ gw_lt16 (dgP_lt b 16) k
          have hdjl : dj < 65536 := ed ▸ gw_lt16 hdl p
          have hxl := HXL.out
          obtain ⟨hb1, hb2⟩ := prod_bound x y c dj hxl hyl hc hdjl
          obtain ⟨s1, es1⟩ : ∃ v, c + dj = v := ⟨_, rfl⟩
          obtain ⟨pr, epr⟩ : ∃ v, x * y = v := ⟨_, rfl⟩
          obtain ⟨v, ev⟩ : ∃ v, s1 + pr = v := ⟨_, rfl⟩
          obtain ⟨r, er⟩ : ∃ r, v % 65536 = r := ⟨_, rfl⟩
          obtain ⟨c1, ec1⟩ : ∃ r, v / 65536 = r := ⟨_, rfl⟩
          rw [epr] at hb1 hb2
          have hset := nd_set d p r (by omega)
          rw [ed] at hset
          have htk := nd_take (dgP b 16) k (by rw [dgP_length]; exact hl2)
          rw [ey] at htk
          have hinv2 : nd (d.set p r) + c1 * 65536 ^ (i + (k + 1)) = A * b + x * 65536 ^ i * nd ((dgP b 16).take (k + 1)) := by
            rw [ep] at hinv
            have := mul_step16 (nd d) _ (nd (d.set p r)) c dj pr c1 (65536 ^ p) v hinv (by rw [er]; exact hset) (by omega) ec1
            rw [htk, ← row_step, epr, ← Nat.pow_add, ep, ← this, ← Nat.add_assoc, ep, Nat.pow_succ]
          have HNX : Hid (c1 < 65536 ∧ (d.set p r).length = 32 ∧ (∀ x ∈ d.set p r, x < 65536) ∧ nd (d.set p r) + c1 * 65536 ^ (i + (k + 1)) = A * b + x * 65536 ^ i * nd ((dgP b 16).take (k + 1)) ∧ (∀ j, i + 16 ≤ j → j < 32 → gw (d.set p r) j = 0)) :=
            ⟨by omega, by rw [List.length_set]; exact hlen, set_lt hdl p r (by omega), hinv2, fun j h1 h2 => by rw [gw_set_ne d p j r (by omega)]; exact hzero j h1 h2⟩
          have HP : Hid ((i : Int) + (k : Int) = (p : Int) ∧ -9223372036854775808 ≤ (p : Int) ∧ (p : Int) < 9223372036854775808) := ⟨by omega, by omega, by omega⟩
          have HDJ : Hid (gw d p = dj) := ed
          have HDP : Hid (p < d.length) := by show _ < _; omega
          have HLC : Hid (p < (c64 d ++ jd).length) := by show _ < _; rw [List.length_append, c64_length]; omega
          have HXI : Hid (wr.cell? ⟨gx, i, none⟩ = some (.int .u64 (x : Nat))) := by have := hxc i hlt; rw [HXE.out] at this; exact this
          have HYK : Hid (wr.cell? ⟨gy, k, none⟩ = some (.int .u64 (y : Nat))) := by have := hyc k hl2; rw [ey] at this; exact this
          have HS1 : Hid (c + dj = s1 ∧ s1 < 18446744073709551616) := ⟨es1, by omega⟩
          have HPR : Hid (x * y = pr ∧ pr < 18446744073709551616) := ⟨epr, by omega⟩
          have HV : Hid (s1 + pr = v ∧ v < 18446744073709551616) := ⟨ev, by omega⟩
          have HR : Hid (v % 65536 = r) := er
          have HC1 : Hid (v / 65536 = c1) := ec1
          have H0 : Hid (65536 ≠ 0) := by show _ ≠ _; decide
          have HXC : Hid (∀ j, j < 16 → wr.cell? ⟨gx, j, none⟩ = some (.int .u64 (gw (dgP a 16) j : Nat))) := hxc
          have HYC : Hid (∀ j, j < 16 → wr.cell? ⟨gy, j, none⟩ = some (.int .u64 (gw (dgP b 16) j : Nat))) := hyc
          clear hxc hyc ep ed ey hyl hdjl hxl hb1 hb2 es1 epr ev er ec1 hset htk hinv2 hc hdl hinv hzero
          go_wp2
          have F := G_fit wr (fun _ _ _ _ => False) (fun _ _ _ _ _ h _ => h)
          refine Mild2.wp_region F (by kernel_rfl) (by kernel_rfl) (gr_draw _) ?_
          iterate 4 (refine Mild2.step_quiet F rfl rfl rfl (fun w0 hC hF K hK => ?_); clear hF; go_big_quiet_op; refine hK _ ?_; clear hK K hC; clear w0)
          refine Mild2.step_known F rfl rfl (.int .i64 (p : Int)) (fun w0 hC _ => exec_addI (.tmp 26) (.tmp 27) _ _ rfl i k p HP.out.1 HP.out.2.1 HP.out.2.2 rfl rfl) ?_
          simp only [Act.put, List.setIfInBounds_toArray, List.set_cons_succ, List.set_cons_zero]
          refine Mild2.step_known F rfl rfl (.pointer (some ⟨gd, p, none⟩)) (fun w0 hC _ => exec_sidx Try.ws (.tmp 25) (.tmp 28) rfl gd 32 32 p .i64 p rfl hp rfl rfl) ?_
          simp only [Act.put, List.setIfInBounds_toArray, List.set_cons_succ, List.set_cons_zero]
          refine Mild2.step_known F rfl rfl (.int .u64 (dj : Nat)) (fun w0 hC _ => exec_getc Try.u64 (.tmp 29) rfl gd p _ (row_cellv ((m.get 0 rfl).gr hC) HDP.out HDJ.out) rfl) ?_
          simp only [Act.put, List.setIfInBounds_toArray, List.set_cons_succ, List.set_cons_zero]
          refine Mild2.step_known F rfl rfl (.int .u64 (s1 : Nat)) (fun w0 hC _ => exec_addU (.tmp 24) (.tmp 30) _ _ rfl c dj s1 HS1.out.1 HS1.out.2 rfl rfl) ?_
          simp only [Act.put, List.setIfInBounds_toArray, List.set_cons_succ, List.set_cons_zero]
          iterate 2 (refine Mild2.step_quiet F rfl rfl rfl (fun w0 hC hF K hK => ?_); clear hF; go_big_quiet_op; refine hK _ ?_; clear hK K hC; clear w0)
          refine Mild2.step_known F rfl rfl (.pointer (some ⟨gx, i, none⟩)) (fun w0 hC _ => exec_sidx Try.ws (.tmp 32) (.tmp 33) rfl gx 16 capx i .i64 i rfl hlt rfl rfl) ?_
          simp only [Act.put, List.setIfInBounds_toArray, List.set_cons_succ, List.set_cons_zero]
          refine Mild2.step_known F rfl rfl (.int .u64 (x : Nat)) (fun w0 hC _ => exec_getc Try.u64 (.tmp 34) rfl gx i _ (cell_gr HXI.out hC) rfl) ?_
          simp only [Act.put, List.setIfInBounds_toArray, List.set_cons_succ, List.set_cons_zero]
          iterate 2 (refine Mild2.step_quiet F rfl rfl rfl (fun w0 hC hF K hK => ?_); clear hF; go_big_quiet_op; refine hK _ ?_; clear hK K hC; clear w0)
          refine Mild2.step_known F rfl rfl (.pointer (some ⟨gy, k, none⟩)) (fun w0 hC _ => exec_sidx Try.ws (.tmp 36) (.tmp 37) rfl gy 16 capy k .i64 k rfl hl2 rfl rfl) ?_
          simp only [Act.put, List.setIfInBounds_toArray, List.set_cons_succ, List.set_cons_zero]
          refine Mild2.step_known F rfl rfl (.int .u64 (y : Nat)) (fun w0 hC _ => exec_getc Try.u64 (.tmp 38) rfl gy k _ (cell_gr HYK.out hC) rfl) ?_
          simp only [Act.put, List.setIfInBounds_toArray, List.set_cons_succ, List.set_cons_zero]
          refine Mild2.step_known F rfl rfl (.int .u64 (pr : Nat)) (fun w0 hC _ => exec_mulU (.tmp 35) (.tmp 39) _ _ rfl x y pr HPR.out.1 HPR.out.2 rfl rfl) ?_
          simp only [Act.put, List.setIfInBounds_toArray, List.set_cons_succ, List.set_cons_zero]
          refine Mild2.step_known F rfl rfl (.int .u64 (v : Nat)) (fun w0 hC _ => exec_addU (.tmp 31) (.tmp 40) _ _ rfl s1 pr v HV.out.1 HV.out.2 rfl rfl) ?_
          simp only [Act.put, List.setIfInBounds_toArray, List.set_cons_succ, List.set_cons_zero]
          iterate 1 (refine Mild2.step_quiet F rfl rfl rfl (fun w0 hC hF K hK => ?_); clear hF; go_big_quiet_op; refine hK _ ?_; clear hK K hC; clear w0)
          intro w9 hw9 hf9
          have HX9 : Hid (∀ j, j < 16 → w9.cell? ⟨gx, j, none⟩ = some (.int .u64 (gw (dgP a 16) j : Nat))) := fun j hj => cell_gr (HXC.out j hj) hw9
          have HY9 : Hid (∀ j, j < 16 → w9.cell? ⟨gy, j, none⟩ = some (.int .u64 (gw (dgP b 16) j : Nat))) := fun j hj => cell_gr (HYC.out j hj) hw9
          replace m := m.gr hw9
          clear hf9 hw9 F HXC HYC HXI HYK
          go_wp2_with ((first
            | (refine wpList_val rfl (.int .i64 (p : Int)) (exec_addI (.tmp 43) (.tmp 44) _ _ rfl i k p HP.out.1 HP.out.2.1 HP.out.2.2 rfl rfl) ?_)
            | (refine wpList_val rfl (.int .u64 (r : Int)) (exec_remN (.tmp 46) (.const (.int .u64 65536)) _ _ rfl v 65536 r HR.out H0.out .u64 rfl rfl) ?_)
            | (refine wpList_val rfl (.pointer (some ⟨gd, p, none⟩)) (exec_sidx Try.ws (.tmp 42) (.tmp 45) rfl gd 32 32 p .i64 p rfl hp rfl rfl) ?_)
            | (refine wpList_store_cell rfl 22 (.tmp 48) (.tmp 47) rfl rfl Try.one64 gd p _ (.int .u64 (r : Nat)) HLC.out rfl rfl rfl 22 (m.get 0 rfl) ?_; intro w10 ha10 b10)
            | (refine wpList_val rfl (.int .u64 (c1 : Int)) (exec_quoU (.tmp 49) (.const (.int .u64 65536)) _ _ rfl v 65536 c1 HC1.out HV.out.2 H0.out rfl rfl) ?_)); try simp only [Act.put, List.setIfInBounds_toArray, List.set_cons_succ, List.set_cons_zero])
          have m10 := m.put 0 rfl b10 ha10
          rw [row_set d jd p r HDP.out] at m10
          have hx10 : (∀ j, j < 16 → w10.cell? ⟨gx, j, none⟩ = some (.int .u64 (gw (dgP a 16) j : Nat))) := fun j hj => (cell_but b10 hxd).trans (HX9.out j hj)
          have hy10 : (∀ j, j < 16 → w10.cell? ⟨gy, j, none⟩ = some (.int .u64 (gw (dgP b 16) j : Nat))) := fun j hj => (cell_but b10 hyd).trans (HY9.out j hj)
          clear ha10 b10 m HX9 HY9
          go_roundw
          case rel => exact ⟨k + 1, d.set p r, c1, by omega, by go_num, rfl, HNX.out.1, HNX.out.2.1, HNX.out.2.2.1, HNX.out.2.2.2.1, HNX.out.2.2.2.2, hx10, hy10, m10⟩
          case measure => simp [intOf]; omega
        · obtain rfl : k = 16 := by omega
          obtain ⟨p, ep⟩ : ∃ p, i + 16 = p := ⟨_, rfl⟩
          have hp : p < 32 := by omega
          have htl : (dgP b 16).take 16 = dgP b 16 := List.take_of_length_le (by rw [dgP_length]; omega)
          rw [htl, nd_all b HB.out, row_end, ← HTX.out, ep] at hinv
          have hset := nd_set d p c (by omega)
          rw [hzero p (by omega) hp, Nat.zero_mul, Nat.add_zero] at hset
          have HNX : Hid ((d.set p c).length = 32 ∧ (∀ x ∈ d.set p c, x < 65536) ∧ nd (d.set p c) = nd ((dgP a 16).take (i + 1)) * b ∧ (∀ j, i + 1 + 16 ≤ j → j < 32 → gw (d.set p c) j = 0)) :=
            ⟨by rw [List.length_set]; exact hlen, set_lt hdl p c hc, by rw [hset]; exact hinv, fun j h1 h2 => by rw [gw_set_ne d p j c (by omega)]; exact hzero j (by omega) h2⟩
          have HP : Hid ((i : Int) + 16 = (p : Int) ∧ -9223372036854775808 ≤ (p : Int) ∧ (p : Int) < 9223372036854775808) := ⟨by omega, by omega, by omega⟩
          have HDP : Hid (p < d.length) := by show _ < _; omega
          have HLC : Hid (p < (c64 d ++ jd).length) := by show _ < _; rw [List.length_append, c64_length]; omega
          have HX9 : Hid (∀ j, j < 16 → wr.cell? ⟨gx, j, none⟩ = some (.int .u64 (gw (dgP a 16) j : Nat))) := hxc
          have HY9 : Hid (∀ j, j < 16 → wr.cell? ⟨gy, j, none⟩ = some (.int .u64 (gw (dgP b 16) j : Nat))) := hyc
          clear hxc hyc ep htl hset hc hdl hinv hzero
          go_wp2_with ((first
            | (refine wpList_val rfl (.int .i64 (p : Int)) (exec_addI (.tmp 52) (.const (.int .i64 16)) _ _ rfl i 16 p HP.out.1 HP.out.2.1 HP.out.2.2 rfl rfl) ?_)
            | (refine wpList_val rfl (.pointer (some ⟨gd, p, none⟩)) (exec_sidx Try.ws (.tmp 51) (.tmp 53) rfl gd 32 32 p .i64 p rfl hp rfl rfl) ?_)
            | (refine wpList_store_cell rfl 22 (.tmp 55) (.tmp 54) rfl rfl Try.one64 gd p _ (.int .u64 (c : Nat)) HLC.out rfl rfl rfl 22 (m.get 0 rfl) ?_; intro w10 ha10 b10)); try simp only [Act.put, List.setIfInBounds_toArray, List.set_cons_succ, List.set_cons_zero])
          have m10 := m.put 0 rfl b10 ha10
          rw [row_set d jd p c HDP.out] at m10
          have hx10 : (∀ j, j < 16 → w10.cell? ⟨gx, j, none⟩ = some (.int .u64 (gw (dgP a 16) j : Nat))) := fun j hj => (cell_but b10 hxd).trans (HX9.out j hj)
          have hy10 : (∀ j, j < 16 → w10.cell? ⟨gy, j, none⟩ = some (.int .u64 (gw (dgP b 16) j : Nat))) := fun j hj => (cell_but b10 hyd).trans (HY9.out j hj)
          clear ha10 b10 m HX9 HY9
          go_roundw
          case rel => exact ⟨i + 1, d.set p c, by omega, by go_num, HNX.out.1, HNX.out.2.1, HNX.out.2.2.1, HNX.out.2.2.2, hx10, hy10, m10⟩
          case measure => simp [intOf]; omega
    · obtain rfl : i = 16 := by omega
      have htl : (dgP a 16).take 16 = dgP a 16 := List.take_of_length_le (by rw [dgP_length]; omega)
      rw [htl, nd_all a HA.out] at hinv
      have HE : Hid (d.length = 32 ∧ (∀ x ∈ d, x < 65536) ∧ nd d = a * b) := ⟨hlen, hdl, hinv⟩
      clear hxc hyc htl hdl hinv hzero hlen
      go_wp2
      go_ret
      exact ⟨_, rfl, ⟨gd, 32, jd, d, rfl, HG.out, m.get 0 rfl, HE.out⟩, m.below⟩
end Go.Proofs.Ytpfoeeiacfadfaa
/-
  Contract of the document's Mul.
  Conditions: numbers below 2^256.
-/
namespace Go.Proofs.Ytpfoeeiacfadfaa
open Go.RowKit

theorem halves (d : List Nat) (n : Nat) (hl : d.length = 32) (hd : ∀ x ∈ d, x < 65536) (hn : nd d = n) : nd ((d.drop 0).take 16) = n % M ∧ nd ((d.drop 16).take 16) = n / M := by
  have e : d = d.take 16 ++ d.drop 16 := (List.take_append_drop 16 d).symm
  have h2 : (d.drop 16).take 16 = d.drop 16 := List.take_of_length_le (by rw [List.length_drop]; omega)
  have hlt : nd (d.take 16) < M := by
    have := nd_lt (d.take 16) (fun x hx => hd x (List.mem_of_mem_take hx))
    rw [List.length_take, hl] at this; exact this
  have h3 : n = nd (d.take 16) + M * nd (d.drop 16) := by
    rw [← hn]
    conv => lhs; rw [e, nd_append, List.length_take, hl]
    rfl
  rw [List.drop_zero, h2, h3, Nat.add_mul_mod_self_left, Nat.mod_eq_of_lt hlt, Nat.add_mul_div_left _ _ (by decide), Nat.div_eq_of_lt hlt, Nat.zero_add]
  exact ⟨rfl, rfl⟩

set_option maxRecDepth 20000 in
set_option maxHeartbeats 2000000 in
theorem rmul_any (a b : Nat) (ha : a < M) (hb : b < M) (w : World) :
    Calls Try.prog 51 #[wv a, wv b] w fun e w' => e = .returned (.tuple #[wv (a * b % M), wv (a * b / M)]) ∧ Below w.heap.size w w' := by
  have HP : Hid (∀ w, Calls Try.prog 72 #[wv a, wv b] w fun e w' => ∃ v, e = .returned v ∧ NewP w.heap.size (a * b) v w' ∧ Below w.heap.size w w') := product_any a b ha hb
  obtain ⟨lo, elo⟩ : ∃ x, a * b % M = x := ⟨_, rfl⟩
  obtain ⟨hi, ehi⟩ : ∃ x, a * b / M = x := ⟨_, rfl⟩
  have ELO : Hid (a * b % M = lo) := elo
  have EHI : Hid (a * b / M = hi) := ehi
  rw [elo, ehi]
  clear ha hb elo ehi
  have m := Mem.start w
  go_enter Try.func51, Try.ntmps51
  go_upto_region 2 with ((first
    | (refine W.box m rfl (.tmp 0) rfl a rfl ?_; clear m; intro g2 wx2 m)
    | (refine W.box m rfl (.tmp 1) rfl b rfl ?_; clear m; intro g3 wx3 m)
    | (refine W.alloc m rfl rfl 4 rfl ?_; clear m; intro g4 wx4 m)
    | (refine W.alloc m rfl rfl 5 rfl ?_; clear m; intro g5 wx5 m)
    | (refine W.load m rfl (.tmp 2) rfl 3 rfl rfl ?_)
    | (refine W.load m rfl (.tmp 3) rfl 2 rfl rfl ?_)
    | (go_at_call 72; refine (HP.out _).mono ?_; rintro e wx9 ⟨v9, rfl, ⟨gd, cap, jd, d, rfl, hgd, had, hlen, hdl, hnd⟩, b9⟩; replace m := m.adopt b9 hgd had; clear b9 had hgd)); try simp only [Act.put, List.setIfInBounds_toArray, List.set_cons_succ, List.set_cons_zero])
  obtain ⟨k1, k2⟩ := halves d (a * b) hlen hdl hnd
  rw [ELO.out] at k1
  rw [EHI.out] at k2
  have HLO : Hid (nd ((d.drop 0).take 16) = lo) := k1
  have HHI : Hid (nd ((d.drop 16).take 16) = hi) := k2
  have HDL : Hid (∀ x ∈ d, x < 65536) := hdl
  clear k1 k2 hdl hnd ELO EHI
  go_wp2_with ((first
    | (have h11 := HLO.out; clear HLO; go_at_call 73; refine (whole_any _ gd 32 cap d jd 0 hlen (m.get 0 rfl) (by decide) (by decide) HDL.out).mono ?_; rintro e wx11 ⟨rfl, b11⟩; rw [h11]; replace m := m.gr b11; clear b11 h11)
    | (go_at_call 73; refine (whole_any _ gd 32 cap d jd 16 hlen (m.get 0 rfl) (by decide) (by decide) HDL.out).mono ?_; rintro e wx13 ⟨rfl, b13⟩; rw [HHI.out]; replace m := m.gr b13; clear b13)
    | (refine W.store m rfl (.tmp 4) (.tmp 11) rfl rfl 2 lo rfl (w4_length _) rfl rfl ?_; clear m; intro wx21 m)
    | (refine W.store m rfl (.tmp 5) (.tmp 13) rfl rfl 1 hi rfl (w4_length _) rfl rfl ?_; clear m; intro wx22 m)))
  refine bodyPost_ret (results_arr_arr Try.aw Try.results51 _ wx22 g4 g5 (c64 (w4 lo)) (c64 (w4 hi)) (wl lo) (wl hi) rfl rfl (m.get 2 rfl) (m.get 1 rfl)) rfl ⟨rfl, m.below⟩
end Go.Proofs.Ytpfoeeiacfadfaa
