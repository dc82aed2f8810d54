/-
  Contracts of package wide's Cmp, Len, timesPlus, Mul.
  Conditions: numbers below 2^256.
-/
import Derived.Test.YtpfoeeiacfadfaaV1
import Derived.Test.YtpfoeeiacfadfaaMild2Z
import Derived.Test.YtpfoeeiacfadfaaWdZ
namespace Go.Proofs.Ytpfoeeiacfadfaa
open Go.RowKit

/-- Which one is greater. -/
def cmpN (a b : Nat) : Int := if a = b then 0 else if a < b then -1 else 1

set_option maxHeartbeats 1000000 in
theorem cmp_any (a b : Nat) (ha : a < M) (hb : b < M) (w : World) :
    Calls Try.prog 31 #[wv a, wv b] w fun e w' => e = .returned (.int .i64 (cmpN a b)) ∧ Below w.heap.size w w' := by
  have hs := fun w => sub_any a b ha hb w
  by_cases h : a = b
  · have hd : decide (w4 a = w4 b) = true := by rw [h]; exact decide_eq_true rfl
    have hr : cmpN a b = 0 := by simp [cmpN, h]
    rw [hr]
    clear hr hs h ha hb
    unfold wv
    have la := wl a
    have lb := wl b
    have xa := w4_length a
    have xb := w4_length b
    generalize w4 a = l at *
    generalize w4 b = m at *
    go_enter Try.func31, Try.ntmps31
    go_wp2_with ((first
      | (refine wpList_box_arr rfl _ (.tmp 0) rfl (c64 l) rfl ?_; intro g2 w2 hg2 ha2 hb2)
      | (refine wpList_box_arr rfl _ (.tmp 1) rfl (c64 m) rfl ?_; intro g3 w3 hg3 ha3 hb3)
      | (refine wpList_load_arr Try.aw rfl (.tmp 2) rfl g2 _ la rfl (ha2.gr hb3) ?_)
      | (refine wpList_load_arr Try.aw rfl (.tmp 3) rfl g3 _ lb rfl ha3 ?_)
      | (refine wpList_eql_c64 Try.aw Try.u64 Try.eqw rfl (.tmp 7) (.tmp 8) _ rfl l m true xa xb hd rfl rfl ?_)); try simp only [Act.put, List.setIfInBounds_toArray, List.set_cons_succ, List.set_cons_zero])
    go_ret
    exact ⟨rfl, Gr.trans hb2 hb3⟩
  · have hd : decide (w4 a = w4 b) = false := by simpa [w4_inj ha hb] using h
    have key : ∀ (d : Nat) (r : Int), (if a < b then 1 else 0) = d → cmpN a b = r → (d = 0 ∧ r = 1 ∨ d = 1 ∧ r = -1) := by
      intro d r h1 h2
      subst h1 h2
      by_cases hlt : a < b <;> simp [cmpN, h, hlt]
    obtain ⟨d, hd'⟩ : ∃ d : Nat, (if a < b then 1 else 0) = d := ⟨_, rfl⟩
    obtain ⟨r, hr'⟩ : ∃ r : Int, cmpN a b = r := ⟨_, rfl⟩
    have hk := key d r hd' hr'
    rw [hr']
    have HS : Hid (∀ w, Calls Try.prog 43 #[wv a, wv b] w fun e w' => e = .returned (.tuple #[wv ((a + M - b) % M), .int .u64 ((d : Nat) : Int)]) ∧ Below w.heap.size w w') := by
      intro w; have := hs w; rw [hd'] at this; exact this
    clear key hd' hr' hs h ha hb
    generalize hX : (a + M - b) % M = X at HS
    clear hX
    rcases hk with ⟨rfl, rfl⟩ | ⟨rfl, rfl⟩
    all_goals
      unfold wv at *
      have la := wl a
      have lb := wl b
      have lx := wl X
      have l0 := wl 0
      have xa := w4_length a
      have xb := w4_length b
      have hz := zeros4
      generalize w4 a = l at *
      generalize w4 b = m at *
      generalize w4 X = x at *
      generalize w4 0 = o at *
      go_enter Try.func31, Try.ntmps31
      go_wp2_with ((first
        | (refine wpList_box_arr rfl _ (.tmp 0) rfl (c64 l) rfl ?_; intro g2 w2 hg2 ha2 hb2)
        | (refine wpList_box_arr rfl _ (.tmp 1) rfl (c64 m) rfl ?_; intro g3 w3 hg3 ha3 hb3)
        | (refine wpList_load_arr Try.aw rfl (.tmp 2) rfl g2 _ la rfl (ha2.gr hb3) ?_)
        | (refine wpList_load_arr Try.aw rfl (.tmp 3) rfl g3 _ lb rfl ha3 ?_)
        | (refine wpList_eql_c64 Try.aw Try.u64 Try.eqw rfl (.tmp 7) (.tmp 8) _ rfl l m false xa xb hd rfl rfl ?_)
        | (go_at_call 43; refine (HS.out _).mono ?_; rintro e w4 ⟨rfl, hb4⟩)
        | (refine wpList_alloc_arr Try.aw rfl rfl 5 rfl ?_; rw [hz]; intro g5 w5 hg5 ha5 hb5)
        | (refine wpList_store_arr Try.aw rfl (.tmp 5) (.tmp 14) rfl rfl g5 _ _ l0 lx (c64_one _) rfl rfl ha5 ?_; intro w6 ha6 hb6)); try simp only [Act.put, List.setIfInBounds_toArray, List.set_cons_succ, List.set_cons_zero])
      go_ret
      exact ⟨rfl, Below.trans (Gr.trans (Gr.trans (Gr.trans hb2 hb3) hb4) hb5) (hb6.below (by have := hb2.size; have := hb3.size; have := hb4.size; omega))⟩

end Go.Proofs.Ytpfoeeiacfadfaa
/-
  Contracts of package wide's timesPlus, Mul.
  Conditions: numbers below 2^256.
-/
namespace Go.Proofs.Ytpfoeeiacfadfaa
open Go.RowKit

theorem wpList_callf {P : Program} {w : World} {ops : Array Oper} {rest : List Oper} {o : Oper} {a : Act} {Q : Exit → Act → World → Prop} (hgd : o.guard = none) (f : FuncId) (args : List Operand) (ts : Array TypeId) (ho : o.op = .call { callee := .value (.func f), args := args.toArray, argTypes := ts }) (hf : a.eval (.func f) = .func (.func f) #[] #[]) (vs : List Value) (hv : args.map a.eval = vs) (v : Value)
    (h : (callFunc f vs.toArray).run P w = .ok (.value v) w) (hr : wpList P ops Q rest (a.put o.dst v) w) : wpList P ops Q (o :: rest) a w := by
  refine wpList_plain hgd fun K hK => ?_
  unfold Oper.wp
  rw [exec_callf f args ts ho hf vs hv v h]
  exact hK _ _ hr

theorem tp_step (X p t H L s1 c1 s2 c2 : Nat) (hX : X ≤ 340282366920938463426481119284349108225) (hp : p < 18446744073709551616) (ht : t < 18446744073709551616) (hH : X / 18446744073709551616 = H) (hL : X % 18446744073709551616 = L)
    (h1 : (L + p + 0) % 18446744073709551616 = s1) (h2 : (L + p + 0) / 18446744073709551616 = c1) (h3 : (s1 + t + 0) % 18446744073709551616 = s2) (h4 : (s1 + t + 0) / 18446744073709551616 = c2) :
    s2 = (X + p + t) % 18446744073709551616 ∧ ((((H : Int) + c1) % 18446744073709551616 + c2) % 18446744073709551616) = (((X + p + t) / 18446744073709551616 : Nat) : Int) := by omega

set_option maxHeartbeats 1000000 in
theorem timesPlus_any (a n p : Nat) (ha : a < M) (hn : n < 18446744073709551616) (hp : p < M) (w : World) :
    Calls Try.prog 70 #[wv a, .int .u64 (n : Int), wv p] w fun e w' => e = .returned (.tuple #[wv ((a * n + p) % M), .int .u64 (((a * n + p) / M : Nat) : Int)]) ∧ Below w.heap.size w w' := by
  have HA : Hid (tpS (w4 a) n (w4 p) 4 = (w4 ((a * n + p) % M), (a * n + p) / M)) := tpS_all a n p ha hn hp
  have HC : Hid (∀ i, (tpS (w4 a) n (w4 p) i).2 < 18446744073709551616) := fun i => tpS_carry a n p i hn
  have HL : Hid (∀ i, gw (w4 a) i < 18446744073709551616) := gw_lt a
  have HM : Hid (∀ i, gw (w4 p) i < 18446744073709551616) := gw_lt p
  have HX : Hid (∀ x : Nat, x < 18446744073709551616 → x * n ≤ 340282366920938463426481119284349108225) := fun x hx => word_mul x n hx hn
  have HM64 : Hid (∀ (x : Nat) (_ : x < 18446744073709551616) (w : World), Calls Try.prog 82 #[.int .u64 (x : Int), .int .u64 (n : Int)] w fun e w' => e = .returned (.tuple #[.int .u64 ((x * n / 18446744073709551616 : Nat) : Int), .int .u64 ((x * n % 18446744073709551616 : Nat) : Int)]) ∧ w' = w) := fun x hx w => Try.bits_Mul64 x n hx hn w
  have hl : (w4 a).length = 4 := w4_length a
  have hm : (w4 p).length = 4 := w4_length p
  unfold wv
  have e1 : w4 ((a * n + p) % M) = (tpS (w4 a) n (w4 p) 4).1 := by rw [HA.out]
  have e2 : (a * n + p) / M = (tpS (w4 a) n (w4 p) 4).2 := by rw [HA.out]
  rw [e1, e2]
  clear e1 e2 ha hp hn HA
  generalize w4 a = l at *
  generalize w4 p = m at *
  go_enter Try.func70, Try.ntmps70
  go_wp2_with ((first
    | (refine wpList_box_arr rfl _ (.tmp 0) rfl (c64 l) rfl ?_; intro g2 w2 hg2 ha2 hb2)
    | (refine wpList_box_arr rfl _ (.tmp 2) rfl (c64 m) rfl ?_; intro g3 w3 hg3 ha3 hb3)
    | (refine wpList_alloc_arr Try.aw rfl rfl 6 rfl ?_; rw [zeros4']; intro g4 wb4 hg4 ha4 hb4)
    | (refine wpList_alloc_arr Try.aw rfl rfl 8 rfl ?_; rw [zeros4']; intro g6 w6 hg6 ha6 hb6)); try simp only [Act.put, List.setIfInBounds_toArray, List.set_cons_succ, List.set_cons_zero])
  have n1 : g2 ≠ g6 := by have := ((ha2.gr hb3).gr hb4).lt; omega
  have n2 : g3 ≠ g6 := by have := (ha3.gr hb4).lt; omega
  have n3 : g4 ≠ g6 := by have := ha4.lt; omega
  have k6 : w.heap.size ≤ g6 := by have := hb2.size; have := hb3.size; have := hb4.size; omega
  have k4 : w.heap.size ≤ g4 := by have := hb2.size; have := hb3.size; omega
  have a2 := ((ha2.gr hb3).gr hb4).gr hb6
  have a3 := (ha3.gr hb4).gr hb6
  have a4 := ha4.gr hb6
  have hB : Below w.heap.size w w6 := Gr.trans (Gr.trans (Gr.trans hb2 hb3) hb4) hb6
  clear ha2 ha3 ha4 hb2 hb3 hb4 hb6 hg2 hg3 hg4 hg6
  go_loopw [9, 15] (fun c i wr => ∃ k : Nat, k ≤ 4 ∧ i = .int .i64 k ∧ c = .int .u64 ((tpS l n m k).2 : Nat) ∧ Arr 24 wr g6 (c64 (tpS l n m k).1) ∧ Arr 24 wr g2 (c64 l) ∧ Arr 24 wr g3 (c64 m) ∧ Arr 24 wr g4 (c64 [0, 0, 0, 0]) ∧ Below w.heap.size w wr) (fun _ i _ => 4 - (intOf i).toNat)
  case atStart => exact ⟨0, by omega, rfl, rfl, ha6, a2, a3, a4, hB⟩
  case round =>
    obtain ⟨k, hk, rfl, rfl, r6, r2, r3, r4, hb⟩ := hrel
    clear ha6 a2 a3 a4 hB
    have hs4 := tpS_length l n m k
    by_cases hlt : k < 4
    · obtain ⟨H, hH⟩ : ∃ h, gw l k * n / 18446744073709551616 = h := ⟨_, rfl⟩
      obtain ⟨L, hL⟩ : ∃ h, gw l k * n % 18446744073709551616 = h := ⟨_, rfl⟩
      obtain ⟨s1, h1⟩ : ∃ h, (L + gw m k + 0) % 18446744073709551616 = h := ⟨_, rfl⟩
      obtain ⟨c1, h2⟩ : ∃ h, (L + gw m k + 0) / 18446744073709551616 = h := ⟨_, rfl⟩
      obtain ⟨s2, h3⟩ : ∃ h, (s1 + (tpS l n m k).2 + 0) % 18446744073709551616 = h := ⟨_, rfl⟩
      obtain ⟨c2, h4⟩ : ∃ h, (s1 + (tpS l n m k).2 + 0) / 18446744073709551616 = h := ⟨_, rfl⟩
      obtain ⟨e1, e2⟩ := tp_step _ _ _ H L s1 c1 s2 c2 (HX.out _ (HL.out k)) (HM.out k) (HC.out k) hH hL h1 h2 h3 h4
      have E2 : Hid ((((H : Int) + c1) % 18446744073709551616 + c2) % 18446744073709551616 = (((tpS l n m (k + 1)).2 : Nat) : Int)) := e2
      have HN : Hid (c64 (tpS l n m (k + 1)).1 = (c64 (tpS l n m k).1).set k (.int .u64 (s2 : Nat))) := by rw [c64_set, e1]; exact rfl
      have hM : Hid (∀ w, Calls Try.prog 82 #[.int .u64 (gw l k : Nat), .int .u64 (n : Int)] w fun e w' => e = .returned (.tuple #[.int .u64 (H : Nat), .int .u64 (L : Nat)]) ∧ w' = w) := fun w => by have := HM64.out _ (HL.out k) w; rw [hH, hL] at this; exact this
      have A1 : Hid ((L + gw m k + 0) % 18446744073709551616 = s1) := h1
      have A2 : Hid ((L + gw m k + 0) / 18446744073709551616 = c1) := h2
      have A3 : Hid ((s1 + (tpS l n m k).2 + 0) % 18446744073709551616 = s2) := h3
      have A4 : Hid ((s1 + (tpS l n m k).2 + 0) / 18446744073709551616 = c2) := h4
      have hs6 : (c64 (tpS l n m k).1).length = 4 := by rw [c64_length]; exact hs4
      clear h1 h2 h3 h4 e1 e2 hH hL hs4
      go_wp2_with ((first
        | (refine wpList_indexAt_arr Try.aw rfl (.tmp 3) (.tmp 19) rfl g2 k .i64 k rfl hlt rfl rfl ?_)
        | (refine wpList_get Try.u64 rfl (.tmp 20) rfl g2 k (c64 l) (.int .u64 (gw l k : Nat)) r2 (c64_gw (by omega)) rfl ?_)
        | (go_at_call 82; refine (hM.out _).mono ?_; rintro e w7 ⟨rfl, rfl⟩)
        | (refine wpList_indexAt_arr Try.aw rfl (.tmp 5) (.tmp 28) rfl g3 k .i64 k rfl hlt rfl rfl ?_)
        | (refine wpList_get Try.u64 rfl (.tmp 29) rfl g3 k (c64 m) (.int .u64 (gw m k : Nat)) r3 (c64_gw (by omega)) rfl ?_)
        | (refine wpList_callf rfl 69 [.tmp 27, .tmp 30, .const (.int .u64 0)] _ rfl rfl [.int .u64 (L : Nat), .int .u64 (gw m k : Nat), .int .u64 (0 : Nat)] rfl _ (add64_at _ _ _ s1 c1 (by decide) A1.out A2.out _) ?_)
        | (refine wpList_callf rfl 69 [.tmp 39, .tmp 40, .const (.int .u64 0)] _ rfl rfl [.int .u64 (s1 : Nat), .int .u64 ((tpS l n m k).2 : Nat), .int .u64 (0 : Nat)] rfl _ (add64_at _ _ _ s2 c2 (by decide) A3.out A4.out _) ?_)
        | (refine wpList_indexAt_arr Try.aw rfl (.tmp 8) (.tmp 38) rfl g6 k .i64 k rfl hlt rfl rfl ?_)
        | (refine wpList_store_cell rfl 22 (.tmp 44) (.tmp 42) rfl rfl Try.one64 g6 k _ (.int .u64 (s2 : Nat)) (by omega) rfl rfl rfl 24 r6 ?_; rw [← HN.out]; intro w8 r8 b8)); try simp only [Act.put, List.setIfInBounds_toArray, List.set_cons_succ, List.set_cons_zero])
      go_roundw
      case rel => exact ⟨k + 1, by omega, by go_num, by rw [← E2.out]; congr 1, r8, r2.but b8 n1, r3.but b8 n2, r4.but b8 n3, hb.trans (b8.below k6)⟩
      case measure => simp [intOf]; omega
    · obtain rfl : k = 4 := by omega
      have hs6 : (c64 (tpS l n m 4).1).length = 4 := by rw [c64_length]; exact hs4
      go_wp2_with ((first
        | (refine wpList_load_arr Try.aw rfl (.tmp 8) rfl g6 _ hs6 rfl r6 ?_)
        | (refine wpList_store_arr Try.aw rfl (.tmp 6) (.tmp 49) rfl rfl g4 _ (c64 (tpS l n m 4).1) rfl hs6 (c64_one _) rfl rfl r4 ?_; intro w9 r9 b9)); try simp only [Act.put, List.setIfInBounds_toArray, List.set_cons_succ, List.set_cons_zero])
      refine bodyPost_ret (results_arr_tmp Try.aw Try.results70 _ w9 g4 _ hs6 rfl r9) rfl ⟨rfl, hb.trans (b9.below k4)⟩


set_option maxHeartbeats 1000000 in
theorem mul_any (a b : Nat) (ha : a < M) (hb : b < M) (w : World) :
    Calls Try.prog 46 #[wv a, wv b] w fun e w' => e = .returned (.tuple #[wv (a * b % M), wv (a * b / M)]) ∧ Below w.heap.size w w' := by
  have HA : Hid (mulS a (w4 b) 4 = (w4 (a * b % M), a * b / M)) := mulS_all a b hb
  have HC : Hid (∀ i, (mulS a (w4 b) i).2 < M) := fun i => mulS_lt a b i ha
  have HT : Hid (∀ (n p : Nat) (_ : n < 18446744073709551616) (_ : p < M) (w : World), Calls Try.prog 70 #[wv a, .int .u64 (n : Int), wv p] w fun e w' => e = .returned (.tuple #[wv ((a * n + p) % M), .int .u64 (((a * n + p) / M : Nat) : Int)]) ∧ Below w.heap.size w w') := fun n p hn hp w => timesPlus_any a n p ha hn hp w
  have HL : Hid (∀ i, gw (w4 b) i < 18446744073709551616) := gw_lt b
  have hm : (w4 b).length = 4 := w4_length b
  have e1 : wv (a * b % M) = .agg (c64 (mulS a (w4 b) 4).1).toArray := by rw [HA.out]; rfl
  have e2 : a * b / M = (mulS a (w4 b) 4).2 := by rw [HA.out]
  rw [e1, e2]
  unfold wv at HT ⊢
  clear e1 e2 ha hb HA
  generalize w4 b = m at *
  have la := wl a
  obtain ⟨A4, hA4⟩ : ∃ l, w4 a = l := ⟨_, rfl⟩
  rw [hA4] at la ⊢
  go_enter Try.func46, Try.ntmps46
  go_wp2_with ((first
    | (refine wpList_box_arr rfl _ (.tmp 0) rfl (c64 A4) rfl ?_; intro g2 w2 hg2 ha2 hb2)
    | (refine wpList_box_arr rfl _ (.tmp 1) rfl (c64 m) rfl ?_; intro g3 w3 hg3 ha3 hb3)
    | (refine wpList_alloc_arr Try.aw rfl rfl 4 rfl ?_; rw [zeros4']; intro g4 wb4 hg4 ha4 hb4)
    | (refine wpList_alloc_arr Try.aw rfl rfl 5 rfl ?_; rw [zeros4']; intro g5 w5 hg5 ha5 hb5)
    | (refine wpList_alloc_arr Try.aw rfl rfl 6 rfl ?_; rw [zeros4']; intro g6 w6 hg6 ha6 hb6)
    | (refine wpList_alloc_arr Try.aw rfl rfl 7 rfl ?_; rw [zeros4']; intro g7 w7 hg7 ha7 hb7)
    | (refine wpList_load_arr Try.aw rfl (.tmp 3) rfl g3 (c64 m) (by rw [c64_length]; exact hm) rfl ((((ha3.gr hb4).gr hb5).gr hb6).gr hb7) ?_)); try simp only [Act.put, List.setIfInBounds_toArray, List.set_cons_succ, List.set_cons_zero])
  have s2 := hb2.size; have s3 := hb3.size; have s4 := hb4.size; have s5 := hb5.size; have s6 := hb6.size; have s7 := hb7.size
  have a2 := ((((ha2.gr hb3).gr hb4).gr hb5).gr hb6).gr hb7
  have a4 := ((ha4.gr hb5).gr hb6).gr hb7
  have a5 := (ha5.gr hb6).gr hb7
  have a6 := ha6.gr hb7
  have l2 := ha2.lt; have l4 := ha4.lt; have l5 := ha5.lt; have l6 := ha6.lt
  have n26 : g2 ≠ g6 := by omega
  have n27 : g2 ≠ g7 := by omega
  have n46 : g4 ≠ g6 := by omega
  have n47 : g4 ≠ g7 := by omega
  have n56 : g5 ≠ g6 := by omega
  have n57 : g5 ≠ g7 := by omega
  have n67 : g6 ≠ g7 := by omega
  have n45 : g4 ≠ g5 := by omega
  have k4 : w.heap.size ≤ g4 := by omega
  have k5 : w.heap.size ≤ g5 := by omega
  have k6 : w.heap.size ≤ g6 := by omega
  have k7 : w.heap.size ≤ g7 := by omega
  have hB : Below w.heap.size w w7 := Gr.trans (Gr.trans (Gr.trans (Gr.trans (Gr.trans hb2 hb3) hb4) hb5) hb6) hb7
  clear ha2 ha3 ha4 ha5 ha6 hb2 hb3 hb4 hb5 hb6 hb7 hg2 hg3 hg4 hg5 hg6 hg7 s2 s3 s4 s5 s6 s7 l2 l4 l5 l6
  go_loopw [13] (fun i wr => ∃ k : Nat, k ≤ 4 ∧ i = .int .i64 k ∧ Arr 24 wr g6 (c64 (mulS a m k).1) ∧ Arr 24 wr g7 (c64 (w4 (mulS a m k).2)) ∧ Arr 24 wr g2 (c64 A4) ∧ Arr 24 wr g4 (c64 [0, 0, 0, 0]) ∧ Arr 24 wr g5 (c64 [0, 0, 0, 0]) ∧ Below w.heap.size w wr) (fun i _ => 4 - (intOf i).toNat)
  case atStart => exact ⟨0, by omega, rfl, a6, by simpa only [mulS, w4_zero] using ha7, a2, a4, a5, hB⟩
  case round =>
    obtain ⟨k, hk, rfl, r6, r7, r2, r4, r5, hb⟩ := hrel
    clear a6 ha7 a2 a4 a5 hB
    have hs4 := mulS_length a m k
    by_cases hlt : k < 4
    · obtain ⟨H, hH⟩ : ∃ h, (mulS a m k).2 = h := ⟨_, rfl⟩
      obtain ⟨n, hn⟩ : ∃ n, gw m k = n := ⟨_, rfl⟩
      obtain ⟨t, ht⟩ : ∃ t, a * n + H = t := ⟨_, rfl⟩
      have ht2 : (mulS a m (k + 1)).2 = t / 18446744073709551616 := by simp only [mulS, hn, hH, ht]
      have hT : Hid (∀ w, Calls Try.prog 70 #[.agg (c64 (w4 a)).toArray, .int .u64 (n : Int), .agg (c64 (w4 H)).toArray] w fun e w' => e = .returned (.tuple #[.agg (c64 (w4 (t % M))).toArray, .int .u64 ((t / M : Nat) : Int)]) ∧ Below w.heap.size w w') := by
        intro w; have := HT.out n H (hn ▸ HL.out k) (hH ▸ HC.out k) w; rw [ht] at this; exact this
      have HD : Hid (w4 (t / 18446744073709551616) = [gw (w4 (t % M)) 1, gw (w4 (t % M)) 2, gw (w4 (t % M)) 3, t / M]) := w4_down t _ _ rfl rfl (ht2 ▸ HC.out (k + 1))
      have e0 : gw (w4 (t % M)) 0 = t % 18446744073709551616 := by simp only [gw, w4_eq, List.getD_cons_zero]; unfold M; omega
      have HN : Hid (c64 (mulS a m (k + 1)).1 = (c64 (mulS a m k).1).set k (.int .u64 (gw (w4 (t % M)) 0 : Nat))) := by show _ = _; rw [c64_set, e0]; simp only [mulS, hn, hH, ht]
      have HT2 : Hid ((mulS a m (k + 1)).2 = t / 18446744073709551616) := ht2
      have hg : (c64 m)[k]? = some (.int .u64 (n : Nat)) := by rw [c64_gw (by omega), hn]
      have hs6 : (c64 (mulS a m k).1).length = 4 := by rw [c64_length]; exact hs4
      rw [hH] at r7
      obtain ⟨S, hS⟩ : ∃ S, t % M = S := ⟨_, rfl⟩
      obtain ⟨p, hp⟩ : ∃ p, t / M = p := ⟨_, rfl⟩
      obtain ⟨q, hq⟩ : ∃ p, t / 18446744073709551616 = p := ⟨_, rfl⟩
      rw [hS, hp, hq] at HD
      rw [hS, hp] at hT
      rw [hS] at HN
      rw [hq] at HT2
      have lH := wl H; have lS := wl S; have lq := wl q; have xS := w4_length S
      rw [hA4] at hT
      clear ht2 e0 hS hp hq ht hn hH hs4 hA4
      obtain ⟨H4, hH4⟩ : ∃ l, w4 H = l := ⟨_, rfl⟩
      obtain ⟨S4, hS4⟩ : ∃ l, w4 S = l := ⟨_, rfl⟩
      obtain ⟨Q4, hQ4⟩ : ∃ l, w4 q = l := ⟨_, rfl⟩
      rw [hH4] at hT r7 lH
      rw [hS4] at hT HN HD lS xS
      rw [hQ4] at HD lq
      have hQ5 : Hid (w4 q = Q4) := hQ4
      clear hH4 hS4 hQ4
      go_wp2_with ((first
        | (refine wpList_index_c64 Try.aw rfl (.tmp 12) (.tmp 13) rfl (c64 m) k .i64 (.int .u64 (n : Nat)) (by rw [c64_length]; exact hm) hg rfl k rfl rfl ?_)
        | (refine wpList_load_arr Try.aw rfl (.tmp 2) rfl g2 (c64 A4) la rfl r2 ?_)
        | (refine wpList_load_arr Try.aw rfl (.tmp 7) rfl g7 (c64 H4) lH rfl r7 ?_)
        | (go_at_call 70; refine (hT.out _).mono ?_; rintro e w8 ⟨rfl, b8⟩)
        | (refine wpList_alloc_arr Try.aw rfl rfl 10 rfl ?_; rw [zeros4']; intro g9 w9 hg9 ha9 b9)
        | (refine wpList_store_arr Try.aw rfl (.tmp 10) (.tmp 22) rfl rfl g9 _ (c64 S4) rfl lS (c64_one _) rfl rfl ha9 ?_; intro w10 ha10 b10)
        | (refine wpList_indexAt_arr Try.aw rfl (.tmp 10) (.const (.int .i64 0)) rfl g9 0 .i64 0 rfl (by decide) rfl rfl ?_)
        | (refine wpList_get Try.u64 rfl (.tmp 25) rfl g9 0 (c64 S4) (.int .u64 (gw S4 0 : Nat)) ha10 (c64_gw (by rw [xS]; decide)) rfl ?_)
        | (refine wpList_indexAt_arr Try.aw rfl (.tmp 6) (.tmp 24) rfl g6 k .i64 k rfl hlt rfl rfl ?_)
        | (refine wpList_store_cell rfl 22 (.tmp 27) (.tmp 26) rfl rfl Try.one64 g6 k (c64 (mulS a m k).1) (.int .u64 (gw S4 0 : Nat)) (by omega) rfl rfl rfl 24 (Arr.but ((r6.gr b8).gr b9) b10 (by have := (r6.gr b8).lt; omega)) ?_; rw [← HN.out]; intro w11 r11 b11)
        | (refine wpList_indexAt_arr Try.aw rfl (.tmp 10) (.const (.int .i64 1)) rfl g9 1 .i64 1 rfl (by decide) rfl rfl ?_)
        | (refine wpList_get Try.u64 rfl (.tmp 28) rfl g9 1 (c64 S4) (.int .u64 (gw S4 1 : Nat)) (ha10.but b11 (by have := (r6.gr b8).lt; omega)) (c64_gw (by rw [xS]; decide)) rfl ?_)
        | (refine wpList_indexAt_arr Try.aw rfl (.tmp 10) (.const (.int .i64 2)) rfl g9 2 .i64 2 rfl (by decide) rfl rfl ?_)
        | (refine wpList_get Try.u64 rfl (.tmp 30) rfl g9 2 (c64 S4) (.int .u64 (gw S4 2 : Nat)) (ha10.but b11 (by have := (r6.gr b8).lt; omega)) (c64_gw (by rw [xS]; decide)) rfl ?_)
        | (refine wpList_indexAt_arr Try.aw rfl (.tmp 10) (.const (.int .i64 3)) rfl g9 3 .i64 3 rfl (by decide) rfl rfl ?_)
        | (refine wpList_get Try.u64 rfl (.tmp 32) rfl g9 3 (c64 S4) (.int .u64 (gw S4 3 : Nat)) (ha10.but b11 (by have := (r6.gr b8).lt; omega)) (c64_gw (by rw [xS]; decide)) rfl ?_)
        | (refine wpList_build4 Try.aw rfl (.tmp 29) (.tmp 31) (.tmp 33) (.tmp 34) rfl Q4 _ _ _ p HD.out rfl rfl rfl rfl ?_)
        | (refine wpList_store_arr Try.aw rfl (.tmp 7) (.tmp 35) rfl rfl g7 (c64 H4) (c64 Q4) lH lq (c64_one _) rfl rfl (Arr.but (Arr.but ((r7.gr b8).gr b9) b10 (by have := (r7.gr b8).lt; omega)) b11 (Ne.symm n67)) ?_; intro w12 r12 b12)); try simp only [Act.put, List.setIfInBounds_toArray, List.set_cons_succ, List.set_cons_zero])
      have hN10 : ∀ g, g < wr.heap.size → g ≠ g9 := fun g hg => by have := b8.size; omega
      go_roundw
      case rel =>
        refine ⟨k + 1, by omega, by go_num, r11.but b12 n67, ?_, ?_, ?_, ?_, ?_⟩
        · rw [HT2.out, hQ5.out]; exact r12
        · exact ((((r2.gr b8).gr b9).but b10 (hN10 _ r2.lt)).but b11 n26).but b12 n27
        · exact ((((r4.gr b8).gr b9).but b10 (hN10 _ r4.lt)).but b11 n46).but b12 n47
        · exact ((((r5.gr b8).gr b9).but b10 (hN10 _ r5.lt)).but b11 n56).but b12 n57
        · have h1 : Below w.heap.size w w9 := hb.trans (Below.mono (Gr.trans b8 b9) hb.size)
          exact ((h1.trans (b10.below (by have := hb.size; have := b8.size; omega))).trans (b11.below k6)).trans (b12.below k7)
      case measure => simp [intOf]; omega
    · obtain rfl : k = 4 := by omega
      have hs6 : (c64 (mulS a m 4).1).length = 4 := by rw [c64_length]; exact hs4
      have l7 := wl (mulS a m 4).2
      obtain ⟨D4, hD4⟩ : ∃ l, w4 (mulS a m 4).2 = l := ⟨_, rfl⟩
      rw [hD4] at r7 l7
      have HD4 : Hid (w4 (mulS a m 4).2 = D4) := hD4
      clear hD4
      have R6 : Hid (Arr 24 wr g6 (c64 (mulS a m 4).1)) := r6
      have R7 : Hid (Arr 24 wr g7 (c64 D4)) := r7
      have R4 : Hid (Arr 24 wr g4 (c64 [0, 0, 0, 0])) := r4
      have R5 : Hid (Arr 24 wr g5 (c64 [0, 0, 0, 0])) := r5
      have HB : Hid (Below w.heap.size w wr) := hb
      clear r6 r7 r4 r5 r2 hb hs4
      go_wp2
      have F := V_fit 24 (V2 g4 (c64 [0, 0, 0, 0]) (c64 (mulS a m 4).1) g5 (c64 [0, 0, 0, 0]) (c64 D4)) (V2_trans n45) wr (fun _ _ _ _ => False) (fun _ _ _ _ _ h => h)
      refine Mild2.wp_region F (by kernel_rfl) (by kernel_rfl) (Vw.draw _) ?_
      refine Mild2.step_known F rfl rfl (.agg (c64 (mulS a m 4).1).toArray) (fun w0 hC _ => exec_load_arr Try.aw (.tmp 6) rfl g6 _ hs6 rfl (hC.keep2 R6.out (Ne.symm n46) (Ne.symm n56))) ?_
      simp only [Act.put, List.setIfInBounds_toArray, List.set_cons_succ, List.set_cons_zero]
      refine Mild2.step_known F rfl rfl (.agg (c64 D4).toArray) (fun w0 hC _ => exec_load_arr Try.aw (.tmp 7) rfl g7 _ l7 rfl (hC.keep2 R7.out (Ne.symm n47) (Ne.symm n57))) ?_
      simp only [Act.put, List.setIfInBounds_toArray, List.set_cons_succ, List.set_cons_zero]
      refine Mild2.step_note rfl rfl (fun w => Arr 24 w g4 (c64 (mulS a m 4).1)) (Vw.new2a n45) (fun w0 hC _ => store_arrV Try.aw (.inl ⟨rfl, rfl, rfl⟩) (hC.turn2a n45 R4.out) rfl hs6 (c64_one _) (.tmp 4) (.tmp 37) rfl rfl rfl) ?_
      refine Mild2.step_note rfl rfl (fun w => Arr 24 w g5 (c64 D4)) (Vw.new2b n45) (fun w0 hC _ => store_arrV Try.aw (.inr ⟨rfl, rfl, rfl⟩) (hC.turn2b n45 R5.out) rfl l7 (c64_one _) (.tmp 5) (.tmp 38) rfl rfl rfl) ?_
      intro w8 hw8 hf8
      have q4 : Arr 24 w8 g4 (c64 (mulS a m 4).1) := (hf8 none).1.2 rfl
      have q5 : Arr 24 w8 g5 (c64 D4) := (hf8 none).2 rfl
      have hb8 := HB.out.trans (hw8.below (B := w.heap.size) (fun _ _ _ hv => by rcases hv with ⟨rfl, _⟩ | ⟨rfl, _⟩ <;> assumption) HB.out.size)
      clear hf8 hw8 F
      go_wp2
      refine bodyPost_ret (results_arr_arr Try.aw Try.results46 _ w8 g4 g5 _ _ hs6 l7 rfl rfl q4 q5) rfl ⟨by rw [HD4.out], hb8⟩

end Go.Proofs.Ytpfoeeiacfadfaa
/-
  Contracts of package wide's Len, Shl, Shr.
  Conditions: numbers below 2^256.
-/
namespace Go.Proofs.Ytpfoeeiacfadfaa
open Go.RowKit

set_option maxHeartbeats 1000000 in
theorem len_any (a : Nat) (ha : a < M) (w : World) :
    Calls Try.prog 44 #[wv a] w fun e w' => e = .returned (.int .i64 (blen a : Nat)) ∧ Below w.heap.size w w' := by
  have HW : Hid (∀ i x, i < 4 → gw (w4 a) i = x → x ≠ 0 → (∀ j, i < j → j < 4 → gw (w4 a) j = 0) → blen a = 64 * i + Lib.bitLen x) := fun i x h1 h2 h3 h4 => blen_word a i x ha h1 h2 h3 h4
  have HZ : Hid ((∀ j, 0 ≤ j → j < 4 → gw (w4 a) j = 0) → blen a = 0) := by
    intro h
    obtain ⟨a0, a1, a2, a3, _, _, _, _, ea, wa⟩ := w4_parts a ha
    rw [wa] at h
    have z0 := h 0 (by decide) (by decide); have z1 := h 1 (by decide) (by decide); have z2 := h 2 (by decide) (by decide); have z3 := h 3 (by decide) (by decide)
    simp [gw] at z0 z1 z2 z3
    subst z0 z1 z2 z3
    rw [ea]; rfl
  have HL : Hid (∀ i, gw (w4 a) i < 18446744073709551616) := gw_lt a
  have hl : (w4 a).length = 4 := w4_length a
  unfold wv
  generalize blen a = R at *
  generalize w4 a = l at *
  clear ha
  go_enter Try.func44, Try.ntmps44
  go_wp2_with ((first
    | (refine wpList_box_arr rfl _ (.tmp 0) rfl (c64 l) rfl ?_; intro g1 w1 hg1 ha1 hb1)); try simp only [Act.put, List.setIfInBounds_toArray, List.set_cons_succ, List.set_cons_zero])
  go_loopw [3] (fun i wr => ∃ k : Nat, k ≤ 4 ∧ i = .int .i64 ((k : Int) - 1) ∧ (∀ j, k ≤ j → j < 4 → gw l j = 0) ∧ Arr 24 wr g1 (c64 l) ∧ Below w.heap.size w wr) (fun i _ => (intOf i + 1).toNat)
  case atStart => exact ⟨4, by omega, rfl, fun j h1 h2 => by omega, ha1, hb1⟩
  case round =>
    obtain ⟨k, hk, hi, hz, r1, hb⟩ := hrel
    clear ha1 hb1
    rcases k with _ | j
    · have hi' := hi.trans (show (Value.int .i64 (((0 : Nat) : Int) - 1)) = .int .i64 (-1) from rfl)
      subst hi'
      have hR : Hid (R = 0) := HZ.out hz
      clear hz
      go_wp2
      go_ret
      exact ⟨by rw [hR.out]; rfl, hb⟩
    · have hi' : _ = Value.int .i64 (j : Int) := hi.trans (by congr 1; omega)
      subst hi'
      have hj : j < 4 := by omega
      by_cases hx : gw l j = 0
      · have hz' : Hid (∀ i, j ≤ i → i < 4 → gw l i = 0) := fun i h1 h2 => by
          by_cases h : i = j
          · rw [h]; exact hx
          · exact hz i (by omega) h2
        have hg : (c64 l)[j]? = some (.int .u64 (0 : Nat)) := by rw [c64_gw (by omega), hx]
        clear hz hx
        go_wp2_with ((first
          | (refine wpList_indexAt_arr Try.aw rfl (.tmp 1) (.tmp 8) rfl g1 j .i64 j rfl hj rfl rfl ?_)
          | (refine wpList_get Try.u64 rfl (.tmp 9) rfl g1 j (c64 l) (.int .u64 (0 : Nat)) r1 hg rfl ?_)); try simp only [Act.put, List.setIfInBounds_toArray, List.set_cons_succ, List.set_cons_zero])
        go_roundw
        case rel => exact ⟨j, by omega, by go_num, hz'.out, r1, hb⟩
        case measure => simp [intOf]
      · obtain ⟨x, hxe⟩ : ∃ x, gw l j = x := ⟨_, rfl⟩
        have hxl : x < 18446744073709551616 := hxe ▸ HL.out j
        have hR : Hid (R = 64 * j + Lib.bitLen x) := HW.out j x hj hxe (hxe ▸ hx) hz
        have hg : (c64 l)[j]? = some (.int .u64 (x : Nat)) := by rw [c64_gw (by omega), hxe]
        have hx0 : ((x : Nat) : Int) ≠ 0 := by rw [hxe] at hx; omega
        have hbl : Lib.bitLen x ≤ 64 := Lib.bitLen_le x 64 (by omega) hxl
        obtain ⟨b, hbe⟩ : ∃ b, Lib.bitLen x = b := ⟨_, rfl⟩
        have HC : Hid (∀ w, Calls Try.prog 68 #[.int .u64 (x : Int)] w fun e w' => e = .returned (.int .i64 (b : Nat)) ∧ w' = w) := fun w => by
          have := Try.bits_Len64 (x : Int) w (by omega) (by omega)
          rw [show (x : Int).toNat = x by omega, hbe] at this
          exact this
        rw [hbe] at hR hbl
        clear hz hx hxe hxl hbe
        go_wp2_with ((first
          | (refine wpList_indexAt_arr Try.aw rfl (.tmp 1) (.tmp 8) rfl g1 j .i64 j rfl hj rfl rfl ?_)
          | (refine wpList_get Try.u64 rfl (.tmp 9) rfl g1 j (c64 l) (.int .u64 (x : Nat)) r1 hg rfl ?_)
          | (refine wpList_indexAt_arr Try.aw rfl (.tmp 1) (.tmp 14) rfl g1 j .i64 j rfl hj rfl rfl ?_)
          | (refine wpList_get Try.u64 rfl (.tmp 15) rfl g1 j (c64 l) (.int .u64 (x : Nat)) r1 hg rfl ?_)
          | (go_at_call 68; refine (HC.out _).mono ?_; rintro e w7 ⟨rfl, rfl⟩)); try simp only [Act.put, List.setIfInBounds_toArray, List.set_cons_succ, List.set_cons_zero])
        go_ret
        exact ⟨by rw [hR.out]; congr 2, hb⟩
end Go.Proofs.Ytpfoeeiacfadfaa
