/-
  Contracts of the document's root, primes, Steps, Firsts, Right.
-/
import Derived.Test.YtkgenageeiaacaaDoorR1
import Derived.Test.YtkgenageeiaacaaDoorRv
namespace Go.Proofs.YtkgenageeiaacaaDoor
open Go.RowKit
theorem x_shl1 {P : Program} {ρ : Operand → Value} {o : Oper} {w : World} {T : TypeId} (x y : Operand) (U : TypeId) (ho : o.op = .binOp .shl T x y U) (c : Nat) (hc : c < 64) (j : IntKind) (hx : ρ x = .int .u64 1) (hy : ρ y = .int j (c : Int)) :
    (execOp ρ o).run P w = .ok (.value (.int .u64 ((2 ^ c : Nat) : Int))) w := by
  unfold execOp
  simp only [ho, hx, hy, Sem.run_bind, run_eqGuard_no .shl (by decide), Result.andThen_ok, binOp, Op.shift]
  have h1 : ¬ ((c : Int) < 0) := by omega
  have h2 : min (c : Int).toNat IntKind.u64.bits = c := by
    have : IntKind.u64.bits = 64 := rfl
    rw [this]; omega
  rw [if_neg h1, h2]
  simp only [Sem.run_pure, Result.andThen_ok]
  congr 3
  have e : (1 : Int) * 2 ^ c = ((2 ^ c : Nat) : Int) := by simp [Int.natCast_pow]
  rw [e]
  exact wrapN .u64 _ (Nat.pow_lt_pow_right (by decide) hc)
theorem pr_step {n t : Nat} (h : ∀ j, j < t → (prK j).length < n) (ht : (prK t).length < n) : ∀ j, j < t + 1 → (prK j).length < n := by
  intro j hj
  rcases Nat.lt_or_ge j t with h1 | h1
  · exact h j h1
  · obtain rfl : j = t := by omega
    exact ht

set_option maxHeartbeats 1000000 in
theorem root_true (p : Nat) (w : World) :
    Calls Tryd.prog 36 #[.int .u64 ((p : Nat) : Int), .bool true] w fun e w' => e = .returned (.int .u32 ((rt p true : Nat) : Int)) ∧ Below w.heap.size w w' := by
  have m0 := Mo.start w
  refine enter [.int .u64 ((p : Nat) : Int), .bool true] 28 Tryd.func36 rfl Tryd.ntmps36 (Nat.le_of_ble_eq_true rfl) ?_
  refine sq ?_
  refine cz [(0, .int .u64 ((p : Nat) : Int)), (1, .bool true)] ⟨rfl, rfl, trivial⟩ (fun _ => ?_)
  refine rp [0] ?_
  refine k0 (wt_none rfl _) rfl (.int .u32 0) (fun _ _ => exec_move (.const (.int .u32 0)) (.inr rfl) _ rfl) ?_
  refine kend ?_
  refine th_n ?_
  refine sq ?_
  refine cz [(0, .int .u64 ((p : Nat) : Int)), (1, .bool true), (4, .int .u32 0)] ⟨rfl, rfl, rfl, trivial⟩ (fun _ => ?_)
  refine rp [0] ?_
  refine k0 (wt_none rfl _) rfl (.int .u64 0) (fun _ _ => exec_move (.const (.int .u64 0)) (.inr rfl) _ rfl) ?_
  refine kend ?_
  refine th_n ?_
  refine sq ?_
  refine sq ?_
  refine cz [(0, .int .u64 ((p : Nat) : Int)), (1, .bool true), (4, .int .u32 0), (5, .int .u64 0)] ⟨rfl, rfl, rfl, rfl, trivial⟩ (fun _ => ?_)
  refine rp [0] ?_
  refine k0 (wt_none rfl _) rfl (.int .i64 36) (fun _ _ => exec_move (.const (.int .i64 36)) (.inr rfl) _ rfl) ?_
  refine kend ?_
  refine th_n ?_
  refine bk ?_
  refine lp (fun (xs : Nat × Nat) => [(0, .int .u64 ((p : Nat) : Int)), (1, .bool true), (5, .int .u64 ((xs.2 : Nat) : Int)), (6, .int .i64 (36 - ((xs.1 : Nat) : Int)))]) (fun (xs : Nat × Nat) w1 => (xs.1 ≤ 37) ∧ (xs.2 = rtK p true xs.1) ∧ Mo w w1 []) (fun (xs : Nat × Nat) => 37 - xs.1) (⟨0, 0⟩) ⟨rfl, rfl, rfl, rfl, trivial⟩ ⟨(show 0 ≤ 37 from (by decide)), (show 0 = rtK p true 0 from rfl), (show Mo w w [] from m0)⟩ ?_
  rintro ⟨t, x⟩ _ ww2 ⟨hh3, hh4, mm1⟩
  replace hh3 : t ≤ 37 := hh3
  replace hh4 : x = rtK p true t := hh4
  replace mm1 : Mo w ww2 [] := mm1
  refine cz [(0, .int .u64 ((p : Nat) : Int)), (1, .bool true), (5, .int .u64 ((x : Nat) : Int)), (6, .int .i64 (36 - ((t : Nat) : Int)))] ⟨rfl, rfl, rfl, rfl, trivial⟩ (fun _ => ?_)
  have hxx : x < 137438953472 := by rw [hh4]; exact rtK_lt _ _ _
  by_cases hlt : t < 37
  · -- round
    have hp2 : 2 ^ (36 - t) ≤ 68719476736 := Nat.pow_le_pow_right (by decide) (show 36 - t ≤ 36 by omega)
    refine sq ?_
    refine sq ?_
    refine cz [(0, .int .u64 ((p : Nat) : Int)), (1, .bool true), (5, .int .u64 ((x : Nat) : Int)), (6, .int .i64 (36 - ((t : Nat) : Int)))] ⟨rfl, rfl, rfl, rfl, trivial⟩ (fun _ => ?_)
    refine rp [0, 0] ?_
    refine k0 (wt_none rfl _) rfl (.int .i64 (36 - ((t : Nat) : Int))) (fun _ _ => exec_move (.tmp 6) (.inl rfl) _ rfl) ?_
    refine k0 (wt_none rfl _) rfl (.bool true) (fun _ _ => x_geqz (.tmp 8) (.const (.int .i64 0)) _ rfl (36 - ((t : Nat) : Int)) 0 true (by simp; omega) .i64 rfl rfl) ?_
    refine kend ?_
    refine th_n ?_
    refine cdt rfl ?_
    refine sk ?_
    refine th_n ?_
    refine sq ?_
    refine bk ?_
    refine sq ?_
    refine cz [(0, .int .u64 ((p : Nat) : Int)), (1, .bool true), (5, .int .u64 ((x : Nat) : Int)), (6, .int .i64 (36 - ((t : Nat) : Int))), (9, .bool true)] ⟨rfl, rfl, rfl, rfl, rfl, trivial⟩ (fun _ => ?_)
    refine rp [0, 0, 0, 0, 0, 0] ?_
    refine k0 (wt_none rfl _) rfl (.int .u64 ((x : Nat) : Int)) (fun _ _ => exec_move (.tmp 5) (.inl rfl) _ rfl) ?_
    refine k0 (wt_none rfl _) rfl (.int .i64 ((36 - t : Nat) : Int)) (fun _ _ => by rw [show ((36 - t : Nat) : Int) = 36 - ((t : Nat) : Int) from by omega]; exact exec_move (.tmp 6) (.inl rfl) _ rfl) ?_
    refine k0 (wt_none rfl _) rfl (.int .u64 ((36 - t : Nat) : Int)) (fun _ _ => exec_conv Tryd.i64 Tryd.uint (.tmp 13) rfl ((36 - t : Nat) : Int) ((36 - t : Nat) : Int) (wrapN .u64 (36 - t) (show _ < 18446744073709551616 by omega)) rfl) ?_
    refine k0 (wt_none rfl _) rfl (.int .u64 ((2 ^ (36 - t) : Nat) : Int)) (fun _ _ => x_shl1 (.const (.int .u64 1)) (.tmp 14) _ rfl (36 - t) (by omega) .u64 rfl rfl) ?_
    refine k0 (wt_none rfl _) rfl (.int .u64 ((x + (2 ^ (36 - t)) : Nat) : Int)) (fun _ _ => x_add (.tmp 12) (.tmp 15) _ _ rfl x (2 ^ (36 - t)) (x + (2 ^ (36 - t))) .u64 (by exact ⟨by omega, (show _ < 18446744073709551616 by omega)⟩) rfl rfl) ?_
    refine k0 (wt_none rfl _) rfl (.int .u64 ((x + (2 ^ (36 - t)) : Nat) : Int)) (fun _ _ => exec_move (.tmp 16) (.inr rfl) _ rfl) ?_
    refine kend ?_
    refine th_n ?_
    refine sq ?_
    by_cases hy : x + (2 ^ (36 - t)) < 137438953472
    · skip
      by_cases hl : lst (x + (2 ^ (36 - t))) p true = true
      · skip
        skip
        refine cz [(0, .int .u64 ((p : Nat) : Int)), (1, .bool true), (5, .int .u64 ((x : Nat) : Int)), (6, .int .i64 (36 - ((t : Nat) : Int))), (7, .int .u64 ((x + (2 ^ (36 - t)) : Nat) : Int)), (9, .bool true)] ⟨rfl, rfl, rfl, rfl, rfl, rfl, trivial⟩ (fun _ => ?_)
        refine rp [0, 0, 0, 0, 0, 0, 2, 0] ?_
        refine k0 (wt_none rfl _) rfl (.int .u64 ((x + (2 ^ (36 - t)) : Nat) : Int)) (fun _ _ => exec_move (.tmp 7) (.inl rfl) _ rfl) ?_
        refine k0 (wt_none rfl _) rfl (.bool true) (fun _ _ => x_lss_t (.tmp 17) (.const (.int .u64 137438953472)) _ _ rfl (x + (2 ^ (36 - t))) 137438953472 .u64 (by omega) rfl rfl) ?_
        refine k0 (wt_none rfl _) rfl (.bool true) (fun _ _ => exec_move (.tmp 18) (.inl rfl) _ rfl) ?_
        refine k0 (wt_some rfl rfl rfl rfl) rfl (.int .u64 ((x + (2 ^ (36 - t)) : Nat) : Int)) (fun _ _ => exec_move (.tmp 7) (.inl rfl) _ rfl) ?_
        refine k0 (wt_some rfl rfl rfl rfl) rfl (.int .u64 ((p : Nat) : Int)) (fun _ _ => exec_move (.tmp 0) (.inl rfl) _ rfl) ?_
        refine k0 (wt_some rfl rfl rfl rfl) rfl (.bool true) (fun _ _ => exec_move (.tmp 1) (.inl rfl) _ rfl) ?_
        refine kc (wt_some rfl rfl rfl rfl) rfl (x_cl3 (v0 := .int .u64 ((x + (2 ^ (36 - t)) : Nat) : Int)) (v1 := .int .u64 ((p : Nat) : Int)) (v2 := .bool true) rfl rfl rfl rfl (by kernel_rfl)) ((by have h := least_true (x + (2 ^ (36 - t))) p ww2 hy; rw [hl] at h; exact h)) ?_
        rintro _ ww5 ⟨rfl, mm6⟩
        have mm7 : Mo w ww5 [] := mm1.gr mm6
        refine ⟨_, rfl, trivial, ?_⟩
        refine k0 (wt_none rfl _) rfl (.bool true) (fun _ _ => x_pick (.tmp 19) (.tmp 23) (.const (.bool false)) rfl true _ rfl rfl) ?_
        refine kend ?_
        refine th_n ?_
        refine cdt rfl ?_
        refine cz [(0, .int .u64 ((p : Nat) : Int)), (1, .bool true), (5, .int .u64 ((x : Nat) : Int)), (6, .int .i64 (36 - ((t : Nat) : Int))), (7, .int .u64 ((x + (2 ^ (36 - t)) : Nat) : Int)), (9, .bool true), (24, .bool true)] ⟨rfl, rfl, rfl, rfl, rfl, rfl, rfl, trivial⟩ (fun _ => ?_)
        refine rp [0, 0] ?_
        refine k0 (wt_none rfl _) rfl (.int .u64 ((x + (2 ^ (36 - t)) : Nat) : Int)) (fun _ _ => exec_move (.tmp 7) (.inl rfl) _ rfl) ?_
        refine k0 (wt_none rfl _) rfl (.int .u64 ((x + (2 ^ (36 - t)) : Nat) : Int)) (fun _ _ => exec_move (.tmp 25) (.inr rfl) _ rfl) ?_
        refine kend ?_
        refine ib_n ?_
        refine th_n ?_
        refine cz [(0, .int .u64 ((p : Nat) : Int)), (1, .bool true), (5, .int .u64 ((x + (2 ^ (36 - t)) : Nat) : Int)), (6, .int .i64 (36 - ((t : Nat) : Int))), (7, .int .u64 ((x + (2 ^ (36 - t)) : Nat) : Int)), (9, .bool true), (24, .bool true)] ⟨rfl, rfl, rfl, rfl, rfl, rfl, rfl, trivial⟩ (fun _ => ?_)
        refine rp [0, 0, 0] ?_
        refine k0 (wt_none rfl _) rfl (.int .i64 (36 - ((t : Nat) : Int))) (fun _ _ => exec_move (.tmp 6) (.inl rfl) _ rfl) ?_
        refine k0 (wt_none rfl _) rfl (.int .i64 (36 - ((t + 1 : Nat) : Int))) (fun _ _ => x_subI (.tmp 10) (.const (.int .i64 1)) _ _ rfl (36 - ((t : Nat) : Int)) 1 _ (by omega) (by omega) (by omega) rfl rfl) ?_
        refine k0 (wt_none rfl _) rfl (.int .i64 (36 - ((t + 1 : Nat) : Int))) (fun _ _ => exec_move (.tmp 11) (.inr rfl) _ rfl) ?_
        refine kend ?_
        refine th_n ?_
        exact ⟨_, (⟨t + 1, x + (2 ^ (36 - t))⟩ : Nat × Nat), rfl, ⟨rfl, rfl, rfl, rfl, trivial⟩, ⟨(show (t + 1) ≤ 37 from (by omega)), (show (x + (2 ^ (36 - t))) = rtK p true (t + 1) from (by rw [rtK, ← hh4, if_pos (by rw [decide_eq_true hy, hl]; rfl)])), (show Mo w ww5 [] from mm7)⟩, (show 37 - (t + 1) < 37 - t by omega)⟩
      · skip
        have hl' : lst (x + (2 ^ (36 - t))) p true = false := by simpa using hl
        refine cz [(0, .int .u64 ((p : Nat) : Int)), (1, .bool true), (5, .int .u64 ((x : Nat) : Int)), (6, .int .i64 (36 - ((t : Nat) : Int))), (7, .int .u64 ((x + (2 ^ (36 - t)) : Nat) : Int)), (9, .bool true)] ⟨rfl, rfl, rfl, rfl, rfl, rfl, trivial⟩ (fun _ => ?_)
        refine rp [0, 0, 0, 0, 0, 0, 2, 0] ?_
        refine k0 (wt_none rfl _) rfl (.int .u64 ((x + (2 ^ (36 - t)) : Nat) : Int)) (fun _ _ => exec_move (.tmp 7) (.inl rfl) _ rfl) ?_
        refine k0 (wt_none rfl _) rfl (.bool true) (fun _ _ => x_lss_t (.tmp 17) (.const (.int .u64 137438953472)) _ _ rfl (x + (2 ^ (36 - t))) 137438953472 .u64 (by omega) rfl rfl) ?_
        refine k0 (wt_none rfl _) rfl (.bool true) (fun _ _ => exec_move (.tmp 18) (.inl rfl) _ rfl) ?_
        refine k0 (wt_some rfl rfl rfl rfl) rfl (.int .u64 ((x + (2 ^ (36 - t)) : Nat) : Int)) (fun _ _ => exec_move (.tmp 7) (.inl rfl) _ rfl) ?_
        refine k0 (wt_some rfl rfl rfl rfl) rfl (.int .u64 ((p : Nat) : Int)) (fun _ _ => exec_move (.tmp 0) (.inl rfl) _ rfl) ?_
        refine k0 (wt_some rfl rfl rfl rfl) rfl (.bool true) (fun _ _ => exec_move (.tmp 1) (.inl rfl) _ rfl) ?_
        refine kc (wt_some rfl rfl rfl rfl) rfl (x_cl3 (v0 := .int .u64 ((x + (2 ^ (36 - t)) : Nat) : Int)) (v1 := .int .u64 ((p : Nat) : Int)) (v2 := .bool true) rfl rfl rfl rfl (by kernel_rfl)) ((by have h := least_true (x + (2 ^ (36 - t))) p ww2 hy; rw [hl'] at h; exact h)) ?_
        rintro _ ww8 ⟨rfl, mm9⟩
        have mm10 : Mo w ww8 [] := mm1.gr mm9
        refine ⟨_, rfl, trivial, ?_⟩
        refine k0 (wt_none rfl _) rfl (.bool false) (fun _ _ => x_pick (.tmp 19) (.tmp 23) (.const (.bool false)) rfl true _ rfl rfl) ?_
        refine kend ?_
        refine th_n ?_
        refine cdf rfl ?_
        refine sk ?_
        refine ib_n ?_
        refine th_n ?_
        refine cz [(0, .int .u64 ((p : Nat) : Int)), (1, .bool true), (5, .int .u64 ((x : Nat) : Int)), (6, .int .i64 (36 - ((t : Nat) : Int))), (7, .int .u64 ((x + (2 ^ (36 - t)) : Nat) : Int)), (9, .bool true), (24, .bool false)] ⟨rfl, rfl, rfl, rfl, rfl, rfl, rfl, trivial⟩ (fun _ => ?_)
        refine rp [0, 0, 0] ?_
        refine k0 (wt_none rfl _) rfl (.int .i64 (36 - ((t : Nat) : Int))) (fun _ _ => exec_move (.tmp 6) (.inl rfl) _ rfl) ?_
        refine k0 (wt_none rfl _) rfl (.int .i64 (36 - ((t + 1 : Nat) : Int))) (fun _ _ => x_subI (.tmp 10) (.const (.int .i64 1)) _ _ rfl (36 - ((t : Nat) : Int)) 1 _ (by omega) (by omega) (by omega) rfl rfl) ?_
        refine k0 (wt_none rfl _) rfl (.int .i64 (36 - ((t + 1 : Nat) : Int))) (fun _ _ => exec_move (.tmp 11) (.inr rfl) _ rfl) ?_
        refine kend ?_
        refine th_n ?_
        exact ⟨_, (⟨t + 1, x⟩ : Nat × Nat), rfl, ⟨rfl, rfl, rfl, rfl, trivial⟩, ⟨(show (t + 1) ≤ 37 from (by omega)), (show x = rtK p true (t + 1) from (by rw [rtK, ← hh4, if_neg (by rw [decide_eq_true hy, hl']; simp)])), (show Mo w ww8 [] from mm10)⟩, (show 37 - (t + 1) < 37 - t by omega)⟩
    · skip
      by_cases hl : lst (x + (2 ^ (36 - t))) p true = true
      · skip
        skip
        refine cz [(0, .int .u64 ((p : Nat) : Int)), (1, .bool true), (5, .int .u64 ((x : Nat) : Int)), (6, .int .i64 (36 - ((t : Nat) : Int))), (7, .int .u64 ((x + (2 ^ (36 - t)) : Nat) : Int)), (9, .bool true)] ⟨rfl, rfl, rfl, rfl, rfl, rfl, trivial⟩ (fun _ => ?_)
        refine rp [0, 0, 0, 0, 0, 0, 0, 0] ?_
        refine k0 (wt_none rfl _) rfl (.int .u64 ((x + (2 ^ (36 - t)) : Nat) : Int)) (fun _ _ => exec_move (.tmp 7) (.inl rfl) _ rfl) ?_
        refine k0 (wt_none rfl _) rfl (.bool false) (fun _ _ => x_lss_f (.tmp 17) (.const (.int .u64 137438953472)) _ _ rfl (x + (2 ^ (36 - t))) 137438953472 .u64 (by omega) rfl rfl) ?_
        refine k0 (wt_none rfl _) rfl (.bool false) (fun _ _ => exec_move (.tmp 18) (.inl rfl) _ rfl) ?_
        refine kn (wt_not rfl rfl rfl rfl) ?_
        refine kn (wt_not rfl rfl rfl rfl) ?_
        refine kn (wt_not rfl rfl rfl rfl) ?_
        refine kn (wt_not rfl rfl rfl rfl) ?_
        refine k0 (wt_none rfl _) rfl (.bool false) (fun _ _ => x_pick (.tmp 19) (.tmp 23) (.const (.bool false)) rfl false _ rfl rfl) ?_
        refine kend ?_
        refine th_n ?_
        refine cdf rfl ?_
        refine sk ?_
        refine ib_n ?_
        refine th_n ?_
        refine cz [(0, .int .u64 ((p : Nat) : Int)), (1, .bool true), (5, .int .u64 ((x : Nat) : Int)), (6, .int .i64 (36 - ((t : Nat) : Int))), (7, .int .u64 ((x + (2 ^ (36 - t)) : Nat) : Int)), (9, .bool true), (24, .bool false)] ⟨rfl, rfl, rfl, rfl, rfl, rfl, rfl, trivial⟩ (fun _ => ?_)
        refine rp [0, 0, 0] ?_
        refine k0 (wt_none rfl _) rfl (.int .i64 (36 - ((t : Nat) : Int))) (fun _ _ => exec_move (.tmp 6) (.inl rfl) _ rfl) ?_
        refine k0 (wt_none rfl _) rfl (.int .i64 (36 - ((t + 1 : Nat) : Int))) (fun _ _ => x_subI (.tmp 10) (.const (.int .i64 1)) _ _ rfl (36 - ((t : Nat) : Int)) 1 _ (by omega) (by omega) (by omega) rfl rfl) ?_
        refine k0 (wt_none rfl _) rfl (.int .i64 (36 - ((t + 1 : Nat) : Int))) (fun _ _ => exec_move (.tmp 11) (.inr rfl) _ rfl) ?_
        refine kend ?_
        refine th_n ?_
        exact ⟨_, (⟨t + 1, x⟩ : Nat × Nat), rfl, ⟨rfl, rfl, rfl, rfl, trivial⟩, ⟨(show (t + 1) ≤ 37 from (by omega)), (show x = rtK p true (t + 1) from (by rw [rtK, ← hh4, if_neg (by rw [decide_eq_false hy]; simp)])), (show Mo w ww2 [] from mm1)⟩, (show 37 - (t + 1) < 37 - t by omega)⟩
      · skip
        have hl' : lst (x + (2 ^ (36 - t))) p true = false := by simpa using hl
        refine cz [(0, .int .u64 ((p : Nat) : Int)), (1, .bool true), (5, .int .u64 ((x : Nat) : Int)), (6, .int .i64 (36 - ((t : Nat) : Int))), (7, .int .u64 ((x + (2 ^ (36 - t)) : Nat) : Int)), (9, .bool true)] ⟨rfl, rfl, rfl, rfl, rfl, rfl, trivial⟩ (fun _ => ?_)
        refine rp [0, 0, 0, 0, 0, 0, 0, 0] ?_
        refine k0 (wt_none rfl _) rfl (.int .u64 ((x + (2 ^ (36 - t)) : Nat) : Int)) (fun _ _ => exec_move (.tmp 7) (.inl rfl) _ rfl) ?_
        refine k0 (wt_none rfl _) rfl (.bool false) (fun _ _ => x_lss_f (.tmp 17) (.const (.int .u64 137438953472)) _ _ rfl (x + (2 ^ (36 - t))) 137438953472 .u64 (by omega) rfl rfl) ?_
        refine k0 (wt_none rfl _) rfl (.bool false) (fun _ _ => exec_move (.tmp 18) (.inl rfl) _ rfl) ?_
        refine kn (wt_not rfl rfl rfl rfl) ?_
        refine kn (wt_not rfl rfl rfl rfl) ?_
        refine kn (wt_not rfl rfl rfl rfl) ?_
        refine kn (wt_not rfl rfl rfl rfl) ?_
        refine k0 (wt_none rfl _) rfl (.bool false) (fun _ _ => x_pick (.tmp 19) (.tmp 23) (.const (.bool false)) rfl false _ rfl rfl) ?_
        refine kend ?_
        refine th_n ?_
        refine cdf rfl ?_
        refine sk ?_
        refine ib_n ?_
        refine th_n ?_
        refine cz [(0, .int .u64 ((p : Nat) : Int)), (1, .bool true), (5, .int .u64 ((x : Nat) : Int)), (6, .int .i64 (36 - ((t : Nat) : Int))), (7, .int .u64 ((x + (2 ^ (36 - t)) : Nat) : Int)), (9, .bool true), (24, .bool false)] ⟨rfl, rfl, rfl, rfl, rfl, rfl, rfl, trivial⟩ (fun _ => ?_)
        refine rp [0, 0, 0] ?_
        refine k0 (wt_none rfl _) rfl (.int .i64 (36 - ((t : Nat) : Int))) (fun _ _ => exec_move (.tmp 6) (.inl rfl) _ rfl) ?_
        refine k0 (wt_none rfl _) rfl (.int .i64 (36 - ((t + 1 : Nat) : Int))) (fun _ _ => x_subI (.tmp 10) (.const (.int .i64 1)) _ _ rfl (36 - ((t : Nat) : Int)) 1 _ (by omega) (by omega) (by omega) rfl rfl) ?_
        refine k0 (wt_none rfl _) rfl (.int .i64 (36 - ((t + 1 : Nat) : Int))) (fun _ _ => exec_move (.tmp 11) (.inr rfl) _ rfl) ?_
        refine kend ?_
        refine th_n ?_
        exact ⟨_, (⟨t + 1, x⟩ : Nat × Nat), rfl, ⟨rfl, rfl, rfl, rfl, trivial⟩, ⟨(show (t + 1) ≤ 37 from (by omega)), (show x = rtK p true (t + 1) from (by rw [rtK, ← hh4, if_neg (by rw [decide_eq_false hy]; simp)])), (show Mo w ww2 [] from mm1)⟩, (show 37 - (t + 1) < 37 - t by omega)⟩
  · -- behind the loop
    refine sq ?_
    refine sq ?_
    refine cz [(0, .int .u64 ((p : Nat) : Int)), (1, .bool true), (5, .int .u64 ((x : Nat) : Int)), (6, .int .i64 (36 - ((t : Nat) : Int)))] ⟨rfl, rfl, rfl, rfl, trivial⟩ (fun _ => ?_)
    refine rp [0, 0] ?_
    refine k0 (wt_none rfl _) rfl (.int .i64 (36 - ((t : Nat) : Int))) (fun _ _ => exec_move (.tmp 6) (.inl rfl) _ rfl) ?_
    refine k0 (wt_none rfl _) rfl (.bool false) (fun _ _ => x_geqz (.tmp 8) (.const (.int .i64 0)) _ rfl (36 - ((t : Nat) : Int)) 0 false (by simp; omega) .i64 rfl rfl) ?_
    refine kend ?_
    refine th_n ?_
    refine cdf rfl ?_
    refine ex ?_
    refine th_x ?_
    refine th_x ?_
    refine ib_x ?_
    refine th_n ?_
    refine sq ?_
    refine cz [(0, .int .u64 ((p : Nat) : Int)), (1, .bool true), (5, .int .u64 ((x : Nat) : Int)), (6, .int .i64 (36 - ((t : Nat) : Int))), (9, .bool false)] ⟨rfl, rfl, rfl, rfl, rfl, trivial⟩ (fun _ => ?_)
    refine rp [0, 0, 0] ?_
    refine k0 (wt_none rfl _) rfl (.int .u64 ((x : Nat) : Int)) (fun _ _ => exec_move (.tmp 5) (.inl rfl) _ rfl) ?_
    refine k0 (wt_none rfl _) rfl (.int .u32 ((x % 4294967296 : Nat) : Int)) (fun _ _ => exec_conv Tryd.u64' Tryd.u32 (.tmp 26) rfl ((x : Nat) : Int) ((x % 4294967296 : Nat) : Int) (by rw [wrapU32]; omega) rfl) ?_
    refine k0 (wt_none rfl _) rfl (.int .u32 ((x % 4294967296 : Nat) : Int)) (fun _ _ => exec_move (.tmp 27) (.inr rfl) _ rfl) ?_
    refine kend ?_
    refine th_n ?_
    refine re ?_
    refine rt1 rfl ?_
    obtain rfl : t = 37 := by omega
    exact ⟨by rw [rt, ← hh4]; rfl, mm1.below⟩

set_option maxHeartbeats 1000000 in
theorem root_false (p : Nat) (w : World) :
    Calls Tryd.prog 36 #[.int .u64 ((p : Nat) : Int), .bool false] w fun e w' => e = .returned (.int .u32 ((rt p false : Nat) : Int)) ∧ Below w.heap.size w w' := by
  have m0 := Mo.start w
  refine enter [.int .u64 ((p : Nat) : Int), .bool false] 28 Tryd.func36 rfl Tryd.ntmps36 (Nat.le_of_ble_eq_true rfl) ?_
  refine sq ?_
  refine cz [(0, .int .u64 ((p : Nat) : Int)), (1, .bool false)] ⟨rfl, rfl, trivial⟩ (fun _ => ?_)
  refine rp [0] ?_
  refine k0 (wt_none rfl _) rfl (.int .u32 0) (fun _ _ => exec_move (.const (.int .u32 0)) (.inr rfl) _ rfl) ?_
  refine kend ?_
  refine th_n ?_
  refine sq ?_
  refine cz [(0, .int .u64 ((p : Nat) : Int)), (1, .bool false), (4, .int .u32 0)] ⟨rfl, rfl, rfl, trivial⟩ (fun _ => ?_)
  refine rp [0] ?_
  refine k0 (wt_none rfl _) rfl (.int .u64 0) (fun _ _ => exec_move (.const (.int .u64 0)) (.inr rfl) _ rfl) ?_
  refine kend ?_
  refine th_n ?_
  refine sq ?_
  refine sq ?_
  refine cz [(0, .int .u64 ((p : Nat) : Int)), (1, .bool false), (4, .int .u32 0), (5, .int .u64 0)] ⟨rfl, rfl, rfl, rfl, trivial⟩ (fun _ => ?_)
  refine rp [0] ?_
  refine k0 (wt_none rfl _) rfl (.int .i64 36) (fun _ _ => exec_move (.const (.int .i64 36)) (.inr rfl) _ rfl) ?_
  refine kend ?_
  refine th_n ?_
  refine bk ?_
  refine lp (fun (xs : Nat × Nat) => [(0, .int .u64 ((p : Nat) : Int)), (1, .bool false), (5, .int .u64 ((xs.2 : Nat) : Int)), (6, .int .i64 (36 - ((xs.1 : Nat) : Int)))]) (fun (xs : Nat × Nat) w1 => (xs.1 ≤ 37) ∧ (xs.2 = rtK p false xs.1) ∧ Mo w w1 []) (fun (xs : Nat × Nat) => 37 - xs.1) (⟨0, 0⟩) ⟨rfl, rfl, rfl, rfl, trivial⟩ ⟨(show 0 ≤ 37 from (by decide)), (show 0 = rtK p false 0 from rfl), (show Mo w w [] from m0)⟩ ?_
  rintro ⟨t, x⟩ _ ww2 ⟨hh3, hh4, mm1⟩
  replace hh3 : t ≤ 37 := hh3
  replace hh4 : x = rtK p false t := hh4
  replace mm1 : Mo w ww2 [] := mm1
  refine cz [(0, .int .u64 ((p : Nat) : Int)), (1, .bool false), (5, .int .u64 ((x : Nat) : Int)), (6, .int .i64 (36 - ((t : Nat) : Int)))] ⟨rfl, rfl, rfl, rfl, trivial⟩ (fun _ => ?_)
  have hxx : x < 137438953472 := by rw [hh4]; exact rtK_lt _ _ _
  by_cases hlt : t < 37
  · -- round
    have hp2 : 2 ^ (36 - t) ≤ 68719476736 := Nat.pow_le_pow_right (by decide) (show 36 - t ≤ 36 by omega)
    refine sq ?_
    refine sq ?_
    refine cz [(0, .int .u64 ((p : Nat) : Int)), (1, .bool false), (5, .int .u64 ((x : Nat) : Int)), (6, .int .i64 (36 - ((t : Nat) : Int)))] ⟨rfl, rfl, rfl, rfl, trivial⟩ (fun _ => ?_)
    refine rp [0, 0] ?_
    refine k0 (wt_none rfl _) rfl (.int .i64 (36 - ((t : Nat) : Int))) (fun _ _ => exec_move (.tmp 6) (.inl rfl) _ rfl) ?_
    refine k0 (wt_none rfl _) rfl (.bool true) (fun _ _ => x_geqz (.tmp 8) (.const (.int .i64 0)) _ rfl (36 - ((t : Nat) : Int)) 0 true (by simp; omega) .i64 rfl rfl) ?_
    refine kend ?_
    refine th_n ?_
    refine cdt rfl ?_
    refine sk ?_
    refine th_n ?_
    refine sq ?_
    refine bk ?_
    refine sq ?_
    refine cz [(0, .int .u64 ((p : Nat) : Int)), (1, .bool false), (5, .int .u64 ((x : Nat) : Int)), (6, .int .i64 (36 - ((t : Nat) : Int))), (9, .bool true)] ⟨rfl, rfl, rfl, rfl, rfl, trivial⟩ (fun _ => ?_)
    refine rp [0, 0, 0, 0, 0, 0] ?_
    refine k0 (wt_none rfl _) rfl (.int .u64 ((x : Nat) : Int)) (fun _ _ => exec_move (.tmp 5) (.inl rfl) _ rfl) ?_
    refine k0 (wt_none rfl _) rfl (.int .i64 ((36 - t : Nat) : Int)) (fun _ _ => by rw [show ((36 - t : Nat) : Int) = 36 - ((t : Nat) : Int) from by omega]; exact exec_move (.tmp 6) (.inl rfl) _ rfl) ?_
    refine k0 (wt_none rfl _) rfl (.int .u64 ((36 - t : Nat) : Int)) (fun _ _ => exec_conv Tryd.i64 Tryd.uint (.tmp 13) rfl ((36 - t : Nat) : Int) ((36 - t : Nat) : Int) (wrapN .u64 (36 - t) (show _ < 18446744073709551616 by omega)) rfl) ?_
    refine k0 (wt_none rfl _) rfl (.int .u64 ((2 ^ (36 - t) : Nat) : Int)) (fun _ _ => x_shl1 (.const (.int .u64 1)) (.tmp 14) _ rfl (36 - t) (by omega) .u64 rfl rfl) ?_
    refine k0 (wt_none rfl _) rfl (.int .u64 ((x + (2 ^ (36 - t)) : Nat) : Int)) (fun _ _ => x_add (.tmp 12) (.tmp 15) _ _ rfl x (2 ^ (36 - t)) (x + (2 ^ (36 - t))) .u64 (by exact ⟨by omega, (show _ < 18446744073709551616 by omega)⟩) rfl rfl) ?_
    refine k0 (wt_none rfl _) rfl (.int .u64 ((x + (2 ^ (36 - t)) : Nat) : Int)) (fun _ _ => exec_move (.tmp 16) (.inr rfl) _ rfl) ?_
    refine kend ?_
    refine th_n ?_
    refine sq ?_
    by_cases hy : x + (2 ^ (36 - t)) < 137438953472
    · skip
      by_cases hl : lst (x + (2 ^ (36 - t))) p false = true
      · skip
        skip
        refine cz [(0, .int .u64 ((p : Nat) : Int)), (1, .bool false), (5, .int .u64 ((x : Nat) : Int)), (6, .int .i64 (36 - ((t : Nat) : Int))), (7, .int .u64 ((x + (2 ^ (36 - t)) : Nat) : Int)), (9, .bool true)] ⟨rfl, rfl, rfl, rfl, rfl, rfl, trivial⟩ (fun _ => ?_)
        refine rp [0, 0, 0, 0, 0, 0, 2, 0] ?_
        refine k0 (wt_none rfl _) rfl (.int .u64 ((x + (2 ^ (36 - t)) : Nat) : Int)) (fun _ _ => exec_move (.tmp 7) (.inl rfl) _ rfl) ?_
        refine k0 (wt_none rfl _) rfl (.bool true) (fun _ _ => x_lss_t (.tmp 17) (.const (.int .u64 137438953472)) _ _ rfl (x + (2 ^ (36 - t))) 137438953472 .u64 (by omega) rfl rfl) ?_
        refine k0 (wt_none rfl _) rfl (.bool true) (fun _ _ => exec_move (.tmp 18) (.inl rfl) _ rfl) ?_
        refine k0 (wt_some rfl rfl rfl rfl) rfl (.int .u64 ((x + (2 ^ (36 - t)) : Nat) : Int)) (fun _ _ => exec_move (.tmp 7) (.inl rfl) _ rfl) ?_
        refine k0 (wt_some rfl rfl rfl rfl) rfl (.int .u64 ((p : Nat) : Int)) (fun _ _ => exec_move (.tmp 0) (.inl rfl) _ rfl) ?_
        refine k0 (wt_some rfl rfl rfl rfl) rfl (.bool false) (fun _ _ => exec_move (.tmp 1) (.inl rfl) _ rfl) ?_
        refine kc (wt_some rfl rfl rfl rfl) rfl (x_cl3 (v0 := .int .u64 ((x + (2 ^ (36 - t)) : Nat) : Int)) (v1 := .int .u64 ((p : Nat) : Int)) (v2 := .bool false) rfl rfl rfl rfl (by kernel_rfl)) ((by have h := least_false (x + (2 ^ (36 - t))) p ww2 hy; rw [hl] at h; exact h)) ?_
        rintro _ ww5 ⟨rfl, mm6⟩
        have mm7 : Mo w ww5 [] := mm1.gr mm6
        refine ⟨_, rfl, trivial, ?_⟩
        refine k0 (wt_none rfl _) rfl (.bool true) (fun _ _ => x_pick (.tmp 19) (.tmp 23) (.const (.bool false)) rfl true _ rfl rfl) ?_
        refine kend ?_
        refine th_n ?_
        refine cdt rfl ?_
        refine cz [(0, .int .u64 ((p : Nat) : Int)), (1, .bool false), (5, .int .u64 ((x : Nat) : Int)), (6, .int .i64 (36 - ((t : Nat) : Int))), (7, .int .u64 ((x + (2 ^ (36 - t)) : Nat) : Int)), (9, .bool true), (24, .bool true)] ⟨rfl, rfl, rfl, rfl, rfl, rfl, rfl, trivial⟩ (fun _ => ?_)
        refine rp [0, 0] ?_
        refine k0 (wt_none rfl _) rfl (.int .u64 ((x + (2 ^ (36 - t)) : Nat) : Int)) (fun _ _ => exec_move (.tmp 7) (.inl rfl) _ rfl) ?_
        refine k0 (wt_none rfl _) rfl (.int .u64 ((x + (2 ^ (36 - t)) : Nat) : Int)) (fun _ _ => exec_move (.tmp 25) (.inr rfl) _ rfl) ?_
        refine kend ?_
        refine ib_n ?_
        refine th_n ?_
        refine cz [(0, .int .u64 ((p : Nat) : Int)), (1, .bool false), (5, .int .u64 ((x + (2 ^ (36 - t)) : Nat) : Int)), (6, .int .i64 (36 - ((t : Nat) : Int))), (7, .int .u64 ((x + (2 ^ (36 - t)) : Nat) : Int)), (9, .bool true), (24, .bool true)] ⟨rfl, rfl, rfl, rfl, rfl, rfl, rfl, trivial⟩ (fun _ => ?_)
        refine rp [0, 0, 0] ?_
        refine k0 (wt_none rfl _) rfl (.int .i64 (36 - ((t : Nat) : Int))) (fun _ _ => exec_move (.tmp 6) (.inl rfl) _ rfl) ?_
        refine k0 (wt_none rfl _) rfl (.int .i64 (36 - ((t + 1 : Nat) : Int))) (fun _ _ => x_subI (.tmp 10) (.const (.int .i64 1)) _ _ rfl (36 - ((t : Nat) : Int)) 1 _ (by omega) (by omega) (by omega) rfl rfl) ?_
        refine k0 (wt_none rfl _) rfl (.int .i64 (36 - ((t + 1 : Nat) : Int))) (fun _ _ => exec_move (.tmp 11) (.inr rfl) _ rfl) ?_
        refine kend ?_
        refine th_n ?_
        exact ⟨_, (⟨t + 1, x + (2 ^ (36 - t))⟩ : Nat × Nat), rfl, ⟨rfl, rfl, rfl, rfl, trivial⟩, ⟨(show (t + 1) ≤ 37 from (by omega)), (show (x + (2 ^ (36 - t))) = rtK p false (t + 1) from (by rw [rtK, ← hh4, if_pos (by rw [decide_eq_true hy, hl]; rfl)])), (show Mo w ww5 [] from mm7)⟩, (show 37 - (t + 1) < 37 - t by omega)⟩
      · skip
        have hl' : lst (x + (2 ^ (36 - t))) p false = false := by simpa using hl
        refine cz [(0, .int .u64 ((p : Nat) : Int)), (1, .bool false), (5, .int .u64 ((x : Nat) : Int)), (6, .int .i64 (36 - ((t : Nat) : Int))), (7, .int .u64 ((x + (2 ^ (36 - t)) : Nat) : Int)), (9, .bool true)] ⟨rfl, rfl, rfl, rfl, rfl, rfl, trivial⟩ (fun _ => ?_)
        refine rp [0, 0, 0, 0, 0, 0, 2, 0] ?_
        refine k0 (wt_none rfl _) rfl (.int .u64 ((x + (2 ^ (36 - t)) : Nat) : Int)) (fun _ _ => exec_move (.tmp 7) (.inl rfl) _ rfl) ?_
        refine k0 (wt_none rfl _) rfl (.bool true) (fun _ _ => x_lss_t (.tmp 17) (.const (.int .u64 137438953472)) _ _ rfl (x + (2 ^ (36 - t))) 137438953472 .u64 (by omega) rfl rfl) ?_
        refine k0 (wt_none rfl _) rfl (.bool true) (fun _ _ => exec_move (.tmp 18) (.inl rfl) _ rfl) ?_
        refine k0 (wt_some rfl rfl rfl rfl) rfl (.int .u64 ((x + (2 ^ (36 - t)) : Nat) : Int)) (fun _ _ => exec_move (.tmp 7) (.inl rfl) _ rfl) ?_
        refine k0 (wt_some rfl rfl rfl rfl) rfl (.int .u64 ((p : Nat) : Int)) (fun _ _ => exec_move (.tmp 0) (.inl rfl) _ rfl) ?_
        refine k0 (wt_some rfl rfl rfl rfl) rfl (.bool false) (fun _ _ => exec_move (.tmp 1) (.inl rfl) _ rfl) ?_
        refine kc (wt_some rfl rfl rfl rfl) rfl (x_cl3 (v0 := .int .u64 ((x + (2 ^ (36 - t)) : Nat) : Int)) (v1 := .int .u64 ((p : Nat) : Int)) (v2 := .bool false) rfl rfl rfl rfl (by kernel_rfl)) ((by have h := least_false (x + (2 ^ (36 - t))) p ww2 hy; rw [hl'] at h; exact h)) ?_
        rintro _ ww8 ⟨rfl, mm9⟩
        have mm10 : Mo w ww8 [] := mm1.gr mm9
        refine ⟨_, rfl, trivial, ?_⟩
        refine k0 (wt_none rfl _) rfl (.bool false) (fun _ _ => x_pick (.tmp 19) (.tmp 23) (.const (.bool false)) rfl true _ rfl rfl) ?_
        refine kend ?_
        refine th_n ?_
        refine cdf rfl ?_
        refine sk ?_
        refine ib_n ?_
        refine th_n ?_
        refine cz [(0, .int .u64 ((p : Nat) : Int)), (1, .bool false), (5, .int .u64 ((x : Nat) : Int)), (6, .int .i64 (36 - ((t : Nat) : Int))), (7, .int .u64 ((x + (2 ^ (36 - t)) : Nat) : Int)), (9, .bool true), (24, .bool false)] ⟨rfl, rfl, rfl, rfl, rfl, rfl, rfl, trivial⟩ (fun _ => ?_)
        refine rp [0, 0, 0] ?_
        refine k0 (wt_none rfl _) rfl (.int .i64 (36 - ((t : Nat) : Int))) (fun _ _ => exec_move (.tmp 6) (.inl rfl) _ rfl) ?_
        refine k0 (wt_none rfl _) rfl (.int .i64 (36 - ((t + 1 : Nat) : Int))) (fun _ _ => x_subI (.tmp 10) (.const (.int .i64 1)) _ _ rfl (36 - ((t : Nat) : Int)) 1 _ (by omega) (by omega) (by omega) rfl rfl) ?_
        refine k0 (wt_none rfl _) rfl (.int .i64 (36 - ((t + 1 : Nat) : Int))) (fun _ _ => exec_move (.tmp 11) (.inr rfl) _ rfl) ?_
        refine kend ?_
        refine th_n ?_
        exact ⟨_, (⟨t + 1, x⟩ : Nat × Nat), rfl, ⟨rfl, rfl, rfl, rfl, trivial⟩, ⟨(show (t + 1) ≤ 37 from (by omega)), (show x = rtK p false (t + 1) from (by rw [rtK, ← hh4, if_neg (by rw [decide_eq_true hy, hl']; simp)])), (show Mo w ww8 [] from mm10)⟩, (show 37 - (t + 1) < 37 - t by omega)⟩
    · skip
      by_cases hl : lst (x + (2 ^ (36 - t))) p false = true
      · skip
        skip
        refine cz [(0, .int .u64 ((p : Nat) : Int)), (1, .bool false), (5, .int .u64 ((x : Nat) : Int)), (6, .int .i64 (36 - ((t : Nat) : Int))), (7, .int .u64 ((x + (2 ^ (36 - t)) : Nat) : Int)), (9, .bool true)] ⟨rfl, rfl, rfl, rfl, rfl, rfl, trivial⟩ (fun _ => ?_)
        refine rp [0, 0, 0, 0, 0, 0, 0, 0] ?_
        refine k0 (wt_none rfl _) rfl (.int .u64 ((x + (2 ^ (36 - t)) : Nat) : Int)) (fun _ _ => exec_move (.tmp 7) (.inl rfl) _ rfl) ?_
        refine k0 (wt_none rfl _) rfl (.bool false) (fun _ _ => x_lss_f (.tmp 17) (.const (.int .u64 137438953472)) _ _ rfl (x + (2 ^ (36 - t))) 137438953472 .u64 (by omega) rfl rfl) ?_
        refine k0 (wt_none rfl _) rfl (.bool false) (fun _ _ => exec_move (.tmp 18) (.inl rfl) _ rfl) ?_
        refine kn (wt_not rfl rfl rfl rfl) ?_
        refine kn (wt_not rfl rfl rfl rfl) ?_
        refine kn (wt_not rfl rfl rfl rfl) ?_
        refine kn (wt_not rfl rfl rfl rfl) ?_
        refine k0 (wt_none rfl _) rfl (.bool false) (fun _ _ => x_pick (.tmp 19) (.tmp 23) (.const (.bool false)) rfl false _ rfl rfl) ?_
        refine kend ?_
        refine th_n ?_
        refine cdf rfl ?_
        refine sk ?_
        refine ib_n ?_
        refine th_n ?_
        refine cz [(0, .int .u64 ((p : Nat) : Int)), (1, .bool false), (5, .int .u64 ((x : Nat) : Int)), (6, .int .i64 (36 - ((t : Nat) : Int))), (7, .int .u64 ((x + (2 ^ (36 - t)) : Nat) : Int)), (9, .bool true), (24, .bool false)] ⟨rfl, rfl, rfl, rfl, rfl, rfl, rfl, trivial⟩ (fun _ => ?_)
        refine rp [0, 0, 0] ?_
        refine k0 (wt_none rfl _) rfl (.int .i64 (36 - ((t : Nat) : Int))) (fun _ _ => exec_move (.tmp 6) (.inl rfl) _ rfl) ?_
        refine k0 (wt_none rfl _) rfl (.int .i64 (36 - ((t + 1 : Nat) : Int))) (fun _ _ => x_subI (.tmp 10) (.const (.int .i64 1)) _ _ rfl (36 - ((t : Nat) : Int)) 1 _ (by omega) (by omega) (by omega) rfl rfl) ?_
        refine k0 (wt_none rfl _) rfl (.int .i64 (36 - ((t + 1 : Nat) : Int))) (fun _ _ => exec_move (.tmp 11) (.inr rfl) _ rfl) ?_
        refine kend ?_
        refine th_n ?_
        exact ⟨_, (⟨t + 1, x⟩ : Nat × Nat), rfl, ⟨rfl, rfl, rfl, rfl, trivial⟩, ⟨(show (t + 1) ≤ 37 from (by omega)), (show x = rtK p false (t + 1) from (by rw [rtK, ← hh4, if_neg (by rw [decide_eq_false hy]; simp)])), (show Mo w ww2 [] from mm1)⟩, (show 37 - (t + 1) < 37 - t by omega)⟩
      · skip
        have hl' : lst (x + (2 ^ (36 - t))) p false = false := by simpa using hl
        refine cz [(0, .int .u64 ((p : Nat) : Int)), (1, .bool false), (5, .int .u64 ((x : Nat) : Int)), (6, .int .i64 (36 - ((t : Nat) : Int))), (7, .int .u64 ((x + (2 ^ (36 - t)) : Nat) : Int)), (9, .bool true)] ⟨rfl, rfl, rfl, rfl, rfl, rfl, trivial⟩ (fun _ => ?_)
        refine rp [0, 0, 0, 0, 0, 0, 0, 0] ?_
        refine k0 (wt_none rfl _) rfl (.int .u64 ((x + (2 ^ (36 - t)) : Nat) : Int)) (fun _ _ => exec_move (.tmp 7) (.inl rfl) _ rfl) ?_
        refine k0 (wt_none rfl _) rfl (.bool false) (fun _ _ => x_lss_f (.tmp 17) (.const (.int .u64 137438953472)) _ _ rfl (x + (2 ^ (36 - t))) 137438953472 .u64 (by omega) rfl rfl) ?_
        refine k0 (wt_none rfl _) rfl (.bool false) (fun _ _ => exec_move (.tmp 18) (.inl rfl) _ rfl) ?_
        refine kn (wt_not rfl rfl rfl rfl) ?_
        refine kn (wt_not rfl rfl rfl rfl) ?_
        refine kn (wt_not rfl rfl rfl rfl) ?_
        refine kn (wt_not rfl rfl rfl rfl) ?_
        refine k0 (wt_none rfl _) rfl (.bool false) (fun _ _ => x_pick (.tmp 19) (.tmp 23) (.const (.bool false)) rfl false _ rfl rfl) ?_
        refine kend ?_
        refine th_n ?_
        refine cdf rfl ?_
        refine sk ?_
        refine ib_n ?_
        refine th_n ?_
        refine cz [(0, .int .u64 ((p : Nat) : Int)), (1, .bool false), (5, .int .u64 ((x : Nat) : Int)), (6, .int .i64 (36 - ((t : Nat) : Int))), (7, .int .u64 ((x + (2 ^ (36 - t)) : Nat) : Int)), (9, .bool true), (24, .bool false)] ⟨rfl, rfl, rfl, rfl, rfl, rfl, rfl, trivial⟩ (fun _ => ?_)
        refine rp [0, 0, 0] ?_
        refine k0 (wt_none rfl _) rfl (.int .i64 (36 - ((t : Nat) : Int))) (fun _ _ => exec_move (.tmp 6) (.inl rfl) _ rfl) ?_
        refine k0 (wt_none rfl _) rfl (.int .i64 (36 - ((t + 1 : Nat) : Int))) (fun _ _ => x_subI (.tmp 10) (.const (.int .i64 1)) _ _ rfl (36 - ((t : Nat) : Int)) 1 _ (by omega) (by omega) (by omega) rfl rfl) ?_
        refine k0 (wt_none rfl _) rfl (.int .i64 (36 - ((t + 1 : Nat) : Int))) (fun _ _ => exec_move (.tmp 11) (.inr rfl) _ rfl) ?_
        refine kend ?_
        refine th_n ?_
        exact ⟨_, (⟨t + 1, x⟩ : Nat × Nat), rfl, ⟨rfl, rfl, rfl, rfl, trivial⟩, ⟨(show (t + 1) ≤ 37 from (by omega)), (show x = rtK p false (t + 1) from (by rw [rtK, ← hh4, if_neg (by rw [decide_eq_false hy]; simp)])), (show Mo w ww2 [] from mm1)⟩, (show 37 - (t + 1) < 37 - t by omega)⟩
  · -- behind the loop
    refine sq ?_
    refine sq ?_
    refine cz [(0, .int .u64 ((p : Nat) : Int)), (1, .bool false), (5, .int .u64 ((x : Nat) : Int)), (6, .int .i64 (36 - ((t : Nat) : Int)))] ⟨rfl, rfl, rfl, rfl, trivial⟩ (fun _ => ?_)
    refine rp [0, 0] ?_
    refine k0 (wt_none rfl _) rfl (.int .i64 (36 - ((t : Nat) : Int))) (fun _ _ => exec_move (.tmp 6) (.inl rfl) _ rfl) ?_
    refine k0 (wt_none rfl _) rfl (.bool false) (fun _ _ => x_geqz (.tmp 8) (.const (.int .i64 0)) _ rfl (36 - ((t : Nat) : Int)) 0 false (by simp; omega) .i64 rfl rfl) ?_
    refine kend ?_
    refine th_n ?_
    refine cdf rfl ?_
    refine ex ?_
    refine th_x ?_
    refine th_x ?_
    refine ib_x ?_
    refine th_n ?_
    refine sq ?_
    refine cz [(0, .int .u64 ((p : Nat) : Int)), (1, .bool false), (5, .int .u64 ((x : Nat) : Int)), (6, .int .i64 (36 - ((t : Nat) : Int))), (9, .bool false)] ⟨rfl, rfl, rfl, rfl, rfl, trivial⟩ (fun _ => ?_)
    refine rp [0, 0, 0] ?_
    refine k0 (wt_none rfl _) rfl (.int .u64 ((x : Nat) : Int)) (fun _ _ => exec_move (.tmp 5) (.inl rfl) _ rfl) ?_
    refine k0 (wt_none rfl _) rfl (.int .u32 ((x % 4294967296 : Nat) : Int)) (fun _ _ => exec_conv Tryd.u64' Tryd.u32 (.tmp 26) rfl ((x : Nat) : Int) ((x % 4294967296 : Nat) : Int) (by rw [wrapU32]; omega) rfl) ?_
    refine k0 (wt_none rfl _) rfl (.int .u32 ((x % 4294967296 : Nat) : Int)) (fun _ _ => exec_move (.tmp 27) (.inr rfl) _ rfl) ?_
    refine kend ?_
    refine th_n ?_
    refine re ?_
    refine rt1 rfl ?_
    obtain rfl : t = 37 := by omega
    exact ⟨by rw [rt, ← hh4]; rfl, mm1.below⟩

set_option maxHeartbeats 1000000 in
theorem primes_doc (n : Nat) (w : World) (hn : n = 8 ∨ n = 64) :
    Calls Tryd.prog 35 #[.int .i64 ((n : Nat) : Int)] w fun e w' => ∃ v', e = .returned v' ∧ Mo w w' [.own 34 1 v' n (c64 (prK (topP n)))] := by
  have m0 := Mo.start w
  refine enter [.int .i64 ((n : Nat) : Int)] 36 Tryd.func35 rfl Tryd.ntmps35 (Nat.le_of_ble_eq_true rfl) ?_
  refine sq ?_
  refine cz [(0, .int .i64 ((n : Nat) : Int))] ⟨rfl, trivial⟩ (fun _ => ?_)
  refine rp [0] ?_
  refine k0 (wt_none rfl _) rfl (.slice none 0 0) (fun _ _ => exec_move (.const (.slice none 0 0)) (.inr rfl) _ rfl) ?_
  refine kend ?_
  refine th_n ?_
  refine sq ?_
  refine cz [(0, .int .i64 ((n : Nat) : Int)), (2, .slice none 0 0)] ⟨rfl, rfl, trivial⟩ (fun _ => ?_)
  refine rp [2, 0] ?_
  refine k2 (wt_none rfl _) rfl (x_bld Tryd.sw 0 _ rfl m0 [] [] rfl (by decide) (fun _ h => absurd h List.not_mem_nil) rfl rfl) ?_
  rintro vv1 ww2 mm3
  refine ⟨trivial, ?_⟩
  refine k0 (wt_none rfl _) rfl (vv1) (fun _ _ => exec_move (.tmp 7) (.inr rfl) _ rfl) ?_
  refine kend ?_
  refine th_n ?_
  refine sq ?_
  refine sq ?_
  refine cz [(0, .int .i64 ((n : Nat) : Int)), (2, .slice none 0 0), (3, vv1)] ⟨rfl, rfl, rfl, trivial⟩ (fun _ => ?_)
  refine rp [0] ?_
  refine k0 (wt_none rfl _) rfl (.int .u64 2) (fun _ _ => exec_move (.const (.int .u64 2)) (.inr rfl) _ rfl) ?_
  refine kend ?_
  refine th_n ?_
  refine bk ?_
  refine lp (fun (xs : Nat × Value) => [(0, .int .i64 ((n : Nat) : Int)), (3, xs.2), (4, .int .u64 ((2 + xs.1 : Nat) : Int))]) (fun (xs : Nat × Value) w1 => (∀ j, j < xs.1 → (prK j).length < n) ∧ Mo w w1 [.own 34 1 xs.2 ((prK xs.1).length) (c64 (prK xs.1))]) (fun (xs : Nat × Value) => 310 - xs.1) (⟨0, vv1⟩) ⟨rfl, rfl, rfl, trivial⟩ ⟨(show ∀ j, j < 0 → (prK j).length < n from (fun j hj => absurd hj (Nat.not_lt_zero j))), (show Mo w ww2 [.own 34 1 vv1 ((prK 0).length) (c64 (prK 0))] from mm3)⟩ ?_
  rintro ⟨t, u3⟩ _ ww5 ⟨hh6, mm4⟩
  replace hh6 : ∀ j, j < t → (prK j).length < n := hh6
  replace mm4 : Mo w ww5 [.own 34 1 u3 ((prK t).length) (c64 (prK t))] := mm4
  refine cz [(0, .int .i64 ((n : Nat) : Int)), (3, u3), (4, .int .u64 ((2 + t : Nat) : Int))] ⟨rfl, rfl, rfl, trivial⟩ (fun _ => ?_)
  have hpl := prK_le t
  by_cases hlt : (prK t).length < n
  · -- round
    have ht := pr_lt hn hlt
    refine sq ?_
    refine sq ?_
    refine cz [(0, .int .i64 ((n : Nat) : Int)), (3, u3), (4, .int .u64 ((2 + t : Nat) : Int))] ⟨rfl, rfl, rfl, trivial⟩ (fun _ => ?_)
    refine rp [0, 1, 0, 0] ?_
    refine k0 (wt_none rfl _) rfl (u3) (fun _ _ => exec_move (.tmp 3) (.inl rfl) _ rfl) ?_
    refine k1 (wt_none rfl _) rfl (.int .i64 (((prK t).length : Nat) : Int)) (x_len Tryd.sw.sl (.tmp 8) rfl (mm4.rc 0 rfl) rfl) ?_
    refine k0 (wt_none rfl _) rfl (.int .i64 ((n : Nat) : Int)) (fun _ _ => exec_move (.tmp 0) (.inl rfl) _ rfl) ?_
    refine k0 (wt_none rfl _) rfl (.bool true) (fun _ _ => x_lss_t (.tmp 9) (.tmp 10) _ _ rfl ((prK t).length) n .i64 (by omega) rfl rfl) ?_
    refine kend ?_
    refine th_n ?_
    refine cdt rfl ?_
    refine sk ?_
    refine th_n ?_
    refine sq ?_
    refine bk ?_
    refine sq ?_
    refine cz [(0, .int .i64 ((n : Nat) : Int)), (3, u3), (4, .int .u64 ((2 + t : Nat) : Int)), (11, .bool true)] ⟨rfl, rfl, rfl, rfl, trivial⟩ (fun _ => ?_)
    refine rp [0] ?_
    refine k0 (wt_none rfl _) rfl (.bool true) (fun _ _ => exec_move (.const (.bool true)) (.inr rfl) _ rfl) ?_
    refine kend ?_
    refine th_n ?_
    refine sq ?_
    refine sq ?_
    refine cz [(0, .int .i64 ((n : Nat) : Int)), (3, u3), (4, .int .u64 ((2 + t : Nat) : Int)), (5, .bool true), (11, .bool true)] ⟨rfl, rfl, rfl, rfl, rfl, trivial⟩ (fun _ => ?_)
    refine rp [0] ?_
    refine k0 (wt_none rfl _) rfl (.int .i64 0) (fun _ _ => exec_move (.const (.int .i64 0)) (.inr rfl) _ rfl) ?_
    refine kend ?_
    refine th_n ?_
    refine bk ?_
    refine lp (fun (xs : Nat × Bool) => [(0, .int .i64 ((n : Nat) : Int)), (3, u3), (4, .int .u64 ((2 + t : Nat) : Int)), (5, .bool xs.2), (6, .int .i64 ((xs.1 : Nat) : Int))]) (fun (xs : Nat × Bool) w1 => (xs.1 ≤ (prK t).length) ∧ (xs.2 = isP (prK t) (2 + t) xs.1) ∧ Mo w w1 [.own 34 1 u3 ((prK t).length) (c64 (prK t))]) (fun (xs : Nat × Bool) => (prK t).length - xs.1) (⟨0, true⟩) ⟨rfl, rfl, rfl, rfl, rfl, trivial⟩ ⟨(show 0 ≤ (prK t).length from (Nat.zero_le _)), (show true = isP (prK t) (2 + t) 0 from rfl), (show Mo w ww5 [.own 34 1 u3 ((prK t).length) (c64 (prK t))] from mm4)⟩ ?_
    rintro ⟨k, q⟩ _ ww8 ⟨hh9, hh10, mm7⟩
    replace hh9 : k ≤ (prK t).length := hh9
    replace hh10 : q = isP (prK t) (2 + t) k := hh10
    replace mm7 : Mo w ww8 [.own 34 1 u3 ((prK t).length) (c64 (prK t))] := mm7
    refine cz [(0, .int .i64 ((n : Nat) : Int)), (3, u3), (4, .int .u64 ((2 + t : Nat) : Int)), (5, .bool q), (6, .int .i64 ((k : Nat) : Int))] ⟨rfl, rfl, rfl, rfl, rfl, trivial⟩ (fun _ => ?_)
    by_cases hk : k < (prK t).length
    · -- round
      refine sq ?_
      refine sq ?_
      refine cz [(0, .int .i64 ((n : Nat) : Int)), (3, u3), (4, .int .u64 ((2 + t : Nat) : Int)), (5, .bool q), (6, .int .i64 ((k : Nat) : Int))] ⟨rfl, rfl, rfl, rfl, rfl, trivial⟩ (fun _ => ?_)
      refine rp [0, 0, 1, 0] ?_
      refine k0 (wt_none rfl _) rfl (.int .i64 ((k : Nat) : Int)) (fun _ _ => exec_move (.tmp 6) (.inl rfl) _ rfl) ?_
      refine k0 (wt_none rfl _) rfl (u3) (fun _ _ => exec_move (.tmp 3) (.inl rfl) _ rfl) ?_
      refine k1 (wt_none rfl _) rfl (.int .i64 (((prK t).length : Nat) : Int)) (x_len Tryd.sw.sl (.tmp 15) rfl (mm7.rc 0 rfl) rfl) ?_
      refine k0 (wt_none rfl _) rfl (.bool true) (fun _ _ => x_lss_t (.tmp 14) (.tmp 16) _ _ rfl k ((prK t).length) .i64 (by omega) rfl rfl) ?_
      refine kend ?_
      refine th_n ?_
      refine cdt rfl ?_
      refine sk ?_
      refine th_n ?_
      refine sq ?_
      refine bk ?_
      by_cases hq : q = true
      · skip
        subst hq
        by_cases hdv : (2 + t) % (at64 (prK t) k) = 0
        · skip
          refine cz [(0, .int .i64 ((n : Nat) : Int)), (3, u3), (4, .int .u64 ((2 + t : Nat) : Int)), (5, .bool true), (6, .int .i64 ((k : Nat) : Int)), (17, .bool true)] ⟨rfl, rfl, rfl, rfl, rfl, rfl, trivial⟩ (fun _ => ?_)
          refine rp [0, 0, 0, 0, 0, 1, 1, 0, 0, 0, 0] ?_
          refine k0 (wt_none rfl _) rfl (.bool true) (fun _ _ => exec_move (.tmp 5) (.inl rfl) _ rfl) ?_
          refine k0 (wt_none rfl _) rfl (.bool true) (fun _ _ => exec_move (.tmp 20) (.inl rfl) _ rfl) ?_
          refine k0 (wt_some rfl rfl rfl rfl) rfl (.int .u64 ((2 + t : Nat) : Int)) (fun _ _ => exec_move (.tmp 4) (.inl rfl) _ rfl) ?_
          refine k0 (wt_some rfl rfl rfl rfl) rfl (u3) (fun _ _ => exec_move (.tmp 3) (.inl rfl) _ rfl) ?_
          refine k0 (wt_some rfl rfl rfl rfl) rfl (.int .i64 ((k : Nat) : Int)) (fun _ _ => exec_move (.tmp 6) (.inl rfl) _ rfl) ?_
          refine k1 (wt_some rfl rfl rfl rfl) rfl (eP u3 k) (x_ep Tryd.sw (.tmp 23) (.tmp 24) rfl (mm7.rc 0 rfl) k .i64 k (Nat.mul_one _) (by omega) rfl _ rfl rfl) ?_
          refine k1 (wt_some rfl rfl rfl rfl) rfl (.int .u64 ((at64 (prK t) k : Nat) : Int)) (x_ldp Tryd.u64' (.tmp 25) rfl (mm7.rc 0 rfl) k (by omega) _ (c64_get hk) rfl) ?_
          refine k0 (wt_some rfl rfl rfl rfl) rfl (.int .u64 (((2 + t) % (at64 (prK t) k) : Nat) : Int)) (fun _ _ => x_rem (.tmp 22) (.tmp 26) _ _ rfl (2 + t) (at64 (prK t) k) ((2 + t) % (at64 (prK t) k)) .u64 (by exact ⟨rfl, Nat.lt_of_lt_of_le (by decide) (at_two hk)⟩) rfl rfl) ?_
          refine k0 (wt_some rfl rfl rfl rfl) rfl (.bool false) (fun _ _ => x_neq_f (.tmp 27) (.const (.int .u64 0)) _ _ rfl ((2 + t) % (at64 (prK t) k)) 0 .u64 (by omega) rfl rfl) ?_
          refine k0 (wt_none rfl _) rfl (.bool false) (fun _ _ => x_pick (.tmp 21) (.tmp 28) (.const (.bool false)) rfl true _ rfl rfl) ?_
          refine k0 (wt_none rfl _) rfl (.bool false) (fun _ _ => exec_move (.tmp 29) (.inr rfl) _ rfl) ?_
          refine kend ?_
          refine ib_n ?_
          refine th_n ?_
          refine cz [(0, .int .i64 ((n : Nat) : Int)), (3, u3), (4, .int .u64 ((2 + t : Nat) : Int)), (5, .bool false), (6, .int .i64 ((k : Nat) : Int)), (17, .bool true)] ⟨rfl, rfl, rfl, rfl, rfl, rfl, trivial⟩ (fun _ => ?_)
          refine rp [0, 0, 0] ?_
          refine k0 (wt_none rfl _) rfl (.int .i64 ((k : Nat) : Int)) (fun _ _ => exec_move (.tmp 6) (.inl rfl) _ rfl) ?_
          refine k0 (wt_none rfl _) rfl (.int .i64 ((k + 1 : Nat) : Int)) (fun _ _ => x_add (.tmp 18) (.const (.int .i64 1)) _ _ rfl k 1 (k + 1) .i64 (by exact ⟨by omega, (show _ < 9223372036854775808 by omega)⟩) rfl rfl) ?_
          refine k0 (wt_none rfl _) rfl (.int .i64 ((k + 1 : Nat) : Int)) (fun _ _ => exec_move (.tmp 19) (.inr rfl) _ rfl) ?_
          refine kend ?_
          refine th_n ?_
          exact ⟨_, (⟨k + 1, false⟩ : Nat × Bool), rfl, ⟨rfl, rfl, rfl, rfl, rfl, trivial⟩, ⟨(show (k + 1) ≤ (prK t).length from (by omega)), (show false = isP (prK t) (2 + t) (k + 1) from (by rw [isP, ← hh10]; simp [hdv])), (show Mo w ww8 [.own 34 1 u3 ((prK t).length) (c64 (prK t))] from mm7)⟩, (show (prK t).length - (k + 1) < (prK t).length - k by omega)⟩
        · skip
          refine cz [(0, .int .i64 ((n : Nat) : Int)), (3, u3), (4, .int .u64 ((2 + t : Nat) : Int)), (5, .bool true), (6, .int .i64 ((k : Nat) : Int)), (17, .bool true)] ⟨rfl, rfl, rfl, rfl, rfl, rfl, trivial⟩ (fun _ => ?_)
          refine rp [0, 0, 0, 0, 0, 1, 1, 0, 0, 0, 0] ?_
          refine k0 (wt_none rfl _) rfl (.bool true) (fun _ _ => exec_move (.tmp 5) (.inl rfl) _ rfl) ?_
          refine k0 (wt_none rfl _) rfl (.bool true) (fun _ _ => exec_move (.tmp 20) (.inl rfl) _ rfl) ?_
          refine k0 (wt_some rfl rfl rfl rfl) rfl (.int .u64 ((2 + t : Nat) : Int)) (fun _ _ => exec_move (.tmp 4) (.inl rfl) _ rfl) ?_
          refine k0 (wt_some rfl rfl rfl rfl) rfl (u3) (fun _ _ => exec_move (.tmp 3) (.inl rfl) _ rfl) ?_
          refine k0 (wt_some rfl rfl rfl rfl) rfl (.int .i64 ((k : Nat) : Int)) (fun _ _ => exec_move (.tmp 6) (.inl rfl) _ rfl) ?_
          refine k1 (wt_some rfl rfl rfl rfl) rfl (eP u3 k) (x_ep Tryd.sw (.tmp 23) (.tmp 24) rfl (mm7.rc 0 rfl) k .i64 k (Nat.mul_one _) (by omega) rfl _ rfl rfl) ?_
          refine k1 (wt_some rfl rfl rfl rfl) rfl (.int .u64 ((at64 (prK t) k : Nat) : Int)) (x_ldp Tryd.u64' (.tmp 25) rfl (mm7.rc 0 rfl) k (by omega) _ (c64_get hk) rfl) ?_
          refine k0 (wt_some rfl rfl rfl rfl) rfl (.int .u64 (((2 + t) % (at64 (prK t) k) : Nat) : Int)) (fun _ _ => x_rem (.tmp 22) (.tmp 26) _ _ rfl (2 + t) (at64 (prK t) k) ((2 + t) % (at64 (prK t) k)) .u64 (by exact ⟨rfl, Nat.lt_of_lt_of_le (by decide) (at_two hk)⟩) rfl rfl) ?_
          refine k0 (wt_some rfl rfl rfl rfl) rfl (.bool true) (fun _ _ => x_neq_t (.tmp 27) (.const (.int .u64 0)) _ _ rfl ((2 + t) % (at64 (prK t) k)) 0 .u64 (by omega) rfl rfl) ?_
          refine k0 (wt_none rfl _) rfl (.bool true) (fun _ _ => x_pick (.tmp 21) (.tmp 28) (.const (.bool false)) rfl true _ rfl rfl) ?_
          refine k0 (wt_none rfl _) rfl (.bool true) (fun _ _ => exec_move (.tmp 29) (.inr rfl) _ rfl) ?_
          refine kend ?_
          refine ib_n ?_
          refine th_n ?_
          refine cz [(0, .int .i64 ((n : Nat) : Int)), (3, u3), (4, .int .u64 ((2 + t : Nat) : Int)), (5, .bool true), (6, .int .i64 ((k : Nat) : Int)), (17, .bool true)] ⟨rfl, rfl, rfl, rfl, rfl, rfl, trivial⟩ (fun _ => ?_)
          refine rp [0, 0, 0] ?_
          refine k0 (wt_none rfl _) rfl (.int .i64 ((k : Nat) : Int)) (fun _ _ => exec_move (.tmp 6) (.inl rfl) _ rfl) ?_
          refine k0 (wt_none rfl _) rfl (.int .i64 ((k + 1 : Nat) : Int)) (fun _ _ => x_add (.tmp 18) (.const (.int .i64 1)) _ _ rfl k 1 (k + 1) .i64 (by exact ⟨by omega, (show _ < 9223372036854775808 by omega)⟩) rfl rfl) ?_
          refine k0 (wt_none rfl _) rfl (.int .i64 ((k + 1 : Nat) : Int)) (fun _ _ => exec_move (.tmp 19) (.inr rfl) _ rfl) ?_
          refine kend ?_
          refine th_n ?_
          exact ⟨_, (⟨k + 1, true⟩ : Nat × Bool), rfl, ⟨rfl, rfl, rfl, rfl, rfl, trivial⟩, ⟨(show (k + 1) ≤ (prK t).length from (by omega)), (show true = isP (prK t) (2 + t) (k + 1) from (by rw [isP, ← hh10]; simp [hdv])), (show Mo w ww8 [.own 34 1 u3 ((prK t).length) (c64 (prK t))] from mm7)⟩, (show (prK t).length - (k + 1) < (prK t).length - k by omega)⟩
      · skip
        have hq' : q = false := by simpa using hq
        subst hq'
        by_cases hdv : (2 + t) % (at64 (prK t) k) = 0
        · skip
          refine cz [(0, .int .i64 ((n : Nat) : Int)), (3, u3), (4, .int .u64 ((2 + t : Nat) : Int)), (5, .bool false), (6, .int .i64 ((k : Nat) : Int)), (17, .bool true)] ⟨rfl, rfl, rfl, rfl, rfl, rfl, trivial⟩ (fun _ => ?_)
          refine rp [0, 0, 0, 0, 0, 0, 0, 0, 0, 0, 0] ?_
          refine k0 (wt_none rfl _) rfl (.bool false) (fun _ _ => exec_move (.tmp 5) (.inl rfl) _ rfl) ?_
          refine k0 (wt_none rfl _) rfl (.bool false) (fun _ _ => exec_move (.tmp 20) (.inl rfl) _ rfl) ?_
          refine kn (wt_not rfl rfl rfl rfl) ?_
          refine kn (wt_not rfl rfl rfl rfl) ?_
          refine kn (wt_not rfl rfl rfl rfl) ?_
          refine kn (wt_not rfl rfl rfl rfl) ?_
          refine kn (wt_not rfl rfl rfl rfl) ?_
          refine kn (wt_not rfl rfl rfl rfl) ?_
          refine kn (wt_not rfl rfl rfl rfl) ?_
          refine k0 (wt_none rfl _) rfl (.bool false) (fun _ _ => x_pick (.tmp 21) (.tmp 28) (.const (.bool false)) rfl false _ rfl rfl) ?_
          refine k0 (wt_none rfl _) rfl (.bool false) (fun _ _ => exec_move (.tmp 29) (.inr rfl) _ rfl) ?_
          refine kend ?_
          refine ib_n ?_
          refine th_n ?_
          refine cz [(0, .int .i64 ((n : Nat) : Int)), (3, u3), (4, .int .u64 ((2 + t : Nat) : Int)), (5, .bool false), (6, .int .i64 ((k : Nat) : Int)), (17, .bool true)] ⟨rfl, rfl, rfl, rfl, rfl, rfl, trivial⟩ (fun _ => ?_)
          refine rp [0, 0, 0] ?_
          refine k0 (wt_none rfl _) rfl (.int .i64 ((k : Nat) : Int)) (fun _ _ => exec_move (.tmp 6) (.inl rfl) _ rfl) ?_
          refine k0 (wt_none rfl _) rfl (.int .i64 ((k + 1 : Nat) : Int)) (fun _ _ => x_add (.tmp 18) (.const (.int .i64 1)) _ _ rfl k 1 (k + 1) .i64 (by exact ⟨by omega, (show _ < 9223372036854775808 by omega)⟩) rfl rfl) ?_
          refine k0 (wt_none rfl _) rfl (.int .i64 ((k + 1 : Nat) : Int)) (fun _ _ => exec_move (.tmp 19) (.inr rfl) _ rfl) ?_
          refine kend ?_
          refine th_n ?_
          exact ⟨_, (⟨k + 1, false⟩ : Nat × Bool), rfl, ⟨rfl, rfl, rfl, rfl, rfl, trivial⟩, ⟨(show (k + 1) ≤ (prK t).length from (by omega)), (show false = isP (prK t) (2 + t) (k + 1) from (by rw [isP, ← hh10]; simp)), (show Mo w ww8 [.own 34 1 u3 ((prK t).length) (c64 (prK t))] from mm7)⟩, (show (prK t).length - (k + 1) < (prK t).length - k by omega)⟩
        · skip
          refine cz [(0, .int .i64 ((n : Nat) : Int)), (3, u3), (4, .int .u64 ((2 + t : Nat) : Int)), (5, .bool false), (6, .int .i64 ((k : Nat) : Int)), (17, .bool true)] ⟨rfl, rfl, rfl, rfl, rfl, rfl, trivial⟩ (fun _ => ?_)
          refine rp [0, 0, 0, 0, 0, 0, 0, 0, 0, 0, 0] ?_
          refine k0 (wt_none rfl _) rfl (.bool false) (fun _ _ => exec_move (.tmp 5) (.inl rfl) _ rfl) ?_
          refine k0 (wt_none rfl _) rfl (.bool false) (fun _ _ => exec_move (.tmp 20) (.inl rfl) _ rfl) ?_
          refine kn (wt_not rfl rfl rfl rfl) ?_
          refine kn (wt_not rfl rfl rfl rfl) ?_
          refine kn (wt_not rfl rfl rfl rfl) ?_
          refine kn (wt_not rfl rfl rfl rfl) ?_
          refine kn (wt_not rfl rfl rfl rfl) ?_
          refine kn (wt_not rfl rfl rfl rfl) ?_
          refine kn (wt_not rfl rfl rfl rfl) ?_
          refine k0 (wt_none rfl _) rfl (.bool false) (fun _ _ => x_pick (.tmp 21) (.tmp 28) (.const (.bool false)) rfl false _ rfl rfl) ?_
          refine k0 (wt_none rfl _) rfl (.bool false) (fun _ _ => exec_move (.tmp 29) (.inr rfl) _ rfl) ?_
          refine kend ?_
          refine ib_n ?_
          refine th_n ?_
          refine cz [(0, .int .i64 ((n : Nat) : Int)), (3, u3), (4, .int .u64 ((2 + t : Nat) : Int)), (5, .bool false), (6, .int .i64 ((k : Nat) : Int)), (17, .bool true)] ⟨rfl, rfl, rfl, rfl, rfl, rfl, trivial⟩ (fun _ => ?_)
          refine rp [0, 0, 0] ?_
          refine k0 (wt_none rfl _) rfl (.int .i64 ((k : Nat) : Int)) (fun _ _ => exec_move (.tmp 6) (.inl rfl) _ rfl) ?_
          refine k0 (wt_none rfl _) rfl (.int .i64 ((k + 1 : Nat) : Int)) (fun _ _ => x_add (.tmp 18) (.const (.int .i64 1)) _ _ rfl k 1 (k + 1) .i64 (by exact ⟨by omega, (show _ < 9223372036854775808 by omega)⟩) rfl rfl) ?_
          refine k0 (wt_none rfl _) rfl (.int .i64 ((k + 1 : Nat) : Int)) (fun _ _ => exec_move (.tmp 19) (.inr rfl) _ rfl) ?_
          refine kend ?_
          refine th_n ?_
          exact ⟨_, (⟨k + 1, false⟩ : Nat × Bool), rfl, ⟨rfl, rfl, rfl, rfl, rfl, trivial⟩, ⟨(show (k + 1) ≤ (prK t).length from (by omega)), (show false = isP (prK t) (2 + t) (k + 1) from (by rw [isP, ← hh10]; simp)), (show Mo w ww8 [.own 34 1 u3 ((prK t).length) (c64 (prK t))] from mm7)⟩, (show (prK t).length - (k + 1) < (prK t).length - k by omega)⟩
    · -- behind the loop
      obtain rfl : k = (prK t).length := by omega
      refine sq ?_
      refine sq ?_
      refine cz [(0, .int .i64 ((n : Nat) : Int)), (3, u3), (4, .int .u64 ((2 + t : Nat) : Int)), (5, .bool q), (6, .int .i64 (((prK t).length : Nat) : Int))] ⟨rfl, rfl, rfl, rfl, rfl, trivial⟩ (fun _ => ?_)
      refine rp [0, 0, 1, 0] ?_
      refine k0 (wt_none rfl _) rfl (.int .i64 (((prK t).length : Nat) : Int)) (fun _ _ => exec_move (.tmp 6) (.inl rfl) _ rfl) ?_
      refine k0 (wt_none rfl _) rfl (u3) (fun _ _ => exec_move (.tmp 3) (.inl rfl) _ rfl) ?_
      refine k1 (wt_none rfl _) rfl (.int .i64 (((prK t).length : Nat) : Int)) (x_len Tryd.sw.sl (.tmp 15) rfl (mm7.rc 0 rfl) rfl) ?_
      refine k0 (wt_none rfl _) rfl (.bool false) (fun _ _ => x_lss_f (.tmp 14) (.tmp 16) _ _ rfl ((prK t).length) ((prK t).length) .i64 (by omega) rfl rfl) ?_
      refine kend ?_
      refine th_n ?_
      refine cdf rfl ?_
      refine ex ?_
      refine th_x ?_
      refine th_x ?_
      refine ib_x ?_
      refine th_n ?_
      refine sq ?_
      by_cases hq : q = true
      · skip
        subst hq
        refine cz [(0, .int .i64 ((n : Nat) : Int)), (3, u3), (4, .int .u64 ((2 + t : Nat) : Int)), (5, .bool true), (6, .int .i64 (((prK t).length : Nat) : Int)), (17, .bool false)] ⟨rfl, rfl, rfl, rfl, rfl, rfl, trivial⟩ (fun _ => ?_)
        refine rp [0] ?_
        refine k0 (wt_none rfl _) rfl (.bool true) (fun _ _ => exec_move (.tmp 5) (.inl rfl) _ rfl) ?_
        refine kend ?_
        refine th_n ?_
        refine cdt rfl ?_
        refine cz [(0, .int .i64 ((n : Nat) : Int)), (3, u3), (4, .int .u64 ((2 + t : Nat) : Int)), (5, .bool true), (6, .int .i64 (((prK t).length : Nat) : Int)), (17, .bool false), (30, .bool true)] ⟨rfl, rfl, rfl, rfl, rfl, rfl, rfl, trivial⟩ (fun _ => ?_)
        refine rp [0, 0, 2, 2, 0] ?_
        refine k0 (wt_none rfl _) rfl (u3) (fun _ _ => exec_move (.tmp 3) (.inl rfl) _ rfl) ?_
        refine k0 (wt_none rfl _) rfl (.int .u64 ((2 + t : Nat) : Int)) (fun _ _ => exec_move (.tmp 4) (.inl rfl) _ rfl) ?_
        refine k2 (wt_none rfl _) rfl (x_bld Tryd.sw 1 _ rfl mm7 (c64 [2 + t]) (c64 [2 + t]) rfl (by decide) (one_size (cells_oc64 _)) (one_flat (cells_oc64 _)) rfl) ?_
        rintro vv11 ww12 mm13
        refine ⟨trivial, ?_⟩
        refine k2 (wt_none rfl _) rfl (x_app Tryd.sw (.tmp 31) (.tmp 33) rfl mm13 1 rfl rfl (mm13.rc 0 rfl) rfl (c64_one _) (by omega) rfl) ?_
        rintro vv14 ww15 mm16
        have mm17 : Mo w ww15 [.own 34 1 vv11 1 (c64 ([2 + t])), .own 34 1 vv14 (((prK t).length) + 1) (c64 ((prK t) ++ ([2 + t])))] := (by have h := mm16; rw [← c64_append] at h; exact h)
        refine ⟨trivial, ?_⟩
        refine k0 (wt_none rfl _) rfl (vv14) (fun _ _ => exec_move (.tmp 34) (.inr rfl) _ rfl) ?_
        refine kend ?_
        refine ib_n ?_
        refine th_n ?_
        refine cz [(0, .int .i64 ((n : Nat) : Int)), (3, vv14), (4, .int .u64 ((2 + t : Nat) : Int)), (5, .bool true), (6, .int .i64 (((prK t).length : Nat) : Int)), (17, .bool false), (30, .bool true)] ⟨rfl, rfl, rfl, rfl, rfl, rfl, rfl, trivial⟩ (fun _ => ?_)
        refine rp [0, 0, 0] ?_
        refine k0 (wt_none rfl _) rfl (.int .u64 ((2 + t : Nat) : Int)) (fun _ _ => exec_move (.tmp 4) (.inl rfl) _ rfl) ?_
        refine k0 (wt_none rfl _) rfl (.int .u64 ((2 + (t + 1) : Nat) : Int)) (fun _ _ => x_add (.tmp 12) (.const (.int .u64 1)) _ _ rfl (2 + t) 1 (2 + (t + 1)) .u64 (by exact ⟨by omega, (show _ < 18446744073709551616 by omega)⟩) rfl rfl) ?_
        refine k0 (wt_none rfl _) rfl (.int .u64 ((2 + (t + 1) : Nat) : Int)) (fun _ _ => exec_move (.tmp 13) (.inr rfl) _ rfl) ?_
        refine kend ?_
        refine th_n ?_
        have e1 : prK (t + 1) = prK t ++ [2 + t] := by rw [prK, if_pos (by rw [← hh10])]
        have e2 : (prK (t + 1)).length = (prK t).length + 1 := by rw [e1]; simp
        have mm18 : Mo w ww15 [.own 34 1 vv11 1 (c64 ([2 + t])), .own 34 1 vv14 ((prK (t + 1)).length) (c64 (prK (t + 1)))] := (by rw [e2, e1]; exact mm17)
        exact ⟨_, (⟨t + 1, vv14⟩ : Nat × Value), rfl, ⟨rfl, rfl, rfl, trivial⟩, ⟨(show ∀ j, j < (t + 1) → (prK j).length < n from (pr_step hh6 hlt)), (show Mo w ww15 [.own 34 1 vv14 ((prK (t + 1)).length) (c64 (prK (t + 1)))] from mm18.pick [1] (by decide) ⟨rfl, trivial⟩)⟩, (show 310 - (t + 1) < 310 - t by omega)⟩
      · skip
        have hq' : q = false := by simpa using hq
        subst hq'
        refine cz [(0, .int .i64 ((n : Nat) : Int)), (3, u3), (4, .int .u64 ((2 + t : Nat) : Int)), (5, .bool false), (6, .int .i64 (((prK t).length : Nat) : Int)), (17, .bool false)] ⟨rfl, rfl, rfl, rfl, rfl, rfl, trivial⟩ (fun _ => ?_)
        refine rp [0] ?_
        refine k0 (wt_none rfl _) rfl (.bool false) (fun _ _ => exec_move (.tmp 5) (.inl rfl) _ rfl) ?_
        refine kend ?_
        refine th_n ?_
        refine cdf rfl ?_
        refine sk ?_
        refine ib_n ?_
        refine th_n ?_
        refine cz [(0, .int .i64 ((n : Nat) : Int)), (3, u3), (4, .int .u64 ((2 + t : Nat) : Int)), (5, .bool false), (6, .int .i64 (((prK t).length : Nat) : Int)), (17, .bool false), (30, .bool false)] ⟨rfl, rfl, rfl, rfl, rfl, rfl, rfl, trivial⟩ (fun _ => ?_)
        refine rp [0, 0, 0] ?_
        refine k0 (wt_none rfl _) rfl (.int .u64 ((2 + t : Nat) : Int)) (fun _ _ => exec_move (.tmp 4) (.inl rfl) _ rfl) ?_
        refine k0 (wt_none rfl _) rfl (.int .u64 ((2 + (t + 1) : Nat) : Int)) (fun _ _ => x_add (.tmp 12) (.const (.int .u64 1)) _ _ rfl (2 + t) 1 (2 + (t + 1)) .u64 (by exact ⟨by omega, (show _ < 18446744073709551616 by omega)⟩) rfl rfl) ?_
        refine k0 (wt_none rfl _) rfl (.int .u64 ((2 + (t + 1) : Nat) : Int)) (fun _ _ => exec_move (.tmp 13) (.inr rfl) _ rfl) ?_
        refine kend ?_
        refine th_n ?_
        have e1 : prK (t + 1) = prK t := by rw [prK, if_neg (by rw [← hh10]; decide)]
        have mm19 : Mo w ww8 [.own 34 1 u3 ((prK (t + 1)).length) (c64 (prK (t + 1)))] := (by rw [e1]; exact mm7)
        exact ⟨_, (⟨t + 1, u3⟩ : Nat × Value), rfl, ⟨rfl, rfl, rfl, trivial⟩, ⟨(show ∀ j, j < (t + 1) → (prK j).length < n from (pr_step hh6 hlt)), (show Mo w ww8 [.own 34 1 u3 ((prK (t + 1)).length) (c64 (prK (t + 1)))] from mm19)⟩, (show 310 - (t + 1) < 310 - t by omega)⟩
  · -- behind the loop
    refine sq ?_
    refine sq ?_
    refine cz [(0, .int .i64 ((n : Nat) : Int)), (3, u3), (4, .int .u64 ((2 + t : Nat) : Int))] ⟨rfl, rfl, rfl, trivial⟩ (fun _ => ?_)
    refine rp [0, 1, 0, 0] ?_
    refine k0 (wt_none rfl _) rfl (u3) (fun _ _ => exec_move (.tmp 3) (.inl rfl) _ rfl) ?_
    refine k1 (wt_none rfl _) rfl (.int .i64 (((prK t).length : Nat) : Int)) (x_len Tryd.sw.sl (.tmp 8) rfl (mm4.rc 0 rfl) rfl) ?_
    refine k0 (wt_none rfl _) rfl (.int .i64 ((n : Nat) : Int)) (fun _ _ => exec_move (.tmp 0) (.inl rfl) _ rfl) ?_
    refine k0 (wt_none rfl _) rfl (.bool false) (fun _ _ => x_lss_f (.tmp 9) (.tmp 10) _ _ rfl ((prK t).length) n .i64 (by omega) rfl rfl) ?_
    refine kend ?_
    refine th_n ?_
    refine cdf rfl ?_
    refine ex ?_
    refine th_x ?_
    refine th_x ?_
    refine ib_x ?_
    refine th_n ?_
    refine sq ?_
    refine cz [(0, .int .i64 ((n : Nat) : Int)), (3, u3), (4, .int .u64 ((2 + t : Nat) : Int)), (11, .bool false)] ⟨rfl, rfl, rfl, rfl, trivial⟩ (fun _ => ?_)
    refine rp [0, 0] ?_
    refine k0 (wt_none rfl _) rfl (u3) (fun _ _ => exec_move (.tmp 3) (.inl rfl) _ rfl) ?_
    refine k0 (wt_none rfl _) rfl (u3) (fun _ _ => exec_move (.tmp 35) (.inr rfl) _ rfl) ?_
    refine kend ?_
    refine th_n ?_
    refine re ?_
    refine rt1 rfl ?_
    have et := pr_top hn hh6 hlt
    have en := pr_len hn
    rw [← et] at en
    rw [← et]
    refine ⟨u3, rfl, ?_⟩
    have h : Mo w ww5 _ := mm4
    rw [en] at h
    exact h

set_option maxHeartbeats 1000000 in
theorem steps_reckoned (w : World) :
    Calls Tryd.prog 30 #[] w fun e w' => ∃ v', e = .returned v' ∧ Mo w w' [.own 38 1 v' 64 (c32 stepsL)] := by
  have hR : rtsK (prK 310) true 64 = stepsL := steps_roots
  have hL : (prK 310).length = 64 := pr64.2
  have hP : ∀ w, Calls Tryd.prog 35 #[.int .i64 64] w fun e w' => ∃ v', e = .returned v' ∧ Mo w w' [.own 34 1 v' 64 (c64 (prK 310))] := fun w => by
    have h := primes_doc 64 w (.inr rfl)
    rw [show topP 64 = 310 from rfl] at h
    exact h
  generalize prK 310 = L at hR hL hP
  have m0 := Mo.start w
  refine enter [] 19 Tryd.func30 rfl Tryd.ntmps30 (Nat.le_of_ble_eq_true rfl) ?_
  refine sq ?_
  refine cz [] trivial (fun _ => ?_)
  refine rp [0] ?_
  refine k0 (wt_none rfl _) rfl (.slice none 0 0) (fun _ _ => exec_move (.const (.slice none 0 0)) (.inr rfl) _ rfl) ?_
  refine kend ?_
  refine th_n ?_
  refine sq ?_
  refine cz [(0, .slice none 0 0)] ⟨rfl, trivial⟩ (fun _ => ?_)
  refine rp [2, 0] ?_
  refine kc (wt_none rfl _) rfl (x_cl1 (v0 := .int .i64 64) rfl rfl (by kernel_rfl)) (hP _) ?_
  rintro _ ww1 ⟨vv3, rfl, mm2⟩
  have mm4 : Mo w ww1 [.own 34 1 vv3 64 (c64 L)] := m0.join mm2
  refine ⟨_, rfl, trivial, ?_⟩
  refine k0 (wt_none rfl _) rfl (vv3) (fun _ _ => exec_move (.tmp 4) (.inr rfl) _ rfl) ?_
  refine kend ?_
  refine th_n ?_
  refine sq ?_
  refine cz [(0, .slice none 0 0), (1, vv3)] ⟨rfl, rfl, trivial⟩ (fun _ => ?_)
  refine rp [2, 0] ?_
  refine k2 (wt_none rfl _) rfl (x_bld Tryd.sn 0 _ rfl mm4 [] [] rfl (by decide) (fun _ h => absurd h List.not_mem_nil) rfl rfl) ?_
  rintro vv5 ww6 mm7
  refine ⟨trivial, ?_⟩
  refine k0 (wt_none rfl _) rfl (vv5) (fun _ _ => exec_move (.tmp 5) (.inr rfl) _ rfl) ?_
  refine kend ?_
  refine th_n ?_
  refine sq ?_
  refine sq ?_
  refine cz [(0, .slice none 0 0), (1, vv3), (2, vv5)] ⟨rfl, rfl, rfl, trivial⟩ (fun _ => ?_)
  refine rp [0] ?_
  refine k0 (wt_none rfl _) rfl (.int .i64 0) (fun _ _ => exec_move (.const (.int .i64 0)) (.inr rfl) _ rfl) ?_
  refine kend ?_
  refine th_n ?_
  refine bk ?_
  refine lp (fun (xs : Nat × Value × Value) => [(1, xs.2.1), (2, xs.2.2), (3, .int .i64 ((xs.1 : Nat) : Int))]) (fun (xs : Nat × Value × Value) w1 => (xs.1 ≤ 64) ∧ Mo w w1 [.own 38 1 xs.2.2 xs.1 (c32 (rtsK L true xs.1)), .own 34 1 xs.2.1 64 (c64 L)]) (fun (xs : Nat × Value × Value) => 64 - xs.1) (⟨0, vv3, vv5⟩) ⟨rfl, rfl, rfl, trivial⟩ ⟨(show 0 ≤ 64 from (Nat.zero_le _)), (show Mo w ww6 [.own 38 1 vv5 0 (c32 (rtsK L true 0)), .own 34 1 vv3 64 (c64 L)] from mm7)⟩ ?_
  rintro ⟨i, u1, u2⟩ _ ww9 ⟨hh10, mm8⟩
  replace hh10 : i ≤ 64 := hh10
  replace mm8 : Mo w ww9 [.own 38 1 u2 i (c32 (rtsK L true i)), .own 34 1 u1 64 (c64 L)] := mm8
  refine cz [(1, u1), (2, u2), (3, .int .i64 ((i : Nat) : Int))] ⟨rfl, rfl, rfl, trivial⟩ (fun _ => ?_)
  by_cases hlt : i < 64
  · -- round
    refine sq ?_
    refine sq ?_
    refine cz [(1, u1), (2, u2), (3, .int .i64 ((i : Nat) : Int))] ⟨rfl, rfl, rfl, trivial⟩ (fun _ => ?_)
    refine rp [0, 0] ?_
    refine k0 (wt_none rfl _) rfl (.int .i64 ((i : Nat) : Int)) (fun _ _ => exec_move (.tmp 3) (.inl rfl) _ rfl) ?_
    refine k0 (wt_none rfl _) rfl (.bool true) (fun _ _ => x_lss_t (.tmp 6) (.const (.int .i64 64)) _ _ rfl i 64 .i64 (by omega) rfl rfl) ?_
    refine kend ?_
    refine th_n ?_
    refine cdt rfl ?_
    refine sk ?_
    refine th_n ?_
    refine sq ?_
    refine bk ?_
    refine cz [(1, u1), (2, u2), (3, .int .i64 ((i : Nat) : Int)), (7, .bool true)] ⟨rfl, rfl, rfl, rfl, trivial⟩ (fun _ => ?_)
    refine rp [0, 0, 0, 1, 1, 2, 2, 2, 0] ?_
    refine k0 (wt_none rfl _) rfl (u2) (fun _ _ => exec_move (.tmp 2) (.inl rfl) _ rfl) ?_
    refine k0 (wt_none rfl _) rfl (u1) (fun _ _ => exec_move (.tmp 1) (.inl rfl) _ rfl) ?_
    refine k0 (wt_none rfl _) rfl (.int .i64 ((i : Nat) : Int)) (fun _ _ => exec_move (.tmp 3) (.inl rfl) _ rfl) ?_
    refine k1 (wt_none rfl _) rfl (eP u1 i) (x_ep Tryd.sw (.tmp 11) (.tmp 12) rfl (mm8.rc 1 rfl) i .i64 i (Nat.mul_one _) (by omega) rfl _ rfl rfl) ?_
    refine k1 (wt_none rfl _) rfl (.int .u64 ((at64 L i : Nat) : Int)) (x_ldp Tryd.u64' (.tmp 13) rfl (mm8.rc 1 rfl) i (by omega) _ (c64_get (by rw [hL]; omega)) rfl) ?_
    refine kc (wt_none rfl _) rfl (x_cl2 (v0 := .int .u64 ((at64 L i : Nat) : Int)) (v1 := .bool true) rfl rfl rfl (by kernel_rfl)) (root_true (at64 L i) _) ?_
    rintro _ ww11 ⟨rfl, mm12⟩
    have mm13 : Mo w ww11 [.own 38 1 u2 i (c32 (rtsK L true i)), .own 34 1 u1 64 (c64 L)] := mm8.gr mm12
    refine ⟨_, rfl, trivial, ?_⟩
    refine k2 (wt_none rfl _) rfl (x_bld Tryd.sn 1 _ rfl mm13 (c32 [rt (at64 L i) true]) (c32 [rt (at64 L i) true]) rfl (by decide) (one_size (cells_oc32 _)) (one_flat (cells_oc32 _)) rfl) ?_
    rintro vv14 ww15 mm16
    refine ⟨trivial, ?_⟩
    refine k2 (wt_none rfl _) rfl (x_app Tryd.sn (.tmp 10) (.tmp 16) rfl mm16 1 rfl rfl (mm16.rc 0 rfl) rfl (c32_one _) (by omega) rfl) ?_
    rintro vv17 ww18 mm19
    have mm20 : Mo w ww18 [.own 38 1 vv14 1 (c32 ([rt (at64 L i) true])), .own 38 1 vv17 (i + 1) (c32 (rtsK L true (i + 1))), .own 34 1 u1 64 (c64 L)] := (by have h := mm19; rw [← c32_append, (show (rtsK L true i) ++ ([rt (at64 L i) true]) = rtsK L true (i + 1) by rfl)] at h; exact h)
    refine ⟨trivial, ?_⟩
    refine k0 (wt_none rfl _) rfl (vv17) (fun _ _ => exec_move (.tmp 17) (.inr rfl) _ rfl) ?_
    refine kend ?_
    refine ib_n ?_
    refine th_n ?_
    refine cz [(1, u1), (2, vv17), (3, .int .i64 ((i : Nat) : Int)), (7, .bool true)] ⟨rfl, rfl, rfl, rfl, trivial⟩ (fun _ => ?_)
    refine rp [0, 0, 0] ?_
    refine k0 (wt_none rfl _) rfl (.int .i64 ((i : Nat) : Int)) (fun _ _ => exec_move (.tmp 3) (.inl rfl) _ rfl) ?_
    refine k0 (wt_none rfl _) rfl (.int .i64 ((i + 1 : Nat) : Int)) (fun _ _ => x_add (.tmp 8) (.const (.int .i64 1)) _ _ rfl i 1 (i + 1) .i64 (by exact ⟨by omega, (show _ < 9223372036854775808 by omega)⟩) rfl rfl) ?_
    refine k0 (wt_none rfl _) rfl (.int .i64 ((i + 1 : Nat) : Int)) (fun _ _ => exec_move (.tmp 9) (.inr rfl) _ rfl) ?_
    refine kend ?_
    refine th_n ?_
    exact ⟨_, (⟨i + 1, u1, vv17⟩ : Nat × Value × Value), rfl, ⟨rfl, rfl, rfl, trivial⟩, ⟨(show (i + 1) ≤ 64 from (by omega)), (show Mo w ww18 [.own 38 1 vv17 (i + 1) (c32 (rtsK L true (i + 1))), .own 34 1 u1 64 (c64 L)] from mm20.pick [1, 2] (by decide) ⟨rfl, rfl, trivial⟩)⟩, (show 64 - (i + 1) < 64 - i by omega)⟩
  · -- behind the loop
    obtain rfl : i = 64 := by omega
    refine sq ?_
    refine sq ?_
    refine cz [(1, u1), (2, u2), (3, .int .i64 64)] ⟨rfl, rfl, rfl, trivial⟩ (fun _ => ?_)
    refine rp [0, 0] ?_
    refine k0 (wt_none rfl _) rfl (.int .i64 64) (fun _ _ => exec_move (.tmp 3) (.inl rfl) _ rfl) ?_
    refine k0 (wt_none rfl _) rfl (.bool false) (fun _ _ => x_lss_f (.tmp 6) (.const (.int .i64 64)) _ _ rfl 64 64 .i64 (by omega) rfl rfl) ?_
    refine kend ?_
    refine th_n ?_
    refine cdf rfl ?_
    refine ex ?_
    refine th_x ?_
    refine th_x ?_
    refine ib_x ?_
    refine th_n ?_
    refine sq ?_
    refine cz [(1, u1), (2, u2), (3, .int .i64 64), (7, .bool false)] ⟨rfl, rfl, rfl, rfl, trivial⟩ (fun _ => ?_)
    refine rp [0, 0] ?_
    refine k0 (wt_none rfl _) rfl (u2) (fun _ _ => exec_move (.tmp 2) (.inl rfl) _ rfl) ?_
    refine k0 (wt_none rfl _) rfl (u2) (fun _ _ => exec_move (.tmp 18) (.inr rfl) _ rfl) ?_
    refine kend ?_
    refine th_n ?_
    refine re ?_
    refine rt1 rfl ?_
    have h : Mo w ww9 [.own 38 1 u2 64 (c32 (rtsK L true 64))] := mm8.pick [0] (by decide) ⟨rfl, trivial⟩
    rw [hR] at h
    exact ⟨u2, rfl, h⟩

set_option maxHeartbeats 1000000 in
theorem firsts_reckoned (w : World) :
    Calls Tryd.prog 31 #[] w fun e w' => ∃ v', e = .returned v' ∧ Mo w w' [.own 38 1 v' 8 (c32 firstL)] := by
  have hR : rtsK (prK 18) false 8 = firstL := firsts_roots
  have hL : (prK 18).length = 8 := pr8.2
  have hP : ∀ w, Calls Tryd.prog 35 #[.int .i64 8] w fun e w' => ∃ v', e = .returned v' ∧ Mo w w' [.own 34 1 v' 8 (c64 (prK 18))] := fun w => by
    have h := primes_doc 8 w (.inl rfl)
    rw [show topP 8 = 18 from rfl] at h
    exact h
  generalize prK 18 = L at hR hL hP
  have m0 := Mo.start w
  refine enter [] 19 Tryd.func31 rfl Tryd.ntmps31 (Nat.le_of_ble_eq_true rfl) ?_
  refine sq ?_
  refine cz [] trivial (fun _ => ?_)
  refine rp [0] ?_
  refine k0 (wt_none rfl _) rfl (.slice none 0 0) (fun _ _ => exec_move (.const (.slice none 0 0)) (.inr rfl) _ rfl) ?_
  refine kend ?_
  refine th_n ?_
  refine sq ?_
  refine cz [(0, .slice none 0 0)] ⟨rfl, trivial⟩ (fun _ => ?_)
  refine rp [2, 0] ?_
  refine kc (wt_none rfl _) rfl (x_cl1 (v0 := .int .i64 8) rfl rfl (by kernel_rfl)) (hP _) ?_
  rintro _ ww1 ⟨vv3, rfl, mm2⟩
  have mm4 : Mo w ww1 [.own 34 1 vv3 8 (c64 L)] := m0.join mm2
  refine ⟨_, rfl, trivial, ?_⟩
  refine k0 (wt_none rfl _) rfl (vv3) (fun _ _ => exec_move (.tmp 4) (.inr rfl) _ rfl) ?_
  refine kend ?_
  refine th_n ?_
  refine sq ?_
  refine cz [(0, .slice none 0 0), (1, vv3)] ⟨rfl, rfl, trivial⟩ (fun _ => ?_)
  refine rp [2, 0] ?_
  refine k2 (wt_none rfl _) rfl (x_bld Tryd.sn 0 _ rfl mm4 [] [] rfl (by decide) (fun _ h => absurd h List.not_mem_nil) rfl rfl) ?_
  rintro vv5 ww6 mm7
  refine ⟨trivial, ?_⟩
  refine k0 (wt_none rfl _) rfl (vv5) (fun _ _ => exec_move (.tmp 5) (.inr rfl) _ rfl) ?_
  refine kend ?_
  refine th_n ?_
  refine sq ?_
  refine sq ?_
  refine cz [(0, .slice none 0 0), (1, vv3), (2, vv5)] ⟨rfl, rfl, rfl, trivial⟩ (fun _ => ?_)
  refine rp [0] ?_
  refine k0 (wt_none rfl _) rfl (.int .i64 0) (fun _ _ => exec_move (.const (.int .i64 0)) (.inr rfl) _ rfl) ?_
  refine kend ?_
  refine th_n ?_
  refine bk ?_
  refine lp (fun (xs : Nat × Value × Value) => [(1, xs.2.1), (2, xs.2.2), (3, .int .i64 ((xs.1 : Nat) : Int))]) (fun (xs : Nat × Value × Value) w1 => (xs.1 ≤ 8) ∧ Mo w w1 [.own 38 1 xs.2.2 xs.1 (c32 (rtsK L false xs.1)), .own 34 1 xs.2.1 8 (c64 L)]) (fun (xs : Nat × Value × Value) => 8 - xs.1) (⟨0, vv3, vv5⟩) ⟨rfl, rfl, rfl, trivial⟩ ⟨(show 0 ≤ 8 from (Nat.zero_le _)), (show Mo w ww6 [.own 38 1 vv5 0 (c32 (rtsK L false 0)), .own 34 1 vv3 8 (c64 L)] from mm7)⟩ ?_
  rintro ⟨i, u1, u2⟩ _ ww9 ⟨hh10, mm8⟩
  replace hh10 : i ≤ 8 := hh10
  replace mm8 : Mo w ww9 [.own 38 1 u2 i (c32 (rtsK L false i)), .own 34 1 u1 8 (c64 L)] := mm8
  refine cz [(1, u1), (2, u2), (3, .int .i64 ((i : Nat) : Int))] ⟨rfl, rfl, rfl, trivial⟩ (fun _ => ?_)
  by_cases hlt : i < 8
  · -- round
    refine sq ?_
    refine sq ?_
    refine cz [(1, u1), (2, u2), (3, .int .i64 ((i : Nat) : Int))] ⟨rfl, rfl, rfl, trivial⟩ (fun _ => ?_)
    refine rp [0, 0] ?_
    refine k0 (wt_none rfl _) rfl (.int .i64 ((i : Nat) : Int)) (fun _ _ => exec_move (.tmp 3) (.inl rfl) _ rfl) ?_
    refine k0 (wt_none rfl _) rfl (.bool true) (fun _ _ => x_lss_t (.tmp 6) (.const (.int .i64 8)) _ _ rfl i 8 .i64 (by omega) rfl rfl) ?_
    refine kend ?_
    refine th_n ?_
    refine cdt rfl ?_
    refine sk ?_
    refine th_n ?_
    refine sq ?_
    refine bk ?_
    refine cz [(1, u1), (2, u2), (3, .int .i64 ((i : Nat) : Int)), (7, .bool true)] ⟨rfl, rfl, rfl, rfl, trivial⟩ (fun _ => ?_)
    refine rp [0, 0, 0, 1, 1, 2, 2, 2, 0] ?_
    refine k0 (wt_none rfl _) rfl (u2) (fun _ _ => exec_move (.tmp 2) (.inl rfl) _ rfl) ?_
    refine k0 (wt_none rfl _) rfl (u1) (fun _ _ => exec_move (.tmp 1) (.inl rfl) _ rfl) ?_
    refine k0 (wt_none rfl _) rfl (.int .i64 ((i : Nat) : Int)) (fun _ _ => exec_move (.tmp 3) (.inl rfl) _ rfl) ?_
    refine k1 (wt_none rfl _) rfl (eP u1 i) (x_ep Tryd.sw (.tmp 11) (.tmp 12) rfl (mm8.rc 1 rfl) i .i64 i (Nat.mul_one _) (by omega) rfl _ rfl rfl) ?_
    refine k1 (wt_none rfl _) rfl (.int .u64 ((at64 L i : Nat) : Int)) (x_ldp Tryd.u64' (.tmp 13) rfl (mm8.rc 1 rfl) i (by omega) _ (c64_get (by rw [hL]; omega)) rfl) ?_
    refine kc (wt_none rfl _) rfl (x_cl2 (v0 := .int .u64 ((at64 L i : Nat) : Int)) (v1 := .bool false) rfl rfl rfl (by kernel_rfl)) (root_false (at64 L i) _) ?_
    rintro _ ww11 ⟨rfl, mm12⟩
    have mm13 : Mo w ww11 [.own 38 1 u2 i (c32 (rtsK L false i)), .own 34 1 u1 8 (c64 L)] := mm8.gr mm12
    refine ⟨_, rfl, trivial, ?_⟩
    refine k2 (wt_none rfl _) rfl (x_bld Tryd.sn 1 _ rfl mm13 (c32 [rt (at64 L i) false]) (c32 [rt (at64 L i) false]) rfl (by decide) (one_size (cells_oc32 _)) (one_flat (cells_oc32 _)) rfl) ?_
    rintro vv14 ww15 mm16
    refine ⟨trivial, ?_⟩
    refine k2 (wt_none rfl _) rfl (x_app Tryd.sn (.tmp 10) (.tmp 16) rfl mm16 1 rfl rfl (mm16.rc 0 rfl) rfl (c32_one _) (by omega) rfl) ?_
    rintro vv17 ww18 mm19
    have mm20 : Mo w ww18 [.own 38 1 vv14 1 (c32 ([rt (at64 L i) false])), .own 38 1 vv17 (i + 1) (c32 (rtsK L false (i + 1))), .own 34 1 u1 8 (c64 L)] := (by have h := mm19; rw [← c32_append, (show (rtsK L false i) ++ ([rt (at64 L i) false]) = rtsK L false (i + 1) by rfl)] at h; exact h)
    refine ⟨trivial, ?_⟩
    refine k0 (wt_none rfl _) rfl (vv17) (fun _ _ => exec_move (.tmp 17) (.inr rfl) _ rfl) ?_
    refine kend ?_
    refine ib_n ?_
    refine th_n ?_
    refine cz [(1, u1), (2, vv17), (3, .int .i64 ((i : Nat) : Int)), (7, .bool true)] ⟨rfl, rfl, rfl, rfl, trivial⟩ (fun _ => ?_)
    refine rp [0, 0, 0] ?_
    refine k0 (wt_none rfl _) rfl (.int .i64 ((i : Nat) : Int)) (fun _ _ => exec_move (.tmp 3) (.inl rfl) _ rfl) ?_
    refine k0 (wt_none rfl _) rfl (.int .i64 ((i + 1 : Nat) : Int)) (fun _ _ => x_add (.tmp 8) (.const (.int .i64 1)) _ _ rfl i 1 (i + 1) .i64 (by exact ⟨by omega, (show _ < 9223372036854775808 by omega)⟩) rfl rfl) ?_
    refine k0 (wt_none rfl _) rfl (.int .i64 ((i + 1 : Nat) : Int)) (fun _ _ => exec_move (.tmp 9) (.inr rfl) _ rfl) ?_
    refine kend ?_
    refine th_n ?_
    exact ⟨_, (⟨i + 1, u1, vv17⟩ : Nat × Value × Value), rfl, ⟨rfl, rfl, rfl, trivial⟩, ⟨(show (i + 1) ≤ 8 from (by omega)), (show Mo w ww18 [.own 38 1 vv17 (i + 1) (c32 (rtsK L false (i + 1))), .own 34 1 u1 8 (c64 L)] from mm20.pick [1, 2] (by decide) ⟨rfl, rfl, trivial⟩)⟩, (show 8 - (i + 1) < 8 - i by omega)⟩
  · -- behind the loop
    obtain rfl : i = 8 := by omega
    refine sq ?_
    refine sq ?_
    refine cz [(1, u1), (2, u2), (3, .int .i64 8)] ⟨rfl, rfl, rfl, trivial⟩ (fun _ => ?_)
    refine rp [0, 0] ?_
    refine k0 (wt_none rfl _) rfl (.int .i64 8) (fun _ _ => exec_move (.tmp 3) (.inl rfl) _ rfl) ?_
    refine k0 (wt_none rfl _) rfl (.bool false) (fun _ _ => x_lss_f (.tmp 6) (.const (.int .i64 8)) _ _ rfl 8 8 .i64 (by omega) rfl rfl) ?_
    refine kend ?_
    refine th_n ?_
    refine cdf rfl ?_
    refine ex ?_
    refine th_x ?_
    refine th_x ?_
    refine ib_x ?_
    refine th_n ?_
    refine sq ?_
    refine cz [(1, u1), (2, u2), (3, .int .i64 8), (7, .bool false)] ⟨rfl, rfl, rfl, rfl, trivial⟩ (fun _ => ?_)
    refine rp [0, 0] ?_
    refine k0 (wt_none rfl _) rfl (u2) (fun _ _ => exec_move (.tmp 2) (.inl rfl) _ rfl) ?_
    refine k0 (wt_none rfl _) rfl (u2) (fun _ _ => exec_move (.tmp 18) (.inr rfl) _ rfl) ?_
    refine kend ?_
    refine th_n ?_
    refine re ?_
    refine rt1 rfl ?_
    have h : Mo w ww9 [.own 38 1 u2 8 (c32 (rtsK L false 8))] := mm8.pick [0] (by decide) ⟨rfl, trivial⟩
    rw [hR] at h
    exact ⟨u2, rfl, h⟩

set_option maxHeartbeats 1000000 in
theorem right_doc (w : World) :
    Calls Tryd.prog 21 #[] w fun e w' => e = .returned (.bool true) ∧ Below w.heap.size w w' := by
  have m0 := Mo.start w
  refine enter [] 67 Tryd.func21 rfl Tryd.ntmps21 (Nat.le_of_ble_eq_true rfl) ?_
  refine sq ?_
  refine cz [] trivial (fun _ => ?_)
  refine rp [0] ?_
  refine k0 (wt_none rfl _) rfl (.bool false) (fun _ _ => exec_move (.const (.bool false)) (.inr rfl) _ rfl) ?_
  refine kend ?_
  refine th_n ?_
  refine sq ?_
  refine cz [(0, .bool false)] ⟨rfl, trivial⟩ (fun _ => ?_)
  refine rp [2, 2, 0, 0] ?_
  refine kc (wt_none rfl _) rfl (x_cl0 rfl (by kernel_rfl)) (steps_reckoned _) ?_
  rintro _ ww1 ⟨vv3, rfl, mm2⟩
  have mm4 : Mo w ww1 [.own 38 1 vv3 64 (c32 stepsL)] := m0.join mm2
  refine ⟨_, rfl, trivial, ?_⟩
  refine kc (wt_none rfl _) rfl (x_cl0 rfl (by kernel_rfl)) (steps_doc _) ?_
  rintro _ ww5 ⟨vv7, rfl, mm6⟩
  have mm8 : Mo w ww5 [.own 38 1 vv7 64 (c32 stepsL), .own 38 1 vv3 64 (c32 stepsL)] := mm4.join mm6
  refine ⟨_, rfl, trivial, ?_⟩
  refine k0 (wt_none rfl _) rfl (vv3) (fun _ _ => exec_move (.tmp 5) (.inr rfl) _ rfl) ?_
  refine k0 (wt_none rfl _) rfl (vv7) (fun _ _ => exec_move (.tmp 6) (.inr rfl) _ rfl) ?_
  refine kend ?_
  refine th_n ?_
  refine sq ?_
  refine sq ?_
  refine cz [(0, .bool false), (1, vv3), (2, vv7)] ⟨rfl, rfl, rfl, trivial⟩ (fun _ => ?_)
  refine rp [0] ?_
  refine k0 (wt_none rfl _) rfl (.int .i64 0) (fun _ _ => exec_move (.const (.int .i64 0)) (.inr rfl) _ rfl) ?_
  refine kend ?_
  refine th_n ?_
  refine bk ?_
  refine lp (fun (xs : Nat × Value × Value) => [(1, xs.2.1), (2, xs.2.2), (3, .int .i64 ((xs.1 : Nat) : Int))]) (fun (xs : Nat × Value × Value) w1 => (xs.1 ≤ 64) ∧ Mo w w1 [.own 38 1 xs.2.2 64 (c32 stepsL), .own 38 1 xs.2.1 64 (c32 stepsL)]) (fun (xs : Nat × Value × Value) => 64 - xs.1) (⟨0, vv3, vv7⟩) ⟨rfl, rfl, rfl, trivial⟩ ⟨(show 0 ≤ 64 from (Nat.zero_le _)), (show Mo w ww5 [.own 38 1 vv7 64 (c32 stepsL), .own 38 1 vv3 64 (c32 stepsL)] from mm8)⟩ ?_
  rintro ⟨i, u1, u2⟩ _ ww10 ⟨hh11, mm9⟩
  replace hh11 : i ≤ 64 := hh11
  replace mm9 : Mo w ww10 [.own 38 1 u2 64 (c32 stepsL), .own 38 1 u1 64 (c32 stepsL)] := mm9
  refine cz [(1, u1), (2, u2), (3, .int .i64 ((i : Nat) : Int))] ⟨rfl, rfl, rfl, trivial⟩ (fun _ => ?_)
  by_cases hlt : i < 64
  · -- round
    refine sq ?_
    refine sq ?_
    refine cz [(1, u1), (2, u2), (3, .int .i64 ((i : Nat) : Int))] ⟨rfl, rfl, rfl, trivial⟩ (fun _ => ?_)
    refine rp [0, 0] ?_
    refine k0 (wt_none rfl _) rfl (.int .i64 ((i : Nat) : Int)) (fun _ _ => exec_move (.tmp 3) (.inl rfl) _ rfl) ?_
    refine k0 (wt_none rfl _) rfl (.bool true) (fun _ _ => x_lss_t (.tmp 7) (.const (.int .i64 64)) _ _ rfl i 64 .i64 (by omega) rfl rfl) ?_
    refine kend ?_
    refine th_n ?_
    refine cdt rfl ?_
    refine sk ?_
    refine th_n ?_
    refine sq ?_
    refine bk ?_
    refine sq ?_
    refine cz [(1, u1), (2, u2), (3, .int .i64 ((i : Nat) : Int)), (8, .bool true)] ⟨rfl, rfl, rfl, rfl, trivial⟩ (fun _ => ?_)
    have mm13 := mm9.drew
    refine rq (fun w1 => Mo w w1 [.own 38 1 u2 64 (c32 stepsL), .own 38 1 u1 64 (c32 stepsL)]) [0, 0, 0, 0, 0, 0, 0, 0, 0] (by kernel_rfl) (by kernel_rfl) (by kernel_rfl) (mm13.sub (List.Sublist.cons_cons _ (List.Sublist.cons_cons _ List.Sublist.slnil))) ?_
    refine k0 (wt_none rfl _) rfl (u1) (fun _ _ => exec_move (.tmp 1) (.inl rfl) _ rfl) ?_
    refine k0 (wt_none rfl _) rfl (.int .i64 ((i : Nat) : Int)) (fun _ _ => exec_move (.tmp 3) (.inl rfl) _ rfl) ?_
    refine k0 (wt_none rfl _) rfl (eP u1 i) (fun _ hC => x_ep Tryd.sn (.tmp 11) (.tmp 12) rfl (hC.rc 1 rfl) i .i64 i (Nat.mul_one _) (by omega) rfl _ rfl rfl) ?_
    refine k0 (wt_none rfl _) rfl (.int .u32 ((at32 stepsL i : Nat) : Int)) (fun _ hC => x_ldp Tryd.u32 (.tmp 13) rfl (hC.rc 1 rfl) i (by omega) _ (c32_get (by rw [stepsL_length]; omega)) rfl) ?_
    refine k0 (wt_none rfl _) rfl (u2) (fun _ _ => exec_move (.tmp 2) (.inl rfl) _ rfl) ?_
    refine k0 (wt_none rfl _) rfl (.int .i64 ((i : Nat) : Int)) (fun _ _ => exec_move (.tmp 3) (.inl rfl) _ rfl) ?_
    refine k0 (wt_none rfl _) rfl (eP u2 i) (fun _ hC => x_ep Tryd.sn (.tmp 15) (.tmp 16) rfl (hC.rc 0 rfl) i .i64 i (Nat.mul_one _) (by omega) rfl _ rfl rfl) ?_
    refine k0 (wt_none rfl _) rfl (.int .u32 ((at32 stepsL i : Nat) : Int)) (fun _ hC => x_ldp Tryd.u32 (.tmp 17) rfl (hC.rc 0 rfl) i (by omega) _ (c32_get (by rw [stepsL_length]; omega)) rfl) ?_
    refine k0 (wt_none rfl _) rfl (.bool false) (fun _ _ => x_neq_f (.tmp 14) (.tmp 18) _ _ rfl (at32 stepsL i) (at32 stepsL i) .u32 rfl rfl rfl) ?_
    refine kend ?_
    refine th_n ?_
    refine cdf rfl ?_
    refine sk ?_
    refine ib_n ?_
    refine th_n ?_
    refine cz [(1, u1), (2, u2), (3, .int .i64 ((i : Nat) : Int)), (8, .bool true), (19, .bool false)] ⟨rfl, rfl, rfl, rfl, rfl, trivial⟩ (fun _ => ?_)
    refine rp [0, 0, 0] ?_
    refine k0 (wt_none rfl _) rfl (.int .i64 ((i : Nat) : Int)) (fun _ _ => exec_move (.tmp 3) (.inl rfl) _ rfl) ?_
    refine k0 (wt_none rfl _) rfl (.int .i64 ((i + 1 : Nat) : Int)) (fun _ _ => x_add (.tmp 9) (.const (.int .i64 1)) _ _ rfl i 1 (i + 1) .i64 (by exact ⟨by omega, (show _ < 9223372036854775808 by omega)⟩) rfl rfl) ?_
    refine k0 (wt_none rfl _) rfl (.int .i64 ((i + 1 : Nat) : Int)) (fun _ _ => exec_move (.tmp 10) (.inr rfl) _ rfl) ?_
    refine kend ?_
    refine th_n ?_
    exact ⟨_, (⟨i + 1, u1, u2⟩ : Nat × Value × Value), rfl, ⟨rfl, rfl, rfl, trivial⟩, ⟨(show (i + 1) ≤ 64 from (by omega)), (show Mo w (ww10.drewN 1) [.own 38 1 u2 64 (c32 stepsL), .own 38 1 u1 64 (c32 stepsL)] from mm13)⟩, (show 64 - (i + 1) < 64 - i by omega)⟩
  · -- behind the loop
    refine sq ?_
    refine sq ?_
    refine cz [(1, u1), (2, u2), (3, .int .i64 ((i : Nat) : Int))] ⟨rfl, rfl, rfl, trivial⟩ (fun _ => ?_)
    refine rp [0, 0] ?_
    refine k0 (wt_none rfl _) rfl (.int .i64 ((i : Nat) : Int)) (fun _ _ => exec_move (.tmp 3) (.inl rfl) _ rfl) ?_
    refine k0 (wt_none rfl _) rfl (.bool false) (fun _ _ => x_lss_f (.tmp 7) (.const (.int .i64 64)) _ _ rfl i 64 .i64 (by omega) rfl rfl) ?_
    refine kend ?_
    refine th_n ?_
    refine cdf rfl ?_
    refine ex ?_
    refine th_x ?_
    refine th_x ?_
    refine ib_x ?_
    refine th_n ?_
    refine sq ?_
    refine cz [(1, u1), (2, u2), (3, .int .i64 ((i : Nat) : Int)), (8, .bool false)] ⟨rfl, rfl, rfl, rfl, trivial⟩ (fun _ => ?_)
    refine rp [2, 0] ?_
    refine kc (wt_none rfl _) rfl (x_cl0 rfl (by kernel_rfl)) (firsts_reckoned _) ?_
    rintro _ ww14 ⟨vv16, rfl, mm15⟩
    have mm17 : Mo w ww14 [.own 38 1 vv16 8 (c32 firstL), .own 38 1 u2 64 (c32 stepsL), .own 38 1 u1 64 (c32 stepsL)] := mm9.join mm15
    refine ⟨_, rfl, trivial, ?_⟩
    refine k0 (wt_none rfl _) rfl (vv16) (fun _ _ => exec_move (.tmp 20) (.inr rfl) _ rfl) ?_
    refine kend ?_
    refine th_n ?_
    refine sq ?_
    refine cz [(1, u1), (2, u2), (3, .int .i64 ((i : Nat) : Int)), (4, vv16), (8, .bool false)] ⟨rfl, rfl, rfl, rfl, rfl, trivial⟩ (fun _ => ?_)
    refine rp [0, 1, 1, 0, 0, 0, 1, 1, 0, 0, 0, 0, 1, 1, 0, 0, 0, 0, 1, 1, 0, 0, 0, 0, 1, 1, 0, 0, 0, 0, 1, 1, 0, 0, 0, 0, 1, 1, 0, 0, 0, 0, 1, 1, 0, 0, 0] ?_
    refine k0 (wt_none rfl _) rfl (vv16) (fun _ _ => exec_move (.tmp 4) (.inl rfl) _ rfl) ?_
    refine k1 (wt_none rfl _) rfl (eP vv16 0) (x_ep Tryd.sn (.tmp 21) (.const (.int .i64 0)) rfl (mm17.rc 0 rfl) 0 .i64 0 (Nat.mul_one _) (by omega) rfl _ rfl rfl) ?_
    refine k1 (wt_none rfl _) rfl (.int .u32 1779033703) (x_ldp Tryd.u32 (.tmp 22) rfl (mm17.rc 0 rfl) 0 (by omega) _ (c32_get (by decide)) rfl) ?_
    refine k0 (wt_none rfl _) rfl (.bool true) (fun _ _ => x_eql_t (.tmp 23) (.const (.int .u32 1779033703)) _ _ rfl 1779033703 1779033703 .u32 (by omega) rfl rfl) ?_
    refine k0 (wt_none rfl _) rfl (.bool true) (fun _ _ => exec_move (.tmp 24) (.inl rfl) _ rfl) ?_
    refine k0 (wt_some rfl rfl rfl rfl) rfl (vv16) (fun _ _ => exec_move (.tmp 4) (.inl rfl) _ rfl) ?_
    refine k1 (wt_some rfl rfl rfl rfl) rfl (eP vv16 1) (x_ep Tryd.sn (.tmp 26) (.const (.int .i64 1)) rfl (mm17.rc 0 rfl) 1 .i64 1 (Nat.mul_one _) (by omega) rfl _ rfl rfl) ?_
    refine k1 (wt_some rfl rfl rfl rfl) rfl (.int .u32 3144134277) (x_ldp Tryd.u32 (.tmp 27) rfl (mm17.rc 0 rfl) 1 (by omega) _ (c32_get (by decide)) rfl) ?_
    refine k0 (wt_some rfl rfl rfl rfl) rfl (.bool true) (fun _ _ => x_eql_t (.tmp 28) (.const (.int .u32 3144134277)) _ _ rfl 3144134277 3144134277 .u32 (by omega) rfl rfl) ?_
    refine k0 (wt_none rfl _) rfl (.bool true) (fun _ _ => x_pick (.tmp 25) (.tmp 29) (.const (.bool false)) rfl true _ rfl rfl) ?_
    refine k0 (wt_none rfl _) rfl (.bool true) (fun _ _ => exec_move (.tmp 30) (.inl rfl) _ rfl) ?_
    refine k0 (wt_some rfl rfl rfl rfl) rfl (vv16) (fun _ _ => exec_move (.tmp 4) (.inl rfl) _ rfl) ?_
    refine k1 (wt_some rfl rfl rfl rfl) rfl (eP vv16 2) (x_ep Tryd.sn (.tmp 32) (.const (.int .i64 2)) rfl (mm17.rc 0 rfl) 2 .i64 2 (Nat.mul_one _) (by omega) rfl _ rfl rfl) ?_
    refine k1 (wt_some rfl rfl rfl rfl) rfl (.int .u32 1013904242) (x_ldp Tryd.u32 (.tmp 33) rfl (mm17.rc 0 rfl) 2 (by omega) _ (c32_get (by decide)) rfl) ?_
    refine k0 (wt_some rfl rfl rfl rfl) rfl (.bool true) (fun _ _ => x_eql_t (.tmp 34) (.const (.int .u32 1013904242)) _ _ rfl 1013904242 1013904242 .u32 (by omega) rfl rfl) ?_
    refine k0 (wt_none rfl _) rfl (.bool true) (fun _ _ => x_pick (.tmp 31) (.tmp 35) (.const (.bool false)) rfl true _ rfl rfl) ?_
    refine k0 (wt_none rfl _) rfl (.bool true) (fun _ _ => exec_move (.tmp 36) (.inl rfl) _ rfl) ?_
    refine k0 (wt_some rfl rfl rfl rfl) rfl (vv16) (fun _ _ => exec_move (.tmp 4) (.inl rfl) _ rfl) ?_
    refine k1 (wt_some rfl rfl rfl rfl) rfl (eP vv16 3) (x_ep Tryd.sn (.tmp 38) (.const (.int .i64 3)) rfl (mm17.rc 0 rfl) 3 .i64 3 (Nat.mul_one _) (by omega) rfl _ rfl rfl) ?_
    refine k1 (wt_some rfl rfl rfl rfl) rfl (.int .u32 2773480762) (x_ldp Tryd.u32 (.tmp 39) rfl (mm17.rc 0 rfl) 3 (by omega) _ (c32_get (by decide)) rfl) ?_
    refine k0 (wt_some rfl rfl rfl rfl) rfl (.bool true) (fun _ _ => x_eql_t (.tmp 40) (.const (.int .u32 2773480762)) _ _ rfl 2773480762 2773480762 .u32 (by omega) rfl rfl) ?_
    refine k0 (wt_none rfl _) rfl (.bool true) (fun _ _ => x_pick (.tmp 37) (.tmp 41) (.const (.bool false)) rfl true _ rfl rfl) ?_
    refine k0 (wt_none rfl _) rfl (.bool true) (fun _ _ => exec_move (.tmp 42) (.inl rfl) _ rfl) ?_
    refine k0 (wt_some rfl rfl rfl rfl) rfl (vv16) (fun _ _ => exec_move (.tmp 4) (.inl rfl) _ rfl) ?_
    refine k1 (wt_some rfl rfl rfl rfl) rfl (eP vv16 4) (x_ep Tryd.sn (.tmp 44) (.const (.int .i64 4)) rfl (mm17.rc 0 rfl) 4 .i64 4 (Nat.mul_one _) (by omega) rfl _ rfl rfl) ?_
    refine k1 (wt_some rfl rfl rfl rfl) rfl (.int .u32 1359893119) (x_ldp Tryd.u32 (.tmp 45) rfl (mm17.rc 0 rfl) 4 (by omega) _ (c32_get (by decide)) rfl) ?_
    refine k0 (wt_some rfl rfl rfl rfl) rfl (.bool true) (fun _ _ => x_eql_t (.tmp 46) (.const (.int .u32 1359893119)) _ _ rfl 1359893119 1359893119 .u32 (by omega) rfl rfl) ?_
    refine k0 (wt_none rfl _) rfl (.bool true) (fun _ _ => x_pick (.tmp 43) (.tmp 47) (.const (.bool false)) rfl true _ rfl rfl) ?_
    refine k0 (wt_none rfl _) rfl (.bool true) (fun _ _ => exec_move (.tmp 48) (.inl rfl) _ rfl) ?_
    refine k0 (wt_some rfl rfl rfl rfl) rfl (vv16) (fun _ _ => exec_move (.tmp 4) (.inl rfl) _ rfl) ?_
    refine k1 (wt_some rfl rfl rfl rfl) rfl (eP vv16 5) (x_ep Tryd.sn (.tmp 50) (.const (.int .i64 5)) rfl (mm17.rc 0 rfl) 5 .i64 5 (Nat.mul_one _) (by omega) rfl _ rfl rfl) ?_
    refine k1 (wt_some rfl rfl rfl rfl) rfl (.int .u32 2600822924) (x_ldp Tryd.u32 (.tmp 51) rfl (mm17.rc 0 rfl) 5 (by omega) _ (c32_get (by decide)) rfl) ?_
    refine k0 (wt_some rfl rfl rfl rfl) rfl (.bool true) (fun _ _ => x_eql_t (.tmp 52) (.const (.int .u32 2600822924)) _ _ rfl 2600822924 2600822924 .u32 (by omega) rfl rfl) ?_
    refine k0 (wt_none rfl _) rfl (.bool true) (fun _ _ => x_pick (.tmp 49) (.tmp 53) (.const (.bool false)) rfl true _ rfl rfl) ?_
    refine k0 (wt_none rfl _) rfl (.bool true) (fun _ _ => exec_move (.tmp 54) (.inl rfl) _ rfl) ?_
    refine k0 (wt_some rfl rfl rfl rfl) rfl (vv16) (fun _ _ => exec_move (.tmp 4) (.inl rfl) _ rfl) ?_
    refine k1 (wt_some rfl rfl rfl rfl) rfl (eP vv16 6) (x_ep Tryd.sn (.tmp 56) (.const (.int .i64 6)) rfl (mm17.rc 0 rfl) 6 .i64 6 (Nat.mul_one _) (by omega) rfl _ rfl rfl) ?_
    refine k1 (wt_some rfl rfl rfl rfl) rfl (.int .u32 528734635) (x_ldp Tryd.u32 (.tmp 57) rfl (mm17.rc 0 rfl) 6 (by omega) _ (c32_get (by decide)) rfl) ?_
    refine k0 (wt_some rfl rfl rfl rfl) rfl (.bool true) (fun _ _ => x_eql_t (.tmp 58) (.const (.int .u32 528734635)) _ _ rfl 528734635 528734635 .u32 (by omega) rfl rfl) ?_
    refine k0 (wt_none rfl _) rfl (.bool true) (fun _ _ => x_pick (.tmp 55) (.tmp 59) (.const (.bool false)) rfl true _ rfl rfl) ?_
    refine k0 (wt_none rfl _) rfl (.bool true) (fun _ _ => exec_move (.tmp 60) (.inl rfl) _ rfl) ?_
    refine k0 (wt_some rfl rfl rfl rfl) rfl (vv16) (fun _ _ => exec_move (.tmp 4) (.inl rfl) _ rfl) ?_
    refine k1 (wt_some rfl rfl rfl rfl) rfl (eP vv16 7) (x_ep Tryd.sn (.tmp 62) (.const (.int .i64 7)) rfl (mm17.rc 0 rfl) 7 .i64 7 (Nat.mul_one _) (by omega) rfl _ rfl rfl) ?_
    refine k1 (wt_some rfl rfl rfl rfl) rfl (.int .u32 1541459225) (x_ldp Tryd.u32 (.tmp 63) rfl (mm17.rc 0 rfl) 7 (by omega) _ (c32_get (by decide)) rfl) ?_
    refine k0 (wt_some rfl rfl rfl rfl) rfl (.bool true) (fun _ _ => x_eql_t (.tmp 64) (.const (.int .u32 1541459225)) _ _ rfl 1541459225 1541459225 .u32 (by omega) rfl rfl) ?_
    refine k0 (wt_none rfl _) rfl (.bool true) (fun _ _ => x_pick (.tmp 61) (.tmp 65) (.const (.bool false)) rfl true _ rfl rfl) ?_
    refine k0 (wt_none rfl _) rfl (.bool true) (fun _ _ => exec_move (.tmp 66) (.inr rfl) _ rfl) ?_
    refine kend ?_
    refine th_n ?_
    refine re ?_
    refine rt1 rfl ?_
    exact ⟨rfl, mm17.below⟩

end Go.Proofs.YtkgenageeiaacaaDoor
